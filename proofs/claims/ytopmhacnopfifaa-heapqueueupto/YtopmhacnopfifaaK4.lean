import Derived.Test.YtopmhacnopfifaaK3
namespace Go.Proofs.Ytopmhacnopfifaa.tm
open Go.ChangeShapes Go.WideShapes Go.ChangeAt Go.RowKit
set_option linter.unusedVariables false
set_option linter.unusedSimpArgs false
def con (b1 a1 b2 a2 b3 a3 : Bool) : Bool := (!a1 || b1) && ((!a2 || (b2 && a1)) && (!a3 || (b3 && a2)))
def rdyAll (b1 a1 b2 a2 b3 a3 : Bool) : List Nat := if a3 then [17] else rdy b1 a1 b2 a2 b3 a3
def leftN (b1 a1 b2 a2 b3 a3 : Bool) : Nat := (!b1).toNat + (!a1).toNat + (!b2).toNat + (!a2).toNat + (!b3).toNat + (!a3).toNat
structure Evs (a : Act) (b LB M : Nat) (hv : Value) (xc : Int) : Prop where
  sz : b + 19 ≤ a.tmps.size
  e0 : a.eval (.tmp b) = hv
  e1 : a.eval (.tmp (b + 1)) = .slice (some ⟨LB, 0, none⟩) M M
  e2 : a.eval (.tmp (b + 2)) = .slice (some ⟨LB, 0, none⟩) M M
  e3 : a.eval (.tmp (b + 3)) = .agg #[.int .i64 0, .int .i64 0, .int .i64 0, .int .i64 xc]
  e6 : a.eval (.tmp (b + 6)) = .slice (some ⟨LB, 0, none⟩) M M
  e7 : a.eval (.tmp (b + 7)) = .agg #[.int .i64 0, .int .i64 0, .int .i64 0, .int .i64 xc]
  e8 : a.eval (.tmp (b + 8)) = .agg #[.int .i64 0, .int .i64 0, .int .i64 0, .int .i64 xc]
  e11 : a.eval (.tmp (b + 11)) = .slice (some ⟨LB, 0, none⟩) M M
  e12 : a.eval (.tmp (b + 12)) = .agg #[.int .i64 0, .int .i64 0, .int .i64 0, .int .i64 xc]
  e13 : a.eval (.tmp (b + 13)) = .agg #[.int .i64 0, .int .i64 0, .int .i64 0, .int .i64 xc]
  e14 : a.eval (.tmp (b + 14)) = .agg #[.int .i64 0, .int .i64 0, .int .i64 0, .int .i64 xc]
theorem upf_ne (f : Nat → Value) (d : Nat) (v : Value) (k : Nat) (h : k ≠ d) : upf f d v k = f k := by simp [upf, h]
theorem upf_eq (f : Nat → Value) (d : Nat) (v : Value) : upf f d v d = v := by simp [upf]
theorem wp_grow {ops : Array Oper} {i d s x : Nat} {a : Act} {W : World} {Q : Exit → Act → World → Prop} {K : Act → World → Prop} (h : OpIs ops i d (apd 49 s x)) (xc : Int) (LB M m : Nat) (hs : a.eval (.tmp s) = .slice (some ⟨LB, 0, none⟩) M M) (ho : W.ownsRow 0 46 4 (.slice (some ⟨LB, 0, none⟩) M M) M (flat2 (alk M (mkE xc)))) (hm : 0 < m) (hn : M + m ≤ 3000000) (hb : Bd W (a.eval (.tmp x)) m xc)
    (hK : ∀ v W', Fl W' v (mkE xc) → Apart [] W W' → K (a.put (some d) v) W') : wpOp Try.prog ops Q i K a W := by
  obtain ⟨o, h1, h2, h3, h4⟩ := h.ex
  obtain ⟨sb, hv, hx⟩ := hb.ex
  refine wpOp_step h1 (fun K' hK' => ?_)
  refine step_grow h4 (.tmp s) (.tmp x) h3 (mkE xc) LB M m hs ho ⟨sb, 0, none⟩ m hv hm (hx W (Apart.refl _ _)) hn ?_
  intro v' w' f1 a1
  rw [h2]
  exact hK' _ _ (hK v' w' f1 a1)
theorem wp_build {ops : Array Oper} {i d m : Nat} {parts : Array (Nat × Operand)} {a : Act} {W : World} {Q : Exit → Act → World → Prop} {K : Act → World → Prop} (h : OpIs ops i d (.buildSlice 49 m parts)) (xc : Int) (hm : 0 < m) (hm3 : m ≤ 3)
    (hf : Instr.fill (fun i => some (i * 4, 4)) ((Array.range (m * 4)).map ((Value.agg #[.int .i64 0, .int .i64 0, .int .i64 0, .int .i64 0]).cells[· % (Value.agg #[.int .i64 0, .int .i64 0, .int .i64 0, .int .i64 0]).cells.size]!)) (parts.map fun (i, x) => (i, a.eval x)).toList = some (flat2 (alk m (mkE xc))).toArray)
    (hK : ∀ v W', Bd W' v m xc → Apart [] W W' → K (a.put (some d) v) W') : wpOp Try.prog ops Q i K a W := by
  obtain ⟨o, h1, h2, h3, h4⟩ := h.ex
  refine wpOp_step h1 (fun K' hK' => ?_)
  refine step_build h4 m parts h3 xc d h2 (fun ie _ _ _ => hf) hm hm3 ?_
  intro v W' f1 a1
  exact hK' _ _ (hK v W' f1 a1)
theorem fill1 (xc : Int) (A : Value) (hA : A = .agg #[.int .i64 0, .int .i64 0, .int .i64 0, .int .i64 xc]) : Instr.fill (fun i => some (i * 4, 4)) ((Array.range (1 * 4)).map ((Value.agg #[.int .i64 0, .int .i64 0, .int .i64 0, .int .i64 0]).cells[· % (Value.agg #[.int .i64 0, .int .i64 0, .int .i64 0, .int .i64 0]).cells.size]!)) [(0, A)] = some (flat2 (alk 1 (mkE xc))).toArray := by
  subst hA; kernel_rfl
theorem fill2 (xc : Int) (A B : Value) (hA : A = .agg #[.int .i64 0, .int .i64 0, .int .i64 0, .int .i64 xc]) (hB : B = .agg #[.int .i64 0, .int .i64 0, .int .i64 0, .int .i64 xc]) : Instr.fill (fun i => some (i * 4, 4)) ((Array.range (2 * 4)).map ((Value.agg #[.int .i64 0, .int .i64 0, .int .i64 0, .int .i64 0]).cells[· % (Value.agg #[.int .i64 0, .int .i64 0, .int .i64 0, .int .i64 0]).cells.size]!)) [(0, A), (1, B)] = some (flat2 (alk 2 (mkE xc))).toArray := by
  subst hA hB; kernel_rfl
theorem fill3 (xc : Int) (A B C : Value) (hA : A = .agg #[.int .i64 0, .int .i64 0, .int .i64 0, .int .i64 xc]) (hB : B = .agg #[.int .i64 0, .int .i64 0, .int .i64 0, .int .i64 xc]) (hC : C = .agg #[.int .i64 0, .int .i64 0, .int .i64 0, .int .i64 xc]) : Instr.fill (fun i => some (i * 4, 4)) ((Array.range (3 * 4)).map ((Value.agg #[.int .i64 0, .int .i64 0, .int .i64 0, .int .i64 0]).cells[· % (Value.agg #[.int .i64 0, .int .i64 0, .int .i64 0, .int .i64 0]).cells.size]!)) [(0, A), (1, B), (2, C)] = some (flat2 (alk 3 (mkE xc))).toArray := by
  subst hA hB hC; kernel_rfl
theorem fill4 (p1 p2 p3 p4 : Option Addr) (n1 n2 n3 n4 c1 c2 c3 c4 : Nat) : Instr.fill (fun i => some (i * 1, 1)) ((Array.range (4 * 1)).map ((Value.slice none 0 0).cells[· % (Value.slice none 0 0).cells.size]!)) [(0, .slice p1 n1 c1), (1, .slice p2 n2 c2), (2, .slice p3 n3 c3), (3, .slice p4 n4 c4)] = some #[.slice p1 n1 c1, .slice p2 n2 c2, .slice p3 n3 c3, .slice p4 n4 c4] := by
  kernel_rfl
section
variable {ops : Array Oper} {Q : Exit → Act → World → Prop} {V W0 : World} {hv : Value} {hs : List Value} {LB M b fuel : Nat} {xc : Int} {a : Act}
theorem chains_end (hc : Chains ops b) (ev : Evs a b LB M hv xc) (h17 : Region.ready .any ops (lst true true true true true true false false) = [17]) (h18 : Region.ready .any ops (lst true true true true true true true false) = [18])
    (HOH : W0.ownsRow 0 49 1 hv hs.length hs) (HFL : Fl W0 (.slice (some ⟨LB, 0, none⟩) M M) (mkE xc)) (HSL : hs.length ≤ 3000000)
    (fin : ∀ f W' hv' v1 v2 v3, f (b + 18) = hv' → HoldP V W' hv hv' hs (.slice (some ⟨LB, 0, none⟩) M M) v1 v2 v3 (mkE xc) → wpAnyH Try.prog .any ops Q (fun X => Apart hv.ownBlock.toList V X) fuel (lst true true true true true true true true) (Cx a (dsl b) f) W')
    (f : Nat → Value) (W : World) (st : St V W0 W f b hv xc true true true true true true) : wpAnyH Try.prog .any ops Q (fun X => Apart hv.ownBlock.toList V X) (fuel + 2) (lst true true true true true true false false) (Cx a (dsl b) f) W := by
  have hsz := ev.sz
  obtain ⟨n1, b1, c1, hv1, o1, hn1⟩ := (st.g1 rfl).ex
  obtain ⟨n2, b2, c2, hv2, o2, hn2⟩ := (st.g2 rfl).ex
  obtain ⟨n3, b3, c3, hv3, o3, hn3⟩ := (st.g3 rfl).ex
  refine wpAnyH_ready h17 (by simp) ?_
  intro i hi
  simp at hi; subst hi
  obtain ⟨o, k1, k2, k3, k4⟩ := hc.b4.ex
  refine wpOp_step k1 (fun K' hK' => ?_)
  rw [if_pos (wanted_of k4)]
  obtain ⟨ie, hi, hz0, hz1, hz2⟩ := info_parts info49
  have aB : Apart [] W (W.alloc (.cells #[.slice (some ⟨LB, 0, none⟩) M M, f (b + 5), f (b + 10), f (b + 16)] 49)) := (Apart.refl _ _).alloc _
  refine wp_buildSlice 63 49 4 _ k3 #[.slice (some ⟨LB, 0, none⟩) M M, f (b + 5), f (b + 10), f (b + 16)] ie _ Try.underlying63 hi hz0 (by rw [hz1]; decide) (by rw [hz1]; decide) ?_ ?_
  · rw [hz1]
    simp only [List.map_toArray, List.map_cons, List.map_nil]
    rw [Cx_out _ _ _ _ (by simp [dsl]), Cx_in _ _ _ (b + 5) (by simp [dsl]) (by omega), Cx_in _ _ _ (b + 10) (by simp [dsl]) (by omega), Cx_in _ _ _ (b + 16) (by simp [dsl]) (by omega), ev.e1, hv1, hv2, hv3]
    exact fill4 _ _ _ _ _ _ _ _ _ _ _ _
  refine hK' _ _ ⟨st.aS.trans (aB.mono (by simp)), ?_⟩
  rw [k2, Cx_put _ _ _ _ _ (by simp [dsl])]
  rw [show (lst true true true true true true false false).setIfInBounds 17 true = lst true true true true true true true false from rfl]
  have st2 := st.step aB
  have nb := new_cells W [.slice (some ⟨LB, 0, none⟩) M M, f (b + 5), f (b + 10), f (b + 16)] 49 (Apart.refl [] _)
  obtain ⟨s, hs'⟩ : ∃ s, W.heap.size = s := ⟨_, rfl⟩
  rw [hs'] at nb ⊢
  generalize hW2 : W.alloc (.cells #[.slice (some ⟨LB, 0, none⟩) M M, f (b + 5), f (b + 10), f (b + 16)] 49) = W2 at *
  refine wpAnyH_ready h18 (by simp) ?_
  intro i hi
  simp at hi; subst hi
  obtain ⟨o, q1, q2, q3, q4⟩ := hc.a4.ex
  refine wpOp_step q1 (fun K' hK' => ?_)
  have ownH := own_apart HOH st2.a0 (by simp)
  refine step_hold q4 (.tmp b) (.tmp (b + 17)) q3 hv hs [.slice (some ⟨LB, 0, none⟩) M M, f (b + 5), f (b + 10), f (b + 16)] ?_ ownH ⟨s, 0, none⟩ 4 ?_ rfl nb ?_ HSL ?_
  · rw [Cx_out _ _ _ _ (by simp [dsl])]; exact ev.e0
  · rw [Cx_in _ _ _ _ (by simp [dsl]) (by omega), upf_eq]
  · intro u hu
    rw [hv1, hv2, hv3] at hu
    simp at hu
    rcases hu with rfl | rfl | rfl | rfl <;> rfl
  · intro hv' W' own' gr' nw'
    have hE := hold_end st2.aS (HFL.kept0 st2.a0) (st2.g1 rfl) (st2.g2 rfl) (st2.g3 rfl) ownH own' gr' nw'
    refine hK' _ _ ⟨hE.ap, ?_⟩
    rw [q2, Cx_put _ _ _ _ _ (by simp [dsl])]
    exact fin _ _ hv' _ _ _ (upf_eq _ _ _) hE
theorem chains_all (hc : Chains ops b) (ev : Evs a b LB M hv xc) (hr : ∀ b1 a1 b2 a2 b3 a3, con b1 a1 b2 a2 b3 a3 = true → Region.ready .any ops (lst b1 a1 b2 a2 b3 a3 false false) = rdyAll b1 a1 b2 a2 b3 a3) (h18 : Region.ready .any ops (lst true true true true true true true false) = [18])
    (HOL : W0.ownsRow 0 46 4 (.slice (some ⟨LB, 0, none⟩) M M) M (flat2 (alk M (mkE xc)))) (HOH : W0.ownsRow 0 49 1 hv hs.length hs) (HFL : Fl W0 (.slice (some ⟨LB, 0, none⟩) M M) (mkE xc)) (HSL : hs.length ≤ 3000000) (hM : M ≤ 1000)
    (fin : ∀ f W' hv' v1 v2 v3, f (b + 18) = hv' → HoldP V W' hv hv' hs (.slice (some ⟨LB, 0, none⟩) M M) v1 v2 v3 (mkE xc) → wpAnyH Try.prog .any ops Q (fun X => Apart hv.ownBlock.toList V X) fuel (lst true true true true true true true true) (Cx a (dsl b) f) W') :
    ∀ (n : Nat) (f : Nat → Value) (W : World) (b1 a1 b2 a2 b3 a3 : Bool), con b1 a1 b2 a2 b3 a3 = true → leftN b1 a1 b2 a2 b3 a3 = n → St V W0 W f b hv xc b1 a1 b2 a2 b3 a3 → wpAnyH Try.prog .any ops Q (fun X => Apart hv.ownBlock.toList V X) (fuel + 2 + n) (lst b1 a1 b2 a2 b3 a3 false false) (Cx a (dsl b) f) W
  | 0, f, W, b1, a1, b2, a2, b3, a3, hcon, hn, st => by
    have : b1 = true ∧ a1 = true ∧ b2 = true ∧ a2 = true ∧ b3 = true ∧ a3 = true := by
      cases b1 <;> cases a1 <;> cases b2 <;> cases a2 <;> cases b3 <;> cases a3 <;> simp [leftN] at hn <;> simp
    obtain ⟨rfl, rfl, rfl, rfl, rfl, rfl⟩ := this
    exact chains_end hc ev (hr _ _ _ _ _ _ rfl) h18 HOH HFL HSL fin f W st
  | n + 1, f, W, b1, a1, b2, a2, b3, a3, hcon, hn, st => by
    have hsz := ev.sz
    have ih := chains_all hc ev hr h18 HOL HOH HFL HSL hM fin n
    have a3f : a3 = false := by
      cases a3 with
      | false => rfl
      | true => cases b1 <;> cases a1 <;> cases b2 <;> cases a2 <;> cases b3 <;> simp [con] at hcon <;> simp [leftN] at hn
    subst a3f
    have hown := own_apart HOL st.a0 (by simp)
    refine wpAnyH_ready (hr _ _ _ _ _ _ hcon) ?_ ?_
    · cases b1 <;> cases a1 <;> cases b2 <;> cases a2 <;> cases b3 <;> simp [con] at hcon <;> simp [rdyAll, rdy]
    intro i hi
    have hi' : (b1 = false ∧ i = 4) ∨ (b1 = true ∧ a1 = false ∧ i = 5) ∨ (b2 = false ∧ i = 9) ∨ (b2 = true ∧ a1 = true ∧ a2 = false ∧ i = 10) ∨ (b3 = false ∧ i = 15) ∨ (b3 = true ∧ a2 = true ∧ i = 16) := by
      cases b1 <;> cases a1 <;> cases b2 <;> cases a2 <;> cases b3 <;> simp [con] at hcon <;> simp [rdyAll, rdy] at hi <;> simp [hi] <;> omega
    clear hi
    rcases hi' with ⟨rfl, rfl⟩ | ⟨rfl, rfl, rfl⟩ | ⟨rfl, rfl⟩ | ⟨rfl, rfl, rfl, rfl⟩ | ⟨rfl, rfl⟩ | ⟨rfl, rfl, rfl⟩
    · refine wp_build hc.b1 xc (by decide) (by decide) (by simp only [List.map_toArray, List.map_cons, List.map_nil]; exact fill1 xc _ (by rw [Cx_out _ _ _ _ (by simp [dsl])]; exact ev.e3)) (fun v W' hb aW => ⟨st.aS.trans (aW.mono (by simp)), ?_⟩)
      rw [Cx_put _ _ _ _ _ (by simp [dsl])]
      have s := st.step aW
      refine ih (upf f (b + 4) v) W' true a1 b2 a2 b3 false ?_ ?_ ⟨s.aS, s.a0, fun _ => by rw [upf_eq]; exact hb, fun e => by rw [upf_ne _ _ _ _ (by omega)]; exact s.h2 e, fun e => by rw [upf_ne _ _ _ _ (by omega)]; exact s.h3 e, fun e => by rw [upf_ne _ _ _ _ (by omega)]; exact s.g1 e, fun e => by rw [upf_ne _ _ _ _ (by omega)]; exact s.g2 e, fun e => by cases e⟩
      · cases a1 <;> cases b2 <;> cases a2 <;> cases b3 <;> simp [con] at hcon ⊢
      · cases a1 <;> cases b2 <;> cases a2 <;> cases b3 <;> simp [leftN] at hn ⊢ <;> omega
    · refine wp_grow hc.a1 xc LB M 1 (by rw [Cx_out _ _ _ _ (by simp [dsl])]; exact ev.e2) hown (by decide) (by omega) (by rw [Cx_in _ _ _ _ (by simp [dsl]) (by omega)]; exact st.h1 rfl) (fun v W' hb aW => ⟨st.aS.trans (aW.mono (by simp)), ?_⟩)
      rw [Cx_put _ _ _ _ _ (by simp [dsl])]
      have s := st.step aW
      refine ih (upf f (b + 5) v) W' true true b2 a2 b3 false ?_ ?_ ⟨s.aS, s.a0, fun e => by rw [upf_ne _ _ _ _ (by omega)]; exact s.h1 e, fun e => by rw [upf_ne _ _ _ _ (by omega)]; exact s.h2 e, fun e => by rw [upf_ne _ _ _ _ (by omega)]; exact s.h3 e, fun _ => by rw [upf_eq]; exact hb, fun e => by rw [upf_ne _ _ _ _ (by omega)]; exact s.g2 e, fun e => by cases e⟩
      · cases b2 <;> cases a2 <;> cases b3 <;> simp [con] at hcon ⊢
      · cases b2 <;> cases a2 <;> cases b3 <;> simp [leftN] at hn ⊢ <;> omega
    · refine wp_build hc.b2 xc (by decide) (by decide) (by simp only [List.map_toArray, List.map_cons, List.map_nil]; exact fill2 xc _ _ (by rw [Cx_out _ _ _ _ (by simp [dsl])]; exact ev.e7) (by rw [Cx_out _ _ _ _ (by simp [dsl])]; exact ev.e8)) (fun v W' hb aW => ⟨st.aS.trans (aW.mono (by simp)), ?_⟩)
      rw [Cx_put _ _ _ _ _ (by simp [dsl])]
      have s := st.step aW
      refine ih (upf f (b + 9) v) W' b1 a1 true a2 b3 false ?_ ?_ ⟨s.aS, s.a0, fun e => by rw [upf_ne _ _ _ _ (by omega)]; exact s.h1 e, fun _ => by rw [upf_eq]; exact hb, fun e => by rw [upf_ne _ _ _ _ (by omega)]; exact s.h3 e, fun e => by rw [upf_ne _ _ _ _ (by omega)]; exact s.g1 e, fun e => by rw [upf_ne _ _ _ _ (by omega)]; exact s.g2 e, fun e => by cases e⟩
      · cases b1 <;> cases a1 <;> cases a2 <;> cases b3 <;> simp [con] at hcon ⊢
      · cases b1 <;> cases a1 <;> cases a2 <;> cases b3 <;> simp [leftN] at hn ⊢ <;> omega
    · refine wp_grow hc.a2 xc LB M 2 (by rw [Cx_out _ _ _ _ (by simp [dsl])]; exact ev.e6) hown (by decide) (by omega) (by rw [Cx_in _ _ _ _ (by simp [dsl]) (by omega)]; exact st.h2 rfl) (fun v W' hb aW => ⟨st.aS.trans (aW.mono (by simp)), ?_⟩)
      rw [Cx_put _ _ _ _ _ (by simp [dsl])]
      have s := st.step aW
      refine ih (upf f (b + 10) v) W' b1 true true true b3 false ?_ ?_ ⟨s.aS, s.a0, fun e => by rw [upf_ne _ _ _ _ (by omega)]; exact s.h1 e, fun e => by rw [upf_ne _ _ _ _ (by omega)]; exact s.h2 e, fun e => by rw [upf_ne _ _ _ _ (by omega)]; exact s.h3 e, fun e => by rw [upf_ne _ _ _ _ (by omega)]; exact s.g1 e, fun _ => by rw [upf_eq]; exact hb, fun e => by cases e⟩
      · cases b1 <;> cases b3 <;> simp [con] at hcon ⊢
      · cases b1 <;> cases b3 <;> simp [leftN] at hn ⊢ <;> omega
    · refine wp_build hc.b3 xc (by decide) (by decide) (by simp only [List.map_toArray, List.map_cons, List.map_nil]; exact fill3 xc _ _ _ (by rw [Cx_out _ _ _ _ (by simp [dsl])]; exact ev.e12) (by rw [Cx_out _ _ _ _ (by simp [dsl])]; exact ev.e13) (by rw [Cx_out _ _ _ _ (by simp [dsl])]; exact ev.e14)) (fun v W' hb aW => ⟨st.aS.trans (aW.mono (by simp)), ?_⟩)
      rw [Cx_put _ _ _ _ _ (by simp [dsl])]
      have s := st.step aW
      refine ih (upf f (b + 15) v) W' b1 a1 b2 a2 true false ?_ ?_ ⟨s.aS, s.a0, fun e => by rw [upf_ne _ _ _ _ (by omega)]; exact s.h1 e, fun e => by rw [upf_ne _ _ _ _ (by omega)]; exact s.h2 e, fun _ => by rw [upf_eq]; exact hb, fun e => by rw [upf_ne _ _ _ _ (by omega)]; exact s.g1 e, fun e => by rw [upf_ne _ _ _ _ (by omega)]; exact s.g2 e, fun e => by cases e⟩
      · cases b1 <;> cases a1 <;> cases b2 <;> cases a2 <;> simp [con] at hcon ⊢
      · cases b1 <;> cases a1 <;> cases b2 <;> cases a2 <;> simp [leftN] at hn ⊢ <;> omega
    · refine wp_grow hc.a3 xc LB M 3 (by rw [Cx_out _ _ _ _ (by simp [dsl])]; exact ev.e11) hown (by decide) (by omega) (by rw [Cx_in _ _ _ _ (by simp [dsl]) (by omega)]; exact st.h3 rfl) (fun v W' hb aW => ⟨st.aS.trans (aW.mono (by simp)), ?_⟩)
      rw [Cx_put _ _ _ _ _ (by simp [dsl])]
      have s := st.step aW
      refine ih (upf f (b + 16) v) W' b1 a1 b2 true true true ?_ ?_ ⟨s.aS, s.a0, fun e => by rw [upf_ne _ _ _ _ (by omega)]; exact s.h1 e, fun e => by rw [upf_ne _ _ _ _ (by omega)]; exact s.h2 e, fun e => by rw [upf_ne _ _ _ _ (by omega)]; exact s.h3 e, fun e => by rw [upf_ne _ _ _ _ (by omega)]; exact s.g1 e, fun e => by rw [upf_ne _ _ _ _ (by omega)]; exact s.g2 e, fun _ => by rw [upf_eq]; exact hb⟩
      · cases b1 <;> cases a1 <;> cases b2 <;> simp [con] at hcon ⊢
      · cases b1 <;> cases a1 <;> cases b2 <;> simp [leftN] at hn ⊢ <;> omega
theorem chains_start (hc : Chains ops b) (ev : Evs a b LB M hv xc) (hr : ∀ b1 a1 b2 a2 b3 a3, con b1 a1 b2 a2 b3 a3 = true → Region.ready .any ops (lst b1 a1 b2 a2 b3 a3 false false) = rdyAll b1 a1 b2 a2 b3 a3) (h18 : Region.ready .any ops (lst true true true true true true true false) = [18])
    (aS : Apart hv.ownBlock.toList V W0) (HOL : W0.ownsRow 0 46 4 (.slice (some ⟨LB, 0, none⟩) M M) M (flat2 (alk M (mkE xc)))) (HOH : W0.ownsRow 0 49 1 hv hs.length hs) (HFL : Fl W0 (.slice (some ⟨LB, 0, none⟩) M M) (mkE xc)) (HSL : hs.length ≤ 3000000) (hM : M ≤ 1000) (listed : Array Bool) (hl : listed = lst false false false false false false false false)
    (fin : ∀ (f : Nat → Value) (W' : World) (v1 v2 v3 : Value), HoldP V W' hv (f (b + 18)) hs (.slice (some ⟨LB, 0, none⟩) M M) v1 v2 v3 (mkE xc) → wpAnyH Try.prog .any ops Q (fun X => Apart hv.ownBlock.toList V X) fuel (lst true true true true true true true true) ((((((((a.put (some (b + 4)) (f (b + 4))).put (some (b + 5)) (f (b + 5))).put (some (b + 9)) (f (b + 9))).put (some (b + 10)) (f (b + 10))).put (some (b + 15)) (f (b + 15))).put (some (b + 16)) (f (b + 16))).put (some (b + 17)) (f (b + 17))).put (some (b + 18)) (f (b + 18))) W') :
    wpAnyH Try.prog .any ops Q (fun X => Apart hv.ownBlock.toList V X) (fuel + 2 + 6) listed a W0 := by
  have := chains_all hc ev hr h18 HOL HOH HFL HSL hM (fun f W' hv' v1 v2 v3 hf hp => by
    have h := fin f W' v1 v2 v3 (by rw [hf]; exact hp)
    rw [dsl, Cx_cons, Cx_cons, Cx_cons, Cx_cons, Cx_cons, Cx_cons, Cx_cons, Cx_cons, Cx_nil]
    exact h) 6 (fun i => a.tmps.getD i undef) W0 false false false false false false rfl rfl ⟨aS, Apart.refl _ _, (fun e => by cases e), (fun e => by cases e), (fun e => by cases e), (fun e => by cases e), (fun e => by cases e), (fun e => by cases e)⟩
  rw [Cx_self] at this
  rw [hl]
  exact this
end
end Go.Proofs.Ytopmhacnopfifaa.tm
