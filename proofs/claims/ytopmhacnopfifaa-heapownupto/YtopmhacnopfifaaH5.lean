import Derived.Test.YtopmhacnopfifaaH4
namespace Go.Proofs.Ytopmhacnopfifaa.hp
open Go.ChangeShapes Go.WideShapes Go.ChangeAt Go.RowKit
set_option linter.unusedVariables false
set_option linter.unusedSimpArgs false
structure Chains2 (ops : Array Oper) (b : Nat) : Prop where
  b2 : OpIs ops 6 (b + 6) (.buildSlice 35 2 #[(0, .tmp (b + 4)), (1, .tmp (b + 5))])
  b3 : OpIs ops 12 (b + 12) (.buildSlice 35 3 #[(0, .tmp (b + 9)), (1, .tmp (b + 10)), (2, .tmp (b + 11))])
  a2 : OpIs ops 7 (b + 7) (apd 35 (b + 3) (b + 6))
  a3 : OpIs ops 13 (b + 13) (apd 35 (b + 8) (b + 12))
  b4 : OpIs ops 14 (b + 14) (.buildSlice 26 4 #[(0, .tmp (b + 1)), (1, .tmp (b + 2)), (2, .tmp (b + 7)), (3, .tmp (b + 13))])
  a4 : OpIs ops 15 (b + 15) (apd 26 b (b + 14))
def lst2 (b2 a2 b3 a3 b4 a4 : Bool) : Array Bool := #[true, true, true, true, true, true, b2, a2, true, true, true, true, b3, a3, b4, a4, false]
def dsl2 (b : Nat) : List Nat := [b + 6, b + 7, b + 12, b + 13, b + 14, b + 15]
def con2 (b2 a2 b3 a3 : Bool) : Bool := (!a2 || b2) && (!a3 || (b3 && a2))
def rdy2 (b2 a2 b3 a3 : Bool) : List Nat := if a3 then [14] else (if b2 then [] else [6]) ++ (if b2 && !a2 then [7] else []) ++ (if b3 then [] else [12]) ++ (if b3 && (a2 && !a3) then [13] else [])
def left2 (b2 a2 b3 a3 : Bool) : Nat := (!b2).toNat + (!a2).toNat + (!b3).toNat + (!a3).toNat
structure St2 (V W0 W : World) (f : Nat → Value) (b : Nat) (hv : Value) (xi xc : Int) (b2 a2 b3 a3 : Bool) : Prop where
  aS : Apart hv.ownBlock.toList V W
  a0 : Apart [] W0 W
  h2 : b2 = true → Bd W (f (b + 6)) 2 xi xc
  h3 : b3 = true → Bd W (f (b + 12)) 3 xi xc
  g2 : a2 = true → Fl W (f (b + 7)) (mkE xi xc)
  g3 : a3 = true → Fl W (f (b + 13)) (mkE xi xc)
theorem St2.step {V W0 W W' : World} {f : Nat → Value} {b : Nat} {hv : Value} {xi xc : Int} {b2 a2 b3 a3 : Bool} (h : St2 V W0 W f b hv xi xc b2 a2 b3 a3) (a : Apart [] W W') : St2 V W0 W' f b hv xi xc b2 a2 b3 a3 :=
  ⟨h.aS.trans (a.mono (by simp)), h.a0.trans a, fun e => (h.h2 e).kept a, fun e => (h.h3 e).kept a, fun e => (h.g2 e).kept0 a, fun e => (h.g3 e).kept0 a⟩
structure Evs2 (a : Act) (b LB M FB FN FC : Nat) (hv : Value) (xi xc : Int) : Prop where
  sz : b + 16 ≤ a.tmps.size
  e0 : a.eval (.tmp b) = hv
  e1 : a.eval (.tmp (b + 1)) = .slice (some ⟨LB, 0, none⟩) M M
  e2 : a.eval (.tmp (b + 2)) = .slice (some ⟨FB, 0, none⟩) FN FC
  e3 : a.eval (.tmp (b + 3)) = .slice (some ⟨LB, 0, none⟩) M M
  e4 : a.eval (.tmp (b + 4)) = .agg #[.int .i64 xi, .int .i64 xc]
  e5 : a.eval (.tmp (b + 5)) = .agg #[.int .i64 xi, .int .i64 xc]
  e8 : a.eval (.tmp (b + 8)) = .slice (some ⟨LB, 0, none⟩) M M
  e9 : a.eval (.tmp (b + 9)) = .agg #[.int .i64 xi, .int .i64 xc]
  e10 : a.eval (.tmp (b + 10)) = .agg #[.int .i64 xi, .int .i64 xc]
  e11 : a.eval (.tmp (b + 11)) = .agg #[.int .i64 xi, .int .i64 xc]
section
variable {ops : Array Oper} {Q : Exit → Act → World → Prop} {V W0 : World} {hv : Value} {hs : List Value} {LB M FB FN FC b fuel : Nat} {xi xc : Int} {a : Act}
theorem chains2_end (hc : Chains2 ops b) (ev : Evs2 a b LB M FB FN FC hv xi xc) (h17 : Region.ready .any ops (lst2 true true true true false false) = [14]) (h18 : Region.ready .any ops (lst2 true true true true true false) = [15])
    (HOH : W0.ownsRow 0 35 1 hv hs.length hs) (HFL : Fl W0 (.slice (some ⟨LB, 0, none⟩) M M) (mkE xi xc)) (HFF : Fl W0 (.slice (some ⟨FB, 0, none⟩) FN FC) (mkE xi xc)) (HSL : hs.length ≤ 9000000)
    (fin : ∀ (f : Nat → Value) (W' : World) (v2 v3 : Value), HoldP V W' hv (f (b + 15)) hs (.slice (some ⟨LB, 0, none⟩) M M) (.slice (some ⟨FB, 0, none⟩) FN FC) v2 v3 (mkE xi xc) → wpAnyH Try.prog .any ops Q (fun X => Apart hv.ownBlock.toList V X) fuel (lst2 true true true true true true) (Cx a (dsl2 b) f) W')
    (f : Nat → Value) (W : World) (st : St2 V W0 W f b hv xi xc true true true true) : wpAnyH Try.prog .any ops Q (fun X => Apart hv.ownBlock.toList V X) (fuel + 2) (lst2 true true true true false false) (Cx a (dsl2 b) f) W := by
  have hsz := ev.sz
  obtain ⟨n2, b2, c2, hv2, o2, hn2⟩ := (st.g2 rfl).ex
  obtain ⟨n3, b3, c3, hv3, o3, hn3⟩ := (st.g3 rfl).ex
  refine wpAnyH_ready h17 (by simp) ?_
  intro i hi
  simp at hi; subst hi
  obtain ⟨o, k1, k2, k3, k4⟩ := hc.b4.ex
  refine wpOp_step k1 (fun K' hK' => ?_)
  rw [if_pos (wanted_of k4)]
  obtain ⟨ie, hi, hz0, hz1, hz2⟩ := info_parts infoS
  have aB : Apart [] W (W.alloc (.cells #[.slice (some ⟨LB, 0, none⟩) M M, .slice (some ⟨FB, 0, none⟩) FN FC, f (b + 7), f (b + 13)] 35)) := (Apart.refl _ _).alloc _
  refine wp_buildSlice 26 35 4 _ k3 #[.slice (some ⟨LB, 0, none⟩) M M, .slice (some ⟨FB, 0, none⟩) FN FC, f (b + 7), f (b + 13)] ie _ Try.underlying26 hi hz0 (by rw [hz1]; decide) (by rw [hz1]; decide) ?_ ?_
  · rw [hz1]
    simp only [List.map_toArray, List.map_cons, List.map_nil]
    rw [Cx_out _ _ _ (b + 1) (by simp [dsl2]), Cx_out _ _ _ (b + 2) (by simp [dsl2]), Cx_in _ _ _ (b + 7) (by simp [dsl2]) (by omega), Cx_in _ _ _ (b + 13) (by simp [dsl2]) (by omega), ev.e1, ev.e2, hv2, hv3]
    exact fill4 _ _ _ _ _ _ _ _ _ _ _ _
  refine hK' _ _ ⟨st.aS.trans (aB.mono (by simp)), ?_⟩
  rw [k2, Cx_put _ _ _ _ _ (by simp [dsl2])]
  rw [show (lst2 true true true true false false).setIfInBounds 14 true = lst2 true true true true true false from rfl]
  have st2 := st.step aB
  have nb := new_cells W [.slice (some ⟨LB, 0, none⟩) M M, .slice (some ⟨FB, 0, none⟩) FN FC, f (b + 7), f (b + 13)] 35 (Apart.refl [] _)
  obtain ⟨s, hs'⟩ : ∃ s, W.heap.size = s := ⟨_, rfl⟩
  rw [hs'] at nb ⊢
  generalize hW2 : W.alloc (.cells #[.slice (some ⟨LB, 0, none⟩) M M, .slice (some ⟨FB, 0, none⟩) FN FC, f (b + 7), f (b + 13)] 35) = W2 at *
  refine wpAnyH_ready h18 (by simp) ?_
  intro i hi
  simp at hi; subst hi
  obtain ⟨o, q1, q2, q3, q4⟩ := hc.a4.ex
  refine wpOp_step q1 (fun K' hK' => ?_)
  have ownH := own_apart HOH st2.a0 (by simp)
  refine step_hold q4 (.tmp b) (.tmp (b + 14)) q3 hv hs [.slice (some ⟨LB, 0, none⟩) M M, .slice (some ⟨FB, 0, none⟩) FN FC, f (b + 7), f (b + 13)] ?_ ownH ⟨s, 0, none⟩ 4 ?_ rfl nb ?_ HSL ?_
  · rw [Cx_out _ _ _ _ (by simp [dsl2])]; exact ev.e0
  · rw [Cx_in _ _ _ _ (by simp [dsl2]) (by omega), upf_eq]
  · intro u hu
    rw [hv2, hv3] at hu
    simp at hu
    rcases hu with rfl | rfl | rfl | rfl <;> rfl
  · intro hv' W' own' gr' nw'
    have hE := hold_end st2.aS (HFL.kept0 st2.a0) (HFF.kept0 st2.a0) (st2.g2 rfl) (st2.g3 rfl) ownH own' gr' nw'
    refine hK' _ _ ⟨hE.ap, ?_⟩
    rw [q2, Cx_put _ _ _ _ _ (by simp [dsl2])]
    exact fin _ _ _ _ (by rw [upf_eq]; exact hE)
theorem chains2_all (hc : Chains2 ops b) (ev : Evs2 a b LB M FB FN FC hv xi xc) (hr : ∀ b2 a2 b3 a3, con2 b2 a2 b3 a3 = true → Region.ready .any ops (lst2 b2 a2 b3 a3 false false) = rdy2 b2 a2 b3 a3) (h18 : Region.ready .any ops (lst2 true true true true true false) = [15])
    (HOL : W0.ownsRow 0 31 2 (.slice (some ⟨LB, 0, none⟩) M M) M (flat2 (alk M (mkE xi xc)))) (HOH : W0.ownsRow 0 35 1 hv hs.length hs) (HFL : Fl W0 (.slice (some ⟨LB, 0, none⟩) M M) (mkE xi xc)) (HFF : Fl W0 (.slice (some ⟨FB, 0, none⟩) FN FC) (mkE xi xc)) (HSL : hs.length ≤ 9000000) (hM : M ≤ 2000000)
    (fin : ∀ (f : Nat → Value) (W' : World) (v2 v3 : Value), HoldP V W' hv (f (b + 15)) hs (.slice (some ⟨LB, 0, none⟩) M M) (.slice (some ⟨FB, 0, none⟩) FN FC) v2 v3 (mkE xi xc) → wpAnyH Try.prog .any ops Q (fun X => Apart hv.ownBlock.toList V X) fuel (lst2 true true true true true true) (Cx a (dsl2 b) f) W') :
    ∀ (n : Nat) (f : Nat → Value) (W : World) (b2 a2 b3 a3 : Bool), con2 b2 a2 b3 a3 = true → left2 b2 a2 b3 a3 = n → St2 V W0 W f b hv xi xc b2 a2 b3 a3 → wpAnyH Try.prog .any ops Q (fun X => Apart hv.ownBlock.toList V X) (fuel + 2 + n) (lst2 b2 a2 b3 a3 false false) (Cx a (dsl2 b) f) W
  | 0, f, W, b2, a2, b3, a3, hcon, hn, st => by
    have : b2 = true ∧ a2 = true ∧ b3 = true ∧ a3 = true := by
      cases b2 <;> cases a2 <;> cases b3 <;> cases a3 <;> simp [left2] at hn <;> simp
    obtain ⟨rfl, rfl, rfl, rfl⟩ := this
    exact chains2_end hc ev (hr _ _ _ _ rfl) h18 HOH HFL HFF HSL fin f W st
  | n + 1, f, W, b2, a2, b3, a3, hcon, hn, st => by
    have hsz := ev.sz
    have ih := chains2_all hc ev hr h18 HOL HOH HFL HFF HSL hM fin n
    have a3f : a3 = false := by
      cases a3 with
      | false => rfl
      | true => cases b2 <;> cases a2 <;> cases b3 <;> simp [con2] at hcon <;> simp [left2] at hn
    subst a3f
    have hown := own_apart HOL st.a0 (by simp)
    refine wpAnyH_ready (hr _ _ _ _ hcon) ?_ ?_
    · cases b2 <;> cases a2 <;> cases b3 <;> simp [con2] at hcon <;> simp [rdy2]
    intro i hi
    have hi' : (b2 = false ∧ i = 6) ∨ (b2 = true ∧ a2 = false ∧ i = 7) ∨ (b3 = false ∧ i = 12) ∨ (b3 = true ∧ a2 = true ∧ i = 13) := by
      cases b2 <;> cases a2 <;> cases b3 <;> simp [con2] at hcon <;> simp [rdy2] at hi <;> simp [hi] <;> omega
    clear hi
    rcases hi' with ⟨rfl, rfl⟩ | ⟨rfl, rfl, rfl⟩ | ⟨rfl, rfl⟩ | ⟨rfl, rfl, rfl⟩
    · refine wp_build hc.b2 xi xc (by decide) (by decide) (by simp only [List.map_toArray, List.map_cons, List.map_nil]; exact fill2 xi xc _ _ (by rw [Cx_out _ _ _ _ (by simp [dsl2])]; exact ev.e4) (by rw [Cx_out _ _ _ _ (by simp [dsl2])]; exact ev.e5)) (fun v W' hb aW => ⟨st.aS.trans (aW.mono (by simp)), ?_⟩)
      rw [Cx_put _ _ _ _ _ (by simp [dsl2])]
      have s := st.step aW
      refine ih (upf f (b + 6) v) W' true a2 b3 false ?_ ?_ ⟨s.aS, s.a0, fun _ => by rw [upf_eq]; exact hb, fun e => by rw [upf_ne _ _ _ _ (by omega)]; exact s.h3 e, fun e => by rw [upf_ne _ _ _ _ (by omega)]; exact s.g2 e, fun e => by cases e⟩
      · cases a2 <;> cases b3 <;> simp [con2] at hcon ⊢
      · cases a2 <;> cases b3 <;> simp [left2] at hn ⊢ <;> omega
    · refine wp_grow hc.a2 xi xc LB M 2 (by rw [Cx_out _ _ _ _ (by simp [dsl2])]; exact ev.e3) hown (by decide) (by omega) (by rw [Cx_in _ _ _ _ (by simp [dsl2]) (by omega)]; exact st.h2 rfl) (fun v W' hb aW => ⟨st.aS.trans (aW.mono (by simp)), ?_⟩)
      rw [Cx_put _ _ _ _ _ (by simp [dsl2])]
      have s := st.step aW
      refine ih (upf f (b + 7) v) W' true true b3 false ?_ ?_ ⟨s.aS, s.a0, fun e => by rw [upf_ne _ _ _ _ (by omega)]; exact s.h2 e, fun e => by rw [upf_ne _ _ _ _ (by omega)]; exact s.h3 e, fun _ => by rw [upf_eq]; exact hb, fun e => by cases e⟩
      · cases b3 <;> simp [con2] at hcon ⊢
      · cases b3 <;> simp [left2] at hn ⊢ <;> omega
    · refine wp_build hc.b3 xi xc (by decide) (by decide) (by simp only [List.map_toArray, List.map_cons, List.map_nil]; exact fill3 xi xc _ _ _ (by rw [Cx_out _ _ _ _ (by simp [dsl2])]; exact ev.e9) (by rw [Cx_out _ _ _ _ (by simp [dsl2])]; exact ev.e10) (by rw [Cx_out _ _ _ _ (by simp [dsl2])]; exact ev.e11)) (fun v W' hb aW => ⟨st.aS.trans (aW.mono (by simp)), ?_⟩)
      rw [Cx_put _ _ _ _ _ (by simp [dsl2])]
      have s := st.step aW
      refine ih (upf f (b + 12) v) W' b2 a2 true false ?_ ?_ ⟨s.aS, s.a0, fun e => by rw [upf_ne _ _ _ _ (by omega)]; exact s.h2 e, fun _ => by rw [upf_eq]; exact hb, fun e => by rw [upf_ne _ _ _ _ (by omega)]; exact s.g2 e, fun e => by cases e⟩
      · cases b2 <;> cases a2 <;> simp [con2] at hcon ⊢
      · cases b2 <;> cases a2 <;> simp [left2] at hn ⊢ <;> omega
    · refine wp_grow hc.a3 xi xc LB M 3 (by rw [Cx_out _ _ _ _ (by simp [dsl2])]; exact ev.e8) hown (by decide) (by omega) (by rw [Cx_in _ _ _ _ (by simp [dsl2]) (by omega)]; exact st.h3 rfl) (fun v W' hb aW => ⟨st.aS.trans (aW.mono (by simp)), ?_⟩)
      rw [Cx_put _ _ _ _ _ (by simp [dsl2])]
      have s := st.step aW
      refine ih (upf f (b + 13) v) W' b2 true true true ?_ ?_ ⟨s.aS, s.a0, fun e => by rw [upf_ne _ _ _ _ (by omega)]; exact s.h2 e, fun e => by rw [upf_ne _ _ _ _ (by omega)]; exact s.h3 e, fun e => by rw [upf_ne _ _ _ _ (by omega)]; exact s.g2 e, fun _ => by rw [upf_eq]; exact hb⟩
      · cases b2 <;> simp [con2] at hcon ⊢
      · cases b2 <;> simp [left2] at hn ⊢ <;> omega
theorem chains2_start (hc : Chains2 ops b) (ev : Evs2 a b LB M FB FN FC hv xi xc) (hr : ∀ b2 a2 b3 a3, con2 b2 a2 b3 a3 = true → Region.ready .any ops (lst2 b2 a2 b3 a3 false false) = rdy2 b2 a2 b3 a3) (h18 : Region.ready .any ops (lst2 true true true true true false) = [15])
    (aS : Apart hv.ownBlock.toList V W0) (HOL : W0.ownsRow 0 31 2 (.slice (some ⟨LB, 0, none⟩) M M) M (flat2 (alk M (mkE xi xc)))) (HOH : W0.ownsRow 0 35 1 hv hs.length hs) (HFL : Fl W0 (.slice (some ⟨LB, 0, none⟩) M M) (mkE xi xc)) (HFF : Fl W0 (.slice (some ⟨FB, 0, none⟩) FN FC) (mkE xi xc)) (HSL : hs.length ≤ 9000000) (hM : M ≤ 2000000) (listed : Array Bool) (hl : listed = lst2 false false false false false false)
    (fin : ∀ (f : Nat → Value) (W' : World) (v2 v3 : Value), HoldP V W' hv (f (b + 15)) hs (.slice (some ⟨LB, 0, none⟩) M M) (.slice (some ⟨FB, 0, none⟩) FN FC) v2 v3 (mkE xi xc) → wpAnyH Try.prog .any ops Q (fun X => Apart hv.ownBlock.toList V X) fuel (lst2 true true true true true true) ((((((a.put (some (b + 6)) (f (b + 6))).put (some (b + 7)) (f (b + 7))).put (some (b + 12)) (f (b + 12))).put (some (b + 13)) (f (b + 13))).put (some (b + 14)) (f (b + 14))).put (some (b + 15)) (f (b + 15))) W') :
    wpAnyH Try.prog .any ops Q (fun X => Apart hv.ownBlock.toList V X) (fuel + 2 + 4) listed a W0 := by
  have := chains2_all hc ev hr h18 HOL HOH HFL HFF HSL hM (fun f W' v2 v3 hp => by
    have h := fin f W' v2 v3 hp
    rw [dsl2, Cx_cons, Cx_cons, Cx_cons, Cx_cons, Cx_cons, Cx_cons, Cx_nil]
    exact h) 4 (fun i => a.tmps.getD i undef) W0 false false false false rfl rfl ⟨aS, Apart.refl _ _, (fun e => by cases e), (fun e => by cases e), (fun e => by cases e), (fun e => by cases e)⟩
  rw [Cx_self] at this
  rw [hl]
  exact this
end
end Go.Proofs.Ytopmhacnopfifaa.hp
