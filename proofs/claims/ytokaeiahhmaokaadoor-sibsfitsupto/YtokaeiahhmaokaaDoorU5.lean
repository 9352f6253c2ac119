import Derived.Test.YtokaeiahhmaokaaDoorU4
import Derived.ArgAppend
import Derived.Deep.RegionLaw
import Derived.Deep.DeepAppendRoom
import Derived.Test.YtokaeiahhmaokaaDoorU3
namespace Go.Proofs.YtokaeiahhmaokaaDoor.ds
open Go.ChangeShapes Go.WideShapes Go.ChangeAt Go.RowKit
set_option linter.unusedVariables false
/-- a list that can be read -/
structure L (w : World) (p : Option Addr) (N : Nat) (xs : List S) : Prop where
  sp : Sp w p xs
  len : xs.length = N
  lim : N ≤ 9223372036854775807
  fit : ∀ x ∈ xs, x.t < 2 ^ 64
theorem L.kept0 {w w' : World} {p : Option Addr} {N : Nat} {xs : List S} (h : L w p N xs) (a : Apart [] w w') : L w' p N xs := { h with sp := h.sp.kept0 a }
theorem L.nil (w : World) (p : Option Addr) : L w p 0 [] := ⟨Sp.nil w p, rfl, by omega, by simp⟩
theorem OkL.fit {g : Int} {xs : List S} (h : OkL g xs) (hg : g ≤ 64) : ∀ x ∈ xs, x.t < 2 ^ 64 := fun x hx => ((h.ok x hx).wf hg).lt
open Classical in
/-- a list, or none where it is no set -/
noncomputable def norm (xs : List S) : List S := if OkL 64 xs then xs else []
theorem norm_ok (xs : List S) : OkL 64 (norm xs) := by unfold norm; split; assumption; exact OkL.nil 64
theorem norm_of {xs : List S} (h : OkL 64 xs) : norm xs = xs := by unfold norm; rw [if_pos h]
theorem norm_no {xs : List S} (h : ¬ OkL 64 xs) : norm xs = [] := by unfold norm; rw [if_neg h]
theorem isSet_yes {p : Option Addr} {N cap : Nat} {xs : List S} {gap : Int} {w : World} (h : L w p N xs) (k : OkL gap xs) : Calls Tryd.prog 66 #[.slice p N cap, .int .i64 gap] w fun r w' => r = .returned (.bool true) ∧ Apart [] w w' := by
  refine (isSet_ok p N cap xs gap w h.sp h.len h.lim h.fit).mono ?_
  rintro r w1 ⟨⟨v, rfl, hv⟩, a1⟩
  exact ⟨by rw [hv.2 k], a1⟩
theorem isSet_no {p : Option Addr} {N cap : Nat} {xs : List S} {gap : Int} {w : World} (h : L w p N xs) (k : ¬ OkL gap xs) : Calls Tryd.prog 66 #[.slice p N cap, .int .i64 gap] w fun r w' => r = .returned (.bool false) ∧ Apart [] w w' := by
  refine (isSet_ok p N cap xs gap w h.sp h.len h.lim h.fit).mono ?_
  rintro r w1 ⟨⟨v, rfl, hv⟩, a1⟩
  cases v
  · exact ⟨rfl, a1⟩
  · exact absurd (hv.1 rfl) k
structure AsPost (w w' : World) (r : Ending) (xs : List S) : Prop where
  ex : ∃ p N cap, r = .returned (.slice p N cap) ∧ L w' p N (norm xs) ∧ Apart [] w w'
theorem asSet_ok {p : Option Addr} {N cap : Nat} {xs : List S} {w : World} (h : L w p N xs) : Calls Tryd.prog 67 #[.slice p N cap] w fun r w' => AsPost w w' r xs := by
  by_cases k : OkL 64 xs
  · go_enter Tryd.func67, Tryd.ntmps67
    go_wp2_with (go_at_call 66; refine (isSet_yes h k).mono ?_; rintro r w1 ⟨rfl, a1⟩)
    go_ret
    exact ⟨p, N, cap, rfl, by rw [norm_of k]; exact h.kept0 a1, a1⟩
  · go_enter Tryd.func67, Tryd.ntmps67
    go_wp2_with (go_at_call 66; refine (isSet_no h k).mono ?_; rintro r w1 ⟨rfl, a1⟩)
    go_ret
    exact ⟨none, 0, 0, rfl, by rw [norm_no k]; exact L.nil _ _, a1⟩
theorem own_base {w : World} {b c : Nat} {e : TypeId} {size : Nat} {v : Value} {n : Nat} {xs : List Value} (h : w.ownsRow b e size v n xs) (hc : c ≤ b) : w.ownsRow c e size v n xs := by
  obtain ⟨hl, ⟨hv, hz⟩ | ⟨g, cap, cur, rfl, hb, hr⟩⟩ := h
  · exact ⟨hl, .inl ⟨hv, hz⟩⟩
  · exact ⟨hl, .inr ⟨g, cap, cur, rfl, by omega, hr⟩⟩
/-- the row is the old one, or a new one -/
def NewOr (w : World) (v v' : Value) : Prop := v'.ownBlock = v.ownBlock ∨ ∃ k, v'.ownBlock = some k ∧ w.heap.size ≤ k
theorem run_append2 (w : World) (t ty e : TypeId) (i : TypeInfo) (z : Value) (size bytes : Nat) (ht : Tryd.prog.underlying t = some (.slice e)) (hi : Tryd.prog.info? e = some i) (hz : i.zero = some z) (hsize : i.size = size) (hby : i.bytes = bytes) (hzs : z.cells.size = size) (hsz : 0 < size)
    (v : Value) (n : Nat) (xs : List Value) (h : w.ownsRow 0 e size v n xs) (ad : Addr) (m c : Nat) (news : List Value) (hm : 0 < m) (hl : news.length = m * size) (hnews : ∀ j u, news[j]? = some u → w.cell? (ad.add j) = some u) (h1 : ∀ u ∈ news, u.oneCell' = true) (h63 : n + m ≤ maxLen) (hb : (n + m) * bytes ≤ 140737488355328) :
    ∃ v' w', (Builtin.append_ #[t, t] ty #[v, .slice (some ad) m c]).run Tryd.prog w = .ok v' w' ∧ w'.ownsRow 0 e size v' (n + m) (xs ++ news) ∧ w.grownBy w' v.ownBlock ∧ NewOr w v v' := by
  have h0 := h
  obtain ⟨hxl, ⟨rfl, rfl⟩ | ⟨g, cap, cur, rfl, hbb, hr, hle, hrest⟩⟩ := h
  · obtain rfl : xs = [] := by simpa using hxl
    obtain ⟨v', w', hrun, r1, r2, _⟩ := run_append_own (P := Tryd.prog) w w.heap.size t ty e i z size bytes ht hi hz hsize hby hzs hsz (.slice none 0 0) 0 [] (World.ownsRow_nil w _ e size) ad m c news hl hnews h1 h63 hb (Nat.le_refl _)
    refine ⟨v', w', hrun, own_base r1 (Nat.zero_le _), r2, .inr ?_⟩
    obtain ⟨_, ⟨_, hzz⟩ | ⟨g, cap, cur, rfl, hb2, _⟩⟩ := r1
    · omega
    · exact ⟨g, rfl, hb2⟩
  · by_cases hroom : n + m ≤ cap
    · obtain ⟨w', hrun, r1, r2⟩ := run_append_own_spare (P := Tryd.prog) w 0 t ty e i size ht hi hsize g n cap xs h0 ad m c news hl hnews h1 hroom
      exact ⟨_, w', hrun, r1, r2, .inl rfl⟩
    · obtain ⟨v', w', hrun, r1, r2⟩ := run_append_arg_grows (P := Tryd.prog) w t ty e i z size bytes ht hi hz hsize hby hzs hsz ⟨g, 0, none⟩ n cap xs (by omega) (fun j u hu => h0.cells rfl j u hu) ad m c news hl hnews (by omega) h63 hb
      refine ⟨v', w', hrun, own_base r1 (Nat.zero_le _), ⟨r2.os, r2.tape, r2.output, r2.size, fun k hk _ => r2.block k hk (by simp)⟩, .inr ?_⟩
      obtain ⟨_, ⟨_, hzz⟩ | ⟨g', cap', cur', rfl, hb2, _⟩⟩ := r1
      · omega
      · exact ⟨g', rfl, hb2⟩
theorem wpList_append3 {w : World} {ops : Array Oper} {rest : List Oper} {o : Oper} {a : Act} {Q : Exit → Act → World → Prop} (hgd : o.guard = none) (s x : Operand) (t : TypeId)
    (ho : o.op = .call { callee := .builtin .append, args := #[s, x], argTypes := #[t, t] }) (v u : Value) (hs : a.eval s = v) (hx : a.eval x = u) (v' : Value) (w' : World)
    (hrun : (Builtin.append_ #[t, t] o.type #[v, u]).run Tryd.prog w = .ok v' w') (hK : wpList Tryd.prog ops Q rest (a.put o.dst v') w') : wpList Tryd.prog ops Q (o :: rest) a w := by
  refine wpList_plain hgd fun K hK' => ?_
  unfold Oper.wp
  simp [execOp, ho, resolve, invoke, builtin, hs, hx, hrun, Result.andThen]
  exact hK' _ _ hK
/-- a list of the call's own -/
structure Own (w w' : World) (p : Option Addr) (n cap : Nat) (xs : List S) : Prop where
  len : n = xs.length
  own : w'.ownsRow 0 80 3 (.slice p n cap) n (flat xs)
  new : ∀ b, (Value.slice p n cap).ownBlock = some b → w.heap.size ≤ b
  ap : Apart [] w w'
theorem Own.kept {w w' w2 : World} {p : Option Addr} {n cap : Nat} {xs : List S} (h : Own w w' p n cap xs) (a : Apart [] w' w2) : Own w w2 p n cap xs := ⟨h.len, own_apart h.own a (by simp), h.new, h.ap.trans a⟩
theorem Own.L {w w' : World} {p : Option Addr} {n cap : Nat} {xs : List S} (h : Own w w' p n cap xs) (hl : n ≤ 9223372036854775807) (hf : ∀ x ∈ xs, x.t < 2 ^ 64) : L w' p n xs := ⟨Sp.own h.own h.len, h.len.symm, hl, hf⟩
/-- one more, appended -/
theorem own_append {w W : World} {p : Option Addr} {n cap : Nat} {xs : List S} (h : Own w W p n cap xs) (hn : n ≤ 4398046511104) (ty : TypeId) (ad : Addr) (x : S) (h0 : W.cell? (ad.add 0) = some (.int .i64 x.n)) (h1 : W.cell? (ad.add 1) = some (.int .i64 x.b)) (h2 : W.cell? (ad.add 2) = some (.int .u64 (x.t : Int))) :
    ∃ p' cap' w', (Builtin.append_ #[26, 26] ty #[.slice p n cap, .slice (some ad) 1 1]).run Tryd.prog W = .ok (.slice p' (n + 1) cap') w' ∧ Own w w' p' (n + 1) cap' (xs ++ [x]) := by
  obtain ⟨i0, hi, hz0, hz1, hz2⟩ := info_parts info52
  obtain ⟨v', w', hrun, r1, r2, r3⟩ := run_append2 W 26 ty 80 i0 (.agg #[.int .i64 0, .int .i64 0, .int .u64 0]) 3 24 Tryd.underlying26 hi hz0 hz1 hz2 rfl (by decide) (.slice p n cap) n (flat xs) h.own ad 1 1 [.int .i64 x.n, .int .i64 x.b, .int .u64 (x.t : Int)] (by decide) rfl
    (by
      intro j u hj
      match j, hj with
      | 0, hj => simp at hj; subst hj; exact h0
      | 1, hj => simp at hj; subst hj; exact h1
      | 2, hj => simp at hj; subst hj; exact h2)
    (by intro u hu; simp at hu; rcases hu with rfl | rfl | rfl <;> rfl) (by unfold maxLen; omega) (by omega)
  rw [flat_snoc] at r1
  have hs : ∃ p' cap', v' = .slice p' (n + 1) cap' := by
    obtain ⟨_, ⟨_, hz⟩ | ⟨g, cap', cur, rfl, _⟩⟩ := id r1
    · omega
    · exact ⟨_, _, rfl⟩
  obtain ⟨p', cap', rfl⟩ := hs
  refine ⟨p', cap', w', hrun, by simp [h.len], r1, fun b hb => ?_, h.ap.trans' (apart_grown r2) (fun y hy => .inr (h.new y (by simpa using hy)))⟩
  rcases r3 with r3 | ⟨k, r3, hk⟩
  · exact h.new b (r3.symm.trans hb)
  · rw [r3] at hb; cases hb; exact Nat.le_trans h.ap.size hk
end Go.Proofs.YtokaeiahhmaokaaDoor.ds
namespace Go.Proofs.YtokaeiahhmaokaaDoor.ds
open Go.ChangeShapes Go.WideShapes Go.ChangeAt Go.RowKit
set_option linter.unusedVariables false
structure GPost (w w' : World) (r : Ending) (xs : List S) : Prop where
  ex : ∃ p n cap, r = .returned (.slice p n cap) ∧ Own w w' p n cap xs ∧ n ≤ 8
set_option maxHeartbeats 2000000 in
set_option maxRecDepth 100000 in
theorem gather_49 (w : World) (C1 C2 : Value) (F : Nat → S)
    (hF : ∀ j : Nat, j < 8 → ∀ W, Apart [] w W → Calls Tryd.prog 119 #[.int .i64 (j : Int), C1, C2] W fun r W' => r = .returned (spv (F j)) ∧ Apart [] W W') :
    Calls Tryd.prog 118 #[.func (.func 119) #[] #[C1, C2]] w fun r w' => GPost w w' r (gath F 8) := by
  go_enter Tryd.func118, Tryd.ntmps118
  go_wp2_with fail
  go_loopw [3, 6] (fun v x wr => ∃ i : Nat, i ≤ 8 ∧ x = .int .i64 i ∧ ∃ p n cap, v = .slice p n cap ∧ n ≤ i ∧ Own w wr p n cap (gath F i)) (fun _ x _ => 8 - (intOf x).toNat)
  case atStart => exact ⟨0, by omega, rfl, none, 0, 0, rfl, by omega, rfl, World.ownsRow_nil _ _ _ _, fun b hb => by simp [Value.ownBlock] at hb, Apart.refl _ _⟩
  case round =>
    obtain ⟨i, hi, rfl, p, n, cap, rfl, hn, own⟩ := hrel
    by_cases hlt : i < 8
    · have hi8 : (i : Int) < 8 := by omega
      go_wp2_with fail
      obtain ⟨⟨xn, xb, xt⟩, HX⟩ : ∃ x, Hid (x = F i) := ⟨_, rfl⟩
      have hFi := hF i hlt wr own.ap
      rw [← HX.out] at hFi
      refine hFi.mono ?_
      rintro r w1 ⟨rfl, a1⟩
      dsimp only [spv]
      clear hFi
      go_wp2_with fail
      have bV := new1 w1 #[.int .i64 xn, .int .i64 xb, .int .u64 xt] 80
      have aV0 : Apart [] w1 (w1.alloc (.cells #[.int .i64 xn, .int .i64 xb, .int .u64 xt] 80)) := (Apart.refl _ _).alloc _
      generalize w1.alloc (.cells #[.int .i64 xn, .int .i64 xb, .int .u64 xt] 80) = V at *
      have r0 : ∀ W, Apart [] V W → W.cell? ⟨w1.heap.size, 0, none⟩ = some (.int .i64 xn) := fun W a => (rowc ((a.block _ (lt_of_heap bV) (by simp)).trans bV)).1.1
      have r1 : ∀ W, Apart [] V W → W.cell? ⟨w1.heap.size, 1, none⟩ = some (.int .i64 xb) := fun W a => (rowc ((a.block _ (lt_of_heap bV) (by simp)).trans bV)).1.2.1
      have r2 : ∀ W, Apart [] V W → W.cell? ⟨w1.heap.size, 2, none⟩ = some (.int .u64 xt) := fun W a => (rowc ((a.block _ (lt_of_heap bV) (by simp)).trans bV)).1.2.2
      have aV : Apart [] V V.drew := (Apart.refl _ _).drew
      have hgd := guard52
      by_cases hz : (⟨xn, xb, xt⟩ : S) = none0 i
      · have HZ : Hid (gath F (i + 1) = gath F i) := by
          show gath F (i + 1) = gath F i
          rw [gath, if_pos (by rw [← HX.out]; exact hz), List.append_nil]
        have hneq : ∀ W, Sem.run Tryd.prog (binOp BinOp.neq 80 (.agg #[.int .i64 xn, .int .i64 xb, .int .u64 xt]) (.agg #[.int .i64 (i : Int), .int .i64 0, .int .u64 0])) W = .ok (.bool false) W := by
          intro W
          rw [neq52]
          simp only [none0, S.mk.injEq] at hz
          rw [decide_eq_true ⟨hz.1, hz.2.1, by omega⟩]; rfl
        clear hz
        refine wp_region_held_drew (S := fun W => Apart [] V W) (by kernel_rfl) aV (fun hHeld => ?_)
        refine wpAnyH_take (i := 0) (oi := ⟨some 12, _, _, _, _, _⟩) (v := (.agg #[.int .i64 xn, .int .i64 xb, .int .u64 xt])) rfl (by kernel_rfl) (by kernel_rfl) (by kernel_rfl) (fun _ _ _ h => h) (Or.inl ⟨by rfl, ?_⟩) (by assumption) ?_
        · intro W hSW; go_simp
        simp only [Act.put, List.setIfInBounds_toArray, List.set_cons_zero, List.set_cons_succ]
        refine wpAnyH_take (i := 1) (oi := ⟨some 13, _, _, _, _, _⟩) (v := (.int .i64 (i : Int))) rfl (by kernel_rfl) (by kernel_rfl) (by kernel_rfl) (fun _ _ _ h => h) (Or.inl ⟨by rfl, ?_⟩) (by assumption) ?_
        · intro W hSW; go_simp
        simp only [Act.put, List.setIfInBounds_toArray, List.set_cons_zero, List.set_cons_succ]
        refine wpAnyH_ready (rs := [2]) (by kernel_rfl) (by simp) ?_
        refine AllReadyH.cons rfl (fun KK hKK => ?_) AllReadyH.nil
        go_simp
        refine (none_ok (i : Int) _).mono ?_
        rintro r w2 ⟨rfl, a2⟩
        dsimp only
        have a3 := aV.trans a2
        refine hKK.out _ _ (by assumption) (fun hHeld => ?_)
        clear hKK KK
        refine wpAnyH_take (i := 3) (oi := ⟨some 15, _, _, _, _, _⟩) (v := (.bool false)) rfl (by kernel_rfl) (by kernel_rfl) (by kernel_rfl) (fun _ _ _ h => h) (Or.inl ⟨by rfl, ?_⟩) (by assumption) ?_
        · intro W hSW; go_simp
        simp only [Act.put, List.setIfInBounds_toArray, List.set_cons_zero, List.set_cons_succ]
        refine wpAnyH_done (by kernel_rfl) ?_ _
        have own2 := (own.kept (a1.trans aV0)).kept a3
        clear r0 r1 r2 bV hneq hgd
        go_wp2
        go_roundw
        case rel => exact ⟨i + 1, by omega, rfl, p, n, cap, rfl, by omega, by rw [HZ.out]; exact own2⟩
        case measure => simp [intOf]; omega
      · have HZ : Hid (gath F (i + 1) = gath F i ++ [⟨xn, xb, xt⟩]) := by
          show gath F (i + 1) = gath F i ++ [⟨xn, xb, xt⟩]
          rw [gath, if_neg (by rw [← HX.out]; exact hz), HX.out]
        have hneq : ∀ W, Sem.run Tryd.prog (binOp BinOp.neq 80 (.agg #[.int .i64 xn, .int .i64 xb, .int .u64 xt]) (.agg #[.int .i64 (i : Int), .int .i64 0, .int .u64 0])) W = .ok (.bool true) W := by
          intro W
          rw [neq52]
          simp only [none0, S.mk.injEq] at hz
          rw [decide_eq_false (fun h => hz ⟨h.1, h.2.1, by omega⟩)]; rfl
        clear hz
        refine wp_region_held_drew (S := fun W => Apart [] V W) (by kernel_rfl) aV (fun hHeld => ?_)
        refine wpAnyH_take (i := 0) (oi := ⟨some 12, _, _, _, _, _⟩) (v := (.agg #[.int .i64 xn, .int .i64 xb, .int .u64 xt])) rfl (by kernel_rfl) (by kernel_rfl) (by kernel_rfl) (fun _ _ _ h => h) (Or.inl ⟨by rfl, ?_⟩) (by assumption) ?_
        · intro W hSW; go_simp
        simp only [Act.put, List.setIfInBounds_toArray, List.set_cons_zero, List.set_cons_succ]
        refine wpAnyH_take (i := 1) (oi := ⟨some 13, _, _, _, _, _⟩) (v := (.int .i64 (i : Int))) rfl (by kernel_rfl) (by kernel_rfl) (by kernel_rfl) (fun _ _ _ h => h) (Or.inl ⟨by rfl, ?_⟩) (by assumption) ?_
        · intro W hSW; go_simp
        simp only [Act.put, List.setIfInBounds_toArray, List.set_cons_zero, List.set_cons_succ]
        refine wpAnyH_ready (rs := [2]) (by kernel_rfl) (by simp) ?_
        refine AllReadyH.cons rfl (fun KK hKK => ?_) AllReadyH.nil
        go_simp
        refine (none_ok (i : Int) _).mono ?_
        rintro r w2 ⟨rfl, a2⟩
        dsimp only
        have a3 := aV.trans a2
        refine hKK.out _ _ (by assumption) (fun hHeld => ?_)
        clear hKK KK
        refine wpAnyH_take (i := 3) (oi := ⟨some 15, _, _, _, _, _⟩) (v := (.bool true)) rfl (by kernel_rfl) (by kernel_rfl) (by kernel_rfl) (fun _ _ _ h => h) (Or.inl ⟨by rfl, ?_⟩) (by assumption) ?_
        · intro W hSW; go_simp
        simp only [Act.put, List.setIfInBounds_toArray, List.set_cons_zero, List.set_cons_succ]
        refine wpAnyH_done (by kernel_rfl) ?_ _
        have own2 := (own.kept (a1.trans aV0)).kept a3
        have q0 := r0 w2 a3
        have q1 := r1 w2 a3
        have q2 := r2 w2 a3
        clear r0 r1 r2 bV hneq hgd
        have own3 := own2.kept ((Apart.refl [] w2).alloc (.cells #[.int .i64 xn, .int .i64 xb, .int .u64 xt] 80))
        obtain ⟨p', cap', w4, hrun, own4⟩ := own_append own3 (by omega) 26 ⟨w2.heap.size, 0, none⟩ ⟨xn, xb, xt⟩ (by simp [Addr.add]) (by simp [Addr.add]) (by simp [Addr.add])
        go_wp2_with (at_builtin; refine wpList_append3 rfl (.tmp 16) (.tmp 18) 26 rfl _ _ rfl rfl _ _ hrun ?_)
        go_roundw
        case rel => exact ⟨i + 1, by omega, rfl, p', n + 1, cap', rfl, by omega, by rw [HZ.out]; exact own4⟩
        case measure => simp [intOf]; omega
    · obtain rfl : i = 8 := by omega
      go_wp2
      go_ret
      exact ⟨p, n, cap, rfl, own, by omega⟩
end Go.Proofs.YtokaeiahhmaokaaDoor.ds

namespace Go.Proofs.YtokaeiahhmaokaaDoor.ds
open Go.ChangeShapes Go.WideShapes Go.ChangeAt Go.RowKit
set_option linter.unusedVariables false
set_option maxHeartbeats 2000000 in
set_option maxRecDepth 100000 in
theorem gather_52 (w : World) (C1 C2 : Value) (F : Nat → S)
    (hF : ∀ j : Nat, j < 8 → ∀ W, Apart [] w W → Calls Tryd.prog 120 #[.int .i64 (j : Int), C1, C2] W fun r W' => r = .returned (spv (F j)) ∧ Apart [] W W') :
    Calls Tryd.prog 118 #[.func (.func 120) #[] #[C1, C2]] w fun r w' => GPost w w' r (gath F 8) := by
  go_enter Tryd.func118, Tryd.ntmps118
  go_wp2_with fail
  go_loopw [3, 6] (fun v x wr => ∃ i : Nat, i ≤ 8 ∧ x = .int .i64 i ∧ ∃ p n cap, v = .slice p n cap ∧ n ≤ i ∧ Own w wr p n cap (gath F i)) (fun _ x _ => 8 - (intOf x).toNat)
  case atStart => exact ⟨0, by omega, rfl, none, 0, 0, rfl, by omega, rfl, World.ownsRow_nil _ _ _ _, fun b hb => by simp [Value.ownBlock] at hb, Apart.refl _ _⟩
  case round =>
    obtain ⟨i, hi, rfl, p, n, cap, rfl, hn, own⟩ := hrel
    by_cases hlt : i < 8
    · have hi8 : (i : Int) < 8 := by omega
      go_wp2_with fail
      obtain ⟨⟨xn, xb, xt⟩, HX⟩ : ∃ x, Hid (x = F i) := ⟨_, rfl⟩
      have hFi := hF i hlt wr own.ap
      rw [← HX.out] at hFi
      refine hFi.mono ?_
      rintro r w1 ⟨rfl, a1⟩
      dsimp only [spv]
      clear hFi
      go_wp2_with fail
      have bV := new1 w1 #[.int .i64 xn, .int .i64 xb, .int .u64 xt] 80
      have aV0 : Apart [] w1 (w1.alloc (.cells #[.int .i64 xn, .int .i64 xb, .int .u64 xt] 80)) := (Apart.refl _ _).alloc _
      generalize w1.alloc (.cells #[.int .i64 xn, .int .i64 xb, .int .u64 xt] 80) = V at *
      have r0 : ∀ W, Apart [] V W → W.cell? ⟨w1.heap.size, 0, none⟩ = some (.int .i64 xn) := fun W a => (rowc ((a.block _ (lt_of_heap bV) (by simp)).trans bV)).1.1
      have r1 : ∀ W, Apart [] V W → W.cell? ⟨w1.heap.size, 1, none⟩ = some (.int .i64 xb) := fun W a => (rowc ((a.block _ (lt_of_heap bV) (by simp)).trans bV)).1.2.1
      have r2 : ∀ W, Apart [] V W → W.cell? ⟨w1.heap.size, 2, none⟩ = some (.int .u64 xt) := fun W a => (rowc ((a.block _ (lt_of_heap bV) (by simp)).trans bV)).1.2.2
      have aV : Apart [] V V.drew := (Apart.refl _ _).drew
      have hgd := guard52
      by_cases hz : (⟨xn, xb, xt⟩ : S) = none0 i
      · have HZ : Hid (gath F (i + 1) = gath F i) := by
          show gath F (i + 1) = gath F i
          rw [gath, if_pos (by rw [← HX.out]; exact hz), List.append_nil]
        have hneq : ∀ W, Sem.run Tryd.prog (binOp BinOp.neq 80 (.agg #[.int .i64 xn, .int .i64 xb, .int .u64 xt]) (.agg #[.int .i64 (i : Int), .int .i64 0, .int .u64 0])) W = .ok (.bool false) W := by
          intro W
          rw [neq52]
          simp only [none0, S.mk.injEq] at hz
          rw [decide_eq_true ⟨hz.1, hz.2.1, by omega⟩]; rfl
        clear hz
        refine wp_region_held_drew (S := fun W => Apart [] V W) (by kernel_rfl) aV (fun hHeld => ?_)
        refine wpAnyH_take (i := 0) (oi := ⟨some 12, _, _, _, _, _⟩) (v := (.agg #[.int .i64 xn, .int .i64 xb, .int .u64 xt])) rfl (by kernel_rfl) (by kernel_rfl) (by kernel_rfl) (fun _ _ _ h => h) (Or.inl ⟨by rfl, ?_⟩) (by assumption) ?_
        · intro W hSW; go_simp
        simp only [Act.put, List.setIfInBounds_toArray, List.set_cons_zero, List.set_cons_succ]
        refine wpAnyH_take (i := 1) (oi := ⟨some 13, _, _, _, _, _⟩) (v := (.int .i64 (i : Int))) rfl (by kernel_rfl) (by kernel_rfl) (by kernel_rfl) (fun _ _ _ h => h) (Or.inl ⟨by rfl, ?_⟩) (by assumption) ?_
        · intro W hSW; go_simp
        simp only [Act.put, List.setIfInBounds_toArray, List.set_cons_zero, List.set_cons_succ]
        refine wpAnyH_ready (rs := [2]) (by kernel_rfl) (by simp) ?_
        refine AllReadyH.cons rfl (fun KK hKK => ?_) AllReadyH.nil
        go_simp
        refine (none_ok (i : Int) _).mono ?_
        rintro r w2 ⟨rfl, a2⟩
        dsimp only
        have a3 := aV.trans a2
        refine hKK.out _ _ (by assumption) (fun hHeld => ?_)
        clear hKK KK
        refine wpAnyH_take (i := 3) (oi := ⟨some 15, _, _, _, _, _⟩) (v := (.bool false)) rfl (by kernel_rfl) (by kernel_rfl) (by kernel_rfl) (fun _ _ _ h => h) (Or.inl ⟨by rfl, ?_⟩) (by assumption) ?_
        · intro W hSW; go_simp
        simp only [Act.put, List.setIfInBounds_toArray, List.set_cons_zero, List.set_cons_succ]
        refine wpAnyH_done (by kernel_rfl) ?_ _
        have own2 := (own.kept (a1.trans aV0)).kept a3
        clear r0 r1 r2 bV hneq hgd
        go_wp2
        go_roundw
        case rel => exact ⟨i + 1, by omega, rfl, p, n, cap, rfl, by omega, by rw [HZ.out]; exact own2⟩
        case measure => simp [intOf]; omega
      · have HZ : Hid (gath F (i + 1) = gath F i ++ [⟨xn, xb, xt⟩]) := by
          show gath F (i + 1) = gath F i ++ [⟨xn, xb, xt⟩]
          rw [gath, if_neg (by rw [← HX.out]; exact hz), HX.out]
        have hneq : ∀ W, Sem.run Tryd.prog (binOp BinOp.neq 80 (.agg #[.int .i64 xn, .int .i64 xb, .int .u64 xt]) (.agg #[.int .i64 (i : Int), .int .i64 0, .int .u64 0])) W = .ok (.bool true) W := by
          intro W
          rw [neq52]
          simp only [none0, S.mk.injEq] at hz
          rw [decide_eq_false (fun h => hz ⟨h.1, h.2.1, by omega⟩)]; rfl
        clear hz
        refine wp_region_held_drew (S := fun W => Apart [] V W) (by kernel_rfl) aV (fun hHeld => ?_)
        refine wpAnyH_take (i := 0) (oi := ⟨some 12, _, _, _, _, _⟩) (v := (.agg #[.int .i64 xn, .int .i64 xb, .int .u64 xt])) rfl (by kernel_rfl) (by kernel_rfl) (by kernel_rfl) (fun _ _ _ h => h) (Or.inl ⟨by rfl, ?_⟩) (by assumption) ?_
        · intro W hSW; go_simp
        simp only [Act.put, List.setIfInBounds_toArray, List.set_cons_zero, List.set_cons_succ]
        refine wpAnyH_take (i := 1) (oi := ⟨some 13, _, _, _, _, _⟩) (v := (.int .i64 (i : Int))) rfl (by kernel_rfl) (by kernel_rfl) (by kernel_rfl) (fun _ _ _ h => h) (Or.inl ⟨by rfl, ?_⟩) (by assumption) ?_
        · intro W hSW; go_simp
        simp only [Act.put, List.setIfInBounds_toArray, List.set_cons_zero, List.set_cons_succ]
        refine wpAnyH_ready (rs := [2]) (by kernel_rfl) (by simp) ?_
        refine AllReadyH.cons rfl (fun KK hKK => ?_) AllReadyH.nil
        go_simp
        refine (none_ok (i : Int) _).mono ?_
        rintro r w2 ⟨rfl, a2⟩
        dsimp only
        have a3 := aV.trans a2
        refine hKK.out _ _ (by assumption) (fun hHeld => ?_)
        clear hKK KK
        refine wpAnyH_take (i := 3) (oi := ⟨some 15, _, _, _, _, _⟩) (v := (.bool true)) rfl (by kernel_rfl) (by kernel_rfl) (by kernel_rfl) (fun _ _ _ h => h) (Or.inl ⟨by rfl, ?_⟩) (by assumption) ?_
        · intro W hSW; go_simp
        simp only [Act.put, List.setIfInBounds_toArray, List.set_cons_zero, List.set_cons_succ]
        refine wpAnyH_done (by kernel_rfl) ?_ _
        have own2 := (own.kept (a1.trans aV0)).kept a3
        have q0 := r0 w2 a3
        have q1 := r1 w2 a3
        have q2 := r2 w2 a3
        clear r0 r1 r2 bV hneq hgd
        have own3 := own2.kept ((Apart.refl [] w2).alloc (.cells #[.int .i64 xn, .int .i64 xb, .int .u64 xt] 80))
        obtain ⟨p', cap', w4, hrun, own4⟩ := own_append own3 (by omega) 26 ⟨w2.heap.size, 0, none⟩ ⟨xn, xb, xt⟩ (by simp [Addr.add]) (by simp [Addr.add]) (by simp [Addr.add])
        go_wp2_with (at_builtin; refine wpList_append3 rfl (.tmp 16) (.tmp 18) 26 rfl _ _ rfl rfl _ _ hrun ?_)
        go_roundw
        case rel => exact ⟨i + 1, by omega, rfl, p', n + 1, cap', rfl, by omega, by rw [HZ.out]; exact own4⟩
        case measure => simp [intOf]; omega
    · obtain rfl : i = 8 := by omega
      go_wp2
      go_ret
      exact ⟨p, n, cap, rfl, own, by omega⟩
end Go.Proofs.YtokaeiahhmaokaaDoor.ds

namespace Go.Proofs.YtokaeiahhmaokaaDoor.ds
open Go.ChangeShapes Go.WideShapes Go.ChangeAt Go.RowKit
set_option linter.unusedVariables false
def Small (x : S) : Prop := 0 ≤ x.b ∧ x.b ≤ 4194304 ∧ x.t < 2 ^ 64
theorem OkL.small {g : Int} {xs : List S} (h : OkL g xs) (h0 : 0 ≤ g) (hg : g ≤ 64) (n : Int) : Small (ofn xs n) := by
  have k := h.okn h0 hg n
  have := k.mx
  unfold top at this
  exact ⟨k.wf.b0, by omega, k.wf.lt⟩
set_option maxHeartbeats 2000000 in
/-- a dot -/
def IsDot (n c : Int) : Prop := (0 ≤ n ∧ n < 8) ∧ 1 ≤ c ∧ c ≤ 1048576
theorem isDot_yes (n c : Int) (w : World) (h : IsDot n c) : Calls Tryd.prog 82 #[.agg #[.int .i64 n, .int .i64 c]] w fun r w' => r = .returned (.bool true) ∧ Apart [] w w' := by
  obtain ⟨⟨h0, h8⟩, h1, h2⟩ := h
  go_enter Tryd.func82, Tryd.ntmps82
  go_wp2_with (go_at_call 112; refine (node_yes n _ h0 h8).mono ?_; rintro r w1 ⟨rfl, rfl⟩)
  go_ret
  exact ⟨rfl, (Apart.refl _ _).alloc _⟩
theorem isDot_no (n c : Int) (w : World) (h : ¬ IsDot n c) : Calls Tryd.prog 82 #[.agg #[.int .i64 n, .int .i64 c]] w fun r w' => r = .returned (.bool false) ∧ Apart [] w w' := by
  by_cases hn : 0 ≤ n ∧ n < 8
  · by_cases h1 : 1 ≤ c
    · have h2 : ¬ c ≤ 1048576 := fun h2 => h ⟨hn, h1, h2⟩
      clear h
      go_enter Tryd.func82, Tryd.ntmps82
      go_wp2_with (go_at_call 112; refine (node_yes n _ hn.1 hn.2).mono ?_; rintro r w1 ⟨rfl, rfl⟩)
      go_ret
      exact ⟨by first | rfl | (simp; omega), (Apart.refl _ _).alloc _⟩
    · clear h
      go_enter Tryd.func82, Tryd.ntmps82
      go_wp2_with (go_at_call 112; refine (node_yes n _ hn.1 hn.2).mono ?_; rintro r w1 ⟨rfl, rfl⟩)
      go_ret
      exact ⟨rfl, (Apart.refl _ _).alloc _⟩
  · clear h
    go_enter Tryd.func82, Tryd.ntmps82
    go_wp2_with (go_at_call 112; refine (node_no n _ hn).mono ?_; rintro r w1 ⟨rfl, rfl⟩)
    go_ret
    exact ⟨rfl, (Apart.refl _ _).alloc _⟩
theorem new1d (w : World) (a b : Value) (t : TypeId) {W : World} (h : Apart [] (w.alloc (.cells #[a, b] t)) W) : W.cell? ⟨w.heap.size, 0, none⟩ = some a ∧ W.cell? ⟨w.heap.size, 1, none⟩ = some b := by
  have b1 := new1 w #[a, b] t
  have b2 := (h.block _ (lt_of_heap b1) (by simp)).trans b1
  exact ⟨by rw [cell_of_row _ _ _ _ _ _ b2]; rfl, by rw [cell_of_row _ _ _ _ _ _ b2]; rfl⟩
set_option maxHeartbeats 2000000 in
theorem has_no {p : Option Addr} {N cap : Nat} {w : World} (dn dc : Int) (hd : ¬ IsDot dn dc) : Calls Tryd.prog 46 #[.slice p N cap, .agg #[.int .i64 dn, .int .i64 dc]] w fun r w' => r = .returned (.bool false) ∧ Apart [] w w' := by
  go_enter Tryd.func46, Tryd.ntmps46
  go_wp2_with fail
  have k := fun W => @new1d w (.int .i64 dn) (.int .i64 dc) 24 W
  have aV0 : Apart [] w (w.alloc (.cells #[.int .i64 dn, .int .i64 dc] 24)) := (Apart.refl _ _).alloc _
  generalize w.alloc (.cells #[.int .i64 dn, .int .i64 dc] 24) = V at *
  have r0 : ∀ W, Apart [] V W → W.cell? ⟨w.heap.size, 0, none⟩ = some (.int .i64 dn) := fun W a => (k W a).1
  have r1 : ∀ W, Apart [] V W → W.cell? ⟨w.heap.size, 1, none⟩ = some (.int .i64 dc) := fun W a => (k W a).2
  have aV : Apart [] V V.drew := (Apart.refl _ _).drew
  clear k
  refine wp_region_held_drew (S := fun W => Apart [] V W) (by kernel_rfl) aV (fun hHeld => ?_)
  refine wpAnyH_take (i := 0) (oi := ⟨some 5, _, _, _, _, _⟩) (v := (.agg #[.int .i64 dn, .int .i64 dc])) rfl (by kernel_rfl) (by kernel_rfl) (by kernel_rfl) (fun _ _ _ h => h) (Or.inl ⟨by rfl, ?_⟩) (by assumption) ?_
  · intro W hSW; go_simp
  simp only [Act.put, List.setIfInBounds_toArray, List.set_cons_zero, List.set_cons_succ]
  refine wpAnyH_ready (rs := [1]) (by kernel_rfl) (by simp) ?_
  refine AllReadyH.cons rfl (fun KK hKK => ?_) AllReadyH.nil
  go_simp
  refine (isDot_no dn dc _ hd).mono ?_
  rintro r w2 ⟨rfl, a2⟩
  dsimp only
  have a3 := aV.trans a2
  refine hKK.out _ _ (by assumption) (fun hHeld => ?_)
  clear hKK KK
  refine wpAnyH_take (i := 2) (oi := ⟨some 7, _, _, _, _, _⟩) (v := (.bool false)) rfl (by kernel_rfl) (by kernel_rfl) (by kernel_rfl) (fun _ _ _ h => h) (Or.inl ⟨by rfl, ?_⟩) (by assumption) ?_
  · intro W hSW; go_simp
  simp only [Act.put, List.setIfInBounds_toArray, List.set_cons_zero, List.set_cons_succ]
  refine wpAnyH_take (i := 3) (oi := ⟨some 8, _, _, _, _, _⟩) (v := undef) rfl (by kernel_rfl) (by kernel_rfl) (by kernel_rfl) (fun _ _ _ h => h) (Or.inr ⟨by rfl, rfl⟩) (by assumption) ?_
  simp only [Act.put, List.setIfInBounds_toArray, List.set_cons_zero, List.set_cons_succ]
  refine wpAnyH_take (i := 4) (oi := ⟨some 9, _, _, _, _, _⟩) (v := undef) rfl (by kernel_rfl) (by kernel_rfl) (by kernel_rfl) (fun _ _ _ h => h) (Or.inr ⟨by rfl, rfl⟩) (by assumption) ?_
  simp only [Act.put, List.setIfInBounds_toArray, List.set_cons_zero, List.set_cons_succ]
  refine wpAnyH_take (i := 5) (oi := ⟨some 10, _, _, _, _, _⟩) (v := undef) rfl (by kernel_rfl) (by kernel_rfl) (by kernel_rfl) (fun _ _ _ h => h) (Or.inr ⟨by rfl, rfl⟩) (by assumption) ?_
  simp only [Act.put, List.setIfInBounds_toArray, List.set_cons_zero, List.set_cons_succ]
  refine wpAnyH_take (i := 6) (oi := ⟨some 11, _, _, _, _, _⟩) (v := undef) rfl (by kernel_rfl) (by kernel_rfl) (by kernel_rfl) (fun _ _ _ h => h) (Or.inr ⟨by rfl, rfl⟩) (by assumption) ?_
  simp only [Act.put, List.setIfInBounds_toArray, List.set_cons_zero, List.set_cons_succ]
  refine wpAnyH_take (i := 7) (oi := ⟨some 12, _, _, _, _, _⟩) (v := undef) rfl (by kernel_rfl) (by kernel_rfl) (by kernel_rfl) (fun _ _ _ h => h) (Or.inr ⟨by rfl, rfl⟩) (by assumption) ?_
  simp only [Act.put, List.setIfInBounds_toArray, List.set_cons_zero, List.set_cons_succ]
  refine wpAnyH_take (i := 8) (oi := ⟨some 13, _, _, _, _, _⟩) (v := undef) rfl (by kernel_rfl) (by kernel_rfl) (by kernel_rfl) (fun _ _ _ h => h) (Or.inr ⟨by rfl, rfl⟩) (by assumption) ?_
  simp only [Act.put, List.setIfInBounds_toArray, List.set_cons_zero, List.set_cons_succ]
  refine wpAnyH_take (i := 9) (oi := ⟨some 14, _, _, _, _, _⟩) (v := undef) rfl (by kernel_rfl) (by kernel_rfl) (by kernel_rfl) (fun _ _ _ h => h) (Or.inr ⟨by rfl, rfl⟩) (by assumption) ?_
  simp only [Act.put, List.setIfInBounds_toArray, List.set_cons_zero, List.set_cons_succ]
  refine wpAnyH_take (i := 10) (oi := ⟨some 15, _, _, _, _, _⟩) (v := undef) rfl (by kernel_rfl) (by kernel_rfl) (by kernel_rfl) (fun _ _ _ h => h) (Or.inr ⟨by rfl, rfl⟩) (by assumption) ?_
  simp only [Act.put, List.setIfInBounds_toArray, List.set_cons_zero, List.set_cons_succ]
  refine wpAnyH_take (i := 11) (oi := ⟨some 16, _, _, _, _, _⟩) (v := (.bool false)) rfl (by kernel_rfl) (by kernel_rfl) (by kernel_rfl) (fun _ _ _ h => h) (Or.inl ⟨by rfl, ?_⟩) (by assumption) ?_
  · intro W hSW; go_simp
  simp only [Act.put, List.setIfInBounds_toArray, List.set_cons_zero, List.set_cons_succ]
  refine wpAnyH_take (i := 12) (oi := ⟨some 4, _, _, _, _, _⟩) (v := (.bool false)) rfl (by kernel_rfl) (by kernel_rfl) (by kernel_rfl) (fun _ _ _ h => h) (Or.inl ⟨by rfl, ?_⟩) (by assumption) ?_
  · intro W hSW; go_simp
  simp only [Act.put, List.setIfInBounds_toArray, List.set_cons_zero, List.set_cons_succ]
  refine wpAnyH_done (by kernel_rfl) ?_ _
  go_wp2
  go_ret
  exact ⟨rfl, aV0.trans a3⟩
set_option maxHeartbeats 2000000 in
theorem has_yes {p : Option Addr} {N cap : Nat} {xs : List S} {w : World} (dn dc : Int) (h : L w p N xs) (hd : IsDot dn dc) : Calls Tryd.prog 46 #[.slice p N cap, .agg #[.int .i64 dn, .int .i64 dc]] w fun r w' => r = .returned (.bool (dot (ofn (norm xs) dn) dc)) ∧ Apart [] w w' := by
  have hsm := (norm_ok xs).small (by decide) (by decide) dn
  have hdc : dc ≤ 9223372036854775807 := by have := hd.2.2; omega
  go_enter Tryd.func46, Tryd.ntmps46
  go_wp2_with fail
  have k := fun W => @new1d w (.int .i64 dn) (.int .i64 dc) 24 W
  have aV0 : Apart [] w (w.alloc (.cells #[.int .i64 dn, .int .i64 dc] 24)) := (Apart.refl _ _).alloc _
  generalize w.alloc (.cells #[.int .i64 dn, .int .i64 dc] 24) = V at *
  have r0 : ∀ W, Apart [] V W → W.cell? ⟨w.heap.size, 0, none⟩ = some (.int .i64 dn) := fun W a => (k W a).1
  have r1 : ∀ W, Apart [] V W → W.cell? ⟨w.heap.size, 1, none⟩ = some (.int .i64 dc) := fun W a => (k W a).2
  have aV : Apart [] V V.drew := (Apart.refl _ _).drew
  clear k
  go_region_held (fun W => Apart [] V W) (assumption) (first
    | (go_at_call 82; refine (isDot_yes dn dc _ hd).mono ?_; rintro r w2 ⟨rfl, a2⟩; have a3 := aV.trans a2)
    | (go_at_call 67; refine (asSet_ok ((h.kept0 aV0).kept0 a3)).mono ?_; rintro r w4 ⟨⟨p', N', cap', rfl, l4, a4⟩⟩; have a5 := a3.trans a4)
    | (go_at_call 68; refine (spanOf_ok p' N' cap' (norm xs) dn _ l4.sp l4.len l4.lim).mono ?_; rintro r w6 ⟨rfl, a6⟩; have a7 := a5.trans a6; dsimp only [spv])
    | (go_at_call 83; refine (holds_ok (ofn (norm xs) dn) dc _ hsm.1 hsm.2.2 hdc).mono ?_; rintro r w8 ⟨rfl, a8⟩; have a9 := a7.trans a8))
  go_wp2
  go_ret
  exact ⟨rfl, aV0.trans a9⟩
end Go.Proofs.YtokaeiahhmaokaaDoor.ds

