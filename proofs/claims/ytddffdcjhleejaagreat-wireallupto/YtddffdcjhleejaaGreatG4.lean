import Derived.Test.YtddffdcjhleejaaGreatG1
import Derived.Test.YtddffdcjhleejaaGreatG3
namespace Go.Proofs.YtddffdcjhleejaaGreat.ds
open Go.ChangeShapes Go.WideShapes Go.ChangeAt Go.RowKit
set_option linter.unusedVariables false
def Small (x : S) : Prop := 0 ≤ x.b ∧ x.b ≤ 4194304 ∧ x.t < 2 ^ 64
theorem OkL.small {g : Int} {xs : List S} (h : OkL g xs) (h0 : 0 ≤ g) (hg : g ≤ 64) (n : Int) : Small (ofn xs n) := by
  have k := h.okn h0 hg n
  have := k.mx
  unfold top at this
  exact ⟨k.wf.b0, by omega, k.wf.lt⟩
set_option maxHeartbeats 2000000 in
/-- a dot -/
def IsDot (n c : Int) : Prop := (0 ≤ n ∧ n < 8) ∧ 1 ≤ c ∧ c ≤ 1048576
theorem isDot_yes (n c : Int) (w : World) (h : IsDot n c) : Calls Tryz.prog 101 #[.agg #[.int .i64 n, .int .i64 c]] w fun r w' => r = .returned (.bool true) ∧ Apart [] w w' := by
  obtain ⟨⟨h0, h8⟩, h1, h2⟩ := h
  go_enter Tryz.func101, Tryz.ntmps101
  go_wp2_with (go_at_call 112; refine (node_yes n _ h0 h8).mono ?_; rintro r w1 ⟨rfl, rfl⟩)
  go_ret
  exact ⟨rfl, (Apart.refl _ _).alloc _⟩
theorem isDot_no (n c : Int) (w : World) (h : ¬ IsDot n c) : Calls Tryz.prog 101 #[.agg #[.int .i64 n, .int .i64 c]] w fun r w' => r = .returned (.bool false) ∧ Apart [] w w' := by
  by_cases hn : 0 ≤ n ∧ n < 8
  · by_cases h1 : 1 ≤ c
    · have h2 : ¬ c ≤ 1048576 := fun h2 => h ⟨hn, h1, h2⟩
      clear h
      go_enter Tryz.func101, Tryz.ntmps101
      go_wp2_with (go_at_call 112; refine (node_yes n _ hn.1 hn.2).mono ?_; rintro r w1 ⟨rfl, rfl⟩)
      go_ret
      exact ⟨by first | rfl | (simp; omega), (Apart.refl _ _).alloc _⟩
    · clear h
      go_enter Tryz.func101, Tryz.ntmps101
      go_wp2_with (go_at_call 112; refine (node_yes n _ hn.1 hn.2).mono ?_; rintro r w1 ⟨rfl, rfl⟩)
      go_ret
      exact ⟨rfl, (Apart.refl _ _).alloc _⟩
  · clear h
    go_enter Tryz.func101, Tryz.ntmps101
    go_wp2_with (go_at_call 112; refine (node_no n _ hn).mono ?_; rintro r w1 ⟨rfl, rfl⟩)
    go_ret
    exact ⟨rfl, (Apart.refl _ _).alloc _⟩
theorem new1d (w : World) (a b : Value) (t : TypeId) {W : World} (h : Apart [] (w.alloc (.cells #[a, b] t)) W) : W.cell? ⟨w.heap.size, 0, none⟩ = some a ∧ W.cell? ⟨w.heap.size, 1, none⟩ = some b := by
  have b1 := new1 w #[a, b] t
  have b2 := (h.block _ (lt_of_heap b1) (by simp)).trans b1
  exact ⟨by rw [cell_of_row _ _ _ _ _ _ b2]; rfl, by rw [cell_of_row _ _ _ _ _ _ b2]; rfl⟩
set_option maxHeartbeats 2000000 in
theorem has_no {p : Option Addr} {N cap : Nat} {w : World} (dn dc : Int) (hd : ¬ IsDot dn dc) : Calls Tryz.prog 76 #[.slice p N cap, .agg #[.int .i64 dn, .int .i64 dc]] w fun r w' => r = .returned (.bool false) ∧ Apart [] w w' := by
  go_enter Tryz.func76, Tryz.ntmps76
  go_wp2_with fail
  have k := fun W => @new1d w (.int .i64 dn) (.int .i64 dc) 25 W
  have aV0 : Apart [] w (w.alloc (.cells #[.int .i64 dn, .int .i64 dc] 25)) := (Apart.refl _ _).alloc _
  generalize w.alloc (.cells #[.int .i64 dn, .int .i64 dc] 25) = V at *
  have r0 : ∀ W, Apart [] V W → W.cell? ⟨w.heap.size, 0, none⟩ = some (.int .i64 dn) := fun W a => (k W a).1
  have r1 : ∀ W, Apart [] V W → W.cell? ⟨w.heap.size, 1, none⟩ = some (.int .i64 dc) := fun W a => (k W a).2
  have aV : Apart [] V V.drew := (Apart.refl _ _).drew
  clear k
  refine wp_region_held_drew (S := fun W => Apart [] V W) (by kernel_rfl) aV (fun hHeld => ?_)
  refine tk 0 5 (.agg #[.int .i64 dn, .int .i64 dc]) rfl ?_ ?_
  · intro W hSW; go_simp
  simp only [Act.put, List.setIfInBounds_toArray, List.set_cons_zero, List.set_cons_succ]
  refine wpAnyH_ready (rs := [1]) (by kernel_rfl) (by simp) ?_
  refine AllReadyH.cons rfl (fun KK hKK => ?_) AllReadyH.nil
  go_simp
  refine (isDot_no dn dc _ hd).mono ?_
  rintro r w2 ⟨rfl, a2⟩
  dsimp only
  have a3 := aV.trans a2
  refine hKK.out _ _ (by assumption) (fun hHeld => ?_)
  clear hKK KK
  refine tk 2 7 (.bool false) rfl ?_ ?_
  · intro W hSW; go_simp
  simp only [Act.put, List.setIfInBounds_toArray, List.set_cons_zero, List.set_cons_succ]
  refine tu 3 8 rfl ?_
  simp only [Act.put, List.setIfInBounds_toArray, List.set_cons_zero, List.set_cons_succ]
  refine tu 4 9 rfl ?_
  simp only [Act.put, List.setIfInBounds_toArray, List.set_cons_zero, List.set_cons_succ]
  refine tu 5 10 rfl ?_
  simp only [Act.put, List.setIfInBounds_toArray, List.set_cons_zero, List.set_cons_succ]
  refine tu 6 11 rfl ?_
  simp only [Act.put, List.setIfInBounds_toArray, List.set_cons_zero, List.set_cons_succ]
  refine tu 7 12 rfl ?_
  simp only [Act.put, List.setIfInBounds_toArray, List.set_cons_zero, List.set_cons_succ]
  refine tu 8 13 rfl ?_
  simp only [Act.put, List.setIfInBounds_toArray, List.set_cons_zero, List.set_cons_succ]
  refine tu 9 14 rfl ?_
  simp only [Act.put, List.setIfInBounds_toArray, List.set_cons_zero, List.set_cons_succ]
  refine tu 10 15 rfl ?_
  simp only [Act.put, List.setIfInBounds_toArray, List.set_cons_zero, List.set_cons_succ]
  refine tk 11 16 (.bool false) rfl ?_ ?_
  · intro W hSW; go_simp
  simp only [Act.put, List.setIfInBounds_toArray, List.set_cons_zero, List.set_cons_succ]
  refine tk 12 4 (.bool false) rfl ?_ ?_
  · intro W hSW; go_simp
  simp only [Act.put, List.setIfInBounds_toArray, List.set_cons_zero, List.set_cons_succ]
  refine wpAnyH_done (by kernel_rfl) ?_ _
  go_wp2
  go_ret
  exact ⟨rfl, aV0.trans a3⟩
set_option maxHeartbeats 2000000 in
theorem has_yes {p : Option Addr} {N cap : Nat} {xs : List S} {w : World} (dn dc : Int) (h : L w p N xs) (hd : IsDot dn dc) : Calls Tryz.prog 76 #[.slice p N cap, .agg #[.int .i64 dn, .int .i64 dc]] w fun r w' => r = .returned (.bool (dot (ofn (norm xs) dn) dc)) ∧ Apart [] w w' := by
  have hsm := (norm_ok xs).small (by decide) (by decide) dn
  have hdc : dc ≤ 9223372036854775807 := by have := hd.2.2; omega
  go_enter Tryz.func76, Tryz.ntmps76
  go_wp2_with fail
  have k := fun W => @new1d w (.int .i64 dn) (.int .i64 dc) 25 W
  have aV0 : Apart [] w (w.alloc (.cells #[.int .i64 dn, .int .i64 dc] 25)) := (Apart.refl _ _).alloc _
  generalize w.alloc (.cells #[.int .i64 dn, .int .i64 dc] 25) = V at *
  have r0 : ∀ W, Apart [] V W → W.cell? ⟨w.heap.size, 0, none⟩ = some (.int .i64 dn) := fun W a => (k W a).1
  have r1 : ∀ W, Apart [] V W → W.cell? ⟨w.heap.size, 1, none⟩ = some (.int .i64 dc) := fun W a => (k W a).2
  have aV : Apart [] V V.drew := (Apart.refl _ _).drew
  clear k
  go_region_held (fun W => Apart [] V W) (assumption) (first
    | (go_at_call 101; refine (isDot_yes dn dc _ hd).mono ?_; rintro r w2 ⟨rfl, a2⟩; have a3 := aV.trans a2)
    | (go_at_call 104; refine (asSet_ok ((h.kept0 aV0).kept0 a3)).mono ?_; rintro r w4 ⟨⟨p', N', cap', rfl, l4, a4⟩⟩; have a5 := a3.trans a4)
    | (go_at_call 103; refine (spanOf_ok p' N' cap' (norm xs) dn _ l4.sp l4.len l4.lim).mono ?_; rintro r w6 ⟨rfl, a6⟩; have a7 := a5.trans a6; dsimp only [spv])
    | (go_at_call 102; refine (holds_ok (ofn (norm xs) dn) dc _ hsm.1 hsm.2.2 hdc).mono ?_; rintro r w8 ⟨rfl, a8⟩; have a9 := a7.trans a8))
  go_wp2
  go_ret
  exact ⟨rfl, aV0.trans a9⟩
end Go.Proofs.YtddffdcjhleejaaGreat.ds

namespace Go.Proofs.YtddffdcjhleejaaGreat.ds
open Go.ChangeShapes Go.WideShapes Go.ChangeAt Go.RowKit
set_option linter.unusedVariables false
set_option maxHeartbeats 1000000 in
theorem bit_ok (n b : Int) (t i : Nat) (w : World) (ht : t < 2 ^ 64) (hi : i < 64) : Calls Tryz.prog 88 #[.agg #[.int .i64 n, .int .i64 b, .int .u64 t], .int .i64 i] w fun r w' => r = .returned (.bool (t.testBit i)) ∧ Apart [] w w' := by
  have hsh := run_shr t (i : Int) (by omega) ht
  have h64 : (i : Int) < 64 := by omega
  go_enter Tryz.func88, Tryz.ntmps88
  go_wp2
  go_ret
  refine ⟨?_, (Apart.refl _ _).alloc _⟩
  show Ending.returned (Value.bool (((t : Int) / 2 ^ i).tmod 2 == 1)) = _
  have e : (t : Int) / 2 ^ i = ((t / 2 ^ i : Nat) : Int) := by simp
  rw [e, Nat.testBit_eq_decide_div_mod_eq]
  generalize t / 2 ^ i = y
  have e2 : (y : Int).tmod 2 = ((y % 2 : Nat) : Int) := rfl
  rw [e2]
  refine congrArg Ending.returned (congrArg Value.bool ?_)
  by_cases h : y % 2 = 1
  · rw [h]; rfl
  · rw [decide_eq_false h]; simp; omega
end Go.Proofs.YtddffdcjhleejaaGreat.ds

namespace Go.Proofs.YtddffdcjhleejaaGreat.ds
open Go.ChangeShapes Go.WideShapes Go.ChangeAt Go.RowKit
set_option linter.unusedVariables false
/-- bit i may be set -/
def Bok (gap b : Int) (t i : Nat) : Prop := t.testBit i = true → i ≠ 0 ∧ (i : Int) < gap ∧ b + 1 + i ≤ 1048576
theorem bits_iff {gap b : Int} {t : Nat} (ht : t < 2 ^ 64) (hg : 1 ≤ gap) (hb : b ≤ 1048576) : (∀ i, i < 64 → Bok gap b t i) ↔ (t % 2 = 0 ∧ (bl t : Int) ≤ gap ∧ b + bl t ≤ 1048576) := by
  constructor
  · intro h
    have h' : ∀ i, t.testBit i = true → i ≠ 0 ∧ (i : Int) < gap ∧ b + 1 + i ≤ 1048576 := by
      intro i hi
      by_cases h64 : i < 64
      · exact h i h64 hi
      · rw [Nat.testBit_lt_two_pow (Nat.lt_of_lt_of_le ht (Nat.pow_le_pow_right (by omega) (by omega)))] at hi; cases hi
    refine ⟨?_, ?_, ?_⟩
    · rw [ev_bit]
      cases h0 : t.testBit 0
      · rfl
      · exact absurd rfl (h' 0 h0).1
    · have := (bl_le' (t := t) (k := gap.toNat)).2 fun i hi => by
        cases h0 : t.testBit i
        · rfl
        · have := (h' i h0).2.1; omega
      omega
    · have := (bl_le' (t := t) (k := (1048576 - b).toNat)).2 fun i hi => by
        cases h0 : t.testBit i
        · rfl
        · have := (h' i h0).2.2; omega
      omega
  · rintro ⟨h1, h2, h3⟩ i hi hb1
    have hlt : i < bl t := by
      by_cases hc : i < bl t
      · exact hc
      · have := (bl_le' (t := t) (k := bl t)).1 (Nat.le_refl _) i (by omega)
        rw [this] at hb1; cases hb1
    refine ⟨?_, by omega, by omega⟩
    rintro rfl
    rw [ev_bit.1 h1] at hb1; cases hb1
/-- the last node so far -/
def lastn (xs : List S) (k : Nat) : Int := if k = 0 then -1 else (g xs (k - 1)).n
theorem lastn_ge {gap : Int} {xs : List S} {k : Nat} (h : Pre gap xs k) : -1 ≤ lastn xs k := by
  unfold lastn
  split
  · omega
  · have := (h (k - 1) (by omega)).1.n0; omega
set_option maxHeartbeats 40000000 in
set_option maxRecDepth 100000 in
theorem right_ok {p : Option Addr} {N cap : Nat} {xs : List S} {gap : Int} {w : World} (h : L w p N xs) (hg : 1 ≤ gap ∧ gap ≤ 64) : Calls Tryz.prog 52 #[.slice p N cap, .int .i64 gap] w fun r w' => Tells r (OkL gap xs) ∧ Apart [] w w' := by
  have hlim := h.lim
  have HO : Hid (OkL gap xs ↔ ∀ i, i < xs.length → Ok gap (g xs i) ∧ (0 < i → (g xs (i - 1)).n < (g xs i).n)) := okL_iff gap xs
  go_enter Tryz.func52, Tryz.ntmps52
  go_wp2_with fail
  go_loopw [5, 6] (fun l v wr => ∃ k : Nat, k ≤ N ∧ v = .int .i64 k ∧ l = .int .i64 (lastn xs k) ∧ Apart [] w wr ∧ Pre gap xs k) (fun _ v _ => N - (intOf v).toNat)
  case atStart => exact ⟨0, Nat.zero_le _, rfl, rfl, Apart.refl _ _, fun j hj => absurd hj (by omega)⟩
  case round =>
    obtain ⟨k, hk, rfl, rfl, aR, hno⟩ := hrel
    by_cases hlt : k < N
    · have HI : Hid (k < xs.length) := by show k < xs.length; rw [h.len]; omega
      obtain ⟨P, o, rfl, hP, hc⟩ := (h.kept0 aR).sp (by rw [h.len]; omega)
      obtain ⟨c0, c1, c2⟩ := hc k HI.out
      have hxt := h.fit _ (g_mem HI.out)
      obtain ⟨⟨xn, xb, xt⟩, HX⟩ : ∃ x, Hid (x = g xs k) := ⟨_, rfl⟩
      rw [← HX.out] at c0 c1 c2 hxt
      simp only at c0 c1 c2 hxt
      obtain ⟨ln, HL⟩ : ∃ l, Hid (l = lastn xs k) := ⟨_, rfl⟩
      have hln := lastn_ge hno
      rw [← HL.out] at hln ⊢
      clear hc
      have HQ : Hid (Ok gap ⟨xn, xb, xt⟩ ∧ ln < xn ↔ Ok gap (g xs k) ∧ (0 < k → (g xs (k - 1)).n < (g xs k).n)) := by
        show Ok gap ⟨xn, xb, xt⟩ ∧ ln < xn ↔ Ok gap (g xs k) ∧ (0 < k → (g xs (k - 1)).n < (g xs k).n)
        rw [← HX.out]
        rw [HL.out]
        unfold lastn
        by_cases hk0 : k = 0
        · subst hk0
          simp only [if_pos]
          exact ⟨fun h => ⟨h.1, fun h => absurd h (by omega)⟩, fun h => ⟨h.1, by have := h.1.n0; simp only at this; omega⟩⟩
        · rw [if_neg hk0]
          exact ⟨fun h => ⟨h.1, fun _ => h.2⟩, fun h => ⟨h.1, h.2 (by omega)⟩⟩
      have HB : Hid (¬ (Ok gap ⟨xn, xb, xt⟩ ∧ ln < xn) → ¬ OkL gap xs) := fun hn hk => hn (HQ.out.2 (HO.out.1 hk k HI.out))
      have aX : Apart [] wr (wr.alloc (.cells #[.int .i64 xn, .int .i64 xb, .int .u64 xt] 48)) := (Apart.refl _ _).alloc _
      have a1 := aR.trans aX
      by_cases e1 : xn ≤ ln
      · have E1 : Hid (xn ≤ ln) := e1
        go_wp2
        go_ret
        exact ⟨.no (HB.out fun h => by have := h.2; have := E1.out; omega), a1⟩
      · have e1' : ln < xn := by omega
        by_cases e2 : 8 ≤ xn
        · have E2 : Hid (8 ≤ xn) := e2
          go_wp2
          go_ret
          exact ⟨.no (HB.out fun h => by have := h.1.n8; simp only at this; have := E2.out; omega), a1⟩
        · by_cases e3 : xb < 0
          · have E3 : Hid (xb < 0) := e3
            go_wp2
            go_ret
            exact ⟨.no (HB.out fun h => by have := h.1.b0; simp only at this; have := E3.out; omega), a1⟩
          · by_cases e4 : 1048576 < xb
            · have E4 : Hid (1048576 < xb) := e4
              go_wp2
              go_ret
              exact ⟨.no (HB.out fun h => by have := h.1.bM; simp only at this; have := E4.out; omega), a1⟩
            · by_cases e5 : xb = 0 ∧ xt = 0
              · obtain ⟨rfl, rfl⟩ := e5
                go_wp2
                go_ret
                exact ⟨.no (HB.out fun h => h.1.ne ⟨rfl, rfl⟩), a1⟩
              · have HR : Hid (Ok gap ⟨xn, xb, xt⟩ ↔ ∀ i, i < 64 → Bok gap xb xt i) := by
                  show Ok gap ⟨xn, xb, xt⟩ ↔ ∀ i, i < 64 → Bok gap xb xt i
                  rw [bits_iff hxt hg.1 (by omega)]
                  exact ⟨fun h => ⟨h.ev, h.gp, h.mx⟩, fun h => ⟨by show 0 ≤ xn; omega, by show xn < 8; omega, by show 0 ≤ xb; omega, by show xb ≤ 1048576; omega, e5, h.1, h.2.1, h.2.2⟩⟩
                have E5 : Hid (¬ (xb = 0 ∧ xt = 0)) := e5
                have H1 : Hid (ln < xn) := e1'
                have bX := new1 wr #[.int .i64 xn, .int .i64 xb, .int .u64 xt] 48
                have hb0 : 0 ≤ xb := by omega
                have hb1 : xb ≤ 1048576 := by omega
                obtain ⟨z6, H6⟩ : ∃ z : Bool, Hid (z = (xb == 0)) := ⟨_, rfl⟩
                have e7 : z6 = true → ((xt : Int) == 0) = false := fun hz => by
                  have hxb : xb = 0 := by rw [H6.out] at hz; simpa using hz
                  have := E5.out; simp; omega
                have e6 : (xb == 0) = z6 := H6.out.symm
                cases z6
                all_goals
                  first
                  | (have e8 := e7 rfl; clear e7)
                  | clear e7
                  go_wp2_with fail
                  generalize wr.alloc (.cells #[.int .i64 xn, .int .i64 xb, .int .u64 xt] 48) = V at *
                  have rX : ∀ W, Apart [] V W → W.heap[wr.heap.size]? = some (.cells #[.int .i64 xn, .int .i64 xb, .int .u64 xt] 48 (0, 0)) := fun W a => (a.block _ (lt_of_heap bX) (by simp)).trans bX
                  go_loopw [8] (fun v wq => ∃ i : Nat, i ≤ 64 ∧ v = .int .i64 i ∧ Apart [] V wq ∧ (∀ j, j < i → Bok gap xb xt j)) (fun v _ => 64 - (intOf v).toNat)
                  case atStart => exact ⟨0, Nat.zero_le _, rfl, Apart.refl _ _, fun j hj => absurd hj (by omega)⟩
                  case round =>
                    obtain ⟨i, hi, rfl, aQ, hbk⟩ := hrel
                    by_cases hi64 : i < 64
                    · obtain ⟨⟨q0, q1, q2⟩, _⟩ := rowc (rX _ aQ)
                      have HT : Hid (Bok gap xb xt i ↔ (xt.testBit i = true → i ≠ 0 ∧ (i : Int) < gap ∧ xb + 1 + i ≤ 1048576)) := Iff.rfl
                      have h64 : (i : Int) < 64 := by omega
                      have hw1 : IntKind.i64.wrap (xb + 1) = xb + 1 := by rw [IntKind.wrap_i64]; omega
                      have hw2 : IntKind.i64.wrap (xb + 1 + (i : Int)) = xb + 1 + (i : Int) := by rw [IntKind.wrap_i64]; omega
                      have hbc := fun w => bit_ok xn xb xt i w hxt hi64
                      have next : Bok gap xb xt i → ∀ j, j < i + 1 → Bok gap xb xt j := fun hB j hj => by
                        by_cases hji : j = i
                        · subst hji; exact hB
                        · exact hbk j (by omega)
                      have bad : ¬ Bok gap xb xt i → ¬ OkL gap xs := fun hB => HB.out fun hh => hB (HR.out.1 hh.1 i hi64)
                      have Next : Hid (Bok gap xb xt i → ∀ j, j < i + 1 → Bok gap xb xt j) := next
                      have Bad : Hid (¬ Bok gap xb xt i → ¬ OkL gap xs) := bad
                      clear next bad
                      cases hbit : xt.testBit i
                      · have HF : Hid (xt.testBit i = false) := hbit
                        simp only [hbit] at hbc
                        clear hbit
                        go_wp2_with (go_at_call 88; refine (hbc _).mono ?_; rintro r w5 ⟨rfl, a5⟩)
                        go_roundw
                        case rel => exact ⟨i + 1, by omega, rfl, aQ.trans a5, Next.out (HT.out.2 fun ht => by rw [HF.out] at ht; cases ht)⟩
                        case measure => simp [intOf]; omega
                      · have HF : Hid (xt.testBit i = true) := hbit
                        simp only [hbit] at hbc
                        clear hbit
                        by_cases f1 : i = 0
                        · subst f1
                          go_wp2_with (go_at_call 88; refine (hbc _).mono ?_; rintro r w5 ⟨rfl, a5⟩)
                          go_ret
                          exact ⟨.no (Bad.out fun hB => (HT.out.1 hB HF.out).1 rfl), a1.trans (aQ.trans a5)⟩
                        · have F1 : Hid (i ≠ 0) := f1
                          have f1' : ((i : Int) == 0) = false := by simp; exact f1
                          by_cases f2 : (i : Int) < gap
                          · have F2 : Hid ((i : Int) < gap) := f2
                            have f2' : ¬ gap ≤ (i : Int) := by omega
                            by_cases f3 : xb + 1 + (i : Int) ≤ 1048576
                            · have F3 : Hid (xb + 1 + (i : Int) ≤ 1048576) := f3
                              go_wp2_with (go_at_call 88; refine (hbc _).mono ?_; rintro r w5 ⟨rfl, a5⟩; obtain ⟨⟨q5, q6, q7⟩, _⟩ := rowc (rX _ (aQ.trans a5)))
                              go_roundw
                              case rel => exact ⟨i + 1, by omega, rfl, aQ.trans a5, Next.out (HT.out.2 fun ht => ⟨F1.out, F2.out, F3.out⟩)⟩
                              case measure => simp [intOf]; omega
                            · have F3 : Hid (¬ xb + 1 + (i : Int) ≤ 1048576) := f3
                              go_wp2_with (go_at_call 88; refine (hbc _).mono ?_; rintro r w5 ⟨rfl, a5⟩; obtain ⟨⟨q5, q6, q7⟩, _⟩ := rowc (rX _ (aQ.trans a5)))
                              go_ret
                              refine ⟨.no (Bad.out fun hB => ?_), a1.trans (aQ.trans a5)⟩
                              have := (HT.out.1 hB HF.out).2.2
                              have := F3.out
                              omega
                          · have F2 : Hid (¬ (i : Int) < gap) := f2
                            have f2' : gap ≤ (i : Int) := by omega
                            go_wp2_with (go_at_call 88; refine (hbc _).mono ?_; rintro r w5 ⟨rfl, a5⟩)
                            go_ret
                            refine ⟨.no (Bad.out fun hB => ?_), a1.trans (aQ.trans a5)⟩
                            have := (HT.out.1 hB HF.out).2.1
                            have := F2.out
                            omega
                    · go_wp2
                      go_roundw
                      case rel =>
                        have hok := HQ.out.1 ⟨HR.out.2 fun i hi => hbk i (by omega), H1.out⟩
                        refine ⟨k + 1, by omega, rfl, ?_, a1.trans aQ, fun j hj => ?_⟩
                        · unfold lastn
                          rw [if_neg (by omega), Nat.add_sub_cancel, ← HX.out]
                        · by_cases hji : j = k
                          · subst hji; exact hok
                          · exact hno j (by omega)
                      case measure => simp [intOf]; omega
    · go_wp2
      go_ret
      refine ⟨.yes (HO.out.2 fun j hj => ?_), aR⟩
      exact hno j (by have := h.len; omega)
end Go.Proofs.YtddffdcjhleejaaGreat.ds

