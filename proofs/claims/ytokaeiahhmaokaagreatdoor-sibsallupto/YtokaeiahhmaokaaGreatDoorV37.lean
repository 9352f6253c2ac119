import Derived.Test.YtokaeiahhmaokaaGreatDoorV36
import Derived.Test.YtokaeiahhmaokaaGreatDoorV34
namespace Go.Proofs.YtokaeiahhmaokaaGreatDoor.ds
open Go.ChangeShapes Go.WideShapes Go.ChangeAt Go.RowKit
set_option linter.unusedVariables false
set_option linter.unusedSimpArgs false
/-- the set with the dot, node by node -/
def addF (xs : List S) (dn dc : Int) (j : Nat) : S := if (j : Int) = dn then withc (ofn xs dn) dc else ofn xs j
theorem addF_n (xs : List S) (dn dc : Int) (j : Nat) : (addF xs dn dc j).n = j := by
  unfold addF
  split
  · rename_i h; rw [withc_n, ofn_n, h]
  · exact ofn_n xs j
theorem addF_okn {gp : Int} {xs : List S} (k : OkL gp xs) (h0 : 1 ≤ gp) (hg : gp ≤ 64) (dn dc : Int) (hc : 1 ≤ dc ∧ dc ≤ 1048576) (hcg : dc ≤ (ofn xs dn).b + gp) (j : Nat) : Okn gp j (addF xs dn dc j) := by
  unfold addF
  split
  · rename_i h
    rw [h]
    exact withc_okn (k.okn (by omega) hg dn) hg hc.1 hc.2 hcg
  · exact k.okn (by omega) hg j
theorem addl_eq (xs : List S) (dn dc : Int) : addl xs dn dc = gath (addF xs dn dc) 8 := rfl
theorem addl_ok {gp : Int} {xs : List S} (k : OkL gp xs) (h0 : 1 ≤ gp) (hg : gp ≤ 64) (dn dc : Int) (hc : 1 ≤ dc ∧ dc ≤ 1048576) (hcg : dc ≤ (ofn xs dn).b + gp) : OkL gp (addl xs dn dc) := by
  rw [addl_eq]
  exact gath_ok (fun j _ => addF_okn k h0 hg dn dc hc hcg j) (fun j => addF_n xs dn dc j) 8 (by omega)
theorem target_old {gp : Int} {xs : List S} (k : OkL gp xs) (h0 : 1 ≤ gp) (hg : gp ≤ 64) (dn dc : Int) (hle : dc ≤ (ofn xs dn).b) : Target xs [] (addF xs dn dc) := by
  have e : ∀ j : Nat, addF xs dn dc j = ofn xs j := by
    intro j
    unfold addF
    split
    · rename_i h; unfold withc; rw [if_pos hle, h]
    · rfl
  have okn := fun j : Nat => k.okn (by omega : 0 ≤ gp) hg (j : Int)
  refine ⟨fun j => addF_n xs dn dc j, fun j _ => by rw [e]; exact (okn j).wf, fun j _ => ?_, fun j _ c hc => ?_, fun j _ => ⟨(okn j).wf.b0, by rw [e]; omega⟩, fun j _ => ⟨Int.le_refl 0, by rw [ofn_nil, e]; exact (okn j).wf.b0⟩⟩
  · rw [e]
    have := (okn j).mx
    unfold top at this
    omega
  · rw [e, inL_ofn k _ _ hc]
    simp [inL]
theorem target_new {gp : Int} {xs : List S} (k : OkL gp xs) (h0 : 1 ≤ gp) (hg : gp ≤ 64) (dn dc : Int) (hc : 1 ≤ dc ∧ dc ≤ 1048576) (hcg : dc ≤ (ofn xs dn).b + gp) (hgt : (ofn xs dn).b < dc) : Target xs [⟨dn, (ofn xs dn).b, 2 ^ (dc - (ofn xs dn).b - 1).toNat⟩] (addF xs dn dc) := by
  have okn := fun j : Nat => k.okn (by omega : 0 ≤ gp) hg (j : Int)
  have okf := fun j : Nat => addF_okn k h0 hg dn dc hc hcg j
  have hb0 := (k.okn (by omega : 0 ≤ gp) hg dn).wf.b0
  refine ⟨fun j => addF_n xs dn dc j, fun j _ => (okf j).wf, fun j _ => ?_, fun j _ c hc1 => ?_, fun j _ => ⟨(okn j).wf.b0, ?_⟩, fun j _ => ?_⟩
  · have := (okf j).mx
    unfold top at this
    omega
  · rw [inL_ofn k _ _ hc1]
    unfold addF
    by_cases hj : (j : Int) = dn
    · rw [if_pos hj, hj, withc_dot hc.1 c hc1]
      simp only [inL, List.any_cons, List.any_nil, Bool.or_false, inS]
      rw [decide_eq_true hc1]
      simp only [decide_true, Bool.true_and]
      unfold dot
      simp only [Nat.testBit_two_pow]
      by_cases h1 : c ≤ (ofn xs dn).b
      · simp [h1]
      · have : decide ((dc - (ofn xs dn).b - 1).toNat = (c - (ofn xs dn).b - 1).toNat) = decide (c = dc) := by
          rw [decide_eq_decide]; omega
        rw [this]; simp [h1]
    · rw [if_neg hj]
      have : decide (dn = (j : Int)) = false := decide_eq_false (fun h => hj h.symm)
      simp [inL, inS, this]
  · unfold addF
    split
    · rename_i h; rw [h]; exact withc_base
    · omega
  · simp only [ofn]
    unfold addF
    by_cases hj : (j : Int) = dn
    · rw [if_pos hj.symm, if_pos hj]
      exact ⟨hb0, withc_base⟩
    · rw [if_neg (fun h => hj h.symm), if_neg hj]
      exact ⟨Int.le_refl 0, (okn j).wf.b0⟩
section
variable {p : Option Addr} {N cap : Nat} {xs : List S} {w : World} (dn dc gap : Int)
set_option maxHeartbeats 2000000 in
theorem radd_early (h : ¬ ((1 ≤ gap ∧ gap ≤ 64) ∧ isd dn dc = true)) : Calls Tryz.prog 42 #[.slice p N cap, .agg #[.int .i64 dn, .int .i64 dc], .int .i64 gap] w fun r w' => r = .returned (.tuple #[.slice none 0 0, .int .i64 1]) ∧ Apart [] w w' := by
  have kB := fun W => @new1d w (.int .i64 dn) (.int .i64 dc) 24 W
  have aB : Apart [] w (w.alloc (.cells #[.int .i64 dn, .int .i64 dc] 24)) := (Apart.refl _ _).alloc _
  have hd := fun w => rdot_ok dn dc w
  obtain ⟨u, HU⟩ : ∃ u, Hid (u = isd dn dc) := ⟨_, rfl⟩
  rw [← HU.out] at h
  simp only [← HU.out] at hd
  by_cases h1 : gap < 1
  · go_enter Tryz.func42, Tryz.ntmps42
    go_wp2_with (go_at_call 71; refine (hd _).mono ?_; rintro r w1 ⟨rfl, a1⟩)
    go_ret2
    exact ⟨rfl, aB.trans a1⟩
  · by_cases h2 : 64 < gap
    · go_enter Tryz.func42, Tryz.ntmps42
      go_wp2_with (go_at_call 71; refine (hd _).mono ?_; rintro r w1 ⟨rfl, a1⟩)
      go_ret2
      exact ⟨rfl, aB.trans a1⟩
    · cases u
      · go_enter Tryz.func42, Tryz.ntmps42
        go_wp2_with (go_at_call 71; refine (hd _).mono ?_; rintro r w1 ⟨rfl, a1⟩)
        go_ret2
        exact ⟨rfl, aB.trans a1⟩
      · exact absurd ⟨by omega, rfl⟩ h
set_option maxHeartbeats 2000000 in
theorem radd_set (l : L w p N xs) (hg : 1 ≤ gap ∧ gap ≤ 64) (hi : isd dn dc = true) (k : ¬ OkL gap xs) : Calls Tryz.prog 42 #[.slice p N cap, .agg #[.int .i64 dn, .int .i64 dc], .int .i64 gap] w fun r w' => r = .returned (.tuple #[.slice none 0 0, .int .i64 30]) ∧ Apart [] w w' := by
  have aB : Apart [] w (w.alloc (.cells #[.int .i64 dn, .int .i64 dc] 24)) := (Apart.refl _ _).alloc _
  have hd := fun w => rdot_ok dn dc w
  simp only [hi] at hd
  have g1 : ¬ gap < 1 := by omega
  have g2 : ¬ 64 < gap := by omega
  go_enter Tryz.func42, Tryz.ntmps42
  go_wp2_with fail
  refine (hd _).mono ?_
  rintro r w1 ⟨rfl, a1⟩
  dsimp only
  have a2 := aB.trans a1
  go_wp2_with fail
  refine (right_no (l.kept0 a2) hg k).mono ?_
  rintro r w3 ⟨rfl, a3⟩
  dsimp only
  go_wp2
  go_ret2
  exact ⟨rfl, a2.trans a3⟩
set_option maxHeartbeats 2000000 in
theorem radd_gap (l : L w p N xs) (hg : 1 ≤ gap ∧ gap ≤ 64) (hi : isd dn dc = true) (k : OkL gap xs) (hc : (ofn xs dn).b + gap < dc) : Calls Tryz.prog 42 #[.slice p N cap, .agg #[.int .i64 dn, .int .i64 dc], .int .i64 gap] w fun r w' => r = .returned (.tuple #[.slice none 0 0, .int .i64 31]) ∧ Apart [] w w' := by
  have kB := fun W => @new1d w (.int .i64 dn) (.int .i64 dc) 24 W
  have aB : Apart [] w (w.alloc (.cells #[.int .i64 dn, .int .i64 dc] 24)) := (Apart.refl _ _).alloc _
  have hd := fun w => rdot_ok dn dc w
  simp only [hi] at hd
  have g1 : ¬ gap < 1 := by omega
  have g2 : ¬ 64 < gap := by omega
  have sm := k.small (by omega) hg.2 dn
  obtain ⟨b, Hb⟩ : ∃ b, Hid (b = (ofn xs dn).b) := ⟨_, rfl⟩
  have hbase := fun W (l : L W p N xs) => rbase_ok (cap := cap) (w := W) dn l
  simp only [← Hb.out] at hbase
  have sb0 : 0 ≤ b := by rw [Hb.out]; exact sm.1
  have sb1 : b ≤ 4194304 := by rw [Hb.out]; exact sm.2.1
  have hwr : IntKind.i64.wrap (b + gap) = b + gap := by rw [IntKind.wrap_i64]; omega
  clear sm
  go_enter Tryz.func42, Tryz.ntmps42
  go_wp2_with fail
  generalize w.alloc (.cells #[.int .i64 dn, .int .i64 dc] 24) = V0 at *
  refine (hd _).mono ?_
  rintro r w1 ⟨rfl, a1⟩
  dsimp only
  go_wp2_with fail
  refine (right_yes ((l.kept0 aB).kept0 a1) hg k).mono ?_
  rintro r w3 ⟨rfl, a3⟩
  dsimp only
  have a4 := a1.trans a3
  obtain ⟨e0, e1⟩ := kB w3 a4
  have l3 := (l.kept0 aB).kept0 a4
  go_wp2_with fail
  rw [← Hb.out] at hc
  go_quiet (first | (go_at_call 72; exact Calls.quiet_of_same (hbase _ (l3.kept0 ((Apart.refl _ _).drewN _)))))
  go_wp2
  go_ret2
  exact ⟨rfl, (aB.trans a4).drewN _⟩
set_option maxHeartbeats 4000000 in
theorem radd_ok (l : L w p N xs) (hg : 1 ≤ gap ∧ gap ≤ 64) (hi : isd dn dc = true) (k : OkL gap xs) (hdc : 1 ≤ dc ∧ dc ≤ 1048576) (hc : dc ≤ (ofn xs dn).b + gap) : Calls Tryz.prog 42 #[.slice p N cap, .agg #[.int .i64 dn, .int .i64 dc], .int .i64 gap] w fun r w' => RPost w w' r (addl xs dn dc) := by
  have Hc : Hid (dc ≤ (ofn xs dn).b + gap) := hc
  have kB := fun W => @new1d w (.int .i64 dn) (.int .i64 dc) 24 W
  have aB : Apart [] w (w.alloc (.cells #[.int .i64 dn, .int .i64 dc] 24)) := (Apart.refl _ _).alloc _
  have hd := fun w => rdot_ok dn dc w
  simp only [hi] at hd
  have g1 : ¬ gap < 1 := by omega
  have g2 : ¬ 64 < gap := by omega
  have sm := k.small (by omega) hg.2 dn
  obtain ⟨b, Hb⟩ : ∃ b, Hid (b = (ofn xs dn).b) := ⟨_, rfl⟩
  have hbase := fun W (l : L W p N xs) => rbase_ok (cap := cap) (w := W) dn l
  simp only [← Hb.out] at hbase
  have sb0 : 0 ≤ b := by rw [Hb.out]; exact sm.1
  have sb1 : b ≤ 4194304 := by rw [Hb.out]; exact sm.2.1
  have hwr : IntKind.i64.wrap (b + gap) = b + gap := by rw [IntKind.wrap_i64]; omega
  clear sm
  go_enter Tryz.func42, Tryz.ntmps42
  go_wp2_with fail
  generalize w.alloc (.cells #[.int .i64 dn, .int .i64 dc] 24) = V0 at *
  refine (hd _).mono ?_
  rintro r w1 ⟨rfl, a1⟩
  dsimp only
  go_wp2_with fail
  refine (right_yes ((l.kept0 aB).kept0 a1) hg k).mono ?_
  rintro r w3 ⟨rfl, a3⟩
  dsimp only
  have a4 := a1.trans a3
  obtain ⟨e0, e1⟩ := kB w3 a4
  have l3 := (l.kept0 aB).kept0 a4
  go_wp2_with fail
  have hnc : ¬ b + gap < dc := by rw [Hb.out]; omega
  have hw1 : IntKind.i64.wrap (dc - 1) = dc - 1 := by rw [IntKind.wrap_i64]; omega
  go_quiet (first | (go_at_call 72; exact Calls.quiet_of_same (hbase _ (l3.kept0 ((Apart.refl _ _).drewN _)))))
  have a5 := a4.drewN nq
  have l5 := (l.kept0 aB).kept0 a5
  obtain ⟨e2, e3⟩ := kB _ a5
  clear e0 e1 hc
  generalize w3.drewN nq = W5 at *
  go_wp2_with fail
  have aO : Apart [] W5 (W5.alloc (.cells #[.int .i64 dn, .int .i64 (dc - 1), .int .u64 1] 47)) := (Apart.refl _ _).alloc _
  have bO := new1 W5 #[.int .i64 dn, .int .i64 (dc - 1), .int .u64 1] 47
  have l6 := l5.kept0 aO
  obtain ⟨e4, e5⟩ := kB _ (a5.trans aO)
  by_cases hgt : b < dc
  · go_quiet (first | (go_at_call 72; exact Calls.quiet_of_same (hbase _ (l6.kept0 ((Apart.refl _ _).drewN _)))))
    have a7 := (a5.trans aO).drewN nq
    have l7 := (l.kept0 aB).kept0 a7
    have row7 : ((W5.alloc (.cells #[.int .i64 dn, .int .i64 (dc - 1), .int .u64 1] 47)).drewN nq).heap[W5.heap.size]? = some (.cells #[.int .i64 dn, .int .i64 (dc - 1), .int .u64 1] 47 (0, 0)) := bO
    obtain ⟨e6, e7⟩ := kB _ a7
    have hO : w.heap.size < W5.heap.size := by have := block_lt_of_cell e2; exact this
    generalize (W5.alloc (.cells #[.int .i64 dn, .int .i64 (dc - 1), .int .u64 1] 47)).drewN nq = W7 at *
    obtain ⟨O, HO⟩ : ∃ O, Hid (O = W5.heap.size) := ⟨_, rfl⟩
    rw [← HO.out] at row7 hO ⊢
    clear e2 e3 e4 e5 aO bO l6
    obtain ⟨⟨u0, u1, u2⟩, v0, v1, v2⟩ := rowc row7
    have hne : w.heap.size ≠ O := by omega
    go_wp2_with (go_at_call 72; refine (hbase _ l7).mono ?_; rintro r w8 ⟨rfl, rfl⟩)
    have aS : Apart [O] w8 (w8.setCell ⟨O, 1, none⟩ (.int .i64 b)) := (Apart.refl _ _).setCell (.inl (by simp)) _
    have row8 : (w8.setCell ⟨O, 1, none⟩ (.int .i64 b)).heap[O]? = some (.cells #[.int .i64 dn, .int .i64 b, .int .u64 1] 47 (0, 0)) := by
      have := heap_setCell_same w8 O 1 _ 47 (.int .i64 b) row7
      simpa using this
    have lt0 : w.heap.size < w8.heap.size := block_lt_of_cell e6
    have f0 := (aS.cell (p := ⟨w.heap.size, 0, none⟩) lt0 (by simpa using hne)).trans e6
    have f1 := (aS.cell (p := ⟨w.heap.size, 1, none⟩) lt0 (by simpa using hne)).trans e7
    have aT : Apart [] w (w8.setCell ⟨O, 1, none⟩ (.int .i64 b)) := (aB.trans a7).trans' aS (by intro z hz; simp only [List.mem_singleton] at hz; omega)
    generalize w8.setCell ⟨O, 1, none⟩ (.int .i64 b) = W9 at *
    clear u0 u1 u2 v0 v1 v2
    obtain ⟨⟨u0, u1, u2⟩, v0, v1, v2⟩ := rowc row8
    have hnn : (0 : Int) ≤ dc - b - 1 := by omega
    have hs1 : IntKind.i64.wrap (dc - b) = dc - b := by rw [IntKind.wrap_i64]; omega
    have hs2 : IntKind.i64.wrap (dc - b - 1) = dc - b - 1 := by rw [IntKind.wrap_i64]; omega
    have hb64 : (dc - b - 1).toNat < 64 := by
      have := Hc.out
      rw [← Hb.out] at this
      omega
    obtain ⟨Q, HQ⟩ : ∃ Q : Nat, Hid (Q = 2 ^ (dc - b - 1).toNat) := ⟨_, rfl⟩
    have hshl : IntKind.u64.wrap (2 ^ ((dc - b).toNat - 1)) = (Q : Int) := by
      have e : (dc - b).toNat - 1 = (dc - b - 1).toNat := by omega
      have e3 : ((2 : Int) ^ (dc - b - 1).toNat) = ((2 ^ (dc - b - 1).toNat : Nat) : Int) := by simp
      rw [e, e3, ← HQ.out]
      have hp : Q < 2 ^ 64 := by rw [HQ.out]; exact Nat.pow_lt_pow_right (by omega) hb64
      rw [IntKind.wrap_u64]; omega
    have hQ : Q < 2 ^ 64 := by rw [HQ.out]; exact Nat.pow_lt_pow_right (by omega) hb64
    go_region
    go_wp2_with fail
    have aF : Apart [O] W9 (W9.setCell ⟨O, 2, none⟩ (.int .u64 (Q : Int))).drew := ((Apart.refl _ _).setCell (.inl (by simp)) _).drew
    have rowF : (W9.setCell ⟨O, 2, none⟩ (.int .u64 (Q : Int))).drew.heap[O]? = some (.cells #[.int .i64 dn, .int .i64 b, .int .u64 (Q : Int)] 47 (0, 0)) := by
      have := heap_setCell_same W9 O 2 _ 47 (.int .u64 (Q : Int)) row8
      have h2 : (W9.setCell ⟨O, 2, none⟩ (.int .u64 (Q : Int))).heap[O]? = some (.cells #[.int .i64 dn, .int .i64 b, .int .u64 (Q : Int)] 47 (0, 0)) := by simpa using this
      exact h2
    have aG : Apart [] w (W9.setCell ⟨O, 2, none⟩ (.int .u64 (Q : Int))).drew := aT.trans' aF (by intro z hz; simp only [List.mem_singleton] at hz; omega)
    generalize (W9.setCell ⟨O, 2, none⟩ (.int .u64 (Q : Int))).drew = WF at *
    have tg := target_new k hg.1 hg.2 dn dc hdc Hc.out (by rw [← Hb.out]; exact hgt)
    rw [← Hb.out, ← HQ.out] at tg
    have lo : L WF (some ⟨O, 0, none⟩) 1 [⟨dn, b, Q⟩] := by
      refine ⟨fun _ => ⟨O, 0, rfl, lt_of_heap rowF, fun i hi => ?_⟩, rfl, by decide, fun x hx => by simp at hx; subst hx; exact hQ⟩
      obtain rfl : i = 0 := by simp at hi; omega
      exact (rowc rowF).1
    refine (both_ok _ tg (l.kept0 aG) lo k.bases (by intro x hx; simp at hx; subst hx; exact ⟨sb0, sb1⟩)).mono ?_
    rintro r w10 ⟨⟨p8, n8, c8, rfl, own8, hn8⟩⟩
    dsimp only
    go_wp2
    go_ret2
    exact ⟨p8, n8, c8, rfl, by rw [addl_eq]; exact own8.from aG, hn8⟩
  · go_quiet (first | (go_at_call 72; exact Calls.quiet_of_same (hbase _ (l6.kept0 ((Apart.refl _ _).drewN _)))))
    have a7 := (a5.trans aO).drewN nq
    have l7 := (l.kept0 aB).kept0 a7
    have tg := target_old k hg.1 hg.2 dn dc (by rw [← Hb.out]; omega)
    go_wp2_with fail
    refine (both_ok _ tg l7 (L.nil _ none) k.bases (by simp)).mono ?_
    rintro r w8 ⟨⟨p8, n8, c8, rfl, own8, hn8⟩⟩
    dsimp only
    go_wp2
    go_ret2
    exact ⟨p8, n8, c8, rfl, by rw [addl_eq]; exact own8.from (aB.trans a7), hn8⟩
end
end Go.Proofs.YtokaeiahhmaokaaGreatDoor.ds

namespace Go.Proofs.YtokaeiahhmaokaaGreatDoor.ds
open Go.ChangeShapes Go.WideShapes Go.ChangeAt Go.RowKit Go.Sort
set_option linter.unusedVariables false
set_option linter.unusedSimpArgs false
/-- a union that is made -/
def UnC (gap : Int) (xs ys : List S) : Prop := (1 ≤ gap ∧ gap ≤ 64) ∧ OkL gap xs ∧ OkL gap ys
/-- a dot that is taken -/
def AdC (gap : Int) (xs : List S) (dn dc : Int) : Prop := (1 ≤ gap ∧ gap ≤ 64) ∧ IsDot dn dc ∧ OkL gap xs ∧ dc ≤ (ofn xs dn).b + gap
structure US (w w' : World) (r : Ending) (gap : Int) (xs ys : List S) : Prop where
  ex : ∃ q n c e, r = .returned (.tuple #[.slice q n c, .int .i64 e]) ∧ Apart [] w w' ∧ ((e = 0 ∧ UnC gap xs ys ∧ Own w w' q n c (uni xs ys) ∧ n ≤ 8) ∨ (¬ e = 0 ∧ ¬ UnC gap xs ys))
structure AS (w w' : World) (r : Ending) (gap : Int) (xs : List S) (dn dc : Int) : Prop where
  ex : ∃ q n c e, r = .returned (.tuple #[.slice q n c, .int .i64 e]) ∧ Apart [] w w' ∧ ((e = 0 ∧ AdC gap xs dn dc ∧ Own w w' q n c (addl xs dn dc) ∧ n ≤ 8) ∨ (¬ e = 0 ∧ ¬ AdC gap xs dn dc))
theorem US.ok {w w' : World} {r : Ending} {gap : Int} {xs ys : List S} (h : RPost w w' r (uni xs ys)) (k : UnC gap xs ys) : US w w' r gap xs ys := by
  obtain ⟨p, n, c, rfl, ho, hn⟩ := h.ex
  exact ⟨p, n, c, 0, rfl, ho.ap, .inl ⟨rfl, k, ho, hn⟩⟩
theorem US.err {w w' : World} {r : Ending} {gap e : Int} {xs ys : List S} (h : r = .returned (.tuple #[.slice none 0 0, .int .i64 e]) ∧ Apart [] w w') (he : ¬ e = 0) (k : ¬ UnC gap xs ys) : US w w' r gap xs ys :=
  ⟨none, 0, 0, e, h.1, h.2, .inr ⟨he, k⟩⟩
theorem AS.ok {w w' : World} {r : Ending} {gap : Int} {xs : List S} {dn dc : Int} (h : RPost w w' r (addl xs dn dc)) (k : AdC gap xs dn dc) : AS w w' r gap xs dn dc := by
  obtain ⟨p, n, c, rfl, ho, hn⟩ := h.ex
  exact ⟨p, n, c, 0, rfl, ho.ap, .inl ⟨rfl, k, ho, hn⟩⟩
theorem AS.err {w w' : World} {r : Ending} {gap e : Int} {xs : List S} {dn dc : Int} (h : r = .returned (.tuple #[.slice none 0 0, .int .i64 e]) ∧ Apart [] w w') (he : ¬ e = 0) (k : ¬ AdC gap xs dn dc) : AS w w' r gap xs dn dc :=
  ⟨none, 0, 0, e, h.1, h.2, .inr ⟨he, k⟩⟩
theorem union_c {w : World} {p q : Option Addr} {N M cap cb : Nat} {xs ys : List S} (gap : Int) (T : Tab w) (h : L w p N xs) (h2 : L w q M ys) : Calls Tryz.prog 67 #[.slice p N cap, .slice q M cb, .int .i64 gap] w fun r w' => US w w' r gap xs ys := by
  by_cases hg : 1 ≤ gap ∧ gap ≤ 64
  · by_cases k : OkL gap xs
    · by_cases k2 : OkL gap ys
      · exact (union_ok gap T h h2 hg k k2).mono (fun r w' hh => US.ok hh ⟨hg, k, k2⟩)
      · exact (union_set2 gap h h2 hg k k2).mono (fun r w' hh => US.err hh (by decide) (fun h => k2 h.2.2))
    · exact (union_set1 gap h hg k).mono (fun r w' hh => US.err hh (by decide) (fun h => k h.2.1))
  · exact (union_arg gap hg).mono (fun r w' hh => US.err hh (by decide) (fun h => hg h.1))
theorem runion_c {w : World} {p q : Option Addr} {N M cap cb : Nat} {xs ys : List S} (gap : Int) (h : L w p N xs) (h2 : L w q M ys) : Calls Tryz.prog 41 #[.slice p N cap, .slice q M cb, .int .i64 gap] w fun r w' => US w w' r gap xs ys := by
  by_cases hg : 1 ≤ gap ∧ gap ≤ 64
  · by_cases k : OkL gap xs
    · by_cases k2 : OkL gap ys
      · exact (runion_ok gap h h2 hg k k2).mono (fun r w' hh => US.ok hh ⟨hg, k, k2⟩)
      · exact (runion_set2 gap h h2 hg k k2).mono (fun r w' hh => US.err hh (by decide) (fun h => k2 h.2.2))
    · exact (runion_set1 gap h h2 hg k).mono (fun r w' hh => US.err hh (by decide) (fun h => k h.2.1))
  · exact (runion_arg gap hg).mono (fun r w' hh => US.err hh (by decide) (fun h => hg h.1))
theorem isd_iff (dn dc : Int) : isd dn dc = true ↔ IsDot dn dc := by unfold isd IsDot; simp
theorem add_c {w : World} {p : Option Addr} {N cap : Nat} {xs : List S} (gap dn dc : Int) (T : Tab w) (h : L w p N xs) : Calls Tryz.prog 68 #[.slice p N cap, .agg #[.int .i64 dn, .int .i64 dc], .int .i64 gap] w fun r w' => AS w w' r gap xs dn dc := by
  by_cases hg : 1 ≤ gap ∧ gap ≤ 64
  · by_cases hd : IsDot dn dc
    · by_cases k : OkL gap xs
      · by_cases hc : dc ≤ (ofn xs dn).b + gap
        · exact (add_ok dn dc gap T h hg hd k hc).mono (fun r w' hh => AS.ok hh ⟨hg, hd, k, hc⟩)
        · exact (add_gap dn dc gap h hg hd k (by omega)).mono (fun r w' hh => AS.err hh (by decide) (fun h => hc h.2.2.2))
      · exact (add_set dn dc gap h hg hd k).mono (fun r w' hh => AS.err hh (by decide) (fun h => k h.2.2.1))
    · exact (add_arg2 dn dc gap hg hd).mono (fun r w' hh => AS.err hh (by decide) (fun h => hd h.2.1))
  · exact (add_arg1 dn dc gap hg).mono (fun r w' hh => AS.err hh (by decide) (fun h => hg h.1))
theorem radd_c {w : World} {p : Option Addr} {N cap : Nat} {xs : List S} (gap dn dc : Int) (h : L w p N xs) : Calls Tryz.prog 42 #[.slice p N cap, .agg #[.int .i64 dn, .int .i64 dc], .int .i64 gap] w fun r w' => AS w w' r gap xs dn dc := by
  by_cases hg : 1 ≤ gap ∧ gap ≤ 64
  · by_cases hd : IsDot dn dc
    · by_cases k : OkL gap xs
      · by_cases hc : dc ≤ (ofn xs dn).b + gap
        · exact (radd_ok dn dc gap h hg ((isd_iff _ _).2 hd) k hd.2 hc).mono (fun r w' hh => AS.ok hh ⟨hg, hd, k, hc⟩)
        · exact (radd_gap dn dc gap h hg ((isd_iff _ _).2 hd) k (by omega)).mono (fun r w' hh => AS.err hh (by decide) (fun h => hc h.2.2.2))
      · exact (radd_set dn dc gap h hg ((isd_iff _ _).2 hd) k).mono (fun r w' hh => AS.err hh (by decide) (fun h => k h.2.2.1))
    · exact (radd_early dn dc gap (fun h => hd ((isd_iff _ _).1 h.2))).mono (fun r w' hh => AS.err hh (by decide) (fun h => hd h.2.1))
  · exact (radd_early dn dc gap (fun h => hg h.1)).mono (fun r w' hh => AS.err hh (by decide) (fun h => hg h.1))
/-- a write that fits in a token -/
def TkC (gap : Int) (T : List S) (x : Wr) : Prop := UnC gap T x.xs ∧ AdC gap (uni T x.xs) x.n x.c
open Classical in
noncomputable def tkT (gap : Int) (T : List S) (rs : List Wr) : Nat → List S
  | 0 => T
  | i + 1 => if TkC gap (tkT gap T rs i) (gR rs i) then addl (uni (tkT gap T rs i) (gR rs i).xs) (gR rs i).n (gR rs i).c else tkT gap T rs i
open Classical in
noncomputable def tkO (gap : Int) (T : List S) (rs : List Wr) : Nat → List Wr
  | 0 => []
  | i + 1 => if TkC gap (tkT gap T rs i) (gR rs i) then tkO gap T rs i else tkO gap T rs i ++ [gR rs i]
open Classical in
noncomputable def tkE (gap : Int) (T : List S) (rs : List Wr) (es : List E) : Nat → List E
  | 0 => []
  | i + 1 => if TkC gap (tkT gap T rs i) (gR rs i) then tkE gap T rs es i else tkE gap T rs es i ++ [gE es i]
theorem tkT_yes {gap : Int} {T : List S} {rs : List Wr} {i : Nat} (h : TkC gap (tkT gap T rs i) (gR rs i)) : tkT gap T rs (i + 1) = addl (uni (tkT gap T rs i) (gR rs i).xs) (gR rs i).n (gR rs i).c := by simp only [tkT]; rw [if_pos h]
theorem tkT_no {gap : Int} {T : List S} {rs : List Wr} {i : Nat} (h : ¬ TkC gap (tkT gap T rs i) (gR rs i)) : tkT gap T rs (i + 1) = tkT gap T rs i := by simp only [tkT]; rw [if_neg h]
theorem tkE_yes {gap : Int} {T : List S} {rs : List Wr} {es : List E} {i : Nat} (h : TkC gap (tkT gap T rs i) (gR rs i)) : tkE gap T rs es (i + 1) = tkE gap T rs es i := by simp only [tkE]; rw [if_pos h]
theorem tkE_no {gap : Int} {T : List S} {rs : List Wr} {es : List E} {i : Nat} (h : ¬ TkC gap (tkT gap T rs i) (gR rs i)) : tkE gap T rs es (i + 1) = tkE gap T rs es i ++ [gE es i] := by simp only [tkE]; rw [if_neg h]
theorem tkE_map (gap : Int) (T : List S) (R : E → Wr) (es : List E) : ∀ i, i ≤ es.length → (tkE gap T (es.map R) es i).map R = tkO gap T (es.map R) i
  | 0, _ => rfl
  | i + 1, h => by
    simp only [tkE, tkO]
    split
    · exact tkE_map gap T R es i (by omega)
    · rw [List.map_append, tkE_map gap T R es i (by omega), gR_map R es i (by omega)]; rfl
theorem tkE_sub (gap : Int) (T : List S) (rs : List Wr) (es : List E) : ∀ i, i ≤ es.length → ∀ e ∈ tkE gap T rs es i, e ∈ es
  | 0, _, e, he => by simp [tkE] at he
  | i + 1, h, e, he => by
    simp only [tkE] at he
    split at he
    · exact tkE_sub gap T rs es i (by omega) e he
    · rcases List.mem_append.1 he with h1 | h1
      · exact tkE_sub gap T rs es i (by omega) e h1
      · simp at h1; rw [h1]; exact gE_memE es i (by omega)
theorem tkE_len (gap : Int) (T : List S) (rs : List Wr) (es : List E) : ∀ i, (tkE gap T rs es i).length ≤ i
  | 0 => by simp [tkE]
  | i + 1 => by
    have := tkE_len gap T rs es i
    simp only [tkE]
    split
    · omega
    · simp; omega
theorem tkO_len (gap : Int) (T : List S) (rs : List Wr) : ∀ i, (tkO gap T rs i).length ≤ i
  | 0 => by simp [tkO]
  | i + 1 => by
    have := tkO_len gap T rs i
    simp only [tkO]
    split
    · omega
    · simp; omega
/-- Token of what is read: the token, and what does not fit in -/
noncomputable def tokT (gap : Int) (bs : List (List S)) (rs : List Wr) : List S := tkT gap (unis gap bs) (eachW rs) (eachW rs).length
noncomputable def tokO (gap : Int) (bs : List (List S)) (rs : List Wr) : List Wr := tkO gap (unis gap bs) (eachW rs) (eachW rs).length
/-- a token in memory of the call's own -/
structure TS (w wr : World) (q : Option Addr) (n c : Nat) (T : List S) : Prop where
  own : Own w wr q n c T
  n8 : n ≤ 8
  fit : ∀ x ∈ T, x.t < 2 ^ 64
theorem TS.L {w wr : World} {q : Option Addr} {n c : Nat} {T : List S} (h : TS w wr q n c T) : L wr q n T := h.own.L (by have := h.n8; omega) h.fit
theorem TS.kept0 {w wr wx : World} {q : Option Addr} {n c : Nat} {T : List S} (h : TS w wr q n c T) (a : Apart [] wr wx) : TS w wx q n c T := { h with own := h.own.kept a }
theorem TS.from {w0 w wr : World} {q : Option Addr} {n c : Nat} {T : List S} (h : TS w wr q n c T) (a : Apart [] w0 w) : TS w0 wr q n c T := { h with own := Own.from a h.own }
theorem TS.nil (w wr : World) (a : Apart [] w wr) : TS w wr none 0 0 [] := ⟨⟨rfl, World.ownsRow_nil _ _ _ _, by simp [Value.ownBlock], a⟩, by decide, by simp⟩
/-- what is written in rows of writes -/
theorem TS.keptW {w wr wx : World} {q : Option Addr} {n c : Nat} {T : List S} (h : TS w wr q n c T) {u : Sl} {us : List Value} {wa : World} (hu : Nw wa wr 28 6 u us) (a : Apart u.v.ownBlock.toList wr wx) (aw : Apart [] w wx) : TS w wx q n c T :=
  { h with own := ⟨h.own.len, own_apart h.own.own a (fun k hk hm => by
      simp at hm
      obtain ⟨c1, e1⟩ := own_typ h.own.own hk
      obtain ⟨c2, e2⟩ := own_typ hu.own hm
      rw [e1] at e2
      simp at e2), h.own.new, aw⟩ }
theorem uni_fit {gap : Int} {xs ys : List S} (h : UnC gap xs ys) : ∀ x ∈ uni xs ys, x.t < 2 ^ 64 := (uni_ok h.2.1 h.2.2 (by have := h.1; omega) h.1.2).fit h.1.2
theorem addl_fit {gap : Int} {xs : List S} {dn dc : Int} (h : AdC gap xs dn dc) : ∀ x ∈ addl xs dn dc, x.t < 2 ^ 64 := (addl_ok h.2.2.1 h.1.1 h.1.2 dn dc h.2.1.2 h.2.2.2).fit h.1.2
theorem knowG_of {gap : Int} {a xs : List S} (h : UnC gap a xs) : knowG gap a xs = uni a xs := by unfold knowG; exact if_pos h
theorem knowG_not {gap : Int} {a xs : List S} (h : ¬ UnC gap a xs) : knowG gap a xs = a := by unfold knowG; exact if_neg h
theorem knowG_ok {gap : Int} {a xs : List S} (hg : 1 ≤ gap ∧ gap ≤ 64) (h : OkL gap a) : OkL gap (knowG gap a xs) := by
  by_cases k : UnC gap a xs
  · rw [knowG_of k]; exact uni_ok k.2.1 k.2.2 (by omega) hg.2
  · rw [knowG_not k]; exact h
theorem unis_okA {gap : Int} (hg : 1 ≤ gap ∧ gap ≤ 64) : ∀ (bs : List (List S)) (a : List S), OkL gap a → OkL gap (bs.foldl (knowG gap) a)
  | [], a, h => h
  | x :: bs, a, h => unis_okA hg bs _ (knowG_ok hg h)
theorem unis_ok {gap : Int} (hg : 1 ≤ gap ∧ gap ≤ 64) (bs : List (List S)) : OkL gap (unis gap bs) := unis_okA hg bs [] (OkL.nil _)
theorem unis_noA {gap : Int} (hg : ¬ (1 ≤ gap ∧ gap ≤ 64)) : ∀ (bs : List (List S)) (a : List S), bs.foldl (knowG gap) a = a
  | [], a => rfl
  | x :: bs, a => by rw [List.foldl_cons, knowG_not (fun h => hg h.1)]; exact unis_noA hg bs a
theorem unis_no {gap : Int} (hg : ¬ (1 ≤ gap ∧ gap ≤ 64)) (bs : List (List S)) : unis gap bs = [] := unis_noA hg bs []
theorem tk_none {gap : Int} (hg : ¬ (1 ≤ gap ∧ gap ≤ 64)) (T : List S) (rs : List Wr) : ∀ i, tkT gap T rs i = T ∧ tkO gap T rs i = (List.range i).map (gR rs)
  | 0 => ⟨rfl, rfl⟩
  | i + 1 => by
    obtain ⟨h1, h2⟩ := tk_none hg T rs i
    have hn : ¬ TkC gap (tkT gap T rs i) (gR rs i) := fun h => hg h.1.1
    refine ⟨by rw [tkT_no hn, h1], ?_⟩
    simp only [tkO]
    rw [if_neg hn, h2, List.range_succ, List.map_append]; rfl
end Go.Proofs.YtokaeiahhmaokaaGreatDoor.ds
