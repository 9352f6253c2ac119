import Derived.Test.YthfjkddninlbcaaStepA
namespace Go.Proofs.Ythfjkddninlbcaa.hp
open Go.ChangeShapes Go.WideShapes Go.ChangeAt Go.RowKit
set_option linter.unusedVariables false
section
variable {w0 w : World} {W : Nat} {S : Nat → SD} {av : Value} {A : List E}
theorem SP.same {w' : World} (h : WS w0 w W S av A) (gd : ∀ i, i < 2 → Good A (S i)) (t : Nat) (hA : A.length ≤ t) (hn : ∀ i, i < 2 → (S i).n ≤ t ∧ (S i).L.length ≤ t) (a : Apart [] w w') : SP w0 w' W (t + 1) :=
  ⟨S, av, A, h.kept a, gd, by omega, fun i hi => by have := hn i hi; omega⟩
theorem who2 (who : Int) : ∃ i : Nat, i < 2 ∧ bits .and .i64 who 1 = (i : Int) := ⟨(who % 2).toNat, by omega, by rw [bits1]; omega⟩
set_option maxHeartbeats 1000000 in
set_option maxRecDepth 100000 in
theorem step0_ok (h : WS w0 w W S av A) (gd : ∀ i, i < 2 → Good A (S i)) (t : Nat) (hA : A.length ≤ t) (hn : ∀ i, i < 2 → (S i).n ≤ t ∧ (S i).L.length ≤ t) (who kind a b : Int) (hk : kind < 1 ∨ 6 < kind) :
    Calls Try.prog 24 #[.pointer (some ⟨W, 0, none⟩), .agg #[.int .i64 who, .int .i64 kind, .int .i64 a, .int .i64 b]] w fun r w' => r = .returned (.bool true) ∧ SP w0 w' W (t + 1) := by
  obtain ⟨i, hi, hbi⟩ := who2 who
  have post := SP.same h gd t hA hn ((Apart.refl [] w).alloc (.cells #[.int .i64 who, .int .i64 kind, .int .i64 a, .int .i64 b] 63))
  have k1 : (kind == 1) = false := beq_eq_false_iff_ne.2 (by omega)
  have k2 : (kind == 2) = false := beq_eq_false_iff_ne.2 (by omega)
  have k3 : (kind == 3) = false := beq_eq_false_iff_ne.2 (by omega)
  have k4 : (kind == 4) = false := beq_eq_false_iff_ne.2 (by omega)
  have k5 : (kind == 5) = false := beq_eq_false_iff_ne.2 (by omega)
  have k6 : (kind == 6) = false := beq_eq_false_iff_ne.2 (by omega)
  clear h hk
  go_enter Try.func24, Try.ntmps24
  go_wp2
  go_ret
  exact ⟨rfl, post⟩
set_option maxHeartbeats 1000000 in
set_option maxRecDepth 100000 in
theorem step6_ok (h : WS w0 w W S av A) (gd : ∀ i, i < 2 → Good A (S i)) (t : Nat) (hA : A.length ≤ t) (hn : ∀ i, i < 2 → (S i).n ≤ t ∧ (S i).L.length ≤ t) (who a b : Int) :
    Calls Try.prog 24 #[.pointer (some ⟨W, 0, none⟩), .agg #[.int .i64 who, .int .i64 6, .int .i64 a, .int .i64 b]] w fun r w' => r = .returned (.bool true) ∧ SP w0 w' W (t + 1) := by
  obtain ⟨i, hi, hbi⟩ := who2 who
  have a1 : Apart [] w (w.alloc (.cells #[.int .i64 who, .int .i64 6, .int .i64 a, .int .i64 b] 63)) := (Apart.refl [] w).alloc _
  have hR := row_ok (h.kept a1) i hi (gd i hi)
  go_enter Try.func24, Try.ntmps24
  go_wp2_with fail
  refine hR.mono ?_
  rintro r w2 ⟨rfl, a2⟩
  have post := SP.same h gd t hA hn (a1.trans a2)
  clear hR h a1 a2
  go_wp2
  go_ret
  exact ⟨rfl, post⟩
set_option maxHeartbeats 2000000 in
set_option maxRecDepth 100000 in
theorem step3_ok (h : WS w0 w W S av A) (gd : ∀ i, i < 2 → Good A (S i)) (t : Nat) (hA : A.length ≤ t) (hn : ∀ i, i < 2 → (S i).n ≤ t ∧ (S i).L.length ≤ t) (who a b : Int) :
    Calls Try.prog 24 #[.pointer (some ⟨W, 0, none⟩), .agg #[.int .i64 who, .int .i64 3, .int .i64 a, .int .i64 b]] w fun r w' => r = .returned (.bool true) ∧ SP w0 w' W (t + 1) := by
  obtain ⟨i, hi, hbi⟩ := who2 who
  have iI : (i : Int) < 2 := by omega
  have hWs := lt_of_heap h.hW
  have cp := h.cp i hi
  have a1 : Apart [] w (w.alloc (.cells #[.int .i64 who, .int .i64 3, .int .i64 a, .int .i64 b] 63)) := (Apart.refl [] w).alloc _
  have h1 := h.kept a1
  have hrow : (S i).row.length = (S i).rl.length := by rw [(gd i hi).rel, List.length_map]
  by_cases h0 : (S i).rl.length = 0
  · have hL := hp_least_none (h1.hp i hi) (by rw [hrow]; exact h0)
    go_enter Try.func24, Try.ntmps24
    go_wp2_with fail
    refine hL.mono ?_
    clear hL
    rintro r w2 ⟨rfl, a2⟩
    have a2' : Apart [] _ (w2.alloc (.cells #[.int .i64 0, .int .i64 0] 28)) := a2.alloc _
    have h2 := h1.kept a2'
    have hR := rleast_none _ W (2 + i) _ _ _ _ (h2.wl i hi) (h2.rp i hi).inc (h2.rp i hi).perm (h2.rp i hi).up (h2.rp i hi).di h0
    go_wp2_with fail
    refine hR.mono ?_
    clear hR
    rintro r w3 ⟨rfl, z, rfl⟩
    have bX := heap_alloc_new w2 (.cells #[.int .i64 0, .int .i64 0] 28)
    have hI := item_none ((w2.alloc (.cells #[.int .i64 0, .int .i64 0] 28)).drewN z) W 0
    go_wp2_with fail
    refine hI.mono ?_
    rintro r w4 ⟨rfl, a4⟩
    have post := SP.same h gd t hA hn (((a1.trans a2').drewN z).trans a4)
    clear hI h h1 h2 a1 a2 a2' a4 bX
    go_wp2
    go_ret
    exact ⟨rfl, post⟩
  · have hL := hp_least (h1.hp i hi) (by rw [hrow]; omega)
    have hg : g (S i).row 0 = cv A (g (S i).rl 0) := by rw [(gd i hi).rel]; exact g_map A _ 0 (by omega)
    rw [hg] at hL
    clear hg
    go_enter Try.func24, Try.ntmps24
    go_wp2_with fail
    refine hL.mono ?_
    clear hL
    rintro r w2 ⟨rfl, a2⟩
    have a2' : Apart [] _ (w2.alloc (.cells #[.int .i64 (cv A (g (S i).rl 0)).r, .int .i64 (cv A (g (S i).rl 0)).m] 28)) := a2.alloc _
    have h2 := h1.kept a2'
    have hR := rleast_some _ W (2 + i) _ _ _ _ (h2.wl i hi) (h2.rp i hi).inc (h2.rp i hi).perm (h2.rp i hi).up (h2.rp i hi).di (by omega)
    go_wp2_with fail
    refine hR.mono ?_
    clear hR
    rintro r w3 ⟨rfl, z, rfl⟩
    have hI := (h2.kept ((Apart.refl [] _).drewN z)).item (g (S i).rl 0) ((gd i hi).idx _ (by rw [g_eq _ _ (by omega)]; exact List.getElem_mem _))
    go_wp2_with fail
    refine hI.mono ?_
    rintro r w4 ⟨rfl, a4⟩
    have post := SP.same h gd t hA hn (((a1.trans a2').drewN z).trans a4)
    clear hI h h1 h2 a1 a2 a2' a4
    go_wp2
    go_ret
    exact ⟨rfl, post⟩
end
end Go.Proofs.Ythfjkddninlbcaa.hp
