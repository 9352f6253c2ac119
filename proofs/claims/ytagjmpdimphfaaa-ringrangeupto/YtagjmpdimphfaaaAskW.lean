import Derived.Test.YtagjmpdimphfaaaAsked
namespace Go.Proofs.Ytagjmpdimphfaaa.rg
open Go.ChangeShapes Go.WideShapes Go.ChangeAt Go.RowKit
set_option linter.unusedVariables false
set_option linter.unusedSimpArgs false
theorem box5 (w : World) (a b c d e : Value) : ∀ W, Apart [] (w.alloc (.cells #[a, b, c, d, e] 41)) W → W.cell? ⟨w.heap.size, 0, none⟩ = some a ∧ W.cell? ⟨w.heap.size, 1, none⟩ = some b ∧ W.cell? ⟨w.heap.size, 2, none⟩ = some c ∧ W.cell? ⟨w.heap.size, 3, none⟩ = some d ∧ W.cell? ⟨w.heap.size, 4, none⟩ = some e := by
  intro W h
  have hlt : w.heap.size < (w.alloc (.cells #[a, b, c, d, e] 41)).heap.size := by simp
  refine ⟨?_, ?_, ?_, ?_, ?_⟩
  · exact (h.cell (p := ⟨w.heap.size, 0, none⟩) hlt (by simp)).trans (by simp)
  · exact (h.cell (p := ⟨w.heap.size, 1, none⟩) hlt (by simp)).trans (by simp)
  · exact (h.cell (p := ⟨w.heap.size, 2, none⟩) hlt (by simp)).trans (by simp)
  · exact (h.cell (p := ⟨w.heap.size, 3, none⟩) hlt (by simp)).trans (by simp)
  · exact (h.cell (p := ⟨w.heap.size, 4, none⟩) hlt (by simp)).trans (by simp)
set_option maxHeartbeats 8000000 in
set_option maxRecDepth 100000 in
theorem asked_2 {w : World} {S mark : Nat} {d : Sd} {who : Nat → Option Nat} {R Q n m : Nat} (C : Cx w S mark d who R Q n m) (hmk : mark ≤ 900) (wh A B : Int) (key : ByteArray) :
    Calls Try.prog 22 #[.pointer (some ⟨S, 0, none⟩), .pointer (some ⟨R, 0, none⟩), .pointer (some ⟨Q, 0, none⟩), .agg #[.int .i64 2, .int .i64 wh, .int .i64 A, .int .i64 B, .string key]] w fun r w' => AskP w w' r S mark who := by
  have HB : Hid (∀ W, Apart [] (w.alloc (.cells #[.int .i64 2, .int .i64 wh, .int .i64 A, .int .i64 B, .string key] 41)) W → W.cell? ⟨w.heap.size, 0, none⟩ = some (.int .i64 2) ∧ W.cell? ⟨w.heap.size, 1, none⟩ = some (.int .i64 wh) ∧ W.cell? ⟨w.heap.size, 2, none⟩ = some (.int .i64 A) ∧ W.cell? ⟨w.heap.size, 3, none⟩ = some (.int .i64 B) ∧ W.cell? ⟨w.heap.size, 4, none⟩ = some (.string key)) := box5 w _ _ _ _ _
  have aB : Apart [] w (w.alloc (.cells #[.int .i64 2, .int .i64 wh, .int .i64 A, .int .i64 B, .string key] 41)) := (Apart.refl _ _).alloc _
  have HC : Hid (Cx w S mark d who R Q n m) := C
  clear C
  go_enter Try.func22, Try.ntmps22
  go_wp2_with fail
  generalize w.alloc (.cells #[.int .i64 2, .int .i64 wh, .int .i64 A, .int .i64 B, .string key] 41) = V at *
  refine (order_any (HC.out.kept0 aB).g1 A).mono ?_
  rintro r w1 ⟨⟨p, k1, cap, rfl, hA, hfr, hk8, a1⟩⟩
  dsimp only
  obtain ⟨q0, q1, q2, q3, q4⟩ := HB.out w1 a1
  have HA : Hid ((An.mk p k1 cap _).At w1) := hA
  have HFR1 : Hid (∀ b, (An.mk p k1 cap _).blk = some b → V.heap.size ≤ b) := hfr
  have A1 := aB.trans a1
  clear hA hfr
  go_wp2_with fail
  refine (rorder_any (HC.out.kept0 A1).g2 A).mono ?_
  rintro r w2 ⟨⟨q, k2, cap2, rfl, hA2, hfr2, _, a2⟩⟩
  dsimp only
  have A2 := A1.trans a2
  have hkk : k1 = k2 := by
    have h1 := HA.out.len
    have h2 := hA2.len
    simp only at h1 h2
    rw [← h1, ← h2]
  subst hkk
  have hsV := aB.size
  have HA2 := HA.out.kept a2 (by simp)
  have hir : Ir w2 q k1 _ := hA2.ir
  have ht := told_ok (HC.out.kept0 A2).sh hmk p k1 cap _ HA2 (fun b hb => by
    cases hw : who b with
    | none => rfl
    | some s => have h1 := HC.out.sh.sm.own b s hw; have h2 := HFR1.out b hb; omega) hk8 q cap2 hir
  clear q0 q1 q2 q3 q4 hA2 hfr2 HA2 hir
  go_wp2_with fail
  refine (ht _).mono ?_
  intro r w3 hT
  have hP : AskP _ w3 r S mark who := askp_told A2 hT (fun b hb => Nat.le_trans hsV (HFR1.out b hb))
  have HP : Hid (AskP _ w3 r S mark who) := hP
  obtain rfl := hP.ret
  clear hP hT ht
  dsimp only
  go_wp2_with fail
  go_ret
  exact HP.out
set_option maxHeartbeats 8000000 in
set_option maxRecDepth 100000 in
theorem asked_3 {w : World} {S mark : Nat} {d : Sd} {who : Nat → Option Nat} {R Q n m : Nat} (C : Cx w S mark d who R Q n m) (hmk : mark ≤ 900) (wh A B : Int) (key : ByteArray) :
    Calls Try.prog 22 #[.pointer (some ⟨S, 0, none⟩), .pointer (some ⟨R, 0, none⟩), .pointer (some ⟨Q, 0, none⟩), .agg #[.int .i64 3, .int .i64 wh, .int .i64 A, .int .i64 B, .string key]] w fun r w' => AskP w w' r S mark who := by
  have HB : Hid (∀ W, Apart [] (w.alloc (.cells #[.int .i64 3, .int .i64 wh, .int .i64 A, .int .i64 B, .string key] 41)) W → W.cell? ⟨w.heap.size, 0, none⟩ = some (.int .i64 3) ∧ W.cell? ⟨w.heap.size, 1, none⟩ = some (.int .i64 wh) ∧ W.cell? ⟨w.heap.size, 2, none⟩ = some (.int .i64 A) ∧ W.cell? ⟨w.heap.size, 3, none⟩ = some (.int .i64 B) ∧ W.cell? ⟨w.heap.size, 4, none⟩ = some (.string key)) := box5 w _ _ _ _ _
  have aB : Apart [] w (w.alloc (.cells #[.int .i64 3, .int .i64 wh, .int .i64 A, .int .i64 B, .string key] 41)) := (Apart.refl _ _).alloc _
  have HC : Hid (Cx w S mark d who R Q n m) := C
  clear C
  go_enter Try.func22, Try.ntmps22
  go_wp2_with fail
  generalize w.alloc (.cells #[.int .i64 3, .int .i64 wh, .int .i64 A, .int .i64 B, .string key] 41) = V at *
  refine (pref_any (HC.out.kept0 aB).g1 A B).mono ?_
  rintro r w1 ⟨⟨p, k1, cap, rfl, hA, hfr, hk8, a1⟩⟩
  dsimp only
  obtain ⟨q0, q1, q2, q3, q4⟩ := HB.out w1 a1
  have HA : Hid ((An.mk p k1 cap _).At w1) := hA
  have HFR1 : Hid (∀ b, (An.mk p k1 cap _).blk = some b → V.heap.size ≤ b) := hfr
  have A1 := aB.trans a1
  clear hA hfr
  go_wp2_with fail
  refine (rpref_any (HC.out.kept0 A1).g2 A B).mono ?_
  rintro r w2 ⟨⟨q, k2, cap2, rfl, hA2, hfr2, _, a2⟩⟩
  dsimp only
  have A2 := A1.trans a2
  have hkk : k1 = k2 := by
    have h1 := HA.out.len
    have h2 := hA2.len
    simp only at h1 h2
    rw [← h1, ← h2]
  subst hkk
  have hsV := aB.size
  have HA2 := HA.out.kept a2 (by simp)
  have hir : Ir w2 q k1 _ := hA2.ir
  have ht := told_ok (HC.out.kept0 A2).sh hmk p k1 cap _ HA2 (fun b hb => by
    cases hw : who b with
    | none => rfl
    | some s => have h1 := HC.out.sh.sm.own b s hw; have h2 := HFR1.out b hb; omega) hk8 q cap2 hir
  clear q0 q1 q2 q3 q4 hA2 hfr2 HA2 hir
  go_wp2_with fail
  refine (ht _).mono ?_
  intro r w3 hT
  have hP : AskP _ w3 r S mark who := askp_told A2 hT (fun b hb => Nat.le_trans hsV (HFR1.out b hb))
  have HP : Hid (AskP _ w3 r S mark who) := hP
  obtain rfl := hP.ret
  clear hP hT ht
  dsimp only
  go_wp2_with fail
  go_ret
  exact HP.out
set_option maxHeartbeats 8000000 in
set_option maxRecDepth 100000 in
theorem asked_4 {w : World} {S mark : Nat} {d : Sd} {who : Nat → Option Nat} {R Q n m : Nat} (C : Cx w S mark d who R Q n m) (hmk : mark ≤ 900) (wh A B : Int) (key : ByteArray) :
    Calls Try.prog 22 #[.pointer (some ⟨S, 0, none⟩), .pointer (some ⟨R, 0, none⟩), .pointer (some ⟨Q, 0, none⟩), .agg #[.int .i64 4, .int .i64 wh, .int .i64 A, .int .i64 B, .string key]] w fun r w' => AskP w w' r S mark who := by
  have HB : Hid (∀ W, Apart [] (w.alloc (.cells #[.int .i64 4, .int .i64 wh, .int .i64 A, .int .i64 B, .string key] 41)) W → W.cell? ⟨w.heap.size, 0, none⟩ = some (.int .i64 4) ∧ W.cell? ⟨w.heap.size, 1, none⟩ = some (.int .i64 wh) ∧ W.cell? ⟨w.heap.size, 2, none⟩ = some (.int .i64 A) ∧ W.cell? ⟨w.heap.size, 3, none⟩ = some (.int .i64 B) ∧ W.cell? ⟨w.heap.size, 4, none⟩ = some (.string key)) := box5 w _ _ _ _ _
  have aB : Apart [] w (w.alloc (.cells #[.int .i64 4, .int .i64 wh, .int .i64 A, .int .i64 B, .string key] 41)) := (Apart.refl _ _).alloc _
  have HC : Hid (Cx w S mark d who R Q n m) := C
  clear C
  go_enter Try.func22, Try.ntmps22
  go_wp2_with fail
  generalize w.alloc (.cells #[.int .i64 4, .int .i64 wh, .int .i64 A, .int .i64 B, .string key] 41) = V at *
  refine (stand_any (HC.out.kept0 aB).g1 A B).mono ?_
  rintro r w1 ⟨⟨p, k1, cap, rfl, hA, hfr, hk8, a1⟩⟩
  dsimp only
  obtain ⟨q0, q1, q2, q3, q4⟩ := HB.out w1 a1
  have HA : Hid ((An.mk p k1 cap _).At w1) := hA
  have HFR1 : Hid (∀ b, (An.mk p k1 cap _).blk = some b → V.heap.size ≤ b) := hfr
  have A1 := aB.trans a1
  clear hA hfr
  go_wp2_with fail
  refine (rstand_any (HC.out.kept0 A1).g2 A B).mono ?_
  rintro r w2 ⟨⟨q, k2, cap2, rfl, hA2, hfr2, _, a2⟩⟩
  dsimp only
  have A2 := A1.trans a2
  have hkk : k1 = k2 := by
    have h1 := HA.out.len
    have h2 := hA2.len
    simp only at h1 h2
    rw [← h1, ← h2]
  subst hkk
  have hsV := aB.size
  have HA2 := HA.out.kept a2 (by simp)
  have hir : Ir w2 q k1 _ := hA2.ir
  have ht := told_ok (HC.out.kept0 A2).sh hmk p k1 cap _ HA2 (fun b hb => by
    cases hw : who b with
    | none => rfl
    | some s => have h1 := HC.out.sh.sm.own b s hw; have h2 := HFR1.out b hb; omega) hk8 q cap2 hir
  clear q0 q1 q2 q3 q4 hA2 hfr2 HA2 hir
  go_wp2_with fail
  refine (ht _).mono ?_
  intro r w3 hT
  have hP : AskP _ w3 r S mark who := askp_told A2 hT (fun b hb => Nat.le_trans hsV (HFR1.out b hb))
  have HP : Hid (AskP _ w3 r S mark who) := hP
  obtain rfl := hP.ret
  clear hP hT ht
  dsimp only
  go_wp2_with fail
  go_ret
  exact HP.out
set_option maxHeartbeats 8000000 in
set_option maxRecDepth 100000 in
theorem asked_5 {w : World} {S mark : Nat} {d : Sd} {who : Nat → Option Nat} {R Q n m : Nat} (C : Cx w S mark d who R Q n m) (wh A B : Int) (key : ByteArray) :
    Calls Try.prog 22 #[.pointer (some ⟨S, 0, none⟩), .pointer (some ⟨R, 0, none⟩), .pointer (some ⟨Q, 0, none⟩), .agg #[.int .i64 5, .int .i64 wh, .int .i64 A, .int .i64 B, .string key]] w fun r w' => AskP w w' r S mark who := by
  have HB : Hid (∀ W, Apart [] (w.alloc (.cells #[.int .i64 5, .int .i64 wh, .int .i64 A, .int .i64 B, .string key] 41)) W → W.cell? ⟨w.heap.size, 0, none⟩ = some (.int .i64 5) ∧ W.cell? ⟨w.heap.size, 1, none⟩ = some (.int .i64 wh) ∧ W.cell? ⟨w.heap.size, 2, none⟩ = some (.int .i64 A) ∧ W.cell? ⟨w.heap.size, 3, none⟩ = some (.int .i64 B) ∧ W.cell? ⟨w.heap.size, 4, none⟩ = some (.string key)) := box5 w _ _ _ _ _
  have aB : Apart [] w (w.alloc (.cells #[.int .i64 5, .int .i64 wh, .int .i64 A, .int .i64 B, .string key] 41)) := (Apart.refl _ _).alloc _
  have HC : Hid (Cx w S mark d who R Q n m) := C
  clear C
  go_enter Try.func22, Try.ntmps22
  go_wp2_with fail
  generalize w.alloc (.cells #[.int .i64 5, .int .i64 wh, .int .i64 A, .int .i64 B, .string key] 41) = V at *
  refine (rank_any (HC.out.kept0 aB).g1 A B).mono ?_
  rintro r w1 ⟨rfl, a1⟩
  dsimp only
  obtain ⟨q0, q1, q2, q3, q4⟩ := HB.out w1 a1
  have A1 := aB.trans a1
  go_wp2_with fail
  refine (rrank_all (HC.out.kept0 A1).g2 A B).mono ?_
  rintro r w2 ⟨rfl, a2⟩
  dsimp only
  have A2 := A1.trans a2
  obtain ⟨x, Hx⟩ : ∃ x, Hid (x = rankV n m A B) := ⟨_, rfl⟩
  obtain ⟨y, Hy⟩ : ∃ y, Hid (y = rankE n m A B) := ⟨_, rfl⟩
  rw [← Hx.out, ← Hy.out]
  clear q0 q1 q2 q3 q4
  go_wp2_with (go_at_call 11; refine (num_ok _ _).mono ?_; rintro e w' ⟨rfl, rfl⟩)
  go_ret
  exact askp_plain HC.out.sh A2
set_option maxHeartbeats 8000000 in
set_option maxRecDepth 100000 in
theorem asked_0 {w : World} {S mark : Nat} {d : Sd} {who : Nat → Option Nat} {R Q n m : Nat} (C : Cx w S mark d who R Q n m) (kd wh A B : Int) (hk : kd < 1 ∨ 6 < kd) (key : ByteArray) :
    Calls Try.prog 22 #[.pointer (some ⟨S, 0, none⟩), .pointer (some ⟨R, 0, none⟩), .pointer (some ⟨Q, 0, none⟩), .agg #[.int .i64 kd, .int .i64 wh, .int .i64 A, .int .i64 B, .string key]] w fun r w' => AskP w w' r S mark who := by
  have aB : Apart [] w (w.alloc (.cells #[.int .i64 kd, .int .i64 wh, .int .i64 A, .int .i64 B, .string key] 41)) := (Apart.refl _ _).alloc _
  have HC : Hid (Cx w S mark d who R Q n m) := C
  have k1 : ¬ kd = 1 := by omega
  have k2 : ¬ kd = 2 := by omega
  have k3 : ¬ kd = 3 := by omega
  have k4 : ¬ kd = 4 := by omega
  have k5 : ¬ kd = 5 := by omega
  have k6 : ¬ kd = 6 := by omega
  clear C
  go_enter Try.func22, Try.ntmps22
  go_wp2_with fail
  go_ret
  exact askp_plain HC.out.sh aB
set_option maxHeartbeats 8000000 in
set_option maxRecDepth 100000 in
theorem asked_1 {w : World} {S mark : Nat} {d : Sd} {who : Nat → Option Nat} {R Q n m : Nat} (C : Cx w S mark d who R Q n m) (wh A B : Int) (key : ByteArray) (hk63 : key.size ≤ 9223372036854775807) :
    Calls Try.prog 22 #[.pointer (some ⟨S, 0, none⟩), .pointer (some ⟨R, 0, none⟩), .pointer (some ⟨Q, 0, none⟩), .agg #[.int .i64 1, .int .i64 wh, .int .i64 A, .int .i64 B, .string key]] w fun r w' => AskP w w' r S mark who := by
  have hB := box5 w (.int .i64 1) (.int .i64 wh) (.int .i64 A) (.int .i64 B) (.string key)
  have aB : Apart [] w (w.alloc (.cells #[.int .i64 1, .int .i64 wh, .int .i64 A, .int .i64 B, .string key] 41)) := (Apart.refl _ _).alloc _
  have HC : Hid (Cx w S mark d who R Q n m) := C
  clear C
  have HB : Hid _ := hB
  clear hB
  go_enter Try.func22, Try.ntmps22
  go_wp2_with fail
  generalize w.alloc (.cells #[.int .i64 1, .int .i64 wh, .int .i64 A, .int .i64 B, .string key] 41) = V at *
  have r4 : ∀ X, Apart [] V X → X.cell? ⟨w.heap.size, 4, none⟩ = some (.string key) := fun X aX => (HB.out X aX).2.2.2.2
  have aVD : Apart [] V V.drew := (Apart.refl _ _).drew
  have aD : Apart [] w V.drew := aB.trans aVD
  refine wp_region_held_drew (S := fun X => Apart [] V X) (by kernel_rfl) aVD (fun hHeld => ?_)
  refine wpAnyH_take (i := 0) (oi := ⟨some 29, _, _, _, _, _⟩) (v := (.pointer (some ⟨R, 0, none⟩))) rfl (by kernel_rfl) (by kernel_rfl) (by kernel_rfl) (fun _ _ _ h => h) (Or.inl ⟨by rfl, ?_⟩) (by assumption) ?_
  · intro W hSW; go_simp
  simp only [Act.put, List.setIfInBounds_toArray, List.set_cons_zero, List.set_cons_succ]
  refine wpAnyH_take (i := 1) (oi := ⟨some 30, _, _, _, _, _⟩) (v := (.pointer (some ⟨w.heap.size, 4, none⟩))) rfl (by kernel_rfl) (by kernel_rfl) (by kernel_rfl) (fun _ _ _ h => h) (Or.inl ⟨by rfl, ?_⟩) (by assumption) ?_
  · intro W hSW; go_simp
  simp only [Act.put, List.setIfInBounds_toArray, List.set_cons_zero, List.set_cons_succ]
  refine wpAnyH_take (i := 2) (oi := ⟨some 31, _, _, _, _, _⟩) (v := (.string key)) rfl (by kernel_rfl) (by kernel_rfl) (by kernel_rfl) (fun _ _ _ h => h) (Or.inl ⟨by rfl, ?_⟩) (by assumption) ?_
  · intro W hSW; go_simp
  simp only [Act.put, List.setIfInBounds_toArray, List.set_cons_zero, List.set_cons_succ]
  refine wpAnyH_take (i := 4) (oi := ⟨some 33, _, _, _, _, _⟩) (v := (.pointer (some ⟨Q, 0, none⟩))) rfl (by kernel_rfl) (by kernel_rfl) (by kernel_rfl) (fun _ _ _ h => h) (Or.inl ⟨by rfl, ?_⟩) (by assumption) ?_
  · intro W hSW; go_simp
  simp only [Act.put, List.setIfInBounds_toArray, List.set_cons_zero, List.set_cons_succ]
  refine wpAnyH_take (i := 5) (oi := ⟨some 34, _, _, _, _, _⟩) (v := (.pointer (some ⟨w.heap.size, 4, none⟩))) rfl (by kernel_rfl) (by kernel_rfl) (by kernel_rfl) (fun _ _ _ h => h) (Or.inl ⟨by rfl, ?_⟩) (by assumption) ?_
  · intro W hSW; go_simp
  simp only [Act.put, List.setIfInBounds_toArray, List.set_cons_zero, List.set_cons_succ]
  refine wpAnyH_take (i := 6) (oi := ⟨some 35, _, _, _, _, _⟩) (v := (.string key)) rfl (by kernel_rfl) (by kernel_rfl) (by kernel_rfl) (fun _ _ _ h => h) (Or.inl ⟨by rfl, ?_⟩) (by assumption) ?_
  · intro W hSW; go_simp
  simp only [Act.put, List.setIfInBounds_toArray, List.set_cons_zero, List.set_cons_succ]
  refine wpAnyH_ready (rs := [3]) (by kernel_rfl) (by simp) ?_
  refine AllReadyH.cons rfl (fun KK hKK => ?_) AllReadyH.nil
  go_simp
  refine (range_ok (HC.out.kept0 aD).g1 key hk63).mono ?_
  rintro r w1 ⟨rfl, a1⟩
  dsimp only
  have aV1 := aVD.trans a1
  refine hKK.out _ _ (by assumption) (fun hHeld => ?_)
  clear hKK KK
  refine wpAnyH_ready (rs := [7]) (by kernel_rfl) (by simp) ?_
  refine AllReadyH.cons rfl (fun KK hKK => ?_) AllReadyH.nil
  go_simp
  refine (rrange_ok ((HC.out.kept0 aD).kept0 a1).g2 key hk63).mono ?_
  rintro r w2 ⟨rfl, a2⟩
  dsimp only
  have aV2 := aV1.trans a2
  refine hKK.out _ _ (by assumption) (fun hHeld => ?_)
  clear hKK KK
  refine wpAnyH_take (i := 8) (oi := ⟨some 37, _, _, _, _, _⟩) (v := (.bool true)) rfl (by kernel_rfl) (by kernel_rfl) (by kernel_rfl) (fun _ _ _ h => h) (Or.inl ⟨by rfl, ?_⟩) (by assumption) ?_
  · intro W hSW; go_simp
  simp only [Act.put, List.setIfInBounds_toArray, List.set_cons_zero, List.set_cons_succ]
  refine wpAnyH_take (i := 9) (oi := ⟨some 8, _, _, _, _, _⟩) (v := (.bool true)) rfl (by kernel_rfl) (by kernel_rfl) (by kernel_rfl) (fun _ _ _ h => h) (Or.inl ⟨by rfl, ?_⟩) (by assumption) ?_
  · intro W hSW; go_simp
  simp only [Act.put, List.setIfInBounds_toArray, List.set_cons_zero, List.set_cons_succ]
  refine wpAnyH_done (by kernel_rfl) ?_ _
  go_wp2_with fail
  go_ret
  exact askp_plain HC.out.sh (aB.trans (by assumption))
end Go.Proofs.Ytagjmpdimphfaaa.rg
