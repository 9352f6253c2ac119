import Derived.Test.YtllhmidpphlbhaaG9
namespace Go.Proofs.Ytllhmidpphlbhaa.ds
open Go.ChangeShapes Go.WideShapes Go.ChangeAt Go.RowKit Go.Sort
set_option linter.unusedVariables false
set_option linter.unusedSimpArgs false
theorem keepB {R D : Nat} {a b : World} {o : Obj} (h : Apart [R] a b) (hD : a.heap[D]? = some o) (hn : D ≠ R) : b.heap[D]? = some o := (h.block _ (lt_of_heap hD) (by simp; exact hn)).trans hD
theorem keep0 {D : Nat} {a b : World} {o : Obj} (h : Apart [] a b) (hD : a.heap[D]? = some o) : b.heap[D]? = some o := (h.block _ (lt_of_heap hD) (by simp)).trans hD
theorem row2v {w : World} {g : Nat} {t : TypeId} {a b : Value} (h : w.heap[g]? = some (.cells #[a, b] t (0, 0))) : w.cell? ⟨g, 0, none⟩ = some a ∧ w.cell? ⟨g, 1, none⟩ = some b := by
  refine ⟨?_, ?_⟩ <;> (rw [cell_of_row _ _ _ _ _ _ h]; rfl)
theorem row3v {w : World} {g : Nat} {t : TypeId} {a b c : Value} (h : w.heap[g]? = some (.cells #[a, b, c] t (0, 0))) : w.cell? ⟨g, 0, none⟩ = some a ∧ w.cell? ⟨g, 1, none⟩ = some b ∧ w.cell? ⟨g, 2, none⟩ = some c := by
  refine ⟨?_, ?_, ?_⟩ <;> (rw [cell_of_row _ _ _ _ _ _ h]; rfl)
set_option maxRecDepth 100000 in
theorem leastCount_ok (w : World) (an ac n : Int) (hc : -1000000000 ≤ ac ∧ ac ≤ 1000000000) : Calls Try.prog 96 #[.agg #[.int .i64 an, .int .i64 ac], .int .i64 n] w fun e w' => e = .returned (.int .i64 (leastI an ac n)) ∧ Apart [] w w' := by
  obtain ⟨X, HX⟩ : ∃ X, Hid (X = w.heap.size) := ⟨_, rfl⟩
  obtain ⟨w1, hw1⟩ : ∃ w1, w1 = w.alloc (.cells #[.int .i64 an, .int .i64 ac] 47) := ⟨_, rfl⟩
  have HA : Hid (Apart [] w w1) := by unfold Hid; rw [hw1]; exact (Apart.refl [] w).alloc _
  obtain ⟨z0, z1⟩ : w1.cell? ⟨X, 0, none⟩ = some (.int .i64 an) ∧ w1.cell? ⟨X, 1, none⟩ = some (.int .i64 ac) := row2v (t := 47) (by rw [HX.out, hw1]; exact heap_alloc_new w _)
  have hw : IntKind.i64.wrap (ac + 1) = ac + 1 := by rw [IntKind.wrap_i64]; omega
  go_enter Try.func96, Try.ntmps96
  by_cases he : n = an
  · have HE : Hid (leastI an ac n = ac + 1) := by unfold Hid leastI; rw [if_pos he]
    go_upto_region 1 with fail
    rw [← hw1, ← HX.out]
    clear hw1
    go_wp2_with fail
    go_ret
    exact ⟨by rw [HE.out]; rfl, HA.out⟩
  · have HE : Hid (leastI an ac n = 1) := by unfold Hid leastI; rw [if_neg he]
    go_upto_region 1 with fail
    rw [← hw1, ← HX.out]
    clear hw1
    go_wp2_with fail
    go_ret
    exact ⟨by rw [HE.out]; rfl, HA.out⟩
set_option maxRecDepth 100000 in
theorem isSet_page {p : Option Addr} {N cap : Nat} {xs : List S} {w : World} (h : L w p N xs) (v : Bool) (hv : v = true ↔ OkL 64 xs) : Calls Try.prog 103 #[.slice p N cap] w fun r w' => r = .returned (.bool v) ∧ Apart [] w w' := by
  have HC := fun e he => hid (check_as (cap := cap) (gap := 64) h e he)
  cases v with
  | true =>
    have h0 := HC 0 (by unfold chk; rw [if_pos (by omega), if_pos (hv.1 rfl)])
    clear HC h
    go_enter Try.func103, Try.ntmps103
    go_wp2_with fail
    refine h0.out.mono ?_
    rintro _ w' ⟨rfl, a⟩
    have HA := hid a
    clear a
    try dsimp only
    go_wp2_with fail
    go_ret
    exact ⟨rfl, HA.out⟩
  | false =>
    have h0 := HC 30 (by unfold chk; rw [if_pos (by omega), if_neg (fun k => by have := hv.2 k; cases this)])
    clear HC h
    go_enter Try.func103, Try.ntmps103
    go_wp2_with fail
    refine h0.out.mono ?_
    rintro _ w' ⟨rfl, a⟩
    have HA := hid a
    clear a
    try dsimp only
    go_wp2_with fail
    go_ret
    exact ⟨rfl, HA.out⟩
set_option maxRecDepth 100000 in
theorem isContext_ok {p : Option Addr} {N cap : Nat} {xs : List S} {w : World} (h : L w p N xs) (dn dc : Int) (v : Bool) (hv : v = true ↔ OkL 64 xs ∧ hasv xs dn dc = false) : Calls Try.prog 104 #[.slice p N cap, .agg #[.int .i64 dn, .int .i64 dc]] w fun r w' => r = .returned (.bool v) ∧ Apart [] w w' := by
  have HL := hid h
  have HV := hid hv
  obtain ⟨X, HX⟩ : ∃ X, Hid (X = w.heap.size) := ⟨_, rfl⟩
  obtain ⟨w1, hw1⟩ : ∃ w1, w1 = w.alloc (.cells #[.int .i64 dn, .int .i64 dc] 47) := ⟨_, rfl⟩
  have HA : Hid (Apart [] w w1) := by unfold Hid; rw [hw1]; exact (Apart.refl [] w).alloc _
  have HB1 : Hid (w1.heap[X]? = some (.cells #[.int .i64 dn, .int .i64 dc] 47 (0, 0))) := by unfold Hid; rw [HX.out, hw1]; exact heap_alloc_new w _
  clear h hv
  go_enter Try.func104, Try.ntmps104
  by_cases ho : OkL 64 xs
  · have HO := hid ho
    go_wp2_with fail
    rw [← hw1, ← HX.out]
    clear hw1
    refine (isSet_page (cap := cap) (HL.out.kept0 HA.out) true (by simp [HO.out])).mono ?_
    rintro _ w2 ⟨rfl, a⟩
    have HA2 := hid (HA.out.trans a)
    obtain ⟨z0, z1⟩ := row2v (keep0 a HB1.out)
    clear a
    dsimp only
    go_wp2_with fail
    clear z0 z1
    obtain ⟨u, Hu⟩ : ∃ u, Hid (u = hasv xs dn dc) := ⟨_, rfl⟩
    refine (has_any (cap := cap) dn dc (HL.out.kept0 HA2.out) u (by rw [Hu.out, norm_of HO.out])).mono ?_
    rintro _ w3 ⟨rfl, a⟩
    have HA3 := hid (HA2.out.trans a)
    clear a
    dsimp only
    have hvu : v = !u := by
      have h1 := HV.out
      rw [← Hu.out] at h1
      cases u <;> cases v <;> simp_all [HO.out]
    cases u
    · subst hvu
      go_wp2_with fail
      go_ret
      exact ⟨rfl, HA3.out⟩
    · subst hvu
      go_wp2_with fail
      go_ret
      exact ⟨rfl, HA3.out⟩
  · have HO := hid ho
    have hvf : v = false := by cases v with
      | false => rfl
      | true => exact absurd (HV.out.1 rfl).1 ho
    subst hvf
    go_wp2_with fail
    rw [← hw1, ← HX.out]
    clear hw1
    refine (isSet_page (cap := cap) (HL.out.kept0 HA.out) false (by simp [HO.out])).mono ?_
    rintro _ w2 ⟨rfl, a⟩
    have HA2 := hid (HA.out.trans a)
    clear a
    dsimp only
    go_wp2_with fail
    go_ret
    exact ⟨rfl, HA2.out⟩
end Go.Proofs.Ytllhmidpphlbhaa.ds
namespace Go.Proofs.Ytllhmidpphlbhaa.ds
open Go.ChangeShapes Go.WideShapes Go.ChangeAt Go.RowKit Go.Sort
set_option linter.unusedVariables false
set_option linter.unusedSimpArgs false

/-- bytes of a page: by where they begin and how many -/
def tsl (P o : Nat) (t : Nat × Nat) : Value := .slice (some ⟨P, if t.2 = 0 then o else o + t.1, none⟩) t.2 t.2
set_option maxHeartbeats 4000000 in
set_option maxRecDepth 100000 in
theorem text_ok {w : World} {R P o c : Nat} {B : List Nat} {s : Ps} (h : PR w R P o c B s) (lo hi : Nat) (hr : s.bad = false → s.at_ + 1 + hi ≤ 2048) (hlo : lo ≤ 100) (hhi : hi ≤ 100) :
    Calls Try.prog 72 #[.pointer (some ⟨R, 0, none⟩), .int .i64 (lo : Nat), .int .i64 (hi : Nat)] w fun e w' => PO w w' R P o c B e (tsl P o (textR B lo hi s).1) (textR B lo hi s).2 := by
  have HRB := hid h
  have HC1 := hid (number_ok h 1 lo hi ⟨by omega, by omega⟩ (fun hb => by have := hr hb; omega) (by omega) (by omega))
  have h1 := num_at B 1 lo hi s
  have h2 := num_le B 1 lo hi s
  have h3 := num_bd B 1 lo hi s
  obtain ⟨r, Hr⟩ : ∃ r, Hid (r = num B 1 lo hi s) := ⟨_, rfl⟩
  have HT : Hid (textR B lo hi s = ((r.2.at_, r.1), ⟨r.2.at_ + r.1, r.2.bad⟩)) := by unfold Hid textR; rw [Hr.out]
  rw [← Hr.out] at HC1 h1 h2 h3
  obtain ⟨n, q, b⟩ := r
  dsimp only at h1 h2 h3 HT
  have HK : Hid (q + n ≤ 2048 ∧ n ≤ 100) := by
    unfold Hid
    refine ⟨?_, by omega⟩
    have hle := h.le
    cases b with
    | true => have := h3 rfl; have hc := HRB.out.le; cases hb : s.bad with
      | true =>
        have e := num_bad B 1 lo hi hb
        rw [← Hr.out] at e
        simp only [Prod.mk.injEq] at e
        have : (⟨q, true⟩ : Ps).at_ = s.at_ := by rw [e.2]
        dsimp only at this
        omega
      | false => have := hr hb; omega
    | false =>
      have e := (num_ok B 1 lo hi s (by rw [← Hr.out])).1
      have := hr e
      omega
  clear h h1 h2 h3 hr hlo hhi
  go_enter Try.func72, Try.ntmps72
  go_wp2_with fail
  refine HC1.out.mono ?_
  rintro _ w1 ⟨rfl, r1, a1⟩
  have HA1 := hid a1
  have HR1 := hid r1
  clear a1 r1 HC1
  dsimp only
  obtain ⟨z0, z1, z2, z3, z4⟩ := HR1.out.cells
  dsimp only at z1 z2
  obtain ⟨t, Ht⟩ : ∃ t, Hid (t = q + n) := ⟨_, rfl⟩
  have hwq : IntKind.i64.wrap ((q : Int) + (n : Int)) = (t : Int) := by rw [IntKind.wrap_i64, Ht.out]; have := HK.out; omega
  have HR2 := hid (HR1.out.move t (by rw [Ht.out]; exact HK.out.1))
  go_upto_region 4 with fail
  clear z0 z1 z2 z3 z4 hwq
  obtain ⟨w2, Hw2⟩ : ∃ w2, Hid (w2 = w1.setCell ⟨R, 1, none⟩ (.int .i64 (t : Nat))) := ⟨_, rfl⟩
  have HA2 : Hid (Apart [R] w w2) := by unfold Hid; rw [Hw2.out]; exact HA1.out.setCell (.inl (by simp)) _
  rw [← Hw2.out] at HR2 ⊢
  refine wp_region_held_drew (S := fun W => Apart [] w2 W) (by kernel_rfl) (Apart.refl [] w2).drew (fun hHeld => ?_)
  have Twd : Hid (Apart [] w2 w2.drew) := (Apart.refl [] w2).drew
  have HC : Hid (∀ W, Apart [] w2 W → W.cell? ⟨R, 0, none⟩ = some (.slice (some ⟨P, o, none⟩) 2048 c) ∧ W.cell? ⟨R, 1, none⟩ = some (.int .i64 (t : Nat))) := fun W a => by
    have := (HR2.out.kept0 a).cells
    exact ⟨this.1, this.2.1⟩
  generalize w2.drew = wd at *
  refine tk 0 25 (.pointer (some ⟨R, 0, none⟩)) rfl ?_ ?_
  · intro W hSW; go_simp
  simp only [Act.put, List.setIfInBounds_toArray, List.set_cons_zero, List.set_cons_succ]
  refine tk 1 26 (.pointer (some ⟨R, 0, none⟩)) rfl ?_ ?_
  · intro W hSW; go_simp
  simp only [Act.put, List.setIfInBounds_toArray, List.set_cons_zero, List.set_cons_succ]
  refine tk 2 27 (.pointer (some ⟨R, 0, none⟩)) rfl ?_ ?_
  · intro W hSW; go_simp
  simp only [Act.put, List.setIfInBounds_toArray, List.set_cons_zero, List.set_cons_succ]
  refine tk 3 28 (.slice (some ⟨P, o, none⟩) 2048 c) rfl ?_ ?_
  · intro W hSW; obtain ⟨z0, z1⟩ := HC.out W hSW; go_simp
  simp only [Act.put, List.setIfInBounds_toArray, List.set_cons_zero, List.set_cons_succ]
  refine tk 4 29 (.int .i64 (q : Nat)) rfl ?_ ?_
  · intro W hSW; go_simp
  simp only [Act.put, List.setIfInBounds_toArray, List.set_cons_zero, List.set_cons_succ]
  refine tk 5 30 (.pointer (some ⟨R, 0, none⟩)) rfl ?_ ?_
  · intro W hSW; go_simp
  simp only [Act.put, List.setIfInBounds_toArray, List.set_cons_zero, List.set_cons_succ]
  refine tk 6 31 (.pointer (some ⟨R, 0, none⟩)) rfl ?_ ?_
  · intro W hSW; go_simp
  simp only [Act.put, List.setIfInBounds_toArray, List.set_cons_zero, List.set_cons_succ]
  refine tk 7 32 (.pointer (some ⟨R, 1, none⟩)) rfl ?_ ?_
  · intro W hSW; go_simp
  simp only [Act.put, List.setIfInBounds_toArray, List.set_cons_zero, List.set_cons_succ]
  refine tk 8 33 (.int .i64 (t : Nat)) rfl ?_ ?_
  · intro W hSW; obtain ⟨z0, z1⟩ := HC.out W hSW; go_simp
  simp only [Act.put, List.setIfInBounds_toArray, List.set_cons_zero, List.set_cons_succ]
  refine tk 9 34 (.pointer (some ⟨R, 0, none⟩)) rfl ?_ ?_
  · intro W hSW; go_simp
  simp only [Act.put, List.setIfInBounds_toArray, List.set_cons_zero, List.set_cons_succ]
  refine tk 10 35 (.pointer (some ⟨R, 0, none⟩)) rfl ?_ ?_
  · intro W hSW; go_simp
  simp only [Act.put, List.setIfInBounds_toArray, List.set_cons_zero, List.set_cons_succ]
  refine tk 11 36 (.pointer (some ⟨R, 1, none⟩)) rfl ?_ ?_
  · intro W hSW; go_simp
  simp only [Act.put, List.setIfInBounds_toArray, List.set_cons_zero, List.set_cons_succ]
  refine tk 12 37 (.int .i64 (t : Nat)) rfl ?_ ?_
  · intro W hSW; obtain ⟨z0, z1⟩ := HC.out W hSW; go_simp
  simp only [Act.put, List.setIfInBounds_toArray, List.set_cons_zero, List.set_cons_succ]
  refine wpAnyH_ready (rs := [13]) (by kernel_rfl) (by simp) ?_
  refine AllReadyH.cons rfl (fun KK hKK => ?_) AllReadyH.nil
  have l1 := HK.out.1
  have l4 := HR2.out.cap
  have htc : t ≤ c := by rw [Ht.out]; omega
  have hqt : q ≤ t := by rw [Ht.out]; omega
  have htn : t - q = n := by rw [Ht.out]; omega
  go_simp
  obtain ⟨v, Hv⟩ : ∃ v, Hid (v = tsl P o (q, n)) := ⟨_, rfl⟩
  have hif : Value.slice (if t = q then some (⟨P, o, none⟩ : Addr) else some ⟨P, o + q, none⟩) n n = v := by
    rw [Hv.out]
    unfold tsl
    dsimp only
    by_cases h0 : n = 0
    · rw [if_pos (by rw [Ht.out, h0]; rfl), if_pos h0]
    · rw [if_neg (by rw [Ht.out]; omega), if_neg h0]
  rw [hif]
  refine hKK.out _ _ Twd.out (fun hHeld => ?_)
  clear hKK KK
  refine tk 14 6 v rfl ?_ ?_
  · intro W hSW; go_simp
  simp only [Act.put, List.setIfInBounds_toArray, List.set_cons_zero, List.set_cons_succ]
  refine wpAnyH_done (by kernel_rfl) ?_ _
  clear hHeld
  go_wp2_with fail
  go_ret
  rw [HT.out]
  exact ⟨by rw [Hv.out]; rfl, by rw [← Ht.out]; exact HR2.out.kept0 Twd.out, HA2.out.trans (Twd.out.mono (by simp))⟩
end Go.Proofs.Ytllhmidpphlbhaa.ds
