import Derived.Test.YtagjmpdimphfaaaRefB
import Derived.Test.YtagjmpdimphfaaaRange
import Derived.Test.YtagjmpdimphfaaaParts
namespace Go.Proofs.Ytagjmpdimphfaaa.rg
open Go.ChangeShapes Go.WideShapes Go.ChangeAt Go.RowKit Go.Sort
set_option linter.unusedVariables false
set_option linter.unusedSimpArgs false
set_option maxHeartbeats 2000000 in
set_option maxRecDepth 100000 in
theorem rrange_ok {w : World} {R n m : Nat} (G : Rg w R n m) (s : ByteArray) (hs : s.size ≤ 9223372036854775807) : Calls Try.prog 31 #[.pointer (some ⟨R, 0, none⟩), .string s] w fun r w' => r = .returned (.int .i64 (hashN (strN s) % m : Nat)) ∧ Apart [] w w' := by
  have r1 : ∀ X, Apart [] w X → X.cell? ⟨R, 1, none⟩ = some (.int .i64 (m : Nat)) := fun X a => (a.cell (p := ⟨R, 1, none⟩) G.lt (by simp)).trans G.c1
  have hm1 := G.m1
  have hm16 := G.m16
  have aD : Apart [] w w.drew := (Apart.refl _ _).drew
  have hconv := Lib.run_convert_string_bytes (P := Try.prog) w.drew 9 64 5 s Try.underlying9 Try.underlying64 Try.underlying5
  have aB : Apart [] w (Lib.bytesWorld w.drew 5 s) := aD.trans (bytes_apart w.drew 5 s)
  have hBy := bytes_by w.drew 5 s
  have hh := hashN_lt (strN s)
  have hm0 : ¬ ((m : Int) = 0) := by omega
  obtain ⟨cb, Hcb⟩ : ∃ cb, Hid (cb = grownCap w.drew s.size 0 5) := ⟨_, rfl⟩
  rw [← Hcb.out] at hconv
  generalize Lib.bytesWorld w.drew 5 s = Z at *
  obtain ⟨h, Hh⟩ : ∃ h, Hid (h = hashN (strN s)) := ⟨_, rfl⟩
  obtain ⟨q, Hq⟩ : ∃ q, Hid (q = h % m) := ⟨_, rfl⟩
  have hlt : q < 16 := by rw [Hq.out]; exact Nat.lt_of_lt_of_le (Nat.mod_lt _ (by omega)) hm16
  have hrem : ((h : Int)).tmod (m : Int) = (q : Int) := by rw [Hq.out, Int.ofNat_tmod]
  have hwq : IntKind.i64.wrap (q : Int) = (q : Int) := by simp [IntKind.wrap, IntKind.bits, IntKind.signed]; omega
  have hm00 : ¬ m = 0 := by omega
  rw [← Hh.out] at hh ⊢
  rw [← Hq.out]
  go_enter Try.func31, Try.ntmps31
  go_wp2_with fail
  refine wp_region_held_drew (S := fun X => Apart [] w X) (by kernel_rfl) aD (fun hHeld => ?_)
  refine wpAnyH_take (i := 0) (oi := ⟨some 5, _, _, _, _, _⟩) (v := (.string s)) rfl (by kernel_rfl) (by kernel_rfl) (by kernel_rfl) (fun _ _ _ h => h) (Or.inl ⟨by rfl, ?_⟩) (by assumption) ?_
  · intro W hSW; go_simp
  simp only [Act.put, List.setIfInBounds_toArray, List.set_cons_zero, List.set_cons_succ]
  refine wpAnyH_take (i := 3) (oi := ⟨some 8, _, _, _, _, _⟩) (v := (.pointer (some ⟨R, 0, none⟩))) rfl (by kernel_rfl) (by kernel_rfl) (by kernel_rfl) (fun _ _ _ h => h) (Or.inl ⟨by rfl, ?_⟩) (by assumption) ?_
  · intro W hSW; go_simp
  simp only [Act.put, List.setIfInBounds_toArray, List.set_cons_zero, List.set_cons_succ]
  refine wpAnyH_take (i := 4) (oi := ⟨some 9, _, _, _, _, _⟩) (v := (.pointer (some ⟨R, 0, none⟩))) rfl (by kernel_rfl) (by kernel_rfl) (by kernel_rfl) (fun _ _ _ h => h) (Or.inl ⟨by rfl, ?_⟩) (by assumption) ?_
  · intro W hSW; go_simp
  simp only [Act.put, List.setIfInBounds_toArray, List.set_cons_zero, List.set_cons_succ]
  refine wpAnyH_take (i := 5) (oi := ⟨some 10, _, _, _, _, _⟩) (v := (.pointer (some ⟨R, 1, none⟩))) rfl (by kernel_rfl) (by kernel_rfl) (by kernel_rfl) (fun _ _ _ h => h) (Or.inl ⟨by rfl, ?_⟩) (by assumption) ?_
  · intro W hSW; go_simp
  simp only [Act.put, List.setIfInBounds_toArray, List.set_cons_zero, List.set_cons_succ]
  refine wpAnyH_take (i := 6) (oi := ⟨some 11, _, _, _, _, _⟩) (v := (.int .i64 (m : Nat))) rfl (by kernel_rfl) (by kernel_rfl) (by kernel_rfl) (fun _ _ _ h => h) (Or.inl ⟨by rfl, ?_⟩) (by assumption) ?_
  · intro W hSW; go_simp
  simp only [Act.put, List.setIfInBounds_toArray, List.set_cons_zero, List.set_cons_succ]
  refine wpAnyH_ready (rs := [1]) (by kernel_rfl) (by simp) ?_
  refine AllReadyH.cons rfl (fun KK hKK => ?_) AllReadyH.nil
  go_simp
  refine hKK.out _ _ (by assumption) (fun hHeld => ?_)
  clear hKK KK
  refine wpAnyH_ready (rs := [2]) (by kernel_rfl) (by simp) ?_
  refine AllReadyH.cons rfl (fun KK hKK => ?_) AllReadyH.nil
  go_simp
  refine (refHash_ok hBy (by omega)).mono ?_
  rintro r w2 ⟨rfl, rfl⟩
  dsimp only
  rw [← Hh.out]
  refine hKK.out _ _ (by assumption) (fun hHeld => ?_)
  clear hKK KK
  refine wpAnyH_take (i := 7) (oi := ⟨some 12, _, _, _, _, _⟩) (v := (.int .i64 (q : Nat))) rfl (by kernel_rfl) (by kernel_rfl) (by kernel_rfl) (fun _ _ _ h => h) (Or.inl ⟨by rfl, ?_⟩) (by assumption) ?_
  · intro W hSW; go_simp
  simp only [Act.put, List.setIfInBounds_toArray, List.set_cons_zero, List.set_cons_succ]
  refine wpAnyH_take (i := 8) (oi := ⟨some 4, _, _, _, _, _⟩) (v := (.int .i64 (q : Nat))) rfl (by kernel_rfl) (by kernel_rfl) (by kernel_rfl) (fun _ _ _ h => h) (Or.inl ⟨by rfl, ?_⟩) (by assumption) ?_
  · intro W hSW; go_simp
  simp only [Act.put, List.setIfInBounds_toArray, List.set_cons_zero, List.set_cons_succ]
  refine wpAnyH_done (by kernel_rfl) ?_ _
  go_wp2_with fail
  go_ret
  exact ⟨rfl, by assumption⟩
theorem rpref_rng {w : World} {R n m : Nat} (G : Rg w R n m) (rng : Int) (h : rng < 0 ∨ (m : Int) ≤ rng) (k : Int) : Calls Try.prog 34 #[.pointer (some ⟨R, 0, none⟩), .int .i64 rng, .int .i64 k] w fun e w' => e = .returned (.tuple #[.slice none 0 0, .int .i64 40]) ∧ w' = w := by
  go_enter Try.func34, Try.ntmps34
  go_wp2_with fail
  refine (rorder_bad G rng h).mono ?_
  rintro e w1 ⟨rfl, rfl⟩
  dsimp only
  go_wp2_with fail
  go_ret2
  exact ⟨rfl, rfl⟩
theorem rstand_rng {w : World} {R n m : Nat} (G : Rg w R n m) (rng : Int) (h : rng < 0 ∨ (m : Int) ≤ rng) (k : Int) : Calls Try.prog 35 #[.pointer (some ⟨R, 0, none⟩), .int .i64 rng, .int .i64 k] w fun e w' => e = .returned (.tuple #[.slice none 0 0, .int .i64 40]) ∧ w' = w := by
  go_enter Try.func35, Try.ntmps35
  go_wp2_with fail
  refine (rorder_bad G rng h).mono ?_
  rintro e w1 ⟨rfl, rfl⟩
  dsimp only
  go_wp2_with fail
  go_ret2
  exact ⟨rfl, rfl⟩
theorem rrank_rng {w : World} {R n m : Nat} (G : Rg w R n m) (rng : Int) (h : rng < 0 ∨ (m : Int) ≤ rng) (k : Int) : Calls Try.prog 36 #[.pointer (some ⟨R, 0, none⟩), .int .i64 rng, .int .i64 k] w fun e w' => e = .returned (.tuple #[.int .i64 0, .int .i64 40]) ∧ w' = w := by
  go_enter Try.func36, Try.ntmps36
  go_wp2_with fail
  refine (rorder_bad G rng h).mono ?_
  rintro e w1 ⟨rfl, rfl⟩
  dsimp only
  go_wp2_with fail
  go_ret2
  exact ⟨rfl, rfl⟩
set_option maxHeartbeats 2000000 in
theorem rpref_arg {w : World} {R n m : Nat} (G : Rg w R n m) (r : Nat) (h : r < m) (k : Int) (hk : k < 1 ∨ (n : Int) < k) : Calls Try.prog 34 #[.pointer (some ⟨R, 0, none⟩), .int .i64 r, .int .i64 k] w fun e w' => e = .returned (.tuple #[.slice none 0 0, .int .i64 1]) ∧ Apart [] w w' := by
  have HG : Hid (Rg w R n m) := G
  clear G
  go_enter Try.func34, Try.ntmps34
  go_wp2_with fail
  refine (rorder_ok HG.out r h).mono ?_
  rintro e w1 ⟨⟨P, cap, rfl, O, hle, hc63⟩⟩
  dsimp only
  have c0 := (HG.out.kept0 O.ap).c0
  have aP := O.ap
  clear O
  by_cases k1 : k < 1
  · go_wp2_with fail
    go_ret2
    exact ⟨rfl, aP⟩
  · have k2 : k > (n : Int) := by omega
    go_wp2_with fail
    go_ret2
    exact ⟨rfl, aP⟩
set_option maxHeartbeats 2000000 in
theorem rstand_arg {w : World} {R n m : Nat} (G : Rg w R n m) (r : Nat) (h : r < m) (k : Int) (hk : k < 1 ∨ (n : Int) < k) : Calls Try.prog 35 #[.pointer (some ⟨R, 0, none⟩), .int .i64 r, .int .i64 k] w fun e w' => e = .returned (.tuple #[.slice none 0 0, .int .i64 1]) ∧ Apart [] w w' := by
  have HG : Hid (Rg w R n m) := G
  clear G
  go_enter Try.func35, Try.ntmps35
  go_wp2_with fail
  refine (rorder_ok HG.out r h).mono ?_
  rintro e w1 ⟨⟨P, cap, rfl, O, hle, hc63⟩⟩
  dsimp only
  have c0 := (HG.out.kept0 O.ap).c0
  have aP := O.ap
  clear O
  by_cases k1 : k < 1
  · go_wp2_with fail
    go_ret2
    exact ⟨rfl, aP⟩
  · have k2 : k > (n : Int) := by omega
    go_wp2_with fail
    go_ret2
    exact ⟨rfl, aP⟩
set_option maxHeartbeats 2000000 in
theorem rpref_ok {w : World} {R n m : Nat} (G : Rg w R n m) (r : Nat) (h : r < m) (k : Nat) (hk1 : 1 ≤ k) (hk : k ≤ n) : Calls Try.prog 34 #[.pointer (some ⟨R, 0, none⟩), .int .i64 r, .int .i64 k] w fun e w' => LstPost w w' e k ((ord n r).take k) := by
  have := G.n1; have := G.n8; have := G.m16
  have k1 : ¬ ((k : Int) < 1) := by omega
  have k2 : ¬ ((k : Int) > (n : Int)) := by omega
  have HG : Hid (Rg w R n m) := G
  clear G
  go_enter Try.func34, Try.ntmps34
  go_wp2_with fail
  refine (rorder_ok HG.out r h).mono ?_
  rintro e w1 ⟨⟨P, cap, rfl, O, hle, hc63⟩⟩
  dsimp only
  have c0 := (HG.out.kept0 O.ap).c0
  have B := O.ob
  have hPn := O.new P rfl
  have aP := O.ap
  have B1 : Ob w1 P 0 k cap (ints ((ord n r).take k)) := by
    rw [show ints ((ord n r).take k) = (ints (ord n r)).take k by simp [ints]]
    exact B.first k hk
  clear O B
  have hnk : ¬ cap < k := by omega
  go_wp2_with fail
  go_ret2
  exact ⟨⟨P, 0, cap, rfl, hPn, aP, B1⟩⟩
set_option maxHeartbeats 2000000 in
theorem rstand_ok {w : World} {R n m : Nat} (G : Rg w R n m) (r : Nat) (h : r < m) (k : Nat) (hk1 : 1 ≤ k) (hk : k ≤ n) : Calls Try.prog 35 #[.pointer (some ⟨R, 0, none⟩), .int .i64 r, .int .i64 k] w fun e w' => LstPost w w' e (n - k) ((ord n r).drop k) := by
  have := G.n1; have := G.n8; have := G.m16
  have k1 : ¬ ((k : Int) < 1) := by omega
  have k2 : ¬ ((k : Int) > (n : Int)) := by omega
  have HG : Hid (Rg w R n m) := G
  clear G
  go_enter Try.func35, Try.ntmps35
  go_wp2_with fail
  refine (rorder_ok HG.out r h).mono ?_
  rintro e w1 ⟨⟨P, cap, rfl, O, hle, hc63⟩⟩
  dsimp only
  have c0 := (HG.out.kept0 O.ap).c0
  have B := O.ob
  have hPn := O.new P rfl
  have aP := O.ap
  have hcc : ∃ ad : Addr, (if cap = k then some (⟨P, 0, none⟩ : Addr) else some ⟨P, k, none⟩) = some ad ∧ ∃ o, ad = ⟨P, o, none⟩ ∧ Ob w1 P o (n - k) (cap - k) (ints ((ord n r).drop k)) := by
    by_cases hck : cap = k
    · refine ⟨⟨P, 0, none⟩, by rw [if_pos hck], 0, rfl, ?_⟩
      have e1 : n - k = 0 := by omega
      have e2 : cap - k = 0 := by omega
      have e3 : ints ((ord n r).drop k) = [] := by
        have hl : (ints (ord n r)).length = n := B.len
        simp only [ints, List.length_map] at hl
        simp [ints, List.drop_eq_nil_iff]; omega
      rw [e1, e2, e3]
      exact B.none
    · refine ⟨⟨P, k, none⟩, by rw [if_neg hck], k, rfl, ?_⟩
      have := B.rest k hk
      rw [Nat.zero_add] at this
      rw [show ints ((ord n r).drop k) = (ints (ord n r)).drop k by simp [ints]]
      exact this
  obtain ⟨ad, hadif, o, Ho, B2⟩ := hcc
  have HO : Hid (ad = ⟨P, o, none⟩) := Ho
  clear Ho O B
  have hnk : ¬ cap < k := by omega
  go_wp2_with fail
  go_ret2
  exact ⟨⟨P, o, cap - k, by rw [← HO.out]; rfl, hPn, aP, B2⟩⟩
set_option maxHeartbeats 2000000 in
theorem rrank_any {w : World} {R n m : Nat} (G : Rg w R n m) (r : Nat) (h : r < m) (k : Int) : Calls Try.prog 36 #[.pointer (some ⟨R, 0, none⟩), .int .i64 r, .int .i64 k] w fun e w' => ((k ∈ ints (ord n r) → e = .returned (.tuple #[.int .i64 ((ints (ord n r)).idxOf k : Nat), .int .i64 0])) ∧ (k ∉ ints (ord n r) → e = .returned (.tuple #[.int .i64 0, .int .i64 4]))) ∧ Apart [] w w' := by
  have hn8 := G.n8; have := G.m16
  go_enter Try.func36, Try.ntmps36
  go_wp2_with fail
  refine (rorder_ok G r h).mono ?_
  rintro e w1 ⟨⟨P, cap, rfl, O, hle, hc63⟩⟩
  dsimp only
  have aP := O.ap
  have I := O.ir
  clear O G
  obtain ⟨xs, HX⟩ : ∃ xs, Hid (xs = ints (ord n r)) := ⟨_, rfl⟩
  rw [← HX.out] at I
  go_wp2_with fail
  go_loopw [10] (fun u wr => ∃ i : Nat, i ≤ n ∧ u = .int .i64 i ∧ wr = w1 ∧ ∀ j, j < i → xs.getD j 0 ≠ k) (fun u _ => n - (intOf u).toNat)
  case atStart => exact ⟨0, Nat.zero_le _, rfl, rfl, fun j hj => absurd hj (Nat.not_lt_zero _)⟩
  case round =>
    obtain ⟨i, hi, rfl, rfl, hI⟩ := hrel
    have HI : Hid (∀ j, j < i → xs.getD j 0 ≠ k) := hI
    clear hI
    by_cases hlt : i < n
    · obtain ⟨P', o, hpp, hP, hc⟩ := I.at' (by omega)
      simp only [Option.some.injEq, Addr.mk.injEq, and_true] at hpp
      obtain ⟨rfl, rfl⟩ := hpp
      have c1 := hc i hlt
      rw [Nat.zero_add] at c1
      have hil : Hid (i < xs.length) := by show i < xs.length; rw [I.len]; exact hlt
      obtain ⟨x, Hx⟩ : ∃ x, Hid (x = xs.getD i 0) := ⟨_, rfl⟩
      rw [← Hx.out] at c1
      clear hc I
      by_cases hxv : x = k
      · subst hxv
        go_wp2_with fail
        go_ret2
        rw [← HX.out]
        have hg : xs[i]'hil.out = x := by have := Hx.out; rw [List.getD_eq_getElem?_getD, List.getElem?_eq_getElem hil.out] at this; exact this.symm
        have hid : xs.idxOf x = i := by
          rw [List.idxOf, List.findIdx_eq hil.out]
          refine ⟨by simpa using hg, fun j hj => ?_⟩
          have h2 := HI.out j hj
          have hjl : j < xs.length := Nat.lt_trans hj hil.out
          rw [List.getD_eq_getElem?_getD, List.getElem?_eq_getElem hjl] at h2
          simpa using h2
        rw [hid]
        exact ⟨⟨fun _ => rfl, fun hn => absurd (by rw [← hg]; exact List.getElem_mem _) hn⟩, aP⟩
      · go_wp2_with fail
        go_roundw
        case rel =>
          refine ⟨i + 1, by omega, by simp, trivial, fun j hj => ?_⟩
          by_cases hji : j = i
          · subst hji; rw [← Hx.out]; exact hxv
          · exact HI.out j (by omega)
        case measure => simp only [intOf]; omega
    · obtain rfl : i = n := by omega
      have hm : Hid (k ∉ xs) := by
        intro hm
        obtain ⟨j, hj, e⟩ := List.getElem_of_mem hm
        have := HI.out j (by have := I.len; omega)
        rw [List.getD_eq_getElem?_getD, List.getElem?_eq_getElem hj] at this
        exact this e
      clear I
      go_wp2_with fail
      go_ret2
      rw [← HX.out]
      exact ⟨⟨fun h => absurd h hm.out, fun _ => rfl⟩, aP⟩
end Go.Proofs.Ytagjmpdimphfaaa.rg
