import Derived.Test.YtdbeeikjngnnnaaG10
import Derived.Test.YtdbeeikjngnnnaaG11
import Derived.WalkLawsBesides
namespace Go.Proofs.Ytdbeeikjngnnnaa.ty
open Go.ChangeShapes Go.WideShapes Go.ChangeAt Go.RowKit
set_option linter.unusedVariables false
set_option linter.unusedSimpArgs false
theorem me_form1 (cs : Array Value) (w : World) : (method 247 88 (.agg cs) "rookery/types.form").run Try.prog w = .ok (77, .agg cs) w := by kernel_rfl
set_option maxRecDepth 100000 in
theorem Bytes1 {w : World} {V : Nat} {u d : List Int} (hV : Bd w V (.iface 88 (.agg (rv (u ++ d)).toArray))) (hu : Wd u) (hd : Wd d) : Calls Try.prog 10 #[.pointer (some ⟨V, 0, none⟩)] w fun r w' => ∃ s, r = .returned (.tuple #[.slice s.p s.n s.c, .int .i64 0]) ∧ Bf w w' s (1 :: rowB (ob u d) 6) := by
  have z : w.cell? ⟨V, 0, none⟩ = some (.iface 88 (.agg (rv (u ++ d)).toArray)) := by rw [cell_of_row _ _ _ _ _ _ hV]; rfl
  have hm := fun wx => me_form1 (rv (u ++ d)).toArray wx
  have HC := hid (cform_ok (w := w) hu hd)
  clear hV hu hd
  go_enter Try.func10, Try.ntmps10
  go_upto_region 2 with (go_at_call 77; refine HC.out.mono ?_; rintro _ w1 ⟨s, rfl, b1⟩; have HB := hid b1; clear b1)
  have hn : ¬ ((s.n : Nat) : Int) > 64 := by
    have h1 := HB.out.len
    have h2 := nb8_len (ob u d) 6 8
    rw [rowB, List.length_cons, List.length_cons] at h1
    omega
  go_wp2_with fail
  go_ret2
  exact ⟨s, rfl, HB.out⟩
set_option maxRecDepth 100000 in
theorem alike_yes {w : World} {s s' : Sl} {bs : List Nat} (h : Rd w s.p (byts bs)) (hl : bs.length = s.n) (ok : s.ok) (h' : Rd w s'.p (byts bs)) (hl' : bs.length = s'.n) (ok' : s'.ok) : Calls Try.prog 13 #[.slice s.p s.n s.c, .slice s'.p s'.n s'.c] w fun r w' => r = .returned (.bool true) ∧ w' = w := by
  have e1 := conv_bytes h hl ok
  have e2 := conv_bytes h' hl' ok'
  clear h hl ok h' hl' ok'
  go_enter Try.func13, Try.ntmps13
  go_wp2_with fail
  go_ret
  exact ⟨by first | rfl | simp, rfl⟩
theorem Wd.zr : Wd zr := ⟨rfl, by intro x hx; simp [ty.zr] at hx; omega⟩
def u5 : List Int := [5, 0, 0, 0, 0, 0, 0, 0]
theorem Wd.u5 : Wd u5 := ⟨rfl, by intro x hx; simp [ty.u5] at hx; omega⟩
set_option maxHeartbeats 4000000 in
set_option maxRecDepth 100000 in
theorem able_ok (w : World) : Calls Try.prog 7 #[] w fun r w' => r = .returned (.bool true) ∧ Apart [] w w' := by
  have HN := hid (new_ok w 1 (by omega) (by omega))
  obtain ⟨V, hVe⟩ : ∃ V, V = w.heap.size := ⟨_, rfl⟩
  obtain ⟨w1, hw1⟩ : ∃ W, W = w.alloc (.cells #[zb 1] 70) := ⟨_, rfl⟩
  have HV1 : Hid (Bd w1 V (.iface 88 (.agg (rv (zr ++ zr)).toArray))) := by unfold Hid; rw [hw1, hVe]; exact heap_alloc_new w _
  have HA1 : Hid (Apart [] w w1) := by unfold Hid; rw [hw1]; exact (Apart.refl [] w).alloc _
  have HL : Hid (w.heap.size ≤ V) := by unfold Hid; omega
  rw [← hw1, ← hVe] at HN
  clear hw1 hVe
  have HAdd : Hid (Calls Try.prog 15 #[.pointer (some ⟨V, 0, none⟩), .int .i64 0, .int .i64 5] w1 fun r w' => r = .returned (.int .i64 0) ∧ Bd w' V (.iface 88 (.agg (rv (u5 ++ zr)).toArray)) ∧ Apart [V] w1 w') :=
    hid (Add1_ok (.int .i64 0) (.int .i64 5) HV1.out (add_ok (w := w1) Wd.zr Wd.zr 0 (by omega) 5 (by omega) (by omega)))
  go_enter Try.func7, Try.ntmps7
  go_upto_region 2 with (go_at_call 9; refine HN.out.mono ?_; rintro _ _ ⟨rfl, rfl⟩)
  go_upto_region 4 with (first
    | (go_at_call 15; refine HAdd.out.mono ?_; rintro _ w2 ⟨rfl, v2, a2⟩; have HV2 := hid v2; have HA2 := hid a2; clear v2 a2; have HSum := hid (Sum1 HV2.out (sum_ok (w := w2) Wd.u5 Wd.zr)); have e5 : Hid (sumC u5 zr 8 = 5) := hid (by decide); rw [e5.out] at HSum)
    | (go_at_call 21; refine HSum.out.mono ?_; rintro _ w3 ⟨rfl, a3⟩; have HA3 := hid a3; clear a3))
  have HBy := hid (Bytes1 (w := w3) (keep0 HA3.out HV2.out) Wd.u5 Wd.zr)
  have e6 : (1 :: rowB (ob u5 zr) 6) = [1, 1, 5, 0, 0, 0, 0, 0] := by decide
  rw [e6] at HBy
  clear e6
  go_upto_region 5 with (go_at_call 10; refine HBy.out.mono ?_; rintro _ w4 ⟨s, rfl, b4⟩; have HB := hid b4; clear b4)
  obtain ⟨w5, hw5⟩ : ∃ W, W = w4.alloc (.cells #[.int .u8 1, .int .u8 1, .int .u8 5, .int .u8 0, .int .u8 0, .int .u8 0, .int .u8 0, .int .u8 0] 5) := ⟨_, rfl⟩
  have HA5 : Hid (Apart [] w4 w5) := by unfold Hid; rw [hw5]; exact (Apart.refl [] w4).alloc _
  have HR5 : Hid (Rd w5 (some ⟨w4.heap.size, 0, none⟩) (byts [1, 1, 5, 0, 0, 0, 0, 0])) := by
    unfold Hid
    intro _
    have hh : w5.heap[w4.heap.size]? = some (.cells (byts [1, 1, 5, 0, 0, 0, 0, 0]).toArray 5 (0, 0)) := by rw [hw5]; exact heap_alloc_new w4 _
    refine ⟨w4.heap.size, 0, rfl, lt_of_heap hh, fun j v hj => ?_⟩
    rw [Nat.zero_add, cell_of_row _ _ _ _ _ _ hh]
    simpa using hj
  have HAl := hid (alike_yes (w := w5) (s := s) (s' := ⟨some ⟨w4.heap.size, 0, none⟩, 8, 8⟩) (HB.out.nw.kept HA5.out).rd HB.out.len.symm HB.out.nw.ok HR5.out rfl (fun e => by cases e))
  have HFin : Hid (Apart [] w w5) := hid ((((HA1.out.trans' HA2.out (by intro y hy; simp at hy; rw [hy]; exact .inr HL.out)).trans HA3.out).trans HB.out.nw.ap).trans HA5.out)
  rw [hw5] at HAl HFin
  clear HA5 HR5 hw5
  go_wp2_with (go_at_call 13; refine HAl.out.mono ?_; rintro _ _ ⟨rfl, rfl⟩)
  go_wp2_with fail
  go_ret
  exact ⟨rfl, HFin.out⟩
end Go.Proofs.Ytdbeeikjngnnnaa.ty
namespace Go.Proofs.Ytdbeeikjngnnnaa.ty
open Go.ChangeShapes Go.WideShapes Go.ChangeAt Go.RowKit
set_option linter.unusedVariables false
set_option linter.unusedSimpArgs false
set_option maxRecDepth 100000 in
theorem nanI (w : World) (a : Int) : Calls Try.prog 47 #[.int .i64 a] w fun r w' => r = .returned (.bool false) ∧ w' = w := by
  go_enter Try.func47, Try.ntmps47
  go_wp2_with fail
  go_ret
  exact ⟨by first | rfl | simp, rfl⟩
set_option maxRecDepth 100000 in
theorem nanS (w : World) (a : ByteArray) : Calls Try.prog 48 #[.string a] w fun r w' => r = .returned (.bool false) ∧ w' = w := by
  go_enter Try.func48, Try.ntmps48
  go_wp2_with fail
  go_ret
  exact ⟨by first | rfl | simp, rfl⟩
def cmI (a b : Int) : Int := if a < b then -1 else if a > b then 1 else 0
set_option maxRecDepth 100000 in
theorem cmpI (w : World) (a b : Int) : Calls Try.prog 44 #[.int .i64 a, .int .i64 b] w fun r w' => r = .returned (.int .i64 (cmI a b)) ∧ w' = w := by
  have HN := hid nanI
  by_cases h1 : a < b
  · have e : cmI a b = -1 := by simp [cmI, h1]
    rw [e]
    go_enter Try.func44, Try.ntmps44
    go_wp2_with (go_at_call 47; refine (HN.out _ _).mono ?_; rintro _ _ ⟨rfl, rfl⟩)
    go_ret
    exact ⟨rfl, rfl⟩
  · by_cases h2 : a > b
    · have e : cmI a b = 1 := by simp [cmI, h1, h2]
      rw [e]
      go_enter Try.func44, Try.ntmps44
      go_wp2_with (go_at_call 47; refine (HN.out _ _).mono ?_; rintro _ _ ⟨rfl, rfl⟩)
      go_ret
      exact ⟨rfl, rfl⟩
    · have e : cmI a b = 0 := by simp [cmI, h1]; omega
      rw [e]
      go_enter Try.func44, Try.ntmps44
      go_wp2_with (go_at_call 47; refine (HN.out _ _).mono ?_; rintro _ _ ⟨rfl, rfl⟩)
      go_ret
      exact ⟨rfl, rfl⟩
def cmS (a b : ByteArray) : Int := if Op.bytesLess a.toList b.toList then -1 else if a.toList == b.toList then 0 else 1
set_option maxRecDepth 100000 in
theorem cmpS (w : World) (a b : ByteArray) : Calls Try.prog 45 #[.string a, .string b] w fun r w' => r = .returned (.int .i64 (cmS a b)) ∧ w' = w := by
  have HN := hid nanS
  cases h1 : Op.bytesLess a.toList b.toList
  · cases h2 : (a.toList == b.toList)
    · have e : cmS a b = 1 := by simp only [cmS, h1, h2]; rfl
      rw [e]
      go_enter Try.func45, Try.ntmps45
      go_wp2_with (go_at_call 48; refine (HN.out _ _).mono ?_; rintro _ _ ⟨rfl, rfl⟩)
      go_ret
      exact ⟨rfl, rfl⟩
    · have e : cmS a b = 0 := by simp only [cmS, h1, h2]; rfl
      rw [e]
      go_enter Try.func45, Try.ntmps45
      go_wp2_with (go_at_call 48; refine (HN.out _ _).mono ?_; rintro _ _ ⟨rfl, rfl⟩)
      go_ret
      exact ⟨rfl, rfl⟩
  · have e : cmS a b = -1 := by simp only [cmS, h1]; rfl
    rw [e]
    go_enter Try.func45, Try.ntmps45
    go_wp2_with (go_at_call 48; refine (HN.out _ _).mono ?_; rintro _ _ ⟨rfl, rfl⟩)
    go_ret
    exact ⟨rfl, rfl⟩
/-- the first that is not 0 -/
def orL : List Int → Int
  | [] => 0
  | x :: r => if x ≠ 0 then x else orL r
theorem orL_drop {xs : List Int} {i : Nat} (hi : i < xs.length) : orL (xs.drop i) = if xs.getD i 0 ≠ 0 then xs.getD i 0 else orL (xs.drop (i + 1)) := by
  rw [List.drop_eq_getElem_cons hi, orL]
  simp [hi]
set_option maxRecDepth 100000 in
theorem or_ok {w : World} {P o n c : Nat} {xs : List Int} (hl : xs.length = n) (hn : n ≤ 1000) (hr : ∀ j u, (rv xs)[j]? = some u → w.cell? ⟨P, o + j, none⟩ = some u) : Calls Try.prog 43 #[.slice (some ⟨P, o, none⟩) n c] w fun r w' => r = .returned (.int .i64 (orL xs)) ∧ w' = w := by
  have HR := hid hr
  have Hl := hid hl
  clear hr hl
  obtain ⟨rr, Hrr⟩ : ∃ z : Int, Hid (z = orL xs) := ⟨_, hid rfl⟩
  rw [← Hrr.out]
  go_enter Try.func43, Try.ntmps43
  go_wp2_with fail
  go_loopw [8] (fun v wt => ∃ i : Nat, v = .int .i64 (i : Nat) ∧ i ≤ n ∧ wt = w ∧ Hid (rr = orL (xs.drop i))) (fun v _ => n - (intOf v).toNat)
  case atStart => exact ⟨0, rfl, Nat.zero_le _, rfl, Hrr⟩
  case round =>
    obtain ⟨i, rfl, hi, rfl, HI⟩ := hrel
    by_cases hlt : i < n
    · have hlti : ((i : Nat) : Int) < ((n : Nat) : Int) := by omega
      have z := HR.out i _ (rv_at xs i (by rw [Hl.out]; exact hlt))
      have hd := orL_drop (xs := xs) (i := i) (by rw [Hl.out]; exact hlt)
      obtain ⟨x, Hx⟩ : ∃ z : Int, Hid (z = xs.getD i 0) := ⟨_, hid rfl⟩
      rw [← Hx.out] at z hd
      have HD := hid hd
      clear hd
      by_cases he : x = 0
      · subst he
        have HI2 : Hid (rr = orL (xs.drop (i + 1))) := by unfold Hid; rw [HI.out, HD.out]; simp
        go_wp2_with fail
        go_roundw
        case rel => exact ⟨i + 1, by go_num, by omega, by first | rfl | trivial, HI2⟩
        case measure => simp [intOf]; omega
      · have hb : (x != 0) = true := by simp [he]
        have HI2 : Hid (rr = x) := by unfold Hid; rw [HI.out, HD.out, if_pos he]
        clear he
        go_wp2_with fail
        go_ret
        exact ⟨by first | rfl | (rw [HI2.out]; rfl), rfl⟩
    · have hlti : ¬ ((i : Nat) : Int) < ((n : Nat) : Int) := by omega
      have HI2 : Hid (rr = 0) := by unfold Hid; rw [HI.out, List.drop_eq_nil_of_le (by rw [Hl.out]; omega)]; rfl
      go_wp2_with fail
      go_ret
      exact ⟨by first | rfl | (rw [HI2.out]; rfl), rfl⟩
end Go.Proofs.Ytdbeeikjngnnnaa.ty
namespace Go.Proofs.Ytdbeeikjngnnnaa.ty
open Go.ChangeShapes Go.WideShapes Go.ChangeAt Go.RowKit
set_option linter.unusedVariables false
set_option linter.unusedSimpArgs false
theorem rv_row3 {W : World} {P : Nat} {x y z : Int} (h : W.heap[P]? = some (.cells #[.int .i64 x, .int .i64 y, .int .i64 z] 3 (0, 0))) : ∀ j u, (rv [x, y, z])[j]? = some u → W.cell? ⟨P, 0 + j, none⟩ = some u := by
  intro j u hj
  rw [Nat.zero_add, cell_of_row _ _ _ _ _ _ h]
  simpa [rv] using hj
/-- is the second register the later one? -/
def later (s a : Int) (t : ByteArray) (s2 a2 : Int) (t2 : ByteArray) : Prop := orL [cmI s s2, cmI a a2, cmS t t2] < 0
set_option maxRecDepth 100000 in
theorem gmerged_ok {w : World} {s a s2 a2 : Int} {t t2 : ByteArray} : Calls Try.prog 38 #[.agg (ty.rg s a t), .agg (ty.rg s2 a2 t2)] w fun r w' => (later s a t s2 a2 t2 → r = .returned (.agg (ty.rg s2 a2 t2))) ∧ (¬ later s a t s2 a2 t2 → r = .returned (.agg (ty.rg s a t))) ∧ Apart [] w w' := by
  unfold ty.rg
  have HA := hid (Apart.refl [] w)
  go_enter Try.func38, Try.ntmps38
  go_upto_region 1 with fail
  obtain ⟨X, HXX⟩ : ∃ X, Hid (X = w.heap.size) := ⟨_, rfl⟩
  obtain ⟨w1, hw1⟩ : ∃ W, W = w.alloc (.cells #[.int .i64 s, .int .i64 a, .string t] 95) := ⟨_, rfl⟩
  have HSw1 : Hid (Apart [] w w1) := by unfold Hid; rw [hw1]; exact (Apart.refl [] w).alloc _
  have HBX : Hid (w1.heap[X]? = some (.cells #[.int .i64 s, .int .i64 a, .string t] 95 (0, 0))) := by unfold Hid; rw [HXX.out, hw1]; exact heap_alloc_new w _
  have HLX : Hid (w.heap.size ≤ X) := by unfold Hid; rw [HXX.out]; exact HA.out.size
  replace HA := hid (HA.out.trans HSw1.out)
  obtain ⟨Y, HXY⟩ : ∃ X, Hid (X = w1.heap.size) := ⟨_, rfl⟩
  obtain ⟨w2, hw2⟩ : ∃ W, W = w1.alloc (.cells #[.int .i64 s2, .int .i64 a2, .string t2] 95) := ⟨_, rfl⟩
  have HSw2 : Hid (Apart [] w1 w2) := by unfold Hid; rw [hw2]; exact (Apart.refl [] w1).alloc _
  have HBY : Hid (w2.heap[Y]? = some (.cells #[.int .i64 s2, .int .i64 a2, .string t2] 95 (0, 0))) := by unfold Hid; rw [HXY.out, hw2]; exact heap_alloc_new w1 _
  have HNY_X : Hid (Y ≠ X) := by unfold Hid; have := lt_of_heap HBX.out; rw [HXY.out]; omega
  have HLY : Hid (w.heap.size ≤ Y) := by unfold Hid; rw [HXY.out]; exact HA.out.size
  replace HA := hid (HA.out.trans HSw2.out)
  replace HBX := hid (keep0 HSw2.out HBX.out)
  have heY : X + 1 = Y := by rw [HXY.out, hw1, HXX.out]; exact (Array.size_push _).symm
  obtain ⟨Z, HXZ⟩ : ∃ X, Hid (X = w2.heap.size) := ⟨_, rfl⟩
  obtain ⟨w3, hw3⟩ : ∃ W, W = w2.alloc (.cells #[.int .i64 0, .int .i64 0, .string ⟨#[]⟩] 95) := ⟨_, rfl⟩
  have HSw3 : Hid (Apart [] w2 w3) := by unfold Hid; rw [hw3]; exact (Apart.refl [] w2).alloc _
  have HBZ : Hid (w3.heap[Z]? = some (.cells #[.int .i64 0, .int .i64 0, .string ⟨#[]⟩] 95 (0, 0))) := by unfold Hid; rw [HXZ.out, hw3]; exact heap_alloc_new w2 _
  have HNZ_X : Hid (Z ≠ X) := by unfold Hid; have := lt_of_heap HBX.out; rw [HXZ.out]; omega
  have HNZ_Y : Hid (Z ≠ Y) := by unfold Hid; have := lt_of_heap HBY.out; rw [HXZ.out]; omega
  have HLZ : Hid (w.heap.size ≤ Z) := by unfold Hid; rw [HXZ.out]; exact HA.out.size
  replace HA := hid (HA.out.trans HSw3.out)
  replace HBX := hid (keep0 HSw3.out HBX.out)
  replace HBY := hid (keep0 HSw3.out HBY.out)
  have heZ : Y + 1 = Z := by rw [HXZ.out, hw2, HXY.out]; exact (Array.size_push _).symm
  rw [← hw1, ← HXX.out, ← hw2, heY, ← hw3, heZ]
  clear hw1 HXX hw2 HXY heY hw3 HXZ heZ
  have hAd : Apart [] w3 w3.drew := (Apart.refl [] w3).drew
  refine wp_region_held_drew (S := fun W => Apart [] w3 W) (by kernel_rfl) hAd (fun hHeld => ?_)
  generalize w3.drew = wd at *
  clear hAd
  refine tk 0 5 (.pointer (some ⟨X, 0, none⟩)) rfl ?_ ?_
  · intro W hSW; go_simp
  simp only [Act.put, List.setIfInBounds_toArray, List.set_cons_zero, List.set_cons_succ]
  refine tk 1 6 (.int .i64 s) rfl ?_ ?_
  · intro W hSW; have z : W.cell? ⟨X, 0, none⟩ = some (.int .i64 s) := (cell_of_row _ _ _ _ _ _ (keep0 hSW HBX.out)).trans rfl; go_simp
  simp only [Act.put, List.setIfInBounds_toArray, List.set_cons_zero, List.set_cons_succ]
  refine tk 2 7 (.pointer (some ⟨Y, 0, none⟩)) rfl ?_ ?_
  · intro W hSW; go_simp
  simp only [Act.put, List.setIfInBounds_toArray, List.set_cons_zero, List.set_cons_succ]
  refine tk 3 8 (.int .i64 s2) rfl ?_ ?_
  · intro W hSW; have z : W.cell? ⟨Y, 0, none⟩ = some (.int .i64 s2) := (cell_of_row _ _ _ _ _ _ (keep0 hSW HBY.out)).trans rfl; go_simp
  simp only [Act.put, List.setIfInBounds_toArray, List.set_cons_zero, List.set_cons_succ]
  refine tk 5 10 (.pointer (some ⟨X, 1, none⟩)) rfl ?_ ?_
  · intro W hSW; go_simp
  simp only [Act.put, List.setIfInBounds_toArray, List.set_cons_zero, List.set_cons_succ]
  refine tk 6 11 (.int .i64 a) rfl ?_ ?_
  · intro W hSW; have z : W.cell? ⟨X, 1, none⟩ = some (.int .i64 a) := (cell_of_row _ _ _ _ _ _ (keep0 hSW HBX.out)).trans rfl; go_simp
  simp only [Act.put, List.setIfInBounds_toArray, List.set_cons_zero, List.set_cons_succ]
  refine tk 7 12 (.pointer (some ⟨Y, 1, none⟩)) rfl ?_ ?_
  · intro W hSW; go_simp
  simp only [Act.put, List.setIfInBounds_toArray, List.set_cons_zero, List.set_cons_succ]
  refine tk 8 13 (.int .i64 a2) rfl ?_ ?_
  · intro W hSW; have z : W.cell? ⟨Y, 1, none⟩ = some (.int .i64 a2) := (cell_of_row _ _ _ _ _ _ (keep0 hSW HBY.out)).trans rfl; go_simp
  simp only [Act.put, List.setIfInBounds_toArray, List.set_cons_zero, List.set_cons_succ]
  refine tk 10 15 (.pointer (some ⟨X, 2, none⟩)) rfl ?_ ?_
  · intro W hSW; go_simp
  simp only [Act.put, List.setIfInBounds_toArray, List.set_cons_zero, List.set_cons_succ]
  refine tk 11 16 (.string t) rfl ?_ ?_
  · intro W hSW; have z : W.cell? ⟨X, 2, none⟩ = some (.string t) := (cell_of_row _ _ _ _ _ _ (keep0 hSW HBX.out)).trans rfl; go_simp
  simp only [Act.put, List.setIfInBounds_toArray, List.set_cons_zero, List.set_cons_succ]
  refine tk 12 17 (.pointer (some ⟨Y, 2, none⟩)) rfl ?_ ?_
  · intro W hSW; go_simp
  simp only [Act.put, List.setIfInBounds_toArray, List.set_cons_zero, List.set_cons_succ]
  refine tk 13 18 (.string t2) rfl ?_ ?_
  · intro W hSW; have z : W.cell? ⟨Y, 2, none⟩ = some (.string t2) := (cell_of_row _ _ _ _ _ _ (keep0 hSW HBY.out)).trans rfl; go_simp
  simp only [Act.put, List.setIfInBounds_toArray, List.set_cons_zero, List.set_cons_succ]
  refine wpAnyH_ready (rs := [4]) (by kernel_rfl) (by simp) ?_
  refine AllReadyH.cons rfl (fun KK hKK => ?_) AllReadyH.nil
  go_simp
  refine (cmpI _ s s2).mono ?_
  rintro _ wa ⟨rfl, rfl⟩
  try dsimp only
  refine hKK.out _ _ hHeld (fun hHeld => ?_)
  clear hKK KK
  try simp only [Act.put, List.setIfInBounds_toArray, List.set_cons_zero, List.set_cons_succ]
  refine wpAnyH_ready (rs := [9]) (by kernel_rfl) (by simp) ?_
  refine AllReadyH.cons rfl (fun KK hKK => ?_) AllReadyH.nil
  go_simp
  refine (cmpI _ a a2).mono ?_
  rintro _ wb ⟨rfl, rfl⟩
  try dsimp only
  refine hKK.out _ _ hHeld (fun hHeld => ?_)
  clear hKK KK
  try simp only [Act.put, List.setIfInBounds_toArray, List.set_cons_zero, List.set_cons_succ]
  refine wpAnyH_ready (rs := [14]) (by kernel_rfl) (by simp) ?_
  refine AllReadyH.cons rfl (fun KK hKK => ?_) AllReadyH.nil
  go_simp
  refine (cmpS _ t t2).mono ?_
  rintro _ wc ⟨rfl, rfl⟩
  try dsimp only
  refine hKK.out _ _ hHeld (fun hHeld => ?_)
  clear hKK KK
  try simp only [Act.put, List.setIfInBounds_toArray, List.set_cons_zero, List.set_cons_succ]
  refine wpAnyH_ready (rs := [15]) (by kernel_rfl) (by simp) ?_
  refine AllReadyH.cons rfl (fun KK hKK => ?_) AllReadyH.nil
  go_simp
  obtain ⟨K, HK⟩ : ∃ K, K = wc.heap.size := ⟨_, rfl⟩
  obtain ⟨wk, hwk⟩ : ∃ W, W = wc.alloc (.cells #[.int .i64 (cmI s s2), .int .i64 (cmI a a2), .int .i64 (cmS t t2)] 3) := ⟨_, rfl⟩
  have HBK : Hid (wk.heap[K]? = some (.cells #[.int .i64 (cmI s s2), .int .i64 (cmI a a2), .int .i64 (cmS t t2)] 3 (0, 0))) := by unfold Hid; rw [hwk, HK]; exact heap_alloc_new wc _
  have hHk : Apart [] w3 wk := by rw [hwk]; exact hHeld.alloc _
  rw [← hwk, ← HK]
  clear hwk HK
  refine hKK.out _ _ hHk (fun hHeld => ?_)
  clear hKK KK
  try simp only [Act.put, List.setIfInBounds_toArray, List.set_cons_zero, List.set_cons_succ]
  refine wpAnyH_ready (rs := [16]) (by kernel_rfl) (by simp) ?_
  refine AllReadyH.cons rfl (fun KK hKK => ?_) AllReadyH.nil
  go_simp
  refine (or_ok (n := 3) rfl (by omega) (rv_row3 HBK.out)).mono ?_
  rintro _ wm ⟨rfl, rfl⟩
  try dsimp only
  refine hKK.out _ _ hHeld (fun hHeld => ?_)
  clear hKK KK
  try simp only [Act.put, List.setIfInBounds_toArray, List.set_cons_zero, List.set_cons_succ]
  obtain ⟨v, Hv⟩ : ∃ v : Int, Hid (v = orL [cmI s s2, cmI a a2, cmS t t2]) := ⟨_, hid rfl⟩
  simp only [← Hv.out]
  refine tk 17 22 (.bool (decide (v < 0))) rfl ?_ ?_
  · intro W hSW; go_simp
  simp only [Act.put, List.setIfInBounds_toArray, List.set_cons_zero, List.set_cons_succ]
  refine wpAnyH_done (by kernel_rfl) ?_ _
  have HBX5 := hid (keep0 hHeld HBX.out)
  have HBY5 := hid (keep0 hHeld HBY.out)
  have HBZ5 := hid (keep0 hHeld HBZ.out)
  have HA5 := hid (HA.out.trans hHeld)
  clear hHeld HBK HBX HBY HBZ
  by_cases hv : v < 0
  · have hv2 : later s a t s2 a2 t2 := by unfold later; rw [← Hv.out]; exact hv
    have HV := hid hv2
    clear hv2
    go_wp2_with (first
      | refine wpList_load_row rfl 95 _ rfl Y rfl 95 _ (0, 0) _ HBY5.out Try.underlying95 rfl (by rw [size95]; rfl) ?_
      | refine wpList_store_row rfl 95 _ _ rfl Z #[.int .i64 s2, .int .i64 a2, .string t2] rfl rfl 95 _ HBZ5.out (by rw [size95]; rfl) rfl (by simp [Value.oneCell']) ?_)
    refine bodyPost_ret (results_cell_row rfl _ _ Z 95 #[.int .i64 s2, .int .i64 a2, .string t2] _ _ rfl (setRow_heap _ _ _ _ _ _ HBZ5.out) Try.underlying95 rfl (by rw [size95]; rfl)) rfl ?_
    exact ⟨fun _ => rfl, fun h => absurd HV.out h, HA5.out.trans' (apart_setRow _ Z _) (by intro y hy; simp at hy; rw [hy]; exact .inr HLZ.out)⟩
  
  · have hv2 : ¬ later s a t s2 a2 t2 := by unfold later; rw [← Hv.out]; exact hv
    have HV := hid hv2
    clear hv2
    go_wp2_with (first
      | refine wpList_load_row rfl 95 _ rfl X rfl 95 _ (0, 0) _ HBX5.out Try.underlying95 rfl (by rw [size95]; rfl) ?_
      | refine wpList_store_row rfl 95 _ _ rfl Z #[.int .i64 s, .int .i64 a, .string t] rfl rfl 95 _ HBZ5.out (by rw [size95]; rfl) rfl (by simp [Value.oneCell']) ?_)
    refine bodyPost_ret (results_cell_row rfl _ _ Z 95 #[.int .i64 s, .int .i64 a, .string t] _ _ rfl (setRow_heap _ _ _ _ _ _ HBZ5.out) Try.underlying95 rfl (by rw [size95]; rfl)) rfl ?_
    exact ⟨fun h => absurd h HV.out, fun _ => rfl, HA5.out.trans' (apart_setRow _ Z _) (by intro y hy; simp at hy; rw [hy]; exact .inr HLZ.out)⟩

end Go.Proofs.Ytdbeeikjngnnnaa.ty
