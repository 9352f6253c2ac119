import Derived.Test.YtllhmidpphlbhaaG17
namespace Go.Proofs.Ytllhmidpphlbhaa.ds
open Go.ChangeShapes Go.WideShapes Go.ChangeAt Go.RowKit Go.Sort
set_option linter.unusedVariables false
set_option linter.unusedSimpArgs false

theorem row6v {w : World} {gg : Nat} {t : TypeId} {a b c d e f : Value} (h : w.heap[gg]? = some (.cells #[a, b, c, d, e, f] t (0, 0))) : w.cell? ⟨gg, 0, none⟩ = some a ∧ w.cell? ⟨gg, 1, none⟩ = some b ∧ w.cell? ⟨gg, 2, none⟩ = some c ∧ w.cell? ⟨gg, 3, none⟩ = some d ∧ w.cell? ⟨gg, 4, none⟩ = some e ∧ w.cell? ⟨gg, 5, none⟩ = some f := by
  refine ⟨?_, ?_, ?_, ?_, ?_, ?_⟩ <;> (rw [cell_of_row _ _ _ _ _ _ h]; rfl)
set_option maxHeartbeats 8000000 in
set_option maxRecDepth 100000 in
theorem awrite_ok {wB w : World} {g : Nat} {us : List Nat} (h : PB wB w g us) (e : E) (r : Wr) (hr : Reads wB e r) (hs : Stor r) (hl : us.length + 176 ≤ 2048) : Calls Try.prog 67 #[.slice (some ⟨g, 0, none⟩) us.length 2048, .agg #[.int .i64 e.n, .int .i64 e.c, .string e.k, .bool e.d, .slice e.v.p e.v.n e.v.c, .slice e.x.p e.x.n e.x.c]] w fun e w' => PA wB w w' g (us ++ encPw (cwOf r)) e := by
  obtain ⟨rn, rc, rk, rd, rvs, rxs⟩ := r
  obtain ⟨n0, c0, k, d, v, x⟩ := e
  have e1 : n0 = rn := hr.n
  have e2 : c0 = rc := hr.c
  have e4 : d = rd := hr.d
  subst e1 e2 e4
  have HV := hid hr.v
  have HVN : Hid (rvs.length = v.n) := by have := hr; exact this.6
  have HXL : Hid (L wB x.p x.n rxs) := hr.x
  have HVO : Hid v.ok := by have := hr; exact this.11
  have hsn := hs.n
  have hsc := hs.c
  dsimp only at hsn hsc
  obtain ⟨n, hn⟩ := Int.eq_ofNat_of_zero_le hsn.1
  obtain ⟨cc, hcc⟩ := Int.eq_ofNat_of_zero_le (show 0 ≤ c0 by omega)
  subst hn hcc
  have hv64 : rvs.length ≤ 64 := Nat.le_trans hs.v (mostV_le _)
  have HOX : Hid (OkL 64 rxs) := hs.x
  obtain ⟨db, Hdb⟩ : ∃ db : Nat, Hid (db = if d = true then 1 else 0) := ⟨_, rfl⟩
  have HDB : Hid ((if d = true then 1 else 0 : Int) = (db : Int)) := by unfold Hid; rw [Hdb.out]; split <;> rfl
  have HE : Hid (us ++ encPw (cwOf ⟨(n : Nat), (cc : Nat), rk, d, rvs, rxs⟩) = us ++ [n] ++ encN 4 cc ++ [db] ++ (encN 1 rvs.length ++ rvs) ++ encSt rxs) := by
    unfold Hid encPw cwOf
    dsimp only
    rw [Int.toNat_natCast, Int.toNat_natCast, encN1 (by omega), ← Hdb.out, encN1 (show db < 256 by rw [Hdb.out]; split <;> omega)]
    simp only [List.append_assoc]
  rw [HE.out]
  have hwn : IntKind.u8.wrap (n : Int) = (n : Int) := by rw [IntKind.wrap_u8]; omega
  have hwc : IntKind.u64.wrap (cc : Int) = (cc : Int) := by rw [IntKind.wrap_u64]; omega
  have hc64 : cc < 18446744073709551616 := by omega
  have HB := hid h
  have HL := hid hl
  obtain ⟨X, HXX⟩ : ∃ X, Hid (X = w.heap.size) := ⟨_, rfl⟩
  obtain ⟨w3, hw3⟩ : ∃ w3, w3 = w.alloc (.cells #[.int .i64 (n : Int), .int .i64 (cc : Int), .string k, .bool d, .slice v.p v.n v.c, .slice x.p x.n x.c] 50) := ⟨_, rfl⟩
  have HX3 : Hid (w3.heap[X]? = some (.cells #[.int .i64 (n : Int), .int .i64 (cc : Int), .string k, .bool d, .slice v.p v.n v.c, .slice x.p x.n x.c] 50 (0, 0))) := by unfold Hid; rw [HXX.out, hw3]; exact heap_alloc_new w _
  have HA3 : Hid (Apart [] w w3) := by unfold Hid; rw [hw3]; exact (Apart.refl [] w).alloc _
  have HB3 := hid (HB.out.kept0 HA3.out)
  have HA3' : Hid (Apart [g] w w3) := HA3.out.mono (by simp)
  have HXg : Hid (X ≠ g) := by unfold Hid; have := lt_of_heap HB.out.blk; rw [HXX.out]; omega
  clear h hr hs hl hsn hsc HE HB HA3
  go_enter Try.func67, Try.ntmps67
  go_upto_region 1 with fail
  rw [← hw3, ← HXX.out]
  clear hw3 HXX
  have HBd := hid (HB3.out.kept0 (Apart.refl [] w3).drew)
  have HAd := hid (HA3'.out.trans (((Apart.refl [] w3).drew).mono (by simp)))
  have HXd : Hid (w3.drew.heap[X]? = some (.cells #[.int .i64 (n : Int), .int .i64 (cc : Int), .string k, .bool d, .slice v.p v.n v.c, .slice x.p x.n x.c] 50 (0, 0))) := HX3.out
  refine wp_region_held_drew (S := fun W => W.heap[X]? = some (.cells #[.int .i64 (n : Int), .int .i64 (cc : Int), .string k, .bool d, .slice v.p v.n v.c, .slice x.p x.n x.c] 50 (0, 0))) (by kernel_rfl) HXd.out (fun hHeld => ?_)
  generalize w3.drew = wd at *
  refine tk 0 5 (.slice (some ⟨g, 0, none⟩) us.length 2048) rfl ?_ ?_
  · intro W hSW; go_simp
  simp only [Act.put, List.setIfInBounds_toArray, List.set_cons_zero, List.set_cons_succ]
  refine tk 1 6 (.pointer (some ⟨X, 0, none⟩)) rfl ?_ ?_
  · intro W hSW; go_simp
  simp only [Act.put, List.setIfInBounds_toArray, List.set_cons_zero, List.set_cons_succ]
  refine tk 2 7 (.pointer (some ⟨X, 0, none⟩)) rfl ?_ ?_
  · intro W hSW; go_simp
  simp only [Act.put, List.setIfInBounds_toArray, List.set_cons_zero, List.set_cons_succ]
  refine tk 3 8 (.int .i64 (n : Int)) rfl ?_ ?_
  · intro W hSW; obtain ⟨x0, x1, x2, x3, x4, x5⟩ := row6v hSW; go_simp
  simp only [Act.put, List.setIfInBounds_toArray, List.set_cons_zero, List.set_cons_succ]
  refine tk 4 9 (.int .u8 (n : Int)) rfl ?_ ?_
  · intro W hSW; go_simp
  simp only [Act.put, List.setIfInBounds_toArray, List.set_cons_zero, List.set_cons_succ]
  refine tk 7 12 (.pointer (some ⟨X, 0, none⟩)) rfl ?_ ?_
  · intro W hSW; go_simp
  simp only [Act.put, List.setIfInBounds_toArray, List.set_cons_zero, List.set_cons_succ]
  refine tk 8 13 (.pointer (some ⟨X, 1, none⟩)) rfl ?_ ?_
  · intro W hSW; go_simp
  simp only [Act.put, List.setIfInBounds_toArray, List.set_cons_zero, List.set_cons_succ]
  refine tk 9 14 (.int .i64 (cc : Int)) rfl ?_ ?_
  · intro W hSW; obtain ⟨x0, x1, x2, x3, x4, x5⟩ := row6v hSW; go_simp
  simp only [Act.put, List.setIfInBounds_toArray, List.set_cons_zero, List.set_cons_succ]
  refine tk 10 15 (.int .u64 (cc : Int)) rfl ?_ ?_
  · intro W hSW; go_simp
  simp only [Act.put, List.setIfInBounds_toArray, List.set_cons_zero, List.set_cons_succ]
  refine wpAnyH_ready (rs := [5]) (by kernel_rfl) (by simp) ?_
  refine AllReadyH.cons rfl (fun KK hKK => ?_) AllReadyH.nil
  go_simp
  refine hKK.out _ _ (keep0 ((Apart.refl [] wd).alloc _) HXd.out) (fun hHeld => ?_)
  clear hKK KK
  try simp only [Act.put, List.setIfInBounds_toArray, List.set_cons_zero, List.set_cons_succ]
  obtain ⟨W4, h4, h5, h6⟩ := HBd.out.app1 n (by have := HL.out; omega)
  have HR4 := hid h4
  have HB4 := hid h5
  have HA4 := hid h6
  clear h4 h5 h6
  refine wpAnyH_ready (rs := [6]) (by kernel_rfl) (by simp) ?_
  refine AllReadyH.cons rfl (fun KK hKK => ?_) AllReadyH.nil
  refine step_app2 rfl (.tmp 5) (.tmp 10) 28 28 rfl _ _ rfl rfl _ _ HR4.out ?_
  have HX4 := hid (keepB HA4.out HXd.out HXg.out)
  refine hKK.out _ _ HX4.out (fun hHeld => ?_)
  clear hKK KK
  try simp only [Act.put, List.setIfInBounds_toArray, List.set_cons_zero, List.set_cons_succ]
  refine wpAnyH_ready (rs := [11]) (by kernel_rfl) (by simp) ?_
  refine AllReadyH.cons rfl (fun KK hKK => ?_) AllReadyH.nil
  go_simp
  have hcall := anum_ok HB4.out cc 4 hc64 (by rw [List.length_append]; simp; have := HL.out; omega)
  rw [List.length_append] at hcall
  refine hcall.mono ?_
  rintro _ w5 ⟨rfl, hb5, ha5⟩
  have HB5 := hid hb5
  have HX5 := hid (keepB ha5 HX4.out HXg.out)
  have HA5 := hid ((HAd.out.trans HA4.out).trans ha5)
  clear hb5 ha5 hcall
  dsimp only
  refine hKK.out _ _ HX5.out (fun hHeld => ?_)
  clear hKK KK
  have HL5 : Hid ((us ++ [n] ++ encN 4 cc).length = us.length + 5) := by unfold Hid; simp only [List.length_append, encN_len, List.length_singleton]
  generalize hws5 : us ++ [n] ++ encN 4 cc = ws5 at *
  have Hws5 := hid hws5
  clear hws5
  refine tk 12 0 (.slice (some ⟨g, 0, none⟩) ws5.length 2048) rfl ?_ ?_
  · intro W hSW; go_simp
  simp only [Act.put, List.setIfInBounds_toArray, List.set_cons_zero, List.set_cons_succ]
  refine wpAnyH_done (by kernel_rfl) ?_ _
  clear hHeld
  obtain ⟨x0, x1, x2, x3, x4, x5⟩ := row6v HX5.out
  go_wp2_with fail
  clear x0 x1 x2 x3 x4 x5
  refine (deadByte_ok w5 d).mono ?_
  rintro _ wq ⟨rfl, hwq⟩
  rw [hwq]
  clear hwq wq
  dsimp only
  rw [HDB.out]
  obtain ⟨W6, h4, h5, h6⟩ := HB5.out.app1 db (by have := HL.out; have := HL5.out; omega)
  have HR6 := hid h4
  have HB6 := hid h5
  have HX6 := hid (keepB h6 HX5.out HXg.out)
  have HA6 := hid (HA5.out.trans h6)
  clear h4 h5 h6
  have HL6 : Hid ((ws5 ++ [db]).length = us.length + 6) := by unfold Hid; rw [List.length_append, HL5.out]; rfl
  generalize hws6 : ws5 ++ [db] = ws6 at *
  have Hws6 := hid hws6
  clear hws6
  go_upto_region 3 with (at_builtin; refine wpList_app2 rfl (.tmp 17) (.tmp 21) 28 28 rfl _ _ rfl rfl _ _ HR6.out ?_)
  have HBd2 := hid (HB6.out.kept0 (Apart.refl [] W6).drew)
  have HAd2 := hid (HA6.out.trans (((Apart.refl [] W6).drew).mono (by simp)))
  have HXd2 : Hid (W6.drew.heap[X]? = some (.cells #[.int .i64 (n : Int), .int .i64 (cc : Int), .string k, .bool d, .slice v.p v.n v.c, .slice x.p x.n x.c] 50 (0, 0))) := HX6.out
  refine wp_region_held_drew (S := fun W => W.heap[X]? = some (.cells #[.int .i64 (n : Int), .int .i64 (cc : Int), .string k, .bool d, .slice v.p v.n v.c, .slice x.p x.n x.c] 50 (0, 0))) (by kernel_rfl) HXd2.out (fun hHeld => ?_)
  generalize W6.drew = we at *
  refine tk 0 23 (.slice (some ⟨g, 0, none⟩) ws6.length 2048) rfl ?_ ?_
  · intro W hSW; go_simp
  simp only [Act.put, List.setIfInBounds_toArray, List.set_cons_zero, List.set_cons_succ]
  refine tk 1 24 (.pointer (some ⟨X, 4, none⟩)) rfl ?_ ?_
  · intro W hSW; go_simp
  simp only [Act.put, List.setIfInBounds_toArray, List.set_cons_zero, List.set_cons_succ]
  refine tk 2 25 (.slice v.p v.n v.c) rfl ?_ ?_
  · intro W hSW; obtain ⟨x0, x1, x2, x3, x4, x5⟩ := row6v hSW; go_simp
  simp only [Act.put, List.setIfInBounds_toArray, List.set_cons_zero, List.set_cons_succ]
  refine tk 4 27 (.pointer (some ⟨X, 5, none⟩)) rfl ?_ ?_
  · intro W hSW; go_simp
  simp only [Act.put, List.setIfInBounds_toArray, List.set_cons_zero, List.set_cons_succ]
  refine tk 5 28 (.slice x.p x.n x.c) rfl ?_ ?_
  · intro W hSW; obtain ⟨x0, x1, x2, x3, x4, x5⟩ := row6v hSW; go_simp
  simp only [Act.put, List.setIfInBounds_toArray, List.set_cons_zero, List.set_cons_succ]
  refine wpAnyH_ready (rs := [3]) (by kernel_rfl) (by simp) ?_
  refine AllReadyH.cons rfl (fun KK hKK => ?_) AllReadyH.nil
  go_simp
  refine (atextB_ok HBd2.out v rvs HV.out HVN.out HVO.out (by omega) (by have := HL.out; have := HL6.out; omega)).mono ?_
  rintro _ w7 ⟨rfl, hb7, ha7⟩
  have HB7 := hid hb7
  have HX7 := hid (keepB ha7 HXd2.out HXg.out)
  have HA7 := hid (HAd2.out.trans ha7)
  clear hb7 ha7
  dsimp only
  refine hKK.out _ _ HX7.out (fun hHeld => ?_)
  clear hKK KK
  try simp only [Act.put, List.setIfInBounds_toArray, List.set_cons_zero, List.set_cons_succ]
  have HL7 : Hid ((ws6 ++ (encN 1 rvs.length ++ rvs)).length ≤ us.length + 71) := by unfold Hid; rw [List.length_append, HL6.out, List.length_append, encN_len]; omega
  generalize hws7 : ws6 ++ (encN 1 rvs.length ++ rvs) = ws7 at *
  have Hws7 := hid hws7
  clear hws7
  refine wpAnyH_ready (rs := [6]) (by kernel_rfl) (by simp) ?_
  refine AllReadyH.cons rfl (fun KK hKK => ?_) AllReadyH.nil
  go_simp
  refine (aset_ok (c := x.c) HB7.out HXL.out HOX.out (by have := HL.out; have := HL7.out; omega)).mono ?_
  rintro _ w8 ⟨rfl, hb8, ha8⟩
  have HB8 := hid hb8
  have HX8 := hid (keepB ha8 HX7.out HXg.out)
  have HA8 := hid (HA7.out.trans ha8)
  clear hb8 ha8
  dsimp only
  refine hKK.out _ _ HX8.out (fun hHeld => ?_)
  clear hKK KK
  generalize hws8 : ws7 ++ encSt rxs = ws8 at *
  have Hws8 := hid hws8
  clear hws8
  refine tk 7 4 (.slice (some ⟨g, 0, none⟩) ws8.length 2048) rfl ?_ ?_
  · intro W hSW; go_simp
  simp only [Act.put, List.setIfInBounds_toArray, List.set_cons_zero, List.set_cons_succ]
  refine wpAnyH_done (by kernel_rfl) ?_ _
  clear hHeld
  go_wp2_with fail
  go_ret
  rw [Hws5.out, Hws6.out, Hws7.out, Hws8.out]
  exact ⟨rfl, HB8.out, HA8.out⟩
end Go.Proofs.Ytllhmidpphlbhaa.ds
