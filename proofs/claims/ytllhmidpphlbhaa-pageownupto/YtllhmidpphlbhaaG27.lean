import Derived.Test.YtllhmidpphlbhaaG24
namespace Go.Proofs.Ytllhmidpphlbhaa.ds
open Go.ChangeShapes Go.WideShapes Go.ChangeAt Go.RowKit Go.Sort
set_option linter.unusedVariables false
set_option linter.unusedSimpArgs false
set_option maxHeartbeats 8000000 in
set_option maxRecDepth 100000 in
theorem rset_ok {wB w : World} {s : Sl} {us : List Nat} (h : Bf wB w s us) {pp : Option Addr} {N c : Nat} {xs : List S} (hx : L wB pp N xs) (ho : OkL 64 xs) (hl : us.length ≤ 500000) : Calls Try.prog 81 #[.slice s.p s.n s.c, .slice pp N c] w fun e w' => AP wB w s (us ++ encSt xs) e w' := by
  have HX0 := hid hx
  have HO := hid ho
  have hN : xs.length = N := hx.len
  have h8 := ho.le8
  have HC := hid (rnum_ok h N 1 (by omega) (by omega) (by omega))
  have HL : Hid ((us ++ encN 1 N).length ≤ 500001) := by unfold Hid; rw [List.length_append, encN_len]; omega
  have HES : Hid (us ++ encSt xs = (us ++ encN 1 N) ++ encSps xs) := by unfold Hid encSt; rw [hN, List.append_assoc]
  rw [HES.out]
  clear h hx ho HES
  generalize us ++ encN 1 N = vs at *
  go_enter Try.func81, Try.ntmps81
  go_wp2_with fail
  refine HC.out.mono ?_
  rintro _ w1 ⟨t1, rfl, b1, g1⟩
  have HB1 := hid b1
  have HG1 := hid g1
  clear b1 g1 HC
  dsimp only
  go_wp2_with fail
  go_loopw [0, 5, 6, 7] (fun a c _ _ wt => ∃ (i : Nat) (t : Sl), a = .slice t.p t.n t.c ∧ c = .int .i64 (i : Nat) ∧ i ≤ N ∧ Bf wB wt t (vs ++ encSps (xs.take i)) ∧ Gw w wt s t) (fun _ c _ _ _ => N - (intOf c).toNat)
  case atStart => exact ⟨0, t1, rfl, rfl, Nat.zero_le _, by simpa [encSps] using HB1.out, HG1.out⟩
  case round =>
    obtain ⟨i, t, rfl, rfl, hi, hb, hg⟩ := hrel
    have HB2 := hid hb
    have HG2 := hid hg
    clear hb hg
    by_cases hlt : i < N
    · have hlti : ((i : Nat) : Int) < (N : Int) := by omega
      have hil : i < xs.length := by omega
      have hox := HO.out.ok (ds.g xs i) (g_mem hil)
      obtain ⟨x, Hx⟩ : ∃ x, Hid (x = ds.g xs i) := ⟨_, rfl⟩
      rw [← Hx.out] at hox
      have pt : x.t < 2 ^ 64 := ok_lt hox
      obtain ⟨xn, hxn⟩ := Int.eq_ofNat_of_zero_le hox.n0
      obtain ⟨xb, hxb⟩ := Int.eq_ofNat_of_zero_le hox.b0
      have hn8 := hox.n8
      have hbM := hox.bM
      obtain ⟨xt, Hxt⟩ : ∃ xt, Hid (xt = x.t) := ⟨_, rfl⟩
      have HES : Hid ((vs ++ encSps (xs.take i)) ++ encN 1 xn ++ encN 4 xb ++ encN 8 xt = vs ++ encSps (xs.take (i + 1))) := by
        unfold Hid
        rw [encSps_take hil, ← Hx.out]
        unfold encSp
        rw [hxn, hxb, ← Hxt.out, Int.toNat_natCast, Int.toNat_natCast]
        simp only [List.append_assoc]
      have HLE : Hid ((vs ++ encSps (xs.take i)).length ≤ 500200) := by
        unfold Hid
        rw [List.length_append, encSps_len, List.length_take]
        have := HL.out
        omega
      have HCE : Hid (∀ W, Apart [] wB W → ∃ P o, pp = some ⟨P, o, none⟩ ∧ P < W.heap.size ∧ W.cell? ⟨P, o + i * 3, none⟩ = some (.int .i64 (xn : Int)) ∧ W.cell? ⟨P, o + i * 3 + 1, none⟩ = some (.int .i64 (xb : Int)) ∧ W.cell? ⟨P, o + i * 3 + 2, none⟩ = some (.int .u64 (xt : Int))) := fun W a => by
        obtain ⟨P, o, hP, hPl, hc⟩ := (HX0.out.kept0 a).sp (by omega)
        obtain ⟨c0, c1, c2⟩ := hc i hil
        rw [← Hx.out, hxn] at c0
        rw [← Hx.out, hxb] at c1
        rw [← Hx.out, ← Hxt.out] at c2
        exact ⟨P, o, hP, hPl, c0, c1, c2⟩
      have hl3 : xt < 18446744073709551616 := by rw [Hxt.out]; exact pt
      have hl1 : xn < 9223372036854775808 := by omega
      have hl2 : xb < 9223372036854775808 := by omega
      clear hxn hxb hox pt hn8 hbM
      generalize vs ++ encSps (xs.take i) = ws at *
      obtain ⟨P, o, hP, hPl, c0, c1, c2⟩ := HCE.out wr HB2.out.nw.ap
      subst hP
      go_wp2_with fail
      clear c0 c1 c2
      refine (rnum_ok HB2.out xn 1 hl1 (by omega) (by have := HLE.out; omega)).mono ?_
      rintro _ w3 ⟨t3, rfl, b3, g3⟩
      have HB3 := hid b3
      have HG3 := hid (HG2.out.trans g3)
      clear b3 g3
      dsimp only
      obtain ⟨P', o', hP', hPl', c0, c1, c2⟩ := HCE.out w3 HB3.out.nw.ap
      simp only [Option.some.injEq, Addr.mk.injEq] at hP'
      obtain ⟨rfl, rfl, -⟩ := hP'
      go_wp2_with fail
      clear c0 c1 c2
      refine (rnum_ok HB3.out xb 4 hl2 (by omega) (by rw [List.length_append, encN_len]; have := HLE.out; omega)).mono ?_
      rintro _ w4 ⟨t4, rfl, b4, g4⟩
      have HB4 := hid b4
      have HG4 := hid (HG3.out.trans g4)
      clear b4 g4
      dsimp only
      obtain ⟨P', o', hP', hPl', c0, c1, c2⟩ := HCE.out w4 HB4.out.nw.ap
      simp only [Option.some.injEq, Addr.mk.injEq] at hP'
      obtain ⟨rfl, rfl, -⟩ := hP'
      have HL4 : Hid ((ws ++ encN 1 xn ++ encN 4 xb).length ≤ 500300) := by unfold Hid; simp only [List.length_append, encN_len]; have := HLE.out; omega
      generalize ws ++ encN 1 xn ++ encN 4 xb = ws4 at *
      go_wp2_with fail
      clear c0 c1 c2
      go_loopw [0, 6, 7] (fun a b c wt => ∃ (j : Nat) (t : Sl), a = .slice t.p t.n t.c ∧ b = .int .u64 ((xt / 256 ^ j : Nat) : Int) ∧ c = .int .i64 (j : Nat) ∧ j ≤ 8 ∧ Bf wB wt t (ws4 ++ encN j xt) ∧ Gw w wt s t) (fun _ _ c _ => 8 - (intOf c).toNat)
      case atStart => exact ⟨0, t4, rfl, by simp, rfl, Nat.zero_le _, by simpa [encN] using HB4.out, HG4.out⟩
      case round =>
        obtain ⟨j, u, rfl, rfl, rfl, hj, hb, hg⟩ := hrel
        have HB5 := hid hb
        have HG5 := hid hg
        clear hb hg
        by_cases hjt : j < 8
        · have hjti : ((j : Nat) : Int) < 8 := by omega
          obtain ⟨m, Hm⟩ : ∃ m, Hid (m = xt / 256 ^ j) := ⟨_, rfl⟩
          have hm64 : m < 18446744073709551616 := by rw [Hm.out]; exact Nat.lt_of_le_of_lt (Nat.div_le_self _ _) hl3
          rw [← Hm.out]
          obtain ⟨y, Hy⟩ : ∃ y, Hid (y = m % 256) := ⟨_, rfl⟩
          have hrem : (m : Int) % 256 = (y : Int) := by rw [Hy.out]; omega
          have hw8 : IntKind.u8.wrap (y : Int) = (y : Int) := by rw [IntKind.wrap_u8, Hy.out]; omega
          obtain ⟨m2, Hm2⟩ : ∃ m2, Hid (m2 = m / 256) := ⟨_, rfl⟩
          have hquo : (m : Int) / 256 = (m2 : Int) := by rw [Hm2.out]; omega
          have hlen := encN_len j xt
          obtain ⟨u2, W', h1, h2, h3⟩ := app_byte HB5.out y (by rw [List.length_append, hlen]; have := HL4.out; omega)
          have HRUN := hid h1
          have HB6 : Hid (Bf wB W' u2 (ws4 ++ encN (j + 1) xt)) := by unfold Hid; rw [encN_succ, ← Hm.out, ← Hy.out, ← List.append_assoc]; exact h2
          have HG6 := hid (HG5.out.trans h3)
          have HM3 : Hid (m2 = xt / 256 ^ (j + 1)) := by unfold Hid; rw [Hm2.out, Hm.out, Nat.div_div_eq_div_mul, Nat.pow_succ]
          clear h1 h2 h3
          go_wp2_with (at_builtin; refine wpList_app2 rfl (.tmp 41) (.tmp 45) 28 28 rfl _ _ rfl rfl _ _ HRUN.out ?_)
          go_roundw
          case rel => exact ⟨j + 1, u2, rfl, by rw [← HM3.out], by go_num, by omega, HB6.out, HG6.out⟩
          case measure => simp [intOf]; omega
        · have hjti : ¬ ((j : Nat) : Int) < 8 := by omega
          have hj8 : j = 8 := by omega
          rw [hj8, HES.out] at HB5
          go_wp2_with fail
          go_roundw
          case rel => exact ⟨i + 1, u, rfl, by go_num, by omega, HB5.out, HG5.out⟩
          case measure => simp [intOf]; omega
    · have hlti : ¬ ((i : Nat) : Int) < (N : Int) := by omega
      have hiN : xs.take i = xs := List.take_of_length_le (by omega)
      rw [hiN] at HB2
      go_wp2_with fail
      go_ret
      exact ⟨⟨t, rfl, HB2.out, HG2.out⟩⟩
end Go.Proofs.Ytllhmidpphlbhaa.ds
namespace Go.Proofs.Ytllhmidpphlbhaa.ds
open Go.ChangeShapes Go.WideShapes Go.ChangeAt Go.RowKit Go.Sort
set_option linter.unusedVariables false
set_option linter.unusedSimpArgs false

set_option maxHeartbeats 8000000 in
set_option maxRecDepth 100000 in
theorem rwr_ok {wB w : World} {s : Sl} {us : List Nat} (h : Bf wB w s us) (e : E) (r : Wr) (hr : Reads wB e r) (hs : Stor r) (hl : us.length ≤ 100000) : Calls Try.prog 87 #[.slice s.p s.n s.c, .agg #[.int .i64 e.n, .int .i64 e.c, .string e.k, .bool e.d, .slice e.v.p e.v.n e.v.c, .slice e.x.p e.x.n e.x.c]] w fun e w' => AP wB w s (us ++ encPw (cwOf r)) e w' := by
  obtain ⟨rn, rc, rk, rd, rvs, rxs⟩ := r
  obtain ⟨n0, c0, k, d, v, x⟩ := e
  have e1 : n0 = rn := hr.n
  have e2 : c0 = rc := hr.c
  have e4 : d = rd := hr.d
  subst e1 e2 e4
  have HV := hid hr.v
  have HVN : Hid (rvs.length = v.n) := by have := hr; exact this.6
  have HXL : Hid (L wB x.p x.n rxs) := hr.x
  have hsn := hs.n
  have hsc := hs.c
  dsimp only at hsn hsc
  obtain ⟨n, hn⟩ := Int.eq_ofNat_of_zero_le hsn.1
  obtain ⟨cc, hcc⟩ := Int.eq_ofNat_of_zero_le (show 0 ≤ c0 by omega)
  subst hn hcc
  have hv64 : rvs.length ≤ 64 := Nat.le_trans hs.v (mostV_le _)
  have HOX : Hid (OkL 64 rxs) := hs.x
  obtain ⟨db, Hdb⟩ : ∃ db : Nat, Hid (db = if d = true then 1 else 0) := ⟨_, rfl⟩
  have hdb1 : db ≤ 1 := by rw [Hdb.out]; split <;> omega
  have HE : Hid (us ++ encPw (cwOf ⟨(n : Nat), (cc : Nat), rk, d, rvs, rxs⟩) = us ++ encN 1 n ++ encN 4 cc ++ encN 1 db ++ encN 1 v.n ++ rvs ++ encSt rxs) := by
    unfold Hid encPw cwOf
    dsimp only
    rw [Int.toNat_natCast, Int.toNat_natCast, ← Hdb.out, HVN.out]
    simp only [List.append_assoc]
  rw [HE.out]
  have HLN : Hid (n ≤ 7 ∧ cc ≤ 1048576 ∧ db ≤ 1 ∧ v.n ≤ 64 ∧ us.length ≤ 100000) := ⟨by omega, by omega, hdb1, by have := HVN.out; omega, hl⟩
  have HB := hid h
  obtain ⟨X, HXX⟩ : ∃ X, Hid (X = w.heap.size) := ⟨_, rfl⟩
  obtain ⟨w1, hw1⟩ : ∃ W, W = w.alloc (.cells #[.int .i64 (n : Int), .int .i64 (cc : Int), .string k, .bool d, .slice v.p v.n v.c, .slice x.p x.n x.c] 50) := ⟨_, rfl⟩
  have HX1 : Hid (w1.heap[X]? = some (.cells #[.int .i64 (n : Int), .int .i64 (cc : Int), .string k, .bool d, .slice v.p v.n v.c, .slice x.p x.n x.c] 50 (0, 0))) := by unfold Hid; rw [HXX.out, hw1]; exact heap_alloc_new w _
  have HA1 : Hid (Apart [] w w1) := by unfold Hid; rw [hw1]; exact (Apart.refl [] w).alloc _
  have HB1 := hid (HB.out.kept HA1.out)
  have HG1 : Hid (Gw w w1 s s) := Gw.of HA1.out
  clear h hr hs hl hsn hsc HE HB hv64 hdb1
  go_enter Try.func87, Try.ntmps87
  go_upto_region 1 with fail
  rw [← hw1, ← HXX.out]
  clear hw1 HXX
  obtain ⟨x0, x1, x2, x3, x4, x5⟩ := row6v HX1.out
  go_wp2_with fail
  clear x0 x1 x2 x3 x4 x5
  refine (rnum_ok HB1.out n 1 (by have := HLN.out; omega) (by omega) (by have := HLN.out; omega)).mono ?_
  rintro _ w2 ⟨t2, rfl, b2, g2⟩
  have HB2 := hid b2
  have HX2 := hid (g2.block HB1.out HX1.out (by decide))
  have HG2 := hid (HG1.out.trans g2)
  clear b2 g2
  dsimp only
  have HL2 : Hid ((us ++ encN 1 n).length = us.length + 1) := by unfold Hid; rw [List.length_append, encN_len]
  generalize hvs2 : us ++ encN 1 n = vs2 at *
  have Hvs2 := hid hvs2
  clear hvs2
  obtain ⟨x0, x1, x2, x3, x4, x5⟩ := row6v HX2.out
  go_wp2_with fail
  clear x0 x1 x2 x3 x4 x5
  refine (rnum_ok HB2.out cc 4 (by have := HLN.out; omega) (by omega) (by have := HLN.out; have := HL2.out; omega)).mono ?_
  rintro _ w3 ⟨t3, rfl, b3, g3⟩
  have HB3 := hid b3
  have HX3 := hid (g3.block HB2.out HX2.out (by decide))
  have HG3 := hid (HG2.out.trans g3)
  clear b3 g3
  dsimp only
  have HL3 : Hid ((vs2 ++ encN 4 cc).length = us.length + 5) := by unfold Hid; rw [List.length_append, encN_len, HL2.out]
  generalize hvs3 : vs2 ++ encN 4 cc = vs3 at *
  have Hvs3 := hid hvs3
  clear hvs3
  go_upto_region 4 with fail
  obtain ⟨x0, x1, x2, x3, x4, x5⟩ := row6v HX3.out
  go_upto_if 18 with fail
  clear x0 x1 x2 x3 x4 x5
  go_cut [5] from 19 to 19 (fun u wx => u = .int .i64 (db : Nat) ∧ wx = w3)
  · have hdd := Hdb.out
    cases d with
    | true =>
      have hdb : db = 1 := hdd
      go_wp2_with fail
      go_meet
      exact ⟨by rw [hdb]; rfl, rfl⟩
    | false =>
      have hdb : db = 0 := hdd
      go_wp2_with fail
      go_meet
      exact ⟨by rw [hdb]; rfl, rfl⟩
  · obtain ⟨rfl, hwc⟩ := hcut
    rw [hwc]
    clear hwc
    obtain ⟨x0, x1, x2, x3, x4, x5⟩ := row6v HX3.out
    go_wp2_with fail
    clear x0 x1 x2 x3 x4 x5
    refine (rnum_ok HB3.out db 1 (by have := HLN.out; omega) (by omega) (by have := HLN.out; have := HL3.out; omega)).mono ?_
    rintro _ w4 ⟨t4, rfl, b4, g4⟩
    have HB4 := hid b4
    have HX4 := hid (g4.block HB3.out HX3.out (by decide))
    have HG4 := hid (HG3.out.trans g4)
    clear b4 g4
    dsimp only
    have HL4 : Hid ((vs3 ++ encN 1 db).length = us.length + 6) := by unfold Hid; rw [List.length_append, encN_len, HL3.out]
    generalize hvs4 : vs3 ++ encN 1 db = vs4 at *
    have Hvs4 := hid hvs4
    clear hvs4
    obtain ⟨x0, x1, x2, x3, x4, x5⟩ := row6v HX4.out
    go_wp2_with fail
    clear x0 x1 x2 x3 x4 x5
    refine (rnum_ok HB4.out v.n 1 (by have := HLN.out; omega) (by omega) (by have := HLN.out; have := HL4.out; omega)).mono ?_
    rintro _ w5 ⟨t5, rfl, b5, g5⟩
    have HB5 := hid b5
    have HX5 := hid (g5.block HB4.out HX4.out (by decide))
    have HG5 := hid (HG4.out.trans g5)
    clear b5 g5
    dsimp only
    have HL5 : Hid ((vs4 ++ encN 1 v.n).length = us.length + 7) := by unfold Hid; rw [List.length_append, encN_len, HL4.out]
    generalize hvs5 : vs4 ++ encN 1 v.n = vs5 at *
    have Hvs5 := hid hvs5
    clear hvs5
    go_wp2_with fail
    go_loopw [0, 6] (fun a c wt => ∃ (i : Nat) (t : Sl), a = .slice t.p t.n t.c ∧ c = .int .i64 (i : Nat) ∧ i ≤ v.n ∧ Bf wB wt t (vs5 ++ rvs.take i) ∧ Gw w wt s t ∧ wt.heap[X]? = some (.cells #[.int .i64 (n : Int), .int .i64 (cc : Int), .string k, .bool d, .slice v.p v.n v.c, .slice x.p x.n x.c] 50 (0, 0))) (fun _ c _ => v.n - (intOf c).toNat)
    case atStart => exact ⟨0, t5, rfl, rfl, Nat.zero_le _, by simpa using HB5.out, HG5.out, HX5.out⟩
    case round =>
      obtain ⟨i, t, rfl, rfl, hi, hb, hg, hX⟩ := hrel
      have HB6 := hid hb
      have HG6 := hid hg
      have HX6 := hid hX
      clear hb hg hX
      by_cases hlt : i < v.n
      · have hlti : ((i : Nat) : Int) < (v.n : Int) := by omega
        have hvl : v.n ≤ 64 := HLN.out.2.2.2.1
        have hil : i < rvs.length := by have := HVN.out; omega
        obtain ⟨P, o, hP, hPl, hc⟩ := (HV.out.kept0 HB6.out.nw.ap) (by rw [byts_len]; omega)
        obtain ⟨y, Hy⟩ : ∃ y, Hid (y = rvs.getD i 0) := ⟨_, rfl⟩
        have c0 := hc i (.int .u8 (y : Int)) (by rw [byts, List.getElem?_map, Hy.out, List.getElem?_eq_getElem hil, List.getD_eq_getElem?_getD, List.getElem?_eq_getElem hil]; rfl)
        clear hc
        obtain ⟨t2, W', h1, h2, h3⟩ := app_byte HB6.out y (by rw [List.length_append, List.length_take]; have := HLN.out; have := HL5.out; omega)
        have HRUN := hid h1
        have HTK : Hid (rvs.take (i + 1) = rvs.take i ++ [y]) := by unfold Hid; rw [List.take_succ_eq_append_getElem hil, Hy.out, List.getD_eq_getElem?_getD, List.getElem?_eq_getElem hil]; rfl
        have HB7 : Hid (Bf wB W' t2 (vs5 ++ rvs.take (i + 1))) := by unfold Hid; rw [HTK.out, ← List.append_assoc]; exact h2
        have HX7 := hid (h3.block HB6.out HX6.out (by decide))
        have HG7 := hid (HG6.out.trans h3)
        clear h1 h2 h3
        generalize v.p = vp at *
        subst hP
        obtain ⟨x0, x1, x2, x3, x4, x5⟩ := row6v HX6.out
        go_wp2_with (at_builtin; refine wpList_app2 rfl (.tmp 34) (.tmp 40) 28 28 rfl _ _ rfl rfl _ _ HRUN.out ?_)
        go_roundw
        case rel => exact ⟨i + 1, t2, rfl, by go_num, by omega, HB7.out, HG7.out, HX7.out⟩
        case measure => simp [intOf]; omega
      · have hlti : ¬ ((i : Nat) : Int) < (v.n : Int) := by omega
        have hik : rvs.take i = rvs := List.take_of_length_le (by have := HVN.out; omega)
        rw [hik] at HB6
        clear hik
        have HL6 : Hid ((vs5 ++ rvs).length ≤ 100100) := by unfold Hid; rw [List.length_append, HL5.out, HVN.out]; have := HLN.out; omega
        generalize hvs6 : vs5 ++ rvs = vs6 at *
        have Hvs6 := hid hvs6
        clear hvs6
        obtain ⟨x0, x1, x2, x3, x4, x5⟩ := row6v HX6.out
        go_wp2_with fail
        clear x0 x1 x2 x3 x4 x5
        refine (rset_ok (c := x.c) HB6.out HXL.out HOX.out (by have := HL6.out; omega)).mono ?_
        rintro _ w8 ⟨t8, rfl, b8, g8⟩
        have HB8 := hid b8
        have HG8 := hid (HG6.out.trans g8)
        clear b8 g8
        dsimp only
        go_wp2_with fail
        go_ret
        have HFE : Hid (us ++ (encN 1 n ++ (encN 4 cc ++ (encN 1 db ++ (encN 1 v.n ++ (rvs ++ encSt rxs))))) = vs6 ++ encSt rxs) := by
          unfold Hid
          rw [← Hvs6.out, ← Hvs5.out, ← Hvs4.out, ← Hvs3.out, ← Hvs2.out]
          simp only [List.append_assoc]
        simp only [List.append_assoc]
        rw [HFE.out]
        exact ⟨⟨t8, rfl, HB8.out, HG8.out⟩⟩
end Go.Proofs.Ytllhmidpphlbhaa.ds
namespace Go.Proofs.Ytllhmidpphlbhaa.ds
open Go.ChangeShapes Go.WideShapes Go.ChangeAt Go.RowKit Go.Sort
set_option linter.unusedVariables false
set_option linter.unusedSimpArgs false
set_option maxRecDepth 100000 in
theorem keyed_ok (w : World) (k : ByteArray) (v : Bool) (hv : v = true ↔ 1 ≤ k.size ∧ k.size ≤ 16) : Calls Try.prog 83 #[.string k] w fun e w' => e = .returned (.bool v) ∧ w' = w := by
  have HV := hid hv
  clear hv
  by_cases h1 : 1 ≤ k.size
  · have h1i : ((k.size : Nat) : Int) ≥ 1 := by omega
    by_cases h2 : k.size ≤ 16
    · have h2i : ((k.size : Nat) : Int) ≤ 16 := by omega
      have hv : v = true := HV.out.2 ⟨h1, h2⟩
      subst hv
      go_enter Try.func83, Try.ntmps83
      go_wp2_with fail
      go_ret
      exact ⟨rfl, rfl⟩
    · have h2i : ¬ ((k.size : Nat) : Int) ≤ 16 := by omega
      have hv : v = false := by cases v with
        | false => rfl
        | true => exact absurd (HV.out.1 rfl).2 h2
      subst hv
      go_enter Try.func83, Try.ntmps83
      go_wp2_with fail
      go_ret
      exact ⟨rfl, rfl⟩
  · have h1i : ¬ ((k.size : Nat) : Int) ≥ 1 := by omega
    have hv : v = false := by cases v with
      | false => rfl
      | true => exact absurd (HV.out.1 rfl).1 h1
    subst hv
    go_enter Try.func83, Try.ntmps83
    go_wp2_with fail
    go_ret
    exact ⟨rfl, rfl⟩
theorem bl_mod (t i : Nat) : bl (t % 2 ^ (i + 1)) = if t.testBit i = true then i + 1 else bl (t % 2 ^ i) := by
  split
  · rename_i h
    have h1 : bl (t % 2 ^ (i + 1)) ≤ i + 1 := bl_le.2 (Nat.mod_lt _ (Nat.two_pow_pos _))
    have h2 : ¬ bl (t % 2 ^ (i + 1)) ≤ i := fun k => by
      have := bl_le'.1 k i (Nat.le_refl _)
      rw [Nat.testBit_mod_two_pow] at this
      simp [h] at this
    omega
  · rename_i h
    have e : t % 2 ^ (i + 1) = t % 2 ^ i := by
      apply Nat.eq_of_testBit_eq
      intro j
      rw [Nat.testBit_mod_two_pow, Nat.testBit_mod_two_pow]
      by_cases hj : j < i
      · simp [hj, Nat.lt_succ_of_lt hj]
      · by_cases hji : j = i
        · subst hji; simp at h; simp [h]
        · have : ¬ j < i + 1 := by omega
          simp [hj, this]
    rw [e]
theorem bit1 (t k : Nat) (ht : t < 2 ^ 64) : (bits BinOp.and IntKind.u64 ((t : Int) / 2 ^ k) 1 == 1) = t.testBit k := by
  have e0 : ((t : Int) / 2 ^ k) = ((t >>> k : Nat) : Int) := by
    rw [Nat.shiftRight_eq_div_pow]
    generalize hz : 2 ^ k = z
    have hz2 : (2 : Int) ^ k = (z : Int) := by rw [← hz]; simp
    rw [hz2]; rfl
  rw [e0]
  have e : bits BinOp.and IntKind.u64 ((t >>> k : Nat) : Int) 1 = _ := and_nat (t >>> k) 1 (shr_lt ht) (by omega)
  rw [e, Nat.testBit, Nat.and_comm 1]
  have hy : t >>> k &&& 1 ≤ 1 := Nat.and_le_right
  generalize t >>> k &&& 1 = y at *
  by_cases h : y = 0
  · subst h; rfl
  · have : y = 1 := by omega
    subst this; rfl
set_option maxHeartbeats 4000000 in
set_option maxRecDepth 100000 in
theorem rlast_ok (w : World) (x : S) (ht : x.t < 2 ^ 64) (hb : 0 ≤ x.b ∧ x.b ≤ 1000000000) : Calls Try.prog 105 #[.agg #[.int .i64 x.n, .int .i64 x.b, .int .u64 (x.t : Int)]] w fun e w' => e = .returned (.int .i64 (x.b + bl x.t)) ∧ Apart [] w w' := by
  obtain ⟨xn, xb, xt⟩ := x
  dsimp only at *
  obtain ⟨X, HXX⟩ : ∃ X, Hid (X = w.heap.size) := ⟨_, rfl⟩
  obtain ⟨w1, hw1⟩ : ∃ W, W = w.alloc (.cells #[.int .i64 xn, .int .i64 xb, .int .u64 (xt : Int)] 85) := ⟨_, rfl⟩
  have HX1 : Hid (w1.heap[X]? = some (.cells #[.int .i64 xn, .int .i64 xb, .int .u64 (xt : Int)] 85 (0, 0))) := by unfold Hid; rw [HXX.out, hw1]; exact heap_alloc_new w _
  have HA1 : Hid (Apart [] w w1) := by unfold Hid; rw [hw1]; exact (Apart.refl [] w).alloc _
  go_enter Try.func105, Try.ntmps105
  go_upto_region 1 with fail
  rw [← hw1, ← HXX.out]
  clear hw1 HXX
  obtain ⟨x0, x1, x2⟩ := row3v HX1.out
  go_wp2_with fail
  go_loopw [3, 4] (fun a b wt => ∃ i : Nat, a = .int .i64 (xb + bl (xt % 2 ^ i)) ∧ b = .int .i64 (i : Nat) ∧ i ≤ 64 ∧ wt = w1) (fun _ b _ => 64 - (intOf b).toNat)
  case atStart => exact ⟨0, by simp [bl, Nat.mod_one], rfl, by omega, rfl⟩
  case round =>
    obtain ⟨i, rfl, rfl, hi, hwr⟩ := hrel
    subst hwr
    have HBM := hid (bl_mod xt i)
    obtain ⟨lb, Hlb⟩ : ∃ lb, Hid (lb = bl (xt % 2 ^ i)) := ⟨_, rfl⟩
    obtain ⟨lb2, Hlb2⟩ : ∃ lb2, Hid (lb2 = bl (xt % 2 ^ (i + 1))) := ⟨_, rfl⟩
    rw [← Hlb.out, ← Hlb2.out] at HBM
    rw [← Hlb.out]
    by_cases hlt : i < 64
    · have hlti : ((i : Nat) : Int) < 64 := by omega
      have hwi : IntKind.u64.wrap (i : Int) = (i : Int) := by rw [IntKind.wrap_u64]; omega
      have hbit := bit1 xt i ht
      cases hbb : xt.testBit i with
      | true =>
        rw [hbb, if_pos rfl] at HBM
        rw [hbb] at hbit
        have hw1 : IntKind.i64.wrap (xb + 1) = xb + 1 := by rw [IntKind.wrap_i64]; omega
        have hw2 : IntKind.i64.wrap (xb + 1 + (i : Int)) = xb + 1 + (i : Int) := by rw [IntKind.wrap_i64]; omega
        clear hbb
        go_wp2_with fail
        go_roundw
        case rel => exact ⟨i + 1, by rw [← Hlb2.out, HBM.out]; congr 1; omega, by go_num, by omega, by first | rfl | trivial⟩
        case measure => simp [intOf]; omega
      | false =>
        rw [hbb, if_neg (by simp)] at HBM
        rw [hbb] at hbit
        clear hbb
        go_wp2_with fail
        go_roundw
        case rel => exact ⟨i + 1, by rw [← Hlb2.out, HBM.out], by go_num, by omega, by first | rfl | trivial⟩
        case measure => simp [intOf]; omega
    · have hlti : ¬ ((i : Nat) : Int) < 64 := by omega
      have hi64 : i = 64 := by omega
      have HF : Hid (lb = bl xt) := by unfold Hid; rw [Hlb.out, hi64, Nat.mod_eq_of_lt ht]
      clear hi64
      go_wp2_with fail
      go_ret
      exact ⟨by rw [← HF.out]; rfl, HA1.out⟩
end Go.Proofs.Ytllhmidpphlbhaa.ds
namespace Go.Proofs.Ytllhmidpphlbhaa.ds
open Go.ChangeShapes Go.WideShapes Go.ChangeAt Go.RowKit Go.Sort
set_option linter.unusedVariables false
set_option linter.unusedSimpArgs false

theorem bit0 (t : Nat) (ht : t < 2 ^ 64) : (bits BinOp.and IntKind.u64 (t : Int) 1 == 0) = decide (t % 2 = 0) := by
  have e : bits BinOp.and IntKind.u64 ((t : Nat) : Int) 1 = _ := and_nat t 1 (by omega) (by omega)
  rw [e, Nat.and_one_is_mod]
  by_cases h : t % 2 = 0
  · rw [h]; rfl
  · have : t % 2 = 1 := by omega
    rw [this]; rfl
set_option maxHeartbeats 4000000 in
set_option maxRecDepth 100000 in
theorem rwhole_ok (w : World) (x : S) (ht : x.t < 2 ^ 64) (v : Bool) (hv : v = true ↔ Ok 64 x) : Calls Try.prog 100 #[.agg #[.int .i64 x.n, .int .i64 x.b, .int .u64 (x.t : Int)]] w fun e w' => e = .returned (.bool v) ∧ Apart [] w w' := by
  obtain ⟨xn, xb, xt⟩ := x
  have HV := hid hv
  have HBL : Hid (bl xt ≤ 64) := bl_le.2 ht
  dsimp only at ht
  obtain ⟨X, HXX⟩ : ∃ X, Hid (X = w.heap.size) := ⟨_, rfl⟩
  obtain ⟨w1, hw1⟩ : ∃ W, W = w.alloc (.cells #[.int .i64 xn, .int .i64 xb, .int .u64 (xt : Int)] 85) := ⟨_, rfl⟩
  have HX1 : Hid (w1.heap[X]? = some (.cells #[.int .i64 xn, .int .i64 xb, .int .u64 (xt : Int)] 85 (0, 0))) := by unfold Hid; rw [HXX.out, hw1]; exact heap_alloc_new w _
  have HA1 : Hid (Apart [] w w1) := by unfold Hid; rw [hw1]; exact (Apart.refl [] w).alloc _
  have no : (Ok 64 (⟨xn, xb, xt⟩ : S) → False) → v = false := fun h => by
    cases v with
    | false => rfl
    | true => exact absurd (HV.out.1 rfl) h
  clear hv
  go_enter Try.func100, Try.ntmps100
  go_upto_region 1 with fail
  rw [← hw1, ← HXX.out]
  clear hw1 HXX
  obtain ⟨x0, x1, x2⟩ := row3v HX1.out
  by_cases h1 : xn < 0
  · have h1' : xn < 0 := h1
    have hv : v = false := no (fun h => by have := h.n0; dsimp only at this; omega)
    subst hv
    clear no
    go_wp2_with fail
    go_ret
    exact ⟨rfl, HA1.out⟩
  · by_cases h2 : xn ≥ 8
    · have h2' : xn ≥ 8 := h2
      have hv : v = false := no (fun h => by have := h.n8; dsimp only at this; omega)
      subst hv
      clear no
      go_wp2_with fail
      go_ret
      exact ⟨rfl, HA1.out⟩
    · by_cases h3 : xb < 0
      · have h3' : xb < 0 := h3
        have hv : v = false := no (fun h => by have := h.b0; dsimp only at this; omega)
        subst hv
        clear no
        go_wp2_with fail
        go_ret
        exact ⟨rfl, HA1.out⟩
      · by_cases h4 : xb > 1048576
        · have h4' : xb > 1048576 := h4
          have hv : v = false := no (fun h => by have := h.bM; dsimp only at this; omega)
          subst hv
          clear no
          go_wp2_with fail
          go_ret
          exact ⟨rfl, HA1.out⟩
        · have hb0 := bit0 xt ht
          by_cases h5 : xt % 2 = 0
          · rw [decide_eq_true h5] at hb0
            have HL := hid (rlast_ok w1 ⟨xn, xb, xt⟩ ht ⟨by dsimp only; omega, by dsimp only; omega⟩)
            dsimp only at HL
            obtain ⟨lb, Hlb⟩ : ∃ lb, Hid (lb = bl xt) := ⟨_, rfl⟩
            rw [← Hlb.out] at HL HBL
            by_cases h6 : xb > 0
            · by_cases h8 : xb + (lb : Int) ≤ 1048576
              · have hv : v = true := HV.out.2 ⟨by dsimp only; omega, by dsimp only; omega, by dsimp only; omega, by dsimp only; omega, by dsimp only; omega, h5, by dsimp only; rw [← Hlb.out]; have := HBL.out; omega, by dsimp only; rw [← Hlb.out]; exact h8⟩
                subst hv
                clear no
                go_wp2_with fail
                refine HL.out.mono ?_
                rintro _ w2 ⟨rfl, a2⟩
                have HA2 := hid (HA1.out.trans a2)
                clear a2 x0 x1 x2
                dsimp only
                go_wp2_with fail
                go_ret
                exact ⟨by first | rfl | (show Ending.returned (Value.bool _) = _; simp [h8]; done) | (show Ending.returned (Value.bool _) = _; simp [h8]; omega), HA2.out⟩
              · have hv : v = false := no (fun h => by have := h.mx; dsimp only at this; rw [← Hlb.out] at this; omega)
                subst hv
                clear no
                go_wp2_with fail
                refine HL.out.mono ?_
                rintro _ w2 ⟨rfl, a2⟩
                have HA2 := hid (HA1.out.trans a2)
                clear a2 x0 x1 x2
                dsimp only
                go_wp2_with fail
                go_ret
                exact ⟨by first | rfl | (show Ending.returned (Value.bool _) = _; simp [h8]; done) | (show Ending.returned (Value.bool _) = _; simp [h8]; omega), HA2.out⟩
            · by_cases h7 : xt = 0
              · have hv : v = false := no (fun h => by have := h.ne; dsimp only at this; omega)
                have h7i : (xt : Int) = 0 := by omega
                subst hv
                clear no
                go_wp2_with fail
                go_ret
                exact ⟨rfl, HA1.out⟩
              · have h7i : ¬ (xt : Int) = 0 := by omega
                by_cases h8 : xb + (lb : Int) ≤ 1048576
                · have hv : v = true := HV.out.2 ⟨by dsimp only; omega, by dsimp only; omega, by dsimp only; omega, by dsimp only; omega, by dsimp only; omega, h5, by dsimp only; rw [← Hlb.out]; have := HBL.out; omega, by dsimp only; rw [← Hlb.out]; exact h8⟩
                  subst hv
                  clear no
                  go_wp2_with fail
                  refine HL.out.mono ?_
                  rintro _ w2 ⟨rfl, a2⟩
                  have HA2 := hid (HA1.out.trans a2)
                  clear a2 x0 x1 x2
                  dsimp only
                  go_wp2_with fail
                  go_ret
                  exact ⟨by first | rfl | (show Ending.returned (Value.bool _) = _; simp [h8]; done) | (show Ending.returned (Value.bool _) = _; simp [h8]; omega), HA2.out⟩
                · have hv : v = false := no (fun h => by have := h.mx; dsimp only at this; rw [← Hlb.out] at this; omega)
                  subst hv
                  clear no
                  go_wp2_with fail
                  refine HL.out.mono ?_
                  rintro _ w2 ⟨rfl, a2⟩
                  have HA2 := hid (HA1.out.trans a2)
                  clear a2 x0 x1 x2
                  dsimp only
                  go_wp2_with fail
                  go_ret
                  exact ⟨by first | rfl | (show Ending.returned (Value.bool _) = _; simp [h8]; done) | (show Ending.returned (Value.bool _) = _; simp [h8]; omega), HA2.out⟩
          · rw [decide_eq_false h5] at hb0
            have hv : v = false := no (fun h => h5 h.ev)
            subst hv
            clear no
            go_wp2_with fail
            go_ret
            exact ⟨rfl, HA1.out⟩
end Go.Proofs.Ytllhmidpphlbhaa.ds
