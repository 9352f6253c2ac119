import Derived.Deep.RegionHeld
import Derived.OrdersHeld
import Derived.WalkKit
import Derived.ProofKit
import Derived.Lib.TrailingZeros
import Derived.Test.YtllhmidpphlbhaaChecked
import Derived.OpenShut
import Derived.Deep.QuietTactic
import Derived.BigQuiet
import Derived.BigRegion
import Derived.Laws.CopyOwn
import Derived.Laws.Bits64b
import Derived.Laws.MathBits
import Derived.Laws.ShiftsVarLaws
import Derived.WalkSmall
import Derived.Laws.ResultCell
import Derived.Lib.BitFns
import Derived.Laws.StructEq
import Derived.ArgAppend
import Derived.Deep.RegionLaw
import Derived.Deep.DeepAppendRoom
import Derived.Sort.WalkA
import Derived.Laws.Strings
import Derived.Deep.CutBlock
import Derived.Great.BuildSlice
import Derived.Laws.AppendOwnNone
import Derived.Lib.Overlaps
import Derived.Lib.AppendZerosOnto
import Derived.Laws.NewBlocks
import Derived.Laws.Externs
import Derived.Laws.IdiomCopy
import Derived.Laws.BytesString
import Derived.Deep.CutRange
import Derived.RangeFuncNested
import Derived.RangeFuncBound
import Derived.RangeFuncCalls
import Derived.RangeFuncLeaves
import Derived.Shelf.Abstract
import Derived.Shelf.RegionOpen
import Derived.OwnWalkIn
import Derived.TacticsInMore
import Derived.LoopNIn
import Derived.LoopIn
import GoSem.Claim
import GoSem.ClaimJoined
import GoSem.ClaimMapViews
import Derived.JoinedTies
import Derived.KernelRfl
import Derived.Deep.OwnRows
import Derived.Lib.LaidTab
import Derived.JoinedCond
import Derived.ShutString
import Derived.ChangeOld
import Derived.Below
import Derived.Carry
import Derived.ChangeSlices
import Derived.Deep.Slices
import Derived.Deep.DeepHandedRow
import Derived.RowKit
import Derived.ChangeShapes
import Derived.SizedLaws
import Derived.ChangeMaps5
import Derived.Lib.Walk
import Derived.Lib.SliceRun
import Derived.Lib.AppendStr
import Derived.Lib.ConvBytes
import Derived.Deep.RegionHeld3
import Derived.Deep.MidRow
import Derived.Laws.MakeOwn
import Derived.Lib.SlBytesConst
import Derived.Test.YtllhmidpphlbhaaRows
import Derived.Test.YtllhmidpphlbhaaF18
namespace Go.Proofs.Ytllhmidpphlbhaa.ds
open Go.ChangeShapes Go.WideShapes Go.ChangeAt Go.RowKit Go.Sort
set_option linter.unusedVariables false
set_option linter.unusedSimpArgs false
set_option maxHeartbeats 8000000 in
set_option maxRecDepth 100000 in
theorem rset_ok {wB w : World} {s : Sl} {us : List Nat} (h : Bf wB w s us) {pp : Option Addr} {N c : Nat} {xs : List S} (hx : L wB pp N xs) (ho : OkL 64 xs) (hl : us.length ≤ 500000) : Calls Try.prog 81 #[.slice s.p s.n s.c, .slice pp N c] w fun e w' => AP wB w s (us ++ encSt xs) e w' := by
  have HX0 := hid hx
  have HO := hid ho
  have hN : xs.length = N := hx.len
  have h8 := ho.le8
  have HC := hid (rnum_ok h N 1 (by omega) (by omega) (by omega))
  have HL : Hid ((us ++ encN 1 N).length ≤ 500001) := by unfold Hid; rw [List.length_append, encN_len]; omega
  have HES : Hid (us ++ encSt xs = (us ++ encN 1 N) ++ encSps xs) := by unfold Hid encSt; rw [hN, List.append_assoc]
  rw [HES.out]
  clear h hx ho HES
  generalize us ++ encN 1 N = vs at *
  go_enter Try.func81, Try.ntmps81
  go_wp2_with fail
  refine HC.out.mono ?_
  rintro _ w1 ⟨t1, rfl, b1, g1⟩
  have HB1 := hid b1
  have HG1 := hid g1
  clear b1 g1 HC
  dsimp only
  go_wp2_with fail
  go_loopw [0, 5, 6, 7] (fun a c _ _ wt => ∃ (i : Nat) (t : Sl), a = .slice t.p t.n t.c ∧ c = .int .i64 (i : Nat) ∧ i ≤ N ∧ Bf wB wt t (vs ++ encSps (xs.take i)) ∧ Gw w wt s t) (fun _ c _ _ _ => N - (intOf c).toNat)
  case atStart => exact ⟨0, t1, rfl, rfl, Nat.zero_le _, by simpa [encSps] using HB1.out, HG1.out⟩
  case round =>
    obtain ⟨i, t, rfl, rfl, hi, hb, hg⟩ := hrel
    have HB2 := hid hb
    have HG2 := hid hg
    clear hb hg
    by_cases hlt : i < N
    · have hlti : ((i : Nat) : Int) < (N : Int) := by omega
      have hil : i < xs.length := by omega
      have hox := HO.out.ok (ds.g xs i) (g_mem hil)
      obtain ⟨x, Hx⟩ : ∃ x, Hid (x = ds.g xs i) := ⟨_, rfl⟩
      rw [← Hx.out] at hox
      have pt : x.t < 2 ^ 64 := ok_lt hox
      obtain ⟨xn, hxn⟩ := Int.eq_ofNat_of_zero_le hox.n0
      obtain ⟨xb, hxb⟩ := Int.eq_ofNat_of_zero_le hox.b0
      have hn8 := hox.n8
      have hbM := hox.bM
      obtain ⟨xt, Hxt⟩ : ∃ xt, Hid (xt = x.t) := ⟨_, rfl⟩
      have HES : Hid ((vs ++ encSps (xs.take i)) ++ encN 1 xn ++ encN 4 xb ++ encN 8 xt = vs ++ encSps (xs.take (i + 1))) := by
        unfold Hid
        rw [encSps_take hil, ← Hx.out]
        unfold encSp
        rw [hxn, hxb, ← Hxt.out, Int.toNat_natCast, Int.toNat_natCast]
        simp only [List.append_assoc]
      have HLE : Hid ((vs ++ encSps (xs.take i)).length ≤ 500200) := by
        unfold Hid
        rw [List.length_append, encSps_len, List.length_take]
        have := HL.out
        omega
      have HCE : Hid (∀ W, Apart [] wB W → ∃ P o, pp = some ⟨P, o, none⟩ ∧ P < W.heap.size ∧ W.cell? ⟨P, o + i * 3, none⟩ = some (.int .i64 (xn : Int)) ∧ W.cell? ⟨P, o + i * 3 + 1, none⟩ = some (.int .i64 (xb : Int)) ∧ W.cell? ⟨P, o + i * 3 + 2, none⟩ = some (.int .u64 (xt : Int))) := fun W a => by
        obtain ⟨P, o, hP, hPl, hc⟩ := (HX0.out.kept0 a).sp (by omega)
        obtain ⟨c0, c1, c2⟩ := hc i hil
        rw [← Hx.out, hxn] at c0
        rw [← Hx.out, hxb] at c1
        rw [← Hx.out, ← Hxt.out] at c2
        exact ⟨P, o, hP, hPl, c0, c1, c2⟩
      have hl3 : xt < 18446744073709551616 := by rw [Hxt.out]; exact pt
      have hl1 : xn < 9223372036854775808 := by omega
      have hl2 : xb < 9223372036854775808 := by omega
      clear hxn hxb hox pt hn8 hbM
      generalize vs ++ encSps (xs.take i) = ws at *
      obtain ⟨P, o, hP, hPl, c0, c1, c2⟩ := HCE.out wr HB2.out.nw.ap
      subst hP
      go_wp2_with fail
      clear c0 c1 c2
      refine (rnum_ok HB2.out xn 1 hl1 (by omega) (by have := HLE.out; omega)).mono ?_
      rintro _ w3 ⟨t3, rfl, b3, g3⟩
      have HB3 := hid b3
      have HG3 := hid (HG2.out.trans g3)
      clear b3 g3
      dsimp only
      obtain ⟨P', o', hP', hPl', c0, c1, c2⟩ := HCE.out w3 HB3.out.nw.ap
      simp only [Option.some.injEq, Addr.mk.injEq] at hP'
      obtain ⟨rfl, rfl, -⟩ := hP'
      go_wp2_with fail
      clear c0 c1 c2
      refine (rnum_ok HB3.out xb 4 hl2 (by omega) (by rw [List.length_append, encN_len]; have := HLE.out; omega)).mono ?_
      rintro _ w4 ⟨t4, rfl, b4, g4⟩
      have HB4 := hid b4
      have HG4 := hid (HG3.out.trans g4)
      clear b4 g4
      dsimp only
      obtain ⟨P', o', hP', hPl', c0, c1, c2⟩ := HCE.out w4 HB4.out.nw.ap
      simp only [Option.some.injEq, Addr.mk.injEq] at hP'
      obtain ⟨rfl, rfl, -⟩ := hP'
      have HL4 : Hid ((ws ++ encN 1 xn ++ encN 4 xb).length ≤ 500300) := by unfold Hid; simp only [List.length_append, encN_len]; have := HLE.out; omega
      generalize ws ++ encN 1 xn ++ encN 4 xb = ws4 at *
      go_wp2_with fail
      clear c0 c1 c2
      go_loopw [0, 6, 7] (fun a b c wt => ∃ (j : Nat) (t : Sl), a = .slice t.p t.n t.c ∧ b = .int .u64 ((xt / 256 ^ j : Nat) : Int) ∧ c = .int .i64 (j : Nat) ∧ j ≤ 8 ∧ Bf wB wt t (ws4 ++ encN j xt) ∧ Gw w wt s t) (fun _ _ c _ => 8 - (intOf c).toNat)
      case atStart => exact ⟨0, t4, rfl, by simp, rfl, Nat.zero_le _, by simpa [encN] using HB4.out, HG4.out⟩
      case round =>
        obtain ⟨j, u, rfl, rfl, rfl, hj, hb, hg⟩ := hrel
        have HB5 := hid hb
        have HG5 := hid hg
        clear hb hg
        by_cases hjt : j < 8
        · have hjti : ((j : Nat) : Int) < 8 := by omega
          obtain ⟨m, Hm⟩ : ∃ m, Hid (m = xt / 256 ^ j) := ⟨_, rfl⟩
          have hm64 : m < 18446744073709551616 := by rw [Hm.out]; exact Nat.lt_of_le_of_lt (Nat.div_le_self _ _) hl3
          rw [← Hm.out]
          obtain ⟨y, Hy⟩ : ∃ y, Hid (y = m % 256) := ⟨_, rfl⟩
          have hrem : (m : Int) % 256 = (y : Int) := by rw [Hy.out]; omega
          have hw8 : IntKind.u8.wrap (y : Int) = (y : Int) := by rw [IntKind.wrap_u8, Hy.out]; omega
          obtain ⟨m2, Hm2⟩ : ∃ m2, Hid (m2 = m / 256) := ⟨_, rfl⟩
          have hquo : (m : Int) / 256 = (m2 : Int) := by rw [Hm2.out]; omega
          have hlen := encN_len j xt
          obtain ⟨u2, W', h1, h2, h3⟩ := app_byte HB5.out y (by rw [List.length_append, hlen]; have := HL4.out; omega)
          have HRUN := hid h1
          have HB6 : Hid (Bf wB W' u2 (ws4 ++ encN (j + 1) xt)) := by unfold Hid; rw [encN_succ, ← Hm.out, ← Hy.out, ← List.append_assoc]; exact h2
          have HG6 := hid (HG5.out.trans h3)
          have HM3 : Hid (m2 = xt / 256 ^ (j + 1)) := by unfold Hid; rw [Hm2.out, Hm.out, Nat.div_div_eq_div_mul, Nat.pow_succ]
          clear h1 h2 h3
          go_wp2_with (at_builtin; refine wpList_app2 rfl (.tmp 41) (.tmp 45) 28 28 rfl _ _ rfl rfl _ _ HRUN.out ?_)
          go_roundw
          case rel => exact ⟨j + 1, u2, rfl, by rw [← HM3.out], by go_num, by omega, HB6.out, HG6.out⟩
          case measure => simp [intOf]; omega
        · have hjti : ¬ ((j : Nat) : Int) < 8 := by omega
          have hj8 : j = 8 := by omega
          rw [hj8, HES.out] at HB5
          go_wp2_with fail
          go_roundw
          case rel => exact ⟨i + 1, u, rfl, by go_num, by omega, HB5.out, HG5.out⟩
          case measure => simp [intOf]; omega
    · have hlti : ¬ ((i : Nat) : Int) < (N : Int) := by omega
      have hiN : xs.take i = xs := List.take_of_length_le (by omega)
      rw [hiN] at HB2
      go_wp2_with fail
      go_ret
      exact ⟨⟨t, rfl, HB2.out, HG2.out⟩⟩
end Go.Proofs.Ytllhmidpphlbhaa.ds
namespace Go.Proofs.Ytllhmidpphlbhaa.ds
open Go.ChangeShapes Go.WideShapes Go.ChangeAt Go.RowKit Go.Sort
set_option linter.unusedVariables false
set_option linter.unusedSimpArgs false

set_option maxHeartbeats 8000000 in
set_option maxRecDepth 100000 in
theorem rwr_ok {wB w : World} {s : Sl} {us : List Nat} (h : Bf wB w s us) (e : E) (r : Wr) (hr : Reads wB e r) (hs : Stor r) (hl : us.length ≤ 100000) : Calls Try.prog 87 #[.slice s.p s.n s.c, .agg #[.int .i64 e.n, .int .i64 e.c, .string e.k, .bool e.d, .slice e.v.p e.v.n e.v.c, .slice e.x.p e.x.n e.x.c]] w fun e w' => AP wB w s (us ++ encPw (cwOf r)) e w' := by
  obtain ⟨rn, rc, rk, rd, rvs, rxs⟩ := r
  obtain ⟨n0, c0, k, d, v, x⟩ := e
  have e1 : n0 = rn := hr.n
  have e2 : c0 = rc := hr.c
  have e4 : d = rd := hr.d
  subst e1 e2 e4
  have HV := hid hr.v
  have HVN : Hid (rvs.length = v.n) := by have := hr; exact this.6
  have HXL : Hid (L wB x.p x.n rxs) := hr.x
  have hsn := hs.n
  have hsc := hs.c
  dsimp only at hsn hsc
  obtain ⟨n, hn⟩ := Int.eq_ofNat_of_zero_le hsn.1
  obtain ⟨cc, hcc⟩ := Int.eq_ofNat_of_zero_le (show 0 ≤ c0 by omega)
  subst hn hcc
  have hv64 : rvs.length ≤ 64 := Nat.le_trans hs.v (mostV_le _)
  have HOX : Hid (OkL 64 rxs) := hs.x
  obtain ⟨db, Hdb⟩ : ∃ db : Nat, Hid (db = if d = true then 1 else 0) := ⟨_, rfl⟩
  have hdb1 : db ≤ 1 := by rw [Hdb.out]; split <;> omega
  have HE : Hid (us ++ encPw (cwOf ⟨(n : Nat), (cc : Nat), rk, d, rvs, rxs⟩) = us ++ encN 1 n ++ encN 4 cc ++ encN 1 db ++ encN 1 v.n ++ rvs ++ encSt rxs) := by
    unfold Hid encPw cwOf
    dsimp only
    rw [Int.toNat_natCast, Int.toNat_natCast, ← Hdb.out, HVN.out]
    simp only [List.append_assoc]
  rw [HE.out]
  have HLN : Hid (n ≤ 7 ∧ cc ≤ 1048576 ∧ db ≤ 1 ∧ v.n ≤ 64 ∧ us.length ≤ 100000) := ⟨by omega, by omega, hdb1, by have := HVN.out; omega, hl⟩
  have HB := hid h
  obtain ⟨X, HXX⟩ : ∃ X, Hid (X = w.heap.size) := ⟨_, rfl⟩
  obtain ⟨w1, hw1⟩ : ∃ W, W = w.alloc (.cells #[.int .i64 (n : Int), .int .i64 (cc : Int), .string k, .bool d, .slice v.p v.n v.c, .slice x.p x.n x.c] 50) := ⟨_, rfl⟩
  have HX1 : Hid (w1.heap[X]? = some (.cells #[.int .i64 (n : Int), .int .i64 (cc : Int), .string k, .bool d, .slice v.p v.n v.c, .slice x.p x.n x.c] 50 (0, 0))) := by unfold Hid; rw [HXX.out, hw1]; exact heap_alloc_new w _
  have HA1 : Hid (Apart [] w w1) := by unfold Hid; rw [hw1]; exact (Apart.refl [] w).alloc _
  have HB1 := hid (HB.out.kept HA1.out)
  have HG1 : Hid (Gw w w1 s s) := Gw.of HA1.out
  clear h hr hs hl hsn hsc HE HB hv64 hdb1
  go_enter Try.func87, Try.ntmps87
  go_upto_region 1 with fail
  rw [← hw1, ← HXX.out]
  clear hw1 HXX
  obtain ⟨x0, x1, x2, x3, x4, x5⟩ := row6v HX1.out
  go_wp2_with fail
  clear x0 x1 x2 x3 x4 x5
  refine (rnum_ok HB1.out n 1 (by have := HLN.out; omega) (by omega) (by have := HLN.out; omega)).mono ?_
  rintro _ w2 ⟨t2, rfl, b2, g2⟩
  have HB2 := hid b2
  have HX2 := hid (g2.block HB1.out HX1.out (by decide))
  have HG2 := hid (HG1.out.trans g2)
  clear b2 g2
  dsimp only
  have HL2 : Hid ((us ++ encN 1 n).length = us.length + 1) := by unfold Hid; rw [List.length_append, encN_len]
  generalize hvs2 : us ++ encN 1 n = vs2 at *
  have Hvs2 := hid hvs2
  clear hvs2
  obtain ⟨x0, x1, x2, x3, x4, x5⟩ := row6v HX2.out
  go_wp2_with fail
  clear x0 x1 x2 x3 x4 x5
  refine (rnum_ok HB2.out cc 4 (by have := HLN.out; omega) (by omega) (by have := HLN.out; have := HL2.out; omega)).mono ?_
  rintro _ w3 ⟨t3, rfl, b3, g3⟩
  have HB3 := hid b3
  have HX3 := hid (g3.block HB2.out HX2.out (by decide))
  have HG3 := hid (HG2.out.trans g3)
  clear b3 g3
  dsimp only
  have HL3 : Hid ((vs2 ++ encN 4 cc).length = us.length + 5) := by unfold Hid; rw [List.length_append, encN_len, HL2.out]
  generalize hvs3 : vs2 ++ encN 4 cc = vs3 at *
  have Hvs3 := hid hvs3
  clear hvs3
  go_upto_region 4 with fail
  obtain ⟨x0, x1, x2, x3, x4, x5⟩ := row6v HX3.out
  go_upto_if 18 with fail
  clear x0 x1 x2 x3 x4 x5
  go_cut [5] from 19 to 19 (fun u wx => u = .int .i64 (db : Nat) ∧ wx = w3)
  · have hdd := Hdb.out
    cases d with
    | true =>
      have hdb : db = 1 := hdd
      go_wp2_with fail
      go_meet
      exact ⟨by rw [hdb]; rfl, rfl⟩
    | false =>
      have hdb : db = 0 := hdd
      go_wp2_with fail
      go_meet
      exact ⟨by rw [hdb]; rfl, rfl⟩
  · obtain ⟨rfl, hwc⟩ := hcut
    rw [hwc]
    clear hwc
    obtain ⟨x0, x1, x2, x3, x4, x5⟩ := row6v HX3.out
    go_wp2_with fail
    clear x0 x1 x2 x3 x4 x5
    refine (rnum_ok HB3.out db 1 (by have := HLN.out; omega) (by omega) (by have := HLN.out; have := HL3.out; omega)).mono ?_
    rintro _ w4 ⟨t4, rfl, b4, g4⟩
    have HB4 := hid b4
    have HX4 := hid (g4.block HB3.out HX3.out (by decide))
    have HG4 := hid (HG3.out.trans g4)
    clear b4 g4
    dsimp only
    have HL4 : Hid ((vs3 ++ encN 1 db).length = us.length + 6) := by unfold Hid; rw [List.length_append, encN_len, HL3.out]
    generalize hvs4 : vs3 ++ encN 1 db = vs4 at *
    have Hvs4 := hid hvs4
    clear hvs4
    obtain ⟨x0, x1, x2, x3, x4, x5⟩ := row6v HX4.out
    go_wp2_with fail
    clear x0 x1 x2 x3 x4 x5
    refine (rnum_ok HB4.out v.n 1 (by have := HLN.out; omega) (by omega) (by have := HLN.out; have := HL4.out; omega)).mono ?_
    rintro _ w5 ⟨t5, rfl, b5, g5⟩
    have HB5 := hid b5
    have HX5 := hid (g5.block HB4.out HX4.out (by decide))
    have HG5 := hid (HG4.out.trans g5)
    clear b5 g5
    dsimp only
    have HL5 : Hid ((vs4 ++ encN 1 v.n).length = us.length + 7) := by unfold Hid; rw [List.length_append, encN_len, HL4.out]
    generalize hvs5 : vs4 ++ encN 1 v.n = vs5 at *
    have Hvs5 := hid hvs5
    clear hvs5
    go_wp2_with fail
    go_loopw [0, 6] (fun a c wt => ∃ (i : Nat) (t : Sl), a = .slice t.p t.n t.c ∧ c = .int .i64 (i : Nat) ∧ i ≤ v.n ∧ Bf wB wt t (vs5 ++ rvs.take i) ∧ Gw w wt s t ∧ wt.heap[X]? = some (.cells #[.int .i64 (n : Int), .int .i64 (cc : Int), .string k, .bool d, .slice v.p v.n v.c, .slice x.p x.n x.c] 50 (0, 0))) (fun _ c _ => v.n - (intOf c).toNat)
    case atStart => exact ⟨0, t5, rfl, rfl, Nat.zero_le _, by simpa using HB5.out, HG5.out, HX5.out⟩
    case round =>
      obtain ⟨i, t, rfl, rfl, hi, hb, hg, hX⟩ := hrel
      have HB6 := hid hb
      have HG6 := hid hg
      have HX6 := hid hX
      clear hb hg hX
      by_cases hlt : i < v.n
      · have hlti : ((i : Nat) : Int) < (v.n : Int) := by omega
        have hvl : v.n ≤ 64 := HLN.out.2.2.2.1
        have hil : i < rvs.length := by have := HVN.out; omega
        obtain ⟨P, o, hP, hPl, hc⟩ := (HV.out.kept0 HB6.out.nw.ap) (by rw [byts_len]; omega)
        obtain ⟨y, Hy⟩ : ∃ y, Hid (y = rvs.getD i 0) := ⟨_, rfl⟩
        have c0 := hc i (.int .u8 (y : Int)) (by rw [byts, List.getElem?_map, Hy.out, List.getElem?_eq_getElem hil, List.getD_eq_getElem?_getD, List.getElem?_eq_getElem hil]; rfl)
        clear hc
        obtain ⟨t2, W', h1, h2, h3⟩ := app_byte HB6.out y (by rw [List.length_append, List.length_take]; have := HLN.out; have := HL5.out; omega)
        have HRUN := hid h1
        have HTK : Hid (rvs.take (i + 1) = rvs.take i ++ [y]) := by unfold Hid; rw [List.take_succ_eq_append_getElem hil, Hy.out, List.getD_eq_getElem?_getD, List.getElem?_eq_getElem hil]; rfl
        have HB7 : Hid (Bf wB W' t2 (vs5 ++ rvs.take (i + 1))) := by unfold Hid; rw [HTK.out, ← List.append_assoc]; exact h2
        have HX7 := hid (h3.block HB6.out HX6.out (by decide))
        have HG7 := hid (HG6.out.trans h3)
        clear h1 h2 h3
        generalize v.p = vp at *
        subst hP
        obtain ⟨x0, x1, x2, x3, x4, x5⟩ := row6v HX6.out
        go_wp2_with (at_builtin; refine wpList_app2 rfl (.tmp 34) (.tmp 40) 28 28 rfl _ _ rfl rfl _ _ HRUN.out ?_)
        go_roundw
        case rel => exact ⟨i + 1, t2, rfl, by go_num, by omega, HB7.out, HG7.out, HX7.out⟩
        case measure => simp [intOf]; omega
      · have hlti : ¬ ((i : Nat) : Int) < (v.n : Int) := by omega
        have hik : rvs.take i = rvs := List.take_of_length_le (by have := HVN.out; omega)
        rw [hik] at HB6
        clear hik
        have HL6 : Hid ((vs5 ++ rvs).length ≤ 100100) := by unfold Hid; rw [List.length_append, HL5.out, HVN.out]; have := HLN.out; omega
        generalize hvs6 : vs5 ++ rvs = vs6 at *
        have Hvs6 := hid hvs6
        clear hvs6
        obtain ⟨x0, x1, x2, x3, x4, x5⟩ := row6v HX6.out
        go_wp2_with fail
        clear x0 x1 x2 x3 x4 x5
        refine (rset_ok (c := x.c) HB6.out HXL.out HOX.out (by have := HL6.out; omega)).mono ?_
        rintro _ w8 ⟨t8, rfl, b8, g8⟩
        have HB8 := hid b8
        have HG8 := hid (HG6.out.trans g8)
        clear b8 g8
        dsimp only
        go_wp2_with fail
        go_ret
        have HFE : Hid (us ++ (encN 1 n ++ (encN 4 cc ++ (encN 1 db ++ (encN 1 v.n ++ (rvs ++ encSt rxs))))) = vs6 ++ encSt rxs) := by
          unfold Hid
          rw [← Hvs6.out, ← Hvs5.out, ← Hvs4.out, ← Hvs3.out, ← Hvs2.out]
          simp only [List.append_assoc]
        simp only [List.append_assoc]
        rw [HFE.out]
        exact ⟨⟨t8, rfl, HB8.out, HG8.out⟩⟩
end Go.Proofs.Ytllhmidpphlbhaa.ds
namespace Go.Proofs.Ytllhmidpphlbhaa.ds
open Go.ChangeShapes Go.WideShapes Go.ChangeAt Go.RowKit Go.Sort
set_option linter.unusedVariables false
set_option linter.unusedSimpArgs false

set_option maxHeartbeats 8000000 in
set_option maxRecDepth 100000 in
theorem rSet_ok {w : World} {pp : Option Addr} {N c : Nat} {xs : List S} (hx : L w pp N xs) (v : Bool) (hv : v = true ↔ OkL 64 xs) : Calls Try.prog 80 #[.slice pp N c] w fun e w' => e = .returned (.bool v) ∧ Apart [] w w' := by
  have HX := hid hx
  have hN : xs.length = N := hx.len
  have hlim := hx.lim
  have HV := hid hv
  have HF := hid hx.fit
  have no : ¬ OkL 64 xs → v = false := fun h => by
    cases v with
    | false => rfl
    | true => exact absurd (HV.out.1 rfl) h
  have HNO := hid no
  clear hx hv no
  go_enter Try.func80, Try.ntmps80
  go_wp2_with fail
  go_loopw [3, 4] (fun u _ wt => ∃ i : Nat, u = .int .i64 (i : Nat) ∧ i ≤ N ∧ Apart [] w wt ∧ Pre 64 xs i) (fun u _ _ => N - (intOf u).toNat)
  case atStart => exact ⟨0, rfl, Nat.zero_le _, Apart.refl _ _, fun j hj => absurd hj (by omega)⟩
  case round =>
    obtain ⟨i, rfl, hi, ha, hp⟩ := hrel
    have HA := hid ha
    have HP := hid hp
    clear ha hp
    by_cases hlt : i < N
    · have hlti : ((i : Nat) : Int) < (N : Int) := by omega
      have hil : i < xs.length := by omega
      obtain ⟨P, o, hP, hPl, hc⟩ := (HX.out.kept0 HA.out).sp (by omega)
      subst hP
      obtain ⟨c0, c1, c2⟩ := hc i hil
      obtain ⟨a, Ha⟩ : ∃ a, Hid (a = ds.g xs i) := ⟨_, rfl⟩
      rw [← Ha.out] at c0 c1 c2
      have ht : a.t < 2 ^ 64 := by rw [Ha.out]; exact HF.out _ (g_mem hil)
      obtain ⟨v1, H1⟩ := bool_of (Ok 64 a)
      replace H1 := hid H1
      have HW := hid (rwhole_ok wr a ht v1 H1.out)
      have HHC := hid hc
      clear hc
      go_wp2_with fail
      clear c0 c1 c2
      refine HW.out.mono ?_
      rintro _ w2 ⟨rfl, a2⟩
      have HA2 := hid (HA.out.trans a2)
      clear a2 HW HHC
      dsimp only
      go_upto_region 5 with fail
      have HAd := hid (HA2.out.trans (Apart.refl [] w2).drew)
      refine wp_region_held_drew (S := fun W => Apart [] w W) (by kernel_rfl) HAd.out (fun hHeld => ?_)
      generalize w2.drew = wd at *
      cases v1 with
      | false =>
        have hv : v = false := HNO.out (fun h => by have := H1.out.2 (by rw [Ha.out]; exact h.ok _ (g_mem hil)); cases this)
        subst hv
        refine tk 0 16 (.bool false) rfl ?_ ?_
        · intro W hSW; go_simp
        simp only [Act.put, List.setIfInBounds_toArray, List.set_cons_zero, List.set_cons_succ]
        refine tk 1 17 (.bool true) rfl ?_ ?_
        · intro W hSW; go_simp
        simp only [Act.put, List.setIfInBounds_toArray, List.set_cons_zero, List.set_cons_succ]
        refine tk 2 18 (.bool true) rfl ?_ ?_
        · intro W hSW; go_simp
        simp only [Act.put, List.setIfInBounds_toArray, List.set_cons_zero, List.set_cons_succ]
        refine tu 3 19 rfl ?_
        simp only [Act.put, List.setIfInBounds_toArray, List.set_cons_zero, List.set_cons_succ]
        refine tu 4 20 rfl ?_
        simp only [Act.put, List.setIfInBounds_toArray, List.set_cons_zero, List.set_cons_succ]
        refine tu 5 21 rfl ?_
        simp only [Act.put, List.setIfInBounds_toArray, List.set_cons_zero, List.set_cons_succ]
        refine tu 6 22 rfl ?_
        simp only [Act.put, List.setIfInBounds_toArray, List.set_cons_zero, List.set_cons_succ]
        refine tu 7 23 rfl ?_
        simp only [Act.put, List.setIfInBounds_toArray, List.set_cons_zero, List.set_cons_succ]
        refine tu 8 24 rfl ?_
        simp only [Act.put, List.setIfInBounds_toArray, List.set_cons_zero, List.set_cons_succ]
        refine tu 9 25 rfl ?_
        simp only [Act.put, List.setIfInBounds_toArray, List.set_cons_zero, List.set_cons_succ]
        refine tu 10 26 rfl ?_
        simp only [Act.put, List.setIfInBounds_toArray, List.set_cons_zero, List.set_cons_succ]
        refine tu 11 27 rfl ?_
        simp only [Act.put, List.setIfInBounds_toArray, List.set_cons_zero, List.set_cons_succ]
        refine tu 12 28 rfl ?_
        simp only [Act.put, List.setIfInBounds_toArray, List.set_cons_zero, List.set_cons_succ]
        refine tu 13 29 rfl ?_
        simp only [Act.put, List.setIfInBounds_toArray, List.set_cons_zero, List.set_cons_succ]
        refine tu 14 30 rfl ?_
        simp only [Act.put, List.setIfInBounds_toArray, List.set_cons_zero, List.set_cons_succ]
        refine tu 15 31 rfl ?_
        simp only [Act.put, List.setIfInBounds_toArray, List.set_cons_zero, List.set_cons_succ]
        refine tu 16 32 rfl ?_
        simp only [Act.put, List.setIfInBounds_toArray, List.set_cons_zero, List.set_cons_succ]
        refine tu 17 33 rfl ?_
        simp only [Act.put, List.setIfInBounds_toArray, List.set_cons_zero, List.set_cons_succ]
        refine tu 18 34 rfl ?_
        simp only [Act.put, List.setIfInBounds_toArray, List.set_cons_zero, List.set_cons_succ]
        refine tk 19 35 (.bool true) rfl ?_ ?_
        · intro W hSW; go_simp
        simp only [Act.put, List.setIfInBounds_toArray, List.set_cons_zero, List.set_cons_succ]
        refine wpAnyH_done (by kernel_rfl) ?_ _
        clear hHeld
        go_wp2_with fail
        go_ret
        exact ⟨rfl, HAd.out⟩
      | true =>
        have hoka := H1.out.1 rfl
        cases i with
        | zero =>
          refine tk 0 16 (.bool true) rfl ?_ ?_
          · intro W hSW; go_simp
          simp only [Act.put, List.setIfInBounds_toArray, List.set_cons_zero, List.set_cons_succ]
          refine tk 1 17 (.bool false) rfl ?_ ?_
          · intro W hSW; go_simp
          simp only [Act.put, List.setIfInBounds_toArray, List.set_cons_zero, List.set_cons_succ]
          refine tk 2 18 (.bool false) rfl ?_ ?_
          · intro W hSW; go_simp
          simp only [Act.put, List.setIfInBounds_toArray, List.set_cons_zero, List.set_cons_succ]
          refine tk 3 19 (.int .i64 0) rfl ?_ ?_
          · intro W hSW; go_simp
          simp only [Act.put, List.setIfInBounds_toArray, List.set_cons_zero, List.set_cons_succ]
          refine tk 4 20 (.bool false) rfl ?_ ?_
          · intro W hSW; go_simp
          simp only [Act.put, List.setIfInBounds_toArray, List.set_cons_zero, List.set_cons_succ]
          refine tk 5 21 (.bool false) rfl ?_ ?_
          · intro W hSW; go_simp
          simp only [Act.put, List.setIfInBounds_toArray, List.set_cons_zero, List.set_cons_succ]
          refine tu 6 22 rfl ?_
          simp only [Act.put, List.setIfInBounds_toArray, List.set_cons_zero, List.set_cons_succ]
          refine tu 7 23 rfl ?_
          simp only [Act.put, List.setIfInBounds_toArray, List.set_cons_zero, List.set_cons_succ]
          refine tu 8 24 rfl ?_
          simp only [Act.put, List.setIfInBounds_toArray, List.set_cons_zero, List.set_cons_succ]
          refine tu 9 25 rfl ?_
          simp only [Act.put, List.setIfInBounds_toArray, List.set_cons_zero, List.set_cons_succ]
          refine tu 10 26 rfl ?_
          simp only [Act.put, List.setIfInBounds_toArray, List.set_cons_zero, List.set_cons_succ]
          refine tu 11 27 rfl ?_
          simp only [Act.put, List.setIfInBounds_toArray, List.set_cons_zero, List.set_cons_succ]
          refine tu 12 28 rfl ?_
          simp only [Act.put, List.setIfInBounds_toArray, List.set_cons_zero, List.set_cons_succ]
          refine tu 13 29 rfl ?_
          simp only [Act.put, List.setIfInBounds_toArray, List.set_cons_zero, List.set_cons_succ]
          refine tu 14 30 rfl ?_
          simp only [Act.put, List.setIfInBounds_toArray, List.set_cons_zero, List.set_cons_succ]
          refine tu 15 31 rfl ?_
          simp only [Act.put, List.setIfInBounds_toArray, List.set_cons_zero, List.set_cons_succ]
          refine tu 16 32 rfl ?_
          simp only [Act.put, List.setIfInBounds_toArray, List.set_cons_zero, List.set_cons_succ]
          refine tu 17 33 rfl ?_
          simp only [Act.put, List.setIfInBounds_toArray, List.set_cons_zero, List.set_cons_succ]
          refine tk 18 34 (.bool false) rfl ?_ ?_
          · intro W hSW; go_simp
          simp only [Act.put, List.setIfInBounds_toArray, List.set_cons_zero, List.set_cons_succ]
          refine tk 19 35 (.bool false) rfl ?_ ?_
          · intro W hSW; go_simp
          simp only [Act.put, List.setIfInBounds_toArray, List.set_cons_zero, List.set_cons_succ]
          refine wpAnyH_done (by kernel_rfl) ?_ _
          clear hHeld
          go_wp2_with fail
          go_roundw
          case rel => exact ⟨1, by first | rfl | go_num, by omega, HAd.out, fun j hj => by
            have : j = 0 := by omega
            subst this
            exact ⟨by rw [← Ha.out]; exact hoka, fun h => absurd h (by omega)⟩⟩
          case measure => simp [intOf]; omega
        | succ i1 =>
          obtain ⟨i, Hi⟩ : ∃ i, Hid (i = i1 + 1) := ⟨_, rfl⟩
          rw [← Hi.out] at hlt hil hlti Ha HP hi ⊢
          have hgt : ((i : Nat) : Int) > 0 := by rw [Hi.out]; omega
          have hgt0 : 0 < i := by rw [Hi.out]; omega
          have hsub : IntKind.i64.wrap ((i : Int) - 1) = (i1 : Int) := by have := Hi.out; rw [IntKind.wrap_i64]; omega
          have hlt1 : i1 < N := by rw [Hi.out] at hlt; omega
          obtain ⟨b, Hb⟩ : ∃ b, Hid (b = ds.g xs i1) := ⟨_, rfl⟩
          have HC : Hid (∀ W, Apart [] w W → W.cell? ⟨P, o + i * 3, none⟩ = some (.int .i64 a.n) ∧ W.cell? ⟨P, o + i1 * 3, none⟩ = some (.int .i64 b.n)) := fun W aw => by
            obtain ⟨P', o', hP', _, hc⟩ := (HX.out.kept0 aw).sp (by omega)
            simp only [Option.some.injEq, Addr.mk.injEq] at hP'
            obtain ⟨rfl, rfl, -⟩ := hP'
            rw [Ha.out, Hb.out]
            exact ⟨(hc i hil).1, (hc i1 (by omega)).1⟩
          by_cases hle : a.n ≤ b.n
          · have hv : v = false := HNO.out (fun h => by
              have := ((okL_iff 64 xs).1 h i hil).2 (by rw [Hi.out]; omega)
              rw [Hi.out, Nat.add_sub_cancel, ← Hi.out, ← Ha.out, ← Hb.out] at this
              omega)
            subst hv
            refine tk 0 16 (.bool true) rfl ?_ ?_
            · intro W hSW; go_simp
            simp only [Act.put, List.setIfInBounds_toArray, List.set_cons_zero, List.set_cons_succ]
            refine tk 1 17 (.bool false) rfl ?_ ?_
            · intro W hSW; go_simp
            simp only [Act.put, List.setIfInBounds_toArray, List.set_cons_zero, List.set_cons_succ]
            refine tk 2 18 (.bool false) rfl ?_ ?_
            · intro W hSW; go_simp
            simp only [Act.put, List.setIfInBounds_toArray, List.set_cons_zero, List.set_cons_succ]
            refine tk 3 19 (.int .i64 (i : Nat)) rfl ?_ ?_
            · intro W hSW; go_simp
            simp only [Act.put, List.setIfInBounds_toArray, List.set_cons_zero, List.set_cons_succ]
            refine tk 4 20 (.bool true) rfl ?_ ?_
            · intro W hSW; have h := hgt0; go_simp
            simp only [Act.put, List.setIfInBounds_toArray, List.set_cons_zero, List.set_cons_succ]
            refine tk 5 21 (.bool true) rfl ?_ ?_
            · intro W hSW; go_simp
            simp only [Act.put, List.setIfInBounds_toArray, List.set_cons_zero, List.set_cons_succ]
            refine tk 6 22 (.slice (some ⟨P, o, none⟩) N c) rfl ?_ ?_
            · intro W hSW; go_simp
            simp only [Act.put, List.setIfInBounds_toArray, List.set_cons_zero, List.set_cons_succ]
            refine tk 7 23 (.int .i64 (i : Nat)) rfl ?_ ?_
            · intro W hSW; go_simp
            simp only [Act.put, List.setIfInBounds_toArray, List.set_cons_zero, List.set_cons_succ]
            refine tk 8 24 (.pointer (some ⟨P, o + i * 3, none⟩)) rfl ?_ ?_
            · intro W hSW; have h1 := hlti; go_simp
            simp only [Act.put, List.setIfInBounds_toArray, List.set_cons_zero, List.set_cons_succ]
            refine tk 9 25 (.pointer (some ⟨P, o + i * 3, none⟩)) rfl ?_ ?_
            · intro W hSW; go_simp
            simp only [Act.put, List.setIfInBounds_toArray, List.set_cons_zero, List.set_cons_succ]
            refine tk 10 26 (.int .i64 a.n) rfl ?_ ?_
            · intro W hSW; have z := (HC.out W hSW).1; go_simp
            simp only [Act.put, List.setIfInBounds_toArray, List.set_cons_zero, List.set_cons_succ]
            refine tk 11 27 (.slice (some ⟨P, o, none⟩) N c) rfl ?_ ?_
            · intro W hSW; go_simp
            simp only [Act.put, List.setIfInBounds_toArray, List.set_cons_zero, List.set_cons_succ]
            refine tk 12 28 (.int .i64 (i : Nat)) rfl ?_ ?_
            · intro W hSW; go_simp
            simp only [Act.put, List.setIfInBounds_toArray, List.set_cons_zero, List.set_cons_succ]
            refine tk 13 29 (.int .i64 (i1 : Nat)) rfl ?_ ?_
            · intro W hSW; have h := hsub; go_simp
            simp only [Act.put, List.setIfInBounds_toArray, List.set_cons_zero, List.set_cons_succ]
            refine tk 14 30 (.pointer (some ⟨P, o + i1 * 3, none⟩)) rfl ?_ ?_
            · intro W hSW; have h1 := hlt1; go_simp
            simp only [Act.put, List.setIfInBounds_toArray, List.set_cons_zero, List.set_cons_succ]
            refine tk 15 31 (.pointer (some ⟨P, o + i1 * 3, none⟩)) rfl ?_ ?_
            · intro W hSW; go_simp
            simp only [Act.put, List.setIfInBounds_toArray, List.set_cons_zero, List.set_cons_succ]
            refine tk 16 32 (.int .i64 b.n) rfl ?_ ?_
            · intro W hSW; have z := (HC.out W hSW).2; go_simp
            simp only [Act.put, List.setIfInBounds_toArray, List.set_cons_zero, List.set_cons_succ]
            refine tk 17 33 (.bool true) rfl ?_ ?_
            · intro W hSW; go_simp
            simp only [Act.put, List.setIfInBounds_toArray, List.set_cons_zero, List.set_cons_succ]
            refine tk 18 34 (.bool true) rfl ?_ ?_
            · intro W hSW; go_simp
            simp only [Act.put, List.setIfInBounds_toArray, List.set_cons_zero, List.set_cons_succ]
            refine tk 19 35 (.bool true) rfl ?_ ?_
            · intro W hSW; go_simp
            simp only [Act.put, List.setIfInBounds_toArray, List.set_cons_zero, List.set_cons_succ]
            refine wpAnyH_done (by kernel_rfl) ?_ _
            clear hHeld
            go_wp2_with fail
            go_ret
            exact ⟨rfl, HAd.out⟩
          · have hlt2 : b.n < a.n := by omega
            refine tk 0 16 (.bool true) rfl ?_ ?_
            · intro W hSW; go_simp
            simp only [Act.put, List.setIfInBounds_toArray, List.set_cons_zero, List.set_cons_succ]
            refine tk 1 17 (.bool false) rfl ?_ ?_
            · intro W hSW; go_simp
            simp only [Act.put, List.setIfInBounds_toArray, List.set_cons_zero, List.set_cons_succ]
            refine tk 2 18 (.bool false) rfl ?_ ?_
            · intro W hSW; go_simp
            simp only [Act.put, List.setIfInBounds_toArray, List.set_cons_zero, List.set_cons_succ]
            refine tk 3 19 (.int .i64 (i : Nat)) rfl ?_ ?_
            · intro W hSW; go_simp
            simp only [Act.put, List.setIfInBounds_toArray, List.set_cons_zero, List.set_cons_succ]
            refine tk 4 20 (.bool true) rfl ?_ ?_
            · intro W hSW; have h := hgt0; go_simp
            simp only [Act.put, List.setIfInBounds_toArray, List.set_cons_zero, List.set_cons_succ]
            refine tk 5 21 (.bool true) rfl ?_ ?_
            · intro W hSW; go_simp
            simp only [Act.put, List.setIfInBounds_toArray, List.set_cons_zero, List.set_cons_succ]
            refine tk 6 22 (.slice (some ⟨P, o, none⟩) N c) rfl ?_ ?_
            · intro W hSW; go_simp
            simp only [Act.put, List.setIfInBounds_toArray, List.set_cons_zero, List.set_cons_succ]
            refine tk 7 23 (.int .i64 (i : Nat)) rfl ?_ ?_
            · intro W hSW; go_simp
            simp only [Act.put, List.setIfInBounds_toArray, List.set_cons_zero, List.set_cons_succ]
            refine tk 8 24 (.pointer (some ⟨P, o + i * 3, none⟩)) rfl ?_ ?_
            · intro W hSW; have h1 := hlti; go_simp
            simp only [Act.put, List.setIfInBounds_toArray, List.set_cons_zero, List.set_cons_succ]
            refine tk 9 25 (.pointer (some ⟨P, o + i * 3, none⟩)) rfl ?_ ?_
            · intro W hSW; go_simp
            simp only [Act.put, List.setIfInBounds_toArray, List.set_cons_zero, List.set_cons_succ]
            refine tk 10 26 (.int .i64 a.n) rfl ?_ ?_
            · intro W hSW; have z := (HC.out W hSW).1; go_simp
            simp only [Act.put, List.setIfInBounds_toArray, List.set_cons_zero, List.set_cons_succ]
            refine tk 11 27 (.slice (some ⟨P, o, none⟩) N c) rfl ?_ ?_
            · intro W hSW; go_simp
            simp only [Act.put, List.setIfInBounds_toArray, List.set_cons_zero, List.set_cons_succ]
            refine tk 12 28 (.int .i64 (i : Nat)) rfl ?_ ?_
            · intro W hSW; go_simp
            simp only [Act.put, List.setIfInBounds_toArray, List.set_cons_zero, List.set_cons_succ]
            refine tk 13 29 (.int .i64 (i1 : Nat)) rfl ?_ ?_
            · intro W hSW; have h := hsub; go_simp
            simp only [Act.put, List.setIfInBounds_toArray, List.set_cons_zero, List.set_cons_succ]
            refine tk 14 30 (.pointer (some ⟨P, o + i1 * 3, none⟩)) rfl ?_ ?_
            · intro W hSW; have h1 := hlt1; go_simp
            simp only [Act.put, List.setIfInBounds_toArray, List.set_cons_zero, List.set_cons_succ]
            refine tk 15 31 (.pointer (some ⟨P, o + i1 * 3, none⟩)) rfl ?_ ?_
            · intro W hSW; go_simp
            simp only [Act.put, List.setIfInBounds_toArray, List.set_cons_zero, List.set_cons_succ]
            refine tk 16 32 (.int .i64 b.n) rfl ?_ ?_
            · intro W hSW; have z := (HC.out W hSW).2; go_simp
            simp only [Act.put, List.setIfInBounds_toArray, List.set_cons_zero, List.set_cons_succ]
            refine tk 17 33 (.bool false) rfl ?_ ?_
            · intro W hSW; go_simp
            simp only [Act.put, List.setIfInBounds_toArray, List.set_cons_zero, List.set_cons_succ]
            refine tk 18 34 (.bool false) rfl ?_ ?_
            · intro W hSW; go_simp
            simp only [Act.put, List.setIfInBounds_toArray, List.set_cons_zero, List.set_cons_succ]
            refine tk 19 35 (.bool false) rfl ?_ ?_
            · intro W hSW; go_simp
            simp only [Act.put, List.setIfInBounds_toArray, List.set_cons_zero, List.set_cons_succ]
            refine wpAnyH_done (by kernel_rfl) ?_ _
            clear hHeld
            clear hsub hgt hlt2
            go_wp2_with fail
            go_roundw
            case rel => exact ⟨i + 1, by go_num, by omega, HAd.out, fun j hj => by
              by_cases hji : j < i
              · exact HP.out j hji
              · have : j = i := by omega
                subst this
                exact ⟨by rw [← Ha.out]; exact hoka, fun _ => by rw [Hi.out, Nat.add_sub_cancel, ← Hi.out, ← Ha.out, ← Hb.out]; omega⟩⟩
            case measure => have hii := Hi.out; simp [intOf]; omega
    · have hlti : ¬ ((i : Nat) : Int) < (N : Int) := by omega
      have hv : v = true := HV.out.2 ((okL_iff 64 xs).2 (fun j hj => HP.out j (by omega)))
      subst hv
      go_wp2_with fail
      go_ret
      exact ⟨rfl, HA.out⟩
end Go.Proofs.Ytllhmidpphlbhaa.ds
