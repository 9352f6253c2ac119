import Derived.Deep.RegionHeld
import Derived.OrdersHeld
import Derived.WalkKit
import Derived.ProofKit
import Derived.Lib.TrailingZeros
import Derived.Test.YtllhmidpphlbhaaChecked
import Derived.OpenShut
import Derived.Deep.QuietTactic
import Derived.BigQuiet
import Derived.BigRegion
import Derived.Laws.CopyOwn
import Derived.Laws.Bits64b
import Derived.Laws.MathBits
import Derived.Laws.ShiftsVarLaws
import Derived.WalkSmall
import Derived.Laws.ResultCell
import Derived.Lib.BitFns
import Derived.Laws.StructEq
import Derived.ArgAppend
import Derived.Deep.RegionLaw
import Derived.Deep.DeepAppendRoom
import Derived.Sort.WalkA
import Derived.Laws.Strings
import Derived.Deep.CutBlock
import Derived.Great.BuildSlice
import Derived.Laws.AppendOwnNone
import Derived.Lib.Overlaps
import Derived.Lib.AppendZerosOnto
import Derived.Laws.NewBlocks
import Derived.Laws.Externs
import Derived.Laws.IdiomCopy
import Derived.Laws.BytesString
import Derived.Deep.CutRange
import Derived.RangeFuncNested
import Derived.RangeFuncBound
import Derived.RangeFuncCalls
import Derived.RangeFuncLeaves
import Derived.Shelf.Abstract
import Derived.Shelf.RegionOpen
import Derived.OwnWalkIn
import Derived.TacticsInMore
import Derived.LoopNIn
import Derived.LoopIn
import GoSem.Claim
import GoSem.ClaimJoined
import GoSem.ClaimMapViews
import Derived.JoinedTies
import Derived.KernelRfl
import Derived.Deep.OwnRows
import Derived.Lib.LaidTab
import Derived.JoinedCond
import Derived.ShutString
import Derived.ChangeOld
import Derived.Below
import Derived.Carry
import Derived.ChangeSlices
import Derived.Deep.Slices
import Derived.Deep.DeepHandedRow
import Derived.RowKit
import Derived.ChangeShapes
import Derived.SizedLaws
import Derived.ChangeMaps5
import Derived.Lib.Walk
import Derived.Lib.SliceRun
import Derived.Lib.AppendStr
import Derived.Lib.ConvBytes
import Derived.Deep.RegionHeld3
import Derived.Deep.MidRow
import Derived.Laws.MakeOwn
import Derived.Lib.SlBytesConst
import Derived.Test.YtllhmidpphlbhaaRows
import Derived.Test.YtllhmidpphlbhaaF10
namespace Go.Proofs.Ytllhmidpphlbhaa.ds
open Go.ChangeShapes Go.WideShapes Go.ChangeAt Go.RowKit
set_option linter.unusedVariables false
end Go.Proofs.Ytllhmidpphlbhaa.ds

namespace Go.Proofs.Ytllhmidpphlbhaa.ds
open Go.ChangeShapes Go.WideShapes Go.ChangeAt Go.RowKit Go.Sort
set_option linter.unusedVariables false
set_option linter.unusedSimpArgs false

theorem encSps_snoc : ∀ (l : List S) (x : S), encSps (l ++ [x]) = encSps l ++ encSp x
  | [], x => by simp [encSps]
  | y :: l, x => by
    show encSp y ++ encSps (l ++ [x]) = encSp y ++ encSps l ++ encSp x
    rw [encSps_snoc l x, List.append_assoc]
theorem encSps_take {xs : List S} {i : Nat} (hi : i < xs.length) : encSps (xs.take (i + 1)) = encSps (xs.take i) ++ encSp (g xs i) := by
  rw [take_g hi, encSps_snoc]
set_option maxHeartbeats 8000000 in
set_option maxRecDepth 100000 in
theorem aset_ok {wB w : World} {g : Nat} {us : List Nat} (h : PB wB w g us) {pp : Option Addr} {N c : Nat} {xs : List S} (hx : L wB pp N xs) (ho : OkL 64 xs) (hl : us.length + 105 ≤ 2048) : Calls Try.prog 90 #[.slice (some ⟨g, 0, none⟩) us.length 2048, .slice pp N c] w fun e w' => PA wB w w' g (us ++ encSt xs) e := by
  have HX0 := hid hx
  have HO := hid ho
  have hN : xs.length = N := hx.len
  have h8 := ho.le8
  have hw8 : IntKind.u8.wrap (N : Int) = (N : Int) := by rw [IntKind.wrap_u8]; omega
  obtain ⟨W1, h1, h2, h3⟩ := h.app1 N (by omega)
  have HRUN := hid h1
  have HB1 : Hid (PB wB W1 g (us ++ encN 1 N)) := by unfold Hid; rw [encN1 (by omega)]; exact h2
  have HA1 := hid h3
  have HE1 : Hid (us ++ [N] = us ++ encN 1 N) := by unfold Hid; rw [encN1 (by omega)]
  rw [HE1.out] at HRUN
  have HL1 : Hid ((us ++ encN 1 N).length + 104 ≤ 2048 ∧ N ≤ 8 ∧ xs.length = N) := ⟨by rw [List.length_append, encN_len]; omega, by omega, hN⟩
  have HES : Hid (us ++ encSt xs = (us ++ encN 1 N) ++ encSps xs) := by unfold Hid encSt; rw [hN, List.append_assoc]
  rw [HES.out]
  clear h h1 h2 h3 hx ho HE1 HES hl
  generalize us ++ encN 1 N = vs at *
  go_enter Try.func90, Try.ntmps90
  go_wp2_with (at_builtin; refine wpList_app2 rfl (.tmp 7) (.tmp 11) 28 28 rfl _ _ rfl rfl _ _ HRUN.out ?_)
  go_loopw [0, 6, 15] (fun a _ b wt => ∃ (i : Nat), a = .slice (some ⟨g, 0, none⟩) (vs ++ encSps (xs.take i)).length 2048 ∧ b = .int .i64 (i : Nat) ∧ i ≤ N ∧ PB wB wt g (vs ++ encSps (xs.take i)) ∧ Apart [g] w wt) (fun _ _ b _ => N - (intOf b).toNat)
  case atStart => exact ⟨0, by simp [encSps], rfl, Nat.zero_le _, by simpa [encSps] using HB1.out, HA1.out⟩
  case round =>
    obtain ⟨i, rfl, rfl, hi, hb, ha⟩ := hrel
    have HB2 := hid hb
    have HA2 := hid ha
    clear hb ha
    by_cases hlt : i < N
    · have hlti : ((i : Nat) : Int) < (N : Int) := by omega
      have hil : i < xs.length := by omega
      have HXr := hid (HX0.out.kept0 HB2.out.ap)
      obtain ⟨P, o, hP, hPl, hc⟩ := HXr.out.sp (by omega)
      subst hP
      obtain ⟨c0, c1, c2⟩ := hc i hil
      clear hc
      obtain ⟨x, Hx⟩ : ∃ x, Hid (x = ds.g xs i) := ⟨_, rfl⟩
      rw [← Hx.out] at c0 c1 c2
      have hox := HO.out.ok x (by rw [Hx.out]; exact g_mem hil)
      have pt : x.t < 2 ^ 64 := ok_lt hox
      obtain ⟨xn, hxn⟩ := Int.eq_ofNat_of_zero_le hox.n0
      obtain ⟨xb, hxb⟩ := Int.eq_ofNat_of_zero_le hox.b0
      have hn8 := hox.n8
      have hbM := hox.bM
      obtain ⟨xt, Hxt⟩ : ∃ xt, Hid (xt = x.t) := ⟨_, rfl⟩
      have HES : Hid ((vs ++ encSps (xs.take i)) ++ [xn] ++ encN 4 xb ++ encN 8 xt = vs ++ encSps (xs.take (i + 1))) := by
        unfold Hid
        rw [encSps_take hil, ← Hx.out]
        unfold encSp
        rw [hxn, hxb, ← Hxt.out, Int.toNat_natCast, Int.toNat_natCast, encN1 (by omega)]
        simp only [List.append_assoc]
      have HLE : Hid ((vs ++ encSps (xs.take i)).length + 13 ≤ 2048) := by
        unfold Hid
        rw [List.length_append, encSps_len, List.length_take]
        have := HL1.out
        omega
      rw [hxn] at c0
      rw [hxb] at c1
      rw [← Hxt.out] at c2
      have hwn : IntKind.u8.wrap (xn : Int) = (xn : Int) := by rw [IntKind.wrap_u8]; omega
      have hwb : IntKind.u64.wrap (xb : Int) = (xb : Int) := by rw [IntKind.wrap_u64]; omega
      have hl3 : xt < 18446744073709551616 := by rw [Hxt.out]; exact pt
      have hl2 : xb < 18446744073709551616 := by omega
      clear hxn hxb hox pt hn8 hbM
      generalize vs ++ encSps (xs.take i) = ws at *
      obtain ⟨X, HXX⟩ : ∃ X, Hid (X = wr.heap.size) := ⟨_, rfl⟩
      obtain ⟨w3, hw3⟩ : ∃ w3, w3 = wr.alloc (.cells #[.int .i64 (xn : Int), .int .i64 (xb : Int), .int .u64 (xt : Int)] 85) := ⟨_, rfl⟩
      have HX3 : Hid (w3.heap[X]? = some (.cells #[.int .i64 (xn : Int), .int .i64 (xb : Int), .int .u64 (xt : Int)] 85 (0, 0))) := by unfold Hid; rw [HXX.out, hw3]; exact heap_alloc_new wr _
      have HA3 : Hid (Apart [] wr w3) := by unfold Hid; rw [hw3]; exact (Apart.refl [] wr).alloc _
      have HB3 := hid (HB2.out.kept0 HA3.out)
      have HA3' := hid (HA2.out.trans (HA3.out.mono (by simp)))
      have HXg : Hid (X ≠ g) := by unfold Hid; have := lt_of_heap HB2.out.blk; rw [HXX.out]; omega
      go_upto_region 5 with fail
      rw [← hw3, ← HXX.out]
      clear hw3 HXX c0 c1 c2
      have HBd := hid (HB3.out.kept0 (Apart.refl [] w3).drew)
      have HAd := hid (HA3'.out.trans (((Apart.refl [] w3).drew).mono (by simp)))
      have HXd : Hid (w3.drew.heap[X]? = some (.cells #[.int .i64 (xn : Int), .int .i64 (xb : Int), .int .u64 (xt : Int)] 85 (0, 0))) := HX3.out
      refine wp_region_held_drew (S := fun W => W.heap[X]? = some (.cells #[.int .i64 (xn : Int), .int .i64 (xb : Int), .int .u64 (xt : Int)] 85 (0, 0))) (by kernel_rfl) HXd.out (fun hHeld => ?_)
      generalize w3.drew = wd at *
      refine tk 0 19 (.slice (some ⟨g, 0, none⟩) ws.length 2048) rfl ?_ ?_
      · intro W hSW; go_simp
      simp only [Act.put, List.setIfInBounds_toArray, List.set_cons_zero, List.set_cons_succ]
      refine tk 1 20 (.pointer (some ⟨X, 0, none⟩)) rfl ?_ ?_
      · intro W hSW; go_simp
      simp only [Act.put, List.setIfInBounds_toArray, List.set_cons_zero, List.set_cons_succ]
      refine tk 2 21 (.int .i64 (xn : Int)) rfl ?_ ?_
      · intro W hSW; obtain ⟨x0, x1, x2⟩ := row3v hSW; go_simp
      simp only [Act.put, List.setIfInBounds_toArray, List.set_cons_zero, List.set_cons_succ]
      refine tk 3 22 (.int .u8 (xn : Int)) rfl ?_ ?_
      · intro W hSW; go_simp
      simp only [Act.put, List.setIfInBounds_toArray, List.set_cons_zero, List.set_cons_succ]
      refine tk 6 25 (.pointer (some ⟨X, 1, none⟩)) rfl ?_ ?_
      · intro W hSW; go_simp
      simp only [Act.put, List.setIfInBounds_toArray, List.set_cons_zero, List.set_cons_succ]
      refine tk 7 26 (.int .i64 (xb : Int)) rfl ?_ ?_
      · intro W hSW; obtain ⟨x0, x1, x2⟩ := row3v hSW; go_simp
      simp only [Act.put, List.setIfInBounds_toArray, List.set_cons_zero, List.set_cons_succ]
      refine tk 8 27 (.int .u64 (xb : Int)) rfl ?_ ?_
      · intro W hSW; go_simp
      simp only [Act.put, List.setIfInBounds_toArray, List.set_cons_zero, List.set_cons_succ]
      refine wpAnyH_ready (rs := [4]) (by kernel_rfl) (by simp) ?_
      refine AllReadyH.cons rfl (fun KK hKK => ?_) AllReadyH.nil
      go_simp
      have hX5 : (wd.alloc (.cells #[.int .u8 (xn : Int)] 5)).heap[X]? = some (.cells #[.int .i64 (xn : Int), .int .i64 (xb : Int), .int .u64 (xt : Int)] 85 (0, 0)) := keep0 ((Apart.refl [] wd).alloc _) HXd.out
      refine hKK.out _ _ hX5 (fun hHeld => ?_)
      clear hKK KK
      try simp only [Act.put, List.setIfInBounds_toArray, List.set_cons_zero, List.set_cons_succ]
      obtain ⟨W4, h4, h5, h6⟩ := HBd.out.app1 xn (by have := HLE.out; omega)
      have HR4 := hid h4
      have HB4 := hid h5
      have HA4 := hid h6
      clear h4 h5 h6
      refine wpAnyH_ready (rs := [5]) (by kernel_rfl) (by simp) ?_
      refine AllReadyH.cons rfl (fun KK hKK => ?_) AllReadyH.nil
      refine step_app2 rfl (.tmp 19) (.tmp 23) 28 28 rfl _ _ rfl rfl _ _ HR4.out ?_
      have HX4 := hid (keepB HA4.out HXd.out HXg.out)
      refine hKK.out _ _ HX4.out (fun hHeld => ?_)
      clear hKK KK
      try simp only [Act.put, List.setIfInBounds_toArray, List.set_cons_zero, List.set_cons_succ]
      refine wpAnyH_ready (rs := [9]) (by kernel_rfl) (by simp) ?_
      refine AllReadyH.cons rfl (fun KK hKK => ?_) AllReadyH.nil
      go_simp
      have hcall := anum_ok HB4.out xb 4 hl2 (by rw [List.length_append]; simp; have := HLE.out; omega)
      rw [List.length_append] at hcall
      refine hcall.mono ?_
      rintro _ w5 ⟨rfl, hb5, ha5⟩
      have HB5 := hid hb5
      have HA5 := hid ((HA2.out.trans ((HA3.out.mono (by simp)).trans (Apart.refl _ _))).trans (Apart.refl _ _))
      have HX5 := hid (keepB ha5 HX4.out HXg.out)
      have HA5 := hid ((HAd.out.trans HA4.out).trans ha5)
      clear hb5 ha5 hcall
      dsimp only
      refine hKK.out _ _ HX5.out (fun hHeld => ?_)
      clear hKK KK
      have HL5 : Hid ((ws ++ [xn] ++ encN 4 xb).length + 8 ≤ 2048) := by unfold Hid; simp only [List.length_append, encN_len, List.length_singleton]; have := HLE.out; omega
      generalize ws ++ [xn] ++ encN 4 xb = ws5 at *
      refine tk 10 0 (.slice (some ⟨g, 0, none⟩) ws5.length 2048) rfl ?_ ?_
      · intro W hSW; go_simp
      simp only [Act.put, List.setIfInBounds_toArray, List.set_cons_zero, List.set_cons_succ]
      refine wpAnyH_done (by kernel_rfl) ?_ _
      clear hHeld
      obtain ⟨x0, x1, x2⟩ := row3v HX5.out
      go_wp2_with fail
      clear x0 x1 x2
      refine (anum_ok HB5.out xt 8 hl3 HL5.out).mono ?_
      rintro _ w6 ⟨rfl, hb6, ha6⟩
      have HB6 := hid hb6
      have HA6 := hid (HA5.out.trans ha6)
      clear hb6 ha6
      rw [HES.out] at HB6 ⊢
      obtain ⟨ws6, Hws6⟩ : ∃ ws6, Hid (ws6 = vs ++ encSps (xs.take (i + 1))) := ⟨_, rfl⟩
      rw [← Hws6.out] at HB6 ⊢
      dsimp only
      go_wp2_with fail
      go_roundw
      case rel => exact ⟨i + 1, by rw [Hws6.out], by go_num, by omega, by rw [← Hws6.out]; exact HB6.out, HA6.out⟩
      case measure => simp [intOf]; omega
    · have hlti : ¬ ((i : Nat) : Int) < (N : Int) := by omega
      have hiN : xs.take i = xs := List.take_of_length_le (by omega)
      rw [hiN] at HB2 ⊢
      obtain ⟨ws, Hws⟩ : ∃ ws, Hid (ws = vs ++ encSps xs) := ⟨_, rfl⟩
      rw [← Hws.out] at HB2 ⊢
      go_wp2_with fail
      go_ret
      rw [← Hws.out]
      exact ⟨rfl, HB2.out, HA2.out⟩
end Go.Proofs.Ytllhmidpphlbhaa.ds
namespace Go.Proofs.Ytllhmidpphlbhaa.ds
open Go.ChangeShapes Go.WideShapes Go.ChangeAt Go.RowKit Go.Sort
set_option linter.unusedVariables false
set_option linter.unusedSimpArgs false

theorem row6v {w : World} {gg : Nat} {t : TypeId} {a b c d e f : Value} (h : w.heap[gg]? = some (.cells #[a, b, c, d, e, f] t (0, 0))) : w.cell? ⟨gg, 0, none⟩ = some a ∧ w.cell? ⟨gg, 1, none⟩ = some b ∧ w.cell? ⟨gg, 2, none⟩ = some c ∧ w.cell? ⟨gg, 3, none⟩ = some d ∧ w.cell? ⟨gg, 4, none⟩ = some e ∧ w.cell? ⟨gg, 5, none⟩ = some f := by
  refine ⟨?_, ?_, ?_, ?_, ?_, ?_⟩ <;> (rw [cell_of_row _ _ _ _ _ _ h]; rfl)
set_option maxHeartbeats 8000000 in
set_option maxRecDepth 100000 in
theorem awrite_ok {wB w : World} {g : Nat} {us : List Nat} (h : PB wB w g us) (e : E) (r : Wr) (hr : Reads wB e r) (hs : Stor r) (hl : us.length + 176 ≤ 2048) : Calls Try.prog 67 #[.slice (some ⟨g, 0, none⟩) us.length 2048, .agg #[.int .i64 e.n, .int .i64 e.c, .string e.k, .bool e.d, .slice e.v.p e.v.n e.v.c, .slice e.x.p e.x.n e.x.c]] w fun e w' => PA wB w w' g (us ++ encPw (cwOf r)) e := by
  obtain ⟨rn, rc, rk, rd, rvs, rxs⟩ := r
  obtain ⟨n0, c0, k, d, v, x⟩ := e
  have e1 : n0 = rn := hr.n
  have e2 : c0 = rc := hr.c
  have e4 : d = rd := hr.d
  subst e1 e2 e4
  have HV := hid hr.v
  have HVN : Hid (rvs.length = v.n) := by have := hr; exact this.6
  have HXL : Hid (L wB x.p x.n rxs) := hr.x
  have HVO : Hid v.ok := by have := hr; exact this.11
  have hsn := hs.n
  have hsc := hs.c
  dsimp only at hsn hsc
  obtain ⟨n, hn⟩ := Int.eq_ofNat_of_zero_le hsn.1
  obtain ⟨cc, hcc⟩ := Int.eq_ofNat_of_zero_le (show 0 ≤ c0 by omega)
  subst hn hcc
  have hv64 : rvs.length ≤ 64 := Nat.le_trans hs.v (mostV_le _)
  have HOX : Hid (OkL 64 rxs) := hs.x
  obtain ⟨db, Hdb⟩ : ∃ db : Nat, Hid (db = if d = true then 1 else 0) := ⟨_, rfl⟩
  have HDB : Hid ((if d = true then 1 else 0 : Int) = (db : Int)) := by unfold Hid; rw [Hdb.out]; split <;> rfl
  have HE : Hid (us ++ encPw (cwOf ⟨(n : Nat), (cc : Nat), rk, d, rvs, rxs⟩) = us ++ [n] ++ encN 4 cc ++ [db] ++ (encN 1 rvs.length ++ rvs) ++ encSt rxs) := by
    unfold Hid encPw cwOf
    dsimp only
    rw [Int.toNat_natCast, Int.toNat_natCast, encN1 (by omega), ← Hdb.out, encN1 (show db < 256 by rw [Hdb.out]; split <;> omega)]
    simp only [List.append_assoc]
  rw [HE.out]
  have hwn : IntKind.u8.wrap (n : Int) = (n : Int) := by rw [IntKind.wrap_u8]; omega
  have hwc : IntKind.u64.wrap (cc : Int) = (cc : Int) := by rw [IntKind.wrap_u64]; omega
  have hc64 : cc < 18446744073709551616 := by omega
  have HB := hid h
  have HL := hid hl
  obtain ⟨X, HXX⟩ : ∃ X, Hid (X = w.heap.size) := ⟨_, rfl⟩
  obtain ⟨w3, hw3⟩ : ∃ w3, w3 = w.alloc (.cells #[.int .i64 (n : Int), .int .i64 (cc : Int), .string k, .bool d, .slice v.p v.n v.c, .slice x.p x.n x.c] 50) := ⟨_, rfl⟩
  have HX3 : Hid (w3.heap[X]? = some (.cells #[.int .i64 (n : Int), .int .i64 (cc : Int), .string k, .bool d, .slice v.p v.n v.c, .slice x.p x.n x.c] 50 (0, 0))) := by unfold Hid; rw [HXX.out, hw3]; exact heap_alloc_new w _
  have HA3 : Hid (Apart [] w w3) := by unfold Hid; rw [hw3]; exact (Apart.refl [] w).alloc _
  have HB3 := hid (HB.out.kept0 HA3.out)
  have HA3' : Hid (Apart [g] w w3) := HA3.out.mono (by simp)
  have HXg : Hid (X ≠ g) := by unfold Hid; have := lt_of_heap HB.out.blk; rw [HXX.out]; omega
  clear h hr hs hl hsn hsc HE HB HA3
  go_enter Try.func67, Try.ntmps67
  go_upto_region 1 with fail
  rw [← hw3, ← HXX.out]
  clear hw3 HXX
  have HBd := hid (HB3.out.kept0 (Apart.refl [] w3).drew)
  have HAd := hid (HA3'.out.trans (((Apart.refl [] w3).drew).mono (by simp)))
  have HXd : Hid (w3.drew.heap[X]? = some (.cells #[.int .i64 (n : Int), .int .i64 (cc : Int), .string k, .bool d, .slice v.p v.n v.c, .slice x.p x.n x.c] 50 (0, 0))) := HX3.out
  refine wp_region_held_drew (S := fun W => W.heap[X]? = some (.cells #[.int .i64 (n : Int), .int .i64 (cc : Int), .string k, .bool d, .slice v.p v.n v.c, .slice x.p x.n x.c] 50 (0, 0))) (by kernel_rfl) HXd.out (fun hHeld => ?_)
  generalize w3.drew = wd at *
  refine tk 0 5 (.slice (some ⟨g, 0, none⟩) us.length 2048) rfl ?_ ?_
  · intro W hSW; go_simp
  simp only [Act.put, List.setIfInBounds_toArray, List.set_cons_zero, List.set_cons_succ]
  refine tk 1 6 (.pointer (some ⟨X, 0, none⟩)) rfl ?_ ?_
  · intro W hSW; go_simp
  simp only [Act.put, List.setIfInBounds_toArray, List.set_cons_zero, List.set_cons_succ]
  refine tk 2 7 (.pointer (some ⟨X, 0, none⟩)) rfl ?_ ?_
  · intro W hSW; go_simp
  simp only [Act.put, List.setIfInBounds_toArray, List.set_cons_zero, List.set_cons_succ]
  refine tk 3 8 (.int .i64 (n : Int)) rfl ?_ ?_
  · intro W hSW; obtain ⟨x0, x1, x2, x3, x4, x5⟩ := row6v hSW; go_simp
  simp only [Act.put, List.setIfInBounds_toArray, List.set_cons_zero, List.set_cons_succ]
  refine tk 4 9 (.int .u8 (n : Int)) rfl ?_ ?_
  · intro W hSW; go_simp
  simp only [Act.put, List.setIfInBounds_toArray, List.set_cons_zero, List.set_cons_succ]
  refine tk 7 12 (.pointer (some ⟨X, 0, none⟩)) rfl ?_ ?_
  · intro W hSW; go_simp
  simp only [Act.put, List.setIfInBounds_toArray, List.set_cons_zero, List.set_cons_succ]
  refine tk 8 13 (.pointer (some ⟨X, 1, none⟩)) rfl ?_ ?_
  · intro W hSW; go_simp
  simp only [Act.put, List.setIfInBounds_toArray, List.set_cons_zero, List.set_cons_succ]
  refine tk 9 14 (.int .i64 (cc : Int)) rfl ?_ ?_
  · intro W hSW; obtain ⟨x0, x1, x2, x3, x4, x5⟩ := row6v hSW; go_simp
  simp only [Act.put, List.setIfInBounds_toArray, List.set_cons_zero, List.set_cons_succ]
  refine tk 10 15 (.int .u64 (cc : Int)) rfl ?_ ?_
  · intro W hSW; go_simp
  simp only [Act.put, List.setIfInBounds_toArray, List.set_cons_zero, List.set_cons_succ]
  refine wpAnyH_ready (rs := [5]) (by kernel_rfl) (by simp) ?_
  refine AllReadyH.cons rfl (fun KK hKK => ?_) AllReadyH.nil
  go_simp
  refine hKK.out _ _ (keep0 ((Apart.refl [] wd).alloc _) HXd.out) (fun hHeld => ?_)
  clear hKK KK
  try simp only [Act.put, List.setIfInBounds_toArray, List.set_cons_zero, List.set_cons_succ]
  obtain ⟨W4, h4, h5, h6⟩ := HBd.out.app1 n (by have := HL.out; omega)
  have HR4 := hid h4
  have HB4 := hid h5
  have HA4 := hid h6
  clear h4 h5 h6
  refine wpAnyH_ready (rs := [6]) (by kernel_rfl) (by simp) ?_
  refine AllReadyH.cons rfl (fun KK hKK => ?_) AllReadyH.nil
  refine step_app2 rfl (.tmp 5) (.tmp 10) 28 28 rfl _ _ rfl rfl _ _ HR4.out ?_
  have HX4 := hid (keepB HA4.out HXd.out HXg.out)
  refine hKK.out _ _ HX4.out (fun hHeld => ?_)
  clear hKK KK
  try simp only [Act.put, List.setIfInBounds_toArray, List.set_cons_zero, List.set_cons_succ]
  refine wpAnyH_ready (rs := [11]) (by kernel_rfl) (by simp) ?_
  refine AllReadyH.cons rfl (fun KK hKK => ?_) AllReadyH.nil
  go_simp
  have hcall := anum_ok HB4.out cc 4 hc64 (by rw [List.length_append]; simp; have := HL.out; omega)
  rw [List.length_append] at hcall
  refine hcall.mono ?_
  rintro _ w5 ⟨rfl, hb5, ha5⟩
  have HB5 := hid hb5
  have HX5 := hid (keepB ha5 HX4.out HXg.out)
  have HA5 := hid ((HAd.out.trans HA4.out).trans ha5)
  clear hb5 ha5 hcall
  dsimp only
  refine hKK.out _ _ HX5.out (fun hHeld => ?_)
  clear hKK KK
  have HL5 : Hid ((us ++ [n] ++ encN 4 cc).length = us.length + 5) := by unfold Hid; simp only [List.length_append, encN_len, List.length_singleton]
  generalize hws5 : us ++ [n] ++ encN 4 cc = ws5 at *
  have Hws5 := hid hws5
  clear hws5
  refine tk 12 0 (.slice (some ⟨g, 0, none⟩) ws5.length 2048) rfl ?_ ?_
  · intro W hSW; go_simp
  simp only [Act.put, List.setIfInBounds_toArray, List.set_cons_zero, List.set_cons_succ]
  refine wpAnyH_done (by kernel_rfl) ?_ _
  clear hHeld
  obtain ⟨x0, x1, x2, x3, x4, x5⟩ := row6v HX5.out
  go_wp2_with fail
  clear x0 x1 x2 x3 x4 x5
  refine (deadByte_ok w5 d).mono ?_
  rintro _ wq ⟨rfl, hwq⟩
  rw [hwq]
  clear hwq wq
  dsimp only
  rw [HDB.out]
  obtain ⟨W6, h4, h5, h6⟩ := HB5.out.app1 db (by have := HL.out; have := HL5.out; omega)
  have HR6 := hid h4
  have HB6 := hid h5
  have HX6 := hid (keepB h6 HX5.out HXg.out)
  have HA6 := hid (HA5.out.trans h6)
  clear h4 h5 h6
  have HL6 : Hid ((ws5 ++ [db]).length = us.length + 6) := by unfold Hid; rw [List.length_append, HL5.out]; rfl
  generalize hws6 : ws5 ++ [db] = ws6 at *
  have Hws6 := hid hws6
  clear hws6
  go_upto_region 3 with (at_builtin; refine wpList_app2 rfl (.tmp 17) (.tmp 21) 28 28 rfl _ _ rfl rfl _ _ HR6.out ?_)
  have HBd2 := hid (HB6.out.kept0 (Apart.refl [] W6).drew)
  have HAd2 := hid (HA6.out.trans (((Apart.refl [] W6).drew).mono (by simp)))
  have HXd2 : Hid (W6.drew.heap[X]? = some (.cells #[.int .i64 (n : Int), .int .i64 (cc : Int), .string k, .bool d, .slice v.p v.n v.c, .slice x.p x.n x.c] 50 (0, 0))) := HX6.out
  refine wp_region_held_drew (S := fun W => W.heap[X]? = some (.cells #[.int .i64 (n : Int), .int .i64 (cc : Int), .string k, .bool d, .slice v.p v.n v.c, .slice x.p x.n x.c] 50 (0, 0))) (by kernel_rfl) HXd2.out (fun hHeld => ?_)
  generalize W6.drew = we at *
  refine tk 0 23 (.slice (some ⟨g, 0, none⟩) ws6.length 2048) rfl ?_ ?_
  · intro W hSW; go_simp
  simp only [Act.put, List.setIfInBounds_toArray, List.set_cons_zero, List.set_cons_succ]
  refine tk 1 24 (.pointer (some ⟨X, 4, none⟩)) rfl ?_ ?_
  · intro W hSW; go_simp
  simp only [Act.put, List.setIfInBounds_toArray, List.set_cons_zero, List.set_cons_succ]
  refine tk 2 25 (.slice v.p v.n v.c) rfl ?_ ?_
  · intro W hSW; obtain ⟨x0, x1, x2, x3, x4, x5⟩ := row6v hSW; go_simp
  simp only [Act.put, List.setIfInBounds_toArray, List.set_cons_zero, List.set_cons_succ]
  refine tk 4 27 (.pointer (some ⟨X, 5, none⟩)) rfl ?_ ?_
  · intro W hSW; go_simp
  simp only [Act.put, List.setIfInBounds_toArray, List.set_cons_zero, List.set_cons_succ]
  refine tk 5 28 (.slice x.p x.n x.c) rfl ?_ ?_
  · intro W hSW; obtain ⟨x0, x1, x2, x3, x4, x5⟩ := row6v hSW; go_simp
  simp only [Act.put, List.setIfInBounds_toArray, List.set_cons_zero, List.set_cons_succ]
  refine wpAnyH_ready (rs := [3]) (by kernel_rfl) (by simp) ?_
  refine AllReadyH.cons rfl (fun KK hKK => ?_) AllReadyH.nil
  go_simp
  refine (atextB_ok HBd2.out v rvs HV.out HVN.out HVO.out (by omega) (by have := HL.out; have := HL6.out; omega)).mono ?_
  rintro _ w7 ⟨rfl, hb7, ha7⟩
  have HB7 := hid hb7
  have HX7 := hid (keepB ha7 HXd2.out HXg.out)
  have HA7 := hid (HAd2.out.trans ha7)
  clear hb7 ha7
  dsimp only
  refine hKK.out _ _ HX7.out (fun hHeld => ?_)
  clear hKK KK
  try simp only [Act.put, List.setIfInBounds_toArray, List.set_cons_zero, List.set_cons_succ]
  have HL7 : Hid ((ws6 ++ (encN 1 rvs.length ++ rvs)).length ≤ us.length + 71) := by unfold Hid; rw [List.length_append, HL6.out, List.length_append, encN_len]; omega
  generalize hws7 : ws6 ++ (encN 1 rvs.length ++ rvs) = ws7 at *
  have Hws7 := hid hws7
  clear hws7
  refine wpAnyH_ready (rs := [6]) (by kernel_rfl) (by simp) ?_
  refine AllReadyH.cons rfl (fun KK hKK => ?_) AllReadyH.nil
  go_simp
  refine (aset_ok (c := x.c) HB7.out HXL.out HOX.out (by have := HL.out; have := HL7.out; omega)).mono ?_
  rintro _ w8 ⟨rfl, hb8, ha8⟩
  have HB8 := hid hb8
  have HX8 := hid (keepB ha8 HX7.out HXg.out)
  have HA8 := hid (HA7.out.trans ha8)
  clear hb8 ha8
  dsimp only
  refine hKK.out _ _ HX8.out (fun hHeld => ?_)
  clear hKK KK
  generalize hws8 : ws7 ++ encSt rxs = ws8 at *
  have Hws8 := hid hws8
  clear hws8
  refine tk 7 4 (.slice (some ⟨g, 0, none⟩) ws8.length 2048) rfl ?_ ?_
  · intro W hSW; go_simp
  simp only [Act.put, List.setIfInBounds_toArray, List.set_cons_zero, List.set_cons_succ]
  refine wpAnyH_done (by kernel_rfl) ?_ _
  clear hHeld
  go_wp2_with fail
  go_ret
  rw [Hws5.out, Hws6.out, Hws7.out, Hws8.out]
  exact ⟨rfl, HB8.out, HA8.out⟩
end Go.Proofs.Ytllhmidpphlbhaa.ds
