import Derived.Test.YtdbeeikjngnnnaaGreatChecked
import Derived.WalkKit
import Derived.ProofKit
import Derived.OpenShut
import Derived.Deep.QuietTactic
import Derived.BigQuiet
import Derived.BigRegion
import Derived.Laws.CopyOwn
import Derived.Laws.IdiomCopy
import Derived.WalkSmall
import Derived.Laws.ResultCell
import Derived.Laws.AppendOwnNone
import Derived.Deep.RegionHeld
import Derived.Deep.DeepAppendRoom
import Derived.Great.BuildSlice
import Derived.Deep.CutBlock
import Derived.Deep.RegionLaw
import Derived.ArgAppend
import Derived.Laws.Strings
import Derived.Laws.StructEq
import Derived.Below
import Derived.Deep.MidRow
import Derived.Great.Ranges
import Derived.Deep.RegionHeld3
import Derived.Laws.NewBlocks
import Derived.OrdersHeld
import Derived.Stop.BytesEq
import Derived.Laws.BytesString
import Derived.Lib.ConvBytes
import Derived.Laws.BitsAllLaws
import Derived.WalkLawsBesides
import Derived.Lib.Bytealg
import Derived.Laws.Externs
import Derived.Lib.SliceRun
import Derived.Lib.AppendZerosOnto
import Derived.Lib.AppendStr
import Derived.Lib.SlBytesConst
import Derived.Sort.Walk0
import Derived.Laws.Cover1
import Derived.Lib.Strings
import Derived.Lib.MinMaxS
import GoSem.Claim
import GoSem.ClaimJoined
import GoSem.ClaimMapViews
import Derived.JoinedTies
import Derived.KernelRfl
import Derived.JoinedCond
import Derived.ShutString
import Derived.ChangeOld
import Derived.Carry
import Derived.ChangeSlices
import Derived.Deep.Slices
import Derived.Deep.DeepHandedRow
import Derived.RowKit
import Derived.ChangeShapes
import Derived.SizedLaws
import Derived.ChangeMaps5
import Derived.Sort.WalkA
import Derived.Test.YtdbeeikjngnnnaaGreatRows
import Derived.Test.YtdbeeikjngnnnaaGreatD20
import Derived.Test.YtdbeeikjngnnnaaGreatD21
namespace Go.Proofs.YtdbeeikjngnnnaaGreat.ty
open Go.ChangeShapes Go.WideShapes Go.ChangeAt Go.RowKit
set_option linter.unusedVariables false
set_option linter.unusedSimpArgs false
/-- are the bytes a value's of the type? -/
def rdOk (k : Nat) (bs : List Nat) : Bool := rightV (readV k bs) && decide (formV (readV k bs) = bs)
theorem Rdy.any {k j : Nat} {w : World} {sl : Sl} {bs : List Nat} (h : Rdy k w sl bs) : Rdy j w sl bs := ⟨h.rd, h.len, h.ok, h.cap, h.u8, h.le⟩
theorem Read_ok {w : World} {sl : Sl} {bs : List Nat} (k : Nat) (h1 : 1 ≤ k) (h4 : k ≤ 4) (h : Rdy k w sl bs) (hr : rdOk k bs = true) : Calls Tryz.prog 45 #[.int .i64 (k : Int), .slice sl.p sl.n sl.c] w fun r w' => ∃ V, r = .returned (.tuple #[.pointer (some ⟨V, 0, none⟩), .int .i64 0]) ∧ w.heap.size ≤ V ∧ Ho w' V (readV k bs) ∧ Apart [] w w' := by
  unfold rdOk at hr
  simp only [Bool.and_eq_true, decide_eq_true_eq] at hr
  obtain rfl | rfl | rfl | rfl : k = 1 ∨ k = 2 ∨ k = 3 ∨ k = 4 := by omega
  · exact Read1_yes h hr.1 hr.2
  · exact Read2_yes h hr.1 hr.2
  · exact Read3_yes h hr.1 hr.2
  · exact Read4_yes h hr.1 hr.2
theorem Read_bad {w : World} {sl : Sl} {bs : List Nat} (k : Nat) (h1 : 1 ≤ k) (h4 : k ≤ 4) (h : Rdy k w sl bs) (hr : rdOk k bs = false) : Calls Tryz.prog 45 #[.int .i64 (k : Int), .slice sl.p sl.n sl.c] w fun r w' => r = .returned (.tuple #[.pointer none, .int .i64 190]) ∧ Apart [] w w' := by
  unfold rdOk at hr
  cases hb : rightV (readV k bs)
  · obtain rfl | rfl | rfl | rfl : k = 1 ∨ k = 2 ∨ k = 3 ∨ k = 4 := by omega
    · exact Read1_bad h hb
    · exact Read2_bad h hb
    · exact Read3_bad h hb
    · exact Read4_bad h hb
  · rw [hb] at hr
    have he : formV (readV k bs) ≠ bs := by simpa using hr
    obtain rfl | rfl | rfl | rfl : k = 1 ∨ k = 2 ∨ k = 3 ∨ k = 4 := by omega
    · exact Read1_ne h hb he
    · exact Read2_ne h hb he
    · exact Read3_ne h hb he
    · exact Read4_ne h hb he
set_option maxRecDepth 100000 in
theorem Read_long {w : World} (k : Nat) (h1 : 1 ≤ k) (h4 : k ≤ 4) (p : Option Addr) (n c : Nat) (hn : ((n : Nat) : Int) > 64) : Calls Tryz.prog 45 #[.int .i64 (k : Int), .slice p n c] w fun r w' => r = .returned (.tuple #[.pointer none, .int .i64 2]) ∧ w' = w := by
  have HB := hid (blank_ok w k h1 h4)
  have hz := fun wx => zb_ne k wx
  have hg := fun x y wx => zb_gd k x y wx
  clear h1 h4
  go_enter Tryz.func45, Tryz.ntmps45
  go_wp2_with (go_at_call 33; refine HB.out.mono ?_; rintro _ _ ⟨rfl, rfl⟩)
  go_wp2_with fail
  go_ret2
  exact ⟨rfl, rfl⟩
/-- its form can be told -/
def OkF (v : Vl) : Prop := match v with
  | Sum.inl (u, d) => Wd u ∧ Wd d
  | Sum.inr (Sum.inl (c, es)) => c.length = 8 ∧ es.length ≤ 500 ∧ ∀ x ∈ es, x.e.size ≤ 1000
  | Sum.inr (Sum.inr (Sum.inl (c, g))) => c.length = 8 ∧ g.length = 8
  | Sum.inr (Sum.inr (Sum.inr (s, a, t))) => 0 ≤ s ∧ 0 ≤ a ∧ t.size ≤ 1000
set_option maxRecDepth 100000 in
theorem Bytes1_p {w : World} {V : Nat} {cs : Array Value} {bs : List Nat} (hV : Bd w V (.iface 101 (.agg cs))) (hc : Calls Tryz.prog 102 #[.agg cs] w fun r w' => ∃ s, r = .returned (.slice s.p s.n s.c) ∧ Bf w w' s bs) (hl : bs.length ≤ 64) : Calls Tryz.prog 17 #[.pointer (some ⟨V, 0, none⟩)] w fun r w' => ∃ s, r = .returned (.tuple #[.slice s.p s.n s.c, .int .i64 0]) ∧ Bf w w' s bs := by
  have z : w.cell? ⟨V, 0, none⟩ = some (.iface 101 (.agg cs)) := by rw [cell_of_row _ _ _ _ _ _ hV]; rfl
  have hm := fun wx => mr_form1 cs wx
  have HC := hid hc
  have Hl := hid hl
  clear hV hc hl
  go_enter Tryz.func17, Tryz.ntmps17
  go_upto_region 2 with (go_at_call 102; refine HC.out.mono ?_; rintro _ w1 ⟨s, rfl, b1⟩; have HB := hid b1; clear b1)
  have hn : ¬ ((s.n : Nat) : Int) > 64 := by have h1 := HB.out.len; have h2 := Hl.out; omega
  go_wp2_with fail
  go_ret2
  exact ⟨s, rfl, HB.out⟩
set_option maxRecDepth 100000 in
theorem Bytes2_p {w : World} {V : Nat} {cs : Array Value} {bs : List Nat} (hV : Bd w V (.iface 104 (.agg cs))) (hc : Calls Tryz.prog 113 #[.agg cs] w fun r w' => ∃ s, r = .returned (.slice s.p s.n s.c) ∧ Bf w w' s bs) (hl : bs.length ≤ 64) : Calls Tryz.prog 17 #[.pointer (some ⟨V, 0, none⟩)] w fun r w' => ∃ s, r = .returned (.tuple #[.slice s.p s.n s.c, .int .i64 0]) ∧ Bf w w' s bs := by
  have z : w.cell? ⟨V, 0, none⟩ = some (.iface 104 (.agg cs)) := by rw [cell_of_row _ _ _ _ _ _ hV]; rfl
  have hm := fun wx => mr_form2 cs wx
  have HC := hid hc
  have Hl := hid hl
  clear hV hc hl
  go_enter Tryz.func17, Tryz.ntmps17
  go_upto_region 2 with (go_at_call 113; refine HC.out.mono ?_; rintro _ w1 ⟨s, rfl, b1⟩; have HB := hid b1; clear b1)
  have hn : ¬ ((s.n : Nat) : Int) > 64 := by have h1 := HB.out.len; have h2 := Hl.out; omega
  go_wp2_with fail
  go_ret2
  exact ⟨s, rfl, HB.out⟩
set_option maxRecDepth 100000 in
theorem Bytes3_p {w : World} {V : Nat} {cs : Array Value} {bs : List Nat} (hV : Bd w V (.iface 106 (.agg cs))) (hc : Calls Tryz.prog 128 #[.agg cs] w fun r w' => ∃ s, r = .returned (.slice s.p s.n s.c) ∧ Bf w w' s bs) (hl : bs.length ≤ 64) : Calls Tryz.prog 17 #[.pointer (some ⟨V, 0, none⟩)] w fun r w' => ∃ s, r = .returned (.tuple #[.slice s.p s.n s.c, .int .i64 0]) ∧ Bf w w' s bs := by
  have z : w.cell? ⟨V, 0, none⟩ = some (.iface 106 (.agg cs)) := by rw [cell_of_row _ _ _ _ _ _ hV]; rfl
  have hm := fun wx => mr_form3 cs wx
  have HC := hid hc
  have Hl := hid hl
  clear hV hc hl
  go_enter Tryz.func17, Tryz.ntmps17
  go_upto_region 2 with (go_at_call 128; refine HC.out.mono ?_; rintro _ w1 ⟨s, rfl, b1⟩; have HB := hid b1; clear b1)
  have hn : ¬ ((s.n : Nat) : Int) > 64 := by have h1 := HB.out.len; have h2 := Hl.out; omega
  go_wp2_with fail
  go_ret2
  exact ⟨s, rfl, HB.out⟩
set_option maxRecDepth 100000 in
theorem Bytes4_p {w : World} {V : Nat} {cs : Array Value} {bs : List Nat} (hV : Bd w V (.iface 108 (.agg cs))) (hc : Calls Tryz.prog 133 #[.agg cs] w fun r w' => ∃ s, r = .returned (.slice s.p s.n s.c) ∧ Bf w w' s bs) (hl : bs.length ≤ 64) : Calls Tryz.prog 17 #[.pointer (some ⟨V, 0, none⟩)] w fun r w' => ∃ s, r = .returned (.tuple #[.slice s.p s.n s.c, .int .i64 0]) ∧ Bf w w' s bs := by
  have z : w.cell? ⟨V, 0, none⟩ = some (.iface 108 (.agg cs)) := by rw [cell_of_row _ _ _ _ _ _ hV]; rfl
  have hm := fun wx => mr_form4 cs wx
  have HC := hid hc
  have Hl := hid hl
  clear hV hc hl
  go_enter Tryz.func17, Tryz.ntmps17
  go_upto_region 2 with (go_at_call 133; refine HC.out.mono ?_; rintro _ w1 ⟨s, rfl, b1⟩; have HB := hid b1; clear b1)
  have hn : ¬ ((s.n : Nat) : Int) > 64 := by have h1 := HB.out.len; have h2 := Hl.out; omega
  go_wp2_with fail
  go_ret2
  exact ⟨s, rfl, HB.out⟩
theorem Bytes_v {w : World} {V : Nat} {v : Vl} (hV : Ho w V v) (ok : OkF v) (hl : (formV v).length ≤ 64) : Calls Tryz.prog 17 #[.pointer (some ⟨V, 0, none⟩)] w fun r w' => ∃ s, r = .returned (.tuple #[.slice s.p s.n s.c, .int .i64 0]) ∧ Bf w w' s (formV v) := by
  cases v using Vl.el with
  | cnt u d => exact Bytes1_p hV (cform_ok ok.1 ok.2) hl
  | set c es =>
    obtain ⟨s, h1, h2⟩ := hV
    exact Bytes2_p h1 (sform_ok ok.1 h2 ok.2.1 ok.2.2) hl
  | flg c g => exact Bytes3_p hV (fform_ok ok.1 ok.2) hl
  | rgs s a t =>
    obtain ⟨n, rfl⟩ := Int.eq_ofNat_of_zero_le ok.1
    obtain ⟨b, rfl⟩ := Int.eq_ofNat_of_zero_le ok.2.1
    exact Bytes4_p hV (gform_ok ok.2.2) hl
theorem readV_okF {k : Nat} (h1 : 1 ≤ k) (h4 : k ≤ 4) {bs : List Nat} (h8 : U8 bs) (hl : bs.length ≤ 64) : OkF (readV k bs) := by
  obtain rfl | rfl | rfl | rfl : k = 1 ∨ k = 2 ∨ k = 3 ∨ k = 4 := by omega
  · have hb := rowR_bd (h8.drop 1) 6
    exact cu_wd hb.1 hb.2.1
  · have hb := rowR_bd (h8.drop 1) 2
    have hs := esI_bd (hb.2.2.drop 1) (leV ((rowR (bs.drop 1) 2).2.take 1))
    have hn := leV1 hb.2.2
    have hl1 := rowR_left (bs.drop 1) 2
    rw [List.length_drop] at hl1
    refine ⟨hb.1, by rw [esI_len]; omega, fun x hx => ?_⟩
    have h1 := (hs.1 x hx).1
    rw [List.length_drop] at h1
    omega
  · have hb := rowR_bd (h8.drop 1) 2
    have hb2 := rowR_bd hb.2.2 2
    exact ⟨hb.1, hb2.1⟩
  · refine ⟨Int.natCast_nonneg _, Int.natCast_nonneg _, ?_⟩
    rw [strB_size]
    show ((((bs.drop 1).drop 3).drop 1).take 59).length ≤ 1000
    rw [List.length_take]; omega
end Go.Proofs.YtdbeeikjngnnnaaGreat.ty
namespace Go.Proofs.YtdbeeikjngnnnaaGreat.ty
open Go.ChangeShapes Go.WideShapes Go.ChangeAt Go.RowKit
set_option linter.unusedVariables false
set_option linter.unusedSimpArgs false
set_option maxRecDepth 100000 in
theorem Bytes1_w {w : World} {V : Nat} {cs : Array Value} {bs : List Nat} (hV : Bd w V (.iface 101 (.agg cs))) (hc : Calls Tryz.prog 102 #[.agg cs] w fun r w' => ∃ s, r = .returned (.slice s.p s.n s.c) ∧ Bf w w' s bs) (hl : 64 < bs.length) : Calls Tryz.prog 17 #[.pointer (some ⟨V, 0, none⟩)] w fun r w' => r = .returned (.tuple #[.slice none 0 0, .int .i64 71]) ∧ Apart [] w w' := by
  have z : w.cell? ⟨V, 0, none⟩ = some (.iface 101 (.agg cs)) := by rw [cell_of_row _ _ _ _ _ _ hV]; rfl
  have hm := fun wx => mr_form1 cs wx
  have HC := hid hc
  have Hl := hid hl
  clear hV hc hl
  go_enter Tryz.func17, Tryz.ntmps17
  go_upto_region 2 with (go_at_call 102; refine HC.out.mono ?_; rintro _ w1 ⟨s, rfl, b1⟩; have HB := hid b1; clear b1)
  have hn : ((s.n : Nat) : Int) > 64 := by have h1 := HB.out.len; have h2 := Hl.out; omega
  go_wp2_with fail
  go_ret2
  exact ⟨rfl, HB.out.nw.ap⟩
set_option maxRecDepth 100000 in
theorem Bytes2_w {w : World} {V : Nat} {cs : Array Value} {bs : List Nat} (hV : Bd w V (.iface 104 (.agg cs))) (hc : Calls Tryz.prog 113 #[.agg cs] w fun r w' => ∃ s, r = .returned (.slice s.p s.n s.c) ∧ Bf w w' s bs) (hl : 64 < bs.length) : Calls Tryz.prog 17 #[.pointer (some ⟨V, 0, none⟩)] w fun r w' => r = .returned (.tuple #[.slice none 0 0, .int .i64 71]) ∧ Apart [] w w' := by
  have z : w.cell? ⟨V, 0, none⟩ = some (.iface 104 (.agg cs)) := by rw [cell_of_row _ _ _ _ _ _ hV]; rfl
  have hm := fun wx => mr_form2 cs wx
  have HC := hid hc
  have Hl := hid hl
  clear hV hc hl
  go_enter Tryz.func17, Tryz.ntmps17
  go_upto_region 2 with (go_at_call 113; refine HC.out.mono ?_; rintro _ w1 ⟨s, rfl, b1⟩; have HB := hid b1; clear b1)
  have hn : ((s.n : Nat) : Int) > 64 := by have h1 := HB.out.len; have h2 := Hl.out; omega
  go_wp2_with fail
  go_ret2
  exact ⟨rfl, HB.out.nw.ap⟩
set_option maxRecDepth 100000 in
theorem Bytes3_w {w : World} {V : Nat} {cs : Array Value} {bs : List Nat} (hV : Bd w V (.iface 106 (.agg cs))) (hc : Calls Tryz.prog 128 #[.agg cs] w fun r w' => ∃ s, r = .returned (.slice s.p s.n s.c) ∧ Bf w w' s bs) (hl : 64 < bs.length) : Calls Tryz.prog 17 #[.pointer (some ⟨V, 0, none⟩)] w fun r w' => r = .returned (.tuple #[.slice none 0 0, .int .i64 71]) ∧ Apart [] w w' := by
  have z : w.cell? ⟨V, 0, none⟩ = some (.iface 106 (.agg cs)) := by rw [cell_of_row _ _ _ _ _ _ hV]; rfl
  have hm := fun wx => mr_form3 cs wx
  have HC := hid hc
  have Hl := hid hl
  clear hV hc hl
  go_enter Tryz.func17, Tryz.ntmps17
  go_upto_region 2 with (go_at_call 128; refine HC.out.mono ?_; rintro _ w1 ⟨s, rfl, b1⟩; have HB := hid b1; clear b1)
  have hn : ((s.n : Nat) : Int) > 64 := by have h1 := HB.out.len; have h2 := Hl.out; omega
  go_wp2_with fail
  go_ret2
  exact ⟨rfl, HB.out.nw.ap⟩
set_option maxRecDepth 100000 in
theorem Bytes4_w {w : World} {V : Nat} {cs : Array Value} {bs : List Nat} (hV : Bd w V (.iface 108 (.agg cs))) (hc : Calls Tryz.prog 133 #[.agg cs] w fun r w' => ∃ s, r = .returned (.slice s.p s.n s.c) ∧ Bf w w' s bs) (hl : 64 < bs.length) : Calls Tryz.prog 17 #[.pointer (some ⟨V, 0, none⟩)] w fun r w' => r = .returned (.tuple #[.slice none 0 0, .int .i64 71]) ∧ Apart [] w w' := by
  have z : w.cell? ⟨V, 0, none⟩ = some (.iface 108 (.agg cs)) := by rw [cell_of_row _ _ _ _ _ _ hV]; rfl
  have hm := fun wx => mr_form4 cs wx
  have HC := hid hc
  have Hl := hid hl
  clear hV hc hl
  go_enter Tryz.func17, Tryz.ntmps17
  go_upto_region 2 with (go_at_call 133; refine HC.out.mono ?_; rintro _ w1 ⟨s, rfl, b1⟩; have HB := hid b1; clear b1)
  have hn : ((s.n : Nat) : Int) > 64 := by have h1 := HB.out.len; have h2 := Hl.out; omega
  go_wp2_with fail
  go_ret2
  exact ⟨rfl, HB.out.nw.ap⟩
theorem Bytes_wide {w : World} {V : Nat} {v : Vl} (hV : Ho w V v) (ok : OkF v) (hl : 64 < (formV v).length) : Calls Tryz.prog 17 #[.pointer (some ⟨V, 0, none⟩)] w fun r w' => r = .returned (.tuple #[.slice none 0 0, .int .i64 71]) ∧ Apart [] w w' := by
  cases v using Vl.el with
  | cnt u d => exact Bytes1_w hV (cform_ok ok.1 ok.2) hl
  | set c es =>
    obtain ⟨s, h1, h2⟩ := hV
    exact Bytes2_w h1 (sform_ok ok.1 h2 ok.2.1 ok.2.2) hl
  | flg c g => exact Bytes3_w hV (fform_ok ok.1 ok.2) hl
  | rgs s a t =>
    obtain ⟨n, rfl⟩ := Int.eq_ofNat_of_zero_le ok.1
    obtain ⟨b, rfl⟩ := Int.eq_ofNat_of_zero_le ok.2.1
    exact Bytes4_w hV (gform_ok ok.2.2) hl
/-- what Bytes answers -/
def bzV (v : Vl) : List Nat := if (formV v).length ≤ 64 then formV v else []
def wzV (v : Vl) : Int := if (formV v).length ≤ 64 then 0 else 71
/-- bytes that can be read -/
structure Bq (w : World) (s : Sl) (bs : List Nat) : Prop where
  rd : Rd w s.p (byts bs)
  len : bs.length = s.n
  ok : s.ok
theorem Bq.kept0 {w w' : World} {s : Sl} {bs : List Nat} (h : Bq w s bs) (a : Apart [] w w') : Bq w' s bs := ⟨h.rd.kept0 a, h.len, h.ok⟩
end Go.Proofs.YtdbeeikjngnnnaaGreat.ty
namespace Go.Proofs.YtdbeeikjngnnnaaGreat.ty
open Go.ChangeShapes Go.WideShapes Go.ChangeAt Go.RowKit
set_option linter.unusedVariables false
set_option linter.unusedSimpArgs false
theorem alikeq {w : World} {a b : Sl} {us : List Nat} (ha : Bq w a us) (hb : Bq w b us) : Calls Tryz.prog 18 #[.slice a.p a.n a.c, .slice b.p b.n b.c] w fun r w' => r = .returned (.bool true) ∧ w' = w := alike_yes ha.rd ha.len ha.ok hb.rd hb.len hb.ok
theorem Gv.bq {w : World} {sl : Sl} {bs : List Nat} (h : Gv w sl bs) : Bq w sl bs := ⟨h.rd, h.len, h.ok⟩
set_option maxRecDepth 100000 in
theorem lent_ok {w : World} {sl : Sl} {bs : List Nat} (h : Gv w sl bs) : Calls Tryz.prog 35 #[.slice sl.p sl.n sl.c] w fun r w' => ∃ s' : Sl, r = .returned (.slice s'.p s'.n s'.c) ∧ Bf w w' s' (bs ++ [7, 8]) := by
  obtain ⟨s1, w1, hrun1, n1, l1, a1⟩ := copyB h
  have HR1 := hid hrun1
  obtain ⟨i0, hif, hz0, hz1, hz2⟩ := info_of info5
  have hle := h.le
  have hln := h.len
  obtain ⟨s5, w5, hrun, hnw5, hs5, ap5, -⟩ := run_appM (s := s1) 29 29 5 i0 _ 1 1 Tryz.underlying29 hif hz0 hz1 hz2 rfl (by decide) n1 2 (byts [7, 8]) (by decide) rfl (oneB _) (by unfold maxLen; omega) (by omega)
  have HR5 := hid hrun
  have HB : Hid (Bf w w5 s5 (bs ++ [7, 8])) := hid ⟨by rw [byts_app]; exact hnw5, by rw [hs5, List.length_append, l1, hln]; rfl⟩
  clear hrun1 n1 l1 a1 hrun hnw5 hs5 ap5 hif hz0 hz1 hz2 hle hln h
  go_enter Tryz.func35, Tryz.ntmps35
  go_upto_region 2 with (at_builtin; refine wpList_app2 rfl _ _ 29 29 rfl _ _ rfl rfl (.slice s1.p s1.n s1.c) w1 HR1.out ?_)
  go_wp2_with (refine wpList_append3 rfl _ _ 29 rfl _ _ rfl rfl (.slice s5.p s5.n s5.c) w5 HR5.out ?_)
  go_ret
  exact ⟨s5, rfl, HB.out⟩
theorem Bq.pre {w : World} {s : Sl} {us vs : List Nat} (h : Bq w s (us ++ vs)) {k : Nat} (hk : k = us.length) : Bq w (s.preB k) us := by
  have h1 := h.len
  rw [List.length_append] at h1
  refine ⟨fun h0 => ?_, hk.symm, Sl.preB_ok h.ok (by omega)⟩
  have h2 := h.rd
  rw [byts_app] at h2
  obtain ⟨P, o, e1, hb, hc⟩ := h2 (by rw [List.length_append]; omega)
  refine ⟨P, o, ?_, hb, fun j u hj => hc j u ?_⟩
  · simp only [Sl.preB, e1, Option.map_some, Addr.add_lit, Nat.zero_mul, Nat.add_zero, ite_self]
  · rw [List.getElem?_append_left (by have := (List.getElem?_eq_some_iff.1 hj).1; exact this)]; exact hj
set_option maxHeartbeats 2000000 in
set_option maxRecDepth 100000 in
/-- back, where all is as it was -/
theorem back_ok {w0 w : World} {s q : Sl} {bs : List Nat} (hs : Bf w0 w s (bs ++ [7, 8])) (hq : Gv w q bs) : Calls Tryz.prog 41 #[.slice s.p s.n s.c, .slice q.p q.n q.c] w fun r w' => r = .returned (.bool true) ∧ Apart s.v.ownBlock.toList w w' := by
  have hle := hq.le
  have hn := hs.len
  rw [List.length_append] at hn
  have hn2 : s.n = bs.length + 2 := hn
  obtain ⟨n, Hn⟩ : ∃ n, Hid (n = bs.length) := ⟨_, hid rfl⟩
  have hqn : q.n = n := by rw [Hn.out]; exact hq.len.symm
  have hsn : s.n = n + 2 := by rw [Hn.out]; exact hn2
  have hn20 : n ≤ 2000000 := by rw [Hn.out]; exact hle
  obtain ⟨g, hp, hg, hz7, -, ⟨cur, hcur⟩, -⟩ := hs.set n (by rw [List.length_append, Hn.out]; simp)
  obtain ⟨g', hp', -, hz8, -, -, -⟩ := hs.set (n + 1) (by rw [List.length_append, Hn.out]; simp)
  obtain rfl : g = g' := by rw [hp] at hp'; simpa using hp'
  have e7 : (bs ++ [7, 8]).getD n 0 = 7 := by rw [Hn.out, List.getD_eq_getElem?_getD, List.getElem?_append_right (by omega)]; simp
  have e8 : (bs ++ [7, 8]).getD (n + 1) 0 = 8 := by rw [Hn.out, List.getD_eq_getElem?_getD, List.getElem?_append_right (by omega)]; simp
  rw [e7] at hz7
  rw [e8] at hz8
  have Hob : Hid (s.v.ownBlock = some g) := hid (by rw [Sl.v, hp]; rfl)
  have hsc : n ≤ s.c := by have := hs.nw.cap; omega
  have HAl := hid (alikeq (Bq.pre (k := n) ⟨hs.nw.rd, hs.len.symm, hs.nw.ok⟩ Hn.out) hq.bq)
  rw [hqn] at HAl
  have HB := hid hs
  have HP := hid hp
  have HA0 : Hid (Apart s.v.ownBlock.toList w w) := hid (Apart.refl _ _)
  have hlt0 : (0 : Int) ≤ ((n : Nat) : Int) ∧ ((n : Nat) : Int) < ((n + 2 : Nat) : Int) := by omega
  have hw1 : wrap64 (((n : Nat) : Int) + 1) = ((n + 1 : Nat) : Int) := by rw [IntWalk.wrap64_in _ (by omega)]; omega
  clear hle hn hn2 e7 e8 hcur hp' hs hq
  rw [hp, hsn, hqn]
  have HSl : Hid (Value.slice (s.preB n).p (s.preB n).n (s.preB n).c = Value.slice (s.preB n).p (s.preB n).n (s.preB n).c) := hid rfl
  go_enter Tryz.func41, Tryz.ntmps41
  go_upto_region 3 with (first
    | refine wpL_val rfl (.slice (s.preB n).p (s.preB n).n (s.preB n).c) (ex_preB s n _ _ rfl (by rw [HP.out, hsn]; rfl) rfl hsc) ?_
    | (go_at_call 18; refine HAl.out.mono ?_; rintro _ wn ⟨rfl, hwn⟩; rw [hwn]; clear hwn))
  clear hz7 hz8 hlt0 hw1
  obtain ⟨N, HN⟩ : ∃ N, Hid (N = n + 2) := ⟨_, hid rfl⟩
  have hN : N ≤ 3000000 := by have := HN.out; omega
  rw [← HN.out]
  go_wp2_with fail
  go_loopw [7] (fun v7 wt => ∃ (i : Nat) (us : List Nat), v7 = .int .i64 (i : Int) ∧ i ≤ N ∧ Hid (us.length = N) ∧ Hid (Bf w0 wt s us) ∧ Hid (Apart s.v.ownBlock.toList w wt)) (fun v7 _ => N - natV v7)
  case atStart => exact ⟨0, bs ++ [7, 8], rfl, Nat.zero_le _, hid (by rw [List.length_append, HN.out, Hn.out]; rfl), HB, HA0⟩
  case round =>
    clear HB HA0
    obtain ⟨i, us, rfl, hi, Hul, HB, HA⟩ := hrel
    generalize wr = wt at *
    by_cases hlt : i < N
    · have hlti : ((i : Nat) : Int) < ((N : Nat) : Int) := by omega
      have hlt0 : (0 : Int) ≤ ((i : Nat) : Int) ∧ ((i : Nat) : Int) < ((N : Nat) : Int) := by omega
      obtain ⟨g2, hp2, hg2, hz, hf, -, hset⟩ := HB.out.set i (by rw [Hul.out]; exact hlt)
      obtain rfl : g = g2 := by
        have h1 := HP.out
        rw [hp2] at h1
        simpa using h1.symm
      have HB2 := hid (hset wt 85 (Apart.refl [] wt))
      have HA2 : Hid (Apart s.v.ownBlock.toList w (wt.setCell ⟨g, i, none⟩ (.int .u8 ((85 : Nat) : Int)))) := hid (HA.out.setCell (.inl (by rw [Hob.out]; simp)) _)
      clear hset hp2 hg2
      go_wp2_with fail
      exact ⟨⟨i + 1, us.set i 85, by go_num, by omega, hid (by rw [List.length_set]; exact Hul.out), HB2, HA2⟩, by simp [natV]; omega⟩
    · have hlti : ¬ ((i : Nat) : Int) < ((N : Nat) : Int) := by omega
      go_wp2_with fail
      go_ret
      exact ⟨rfl, HA.out⟩
end Go.Proofs.YtdbeeikjngnnnaaGreat.ty
namespace Go.Proofs.YtdbeeikjngnnnaaGreat.ty
open Go.ChangeShapes Go.WideShapes Go.ChangeAt Go.RowKit
set_option linter.unusedVariables false
set_option linter.unusedSimpArgs false
/-- as a value may be -/
def Gd (v : Vl) : Prop := match v with
  | Sum.inl (u, d) => Wd u ∧ Wd d
  | Sum.inr (Sum.inl (c, es)) => Gs c es ∧ Cn c ∧ ∀ x ∈ es, x.e.size ≤ 8
  | Sum.inr (Sum.inr (Sum.inl (c, g))) => Cn c ∧ Wi g c
  | Sum.inr (Sum.inr (Sum.inr (s, a, t))) => (0 ≤ s ∧ s ≤ 16777215) ∧ (0 ≤ a ∧ t.size ≤ 59) ∧ (s = 0 → a = 0 ∧ t = ⟨#[]⟩)
theorem Cn.ge {c : List Int} (h : Cn c) : ∀ i, i < 8 → 0 ≤ c.getD i 0 := fun i _ => (h.2 i).1
theorem Wi.cn {a c : List Int} (h : Wi a c) (k : Cn c) : Cn a := ⟨h.1, fun i => by
  rcases Nat.lt_or_ge i 8 with hi | hi
  · have h1 := h.2.2 i hi
    have h2 := k.2 i
    omega
  · rw [List.getD_eq_getElem?_getD, List.getElem?_eq_none (by have := h.1; omega)]
    simp⟩
theorem Cn.gr {a b : List Int} (h : Cn a) (k : Cn b) : Cn (gr a b) := ⟨gr_len h.1 k.1, fun i => by
  rcases Nat.lt_or_ge i 8 with hi | hi
  · have h1 := h.2 i
    have h2 := k.2 i
    rw [gr_at h.1 k.1 i hi]
    omega
  · rw [List.getD_eq_getElem?_getD, List.getElem?_eq_none (by have := gr_len h.1 k.1; omega)]
    simp⟩
theorem Wd.gr {a b : List Int} (h : Wd a) (k : Wd b) : Wd (gr a b) := ⟨gr_len h.1 k.1, fun x hx => by
  obtain ⟨i, hi, e⟩ := List.mem_iff_getElem.1 hx
  have hl := gr_len h.1 k.1
  have h1 := h.at i (by omega)
  have h2 := k.at i (by omega)
  have h3 := gr_at h.1 k.1 i (by omega)
  rw [List.getD_eq_getElem?_getD, List.getElem?_eq_getElem hi] at h3
  simp only [Option.getD_some] at h3
  rw [← e, h3]
  omega⟩
theorem Wd.ge {a : List Int} (h : Wd a) : ∀ i, i < 8 → 0 ≤ a.getD i 0 := fun i hi => (h.at i hi).1
/-- two values of one type, by their type -/
theorem Vl.two {motive : Vl → Vl → Prop} (cnt : ∀ u d p q, motive (.cnt u d) (.cnt p q)) (set : ∀ c es d fs, motive (.set c es) (.set d fs)) (flg : ∀ c g d f, motive (.flg c g) (.flg d f)) (rgs : ∀ x y : Int × Int × ByteArray, motive (.rgs x.1 x.2.1 x.2.2) (.rgs y.1 y.2.1 y.2.2)) (v o : Vl) (h : v.kd = o.kd) : motive v o := by
  rcases v with ⟨u, d⟩ | ⟨c, es⟩ | ⟨c, g⟩ | x <;> rcases o with ⟨p, q⟩ | ⟨e, fs⟩ | ⟨e, f⟩ | y
  case inl.inl => exact cnt u d p q
  case inr.inl.inr.inl => exact set c es e fs
  case inr.inr.inl.inr.inr.inl => exact flg c g e f
  case inr.inr.inr.inr.inr.inr => exact rgs x y
  all_goals (exact absurd h (by simp [Vl.kd]))
theorem kd_new0 (k : Nat) (h1 : 1 ≤ k) (h4 : k ≤ 4) : (new0 k).kd = k := by
  obtain rfl | rfl | rfl | rfl : k = 1 ∨ k = 2 ∨ k = 3 ∨ k = 4 := by omega
  · rfl
  · rfl
  · rfl
  · rfl
theorem new0_gd (k : Nat) : Gd (new0 k) := by
  unfold new0
  split
  · exact ⟨Wd.zr, Wd.zr⟩
  split
  · exact ⟨Gs.new, Cn.zr, by simp⟩
  split
  · exact ⟨Cn.zr, Wi.zr rfl (Cn.zr.ge)⟩
  · exact ⟨⟨by omega, by omega⟩, ⟨by omega, by decide⟩, fun _ => ⟨rfl, rfl⟩⟩
/-- three values of one type -/
theorem Vl.three {motive : Vl → Vl → Vl → Prop} (cnt : ∀ u d p q r s, motive (.cnt u d) (.cnt p q) (.cnt r s)) (set : ∀ c es d fs f gs, motive (.set c es) (.set d fs) (.set f gs)) (flg : ∀ c g d f e h, motive (.flg c g) (.flg d f) (.flg e h)) (rgs : ∀ x y z : Int × Int × ByteArray, motive (.rgs x.1 x.2.1 x.2.2) (.rgs y.1 y.2.1 y.2.2) (.rgs z.1 z.2.1 z.2.2)) (v o u : Vl) (h : v.kd = o.kd) (k : o.kd = u.kd) : motive v o u := by
  revert k
  refine Vl.two (motive := fun v o => o.kd = u.kd → motive v o u) ?_ ?_ ?_ ?_ v o h
  · intro a b c d k
    rcases u with ⟨p, q⟩ | ⟨e, fs⟩ | ⟨e, f⟩ | y
    · exact cnt _ _ _ _ _ _
    all_goals (exact absurd k (by simp [Vl.kd]))
  · intro a b c d k
    rcases u with ⟨p, q⟩ | ⟨e, fs⟩ | ⟨e, f⟩ | y
    case inr.inl => exact set _ _ _ _ _ _
    all_goals (exact absurd k (by simp [Vl.kd]))
  · intro a b c d k
    rcases u with ⟨p, q⟩ | ⟨e, fs⟩ | ⟨e, f⟩ | y
    case inr.inr.inl => exact flg _ _ _ _ _ _
    all_goals (exact absurd k (by simp [Vl.kd]))
  · intro a b k
    rcases u with ⟨p, q⟩ | ⟨e, fs⟩ | ⟨e, f⟩ | y
    case inr.inr.inr => exact rgs _ _ y
    all_goals (exact absurd k (by simp [Vl.kd]))
theorem Gd.ok {v : Vl} (h : Gd v) (hl : (elsR v).length ≤ 200) : Ok v := by
  cases v using Vl.el with
  | cnt u d => exact h
  | set c es => exact ⟨h.2.1, h.1.so, hl, fun x hx => ⟨h.2.2 x hx, (h.1.wi x hx).cn h.2.1⟩⟩
  | flg c g => exact ⟨h.1, h.2.cn h.1⟩
  | rgs s a t => exact h.1
theorem Gd.okF {v : Vl} (h : Gd v) (hl : (elsR v).length ≤ 200) : OkF v := by
  cases v using Vl.el with
  | cnt u d => exact h
  | set c es => exact ⟨h.1.len, by simp only [elsR] at hl; omega, fun x hx => by have := h.2.2 x hx; omega⟩
  | flg c g => exact ⟨h.1.1, h.2.1⟩
  | rgs s a t => exact ⟨h.1.1, h.2.1.1, by have := h.2.1.2; omega⟩
theorem sr_gs {c : List Int} {es : List En} (hc : Cn c) (h : srR c es = true) (ht : ∀ x ∈ es, Cn x.t) : Gs c es ∧ ∀ x ∈ es, x.e.size ≤ 8 := by
  have h1 : ∀ i (hi : i < es.length), okX c es[i] = true ∧ (i ≠ 0 → bl (es[i - 1]'(by omega)).e es[i].e = true) := by
    intro i hi
    unfold srR at h
    rw [List.all_eq_true] at h
    have h2 := h i (List.mem_range.2 hi)
    unfold okE okP at h2
    rw [List.getElem?_eq_getElem hi, List.getElem?_eq_getElem (show i - 1 < es.length by omega)] at h2
    simp only [Bool.and_eq_true, Bool.or_eq_true, beq_iff_eq] at h2
    refine ⟨h2.1, fun hne => ?_⟩
    rcases h2.2 with e | e
    · exact absurd e hne
    · exact e
  have h3 : ∀ x ∈ es, okX c x = true := by
    intro x hx
    obtain ⟨i, hi, e⟩ := List.mem_iff_getElem.1 hx
    rw [← e]
    exact (h1 i hi).1
  have h4 : So es := by
    refine List.pairwise_iff_getElem.2 fun i j hi hj hij => ?_
    obtain ⟨n, rfl⟩ : ∃ n, j = i + n + 1 := ⟨j - i - 1, by omega⟩
    clear hij
    induction n with
    | zero => exact (h1 (i + 0 + 1) hj).2 (by omega)
    | succ n ih =>
      have h5 := ih (by omega)
      have h6 := (h1 (i + (n + 1) + 1) hj).2 (by omega)
      exact bl_trans h5 h6
  refine ⟨⟨h4, fun x hx => ?_, fun x hx => ?_, hc.1, hc.ge⟩, fun x hx => ?_⟩
  · have := h3 x hx
    unfold okX at this
    simp only [Bool.and_eq_true, Bool.not_eq_true', beq_eq_false_iff_ne] at this
    exact this.2.1
  · have := h3 x hx
    unfold okX at this
    simp only [Bool.and_eq_true, beq_iff_eq] at this
    exact Wi.of_gr (ht x hx).1 hc.1 (ht x hx).ge this.2.2
  · have := h3 x hx
    unfold okX isE at this
    simp only [Bool.and_eq_true, decide_eq_true_eq] at this
    exact this.1.2
theorem esB_ge : ∀ es : List En, es.length * 2 ≤ (esB es).length
  | [] => by simp [esB]
  | x :: r => by
    have := esB_ge r
    simp only [esB, enB, rowB, List.length_append, List.length_cons]
    omega
theorem readV_gd {k : Nat} (h1 : 1 ≤ k) (h4 : k ≤ 4) {bs : List Nat} (h8 : U8 bs) (hl : bs.length ≤ 64) (hr : rdOk k bs = true) : Gd (readV k bs) ∧ (elsR (readV k bs)).length ≤ 32 ∧ (readV k bs).kd = k := by
  have hF := readV_okF h1 h4 h8 hl
  unfold rdOk at hr
  simp only [Bool.and_eq_true, decide_eq_true_eq] at hr
  obtain ⟨hr, hf⟩ := hr
  have e2 : (2 : Int) ^ (8 * 2) = 65536 := by decide
  obtain rfl | rfl | rfl | rfl : k = 1 ∨ k = 2 ∨ k = 3 ∨ k = 4 := by omega
  · exact ⟨hF, by simp [readV, elsR], rfl⟩
  · have hb := rowR_bd (h8.drop 1) 2
    rw [e2] at hb
    have hs := esI_bd (hb.2.2.drop 1) (leV ((rowR (bs.drop 1) 2).2.take 1))
    have hc := Cn.of hb.1 hb.2.1
    have hg := sr_gs hc hr (fun x hx => (hs.1 x hx).2)
    refine ⟨⟨hg.1, hc, hg.2⟩, ?_, rfl⟩
    have h5 := congrArg List.length hf
    have h6 := esB_ge (esI (leV ((rowR (bs.drop 1) 2).2.take 1)) ((rowR (bs.drop 1) 2).2.drop 1)).1
    have h7 : (formV (readV 2 bs)).length ≥ (esB (esI (leV ((rowR (bs.drop 1) 2).2.take 1)) ((rowR (bs.drop 1) 2).2.drop 1)).1).length := by
      show (setB _ _).length ≥ _
      simp only [setB, List.length_cons, List.length_append]
      omega
    show ((esI (leV ((rowR (bs.drop 1) 2).2.take 1)) ((rowR (bs.drop 1) 2).2.drop 1)).1).length ≤ 32
    omega
  · have hb := rowR_bd (h8.drop 1) 2
    have hb2 := rowR_bd hb.2.2 2
    rw [e2] at hb hb2
    have hc := Cn.of hb.1 hb.2.1
    have hc2 := Cn.of hb2.1 hb2.2.1
    refine ⟨⟨hc, Wi.of_gr hc2.1 hc.1 hc2.ge ?_⟩, by simp [readV, elsR], rfl⟩
    have : (gr (rowR (rowR (bs.drop 1) 2).2 2).1 (rowR (bs.drop 1) 2).1 == (rowR (bs.drop 1) 2).1) = true := hr
    exact beq_iff_eq.1 this
  · have hr' : rtR ((regR bs).1 : Int) ((regR bs).2.1 : Int) (strB (regR bs).2.2) = true := hr
    unfold rtR at hr'
    simp only [Bool.and_eq_true, Bool.or_eq_true, decide_eq_true_eq] at hr'
    refine ⟨⟨⟨Int.natCast_nonneg _, ?_⟩, ⟨Int.natCast_nonneg _, ?_⟩, fun e => ?_⟩, by simp [readV, elsR], rfl⟩
    · have h9 := leV_lt (l := (bs.drop 1).take 3) (fun x hx => h8 x (List.mem_of_mem_drop (List.mem_of_mem_take hx)))
      have h10 : ((bs.drop 1).take 3).length ≤ 3 := by rw [List.length_take]; omega
      have h11 : 2 ^ (8 * ((bs.drop 1).take 3).length) ≤ 2 ^ 24 := Nat.pow_le_pow_right (by omega) (by omega)
      show ((leV ((bs.drop 1).take 3) : Nat) : Int) ≤ 16777215
      omega
    · rw [strB_size]
      show ((((bs.drop 1).drop 3).drop 1).take 59).length ≤ 59
      rw [List.length_take]; omega
    · have e' : ((regR bs).1 : Int) = 0 := e
      rcases hr'.2 with h9 | ⟨⟨-, h9⟩, h10⟩
      · omega
      · refine ⟨h9, ?_⟩
        have h11 : (strB (regR bs).2.2).data.toList = [] := by rw [← Lib.toList_data]; exact h10
        exact ba_inj h11
end Go.Proofs.YtdbeeikjngnnnaaGreat.ty
