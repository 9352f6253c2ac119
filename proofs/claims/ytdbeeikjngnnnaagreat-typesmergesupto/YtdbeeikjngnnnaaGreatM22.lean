import Derived.Test.YtdbeeikjngnnnaaGreatChecked
import Derived.WalkKit
import Derived.ProofKit
import Derived.OpenShut
import Derived.Deep.QuietTactic
import Derived.BigQuiet
import Derived.BigRegion
import Derived.Laws.CopyOwn
import Derived.Laws.IdiomCopy
import Derived.WalkSmall
import Derived.Laws.ResultCell
import Derived.Laws.AppendOwnNone
import Derived.Deep.RegionHeld
import Derived.Deep.DeepAppendRoom
import Derived.Great.BuildSlice
import Derived.Deep.CutBlock
import Derived.Deep.RegionLaw
import Derived.ArgAppend
import Derived.Laws.Strings
import Derived.Laws.StructEq
import Derived.Below
import Derived.Deep.MidRow
import Derived.Great.Ranges
import Derived.Deep.RegionHeld3
import Derived.Laws.NewBlocks
import Derived.OrdersHeld
import Derived.Stop.BytesEq
import Derived.Laws.BytesString
import Derived.Lib.ConvBytes
import Derived.Laws.BitsAllLaws
import Derived.WalkLawsBesides
import Derived.Lib.Bytealg
import Derived.Laws.Externs
import Derived.Lib.SliceRun
import Derived.Lib.AppendZerosOnto
import Derived.Lib.AppendStr
import Derived.Lib.SlBytesConst
import Derived.Sort.Walk0
import Derived.Laws.Cover1
import Derived.Lib.Strings
import Derived.Lib.MinMaxS
import GoSem.Claim
import GoSem.ClaimJoined
import GoSem.ClaimMapViews
import Derived.JoinedTies
import Derived.KernelRfl
import Derived.JoinedCond
import Derived.ShutString
import Derived.ChangeOld
import Derived.Carry
import Derived.ChangeSlices
import Derived.Deep.Slices
import Derived.Deep.DeepHandedRow
import Derived.RowKit
import Derived.ChangeShapes
import Derived.SizedLaws
import Derived.ChangeMaps5
import Derived.Sort.WalkA
import Derived.Test.YtdbeeikjngnnnaaGreatRows
import Derived.Test.YtdbeeikjngnnnaaGreatM18
import Derived.Test.YtdbeeikjngnnnaaGreatM20
import Derived.Test.YtdbeeikjngnnnaaGreatM21
namespace Go.Proofs.YtdbeeikjngnnnaaGreat.ty
open Go.ChangeShapes Go.WideShapes Go.ChangeAt Go.RowKit
set_option linter.unusedVariables false
set_option linter.unusedSimpArgs false
set_option maxHeartbeats 1000000 in
set_option maxRecDepth 100000 in
theorem fform_ok {w : World} {c g : List Int} (hc : c.length = 8) (hg : g.length = 8) : Calls Tryz.prog 128 #[.agg (rv (c ++ g)).toArray] w fun r w' => ∃ s', r = .returned (.slice s'.p s'.n s'.c) ∧ Bf w w' s' (3 :: (rowB c 2 ++ rowB g 2)) := by
  have Hc := hid hc
  have Hg := hid hg
  clear hc hg
  have HA := hid (Apart.refl [] w)
  go_enter Tryz.func128, Tryz.ntmps128
  go_upto_region 1 with fail
  obtain ⟨X, HXX⟩ : ∃ X, Hid (X = w.heap.size) := ⟨_, rfl⟩
  obtain ⟨w1, hw1⟩ : ∃ W, W = w.alloc (.cells (rv (c ++ g)).toArray 106) := ⟨_, rfl⟩
  have HSw1 : Hid (Apart [] w w1) := by unfold Hid; rw [hw1]; exact (Apart.refl [] w).alloc _
  have HBX : Hid (w1.heap[X]? = some (.cells (rv (c ++ g)).toArray 106 (0, 0))) := by unfold Hid; rw [HXX.out, hw1]; exact heap_alloc_new w _
  have HLX : Hid (w.heap.size ≤ X) := by unfold Hid; rw [HXX.out]; exact Nat.le_refl _
  replace HA := hid (HA.out.trans HSw1.out)
  rw [← hw1, ← HXX.out]
  clear hw1 HXX
  have HB1 : Hid (Bf w (w1.alloc (.cells #[.int .u8 3] 5)) ⟨some ⟨w1.heap.size, 0, none⟩, 1, 1⟩ [3]) := by
    unfold Hid
    refine ⟨⟨⟨rfl, .inr ⟨w1.heap.size, 1, _, rfl, Nat.zero_le _, heap_alloc_new w1 _, Nat.le_refl _, by unfold maxLen; omega, rfl, rfl⟩⟩, fun k hk => by simp [Sl.v, Value.ownBlock] at hk; rw [← hk]; exact HA.out.size, HA.out.alloc _⟩, rfl⟩
  have HC := hid (appRow HB1.out (by simp) Hc.out (width := 2) (by omega))
  have HBX2 : Hid ((w1.alloc (.cells #[.int .u8 3] 5)).heap[X]? = some (.cells (rv (c ++ g)).toArray 106 (0, 0))) := hid (keep0 ((Apart.refl [] w1).alloc _) HBX.out)
  go_upto_region 2 with (first
    | refine wpL_val rfl (.agg (rv c).toArray) (ex_load _ rfl X 0 _ rfl (rg0 HBX2.out) (by rw [rv_len, Hc.out])) ?_
    | (go_at_call 107; refine HC.out.mono ?_; rintro _ w2 ⟨s2, rfl, b2, t2⟩; have HB2 := hid b2; have HT2 := hid t2; clear b2 t2; clear HC))
  have HBX3 := hid (HT2.out.block HBX2.out (by simp))
  have HC2 := hid (appRow HB2.out (by have := rowB_len c; simp only [List.cons_append, List.nil_append, List.length_cons]; omega) Hg.out (width := 2) (by omega))
  clear HB1 HBX HBX2 HT2
  go_wp2_with (first
    | refine wpL_val rfl (.agg (rv g).toArray) (ex_load _ rfl X 8 _ rfl (rg8 Hc.out HBX3.out) (by rw [rv_len, Hg.out])) ?_
    | (go_at_call 107; refine HC2.out.mono ?_; rintro _ w3 ⟨s3, rfl, b3, t3⟩; have HB3 := hid b3; clear b3 t3))
  go_ret
  exact ⟨s3, rfl, by simpa using HB3.out⟩
set_option maxHeartbeats 1000000 in
set_option maxRecDepth 100000 in
theorem gform_ok {w : World} {n a : Nat} {t : ByteArray} (ht : t.size ≤ 1000) : Calls Tryz.prog 133 #[.agg (ty.rg (n : Int) (a : Int) t)] w fun r w' => ∃ s', r = .returned (.slice s'.p s'.n s'.c) ∧ Bf w w' s' (4 :: (leB n 3 ++ (a % 256) :: bsk t)) := by
  have Ht := hid ht
  clear ht
  unfold ty.rg
  have HA := hid (Apart.refl [] w)
  go_enter Tryz.func133, Tryz.ntmps133
  go_upto_region 1 with fail
  obtain ⟨X, HXX⟩ : ∃ X, Hid (X = w.heap.size) := ⟨_, rfl⟩
  obtain ⟨w1, hw1⟩ : ∃ W, W = w.alloc (.cells #[.int .i64 (n : Int), .int .i64 (a : Int), .string t] 108) := ⟨_, rfl⟩
  have HSw1 : Hid (Apart [] w w1) := by unfold Hid; rw [hw1]; exact (Apart.refl [] w).alloc _
  have HBX : Hid (w1.heap[X]? = some (.cells #[.int .i64 (n : Int), .int .i64 (a : Int), .string t] 108 (0, 0))) := by unfold Hid; rw [HXX.out, hw1]; exact heap_alloc_new w _
  have HLX : Hid (w.heap.size ≤ X) := by unfold Hid; rw [HXX.out]; exact Nat.le_refl _
  replace HA := hid (HA.out.trans HSw1.out)
  rw [← hw1, ← HXX.out]
  clear hw1 HXX
  have HB1 : Hid (Bf w (w1.alloc (.cells #[.int .u8 4] 5)) ⟨some ⟨w1.heap.size, 0, none⟩, 1, 1⟩ [4]) := by
    unfold Hid
    refine ⟨⟨⟨rfl, .inr ⟨w1.heap.size, 1, _, rfl, Nat.zero_le _, heap_alloc_new w1 _, Nat.le_refl _, by unfold maxLen; omega, rfl, rfl⟩⟩, fun k hk => by simp [Sl.v, Value.ownBlock] at hk; rw [← hk]; exact HA.out.size, HA.out.alloc _⟩, rfl⟩
  have HC := hid (appN HB1.out (by simp) (n := n) (width := 3) (by omega))
  have HBX2 : Hid ((w1.alloc (.cells #[.int .u8 4] 5)).heap[X]? = some (.cells #[.int .i64 (n : Int), .int .i64 (a : Int), .string t] 108 (0, 0))) := hid (keep0 ((Apart.refl [] w1).alloc _) HBX.out)
  have z0 : (w1.alloc (.cells #[.int .u8 4] 5)).cell? ⟨X, 0, none⟩ = some (.int .i64 (n : Int)) := by rw [cell_of_row _ _ _ _ _ _ HBX2.out]; rfl
  go_upto_region 2 with (go_at_call 110; refine HC.out.mono ?_; rintro _ w2 ⟨s2, rfl, b2, t2⟩; have HB2 := hid b2; have HT2 := hid t2; clear b2 t2; clear HC)
  have HBX3 := hid (HT2.out.block HBX2.out (by simp))
  have z1 : w2.cell? ⟨X, 1, none⟩ = some (.int .i64 (a : Int)) := by rw [cell_of_row _ _ _ _ _ _ HBX3.out]; rfl
  obtain ⟨s3, w3, hrun, b3, t3⟩ := app_byte HB2.out (a % 256) (by simp [leB_len])
  have HR := hid hrun
  have HB3 := hid b3
  have HBX4 := hid (t3.block HBX3.out (by simp))
  clear hrun b3 t3 HB1 HBX HBX2 HT2 z0 HB2
  go_upto_region 3 with (refine wpList_append3 rfl _ _ 29 rfl _ _ rfl rfl (.slice s3.p s3.n s3.c) w3 HR.out ?_)
  have z2 : w3.cell? ⟨X, 2, none⟩ = some (.string t) := by rw [cell_of_row _ _ _ _ _ _ HBX4.out]; rfl
  obtain ⟨s4, w4, hrun, b4, t4⟩ := app_str HB3.out t (by have := Ht.out; simp [leB_len]; omega)
  have HR4 := hid hrun
  have HB4 := hid b4
  clear hrun b4 t4 HR z1 HBX3
  go_wp2_with (at_builtin; refine wpList_app2 rfl _ _ 29 9 rfl _ _ rfl rfl (.slice s4.p s4.n s4.c) w4 HR4.out ?_)
  go_ret
  exact ⟨s4, rfl, by simpa using HB4.out⟩
end Go.Proofs.YtdbeeikjngnnnaaGreat.ty
namespace Go.Proofs.YtdbeeikjngnnnaaGreat.ty
open Go.ChangeShapes Go.WideShapes Go.ChangeAt Go.RowKit
set_option linter.unusedVariables false
set_option linter.unusedSimpArgs false
/-- its form can be told -/
def OkF (v : Vl) : Prop := match v with
  | Sum.inl (u, d) => Wd u ∧ Wd d
  | Sum.inr (Sum.inl (c, es)) => c.length = 8 ∧ es.length ≤ 500 ∧ ∀ x ∈ es, x.e.size ≤ 1000
  | Sum.inr (Sum.inr (Sum.inl (c, g))) => c.length = 8 ∧ g.length = 8
  | Sum.inr (Sum.inr (Sum.inr (s, a, t))) => 0 ≤ s ∧ 0 ≤ a ∧ t.size ≤ 1000
set_option maxRecDepth 100000 in
theorem Bytes1_p {w : World} {V : Nat} {cs : Array Value} {bs : List Nat} (hV : Bd w V (.iface 101 (.agg cs))) (hc : Calls Tryz.prog 102 #[.agg cs] w fun r w' => ∃ s, r = .returned (.slice s.p s.n s.c) ∧ Bf w w' s bs) (hl : bs.length ≤ 64) : Calls Tryz.prog 17 #[.pointer (some ⟨V, 0, none⟩)] w fun r w' => ∃ s, r = .returned (.tuple #[.slice s.p s.n s.c, .int .i64 0]) ∧ Bf w w' s bs := by
  have z : w.cell? ⟨V, 0, none⟩ = some (.iface 101 (.agg cs)) := by rw [cell_of_row _ _ _ _ _ _ hV]; rfl
  have hm := fun wx => mr_form1 cs wx
  have HC := hid hc
  have Hl := hid hl
  clear hV hc hl
  go_enter Tryz.func17, Tryz.ntmps17
  go_upto_region 2 with (go_at_call 102; refine HC.out.mono ?_; rintro _ w1 ⟨s, rfl, b1⟩; have HB := hid b1; clear b1)
  have hn : ¬ ((s.n : Nat) : Int) > 64 := by have h1 := HB.out.len; have h2 := Hl.out; omega
  go_wp2_with fail
  go_ret2
  exact ⟨s, rfl, HB.out⟩
set_option maxRecDepth 100000 in
theorem Bytes2_p {w : World} {V : Nat} {cs : Array Value} {bs : List Nat} (hV : Bd w V (.iface 104 (.agg cs))) (hc : Calls Tryz.prog 113 #[.agg cs] w fun r w' => ∃ s, r = .returned (.slice s.p s.n s.c) ∧ Bf w w' s bs) (hl : bs.length ≤ 64) : Calls Tryz.prog 17 #[.pointer (some ⟨V, 0, none⟩)] w fun r w' => ∃ s, r = .returned (.tuple #[.slice s.p s.n s.c, .int .i64 0]) ∧ Bf w w' s bs := by
  have z : w.cell? ⟨V, 0, none⟩ = some (.iface 104 (.agg cs)) := by rw [cell_of_row _ _ _ _ _ _ hV]; rfl
  have hm := fun wx => mr_form2 cs wx
  have HC := hid hc
  have Hl := hid hl
  clear hV hc hl
  go_enter Tryz.func17, Tryz.ntmps17
  go_upto_region 2 with (go_at_call 113; refine HC.out.mono ?_; rintro _ w1 ⟨s, rfl, b1⟩; have HB := hid b1; clear b1)
  have hn : ¬ ((s.n : Nat) : Int) > 64 := by have h1 := HB.out.len; have h2 := Hl.out; omega
  go_wp2_with fail
  go_ret2
  exact ⟨s, rfl, HB.out⟩
set_option maxRecDepth 100000 in
theorem Bytes3_p {w : World} {V : Nat} {cs : Array Value} {bs : List Nat} (hV : Bd w V (.iface 106 (.agg cs))) (hc : Calls Tryz.prog 128 #[.agg cs] w fun r w' => ∃ s, r = .returned (.slice s.p s.n s.c) ∧ Bf w w' s bs) (hl : bs.length ≤ 64) : Calls Tryz.prog 17 #[.pointer (some ⟨V, 0, none⟩)] w fun r w' => ∃ s, r = .returned (.tuple #[.slice s.p s.n s.c, .int .i64 0]) ∧ Bf w w' s bs := by
  have z : w.cell? ⟨V, 0, none⟩ = some (.iface 106 (.agg cs)) := by rw [cell_of_row _ _ _ _ _ _ hV]; rfl
  have hm := fun wx => mr_form3 cs wx
  have HC := hid hc
  have Hl := hid hl
  clear hV hc hl
  go_enter Tryz.func17, Tryz.ntmps17
  go_upto_region 2 with (go_at_call 128; refine HC.out.mono ?_; rintro _ w1 ⟨s, rfl, b1⟩; have HB := hid b1; clear b1)
  have hn : ¬ ((s.n : Nat) : Int) > 64 := by have h1 := HB.out.len; have h2 := Hl.out; omega
  go_wp2_with fail
  go_ret2
  exact ⟨s, rfl, HB.out⟩
set_option maxRecDepth 100000 in
theorem Bytes4_p {w : World} {V : Nat} {cs : Array Value} {bs : List Nat} (hV : Bd w V (.iface 108 (.agg cs))) (hc : Calls Tryz.prog 133 #[.agg cs] w fun r w' => ∃ s, r = .returned (.slice s.p s.n s.c) ∧ Bf w w' s bs) (hl : bs.length ≤ 64) : Calls Tryz.prog 17 #[.pointer (some ⟨V, 0, none⟩)] w fun r w' => ∃ s, r = .returned (.tuple #[.slice s.p s.n s.c, .int .i64 0]) ∧ Bf w w' s bs := by
  have z : w.cell? ⟨V, 0, none⟩ = some (.iface 108 (.agg cs)) := by rw [cell_of_row _ _ _ _ _ _ hV]; rfl
  have hm := fun wx => mr_form4 cs wx
  have HC := hid hc
  have Hl := hid hl
  clear hV hc hl
  go_enter Tryz.func17, Tryz.ntmps17
  go_upto_region 2 with (go_at_call 133; refine HC.out.mono ?_; rintro _ w1 ⟨s, rfl, b1⟩; have HB := hid b1; clear b1)
  have hn : ¬ ((s.n : Nat) : Int) > 64 := by have h1 := HB.out.len; have h2 := Hl.out; omega
  go_wp2_with fail
  go_ret2
  exact ⟨s, rfl, HB.out⟩
theorem Bytes_v {w : World} {V : Nat} {v : Vl} (hV : Ho w V v) (ok : OkF v) (hl : (formV v).length ≤ 64) : Calls Tryz.prog 17 #[.pointer (some ⟨V, 0, none⟩)] w fun r w' => ∃ s, r = .returned (.tuple #[.slice s.p s.n s.c, .int .i64 0]) ∧ Bf w w' s (formV v) := by
  cases v using Vl.el with
  | cnt u d => exact Bytes1_p hV (cform_ok ok.1 ok.2) hl
  | set c es =>
    obtain ⟨s, h1, h2⟩ := hV
    exact Bytes2_p h1 (sform_ok ok.1 h2 ok.2.1 ok.2.2) hl
  | flg c g => exact Bytes3_p hV (fform_ok ok.1 ok.2) hl
  | rgs s a t =>
    obtain ⟨n, rfl⟩ := Int.eq_ofNat_of_zero_le ok.1
    obtain ⟨b, rfl⟩ := Int.eq_ofNat_of_zero_le ok.2.1
    exact Bytes4_p hV (gform_ok ok.2.2) hl
end Go.Proofs.YtdbeeikjngnnnaaGreat.ty
namespace Go.Proofs.YtdbeeikjngnnnaaGreat.ty
open Go.ChangeShapes Go.WideShapes Go.ChangeAt Go.RowKit
set_option linter.unusedVariables false
set_option linter.unusedSimpArgs false
set_option maxRecDepth 100000 in
theorem Bytes1_w {w : World} {V : Nat} {cs : Array Value} {bs : List Nat} (hV : Bd w V (.iface 101 (.agg cs))) (hc : Calls Tryz.prog 102 #[.agg cs] w fun r w' => ∃ s, r = .returned (.slice s.p s.n s.c) ∧ Bf w w' s bs) (hl : 64 < bs.length) : Calls Tryz.prog 17 #[.pointer (some ⟨V, 0, none⟩)] w fun r w' => r = .returned (.tuple #[.slice none 0 0, .int .i64 71]) ∧ Apart [] w w' := by
  have z : w.cell? ⟨V, 0, none⟩ = some (.iface 101 (.agg cs)) := by rw [cell_of_row _ _ _ _ _ _ hV]; rfl
  have hm := fun wx => mr_form1 cs wx
  have HC := hid hc
  have Hl := hid hl
  clear hV hc hl
  go_enter Tryz.func17, Tryz.ntmps17
  go_upto_region 2 with (go_at_call 102; refine HC.out.mono ?_; rintro _ w1 ⟨s, rfl, b1⟩; have HB := hid b1; clear b1)
  have hn : ((s.n : Nat) : Int) > 64 := by have h1 := HB.out.len; have h2 := Hl.out; omega
  go_wp2_with fail
  go_ret2
  exact ⟨rfl, HB.out.nw.ap⟩
set_option maxRecDepth 100000 in
theorem Bytes2_w {w : World} {V : Nat} {cs : Array Value} {bs : List Nat} (hV : Bd w V (.iface 104 (.agg cs))) (hc : Calls Tryz.prog 113 #[.agg cs] w fun r w' => ∃ s, r = .returned (.slice s.p s.n s.c) ∧ Bf w w' s bs) (hl : 64 < bs.length) : Calls Tryz.prog 17 #[.pointer (some ⟨V, 0, none⟩)] w fun r w' => r = .returned (.tuple #[.slice none 0 0, .int .i64 71]) ∧ Apart [] w w' := by
  have z : w.cell? ⟨V, 0, none⟩ = some (.iface 104 (.agg cs)) := by rw [cell_of_row _ _ _ _ _ _ hV]; rfl
  have hm := fun wx => mr_form2 cs wx
  have HC := hid hc
  have Hl := hid hl
  clear hV hc hl
  go_enter Tryz.func17, Tryz.ntmps17
  go_upto_region 2 with (go_at_call 113; refine HC.out.mono ?_; rintro _ w1 ⟨s, rfl, b1⟩; have HB := hid b1; clear b1)
  have hn : ((s.n : Nat) : Int) > 64 := by have h1 := HB.out.len; have h2 := Hl.out; omega
  go_wp2_with fail
  go_ret2
  exact ⟨rfl, HB.out.nw.ap⟩
set_option maxRecDepth 100000 in
theorem Bytes3_w {w : World} {V : Nat} {cs : Array Value} {bs : List Nat} (hV : Bd w V (.iface 106 (.agg cs))) (hc : Calls Tryz.prog 128 #[.agg cs] w fun r w' => ∃ s, r = .returned (.slice s.p s.n s.c) ∧ Bf w w' s bs) (hl : 64 < bs.length) : Calls Tryz.prog 17 #[.pointer (some ⟨V, 0, none⟩)] w fun r w' => r = .returned (.tuple #[.slice none 0 0, .int .i64 71]) ∧ Apart [] w w' := by
  have z : w.cell? ⟨V, 0, none⟩ = some (.iface 106 (.agg cs)) := by rw [cell_of_row _ _ _ _ _ _ hV]; rfl
  have hm := fun wx => mr_form3 cs wx
  have HC := hid hc
  have Hl := hid hl
  clear hV hc hl
  go_enter Tryz.func17, Tryz.ntmps17
  go_upto_region 2 with (go_at_call 128; refine HC.out.mono ?_; rintro _ w1 ⟨s, rfl, b1⟩; have HB := hid b1; clear b1)
  have hn : ((s.n : Nat) : Int) > 64 := by have h1 := HB.out.len; have h2 := Hl.out; omega
  go_wp2_with fail
  go_ret2
  exact ⟨rfl, HB.out.nw.ap⟩
set_option maxRecDepth 100000 in
theorem Bytes4_w {w : World} {V : Nat} {cs : Array Value} {bs : List Nat} (hV : Bd w V (.iface 108 (.agg cs))) (hc : Calls Tryz.prog 133 #[.agg cs] w fun r w' => ∃ s, r = .returned (.slice s.p s.n s.c) ∧ Bf w w' s bs) (hl : 64 < bs.length) : Calls Tryz.prog 17 #[.pointer (some ⟨V, 0, none⟩)] w fun r w' => r = .returned (.tuple #[.slice none 0 0, .int .i64 71]) ∧ Apart [] w w' := by
  have z : w.cell? ⟨V, 0, none⟩ = some (.iface 108 (.agg cs)) := by rw [cell_of_row _ _ _ _ _ _ hV]; rfl
  have hm := fun wx => mr_form4 cs wx
  have HC := hid hc
  have Hl := hid hl
  clear hV hc hl
  go_enter Tryz.func17, Tryz.ntmps17
  go_upto_region 2 with (go_at_call 133; refine HC.out.mono ?_; rintro _ w1 ⟨s, rfl, b1⟩; have HB := hid b1; clear b1)
  have hn : ((s.n : Nat) : Int) > 64 := by have h1 := HB.out.len; have h2 := Hl.out; omega
  go_wp2_with fail
  go_ret2
  exact ⟨rfl, HB.out.nw.ap⟩
theorem Bytes_wide {w : World} {V : Nat} {v : Vl} (hV : Ho w V v) (ok : OkF v) (hl : 64 < (formV v).length) : Calls Tryz.prog 17 #[.pointer (some ⟨V, 0, none⟩)] w fun r w' => r = .returned (.tuple #[.slice none 0 0, .int .i64 71]) ∧ Apart [] w w' := by
  cases v using Vl.el with
  | cnt u d => exact Bytes1_w hV (cform_ok ok.1 ok.2) hl
  | set c es =>
    obtain ⟨s, h1, h2⟩ := hV
    exact Bytes2_w h1 (sform_ok ok.1 h2 ok.2.1 ok.2.2) hl
  | flg c g => exact Bytes3_w hV (fform_ok ok.1 ok.2) hl
  | rgs s a t =>
    obtain ⟨n, rfl⟩ := Int.eq_ofNat_of_zero_le ok.1
    obtain ⟨b, rfl⟩ := Int.eq_ofNat_of_zero_le ok.2.1
    exact Bytes4_w hV (gform_ok ok.2.2) hl
/-- what Bytes answers -/
def bzV (v : Vl) : List Nat := if (formV v).length ≤ 64 then formV v else []
def wzV (v : Vl) : Int := if (formV v).length ≤ 64 then 0 else 71
/-- bytes that can be read -/
structure Bq (w : World) (s : Sl) (bs : List Nat) : Prop where
  rd : Rd w s.p (byts bs)
  len : bs.length = s.n
  ok : s.ok
theorem Bq.kept0 {w w' : World} {s : Sl} {bs : List Nat} (h : Bq w s bs) (a : Apart [] w w') : Bq w' s bs := ⟨h.rd.kept0 a, h.len, h.ok⟩
end Go.Proofs.YtdbeeikjngnnnaaGreat.ty
namespace Go.Proofs.YtdbeeikjngnnnaaGreat.ty
open Go.ChangeShapes Go.WideShapes Go.ChangeAt Go.RowKit
set_option linter.unusedVariables false
set_option linter.unusedSimpArgs false
theorem alikeq {w : World} {a b : Sl} {us : List Nat} (ha : Bq w a us) (hb : Bq w b us) : Calls Tryz.prog 18 #[.slice a.p a.n a.c, .slice b.p b.n b.c] w fun r w' => r = .returned (.bool true) ∧ w' = w := alike_yes ha.rd ha.len ha.ok hb.rd hb.len hb.ok
theorem Gv.bq {w : World} {sl : Sl} {bs : List Nat} (h : Gv w sl bs) : Bq w sl bs := ⟨h.rd, h.len, h.ok⟩
set_option maxRecDepth 100000 in
theorem lent_ok {w : World} {sl : Sl} {bs : List Nat} (h : Gv w sl bs) : Calls Tryz.prog 35 #[.slice sl.p sl.n sl.c] w fun r w' => ∃ s' : Sl, r = .returned (.slice s'.p s'.n s'.c) ∧ Bf w w' s' (bs ++ [7, 8]) := by
  obtain ⟨s1, w1, hrun1, n1, l1, a1⟩ := copyB h
  have HR1 := hid hrun1
  obtain ⟨i0, hif, hz0, hz1, hz2⟩ := info_of info5
  have hle := h.le
  have hln := h.len
  obtain ⟨s5, w5, hrun, hnw5, hs5, ap5, -⟩ := run_appM (s := s1) 29 29 5 i0 _ 1 1 Tryz.underlying29 hif hz0 hz1 hz2 rfl (by decide) n1 2 (byts [7, 8]) (by decide) rfl (oneB _) (by unfold maxLen; omega) (by omega)
  have HR5 := hid hrun
  have HB : Hid (Bf w w5 s5 (bs ++ [7, 8])) := hid ⟨by rw [byts_app]; exact hnw5, by rw [hs5, List.length_append, l1, hln]; rfl⟩
  clear hrun1 n1 l1 a1 hrun hnw5 hs5 ap5 hif hz0 hz1 hz2 hle hln h
  go_enter Tryz.func35, Tryz.ntmps35
  go_upto_region 2 with (at_builtin; refine wpList_app2 rfl _ _ 29 29 rfl _ _ rfl rfl (.slice s1.p s1.n s1.c) w1 HR1.out ?_)
  go_wp2_with (refine wpList_append3 rfl _ _ 29 rfl _ _ rfl rfl (.slice s5.p s5.n s5.c) w5 HR5.out ?_)
  go_ret
  exact ⟨s5, rfl, HB.out⟩
theorem Bq.pre {w : World} {s : Sl} {us vs : List Nat} (h : Bq w s (us ++ vs)) {k : Nat} (hk : k = us.length) : Bq w (s.preB k) us := by
  have h1 := h.len
  rw [List.length_append] at h1
  refine ⟨fun h0 => ?_, hk.symm, Sl.preB_ok h.ok (by omega)⟩
  have h2 := h.rd
  rw [byts_app] at h2
  obtain ⟨P, o, e1, hb, hc⟩ := h2 (by rw [List.length_append]; omega)
  refine ⟨P, o, ?_, hb, fun j u hj => hc j u ?_⟩
  · simp only [Sl.preB, e1, Option.map_some, Addr.add_lit, Nat.zero_mul, Nat.add_zero, ite_self]
  · rw [List.getElem?_append_left (by have := (List.getElem?_eq_some_iff.1 hj).1; exact this)]; exact hj
set_option maxHeartbeats 2000000 in
set_option maxRecDepth 100000 in
/-- back, where all is as it was -/
theorem back_ok {w0 w : World} {s q : Sl} {bs : List Nat} (hs : Bf w0 w s (bs ++ [7, 8])) (hq : Gv w q bs) : Calls Tryz.prog 41 #[.slice s.p s.n s.c, .slice q.p q.n q.c] w fun r w' => r = .returned (.bool true) ∧ Apart s.v.ownBlock.toList w w' := by
  have hle := hq.le
  have hn := hs.len
  rw [List.length_append] at hn
  have hn2 : s.n = bs.length + 2 := hn
  obtain ⟨n, Hn⟩ : ∃ n, Hid (n = bs.length) := ⟨_, hid rfl⟩
  have hqn : q.n = n := by rw [Hn.out]; exact hq.len.symm
  have hsn : s.n = n + 2 := by rw [Hn.out]; exact hn2
  have hn20 : n ≤ 2000000 := by rw [Hn.out]; exact hle
  obtain ⟨g, hp, hg, hz7, -, ⟨cur, hcur⟩, -⟩ := hs.set n (by rw [List.length_append, Hn.out]; simp)
  obtain ⟨g', hp', -, hz8, -, -, -⟩ := hs.set (n + 1) (by rw [List.length_append, Hn.out]; simp)
  obtain rfl : g = g' := by rw [hp] at hp'; simpa using hp'
  have e7 : (bs ++ [7, 8]).getD n 0 = 7 := by rw [Hn.out, List.getD_eq_getElem?_getD, List.getElem?_append_right (by omega)]; simp
  have e8 : (bs ++ [7, 8]).getD (n + 1) 0 = 8 := by rw [Hn.out, List.getD_eq_getElem?_getD, List.getElem?_append_right (by omega)]; simp
  rw [e7] at hz7
  rw [e8] at hz8
  have Hob : Hid (s.v.ownBlock = some g) := hid (by rw [Sl.v, hp]; rfl)
  have hsc : n ≤ s.c := by have := hs.nw.cap; omega
  have HAl := hid (alikeq (Bq.pre (k := n) ⟨hs.nw.rd, hs.len.symm, hs.nw.ok⟩ Hn.out) hq.bq)
  rw [hqn] at HAl
  have HB := hid hs
  have HP := hid hp
  have HA0 : Hid (Apart s.v.ownBlock.toList w w) := hid (Apart.refl _ _)
  have hlt0 : (0 : Int) ≤ ((n : Nat) : Int) ∧ ((n : Nat) : Int) < ((n + 2 : Nat) : Int) := by omega
  have hw1 : wrap64 (((n : Nat) : Int) + 1) = ((n + 1 : Nat) : Int) := by rw [IntWalk.wrap64_in _ (by omega)]; omega
  clear hle hn hn2 e7 e8 hcur hp' hs hq
  rw [hp, hsn, hqn]
  have HSl : Hid (Value.slice (s.preB n).p (s.preB n).n (s.preB n).c = Value.slice (s.preB n).p (s.preB n).n (s.preB n).c) := hid rfl
  go_enter Tryz.func41, Tryz.ntmps41
  go_upto_region 3 with (first
    | refine wpL_val rfl (.slice (s.preB n).p (s.preB n).n (s.preB n).c) (ex_preB s n _ _ rfl (by rw [HP.out, hsn]; rfl) rfl hsc) ?_
    | (go_at_call 18; refine HAl.out.mono ?_; rintro _ wn ⟨rfl, hwn⟩; rw [hwn]; clear hwn))
  clear hz7 hz8 hlt0 hw1
  obtain ⟨N, HN⟩ : ∃ N, Hid (N = n + 2) := ⟨_, hid rfl⟩
  have hN : N ≤ 3000000 := by have := HN.out; omega
  rw [← HN.out]
  go_wp2_with fail
  go_loopw [7] (fun v7 wt => ∃ (i : Nat) (us : List Nat), v7 = .int .i64 (i : Int) ∧ i ≤ N ∧ Hid (us.length = N) ∧ Hid (Bf w0 wt s us) ∧ Hid (Apart s.v.ownBlock.toList w wt)) (fun v7 _ => N - natV v7)
  case atStart => exact ⟨0, bs ++ [7, 8], rfl, Nat.zero_le _, hid (by rw [List.length_append, HN.out, Hn.out]; rfl), HB, HA0⟩
  case round =>
    clear HB HA0
    obtain ⟨i, us, rfl, hi, Hul, HB, HA⟩ := hrel
    generalize wr = wt at *
    by_cases hlt : i < N
    · have hlti : ((i : Nat) : Int) < ((N : Nat) : Int) := by omega
      have hlt0 : (0 : Int) ≤ ((i : Nat) : Int) ∧ ((i : Nat) : Int) < ((N : Nat) : Int) := by omega
      obtain ⟨g2, hp2, hg2, hz, hf, -, hset⟩ := HB.out.set i (by rw [Hul.out]; exact hlt)
      obtain rfl : g = g2 := by
        have h1 := HP.out
        rw [hp2] at h1
        simpa using h1.symm
      have HB2 := hid (hset wt 85 (Apart.refl [] wt))
      have HA2 : Hid (Apart s.v.ownBlock.toList w (wt.setCell ⟨g, i, none⟩ (.int .u8 ((85 : Nat) : Int)))) := hid (HA.out.setCell (.inl (by rw [Hob.out]; simp)) _)
      clear hset hp2 hg2
      go_wp2_with fail
      exact ⟨⟨i + 1, us.set i 85, by go_num, by omega, hid (by rw [List.length_set]; exact Hul.out), HB2, HA2⟩, by simp [natV]; omega⟩
    · have hlti : ¬ ((i : Nat) : Int) < ((N : Nat) : Int) := by omega
      go_wp2_with fail
      go_ret
      exact ⟨rfl, HA.out⟩
end Go.Proofs.YtdbeeikjngnnnaaGreat.ty
