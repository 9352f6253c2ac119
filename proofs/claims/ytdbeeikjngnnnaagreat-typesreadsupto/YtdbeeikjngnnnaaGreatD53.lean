import Derived.Test.YtdbeeikjngnnnaaGreatChecked
import Derived.WalkKit
import Derived.ProofKit
import Derived.OpenShut
import Derived.Deep.QuietTactic
import Derived.BigQuiet
import Derived.BigRegion
import Derived.Laws.CopyOwn
import Derived.Laws.IdiomCopy
import Derived.WalkSmall
import Derived.Laws.ResultCell
import Derived.Laws.AppendOwnNone
import Derived.Deep.RegionHeld
import Derived.Deep.DeepAppendRoom
import Derived.Great.BuildSlice
import Derived.Deep.CutBlock
import Derived.Deep.RegionLaw
import Derived.ArgAppend
import Derived.Laws.Strings
import Derived.Laws.StructEq
import Derived.Below
import Derived.Deep.MidRow
import Derived.Great.Ranges
import Derived.Deep.RegionHeld3
import Derived.Laws.NewBlocks
import Derived.OrdersHeld
import Derived.Stop.BytesEq
import Derived.Laws.BytesString
import Derived.Lib.ConvBytes
import Derived.Laws.BitsAllLaws
import Derived.WalkLawsBesides
import Derived.Lib.Bytealg
import Derived.Laws.Externs
import Derived.Lib.SliceRun
import Derived.Lib.AppendZerosOnto
import Derived.Lib.AppendStr
import Derived.Lib.SlBytesConst
import Derived.Sort.Walk0
import Derived.Laws.Cover1
import Derived.Lib.Strings
import Derived.Lib.MinMaxS
import GoSem.Claim
import GoSem.ClaimJoined
import GoSem.ClaimMapViews
import Derived.JoinedTies
import Derived.KernelRfl
import Derived.JoinedCond
import Derived.ShutString
import Derived.ChangeOld
import Derived.Carry
import Derived.ChangeSlices
import Derived.Deep.Slices
import Derived.Deep.DeepHandedRow
import Derived.RowKit
import Derived.ChangeShapes
import Derived.SizedLaws
import Derived.ChangeMaps5
import Derived.Sort.WalkA
import Derived.Test.YtdbeeikjngnnnaaGreatRows
import Derived.Test.YtdbeeikjngnnnaaGreatD52
namespace Go.Proofs.YtdbeeikjngnnnaaGreat.ty
open Go.ChangeShapes Go.WideShapes Go.ChangeAt Go.RowKit
set_option linter.unusedVariables false
set_option linter.unusedSimpArgs false
variable {wB w w' w2 : World} {T k : Nat} {p r : Nat → Nat} {v : Nat → Vl} {ts : Nat → List Tg} {H L : List Sl} {sH sL : Sl} {h : Nat → Prop}
set_option maxRecDepth 100000 in
theorem rbytes_few {w : World} {O : Nat} {v : Vl} {ts : List Tg} {s : Sl} (h : Dk w O (rvO v ts) s) (hr : Rl v ts) (iv : Iv v) (hl : (formV v).length ≤ 64) : Calls Tryz.prog 23 #[.pointer (some ⟨O, 0, none⟩)] w fun x w' => ∃ s' : Sl, x = .returned (.tuple #[.slice s'.p s'.n s'.c, .int .i64 0]) ∧ Bf w w' s' (formV v) := by
  have HF := hid (dform_any h hr iv)
  have Hl := hid hl
  clear h hr iv hl
  go_enter Tryz.func23, Tryz.ntmps23
  go_upto_region 2 with (
    go_at_call 44
    refine HF.out.mono ?_
    rintro _ w3 ⟨s3, rfl, b3⟩
    have HB := hid b3
    clear b3)
  have hn : ¬ ((s3.n : Nat) : Int) > 64 := by have h1 := HB.out.len; have h2 := Hl.out; omega
  go_wp2_with fail
  go_ret2
  exact ⟨s3, rfl, HB.out⟩
set_option maxRecDepth 100000 in
theorem rbytes_wide {w : World} {O : Nat} {v : Vl} {ts : List Tg} {s : Sl} (h : Dk w O (rvO v ts) s) (hr : Rl v ts) (iv : Iv v) (hl : ¬ (formV v).length ≤ 64) : Calls Tryz.prog 23 #[.pointer (some ⟨O, 0, none⟩)] w fun x w' => x = .returned (.tuple #[.slice none 0 0, .int .i64 71]) ∧ Apart [] w w' := by
  have HF := hid (dform_any h hr iv)
  have Hl := hid hl
  clear h hr iv hl
  go_enter Tryz.func23, Tryz.ntmps23
  go_upto_region 2 with (
    go_at_call 44
    refine HF.out.mono ?_
    rintro _ w3 ⟨s3, rfl, b3⟩
    have HB := hid b3
    clear b3)
  have hn : ((s3.n : Nat) : Int) > 64 := by have h1 := HB.out.len; have h2 := Hl.out; omega
  go_wp2_with fail
  go_ret2
  exact ⟨rfl, HB.out.nw.ap⟩
set_option maxHeartbeats 4000000 in
set_option maxRecDepth 100000 in
theorem step9 (t : Tb wB w T k p r v ts H L sH sL h) {I J a b : Int} {on : Bool} {sl : Sl} {bs : List Nat} (gv : Gv w sl bs) (hcp : sl.n ≤ sl.c) : Calls Tryz.prog 11 #[.pointer (some ⟨T, 0, none⟩), .agg (opC 9 I J a b on sl)] w fun x w' => StP wB T k H L x w' := by
  obtain ⟨i, hi, hmask⟩ := mask3 I
  obtain ⟨j, hj, hmask2⟩ := mask3 J
  have HT := hid t
  have Hi := hid hi
  have Hj := hid hj
  have Hi4 : Hid (¬ (4 : Int) ≤ (i : Int)) := hid (by omega)
  have HGv := hid gv
  have Hcp := hid hcp
  clear gv hcp
  obtain ⟨A, HAe⟩ : ∃ A, Hid (A = w.heap.size) := ⟨_, hid rfl⟩
  obtain ⟨w1, Hw1⟩ : ∃ W, Hid (W = w.alloc (.cells (opC 9 I J a b on sl) 31)) := ⟨_, hid rfl⟩
  have HA1 : Hid (Apart [] w w1) := hid (by rw [Hw1.out]; exact (Apart.refl [] w).alloc _)
  have HBA : Hid (w1.heap[A]? = some (.cells (opC 9 I J a b on sl) 31 (0, 0))) := hid (by rw [HAe.out, Hw1.out]; exact heap_alloc_new w _)
  have HT1 := hid (HT.out.kept0 HA1.out)
  have za0 : w1.cell? ⟨A, 0, none⟩ = some (.int .i64 9) := by rw [cell_of_row _ _ _ _ _ _ HBA.out]; rfl
  have za1 : w1.cell? ⟨A, 1, none⟩ = some (.int .i64 I) := by rw [cell_of_row _ _ _ _ _ _ HBA.out]; rfl
  have za2 : w1.cell? ⟨A, 2, none⟩ = some (.int .i64 J) := by rw [cell_of_row _ _ _ _ _ _ HBA.out]; rfl
  have za6 : w1.cell? ⟨A, 6, none⟩ = some (.slice sl.p sl.n sl.c) := by rw [cell_of_row _ _ _ _ _ _ HBA.out]; rfl
  clear t hj hi
  go_enter Tryz.func11, Tryz.ntmps11
  go_upto_region 1 with fail
  rw [← HAe.out, ← Hw1.out]
  clear Hw1 HAe
  have HD := hid (reads_ok HT1.out Hi.out (HGv.out.kept0 HA1.out) Hcp.out)
  go_wp2_with (
    go_at_call 24
    refine HD.out.mono ?_
    rintro _ w2 ⟨rfl, hst⟩
    have HS := hid hst
    clear hst)
  go_ret
  exact ⟨rfl, HS.out⟩
set_option maxHeartbeats 4000000 in
set_option maxRecDepth 100000 in
theorem step7 (t : Tb wB w T k p r v ts H L sH sL h) {I J a b : Int} {on : Bool} {sl : Sl}  : Calls Tryz.prog 11 #[.pointer (some ⟨T, 0, none⟩), .agg (opC 7 I J a b on sl)] w fun x w' => StP wB T k H L x w' := by
  obtain ⟨i, hi, hmask⟩ := mask3 I
  obtain ⟨j, hj, hmask2⟩ := mask3 J
  have HT := hid t
  have Hi := hid hi
  have Hj := hid hj
  have Hi4 : Hid (¬ (4 : Int) ≤ (i : Int)) := hid (by omega)
  obtain ⟨A, HAe⟩ : ∃ A, Hid (A = w.heap.size) := ⟨_, hid rfl⟩
  obtain ⟨w1, Hw1⟩ : ∃ W, Hid (W = w.alloc (.cells (opC 7 I J a b on sl) 31)) := ⟨_, hid rfl⟩
  have HA1 : Hid (Apart [] w w1) := hid (by rw [Hw1.out]; exact (Apart.refl [] w).alloc _)
  have HBA : Hid (w1.heap[A]? = some (.cells (opC 7 I J a b on sl) 31 (0, 0))) := hid (by rw [HAe.out, Hw1.out]; exact heap_alloc_new w _)
  have HT1 := hid (HT.out.kept0 HA1.out)
  have za0 : w1.cell? ⟨A, 0, none⟩ = some (.int .i64 7) := by rw [cell_of_row _ _ _ _ _ _ HBA.out]; rfl
  have za1 : w1.cell? ⟨A, 1, none⟩ = some (.int .i64 I) := by rw [cell_of_row _ _ _ _ _ _ HBA.out]; rfl
  have za2 : w1.cell? ⟨A, 2, none⟩ = some (.int .i64 J) := by rw [cell_of_row _ _ _ _ _ _ HBA.out]; rfl
  clear t hj hi
  go_enter Tryz.func11, Tryz.ntmps11
  go_upto_region 1 with fail
  rw [← HAe.out, ← Hw1.out]
  clear Hw1 HAe
  obtain ⟨si, hsi⟩ := HT1.out.rv i Hi.out
  have HDi := hid hsi
  clear hsi
  go_upto_region 11 with fail
  have zr := HT1.out.cr Hi.out
  have hi4 := Hi4.out
  by_cases hf : (formV (v i)).length ≤ 64
  · have Hf := hid hf
    clear hf
    have HB := hid (rbytes_few HDi.out (HT1.out.rl i Hi.out) (HT1.out.iv i Hi.out) Hf.out)
    have Hu8 : Hid (U8 (formV (v i))) := hid (formV_u8 _)
    have HJ : Hid (∀ W (s2 : Sl), Bf w1 W s2 (formV (v i)) → Calls Tryz.prog 24 #[.pointer (some ⟨T, 0, none⟩), .int .i64 (j : Int), .slice s2.p s2.n s2.c] W fun x w' => StP wB T k H L x w') := hid (fun W s2 b2 => reads_ok (HT1.out.kept0 b2.nw.ap) Hj.out ⟨b2.nw.rd, b2.len.symm, b2.nw.ok, Hu8.out, by have := Hf.out; omega⟩ b2.nw.cap)
    go_upto_region 12 with (
      go_at_call 23
      refine HB.out.mono ?_
      rintro _ w2 ⟨s2, rfl, b2⟩
      have HJ2 := hid (HJ.out w2 s2 b2)
      clear b2)
    go_wp2_with (
      go_at_call 24
      refine HJ2.out.mono ?_
      rintro _ w3 ⟨rfl, hst⟩
      have HS := hid hst
      clear hst)
    go_ret
    exact ⟨rfl, HS.out⟩
  · have Hf := hid hf
    clear hf
    have HB := hid (rbytes_wide HDi.out (HT1.out.rl i Hi.out) (HT1.out.iv i Hi.out) Hf.out)
    go_upto_region 12 with (
      go_at_call 23
      refine HB.out.mono ?_
      rintro _ w2 ⟨rfl, a2⟩
      have HA2 := hid a2
      clear a2)
    go_wp2_with fail
    go_ret
    exact ⟨rfl, p, r, v, ts, H, L, sH, sL, h, HT1.out.kept0 HA2.out, by omega, by omega, fun x hx => .inl hx, fun x hx => .inl hx⟩
end Go.Proofs.YtdbeeikjngnnnaaGreat.ty
