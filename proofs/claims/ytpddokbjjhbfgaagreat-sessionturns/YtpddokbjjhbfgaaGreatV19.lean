import Derived.Test.YtpddokbjjhbfgaaGreatChecked
import Derived.WalkKit
import Derived.ProofKit
import Derived.Maps.OwnSet
import Derived.Maps.RangeWalk
import Derived.DeepKeys4
import Derived.MapViews
import Derived.StringKeys
import Derived.Lib.TrailingZeros
import Derived.OpenShut
import Derived.Deep.QuietTactic
import Derived.BigQuiet
import Derived.BigRegion
import Derived.Laws.CopyOwn
import Derived.Laws.Bits64b
import Derived.Laws.MathBits
import Derived.Laws.ShiftsVarLaws
import Derived.WalkSmall
import Derived.Laws.ResultCell
import Derived.Lib.BitFns
import Derived.Laws.StructEq
import Derived.Deep.RegionHeld
import Derived.ArgAppend
import Derived.Deep.RegionLaw
import Derived.Deep.DeepAppendRoom
import Derived.Sort.WalkA
import Derived.Laws.Strings
import Derived.Deep.CutBlock
import Derived.Great.BuildSlice
import Derived.Laws.AppendOwnNone
import Derived.Laws.BytesString
import Derived.Lib.Overlaps
import Derived.Lib.AppendZerosOnto
import Derived.Laws.NewBlocks
import Derived.Laws.Externs
import Derived.Laws.IdiomCopy
import Derived.RangeFuncNested
import Derived.RangeFuncBound
import Derived.RangeFuncCalls
import Derived.RangeFuncLeaves
import Derived.Shelf.Abstract
import Derived.Shelf.RegionOpen
import Derived.OwnWalkIn
import Derived.TacticsInMore
import Derived.LoopNIn
import Derived.LoopIn
import Derived.Deep.CutRange
import Derived.Deep.OwnRows
import Derived.Lib.Walk
import Derived.Lib.SliceRun
import GoSem.Claim
import GoSem.ClaimJoined
import GoSem.ClaimMapViews
import Derived.JoinedTies
import Derived.KernelRfl
import Derived.Lib.LaidTab
import Derived.JoinedCond
import Derived.ShutString
import Derived.ChangeOld
import Derived.Below
import Derived.Carry
import Derived.ChangeSlices
import Derived.Deep.Slices
import Derived.Deep.DeepHandedRow
import Derived.RowKit
import Derived.ChangeShapes
import Derived.SizedLaws
import Derived.ChangeMaps5
import Derived.OrdersHeld
import Derived.Lib.AppendStr
import Derived.Lib.ConvBytes
import Derived.Deep.RegionHeld3
import Derived.Deep.MidRow
import Derived.Laws.BitsAllLaws
import Derived.Sort.Grow
import Derived.Shelf.SlSortCmp.WholeK
import Derived.Shelf.Lay
import Derived.Ground.SlsfProg
import Derived.Sort.LotA
import Derived.Sort.MapsRangeIn
import Derived.RangeFuncSeq
import Derived.RangeFuncKeeps
import Derived.Maps.AppendAt
import Derived.OwnWalk
import Derived.Test.YtpddokbjjhbfgaaGreatRows
import Derived.Test.YtpddokbjjhbfgaaGreatV17
namespace Go.Proofs.YtpddokbjjhbfgaaGreat.rg
open Go.ChangeShapes Go.WideShapes Go.ChangeAt Go.RowKit Go.Sort
set_option linter.unusedVariables false
set_option linter.unusedSimpArgs false
def strN (s : ByteArray) : List Nat := s.data.toList.map UInt8.toNat
theorem strN_len (s : ByteArray) : (strN s).length = s.size := by simp [strN]
theorem strN_get (s : ByteArray) (j : Nat) (hj : j < s.size) : (strN s).getD j 0 = (s.data.toList.getD j 0).toNat := by
  have h1 : j < s.data.toList.length := by simpa using hj
  simp [strN, List.getD_eq_getElem?_getD, List.getElem?_eq_getElem h1]
theorem strN_lt (s : ByteArray) : ∀ x ∈ strN s, x < 256 := by
  intro x hx
  simp only [strN, List.mem_map] at hx
  obtain ⟨b, _, rfl⟩ := hx
  exact b.toNat_lt
theorem bytes_apart (w : World) (e : TypeId) (s : ByteArray) : Apart [] w (Lib.bytesWorld w e s) :=
  ⟨rfl, rfl, rfl, by rw [Lib.bytesWorld_size]; omega, fun k hk _ => Lib.bytesWorld_at_old w e s k hk⟩
theorem bytes_by (w : World) (e : TypeId) (s : ByteArray) : By (Lib.bytesWorld w e s) (some ⟨w.heap.size, 0, none⟩) s.size (strN s) := by
  refine ⟨strN_len s, strN_lt s, fun h0 => ⟨w.heap.size, 0, rfl, by rw [Lib.bytesWorld_size]; omega, fun i hi => ?_⟩⟩
  rw [strN_len] at hi
  rw [Nat.zero_add, Lib.bytesWorld_cell w e s i hi, strN_get s i hi]
set_option maxHeartbeats 2000000 in
set_option maxRecDepth 100000 in
theorem range_ok {w : World} {R n m : Nat} (G : Rg w R n m) (s : ByteArray) (hs : s.size ≤ 9223372036854775807) : Calls Tryz.prog 22 #[.pointer (some ⟨R, 0, none⟩), .string s] w fun r w' => r = .returned (.int .i64 (hashN (strN s) % m : Nat)) ∧ Apart [] w w' := by
  have r1 : ∀ X, Apart [] w X → X.cell? ⟨R, 1, none⟩ = some (.int .i64 (m : Nat)) := fun X a => (a.cell (p := ⟨R, 1, none⟩) G.lt (by simp)).trans G.c1
  have hm1 := G.m1
  have hm16 := G.m16
  have aD : Apart [] w w.drew := (Apart.refl _ _).drew
  have hconv := Lib.run_convert_string_bytes (P := Tryz.prog) w.drew 9 35 5 s Tryz.underlying9 Tryz.underlying35 Tryz.underlying5
  have aB : Apart [] w (Lib.bytesWorld w.drew 5 s) := aD.trans (bytes_apart w.drew 5 s)
  have hBy := bytes_by w.drew 5 s
  have hwm : IntKind.u32.wrap (m : Int) = (m : Int) := by simp [IntKind.wrap, IntKind.bits, IntKind.signed]; omega
  have hh := hashN_lt (strN s)
  have hm0 : ¬ ((m : Int) = 0) := by omega
  obtain ⟨cb, Hcb⟩ : ∃ cb, Hid (cb = grownCap w.drew s.size 0 5) := ⟨_, rfl⟩
  rw [← Hcb.out] at hconv
  generalize Lib.bytesWorld w.drew 5 s = Z at *
  obtain ⟨h, Hh⟩ : ∃ h, Hid (h = hashN (strN s)) := ⟨_, rfl⟩
  obtain ⟨q, Hq⟩ : ∃ q, Hid (q = h % m) := ⟨_, rfl⟩
  have hlt : q < 16 := by rw [Hq.out]; exact Nat.lt_of_lt_of_le (Nat.mod_lt _ (by omega)) hm16
  have hrem : ((h : Int)).tmod (m : Int) = (q : Int) := by rw [Hq.out, Int.ofNat_tmod]
  have hwq : IntKind.i64.wrap (q : Int) = (q : Int) := by simp [IntKind.wrap, IntKind.bits, IntKind.signed]; omega
  have hm00 : ¬ m = 0 := by omega
  rw [← Hh.out] at hh ⊢
  rw [← Hq.out]
  go_enter Tryz.func22, Tryz.ntmps22
  go_wp2_with fail
  refine wp_region_held_drew (S := fun X => Apart [] w X) (by kernel_rfl) aD (fun hHeld => ?_)
  refine wpAnyH_take (i := 0) (oi := ⟨some 5, _, _, _, _, _⟩) (v := (.string s)) rfl (by kernel_rfl) (by kernel_rfl) (by kernel_rfl) (fun _ _ _ h => h) (Or.inl ⟨by rfl, ?_⟩) (by assumption) ?_
  · intro W hSW; go_simp
  simp only [Act.put, List.setIfInBounds_toArray, List.set_cons_zero, List.set_cons_succ]
  refine wpAnyH_take (i := 3) (oi := ⟨some 8, _, _, _, _, _⟩) (v := (.pointer (some ⟨R, 0, none⟩))) rfl (by kernel_rfl) (by kernel_rfl) (by kernel_rfl) (fun _ _ _ h => h) (Or.inl ⟨by rfl, ?_⟩) (by assumption) ?_
  · intro W hSW; go_simp
  simp only [Act.put, List.setIfInBounds_toArray, List.set_cons_zero, List.set_cons_succ]
  refine wpAnyH_take (i := 4) (oi := ⟨some 9, _, _, _, _, _⟩) (v := (.pointer (some ⟨R, 0, none⟩))) rfl (by kernel_rfl) (by kernel_rfl) (by kernel_rfl) (fun _ _ _ h => h) (Or.inl ⟨by rfl, ?_⟩) (by assumption) ?_
  · intro W hSW; go_simp
  simp only [Act.put, List.setIfInBounds_toArray, List.set_cons_zero, List.set_cons_succ]
  refine wpAnyH_take (i := 5) (oi := ⟨some 10, _, _, _, _, _⟩) (v := (.pointer (some ⟨R, 1, none⟩))) rfl (by kernel_rfl) (by kernel_rfl) (by kernel_rfl) (fun _ _ _ h => h) (Or.inl ⟨by rfl, ?_⟩) (by assumption) ?_
  · intro W hSW; go_simp
  simp only [Act.put, List.setIfInBounds_toArray, List.set_cons_zero, List.set_cons_succ]
  refine wpAnyH_take (i := 6) (oi := ⟨some 11, _, _, _, _, _⟩) (v := (.int .i64 (m : Nat))) rfl (by kernel_rfl) (by kernel_rfl) (by kernel_rfl) (fun _ _ _ h => h) (Or.inl ⟨by rfl, ?_⟩) (by assumption) ?_
  · intro W hSW; go_simp
  simp only [Act.put, List.setIfInBounds_toArray, List.set_cons_zero, List.set_cons_succ]
  refine wpAnyH_take (i := 7) (oi := ⟨some 12, _, _, _, _, _⟩) (v := (.int .u32 (m : Nat))) rfl (by kernel_rfl) (by kernel_rfl) (by kernel_rfl) (fun _ _ _ h => h) (Or.inl ⟨by rfl, ?_⟩) (by assumption) ?_
  · intro W hSW; go_simp
  simp only [Act.put, List.setIfInBounds_toArray, List.set_cons_zero, List.set_cons_succ]
  refine wpAnyH_ready (rs := [1]) (by kernel_rfl) (by simp) ?_
  refine AllReadyH.cons rfl (fun KK hKK => ?_) AllReadyH.nil
  go_simp
  refine hKK.out _ _ (by assumption) (fun hHeld => ?_)
  clear hKK KK
  refine wpAnyH_ready (rs := [2]) (by kernel_rfl) (by simp) ?_
  refine AllReadyH.cons rfl (fun KK hKK => ?_) AllReadyH.nil
  go_simp
  refine (hash_ok hBy (by omega)).mono ?_
  rintro r w2 ⟨rfl, rfl⟩
  dsimp only
  rw [← Hh.out]
  refine hKK.out _ _ (by assumption) (fun hHeld => ?_)
  clear hKK KK
  refine wpAnyH_take (i := 8) (oi := ⟨some 13, _, _, _, _, _⟩) (v := (.int .u32 (q : Nat))) rfl (by kernel_rfl) (by kernel_rfl) (by kernel_rfl) (fun _ _ _ h => h) (Or.inl ⟨by rfl, ?_⟩) (by assumption) ?_
  · intro W hSW; go_simp
  simp only [Act.put, List.setIfInBounds_toArray, List.set_cons_zero, List.set_cons_succ]
  refine wpAnyH_take (i := 9) (oi := ⟨some 14, _, _, _, _, _⟩) (v := (.int .i64 (q : Nat))) rfl (by kernel_rfl) (by kernel_rfl) (by kernel_rfl) (fun _ _ _ h => h) (Or.inl ⟨by rfl, ?_⟩) (by assumption) ?_
  · intro W hSW; go_simp
  simp only [Act.put, List.setIfInBounds_toArray, List.set_cons_zero, List.set_cons_succ]
  refine wpAnyH_take (i := 10) (oi := ⟨some 4, _, _, _, _, _⟩) (v := (.int .i64 (q : Nat))) rfl (by kernel_rfl) (by kernel_rfl) (by kernel_rfl) (fun _ _ _ h => h) (Or.inl ⟨by rfl, ?_⟩) (by assumption) ?_
  · intro W hSW; go_simp
  simp only [Act.put, List.setIfInBounds_toArray, List.set_cons_zero, List.set_cons_succ]
  refine wpAnyH_done (by kernel_rfl) ?_ _
  go_wp2_with fail
  go_ret
  exact ⟨rfl, by assumption⟩
end Go.Proofs.YtpddokbjjhbfgaaGreat.rg
