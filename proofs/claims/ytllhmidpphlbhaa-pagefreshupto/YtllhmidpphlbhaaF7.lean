import Derived.Deep.RegionHeld
import Derived.OrdersHeld
import Derived.WalkKit
import Derived.ProofKit
import Derived.Lib.TrailingZeros
import Derived.Test.YtllhmidpphlbhaaChecked
import Derived.OpenShut
import Derived.Deep.QuietTactic
import Derived.BigQuiet
import Derived.BigRegion
import Derived.Laws.CopyOwn
import Derived.Laws.Bits64b
import Derived.Laws.MathBits
import Derived.Laws.ShiftsVarLaws
import Derived.WalkSmall
import Derived.Laws.ResultCell
import Derived.Lib.BitFns
import Derived.Laws.StructEq
import Derived.ArgAppend
import Derived.Deep.RegionLaw
import Derived.Deep.DeepAppendRoom
import Derived.Sort.WalkA
import Derived.Laws.Strings
import Derived.Deep.CutBlock
import Derived.Great.BuildSlice
import Derived.Laws.AppendOwnNone
import Derived.Lib.Overlaps
import Derived.Lib.AppendZerosOnto
import Derived.Laws.NewBlocks
import Derived.Laws.Externs
import Derived.Laws.IdiomCopy
import Derived.Laws.BytesString
import Derived.Deep.CutRange
import Derived.RangeFuncNested
import Derived.RangeFuncBound
import Derived.RangeFuncCalls
import Derived.RangeFuncLeaves
import Derived.Shelf.Abstract
import Derived.Shelf.RegionOpen
import Derived.OwnWalkIn
import Derived.TacticsInMore
import Derived.LoopNIn
import Derived.LoopIn
import GoSem.Claim
import GoSem.ClaimJoined
import GoSem.ClaimMapViews
import Derived.JoinedTies
import Derived.KernelRfl
import Derived.Deep.OwnRows
import Derived.Lib.LaidTab
import Derived.JoinedCond
import Derived.ShutString
import Derived.ChangeOld
import Derived.Below
import Derived.Carry
import Derived.ChangeSlices
import Derived.Deep.Slices
import Derived.Deep.DeepHandedRow
import Derived.RowKit
import Derived.ChangeShapes
import Derived.SizedLaws
import Derived.ChangeMaps5
import Derived.Lib.Walk
import Derived.Lib.SliceRun
import Derived.Lib.AppendStr
import Derived.Lib.ConvBytes
import Derived.Deep.RegionHeld3
import Derived.Deep.MidRow
import Derived.Laws.MakeOwn
import Derived.Lib.SlBytesConst
import Derived.Test.YtllhmidpphlbhaaRows
import Derived.Test.YtllhmidpphlbhaaF6
namespace Go.Proofs.Ytllhmidpphlbhaa.ds
open Go.ChangeShapes Go.WideShapes Go.ChangeAt Go.RowKit
set_option linter.unusedVariables false
/-- the operation i is taken: its slot d, its value v -/
theorem tk {P : Program} {ops : Array Oper} {Q : Exit → Act → World → Prop} {md : Region.Mode} {S : World → Prop} {o1 o2 o3 o4 o5} (i d : Nat) (v : Value) {fuel : Nat} {listed : Array Bool} {a : Act} {w : World} (hi : ops[i]? = some ⟨some d, o1, o2, o3, o4, o5⟩) (hy : ∀ w, S w → (execOp a.eval ⟨some d, o1, o2, o3, o4, o5⟩).run P w = .ok (.value v) w)
    (h : wpAnyH P md ops Q S fuel (listed.setIfInBounds i true) (a.put (some d) v) w) (hs : Region.noSelect ops = true := by kernel_rfl) (hf : Region.free md ops listed i = true := by kernel_rfl) (hr : (Region.ready md ops listed).contains i = true := by kernel_rfl) (hQ : ∀ c a w, Q (.panic c) (a.put (some d) v) w → Q (.panic c) a w := by exact fun _ _ _ h => h) (hw : Region.wanted ⟨some d, o1, o2, o3, o4, o5⟩ (yielded ops a.tmps) = true := by rfl) (hS : S w := by assumption) : wpAnyH P md ops Q S (fuel + 1) listed a w :=
  wpAnyH_take hi hs hf hr hQ (Or.inl ⟨hw, hy⟩) hS h
/-- .. is passed over: it is not wanted -/
theorem tu {P : Program} {ops : Array Oper} {Q : Exit → Act → World → Prop} {md : Region.Mode} {S : World → Prop} {o1 o2 o3 o4 o5} (i d : Nat) {fuel : Nat} {listed : Array Bool} {a : Act} {w : World} (hi : ops[i]? = some ⟨some d, o1, o2, o3, o4, o5⟩)
    (h : wpAnyH P md ops Q S fuel (listed.setIfInBounds i true) (a.put (some d) undef) w) (hs : Region.noSelect ops = true := by kernel_rfl) (hf : Region.free md ops listed i = true := by kernel_rfl) (hr : (Region.ready md ops listed).contains i = true := by kernel_rfl) (hQ : ∀ c a w, Q (.panic c) (a.put (some d) undef) w → Q (.panic c) a w := by exact fun _ _ _ h => h) (hw : Region.wanted ⟨some d, o1, o2, o3, o4, o5⟩ (yielded ops a.tmps) = false := by kernel_rfl) (hS : S w := by assumption) : wpAnyH P md ops Q S (fuel + 1) listed a w :=
  wpAnyH_take hi hs hf hr hQ (Or.inr ⟨hw, rfl⟩) hS h
end Go.Proofs.Ytllhmidpphlbhaa.ds
namespace Go.Proofs.Ytllhmidpphlbhaa.ds
open Go.ChangeShapes Go.WideShapes Go.ChangeAt Go.RowKit Go.Sort
set_option linter.unusedVariables false
set_option linter.unusedSimpArgs false

theorem hid {p : Prop} (h : p) : Hid p := h
/-- a page's reader in memory -/
structure PR (w : World) (R P o c : Nat) (B : List Nat) (s : Ps) : Prop where
  blk : w.heap[R]? = some (.cells #[.slice (some ⟨P, o, none⟩) 2048 c, .int .i64 (s.at_ : Nat), .bool s.bad] 97 (0, 0))
  rd : Rd w (some ⟨P, o, none⟩) (byts B)
  len : B.length = 2048
  b8 : ∀ b ∈ B, b < 256
  le : s.at_ ≤ 2048
  cap : 2048 ≤ c
  ne : P ≠ R
theorem PR.lt {w : World} {R P o c : Nat} {B : List Nat} {s : Ps} (h : PR w R P o c B s) : P < w.heap.size := by
  obtain ⟨P', o', e, hP, _⟩ := h.rd (by simp [byts, h.len])
  simp at e; rw [e.1]; exact hP
theorem PR.kept {w w' : World} {R P o c : Nat} {B : List Nat} {s : Ps} {X : List Nat} (h : PR w R P o c B s) (a : Apart X w w') (hR : R ∉ X) (hP : P ∉ X) : PR w' R P o c B s :=
  { h with blk := (a.block _ (lt_of_heap h.blk) hR).trans h.blk, rd := h.rd.kept a (fun P' o' e => by simp at e; rw [← e.1]; exact hP) }
theorem PR.kept0 {w w' : World} {R P o c : Nat} {B : List Nat} {s : Ps} (h : PR w R P o c B s) (a : Apart [] w w') : PR w' R P o c B s := h.kept a (by simp) (by simp)
theorem PR.cells {w : World} {R P o c : Nat} {B : List Nat} {s : Ps} (h : PR w R P o c B s) : w.cell? ⟨R, 0, none⟩ = some (.slice (some ⟨P, o, none⟩) 2048 c) ∧ w.cell? ⟨R, 1, none⟩ = some (.int .i64 (s.at_ : Nat)) ∧ w.cell? ⟨R, 2, none⟩ = some (.bool s.bad) ∧ w.frozen? ⟨R, 1, none⟩ = false ∧ w.frozen? ⟨R, 2, none⟩ = false := by
  refine ⟨?_, ?_, ?_, frozen_of_row _ _ 1 _ _ h.blk, frozen_of_row _ _ 2 _ _ h.blk⟩
  · rw [cell_of_row _ _ _ _ _ _ h.blk]; rfl
  · rw [cell_of_row _ _ _ _ _ _ h.blk]; rfl
  · rw [cell_of_row _ _ _ _ _ _ h.blk]; rfl
theorem PR.move {w : World} {R P o c : Nat} {B : List Nat} {s : Ps} (h : PR w R P o c B s) (q : Nat) (hq : q ≤ 2048) : PR (w.setCell ⟨R, 1, none⟩ (.int .i64 (q : Nat))) R P o c B ⟨q, s.bad⟩ := by
  have a : Apart [R] w (w.setCell ⟨R, 1, none⟩ (.int .i64 (q : Nat))) := (Apart.refl _ _).setCell (.inl (by simp)) _
  refine { h with blk := ?_, rd := h.rd.kept a (fun P' o' e => by simp at e; rw [← e.1]; simp; exact h.ne), le := hq }
  have := heap_setCell_same w R 1 _ 97 (.int .i64 (q : Nat)) h.blk
  simpa using this
theorem PR.stop {w : World} {R P o c : Nat} {B : List Nat} {s : Ps} (h : PR w R P o c B s) : PR (w.setCell ⟨R, 2, none⟩ (.bool true)) R P o c B ⟨s.at_, true⟩ := by
  have a : Apart [R] w (w.setCell ⟨R, 2, none⟩ (.bool true)) := (Apart.refl _ _).setCell (.inl (by simp)) _
  refine { h with blk := ?_, rd := h.rd.kept a (fun P' o' e => by simp at e; rw [← e.1]; simp; exact h.ne) }
  have := heap_setCell_same w R 2 _ 97 (.bool true) h.blk
  simpa using this
theorem PR.byte {w : World} {R P o c : Nat} {B : List Nat} {s : Ps} (h : PR w R P o c B s) (i : Nat) (hi : i < 2048) : w.cell? ⟨P, o + i, none⟩ = some (.int .u8 ((B.getD i 0 : Nat) : Int)) := by
  have hl := h.len
  obtain ⟨P', o', e, hP, hc⟩ := h.rd (by simp [byts]; omega)
  simp at e
  rw [e.1, e.2]
  refine hc i _ ?_
  rw [byts, List.getElem?_map, List.getElem?_eq_getElem (by omega), List.getD_eq_getElem?_getD, List.getElem?_eq_getElem (by omega)]
  rfl
theorem PR.b {w : World} {R P o c : Nat} {B : List Nat} {s : Ps} (h : PR w R P o c B s) (i : Nat) : B.getD i 0 < 256 := by
  rw [List.getD_eq_getElem?_getD]
  cases hg : B[i]? with
  | none => simp
  | some b => simp; exact h.b8 b (List.mem_of_getElem? hg)
theorem le_snoc (B : List Nat) : ∀ (k q : Nat), le B (k + 1) q = le B k q + 256 ^ k * B.getD (q + k) 0
  | 0, q => by simp [le]
  | k + 1, q => by
    have ih := le_snoc B k (q + 1)
    show B.getD q 0 + 256 * le B (k + 1) (q + 1) = (B.getD q 0 + 256 * le B k (q + 1)) + 256 ^ (k + 1) * B.getD (q + (k + 1)) 0
    rw [ih, show q + 1 + k = q + (k + 1) from by omega, Nat.pow_succ, Nat.mul_add, Nat.mul_comm (256 ^ k) 256, Nat.mul_assoc]; omega
theorem or_add (a b i : Nat) (ha : a < 2 ^ i) (hb : b * 2 ^ i < 18446744073709551616) : a ||| b <<< i % 18446744073709551616 = a + b * 2 ^ i := by
  rw [Nat.shiftLeft_eq, Nat.mod_eq_of_lt hb, Nat.or_comm, ← Nat.shiftLeft_eq, ← Nat.shiftLeft_add_eq_or_of_lt ha, Nat.shiftLeft_eq]
  omega
theorem pow256 (i : Nat) : 256 ^ i = 2 ^ (8 * i) := by rw [Nat.pow_mul]
theorem or_nat (a b : Nat) (ha : a < 2 ^ 64) (hb : b < 2 ^ 64) : bits .or .u64 (a : Int) (b : Int) = ((a ||| b : Nat) : Int) := bits_or_u64_nat a b (by omega) (by omega)
theorem wrap_shl (d m : Nat) (h : d * 2 ^ m < 18446744073709551616) : IntKind.u64.wrap ((d : Int) * 2 ^ m) = ((d * 2 ^ m : Nat) : Int) := by
  rw [IntKind.wrap_u64]
  generalize hz : 2 ^ m = z at *
  have hz2 : (2 : Int) ^ m = (z : Int) := by rw [← hz]; simp
  rw [hz2, ← Int.natCast_mul]
  omega
theorem le_or {B : List Nat} (h8 : ∀ b ∈ B, b < 256) (i q d : Nat) (hi : i ≤ 7) (hd : d = B.getD (q + i) 0) (hd8 : d < 256) : d * 2 ^ (8 * i) < 18446744073709551616 ∧ bits .or .u64 ((le B i q : Nat) : Int) ((d * 2 ^ (8 * i) : Nat) : Int) = ((le B (i + 1) q : Nat) : Int) := by
  have h1 := le_lt h8 i q
  rw [pow256] at h1
  have h2 : 2 ^ (8 * i) ≤ 2 ^ 56 := Nat.pow_le_pow_right (by omega) (by omega)
  have h3 : d * 2 ^ (8 * i) ≤ 255 * 2 ^ 56 := Nat.mul_le_mul (by omega) h2
  have h4 : d * 2 ^ (8 * i) < 18446744073709551616 := by omega
  refine ⟨h4, ?_⟩
  rw [or_nat _ _ (by omega) (by omega)]
  have h5 := or_add (le B i q) d (8 * i) h1 h4
  rw [Nat.shiftLeft_eq, Nat.mod_eq_of_lt h4] at h5
  rw [h5, le_snoc, pow256, hd, Nat.mul_comm]
set_option maxHeartbeats 4000000 in
set_option maxRecDepth 100000 in
theorem peek_ok {w : World} {R P o c : Nat} {B : List Nat} {s : Ps} (h : PR w R P o c B s) (k : Nat) (hk : 1 ≤ k ∧ k ≤ 8) (hr : s.at_ + k ≤ 2048) :
    Calls Try.prog 97 #[.pointer (some ⟨R, 0, none⟩), .int .i64 (k : Nat)] w fun e w' => e = .returned (.int .u64 ((le B k s.at_ : Nat) : Int)) ∧ Apart [] w w' := by
  have HRB := hid h
  have hcap := h.cap
  obtain ⟨q, Hq⟩ : ∃ q, Hid (q = s.at_) := ⟨_, rfl⟩
  obtain ⟨t, Ht⟩ : ∃ t, Hid (t = q + k) := ⟨_, rfl⟩
  have HWs : Hid (IntKind.i64.wrap ((q : Int) + (k : Int)) = (t : Int)) := by unfold Hid; rw [IntKind.wrap_i64, Ht.out, Hq.out]; omega
  have HL : Hid (q + k ≤ 2048 ∧ 1 ≤ k ∧ k ≤ 8 ∧ 2048 ≤ c) := ⟨by rw [Hq.out]; omega, hk.1, hk.2, hcap⟩
  have HE : Hid (le B k s.at_ = le B k q) := by unfold Hid; rw [Hq.out]
  have HB8 : Hid (∀ i, B.getD i 0 < 256) := fun i => h.b i
  clear h hr hk hcap
  go_enter Try.func97, Try.ntmps97
  go_upto_region 2 with fail
  refine wp_region_held_drew (S := fun W => Apart [] w W) (by kernel_rfl) (Apart.refl [] w).drew (fun hHeld => ?_)
  have Twd : Hid (Apart [] w w.drew) := (Apart.refl [] w).drew
  have HC : Hid (∀ W, Apart [] w W → W.cell? ⟨R, 0, none⟩ = some (.slice (some ⟨P, o, none⟩) 2048 c) ∧ W.cell? ⟨R, 1, none⟩ = some (.int .i64 (q : Nat))) := fun W a => by
    have := (HRB.out.kept0 a).cells
    rw [Hq.out]; exact ⟨this.1, this.2.1⟩
  generalize w.drew = wd at *
  refine tk 0 8 (.pointer (some ⟨R, 0, none⟩)) rfl ?_ ?_
  · intro W hSW; go_simp
  simp only [Act.put, List.setIfInBounds_toArray, List.set_cons_zero, List.set_cons_succ]
  refine tk 1 9 (.pointer (some ⟨R, 0, none⟩)) rfl ?_ ?_
  · intro W hSW; go_simp
  simp only [Act.put, List.setIfInBounds_toArray, List.set_cons_zero, List.set_cons_succ]
  refine tk 2 10 (.pointer (some ⟨R, 0, none⟩)) rfl ?_ ?_
  · intro W hSW; go_simp
  simp only [Act.put, List.setIfInBounds_toArray, List.set_cons_zero, List.set_cons_succ]
  refine tk 3 11 (.slice (some ⟨P, o, none⟩) 2048 c) rfl ?_ ?_
  · intro W hSW; obtain ⟨z0, z1⟩ := HC.out W hSW; go_simp
  simp only [Act.put, List.setIfInBounds_toArray, List.set_cons_zero, List.set_cons_succ]
  refine tk 4 12 (.pointer (some ⟨R, 0, none⟩)) rfl ?_ ?_
  · intro W hSW; go_simp
  simp only [Act.put, List.setIfInBounds_toArray, List.set_cons_zero, List.set_cons_succ]
  refine tk 5 13 (.pointer (some ⟨R, 0, none⟩)) rfl ?_ ?_
  · intro W hSW; go_simp
  simp only [Act.put, List.setIfInBounds_toArray, List.set_cons_zero, List.set_cons_succ]
  refine tk 6 14 (.pointer (some ⟨R, 1, none⟩)) rfl ?_ ?_
  · intro W hSW; go_simp
  simp only [Act.put, List.setIfInBounds_toArray, List.set_cons_zero, List.set_cons_succ]
  refine tk 7 15 (.int .i64 (q : Nat)) rfl ?_ ?_
  · intro W hSW; obtain ⟨z0, z1⟩ := HC.out W hSW; go_simp
  simp only [Act.put, List.setIfInBounds_toArray, List.set_cons_zero, List.set_cons_succ]
  refine tk 8 16 (.pointer (some ⟨R, 0, none⟩)) rfl ?_ ?_
  · intro W hSW; go_simp
  simp only [Act.put, List.setIfInBounds_toArray, List.set_cons_zero, List.set_cons_succ]
  refine tk 9 17 (.pointer (some ⟨R, 0, none⟩)) rfl ?_ ?_
  · intro W hSW; go_simp
  simp only [Act.put, List.setIfInBounds_toArray, List.set_cons_zero, List.set_cons_succ]
  refine tk 10 18 (.pointer (some ⟨R, 1, none⟩)) rfl ?_ ?_
  · intro W hSW; go_simp
  simp only [Act.put, List.setIfInBounds_toArray, List.set_cons_zero, List.set_cons_succ]
  refine tk 11 19 (.int .i64 (q : Nat)) rfl ?_ ?_
  · intro W hSW; obtain ⟨z0, z1⟩ := HC.out W hSW; go_simp
  simp only [Act.put, List.setIfInBounds_toArray, List.set_cons_zero, List.set_cons_succ]
  refine tk 12 20 (.int .i64 (k : Nat)) rfl ?_ ?_
  · intro W hSW; go_simp
  simp only [Act.put, List.setIfInBounds_toArray, List.set_cons_zero, List.set_cons_succ]
  refine tk 13 21 (.int .i64 (t : Nat)) rfl ?_ ?_
  · intro W hSW; have hw := HWs.out; go_simp
  simp only [Act.put, List.setIfInBounds_toArray, List.set_cons_zero, List.set_cons_succ]
  refine tk 16 24 (.int .i64 0) rfl ?_ ?_
  · intro W hSW; go_simp
  simp only [Act.put, List.setIfInBounds_toArray, List.set_cons_zero, List.set_cons_succ]
  refine wpAnyH_ready (rs := [14]) (by kernel_rfl) (by simp) ?_
  refine AllReadyH.cons rfl (fun KK hKK => ?_) AllReadyH.nil
  obtain ⟨l1, l2, l3, l4⟩ := HL.out
  have htc : t ≤ c := by rw [Ht.out]; omega
  have hqt : q ≤ t := by rw [Ht.out]; omega
  have htn : t - q = k := by rw [Ht.out]; omega
  have hcq : ¬ c = q := by omega
  go_simp
  refine hKK.out _ _ Twd.out (fun hHeld => ?_)
  clear hKK KK
  refine tk 15 23 (.int .i64 (k : Nat)) rfl ?_ ?_
  · intro W hSW; go_simp
  simp only [Act.put, List.setIfInBounds_toArray, List.set_cons_zero, List.set_cons_succ]
  refine wpAnyH_done (by kernel_rfl) ?_ _
  clear hHeld htc hqt htn hcq HC
  have HRD := hid (HRB.out.kept0 Twd.out)
  go_wp2_with fail
  go_loopw [5, 6, 7, 24] (fun a _ _ b wt => ∃ i : Nat, a = .int .u64 ((le B i q : Nat) : Int) ∧ b = .int .i64 (i : Nat) ∧ i ≤ k ∧ Apart [] wd wt) (fun _ _ _ b _ => k - (intOf b).toNat)
  case atStart => exact ⟨0, rfl, rfl, Nat.zero_le _, Apart.refl _ _⟩
  case round =>
    obtain ⟨i, rfl, rfl, hi, ha⟩ := hrel
    have HA := hid ha
    clear ha
    by_cases hlt : i < k
    · have hlti : ((i : Nat) : Int) < (k : Int) := by omega
      have hc := (HRD.out.kept0 HA.out).byte (q + i) (by omega)
      rw [← Nat.add_assoc] at hc
      obtain ⟨d, Hd⟩ : ∃ d, Hid (d = B.getD (q + i) 0) := ⟨_, rfl⟩
      rw [← Hd.out] at hc
      have HD8 : Hid (d < 256) := by unfold Hid; rw [Hd.out]; exact HB8.out _
      obtain ⟨m, Hm⟩ : ∃ m, Hid (m = 8 * i) := ⟨_, rfl⟩
      have hwm : IntKind.i64.wrap (8 * (i : Int)) = (m : Int) := by rw [IntKind.wrap_i64, Hm.out]; omega
      have hm64 : m < 64 := by rw [Hm.out]; omega
      obtain ⟨f4, f5⟩ := le_or HRB.out.b8 i q d (by omega) Hd.out HD8.out
      rw [← Hm.out] at f4 f5
      have hwd : IntKind.u64.wrap (d : Int) = (d : Int) := by rw [IntKind.wrap_u64]; have := HD8.out; omega
      have hwf : IntKind.u64.wrap ((d : Int) * 2 ^ m) = ((d * 2 ^ m : Nat) : Int) := wrap_shl d m f4
      obtain ⟨f, Hf⟩ : ∃ f, Hid (f = d * 2 ^ m) := ⟨_, rfl⟩
      rw [← Hf.out] at f5 hwf
      obtain ⟨z, Hz⟩ : ∃ z, Hid (z = le B (i + 1) q) := ⟨_, rfl⟩
      rw [← Hz.out] at f5
      go_wp2_with fail
      go_roundw
      case rel => exact ⟨i + 1, by rw [← Hz.out], by go_num, by omega, HA.out⟩
      case measure => simp [intOf]; omega
    · have hlti : ¬ ((i : Nat) : Int) < (k : Int) := by omega
      have hik : i = k := by omega
      go_wp2_with fail
      go_ret
      exact ⟨by rw [HE.out, ← hik]; rfl, Twd.out.trans HA.out⟩
set_option maxRecDepth 100000 in
theorem within_ok (w : World) (n lo hi : Int) (v : Bool) (hv : v = true ↔ lo ≤ n ∧ n ≤ hi) : Calls Try.prog 56 #[.int .i64 n, .int .i64 lo, .int .i64 hi] w fun e w' => e = .returned (.bool v) ∧ Apart [] w w' := by
  have HV := hid hv
  clear hv
  go_enter Try.func56, Try.ntmps56
  by_cases h1 : n ≥ lo
  · by_cases h2 : n ≤ hi
    · have hv : v = true := HV.out.2 ⟨h1, h2⟩
      subst hv
      go_wp2_with fail
      go_ret
      exact ⟨rfl, Apart.refl _ _⟩
    · have hv : v = false := by cases v with
        | false => rfl
        | true => exact absurd (HV.out.1 rfl).2 h2
      subst hv
      go_wp2_with fail
      go_ret
      exact ⟨rfl, Apart.refl _ _⟩
  · have hv : v = false := by cases v with
      | false => rfl
      | true => exact absurd (HV.out.1 rfl).1 h1
    subst hv
    go_wp2_with fail
    go_ret
    exact ⟨rfl, Apart.refl _ _⟩
end Go.Proofs.Ytllhmidpphlbhaa.ds
namespace Go.Proofs.Ytllhmidpphlbhaa.ds
open Go.ChangeShapes Go.WideShapes Go.ChangeAt Go.RowKit Go.Sort
set_option linter.unusedVariables false
set_option linter.unusedSimpArgs false
/-- what a reader's call leaves -/
structure PO (w w' : World) (R P o c : Nat) (B : List Nat) (e : Ending) (v : Value) (s' : Ps) : Prop where
  e : e = .returned v
  r : PR w' R P o c B s'
  a : Apart [R] w w'
set_option maxHeartbeats 4000000 in
set_option maxRecDepth 100000 in
theorem number_ok {w : World} {R P o c : Nat} {B : List Nat} {s : Ps} (h : PR w R P o c B s) (k lo hi : Nat) (hk : 1 ≤ k ∧ k ≤ 6) (hr : s.bad = false → s.at_ + k ≤ 2048) (hlo : lo ≤ 281474976710656) (hhi : hi ≤ 281474976710656) :
    Calls Try.prog 71 #[.pointer (some ⟨R, 0, none⟩), .int .i64 (k : Nat), .int .i64 (lo : Nat), .int .i64 (hi : Nat)] w fun e w' => PO w w' R P o c B e (.int .i64 ((num B k lo hi s).1 : Nat)) (num B k lo hi s).2 := by
  have HRB := hid h
  obtain ⟨q, b⟩ := s
  obtain ⟨z0, z1, z2, z3, z4⟩ := h.cells
  dsimp only at z1 z2 hr
  cases b with
  | true =>
    have HN := hid (num_bad B k lo hi (s := ⟨q, true⟩) rfl)
    clear h hr
    go_enter Try.func71, Try.ntmps71
    go_wp2_with fail
    go_ret
    rw [HN.out]
    exact ⟨rfl, HRB.out, Apart.refl _ _⟩
  | false =>
    have hr := hr rfl
    have HC1 := hid (peek_ok HRB.out k ⟨hk.1, by omega⟩ hr)
    obtain ⟨n, Hn⟩ : ∃ n, Hid (n = le B k q) := ⟨_, rfl⟩
    have HL : Hid (n < 281474976710656) := by
      unfold Hid
      have h1 := le_lt h.b8 k q
      have h2 : 256 ^ k ≤ 256 ^ 6 := Nat.pow_le_pow_right (by omega) hk.2
      rw [Hn.out]
      omega
    have hwn : IntKind.i64.wrap (n : Int) = (n : Int) := by rw [IntKind.wrap_i64]; have := HL.out; omega
    have HK : Hid (q + k ≤ 2048) := hr
    have HN : Hid (num B k lo hi ⟨q, false⟩ = if lo ≤ n ∧ n ≤ hi then (n, ⟨q + k, false⟩) else (0, ⟨q, true⟩)) := by
      unfold Hid num
      rw [if_neg (by simp), Hn.out]
    clear h hr hk hlo hhi
    go_enter Try.func71, Try.ntmps71
    go_wp2_with fail
    clear z0 z1 z2 z3 z4
    refine HC1.out.mono ?_
    rintro _ w1 ⟨rfl, a1⟩
    have HA1 := hid a1
    clear a1 HC1
    dsimp only
    rw [← Hn.out]
    have HR1 := hid (HRB.out.kept0 HA1.out)
    obtain ⟨bb, Hbb⟩ : ∃ bb : Bool, Hid (bb = true ↔ (lo : Int) ≤ (n : Int) ∧ (n : Int) ≤ (hi : Int)) := ⟨decide ((lo : Int) ≤ (n : Int) ∧ (n : Int) ≤ (hi : Int)), by unfold Hid; simp⟩
    go_wp2_with fail
    refine (within_ok w1 n lo hi bb Hbb.out).mono ?_
    rintro _ w2 ⟨rfl, a2⟩
    have HA2 := hid (HA1.out.trans a2)
    have HR2 := hid (HR1.out.kept0 a2)
    clear a2
    dsimp only
    obtain ⟨z0, z1, z2, z3, z4⟩ := HR2.out.cells
    dsimp only at z1 z2
    cases hbb : bb with
    | true =>
      have hin : lo ≤ n ∧ n ≤ hi := by have := Hbb.out.1 hbb; omega
      have HN2 : Hid (num B k lo hi ⟨q, false⟩ = (n, ⟨q + k, false⟩)) := by unfold Hid; rw [HN.out, if_pos hin]
      have hwq : IntKind.i64.wrap ((q : Int) + (k : Int)) = ((q + k : Nat) : Int) := by rw [IntKind.wrap_i64]; have := HK.out; omega
      have HR3 := hid (HR2.out.move (q + k) HK.out)
      clear hin
      go_wp2_with fail
      go_ret
      rw [HN2.out]
      exact ⟨rfl, HR3.out, (HA2.out.mono (by simp)).setCell (.inl (by simp)) _⟩
    | false =>
      have hin : ¬ (lo ≤ n ∧ n ≤ hi) := fun hh => by have := Hbb.out.2 (by omega); rw [hbb] at this; cases this
      have HN2 : Hid (num B k lo hi ⟨q, false⟩ = (0, ⟨q, true⟩)) := by unfold Hid; rw [HN.out, if_neg hin]
      have HR3 := hid HR2.out.stop
      clear hin
      go_wp2_with fail
      go_ret
      rw [HN2.out]
      exact ⟨rfl, HR3.out, (HA2.out.mono (by simp)).setCell (.inl (by simp)) _⟩
set_option maxRecDepth 100000 in
theorem mostValue_ok (w : World) (d : Bool) : Calls Try.prog 99 #[.bool d] w fun e w' => e = .returned (.int .i64 (mostV d : Nat)) ∧ w' = w := by
  cases d
  · go_enter Try.func99, Try.ntmps99
    go_wp2_with fail
    go_ret
    exact ⟨rfl, rfl⟩
  · go_enter Try.func99, Try.ntmps99
    go_wp2_with fail
    go_ret
    exact ⟨rfl, rfl⟩
end Go.Proofs.Ytllhmidpphlbhaa.ds
