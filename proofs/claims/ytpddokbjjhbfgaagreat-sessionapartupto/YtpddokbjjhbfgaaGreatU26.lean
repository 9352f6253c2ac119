import Derived.Test.YtpddokbjjhbfgaaGreatChecked
import Derived.WalkKit
import Derived.ProofKit
import Derived.Maps.OwnSet
import Derived.Maps.RangeWalk
import Derived.DeepKeys4
import Derived.MapViews
import Derived.StringKeys
import Derived.Lib.TrailingZeros
import Derived.OpenShut
import Derived.Deep.QuietTactic
import Derived.BigQuiet
import Derived.BigRegion
import Derived.Laws.CopyOwn
import Derived.Laws.Bits64b
import Derived.Laws.MathBits
import Derived.Laws.ShiftsVarLaws
import Derived.WalkSmall
import Derived.Laws.ResultCell
import Derived.Lib.BitFns
import Derived.Laws.StructEq
import Derived.Deep.RegionHeld
import Derived.ArgAppend
import Derived.Deep.RegionLaw
import Derived.Deep.DeepAppendRoom
import Derived.Sort.WalkA
import Derived.Laws.Strings
import Derived.Deep.CutBlock
import Derived.Great.BuildSlice
import Derived.Laws.BytesString
import Derived.Laws.AppendOwnNone
import Derived.Lib.Overlaps
import Derived.Lib.AppendZerosOnto
import Derived.Laws.NewBlocks
import Derived.Laws.Externs
import Derived.Laws.IdiomCopy
import Derived.RangeFuncNested
import Derived.RangeFuncBound
import Derived.RangeFuncCalls
import Derived.RangeFuncLeaves
import Derived.Shelf.Abstract
import Derived.Shelf.RegionOpen
import Derived.OwnWalkIn
import Derived.TacticsInMore
import Derived.LoopNIn
import Derived.LoopIn
import Derived.Deep.CutRange
import Derived.Deep.OwnRows
import Derived.Lib.Walk
import Derived.Lib.SliceRun
import GoSem.Claim
import GoSem.ClaimJoined
import GoSem.ClaimMapViews
import Derived.JoinedTies
import Derived.KernelRfl
import Derived.Lib.LaidTab
import Derived.JoinedCond
import Derived.ShutString
import Derived.ChangeOld
import Derived.Below
import Derived.Carry
import Derived.ChangeSlices
import Derived.Deep.Slices
import Derived.Deep.DeepHandedRow
import Derived.RowKit
import Derived.ChangeShapes
import Derived.SizedLaws
import Derived.ChangeMaps5
import Derived.OrdersHeld
import Derived.Lib.AppendStr
import Derived.Lib.ConvBytes
import Derived.Deep.RegionHeld3
import Derived.Deep.MidRow
import Derived.Laws.BitsAllLaws
import Derived.Sort.Grow
import Derived.Shelf.SlSortCmp.WholeK
import Derived.Shelf.Lay
import Derived.Ground.SlsfProg
import Derived.Sort.LotA
import Derived.Sort.MapsRangeIn
import Derived.RangeFuncSeq
import Derived.RangeFuncKeeps
import Derived.Maps.AppendAt
import Derived.OwnWalk
import Derived.Test.YtpddokbjjhbfgaaGreatRows
import Derived.Test.YtpddokbjjhbfgaaGreatU25
namespace Go.Proofs.YtpddokbjjhbfgaaGreat.rg
open Go.ChangeShapes Go.WideShapes Go.ChangeAt Go.RowKit Go.Sort
set_option linter.unusedVariables false
set_option linter.unusedSimpArgs false
theorem i64_xor_nat (a b : Nat) (ha : a < 4294967296) (hb : b < 4294967296) : bits .xor .i64 (a : Int) (b : Int) = ((a ^^^ b : Nat) : Int) := by
  have hx : a ^^^ b < 4294967296 := xor_lt ha hb
  show IntKind.i64.wrap ((BitVec.ofInt 64 (a : Int) ^^^ BitVec.ofInt 64 (b : Int)).toNat : Int) = _
  rw [BitVec.toNat_xor, ofInt_u64 a (by omega), ofInt_u64 b (by omega)]
  simp [IntKind.wrap, IntKind.bits, IntKind.signed]
  omega
theorem times_eq (a : Nat) (ha : a < 4294967296) : ((a % 65536 * 2246822519 % 4294967296) + (a / 65536 * 2246822519 % 65536 * 65536)) % 4294967296 = a * 2246822519 % 4294967296 := by
  omega
theorem times_ok (a : Nat) (ha : a < 4294967296) (z : Nat) (Hz : Hid (z = a * 2246822519 % 4294967296)) (w : World) : Calls Tryz.prog 88 #[.int .i64 a, .int .i64 2246822519] w fun r w' => r = .returned (.int .i64 z) ∧ w' = w := by
  have e1 : ((a : Int)).tmod 65536 = ((a % 65536 : Nat) : Int) := by rw [show (65536 : Int) = ((65536 : Nat) : Int) from rfl, Int.ofNat_tmod]
  have e2 : ((a : Int)).tdiv 65536 = ((a / 65536 : Nat) : Int) := by rw [show (65536 : Int) = ((65536 : Nat) : Int) from rfl, Int.ofNat_tdiv]
  obtain ⟨x, Hx⟩ : ∃ x, Hid (x = a % 65536) := ⟨_, rfl⟩
  obtain ⟨y, Hy⟩ : ∃ y, Hid (y = a / 65536) := ⟨_, rfl⟩
  have hx : x < 65536 := by rw [Hx.out]; omega
  have hy : y < 65536 := by rw [Hy.out]; omega
  rw [← Hx.out] at e1
  rw [← Hy.out] at e2
  have e3 : ((x : Int) * 2246822519).tmod 4294967296 = ((x * 2246822519 % 4294967296 : Nat) : Int) := by rw [show ((x : Int) * 2246822519) = ((x * 2246822519 : Nat) : Int) by omega, show (4294967296 : Int) = ((4294967296 : Nat) : Int) from rfl, Int.ofNat_tmod]
  have e4 : ((y : Int) * 2246822519).tmod 65536 = ((y * 2246822519 % 65536 : Nat) : Int) := by rw [show ((y : Int) * 2246822519) = ((y * 2246822519 : Nat) : Int) by omega, show (65536 : Int) = ((65536 : Nat) : Int) from rfl, Int.ofNat_tmod]
  obtain ⟨p, Hp⟩ : ∃ p, Hid (p = x * 2246822519 % 4294967296) := ⟨_, rfl⟩
  obtain ⟨q, Hq⟩ : ∃ q, Hid (q = y * 2246822519 % 65536) := ⟨_, rfl⟩
  have hp : p < 4294967296 := by rw [Hp.out]; omega
  have hq : q < 65536 := by rw [Hq.out]; omega
  rw [← Hp.out] at e3
  rw [← Hq.out] at e4
  have e5 : ((p : Int) + (q : Int) * 65536).tmod 4294967296 = (((p + q * 65536) % 4294967296 : Nat) : Int) := by rw [show ((p : Int) + (q : Int) * 65536) = ((p + q * 65536 : Nat) : Int) by omega, show (4294967296 : Int) = ((4294967296 : Nat) : Int) from rfl, Int.ofNat_tmod]
  have ef : (p + q * 65536) % 4294967296 = a * 2246822519 % 4294967296 := by rw [Hp.out, Hq.out, Hx.out, Hy.out]; exact times_eq a ha
  rw [ef] at e5
  rw [← Hz.out] at e5
  clear ef
  go_enter Tryz.func88, Tryz.ntmps88
  go_wp2_with fail
  go_ret
  exact ⟨rfl, rfl⟩
set_option maxHeartbeats 1000000 in
set_option maxRecDepth 100000 in
theorem refHash_ok {p : Option Addr} {N cap : Nat} {bs : List Nat} {w : World} (h : By w p N bs) (hN : N ≤ 9223372036854775807) : Calls Tryz.prog 64 #[.slice p N cap] w fun r w' => r = .returned (.int .i64 (hashN bs : Nat)) ∧ w' = w := by
  go_enter Tryz.func64, Tryz.ntmps64
  go_wp2_with fail
  go_loopw [3, 4] (fun x v wr => ∃ i : Nat, i ≤ N ∧ v = .int .i64 i ∧ wr = w ∧ x = .int .i64 (foldH (bs.take i) : Nat)) (fun _ v _ => N - (intOf v).toNat)
  case atStart => exact ⟨0, Nat.zero_le _, rfl, rfl, rfl⟩
  case round =>
    obtain ⟨i, hi, rfl, rfl, rfl⟩ := hrel
    by_cases hlt : i < N
    · have HI : Hid (i < bs.length) := by show i < bs.length; rw [h.len]; exact hlt
      obtain ⟨P, o, rfl, hP, hc⟩ := h.at' (by have := HI.out; omega)
      have c0 := hc i HI.out
      have hx : bs.getD i 0 < 256 := h.lt _ (by rw [List.getD_eq_getElem?_getD, List.getElem?_eq_getElem HI.out]; exact List.getElem_mem HI.out)
      have hy := foldH_lt (bs.take i)
      have HS : Hid (foldH (bs.take (i + 1)) = stepH (foldH (bs.take i)) (bs.getD i 0)) := foldH_succ bs i HI.out
      obtain ⟨x, HX⟩ : ∃ x, Hid (x = bs.getD i 0) := ⟨_, rfl⟩
      rw [← HX.out] at c0 hx HS
      obtain ⟨y, HY⟩ : ∃ y, Hid (y = foldH (bs.take i)) := ⟨_, rfl⟩
      rw [← HY.out] at hy HS ⊢
      clear hc
      have e0 := i64_xor_nat y x hy (by omega)
      have hxl : y ^^^ x < 4294967296 := xor_lt hy (by omega)
      have HST : Hid (stepH y x = (y ^^^ x) * 16777619 % 4294967296) := rfl
      obtain ⟨t, HT⟩ : ∃ t, Hid (t = y ^^^ x) := ⟨_, rfl⟩
      rw [← HT.out] at e0 hxl HST
      have e1 : ((t : Int) * 16777619).tmod 4294967296 = ((t * 16777619 % 4294967296 : Nat) : Int) := by rw [show ((t : Int) * 16777619) = ((t * 16777619 : Nat) : Int) by omega, show (4294967296 : Int) = ((4294967296 : Nat) : Int) from rfl, Int.ofNat_tmod]
      obtain ⟨u, HU⟩ : ∃ u, Hid (u = t * 16777619 % 4294967296) := ⟨_, rfl⟩
      rw [← HU.out] at e1 HST
      go_wp2_with fail
      go_roundw
      case rel => exact ⟨i + 1, by omega, by simp, trivial, by rw [HS.out, HST.out]⟩
      case measure => simp only [intOf]; omega
    · obtain rfl : i = N := by omega
      have hb : bs.take i = bs := by rw [← h.len]; exact List.take_length
      rw [hb]
      have hy := foldH_lt bs
      have HE : Hid (hashN bs = lastH (foldH bs) ^^^ (lastH (foldH bs) >>> 13)) := rfl
      obtain ⟨y, HY⟩ : ∃ y, Hid (y = foldH bs) := ⟨_, rfl⟩
      rw [← HY.out] at hy HE ⊢
      have d1 : ((y : Int)).tdiv 32768 = ((y / 32768 : Nat) : Int) := by rw [show (32768 : Int) = ((32768 : Nat) : Int) from rfl, Int.ofNat_tdiv]
      have x1 := i64_xor_nat y (y / 32768) hy (by omega)
      have hl : y ^^^ (y / 32768) < 4294967296 := xor_lt hy (by omega)
      have HL : Hid (lastH y = (y ^^^ (y / 32768)) * 2246822519 % 4294967296) := by
        show lastH y = _
        unfold lastH
        rw [Nat.shiftRight_eq_div_pow, show (2 ^ 15 : Nat) = 32768 from rfl]
      have hz := lastH_lt y
      obtain ⟨z, HZ⟩ : ∃ z, Hid (z = lastH y) := ⟨_, rfl⟩
      rw [← HZ.out] at hz HE HL
      obtain ⟨a, HA⟩ : ∃ a, Hid (a = y ^^^ (y / 32768)) := ⟨_, rfl⟩
      rw [← HA.out] at x1 hl HL
      obtain ⟨b, HB⟩ : ∃ b, Hid (b = y / 32768) := ⟨_, rfl⟩
      have hb32 : b < 4294967296 := by rw [HB.out]; omega
      rw [← HB.out] at d1 x1
      clear h
      go_wp2_with fail
      refine (times_ok a hl z HL _).mono ?_
      rintro e w1 ⟨rfl, rfl⟩
      dsimp only
      have d2 : ((z : Int)).tdiv 8192 = ((z / 8192 : Nat) : Int) := by rw [show (8192 : Int) = ((8192 : Nat) : Int) from rfl, Int.ofNat_tdiv]
      have x2 := i64_xor_nat z (z / 8192) hz (by omega)
      have HE2 : Hid (hashN bs = z ^^^ (z / 8192)) := by
        show hashN bs = _
        rw [HE.out, Nat.shiftRight_eq_div_pow, show (2 ^ 13 : Nat) = 8192 from rfl]
      obtain ⟨c, HC⟩ : ∃ c, Hid (c = z / 8192) := ⟨_, rfl⟩
      have hc32 : c < 4294967296 := by rw [HC.out]; omega
      rw [← HC.out] at d2 x2 HE2
      go_wp2_with fail
      go_ret
      refine ⟨?_, rfl⟩
      rw [HE2.out]; rfl
theorem point_ok (i k : Nat) (hi : i < 256) (hk : k < 256) (w : World) : Calls Tryz.prog 113 #[.int .i64 i, .int .i64 k] w fun r w' => r = .returned (.int .i64 (hashN [i, k] : Nat)) ∧ Apart [] w w' := by
  go_enter Tryz.func113, Tryz.ntmps113
  go_wp2_with fail
  refine (refHash_ok (byte2 i k (by omega) (by omega) (by simp) (by simp) (by simp)) (by omega)).mono ?_
  rintro e w1 ⟨rfl, rfl⟩
  dsimp only
  go_wp2_with fail
  go_ret
  exact ⟨rfl, (Apart.refl _ _).alloc _⟩
/-- the lesser of two -/
def lessr (b d : Nat) : Nat := if d < b then d else b
def distN (pl i k : Nat) : Nat := (hashN [i, k] + 4294967296 - pl) % 4294967296
theorem distN_lt (pl i k : Nat) : distN pl i k < 4294967296 := by unfold distN; omega
/-- the nearest of the first k points -/
def awayK (pl i k : Nat) : Nat := (List.range k).foldl (fun b k => lessr b (distN pl i k)) 4294967296
theorem foldl_range (f : Nat → Nat → Nat) (z k : Nat) : (List.range (k + 1)).foldl f z = f ((List.range k).foldl f z) k := by
  rw [List.range_succ, List.foldl_append, List.foldl_cons, List.foldl_nil]
theorem awayK_succ (pl i k : Nat) : awayK pl i (k + 1) = lessr (awayK pl i k) (distN pl i k) := foldl_range (fun b k => lessr b (distN pl i k)) 4294967296 k
theorem awayK_le (pl i : Nat) : ∀ k, awayK pl i k ≤ 4294967296
  | 0 => Nat.le_refl _
  | k + 1 => by
    rw [awayK_succ]
    have := awayK_le pl i k
    have := distN_lt pl i k
    unfold lessr
    split <;> omega
theorem awayN_eq (pl i : Nat) : awayN pl i = awayK pl i 4 := rfl
set_option maxHeartbeats 1000000 in
set_option maxRecDepth 100000 in
theorem away_ok (pl i : Nat) (hp : pl < 4294967296) (hi : i < 256) (w : World) : Calls Tryz.prog 87 #[.int .i64 pl, .int .i64 i] w fun r w' => r = .returned (.int .i64 (awayN pl i : Nat)) ∧ Apart [] w w' := by
  go_enter Tryz.func87, Tryz.ntmps87
  go_wp2_with fail
  go_loopw [5, 6] (fun x v wr => ∃ k : Nat, k ≤ 4 ∧ v = .int .i64 k ∧ Apart [] w wr ∧ x = .int .i64 (awayK pl i k : Nat)) (fun _ v _ => 4 - (intOf v).toNat)
  case atStart => exact ⟨0, Nat.zero_le _, rfl, Apart.refl _ _, rfl⟩
  case round =>
    obtain ⟨k, hk, rfl, aR, rfl⟩ := hrel
    by_cases hlt : k < 4
    · go_wp2_with fail
      refine (point_ok i k hi (by omega) _).mono ?_
      rintro e w1 ⟨rfl, a1⟩
      dsimp only
      have HS : Hid (awayK pl i (k + 1) = lessr (awayK pl i k) ((hashN [i, k] + 4294967296 - pl) % 4294967296)) := awayK_succ pl i k
      have hl := awayK_le pl i k
      have hh := hashN_lt [i, k]
      obtain ⟨h, Hh⟩ : ∃ h, Hid (h = hashN [i, k]) := ⟨_, rfl⟩
      rw [← Hh.out] at HS hh ⊢
      obtain ⟨b, Hb⟩ : ∃ b, Hid (b = awayK pl i k) := ⟨_, rfl⟩
      rw [← Hb.out] at HS hl ⊢
      have e1 : ((h : Int) - (pl : Int) + 4294967296).tmod 4294967296 = (((h + 4294967296 - pl) % 4294967296 : Nat) : Int) := by rw [show ((h : Int) - (pl : Int) + 4294967296) = ((h + 4294967296 - pl : Nat) : Int) by omega, show (4294967296 : Int) = ((4294967296 : Nat) : Int) from rfl, Int.ofNat_tmod]
      have hd : (h + 4294967296 - pl) % 4294967296 < 4294967296 := by omega
      obtain ⟨d, Hd⟩ : ∃ d, Hid (d = (h + 4294967296 - pl) % 4294967296) := ⟨_, rfl⟩
      rw [← Hd.out] at e1 HS hd
      by_cases hdb : d < b
      · go_wp2_with fail
        go_roundw
        case rel => exact ⟨k + 1, by omega, by simp, aR.trans a1, by rw [HS.out]; unfold lessr; rw [if_pos hdb]⟩
        case measure => simp only [intOf]; omega
      · go_wp2_with fail
        go_roundw
        case rel => exact ⟨k + 1, by omega, by simp, aR.trans a1, by rw [HS.out]; unfold lessr; rw [if_neg hdb]⟩
        case measure => simp only [intOf]; omega
    · obtain rfl : k = 4 := by omega
      go_wp2_with fail
      go_ret
      exact ⟨by rw [awayN_eq]; rfl, aR⟩
end Go.Proofs.YtpddokbjjhbfgaaGreat.rg
namespace Go.Proofs.YtpddokbjjhbfgaaGreat.rg
open Go.ChangeShapes Go.WideShapes Go.ChangeAt Go.RowKit Go.Sort
set_option linter.unusedVariables false
set_option linter.unusedSimpArgs false
set_option maxHeartbeats 1000000 in
theorem has_ok {p : Option Addr} {n c : Nat} {xs : List Nat} {w : World} (hx : Ir w p n (ints xs)) (v : Nat) (hn : n ≤ 1000) : Calls Tryz.prog 86 #[.slice p n c, .int .i64 v] w fun r w' => r = .returned (.bool (xs.contains v)) ∧ w' = w := by
  have HL : Hid (xs.length = n) := by show xs.length = n; have := hx.len; simpa [ints] using this
  go_enter Tryz.func86, Tryz.ntmps86
  go_wp2_with fail
  go_loopw [5] (fun u wr => ∃ i : Nat, i ≤ n ∧ u = .int .i64 i ∧ wr = w ∧ ∀ j, j < i → xs.getD j 0 ≠ v) (fun u _ => n - (intOf u).toNat)
  case atStart => exact ⟨0, Nat.zero_le _, rfl, rfl, fun j hj => absurd hj (Nat.not_lt_zero _)⟩
  case round =>
    obtain ⟨i, hi, rfl, rfl, hI⟩ := hrel
    have HI : Hid (∀ j, j < i → xs.getD j 0 ≠ v) := hI
    clear hI
    by_cases hlt : i < n
    · obtain ⟨P, o, rfl, hP, hc⟩ := hx.at' (by omega)
      have c1 := hc i hlt
      have hil : Hid (i < xs.length) := by show i < xs.length; rw [HL.out]; exact hlt
      have ex : (ints xs).getD i 0 = ((xs.getD i 0 : Nat) : Int) := by simp [ints, List.getD_eq_getElem?_getD, List.getElem?_eq_getElem hil.out]
      rw [ex] at c1
      clear ex
      obtain ⟨x, Hx⟩ : ∃ x, Hid (x = xs.getD i 0) := ⟨_, rfl⟩
      rw [← Hx.out] at c1
      clear hc hx
      by_cases hxv : x = v
      · subst hxv
        go_wp2_with fail
        go_ret
        refine ⟨?_, rfl⟩
        have hg : xs[i]'hil.out = x := by have := Hx.out; rw [List.getD_eq_getElem?_getD, List.getElem?_eq_getElem hil.out] at this; exact this.symm
        have hm : xs.contains x = true := by rw [← hg]; simp
        rw [hm]; rfl
      · have hxv' : ¬ ((x : Int) = (v : Int)) := by omega
        go_wp2_with fail
        go_roundw
        case rel =>
          refine ⟨i + 1, by omega, by simp, trivial, fun j hj => ?_⟩
          by_cases hji : j = i
          · subst hji; rw [← Hx.out]; exact hxv
          · exact HI.out j (by omega)
        case measure => simp only [intOf]; omega
    · obtain rfl : i = n := by omega
      have hm : xs.contains v = false := by
        cases hc : xs.contains v
        · rfl
        · exfalso
          have hm : v ∈ xs := by simpa using hc
          obtain ⟨j, hj, e⟩ := List.getElem_of_mem hm
          have := HI.out j (by have := HL.out; omega)
          rw [List.getD_eq_getElem?_getD, List.getElem?_eq_getElem hj] at this
          exact this e
      have HM : Hid (xs.contains v = false) := hm
      clear hx hm
      go_wp2_with fail
      go_ret
      refine ⟨?_, rfl⟩
      rw [HM.out]; rfl
theorem rnew_ok (n m : Nat) (h1 : 1 ≤ n) (h2 : n ≤ 8) (h3 : 1 ≤ m) (h4 : m ≤ 16) (w : World) : Calls Tryz.prog 48 #[.int .i64 n, .int .i64 m] w fun r w' => (r = .returned (.tuple #[.pointer (some ⟨w.heap.size, 0, none⟩), .int .i64 0]) ∧ Rg w' w.heap.size n m) ∧ Apart [] w w' := by
  have k1 : ¬ ((n : Int) < 1) := by omega
  have k2 : ¬ ((n : Int) > 8) := by omega
  have k3 : ¬ ((m : Int) < 1) := by omega
  have k4 : ¬ ((m : Int) > 16) := by omega
  go_enter Tryz.func48, Tryz.ntmps48
  go_wp2_with fail
  go_ret2
  exact ⟨⟨rfl, ⟨by simp, by simp, h1, h2, h3, h4⟩⟩, (Apart.refl _ _).alloc _⟩
def nxs (pl : Nat) (out : List Nat) (b : Option Nat) (i : Nat) : Option Nat := if out.contains i then b else match b with | none => some i | some j => if awayN pl i < awayN pl j then some i else some j
def nextK (pl : Nat) (out : List Nat) (i : Nat) : Option Nat := (List.range i).foldl (nxs pl out) none
theorem nextK_succ (pl : Nat) (out : List Nat) (i : Nat) : nextK pl out (i + 1) = nxs pl out (nextK pl out i) i := by
  unfold nextK
  rw [List.range_succ, List.foldl_append, List.foldl_cons, List.foldl_nil]
theorem nextN_eq (n pl : Nat) (out : List Nat) : nextN n pl out = nextK pl out n := rfl
theorem nextK_lt (pl : Nat) (out : List Nat) : ∀ i j, nextK pl out i = some j → j < i
  | 0, j, h => by simp [nextK] at h
  | i + 1, j, h => by
    rw [nextK_succ] at h
    have ih := nextK_lt pl out i
    unfold nxs at h
    split at h
    · have := ih j h; omega
    · split at h
      · simp at h; omega
      · rename_i k hk
        have := ih k hk
        split at h <;> simp at h <;> omega
def slLen : Value → Nat
  | .slice _ n _ => n
  | _ => 0
def encO : Option Nat → Int
  | none => -1
  | some j => j
set_option maxRecDepth 100000 in
theorem next_some : ∀ n < 9, ∀ r < 16, ∀ j < n, (nextN n (placeN r) (refN n (placeN r) j)).isSome = true := by decide +kernel
set_option maxHeartbeats 4000000 in
set_option maxRecDepth 100000 in
theorem rorder_ok {w : World} {R n m : Nat} (G : Rg w R n m) (r : Nat) (h : r < m) : Calls Tryz.prog 63 #[.pointer (some ⟨R, 0, none⟩), .int .i64 r] w fun e w' => OrdPost w w' e n (ord n r) := by
  have c1 := G.c1
  have := G.n1; have hn8 := G.n8; have hm16 := G.m16
  have k1 : ¬ ((r : Int) < 0) := by omega
  have k2 : ¬ ((r : Int) ≥ (m : Int)) := by omega
  have hr16 : r < 16 := by omega
  have HG : Hid (Rg w R n m) := G
  clear G
  go_enter Tryz.func63, Tryz.ntmps63
  go_wp2_with fail
  refine (refHash_ok (byte3 r (by omega) (by simp) (by simp) (by simp) (by simp)) (by omega)).mono ?_
  rintro e w1 ⟨rfl, hw1⟩
  dsimp only
  have a1 : Apart [] w w1 := by rw [hw1]; exact (Apart.refl _ _).alloc _
  clear hw1 c1
  have hpl : hashN [255, 255, r] < 4294967296 := hashN_lt _
  have HPL : Hid (hashN [255, 255, r] = placeN r) := rfl
  rw [HPL.out] at hpl ⊢
  have HF : Hid (refN n (placeN r) n = ord n r) := ord_ref n (by omega) r hr16
  have HN : Hid (∀ j < n, (nextN n (placeN r) (refN n (placeN r) j)).isSome = true) := next_some n (by omega) r hr16
  obtain ⟨pl, Hp⟩ : ∃ pl, Hid (pl = placeN r) := ⟨_, rfl⟩
  rw [← Hp.out] at hpl HF HN ⊢
  go_wp2_with fail
  go_loopw [7] (fun x wr => ∃ (j cap : Nat) (p : Option Addr), j ≤ n ∧ x = .slice p j cap ∧ OwnI w wr p j cap (refN n pl j)) (fun x _ => n - slLen x)
  case atStart => exact ⟨0, 0, none, Nat.zero_le _, rfl, ⟨World.ownsRow_nil _ _ _ _, fun b hb => (by cases hb), a1⟩⟩
  case round =>
    obtain ⟨j, cap, p, hj, rfl, O⟩ := hrel
    have c0 := (HG.out.kept0 O.ap).c0
    by_cases hlt : j < n
    · go_wp2_with fail
      have I := O.ir
      have hsm := HN.out j hlt
      rw [nextN_eq] at hsm
      have HSM : Hid ((nextK pl (refN n pl j) n).isSome = true) := hsm
      have HRS : Hid (refN n pl (j + 1) = refN n pl j ++ [(nextK pl (refN n pl j) n).getD 0]) := rfl
      obtain ⟨out, HO⟩ : ∃ out, Hid (out = refN n pl j) := ⟨_, rfl⟩
      rw [← HO.out] at O I HSM HRS
      clear hsm
      go_loopw [8, 9] (fun u v w2 => ∃ i : Nat, i ≤ n ∧ v = .int .i64 i ∧ u = .int .i64 (encO (nextK pl out i)) ∧ Apart [] wr w2) (fun _ v _ => n - (intOf v).toNat)
      case atStart => exact ⟨0, Nat.zero_le _, rfl, rfl, Apart.refl _ _⟩
      case round =>
        obtain ⟨i, hi, rfl, rfl, aR⟩ := hrel
        have c0' := (HG.out.kept0 (O.ap.trans aR)).c0
        by_cases hin : i < n
        · go_wp2_with fail
          refine (has_ok (I.kept0 aR) i (by omega)).mono ?_
          rintro e w2 ⟨rfl, rfl⟩
          dsimp only
          have HS : Hid (nextK pl out (i + 1) = nxs pl out (nextK pl out i) i) := nextK_succ pl out i
          by_cases hc : out.contains i = true
          · rw [hc]
            go_wp2_with fail
            go_roundw
            case rel => exact ⟨i + 1, by omega, by simp, by rw [HS.out]; unfold nxs; rw [if_pos hc], aR⟩
            case measure => simp only [intOf]; omega
          · have hc' : out.contains i = false := by simpa using hc
            rw [hc']
            cases hx : nextK pl out i with
            | none =>
              have HXX : Hid (nextK pl out i = none) := hx
              clear hx
              simp only [encO]
              go_wp2_with fail
              go_roundw
              case rel => exact ⟨i + 1, by omega, by simp, by rw [HS.out, HXX.out]; unfold nxs; rw [if_neg hc]; rfl, aR⟩
              case measure => simp only [intOf]; omega
            | some k =>
              have hki := nextK_lt pl out i k hx
              have HXX : Hid (nextK pl out i = some k) := hx
              clear hx
              simp only [encO]
              have hk0 : ¬ ((k : Int) < 0) := by omega
              go_wp2_with fail
              refine (away_ok pl i hpl (by omega) _).mono ?_
              rintro e w3 ⟨rfl, a3⟩
              dsimp only
              go_wp2_with fail
              refine (away_ok pl k hpl (by omega) _).mono ?_
              rintro e w4 ⟨rfl, a4⟩
              dsimp only
              obtain ⟨x, Hx⟩ : ∃ x, Hid (x = awayN pl i) := ⟨_, rfl⟩
              obtain ⟨y, Hy⟩ : ∃ y, Hid (y = awayN pl k) := ⟨_, rfl⟩
              rw [← Hx.out, ← Hy.out]
              by_cases hxy : x < y
              · go_wp2_with fail
                go_roundw
                case rel => exact ⟨i + 1, by omega, by simp, by rw [HS.out, HXX.out]; unfold nxs; rw [if_neg hc]; simp only []; rw [← Hx.out, ← Hy.out, if_pos hxy]; rfl, (aR.trans a3).trans a4⟩
                case measure => simp only [intOf]; omega
              · go_wp2_with fail
                go_roundw
                case rel => exact ⟨i + 1, by omega, by simp, by rw [HS.out, HXX.out]; unfold nxs; rw [if_neg hc]; simp only []; rw [← Hx.out, ← Hy.out, if_neg hxy]; rfl, (aR.trans a3).trans a4⟩
                case measure => simp only [intOf]; omega
        · obtain rfl : i = n := by omega
          cases hx : nextK pl out i with
          | none => exfalso; have := HSM.out; rw [hx] at this; cases this
          | some k =>
            rw [hx] at HRS
            simp only [Option.getD_some] at HRS
            have HRS2 : Hid (refN i pl (j + 1) = out ++ [k]) := HRS
            clear hx HRS
            simp only [encO]
            obtain ⟨p', cp', w', hrun, O3, _⟩ := owni_append ((O.kept aR).kept ((Apart.refl _ _).alloc (.cells #[.int .i64 (k : Nat)] 3))) (by omega) 54 ⟨wr.heap.size, 0, none⟩ k (by simp [Addr.add])
            go_wp2_with (at_builtin; refine wpList_append3 rfl _ _ 54 rfl _ _ rfl rfl _ _ hrun ?_)
            go_roundw
            case rel => exact ⟨j + 1, cp', p', by omega, rfl, by rw [HRS2.out]; exact O3⟩
            case measure => simp only [slLen]; omega
    · obtain rfl : j = n := by omega
      rw [HF.out] at O
      obtain ⟨Q, rfl, hQ, hQn, hle, hc63⟩ := own_some O (by omega)
      go_wp2_with fail
      go_ret2
      exact ⟨⟨Q, cap, rfl, O, hle, hc63⟩⟩
end Go.Proofs.YtpddokbjjhbfgaaGreat.rg
namespace Go.Proofs.YtpddokbjjhbfgaaGreat.rg
open Go.ChangeShapes Go.WideShapes Go.ChangeAt Go.RowKit Go.Sort
set_option linter.unusedVariables false
set_option linter.unusedSimpArgs false
set_option maxHeartbeats 2000000 in
set_option maxRecDepth 100000 in
theorem rrange_ok {w : World} {R n m : Nat} (G : Rg w R n m) (s : ByteArray) (hs : s.size ≤ 9223372036854775807) : Calls Tryz.prog 50 #[.pointer (some ⟨R, 0, none⟩), .string s] w fun r w' => r = .returned (.int .i64 (hashN (strN s) % m : Nat)) ∧ Apart [] w w' := by
  have r1 : ∀ X, Apart [] w X → X.cell? ⟨R, 1, none⟩ = some (.int .i64 (m : Nat)) := fun X a => (a.cell (p := ⟨R, 1, none⟩) G.lt (by simp)).trans G.c1
  have hm1 := G.m1
  have hm16 := G.m16
  have aD : Apart [] w w.drew := (Apart.refl _ _).drew
  have hconv := Lib.run_convert_string_bytes (P := Tryz.prog) w.drew 9 35 5 s Tryz.underlying9 Tryz.underlying35 Tryz.underlying5
  have aB : Apart [] w (Lib.bytesWorld w.drew 5 s) := aD.trans (bytes_apart w.drew 5 s)
  have hBy := bytes_by w.drew 5 s
  have hh := hashN_lt (strN s)
  have hm0 : ¬ ((m : Int) = 0) := by omega
  obtain ⟨cb, Hcb⟩ : ∃ cb, Hid (cb = grownCap w.drew s.size 0 5) := ⟨_, rfl⟩
  rw [← Hcb.out] at hconv
  generalize Lib.bytesWorld w.drew 5 s = Z at *
  obtain ⟨h, Hh⟩ : ∃ h, Hid (h = hashN (strN s)) := ⟨_, rfl⟩
  obtain ⟨q, Hq⟩ : ∃ q, Hid (q = h % m) := ⟨_, rfl⟩
  have hlt : q < 16 := by rw [Hq.out]; exact Nat.lt_of_lt_of_le (Nat.mod_lt _ (by omega)) hm16
  have hrem : ((h : Int)).tmod (m : Int) = (q : Int) := by rw [Hq.out, Int.ofNat_tmod]
  have hwq : IntKind.i64.wrap (q : Int) = (q : Int) := by simp [IntKind.wrap, IntKind.bits, IntKind.signed]; omega
  have hm00 : ¬ m = 0 := by omega
  rw [← Hh.out] at hh ⊢
  rw [← Hq.out]
  go_enter Tryz.func50, Tryz.ntmps50
  go_wp2_with fail
  refine wp_region_held_drew (S := fun X => Apart [] w X) (by kernel_rfl) aD (fun hHeld => ?_)
  refine wpAnyH_take (i := 0) (oi := ⟨some 5, _, _, _, _, _⟩) (v := (.string s)) rfl (by kernel_rfl) (by kernel_rfl) (by kernel_rfl) (fun _ _ _ h => h) (Or.inl ⟨by rfl, ?_⟩) (by assumption) ?_
  · intro W hSW; go_simp
  simp only [Act.put, List.setIfInBounds_toArray, List.set_cons_zero, List.set_cons_succ]
  refine wpAnyH_take (i := 3) (oi := ⟨some 8, _, _, _, _, _⟩) (v := (.pointer (some ⟨R, 0, none⟩))) rfl (by kernel_rfl) (by kernel_rfl) (by kernel_rfl) (fun _ _ _ h => h) (Or.inl ⟨by rfl, ?_⟩) (by assumption) ?_
  · intro W hSW; go_simp
  simp only [Act.put, List.setIfInBounds_toArray, List.set_cons_zero, List.set_cons_succ]
  refine wpAnyH_take (i := 4) (oi := ⟨some 9, _, _, _, _, _⟩) (v := (.pointer (some ⟨R, 0, none⟩))) rfl (by kernel_rfl) (by kernel_rfl) (by kernel_rfl) (fun _ _ _ h => h) (Or.inl ⟨by rfl, ?_⟩) (by assumption) ?_
  · intro W hSW; go_simp
  simp only [Act.put, List.setIfInBounds_toArray, List.set_cons_zero, List.set_cons_succ]
  refine wpAnyH_take (i := 5) (oi := ⟨some 10, _, _, _, _, _⟩) (v := (.pointer (some ⟨R, 1, none⟩))) rfl (by kernel_rfl) (by kernel_rfl) (by kernel_rfl) (fun _ _ _ h => h) (Or.inl ⟨by rfl, ?_⟩) (by assumption) ?_
  · intro W hSW; go_simp
  simp only [Act.put, List.setIfInBounds_toArray, List.set_cons_zero, List.set_cons_succ]
  refine wpAnyH_take (i := 6) (oi := ⟨some 11, _, _, _, _, _⟩) (v := (.int .i64 (m : Nat))) rfl (by kernel_rfl) (by kernel_rfl) (by kernel_rfl) (fun _ _ _ h => h) (Or.inl ⟨by rfl, ?_⟩) (by assumption) ?_
  · intro W hSW; go_simp
  simp only [Act.put, List.setIfInBounds_toArray, List.set_cons_zero, List.set_cons_succ]
  refine wpAnyH_ready (rs := [1]) (by kernel_rfl) (by simp) ?_
  refine AllReadyH.cons rfl (fun KK hKK => ?_) AllReadyH.nil
  go_simp
  refine hKK.out _ _ (by assumption) (fun hHeld => ?_)
  clear hKK KK
  refine wpAnyH_ready (rs := [2]) (by kernel_rfl) (by simp) ?_
  refine AllReadyH.cons rfl (fun KK hKK => ?_) AllReadyH.nil
  go_simp
  refine (refHash_ok hBy (by omega)).mono ?_
  rintro r w2 ⟨rfl, rfl⟩
  dsimp only
  rw [← Hh.out]
  refine hKK.out _ _ (by assumption) (fun hHeld => ?_)
  clear hKK KK
  refine wpAnyH_take (i := 7) (oi := ⟨some 12, _, _, _, _, _⟩) (v := (.int .i64 (q : Nat))) rfl (by kernel_rfl) (by kernel_rfl) (by kernel_rfl) (fun _ _ _ h => h) (Or.inl ⟨by rfl, ?_⟩) (by assumption) ?_
  · intro W hSW; go_simp
  simp only [Act.put, List.setIfInBounds_toArray, List.set_cons_zero, List.set_cons_succ]
  refine wpAnyH_take (i := 8) (oi := ⟨some 4, _, _, _, _, _⟩) (v := (.int .i64 (q : Nat))) rfl (by kernel_rfl) (by kernel_rfl) (by kernel_rfl) (fun _ _ _ h => h) (Or.inl ⟨by rfl, ?_⟩) (by assumption) ?_
  · intro W hSW; go_simp
  simp only [Act.put, List.setIfInBounds_toArray, List.set_cons_zero, List.set_cons_succ]
  refine wpAnyH_done (by kernel_rfl) ?_ _
  go_wp2_with fail
  go_ret
  exact ⟨rfl, by assumption⟩
set_option maxHeartbeats 2000000 in
theorem rpref_ok {w : World} {R n m : Nat} (G : Rg w R n m) (r : Nat) (h : r < m) (k : Nat) (hk1 : 1 ≤ k) (hk : k ≤ n) : Calls Tryz.prog 49 #[.pointer (some ⟨R, 0, none⟩), .int .i64 r, .int .i64 k] w fun e w' => LstPost w w' e k ((ord n r).take k) := by
  have := G.n1; have := G.n8; have := G.m16
  have k1 : ¬ ((k : Int) < 1) := by omega
  have k2 : ¬ ((k : Int) > (n : Int)) := by omega
  have HG : Hid (Rg w R n m) := G
  clear G
  go_enter Tryz.func49, Tryz.ntmps49
  go_wp2_with fail
  refine (rorder_ok HG.out r h).mono ?_
  rintro e w1 ⟨⟨P, cap, rfl, O, hle, hc63⟩⟩
  dsimp only
  have c0 := (HG.out.kept0 O.ap).c0
  have B := O.ob
  have hPn := O.new P rfl
  have aP := O.ap
  have B1 : Ob w1 P 0 k cap (ints ((ord n r).take k)) := by
    rw [show ints ((ord n r).take k) = (ints (ord n r)).take k by simp [ints]]
    exact B.first k hk
  clear O B
  have hnk : ¬ cap < k := by omega
  go_wp2_with fail
  go_ret2
  exact ⟨⟨P, 0, cap, rfl, hPn, aP, B1⟩⟩
end Go.Proofs.YtpddokbjjhbfgaaGreat.rg
