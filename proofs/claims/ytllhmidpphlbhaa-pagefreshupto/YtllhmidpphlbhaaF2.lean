import Derived.Deep.RegionHeld
import Derived.OrdersHeld
import Derived.WalkKit
import Derived.ProofKit
import Derived.Lib.TrailingZeros
import Derived.Test.YtllhmidpphlbhaaChecked
import Derived.OpenShut
import Derived.Deep.QuietTactic
import Derived.BigQuiet
import Derived.BigRegion
import Derived.Laws.CopyOwn
import Derived.Laws.Bits64b
import Derived.Laws.MathBits
import Derived.Laws.ShiftsVarLaws
import Derived.WalkSmall
import Derived.Laws.ResultCell
import Derived.Lib.BitFns
import Derived.Laws.StructEq
import Derived.ArgAppend
import Derived.Deep.RegionLaw
import Derived.Deep.DeepAppendRoom
import Derived.Sort.WalkA
import Derived.Laws.Strings
import Derived.Deep.CutBlock
import Derived.Great.BuildSlice
import Derived.Laws.AppendOwnNone
import Derived.Lib.Overlaps
import Derived.Lib.AppendZerosOnto
import Derived.Laws.NewBlocks
import Derived.Laws.Externs
import Derived.Laws.IdiomCopy
import Derived.Laws.BytesString
import Derived.Deep.CutRange
import Derived.RangeFuncNested
import Derived.RangeFuncBound
import Derived.RangeFuncCalls
import Derived.RangeFuncLeaves
import Derived.Shelf.Abstract
import Derived.Shelf.RegionOpen
import Derived.OwnWalkIn
import Derived.TacticsInMore
import Derived.LoopNIn
import Derived.LoopIn
import GoSem.Claim
import GoSem.ClaimJoined
import GoSem.ClaimMapViews
import Derived.JoinedTies
import Derived.KernelRfl
import Derived.Deep.OwnRows
import Derived.Lib.LaidTab
import Derived.JoinedCond
import Derived.ShutString
import Derived.ChangeOld
import Derived.Below
import Derived.Carry
import Derived.ChangeSlices
import Derived.Deep.Slices
import Derived.Deep.DeepHandedRow
import Derived.RowKit
import Derived.ChangeShapes
import Derived.SizedLaws
import Derived.ChangeMaps5
import Derived.Lib.Walk
import Derived.Lib.SliceRun
import Derived.Lib.AppendStr
import Derived.Lib.ConvBytes
import Derived.Deep.RegionHeld3
import Derived.Deep.MidRow
import Derived.Laws.MakeOwn
import Derived.Lib.SlBytesConst
import Derived.Test.YtllhmidpphlbhaaRows
import Derived.Test.YtllhmidpphlbhaaF1
namespace Go.Proofs.Ytllhmidpphlbhaa.ds
open Go.ChangeShapes Go.WideShapes Go.ChangeAt Go.RowKit Go.Shelf
set_option linter.unusedVariables false
set_option linter.unusedSimpArgs false
attribute [local go_sem] Oper.semAt_some
/-- the first m of the numbers below N, downward -/
def dn (N : Nat) : Nat → List (Fin N)
  | 0 => []
  | m + 1 => dn N m ++ (if h : N - 1 - m < N then [⟨N - 1 - m, h⟩] else [])
end Go.Proofs.Ytllhmidpphlbhaa.ds
namespace Go.Proofs.Ytllhmidpphlbhaa.ds
open Go.ChangeShapes Go.WideShapes Go.ChangeAt Go.RowKit Go.Deep Go.Sort
set_option linter.unusedVariables false
set_option linter.unusedSimpArgs false
set_option maxRecDepth 100000
theorem own : ownKnob Try.prog.godebug = none := by kernel_rfl
end Go.Proofs.Ytllhmidpphlbhaa.ds
namespace Go.Proofs.Ytllhmidpphlbhaa.ds
set_option linter.unusedVariables false
set_option linter.unusedSimpArgs false
/-- a number of k bytes, the lowest first -/
def le (B : List Nat) : Nat → Nat → Nat
  | 0, _ => 0
  | k + 1, q => B.getD q 0 + 256 * le B k (q + 1)
/-- where a reader of a page stands, and whether it has stopped there -/
structure Ps where
  at_ : Nat
  bad : Bool
deriving DecidableEq
/-- a number of k bytes, from lo to hi -/
def num (B : List Nat) (k lo hi : Nat) (s : Ps) : Nat × Ps :=
  if s.bad = true then (0, s) else if lo ≤ le B k s.at_ ∧ le B k s.at_ ≤ hi then (le B k s.at_, ⟨s.at_ + k, false⟩) else (0, ⟨s.at_, true⟩)
/-- a length, and so many bytes: where they begin, how many -/
def textR (B : List Nat) (lo hi : Nat) (s : Ps) : (Nat × Nat) × Ps :=
  (((num B 1 lo hi s).2.at_, (num B 1 lo hi s).1), ⟨(num B 1 lo hi s).2.at_ + (num B 1 lo hi s).1, (num B 1 lo hi s).2.bad⟩)
/-- a right span -/
def rgtS (x : S) : Bool := decide (0 ≤ x.n) && decide (x.n < 8) && decide (0 ≤ x.b) && decide (x.b ≤ 1048576) && decide (¬ (x.b = 0 ∧ x.t = 0)) && decide (x.t % 2 = 0) && decide ((bl x.t : Int) ≤ 64) && decide (x.b + bl x.t ≤ 1048576)
theorem rgtS_iff (x : S) : rgtS x = true ↔ Ok 64 x := by
  unfold rgtS
  simp only [Bool.and_eq_true, decide_eq_true_eq]
  constructor
  · rintro ⟨⟨⟨⟨⟨⟨⟨h1, h2⟩, h3⟩, h4⟩, h5⟩, h6⟩, h7⟩, h8⟩
    exact ⟨h1, h2, h3, h4, h5, h6, h7, h8⟩
  · intro h
    exact ⟨⟨⟨⟨⟨⟨⟨h.n0, h.n8⟩, h.b0⟩, h.bM⟩, h.ne⟩, h.ev⟩, h.gp⟩, h.mx⟩
/-- is the dot in the span? -/
def dotS (x : S) (dn dc : Nat) : Bool := decide (x.n = (dn : Int)) && decide (1 ≤ dc) && dot x dc
def zS : S := ⟨0, 0, 0⟩
def ctxS (x : S) (dn dc : Nat) : Bool := rgtS x && !dotS x dn dc
/-- a span of a node that is not below lo, without the dot -/
def spanR (B : List Nat) (lo dn dc : Nat) (s : Ps) : S × Ps :=
  let a := num B 1 lo 7 s
  let b := num B 4 0 1048576 a.2
  if b.2.bad = true then (zS, b.2)
  else if ctxS ⟨a.1, b.1, le B 8 b.2.at_⟩ dn dc = true then (⟨a.1, b.1, le B 8 b.2.at_⟩, ⟨b.2.at_ + 8, false⟩) else (zS, ⟨b.2.at_, true⟩)
def spansR (B : List Nat) (dn dc : Nat) : Nat → Nat → Ps → List S × Ps
  | 0, _, s => ([], s)
  | m + 1, lo, s => ((spanR B lo dn dc s).1 :: (spansR B dn dc m ((spanR B lo dn dc s).1.n.toNat + 1) (spanR B lo dn dc s).2).1, (spansR B dn dc m ((spanR B lo dn dc s).1.n.toNat + 1) (spanR B lo dn dc s).2).2)
def setR (B : List Nat) (dn dc : Nat) (s : Ps) : List S × Ps := spansR B dn dc (num B 1 0 8 s).1 0 (num B 1 0 8 s).2
/-- a clock: its range, its set -/
def clockR (B : List Nat) (lo : Nat) (s : Ps) : (Nat × List S) × Ps := (((num B 1 lo 15 s).1, (setR B 0 0 (num B 1 lo 15 s).2).1), (setR B 0 0 (num B 1 lo 15 s).2).2)
def clocksR (B : List Nat) : Nat → Nat → Ps → List (Nat × List S) × Ps
  | 0, _, s => ([], s)
  | m + 1, lo, s => ((clockR B lo s).1 :: (clocksR B m ((clockR B lo s).1.1 + 1) (clockR B lo s).2).1, (clocksR B m ((clockR B lo s).1.1 + 1) (clockR B lo s).2).2)
/-- a write of a page: its value by its place -/
structure Pw where
  n : Nat
  c : Nat
  d : Bool
  vb : Nat
  vn : Nat
  xs : List S
deriving DecidableEq
def Pw.z : Pw := ⟨0, 0, false, 0, 0, []⟩
def leastC (an ac n : Nat) : Nat := if n = an then ac + 1 else 1
def mostV (d : Bool) : Nat := if d = true then 0 else 64
def writeR (B : List Nat) (an ac : Nat) (s : Ps) : Pw × Ps :=
  let a := num B 1 an 7 s
  let b := num B 4 (leastC an ac a.1) 1048576 a.2
  let d := num B 1 0 1 b.2
  let v := textR B 0 (mostV (d.1 == 1)) d.2
  let x := setR B a.1 b.1 v.2
  (⟨a.1, b.1, d.1 == 1, v.1.1, v.1.2, x.1⟩, x.2)
def writesR (B : List Nat) : Nat → Nat → Nat → Ps → List Pw × Ps
  | 0, _, _, s => ([], s)
  | m + 1, an, ac, s => ((writeR B an ac s).1 :: (writesR B m (writeR B an ac s).1.n (writeR B an ac s).1.c (writeR B an ac s).2).1, (writesR B m (writeR B an ac s).1.n (writeR B an ac s).1.c (writeR B an ac s).2).2)
/-- what stands ahead of clocks or writes: kind, number, owner, how many, the key by its place -/
structure Ph where
  k : Nat
  g : Nat
  o : Nat
  m : Nat
  kb : Nat
  kn : Nat
deriving DecidableEq
def headR (B : List Nat) (s : Ps) : Ph × Ps :=
  let k := num B 1 1 3 s
  if k.1 = 1 then
    let g := num B 6 0 281474976710655 k.2
    let m := num B 1 0 16 g.2
    (⟨k.1, g.1, 0, m.1, 0, 0⟩, m.2)
  else if k.1 = 2 then
    let t := textR B 1 16 k.2
    let m := num B 1 1 8 t.2
    (⟨k.1, 0, 0, m.1, t.1.1, t.1.2⟩, m.2)
  else if k.1 = 3 then
    let o := num B 1 0 7 k.2
    let t := textR B 1 16 o.2
    (⟨k.1, 0, o.1, 1, t.1.1, t.1.2⟩, t.2)
  else (⟨k.1, 0, 0, 0, 0, 0⟩, k.2)
def zerosR (B : List Nat) : Nat → Ps → Ps
  | 0, s => s
  | f + 1, s => if s.bad = false ∧ s.at_ < 2048 then zerosR B f (num B 1 0 0 s).2 else s
/-- all ahead of the zeros -/
def bodyR (B : List Nat) : Ph × Ps :=
  let h := headR B ⟨0, false⟩
  (h.1, if h.1.k = 1 then (clocksR B h.1.m 0 h.2).2 else (writesR B h.1.m 0 0 h.2).2)
def endR (B : List Nat) : Ps := zerosR B 2048 (bodyR B).2
/-- Check -/
def checkR (B : List Nat) : Nat × Nat × Nat := if B.length = 2048 then (if (endR B).bad = true then (0, (endR B).at_, 70) else ((bodyR B).1.k, 0, 0)) else (0, min B.length 2048, 70)
/-! a reader that has stopped stays -/
theorem num_bad (B : List Nat) (k lo hi : Nat) {s : Ps} (h : s.bad = true) : num B k lo hi s = (0, s) := by unfold num; rw [if_pos h]
theorem textR_bad (B : List Nat) (lo hi : Nat) {s : Ps} (h : s.bad = true) : textR B lo hi s = ((s.at_, 0), s) := by unfold textR; rw [num_bad B _ _ _ h]; rfl
theorem spanR_bad (B : List Nat) (lo dn dc : Nat) {s : Ps} (h : s.bad = true) : spanR B lo dn dc s = (zS, s) := by
  unfold spanR
  simp only [num_bad B _ _ _ h]
  rw [if_pos h]
theorem spansR_bad (B : List Nat) (dn dc : Nat) : ∀ (m lo : Nat) {s : Ps}, s.bad = true → (spansR B dn dc m lo s).2 = s
  | 0, _, s, h => rfl
  | m + 1, lo, s, h => by unfold spansR; rw [spanR_bad B _ _ _ h]; exact spansR_bad B dn dc m _ h
theorem setR_bad (B : List Nat) (dn dc : Nat) {s : Ps} (h : s.bad = true) : setR B dn dc s = ([], s) := by unfold setR; rw [num_bad B _ _ _ h]; rfl
theorem clockR_bad (B : List Nat) (lo : Nat) {s : Ps} (h : s.bad = true) : clockR B lo s = ((0, []), s) := by unfold clockR; simp only [num_bad B _ _ _ h, setR_bad B _ _ h]
theorem clocksR_bad (B : List Nat) : ∀ (m lo : Nat) {s : Ps}, s.bad = true → (clocksR B m lo s).2 = s
  | 0, _, s, h => rfl
  | m + 1, lo, s, h => by unfold clocksR; rw [clockR_bad B _ h]; exact clocksR_bad B m _ h
theorem writeR_bad (B : List Nat) (an ac : Nat) {s : Ps} (h : s.bad = true) : writeR B an ac s = (⟨0, 0, false, s.at_, 0, []⟩, s) := by
  unfold writeR; simp only [num_bad B _ _ _ h, textR_bad B _ _ h, setR_bad B _ _ h]; rfl
theorem writesR_bad (B : List Nat) : ∀ (m an ac : Nat) {s : Ps}, s.bad = true → (writesR B m an ac s).2 = s
  | 0, _, _, s, h => rfl
  | m + 1, an, ac, s, h => by unfold writesR; rw [writeR_bad B _ _ h]; exact writesR_bad B m _ _ h
/-! how far each part goes -/
theorem num_at (B : List Nat) (k lo hi : Nat) (s : Ps) : s.at_ ≤ (num B k lo hi s).2.at_ ∧ (num B k lo hi s).2.at_ ≤ s.at_ + k := by
  unfold num
  split
  · exact ⟨Nat.le_refl _, by simp⟩
  · split
    · exact ⟨by simp, by simp⟩
    · exact ⟨by simp, by simp⟩
theorem num_le (B : List Nat) (k lo hi : Nat) (s : Ps) : (num B k lo hi s).1 ≤ hi := by
  unfold num
  split
  · exact Nat.zero_le _
  · split
    · rename_i h; exact h.2
    · exact Nat.zero_le _
theorem num_bd (B : List Nat) (k lo hi : Nat) (s : Ps) (h : (num B k lo hi s).2.bad = true) : (num B k lo hi s).1 = 0 := by
  revert h
  unfold num
  split
  · exact fun _ => rfl
  · split
    · intro h; simp at h
    · exact fun _ => rfl
theorem num_ok (B : List Nat) (k lo hi : Nat) (s : Ps) (h : (num B k lo hi s).2.bad = false) : s.bad = false ∧ (num B k lo hi s) = (le B k s.at_, ⟨s.at_ + k, false⟩) ∧ lo ≤ le B k s.at_ ∧ le B k s.at_ ≤ hi := by
  revert h
  unfold num
  split
  · rename_i h; intro k; rw [h] at k; simp at k
  · rename_i h
    split
    · rename_i hr; intro k; exact ⟨by simpa using h, rfl, hr⟩
    · intro k; simp at k
theorem textR_at (B : List Nat) (lo hi : Nat) (s : Ps) : s.at_ ≤ (textR B lo hi s).1.1 ∧ (textR B lo hi s).1.1 ≤ s.at_ + 1 ∧ (textR B lo hi s).1.2 ≤ hi ∧ (textR B lo hi s).2.at_ = (textR B lo hi s).1.1 + (textR B lo hi s).1.2 := by
  have h1 := num_at B 1 lo hi s
  have h2 := num_le B 1 lo hi s
  unfold textR
  exact ⟨h1.1, h1.2, h2, rfl⟩
theorem spanR_at (B : List Nat) (lo dn dc : Nat) (s : Ps) : s.at_ ≤ (spanR B lo dn dc s).2.at_ ∧ (spanR B lo dn dc s).2.at_ ≤ s.at_ + 13 := by
  have h1 := num_at B 1 lo 7 s
  have h2 := num_at B 4 0 1048576 (num B 1 lo 7 s).2
  unfold spanR
  dsimp only
  split
  · dsimp only; omega
  · split
    · dsimp only; omega
    · dsimp only; omega
theorem spanR_n (B : List Nat) (lo dn dc : Nat) (s : Ps) : 0 ≤ (spanR B lo dn dc s).1.n ∧ (spanR B lo dn dc s).1.n ≤ 7 := by
  have h1 := num_le B 1 lo 7 s
  unfold spanR
  dsimp only
  split
  · exact ⟨by show (0:Int) ≤ 0; decide, by show (0:Int) ≤ 7; decide⟩
  · split
    · dsimp only; omega
    · exact ⟨by show (0:Int) ≤ 0; decide, by show (0:Int) ≤ 7; decide⟩
theorem spansR_at (B : List Nat) (dn dc : Nat) : ∀ (m lo : Nat) (s : Ps), s.at_ ≤ (spansR B dn dc m lo s).2.at_ ∧ (spansR B dn dc m lo s).2.at_ ≤ s.at_ + 13 * m ∧ (spansR B dn dc m lo s).1.length = m
  | 0, _, s => ⟨Nat.le_refl _, Nat.le_refl _, rfl⟩
  | m + 1, lo, s => by
    have h1 := spanR_at B lo dn dc s
    have h2 := spansR_at B dn dc m ((spanR B lo dn dc s).1.n.toNat + 1) (spanR B lo dn dc s).2
    unfold spansR
    refine ⟨by dsimp only; omega, by dsimp only; omega, by rw [List.length_cons]; omega⟩
theorem setR_at (B : List Nat) (dn dc : Nat) (s : Ps) : s.at_ ≤ (setR B dn dc s).2.at_ ∧ (setR B dn dc s).2.at_ ≤ s.at_ + 105 ∧ (setR B dn dc s).1.length ≤ 8 := by
  have h1 := num_at B 1 0 8 s
  have h3 := num_le B 1 0 8 s
  have h2 := spansR_at B dn dc (num B 1 0 8 s).1 0 (num B 1 0 8 s).2
  unfold setR
  omega
theorem clockR_at (B : List Nat) (lo : Nat) (s : Ps) : s.at_ ≤ (clockR B lo s).2.at_ ∧ (clockR B lo s).2.at_ ≤ s.at_ + 106 ∧ (clockR B lo s).1.1 ≤ 15 := by
  have h1 := num_at B 1 lo 15 s
  have h3 := num_le B 1 lo 15 s
  have h2 := setR_at B 0 0 (num B 1 lo 15 s).2
  unfold clockR
  dsimp only; omega
theorem mostV_le (d : Bool) : mostV d ≤ 64 := by cases d <;> decide
theorem writeR_at (B : List Nat) (an ac : Nat) (s : Ps) : s.at_ ≤ (writeR B an ac s).2.at_ ∧ (writeR B an ac s).2.at_ ≤ s.at_ + 176 ∧ (writeR B an ac s).1.n ≤ 7 ∧ (writeR B an ac s).1.c ≤ 1048576 ∧ (writeR B an ac s).1.vn ≤ 64 ∧ s.at_ ≤ (writeR B an ac s).1.vb ∧ (writeR B an ac s).1.vb + (writeR B an ac s).1.vn ≤ s.at_ + 71 := by
  unfold writeR
  dsimp only
  generalize ha : num B 1 an 7 s = a
  have a1 := num_at B 1 an 7 s
  have a2 := num_le B 1 an 7 s
  rw [ha] at a1 a2
  generalize hb : num B 4 (leastC an ac a.1) 1048576 a.2 = b
  have b1 := num_at B 4 (leastC an ac a.1) 1048576 a.2
  have b2 := num_le B 4 (leastC an ac a.1) 1048576 a.2
  rw [hb] at b1 b2
  generalize hd : num B 1 0 1 b.2 = d
  have d1 := num_at B 1 0 1 b.2
  rw [hd] at d1
  generalize hv : textR B 0 (mostV (d.1 == 1)) d.2 = v
  have v1 := textR_at B 0 (mostV (d.1 == 1)) d.2
  rw [hv] at v1
  have v2 := mostV_le (d.1 == 1)
  have x1 := setR_at B a.1 b.1 v.2
  refine ⟨?_, ?_, a2, b2, ?_, ?_, ?_⟩ <;> omega
theorem headR_at (B : List Nat) (s : Ps) : s.at_ ≤ (headR B s).2.at_ ∧ (headR B s).2.at_ ≤ s.at_ + 19 ∧ (headR B s).1.k ≤ 3 ∧ (headR B s).1.m ≤ 16 ∧ ((headR B s).1.k ≠ 1 → (headR B s).1.m ≤ 8) ∧ (headR B s).1.kn ≤ 16 ∧ (headR B s).1.kb + (headR B s).1.kn ≤ s.at_ + 19 ∧ (headR B s).1.g ≤ 281474976710655 ∧ (headR B s).1.o ≤ 7 := by
  unfold headR
  dsimp only
  generalize ha : num B 1 1 3 s = a
  have a1 := num_at B 1 1 3 s
  have a2 := num_le B 1 1 3 s
  rw [ha] at a1 a2
  split
  · have g1 := num_at B 6 0 281474976710655 a.2
    have g2 := num_le B 6 0 281474976710655 a.2
    generalize num B 6 0 281474976710655 a.2 = g at g1 g2 ⊢
    have m1 := num_at B 1 0 16 g.2
    have m2 := num_le B 1 0 16 g.2
    dsimp only
    refine ⟨?_, ?_, ?_, ?_, ?_, ?_, ?_, ?_, ?_⟩ <;> omega
  · split
    · have t1 := textR_at B 1 16 a.2
      generalize textR B 1 16 a.2 = t at t1 ⊢
      have m1 := num_at B 1 1 8 t.2
      have m2 := num_le B 1 1 8 t.2
      dsimp only
      refine ⟨?_, ?_, ?_, ?_, ?_, ?_, ?_, ?_, ?_⟩ <;> omega
    · split
      · have g1 := num_at B 1 0 7 a.2
        have g2 := num_le B 1 0 7 a.2
        generalize num B 1 0 7 a.2 = g at g1 g2 ⊢
        have t1 := textR_at B 1 16 g.2
        dsimp only
        refine ⟨?_, ?_, ?_, ?_, ?_, ?_, ?_, ?_, ?_⟩ <;> omega
      · dsimp only
        refine ⟨?_, ?_, ?_, ?_, ?_, ?_, ?_, ?_, ?_⟩ <;> omega
end Go.Proofs.Ytllhmidpphlbhaa.ds
