import Derived.Deep.RegionHeld
import Derived.OrdersHeld
import Derived.WalkKit
import Derived.ProofKit
import Derived.Lib.TrailingZeros
import Derived.Test.YtllhmidpphlbhaaChecked
import Derived.OpenShut
import Derived.Deep.QuietTactic
import Derived.BigQuiet
import Derived.BigRegion
import Derived.Laws.CopyOwn
import Derived.Laws.Bits64b
import Derived.Laws.MathBits
import Derived.Laws.ShiftsVarLaws
import Derived.WalkSmall
import Derived.Laws.ResultCell
import Derived.Lib.BitFns
import Derived.Laws.StructEq
import Derived.ArgAppend
import Derived.Deep.RegionLaw
import Derived.Deep.DeepAppendRoom
import Derived.Sort.WalkA
import Derived.Laws.Strings
import Derived.Deep.CutBlock
import Derived.Great.BuildSlice
import Derived.Laws.AppendOwnNone
import Derived.Lib.Overlaps
import Derived.Lib.AppendZerosOnto
import Derived.Laws.NewBlocks
import Derived.Laws.Externs
import Derived.Laws.IdiomCopy
import Derived.Laws.BytesString
import Derived.Deep.CutRange
import Derived.RangeFuncNested
import Derived.RangeFuncBound
import Derived.RangeFuncCalls
import Derived.RangeFuncLeaves
import Derived.Shelf.Abstract
import Derived.Shelf.RegionOpen
import Derived.OwnWalkIn
import Derived.TacticsInMore
import Derived.LoopNIn
import Derived.LoopIn
import GoSem.Claim
import GoSem.ClaimJoined
import GoSem.ClaimMapViews
import Derived.JoinedTies
import Derived.KernelRfl
import Derived.Deep.OwnRows
import Derived.Lib.LaidTab
import Derived.JoinedCond
import Derived.ShutString
import Derived.ChangeOld
import Derived.Below
import Derived.Carry
import Derived.ChangeSlices
import Derived.Deep.Slices
import Derived.Deep.DeepHandedRow
import Derived.RowKit
import Derived.ChangeShapes
import Derived.SizedLaws
import Derived.ChangeMaps5
import Derived.Lib.Walk
import Derived.Lib.SliceRun
import Derived.Lib.AppendStr
import Derived.Lib.ConvBytes
import Derived.Deep.RegionHeld3
import Derived.Deep.MidRow
import Derived.Laws.MakeOwn
import Derived.Lib.SlBytesConst
import Derived.Test.YtllhmidpphlbhaaRows
import Derived.Test.YtllhmidpphlbhaaF38
import Derived.Test.YtllhmidpphlbhaaF40
namespace Go.Proofs.Ytllhmidpphlbhaa.ds
open Go.ChangeShapes Go.WideShapes Go.ChangeAt Go.RowKit Go.Sort
set_option linter.unusedVariables false
set_option linter.unusedSimpArgs false

/-! the first of a page's clocks and writes -/
theorem clocksR_len (B : List Nat) : ∀ (m lo : Nat) (s : Ps), (clocksR B m lo s).1.length = m
  | 0, _, _ => rfl
  | m + 1, lo, s => by unfold clocksR; simp [clocksR_len B m]
theorem writesR_len (B : List Nat) : ∀ (m an ac : Nat) (s : Ps), (writesR B m an ac s).1.length = m
  | 0, _, _, _ => rfl
  | m + 1, an, ac, s => by unfold writesR; simp [writesR_len B m]
theorem clocksR_take (B : List Nat) : ∀ (k m lo : Nat) (s : Ps), k ≤ m → (clocksR B k lo s).1 = (clocksR B m lo s).1.take k
  | 0, _, _, _, _ => by simp [clocksR]
  | k + 1, 0, _, _, h => by omega
  | k + 1, m + 1, lo, s, h => by
    unfold clocksR; simp only [List.take_succ_cons]; rw [clocksR_take B k m _ _ (by omega)]
theorem writesR_take (B : List Nat) : ∀ (k m an ac : Nat) (s : Ps), k ≤ m → (writesR B k an ac s).1 = (writesR B m an ac s).1.take k
  | 0, _, _, _, _, _ => by simp [writesR]
  | k + 1, 0, _, _, _, h => by omega
  | k + 1, m + 1, an, ac, s, h => by
    unfold writesR; simp only [List.take_succ_cons]; rw [writesR_take B k m _ _ _ (by omega)]
theorem clocksR_pre {B : List Nat} : ∀ (k m lo : Nat) (s : Ps), k ≤ m → (clocksR B m lo s).2.bad = false → (clocksR B k lo s).2.bad = false
  | 0, m, lo, s, _, h => clocksR_ok1 h
  | k + 1, 0, _, _, h, _ => by omega
  | k + 1, m + 1, lo, s, h, hb => by
    unfold clocksR at hb ⊢; exact clocksR_pre k m _ _ (by omega) hb
theorem writesR_pre {B : List Nat} : ∀ (k m an ac : Nat) (s : Ps), k ≤ m → (writesR B m an ac s).2.bad = false → (writesR B k an ac s).2.bad = false
  | 0, m, an, ac, s, _, h => writesR_ok1 h
  | k + 1, 0, _, _, _, h, _ => by omega
  | k + 1, m + 1, an, ac, s, h, hb => by
    unfold writesR at hb ⊢; exact writesR_pre k m _ _ _ (by omega) hb
theorem last_take {α : Type} (d : α) (l : List α) (i : Nat) (h : i < l.length) : (l.take (i + 1)).getLast?.getD d = l[i] := by
  rw [List.getLast?_eq_getElem?, List.length_take, Nat.min_eq_left (by omega), Nat.add_sub_cancel, List.getElem?_take, if_pos (by omega), List.getElem?_eq_getElem h]; rfl
/-- the last of the first i + 1 clocks is the i-th -/
theorem lastC_at {B : List Nat} {m i lo : Nat} {s : Ps} (h : i < m) : (clocksR B m lo s).1[i]? = some (lastC (clocksR B (i + 1) lo s).1) := by
  have hl : i < (clocksR B m lo s).1.length := by rw [clocksR_len]; exact h
  unfold lastC
  rw [clocksR_take B (i + 1) m lo s (by omega), last_take _ _ _ hl, List.getElem?_eq_getElem hl]
theorem lastW_at {B : List Nat} {m i an ac : Nat} {s : Ps} (h : i < m) : (writesR B m an ac s).1[i]? = some ((writesR B (i + 1) an ac s).1.getLast?.getD Pw.z) := by
  have hl : i < (writesR B m an ac s).1.length := by rw [writesR_len]; exact h
  rw [writesR_take B (i + 1) m an ac s (by omega), last_take _ _ _ hl, List.getElem?_eq_getElem hl]
/-- of a good page: each clock is told, and is the i-th -/
theorem csOf_at {B : List Nat} {i : Nat} (h1 : (headR B ⟨0, false⟩).1.k = 1) (h : i < (headR B ⟨0, false⟩).1.m) (hb : (clocksR B (headR B ⟨0, false⟩).1.m 0 (headR B ⟨0, false⟩).2).2.bad = false) : argC (headR B ⟨0, false⟩).1 (i : Int) = false ∧ (clocksR B (i + 1) 0 (headR B ⟨0, false⟩).2).2.bad = false ∧ (csOf B)[i]? = some (cfn (lastC (clocksR B (i + 1) 0 (headR B ⟨0, false⟩).2).1)) := by
  refine ⟨?_, clocksR_pre _ _ _ _ (by omega) hb, ?_⟩
  · unfold argC
    have h0 : (0 : Int) ≤ (i : Int) ∧ (i : Int) ≤ ((headR B ⟨0, false⟩).1.m : Int) - 1 := by omega
    simp [h1]; omega
  · unfold csOf; rw [List.getElem?_map, lastC_at h]; rfl
/-- of a good page: each write is told, and is the i-th -/
theorem rsOf_at {B : List Nat} {i : Nat} (h1 : (headR B ⟨0, false⟩).1.k ≠ 1) (h : i < (headR B ⟨0, false⟩).1.m) (hb : (writesR B (headR B ⟨0, false⟩).1.m 0 0 (headR B ⟨0, false⟩).2).2.bad = false) : vErr B (i : Int) = 0 ∧ (rsOf B)[i]? = some (wfn B (keyOf B) (vPw B (i : Int))) := by
  have ha : argW (headR B ⟨0, false⟩).1 (i : Int) = false := by
    unfold argW; simp [h1]; omega
  have hv : vErr B (i : Int) = 0 := by
    unfold vErr
    rw [ha, if_neg (by decide), Int.toNat_natCast, writesR_pre (i + 1) _ _ _ _ (by omega) hb, if_neg (by decide)]
  refine ⟨hv, ?_⟩
  unfold rsOf vPw
  rw [List.getElem?_map, lastW_at h, if_pos hv, Int.toNat_natCast]; rfl
theorem csOf_len (B : List Nat) : (csOf B).length = (headR B ⟨0, false⟩).1.m := by unfold csOf; rw [List.length_map, clocksR_len]
theorem rsOf_len (B : List Nat) : (rsOf B).length = (headR B ⟨0, false⟩).1.m := by unfold rsOf; rw [List.length_map, writesR_len]
end Go.Proofs.Ytllhmidpphlbhaa.ds
namespace Go.Proofs.Ytllhmidpphlbhaa.ds
open Go.ChangeShapes Go.WideShapes Go.ChangeAt Go.RowKit Go.Sort
set_option linter.unusedVariables false
set_option linter.unusedSimpArgs false

/-! what a built page tells is the content -/
def wrOf (k : ByteArray) (c : Cw) : Wr := ⟨c.n, c.c, k, c.d, c.vs, c.xs⟩
theorem rsOf_w (B : List Nat) : rsOf B = ((wsR B).map (Pw.w B)).map (wrOf (keyOf B)) := by
  unfold rsOf wsR; rw [List.map_map]; rfl
theorem csOf_w (B : List Nat) : csOf B = (csR B).map cfn := rfl
theorem keyOf_w (B : List Nat) : keyOf B = strB (keyR B) := rfl
theorem wrOf_cw {r : Wr} (h : Stor r) : wrOf r.k (cwOf r) = r := by
  obtain ⟨n1, n2⟩ := h.n
  obtain ⟨c1, c2⟩ := h.c
  obtain ⟨n, c, k, d, vs, xs⟩ := r
  dsimp only at n1 n2 c1 c2
  unfold wrOf cwOf
  dsimp only
  rw [show ((n.toNat : Nat) : Int) = n from by omega, show ((c.toNat : Nat) : Int) = c from by omega]
theorem clOf_back : ∀ {cs : List (Int × List S)} {lo : Int}, 0 ≤ lo → eCls lo cs = 0 → (clOf cs).map cfn = cs
  | [], lo, h0, h => rfl
  | c :: l, lo, h0, h => by
    unfold eCls at h
    split at h
    · rename_i h1
      split at h
      · have ih := clOf_back (cs := l) (lo := c.1 + 1) (by omega) h
        show cfn (c.1.toNat, c.2) :: (clOf l).map cfn = _
        rw [ih]
        unfold cfn
        dsimp only
        rw [show ((c.1.toNat : Nat) : Int) = c.1 from by omega]
      · omega
    · omega
theorem headR_o (B : List Nat) (s : Ps) : ((headR B s).1.k ≠ 3 → (headR B s).1.o = 0) ∧ ((headR B s).1.k ≠ 1 → (headR B s).1.g = 0) := by
  unfold headR
  dsimp only
  split
  · rename_i h
    exact ⟨fun _ => rfl, fun k => absurd h k⟩
  · split
    · exact ⟨fun _ => rfl, fun _ => rfl⟩
    · split
      · rename_i h
        exact ⟨fun k => absurd h k, fun _ => rfl⟩
      · exact ⟨fun _ => rfl, fun _ => rfl⟩
theorem pcR_C {B : List Nat} {g : Nat} {cs : List (Nat × List S)} (h : pcR B = .clocks g cs) : (headR B ⟨0, false⟩).1.k = 1 ∧ (headR B ⟨0, false⟩).1.g = g ∧ csR B = cs := by
  unfold pcR at h
  split at h
  · rename_i k
    simp only [Pc.clocks.injEq] at h
    exact ⟨k, h.1, h.2⟩
  · split at h <;> cases h
theorem pcR_K {B : List Nat} {k : List Nat} {ws : List Cw} (h : pcR B = .key k ws) : (headR B ⟨0, false⟩).1.k = 2 ∧ keyR B = k ∧ (wsR B).map (Pw.w B) = ws := by
  unfold pcR at h
  split at h
  · cases h
  · split at h
    · rename_i k
      simp only [Pc.key.injEq] at h
      exact ⟨k, h.1, h.2⟩
    · cases h
theorem headR_3 {B : List Nat} {s : Ps} (h : (headR B s).1.k = 3) : (headR B s).1.m = 1 := by
  revert h
  unfold headR
  dsimp only
  split
  · rename_i h; intro k; dsimp only at k; omega
  · split
    · rename_i h; intro k; dsimp only at k; omega
    · split
      · intro _; rfl
      · rename_i h; intro k; exact absurd k h
theorem pcR_H {B : List Nat} {o : Nat} {k : List Nat} {w : Cw} (hb : (bodyR B).2.bad = false) (hB : B.length = 2048) (h8 : ∀ b ∈ B, b < 256) (h : pcR B = .hint o k w) : (headR B ⟨0, false⟩).1.k = 3 ∧ (headR B ⟨0, false⟩).1.o = o ∧ keyR B = k ∧ (wsR B).map (Pw.w B) = [w] := by
  have hk := (bodyR_go hB h8 hb).2.2
  rw [h] at hk
  have h3 : (headR B ⟨0, false⟩).1.k = 3 := hk.symm
  unfold pcR at h
  rw [if_neg (by rw [h3]; decide), if_neg (by rw [h3]; decide)] at h
  simp only [Pc.hint.injEq] at h
  have hm := headR_3 h3
  obtain ⟨h1, h2, h4⟩ := h
  refine ⟨h3, h1, h2, ?_⟩
  have hl : ((wsR B).map (Pw.w B)).length = 1 := by unfold wsR; rw [List.length_map, writesR_len, hm]
  match hq : (wsR B).map (Pw.w B), hl with
  | [x], _ => rw [hq] at h4; rw [← h4]; rfl
/-- what a built page tells -/
structure Bk (B : List Nat) (kd gn ow : Int) (cs : List (Int × List S)) (rs : List Wr) : Prop where
  len : B.length = 2048
  good : (endR B).bad = false
  k : ((headR B ⟨0, false⟩).1.k : Int) = (if kd = 1 then 1 else if kd = 2 then 2 else 3)
  g : ((headR B ⟨0, false⟩).1.g : Int) = (if kd = 1 then gn else 0)
  o : ((headR B ⟨0, false⟩).1.o : Int) = (if kd = 1 then 0 else if kd = 2 then 0 else ow)
  c : kd = 1 → csOf B = cs
  w : kd ≠ 1 → rsOf B = (if kd = 2 then rs else [gR rs 0])
  ck : checkR B = ((headR B ⟨0, false⟩).1.k, 0, 0)
theorem bk_of {kd gn ow : Int} {cs : List (Int × List S)} {rs : List Wr} (h : cE kd gn ow cs rs = 0) (h8 : L8 (pad (encPc (cP kd gn ow cs rs)))) : Bk (pad (encPc (cP kd gn ow cs rs))) kd gn ow cs rs := by
  obtain ⟨hv, hl⟩ := cP_len h
  obtain ⟨c1, c2, c3⟩ := check_pad hv
  have hb := endR_ok1 c3
  generalize hB : pad (encPc (cP kd gn ow cs rs)) = B at *
  have hck : checkR B = ((headR B ⟨0, false⟩).1.k, 0, 0) := by
    unfold checkR
    rw [if_pos hl, if_neg (by rw [c3]; decide)]
    rfl
  have hgo := headR_o B ⟨0, false⟩
  by_cases k1 : kd = 1
  · subst k1
    unfold cE at h
    rw [if_pos rfl] at h
    unfold cP at c2
    rw [if_pos rfl] at c2
    obtain ⟨e1, e2, e3⟩ := pcR_C c2
    have hg : 0 ≤ gn ∧ eCls 0 cs = 0 := by
      unfold eClocks at h
      split at h
      · rename_i q
        split at h
        · exact ⟨q.1, h⟩
        · omega
      · omega
    refine ⟨hl, c3, by rw [e1]; rfl, ?_, ?_, fun _ => ?_, fun k => absurd rfl k, hck⟩
    · rw [e2, if_pos rfl]; omega
    · rw [hgo.1 (by rw [e1]; decide), if_pos rfl]; rfl
    · rw [csOf_w, e3]; exact clOf_back (lo := 0) (by omega) hg.2
  · unfold cE at h
    rw [if_neg k1] at h
    unfold cP at c2
    rw [if_neg k1] at c2
    by_cases k2 : kd = 2
    · rw [if_pos k2] at h c2
      obtain ⟨e1, e2, e3⟩ := pcR_K c2
      have hm : ∀ r ∈ rs, r.k = (rs.headD pcK.Wr.z0).k ∧ Stor r := by
        cases rs with
        | nil => exact absurd h (by decide)
        | cons r l =>
          have h : eKey1 r l = 0 := h
          unfold eKey1 at h
          split at h
          · split at h
            · exact (VPws_of h).2
            · omega
          · omega
      refine ⟨hl, c3, by rw [e1, if_neg k1, if_pos k2]; rfl, ?_, ?_, fun k => absurd k k1, fun _ => ?_, hck⟩
      · rw [hgo.2 (by rw [e1]; decide), if_neg k1]; rfl
      · rw [hgo.1 (by rw [e1]; decide), if_neg k1, if_pos k2]; rfl
      · rw [if_pos k2, rsOf_w, e3, keyOf_w, e2, strB_bsk, List.map_map]
        refine (List.map_congr_left (fun r hr => ?_)).trans (List.map_id rs)
        obtain ⟨q1, q2⟩ := hm r hr
        show wrOf _ (cwOf r) = r
        rw [← q1]
        exact wrOf_cw q2
    · rw [if_neg k2] at h c2
      obtain ⟨e1, e2, e3, e4⟩ := pcR_H hb hl h8 c2
      have hs : (0 ≤ ow) ∧ Stor (gR rs 0) := by
        unfold eHint at h
        split at h
        · rename_i q
          split at h
          · split at h
            · rename_i q2; exact ⟨q.1, q2⟩
            · omega
          · omega
        · omega
      refine ⟨hl, c3, by rw [e1, if_neg k1, if_neg k2]; rfl, ?_, ?_, fun k => absurd k k1, fun _ => ?_, hck⟩
      · rw [hgo.2 (by rw [e1]; decide), if_neg k1]; rfl
      · rw [e2, if_neg k1, if_neg k2]; omega
      · rw [if_neg k2, rsOf_w, e4, keyOf_w, e3, strB_bsk]
        show [wrOf _ (cwOf _)] = _
        rw [wrOf_cw hs.2]
end Go.Proofs.Ytllhmidpphlbhaa.ds
