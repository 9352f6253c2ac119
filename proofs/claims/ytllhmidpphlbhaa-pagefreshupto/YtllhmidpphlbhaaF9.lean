import Derived.Deep.RegionHeld
import Derived.OrdersHeld
import Derived.WalkKit
import Derived.ProofKit
import Derived.Lib.TrailingZeros
import Derived.Test.YtllhmidpphlbhaaChecked
import Derived.OpenShut
import Derived.Deep.QuietTactic
import Derived.BigQuiet
import Derived.BigRegion
import Derived.Laws.CopyOwn
import Derived.Laws.Bits64b
import Derived.Laws.MathBits
import Derived.Laws.ShiftsVarLaws
import Derived.WalkSmall
import Derived.Laws.ResultCell
import Derived.Lib.BitFns
import Derived.Laws.StructEq
import Derived.ArgAppend
import Derived.Deep.RegionLaw
import Derived.Deep.DeepAppendRoom
import Derived.Sort.WalkA
import Derived.Laws.Strings
import Derived.Deep.CutBlock
import Derived.Great.BuildSlice
import Derived.Laws.AppendOwnNone
import Derived.Lib.Overlaps
import Derived.Lib.AppendZerosOnto
import Derived.Laws.NewBlocks
import Derived.Laws.Externs
import Derived.Laws.IdiomCopy
import Derived.Laws.BytesString
import Derived.Deep.CutRange
import Derived.RangeFuncNested
import Derived.RangeFuncBound
import Derived.RangeFuncCalls
import Derived.RangeFuncLeaves
import Derived.Shelf.Abstract
import Derived.Shelf.RegionOpen
import Derived.OwnWalkIn
import Derived.TacticsInMore
import Derived.LoopNIn
import Derived.LoopIn
import GoSem.Claim
import GoSem.ClaimJoined
import GoSem.ClaimMapViews
import Derived.JoinedTies
import Derived.KernelRfl
import Derived.Deep.OwnRows
import Derived.Lib.LaidTab
import Derived.JoinedCond
import Derived.ShutString
import Derived.ChangeOld
import Derived.Below
import Derived.Carry
import Derived.ChangeSlices
import Derived.Deep.Slices
import Derived.Deep.DeepHandedRow
import Derived.RowKit
import Derived.ChangeShapes
import Derived.SizedLaws
import Derived.ChangeMaps5
import Derived.Lib.Walk
import Derived.Lib.SliceRun
import Derived.Lib.AppendStr
import Derived.Lib.ConvBytes
import Derived.Deep.RegionHeld3
import Derived.Deep.MidRow
import Derived.Laws.MakeOwn
import Derived.Lib.SlBytesConst
import Derived.Test.YtllhmidpphlbhaaRows
import Derived.Test.YtllhmidpphlbhaaF3
namespace Go.Proofs.Ytllhmidpphlbhaa.ds
set_option linter.unusedVariables false
set_option linter.unusedSimpArgs false
theorem zerosR_bad (B : List Nat) : ∀ (f : Nat) {s : Ps}, s.bad = true → zerosR B f s = s
  | 0, s, h => rfl
  | f + 1, s, h => by unfold zerosR; rw [if_neg (by rw [h]; simp)]
theorem zerosR_of {B : List Nat} : ∀ (f : Nat) {s : Ps}, s.bad = false → s.at_ ≤ 2048 → 2048 ≤ s.at_ + f → (∀ i, s.at_ ≤ i → i < 2048 → B.getD i 0 = 0) → zerosR B f s = ⟨2048, false⟩
  | 0, s, hb, h1, h2, h => by show s = _; cases s; simp at *; exact ⟨by omega, hb⟩
  | f + 1, s, hb, h1, h2, h => by
    unfold zerosR
    split
    · rename_i hc
      have e3 : le B 1 s.at_ = 0 := by unfold le le; rw [h s.at_ (Nat.le_refl _) hc.2]
      have e4 : num B 1 0 0 s = (0, ⟨s.at_ + 1, false⟩) := by unfold num; rw [if_neg (by rw [hb]; decide), e3, if_pos ⟨Nat.le_refl _, Nat.le_refl _⟩]
      rw [e4]
      exact zerosR_of f rfl (by dsimp only; omega) (by dsimp only; omega) (fun i hi hj => h i (by dsimp only at hi; omega) hj)
    · rename_i hc
      have : ¬ s.at_ < 2048 := fun k => hc ⟨hb, k⟩
      cases s; simp at *; exact ⟨by omega, hb⟩
/-- what a page tells -/
inductive Pc where
  | clocks (g : Nat) (cs : List (Nat × List S))
  | key (k : List Nat) (ws : List Cw)
  | hint (o : Nat) (k : List Nat) (w : Cw)
deriving DecidableEq
def Pc.kind : Pc → Nat
  | .clocks .. => 1
  | .key .. => 2
  | .hint .. => 3
def encPc : Pc → List Nat
  | .clocks g cs => encN 1 1 ++ (encN 6 g ++ (encN 1 cs.length ++ encCls cs))
  | .key k ws => encN 1 2 ++ ((encN 1 k.length ++ k) ++ (encN 1 ws.length ++ encPws ws))
  | .hint o k w => encN 1 3 ++ (encN 1 o ++ ((encN 1 k.length ++ k) ++ encPws [w]))
def VPc : Pc → Prop
  | .clocks g cs => g ≤ 281474976710655 ∧ cs.length ≤ 16 ∧ VCl 0 cs
  | .key k ws => (1 ≤ k.length ∧ k.length ≤ 16) ∧ (1 ≤ ws.length ∧ ws.length ≤ 8) ∧ VPws 0 0 ws
  | .hint o k w => o ≤ 7 ∧ (1 ≤ k.length ∧ k.length ≤ 16) ∧ VPw 0 0 w
theorem encSt_le {l : List S} (h : l.length ≤ 8) : (encSt l).length ≤ 105 := by unfold encSt; rw [List.length_append, encN_len, encSps_len]; omega
theorem encCls_le : ∀ {l : List (Nat × List S)} {lo : Nat}, VCl lo l → (encCls l).length ≤ 106 * l.length
  | [], lo, h => Nat.le_refl _
  | c :: l, lo, h => by
    have h1 := encCls_le h.2
    have h2 := encSt_le h.1.2.2.1
    unfold encCls encCl
    rw [List.length_append, List.length_append, encN_len, List.length_cons]; omega
theorem encPw_le {an ac : Nat} {w : Cw} (h : VPw an ac w) : (encPw w).length ≤ 176 := by
  have h1 := encSt_le h.2.2.2.1
  have h2 := h.2.2.1
  have h3 := mostV_le w.d
  unfold encPw
  simp only [List.length_append, encN_len]; omega
theorem encPws_le : ∀ {l : List Cw} {an ac : Nat}, VPws an ac l → (encPws l).length ≤ 176 * l.length
  | [], _, _, h => Nat.le_refl _
  | w :: l, an, ac, h => by
    have h1 := encPws_le h.2
    have h2 := encPw_le h.1
    unfold encPws
    rw [List.length_append, List.length_cons]; omega
theorem encPc_le {c : Pc} (h : VPc c) : (encPc c).length ≤ 1704 := by
  cases c with
  | clocks g cs =>
    have := encCls_le h.2.2
    have := h.2.1
    unfold encPc; simp only [List.length_append, encN_len]; omega
  | key k ws =>
    obtain ⟨h1, h2, h3⟩ := h
    have := encPws_le h3
    unfold encPc; simp only [List.length_append, encN_len]; omega
  | hint o k w =>
    obtain ⟨h1, h2, h3⟩ := h
    have := encPw_le h3
    unfold encPc encPws encPws; simp only [List.length_append, encN_len, List.length_nil]; omega
def pad (l : List Nat) : List Nat := l ++ List.replicate (2048 - l.length) 0
theorem pad_len {l : List Nat} (h : l.length ≤ 2048) : (pad l).length = 2048 := by unfold pad; rw [List.length_append, List.length_replicate]; omega
theorem pad_hi {l : List Nat} {i : Nat} (h : l.length ≤ i) : (pad l).getD i 0 = 0 := by
  unfold pad
  rw [List.getD_eq_getElem?_getD, List.getElem?_append_right h]
  cases hg : (List.replicate (2048 - l.length) 0)[i - l.length]? with
  | none => rfl
  | some b => have := List.mem_of_getElem? hg; simp at this; simp [this.2]
theorem pad_sd {l : List Nat} (h : l.length ≤ 2048) : Sd (pad l) 0 l l.length := by
  refine ⟨by omega, by rw [pad_len h]; exact h, fun i hi => ?_⟩
  unfold pad
  rw [List.getD_eq_getElem?_getD, List.getD_eq_getElem?_getD, Nat.zero_add, List.getElem?_append_left hi]
/-- the writes that are read, by their places -/
def wsR (B : List Nat) : List Pw := (writesR B (headR B ⟨0, false⟩).1.m 0 0 (headR B ⟨0, false⟩).2).1
def csR (B : List Nat) : List (Nat × List S) := (clocksR B (headR B ⟨0, false⟩).1.m 0 (headR B ⟨0, false⟩).2).1
def keyR (B : List Nat) : List Nat := (B.drop (headR B ⟨0, false⟩).1.kb).take (headR B ⟨0, false⟩).1.kn
/-- what a page tells -/
def pcR (B : List Nat) : Pc :=
  if (headR B ⟨0, false⟩).1.k = 1 then .clocks (headR B ⟨0, false⟩).1.g (csR B)
  else if (headR B ⟨0, false⟩).1.k = 2 then .key (keyR B) ((wsR B).map (Pw.w B))
  else .hint (headR B ⟨0, false⟩).1.o (keyR B) (((wsR B).map (Pw.w B)).headD ⟨0, 0, false, [], []⟩)
theorem endR_ok1 {B : List Nat} (h : (endR B).bad = false) : (bodyR B).2.bad = false := by
  cases hb : (bodyR B).2.bad with
  | false => rfl
  | true => unfold endR at h; rw [zerosR_bad B _ hb, hb] at h; exact h
/-- where the head and all behind it are read, the content stands there -/
theorem bodyR_go {B : List Nat} (hB : B.length = 2048) (h8 : ∀ b ∈ B, b < 256) (h : (bodyR B).2.bad = false) : Gg B ⟨0, false⟩ (encPc (pcR B)) (bodyR B).2 ∧ VPc (pcR B) ∧ (pcR B).kind = (bodyR B).1.k := by
  have hat := headR_at B ⟨0, false⟩
  revert h
  unfold bodyR pcR csR wsR keyR
  dsimp only
  revert hat
  unfold headR
  dsimp only
  generalize ha : num B 1 1 3 ⟨0, false⟩ = a
  have a1 := num_at B 1 1 3 ⟨0, false⟩
  have a2 := num_le B 1 1 3 ⟨0, false⟩
  have a3 := @num_go B h8 1 1 3 ⟨0, false⟩
  rw [ha] at a1 a2 a3
  dsimp only at a1
  by_cases k1 : a.1 = 1
  · rw [if_pos k1]
    dsimp only
    rw [if_pos k1, if_pos k1]
    generalize hg : num B 6 0 281474976710655 a.2 = g
    have g1 := num_at B 6 0 281474976710655 a.2
    have g2 := num_le B 6 0 281474976710655 a.2
    have g3 := @num_go B h8 6 0 281474976710655 a.2
    have g4 := @num_ok1 B 6 0 281474976710655 a.2
    rw [hg] at g1 g2 g3 g4
    generalize hm : num B 1 0 16 g.2 = m
    have m1 := num_at B 1 0 16 g.2
    have m2 := num_le B 1 0 16 g.2
    have m3 := @num_go B h8 1 0 16 g.2
    have m4 := @num_ok1 B 1 0 16 g.2
    rw [hm] at m1 m2 m3 m4
    intro _ h
    have q1 := clocksR_ok1 h
    obtain ⟨c1, c2, c3⟩ := clocksR_go h8 m.1 0 (s := m.2) (by omega) h
    obtain ⟨m5, _⟩ := m3 (by omega) q1
    obtain ⟨g5, _⟩ := g3 (by omega) (m4 q1)
    obtain ⟨a5, _⟩ := a3 (by dsimp only; omega) (g4 (m4 q1))
    rw [k1] at a5
    refine ⟨?_, ⟨g2, by rw [c3]; exact m2, c2⟩, k1.symm⟩
    unfold encPc
    dsimp only
    rw [c3]
    exact a5.app (g5.app (m5.app c1))
  · rw [if_neg k1]
    by_cases k2 : a.1 = 2
    · rw [if_pos k2]
      dsimp only
      rw [if_neg k1, if_pos k2]
      generalize ht : textR B 1 16 a.2 = t
      have t1 := textR_at B 1 16 a.2
      have t3 := @textR_go B h8 1 16 a.2
      rw [ht] at t1 t3
      generalize hm : num B 1 1 8 t.2 = m
      have m1 := num_at B 1 1 8 t.2
      have m2 := num_le B 1 1 8 t.2
      have m3 := @num_go B h8 1 1 8 t.2
      have m4 := @num_ok1 B 1 1 8 t.2
      rw [hm] at m1 m2 m3 m4
      rw [if_neg k1]
      intro _ h
      have q1 := writesR_ok1 h
      obtain ⟨c1, c2, c3⟩ := writesR_go h8 m.1 0 0 (s := m.2) (by omega) h
      obtain ⟨m5, m6⟩ := m3 (by omega) q1
      obtain ⟨t5, t6, t7, t8⟩ := t3 (by omega) (m4 q1)
      obtain ⟨a5, _⟩ := a3 (by dsimp only; omega) t7
      rw [k2] at a5
      have lt : ((B.drop t.1.1).take t.1.2).length = t.1.2 := by rw [List.length_take, List.length_drop]; omega
      refine ⟨?_, ⟨by rw [lt]; omega, by rw [List.length_map, c3]; omega, c2⟩, k2.symm⟩
      unfold encPc
      dsimp only
      rw [lt, List.length_map, c3]
      exact a5.app (t5.app (m5.app c1))
    · rw [if_neg k2]
      by_cases k3 : a.1 = 3
      · rw [if_pos k3]
        dsimp only
        rw [if_neg k1, if_neg k2]
        generalize hg : num B 1 0 7 a.2 = g
        have g1 := num_at B 1 0 7 a.2
        have g2 := num_le B 1 0 7 a.2
        have g3 := @num_go B h8 1 0 7 a.2
        have g4 := @num_ok1 B 1 0 7 a.2
        rw [hg] at g1 g2 g3 g4
        generalize ht : textR B 1 16 g.2 = t
        have t1 := textR_at B 1 16 g.2
        have t3 := @textR_go B h8 1 16 g.2
        rw [ht] at t1 t3
        rw [if_neg k1]
        intro _ h
        have q1 := writesR_ok1 h
        obtain ⟨c1, c2, c3⟩ := writesR_go h8 1 0 0 (s := t.2) (by omega) h
        obtain ⟨t5, t6, t7, t8⟩ := t3 (by omega) q1
        obtain ⟨g5, _⟩ := g3 (by omega) t7
        obtain ⟨a5, _⟩ := a3 (by dsimp only; omega) (g4 t7)
        rw [k3] at a5
        have lt : ((B.drop t.1.1).take t.1.2).length = t.1.2 := by rw [List.length_take, List.length_drop]; omega
        obtain ⟨p, hp⟩ : ∃ p, (writesR B 1 0 0 t.2).1 = [p] := ⟨_, rfl⟩
        rw [hp] at c1 c2 ⊢
        refine ⟨?_, ⟨g2, by rw [lt]; omega, c2.1⟩, k3.symm⟩
        unfold encPc
        dsimp only
        rw [lt]
        exact a5.app (g5.app (t5.app c1))
      · rw [if_neg k3]
        dsimp only
        intro _ h
        have h0 : a.2.bad = false := by
          rw [if_neg k1] at h; exact h
        obtain ⟨_, q⟩ := a3 (by dsimp only; omega) h0
        omega
/-- where a content stands it is read -/
theorem bodyR_of {B : List Nat} {c : Pc} {s' : Ps} (hv : VPc c) (h : Gg B ⟨0, false⟩ (encPc c) s') : (bodyR B).2 = s' ∧ pcR B = c ∧ (bodyR B).1.k = c.kind := by
  cases c with
  | clocks g cs =>
    obtain ⟨v1, v2, v3⟩ := hv
    unfold encPc at h
    dsimp only at h
    obtain ⟨s1, h1, h⟩ := h.split
    obtain ⟨s2, h2, h⟩ := h.split
    obtain ⟨s3, h3, h4⟩ := h.split
    have e1 := num_of (lo := 1) (hi := 3) h1 (by omega) (by omega) (by omega)
    have e2 := num_of (lo := 0) (hi := 281474976710655) h2 (by omega) v1 (by omega)
    have e3 := num_of (lo := 0) (hi := 16) h3 (by omega) v2 (by omega)
    have e4 := clocksR_of cs 0 h4 v3
    have eh : headR B ⟨0, false⟩ = (⟨1, g, 0, cs.length, 0, 0⟩, s3) := by
      unfold headR
      simp only [e1, e2, e3, if_true]
    unfold bodyR pcR csR
    simp only [eh, e4, if_true]
    exact ⟨trivial, trivial, rfl⟩
  | key k ws =>
    obtain ⟨⟨v1, v2⟩, ⟨v3, v4⟩, v5⟩ := hv
    unfold encPc at h
    dsimp only at h
    obtain ⟨s1, h1, h⟩ := h.split
    obtain ⟨s2, h2, h⟩ := h.split
    obtain ⟨s3, h3, h4⟩ := h.split
    have e1 := num_of (lo := 1) (hi := 3) h1 (by omega) (by omega) (by omega)
    obtain ⟨e2, f2⟩ := textR_of (lo := 1) (hi := 16) h2 v1 v2 (by omega)
    have e3 := num_of (lo := 1) (hi := 8) h3 v3 v4 (by omega)
    obtain ⟨ps, e4, f4⟩ := writesR_of ws 0 0 h4 v5
    have eh : headR B ⟨0, false⟩ = (⟨2, 0, 0, ws.length, s1.at_ + 1, k.length⟩, s3) := by
      unfold headR
      simp only [e1, e2, e3, if_true, if_false, show ¬ ((2 : Nat) = 1) from by decide]
    unfold bodyR pcR wsR keyR
    simp only [eh, e4, f4, f2, if_true, if_false, show ¬ ((2 : Nat) = 1) from by decide]
    exact ⟨trivial, trivial, rfl⟩
  | hint o k w =>
    obtain ⟨v0, ⟨v1, v2⟩, v5⟩ := hv
    unfold encPc at h
    dsimp only at h
    obtain ⟨s1, h1, h⟩ := h.split
    obtain ⟨s2, h2, h⟩ := h.split
    obtain ⟨s3, h3, h4⟩ := h.split
    have e1 := num_of (lo := 1) (hi := 3) h1 (by omega) (by omega) (by omega)
    have e2 := num_of (lo := 0) (hi := 7) h2 (by omega) v0 (by omega)
    obtain ⟨e3, f3⟩ := textR_of (lo := 1) (hi := 16) h3 v1 v2 (by omega)
    obtain ⟨ps, e4, f4⟩ := writesR_of [w] 0 0 h4 ⟨v5, trivial⟩
    rw [show [w].length = 1 from rfl] at e4
    have eh : headR B ⟨0, false⟩ = (⟨3, 0, o, 1, s2.at_ + 1, k.length⟩, s3) := by
      unfold headR
      simp only [e1, e2, e3, if_true, if_false, show ¬ ((3 : Nat) = 1) from by decide, show ¬ ((3 : Nat) = 2) from by decide]
    unfold bodyR pcR wsR keyR
    simp only [eh, e4, f4, f3, if_true, if_false, show ¬ ((3 : Nat) = 1) from by decide, show ¬ ((3 : Nat) = 2) from by decide]
    exact ⟨trivial, rfl, rfl⟩
/-- what is built is read as it was -/
theorem check_pad {c : Pc} (hv : VPc c) : checkR (pad (encPc c)) = (c.kind, 0, 0) ∧ pcR (pad (encPc c)) = c ∧ (endR (pad (encPc c))).bad = false := by
  have hl := encPc_le hv
  have hg : Gg (pad (encPc c)) ⟨0, false⟩ (encPc c) ⟨(encPc c).length, false⟩ := ⟨rfl, rfl, pad_sd (by omega)⟩
  obtain ⟨h1, h2, h3⟩ := bodyR_of hv hg
  have h4 : endR (pad (encPc c)) = ⟨2048, false⟩ := by
    unfold endR
    rw [h1]
    exact zerosR_of 2048 rfl (by dsimp only; omega) (by dsimp only; omega) (fun i hi hj => pad_hi (by dsimp only at hi; omega))
  refine ⟨?_, h2, by rw [h4]⟩
  unfold checkR
  rw [if_pos (pad_len (by omega)), h4, if_neg (by simp), h3]
end Go.Proofs.Ytllhmidpphlbhaa.ds
