import Derived.Deep.RegionHeld
import Derived.OrdersHeld
import Derived.WalkKit
import Derived.ProofKit
import Derived.Lib.TrailingZeros
import Derived.Test.YtllhmidpphlbhaaChecked
import Derived.OpenShut
import Derived.Deep.QuietTactic
import Derived.BigQuiet
import Derived.BigRegion
import Derived.Laws.CopyOwn
import Derived.Laws.Bits64b
import Derived.Laws.MathBits
import Derived.Laws.ShiftsVarLaws
import Derived.WalkSmall
import Derived.Laws.ResultCell
import Derived.Lib.BitFns
import Derived.Laws.StructEq
import Derived.ArgAppend
import Derived.Deep.RegionLaw
import Derived.Deep.DeepAppendRoom
import Derived.Sort.WalkA
import Derived.Laws.Strings
import Derived.Deep.CutBlock
import Derived.Great.BuildSlice
import Derived.Laws.AppendOwnNone
import Derived.Lib.Overlaps
import Derived.Lib.AppendZerosOnto
import Derived.Laws.NewBlocks
import Derived.Laws.Externs
import Derived.Laws.IdiomCopy
import Derived.Laws.BytesString
import Derived.Deep.CutRange
import Derived.RangeFuncNested
import Derived.RangeFuncBound
import Derived.RangeFuncCalls
import Derived.RangeFuncLeaves
import Derived.Shelf.Abstract
import Derived.Shelf.RegionOpen
import Derived.OwnWalkIn
import Derived.TacticsInMore
import Derived.LoopNIn
import Derived.LoopIn
import GoSem.Claim
import GoSem.ClaimJoined
import GoSem.ClaimMapViews
import Derived.JoinedTies
import Derived.KernelRfl
import Derived.Deep.OwnRows
import Derived.Lib.LaidTab
import Derived.JoinedCond
import Derived.ShutString
import Derived.ChangeOld
import Derived.Below
import Derived.Carry
import Derived.ChangeSlices
import Derived.Deep.Slices
import Derived.Deep.DeepHandedRow
import Derived.RowKit
import Derived.ChangeShapes
import Derived.SizedLaws
import Derived.ChangeMaps5
import Derived.Lib.Walk
import Derived.Lib.SliceRun
import Derived.Lib.AppendStr
import Derived.Lib.ConvBytes
import Derived.Deep.RegionHeld3
import Derived.Deep.MidRow
import Derived.Laws.MakeOwn
import Derived.Lib.SlBytesConst
import Derived.Test.YtllhmidpphlbhaaRows
import Derived.Test.YtllhmidpphlbhaaF2
namespace Go.Proofs.Ytllhmidpphlbhaa.ds
open Go.ChangeShapes Go.WideShapes Go.ChangeAt Go.RowKit
set_option linter.unusedVariables false
set_option maxRecDepth 100000
set_option linter.unusedSimpArgs false
theorem oneFlat (es : List S) : ∀ u ∈ flat es, u.oneCell' = true := by
  intro u hu
  simp [flat, ec] at hu
  obtain ⟨e, _, h | h | h⟩ := hu <;> subst h <;> rfl
/-- the cells of a list that can be read -/
theorem Sp.cells {w : World} {P o : Nat} {xs : List S} (h : Sp w (some ⟨P, o, none⟩) xs) : ∀ j u, (flat xs)[j]? = some u → w.cell? ((⟨P, o, none⟩ : Addr).add j) = some u := by
  intro j u hj
  have hjl : j < (flat xs).length := by
    by_cases hc : j < (flat xs).length
    · exact hc
    · rw [List.getElem?_eq_none (by omega)] at hj; cases hj
  have hfl := flat_length xs
  have hk : j / 3 < xs.length := by omega
  obtain ⟨P', o', e, hP, hc⟩ := h (by omega)
  simp only [Option.some.injEq, Addr.mk.injEq, and_true] at e
  obtain ⟨rfl, rfl⟩ := e
  obtain ⟨c0, c1, c2⟩ := hc (j / 3) hk
  obtain ⟨g0, g1, g2⟩ := flat_get xs (j / 3) hk
  rw [Addr.add_lit]
  have h3 : j % 3 = 0 ∨ j % 3 = 1 ∨ j % 3 = 2 := by omega
  rcases h3 with h3 | h3 | h3
  · have e : j = j / 3 * 3 := by omega
    rw [e] at hj ⊢
    rw [g0] at hj; cases hj
    exact c0
  · have e : j = j / 3 * 3 + 1 := by omega
    rw [e] at hj
    rw [g1] at hj; cases hj
    rw [show o + j = o + j / 3 * 3 + 1 by omega]; exact c1
  · have e : j = j / 3 * 3 + 2 := by omega
    rw [e] at hj
    rw [g2] at hj; cases hj
    rw [show o + j = o + j / 3 * 3 + 2 by omega]; exact c2
end Go.Proofs.Ytllhmidpphlbhaa.ds
namespace Go.Proofs.Ytllhmidpphlbhaa.ds
set_option linter.unusedVariables false
set_option linter.unusedSimpArgs false
/-- l stands in B from q on, to q' -/
def Sd (B : List Nat) (q : Nat) (l : List Nat) (q' : Nat) : Prop := q' = q + l.length ∧ q' ≤ B.length ∧ ∀ i, i < l.length → B.getD (q + i) 0 = l.getD i 0
theorem Sd.nil {B : List Nat} {q : Nat} (h : q ≤ B.length) : Sd B q [] q := ⟨by simp, h, fun i hi => absurd hi (by simp)⟩
theorem Sd_nil {B : List Nat} {q q' : Nat} : Sd B q [] q' ↔ q' = q ∧ q ≤ B.length := ⟨fun h => ⟨by have := h.1; simpa using this, by have := h.1; have := h.2.1; simp at *; omega⟩, fun ⟨h, k⟩ => by rw [h]; exact Sd.nil k⟩
theorem Sd_cons {B : List Nat} {q q' x : Nat} {l : List Nat} : Sd B q (x :: l) q' ↔ B.getD q 0 = x ∧ Sd B (q + 1) l q' := by
  constructor
  · rintro ⟨h1, h2, h3⟩
    refine ⟨by have := h3 0 (by simp); simpa using this, by rw [h1, List.length_cons]; omega, h2, fun i hi => ?_⟩
    have := h3 (i + 1) (by simp; omega)
    rw [show q + 1 + i = q + (i + 1) from by omega, this]; simp
  · rintro ⟨h0, h1, h2, h3⟩
    refine ⟨by rw [h1, List.length_cons]; omega, h2, fun i hi => ?_⟩
    cases i with
    | zero => simpa using h0
    | succ i =>
      have := h3 i (by simp at hi; omega)
      rw [show q + (i + 1) = q + 1 + i from by omega, this]; simp
theorem Sd_app {B : List Nat} : ∀ {a b : List Nat} {q q' : Nat}, Sd B q (a ++ b) q' ↔ ∃ m, Sd B q a m ∧ Sd B m b q'
  | [], b, q, q' => by
    constructor
    · intro h
      have h1 := h.1; have h2 := h.2.1; simp at h1
      exact ⟨q, Sd.nil (by omega), h⟩
    · rintro ⟨m, h1, h2⟩
      obtain ⟨h, _⟩ := Sd_nil.1 h1
      rw [h] at h2; exact h2
  | x :: a, b, q, q' => by
    rw [List.cons_append, Sd_cons, Sd_app (a := a)]
    constructor
    · rintro ⟨h, m, h1, h2⟩; exact ⟨m, Sd_cons.2 ⟨h, h1⟩, h2⟩
    · rintro ⟨m, h1, h2⟩; exact ⟨(Sd_cons.1 h1).1, m, (Sd_cons.1 h1).2, h2⟩
theorem Sd.take {B : List Nat} : ∀ {l : List Nat} {q q' : Nat}, Sd B q l q' → (B.drop q).take l.length = l
  | [], q, q', h => by simp
  | x :: l, q, q', h => by
    obtain ⟨h1, h2⟩ := Sd_cons.1 h
    have hq : q < B.length := by have := h.1; have := h.2.1; simp at *; omega
    rw [List.drop_eq_getElem_cons hq, List.length_cons, List.take_succ_cons, Sd.take h2]
    rw [List.getD_eq_getElem?_getD, List.getElem?_eq_getElem hq] at h1
    simp at h1; rw [h1]
theorem Sd.of_take {B : List Nat} {q n : Nat} (h : q + n ≤ B.length) : Sd B q ((B.drop q).take n) (q + n) := by
  have hl : ((B.drop q).take n).length = n := by rw [List.length_take, List.length_drop]; omega
  refine ⟨by rw [hl], h, fun i hi => ?_⟩
  rw [hl] at hi
  rw [List.getD_eq_getElem?_getD, List.getD_eq_getElem?_getD, List.getElem?_take_of_lt hi, List.getElem?_drop]
def encN : Nat → Nat → List Nat
  | 0, _ => []
  | k + 1, n => n % 256 :: encN k (n / 256)
theorem encN_len : ∀ (k n : Nat), (encN k n).length = k
  | 0, _ => rfl
  | k + 1, n => by unfold encN; rw [List.length_cons, encN_len]
theorem encN_8 : ∀ (k n : Nat), ∀ b ∈ encN k n, b < 256
  | 0, _ => by simp [encN]
  | k + 1, n => by
    intro b hb
    unfold encN at hb
    rcases List.mem_cons.1 hb with h | h
    · rw [h]; omega
    · exact encN_8 k _ b h
theorem le_of {B : List Nat} : ∀ (k n : Nat) {q q' : Nat}, Sd B q (encN k n) q' → n < 256 ^ k → le B k q = n
  | 0, n, q, q', h, hn => by simp at hn; simp [le, hn]
  | k + 1, n, q, q', h, hn => by
    unfold encN at h
    obtain ⟨h1, h2⟩ := Sd_cons.1 h
    have := le_of k (n / 256) h2 (by rw [Nat.pow_succ] at hn; omega)
    unfold le
    rw [h1, this]; omega
theorem le_lt {B : List Nat} (h8 : ∀ b ∈ B, b < 256) : ∀ (k q : Nat), le B k q < 256 ^ k
  | 0, q => by simp [le]
  | k + 1, q => by
    unfold le
    have h1 := le_lt h8 k (q + 1)
    have h2 : B.getD q 0 < 256 := by
      rw [List.getD_eq_getElem?_getD]
      cases hg : B[q]? with
      | none => simp
      | some b => simp; exact h8 b (List.mem_of_getElem? hg)
    rw [Nat.pow_succ]; omega
theorem Sd_le {B : List Nat} (h8 : ∀ b ∈ B, b < 256) : ∀ (k q : Nat), q + k ≤ B.length → Sd B q (encN k (le B k q)) (q + k)
  | 0, q, h => Sd.nil h
  | k + 1, q, h => by
    have h2 : B.getD q 0 < 256 := by
      rw [List.getD_eq_getElem?_getD]
      cases hg : B[q]? with
      | none => simp
      | some b => simp; exact h8 b (List.mem_of_getElem? hg)
    have h1 := Sd_le h8 k (q + 1) (by omega)
    unfold le encN
    rw [Sd_cons, show (B.getD q 0 + 256 * le B k (q + 1)) / 256 = le B k (q + 1) from by omega, show q + (k + 1) = q + 1 + k from by omega]
    exact ⟨by omega, h1⟩
/-- from s to s' the reader goes well over l -/
structure Gg (B : List Nat) (s : Ps) (l : List Nat) (s' : Ps) : Prop where
  a : s.bad = false
  b : s'.bad = false
  d : Sd B s.at_ l s'.at_
theorem Gg.app {B : List Nat} {s s1 s2 : Ps} {l m : List Nat} (h : Gg B s l s1) (k : Gg B s1 m s2) : Gg B s (l ++ m) s2 := ⟨h.a, k.b, Sd_app.2 ⟨_, h.d, k.d⟩⟩
theorem Gg.split {B : List Nat} {s s2 : Ps} {l m : List Nat} (h : Gg B s (l ++ m) s2) : ∃ s1, Gg B s l s1 ∧ Gg B s1 m s2 := by
  obtain ⟨q, h1, h2⟩ := Sd_app.1 h.d
  exact ⟨⟨q, false⟩, ⟨h.a, rfl, h1⟩, ⟨rfl, h.b, h2⟩⟩
theorem Gg.nil {B : List Nat} {s s' : Ps} (h : Gg B s [] s') : s' = s := by
  obtain ⟨h1, _⟩ := Sd_nil.1 h.d
  cases s; cases s'
  simp_all [h.a, h.b]
  have := h.a; have := h.b; simp_all
theorem Gg.lim {B : List Nat} {s s' : Ps} {l : List Nat} (h : Gg B s l s') : s'.at_ = s.at_ + l.length ∧ s'.at_ ≤ B.length := ⟨h.d.1, h.d.2.1⟩
theorem num_go {B : List Nat} (h8 : ∀ b ∈ B, b < 256) {k lo hi : Nat} {s : Ps} (hr : s.at_ + k ≤ B.length) (h : (num B k lo hi s).2.bad = false) : Gg B s (encN k (num B k lo hi s).1) (num B k lo hi s).2 ∧ lo ≤ (num B k lo hi s).1 := by
  obtain ⟨h1, h2, h3, h4⟩ := num_ok B k lo hi s h
  rw [h2]
  exact ⟨⟨h1, rfl, Sd_le h8 k s.at_ hr⟩, h3⟩
theorem num_of {B : List Nat} {k lo hi n : Nat} {s s' : Ps} (h : Gg B s (encN k n) s') (hl : lo ≤ n) (hh : n ≤ hi) (hn : n < 256 ^ k) : num B k lo hi s = (n, s') := by
  have h1 := le_of k n h.d hn
  unfold num
  rw [if_neg (by rw [h.a]; decide), h1, if_pos ⟨hl, hh⟩]
  have := h.d.1
  rw [encN_len] at this
  rw [← this, ← h.b]
theorem textR_go {B : List Nat} (h8 : ∀ b ∈ B, b < 256) {lo hi : Nat} {s : Ps} (hr : s.at_ + 1 + hi ≤ B.length) (h : (textR B lo hi s).2.bad = false) : Gg B s (encN 1 (textR B lo hi s).1.2 ++ (B.drop (textR B lo hi s).1.1).take (textR B lo hi s).1.2) (textR B lo hi s).2 ∧ lo ≤ (textR B lo hi s).1.2 ∧ s.bad = false ∧ (textR B lo hi s).1.1 + (textR B lo hi s).1.2 ≤ B.length := by
  have hb : (num B 1 lo hi s).2.bad = false := h
  obtain ⟨h1, h2⟩ := num_go h8 (by omega) hb
  have h3 := num_at B 1 lo hi s
  have h4 := num_le B 1 lo hi s
  refine ⟨h1.app ⟨hb, h, ?_⟩, h2, h1.a, ?_⟩
  · exact Sd.of_take (by show (num B 1 lo hi s).2.at_ + (num B 1 lo hi s).1 ≤ B.length; omega)
  · show (num B 1 lo hi s).2.at_ + (num B 1 lo hi s).1 ≤ B.length; omega
theorem textR_of {B : List Nat} {lo hi : Nat} {vs : List Nat} {s s' : Ps} (h : Gg B s (encN 1 vs.length ++ vs) s') (hl : lo ≤ vs.length) (hh : vs.length ≤ hi) (hn : hi < 256) : textR B lo hi s = ((s.at_ + 1, vs.length), s') ∧ (B.drop (s.at_ + 1)).take vs.length = vs := by
  obtain ⟨s1, h1, h2⟩ := h.split
  have e1 := num_of (lo := lo) (hi := hi) h1 hl hh (by omega)
  have e2 := h1.lim
  rw [encN_len] at e2
  have e3 := h2.lim
  unfold textR
  rw [e1]
  dsimp only
  refine ⟨?_, by rw [← e2.1]; exact h2.d.take⟩
  rw [e2.1, h1.b]
  have : s' = ⟨s.at_ + 1 + vs.length, false⟩ := by cases s'; have := h2.b; simp_all
  rw [this]
/-! spans -/
def encSp (x : S) : List Nat := encN 1 x.n.toNat ++ (encN 4 x.b.toNat ++ encN 8 x.t)
theorem encSp_len (x : S) : (encSp x).length = 13 := by simp [encSp, encN_len]
theorem ctxS_ok {x : S} {dn dc : Nat} (h : ctxS x dn dc = true) : Ok 64 x ∧ dotS x dn dc = false := by
  unfold ctxS at h
  simp only [Bool.and_eq_true, Bool.not_eq_true'] at h
  exact ⟨(rgtS_iff x).1 h.1, h.2⟩
theorem ok_lt {x : S} (h : Ok 64 x) : x.t < 2 ^ 64 := bl_le.1 (by have := h.gp; omega)
theorem spanR_go {B : List Nat} (h8 : ∀ b ∈ B, b < 256) {lo dn dc : Nat} {s : Ps} (hr : s.at_ + 13 ≤ B.length) (h : (spanR B lo dn dc s).2.bad = false) : Gg B s (encSp (spanR B lo dn dc s).1) (spanR B lo dn dc s).2 ∧ (lo : Int) ≤ (spanR B lo dn dc s).1.n ∧ ctxS (spanR B lo dn dc s).1 dn dc = true := by
  revert h
  unfold spanR
  dsimp only
  split
  · rename_i hb; intro h; rw [hb] at h; exact absurd h (by decide)
  · rename_i hb
    split
    · rename_i hc
      intro _
      have hb' : (num B 4 0 1048576 (num B 1 lo 7 s).2).2.bad = false := by simpa using hb
      have ha' := (num_ok B 4 0 1048576 _ hb').1
      have h1 := num_at B 1 lo 7 s
      have h2 := num_at B 4 0 1048576 (num B 1 lo 7 s).2
      obtain ⟨g1, l1⟩ := num_go h8 (by omega) ha'
      obtain ⟨g2, _⟩ := num_go h8 (by omega) hb'
      refine ⟨?_, by show ((lo : Nat) : Int) ≤ ((num B 1 lo 7 s).1 : Nat); omega, hc⟩
      refine g1.app (g2.app ⟨hb', rfl, Sd_le h8 8 _ (by omega)⟩)
    · intro h; exact absurd h (by simp)
theorem spanR_of {B : List Nat} {lo dn dc : Nat} {x : S} {s s' : Ps} (h : Gg B s (encSp x) s') (hl : (lo : Int) ≤ x.n) (hc : ctxS x dn dc = true) : spanR B lo dn dc s = (x, s') := by
  obtain ⟨s1, h1, h2⟩ := h.split
  obtain ⟨s2, h2, h3⟩ := h2.split
  have ho := (ctxS_ok hc).1
  have t1 := ok_lt ho
  have n0 := ho.n0; have n8 := ho.n8; have b0 := ho.b0; have bM := ho.bM
  have e1 := num_of (lo := lo) (hi := 7) h1 (by omega) (by omega) (by omega)
  have e2 := num_of (lo := 0) (hi := 1048576) h2 (by omega) (by omega) (by omega)
  have e3 := le_of 8 x.t h3.d (by have : (256 : Nat) ^ 8 = 2 ^ 64 := by decide
                                  omega)
  have e4 := h3.lim
  rw [encN_len] at e4
  unfold spanR
  dsimp only
  rw [e1]
  dsimp only
  rw [e2]
  dsimp only
  rw [if_neg (by rw [h2.b]; decide), e3]
  have ex : (⟨((x.n.toNat : Nat) : Int), ((x.b.toNat : Nat) : Int), x.t⟩ : S) = x := by
    cases x; simp at *; omega
  rw [ex, if_pos hc]
  have : s' = ⟨s2.at_ + 8, false⟩ := by cases s'; have := h3.b; simp_all
  rw [this]
/-- spans that rise from lo on, right ones without the dot -/
def VSp (dn dc : Nat) : Nat → List S → Prop
  | _, [] => True
  | lo, x :: l => ((lo : Int) ≤ x.n ∧ ctxS x dn dc = true) ∧ VSp dn dc (x.n.toNat + 1) l
def encSps : List S → List Nat
  | [] => []
  | x :: l => encSp x ++ encSps l
theorem encSps_len : ∀ (l : List S), (encSps l).length = 13 * l.length
  | [] => rfl
  | x :: l => by unfold encSps; rw [List.length_append, encSps_len l, encSp_len, List.length_cons]; omega
theorem spansR_ok1 {B : List Nat} {dn dc : Nat} : ∀ {m lo : Nat} {s : Ps}, (spansR B dn dc m lo s).2.bad = false → s.bad = false := by
  intro m lo s h
  cases hb : s.bad with
  | false => rfl
  | true => rw [spansR_bad B dn dc m lo hb] at h; rw [h] at hb; exact absurd hb (by decide)
theorem spansR_go {B : List Nat} (h8 : ∀ b ∈ B, b < 256) {dn dc : Nat} : ∀ (m lo : Nat) {s : Ps}, s.at_ + 13 * m ≤ B.length → (spansR B dn dc m lo s).2.bad = false → Gg B s (encSps (spansR B dn dc m lo s).1) (spansR B dn dc m lo s).2 ∧ VSp dn dc lo (spansR B dn dc m lo s).1
  | 0, lo, s, hr, h => ⟨⟨h, h, Sd.nil (by omega)⟩, trivial⟩
  | m + 1, lo, s, hr, h => by
    have h1 : (spanR B lo dn dc s).2.bad = false := spansR_ok1 (m := m) (lo := (spanR B lo dn dc s).1.n.toNat + 1) h
    have h2 := spanR_at B lo dn dc s
    obtain ⟨g1, v1, c1⟩ := spanR_go h8 (by omega) h1
    obtain ⟨g2, v2⟩ := spansR_go h8 m ((spanR B lo dn dc s).1.n.toNat + 1) (s := (spanR B lo dn dc s).2) (by omega) h
    exact ⟨g1.app g2, ⟨v1, c1⟩, v2⟩
theorem spansR_of {B : List Nat} {dn dc : Nat} : ∀ (l : List S) (lo : Nat) {s s' : Ps}, Gg B s (encSps l) s' → VSp dn dc lo l → spansR B dn dc l.length lo s = (l, s')
  | [], lo, s, s', h, hv => by rw [h.nil]; rfl
  | x :: l, lo, s, s', h, hv => by
    obtain ⟨s1, h1, h2⟩ := h.split
    have e1 := spanR_of h1 hv.1.1 hv.1.2
    have e2 := spansR_of l (x.n.toNat + 1) h2 hv.2
    rw [List.length_cons]
    unfold spansR
    rw [e1]
    dsimp only
    rw [e2]
def encSt (l : List S) : List Nat := encN 1 l.length ++ encSps l
theorem num_ok1 {B : List Nat} {k lo hi : Nat} {s : Ps} (h : (num B k lo hi s).2.bad = false) : s.bad = false := (num_ok B k lo hi s h).1
theorem setR_ok1 {B : List Nat} {dn dc : Nat} {s : Ps} (h : (setR B dn dc s).2.bad = false) : s.bad = false := num_ok1 (spansR_ok1 h)
theorem setR_go {B : List Nat} (h8 : ∀ b ∈ B, b < 256) {dn dc : Nat} {s : Ps} (hr : s.at_ + 105 ≤ B.length) (h : (setR B dn dc s).2.bad = false) : Gg B s (encSt (setR B dn dc s).1) (setR B dn dc s).2 ∧ VSp dn dc 0 (setR B dn dc s).1 := by
  have h1 := num_at B 1 0 8 s
  have h2 := num_le B 1 0 8 s
  have hb : (num B 1 0 8 s).2.bad = false := spansR_ok1 h
  obtain ⟨g1, _⟩ := num_go h8 (by omega) hb
  obtain ⟨g2, v2⟩ := spansR_go h8 (num B 1 0 8 s).1 0 (s := (num B 1 0 8 s).2) (by omega) h
  have h3 := (spansR_at B dn dc (num B 1 0 8 s).1 0 (num B 1 0 8 s).2).2.2
  refine ⟨?_, v2⟩
  unfold setR encSt
  rw [h3]
  exact g1.app g2
theorem setR_of {B : List Nat} {dn dc : Nat} {l : List S} {s s' : Ps} (h : Gg B s (encSt l) s') (hl : l.length ≤ 8) (hv : VSp dn dc 0 l) : setR B dn dc s = (l, s') := by
  obtain ⟨s1, h1, h2⟩ := h.split
  have e1 := num_of (lo := 0) (hi := 8) h1 (by omega) hl (by omega)
  unfold setR
  rw [e1]
  exact spansR_of l 0 h2 hv
/-! clocks -/
def encCl (c : Nat × List S) : List Nat := encN 1 c.1 ++ encSt c.2
def encCls : List (Nat × List S) → List Nat
  | [] => []
  | c :: l => encCl c ++ encCls l
def VCl : Nat → List (Nat × List S) → Prop
  | _, [] => True
  | lo, c :: l => (lo ≤ c.1 ∧ c.1 ≤ 15 ∧ c.2.length ≤ 8 ∧ VSp 0 0 0 c.2) ∧ VCl (c.1 + 1) l
theorem clocksR_ok1 {B : List Nat} {m lo : Nat} {s : Ps} (h : (clocksR B m lo s).2.bad = false) : s.bad = false := by
  cases hb : s.bad with
  | false => rfl
  | true => rw [clocksR_bad B m lo hb] at h; rw [h] at hb; exact absurd hb (by decide)
theorem clocksR_go {B : List Nat} (h8 : ∀ b ∈ B, b < 256) : ∀ (m lo : Nat) {s : Ps}, s.at_ + 106 * m ≤ B.length → (clocksR B m lo s).2.bad = false → Gg B s (encCls (clocksR B m lo s).1) (clocksR B m lo s).2 ∧ VCl lo (clocksR B m lo s).1 ∧ (clocksR B m lo s).1.length = m
  | 0, lo, s, hr, h => ⟨⟨h, h, Sd.nil (by omega)⟩, trivial, rfl⟩
  | m + 1, lo, s, hr, h => by
    have h1 : (clockR B lo s).2.bad = false := clocksR_ok1 (m := m) (lo := (clockR B lo s).1.1 + 1) h
    have h2 := clockR_at B lo s
    have h3 := num_at B 1 lo 15 s
    have h5 := num_le B 1 lo 15 s
    have h4 : (num B 1 lo 15 s).2.bad = false := setR_ok1 h1
    obtain ⟨g1, v1⟩ := num_go h8 (by omega) h4
    obtain ⟨g2, v2⟩ := setR_go h8 (s := (num B 1 lo 15 s).2) (by omega) h1
    obtain ⟨g3, v3, l3⟩ := clocksR_go h8 m ((clockR B lo s).1.1 + 1) (s := (clockR B lo s).2) (by omega) h
    exact ⟨(g1.app g2).app g3, ⟨⟨v1, h5, (setR_at B 0 0 _).2.2, v2⟩, v3⟩, by unfold clocksR; rw [List.length_cons, l3]⟩
theorem clocksR_of {B : List Nat} : ∀ (l : List (Nat × List S)) (lo : Nat) {s s' : Ps}, Gg B s (encCls l) s' → VCl lo l → clocksR B l.length lo s = (l, s')
  | [], lo, s, s', h, hv => by rw [h.nil]; rfl
  | c :: l, lo, s, s', h, hv => by
    obtain ⟨s1, h1, h2⟩ := h.split
    obtain ⟨s0, h0, h1⟩ := h1.split
    obtain ⟨⟨v1, v2, v3, v4⟩, v5⟩ := hv
    have e0 := num_of (lo := lo) (hi := 15) h0 v1 v2 (by omega)
    have e1 := setR_of h1 v3 v4
    have ec : clockR B lo s = (c, s1) := by unfold clockR; rw [e0]; dsimp only; rw [e1]
    have e2 := clocksR_of l (c.1 + 1) h2 v5
    rw [List.length_cons]
    unfold clocksR
    rw [ec]
    dsimp only
    rw [e2]
/-! writes -/
/-- a write as a page tells it -/
structure Cw where
  n : Nat
  c : Nat
  d : Bool
  vs : List Nat
  xs : List S
deriving DecidableEq
/-- a write by its places in B -/
def Pw.w (B : List Nat) (p : Pw) : Cw := ⟨p.n, p.c, p.d, (B.drop p.vb).take p.vn, p.xs⟩
def encPw (w : Cw) : List Nat := encN 1 w.n ++ (encN 4 w.c ++ (encN 1 (if w.d = true then 1 else 0) ++ ((encN 1 w.vs.length ++ w.vs) ++ encSt w.xs)))
def VPw (an ac : Nat) (w : Cw) : Prop := (an ≤ w.n ∧ w.n ≤ 7) ∧ (leastC an ac w.n ≤ w.c ∧ w.c ≤ 1048576) ∧ w.vs.length ≤ mostV w.d ∧ w.xs.length ≤ 8 ∧ VSp w.n w.c 0 w.xs
theorem b01 {n : Nat} (h : n ≤ 1) : (if (n == 1) = true then 1 else 0) = n := by
  rcases Nat.lt_or_ge n 1 with h1 | h1
  · have : n = 0 := by omega
    subst this; rfl
  · have : n = 1 := by omega
    subst this; rfl
theorem writeR_go {B : List Nat} (h8 : ∀ b ∈ B, b < 256) {an ac : Nat} {s : Ps} (hr : s.at_ + 176 ≤ B.length) (h : (writeR B an ac s).2.bad = false) : Gg B s (encPw ((writeR B an ac s).1.w B)) (writeR B an ac s).2 ∧ VPw an ac ((writeR B an ac s).1.w B) := by
  revert h
  unfold writeR
  dsimp only
  generalize ha : num B 1 an 7 s = a
  have a1 := num_at B 1 an 7 s
  have a2 := num_le B 1 an 7 s
  have a3 := @num_go B h8 1 an 7 s
  rw [ha] at a1 a2 a3
  generalize hb : num B 4 (leastC an ac a.1) 1048576 a.2 = b
  have b1 := num_at B 4 (leastC an ac a.1) 1048576 a.2
  have b2 := num_le B 4 (leastC an ac a.1) 1048576 a.2
  have b3 := @num_go B h8 4 (leastC an ac a.1) 1048576 a.2
  have b4 := @num_ok1 B 4 (leastC an ac a.1) 1048576 a.2
  rw [hb] at b1 b2 b3 b4
  generalize hd : num B 1 0 1 b.2 = d
  have d1 := num_at B 1 0 1 b.2
  have d2 := num_le B 1 0 1 b.2
  have d3 := @num_go B h8 1 0 1 b.2
  have d4 := @num_ok1 B 1 0 1 b.2
  rw [hd] at d1 d2 d3 d4
  generalize hv : textR B 0 (mostV (d.1 == 1)) d.2 = v
  have v1 := textR_at B 0 (mostV (d.1 == 1)) d.2
  have v2 := mostV_le (d.1 == 1)
  have v3 := @textR_go B h8 0 (mostV (d.1 == 1)) d.2
  rw [hv] at v1 v3
  intro h
  have hx := setR_at B a.1 b.1 v.2
  have k1 := setR_ok1 h
  obtain ⟨g4, _, k2, lv⟩ := v3 (by omega) k1
  obtain ⟨g3, _⟩ := d3 (by omega) k2
  have k3 := d4 k2
  obtain ⟨g2, q2⟩ := b3 (by omega) k3
  have k4 := b4 k3
  obtain ⟨g1, q1⟩ := a3 (by omega) k4
  obtain ⟨g5, q5⟩ := setR_go h8 (s := v.2) (by omega) h
  have lt : ((B.drop v.1.1).take v.1.2).length = v.1.2 := by rw [List.length_take, List.length_drop]; omega
  refine ⟨?_, ⟨q1, a2⟩, ⟨q2, b2⟩, ?_, hx.2.2, q5⟩
  · unfold encPw Pw.w
    dsimp only
    rw [b01 d2, lt]
    exact g1.app (g2.app (g3.app (g4.app g5)))
  · show ((B.drop v.1.1).take v.1.2).length ≤ _
    rw [lt]; exact v1.2.2.1
theorem writeR_of {B : List Nat} {an ac : Nat} {w : Cw} {s s' : Ps} (h : Gg B s (encPw w) s') (hv : VPw an ac w) : ∃ p, writeR B an ac s = (p, s') ∧ p.w B = w := by
  obtain ⟨⟨v1, v2⟩, ⟨v3, v4⟩, v5, v6, v7⟩ := hv
  obtain ⟨s1, h1, h⟩ := h.split
  obtain ⟨s2, h2, h⟩ := h.split
  obtain ⟨s3, h3, h⟩ := h.split
  obtain ⟨s4, h4, h5⟩ := h.split
  have e1 := num_of (lo := an) (hi := 7) h1 v1 v2 (by omega)
  have e2 := num_of (lo := leastC an ac w.n) (hi := 1048576) h2 v3 v4 (by omega)
  have e3 := num_of (lo := 0) (hi := 1) h3 (by omega) (by split <;> omega) (by split <;> omega)
  have e0 : ((if w.d = true then 1 else 0) == 1) = w.d := by cases w.d <;> rfl
  have v8 := mostV_le w.d
  obtain ⟨e4, e6⟩ := textR_of (lo := 0) (hi := mostV w.d) h4 (by omega) v5 (by omega)
  have e5 := setR_of h5 v6 v7
  refine ⟨⟨w.n, w.c, w.d, s3.at_ + 1, w.vs.length, w.xs⟩, ?_, ?_⟩
  · unfold writeR
    dsimp only
    rw [e1]
    dsimp only
    rw [e2]
    dsimp only
    rw [e3]
    dsimp only
    rw [e0, e4]
    dsimp only
    rw [e5]
  · unfold Pw.w
    dsimp only
    rw [e6]
def encPws : List Cw → List Nat
  | [] => []
  | w :: l => encPw w ++ encPws l
def VPws : Nat → Nat → List Cw → Prop
  | _, _, [] => True
  | an, ac, w :: l => VPw an ac w ∧ VPws w.n w.c l
theorem writesR_ok1 {B : List Nat} {m an ac : Nat} {s : Ps} (h : (writesR B m an ac s).2.bad = false) : s.bad = false := by
  cases hb : s.bad with
  | false => rfl
  | true => rw [writesR_bad B m an ac hb] at h; rw [h] at hb; exact absurd hb (by decide)
theorem writesR_go {B : List Nat} (h8 : ∀ b ∈ B, b < 256) : ∀ (m an ac : Nat) {s : Ps}, s.at_ + 176 * m ≤ B.length → (writesR B m an ac s).2.bad = false → Gg B s (encPws ((writesR B m an ac s).1.map (Pw.w B))) (writesR B m an ac s).2 ∧ VPws an ac ((writesR B m an ac s).1.map (Pw.w B)) ∧ (writesR B m an ac s).1.length = m
  | 0, an, ac, s, hr, h => ⟨⟨h, h, Sd.nil (by omega)⟩, trivial, rfl⟩
  | m + 1, an, ac, s, hr, h => by
    have h1 : (writeR B an ac s).2.bad = false := writesR_ok1 (m := m) (an := (writeR B an ac s).1.n) (ac := (writeR B an ac s).1.c) h
    have h2 := writeR_at B an ac s
    obtain ⟨g1, v1⟩ := writeR_go h8 (by omega) h1
    obtain ⟨g2, v2, l2⟩ := writesR_go h8 m (writeR B an ac s).1.n (writeR B an ac s).1.c (s := (writeR B an ac s).2) (by omega) h
    exact ⟨g1.app g2, ⟨v1, v2⟩, by unfold writesR; rw [List.length_cons, l2]⟩
theorem writesR_of {B : List Nat} : ∀ (l : List Cw) (an ac : Nat) {s s' : Ps}, Gg B s (encPws l) s' → VPws an ac l → ∃ ps, writesR B l.length an ac s = (ps, s') ∧ ps.map (Pw.w B) = l
  | [], an, ac, s, s', h, hv => ⟨[], by rw [h.nil]; rfl, rfl⟩
  | w :: l, an, ac, s, s', h, hv => by
    obtain ⟨s1, h1, h2⟩ := h.split
    obtain ⟨p, e1, e2⟩ := writeR_of h1 hv.1
    have n1 : p.n = w.n := by rw [← e2]; rfl
    have c1 : p.c = w.c := by rw [← e2]; rfl
    obtain ⟨ps, e3, e4⟩ := writesR_of l w.n w.c h2 hv.2
    refine ⟨p :: ps, ?_, by rw [List.map_cons, e2, e4]⟩
    rw [List.length_cons]
    unfold writesR
    rw [e1]
    dsimp only
    rw [n1, c1, e3]
end Go.Proofs.Ytllhmidpphlbhaa.ds
namespace Go.Proofs.Ytllhmidpphlbhaa.ds
open Go.ChangeShapes Go.WideShapes Go.ChangeAt Go.RowKit Go.Sort
set_option linter.unusedVariables false
set_option linter.unusedSimpArgs false
/-- cells written one behind the other -/
def spl (cs : Array Value) : Nat → List Value → Array Value
  | _, [] => cs
  | o, v :: r => spl (cs.setIfInBounds o v) (o + 1) r
theorem heap_setCells_same {g : Nat} {t : TypeId} : ∀ (vs : List Value) (o : Nat) (w : World) (cs : Array Value), w.heap[g]? = some (.cells cs t (0, 0)) → (w.setCells g o vs).heap[g]? = some (.cells (spl cs o vs) t (0, 0))
  | [], o, w, cs, h => h
  | v :: r, o, w, cs, h => heap_setCells_same r (o + 1) _ _ (heap_setCell_same w g o cs t v h)
theorem apart_setCells {g : Nat} {X : List Nat} {a : World} : ∀ (vs : List Value) (o : Nat) (w : World), Apart X a w → (g ∈ X ∨ a.heap.size ≤ g) → Apart X a (w.setCells g o vs)
  | [], o, w, h, hg => h
  | v :: r, o, w, h, hg => apart_setCells r (o + 1) _ (h.setCell hg v) hg
theorem spl_list : ∀ (vs : List Value) (o : Nat) (l : List Value), o + vs.length ≤ l.length → spl l.toArray o vs = (l.take o ++ vs ++ l.drop (o + vs.length)).toArray
  | [], o, l, h => by simp [spl]
  | v :: r, o, l, h => by
    unfold spl
    simp only [List.length_cons] at h
    have e : l.toArray.setIfInBounds o v = (l.set o v).toArray := by simp
    rw [e, spl_list r (o + 1) (l.set o v) (by simp; omega)]
    congr 1
    rw [List.take_add_one, List.getElem?_set_self (by omega), List.take_set_of_le (by omega), List.drop_set_of_lt (by omega)]
    simp only [Option.toList_some, List.append_assoc, List.singleton_append, List.length_cons, List.cons_append, List.nil_append]
    rw [show o + 1 + r.length = o + (r.length + 1) from by omega]
theorem spl_all {vs : List Value} {cs : Array Value} (h : vs.length = cs.size) : spl cs 0 vs = vs.toArray := by
  have := spl_list vs 0 cs.toList (by simp; omega)
  simp at this
  rw [this, List.drop_eq_nil_of_le (by simp; omega), List.append_nil]
/-- the cells of a set of dots: eight spans, how many -/
def setL (xs : List S) (m : Nat) : List Value := flat (xs ++ List.replicate (8 - xs.length) zS) ++ [.int .i64 (m : Nat)]
theorem setL_len {xs : List S} {m : Nat} (h : xs.length ≤ 8) : (setL xs m).length = 25 := by
  unfold setL
  rw [List.length_append, flat_length, List.length_append, List.length_replicate, List.length_singleton]; omega
theorem flat_app (a b : List S) : flat (a ++ b) = flat a ++ flat b := by unfold flat; rw [List.flatMap_append]
theorem setL_put {xs : List S} {m : Nat} (x : S) (h : xs.length < 8) : spl (setL xs m).toArray (xs.length * 3) [.int .i64 x.n, .int .i64 x.b, .int .u64 (x.t : Int)] = (setL (xs ++ [x]) m).toArray := by
  have hl := setL_len (xs := xs) (m := m) (by omega)
  rw [spl_list _ _ _ (by rw [hl]; simp; omega)]
  congr 1
  have e1 : setL xs m = flat xs ++ (flat (List.replicate (8 - xs.length) zS) ++ [.int .i64 (m : Nat)]) := by unfold setL; rw [flat_app, List.append_assoc]
  have e2 : setL (xs ++ [x]) m = flat xs ++ ([.int .i64 x.n, .int .i64 x.b, .int .u64 (x.t : Int)] ++ (flat (List.replicate (8 - (xs.length + 1)) zS) ++ [.int .i64 (m : Nat)])) := by
    unfold setL
    rw [flat_app, flat_app, List.length_append, List.length_singleton, List.append_assoc, List.append_assoc]
    rfl
  have e3 : List.replicate (8 - xs.length) zS = zS :: List.replicate (8 - (xs.length + 1)) zS := by
    rw [show 8 - xs.length = (8 - (xs.length + 1)) + 1 from by omega, List.replicate_succ]
  have hf := flat_length xs
  rw [e1, e2, e3]
  rw [List.take_left' hf]
  rw [show xs.length * 3 + [Value.int .i64 x.n, .int .i64 x.b, .int .u64 (x.t : Int)].length = xs.length * 3 + 3 from rfl, ← List.drop_drop, List.drop_left' hf, List.append_assoc]
  rfl
theorem setL_get {xs : List S} {m i : Nat} (h : i < 8) (hl : xs.length ≤ 8) : (setL xs m)[i * 3]? = some (.int .i64 (g (xs ++ List.replicate (8 - xs.length) zS) i).n) ∧ (setL xs m)[i * 3 + 1]? = some (.int .i64 (g (xs ++ List.replicate (8 - xs.length) zS) i).b) ∧ (setL xs m)[i * 3 + 2]? = some (.int .u64 ((g (xs ++ List.replicate (8 - xs.length) zS) i).t : Int)) := by
  have hn : (xs ++ List.replicate (8 - xs.length) zS).length = 8 := by rw [List.length_append, List.length_replicate]; omega
  obtain ⟨h0, h1, h2⟩ := flat_get (xs ++ List.replicate (8 - xs.length) zS) i (by omega)
  have hf := flat_length (xs ++ List.replicate (8 - xs.length) zS)
  unfold setL
  refine ⟨?_, ?_, ?_⟩
  · rw [List.getElem?_append_left (by omega)]; exact h0
  · rw [List.getElem?_append_left (by omega)]; exact h1
  · rw [List.getElem?_append_left (by omega)]; exact h2
theorem there_of {w : World} {g : Nat} {cs : Array Value} {t : TypeId} (h : w.heap[g]? = some (.cells cs t (0, 0))) (o n : Nat) (hn : o + n ≤ cs.size) : w.there g o n := fun j hj => by
  refine ⟨?_, frozen_of_row _ _ _ _ _ h⟩
  rw [cell_of_row _ _ _ _ _ _ h, Array.getElem?_eq_getElem (by omega)]; rfl
theorem range_of {w : World} {g : Nat} {l : List Value} {t : TypeId} (h : w.heap[g]? = some (.cells l.toArray t (0, 0))) : w.rangeAt g 0 l := fun j v hv => by
  rw [cell_of_row _ _ _ _ _ _ h, Nat.zero_add]; simpa using hv
theorem setL_one (xs : List S) (m : Nat) : (setL xs m).toArray.all (·.oneCell') = true := by
  refine all_oneCell_toArray (fun v hv => ?_)
  unfold setL at hv
  rcases List.mem_append.1 hv with h | h
  · exact oneFlat _ v h
  · simp at h; rw [h]; rfl
end Go.Proofs.Ytllhmidpphlbhaa.ds
namespace Go.Proofs.Ytllhmidpphlbhaa.ds
open Go.ChangeShapes Go.WideShapes Go.ChangeAt Go.RowKit Go.Sort
set_option linter.unusedVariables false
set_option linter.unusedSimpArgs false

theorem row5v {w : World} {g : Nat} {t : TypeId} {a b c d e : Value} (h : w.heap[g]? = some (.cells #[a, b, c, d, e] t (0, 0))) : w.cell? ⟨g, 0, none⟩ = some a ∧ w.cell? ⟨g, 1, none⟩ = some b ∧ w.cell? ⟨g, 2, none⟩ = some c ∧ w.cell? ⟨g, 3, none⟩ = some d ∧ w.cell? ⟨g, 4, none⟩ = some e := by
  refine ⟨?_, ?_, ?_, ?_, ?_⟩ <;> (rw [cell_of_row _ _ _ _ _ _ h]; rfl)
theorem set5 {W : World} {B : Nat} {t : TypeId} {a b c d e : Value} (a' b' c' d' e' : Value) (h : W.heap[B]? = some (.cells #[a, b, c, d, e] t (0, 0))) : (((((W.setCell ⟨B, 0, none⟩ a').setCell ⟨B, 1, none⟩ b').setCell ⟨B, 2, none⟩ c').setCell ⟨B, 3, none⟩ d').setCell ⟨B, 4, none⟩ e').heap[B]? = some (.cells #[a', b', c', d', e'] t (0, 0)) ∧ Apart [B] W (((((W.setCell ⟨B, 0, none⟩ a').setCell ⟨B, 1, none⟩ b').setCell ⟨B, 2, none⟩ c').setCell ⟨B, 3, none⟩ d').setCell ⟨B, 4, none⟩ e') := by
  have h0 := heap_setCell_same W B 0 _ t a' h
  have h1 := heap_setCell_same _ B 1 _ t b' h0
  have h2 := heap_setCell_same _ B 2 _ t c' h1
  have h3 := heap_setCell_same _ B 3 _ t d' h2
  have h4 := heap_setCell_same _ B 4 _ t e' h3
  exact ⟨by simpa using h4, ((((((Apart.refl [B] W).setCell (.inl (by simp)) _).setCell (.inl (by simp)) _).setCell (.inl (by simp)) _).setCell (.inl (by simp)) _).setCell (.inl (by simp)) _)⟩
end Go.Proofs.Ytllhmidpphlbhaa.ds
