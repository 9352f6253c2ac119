import Derived.Deep.RegionHeld
import Derived.OrdersHeld
import Derived.WalkKit
import Derived.ProofKit
import Derived.Lib.TrailingZeros
import Derived.Test.YtllhmidpphlbhaaChecked
import Derived.OpenShut
import Derived.Deep.QuietTactic
import Derived.BigQuiet
import Derived.BigRegion
import Derived.Laws.CopyOwn
import Derived.Laws.Bits64b
import Derived.Laws.MathBits
import Derived.Laws.ShiftsVarLaws
import Derived.WalkSmall
import Derived.Laws.ResultCell
import Derived.Lib.BitFns
import Derived.Laws.StructEq
import Derived.ArgAppend
import Derived.Deep.RegionLaw
import Derived.Deep.DeepAppendRoom
import Derived.Sort.WalkA
import Derived.Laws.Strings
import Derived.Deep.CutBlock
import Derived.Great.BuildSlice
import Derived.Laws.AppendOwnNone
import Derived.Lib.Overlaps
import Derived.Lib.AppendZerosOnto
import Derived.Laws.NewBlocks
import Derived.Laws.Externs
import Derived.Laws.IdiomCopy
import Derived.Laws.BytesString
import Derived.Deep.CutRange
import Derived.RangeFuncNested
import Derived.RangeFuncBound
import Derived.RangeFuncCalls
import Derived.RangeFuncLeaves
import Derived.Shelf.Abstract
import Derived.Shelf.RegionOpen
import Derived.OwnWalkIn
import Derived.TacticsInMore
import Derived.LoopNIn
import Derived.LoopIn
import GoSem.Claim
import GoSem.ClaimJoined
import GoSem.ClaimMapViews
import Derived.JoinedTies
import Derived.KernelRfl
import Derived.Deep.OwnRows
import Derived.Lib.LaidTab
import Derived.JoinedCond
import Derived.ShutString
import Derived.ChangeOld
import Derived.Below
import Derived.Carry
import Derived.ChangeSlices
import Derived.Deep.Slices
import Derived.Deep.DeepHandedRow
import Derived.RowKit
import Derived.ChangeShapes
import Derived.SizedLaws
import Derived.ChangeMaps5
import Derived.Lib.Walk
import Derived.Lib.SliceRun
import Derived.Lib.AppendStr
import Derived.Lib.ConvBytes
import Derived.Deep.RegionHeld3
import Derived.Deep.MidRow
import Derived.Laws.MakeOwn
import Derived.Lib.SlBytesConst
import Derived.Test.YtllhmidpphlbhaaRows
import Derived.Test.YtllhmidpphlbhaaF44
import Derived.Test.YtllhmidpphlbhaaF48
import Derived.Test.YtllhmidpphlbhaaF49
namespace Go.Proofs.Ytllhmidpphlbhaa.ds
open Go.ChangeShapes Go.WideShapes Go.ChangeAt Go.RowKit Go.Sort
set_option linter.unusedVariables false
set_option linter.unusedSimpArgs false

theorem Nw.own_p {w W : World} {e size : Nat} {s : Sl} {us : List Value} (h : Nw w W e size s us) {k : Nat} (hk : s.v.ownBlock = some k) : s.p = some ⟨k, 0, none⟩ ∧ w.heap.size ≤ k ∧ k < W.heap.size := by
  have hl : k < W.heap.size := by obtain ⟨cur, hc⟩ := own_typ h.own hk; exact lt_of_heap hc
  refine ⟨?_, h.new k hk, hl⟩
  obtain ⟨_, ⟨hv, hz⟩ | ⟨g, cap, cur, hv, _⟩⟩ := h.own
  · rw [hv] at hk; simp [Value.ownBlock] at hk
  · rw [hv] at hk
    simp [Value.ownBlock] at hk
    subst hk
    unfold Sl.v at hv
    simp at hv
    exact hv.1
/-- what is left of a told content: the values from jv on, the contexts from jx on, the sets from q on are still the caller's to write -/
structure Pn (w W : World) (K : List Nat) (es : List E) (rs : List Wr) (ks : List Ck) (cs : List (Int × List S)) (jv jx q lo hi : Nat) : Prop where
  v : ∀ i, jv ≤ i → i < rs.length → Bf w W (gE es i).v (gR rs i).vs ∧ ∀ k, (gE es i).v.v.ownBlock = some k → k ∉ K
  x : ∀ i, jx ≤ i → i < rs.length → Nw w W 85 3 (gE es i).x (flat (gR rs i).xs) ∧ ∀ k, (gE es i).x.v.ownBlock = some k → k ∉ K
  s : ∀ i, q ≤ i → i < cs.length → Nw w W 85 3 (gK ks i).s (flat (gC cs i).2) ∧ ∀ k, (gK ks i).s.v.ownBlock = some k → k ∉ K
  dv : ∀ i j k, i < j → j < rs.length → (gE es i).v.v.ownBlock = some k → (gE es j).v.v.ownBlock ≠ some k
  dx : ∀ i j k, i < j → j < rs.length → (gE es i).x.v.ownBlock = some k → (gE es j).x.v.ownBlock ≠ some k
  ds : ∀ i j k, i < j → j < cs.length → (gK ks i).s.v.ownBlock = some k → (gK ks j).s.v.ownBlock ≠ some k
  one : rs = [] ∨ cs = []
  rv : ∀ i, i < rs.length → ∀ k, ((gE es i).v.v.ownBlock = some k ∨ (gE es i).x.v.ownBlock = some k) → lo ≤ k ∧ k < hi
  rs' : ∀ i, i < cs.length → ∀ k, (gK ks i).s.v.ownBlock = some k → lo ≤ k ∧ k < hi
  f8 : ∀ i, i < rs.length → (L8 (gR rs i).vs ∧ (gR rs i).vs.length ≤ 2048) ∧ F64 (gR rs i).xs ∧ (gR rs i).xs.length ≤ 2048
  fS : ∀ i, i < cs.length → F64 (gC cs i).2 ∧ (gC cs i).2.length ≤ 2048
/-- other blocks are written -/
theorem Pn.keepW {w W W' : World} {K K' G : List Nat} {es : List E} {rs : List Wr} {ks : List Ck} {cs : List (Int × List S)} {jv jx q lo hi : Nat} (P : Pn w W K es rs ks cs jv jx q lo hi) (t : Wt G W W') (hG : ∀ k ∈ G, k < lo ∨ hi ≤ k) (hK : ∀ k ∈ K', k ∈ K ∨ (k < lo ∨ hi ≤ k) ∨ W.heap.size ≤ k) (ap : Apart [] w W') : Pn w W' K' es rs ks cs jv jx q lo hi := by
  have nG : ∀ k, lo ≤ k → k < hi → k ∉ G := fun k h1 h2 hm => by have := hG k hm; omega
  have nK : ∀ {e size : Nat} {s : Sl} {us : List Value}, Nw w W e size s us → (∀ k, s.v.ownBlock = some k → k ∉ K) → (∀ k, s.v.ownBlock = some k → lo ≤ k ∧ k < hi) → ∀ k, s.v.ownBlock = some k → k ∉ K' := fun hn h1 h2 k hk hm => by
    rcases hK k hm with h | h | h
    · exact h1 k hk h
    · have := h2 k hk; omega
    · have := (hn.own_p hk).2.2; omega
  refine { P with v := fun i h1 h2 => ?_, x := fun i h1 h2 => ?_, s := fun i h1 h2 => ?_ }
  · obtain ⟨a, b⟩ := P.v i h1 h2
    have r : ∀ k, (gE es i).v.v.ownBlock = some k → lo ≤ k ∧ k < hi := fun k hk => P.rv i h2 k (.inl hk)
    exact ⟨⟨t.nw a.nw ap (by decide) (fun k hk => nG k (r k hk).1 (r k hk).2), a.len⟩, nK a.nw b r⟩
  · obtain ⟨a, b⟩ := P.x i h1 h2
    have r : ∀ k, (gE es i).x.v.ownBlock = some k → lo ≤ k ∧ k < hi := fun k hk => P.rv i h2 k (.inr hk)
    exact ⟨t.nw a ap (by decide) (fun k hk => nG k (r k hk).1 (r k hk).2), nK a b r⟩
  · obtain ⟨a, b⟩ := P.s i h1 h2
    have r : ∀ k, (gK ks i).s.v.ownBlock = some k → lo ≤ k ∧ k < hi := fun k hk => P.rs' i h2 k hk
    exact ⟨t.nw a ap (by decide) (fun k hk => nG k (r k hk).1 (r k hk).2), nK a b r⟩
theorem Pn.kept0 {w W W' : World} {K : List Nat} {es : List E} {rs : List Wr} {ks : List Ck} {cs : List (Int × List S)} {jv jx q lo hi : Nat} (P : Pn w W K es rs ks cs jv jx q lo hi) (a : Apart [] W W') (ap : Apart [] w W') : Pn w W' K es rs ks cs jv jx q lo hi := P.keepW (G := []) (Wt.of a (by simp)) (by simp) (fun k hk => .inl hk) ap
/-- one of a content's own lists was put on the shelf: the others are as they were -/
theorem Pn.step {w W W' : World} {K K' : List Nat} {es : List E} {rs : List Wr} {ks : List Ck} {cs : List (Int × List S)} {jv jx q lo hi : Nat} (P : Pn w W K es rs ks cs jv jx q lo hi) (b : Sl) (t : Wt b.v.ownBlock.toList W W') (hK : ∀ k ∈ K', k ∈ K ∨ b.v.ownBlock = some k ∨ W.heap.size ≤ k) (ap : Apart [] w W') (jv' jx' q' : Nat) (hv' : jv ≤ jv') (hx' : jx ≤ jx') (hq' : q ≤ q') (hv : ∀ i k, jv' ≤ i → i < rs.length → (gE es i).v.v.ownBlock = some k → b.v.ownBlock ≠ some k) (hx : ∀ i k, jx' ≤ i → i < rs.length → (gE es i).x.v.ownBlock = some k → b.v.ownBlock ≠ some k) (hs : ∀ i k, q' ≤ i → i < cs.length → (gK ks i).s.v.ownBlock = some k → b.v.ownBlock ≠ some k) : Pn w W' K' es rs ks cs jv' jx' q' lo hi := by
  have nK : ∀ {e size : Nat} {s : Sl} {us : List Value}, Nw w W e size s us → (∀ k, s.v.ownBlock = some k → k ∉ K) → (∀ k, s.v.ownBlock = some k → b.v.ownBlock ≠ some k) → ∀ k, s.v.ownBlock = some k → k ∉ K' := fun hn h1 h2 k hk hm => by
    rcases hK k hm with h | h | h
    · exact h1 k hk h
    · exact h2 k hk h
    · have := (hn.own_p hk).2.2; omega
  refine { P with v := fun i h1 h2 => ?_, x := fun i h1 h2 => ?_, s := fun i h1 h2 => ?_ }
  · obtain ⟨a, c⟩ := P.v i (by omega) h2
    exact ⟨⟨t.nw a.nw ap (by decide) (fun k hk hm => hv i k h1 h2 hk (by simpa using hm)), a.len⟩, nK a.nw c (fun k hk => hv i k h1 h2 hk)⟩
  · obtain ⟨a, c⟩ := P.x i (by omega) h2
    exact ⟨t.nw a ap (by decide) (fun k hk hm => hx i k h1 h2 hk (by simpa using hm)), nK a c (fun k hk => hx i k h1 h2 hk)⟩
  · obtain ⟨a, c⟩ := P.s i (by omega) h2
    exact ⟨t.nw a ap (by decide) (fun k hk hm => hs i k h1 h2 hk (by simpa using hm)), nK a c (fun k hk => hs i k h1 h2 hk)⟩
theorem own_ne {w W : World} {e e' size size' : Nat} {s s' : Sl} {us us' : List Value} (h : Nw w W e size s us) (h' : Nw w W e' size' s' us') (hne : e ≠ e') {k : Nat} (hk : s.v.ownBlock = some k) : s'.v.ownBlock ≠ some k := fun hk' => by
  obtain ⟨cur, hc⟩ := own_typ h.own hk
  obtain ⟨cur', hc'⟩ := own_typ h'.own hk'
  rw [hc] at hc'
  simp at hc'
  exact hne hc'.2
theorem Pn.stepV {w W W' : World} {K K' : List Nat} {es : List E} {rs : List Wr} {ks : List Ck} {cs : List (Int × List S)} {j q lo hi : Nat} (P : Pn w W K es rs ks cs j j q lo hi) (hj : j < rs.length) (t : Wt (gE es j).v.v.ownBlock.toList W W') (hK : ∀ k ∈ K', k ∈ K ∨ (gE es j).v.v.ownBlock = some k ∨ W.heap.size ≤ k) (ap : Apart [] w W') : Pn w W' K' es rs ks cs (j + 1) j q lo hi := by
  have hvj := (P.v j (Nat.le_refl _) hj).1.nw
  have hc0 : cs = [] := P.one.resolve_left (fun h => by rw [h] at hj; simp at hj)
  refine P.step _ t hK ap (j + 1) j q (by omega) (Nat.le_refl _) (Nat.le_refl _) (fun i k h1 h2 hk hb => P.dv j i k (by omega) h2 hb hk) (fun i k h1 h2 hk => own_ne (P.x i h1 h2).1 hvj (by decide) hk) (fun i k h1 h2 => by rw [hc0] at h2; simp at h2)
theorem Pn.stepX {w W W' : World} {K K' : List Nat} {es : List E} {rs : List Wr} {ks : List Ck} {cs : List (Int × List S)} {j q lo hi : Nat} (P : Pn w W K es rs ks cs (j + 1) j q lo hi) (hj : j < rs.length) (t : Wt (gE es j).x.v.ownBlock.toList W W') (hK : ∀ k ∈ K', k ∈ K ∨ (gE es j).x.v.ownBlock = some k ∨ W.heap.size ≤ k) (ap : Apart [] w W') : Pn w W' K' es rs ks cs (j + 1) (j + 1) q lo hi := by
  have hxj := (P.x j (Nat.le_refl _) hj).1
  have hc0 : cs = [] := P.one.resolve_left (fun h => by rw [h] at hj; simp at hj)
  refine P.step _ t hK ap (j + 1) (j + 1) q (Nat.le_refl _) (by omega) (Nat.le_refl _) (fun i k h1 h2 hk => own_ne (P.v i h1 h2).1.nw hxj (by decide) hk) (fun i k h1 h2 hk hb => P.dx j i k (by omega) h2 hb hk) (fun i k h1 h2 => by rw [hc0] at h2; simp at h2)
theorem Pn.stepS {w W W' : World} {K K' : List Nat} {es : List E} {rs : List Wr} {ks : List Ck} {cs : List (Int × List S)} {jv jx j lo hi : Nat} (P : Pn w W K es rs ks cs jv jx j lo hi) (hj : j < cs.length) (t : Wt (gK ks j).s.v.ownBlock.toList W W') (hK : ∀ k ∈ K', k ∈ K ∨ (gK ks j).s.v.ownBlock = some k ∨ W.heap.size ≤ k) (ap : Apart [] w W') : Pn w W' K' es rs ks cs jv jx (j + 1) lo hi := by
  have hr0 : rs = [] := P.one.resolve_right (fun h => by rw [h] at hj; simp at hj)
  refine P.step _ t hK ap jv jx (j + 1) (Nat.le_refl _) (Nat.le_refl _) (by omega) (fun i k h1 h2 => by rw [hr0] at h2; simp at h2) (fun i k h1 h2 => by rw [hr0] at h2; simp at h2) (fun i k h1 h2 hk hb => P.ds j i k (by omega) h2 hb hk)
theorem mono_le {f : Nat → Nat} {n : Nat} (h : ∀ j, j < n → f j ≤ f (j + 1)) : ∀ i j, i ≤ j → j ≤ n → f i ≤ f j
  | i, 0, h1, h2 => by have : i = 0 := by omega
                       subst this; exact Nat.le_refl _
  | i, j + 1, h1, h2 => by
    by_cases e : i = j + 1
    · subst e; exact Nat.le_refl _
    · exact Nat.le_trans (mono_le h i j (by omega) (by omega)) (h j (by omega))
theorem csT_8 (B : List Nat) : ∀ i, i < (csT B).length → (gC (csT B) i).2.length ≤ 2048 := by
  unfold csT
  split
  · intro j hj
    have hm := gC_mem hj
    generalize gC (csOf B) j = z at hm
    unfold csOf at hm
    obtain ⟨p, hp, rfl⟩ := List.mem_map.1 hm
    have h2 := clocksR_8 B _ _ _ p hp
    show p.2.length ≤ _; omega
  · intro j hj; simp at hj
theorem rsT_8 (B : List Nat) : ∀ i, i < (rsT B).length → (gR (rsT B) i).vs.length ≤ 2048 ∧ (gR (rsT B) i).xs.length ≤ 2048 := by
  unfold rsT
  split
  · intro j hj; simp at hj
  · intro j hj
    have hm := gR_mem hj
    generalize gR (rsOf B) j = z at hm
    unfold rsOf at hm
    obtain ⟨p, hp, rfl⟩ := List.mem_map.1 hm
    have h2 := writesR_8 B _ _ _ _ p hp
    refine ⟨?_, by show p.xs.length ≤ _; omega⟩
    show ((B.drop p.vb).take p.vn).length ≤ _
    rw [List.length_take]; omega
/-- what was just told is all the caller's -/
theorem pn_of {w w0 W : World} {B : List Nat} {K : List Nat} (h8 : ∀ b ∈ B, b < 256) (a0 : Apart [] w w0) (hK : ∀ k ∈ K, k < w0.heap.size) {ks : List Ck} {es : List E} (hc : CL w0 W ks (csT B)) (hw : WL w0 W es (rsT B)) (mk : MkK w0 W ks) (me : MkE w0 W es) : Pn w W K es (rsT B) ks (csT B) 0 0 0 w0.heap.size W.heap.size := by
  obtain ⟨f, f1, f2, f3⟩ := me
  obtain ⟨g, g1, g2, g3⟩ := mk
  have hel := hw.1
  have hkl := hc.1
  obtain ⟨t1, -⟩ := csT_fit h8
  obtain ⟨t2, -⟩ := rsT_fit h8
  have fm : ∀ i j, i ≤ j → j ≤ es.length → f i ≤ f j := mono_le (fun j hj => (f3 j hj).1)
  have gm : ∀ i j, i ≤ j → j ≤ ks.length → g i ≤ g j := mono_le (fun j hj => (g3 j hj).1)
  have pv : ∀ i, i < (rsT B).length → ∀ k, ((gE es i).v.v.ownBlock = some k ∨ (gE es i).x.v.ownBlock = some k) → (f i ≤ k ∧ k < f (i + 1)) ∧ w0.heap.size ≤ k ∧ k < W.heap.size := fun i hi k hk => by
    obtain ⟨-, a, b⟩ := hw.2 i hi
    rcases hk with hk | hk
    · obtain ⟨p1, p2, p3⟩ := a.nw.own_p hk
      exact ⟨(f3 i (by omega)).2 k 0 (.inl p1), p2, p3⟩
    · obtain ⟨p1, p2, p3⟩ := b.own_p hk
      exact ⟨(f3 i (by omega)).2 k 0 (.inr p1), p2, p3⟩
  have ps : ∀ i, i < (csT B).length → ∀ k, (gK ks i).s.v.ownBlock = some k → (g i ≤ k ∧ k < g (i + 1)) ∧ w0.heap.size ≤ k ∧ k < W.heap.size := fun i hi k hk => by
    obtain ⟨-, a⟩ := hc.2 i hi
    obtain ⟨p1, p2, p3⟩ := a.own_p hk
    exact ⟨(g3 i (by omega)).2 k 0 p1, p2, p3⟩
  refine ⟨fun i _ hi => ⟨(hw.2 i hi).2.1.base a0, fun k hk hm => ?_⟩, fun i _ hi => ⟨(hw.2 i hi).2.2.from a0, fun k hk hm => ?_⟩, fun i _ hi => ⟨(hc.2 i hi).2.from a0, fun k hk hm => ?_⟩, fun i j k hij hj h1 h2 => ?_, fun i j k hij hj h1 h2 => ?_, fun i j k hij hj h1 h2 => ?_, ?_, fun i hi k hk => ⟨(pv i hi k hk).2.1, (pv i hi k hk).2.2⟩, fun i hi k hk => ⟨(ps i hi k hk).2.1, (ps i hi k hk).2.2⟩, fun i hi => ?_, fun i hi => ?_⟩
  · have := (pv i hi k (.inl hk)).2.1; have := hK k hm; omega
  · have := (pv i hi k (.inr hk)).2.1; have := hK k hm; omega
  · have := (ps i hi k hk).2.1; have := hK k hm; omega
  · have := (pv i (by omega) k (.inl h1)).1; have := (pv j hj k (.inl h2)).1; have := fm (i + 1) j (by omega) (by omega); omega
  · have := (pv i (by omega) k (.inr h1)).1; have := (pv j hj k (.inr h2)).1; have := fm (i + 1) j (by omega) (by omega); omega
  · have := (ps i (by omega) k h1).1; have := (ps j hj k h2).1; have := gm (i + 1) j (by omega) (by omega); omega
  · unfold rsT csT
    split
    · exact .inl rfl
    · exact .inr rfl
  · obtain ⟨⟨⟨a1, a2⟩, a3, a4⟩, -⟩ := t2 i hi
    exact ⟨⟨a3, (rsT_8 B i hi).1⟩, a1, (rsT_8 B i hi).2⟩
  · exact ⟨(t1 i hi).1, csT_8 B i hi⟩
end Go.Proofs.Ytllhmidpphlbhaa.ds
namespace Go.Proofs.Ytllhmidpphlbhaa.ds
open Go.ChangeShapes Go.WideShapes Go.ChangeAt Go.RowKit Go.Sort
set_option linter.unusedVariables false
set_option linter.unusedSimpArgs false

/-! lists of contents -/
def Ct.z : Ct := ⟨0, 0, 0, slz, slz⟩
def Ct.l (c : Ct) : List Value := [.int .i64 c.kd, .int .i64 c.gn, .int .i64 c.ow, .slice c.s.p c.s.n c.s.c, .slice c.t.p c.t.n c.t.c]
def flatT : List Ct → List Value
  | [] => []
  | c :: l => c.l ++ flatT l
def gT (l : List Ct) (i : Nat) : Ct := l.getD i Ct.z
theorem flatT_len : ∀ l : List Ct, (flatT l).length = l.length * 5
  | [] => rfl
  | c :: l => by show (c.l ++ flatT l).length = _; rw [List.length_append, flatT_len l, List.length_cons]; show 5 + _ = _; omega
theorem flatT_app : ∀ a b : List Ct, flatT (a ++ b) = flatT a ++ flatT b
  | [], b => rfl
  | c :: a, b => by show c.l ++ flatT (a ++ b) = _; rw [flatT_app a b]; show _ = (c.l ++ flatT a) ++ flatT b; rw [List.append_assoc]
theorem flatT_at : ∀ (l : List Ct) (i j : Nat), i < l.length → j < 5 → (flatT l)[i * 5 + j]? = (gT l i).l[j]?
  | [], i, j, h, _ => by simp at h
  | c :: l, 0, j, _, hj => by
    show (c.l ++ flatT l)[0 * 5 + j]? = _
    rw [Nat.zero_mul, Nat.zero_add, List.getElem?_append_left (show j < 5 from hj)]; rfl
  | c :: l, i + 1, j, h, hj => by
    show (c.l ++ flatT l)[(i + 1) * 5 + j]? = _
    rw [List.getElem?_append_right (show 5 ≤ _ by omega)]
    have := flatT_at l i j (by simpa using h) hj
    have e : (i + 1) * 5 + j - c.l.length = i * 5 + j := by show (i + 1) * 5 + j - 5 = _; omega
    rw [e, this]; rfl
theorem gT_l {l m : List Ct} {i : Nat} (h : i < l.length) : gT (l ++ m) i = gT l i := by unfold gT; rw [List.getD_eq_getElem?_getD, List.getD_eq_getElem?_getD, List.getElem?_append_left h]
theorem gT_r0 {l : List Ct} {a b : Ct} : gT (l ++ [a, b]) l.length = a := by unfold gT; rw [List.getD_eq_getElem?_getD, List.getElem?_append_right (Nat.le_refl _), Nat.sub_self]; rfl
theorem gT_r1 {l : List Ct} {a b : Ct} : gT (l ++ [a, b]) (l.length + 1) = b := by unfold gT; rw [List.getD_eq_getElem?_getD, List.getElem?_append_right (by omega)]; simp
/-- the cells of the i-th content -/
theorem rt_at {W : World} {s : Sl} {l : List Ct} (h : Rd W s.p (flatT l)) {i : Nat} (hi : i < l.length) : ∃ P o, s.p = some ⟨P, o, none⟩ ∧ P < W.heap.size ∧ W.cell? ⟨P, o + i * 5, none⟩ = some (.int .i64 (gT l i).kd) ∧ W.cell? ⟨P, o + i * 5 + 1, none⟩ = some (.int .i64 (gT l i).gn) ∧ W.cell? ⟨P, o + i * 5 + 2, none⟩ = some (.int .i64 (gT l i).ow) ∧ W.cell? ⟨P, o + i * 5 + 3, none⟩ = some (.slice (gT l i).s.p (gT l i).s.n (gT l i).s.c) ∧ W.cell? ⟨P, o + i * 5 + 4, none⟩ = some (.slice (gT l i).t.p (gT l i).t.n (gT l i).t.c) := by
  obtain ⟨P, o, e, hP, hc⟩ := h (by rw [flatT_len]; omega)
  have g : ∀ j v, j < 5 → (gT l i).l[j]? = some v → W.cell? ⟨P, o + i * 5 + j, none⟩ = some v := fun j v hj hv => by
    have := hc (i * 5 + j) v (by rw [flatT_at l i j hi hj]; exact hv)
    rwa [← Nat.add_assoc] at this
  exact ⟨P, o, e, hP, g 0 _ (by omega) rfl, g 1 _ (by omega) rfl, g 2 _ (by omega) rfl, g 3 _ (by omega) rfl, g 4 _ (by omega) rfl⟩
theorem info25 : (Try.prog.info? 25).map (fun i => (i.zero, i.size, i.bytes)) = some (some (.agg #[.int .i64 0, .int .i64 0, .int .i64 0, .slice none 0 0, .slice none 0 0]), 5, 72) := by kernel_rfl
/-- two contents more -/
theorem appT {w W : World} {s : Sl} {l : List Ct} (h : Nw w W 25 5 s (flatT l)) (a b : Ct) (hl : l.length ≤ 1000) :
    ∃ s' W', (Builtin.append_ #[67, 67] 67 #[.slice s.p s.n s.c, .slice (some ⟨W.heap.size, 0, none⟩) 2 2]).run Try.prog (W.alloc (Obj.cells #[.int .i64 a.kd, .int .i64 a.gn, .int .i64 a.ow, .slice a.s.p a.s.n a.s.c, .slice a.t.p a.t.n a.t.c, .int .i64 b.kd, .int .i64 b.gn, .int .i64 b.ow, .slice b.s.p b.s.n b.s.c, .slice b.t.p b.t.n b.t.c] 25)) = .ok (.slice (Sl.p s') (Sl.n s') (Sl.c s')) W' ∧ Nw w W' 25 5 s' (flatT (l ++ [a, b])) ∧ Apart s.v.ownBlock.toList W W' ∧ (∀ k, s'.v.ownBlock = some k → s.v.ownBlock = some k ∨ W.heap.size ≤ k) := by
  obtain ⟨i0, hi, hz0, hz1, hz2⟩ := info_parts info25
  have hn : s.n = l.length := by have := h.own.1; rw [flatT_len] at this; omega
  obtain ⟨s', W', hrun, r1, r2, r3, k, r4, -, r6⟩ := run_appM 67 67 25 i0 _ 5 72 Try.underlying67 hi hz0 hz1 hz2 rfl (by decide) h 2 (flatT [a, b]) (by decide) (by rw [flatT_len]; rfl) (by intro u hu; simp [flatT, Ct.l] at hu; rcases hu with rfl | rfl | rfl | rfl | rfl | rfl | rfl | rfl | rfl | rfl <;> rfl) (by unfold maxLen; omega) (by omega)
  refine ⟨s', W', hrun, by rw [flatT_app]; exact r1, r3, fun k' hk => ?_⟩
  have : k' = k := by unfold Sl.v at hk; rw [r4] at hk; simp [Value.ownBlock] at hk; exact hk.symm
  subst this
  exact r6
/-- a told content; its values from jv on, its contexts from jx on and its sets from q on are as they were told -/
structure LP (w W : World) (K : List Nat) (c : Ct) (es : List E) (ks : List Ck) (rs : List Wr) (cs : List (Int × List S)) (jv jx q lo hi : Nat) : Prop where
  ns : Nw w W 61 2 c.s (flatK ks)
  kl : ks.length = cs.length
  kr : ∀ i, i < cs.length → (gK ks i).r = (gC cs i).1
  nt : Nw w W 50 6 c.t (flatE es)
  el : es.length = rs.length
  er : ∀ i, i < rs.length → (gE es i).n = (gR rs i).n ∧ (gE es i).c = (gR rs i).c ∧ (gE es i).k = (gR rs i).k ∧ (gE es i).d = (gR rs i).d
  p : Pn w W K es rs ks cs jv jx q lo hi
  lim : cs.length ≤ 16 ∧ rs.length ≤ 16
/-- G holds blocks of bytes and of spans alone -/
def Gt (W : World) (G : List Nat) : Prop := ∀ k ∈ G, ∃ cur t, (t = 5 ∨ t = 85) ∧ W.heap[k]? = some (.cells cur t (0, 0))
theorem Gt.nil (W : World) : Gt W [] := by intro k hk; simp at hk
theorem Gt.own {w W : World} {e size : Nat} {s : Sl} {us : List Value} (h : Nw w W e size s us) (he : e = 5 ∨ e = 85) : Gt W s.v.ownBlock.toList := fun k hk => by
  obtain ⟨cur, hc⟩ := own_typ h.own (k := k) (by simpa using hk)
  exact ⟨cur, e, he, hc⟩
theorem Gt.not {W : World} {G : List Nat} (h : Gt W G) {Y : Nat} {cur : Array Value} {t : TypeId} (hY : W.heap[Y]? = some (.cells cur t (0, 0))) (ht : t ≠ 5 ∧ t ≠ 85) : Y ∉ G := fun hm => by
  obtain ⟨cu, t', ht', hh⟩ := h Y hm
  rw [hY] at hh
  simp at hh
  obtain ⟨-, rfl⟩ := hh
  rcases ht' with rfl | rfl
  · exact ht.1 rfl
  · exact ht.2 rfl
theorem Wt.nw' {G : List Nat} {w W W' : World} (h : Wt G W W') (hG : Gt W G) {e size : Nat} {s : Sl} {us : List Value} (hn : Nw w W e size s us) (ap : Apart [] w W') (ht : e ∉ shT) (h5 : e ≠ 5 ∧ e ≠ 85) : Nw w W' e size s us := h.nw hn ap ht (fun k hk => by obtain ⟨cur, hc⟩ := own_typ hn.own hk; exact hG.not hc h5)
theorem LP.keepW {w W W' : World} {K K' G : List Nat} {c : Ct} {es : List E} {ks : List Ck} {rs : List Wr} {cs : List (Int × List S)} {jv jx q lo hi : Nat} (h : LP w W K c es ks rs cs jv jx q lo hi) (t : Wt G W W') (hGt : Gt W G) (hG : ∀ k ∈ G, k < lo ∨ hi ≤ k) (hK : ∀ k ∈ K', k ∈ K ∨ (k < lo ∨ hi ≤ k) ∨ W.heap.size ≤ k) (ap : Apart [] w W') : LP w W' K' c es ks rs cs jv jx q lo hi :=
  { h with ns := t.nw' hGt h.ns ap (by decide) (by decide), nt := t.nw' hGt h.nt ap (by decide) (by decide), p := h.p.keepW t hG hK ap }
theorem LP.rd {w W : World} {K : List Nat} {c : Ct} {es : List E} {ks : List Ck} {rs : List Wr} {cs : List (Int × List S)} {lo hi : Nat} (h : LP w W K c es ks rs cs 0 0 0 lo hi) : RCs W c.s ks cs ∧ RWs W c.t es rs := by
  have hc : CL w W ks cs := ⟨h.kl, fun j hj => ⟨h.kr j hj, (h.p.s j (Nat.zero_le _) hj).1⟩⟩
  have hw : WL w W es rs := ⟨h.el, fun j hj => ⟨h.er j hj, (h.p.v j (Nat.zero_le _) hj).1, (h.p.x j (Nat.zero_le _) hj).1⟩⟩
  have hl := h.lim
  exact ⟨hc.rcs h.ns (fun j hj => ⟨(h.p.fS j hj).1, by have := (h.p.fS j hj).2; omega⟩) (by omega), hw.rws h.nt (fun j hj => ⟨⟨(h.p.f8 j hj).2.1, by have := (h.p.f8 j hj).2.2; omega⟩, (h.p.f8 j hj).1.1, by have := (h.p.f8 j hj).1.2; omega⟩) (by omega)⟩
/-- out of what told answers -/
theorem lp_of {w w0 W : World} {B : List Nat} {K : List Nat} {r : Ending} (h8 : ∀ b ∈ B, b < 256) (a0 : Apart [] w w0) (hK : ∀ k ∈ K, k < w0.heap.size) (h : ToP w0 B r W) : ∃ (c : Ct) (ks : List Ck) (es : List E), r = .returned (.tuple #[.agg c.cs, .bool true]) ∧ c.kd = ((headR B ⟨0, false⟩).1.k : Nat) ∧ c.gn = ((headR B ⟨0, false⟩).1.g : Nat) ∧ c.ow = ((headR B ⟨0, false⟩).1.o : Nat) ∧ LP w W K c es ks (rsT B) (csT B) 0 0 0 w0.heap.size W.heap.size := by
  obtain ⟨c, ks, es, e0, e1, e2, e3, ⟨n1, c1⟩, n2, c2, m1, m2⟩ := h.ex
  exact ⟨c, ks, es, e0, e1, e2, e3, n1.from a0, c1.1, fun i hi => (c1.2 i hi).1, n2.from a0, c2.1, fun i hi => (c2.2 i hi).1, pn_of h8 a0 hK c1 c2 m1 m2, (csT_fit h8).2, (rsT_fit h8).2⟩
/-- a wanted content can be read, wherever -/
theorem WC.rd {w W : World} {c : Ct} {cs : List (Int × List S)} {rs : List Wr} (h : WC w W c cs rs) (ap : Apart [] w W) : ∃ ks es, RCs W c.s ks cs ∧ RWs W c.t es rs := by
  obtain ⟨⟨ks, h1⟩, h2⟩ := h
  rcases h2 with ⟨es, h2⟩ | ⟨X, e, r, e1, e2, e3, e4, rfl⟩
  · exact ⟨ks, es, h1.kept0 ap, h2.kept0 ap⟩
  · exact ⟨ks, [e], h1.kept0 ap, by rw [e1]; exact rws_one e2 (e4.kept0 ap)⟩
theorem WC.keepW {w W W' : World} {G : List Nat} {c : Ct} {cs : List (Int × List S)} {rs : List Wr} (h : WC w W c cs rs) (t : Wt G W W') (hG : Gt W G) : WC w W' c cs rs := by
  refine ⟨h.1, h.2.imp id (fun ⟨X, e, r, e1, e2, e3⟩ => ⟨X, e, r, e1, t.block e2 (by decide) (hG.not e2 (by decide)), e3⟩)⟩
end Go.Proofs.Ytllhmidpphlbhaa.ds
