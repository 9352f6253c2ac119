import Derived.Deep.RegionHeld
import Derived.OrdersHeld
import Derived.WalkKit
import Derived.ProofKit
import Derived.Lib.TrailingZeros
import Derived.Test.YtllhmidpphlbhaaChecked
import Derived.OpenShut
import Derived.Deep.QuietTactic
import Derived.BigQuiet
import Derived.BigRegion
import Derived.Laws.CopyOwn
import Derived.Laws.Bits64b
import Derived.Laws.MathBits
import Derived.Laws.ShiftsVarLaws
import Derived.WalkSmall
import Derived.Laws.ResultCell
import Derived.Lib.BitFns
import Derived.Laws.StructEq
import Derived.ArgAppend
import Derived.Deep.RegionLaw
import Derived.Deep.DeepAppendRoom
import Derived.Sort.WalkA
import Derived.Laws.Strings
import Derived.Deep.CutBlock
import Derived.Great.BuildSlice
import Derived.Laws.AppendOwnNone
import Derived.Lib.Overlaps
import Derived.Lib.AppendZerosOnto
import Derived.Laws.NewBlocks
import Derived.Laws.Externs
import Derived.Laws.IdiomCopy
import Derived.Laws.BytesString
import Derived.Deep.CutRange
import Derived.RangeFuncNested
import Derived.RangeFuncBound
import Derived.RangeFuncCalls
import Derived.RangeFuncLeaves
import Derived.Shelf.Abstract
import Derived.Shelf.RegionOpen
import Derived.OwnWalkIn
import Derived.TacticsInMore
import Derived.LoopNIn
import Derived.LoopIn
import GoSem.Claim
import GoSem.ClaimJoined
import GoSem.ClaimMapViews
import Derived.JoinedTies
import Derived.KernelRfl
import Derived.Deep.OwnRows
import Derived.Lib.LaidTab
import Derived.JoinedCond
import Derived.ShutString
import Derived.ChangeOld
import Derived.Below
import Derived.Carry
import Derived.ChangeSlices
import Derived.Deep.Slices
import Derived.Deep.DeepHandedRow
import Derived.RowKit
import Derived.ChangeShapes
import Derived.SizedLaws
import Derived.ChangeMaps5
import Derived.Lib.Walk
import Derived.Lib.SliceRun
import Derived.Lib.AppendStr
import Derived.Lib.ConvBytes
import Derived.Deep.RegionHeld3
import Derived.Deep.MidRow
import Derived.Laws.MakeOwn
import Derived.Lib.SlBytesConst
import Derived.Test.YtllhmidpphlbhaaRows
import Derived.Test.YtllhmidpphlbhaaF22
namespace Go.Proofs.Ytllhmidpphlbhaa.ds
open Go.ChangeShapes Go.WideShapes Go.ChangeAt Go.RowKit Go.Sort
set_option linter.unusedVariables false
set_option linter.unusedSimpArgs false

/-- the types of the shelf's own blocks -/
def shT : List Nat := [73, 28, 9, 48]
/-- only the shelf's own blocks, and those of G, have changed -/
def Wt (G : List Nat) (W W' : World) : Prop := ∃ Z, Apart Z W W' ∧ ∀ k ∈ Z, k ∈ G ∨ ∃ cur t, t ∈ shT ∧ W.heap[k]? = some (.cells cur t (0, 0))
theorem Wt.of {G Z : List Nat} {W W' : World} (a : Apart Z W W') (hz : ∀ k ∈ Z, k ∈ G) : Wt G W W' := ⟨Z, a, fun k hk => .inl (hz k hk)⟩
theorem Wt.tk {G ts : List Nat} {W W' : World} (h : TK ts W W') (ht : ∀ t ∈ ts, t ∈ shT) : Wt G W W' := by
  obtain ⟨Z, a, hz⟩ := h
  exact ⟨Z, a, fun k hk => .inr (by obtain ⟨cur, t, h1, h2⟩ := hz k hk; exact ⟨cur, t, ht t h1, h2⟩)⟩
theorem Wt.trans {G : List Nat} {W W1 W2 : World} (h : Wt G W W1) (k : Wt G W1 W2) : Wt G W W2 := by
  obtain ⟨Z, a, hz⟩ := h
  obtain ⟨Y, b, hy⟩ := k
  refine ⟨Z ++ Y.filter (fun y => y < W.heap.size), (a.mono (fun x hx => List.mem_append_left _ hx)).trans' b (fun y hyy => ?_), fun k hk => ?_⟩
  · by_cases hs : y < W.heap.size
    · left; simp [hyy, hs]
    · right; omega
  · rcases List.mem_append.1 hk with hk | hk
    · exact hz k hk
    · simp at hk
      by_cases hkz : k ∈ Z
      · exact hz k hkz
      · rcases hy k hk.1 with h | ⟨cur, t, ht, hh⟩
        · exact .inl h
        · exact .inr ⟨cur, t, ht, (a.block k hk.2 hkz).symm.trans hh⟩
theorem Wt.mono {G G' : List Nat} {W W' : World} (h : Wt G W W') (hs : ∀ k ∈ G, k ∈ G') : Wt G' W W' := by
  obtain ⟨Z, a, hz⟩ := h
  exact ⟨Z, a, fun k hk => (hz k hk).imp (hs k) id⟩
theorem Wt.size {G : List Nat} {W W' : World} (h : Wt G W W') : W.heap.size ≤ W'.heap.size := by obtain ⟨Z, a, _⟩ := h; exact a.size
theorem Wt.not {G Z : List Nat} {W : World} (hz : ∀ k ∈ Z, k ∈ G ∨ ∃ cur t, t ∈ shT ∧ W.heap[k]? = some (.cells cur t (0, 0))) {Y : Nat} {cur : Array Value} {t : TypeId} (hY : W.heap[Y]? = some (.cells cur t (0, 0))) (ht : t ∉ shT) (hG : Y ∉ G) : Y ∉ Z := fun hm => by
  rcases hz Y hm with h | ⟨cu, t', ht', hh⟩
  · exact hG h
  · rw [hY] at hh
    simp at hh
    exact ht (hh.2 ▸ ht')
theorem Wt.block {G : List Nat} {W W' : World} (h : Wt G W W') {Y : Nat} {cur : Array Value} {t : TypeId} (hY : W.heap[Y]? = some (.cells cur t (0, 0))) (ht : t ∉ shT) (hG : Y ∉ G) : W'.heap[Y]? = some (.cells cur t (0, 0)) := by
  obtain ⟨Z, a, hz⟩ := h
  exact (a.block Y (lt_of_heap hY) (Wt.not hz hY ht hG)).trans hY
theorem Wt.nw {G : List Nat} {w W W' : World} (h : Wt G W W') {e size : Nat} {s : Sl} {us : List Value} (hn : Nw w W e size s us) (ap : Apart [] w W') (ht : e ∉ shT) (hG : ∀ k, s.v.ownBlock = some k → k ∉ G) : Nw w W' e size s us := by
  obtain ⟨Z, a, hz⟩ := h
  refine ⟨own_apart hn.own a (fun k hk hm => ?_), hn.new, ap⟩
  obtain ⟨cur, hc⟩ := own_typ hn.own hk
  exact Wt.not hz hc ht (hG k hk) hm
/-- the shelf's cells -/
def shL (rb rh rs rw : Sl) (m : Nat) : Array Value := #[.slice rb.p rb.n rb.c, .slice rh.p rh.n rh.c, .slice rs.p rs.n rs.c, .slice rw.p rw.n rw.c, .int .i64 (m : Nat)]
/-- a slice that came of a list on the shelf lies in a block of K -/
def InK (K : List Nat) (s : Sl) : Prop := ∀ P o, s.p = some ⟨P, o, none⟩ → P ∈ K
/-- the shelf: lists, and what they must hold -/
structure Shf (w W : World) (H : Nat) (K : List Nat) (bl : List Sl) (bc : List (List Nat)) (sl wl : List Sl) (sc : List (List S)) (rb rh rs rw : Sl) (m : Nat) : Prop where
  ap : Apart [] w W
  hH : w.heap.size ≤ H
  blk : W.heap[H]? = some (.cells (shL rb rh rs rw m) 73 (0, 0))
  nb : Nw w W 28 1 rb (bl.map Sl.v)
  nh : Nw w W 9 1 rh (bc.map fun l => .string (strB l))
  ns : Nw w W 48 1 rs (sl.map Sl.v)
  nw : Nw w W 48 1 rw (wl.map Sl.v)
  dif : ∀ k, rs.v.ownBlock = some k → rw.v.ownBlock ≠ some k
  lb : bc.length = bl.length
  ls : sc.length = sl.length
  lw : wl.length = sl.length
  lim : bl.length ≤ 3 * m ∧ sl.length ≤ 3 * m
  b : ∀ i, i < bl.length → RBs W (gS bl i) (gL bc i) ∧ InK K (gS bl i)
  s : ∀ i, i < sl.length → (L W (gS sl i).p (gS sl i).n (gL sc i) ∧ InK K (gS sl i)) ∧ L W (gS wl i).p (gS wl i).n (gL sc i) ∧ InK K (gS wl i)
  kt : ∀ P ∈ K, ∃ cur t, (t = 5 ∨ t = 85) ∧ W.heap[P]? = some (.cells cur t (0, 0))
theorem L.kept {w w' : World} {p : Option Addr} {N : Nat} {xs : List S} {X : List Nat} (h : L w p N xs) (a : Apart X w w') (hX : ∀ P o, p = some ⟨P, o, none⟩ → P ∉ X) : L w' p N xs := { h with sp := h.sp.kept a hX }
theorem RBs.kept {w w' : World} {s : Sl} {bs : List Nat} {X : List Nat} (h : RBs w s bs) (a : Apart X w w') (hX : ∀ P o, s.p = some ⟨P, o, none⟩ → P ∉ X) : RBs w' s bs := { h with rd := h.rd.kept a hX }
/-- a row of one's own, none of whose blocks is written -/
theorem Nw.off {w W W' : World} {e size : Nat} {s : Sl} {us : List Value} {X : List Nat} (h : Nw w W e size s us) (a : Apart X W W') (ap : Apart [] w W') (hX : ∀ k, s.v.ownBlock = some k → k ∉ X) : Nw w W' e size s us := ⟨own_apart h.own a (fun k hk hm => hX k hk hm), h.new, ap⟩
theorem Shf.kept {w W W' : World} {H : Nat} {K : List Nat} {bl : List Sl} {bc : List (List Nat)} {sl wl : List Sl} {sc : List (List S)} {rb rh rs rw : Sl} {m : Nat} {Z : List Nat} (h : Shf w W H K bl bc sl wl sc rb rh rs rw m) (a : Apart Z W W') (hz : ∀ k ∈ Z, k ∉ K ∧ w.heap.size ≤ k ∧ ∃ cur t, t ∉ shT ∧ W.heap[k]? = some (.cells cur t (0, 0))) : Shf w W' H K bl bc sl wl sc rb rh rs rw m := by
  have ap : Apart [] w W' := h.ap.trans' a (fun y hy => .inr (hz y hy).2.1)
  have nt : ∀ k cur t, W.heap[k]? = some (.cells cur t (0, 0)) → t ∈ shT → k ∉ Z := fun k cur t hk ht hm => by
    obtain ⟨_, _, cu, t', ht', hh⟩ := hz k hm
    rw [hk] at hh
    simp at hh
    exact ht' (hh.2 ▸ ht)
  have row : ∀ {e : Nat} {s : Sl} {us : List Value}, e ∈ shT → Nw w W e 1 s us → Nw w W' e 1 s us := fun he hn => hn.off a ap (fun k hk => by obtain ⟨cur, hc⟩ := own_typ hn.own hk; exact nt k cur _ hc he)
  refine { h with ap := ap, blk := (a.block H (lt_of_heap h.blk) (nt H _ 73 h.blk (by decide))).trans h.blk, nb := row (by decide) h.nb, nh := row (by decide) h.nh, ns := row (by decide) h.ns, nw := row (by decide) h.nw, b := fun i hi => ⟨(h.b i hi).1.kept a (fun P o hP hm => (hz P hm).1 ((h.b i hi).2 P o hP)), (h.b i hi).2⟩, s := fun i hi => ⟨⟨(h.s i hi).1.1.kept a (fun P o hP hm => (hz P hm).1 ((h.s i hi).1.2 P o hP)), (h.s i hi).1.2⟩, (h.s i hi).2.1.kept a (fun P o hP hm => (hz P hm).1 ((h.s i hi).2.2 P o hP)), (h.s i hi).2.2⟩, kt := fun P hP => ?_ }
  obtain ⟨cur, t, ht, hh⟩ := h.kt P hP
  exact ⟨cur, t, ht, (a.block P (lt_of_heap hh) (fun hm => (hz P hm).1 hP)).trans hh⟩
theorem Shf.kept0 {w W W' : World} {H : Nat} {K : List Nat} {bl : List Sl} {bc : List (List Nat)} {sl wl : List Sl} {sc : List (List S)} {rb rh rs rw : Sl} {m : Nat} (h : Shf w W H K bl bc sl wl sc rb rh rs rw m) (a : Apart [] W W') : Shf w W' H K bl bc sl wl sc rb rh rs rw m := h.kept a (by simp)
/-- the shelf's other parts where its own block and a row have changed -/
theorem Shf.ne {w W : World} {H : Nat} {K : List Nat} {bl : List Sl} {bc : List (List Nat)} {sl wl : List Sl} {sc : List (List S)} {rb rh rs rw : Sl} {m : Nat} (h : Shf w W H K bl bc sl wl sc rb rh rs rw m) {e : Nat} {r : Sl} {us : List Value} (he : e ∈ shT) (hr : Nw w W e 1 r us) {k : Nat} (hk : k = H ∨ r.v.ownBlock = some k) : k ∉ K := fun hm => by
  obtain ⟨cur, t, ht, hh⟩ := h.kt k hm
  rcases hk with rfl | hk
  · rw [h.blk] at hh
    simp at hh
    rcases ht with rfl | rfl <;> exact absurd hh.2 (by decide)
  · obtain ⟨cu, hc⟩ := own_typ hr.own hk
    rw [hc] at hh
    simp at hh
    obtain ⟨-, rfl⟩ := hh
    rcases ht with rfl | rfl <;> exact absurd he (by decide)
/-- three more in a row of the shelf's, and the store into its block -/
theorem shRow3 {w W : World} {H : Nat} {cells : Array Value} (hH : w.heap.size ≤ H) (blk : W.heap[H]? = some (.cells cells 73 (0, 0))) {tl : Nat} {r : Sl} {us : List Value} (nr : Nw w W tl 1 r us) (htl : tl ≠ 73) (t ty : TypeId) (i0 : TypeInfo) (z : Value) (bytes : Nat) (hu : Try.prog.underlying t = some (.slice tl)) (hi : Try.prog.info? tl = some i0) (hz : i0.zero = some z) (hsz : i0.size = 1) (hby : i0.bytes = bytes) (hzs : z.cells.size = 1) (hbb : bytes ≤ 24) (j : Nat) (a b c : Value) (one : ∀ u ∈ [a, b, c], u.oneCell' = true) (hn : r.n ≤ 100000) :
    ∃ s1 W1, (Builtin.append_ #[t, t] ty #[.slice r.p r.n r.c, .slice (some ⟨W.heap.size, 0, none⟩) 3 3]).run Try.prog (W.alloc (Obj.cells #[a, b, c] tl)) = .ok (.slice (Sl.p s1) (Sl.n s1) (Sl.c s1)) W1 ∧ W1.heap[H]? = some (.cells cells 73 (0, 0)) ∧ Apart r.v.ownBlock.toList W W1 ∧ s1.n = r.n + 3 ∧ Nw w (W1.setCell ⟨H, j, none⟩ (.slice s1.p s1.n s1.c)) tl 1 s1 (us ++ [a, b, c]) ∧ (W1.setCell ⟨H, j, none⟩ (.slice s1.p s1.n s1.c)).heap[H]? = some (.cells (cells.setIfInBounds j (.slice s1.p s1.n s1.c)) 73 (0, 0)) ∧ (∃ Z, Apart Z W (W1.setCell ⟨H, j, none⟩ (.slice s1.p s1.n s1.c)) ∧ ∀ k ∈ Z, k = H ∨ r.v.ownBlock = some k) ∧ (∀ k, s1.v.ownBlock = some k → r.v.ownBlock = some k ∨ W.heap.size ≤ k) := by
  obtain ⟨s1, W1, hrun, hn1, hs1, ap1, k1, hk1, -, hk2⟩ := run_appM t ty tl i0 z 1 bytes hu hi hz hsz hby hzs (by decide) nr 3 [a, b, c] (by decide) rfl one (by unfold maxLen; omega) (Nat.le_trans (Nat.mul_le_mul_left _ hbb) (by omega))
  have tk : TK [tl] W W1 := TK.own nr ap1 (by simp)
  have hH1 := tk.block blk (by simp; exact fun h => htl h.symm)
  have aX : Apart [H] W1 (W1.setCell ⟨H, j, none⟩ (.slice s1.p s1.n s1.c)) := (Apart.refl [H] W1).setCell (.inl (by simp)) _
  have tkX : TK [73] W1 (W1.setCell ⟨H, j, none⟩ (.slice s1.p s1.n s1.c)) := TK.one aX hH1 (by simp)
  have ap : Apart [] w (W1.setCell ⟨H, j, none⟩ (.slice s1.p s1.n s1.c)) := hn1.ap.trans' aX (fun y hy => by simp at hy; exact .inr (by omega))
  refine ⟨s1, W1, hrun, hH1, ap1, hs1, tkX.nw hn1 ap (by simp; exact htl), heap_setCell_same W1 H j _ 73 _ hH1, ⟨H :: r.v.ownBlock.toList, (ap1.mono (by intro x hx; exact List.mem_cons_of_mem _ hx)).trans (aX.mono (by simp)), fun k hk => ?_⟩, fun k hk => ?_⟩
  · rcases List.mem_cons.1 hk with h | h
    · exact .inl h
    · exact .inr (by simpa using h)
  · have : k = k1 := by unfold Sl.v at hk; rw [hk1] at hk; simp [Value.ownBlock] at hk; exact hk.symm
    subst this
    exact hk2
theorem info9 : (Try.prog.info? 9).map (fun i => (i.zero, i.size, i.bytes)) = some (some (.string ⟨#[]⟩), 1, 16) := by kernel_rfl
theorem gS_3 {l : List Sl} {a b c : Sl} {i : Nat} (h : i < (l ++ [a, b, c]).length) : (i < l.length ∧ gS (l ++ [a, b, c]) i = gS l i) ∨ (i = l.length ∧ gS (l ++ [a, b, c]) i = a) ∨ (i = l.length + 1 ∧ gS (l ++ [a, b, c]) i = b) ∨ (i = l.length + 2 ∧ gS (l ++ [a, b, c]) i = c) := by
  unfold gS
  simp only [List.getD_eq_getElem?_getD]
  rw [List.length_append] at h
  simp at h
  by_cases h1 : i < l.length
  · exact .inl ⟨h1, by rw [List.getElem?_append_left h1]⟩
  · rw [List.getElem?_append_right (by omega)]
    have : i = l.length ∨ i = l.length + 1 ∨ i = l.length + 2 := by omega
    rcases this with rfl | rfl | rfl
    · exact .inr (.inl ⟨rfl, by simp⟩)
    · exact .inr (.inr (.inl ⟨rfl, by simp⟩))
    · exact .inr (.inr (.inr ⟨rfl, by simp⟩))
theorem gL_3 {α : Type} {l : List (List α)} {a b c : List α} : (∀ i, i < l.length → gL (l ++ [a, b, c]) i = gL l i) ∧ gL (l ++ [a, b, c]) l.length = a ∧ gL (l ++ [a, b, c]) (l.length + 1) = b ∧ gL (l ++ [a, b, c]) (l.length + 2) = c := by
  unfold gL
  simp only [List.getD_eq_getElem?_getD]
  refine ⟨fun i hi => by rw [List.getElem?_append_left hi], ?_, ?_, ?_⟩
  · rw [List.getElem?_append_right (by omega)]; simp
  · rw [List.getElem?_append_right (by omega)]; simp
  · rw [List.getElem?_append_right (by omega)]; simp
/-- the mark -/
theorem Shf.mark {w W : World} {H : Nat} {K : List Nat} {bl : List Sl} {bc : List (List Nat)} {sl wl : List Sl} {sc : List (List S)} {rb rh rs rw : Sl} {m : Nat} (h : Shf w W H K bl bc sl wl sc rb rh rs rw m) : Shf w (W.setCell ⟨H, 4, none⟩ (.int .i64 ((m + 1 : Nat) : Int))) H K bl bc sl wl sc rb rh rs rw (m + 1) ∧ Wt [] W (W.setCell ⟨H, 4, none⟩ (.int .i64 ((m + 1 : Nat) : Int))) := by
  have aX : Apart [H] W (W.setCell ⟨H, 4, none⟩ (.int .i64 ((m + 1 : Nat) : Int))) := (Apart.refl [H] W).setCell (.inl (by simp)) _
  have tkX : TK [73] W (W.setCell ⟨H, 4, none⟩ (.int .i64 ((m + 1 : Nat) : Int))) := TK.one aX h.blk (by simp)
  have ap : Apart [] w (W.setCell ⟨H, 4, none⟩ (.int .i64 ((m + 1 : Nat) : Int))) := h.ap.trans' aX (fun y hy => by simp at hy; exact .inr (by have := h.hH; omega))
  have hHK : H ∉ K := h.ne (by decide) h.nb (.inl rfl)
  have nm : ∀ P, P ∈ K → P ∉ [H] := fun P hP hm => by simp at hm; exact hHK (hm ▸ hP)
  refine ⟨{ h with ap := ap, blk := ?_, nb := tkX.nw h.nb ap (by decide), nh := tkX.nw h.nh ap (by decide), ns := tkX.nw h.ns ap (by decide), nw := tkX.nw h.nw ap (by decide), lim := by have := h.lim; omega, b := fun i hi => ⟨(h.b i hi).1.kept aX (fun P o hP => nm P ((h.b i hi).2 P o hP)), (h.b i hi).2⟩, s := fun i hi => ⟨⟨(h.s i hi).1.1.kept aX (fun P o hP => nm P ((h.s i hi).1.2 P o hP)), (h.s i hi).1.2⟩, (h.s i hi).2.1.kept aX (fun P o hP => nm P ((h.s i hi).2.2 P o hP)), (h.s i hi).2.2⟩, kt := fun P hP => ?_ }, Wt.tk tkX (by decide)⟩
  · have := heap_setCell_same W H 4 _ 73 (.int .i64 ((m + 1 : Nat) : Int)) h.blk
    rw [this]
    rfl
  · obtain ⟨cur, t, ht, hh⟩ := h.kt P hP
    exact ⟨cur, t, ht, (aX.block P (lt_of_heap hh) (nm P hP)).trans hh⟩
end Go.Proofs.Ytllhmidpphlbhaa.ds
namespace Go.Proofs.Ytllhmidpphlbhaa.ds
open Go.ChangeShapes Go.WideShapes Go.ChangeAt Go.RowKit Go.Sort
set_option linter.unusedVariables false
set_option linter.unusedSimpArgs false

/-- a list of bytes, once appended to, oftener appended to: all three on the shelf -/
theorem Shf.pushB {w W : World} {H : Nat} {K : List Nat} {bl : List Sl} {bc : List (List Nat)} {sl wl : List Sl} {sc : List (List S)} {rb rh rs rw : Sl} {m : Nat} (h : Shf w W H K bl bc sl wl sc rb rh rs rw m) (hm : m ≤ 10000) (hlim : bl.length + 3 ≤ 3 * m) (b g q : Sl) (ub ug uq : List Nat) (hb : RBs W b ub) (hg : RBs W g ug) (hq : RBs W q uq) (K' : List Nat) (hK : ∀ k ∈ K, k ∈ K') (kb : InK K' b) (kg : InK K' g) (kq : InK K' q) (kt : ∀ P ∈ K', ∃ cur t, (t = 5 ∨ t = 85) ∧ W.heap[P]? = some (.cells cur t (0, 0))) :
    ∃ s1 W1, (Builtin.append_ #[69, 69] 69 #[.slice rb.p rb.n rb.c, .slice (some ⟨W.heap.size, 0, none⟩) 3 3]).run Try.prog (W.alloc (Obj.cells #[.slice b.p b.n b.c, .slice g.p g.n g.c, .slice q.p q.n q.c] 28)) = .ok (.slice (Sl.p s1) (Sl.n s1) (Sl.c s1)) W1 ∧ W1.heap[H]? = some (.cells (shL rb rh rs rw m) 73 (0, 0)) ∧ ∃ W2, W2 = W1.setCell ⟨H, 0, none⟩ (.slice s1.p s1.n s1.c) ∧ W2.heap[H]? = some (.cells (shL s1 rh rs rw m) 73 (0, 0)) ∧ RBs W2 b ub ∧ RBs W2 g ug ∧ RBs W2 q uq ∧ ∃ s2 W3, (Builtin.append_ #[70, 70] 70 #[.slice rh.p rh.n rh.c, .slice (some ⟨W2.drew.heap.size, 0, none⟩) 3 3]).run Try.prog (W2.drew.alloc (Obj.cells #[.string (strB ub), .string (strB ug), .string (strB uq)] 9)) = .ok (.slice (Sl.p s2) (Sl.n s2) (Sl.c s2)) W3 ∧ W3.heap[H]? = some (.cells (shL s1 rh rs rw m) 73 (0, 0)) ∧ (RBs W3 b ub ∧ RBs W3 g ug ∧ RBs W3 q uq) ∧ Shf w (W3.setCell ⟨H, 1, none⟩ (.slice s2.p s2.n s2.c)) H K' (bl ++ [b, g, q]) (bc ++ [ub, ug, uq]) sl wl sc s1 s2 rs rw m ∧ Wt [] W (W3.setCell ⟨H, 1, none⟩ (.slice s2.p s2.n s2.c)) := by
  obtain ⟨i0, hi, hz0, hz1, hz2⟩ := info_parts infoBs
  obtain ⟨i9, hi9, hz90, hz91, hz92⟩ := info_parts info9
  have hrb : rb.n = bl.length := by have := h.nb.own.1; rw [List.length_map] at this; omega
  have hrh : rh.n = bl.length := by have := h.nh.own.1; rw [List.length_map, h.lb] at this; omega
  -- K' is none of the shelf's own
  have nK : ∀ (X : World) k cur t, X.heap[k]? = some (.cells cur t (0, 0)) → t ∈ shT → (∀ P ∈ K', ∃ cur t, (t = 5 ∨ t = 85) ∧ X.heap[P]? = some (.cells cur t (0, 0))) → k ∉ K' := fun X k cur t hk ht hkt hm => by
    obtain ⟨cu, t', ht', hh⟩ := hkt k hm
    rw [hk] at hh
    simp at hh
    obtain ⟨-, rfl⟩ := hh
    rcases ht' with rfl | rfl <;> exact absurd ht (by decide)
  obtain ⟨s1, W1, hrun1, hH1, -, hn1, nb1, blk2, ⟨Z1, aZ1, hZ1⟩, own1⟩ := shRow3 h.hH h.blk h.nb (by decide) 69 69 i0 _ 24 Try.underlying69 hi hz0 hz1 hz2 rfl (by decide) 0 (.slice b.p b.n b.c) (.slice g.p g.n g.c) (.slice q.p q.n q.c) (by intro u hu; simp at hu; rcases hu with rfl | rfl | rfl <;> rfl) (by omega)
  obtain ⟨W2, hW2⟩ : ∃ W2, W2 = W1.setCell ⟨H, 0, none⟩ (.slice s1.p s1.n s1.c) := ⟨_, rfl⟩
  rw [← hW2] at nb1 blk2 aZ1
  have nZ1 : ∀ k ∈ Z1, k ∉ K' := fun k hk => by
    rcases hZ1 k hk with rfl | hk
    · exact nK W _ _ _ h.blk (by decide) kt
    · obtain ⟨cur, hc⟩ := own_typ h.nb.own hk
      exact nK W _ _ _ hc (by decide) kt
  have off : ∀ {e : Nat} {s : Sl} {us : List Value}, e ∈ shT → e ≠ 73 → e ≠ 28 → Nw w W e 1 s us → Nw w W2 e 1 s us := fun he h73 h28 hn => hn.off aZ1 nb1.ap (fun k hk hm => by
    obtain ⟨cur, hc⟩ := own_typ hn.own hk
    rcases hZ1 k hm with rfl | hm
    · rw [h.blk] at hc; simp at hc; exact h73 hc.2.symm
    · obtain ⟨cu, hc2⟩ := own_typ h.nb.own hm
      rw [hc2] at hc; simp at hc; exact h28 hc.2.symm)
  have nh2 := off (by decide) (by decide) (by decide) h.nh
  have ns2 := off (by decide) (by decide) (by decide) h.ns
  have nw2 := off (by decide) (by decide) (by decide) h.nw
  have hb2 := hb.kept aZ1 (fun P o hP hm => nZ1 P hm (kb P o hP))
  have hg2 := hg.kept aZ1 (fun P o hP hm => nZ1 P hm (kg P o hP))
  have hq2 := hq.kept aZ1 (fun P o hP hm => nZ1 P hm (kq P o hP))
  have hbs2 : ∀ i, i < bl.length → RBs W2 (gS bl i) (gL bc i) := fun i hi => (h.b i hi).1.kept aZ1 (fun P o hP hm => nZ1 P hm (hK P ((h.b i hi).2 P o hP)))
  have hss2 : ∀ i, i < sl.length → L W2 (gS sl i).p (gS sl i).n (gL sc i) ∧ L W2 (gS wl i).p (gS wl i).n (gL sc i) := fun i hi => ⟨(h.s i hi).1.1.kept aZ1 (fun P o hP hm => nZ1 P hm (hK P ((h.s i hi).1.2 P o hP))), (h.s i hi).2.1.kept aZ1 (fun P o hP hm => nZ1 P hm (hK P ((h.s i hi).2.2 P o hP)))⟩
  have kt2 : ∀ P ∈ K', ∃ cur t, (t = 5 ∨ t = 85) ∧ W2.heap[P]? = some (.cells cur t (0, 0)) := fun P hP => by
    obtain ⟨cur, t, ht, hh⟩ := kt P hP
    exact ⟨cur, t, ht, (aZ1.block P (lt_of_heap hh) (fun hm => nZ1 P hm hP)).trans hh⟩
  have blk2' : W2.heap[H]? = some (.cells (shL s1 rh rs rw m) 73 (0, 0)) := by rw [blk2]; rfl
  have ad : Apart [] W2 W2.drew := (Apart.refl [] W2).drew
  obtain ⟨s2, W3, hrun2, hH3, aW3, hn3, nh3, blk4, ⟨Z3, aZ3, hZ3⟩, own3⟩ := shRow3 h.hH (keep0 ad blk2') (nh2.kept ad) (by decide) 70 70 i9 _ 16 Try.underlying70 hi9 hz90 hz91 hz92 rfl (by decide) 1 (.string (strB ub)) (.string (strB ug)) (.string (strB uq)) (by intro u hu; simp at hu; rcases hu with rfl | rfl | rfl <;> rfl) (by omega)
  obtain ⟨W4, hW4⟩ : ∃ W4, W4 = W3.setCell ⟨H, 1, none⟩ (.slice s2.p s2.n s2.c) := ⟨_, rfl⟩
  rw [← hW4] at nh3 blk4 aZ3
  have aZ4 : Apart Z3 W2 W4 := (ad.mono (by simp)).trans aZ3
  have nZ3 : ∀ k ∈ Z3, k ∉ K' := fun k hk => by
    rcases hZ3 k hk with rfl | hk
    · exact nK W2 _ _ _ blk2' (by decide) kt2
    · obtain ⟨cur, hc⟩ := own_typ nh2.own hk
      exact nK W2 _ _ _ hc (by decide) kt2
  have off4 : ∀ {e : Nat} {s : Sl} {us : List Value}, e ≠ 73 → e ≠ 9 → Nw w W2 e 1 s us → Nw w W4 e 1 s us := fun h73 h9 hn => hn.off aZ4 nh3.ap (fun k hk hm => by
    obtain ⟨cur, hc⟩ := own_typ hn.own hk
    rcases hZ3 k hm with rfl | hm
    · rw [blk2'] at hc; simp at hc; exact h73 hc.2.symm
    · obtain ⟨cu, hc2⟩ := own_typ nh2.own hm
      rw [hc2] at hc; simp at hc; exact h9 hc.2.symm)
  obtain ⟨lb1, lb2, lb3, lb4⟩ := gL_3 (l := bc) (a := ub) (b := ug) (c := uq)
  rw [h.lb] at lb1 lb2 lb3 lb4
  refine ⟨s1, W1, hrun1, hH1, W2, hW2, blk2', hb2, hg2, hq2, s2, W3, hrun2, hH3, ?_, ?_, ?_⟩
  · have nn : ∀ k ∈ rh.v.ownBlock.toList, k ∉ K' := fun k hk => by
      obtain ⟨cur, hc⟩ := own_typ nh2.own (k := k) (by simpa using hk)
      exact nK W2 _ _ _ hc (by decide) kt2
    have a4 : Apart rh.v.ownBlock.toList W2 W3 := (ad.mono (by simp)).trans aW3
    exact ⟨hb2.kept a4 (fun P o hP hm => nn P hm (kb P o hP)), hg2.kept a4 (fun P o hP hm => nn P hm (kg P o hP)), hq2.kept a4 (fun P o hP hm => nn P hm (kq P o hP))⟩
  · rw [← hW4]
    refine ⟨nh3.ap, h.hH, by rw [blk4]; rfl, ?_, ?_, off4 (by decide) (by decide) ns2, off4 (by decide) (by decide) nw2, h.dif, by simp [h.lb], h.ls, h.lw, ⟨by simp; omega, h.lim.2⟩, fun i hi => ?_, fun i hi => ?_, fun P hP => ?_⟩
    · have := off4 (by decide) (by decide) nb1
      rw [List.map_append]; exact this
    · rw [List.map_append]; exact nh3
    · rcases gS_3 hi with ⟨e1, e2⟩ | ⟨e1, e2⟩ | ⟨e1, e2⟩ | ⟨e1, e2⟩
      · rw [e2, lb1 i e1]
        have kk : InK K' (gS bl i) := fun P o hP => hK P ((h.b i e1).2 P o hP)
        exact ⟨(hbs2 i e1).kept aZ4 (fun P o hP hm => nZ3 P hm (kk P o hP)), kk⟩
      · rw [e2, e1, lb2]
        exact ⟨hb2.kept aZ4 (fun P o hP hm => nZ3 P hm (kb P o hP)), kb⟩
      · rw [e2, e1, lb3]
        exact ⟨hg2.kept aZ4 (fun P o hP hm => nZ3 P hm (kg P o hP)), kg⟩
      · rw [e2, e1, lb4]
        exact ⟨hq2.kept aZ4 (fun P o hP hm => nZ3 P hm (kq P o hP)), kq⟩
    · have k1 : InK K' (gS sl i) := fun P o hP => hK P ((h.s i hi).1.2 P o hP)
      have k2 : InK K' (gS wl i) := fun P o hP => hK P ((h.s i hi).2.2 P o hP)
      exact ⟨⟨(hss2 i hi).1.kept aZ4 (fun P o hP hm => nZ3 P hm (k1 P o hP)), k1⟩, (hss2 i hi).2.kept aZ4 (fun P o hP hm => nZ3 P hm (k2 P o hP)), k2⟩
    · obtain ⟨cur, t, ht, hh⟩ := kt2 P hP
      exact ⟨cur, t, ht, (aZ4.block P (lt_of_heap hh) (fun hm => nZ3 P hm hP)).trans hh⟩
  · rw [← hW4]
    refine (show Wt [] W W2 from ⟨Z1, aZ1, fun k hk => .inr ?_⟩).trans ⟨Z3, aZ4, fun k hk => .inr ?_⟩
    · rcases hZ1 k hk with rfl | hk
      · exact ⟨_, 73, by decide, h.blk⟩
      · obtain ⟨cur, hc⟩ := own_typ h.nb.own hk
        exact ⟨cur, 28, by decide, hc⟩
    · rcases hZ3 k hk with rfl | hk
      · exact ⟨_, 73, by decide, blk2'⟩
      · obtain ⟨cur, hc⟩ := own_typ nh2.own hk
        exact ⟨cur, 9, by decide, hc⟩
end Go.Proofs.Ytllhmidpphlbhaa.ds
