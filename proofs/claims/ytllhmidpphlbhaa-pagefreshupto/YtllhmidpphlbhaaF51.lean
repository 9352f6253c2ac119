import Derived.Deep.RegionHeld
import Derived.OrdersHeld
import Derived.WalkKit
import Derived.ProofKit
import Derived.Lib.TrailingZeros
import Derived.Test.YtllhmidpphlbhaaChecked
import Derived.OpenShut
import Derived.Deep.QuietTactic
import Derived.BigQuiet
import Derived.BigRegion
import Derived.Laws.CopyOwn
import Derived.Laws.Bits64b
import Derived.Laws.MathBits
import Derived.Laws.ShiftsVarLaws
import Derived.WalkSmall
import Derived.Laws.ResultCell
import Derived.Lib.BitFns
import Derived.Laws.StructEq
import Derived.ArgAppend
import Derived.Deep.RegionLaw
import Derived.Deep.DeepAppendRoom
import Derived.Sort.WalkA
import Derived.Laws.Strings
import Derived.Deep.CutBlock
import Derived.Great.BuildSlice
import Derived.Laws.AppendOwnNone
import Derived.Lib.Overlaps
import Derived.Lib.AppendZerosOnto
import Derived.Laws.NewBlocks
import Derived.Laws.Externs
import Derived.Laws.IdiomCopy
import Derived.Laws.BytesString
import Derived.Deep.CutRange
import Derived.RangeFuncNested
import Derived.RangeFuncBound
import Derived.RangeFuncCalls
import Derived.RangeFuncLeaves
import Derived.Shelf.Abstract
import Derived.Shelf.RegionOpen
import Derived.OwnWalkIn
import Derived.TacticsInMore
import Derived.LoopNIn
import Derived.LoopIn
import GoSem.Claim
import GoSem.ClaimJoined
import GoSem.ClaimMapViews
import Derived.JoinedTies
import Derived.KernelRfl
import Derived.Deep.OwnRows
import Derived.Lib.LaidTab
import Derived.JoinedCond
import Derived.ShutString
import Derived.ChangeOld
import Derived.Below
import Derived.Carry
import Derived.ChangeSlices
import Derived.Deep.Slices
import Derived.Deep.DeepHandedRow
import Derived.RowKit
import Derived.ChangeShapes
import Derived.SizedLaws
import Derived.ChangeMaps5
import Derived.Lib.Walk
import Derived.Lib.SliceRun
import Derived.Lib.AppendStr
import Derived.Lib.ConvBytes
import Derived.Deep.RegionHeld3
import Derived.Deep.MidRow
import Derived.Laws.MakeOwn
import Derived.Lib.SlBytesConst
import Derived.Test.YtllhmidpphlbhaaRows
import Derived.Test.YtllhmidpphlbhaaF50
namespace Go.Proofs.Ytllhmidpphlbhaa.ds
open Go.ChangeShapes Go.WideShapes Go.ChangeAt Go.RowKit Go.Sort
set_option linter.unusedVariables false
set_option linter.unusedSimpArgs false

/-- between W and W' lists that lie between lo and hi were put on the shelf: nothing else has changed -/
structure Mv (w W : World) (K : List Nat) (W' : World) (K' : List Nat) (lo hi : Nat) : Prop where
  z : ∃ Z, Apart Z W W' ∧ ∀ k ∈ Z, ∃ cur t, W.heap[k]? = some (.cells cur t (0, 0)) ∧ (t ∈ shT ∨ ((t = 5 ∨ t = 85) ∧ lo ≤ k ∧ k < hi))
  k : ∀ k ∈ K', k ∈ K ∨ (lo ≤ k ∧ k < hi) ∨ W.heap.size ≤ k
  ap : Apart [] w W'
theorem Mv.refl {w W : World} {K : List Nat} {lo hi : Nat} (ap : Apart [] w W) : Mv w W K W K lo hi := ⟨⟨[], Apart.refl _ _, by simp⟩, fun k hk => .inl hk, ap⟩
theorem Mv.of0 {w W W' : World} {K : List Nat} {lo hi : Nat} (a : Apart [] W W') (ap : Apart [] w W') : Mv w W K W' K lo hi := ⟨⟨[], a, by simp⟩, fun k hk => .inl hk, ap⟩
theorem Mv.size {w W W' : World} {K K' : List Nat} {lo hi : Nat} (h : Mv w W K W' K' lo hi) : W.heap.size ≤ W'.heap.size := by obtain ⟨Z, a, _⟩ := h.z; exact a.size
theorem Mv.trans {w W W1 W2 : World} {K K1 K2 : List Nat} {lo hi : Nat} (h : Mv w W K W1 K1 lo hi) (g : Mv w W1 K1 W2 K2 lo hi) : Mv w W K W2 K2 lo hi := by
  have hs := h.size
  obtain ⟨Z, a, hz⟩ := h.z
  obtain ⟨Y, b, hy⟩ := g.z
  refine ⟨⟨Z ++ Y.filter (fun y => y < W.heap.size), (a.mono (fun x hx => List.mem_append_left _ hx)).trans' b (fun y hyy => ?_), fun k hk => ?_⟩, fun k hk => ?_, g.ap⟩
  · by_cases hs : y < W.heap.size
    · left; simp [hyy, hs]
    · right; omega
  · rcases List.mem_append.1 hk with hk | hk
    · exact hz k hk
    · simp at hk
      by_cases hkz : k ∈ Z
      · exact hz k hkz
      · obtain ⟨cur, t, hh, ht⟩ := hy k hk.1
        exact ⟨cur, t, (a.block k hk.2 hkz).symm.trans hh, ht⟩
  · rcases g.k k hk with h1 | h1 | h1
    · exact h.k k h1
    · exact .inr (.inl h1)
    · exact .inr (.inr (by omega))
open Classical in
theorem Mv.wt {w W W' : World} {K K' : List Nat} {lo hi : Nat} (h : Mv w W K W' K' lo hi) : ∃ G, Wt G W W' ∧ Gt W G ∧ ∀ k ∈ G, lo ≤ k ∧ k < hi := by
  obtain ⟨Z, a, hz⟩ := h.z
  refine ⟨Z.filter (fun k => decide ((∃ cur t, (t = 5 ∨ t = 85) ∧ W.heap[k]? = some (.cells cur t (0, 0))) ∧ lo ≤ k ∧ k < hi)), ⟨Z, a, fun k hk => ?_⟩, fun k hk => ?_, fun k hk => ?_⟩
  · obtain ⟨cur, t, hh, ht | ⟨ht, h1⟩⟩ := hz k hk
    · exact .inr ⟨cur, t, ht, hh⟩
    · exact .inl (List.mem_filter.2 ⟨hk, decide_eq_true ⟨⟨cur, t, ht, hh⟩, h1⟩⟩)
  · exact (of_decide_eq_true (List.mem_filter.1 hk).2).1
  · exact (of_decide_eq_true (List.mem_filter.1 hk).2).2
theorem Mv.lp {w W W' : World} {K K' : List Nat} {a b : Nat} (h : Mv w W K W' K' a b) {c : Ct} {es : List E} {ks : List Ck} {rs : List Wr} {cs : List (Int × List S)} {jv jx q lo hi : Nat} (l : LP w W K c es ks rs cs jv jx q lo hi) (hd : hi ≤ a ∨ b ≤ lo) : LP w W' K' c es ks rs cs jv jx q lo hi := by
  obtain ⟨G, t, hg, hr⟩ := h.wt
  exact l.keepW t hg (fun k hk => by have := hr k hk; omega) (fun k hk => (h.k k hk).imp id (fun h1 => h1.imp (fun h1 => by omega) id)) h.ap
theorem Mv.wc {w W W' wB : World} {K K' : List Nat} {a b : Nat} (h : Mv w W K W' K' a b) {c : Ct} {cs : List (Int × List S)} {rs : List Wr} (l : WC wB W c cs rs) : WC wB W' c cs rs := by
  obtain ⟨G, t, hg, hr⟩ := h.wt
  exact l.keepW t hg
/-- a row of another kind -/
theorem Mv.nw {w W W' : World} {K K' : List Nat} {a b : Nat} (h : Mv w W K W' K' a b) {e size : Nat} {s : Sl} {us : List Value} (hn : Nw w W e size s us) (ht : e ∉ shT) (h5 : e ≠ 5 ∧ e ≠ 85) : Nw w W' e size s us := by
  obtain ⟨G, t, hg, hr⟩ := h.wt
  exact t.nw' hg hn h.ap ht h5
/-- bytes that lie elsewhere -/
theorem Mv.bf {w W W' : World} {K K' : List Nat} {a b : Nat} (h : Mv w W K W' K' a b) {s : Sl} {us : List Nat} (hn : Bf w W s us) (hd : ∀ k, s.v.ownBlock = some k → k < a ∨ b ≤ k) : Bf w W' s us := by
  obtain ⟨G, t, hg, hr⟩ := h.wt
  exact ⟨t.nw hn.nw h.ap (by decide) (fun k hk hm => by have := hr k hm; have := hd k hk; omega), hn.len⟩
theorem Mv.block {w W W' : World} {K K' : List Nat} {a b : Nat} (h : Mv w W K W' K' a b) {Y : Nat} {cur : Array Value} {t : TypeId} (hY : W.heap[Y]? = some (.cells cur t (0, 0))) (ht : t ∉ shT) (h5 : t ≠ 5 ∧ t ≠ 85) : W'.heap[Y]? = some (.cells cur t (0, 0)) := by
  obtain ⟨G, x, hg, hr⟩ := h.wt
  exact x.block hY ht (hg.not hY h5)
/-- what keep and keepSet leave, as a step -/
theorem KeP.mv {w W W' : World} {H m : Nat} {K : List Nat} {b : Sl} {e : Ending} (h : KeP w W H K m b e W') {el size lo hi : Nat} {us : List Value} (hn : Nw w W el size b us) (he : el = 5 ∨ el = 85) (hr : ∀ k, b.v.ownBlock = some k → lo ≤ k ∧ k < hi) : ∃ K', Sh w W' H K' (m + 1) ∧ Mv w W K W' K' lo hi ∧ ∀ k ∈ K', k ∈ K ∨ b.v.ownBlock = some k ∨ W.heap.size ≤ k := by
  obtain ⟨K', hs, hk⟩ := h.s
  obtain ⟨Z, a, hz⟩ := h.t
  have ap : Apart [] w W' := by obtain ⟨_, _, _, _, _, _, _, _, _, q⟩ := hs; exact q.ap
  refine ⟨K', hs, ⟨⟨Z, a, fun k hk => ?_⟩, fun k hm => ?_, ap⟩, hk⟩
  · rcases hz k hk with h1 | ⟨cur, t, h1, h2⟩
    · have h1 : b.v.ownBlock = some k := by simpa using h1
      obtain ⟨cur, hc⟩ := own_typ hn.own h1
      exact ⟨cur, el, hc, .inr ⟨he, hr k h1⟩⟩
    · exact ⟨cur, t, h2, .inl h1⟩
  · rcases hk k hm with h1 | h1 | h1
    · exact .inl h1
    · exact .inr (.inl (hr k h1))
    · exact .inr (.inr h1)
theorem LP.withP {w W W' : World} {K K' : List Nat} {c : Ct} {es : List E} {ks : List Ck} {rs : List Wr} {cs : List (Int × List S)} {jv jx q jv' jx' q' lo hi a b : Nat} (h : LP w W K c es ks rs cs jv jx q lo hi) (v : Mv w W K W' K' a b) (p : Pn w W' K' es rs ks cs jv' jx' q' lo hi) : LP w W' K' c es ks rs cs jv' jx' q' lo hi :=
  { h with ns := v.nw h.ns (by decide) (by decide), nt := v.nw h.nt (by decide) (by decide), p := p }
/-- the j-th value is put on the shelf -/
theorem keepV_ok {w W : World} {H m j q lo hi : Nat} {K : List Nat} {c : Ct} {es : List E} {ks : List Ck} {rs : List Wr} {cs : List (Int × List S)} (hsh : Sh w W H K m) (h : LP w W K c es ks rs cs j j q lo hi) (hj : j < rs.length) (hm : m ≤ 5000) : Calls Try.prog 35 #[.pointer (some ⟨H, 0, none⟩), .slice (gE es j).v.p (gE es j).v.n (gE es j).v.c] W fun e W' => e = .returned (.tuple #[]) ∧ ∃ K', Sh w W' H K' (m + 1) ∧ Mv w W K W' K' lo hi ∧ LP w W' K' c es ks rs cs (j + 1) j q lo hi := by
  obtain ⟨a, b⟩ := h.p.v j (Nat.le_refl _) hj
  refine (keep_ok hsh a (h.p.f8 j hj).1.1 (h.p.f8 j hj).1.2 b hm).mono (fun e W' r => ⟨r.e, ?_⟩)
  obtain ⟨K', h1, h2, h3⟩ := r.mv a.nw (.inl rfl) (fun k hk => h.p.rv j hj k (.inl hk))
  exact ⟨K', h1, h2, h.withP h2 (h.p.stepV hj r.t h3 h2.ap)⟩
theorem keepX_ok {w W : World} {H m j q lo hi : Nat} {K : List Nat} {c : Ct} {es : List E} {ks : List Ck} {rs : List Wr} {cs : List (Int × List S)} (hsh : Sh w W H K m) (h : LP w W K c es ks rs cs (j + 1) j q lo hi) (hj : j < rs.length) (hm : m ≤ 5000) : Calls Try.prog 36 #[.pointer (some ⟨H, 0, none⟩), .slice (gE es j).x.p (gE es j).x.n (gE es j).x.c] W fun e W' => e = .returned (.tuple #[]) ∧ ∃ K', Sh w W' H K' (m + 1) ∧ Mv w W K W' K' lo hi ∧ LP w W' K' c es ks rs cs (j + 1) (j + 1) q lo hi := by
  obtain ⟨a, b⟩ := h.p.x j (Nat.le_refl _) hj
  refine (keepSet_ok hsh a (h.p.f8 j hj).2.1 (h.p.f8 j hj).2.2 b hm).mono (fun e W' r => ⟨r.e, ?_⟩)
  obtain ⟨K', h1, h2, h3⟩ := r.mv a (.inr rfl) (fun k hk => h.p.rv j hj k (.inr hk))
  exact ⟨K', h1, h2, h.withP h2 (h.p.stepX hj r.t h3 h2.ap)⟩
theorem keepS_ok {w W : World} {H m j jv jx lo hi : Nat} {K : List Nat} {c : Ct} {es : List E} {ks : List Ck} {rs : List Wr} {cs : List (Int × List S)} (hsh : Sh w W H K m) (h : LP w W K c es ks rs cs jv jx j lo hi) (hj : j < cs.length) (hm : m ≤ 5000) : Calls Try.prog 36 #[.pointer (some ⟨H, 0, none⟩), .slice (gK ks j).s.p (gK ks j).s.n (gK ks j).s.c] W fun e W' => e = .returned (.tuple #[]) ∧ ∃ K', Sh w W' H K' (m + 1) ∧ Mv w W K W' K' lo hi ∧ LP w W' K' c es ks rs cs jv jx (j + 1) lo hi := by
  obtain ⟨a, b⟩ := h.p.s j (Nat.le_refl _) hj
  refine (keepSet_ok hsh a (h.p.fS j hj).1 (h.p.fS j hj).2 b hm).mono (fun e W' r => ⟨r.e, ?_⟩)
  obtain ⟨K', h1, h2, h3⟩ := r.mv a (.inr rfl) (fun k hk => h.p.rs' j hj k hk)
  exact ⟨K', h1, h2, h.withP h2 (h.p.stepS hj r.t h3 h2.ap)⟩
end Go.Proofs.Ytllhmidpphlbhaa.ds
namespace Go.Proofs.Ytllhmidpphlbhaa.ds
open Go.ChangeShapes Go.WideShapes Go.ChangeAt Go.RowKit Go.Sort
set_option linter.unusedVariables false
set_option linter.unusedSimpArgs false

/-- a told content, what it holds, and where it lies -/
structure Gh where
  c : Ct
  es : List E
  ks : List Ck
  rs : List Wr
  cs : List (Int × List S)
  lo : Nat
  hi : Nat
def Gh.z : Gh := ⟨Ct.z, [], [], [], [], 0, 0⟩
def gG (l : List Gh) (i : Nat) : Gh := l.getD i Gh.z
def Gh.LP (g : Gh) (w W : World) (K : List Nat) (jv jx q : Nat) : Prop := ds.LP w W K g.c g.es g.ks g.rs g.cs jv jx q g.lo g.hi
theorem gG_mem {l : List Gh} {i : Nat} (h : i < l.length) : gG l i ∈ l := by unfold gG; rw [List.getD_eq_getElem?_getD, List.getElem?_eq_getElem h]; exact List.getElem_mem h
theorem gT_map {l : List Gh} {i : Nat} (h : i < l.length) : gT (l.map Gh.c) i = (gG l i).c := by unfold gT gG; rw [List.getD_eq_getElem?_getD, List.getD_eq_getElem?_getD, List.getElem?_map, List.getElem?_eq_getElem h]; rfl
theorem gG_drop {l : List Gh} {i : Nat} (h : i < l.length) : l.drop i = gG l i :: l.drop (i + 1) := by
  rw [List.drop_eq_getElem_cons h]; unfold gG; rw [List.getD_eq_getElem?_getD, List.getElem?_eq_getElem h]; rfl
theorem gG_l {l m : List Gh} {i : Nat} (h : i < l.length) : gG (l ++ m) i = gG l i := by unfold gG; rw [List.getD_eq_getElem?_getD, List.getD_eq_getElem?_getD, List.getElem?_append_left h]
theorem gG_r0 {l : List Gh} {a b : Gh} : gG (l ++ [a, b]) l.length = a := by unfold gG; rw [List.getD_eq_getElem?_getD, List.getElem?_append_right (Nat.le_refl _), Nat.sub_self]; rfl
theorem gG_r1 {l : List Gh} {a b : Gh} : gG (l ++ [a, b]) (l.length + 1) = b := by unfold gG; rw [List.getD_eq_getElem?_getD, List.getElem?_append_right (by omega)]; simp
/-- contents that are still the caller's, one behind the other in memory -/
structure Lf (w W : World) (K : List Nat) (T : Nat) (gl : List Gh) : Prop where
  l : ∀ g ∈ gl, g.LP w W K 0 0 0 ∧ g.hi ≤ T
  pw : gl.Pairwise (fun a b => a.hi ≤ b.lo)
theorem Lf.nil (w W : World) (K : List Nat) (T : Nat) : Lf w W K T [] := ⟨by simp, List.Pairwise.nil⟩
theorem Lf.up {w W : World} {K : List Nat} {T T' : Nat} {gl : List Gh} (h : Lf w W K T gl) (ht : T ≤ T') : Lf w W K T' gl := ⟨fun g hg => ⟨(h.l g hg).1, Nat.le_trans (h.l g hg).2 ht⟩, h.pw⟩
theorem Mv.lf {w W W' : World} {K K' : List Nat} {a b T : Nat} {gl : List Gh} (h : Mv w W K W' K' a b) (l : Lf w W K T gl) (hd : ∀ g ∈ gl, g.hi ≤ a ∨ b ≤ g.lo) : Lf w W' K' T gl := ⟨fun g hg => ⟨h.lp (l.l g hg).1 (hd g hg), (l.l g hg).2⟩, l.pw⟩
theorem Mv.lfT {w W W' : World} {K K' : List Nat} {a b T : Nat} {gl : List Gh} (h : Mv w W K W' K' a b) (l : Lf w W K T gl) (hd : T ≤ a) : Lf w W' K' T gl := h.lf l (fun g hg => .inl (Nat.le_trans (l.l g hg).2 hd))
theorem Lf.kept0 {w W W' : World} {K : List Nat} {T : Nat} {gl : List Gh} (l : Lf w W K T gl) (a : Apart [] W W') (ap : Apart [] w W') : Lf w W' K T gl := (Mv.of0 (lo := T) (hi := T) a ap).lfT l (Nat.le_refl _)
theorem Lf.push2 {w W : World} {K : List Nat} {T : Nat} {gl : List Gh} (h : Lf w W K T gl) {a b : Gh} (ha : a.LP w W K 0 0 0) (hb : b.LP w W K 0 0 0) (h1 : T ≤ a.lo) (h2 : a.lo ≤ a.hi) (h3 : a.hi ≤ b.lo) (h4 : b.lo ≤ b.hi) : Lf w W K b.hi (gl ++ [a, b]) := by
  refine ⟨fun g hg => ?_, List.pairwise_append.2 ⟨h.pw, ?_, fun g hg x hx => ?_⟩⟩
  · rcases List.mem_append.1 hg with hg | hg
    · exact ⟨(h.l g hg).1, by have := (h.l g hg).2; omega⟩
    · simp at hg
      rcases hg with rfl | rfl
      · exact ⟨ha, by omega⟩
      · exact ⟨hb, Nat.le_refl _⟩
  · simp; exact h3
  · have := (h.l g hg).2
    simp at hx
    rcases hx with rfl | rfl <;> omega
theorem Lf.tail {w W : World} {K : List Nat} {T : Nat} {g : Gh} {gl : List Gh} (h : Lf w W K T (g :: gl)) : g.LP w W K 0 0 0 ∧ Lf w W K T gl ∧ ∀ b ∈ gl, g.hi ≤ b.lo := by
  have := List.pairwise_cons.1 h.pw
  exact ⟨(h.l g (by simp)).1, ⟨fun x hx => h.l x (by simp [hx]), this.2⟩, this.1⟩
/-- what is wanted of each content -/
structure Ww (wB W : World) (gl : List Gh) (wl : List Ct) : Prop where
  len : wl.length = gl.length
  h : ∀ j, j < gl.length → (gT wl j).kd = (gG gl j).c.kd ∧ (gT wl j).gn = (gG gl j).c.gn ∧ (gT wl j).ow = (gG gl j).c.ow
  w : ∀ j, j < gl.length → WC wB W (gT wl j) (gG gl j).cs (gG gl j).rs
theorem Ww.nil (wB W : World) : Ww wB W [] [] := ⟨rfl, fun j hj => by simp at hj, fun j hj => by simp at hj⟩
theorem Mv.ww {w W W' wB : World} {K K' : List Nat} {a b : Nat} {gl : List Gh} {wl : List Ct} (h : Mv w W K W' K' a b) (l : Ww wB W gl wl) : Ww wB W' gl wl := ⟨l.len, l.h, fun j hj => h.wc (l.w j hj)⟩
theorem WC.kept0 {w W W' : World} {c : Ct} {cs : List (Int × List S)} {rs : List Wr} (h : WC w W c cs rs) (a : Apart [] W W') : WC w W' c cs rs := h.keepW (Wt.of (G := []) a (by simp)) (Gt.nil _)
theorem Ww.kept0 {wB W W' : World} {gl : List Gh} {wl : List Ct} (l : Ww wB W gl wl) (a : Apart [] W W') : Ww wB W' gl wl := ⟨l.len, l.h, fun j hj => (l.w j hj).kept0 a⟩
theorem Ww.push2 {wB W : World} {gl : List Gh} {wl : List Ct} (l : Ww wB W gl wl) {a b : Gh} {x y : Ct} (ha : (x.kd = a.c.kd ∧ x.gn = a.c.gn ∧ x.ow = a.c.ow) ∧ WC wB W x a.cs a.rs) (hb : (y.kd = b.c.kd ∧ y.gn = b.c.gn ∧ y.ow = b.c.ow) ∧ WC wB W y b.cs b.rs) : Ww wB W (gl ++ [a, b]) (wl ++ [x, y]) := by
  have hl := l.len
  have go : ∀ P : Gh → Ct → Prop, (∀ j, j < gl.length → P (gG gl j) (gT wl j)) → P a x → P b y → ∀ j, j < (gl ++ [a, b]).length → P (gG (gl ++ [a, b]) j) (gT (wl ++ [x, y]) j) := fun P h1 h2 h3 j hj => by
    simp at hj
    by_cases e : j < gl.length
    · rw [gG_l e, gT_l (by omega)]; exact h1 j e
    · by_cases e' : j = gl.length
      · subst e'; rw [gG_r0, ← hl, gT_r0]; exact h2
      · have : j = gl.length + 1 := by omega
        subst this; rw [gG_r1, ← hl, gT_r1]; exact h3
  exact ⟨by simp [hl], go (fun g c => c.kd = g.c.kd ∧ c.gn = g.c.gn ∧ c.ow = g.c.ow) l.h ha.1 hb.1, go (fun g c => WC wB W c g.cs g.rs) l.w ha.2 hb.2⟩
/-- the j-th content that was left, beside what is wanted -/
theorem Ww.alike {w W wB : World} {K : List Nat} {T : Nat} {gl : List Gh} {wl : List Ct} (l : Lf w W K T gl) (u : Ww wB W gl wl) (ap : Apart [] wB W) {j : Nat} (hj : j < gl.length) : Calls Try.prog 34 #[.agg (gG gl j).c.cs, .agg (gT wl j).cs] W fun r w' => r = .returned (.bool true) ∧ Apart [] W w' := by
  obtain ⟨e1, e2, e3⟩ := u.h j hj
  obtain ⟨ks2, es2, a, b⟩ := (u.w j hj).rd ap
  obtain ⟨c, d⟩ := (l.l _ (gG_mem hj)).1.rd
  unfold Ct.cs
  rw [e1, e2, e3]
  exact alike_ok W _ _ _ _ _ _ _ _ _ _ _ _ _ c a d b
end Go.Proofs.Ytllhmidpphlbhaa.ds
namespace Go.Proofs.Ytllhmidpphlbhaa.ds
open Go.ChangeShapes Go.WideShapes Go.ChangeAt Go.RowKit Go.Sort
set_option linter.unusedVariables false
set_option linter.unusedSimpArgs false
def findCode (t : Nat) (b : Bool) : Code → Option Code
  | .region n ops d => if b = true ∧ n = t then some (.region n ops d) else none
  | .seq x y => match findCode t b x with
    | some c => some c
    | none => findCode t b y
  | .cond _ x y => match findCode t b x with
    | some c => some c
    | none => findCode t b y
  | .block n c => if b = false ∧ n = t then some (.block n c) else findCode t b c
  | .loop c => findCode t b c
  | .scope c => findCode t b c
  | _ => none
noncomputable def lopC (t : Nat) : Code := match (Try.f10.body.bind (findCode t false)).getD .skip with | .block _ c => c | c => c
/-- the cells of the j-th write of a told content -/
theorem LP.wcell {w W : World} {K : List Nat} {c : Ct} {es : List E} {ks : List Ck} {rs : List Wr} {cs : List (Int × List S)} {jv jx q lo hi : Nat} (h : LP w W K c es ks rs cs jv jx q lo hi) {j : Nat} (hj : j < rs.length) : ∃ P o, c.t.p = some ⟨P, o, none⟩ ∧ P < W.heap.size ∧ W.cell? ⟨P, o + j * 6 + 4, none⟩ = some (.slice (gE es j).v.p (gE es j).v.n (gE es j).v.c) ∧ W.cell? ⟨P, o + j * 6 + 5, none⟩ = some (.slice (gE es j).x.p (gE es j).x.n (gE es j).x.c) := by
  have hel := h.el
  obtain ⟨P, o, e, hP, hc⟩ := h.nt.rd (by rw [flatE_len]; omega)
  have key : ∀ i v, (E.cs (gE es j))[i]? = some v → W.cell? ⟨P, o + j * 6 + i, none⟩ = some v := fun i v hv => by
    have := hc (j * 6 + i) v (flatE_get es j (by omega) i v hv)
    rwa [← Nat.add_assoc] at this
  exact ⟨P, o, e, hP, key 4 _ rfl, key 5 _ rfl⟩
theorem LP.tn {w W : World} {K : List Nat} {c : Ct} {es : List E} {ks : List Ck} {rs : List Wr} {cs : List (Int × List S)} {jv jx q lo hi : Nat} (h : LP w W K c es ks rs cs jv jx q lo hi) : c.t.n = rs.length := by have := h.nt.own.1; rw [flatE_len, h.el] at this; omega
set_option maxHeartbeats 16000000 in
set_option maxRecDepth 1000000 in
theorem blk4 {w : World} {H m X lo hi : Nat} {K : List Nat} {c : Ct} {es : List E} {ks : List Ck} {rs : List Wr} {cs : List (Int × List S)} {W : World} (HS : Hid (Sh w W H K m)) (HL : Hid (LP w W K c es ks rs cs 0 0 0 lo hi)) (HB : Hid (W.heap[X]? = some (.cells c.cs 25 (0, 0)))) (hm : m ≤ 4000) {sl0 sl1 sl2 sl3 sl5 sl6 sl7 sl8 sl9 sl10 sl11 sl12 sl13 sl14 sl15 sl16 sl17 sl18 sl19 sl20 sl21 sl23 sl25 sl26 sl27 sl28 sl29 sl30 sl31 sl32 sl33 sl34 sl35 sl36 sl37 sl38 sl39 sl40 sl41 sl42 sl43 sl44 sl45 sl46 sl47 sl48 sl49 sl50 sl51 sl52 sl53 sl54 sl55 sl56 sl57 sl58 sl59 sl60 sl61 sl62 sl63 sl64 sl65 sl66 sl67 sl68 sl69 sl70 sl71 sl72 sl73 sl74 sl75 sl76 sl77 sl78 sl79 sl80 sl81 sl82 sl83 sl84 sl85 sl86 sl87 sl88 sl89 sl90 sl91 sl92 sl93 sl94 sl95 sl96 sl97 sl98 sl99 sl100 sl101 sl102 sl103 sl104 sl105 sl106 sl107 sl108 sl109 sl110 sl111 sl112 sl113 sl114 sl115 sl116 sl117 sl118 sl119 sl120 sl121 sl122 sl123 sl124 sl125 sl126 sl127 sl128 sl129 sl130 sl131 sl132 sl133 sl134 sl135 sl136 sl137 sl138 sl139 sl140 sl141 sl142 sl143 sl144 sl145 sl146 sl147 sl148 sl149 sl150 sl151 sl152 sl153 sl154 sl155 sl156 sl157 sl158 sl159 sl160 sl161 sl162 sl163 sl164 sl165 sl166 sl167 sl168 sl169 sl170 sl171 sl172 sl173 sl174 sl175 sl176 sl177 sl178 sl179 sl180 sl181 sl182 sl183 sl184 sl185 sl186 sl187 sl188 sl189 sl190 sl191 sl192 sl193 sl194 sl195 sl196 sl197 sl198 sl199 sl200 sl201 sl202 sl203 sl204 sl205 sl206 sl207 sl208 sl209 sl210 sl211 sl212 sl213 sl214 sl215 sl216 sl217 sl218 sl219 sl220 sl221 sl222 sl223 sl224 sl225 sl226 sl227 sl228 sl229 sl230 sl231 sl232 sl233 sl234 sl235 sl236 sl237 sl238 sl239 sl240 sl241 sl242 sl243 sl244 sl245 sl246 sl247 sl248 sl249 sl250 sl251 sl252 sl253 sl254 sl255 sl256 sl257 sl258 sl259 sl260 sl261 sl262 sl263 sl264 sl265 sl266 sl267 sl268 sl269 sl270 sl271 sl272 sl273 sl274 sl275 sl276 sl277 sl278 sl279 sl280 sl281 sl282 sl283 sl284 sl285 sl286 sl287 sl288 sl289 sl290 sl291 sl292 sl293 sl294 sl295 sl296 sl297 sl298 sl299 sl300 sl301 sl302 sl303 sl304 sl305 sl306 sl307 sl308 sl309 sl310 sl311 sl312 sl313 sl314 sl315 sl316 sl317 sl318 sl319 sl320 sl321 sl322 : Value} {K' : Act → World → Prop} {Q' : Exit → Act → World → Prop} (hQ : ∀ x (a : Act) (d : Nat) v (w : World), Q' (.panic x) (a.put (some d) v) w → Q' (.panic x) a w) (hK : ∀ (W' : World) (nt24 nt152 nt153 nt154 nt155 nt156 nt157 nt158 nt159 nt160 nt161 nt162 nt163 nt164 nt165 nt166 nt167 nt168 nt169 nt170 nt171 nt172 nt173 nt174 : Value), (∃ K2, Sh w W' H K2 (m + 2 * rs.length) ∧ Mv w W K W' K2 lo hi ∧ LP w W' K2 c es ks rs cs rs.length rs.length 0 lo hi) → K' ⟨#[sl0, sl1, sl2, sl3, (.pointer (some ⟨H, 0, none⟩)), sl5, sl6, sl7, sl8, sl9, sl10, sl11, sl12, sl13, sl14, sl15, sl16, sl17, sl18, sl19, sl20, sl21, (.pointer (some ⟨X, 0, none⟩)), sl23, nt24, sl25, sl26, sl27, sl28, sl29, sl30, sl31, sl32, sl33, sl34, sl35, sl36, sl37, sl38, sl39, sl40, sl41, sl42, sl43, sl44, sl45, sl46, sl47, sl48, sl49, sl50, sl51, sl52, sl53, sl54, sl55, sl56, sl57, sl58, sl59, sl60, sl61, sl62, sl63, sl64, sl65, sl66, sl67, sl68, sl69, sl70, sl71, sl72, sl73, sl74, sl75, sl76, sl77, sl78, sl79, sl80, sl81, sl82, sl83, sl84, sl85, sl86, sl87, sl88, sl89, sl90, sl91, sl92, sl93, sl94, sl95, sl96, sl97, sl98, sl99, sl100, sl101, sl102, sl103, sl104, sl105, sl106, sl107, sl108, sl109, sl110, sl111, sl112, sl113, sl114, sl115, sl116, sl117, sl118, sl119, sl120, sl121, sl122, sl123, sl124, sl125, sl126, sl127, sl128, sl129, sl130, sl131, sl132, sl133, sl134, sl135, sl136, sl137, sl138, sl139, sl140, sl141, sl142, sl143, sl144, sl145, sl146, sl147, sl148, sl149, sl150, sl151, nt152, nt153, nt154, nt155, nt156, nt157, nt158, nt159, nt160, nt161, nt162, nt163, nt164, nt165, nt166, nt167, nt168, nt169, nt170, nt171, nt172, nt173, nt174, sl175, sl176, sl177, sl178, sl179, sl180, sl181, sl182, sl183, sl184, sl185, sl186, sl187, sl188, sl189, sl190, sl191, sl192, sl193, sl194, sl195, sl196, sl197, sl198, sl199, sl200, sl201, sl202, sl203, sl204, sl205, sl206, sl207, sl208, sl209, sl210, sl211, sl212, sl213, sl214, sl215, sl216, sl217, sl218, sl219, sl220, sl221, sl222, sl223, sl224, sl225, sl226, sl227, sl228, sl229, sl230, sl231, sl232, sl233, sl234, sl235, sl236, sl237, sl238, sl239, sl240, sl241, sl242, sl243, sl244, sl245, sl246, sl247, sl248, sl249, sl250, sl251, sl252, sl253, sl254, sl255, sl256, sl257, sl258, sl259, sl260, sl261, sl262, sl263, sl264, sl265, sl266, sl267, sl268, sl269, sl270, sl271, sl272, sl273, sl274, sl275, sl276, sl277, sl278, sl279, sl280, sl281, sl282, sl283, sl284, sl285, sl286, sl287, sl288, sl289, sl290, sl291, sl292, sl293, sl294, sl295, sl296, sl297, sl298, sl299, sl300, sl301, sl302, sl303, sl304, sl305, sl306, sl307, sl308, sl309, sl310, sl311, sl312, sl313, sl314, sl315, sl316, sl317, sl318, sl319, sl320, sl321, sl322], []⟩ W') :
    Code.wp Try.prog (lopC 4) (Exit.inBlock 4 (Exit.then K' Q')) ⟨#[sl0, sl1, sl2, sl3, (.pointer (some ⟨H, 0, none⟩)), sl5, sl6, sl7, sl8, sl9, sl10, sl11, sl12, sl13, sl14, sl15, sl16, sl17, sl18, sl19, sl20, sl21, (.pointer (some ⟨X, 0, none⟩)), sl23, (.int .i64 0), sl25, sl26, sl27, sl28, sl29, sl30, sl31, sl32, sl33, sl34, sl35, sl36, sl37, sl38, sl39, sl40, sl41, sl42, sl43, sl44, sl45, sl46, sl47, sl48, sl49, sl50, sl51, sl52, sl53, sl54, sl55, sl56, sl57, sl58, sl59, sl60, sl61, sl62, sl63, sl64, sl65, sl66, sl67, sl68, sl69, sl70, sl71, sl72, sl73, sl74, sl75, sl76, sl77, sl78, sl79, sl80, sl81, sl82, sl83, sl84, sl85, sl86, sl87, sl88, sl89, sl90, sl91, sl92, sl93, sl94, sl95, sl96, sl97, sl98, sl99, sl100, sl101, sl102, sl103, sl104, sl105, sl106, sl107, sl108, sl109, sl110, sl111, sl112, sl113, sl114, sl115, sl116, sl117, sl118, sl119, sl120, sl121, sl122, sl123, sl124, sl125, sl126, sl127, sl128, sl129, sl130, sl131, sl132, sl133, sl134, sl135, sl136, sl137, sl138, sl139, sl140, sl141, sl142, sl143, sl144, sl145, sl146, sl147, sl148, sl149, sl150, sl151, sl152, sl153, sl154, sl155, sl156, sl157, sl158, sl159, sl160, sl161, sl162, sl163, sl164, sl165, sl166, sl167, sl168, sl169, sl170, sl171, sl172, sl173, sl174, sl175, sl176, sl177, sl178, sl179, sl180, sl181, sl182, sl183, sl184, sl185, sl186, sl187, sl188, sl189, sl190, sl191, sl192, sl193, sl194, sl195, sl196, sl197, sl198, sl199, sl200, sl201, sl202, sl203, sl204, sl205, sl206, sl207, sl208, sl209, sl210, sl211, sl212, sl213, sl214, sl215, sl216, sl217, sl218, sl219, sl220, sl221, sl222, sl223, sl224, sl225, sl226, sl227, sl228, sl229, sl230, sl231, sl232, sl233, sl234, sl235, sl236, sl237, sl238, sl239, sl240, sl241, sl242, sl243, sl244, sl245, sl246, sl247, sl248, sl249, sl250, sl251, sl252, sl253, sl254, sl255, sl256, sl257, sl258, sl259, sl260, sl261, sl262, sl263, sl264, sl265, sl266, sl267, sl268, sl269, sl270, sl271, sl272, sl273, sl274, sl275, sl276, sl277, sl278, sl279, sl280, sl281, sl282, sl283, sl284, sl285, sl286, sl287, sl288, sl289, sl290, sl291, sl292, sl293, sl294, sl295, sl296, sl297, sl298, sl299, sl300, sl301, sl302, sl303, sl304, sl305, sl306, sl307, sl308, sl309, sl310, sl311, sl312, sl313, sl314, sl315, sl316, sl317, sl318, sl319, sl320, sl321, sl322], []⟩ W := by
  have HKK := hid hK
  clear hK
  conv => arg 2; whnf
  dsimp only
  obtain ⟨Hl, hHl⟩ : ∃ x : Nat, x = rs.length := ⟨_, rfl⟩
  have hl16 : rs.length ≤ 16 := HL.out.lim.2
  go_loopw [24] (fun a wt => ∃ (j : Nat) (Kj : List Nat), a = .int .i64 (j : Nat) ∧ j ≤ rs.length ∧ Hid (Sh w wt H Kj (m + 2 * j) ∧ Mv w W K wt Kj lo hi ∧ LP w wt Kj c es ks rs cs j j 0 lo hi)) (fun a _ => rs.length - (intOf a).toNat)
  case atStart => exact ⟨0, K, rfl, Nat.zero_le _, hid ⟨HS.out, Mv.refl HL.out.ns.ap, HL.out⟩⟩
  case round =>
    obtain ⟨j, Kj, rfl, hjle, HI⟩ := hrel
    have HX : Hid (wr.heap[X]? = some (.cells c.cs 25 (0, 0))) := hid (HI.out.2.1.block HB.out (by decide) (by decide))
    have htn := HI.out.2.2.tn
    by_cases hlt : j < rs.length
    · have hlti : ((j : Nat) : Int) < (c.t.n : Int) := by omega
      obtain ⟨P, o, hP, hPl, c4, c5⟩ := HI.out.2.2.wcell hlt
      have z4 := (row5v HX.out).2.2.2.2
      rw [hP] at z4
      have hKV := keepV_ok HI.out.1 HI.out.2.2 hlt (by omega)
      have HKV := hid hKV
      clear hKV
      go_wp2_with fail
      refine HKV.out.mono ?_
      clear HKV c4 c5 z4
      rintro _ w1 ⟨rfl, K1, s1, v1, l1⟩
      have HI1 := hid (And.intro s1 (And.intro (HI.out.2.1.trans v1) l1))
      have HX1 : Hid (w1.heap[X]? = some (.cells c.cs 25 (0, 0))) := hid (v1.block HX.out (by decide) (by decide))
      clear s1 v1 l1 HX
      obtain ⟨P', o', hP', hPl', c4, c5⟩ := HI1.out.2.2.wcell hlt
      rw [hP] at hP'
      simp only [Option.some.injEq, Addr.mk.injEq, and_true] at hP'
      obtain ⟨rfl, rfl⟩ := hP'
      have z4 := (row5v HX1.out).2.2.2.2
      rw [hP] at z4
      have hKV := keepX_ok HI1.out.1 HI1.out.2.2 hlt (by omega)
      have HKV := hid hKV
      clear hKV
      try dsimp only
      go_wp2_with fail
      refine HKV.out.mono ?_
      clear HKV c4 c5 z4
      rintro _ w2 ⟨rfl, K2, s2, v2, l2⟩
      have HI2 := hid (And.intro s2 (And.intro (HI1.out.2.1.trans v2) l2))
      clear s2 v2 l2 HX1 HI1 HI
      try dsimp only
      go_wp2_with fail
      go_roundw
      case rel => exact ⟨j + 1, K2, by go_num, by omega, hid ⟨by have := HI2.out.1; rwa [show m + 2 * (j + 1) = m + 2 * j + 1 + 1 by omega], HI2.out.2⟩⟩
      case measure => simp [intOf]; omega
    · have hlti : ¬ ((j : Nat) : Int) < (c.t.n : Int) := by omega
      have hj : j = rs.length := by omega
      have z4 := (row5v HX.out).2.2.2.2
      go_wp2_with fail
      subst hj
      exact HKK.out _ _ _ _ _ _ _ _ _ _ _ _ _ _ _ _ _ _ _ _ _ _ _ _ _ ⟨Kj, HI.out⟩
end Go.Proofs.Ytllhmidpphlbhaa.ds
namespace Go.Proofs.Ytllhmidpphlbhaa.ds
open Go.ChangeShapes Go.WideShapes Go.ChangeAt Go.RowKit Go.Sort
set_option linter.unusedVariables false
set_option linter.unusedSimpArgs false
theorem LP.kcell {w W : World} {K : List Nat} {c : Ct} {es : List E} {ks : List Ck} {rs : List Wr} {cs : List (Int × List S)} {jv jx q lo hi : Nat} (h : LP w W K c es ks rs cs jv jx q lo hi) {j : Nat} (hj : j < cs.length) : ∃ P o, c.s.p = some ⟨P, o, none⟩ ∧ P < W.heap.size ∧ W.cell? ⟨P, o + j * 2 + 1, none⟩ = some (.slice (gK ks j).s.p (gK ks j).s.n (gK ks j).s.c) := by
  have hel := h.kl
  obtain ⟨P, o, e, hP, hc⟩ := h.ns.rd (by rw [flatK_len]; omega)
  have := hc (j * 2 + 1) _ (flatK_get ks j (by omega)).2
  rw [← Nat.add_assoc] at this
  exact ⟨P, o, e, hP, this⟩
theorem LP.sn {w W : World} {K : List Nat} {c : Ct} {es : List E} {ks : List Ck} {rs : List Wr} {cs : List (Int × List S)} {jv jx q lo hi : Nat} (h : LP w W K c es ks rs cs jv jx q lo hi) : c.s.n = cs.length := by have := h.ns.own.1; rw [flatK_len, h.kl] at this; omega
set_option maxHeartbeats 16000000 in
set_option maxRecDepth 1000000 in
theorem blk6 {w : World} {H m X lo hi : Nat} {K : List Nat} {c : Ct} {es : List E} {ks : List Ck} {rs : List Wr} {cs : List (Int × List S)} {W : World} {jv jx : Nat} (HS : Hid (Sh w W H K m)) (HL : Hid (LP w W K c es ks rs cs jv jx 0 lo hi)) (HB : Hid (W.heap[X]? = some (.cells c.cs 25 (0, 0)))) (hm : m ≤ 4000) {sl0 sl1 sl2 sl3 sl5 sl6 sl7 sl8 sl9 sl10 sl11 sl12 sl13 sl14 sl15 sl16 sl17 sl18 sl19 sl20 sl21 sl23 sl24 sl26 sl27 sl28 sl29 sl30 sl31 sl32 sl33 sl34 sl35 sl36 sl37 sl38 sl39 sl40 sl41 sl42 sl43 sl44 sl45 sl46 sl47 sl48 sl49 sl50 sl51 sl52 sl53 sl54 sl55 sl56 sl57 sl58 sl59 sl60 sl61 sl62 sl63 sl64 sl65 sl66 sl67 sl68 sl69 sl70 sl71 sl72 sl73 sl74 sl75 sl76 sl77 sl78 sl79 sl80 sl81 sl82 sl83 sl84 sl85 sl86 sl87 sl88 sl89 sl90 sl91 sl92 sl93 sl94 sl95 sl96 sl97 sl98 sl99 sl100 sl101 sl102 sl103 sl104 sl105 sl106 sl107 sl108 sl109 sl110 sl111 sl112 sl113 sl114 sl115 sl116 sl117 sl118 sl119 sl120 sl121 sl122 sl123 sl124 sl125 sl126 sl127 sl128 sl129 sl130 sl131 sl132 sl133 sl134 sl135 sl136 sl137 sl138 sl139 sl140 sl141 sl142 sl143 sl144 sl145 sl146 sl147 sl148 sl149 sl150 sl151 sl152 sl153 sl154 sl155 sl156 sl157 sl158 sl159 sl160 sl161 sl162 sl163 sl164 sl165 sl166 sl167 sl168 sl169 sl170 sl171 sl172 sl173 sl174 sl175 sl176 sl177 sl178 sl179 sl180 sl181 sl182 sl183 sl184 sl185 sl186 sl187 sl188 sl189 sl190 sl191 sl192 sl193 sl194 sl195 sl196 sl197 sl198 sl199 sl200 sl201 sl202 sl203 sl204 sl205 sl206 sl207 sl208 sl209 sl210 sl211 sl212 sl213 sl214 sl215 sl216 sl217 sl218 sl219 sl220 sl221 sl222 sl223 sl224 sl225 sl226 sl227 sl228 sl229 sl230 sl231 sl232 sl233 sl234 sl235 sl236 sl237 sl238 sl239 sl240 sl241 sl242 sl243 sl244 sl245 sl246 sl247 sl248 sl249 sl250 sl251 sl252 sl253 sl254 sl255 sl256 sl257 sl258 sl259 sl260 sl261 sl262 sl263 sl264 sl265 sl266 sl267 sl268 sl269 sl270 sl271 sl272 sl273 sl274 sl275 sl276 sl277 sl278 sl279 sl280 sl281 sl282 sl283 sl284 sl285 sl286 sl287 sl288 sl289 sl290 sl291 sl292 sl293 sl294 sl295 sl296 sl297 sl298 sl299 sl300 sl301 sl302 sl303 sl304 sl305 sl306 sl307 sl308 sl309 sl310 sl311 sl312 sl313 sl314 sl315 sl316 sl317 sl318 sl319 sl320 sl321 sl322 : Value} {K' : Act → World → Prop} {Q' : Exit → Act → World → Prop} (hQ : ∀ x (a : Act) (d : Nat) v (w : World), Q' (.panic x) (a.put (some d) v) w → Q' (.panic x) a w) (hK : ∀ (W' : World) (nt25 nt175 nt176 nt177 nt178 nt179 nt180 nt181 nt182 nt183 nt184 nt185 nt186 nt187 nt188 nt189 : Value), (∃ K2, Sh w W' H K2 (m + cs.length) ∧ Mv w W K W' K2 lo hi ∧ LP w W' K2 c es ks rs cs jv jx cs.length lo hi) → K' ⟨#[sl0, sl1, sl2, sl3, (.pointer (some ⟨H, 0, none⟩)), sl5, sl6, sl7, sl8, sl9, sl10, sl11, sl12, sl13, sl14, sl15, sl16, sl17, sl18, sl19, sl20, sl21, (.pointer (some ⟨X, 0, none⟩)), sl23, sl24, nt25, sl26, sl27, sl28, sl29, sl30, sl31, sl32, sl33, sl34, sl35, sl36, sl37, sl38, sl39, sl40, sl41, sl42, sl43, sl44, sl45, sl46, sl47, sl48, sl49, sl50, sl51, sl52, sl53, sl54, sl55, sl56, sl57, sl58, sl59, sl60, sl61, sl62, sl63, sl64, sl65, sl66, sl67, sl68, sl69, sl70, sl71, sl72, sl73, sl74, sl75, sl76, sl77, sl78, sl79, sl80, sl81, sl82, sl83, sl84, sl85, sl86, sl87, sl88, sl89, sl90, sl91, sl92, sl93, sl94, sl95, sl96, sl97, sl98, sl99, sl100, sl101, sl102, sl103, sl104, sl105, sl106, sl107, sl108, sl109, sl110, sl111, sl112, sl113, sl114, sl115, sl116, sl117, sl118, sl119, sl120, sl121, sl122, sl123, sl124, sl125, sl126, sl127, sl128, sl129, sl130, sl131, sl132, sl133, sl134, sl135, sl136, sl137, sl138, sl139, sl140, sl141, sl142, sl143, sl144, sl145, sl146, sl147, sl148, sl149, sl150, sl151, sl152, sl153, sl154, sl155, sl156, sl157, sl158, sl159, sl160, sl161, sl162, sl163, sl164, sl165, sl166, sl167, sl168, sl169, sl170, sl171, sl172, sl173, sl174, nt175, nt176, nt177, nt178, nt179, nt180, nt181, nt182, nt183, nt184, nt185, nt186, nt187, nt188, nt189, sl190, sl191, sl192, sl193, sl194, sl195, sl196, sl197, sl198, sl199, sl200, sl201, sl202, sl203, sl204, sl205, sl206, sl207, sl208, sl209, sl210, sl211, sl212, sl213, sl214, sl215, sl216, sl217, sl218, sl219, sl220, sl221, sl222, sl223, sl224, sl225, sl226, sl227, sl228, sl229, sl230, sl231, sl232, sl233, sl234, sl235, sl236, sl237, sl238, sl239, sl240, sl241, sl242, sl243, sl244, sl245, sl246, sl247, sl248, sl249, sl250, sl251, sl252, sl253, sl254, sl255, sl256, sl257, sl258, sl259, sl260, sl261, sl262, sl263, sl264, sl265, sl266, sl267, sl268, sl269, sl270, sl271, sl272, sl273, sl274, sl275, sl276, sl277, sl278, sl279, sl280, sl281, sl282, sl283, sl284, sl285, sl286, sl287, sl288, sl289, sl290, sl291, sl292, sl293, sl294, sl295, sl296, sl297, sl298, sl299, sl300, sl301, sl302, sl303, sl304, sl305, sl306, sl307, sl308, sl309, sl310, sl311, sl312, sl313, sl314, sl315, sl316, sl317, sl318, sl319, sl320, sl321, sl322], []⟩ W') :
    Code.wp Try.prog (lopC 6) (Exit.inBlock 6 (Exit.then K' Q')) ⟨#[sl0, sl1, sl2, sl3, (.pointer (some ⟨H, 0, none⟩)), sl5, sl6, sl7, sl8, sl9, sl10, sl11, sl12, sl13, sl14, sl15, sl16, sl17, sl18, sl19, sl20, sl21, (.pointer (some ⟨X, 0, none⟩)), sl23, sl24, (.int .i64 0), sl26, sl27, sl28, sl29, sl30, sl31, sl32, sl33, sl34, sl35, sl36, sl37, sl38, sl39, sl40, sl41, sl42, sl43, sl44, sl45, sl46, sl47, sl48, sl49, sl50, sl51, sl52, sl53, sl54, sl55, sl56, sl57, sl58, sl59, sl60, sl61, sl62, sl63, sl64, sl65, sl66, sl67, sl68, sl69, sl70, sl71, sl72, sl73, sl74, sl75, sl76, sl77, sl78, sl79, sl80, sl81, sl82, sl83, sl84, sl85, sl86, sl87, sl88, sl89, sl90, sl91, sl92, sl93, sl94, sl95, sl96, sl97, sl98, sl99, sl100, sl101, sl102, sl103, sl104, sl105, sl106, sl107, sl108, sl109, sl110, sl111, sl112, sl113, sl114, sl115, sl116, sl117, sl118, sl119, sl120, sl121, sl122, sl123, sl124, sl125, sl126, sl127, sl128, sl129, sl130, sl131, sl132, sl133, sl134, sl135, sl136, sl137, sl138, sl139, sl140, sl141, sl142, sl143, sl144, sl145, sl146, sl147, sl148, sl149, sl150, sl151, sl152, sl153, sl154, sl155, sl156, sl157, sl158, sl159, sl160, sl161, sl162, sl163, sl164, sl165, sl166, sl167, sl168, sl169, sl170, sl171, sl172, sl173, sl174, sl175, sl176, sl177, sl178, sl179, sl180, sl181, sl182, sl183, sl184, sl185, sl186, sl187, sl188, sl189, sl190, sl191, sl192, sl193, sl194, sl195, sl196, sl197, sl198, sl199, sl200, sl201, sl202, sl203, sl204, sl205, sl206, sl207, sl208, sl209, sl210, sl211, sl212, sl213, sl214, sl215, sl216, sl217, sl218, sl219, sl220, sl221, sl222, sl223, sl224, sl225, sl226, sl227, sl228, sl229, sl230, sl231, sl232, sl233, sl234, sl235, sl236, sl237, sl238, sl239, sl240, sl241, sl242, sl243, sl244, sl245, sl246, sl247, sl248, sl249, sl250, sl251, sl252, sl253, sl254, sl255, sl256, sl257, sl258, sl259, sl260, sl261, sl262, sl263, sl264, sl265, sl266, sl267, sl268, sl269, sl270, sl271, sl272, sl273, sl274, sl275, sl276, sl277, sl278, sl279, sl280, sl281, sl282, sl283, sl284, sl285, sl286, sl287, sl288, sl289, sl290, sl291, sl292, sl293, sl294, sl295, sl296, sl297, sl298, sl299, sl300, sl301, sl302, sl303, sl304, sl305, sl306, sl307, sl308, sl309, sl310, sl311, sl312, sl313, sl314, sl315, sl316, sl317, sl318, sl319, sl320, sl321, sl322], []⟩ W := by
  have HKK := hid hK
  clear hK
  conv => arg 2; whnf
  dsimp only
  have hl16 : cs.length ≤ 16 := HL.out.lim.1
  go_loopw [25] (fun a wt => ∃ (j : Nat) (Kj : List Nat), a = .int .i64 (j : Nat) ∧ j ≤ cs.length ∧ Hid (Sh w wt H Kj (m + j) ∧ Mv w W K wt Kj lo hi ∧ LP w wt Kj c es ks rs cs jv jx j lo hi)) (fun a _ => cs.length - (intOf a).toNat)
  case atStart => exact ⟨0, K, rfl, Nat.zero_le _, hid ⟨HS.out, Mv.refl HL.out.ns.ap, HL.out⟩⟩
  case round =>
    obtain ⟨j, Kj, rfl, hjle, HI⟩ := hrel
    have HX : Hid (wr.heap[X]? = some (.cells c.cs 25 (0, 0))) := hid (HI.out.2.1.block HB.out (by decide) (by decide))
    have htn := HI.out.2.2.sn
    by_cases hlt : j < cs.length
    · have hlti : ((j : Nat) : Int) < (c.s.n : Int) := by omega
      obtain ⟨P, o, hP, hPl, c4⟩ := HI.out.2.2.kcell hlt
      have z4 := (row5v HX.out).2.2.2.1
      rw [hP] at z4
      have hKV := keepS_ok HI.out.1 HI.out.2.2 hlt (by omega)
      have HKV := hid hKV
      clear hKV
      go_wp2_with fail
      refine HKV.out.mono ?_
      clear HKV c4 z4
      rintro _ w1 ⟨rfl, K1, s1, v1, l1⟩
      have HI1 := hid (And.intro s1 (And.intro (HI.out.2.1.trans v1) l1))
      clear s1 v1 l1 HX HI
      try dsimp only
      go_wp2_with fail
      go_roundw
      case rel => exact ⟨j + 1, K1, by go_num, by omega, hid HI1.out⟩
      case measure => simp [intOf]; omega
    · have hlti : ¬ ((j : Nat) : Int) < (c.s.n : Int) := by omega
      have hj : j = cs.length := by omega
      have z4 := (row5v HX.out).2.2.2.1
      go_wp2_with fail
      subst hj
      exact HKK.out _ _ _ _ _ _ _ _ _ _ _ _ _ _ _ _ _ ⟨Kj, HI.out⟩
end Go.Proofs.Ytllhmidpphlbhaa.ds
