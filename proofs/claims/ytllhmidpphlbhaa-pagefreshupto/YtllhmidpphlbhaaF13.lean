import Derived.Deep.RegionHeld
import Derived.OrdersHeld
import Derived.WalkKit
import Derived.ProofKit
import Derived.Lib.TrailingZeros
import Derived.Test.YtllhmidpphlbhaaChecked
import Derived.OpenShut
import Derived.Deep.QuietTactic
import Derived.BigQuiet
import Derived.BigRegion
import Derived.Laws.CopyOwn
import Derived.Laws.Bits64b
import Derived.Laws.MathBits
import Derived.Laws.ShiftsVarLaws
import Derived.WalkSmall
import Derived.Laws.ResultCell
import Derived.Lib.BitFns
import Derived.Laws.StructEq
import Derived.ArgAppend
import Derived.Deep.RegionLaw
import Derived.Deep.DeepAppendRoom
import Derived.Sort.WalkA
import Derived.Laws.Strings
import Derived.Deep.CutBlock
import Derived.Great.BuildSlice
import Derived.Laws.AppendOwnNone
import Derived.Lib.Overlaps
import Derived.Lib.AppendZerosOnto
import Derived.Laws.NewBlocks
import Derived.Laws.Externs
import Derived.Laws.IdiomCopy
import Derived.Laws.BytesString
import Derived.Deep.CutRange
import Derived.RangeFuncNested
import Derived.RangeFuncBound
import Derived.RangeFuncCalls
import Derived.RangeFuncLeaves
import Derived.Shelf.Abstract
import Derived.Shelf.RegionOpen
import Derived.OwnWalkIn
import Derived.TacticsInMore
import Derived.LoopNIn
import Derived.LoopIn
import GoSem.Claim
import GoSem.ClaimJoined
import GoSem.ClaimMapViews
import Derived.JoinedTies
import Derived.KernelRfl
import Derived.Deep.OwnRows
import Derived.Lib.LaidTab
import Derived.JoinedCond
import Derived.ShutString
import Derived.ChangeOld
import Derived.Below
import Derived.Carry
import Derived.ChangeSlices
import Derived.Deep.Slices
import Derived.Deep.DeepHandedRow
import Derived.RowKit
import Derived.ChangeShapes
import Derived.SizedLaws
import Derived.ChangeMaps5
import Derived.Lib.Walk
import Derived.Lib.SliceRun
import Derived.Lib.AppendStr
import Derived.Lib.ConvBytes
import Derived.Deep.RegionHeld3
import Derived.Deep.MidRow
import Derived.Laws.MakeOwn
import Derived.Lib.SlBytesConst
import Derived.Test.YtllhmidpphlbhaaRows
import Derived.Test.YtllhmidpphlbhaaF12
namespace Go.Proofs.Ytllhmidpphlbhaa.ds
open Go.ChangeShapes Go.WideShapes Go.ChangeAt Go.RowKit Go.Sort
set_option linter.unusedVariables false
set_option linter.unusedSimpArgs false
/-- several more at a list's end -/
theorem run_appS {w W : World} {s : Sl} {us : List Value} (t ty e : TypeId) (i : TypeInfo) (z : Value) (size bytes : Nat) (ht : Try.prog.underlying t = some (.slice e)) (hi : Try.prog.info? e = some i) (hz : i.zero = some z) (hsize : i.size = size) (hby : i.bytes = bytes) (hzs : z.cells.size = size) (hsz : 0 < size)
    (h : Nw w W e size s us) (ad : Addr) (m c : Nat) (cs : List Value) (hm : 0 < m) (hcl : cs.length = m * size) (hcs : ∀ j u, cs[j]? = some u → W.cell? (ad.add j) = some u) (one : ∀ u ∈ cs, u.oneCell' = true) (h63 : s.n + m ≤ maxLen) (hb : (s.n + m) * bytes ≤ 140737488355328) :
    ∃ s' W', (Builtin.append_ #[t, t] ty #[s.v, .slice (some ad) m c]).run Try.prog W = .ok (Sl.v s') W' ∧ Nw w W' e size s' (us ++ cs) ∧ s'.n = s.n + m ∧ Apart s.v.ownBlock.toList W W' ∧ ∃ k, s'.p = some ⟨k, 0, none⟩ ∧ s'.n ≤ s'.c ∧ (s.v.ownBlock = some k ∨ W.heap.size ≤ k) := by
  have key : ∃ v' W', (Builtin.append_ #[t, t] ty #[s.v, .slice (some ad) m c]).run Try.prog W = .ok v' W' ∧ W'.ownsRow 0 e size v' (s.n + m) (us ++ cs) ∧ W.grownBy W' s.v.ownBlock ∧ NewOr W s.v v' :=
    run_append2 W t ty e i z size bytes ht hi hz hsize hby hzs hsz s.v s.n us h.own ad m c cs hm hcl hcs one h63 hb
  obtain ⟨v', W', hrun, r1, r2, r3⟩ := key
  have ap : Apart s.v.ownBlock.toList W W' := apart_grown r2
  obtain ⟨k, c, rfl, hle⟩ : ∃ k c, v' = .slice (some ⟨k, 0, none⟩) (s.n + m) c ∧ s.n + m ≤ c := by
    obtain ⟨_, ⟨hv, hz⟩ | ⟨g, cap, cur, hv, _, _, hle, _⟩⟩ := r1
    · exact absurd hz (by omega)
    · exact ⟨g, cap, hv, hle⟩
  have hk : s.v.ownBlock = some k ∨ W.heap.size ≤ k := by
    rcases r3 with r3 | ⟨q, r3, hq⟩
    · left; rw [← r3]; rfl
    · right
      simp [Value.ownBlock] at r3
      omega
  refine ⟨⟨some ⟨k, 0, none⟩, s.n + m, c⟩, W', hrun, ⟨r1, fun b hb => ?_, h.ap.trans' ap (fun y hy => ?_)⟩, rfl, ap, k, rfl, hle, hk⟩
  · simp [Sl.v, Value.ownBlock] at hb
    subst hb
    rcases hk with hk | hk
    · exact h.new _ hk
    · have := h.ap.size; omega
  · simp at hy
    exact .inr (h.new y hy)
/-- .. out of a row that was just made -/
theorem run_appM {w W : World} {s : Sl} {us : List Value} (t ty e : TypeId) (i : TypeInfo) (z : Value) (size bytes : Nat) (ht : Try.prog.underlying t = some (.slice e)) (hi : Try.prog.info? e = some i) (hz : i.zero = some z) (hsize : i.size = size) (hby : i.bytes = bytes) (hzs : z.cells.size = size) (hsz : 0 < size)
    (h : Nw w W e size s us) (m : Nat) (cs : List Value) (hm : 0 < m) (hcl : cs.length = m * size) (one : ∀ u ∈ cs, u.oneCell' = true) (h63 : s.n + m ≤ maxLen) (hb : (s.n + m) * bytes ≤ 140737488355328) :
    ∃ s' W', (Builtin.append_ #[t, t] ty #[s.v, .slice (some ⟨W.heap.size, 0, none⟩) m m]).run Try.prog (W.alloc (.cells cs.toArray e)) = .ok (Sl.v s') W' ∧ Nw w W' e size s' (us ++ cs) ∧ s'.n = s.n + m ∧ Apart s.v.ownBlock.toList W W' ∧ ∃ k, s'.p = some ⟨k, 0, none⟩ ∧ s'.n ≤ s'.c ∧ (s.v.ownBlock = some k ∨ W.heap.size ≤ k) := by
  have a1 : Apart [] W (W.alloc (.cells cs.toArray e)) := (Apart.refl [] W).alloc _
  have hcs : ∀ j u, cs[j]? = some u → (W.alloc (.cells cs.toArray e)).cell? ((⟨W.heap.size, 0, none⟩ : Addr).add j) = some u := by
    intro j u hj
    rw [Addr.add_lit, Nat.zero_add, cell_of_row _ _ _ _ _ _ (heap_alloc_new W (.cells cs.toArray e))]
    simpa using hj
  obtain ⟨s', W', hrun, r1, r2, r3, k, r4, r5, r6⟩ := run_appS t ty e i z size bytes ht hi hz hsize hby hzs hsz (h.kept a1) ⟨W.heap.size, 0, none⟩ m m cs hm hcl hcs one h63 hb
  exact ⟨s', W', hrun, r1, r2, (a1.mono (by simp)).trans r3, k, r4, r5, r6.imp id (fun h => Nat.le_trans a1.size h)⟩
end Go.Proofs.Ytllhmidpphlbhaa.ds
namespace Go.Proofs.Ytllhmidpphlbhaa.ds
open Go.ChangeShapes Go.WideShapes Go.ChangeAt Go.RowKit Go.Sort
set_option linter.unusedVariables false
set_option linter.unusedSimpArgs false
/-- only blocks of these types have changed -/
def TK (ts : List Nat) (W W' : World) : Prop := ∃ Z, Apart Z W W' ∧ ∀ k ∈ Z, ∃ cur t, t ∈ ts ∧ W.heap[k]? = some (.cells cur t (0, 0))
theorem TK.of0 {ts : List Nat} {W W' : World} (a : Apart [] W W') : TK ts W W' := ⟨[], a, by simp⟩
theorem TK.trans {ts : List Nat} {W W1 W2 : World} (h : TK ts W W1) (k : TK ts W1 W2) : TK ts W W2 := by
  obtain ⟨Z, a, hz⟩ := h
  obtain ⟨Y, b, hy⟩ := k
  refine ⟨Z ++ Y.filter (fun y => y < W.heap.size), (a.mono (fun x hx => List.mem_append_left _ hx)).trans' b (fun y hyy => ?_), fun k hk => ?_⟩
  · by_cases hs : y < W.heap.size
    · left; simp [hyy, hs]
    · right; omega
  · rcases List.mem_append.1 hk with hk | hk
    · exact hz k hk
    · simp at hk
      by_cases hkz : k ∈ Z
      · exact hz k hkz
      · obtain ⟨cur, t, ht, hh⟩ := hy k hk.1
        exact ⟨cur, t, ht, (a.block k hk.2 hkz).symm.trans hh⟩
theorem TK.mono {ts us : List Nat} {W W' : World} (h : TK ts W W') (hs : ∀ t ∈ ts, t ∈ us) : TK us W W' := by
  obtain ⟨Z, a, hz⟩ := h
  exact ⟨Z, a, fun k hk => by obtain ⟨cur, t, ht, hh⟩ := hz k hk; exact ⟨cur, t, hs t ht, hh⟩⟩
theorem TK.block {ts : List Nat} {W W' : World} (h : TK ts W W') {Y : Nat} {cur : Array Value} {t : TypeId} (hY : W.heap[Y]? = some (.cells cur t (0, 0))) (ht : t ∉ ts) : W'.heap[Y]? = some (.cells cur t (0, 0)) := by
  obtain ⟨Z, a, hz⟩ := h
  refine (a.block Y (lt_of_heap hY) (fun hm => ?_)).trans hY
  obtain ⟨cu, t', ht', hh⟩ := hz Y hm
  rw [hY] at hh
  simp at hh
  exact ht (hh.2 ▸ ht')
theorem TK.nw {ts : List Nat} {w W W' : World} (h : TK ts W W') {e size : Nat} {s : Sl} {us : List Value} (hn : Nw w W e size s us) (ap : Apart [] w W') (ht : e ∉ ts) : Nw w W' e size s us := by
  obtain ⟨Z, a, hz⟩ := h
  refine hn.keepT a ap (fun k hk cur hh => ?_)
  obtain ⟨cu, t', ht', hh'⟩ := hz k hk
  rw [hh] at hh'
  simp at hh'
  exact ht (hh'.2 ▸ ht')
theorem TK.size {ts : List Nat} {W W' : World} (h : TK ts W W') : W.heap.size ≤ W'.heap.size := by obtain ⟨Z, a, _⟩ := h; exact a.size
theorem TK.own {ts : List Nat} {w W W' : World} {e size : Nat} {s : Sl} {us : List Value} (hn : Nw w W e size s us) (a : Apart s.v.ownBlock.toList W W') (he : e ∈ ts) : TK ts W W' :=
  ⟨_, a, fun k hk => by obtain ⟨cur, hc⟩ := own_typ hn.own (k := k) (by simpa using hk); exact ⟨cur, e, he, hc⟩⟩
theorem TK.one {ts : List Nat} {W W' : World} {X : Nat} {cur : Array Value} {t : TypeId} (a : Apart [X] W W') (hX : W.heap[X]? = some (.cells cur t (0, 0))) (he : t ∈ ts) : TK ts W W' :=
  ⟨_, a, fun k hk => by simp at hk; rw [hk]; exact ⟨cur, t, he, hX⟩⟩
def slz : Sl := ⟨none, 0, 0⟩
def gS (l : List Sl) (i : Nat) : Sl := l.getD i slz
def gL {α : Type} (l : List (List α)) (i : Nat) : List α := l.getD i []
theorem gS_l {l : List Sl} {t : Sl} {i : Nat} (h : i < l.length) : gS (l ++ [t]) i = gS l i := by unfold gS; rw [List.getD_eq_getElem?_getD, List.getD_eq_getElem?_getD, List.getElem?_append_left h]
theorem gS_r {l : List Sl} {t : Sl} : gS (l ++ [t]) l.length = t := by unfold gS; rw [List.getD_eq_getElem?_getD, List.getElem?_append_right (Nat.le_refl _), Nat.sub_self]; rfl
theorem gL_l {α : Type} {l : List (List α)} {t : List α} {i : Nat} (h : i < l.length) : gL (l ++ [t]) i = gL l i := by unfold gL; rw [List.getD_eq_getElem?_getD, List.getD_eq_getElem?_getD, List.getElem?_append_left h]
theorem gL_r {α : Type} {l : List (List α)} {t : List α} : gL (l ++ [t]) l.length = t := by unfold gL; rw [List.getD_eq_getElem?_getD, List.getElem?_append_right (Nat.le_refl _), Nat.sub_self]; rfl
/-- a list of lists, each in a block of its own; those from lo on are as told -/
structure RR (w W : World) (te size tl : Nat) (lo : Nat) (s : Sl) (l : List Sl) (c : List (List Value)) : Prop where
  nw : Nw w W tl 1 s (l.map Sl.v)
  len : s.n = l.length
  cl : c.length = l.length
  each : ∀ i, lo ≤ i → i < l.length → Nw w W te size (gS l i) (gL c i)
  dif : ∀ i j, i < j → j < l.length → ∃ k m, (gS l i).v.ownBlock = some k ∧ (gS l j).v.ownBlock = some m ∧ k ≠ m
  has : ∀ i, i < l.length → ∃ k, (gS l i).v.ownBlock = some k ∧ k < W.heap.size ∧ w.heap.size ≤ k
theorem RR.nil {w W : World} {te size tl lo : Nat} (a : Apart [] w W) : RR w W te size tl lo slz [] [] :=
  ⟨⟨World.ownsRow_nil _ _ _ _, by simp [Sl.v, slz, Value.ownBlock], a⟩, rfl, rfl, by simp, by simp, by simp⟩
theorem RR.keep {ts : List Nat} {w W W' : World} {te size tl lo : Nat} {s : Sl} {l : List Sl} {c : List (List Value)} (h : RR w W te size tl lo s l c) (k : TK ts W W') (ap : Apart [] w W') (h1 : te ∉ ts) (h2 : tl ∉ ts) : RR w W' te size tl lo s l c :=
  { h with nw := k.nw h.nw ap h2, each := fun i h0 hi => k.nw (h.each i h0 hi) ap h1, has := fun i hi => by obtain ⟨q, e1, e2, e3⟩ := h.has i hi; exact ⟨q, e1, Nat.lt_of_lt_of_le e2 k.size, e3⟩ }
theorem RR.kept0 {w W W' : World} {te size tl lo : Nat} {s : Sl} {l : List Sl} {c : List (List Value)} (h : RR w W te size tl lo s l c) (a : Apart [] W W') : RR w W' te size tl lo s l c :=
  h.keep (ts := []) (TK.of0 a) (h.nw.ap.trans a) (by simp) (by simp)
/-- one list more -/
theorem RR.push {w W W1 : World} {te size tl : Nat} {s : Sl} {l : List Sl} {c : List (List Value)} (h : RR w W te size tl 0 s l c) (a : Apart [] W W1) (ty ts : TypeId) (i0 : TypeInfo) (htl : te ≠ tl) (hu : Try.prog.underlying ts = some (.slice tl)) (hi : Try.prog.info? tl = some i0) (hz : i0.zero = some (.slice none 0 0)) (hsz : i0.size = 1) (hby : i0.bytes = 24) (t : Sl) (cs : List Value) (hn : Nw W W1 te size t cs) (hp : t.p ≠ none) (hl : l.length ≤ 2000000) :
    ∃ s' W2, (Builtin.append_ #[ts, ts] ty #[.slice s.p s.n s.c, .slice (some ⟨W1.heap.size, 0, none⟩) 1 1]).run Try.prog (W1.alloc (Obj.cells #[.slice t.p t.n t.c] tl)) = .ok (.slice s'.p s'.n s'.c) W2 ∧ RR w W2 te size tl 0 s' (l ++ [t]) (c ++ [cs]) ∧ TK [tl] W1 W2 := by
  have hw1 := h.nw.ap.trans a
  have h1 := h.kept0 a
  have hlen := h.len
  obtain ⟨s5, w5, hrun, hnw5, hs5, ap5, k5, hk5, -, hk6⟩ := run_appM (s := s) ts ty tl i0 _ 1 24 hu hi hz hsz hby rfl (by decide) h1.nw 1 [t.v] (by decide) rfl (fun u hu => by simp at hu; subst hu; rfl) (by unfold maxLen; omega) (by omega)
  have tk : TK [tl] W1 w5 := TK.own h1.nw ap5 (by simp)
  have hap : Apart [] w w5 := hnw5.ap
  obtain ⟨P, hP⟩ : ∃ P, t.v.ownBlock = some P := by
    unfold Sl.v
    cases hq : t.p with
    | none => exact absurd hq hp
    | some A => exact ⟨A.block, rfl⟩
  have hPl : W.heap.size ≤ P := hn.new P hP
  have hPs : P < W1.heap.size := by obtain ⟨cur, hc⟩ := own_typ hn.own hP; exact lt_of_heap hc
  refine ⟨s5, w5, hrun, ⟨by rw [List.map_append]; exact hnw5, by rw [List.length_append, hs5]; simp; omega, by simp [h.cl], fun i _ hi => ?_, fun i j hij hj => ?_, fun i hi => ?_⟩, tk⟩
  · by_cases hil : i < l.length
    · rw [gS_l hil, gL_l (by rw [h.cl]; exact hil)]
      exact tk.nw (h1.each i (Nat.zero_le _) hil) hap (by simpa using htl)
    · have : i = l.length := by simp at hi; omega
      subst this
      rw [gS_r]
      have e2 : gL (c ++ [cs]) l.length = cs := by rw [← h.cl]; exact gL_r
      rw [e2]
      exact tk.nw (hn.from h.nw.ap) hap (by simpa using htl)
  · by_cases hjl : j < l.length
    · rw [gS_l hjl, gS_l (by omega)]
      exact h.dif i j hij hjl
    · have : j = l.length := by simp at hj; omega
      subst this
      rw [gS_r, gS_l hij]
      obtain ⟨q, e1, e2, _⟩ := h.has i hij
      exact ⟨q, P, e1, hP, by omega⟩
  · by_cases hil : i < l.length
    · rw [gS_l hil]
      obtain ⟨q, e1, e2, e3⟩ := h1.has i hil
      exact ⟨q, e1, Nat.lt_of_lt_of_le e2 tk.size, e3⟩
    · have : i = l.length := by simp at hi; omega
      subst this
      rw [gS_r]
      exact ⟨P, hP, Nat.lt_of_lt_of_le hPs tk.size, Nat.le_trans h.nw.ap.size hPl⟩
/-- the first of those that are as told is written over -/
theorem RR.kill {w W W' : World} {te size tl lo P : Nat} {s : Sl} {l : List Sl} {c : List (List Value)} (h : RR w W te size tl lo s l c) (hlo : lo < l.length) (hP : (gS l lo).v.ownBlock = some P) (a : Apart [P] W W') (hPt : ∃ cur, W.heap[P]? = some (.cells cur te (0, 0))) (ht : te ≠ tl) : RR w W' te size tl (lo + 1) s l c := by
  obtain ⟨cur, hPt⟩ := hPt
  have hPw : w.heap.size ≤ P := by obtain ⟨q, e1, _, e3⟩ := h.has lo hlo; rw [hP] at e1; simp at e1; omega
  have ap : Apart [] w W' := h.nw.ap.trans' a (fun y hy => by simp at hy; exact .inr (by omega))
  refine { h with nw := h.nw.keepT a ap (fun k hk cu hh => ?_), each := fun i h0 hi => ⟨own_apart (h.each i (by omega) hi).own a (fun k hk hm => ?_), (h.each i (by omega) hi).new, ap⟩, has := fun i hi => ?_ }
  · simp at hk
    rw [hk, hPt] at hh
    simp at hh
    exact ht hh.2
  · obtain ⟨k1, m1, e1, e2, e3⟩ := h.dif lo i (by omega) hi
    rw [hP] at e1
    rw [hk] at e2
    simp at e1 e2 hm
    omega
  · obtain ⟨q, e1, e2, e3⟩ := h.has i hi
    exact ⟨q, e1, Nat.lt_of_lt_of_le e2 a.size, e3⟩
end Go.Proofs.Ytllhmidpphlbhaa.ds
namespace Go.Proofs.Ytllhmidpphlbhaa.ds
open Go.ChangeShapes Go.WideShapes Go.ChangeAt Go.RowKit Go.Sort
set_option linter.unusedVariables false
set_option linter.unusedSimpArgs false

theorem results_tmp_row {P : Program} {fn : Func} {p u : Tmp} {ty : TypeId} (h : fn.results = #[.tmp u, .cell p ty]) (tmps : Array Value) (w : World) (g : Nat) (t : TypeId) (cs : Array Value) (fr : Nat × Nat) (d : TypeDesc)
    (hp : tmps.getD p undef = .pointer (some ⟨g, 0, none⟩)) (hg : w.heap[g]? = some (.cells cs t fr))
    (hu : P.underlying ty = some d) (hd : (match d with | .struct _ | .array _ _ => true | _ => false) = true) (hi : (P.info? ty).map (·.size) = some cs.size) :
    (results fn tmps).run P w = .ok (.tuple #[tmps.getD u undef, .agg cs]) w := by
  have hp' : tmps[p]?.getD undef = .pointer (some ⟨g, 0, none⟩) := by simpa using hp
  simp [results, h, hp', asAddr, run_loadVar_row w g t ty cs fr d hg hu hd hi, Sem.run_bind, Result.andThen]
theorem results_tmp_row_tmp {P : Program} {fn : Func} {p u v : Tmp} {ty : TypeId} (h : fn.results = #[.tmp u, .cell p ty, .tmp v]) (tmps : Array Value) (w : World) (g : Nat) (t : TypeId) (cs : Array Value) (fr : Nat × Nat) (d : TypeDesc)
    (hp : tmps.getD p undef = .pointer (some ⟨g, 0, none⟩)) (hg : w.heap[g]? = some (.cells cs t fr))
    (hu : P.underlying ty = some d) (hd : (match d with | .struct _ | .array _ _ => true | _ => false) = true) (hi : (P.info? ty).map (·.size) = some cs.size) :
    (results fn tmps).run P w = .ok (.tuple #[tmps.getD u undef, .agg cs, tmps.getD v undef]) w := by
  have hp' : tmps[p]?.getD undef = .pointer (some ⟨g, 0, none⟩) := by simpa using hp
  simp [results, h, hp', asAddr, run_loadVar_row w g t ty cs fr d hg hu hd hi, Sem.run_bind, Result.andThen]
/-- the last clock: its range, its set's cells -/
def lastC (cs : List (Nat × List S)) : Nat × List S := cs.getLast?.getD (0, [])
theorem lastC_snoc (cs : List (Nat × List S)) (x : Nat × List S) : lastC (cs ++ [x]) = x := by unfold lastC; rw [List.getLast?_concat]; rfl
theorem clocksR_succ (B : List Nat) (m lo : Nat) (s : Ps) (hm : 0 < m) : clocksR B m lo s = ((clockR B lo s).1 :: (clocksR B (m - 1) ((clockR B lo s).1.1 + 1) (clockR B lo s).2).1, (clocksR B (m - 1) ((clockR B lo s).1.1 + 1) (clockR B lo s).2).2) := by
  obtain ⟨k, rfl⟩ : ∃ k, m = k + 1 := ⟨m - 1, by omega⟩
  rfl
theorem clockR_xs (B : List Nat) (lo : Nat) (s : Ps) : (clockR B lo s).1.2.length ≤ 8 := (setR_at B _ _ _).2.2
def csL (cs : List (Nat × List S)) : List Value := setL (lastC cs).2 (lastC cs).2.length
/-- the walk over clocks -/
structure CI (w wt : World) (R P o c : Nat) (B : List Nat) (m : Nat) (s : Ps) (D Y : Nat) (i lo : Nat) (si : Ps) (cs : List (Nat × List S)) : Prop where
  im : i ≤ m
  r : PR wt R P o c B si
  a : Apart [R] w wt
  room : si.bad = false → si.at_ + 106 * (m - i) ≤ 2048
  e : clocksR B m 0 s = (cs ++ (clocksR B (m - i) lo si).1, (clocksR B (m - i) lo si).2)
  bd : wt.heap[D]? = some (.cells (setL [] 0).toArray 103 (0, 0))
  by_ : wt.heap[Y]? = some (.cells (csL cs).toArray 103 (0, 0))
  x8 : (lastC cs).2.length ≤ 8
  lim : lo ≤ 16
theorem CI.step {w wt w1 : World} {R P o c : Nat} {B : List Nat} {m : Nat} {s : Ps} {D Y : Nat} {i lo : Nat} {si : Ps} {cs : List (Nat × List S)} (h : CI w wt R P o c B m s D Y i lo si cs) (hi : i < m) (r : PR w1 R P o c B (clockR B lo si).2) (a : Apart [R] wt w1) (hD : D ≠ R) (hY : Y ≠ R) (hDY : Y ≠ D) (hP : P ≠ Y) (hw : w.heap.size ≤ Y) (z : World) (hz : z = w1.setCells Y 0 (setL (clockR B lo si).1.2 (clockR B lo si).1.2.length)) : CI w z R P o c B m s D Y (i + 1) ((clockR B lo si).1.1 + 1) (clockR B lo si).2 (cs ++ [(clockR B lo si).1]) := by
  have b := apart_setCells (g := Y) (X := [Y]) (setL (clockR B lo si).1.2 (clockR B lo si).1.2.length) 0 w1 (Apart.refl _ _) (.inl (by simp))
  rw [← hz] at b
  have hat := clockR_at B lo si
  have hx := clockR_xs B lo si
  refine ⟨by omega, r.kept b (by simp; exact fun e => hY e.symm) (by simp; exact hP), (h.a.trans a).trans' b (by intro y hy; simp at hy; rw [hy]; exact .inr hw), fun hb => ?_, ?_, keepB b (keepB a h.bd hD) (fun e => hDY e.symm), ?_, by rw [lastC_snoc]; exact hx, by omega⟩
  · have : si.bad = false := by
      cases hx : si.bad with
      | false => rfl
      | true => rw [clockR_bad B lo hx] at hb; rw [hx] at hb; cases hb
    have := h.room this
    have : m - i = m - (i + 1) + 1 := by omega
    rw [this] at *
    omega
  · rw [h.e, clocksR_succ B (m - i) lo si (by omega), show m - (i + 1) = m - i - 1 from by omega]
    simp
  · have h1 := heap_setCells_same (setL (clockR B lo si).1.2 (clockR B lo si).1.2.length) 0 w1 _ (keepB a h.by_ hY)
    rw [spl_all (by unfold csL; rw [List.size_toArray, setL_len h.x8, setL_len hx])] at h1
    rw [hz]
    unfold csL
    rw [lastC_snoc]; exact h1
set_option maxHeartbeats 8000000 in
set_option maxRecDepth 100000 in
theorem clocks_ok {w : World} {R P o c : Nat} {B : List Nat} {s : Ps} (h : PR w R P o c B s) (m : Nat) (hm : m ≤ 1000) (hr : s.bad = false → s.at_ + 106 * m ≤ 2048) :
    Calls Try.prog 48 #[.pointer (some ⟨R, 0, none⟩), .int .i64 (m : Nat)] w fun e w' => PO w w' R P o c B e (.tuple #[.int .i64 ((lastC (clocksR B m 0 s).1).1 : Nat), .agg (csL (clocksR B m 0 s).1).toArray]) (clocksR B m 0 s).2 ∧ (lastC (clocksR B m 0 s).1).2.length ≤ 8 := by
  have HR := hid h
  have HA : Hid (Apart [R] w w) := Apart.refl _ _
  have HRM := hid hr
  clear h hr
  obtain ⟨D, HXD⟩ : ∃ X, Hid (X = w.heap.size) := ⟨_, rfl⟩
  obtain ⟨w1, hw1⟩ : ∃ W, W = w.alloc (.cells #[.int .i64 0, .int .i64 0, .int .u64 0, .int .i64 0, .int .i64 0, .int .u64 0, .int .i64 0, .int .i64 0, .int .u64 0, .int .i64 0, .int .i64 0, .int .u64 0, .int .i64 0, .int .i64 0, .int .u64 0, .int .i64 0, .int .i64 0, .int .u64 0, .int .i64 0, .int .i64 0, .int .u64 0, .int .i64 0, .int .i64 0, .int .u64 0, .int .i64 0] 103) := ⟨_, rfl⟩
  have HSw1 : Hid (Apart [] w w1) := by unfold Hid; rw [hw1]; exact (Apart.refl [] w).alloc _
  have HBD : Hid (w1.heap[D]? = some (.cells #[.int .i64 0, .int .i64 0, .int .u64 0, .int .i64 0, .int .i64 0, .int .u64 0, .int .i64 0, .int .i64 0, .int .u64 0, .int .i64 0, .int .i64 0, .int .u64 0, .int .i64 0, .int .i64 0, .int .u64 0, .int .i64 0, .int .i64 0, .int .u64 0, .int .i64 0, .int .i64 0, .int .u64 0, .int .i64 0, .int .i64 0, .int .u64 0, .int .i64 0] 103 (0, 0))) := by unfold Hid; rw [HXD.out, hw1]; exact heap_alloc_new w _
  have HND_R : Hid (D ≠ R) := by unfold Hid; have := lt_of_heap HR.out.blk; rw [HXD.out]; omega
  have HND_P : Hid (P ≠ D) := by unfold Hid; have := HR.out.lt; rw [HXD.out]; omega
  have HLD : Hid (w.heap.size ≤ D) := by unfold Hid; rw [HXD.out]; exact HA.out.size
  replace HR := hid (HR.out.kept0 HSw1.out)
  replace HA := hid (HA.out.trans (HSw1.out.mono (by simp)))
  replace HBD : Hid (w1.heap[D]? = some (.cells (setL [] 0).toArray 103 (0, 0))) := HBD
  obtain ⟨Y, HXY⟩ : ∃ X, Hid (X = w1.heap.size) := ⟨_, rfl⟩
  obtain ⟨w2, hw2⟩ : ∃ W, W = w1.alloc (.cells #[.int .i64 0, .int .i64 0, .int .u64 0, .int .i64 0, .int .i64 0, .int .u64 0, .int .i64 0, .int .i64 0, .int .u64 0, .int .i64 0, .int .i64 0, .int .u64 0, .int .i64 0, .int .i64 0, .int .u64 0, .int .i64 0, .int .i64 0, .int .u64 0, .int .i64 0, .int .i64 0, .int .u64 0, .int .i64 0, .int .i64 0, .int .u64 0, .int .i64 0] 103) := ⟨_, rfl⟩
  have HSw2 : Hid (Apart [] w1 w2) := by unfold Hid; rw [hw2]; exact (Apart.refl [] w1).alloc _
  have HBY : Hid (w2.heap[Y]? = some (.cells #[.int .i64 0, .int .i64 0, .int .u64 0, .int .i64 0, .int .i64 0, .int .u64 0, .int .i64 0, .int .i64 0, .int .u64 0, .int .i64 0, .int .i64 0, .int .u64 0, .int .i64 0, .int .i64 0, .int .u64 0, .int .i64 0, .int .i64 0, .int .u64 0, .int .i64 0, .int .i64 0, .int .u64 0, .int .i64 0, .int .i64 0, .int .u64 0, .int .i64 0] 103 (0, 0))) := by unfold Hid; rw [HXY.out, hw2]; exact heap_alloc_new w1 _
  have HNY_R : Hid (Y ≠ R) := by unfold Hid; have := lt_of_heap HR.out.blk; rw [HXY.out]; omega
  have HNY_P : Hid (P ≠ Y) := by unfold Hid; have := HR.out.lt; rw [HXY.out]; omega
  have HNY_D : Hid (Y ≠ D) := by unfold Hid; have := lt_of_heap HBD.out; rw [HXY.out]; omega
  have HLY : Hid (w.heap.size ≤ Y) := by unfold Hid; rw [HXY.out]; exact HA.out.size
  replace HR := hid (HR.out.kept0 HSw2.out)
  replace HA := hid (HA.out.trans (HSw2.out.mono (by simp)))
  replace HBD := hid (keep0 HSw2.out HBD.out)
  have heY : D + 1 = Y := by rw [HXY.out, hw1, HXD.out]; exact (Array.size_push _).symm
  replace HBY : Hid (w2.heap[Y]? = some (.cells (setL [] 0).toArray 103 (0, 0))) := HBY
  go_enter Try.func48, Try.ntmps48
  go_upto_region 3 with fail
  rw [← hw1, ← HXD.out, ← hw2, heY]
  clear hw1 HXD hw2 HXY heY
  have HI : Hid (CI w w2 R P o c B m s D Y 0 0 s []) := ⟨Nat.zero_le _, HR.out, HA.out, fun hb => by have := HRM.out hb; simpa using this, by simp, HBD.out, HBY.out, by decide, by omega⟩
  clear HR HA HBD HBY
  go_wp2_with fail
  go_loopw [6, 8, 10] (fun l u v wt => ∃ (i lo : Nat) (si : Ps) (cs : List (Nat × List S)), l = .int .i64 ((lastC cs).1 : Nat) ∧ u = .int .i64 (lo : Nat) ∧ v = .int .i64 (i : Nat) ∧ CI w wt R P o c B m s D Y i lo si cs) (fun _ _ v _ => m - (intOf v).toNat)
  case atStart => exact ⟨0, 0, s, [], rfl, rfl, rfl, HI.out⟩
  case round =>
    obtain ⟨i, lo, si, cs, rfl, rfl, rfl, hI⟩ := hrel
    have HJ := hid hI
    have him := hI.im
    clear hI HI
    by_cases hlt : i < m
    · have hlti : ((i : Nat) : Int) < (m : Int) := by omega
      have hroom : si.bad = false → si.at_ + 106 ≤ 2048 := fun hb => by
        have := HJ.out.room hb
        rw [show m - i = m - (i + 1) + 1 from by omega] at this
        omega
      have HC := hid (number_ok HJ.out.r 1 lo 15 ⟨by omega, by omega⟩ (fun hb => by have := hroom hb; omega) (by have := HJ.out.lim; omega) (by omega))
      have HC2 := fun W (hW : PR W R P o c B (num B 1 lo 15 si).2) => hid (set_ok hW 0 0 (fun hb => by have := hroom (num_ok1 hb); have := num_at B 1 lo 15 si; omega) (by omega) (by omega))
      clear hroom
      have HN := hid (num_le B 1 lo 15 si)
      have HCK : Hid (clockR B lo si = (((num B 1 lo 15 si).1, (setR B 0 0 (num B 1 lo 15 si).2).1), (setR B 0 0 (num B 1 lo 15 si).2).2)) := rfl
      have HST := fun w1 r a z hz => hid (HJ.out.step (w1 := w1) hlt r a HND_R.out HNY_R.out HNY_D.out HNY_P.out HLY.out z hz)
      have hx := clockR_xs B lo si
      rw [HCK.out] at HST hx
      go_wp2_with fail
      refine HC.out.mono ?_
      rintro _ w8 ⟨rfl, r8, a8⟩
      have HR8 := hid r8
      have HA8 := hid a8
      clear r8 a8 HC
      dsimp only
      go_wp2_with fail
      refine (HC2 _ HR8.out).out.mono ?_
      rintro _ w9 ⟨rfl, r9, a9⟩
      have HA9 := hid (HA8.out.trans a9)
      have HS := fun z hz => HST w9 r9 HA9.out z hz
      have HBY9 := hid (keepB HA9.out HJ.out.by_ HNY_R.out)
      clear r9 a9 HC2 HST
      dsimp only
      generalize num B 1 lo 15 si = x at *
      obtain ⟨n, s8⟩ := x
      dsimp only at HS hx HN ⊢
      generalize setR B 0 0 s8 = x at *
      obtain ⟨xs, s'⟩ := x
      dsimp only at HS hx ⊢
      rename_i K1 hK1
      refine hK1 _ _ ?_
      clear hK1
      refine wpList_cutat 0 (fun a' w' => Hid (wpList _ _ _ (List.drop 0 _) a' w')) (fun T hT => ?_) (fun _ _ h => h)
      dsimp only [List.take, List.cons_append, List.nil_append, List.append]
      go_wp2_with fail
      refine hT _ _ ?_
      clear hT T
      unfold Hid
      dsimp only [List.drop]
      refine wpList_store_mid rfl 103 (.tmp 7) (.tmp 17) rfl Y 0 (setL xs xs.length).toArray rfl rfl (there_of HBY9.out _ _ (by unfold csL; rw [List.size_toArray, List.size_toArray, setL_len HJ.out.x8, setL_len hx]; omega)) (isz hx) (setL_one _ _) ?_
      obtain ⟨z, hz⟩ : ∃ z, z = w9.setCells Y 0 (setL xs xs.length) := ⟨_, rfl⟩
      rw [show (setL xs xs.length).toArray.toList = setL xs xs.length from rfl, ← hz]
      replace HS := HS z hz
      clear hz HBY9 hx
      obtain ⟨l2, Hl2⟩ : ∃ l2, Hid (l2 = n + 1) := ⟨_, rfl⟩
      have hwx : IntKind.i64.wrap ((n : Int) + 1) = (l2 : Int) := by rw [IntKind.wrap_i64, Hl2.out]; have := HN.out; omega
      go_wp2_with fail
      go_roundw
      case rel => exact ⟨i + 1, n + 1, s', cs ++ [(n, xs)], by rw [lastC_snoc], by rw [← Hl2.out], by go_num, HS.out⟩
      case measure => simp [intOf]; omega
    · have hlti : ¬ ((i : Nat) : Int) < (m : Int) := by omega
      have hime : i = m := by omega
      have HE2 : Hid (clocksR B m 0 s = (cs, si)) := by
        unfold Hid
        rw [HJ.out.e, hime, Nat.sub_self]
        show (cs ++ [], si) = _
        rw [List.append_nil]
      have hx : (csL cs).length = 25 := setL_len HJ.out.x8
      have HX8 := hid HJ.out.x8
      obtain ⟨l, Hl⟩ : ∃ l, Hid (l = (lastC cs).1) := ⟨_, rfl⟩
      rw [← Hl.out]
      obtain ⟨z, hz⟩ : ∃ z, z = wr.setCells D 0 (csL cs).toArray.toList := ⟨_, rfl⟩
      have b : Apart [D] wr z := by rw [hz]; exact apart_setCells _ _ _ (Apart.refl _ _) (.inl (by simp))
      have HRz := hid (HJ.out.r.kept b (by simp; exact HND_R.out.symm) (by simp; exact HND_P.out))
      have HAz := hid (HJ.out.a.trans' b (by intro y hy; simp at hy; rw [hy]; exact .inr HLD.out))
      have HBz : Hid (z.heap[D]? = some (.cells (csL cs).toArray 103 (0, 0))) := by
        unfold Hid; rw [hz]
        have := heap_setCells_same (csL cs).toArray.toList 0 wr _ HJ.out.bd
        rw [spl_all (by rw [Array.length_toList, List.size_toArray, List.size_toArray, hx, setL_len (by simp)])] at this
        exact this
      have HI4 : Hid ((Try.prog.info? 103).map (·.size) = some (csL cs).length) := by unfold Hid; rw [size103, hx]
      have HI3 : Hid ((Try.prog.info? 103).map (·.size) = some (csL cs).toArray.size) := by unfold Hid; rw [size103, List.size_toArray, hx]
      have HX := hid hx
      clear b hx hz HBz HRz HAz z
      go_upto_region 10 with fail
      refine wp_region_held_drew (S := fun W => W.rangeAt Y 0 (csL cs)) (by kernel_rfl) (range_of (keep0 (Apart.refl [] wr).drew HJ.out.by_)) (fun hHeld => ?_)
      have Twd : Hid (Apart [] wr wr.drew) := (Apart.refl [] wr).drew
      generalize wr.drew = wd at *
      refine tk 0 21 (.int .i64 (l : Nat)) rfl ?_ ?_
      · intro W hSW; go_simp
      simp only [Act.put, List.setIfInBounds_toArray, List.set_cons_zero, List.set_cons_succ]
      refine wpAnyH_take (i := 1) (oi := ⟨some 22, _, _, _, _, _⟩) (v := .agg (csL cs).toArray) rfl (by kernel_rfl) (by kernel_rfl) (by kernel_rfl) (fun _ _ _ h => h) (yieldsIf_load_mid (by rfl) 103 (.tmp 7) rfl Y 0 rfl (csL cs) _ (fun _ h => h) Try.underlying103 rfl HI4.out) (by assumption) ?_
      simp only [Act.put, List.setIfInBounds_toArray, List.set_cons_zero, List.set_cons_succ]
      refine tk 2 4 (.int .i64 (l : Nat)) rfl ?_ ?_
      · intro W hSW; go_simp
      simp only [Act.put, List.setIfInBounds_toArray, List.set_cons_zero, List.set_cons_succ]
      refine wpAnyH_ready (rs := [3]) (by kernel_rfl) (by simp) ?_
      refine AllReadyH.cons rfl (fun KK hKK => ?_) AllReadyH.nil
      have HBDd := hid (keep0 Twd.out HJ.out.bd)
      have HBYd := hid (keep0 Twd.out HJ.out.by_)
      refine wp_store_mid 103 (.tmp 5) (.tmp 22) rfl D 0 (csL cs).toArray rfl rfl (there_of HBDd.out _ _ (by rw [List.size_toArray, List.size_toArray, HX.out, setL_len (by simp)]; omega)) HI3.out (setL_one _ _) ?_
      rw [show (csL cs).toArray.toList = csL cs from rfl]
      obtain ⟨z, hz⟩ : ∃ z, z = wd.setCells D 0 (csL cs) := ⟨_, rfl⟩
      rw [← hz]
      have b : Apart [D] wd z := by rw [hz]; exact apart_setCells _ _ _ (Apart.refl _ _) (.inl (by simp))
      have HRz := hid ((HJ.out.r.kept0 Twd.out).kept b (by simp; exact HND_R.out.symm) (by simp; exact HND_P.out))
      have HAz := hid ((HJ.out.a.trans (Twd.out.mono (by simp))).trans' b (by intro y hy; simp at hy; rw [hy]; exact .inr HLD.out))
      have HBz : Hid (z.heap[D]? = some (.cells (csL cs).toArray 103 (0, 0))) := by
        unfold Hid; rw [hz]
        have := heap_setCells_same (csL cs) 0 wd _ HBDd.out
        rw [spl_all (by rw [List.size_toArray, HX.out, setL_len (by simp)])] at this
        exact this
      refine hKK.out _ _ (range_of (keepB b HBYd.out HNY_D.out)) (fun hHeld => ?_)
      clear hKK KK b hz
      refine wpAnyH_done (by kernel_rfl) ?_ _
      clear hHeld
      go_wp2_with fail
      refine bodyPost_ret (results_tmp_row rfl _ _ D 103 _ _ _ rfl HBz.out Try.underlying103 rfl HI3.out) rfl ?_
      rw [HE2.out]
      exact ⟨⟨by rw [← Hl.out]; rfl, HRz.out, HAz.out⟩, HX8.out⟩
end Go.Proofs.Ytllhmidpphlbhaa.ds
