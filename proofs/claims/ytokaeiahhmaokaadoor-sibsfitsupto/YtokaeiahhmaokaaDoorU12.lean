import Derived.Test.YtokaeiahhmaokaaDoorU11
import Derived.Laws.CopyOwn
import Derived.Lib.Overlaps
import Derived.Lib.AppendZerosOnto
import Derived.Laws.NewBlocks
import Derived.Laws.Externs
import Derived.Laws.IdiomCopy
import Derived.Test.YtokaeiahhmaokaaDoorU8
import Derived.Test.YtokaeiahhmaokaaDoorU9
import Derived.Laws.BytesString
import Derived.RangeFuncNested
import Derived.RangeFuncBound
import Derived.RangeFuncCalls
import Derived.RangeFuncLeaves
import Derived.Shelf.Abstract
import Derived.Shelf.RegionOpen
import Derived.WalkKit
import Derived.OwnWalkIn
import Derived.TacticsInMore
import Derived.LoopNIn
import Derived.LoopIn
namespace Go.Proofs.YtokaeiahhmaokaaDoor.ds
open Go.ChangeShapes Go.WideShapes Go.ChangeAt Go.RowKit Go.Sort
set_option linter.unusedVariables false
set_option linter.unusedSimpArgs false
theorem Rd.det {w : World} {p : Option Addr} {us vs : List Value} (h : Rd w p us) (h' : Rd w p vs) (hl : us.length = vs.length) : us = vs := by
  by_cases h0 : 0 < us.length
  · obtain ⟨P, o, e1, _, hc⟩ := h h0
    obtain ⟨P', o', e2, _, hc'⟩ := h' (by omega)
    rw [e1] at e2
    simp at e2
    obtain ⟨rfl, rfl⟩ := e2
    apply List.ext_getElem hl
    intro j h1 h2
    have a := hc j _ (List.getElem?_eq_getElem h1)
    have b := hc' j _ (List.getElem?_eq_getElem h2)
    rw [a] at b
    simpa using b
  · rw [List.length_eq_zero_iff.1 (by omega : us.length = 0), List.length_eq_zero_iff.1 (by omega : vs.length = 0)]
theorem byts_inj : ∀ {a b : List Nat}, byts a = byts b → a = b
  | [], [], _ => rfl
  | [], _ :: _, h => by simp [byts] at h
  | _ :: _, [], h => by simp [byts] at h
  | x :: a, y :: b, h => by
    simp only [byts, List.map_cons, List.cons.injEq, Value.int.injEq] at h
    have h1 : x = y := by have := h.1.2; omega
    rw [h1, byts_inj (a := a) (b := b) h.2]
theorem flat_inj : ∀ {a b : List S}, flat a = flat b → a = b
  | [], [], _ => rfl
  | [], _ :: _, h => by simp [flat, ec] at h
  | _ :: _, [], h => by simp [flat, ec] at h
  | x :: a, y :: b, h => by
    have e : ∀ z l, flat (z :: l) = ec z ++ flat l := fun z l => rfl
    rw [e, e] at h
    simp only [ec, List.cons_append, List.nil_append, List.cons.injEq, Value.int.injEq] at h
    obtain ⟨h1, h2, h3, h4⟩ := h
    rw [flat_inj h4]
    cases x; cases y
    simp only at h1 h2 h3
    rw [h1.2, h2.2, Int.ofNat.inj h3.2]
theorem Reads.det {w : World} {e : E} {r q : Wr} (h : Reads w e r) (h' : Reads w e q) : r = q := by
  have e1 := byts_inj (Rd.det h.v h'.v (by simp [byts]; rw [h.vn, h'.vn]))
  have e2 := flat_inj (Rd.det h.x.rd h'.x.rd (by rw [flat_length, flat_length, h.x.len, h'.x.len]))
  have a1 := h.n.symm.trans h'.n
  have a2 := h.c.symm.trans h'.c
  have a3 := h.k.symm.trans h'.k
  have a4 := h.d.symm.trans h'.d
  cases r; cases q
  simp only at a1 a2 a3 a4 e1 e2
  subst a1; subst a2; subst a3; subst a4; subst e1; subst e2; rfl
open Classical in
/-- how a write reads -/
noncomputable def RW (w : World) (t : E) : Wr := if h : ∃ r, Reads w t r then h.choose else Wr.z
theorem RW_eq {w : World} {t : E} {r : Wr} (h : Reads w t r) : RW w t = r := by
  unfold RW
  rw [dif_pos ⟨r, h⟩]
  exact Reads.det (Exists.choose_spec (⟨r, h⟩ : ∃ r, Reads w t r)) h
theorem RW_reads {w : World} {t : E} {r : Wr} (h : Reads w t r) : Reads w t (RW w t) := by rw [RW_eq h]; exact h
/-- merging, as the writes read -/
noncomputable def cvW (t u : Wr) : Bool := keq t.k u.k && hasd t.xs u.n u.c
def belowW (a b : Wr) : Bool := decide (a.n < b.n) || (decide (a.n = b.n) && decide (a.c < b.c))
def deqW (a b : Wr) : Bool := decide (a.n = b.n) && decide (a.c = b.c)
noncomputable def leftW (rs : List Wr) (u : Wr) : List Wr := rs.filter fun t => !cvW u t
def insW (u : Wr) : List Wr → List Wr
  | [] => [u]
  | x :: l => if belowW u x = true then u :: x :: l else x :: insW u l
noncomputable def mergeW (rs : List Wr) (u : Wr) : List Wr := if (leftW rs u).any (fun t => cvW t u) = true then leftW rs u else insW u (leftW rs u)
noncomputable def merrW (rs : List Wr) (u : Wr) (lim : Int) : Int := if rs.any (fun t => !keq t.k u.k) = true then 50 else if rs.any (fun t => deqW t u) = true then 0 else if lim < (mergeW rs u).length then 51 else 0
noncomputable def mlistW (rs : List Wr) (u : Wr) (lim : Int) : List Wr := if rs.any (fun t => !keq t.k u.k) = true then [] else if rs.any (fun t => deqW t u) = true then rs else if lim < (mergeW rs u).length then [] else mergeW rs u
/-- the dot and the key are the write's -/
structure As (e : E) (r : Wr) : Prop where
  n : e.n = r.n
  c : e.c = r.c
  k : e.k = r.k
theorem Reads.as {w : World} {e : E} {r : Wr} (h : Reads w e r) : As e r := ⟨h.n, h.c, h.k⟩
theorem any_R {f : E → Bool} {g : Wr → Bool} {R : E → Wr} : ∀ (es : List E), (∀ t ∈ es, f t = g (R t)) → es.any f = (es.map R).any g
  | [], _ => rfl
  | x :: l, h => by
    simp only [List.any_cons, List.map_cons]
    rw [h x (by simp), any_R l (fun t ht => h t (by simp [ht]))]
theorem filter_R {f : E → Bool} {g : Wr → Bool} {R : E → Wr} : ∀ (es : List E), (∀ t ∈ es, f t = g (R t)) → (es.filter f).map R = (es.map R).filter g
  | [], _ => rfl
  | x :: l, h => by
    have ih := filter_R (f := f) (g := g) (R := R) l (fun t ht => h t (by simp [ht]))
    have hx := h x (by simp)
    simp only [List.filter_cons, List.map_cons]
    rw [← hx]
    split
    · simp [ih]
    · exact ih
theorem insE_R {R : E → Wr} {u : E} : ∀ (es : List E), (∀ t ∈ es, below u t = belowW (R u) (R t)) → (insE u es).map R = insW (R u) (es.map R)
  | [], _ => rfl
  | x :: l, h => by
    have ih := insE_R (R := R) (u := u) l (fun t ht => h t (by simp [ht]))
    have hx := h x (by simp)
    simp only [insE, insW, List.map_cons]
    rw [← hx]
    split
    · simp
    · simp [ih]
theorem as_below {u t : E} {a b : Wr} (h : As u a) (k : As t b) : below u t = belowW a b := by unfold below belowW; rw [h.n, h.c, k.n, k.c]
theorem as_deq {u t : E} {a b : Wr} (h : As u a) (k : As t b) : deq u t = deqW a b := by unfold deq deqW; rw [h.n, h.c, k.n, k.c]
theorem as_cv {u t : E} {a b : Wr} (h : As u a) (k : As t b) : cvE a.xs u t = cvW a b := by unfold cvE cvW; rw [h.k, k.n, k.c, k.k]
theorem left_W {R : E → Wr} {es : List E} {u : E} (h : ∀ t ∈ es, As t (R t)) (hu : As u (R u)) : (leftE (fun t => (R t).xs) es u).map R = leftW (es.map R) (R u) := by
  unfold leftE leftW
  exact filter_R es (fun t ht => by rw [as_cv hu (h t ht)])
theorem merge_W {R : E → Wr} {es : List E} {u : E} (h : ∀ t ∈ es, As t (R t)) (hu : As u (R u)) : (mergeE (fun t => (R t).xs) es u).map R = mergeW (es.map R) (R u) := by
  have hl : ∀ t ∈ leftE (fun t => (R t).xs) es u, As t (R t) := fun t ht => h t (List.mem_filter.1 ht).1
  unfold mergeE mergeW
  rw [← left_W h hu, ← any_R (f := fun t => cvE (R t).xs t u) (g := fun t => cvW t (R u)) (R := R) _ (fun t ht => as_cv (hl t ht) hu)]
  split
  · rfl
  · exact insE_R _ (fun t ht => as_below hu (hl t ht))
theorem merge_len {R : E → Wr} {es : List E} {u : E} (h : ∀ t ∈ es, As t (R t)) (hu : As u (R u)) : (mergeE (fun t => (R t).xs) es u).length = (mergeW (es.map R) (R u)).length := by
  rw [← merge_W h hu]; simp
theorem merr_W {R : E → Wr} {es : List E} {u : E} {lim : Int} (h : ∀ t ∈ es, As t (R t)) (hu : As u (R u)) : merr (fun t => (R t).xs) es u lim = merrW (es.map R) (R u) lim := by
  unfold merr merrW
  rw [← any_R (f := fun t => !keq t.k u.k) (g := fun t => !keq t.k (R u).k) (R := R) es (fun t ht => by rw [(h t ht).k, hu.k]), ← any_R (f := fun t => deq t u) (g := fun t => deqW t (R u)) (R := R) es (fun t ht => as_deq (h t ht) hu), merge_len h hu]
theorem mlist_W {R : E → Wr} {es : List E} {u : E} {lim : Int} (h : ∀ t ∈ es, As t (R t)) (hu : As u (R u)) : (mlist (fun t => (R t).xs) es u lim).map R = mlistW (es.map R) (R u) lim := by
  unfold mlist mlistW
  rw [← any_R (f := fun t => !keq t.k u.k) (g := fun t => !keq t.k (R u).k) (R := R) es (fun t ht => by rw [(h t ht).k, hu.k]), ← any_R (f := fun t => deq t u) (g := fun t => deqW t (R u)) (R := R) es (fun t ht => as_deq (h t ht) hu), merge_len h hu]
  split
  · rfl
  · split
    · rfl
    · split
      · rfl
      · exact merge_W h hu
end Go.Proofs.YtokaeiahhmaokaaDoor.ds
namespace Go.Proofs.YtokaeiahhmaokaaDoor.ds
open Go.ChangeShapes Go.WideShapes Go.ChangeAt Go.RowKit Go.Sort
set_option linter.unusedVariables false
set_option linter.unusedSimpArgs false
/-- several more at a list's end -/
theorem run_appS {w W : World} {s : Sl} {us : List Value} (t ty e : TypeId) (i : TypeInfo) (z : Value) (size bytes : Nat) (ht : Tryd.prog.underlying t = some (.slice e)) (hi : Tryd.prog.info? e = some i) (hz : i.zero = some z) (hsize : i.size = size) (hby : i.bytes = bytes) (hzs : z.cells.size = size) (hsz : 0 < size)
    (h : Nw w W e size s us) (ad : Addr) (m c : Nat) (cs : List Value) (hm : 0 < m) (hcl : cs.length = m * size) (hcs : ∀ j u, cs[j]? = some u → W.cell? (ad.add j) = some u) (one : ∀ u ∈ cs, u.oneCell' = true) (h63 : s.n + m ≤ maxLen) (hb : (s.n + m) * bytes ≤ 140737488355328) :
    ∃ s' W', (Builtin.append_ #[t, t] ty #[s.v, .slice (some ad) m c]).run Tryd.prog W = .ok (Sl.v s') W' ∧ Nw w W' e size s' (us ++ cs) ∧ s'.n = s.n + m ∧ Apart s.v.ownBlock.toList W W' ∧ ∃ k, s'.p = some ⟨k, 0, none⟩ ∧ s'.n ≤ s'.c ∧ (s.v.ownBlock = some k ∨ W.heap.size ≤ k) := by
  have key : ∃ v' W', (Builtin.append_ #[t, t] ty #[s.v, .slice (some ad) m c]).run Tryd.prog W = .ok v' W' ∧ W'.ownsRow 0 e size v' (s.n + m) (us ++ cs) ∧ W.grownBy W' s.v.ownBlock ∧ NewOr W s.v v' :=
    run_append2 W t ty e i z size bytes ht hi hz hsize hby hzs hsz s.v s.n us h.own ad m c cs hm hcl hcs one h63 hb
  obtain ⟨v', W', hrun, r1, r2, r3⟩ := key
  have ap : Apart s.v.ownBlock.toList W W' := apart_grown r2
  obtain ⟨k, c, rfl, hle⟩ : ∃ k c, v' = .slice (some ⟨k, 0, none⟩) (s.n + m) c ∧ s.n + m ≤ c := by
    obtain ⟨_, ⟨hv, hz⟩ | ⟨g, cap, cur, hv, _, _, hle, _⟩⟩ := r1
    · exact absurd hz (by omega)
    · exact ⟨g, cap, hv, hle⟩
  have hk : s.v.ownBlock = some k ∨ W.heap.size ≤ k := by
    rcases r3 with r3 | ⟨q, r3, hq⟩
    · left; rw [← r3]; rfl
    · right
      simp [Value.ownBlock] at r3
      omega
  refine ⟨⟨some ⟨k, 0, none⟩, s.n + m, c⟩, W', hrun, ⟨r1, fun b hb => ?_, h.ap.trans' ap (fun y hy => ?_)⟩, rfl, ap, k, rfl, hle, hk⟩
  · simp [Sl.v, Value.ownBlock] at hb
    subst hb
    rcases hk with hk | hk
    · exact h.new _ hk
    · have := h.ap.size; omega
  · simp at hy
    exact .inr (h.new y hy)
/-- .. out of a row that was just made -/
theorem run_appM {w W : World} {s : Sl} {us : List Value} (t ty e : TypeId) (i : TypeInfo) (z : Value) (size bytes : Nat) (ht : Tryd.prog.underlying t = some (.slice e)) (hi : Tryd.prog.info? e = some i) (hz : i.zero = some z) (hsize : i.size = size) (hby : i.bytes = bytes) (hzs : z.cells.size = size) (hsz : 0 < size)
    (h : Nw w W e size s us) (m : Nat) (cs : List Value) (hm : 0 < m) (hcl : cs.length = m * size) (one : ∀ u ∈ cs, u.oneCell' = true) (h63 : s.n + m ≤ maxLen) (hb : (s.n + m) * bytes ≤ 140737488355328) :
    ∃ s' W', (Builtin.append_ #[t, t] ty #[s.v, .slice (some ⟨W.heap.size, 0, none⟩) m m]).run Tryd.prog (W.alloc (.cells cs.toArray e)) = .ok (Sl.v s') W' ∧ Nw w W' e size s' (us ++ cs) ∧ s'.n = s.n + m ∧ Apart s.v.ownBlock.toList W W' ∧ ∃ k, s'.p = some ⟨k, 0, none⟩ ∧ s'.n ≤ s'.c ∧ (s.v.ownBlock = some k ∨ W.heap.size ≤ k) := by
  have a1 : Apart [] W (W.alloc (.cells cs.toArray e)) := (Apart.refl [] W).alloc _
  have hcs : ∀ j u, cs[j]? = some u → (W.alloc (.cells cs.toArray e)).cell? ((⟨W.heap.size, 0, none⟩ : Addr).add j) = some u := by
    intro j u hj
    rw [Addr.add_lit, Nat.zero_add, cell_of_row _ _ _ _ _ _ (heap_alloc_new W (.cells cs.toArray e))]
    simpa using hj
  obtain ⟨s', W', hrun, r1, r2, r3, k, r4, r5, r6⟩ := run_appS t ty e i z size bytes ht hi hz hsize hby hzs hsz (h.kept a1) ⟨W.heap.size, 0, none⟩ m m cs hm hcl hcs one h63 hb
  exact ⟨s', W', hrun, r1, r2, (a1.mono (by simp)).trans r3, k, r4, r5, r6.imp id (fun h => Nat.le_trans a1.size h)⟩
/-- copy of several cells an element, into a row that is known whole -/
theorem run_copy_rowN (w : World) (dT sT ty elem : TypeId) (sz g o dLen dCap : Nat) (a : Addr) (sLen sCap m : Nat) (cur : List Value) (t : TypeId) (cs : List Value)
    (hu : Tryd.prog.underlying dT = some (.slice elem)) (hs : (Tryd.prog.info? elem).map (·.size) = some sz)
    (hg : w.heap[g]? = some (.cells cur.toArray t (0, 0))) (hm : m = Nat.min sLen dLen) (hn : cs.length = m * sz)
    (hsrc : ∀ j v, cs[j]? = some v → w.cell? (a.add j) = some v) (hfit : o + cs.length ≤ cur.length) (h1 : ∀ v ∈ cs, v.oneCell' = true) :
    (Builtin.copy_ #[dT, sT] ty #[.slice (some ⟨g, o, none⟩) dLen dCap, .slice (some a) sLen sCap]).run Tryd.prog w =
      .ok (goInt m) (w.setRow g (splice cur o cs).toArray) := by
  have hl := run_loadCells_list (P := Tryd.prog) w a cs hsrc
  have hst := run_storeCells_at Tryd.prog g o t cs 0 cur.toArray w hg (by simpa using hfit) h1
  cases hq : Tryd.prog.info? elem with
  | none => simp [hq] at hs
  | some i =>
    have hi : i.size = sz := by simpa [hq] using hs
    simp [Builtin.copy_, run_underlying hu, Builtin.lenOf, Builtin.firstCells, sizeOf, typeInfo, hq, hi, ← hm, ← hn, hl, hst, splice]
theorem apart_setRow (w : World) (g : Nat) (cs : Array Value) : Apart [g] w (w.setRow g cs) :=
  ⟨rfl, rfl, rfl, by simp [World.setRow], fun k hk hx => setRow_other w g k cs (fun e => hx (by simp [e]))⟩
/-- a gap of one is made at k, and filled -/
theorem splice_ins {α : Type} (A D U R : List α) (hR : U.length ≤ R.length) :
    (splice (splice (A ++ D ++ R) (A.length + U.length) D) A.length U).take (A.length + U.length + D.length) = A ++ U ++ D := by
  have e1 : splice (A ++ D ++ R) (A.length + U.length) D = A ++ (((D ++ R).take U.length) ++ (D ++ (A ++ D ++ R).drop (A.length + U.length + D.length))) := by
    unfold splice
    rw [List.append_assoc A D R, List.take_append, List.take_of_length_le (by omega)]
    simp
  rw [e1]
  unfold splice
  have hl : ((D ++ R).take U.length).length = U.length := by simp; omega
  rw [List.take_append_of_le_length (Nat.le_refl _), List.take_of_length_le (Nat.le_refl _), List.drop_append, List.drop_eq_nil_of_le (by omega : A.length ≤ A.length + U.length)]
  rw [show A.length + U.length - A.length = ((D ++ R).take U.length).length from by omega, List.nil_append, List.drop_left]
  rw [← List.append_assoc, ← List.append_assoc, List.take_append_of_le_length (by simp; omega)]
  exact List.take_of_length_le (by simp; omega)
end Go.Proofs.YtokaeiahhmaokaaDoor.ds
namespace Go.Proofs.YtokaeiahhmaokaaDoor.ds
open Go.ChangeShapes Go.WideShapes Go.ChangeAt Go.RowKit Go.Sort
set_option linter.unusedVariables false
set_option linter.unusedSimpArgs false
theorem run_appE2 {w W : World} {s : Sl} {es : List E} (h : OwnE w W s es) (hn : s.n ≤ 2000000) (u : E) (B : Nat) (hB : Cap W B u) (ty : TypeId) :
    ∃ s' W', (Builtin.append_ #[39, 39] ty #[s.v, .slice (some ⟨B, 0, none⟩) 1 1]).run Tryd.prog W = .ok (Sl.v s') W' ∧ OwnE w W' s' (es ++ [u]) := by
  obtain ⟨i0, hi, hz0, hz1, hz2⟩ := info_parts infoW
  have hcs : ∀ j v, (E.cs u)[j]? = some v → W.cell? ((⟨B, 0, none⟩ : Addr).add j) = some v := by
    intro j v hj
    rw [Addr.add_lit, Nat.zero_add, cell_of_row _ _ _ _ _ _ hB]
    simpa [E.cs] using hj
  obtain ⟨s', W', hrun, r1, r2, _⟩ := run_appS 39 ty 28 i0 _ 6 88 Tryd.underlying39 hi hz0 hz1 hz2 rfl (by decide) h.nw ⟨B, 0, none⟩ 1 1 (E.cs u) (by simp) (by simp [E.cs]) hcs (fun v hv => oneE [u] v (by simpa [flatE] using hv)) (by unfold maxLen; omega) (by omega)
  exact ⟨s', W', hrun, ⟨by rw [← flatE_snoc]; exact r1, by rw [List.length_append, h.len, r2]; rfl⟩⟩
theorem OwnE.cap {w W : World} {s : Sl} {l : List E} (h : OwnE w W s l) : s.n ≤ s.c ∧ s.c ≤ 9223372036854775807 ∧ (s.p = none → s.n = 0 ∧ s.c = 0) := by
  obtain ⟨_, ⟨hv, hz⟩ | ⟨g, cap, cur, hv, _, _, hle, hmx, _⟩⟩ := h.nw.own
  · unfold Sl.v at hv; simp at hv; exact ⟨by omega, by omega, fun _ => ⟨hz, hv.2.2⟩⟩
  · unfold Sl.v at hv
    simp at hv
    refine ⟨by omega, by unfold maxLen at hmx; omega, fun e => ?_⟩
    rw [hv.1] at e; cases e
set_option maxHeartbeats 4000000 in
set_option maxRecDepth 100000 in
theorem ins_end (w W : World) (s : Sl) (l : List E) (u : E) (B : Nat) (h : OwnE w W s l) (hn : s.n ≤ 1500000) (hB : Cap W B u) : Calls Tryd.prog 90 #[s.v, .int .i64 (s.n : Int), .slice (some ⟨B, 0, none⟩) 1 1] W fun r W' => ∃ s', r = .returned (Sl.v s') ∧ OwnE w W' s' (l ++ [u]) := by
  obtain ⟨s', W', hrun, own⟩ := run_appE2 h (by omega) u B hB 39
  have hc := h.cap
  have HO := hid own
  clear own hB
  obtain ⟨p, n, c⟩ := s
  unfold Sl.v at hrun ⊢
  simp only at hc hn
  obtain ⟨hc1, hc2, hc3⟩ := hc
  cases p with
  | none =>
    obtain ⟨rfl, rfl⟩ := hc3 rfl
    clear h hc3
    go_enter Tryd.func90, Tryd.ntmps90
    go_wp2_with (at_builtin; refine wpList_append3 rfl (.tmp 23) (.tmp 24) 39 rfl _ _ rfl rfl _ _ hrun ?_)
    go_wp2
    go_ret
    exact ⟨s', rfl, HO.out⟩
  | some a =>
    clear h hc3
    go_enter Tryd.func90, Tryd.ntmps90
    go_wp2_with (at_builtin; refine wpList_append3 rfl (.tmp 23) (.tmp 24) 39 rfl _ _ rfl rfl _ _ hrun ?_)
    all_goals (go_wp2; go_ret; exact ⟨s', rfl, HO.out⟩)
end Go.Proofs.YtokaeiahhmaokaaDoor.ds
namespace Go.Proofs.YtokaeiahhmaokaaDoor.ds
open Go.ChangeShapes Go.WideShapes Go.ChangeAt Go.RowKit Go.Sort
set_option linter.unusedVariables false
set_option linter.unusedSimpArgs false
def gS (l : List Sl) (k : Nat) : Sl := l.getD k ⟨none, 0, 0⟩
theorem Sp.of_rd {w : World} {p : Option Addr} {xs : List S} (h : Rd w p (flat xs)) : Sp w p xs := by
  intro h0
  obtain ⟨P, o, e, hP, hc⟩ := h (by rw [flat_length]; omega)
  refine ⟨P, o, e, hP, fun i hi => ?_⟩
  obtain ⟨a, b, c⟩ := flat_get xs i hi
  simp only [Nat.add_assoc]
  exact ⟨hc _ _ a, hc _ _ b, hc _ _ c⟩
end Go.Proofs.YtokaeiahhmaokaaDoor.ds
namespace Go.Proofs.YtokaeiahhmaokaaDoor.ds
open Go.ChangeShapes Go.WideShapes Go.ChangeAt Go.RowKit Go.Sort
set_option linter.unusedVariables false
set_option linter.unusedSimpArgs false
open Classical in
/-- a list more, where it is a set for the gap -/
noncomputable def knowG (gap : Int) (a xs : List S) : List S := if (1 ≤ gap ∧ gap ≤ 64) ∧ OkL gap a ∧ OkL gap xs then uni a xs else a
/-- several lists of spans, as they read -/
structure LX (w : World) (p : Option Addr) (N : Nat) (ss : List Sl) (xss : List (List S)) : Prop where
  rd : Rd w p (ss.map Sl.v)
  len : ss.length = N
  lx : xss.length = N
  l : ∀ j, j < N → L w (gS ss j).p (gS ss j).n (xss.getD j [])
theorem LX.kept0 {w w' : World} {p : Option Addr} {N : Nat} {ss : List Sl} {xss : List (List S)} (h : LX w p N ss xss) (a : Apart [] w w') : LX w' p N ss xss := ⟨h.rd.kept0 a, h.len, h.lx, fun j hj => (h.l j hj).kept0 a⟩
noncomputable def unis (gap : Int) (xss : List (List S)) : List S := xss.foldl (knowG gap) []
theorem unis_snoc (gap : Int) (xss : List (List S)) (i : Nat) (hi : i < xss.length) : unis gap (xss.take (i + 1)) = knowG gap (unis gap (xss.take i)) (xss.getD i []) := by
  unfold unis
  rw [List.take_add_one, List.foldl_append]
  simp [List.getD_eq_getElem?_getD, hi]
end Go.Proofs.YtokaeiahhmaokaaDoor.ds
namespace Go.Proofs.YtokaeiahhmaokaaDoor.ds
open Go.ChangeShapes Go.WideShapes Go.ChangeAt Go.RowKit Go.Sort
set_option linter.unusedVariables false
set_option linter.unusedSimpArgs false
/-- what P503 asks of a write alone -/
def rightP (r : Wr) (gap : Int) : Prop := ((1 ≤ (r.k.size : Int) ∧ (r.k.size : Int) ≤ 16) ∧ (r.vs.length : Int) ≤ 64 ∧ ¬ (r.d = true ∧ 0 < (r.vs.length : Int))) ∧ isd r.n r.c = true ∧ chk r.xs gap = 0 ∧ hasd r.xs r.n r.c = false
theorem short_iff {w : World} {a : E} {r : Wr} (ha : Reads w a r) : shortE a ↔ (1 ≤ (r.k.size : Int) ∧ (r.k.size : Int) ≤ 16) ∧ (r.vs.length : Int) ≤ 64 ∧ ¬ (r.d = true ∧ 0 < (r.vs.length : Int)) := by
  unfold shortE; rw [ha.k, ha.d, ← ha.vn]
theorem rright_ok (a : E) (r : Wr) (gap : Int) (w : World) (ha : Reads w a r) (v : Bool) (hv : v = true ↔ rightP r gap) : Calls Tryd.prog 60 #[a.agg, .int .i64 gap] w fun z w' => z = .returned (.bool v) ∧ Apart [] w w' := by
  by_cases hs : shortE a
  · have h := right_walk a gap w (isd r.n r.c) (hasd r.xs r.n r.c) (chk r.xs gap) hs (fun W => by rw [ha.n, ha.c]; exact rdot_ok r.n r.c W) (fun W x => rcheck_as (ha.x.kept0 x) _ rfl) (fun W x => by rw [ha.n, ha.c]; exact rhas_ok r.n r.c (ha.x.kept0 x) _ rfl)
    have e : (isd r.n r.c && (decide (chk r.xs gap = 0) && !hasd r.xs r.n r.c)) = v := by
      rw [Bool.eq_iff_iff, hv]
      unfold rightP
      have := (short_iff ha).1 hs
      simp only [Bool.and_eq_true, decide_eq_true_eq, Bool.not_eq_true']
      exact ⟨fun h => ⟨this, h.1, h.2.1, h.2.2⟩, fun h => ⟨h.2.1, h.2.2.1, h.2.2.2⟩⟩
    rw [e] at h
    exact h
  · have e : v = false := by
      cases hvv : v with
      | false => rfl
      | true => exact absurd ((short_iff ha).2 (hv.1 hvv).1) hs
    rw [e]
    exact right_short a gap w hs
end Go.Proofs.YtokaeiahhmaokaaDoor.ds
namespace Go.Proofs.YtokaeiahhmaokaaDoor.ds
open Go.ChangeShapes Go.WideShapes Go.ChangeAt Go.RowKit Go.Shelf
set_option linter.unusedVariables false
set_option linter.unusedSimpArgs false
attribute [local go_sem] Oper.semAt_some
/-- the first m of the numbers below N, downward -/
def dn (N : Nat) : Nat → List (Fin N)
  | 0 => []
  | m + 1 => dn N m ++ (if h : N - 1 - m < N then [⟨N - 1 - m, h⟩] else [])
end Go.Proofs.YtokaeiahhmaokaaDoor.ds
namespace Go.Proofs.YtokaeiahhmaokaaDoor.ds
open Go.ChangeShapes Go.WideShapes Go.ChangeAt Go.RowKit Go.Sort
set_option linter.unusedVariables false
set_option linter.unusedSimpArgs false
theorem Nw.keepT {w0 w w' : World} {e size : Nat} {s : Sl} {us : List Value} {X : List Nat} (h : Nw w0 w e size s us) (a : Apart X w w') (ap : Apart [] w0 w') (hX : ∀ k ∈ X, ∀ cur, w.heap[k]? ≠ some (.cells cur e (0, 0))) : Nw w0 w' e size s us :=
  ⟨own_apart h.own a (fun k hk hm => by obtain ⟨cur, e1⟩ := own_typ h.own hk; exact hX k hm cur e1), h.new, ap⟩
end Go.Proofs.YtokaeiahhmaokaaDoor.ds
namespace Go.Proofs.YtokaeiahhmaokaaDoor.ds
open Go.ChangeShapes Go.WideShapes Go.ChangeAt Go.RowKit Go.Sort
set_option linter.unusedVariables false
set_option linter.unusedSimpArgs false
theorem wpList_copy2 {w : World} {ops : Array Oper} {rest : List Oper} {o : Oper} {a : Act} {Q : Exit → Act → World → Prop} (hgd : o.guard = none) (s x : Operand) (t t' : TypeId)
    (ho : o.op = .call { callee := .builtin .copy, args := #[s, x], argTypes := #[t, t'] }) (v u : Value) (hs : a.eval s = v) (hx : a.eval x = u) (v' : Value) (w' : World)
    (hrun : (Builtin.copy_ #[t, t'] o.type #[v, u]).run Tryd.prog w = .ok v' w') (hK : wpList Tryd.prog ops Q rest (a.put o.dst v') w') : wpList Tryd.prog ops Q (o :: rest) a w := by
  refine wpList_plain hgd fun K hK' => ?_
  unfold Oper.wp
  simp [execOp, ho, resolve, invoke, builtin, hs, hx, hrun, Result.andThen]
  exact hK' _ _ hK
theorem step_copy2 {w : World} {ops : Array Oper} {o : Oper} {a : Act} {K : Act → World → Prop} {Q : Exit → Act → World → Prop} {E : Prop} (hgd : o.guard = none) (s x : Operand) (t t' : TypeId)
    (ho : o.op = .call { callee := .builtin .copy, args := #[s, x], argTypes := #[t, t'] }) (v u : Value) (hs : a.eval s = v) (hx : a.eval x = u) (v' : Value) (w' : World)
    (hrun : (Builtin.copy_ #[t, t'] o.type #[v, u]).run Tryd.prog w = .ok v' w') (hK : K (a.put o.dst v') w') : if Region.wanted o (yielded ops a.tmps) = true then Oper.wp Tryd.prog o a w K Q else E := by
  have hw : Region.wanted o (yielded ops a.tmps) = true := by simp [Region.wanted, hgd]
  rw [if_pos hw]
  unfold Oper.wp
  simp [execOp, ho, resolve, invoke, builtin, hs, hx, hrun, Result.andThen]
  exact hK
theorem wpList_app2 {w : World} {ops : Array Oper} {rest : List Oper} {o : Oper} {a : Act} {Q : Exit → Act → World → Prop} (hgd : o.guard = none) (s x : Operand) (t t' : TypeId)
    (ho : o.op = .call { callee := .builtin .append, args := #[s, x], argTypes := #[t, t'] }) (v u : Value) (hs : a.eval s = v) (hx : a.eval x = u) (v' : Value) (w' : World)
    (hrun : (Builtin.append_ #[t, t'] o.type #[v, u]).run Tryd.prog w = .ok v' w') (hK : wpList Tryd.prog ops Q rest (a.put o.dst v') w') : wpList Tryd.prog ops Q (o :: rest) a w := by
  refine wpList_plain hgd fun K hK' => ?_
  unfold Oper.wp
  simp [execOp, ho, resolve, invoke, builtin, hs, hx, hrun, Result.andThen]
  exact hK' _ _ hK
theorem sz28 (w : World) : (Go.sizeOf 28).run Tryd.prog w = .ok 6 w := by
  obtain ⟨i0, hi, hz0, hz1, hz2⟩ := info_parts infoW
  simp [sizeOf, typeInfo, hi, hz1]
theorem drop_flat (l : List E) (k : Nat) : (flatE l).drop (k * 6) = flatE (l.drop k) := by
  have h : flatE l = flatE (l.take k) ++ flatE (l.drop k) := by rw [← flatE_append, List.take_append_drop]
  by_cases hk : k ≤ l.length
  · rw [h, List.drop_append_of_le_length (by rw [flatE_length]; simp; omega), List.drop_eq_nil_of_le (by rw [flatE_length]; simp; omega)]; simp
  · rw [List.drop_eq_nil_of_le (by rw [flatE_length]; omega), List.drop_eq_nil_of_le (by omega : l.length ≤ k)]; rfl
set_option maxHeartbeats 4000000 in
set_option maxRecDepth 100000 in
theorem ins_shift (w W : World) (s : Sl) (l : List E) (u : E) (k B : Nat) (h : OwnE w W s l) (hn : s.n ≤ 1500000) (hk : k < s.n) (hroom : s.n + 1 ≤ s.c) (hB : Cap W B u) : Calls Tryd.prog 90 #[s.v, .int .i64 (k : Int), .slice (some ⟨B, 0, none⟩) 1 1] W fun r W' => ∃ s', r = .returned (Sl.v s') ∧ OwnE w W' s' (l.take k ++ [u] ++ l.drop k) := by
  obtain ⟨i0, hi, hz0, hz1, hz2⟩ := info_parts infoW
  have hsz : (Tryd.prog.info? 28).map (·.size) = some 6 := size28
  obtain ⟨p, n, c⟩ := s
  simp only at hn hk hroom
  have hcap := h.cap
  simp only at hcap
  obtain ⟨hxl, ⟨hv, hz⟩ | ⟨G, cap, cur, hv, hbb, hr, hle, hmx, hcs, htk⟩⟩ := h.nw.own
  · unfold Sl.v at hv; simp at hv; omega
  unfold Sl.v at hv
  simp at hv
  obtain ⟨rfl, rfl⟩ := hv
  have hlen : l.length = n := h.len
  have hGB : B ≠ G := fun e => by
    subst e
    have := hB
    unfold Cap at this
    rw [hr] at this
    simp at this
    rw [this] at hcs
    simp at hcs
    omega
  have hov : ∀ off lb cb, (callFunc 113 #[.slice (some ⟨B, 0, none⟩) 1 1, .slice (some ⟨G, off, none⟩) lb cb]).run Tryd.prog W = .ok (.value (.bool false)) W := fun off lb cb => by
    rw [run_callFunc_extern Tryd.func113 (by kernel_rfl) (by kernel_rfl) (by kernel_rfl) (e := Extern.SlicesOverlaps.overlaps #[39, 39] #[4]) (by kernel_rfl),
      Lib.run_overlaps_apart W 39 4 28 Tryd.underlying39 6 sz28 ⟨B, 0, none⟩ ⟨G, off, none⟩ 1 1 lb cb hGB 28 28 6 cur.size (by unfold World.shape?; rw [hB]; rfl) (by unfold World.shape?; rw [hr]) (by rw [hcs]; omega) (frozen_of_row _ _ _ _ _ hB) (frozen_of_row _ _ _ _ _ hB)]
    rfl
  obtain ⟨L, hL⟩ : ∃ L, L = cur.toList := ⟨_, rfl⟩
  have hcur : cur = L.toArray := by rw [hL]
  have hLl : L.length = c * 6 := by rw [hL]; simpa using hcs
  have hLt : L.take (n * 6) = flatE l := by rw [hL]; exact htk
  have hfl := flatE_length l
  have hD : (flatE (l.drop k)).length = (n - k) * 6 := by rw [flatE_length]; simp [hlen]
  have hA : (flatE (l.take k)).length = k * 6 := by rw [flatE_length]; simp [hlen]; omega
  have hsplit : L = flatE (l.take k) ++ flatE (l.drop k) ++ L.drop (n * 6) := by rw [← flatE_append, List.take_append_drop, ← hLt, List.take_append_drop]
  rw [hcur] at hr
  have hcell : ∀ j v, (flatE (l.drop k))[j]? = some v → W.drew.cell? ((⟨G, k * 6, none⟩ : Addr).add j) = some v := fun j v hj => by
    rw [← drop_flat, List.getElem?_drop] at hj
    rw [Addr.add_lit]
    exact (h.nw.own.cellAt (k * 6 + j) (by
      rw [hlen] at hfl
      by_cases hc : k * 6 + j < n * 6
      · omega
      · rw [List.getElem?_eq_none (by omega)] at hj; cases hj)).trans hj
  have hcp1 : ∀ ty dc sc, (Builtin.copy_ #[39, 39] ty #[.slice (some ⟨G, (k + 1) * 6, none⟩) (n + 1 - (k + 1)) dc, .slice (some ⟨G, k * 6, none⟩) (n + 1 - k) sc]).run Tryd.prog W.drew = .ok (goInt ((n - k : Nat) : Int)) (W.drew.setRow G (splice L ((k + 1) * 6) (flatE (l.drop k))).toArray) := fun ty dc sc =>
    run_copy_rowN W.drew 39 39 ty 28 6 G ((k + 1) * 6) (n + 1 - (k + 1)) dc ⟨G, k * 6, none⟩ (n + 1 - k) sc (n - k) L 28 (flatE (l.drop k)) Tryd.underlying39 hsz hr (by simp only [Nat.min_def]; split <;> omega) hD hcell (by rw [hD, hLl]; omega) (oneE _)
  obtain ⟨W1, hW1⟩ : ∃ W1, W1 = W.drew.setRow G (splice L ((k + 1) * 6) (flatE (l.drop k))).toArray := ⟨_, rfl⟩
  rw [← hW1] at hcp1
  have a1 : Apart [G] W W1 := by rw [hW1]; exact (Apart.refl [G] W).drew.trans (apart_setRow _ _ _)
  have hr1 : W1.heap[G]? = some (.cells (splice L ((k + 1) * 6) (flatE (l.drop k))).toArray 28 (0, 0)) := by rw [hW1]; exact setRow_heap W.drew G _ _ 28 _ hr
  have hB1 : W1.heap[B]? = _ := (a1.block B (lt_of_heap hB) (by simpa using hGB)).trans hB
  have hcp2 : ∀ ty dc, (Builtin.copy_ #[39, 39] ty #[.slice (some ⟨G, k * 6, none⟩) (n + 1 - k) dc, .slice (some ⟨B, 0, none⟩) 1 1]).run Tryd.prog W1 = .ok (goInt 1) (W1.setRow G (splice (splice L ((k + 1) * 6) (flatE (l.drop k))) (k * 6) (E.cs u)).toArray) := fun ty dc =>
    run_copy_rowN W1 39 39 ty 28 6 G (k * 6) (n + 1 - k) dc ⟨B, 0, none⟩ 1 1 1 _ 28 (E.cs u) Tryd.underlying39 hsz hr1 (by simp only [Nat.min_def]; split <;> omega) rfl (fun j v hj => by rw [Addr.add_lit, Nat.zero_add, cell_of_row _ _ _ _ _ _ hB1]; simpa [E.cs] using hj) (by rw [length_splice _ _ _ (by rw [hD, hLl]; omega), hLl]; simp [E.cs]; omega) (fun v hv => oneE [u] v (by simpa [flatE] using hv))
  have hfin : OwnE w (W1.setRow G (splice (splice L ((k + 1) * 6) (flatE (l.drop k))) (k * 6) (E.cs u)).toArray) ⟨some ⟨G, 0, none⟩, n + 1, c⟩ (l.take k ++ [u] ++ l.drop k) := by
    have hGw : w.heap.size ≤ G := h.nw.new G rfl
    refine ⟨⟨⟨by rw [flatE_length]; simp [hlen]; omega, .inr ⟨G, c, _, rfl, Nat.zero_le _, setRow_heap W1 G _ _ 28 _ hr1, hroom, hmx, ?_, ?_⟩⟩, h.nw.new, h.nw.ap.trans' (a1.trans (apart_setRow _ _ _)) (by simp; exact hGw)⟩, by simp [hlen]; omega⟩
    · simp only [List.size_toArray]
      rw [length_splice _ _ _ (by rw [length_splice _ _ _ (by rw [hD, hLl]; omega), hLl]; simp [E.cs]; omega), length_splice _ _ _ (by rw [hD, hLl]; omega), hLl]
    · have := splice_ins (flatE (l.take k)) (flatE (l.drop k)) (E.cs u) (L.drop (n * 6)) (by simp [E.cs, hLl]; omega)
      rw [← hsplit, hA, hD] at this
      rw [flatE_append, flatE_append]
      rw [show (E.cs u).length = 6 from rfl, show k * 6 + 6 = (k + 1) * 6 from by omega, show (k + 1) * 6 + (n - k) * 6 = (n + 1) * 6 from by omega] at this
      simpa [flatE] using this
  have HF := hid hfin
  have hb1 : ¬ ((k : Int) = (n : Int)) := by omega
  have hc2 := hcap.2.1
  clear hW1 hfin hB1 hr1 a1 hcell hsplit hA hD hfl hLt hLl hcur hL htk hcs hmx hle hr hGB hcap hxl hbb hB h hlen
  unfold Sl.v
  go_enter Tryd.func90, Tryd.ntmps90
  go_wp2_with (simp only [hov])
  have hw1 : IntKind.i64.wrap ((k : Int) + 1) = (k : Int) + 1 := by rw [IntKind.wrap_i64]; omega
  have hb3 : (0 : Int) ≤ (k : Int) + 1 := by omega
  have hb4 : (k : Int) + 1 ≤ (n : Int) + 1 := by omega
  have htn : ((k : Int) + 1).toNat = k + 1 := by omega
  have hb5 : ¬ (c = k + 1) := by omega
  have hb6 : ¬ (c = k) := by omega
  have hb7 : (k : Int) ≤ (n : Int) + 1 := by omega
  have hb8 : k ≤ n := by omega
  clear hov hc2
  refine wp_region_held_drew (S := fun _ => True) (by kernel_rfl) trivial (fun hHeld => ?_)
  refine wpAnyH_take (i := 0) (oi := ⟨some 69, _, _, _, _, _⟩) (v := (.slice (some ⟨G, 0, none⟩) (n + 1) c)) rfl (by kernel_rfl) (by kernel_rfl) (by kernel_rfl) (fun _ _ _ h => h) (Or.inl ⟨by rfl, ?_⟩) (by assumption) ?_
  · intro W hSW; go_simp
  simp only [Act.put, List.setIfInBounds_toArray, List.set_cons_zero, List.set_cons_succ]
  refine wpAnyH_take (i := 1) (oi := ⟨some 70, _, _, _, _, _⟩) (v := (.int .i64 (k : Int))) rfl (by kernel_rfl) (by kernel_rfl) (by kernel_rfl) (fun _ _ _ h => h) (Or.inl ⟨by rfl, ?_⟩) (by assumption) ?_
  · intro W hSW; go_simp
  simp only [Act.put, List.setIfInBounds_toArray, List.set_cons_zero, List.set_cons_succ]
  refine wpAnyH_take (i := 2) (oi := ⟨some 71, _, _, _, _, _⟩) (v := (.int .i64 1)) rfl (by kernel_rfl) (by kernel_rfl) (by kernel_rfl) (fun _ _ _ h => h) (Or.inl ⟨by rfl, ?_⟩) (by assumption) ?_
  · intro W hSW; go_simp
  simp only [Act.put, List.setIfInBounds_toArray, List.set_cons_zero, List.set_cons_succ]
  refine wpAnyH_take (i := 3) (oi := ⟨some 72, _, _, _, _, _⟩) (v := (.int .i64 ((k : Int) + 1))) rfl (by kernel_rfl) (by kernel_rfl) (by kernel_rfl) (fun _ _ _ h => h) (Or.inl ⟨by rfl, ?_⟩) (by assumption) ?_
  · intro W hSW; go_simp
  simp only [Act.put, List.setIfInBounds_toArray, List.set_cons_zero, List.set_cons_succ]
  refine wpAnyH_take (i := 4) (oi := ⟨some 73, _, _, _, _, _⟩) (v := (.slice (some ⟨G, (k + 1) * 6, none⟩) (n + 1 - (k + 1)) (c - (k + 1)))) rfl (by kernel_rfl) (by kernel_rfl) (by kernel_rfl) (fun _ _ _ h => h) (Or.inl ⟨by rfl, ?_⟩) (by assumption) ?_
  · intro W hSW; go_simp
  simp only [Act.put, List.setIfInBounds_toArray, List.set_cons_zero, List.set_cons_succ]
  refine wpAnyH_take (i := 5) (oi := ⟨some 74, _, _, _, _, _⟩) (v := (.slice (some ⟨G, 0, none⟩) (n + 1) c)) rfl (by kernel_rfl) (by kernel_rfl) (by kernel_rfl) (fun _ _ _ h => h) (Or.inl ⟨by rfl, ?_⟩) (by assumption) ?_
  · intro W hSW; go_simp
  simp only [Act.put, List.setIfInBounds_toArray, List.set_cons_zero, List.set_cons_succ]
  refine wpAnyH_take (i := 6) (oi := ⟨some 75, _, _, _, _, _⟩) (v := (.int .i64 (k : Int))) rfl (by kernel_rfl) (by kernel_rfl) (by kernel_rfl) (fun _ _ _ h => h) (Or.inl ⟨by rfl, ?_⟩) (by assumption) ?_
  · intro W hSW; go_simp
  simp only [Act.put, List.setIfInBounds_toArray, List.set_cons_zero, List.set_cons_succ]
  refine wpAnyH_take (i := 7) (oi := ⟨some 76, _, _, _, _, _⟩) (v := (.slice (some ⟨G, k * 6, none⟩) (n + 1 - k) (c - k))) rfl (by kernel_rfl) (by kernel_rfl) (by kernel_rfl) (fun _ _ _ h => h) (Or.inl ⟨by rfl, ?_⟩) (by assumption) ?_
  · intro W hSW; go_simp
  simp only [Act.put, List.setIfInBounds_toArray, List.set_cons_zero, List.set_cons_succ]
  refine wpAnyH_ready (rs := [8]) (by kernel_rfl) (by simp) ?_
  refine AllReadyH.cons rfl (fun KK hKK => ?_) AllReadyH.nil
  refine step_copy2 (o := ⟨some 77, _, _, _, _, _⟩) rfl (.tmp 73) (.tmp 76) 39 39 rfl _ _ rfl rfl _ _ (hcp1 _ _ _) ?_
  refine hKK.out _ _ (by first | assumption | trivial) (fun hHeld => ?_)
  clear hKK KK
  refine wpAnyH_done (by kernel_rfl) ?_ _
  simp only [Act.put, List.setIfInBounds_toArray, List.set_cons_zero, List.set_cons_succ]
  go_wp2_with (first | (at_builtin; refine wpList_copy2 rfl (.tmp 80) (.tmp 81) 39 39 rfl _ _ rfl rfl _ _ (hcp2 _ _) ?_))
  go_wp2
  go_ret
  exact ⟨⟨some ⟨G, 0, none⟩, n + 1, c⟩, rfl, HF.out⟩
end Go.Proofs.YtokaeiahhmaokaaDoor.ds
