import Derived.Test.YtokaeiahhmaokaaDoorT10
import Derived.Laws.CopyOwn
import Derived.Lib.Overlaps
import Derived.Lib.AppendZerosOnto
import Derived.Laws.NewBlocks
import Derived.Laws.Externs
import Derived.Laws.IdiomCopy
import Derived.Test.YtokaeiahhmaokaaDoorT7
import Derived.Test.YtokaeiahhmaokaaDoorT9
import Derived.Laws.BytesString
import Derived.RangeFuncNested
import Derived.RangeFuncBound
import Derived.RangeFuncCalls
import Derived.RangeFuncLeaves
import Derived.Shelf.Abstract
import Derived.Shelf.RegionOpen
import Derived.WalkKit
import Derived.OwnWalkIn
import Derived.TacticsInMore
import Derived.LoopNIn
import Derived.LoopIn
namespace Go.Proofs.YtokaeiahhmaokaaDoor.ds
open Go.ChangeShapes Go.WideShapes Go.ChangeAt Go.RowKit Go.Sort
set_option linter.unusedVariables false
set_option linter.unusedSimpArgs false
theorem Rd.det {w : World} {p : Option Addr} {us vs : List Value} (h : Rd w p us) (h' : Rd w p vs) (hl : us.length = vs.length) : us = vs := by
  by_cases h0 : 0 < us.length
  · obtain ⟨P, o, e1, _, hc⟩ := h h0
    obtain ⟨P', o', e2, _, hc'⟩ := h' (by omega)
    rw [e1] at e2
    simp at e2
    obtain ⟨rfl, rfl⟩ := e2
    apply List.ext_getElem hl
    intro j h1 h2
    have a := hc j _ (List.getElem?_eq_getElem h1)
    have b := hc' j _ (List.getElem?_eq_getElem h2)
    rw [a] at b
    simpa using b
  · rw [List.length_eq_zero_iff.1 (by omega : us.length = 0), List.length_eq_zero_iff.1 (by omega : vs.length = 0)]
theorem byts_inj : ∀ {a b : List Nat}, byts a = byts b → a = b
  | [], [], _ => rfl
  | [], _ :: _, h => by simp [byts] at h
  | _ :: _, [], h => by simp [byts] at h
  | x :: a, y :: b, h => by
    simp only [byts, List.map_cons, List.cons.injEq, Value.int.injEq] at h
    have h1 : x = y := by have := h.1.2; omega
    rw [h1, byts_inj (a := a) (b := b) h.2]
theorem flat_inj : ∀ {a b : List S}, flat a = flat b → a = b
  | [], [], _ => rfl
  | [], _ :: _, h => by simp [flat, ec] at h
  | _ :: _, [], h => by simp [flat, ec] at h
  | x :: a, y :: b, h => by
    have e : ∀ z l, flat (z :: l) = ec z ++ flat l := fun z l => rfl
    rw [e, e] at h
    simp only [ec, List.cons_append, List.nil_append, List.cons.injEq, Value.int.injEq] at h
    obtain ⟨h1, h2, h3, h4⟩ := h
    rw [flat_inj h4]
    cases x; cases y
    simp only at h1 h2 h3
    rw [h1.2, h2.2, Int.ofNat.inj h3.2]
theorem Reads.det {w : World} {e : E} {r q : Wr} (h : Reads w e r) (h' : Reads w e q) : r = q := by
  have e1 := byts_inj (Rd.det h.v h'.v (by simp [byts]; rw [h.vn, h'.vn]))
  have e2 := flat_inj (Rd.det h.x.rd h'.x.rd (by rw [flat_length, flat_length, h.x.len, h'.x.len]))
  have a1 := h.n.symm.trans h'.n
  have a2 := h.c.symm.trans h'.c
  have a3 := h.k.symm.trans h'.k
  have a4 := h.d.symm.trans h'.d
  cases r; cases q
  simp only at a1 a2 a3 a4 e1 e2
  subst a1; subst a2; subst a3; subst a4; subst e1; subst e2; rfl
open Classical in
/-- how a write reads -/
noncomputable def RW (w : World) (t : E) : Wr := if h : ∃ r, Reads w t r then h.choose else Wr.z
theorem RW_eq {w : World} {t : E} {r : Wr} (h : Reads w t r) : RW w t = r := by
  unfold RW
  rw [dif_pos ⟨r, h⟩]
  exact Reads.det (Exists.choose_spec (⟨r, h⟩ : ∃ r, Reads w t r)) h
theorem RW_reads {w : World} {t : E} {r : Wr} (h : Reads w t r) : Reads w t (RW w t) := by rw [RW_eq h]; exact h
/-- merging, as the writes read -/
noncomputable def cvW (t u : Wr) : Bool := keq t.k u.k && hasd t.xs u.n u.c
def belowW (a b : Wr) : Bool := decide (a.n < b.n) || (decide (a.n = b.n) && decide (a.c < b.c))
def deqW (a b : Wr) : Bool := decide (a.n = b.n) && decide (a.c = b.c)
noncomputable def leftW (rs : List Wr) (u : Wr) : List Wr := rs.filter fun t => !cvW u t
def insW (u : Wr) : List Wr → List Wr
  | [] => [u]
  | x :: l => if belowW u x = true then u :: x :: l else x :: insW u l
noncomputable def mergeW (rs : List Wr) (u : Wr) : List Wr := if (leftW rs u).any (fun t => cvW t u) = true then leftW rs u else insW u (leftW rs u)
noncomputable def merrW (rs : List Wr) (u : Wr) (lim : Int) : Int := if rs.any (fun t => !keq t.k u.k) = true then 50 else if rs.any (fun t => deqW t u) = true then 0 else if lim < (mergeW rs u).length then 51 else 0
noncomputable def mlistW (rs : List Wr) (u : Wr) (lim : Int) : List Wr := if rs.any (fun t => !keq t.k u.k) = true then [] else if rs.any (fun t => deqW t u) = true then rs else if lim < (mergeW rs u).length then [] else mergeW rs u
/-- the dot and the key are the write's -/
structure As (e : E) (r : Wr) : Prop where
  n : e.n = r.n
  c : e.c = r.c
  k : e.k = r.k
theorem Reads.as {w : World} {e : E} {r : Wr} (h : Reads w e r) : As e r := ⟨h.n, h.c, h.k⟩
theorem any_R {f : E → Bool} {g : Wr → Bool} {R : E → Wr} : ∀ (es : List E), (∀ t ∈ es, f t = g (R t)) → es.any f = (es.map R).any g
  | [], _ => rfl
  | x :: l, h => by
    simp only [List.any_cons, List.map_cons]
    rw [h x (by simp), any_R l (fun t ht => h t (by simp [ht]))]
theorem filter_R {f : E → Bool} {g : Wr → Bool} {R : E → Wr} : ∀ (es : List E), (∀ t ∈ es, f t = g (R t)) → (es.filter f).map R = (es.map R).filter g
  | [], _ => rfl
  | x :: l, h => by
    have ih := filter_R (f := f) (g := g) (R := R) l (fun t ht => h t (by simp [ht]))
    have hx := h x (by simp)
    simp only [List.filter_cons, List.map_cons]
    rw [← hx]
    split
    · simp [ih]
    · exact ih
theorem insE_R {R : E → Wr} {u : E} : ∀ (es : List E), (∀ t ∈ es, below u t = belowW (R u) (R t)) → (insE u es).map R = insW (R u) (es.map R)
  | [], _ => rfl
  | x :: l, h => by
    have ih := insE_R (R := R) (u := u) l (fun t ht => h t (by simp [ht]))
    have hx := h x (by simp)
    simp only [insE, insW, List.map_cons]
    rw [← hx]
    split
    · simp
    · simp [ih]
theorem as_below {u t : E} {a b : Wr} (h : As u a) (k : As t b) : below u t = belowW a b := by unfold below belowW; rw [h.n, h.c, k.n, k.c]
theorem as_deq {u t : E} {a b : Wr} (h : As u a) (k : As t b) : deq u t = deqW a b := by unfold deq deqW; rw [h.n, h.c, k.n, k.c]
theorem as_cv {u t : E} {a b : Wr} (h : As u a) (k : As t b) : cvE a.xs u t = cvW a b := by unfold cvE cvW; rw [h.k, k.n, k.c, k.k]
theorem left_W {R : E → Wr} {es : List E} {u : E} (h : ∀ t ∈ es, As t (R t)) (hu : As u (R u)) : (leftE (fun t => (R t).xs) es u).map R = leftW (es.map R) (R u) := by
  unfold leftE leftW
  exact filter_R es (fun t ht => by rw [as_cv hu (h t ht)])
theorem merge_W {R : E → Wr} {es : List E} {u : E} (h : ∀ t ∈ es, As t (R t)) (hu : As u (R u)) : (mergeE (fun t => (R t).xs) es u).map R = mergeW (es.map R) (R u) := by
  have hl : ∀ t ∈ leftE (fun t => (R t).xs) es u, As t (R t) := fun t ht => h t (List.mem_filter.1 ht).1
  unfold mergeE mergeW
  rw [← left_W h hu, ← any_R (f := fun t => cvE (R t).xs t u) (g := fun t => cvW t (R u)) (R := R) _ (fun t ht => as_cv (hl t ht) hu)]
  split
  · rfl
  · exact insE_R _ (fun t ht => as_below hu (hl t ht))
theorem merge_len {R : E → Wr} {es : List E} {u : E} (h : ∀ t ∈ es, As t (R t)) (hu : As u (R u)) : (mergeE (fun t => (R t).xs) es u).length = (mergeW (es.map R) (R u)).length := by
  rw [← merge_W h hu]; simp
theorem merr_W {R : E → Wr} {es : List E} {u : E} {lim : Int} (h : ∀ t ∈ es, As t (R t)) (hu : As u (R u)) : merr (fun t => (R t).xs) es u lim = merrW (es.map R) (R u) lim := by
  unfold merr merrW
  rw [← any_R (f := fun t => !keq t.k u.k) (g := fun t => !keq t.k (R u).k) (R := R) es (fun t ht => by rw [(h t ht).k, hu.k]), ← any_R (f := fun t => deq t u) (g := fun t => deqW t (R u)) (R := R) es (fun t ht => as_deq (h t ht) hu), merge_len h hu]
theorem mlist_W {R : E → Wr} {es : List E} {u : E} {lim : Int} (h : ∀ t ∈ es, As t (R t)) (hu : As u (R u)) : (mlist (fun t => (R t).xs) es u lim).map R = mlistW (es.map R) (R u) lim := by
  unfold mlist mlistW
  rw [← any_R (f := fun t => !keq t.k u.k) (g := fun t => !keq t.k (R u).k) (R := R) es (fun t ht => by rw [(h t ht).k, hu.k]), ← any_R (f := fun t => deq t u) (g := fun t => deqW t (R u)) (R := R) es (fun t ht => as_deq (h t ht) hu), merge_len h hu]
  split
  · rfl
  · split
    · rfl
    · split
      · rfl
      · exact merge_W h hu
end Go.Proofs.YtokaeiahhmaokaaDoor.ds
namespace Go.Proofs.YtokaeiahhmaokaaDoor.ds
open Go.ChangeShapes Go.WideShapes Go.ChangeAt Go.RowKit Go.Sort
set_option linter.unusedVariables false
set_option linter.unusedSimpArgs false
/-- several more at a list's end -/
theorem run_appS {w W : World} {s : Sl} {us : List Value} (t ty e : TypeId) (i : TypeInfo) (z : Value) (size bytes : Nat) (ht : Tryd.prog.underlying t = some (.slice e)) (hi : Tryd.prog.info? e = some i) (hz : i.zero = some z) (hsize : i.size = size) (hby : i.bytes = bytes) (hzs : z.cells.size = size) (hsz : 0 < size)
    (h : Nw w W e size s us) (ad : Addr) (m c : Nat) (cs : List Value) (hm : 0 < m) (hcl : cs.length = m * size) (hcs : ∀ j u, cs[j]? = some u → W.cell? (ad.add j) = some u) (one : ∀ u ∈ cs, u.oneCell' = true) (h63 : s.n + m ≤ maxLen) (hb : (s.n + m) * bytes ≤ 140737488355328) :
    ∃ s' W', (Builtin.append_ #[t, t] ty #[s.v, .slice (some ad) m c]).run Tryd.prog W = .ok (Sl.v s') W' ∧ Nw w W' e size s' (us ++ cs) ∧ s'.n = s.n + m ∧ Apart s.v.ownBlock.toList W W' ∧ ∃ k, s'.p = some ⟨k, 0, none⟩ ∧ s'.n ≤ s'.c ∧ (s.v.ownBlock = some k ∨ W.heap.size ≤ k) := by
  have key : ∃ v' W', (Builtin.append_ #[t, t] ty #[s.v, .slice (some ad) m c]).run Tryd.prog W = .ok v' W' ∧ W'.ownsRow 0 e size v' (s.n + m) (us ++ cs) ∧ W.grownBy W' s.v.ownBlock ∧ NewOr W s.v v' :=
    run_append2 W t ty e i z size bytes ht hi hz hsize hby hzs hsz s.v s.n us h.own ad m c cs hm hcl hcs one h63 hb
  obtain ⟨v', W', hrun, r1, r2, r3⟩ := key
  have ap : Apart s.v.ownBlock.toList W W' := apart_grown r2
  obtain ⟨k, c, rfl, hle⟩ : ∃ k c, v' = .slice (some ⟨k, 0, none⟩) (s.n + m) c ∧ s.n + m ≤ c := by
    obtain ⟨_, ⟨hv, hz⟩ | ⟨g, cap, cur, hv, _, _, hle, _⟩⟩ := r1
    · exact absurd hz (by omega)
    · exact ⟨g, cap, hv, hle⟩
  have hk : s.v.ownBlock = some k ∨ W.heap.size ≤ k := by
    rcases r3 with r3 | ⟨q, r3, hq⟩
    · left; rw [← r3]; rfl
    · right
      simp [Value.ownBlock] at r3
      omega
  refine ⟨⟨some ⟨k, 0, none⟩, s.n + m, c⟩, W', hrun, ⟨r1, fun b hb => ?_, h.ap.trans' ap (fun y hy => ?_)⟩, rfl, ap, k, rfl, hle, hk⟩
  · simp [Sl.v, Value.ownBlock] at hb
    subst hb
    rcases hk with hk | hk
    · exact h.new _ hk
    · have := h.ap.size; omega
  · simp at hy
    exact .inr (h.new y hy)
/-- .. out of a row that was just made -/
theorem run_appM {w W : World} {s : Sl} {us : List Value} (t ty e : TypeId) (i : TypeInfo) (z : Value) (size bytes : Nat) (ht : Tryd.prog.underlying t = some (.slice e)) (hi : Tryd.prog.info? e = some i) (hz : i.zero = some z) (hsize : i.size = size) (hby : i.bytes = bytes) (hzs : z.cells.size = size) (hsz : 0 < size)
    (h : Nw w W e size s us) (m : Nat) (cs : List Value) (hm : 0 < m) (hcl : cs.length = m * size) (one : ∀ u ∈ cs, u.oneCell' = true) (h63 : s.n + m ≤ maxLen) (hb : (s.n + m) * bytes ≤ 140737488355328) :
    ∃ s' W', (Builtin.append_ #[t, t] ty #[s.v, .slice (some ⟨W.heap.size, 0, none⟩) m m]).run Tryd.prog (W.alloc (.cells cs.toArray e)) = .ok (Sl.v s') W' ∧ Nw w W' e size s' (us ++ cs) ∧ s'.n = s.n + m ∧ Apart s.v.ownBlock.toList W W' ∧ ∃ k, s'.p = some ⟨k, 0, none⟩ ∧ s'.n ≤ s'.c ∧ (s.v.ownBlock = some k ∨ W.heap.size ≤ k) := by
  have a1 : Apart [] W (W.alloc (.cells cs.toArray e)) := (Apart.refl [] W).alloc _
  have hcs : ∀ j u, cs[j]? = some u → (W.alloc (.cells cs.toArray e)).cell? ((⟨W.heap.size, 0, none⟩ : Addr).add j) = some u := by
    intro j u hj
    rw [Addr.add_lit, Nat.zero_add, cell_of_row _ _ _ _ _ _ (heap_alloc_new W (.cells cs.toArray e))]
    simpa using hj
  obtain ⟨s', W', hrun, r1, r2, r3, k, r4, r5, r6⟩ := run_appS t ty e i z size bytes ht hi hz hsize hby hzs hsz (h.kept a1) ⟨W.heap.size, 0, none⟩ m m cs hm hcl hcs one h63 hb
  exact ⟨s', W', hrun, r1, r2, (a1.mono (by simp)).trans r3, k, r4, r5, r6.imp id (fun h => Nat.le_trans a1.size h)⟩
/-- copy of several cells an element, into a row that is known whole -/
theorem run_copy_rowN (w : World) (dT sT ty elem : TypeId) (sz g o dLen dCap : Nat) (a : Addr) (sLen sCap m : Nat) (cur : List Value) (t : TypeId) (cs : List Value)
    (hu : Tryd.prog.underlying dT = some (.slice elem)) (hs : (Tryd.prog.info? elem).map (·.size) = some sz)
    (hg : w.heap[g]? = some (.cells cur.toArray t (0, 0))) (hm : m = Nat.min sLen dLen) (hn : cs.length = m * sz)
    (hsrc : ∀ j v, cs[j]? = some v → w.cell? (a.add j) = some v) (hfit : o + cs.length ≤ cur.length) (h1 : ∀ v ∈ cs, v.oneCell' = true) :
    (Builtin.copy_ #[dT, sT] ty #[.slice (some ⟨g, o, none⟩) dLen dCap, .slice (some a) sLen sCap]).run Tryd.prog w =
      .ok (goInt m) (w.setRow g (splice cur o cs).toArray) := by
  have hl := run_loadCells_list (P := Tryd.prog) w a cs hsrc
  have hst := run_storeCells_at Tryd.prog g o t cs 0 cur.toArray w hg (by simpa using hfit) h1
  cases hq : Tryd.prog.info? elem with
  | none => simp [hq] at hs
  | some i =>
    have hi : i.size = sz := by simpa [hq] using hs
    simp [Builtin.copy_, run_underlying hu, Builtin.lenOf, Builtin.firstCells, sizeOf, typeInfo, hq, hi, ← hm, ← hn, hl, hst, splice]
theorem apart_setRow (w : World) (g : Nat) (cs : Array Value) : Apart [g] w (w.setRow g cs) :=
  ⟨rfl, rfl, rfl, by simp [World.setRow], fun k hk hx => setRow_other w g k cs (fun e => hx (by simp [e]))⟩
/-- a gap of one is made at k, and filled -/
theorem splice_ins {α : Type} (A D U R : List α) (hR : U.length ≤ R.length) :
    (splice (splice (A ++ D ++ R) (A.length + U.length) D) A.length U).take (A.length + U.length + D.length) = A ++ U ++ D := by
  have e1 : splice (A ++ D ++ R) (A.length + U.length) D = A ++ (((D ++ R).take U.length) ++ (D ++ (A ++ D ++ R).drop (A.length + U.length + D.length))) := by
    unfold splice
    rw [List.append_assoc A D R, List.take_append, List.take_of_length_le (by omega)]
    simp
  rw [e1]
  unfold splice
  have hl : ((D ++ R).take U.length).length = U.length := by simp; omega
  rw [List.take_append_of_le_length (Nat.le_refl _), List.take_of_length_le (Nat.le_refl _), List.drop_append, List.drop_eq_nil_of_le (by omega : A.length ≤ A.length + U.length)]
  rw [show A.length + U.length - A.length = ((D ++ R).take U.length).length from by omega, List.nil_append, List.drop_left]
  rw [← List.append_assoc, ← List.append_assoc, List.take_append_of_le_length (by simp; omega)]
  exact List.take_of_length_le (by simp; omega)
end Go.Proofs.YtokaeiahhmaokaaDoor.ds
namespace Go.Proofs.YtokaeiahhmaokaaDoor.ds
open Go.ChangeShapes Go.WideShapes Go.ChangeAt Go.RowKit Go.Sort
set_option linter.unusedVariables false
set_option linter.unusedSimpArgs false
theorem run_appE2 {w W : World} {s : Sl} {es : List E} (h : OwnE w W s es) (hn : s.n ≤ 2000000) (u : E) (B : Nat) (hB : Cap W B u) (ty : TypeId) :
    ∃ s' W', (Builtin.append_ #[39, 39] ty #[s.v, .slice (some ⟨B, 0, none⟩) 1 1]).run Tryd.prog W = .ok (Sl.v s') W' ∧ OwnE w W' s' (es ++ [u]) := by
  obtain ⟨i0, hi, hz0, hz1, hz2⟩ := info_parts infoW
  have hcs : ∀ j v, (E.cs u)[j]? = some v → W.cell? ((⟨B, 0, none⟩ : Addr).add j) = some v := by
    intro j v hj
    rw [Addr.add_lit, Nat.zero_add, cell_of_row _ _ _ _ _ _ hB]
    simpa [E.cs] using hj
  obtain ⟨s', W', hrun, r1, r2, _⟩ := run_appS 39 ty 28 i0 _ 6 88 Tryd.underlying39 hi hz0 hz1 hz2 rfl (by decide) h.nw ⟨B, 0, none⟩ 1 1 (E.cs u) (by simp) (by simp [E.cs]) hcs (fun v hv => oneE [u] v (by simpa [flatE] using hv)) (by unfold maxLen; omega) (by omega)
  exact ⟨s', W', hrun, ⟨by rw [← flatE_snoc]; exact r1, by rw [List.length_append, h.len, r2]; rfl⟩⟩
theorem OwnE.cap {w W : World} {s : Sl} {l : List E} (h : OwnE w W s l) : s.n ≤ s.c ∧ s.c ≤ 9223372036854775807 ∧ (s.p = none → s.n = 0 ∧ s.c = 0) := by
  obtain ⟨_, ⟨hv, hz⟩ | ⟨g, cap, cur, hv, _, _, hle, hmx, _⟩⟩ := h.nw.own
  · unfold Sl.v at hv; simp at hv; exact ⟨by omega, by omega, fun _ => ⟨hz, hv.2.2⟩⟩
  · unfold Sl.v at hv
    simp at hv
    refine ⟨by omega, by unfold maxLen at hmx; omega, fun e => ?_⟩
    rw [hv.1] at e; cases e
set_option maxHeartbeats 4000000 in
set_option maxRecDepth 100000 in
theorem ins_end (w W : World) (s : Sl) (l : List E) (u : E) (B : Nat) (h : OwnE w W s l) (hn : s.n ≤ 1500000) (hB : Cap W B u) : Calls Tryd.prog 90 #[s.v, .int .i64 (s.n : Int), .slice (some ⟨B, 0, none⟩) 1 1] W fun r W' => ∃ s', r = .returned (Sl.v s') ∧ OwnE w W' s' (l ++ [u]) := by
  obtain ⟨s', W', hrun, own⟩ := run_appE2 h (by omega) u B hB 39
  have hc := h.cap
  have HO := hid own
  clear own hB
  obtain ⟨p, n, c⟩ := s
  unfold Sl.v at hrun ⊢
  simp only at hc hn
  obtain ⟨hc1, hc2, hc3⟩ := hc
  cases p with
  | none =>
    obtain ⟨rfl, rfl⟩ := hc3 rfl
    clear h hc3
    go_enter Tryd.func90, Tryd.ntmps90
    go_wp2_with (at_builtin; refine wpList_append3 rfl (.tmp 23) (.tmp 24) 39 rfl _ _ rfl rfl _ _ hrun ?_)
    go_wp2
    go_ret
    exact ⟨s', rfl, HO.out⟩
  | some a =>
    clear h hc3
    go_enter Tryd.func90, Tryd.ntmps90
    go_wp2_with (at_builtin; refine wpList_append3 rfl (.tmp 23) (.tmp 24) 39 rfl _ _ rfl rfl _ _ hrun ?_)
    all_goals (go_wp2; go_ret; exact ⟨s', rfl, HO.out⟩)
end Go.Proofs.YtokaeiahhmaokaaDoor.ds
namespace Go.Proofs.YtokaeiahhmaokaaDoor.ds
open Go.ChangeShapes Go.WideShapes Go.ChangeAt Go.RowKit Go.Sort
set_option linter.unusedVariables false
set_option linter.unusedSimpArgs false
theorem infoV : (Tryd.prog.info? 25).map (fun i => (i.zero, i.size, i.bytes)) = some (some (.slice none 0 0), 1, 24) := by kernel_rfl
theorem infoX : (Tryd.prog.info? 26).map (fun i => (i.zero, i.size, i.bytes)) = some (some (.slice none 0 0), 1, 24) := by kernel_rfl
def gS (l : List Sl) (k : Nat) : Sl := l.getD k ⟨none, 0, 0⟩
theorem gS_left (l m : List Sl) (j : Nat) (hj : j < l.length) : gS (l ++ m) j = gS l j := by unfold gS; rw [List.getD_eq_getElem?_getD, List.getD_eq_getElem?_getD, List.getElem?_append_left hj]
theorem gS_at (l : List Sl) (s : Sl) : gS (l ++ [s]) l.length = s := by unfold gS; simp [List.getD_eq_getElem?_getD]
theorem gE_left (l m : List E) (j : Nat) (hj : j < l.length) : gE (l ++ m) j = gE l j := by unfold gE; rw [List.getD_eq_getElem?_getD, List.getD_eq_getElem?_getD, List.getElem?_append_left hj]
theorem gE_at (l : List E) (s : E) : gE (l ++ [s]) l.length = s := by unfold gE; simp [List.getD_eq_getElem?_getD]
theorem Rd.pre {w : World} {p : Option Addr} {us vs : List Value} (h : Rd w p (us ++ vs)) : Rd w p us := by
  intro h0
  obtain ⟨P, o, e, hP, hc⟩ := h (by simp; omega)
  refine ⟨P, o, e, hP, fun j u hj => hc j u ?_⟩
  have hjl : j < us.length := by
    by_cases hc : j < us.length
    · exact hc
    · rw [List.getElem?_eq_none (by omega)] at hj; cases hj
  rw [List.getElem?_append_left hjl]; exact hj
theorem Sp.of_rd {w : World} {p : Option Addr} {xs : List S} (h : Rd w p (flat xs)) : Sp w p xs := by
  intro h0
  obtain ⟨P, o, e, hP, hc⟩ := h (by rw [flat_length]; omega)
  refine ⟨P, o, e, hP, fun i hi => ?_⟩
  obtain ⟨a, b, c⟩ := flat_get xs i hi
  simp only [Nat.add_assoc]
  exact ⟨hc _ _ a, hc _ _ b, hc _ _ c⟩
def marksV : List Value := byts [7, 8]
def marksX : List Value := flat [⟨77, 0, 0⟩, ⟨78, 0, 0⟩]
/-- a write that is lent: marks stand behind the ends of its value and its context -/
structure One (w : World) (e : E) (v x : Sl) (r : Wr) : Prop where
  n : e.n = r.n
  c : e.c = r.c
  k : e.k = r.k
  d : e.d = r.d
  vb : ∀ b ∈ r.vs, b < 256
  vl : r.vs.length ≤ 2000000
  xl : r.xs.length ≤ 2000000
  xf : ∀ y ∈ r.xs, y.t < 2 ^ 64
  vo : w.ownsRow 0 5 1 v.v v.n (byts r.vs ++ marksV)
  vn : v.n = r.vs.length + 2
  vp : ∃ k, v.p = some ⟨k, 0, none⟩
  ev : e.v = ⟨v.p, r.vs.length, v.c⟩
  xo : w.ownsRow 0 80 3 x.v x.n (flat r.xs ++ marksX)
  xn : x.n = r.xs.length + 2
  xp : ∃ k, x.p = some ⟨k, 0, none⟩
  ex : e.x = ⟨x.p, r.xs.length, x.c⟩
theorem One.reads {w : World} {e : E} {v x : Sl} {r : Wr} (h : One w e v x r) : Reads w e r := by
  obtain ⟨kv, hkv⟩ := h.vp
  obtain ⟨kx, hkx⟩ := h.xp
  refine ⟨h.n, h.c, h.k, h.d, ?_, ?_, ?_, h.vb, ⟨?_, ?_, ?_, h.xf⟩, ?_, ?_, ?_⟩
  · rw [h.ev]; exact (Rd.own h.vo).pre
  · rw [h.ev]
  · rw [h.ev]; exact h.vl
  · rw [h.ex]; exact Sp.of_rd (Rd.own h.xo).pre
  · rw [h.ex]
  · rw [h.ex]; have := h.xl; show r.xs.length ≤ _; omega
  · rw [h.ex]; exact h.xl
  · rw [h.ev]; intro e; simp [hkv] at e
  · rw [h.ex]; intro e; simp [hkx] at e
theorem One.kept {w w' : World} {e : E} {v x : Sl} {r : Wr} {X : List Nat} (h : One w e v x r) (a : Apart X w w') (hv : ∀ k, v.v.ownBlock = some k → k ∉ X) (hx : ∀ k, x.v.ownBlock = some k → k ∉ X) : One w' e v x r :=
  { h with vo := own_apart h.vo a hv, xo := own_apart h.xo a hx }
/-- .. where only blocks of other kinds were written -/
theorem One.keptT {w w' : World} {e : E} {v x : Sl} {r : Wr} {X : List Nat} (h : One w e v x r) (a : Apart X w w') (hX : ∀ k ∈ X, ∀ cur, w.heap[k]? ≠ some (.cells cur 5 (0, 0)) ∧ w.heap[k]? ≠ some (.cells cur 80 (0, 0))) : One w' e v x r :=
  h.kept a (fun k hk hm => by obtain ⟨cur, e1⟩ := own_typ h.vo hk; exact (hX k hm cur).1 e1) (fun k hk hm => by obtain ⟨cur, e1⟩ := own_typ h.xo hk; exact (hX k hm cur).2 e1)
theorem oneS (l : List Sl) : ∀ u ∈ l.map Sl.v, u.oneCell' = true := by
  intro u hu
  simp only [List.mem_map] at hu
  obtain ⟨s, _, rfl⟩ := hu
  rfl
/-- the value and the context with their marks -/
theorem lent_parts (w : World) (e : E) (r : Wr) (h : Reads w e r) : ∃ s1 w1 s2 w2 s3 w3 s4 w4,
    (Builtin.append_ #[25, 25] 25 #[.slice none 0 0, e.v.v]).run Tryd.prog w = .ok (Sl.v s1) w1 ∧
    (Builtin.append_ #[25, 25] 25 #[s1.v, .slice (some ⟨w1.heap.size, 0, none⟩) 2 2]).run Tryd.prog (w1.alloc (.cells #[.int .u8 7, .int .u8 8] 5)) = .ok (Sl.v s2) w2 ∧
    (Builtin.append_ #[26, 26] 26 #[.slice none 0 0, e.x.v]).run Tryd.prog w2 = .ok (Sl.v s3) w3 ∧
    (Builtin.append_ #[26, 26] 26 #[s3.v, .slice (some ⟨w3.heap.size, 0, none⟩) 2 2]).run Tryd.prog (w3.alloc (.cells #[.int .i64 77, .int .i64 0, .int .u64 0, .int .i64 78, .int .i64 0, .int .u64 0] 80)) = .ok (Sl.v s4) w4 ∧
    Apart [] w w1 ∧ Apart [] w w2 ∧ Apart [] w w3 ∧ Apart [] w w4 ∧ Nw w w4 5 1 s2 (byts r.vs ++ marksV) ∧ Nw w w4 80 3 s4 (flat r.xs ++ marksX) ∧ s2.n = e.v.n + 2 ∧ s4.n = e.x.n + 2 ∧ (∃ k, s2.p = some ⟨k, 0, none⟩) ∧ (∃ k, s4.p = some ⟨k, 0, none⟩) ∧ s2.n ≤ s2.c ∧ s4.n ≤ s4.c := by
  obtain ⟨s1, w1, hr1, n1, hs1⟩ := appB w e.v r.vs 25 h.v h.vn h.vl h.vo
  obtain ⟨i0, hi, hz0, hz1, hz2⟩ := info_parts infoB
  have hvl := h.vl
  have hxl := h.xl
  obtain ⟨s2, w2, hr2, n2, hs2, ap2, k2, hk2, hc2, _⟩ := run_appM 25 25 5 i0 _ 1 1 Tryd.underlying25 hi hz0 hz1 hz2 rfl (by decide) n1 2 marksV (by decide) rfl (oneB _) (by unfold maxLen; omega) (by omega)
  obtain ⟨s3, w3, hr3, n3, hs3⟩ := appS w2 e.x r.xs 26 (h.x.kept0 n2.ap) h.xl h.xo
  obtain ⟨i1, hi', hz0', hz1', hz2'⟩ := info_parts info52
  obtain ⟨s4, w4, hr4, n4, hs4, ap4, k4, hk4, hc4, _⟩ := run_appM 26 26 80 i1 _ 3 24 Tryd.underlying26 hi' hz0' hz1' hz2' rfl (by decide) n3 2 marksX (by decide) rfl (oneFlat _) (by unfold maxLen; omega) (by omega)
  refine ⟨s1, w1, s2, w2, s3, w3, s4, w4, hr1, hr2, hr3, hr4, n1.ap, n2.ap, n2.ap.trans n3.ap, n2.ap.trans n4.ap, n2.kept n4.ap, ⟨n4.own, fun k hk => Nat.le_trans n2.ap.size (n4.new k hk), n2.ap.trans n4.ap⟩, by omega, by omega, ⟨k2, hk2⟩, ⟨k4, hk4⟩, hc2, hc4⟩
end Go.Proofs.YtokaeiahhmaokaaDoor.ds
namespace Go.Proofs.YtokaeiahhmaokaaDoor.ds
open Go.ChangeShapes Go.WideShapes Go.ChangeAt Go.RowKit Go.Sort
set_option linter.unusedVariables false
set_option linter.unusedSimpArgs false
open Classical in
/-- a list more, where it is a set for the gap -/
noncomputable def knowG (gap : Int) (a xs : List S) : List S := if (1 ≤ gap ∧ gap ≤ 64) ∧ OkL gap a ∧ OkL gap xs then uni a xs else a
/-- several lists of spans, as they read -/
structure LX (w : World) (p : Option Addr) (N : Nat) (ss : List Sl) (xss : List (List S)) : Prop where
  rd : Rd w p (ss.map Sl.v)
  len : ss.length = N
  lx : xss.length = N
  l : ∀ j, j < N → L w (gS ss j).p (gS ss j).n (xss.getD j [])
theorem LX.kept0 {w w' : World} {p : Option Addr} {N : Nat} {ss : List Sl} {xss : List (List S)} (h : LX w p N ss xss) (a : Apart [] w w') : LX w' p N ss xss := ⟨h.rd.kept0 a, h.len, h.lx, fun j hj => (h.l j hj).kept0 a⟩
noncomputable def unis (gap : Int) (xss : List (List S)) : List S := xss.foldl (knowG gap) []
theorem unis_snoc (gap : Int) (xss : List (List S)) (i : Nat) (hi : i < xss.length) : unis gap (xss.take (i + 1)) = knowG gap (unis gap (xss.take i)) (xss.getD i []) := by
  unfold unis
  rw [List.take_add_one, List.foldl_append]
  simp [List.getD_eq_getElem?_getD, hi]
end Go.Proofs.YtokaeiahhmaokaaDoor.ds
namespace Go.Proofs.YtokaeiahhmaokaaDoor.ds
open Go.ChangeShapes Go.WideShapes Go.ChangeAt Go.RowKit Go.Shelf
set_option linter.unusedVariables false
set_option linter.unusedSimpArgs false
attribute [local go_sem] Oper.semAt_some
/-- the first m of the numbers below N, downward -/
def dn (N : Nat) : Nat → List (Fin N)
  | 0 => []
  | m + 1 => dn N m ++ (if h : N - 1 - m < N then [⟨N - 1 - m, h⟩] else [])
end Go.Proofs.YtokaeiahhmaokaaDoor.ds
namespace Go.Proofs.YtokaeiahhmaokaaDoor.ds
open Go.ChangeShapes Go.WideShapes Go.ChangeAt Go.RowKit Go.Sort
set_option linter.unusedVariables false
set_option linter.unusedSimpArgs false
theorem Nw.keepT {w0 w w' : World} {e size : Nat} {s : Sl} {us : List Value} {X : List Nat} (h : Nw w0 w e size s us) (a : Apart X w w') (ap : Apart [] w0 w') (hX : ∀ k ∈ X, ∀ cur, w.heap[k]? ≠ some (.cells cur e (0, 0))) : Nw w0 w' e size s us :=
  ⟨own_apart h.own a (fun k hk hm => by obtain ⟨cur, e1⟩ := own_typ h.own hk; exact hX k hm cur e1), h.new, ap⟩
/-- rows of bytes and of spans are as they were -/
structure KeepT (w w' : World) : Prop where
  b : ∀ (k : Nat) (cur : Array Value), w.heap[k]? = some (.cells cur 5 (0, 0)) → w'.heap[k]? = some (.cells cur 5 (0, 0))
  x : ∀ (k : Nat) (cur : Array Value), w.heap[k]? = some (.cells cur 80 (0, 0)) → w'.heap[k]? = some (.cells cur 80 (0, 0))
theorem KeepT.trans {a b c : World} (h : KeepT a b) (k : KeepT b c) : KeepT a c := ⟨fun i cur e => k.b i cur (h.b i cur e), fun i cur e => k.x i cur (h.x i cur e)⟩
theorem KeepT.of0 {w w' : World} (a : Apart [] w w') : KeepT w w' := ⟨fun k cur e => (a.block k (lt_of_heap e) (by simp)).trans e, fun k cur e => (a.block k (lt_of_heap e) (by simp)).trans e⟩
theorem KeepT.of {w w' : World} {X : List Nat} (a : Apart X w w') (hX : ∀ k ∈ X, ∀ cur, w.heap[k]? ≠ some (.cells cur 5 (0, 0)) ∧ w.heap[k]? ≠ some (.cells cur 80 (0, 0))) : KeepT w w' :=
  ⟨fun k cur e => (a.block k (lt_of_heap e) (fun m => (hX k m cur).1 e)).trans e, fun k cur e => (a.block k (lt_of_heap e) (fun m => (hX k m cur).2 e)).trans e⟩
theorem own_keptB {w w' : World} {base size : Nat} {v : Value} {n : Nat} {xs : List Value} (h : w.ownsRow base 5 size v n xs) (a : KeepT w w') : w'.ownsRow base 5 size v n xs := by
  obtain ⟨hl, ⟨hv, hz⟩ | ⟨g, cap, cur, rfl, hb, hr, hrest⟩⟩ := h
  · exact ⟨hl, .inl ⟨hv, hz⟩⟩
  · exact ⟨hl, .inr ⟨g, cap, cur, rfl, hb, a.b g cur hr, hrest⟩⟩
theorem own_keptX {w w' : World} {base size : Nat} {v : Value} {n : Nat} {xs : List Value} (h : w.ownsRow base 80 size v n xs) (a : KeepT w w') : w'.ownsRow base 80 size v n xs := by
  obtain ⟨hl, ⟨hv, hz⟩ | ⟨g, cap, cur, rfl, hb, hr, hrest⟩⟩ := h
  · exact ⟨hl, .inl ⟨hv, hz⟩⟩
  · exact ⟨hl, .inr ⟨g, cap, cur, rfl, hb, a.x g cur hr, hrest⟩⟩
theorem One.keptK {w w' : World} {e : E} {v x : Sl} {r : Wr} (h : One w e v x r) (a : KeepT w w') : One w' e v x r := { h with vo := own_keptB h.vo a, xo := own_keptX h.xo a }
/-- the three rows of what is lent -/
structure LR (w0 w : World) (LB : Nat) (s vv xx : Sl) (us vs xs : List Value) : Prop where
  blk : w.heap[LB]? = some (.cells #[s.v, vv.v, xx.v] 112 (0, 0))
  hLB : w0.heap.size ≤ LB
  list : Nw w0 w 28 6 s us
  vals : Nw w0 w 25 1 vv vs
  ctxs : Nw w0 w 26 1 xx xs
  ap : Apart [] w0 w
theorem LR.kept0 {w0 w w' : World} {LB : Nat} {s vv xx : Sl} {us vs xs : List Value} (h : LR w0 w LB s vv xx us vs xs) (a : Apart [] w w') : LR w0 w' LB s vv xx us vs xs :=
  ⟨(a.block _ (lt_of_heap h.blk) (by simp)).trans h.blk, h.hLB, h.list.kept a, h.vals.kept a, h.ctxs.kept a, h.ap.trans a⟩
theorem own_ne {w : World} {e size : Nat} {s : Sl} {us : List Value} (h : w.ownsRow 0 e size s.v s.n us) {k : Nat} (hk : k ∈ s.v.ownBlock.toList) (cur : Array Value) {t : TypeId} (ht : t ≠ e) : w.heap[k]? ≠ some (.cells cur t (0, 0)) := by
  obtain ⟨c, e1⟩ := own_typ h (k := k) (by simpa using hk)
  rw [e1]
  intro e2
  simp at e2
  exact ht e2.2.symm
theorem blk_ne {w : World} {k : Nat} {c : Array Value} {t0 : TypeId} (h : w.heap[k]? = some (.cells c t0 (0, 0))) (cur : Array Value) {t : TypeId} (ht : t ≠ t0) : w.heap[k]? ≠ some (.cells cur t (0, 0)) := by
  rw [h]
  intro e2
  simp at e2
  exact ht e2.2.symm

/-- one more in the vals -/
theorem LR.addV {w0 w : World} {LB : Nat} {s vv xx : Sl} {us vs xs : List Value} (h : LR w0 w LB s vv xx us vs xs) (x : Sl) (hn : vv.n ≤ 2000000) :
    ∃ s' w', (Builtin.append_ #[72, 72] 72 #[vv.v, .slice (some ⟨w.heap.size, 0, none⟩) 1 1]).run Tryd.prog (w.alloc (.cells #[x.v] 25)) = .ok (Sl.v s') w' ∧ w'.heap[LB]? = some (.cells #[s.v, vv.v, xx.v] 112 (0, 0)) ∧ Apart [] w0 w' ∧
      LR w0 (w'.setCell ⟨LB, 1, none⟩ s'.v) LB s s' xx us (vs ++ [x.v]) xs ∧ s'.n = vv.n + 1 ∧ KeepT w (w'.setCell ⟨LB, 1, none⟩ s'.v) := by
  obtain ⟨i0, hi, hz0, hz1, hz2⟩ := info_parts infoV
  obtain ⟨s', w', hrun, n5, hs5, ap5, k5, hk5, hc5, hkk⟩ := run_appM 72 72 25 i0 _ 1 24 Tryd.underlying72 hi hz0 hz1 hz2 rfl (by decide) h.vals 1 [x.v] (by decide) rfl (oneS [x]) (by unfold maxLen; omega) (by omega)
  have apw : Apart [] w0 w' := n5.ap
  have b5 : w'.heap[LB]? = some (.cells #[s.v, vv.v, xx.v] 112 (0, 0)) := (ap5.block LB (lt_of_heap h.blk) (fun m => own_ne h.vals.own m _ (by decide) h.blk)).trans h.blk
  have ag : Apart [LB] w' (w'.setCell ⟨LB, 1, none⟩ s'.v) := (Apart.refl _ _).setCell (.inl (by simp)) _
  have b6 : (w'.setCell ⟨LB, 1, none⟩ s'.v).heap[LB]? = some (.cells #[s.v, s'.v, xx.v] 112 (0, 0)) := by
    have := heap_setCell_same w' LB 1 _ 112 s'.v b5
    simpa using this
  refine ⟨s', w', hrun, b5, apw, ⟨b6, h.hLB, (h.list.keepT ap5 apw (fun k hk cur => own_ne h.vals.own hk cur (by decide))).keepT ag (apw.trans' ag (by simp; exact h.hLB)) (fun k hk cur => by simp at hk; subst hk; exact blk_ne b5 cur (by decide)), n5.keepT ag (apw.trans' ag (by simp; exact h.hLB)) (fun k hk cur => by simp at hk; subst hk; exact blk_ne b5 cur (by decide)), (h.ctxs.keepT ap5 apw (fun k hk cur => own_ne h.vals.own hk cur (by decide))).keepT ag (apw.trans' ag (by simp; exact h.hLB)) (fun k hk cur => by simp at hk; subst hk; exact blk_ne b5 cur (by decide)), apw.trans' ag (by simp; exact h.hLB)⟩, hs5, ?_⟩
  exact (KeepT.of ap5 (fun k hk cur => ⟨own_ne h.vals.own hk cur (by decide), own_ne h.vals.own hk cur (by decide)⟩)).trans (KeepT.of ag (fun k hk cur => by simp at hk; subst hk; exact ⟨blk_ne b5 cur (by decide), blk_ne b5 cur (by decide)⟩))

/-- one more in the ctxs -/
theorem LR.addX {w0 w : World} {LB : Nat} {s vv xx : Sl} {us vs xs : List Value} (h : LR w0 w LB s vv xx us vs xs) (x : Sl) (hn : xx.n ≤ 2000000) :
    ∃ s' w', (Builtin.append_ #[29, 29] 29 #[xx.v, .slice (some ⟨w.heap.size, 0, none⟩) 1 1]).run Tryd.prog (w.alloc (.cells #[x.v] 26)) = .ok (Sl.v s') w' ∧ w'.heap[LB]? = some (.cells #[s.v, vv.v, xx.v] 112 (0, 0)) ∧ Apart [] w0 w' ∧
      LR w0 (w'.setCell ⟨LB, 2, none⟩ s'.v) LB s vv s' us vs (xs ++ [x.v]) ∧ s'.n = xx.n + 1 ∧ KeepT w (w'.setCell ⟨LB, 2, none⟩ s'.v) := by
  obtain ⟨i0, hi, hz0, hz1, hz2⟩ := info_parts infoX
  obtain ⟨s', w', hrun, n5, hs5, ap5, k5, hk5, hc5, hkk⟩ := run_appM 29 29 26 i0 _ 1 24 Tryd.underlying29 hi hz0 hz1 hz2 rfl (by decide) h.ctxs 1 [x.v] (by decide) rfl (oneS [x]) (by unfold maxLen; omega) (by omega)
  have apw : Apart [] w0 w' := n5.ap
  have b5 : w'.heap[LB]? = some (.cells #[s.v, vv.v, xx.v] 112 (0, 0)) := (ap5.block LB (lt_of_heap h.blk) (fun m => own_ne h.ctxs.own m _ (by decide) h.blk)).trans h.blk
  have ag : Apart [LB] w' (w'.setCell ⟨LB, 2, none⟩ s'.v) := (Apart.refl _ _).setCell (.inl (by simp)) _
  have b6 : (w'.setCell ⟨LB, 2, none⟩ s'.v).heap[LB]? = some (.cells #[s.v, vv.v, s'.v] 112 (0, 0)) := by
    have := heap_setCell_same w' LB 2 _ 112 s'.v b5
    simpa using this
  refine ⟨s', w', hrun, b5, apw, ⟨b6, h.hLB, (h.list.keepT ap5 apw (fun k hk cur => own_ne h.ctxs.own hk cur (by decide))).keepT ag (apw.trans' ag (by simp; exact h.hLB)) (fun k hk cur => by simp at hk; subst hk; exact blk_ne b5 cur (by decide)), (h.vals.keepT ap5 apw (fun k hk cur => own_ne h.ctxs.own hk cur (by decide))).keepT ag (apw.trans' ag (by simp; exact h.hLB)) (fun k hk cur => by simp at hk; subst hk; exact blk_ne b5 cur (by decide)), n5.keepT ag (apw.trans' ag (by simp; exact h.hLB)) (fun k hk cur => by simp at hk; subst hk; exact blk_ne b5 cur (by decide)), apw.trans' ag (by simp; exact h.hLB)⟩, hs5, ?_⟩
  exact (KeepT.of ap5 (fun k hk cur => ⟨own_ne h.ctxs.own hk cur (by decide), own_ne h.ctxs.own hk cur (by decide)⟩)).trans (KeepT.of ag (fun k hk cur => by simp at hk; subst hk; exact ⟨blk_ne b5 cur (by decide), blk_ne b5 cur (by decide)⟩))

/-- one more in the list -/
theorem LR.addE {w0 w : World} {LB : Nat} {s vv xx : Sl} {us vs xs : List Value} (h : LR w0 w LB s vv xx us vs xs) (e : E) (hn : s.n ≤ 2000000) :
    ∃ s' w', (Builtin.append_ #[39, 39] 39 #[s.v, .slice (some ⟨w.heap.size, 0, none⟩) 1 1]).run Tryd.prog (w.alloc (boxE e)) = .ok (Sl.v s') w' ∧ w'.heap[LB]? = some (.cells #[s.v, vv.v, xx.v] 112 (0, 0)) ∧ Apart [] w0 w' ∧
      LR w0 (w'.setCell ⟨LB, 0, none⟩ s'.v) LB s' vv xx (us ++ (E.cs e)) vs xs ∧ s'.n = s.n + 1 ∧ KeepT w (w'.setCell ⟨LB, 0, none⟩ s'.v) := by
  obtain ⟨i0, hi, hz0, hz1, hz2⟩ := info_parts infoW
  obtain ⟨s', w', hrun, n5, hs5, ap5, k5, hk5, hc5, hkk⟩ := run_appM 39 39 28 i0 _ 6 88 Tryd.underlying39 hi hz0 hz1 hz2 rfl (by decide) h.list 1 (E.cs e) (by decide) rfl (fun v hv => oneE [e] v (by simpa [flatE] using hv)) (by unfold maxLen; omega) (by omega)
  have apw : Apart [] w0 w' := n5.ap
  have b5 : w'.heap[LB]? = some (.cells #[s.v, vv.v, xx.v] 112 (0, 0)) := (ap5.block LB (lt_of_heap h.blk) (fun m => own_ne h.list.own m _ (by decide) h.blk)).trans h.blk
  have ag : Apart [LB] w' (w'.setCell ⟨LB, 0, none⟩ s'.v) := (Apart.refl _ _).setCell (.inl (by simp)) _
  have b6 : (w'.setCell ⟨LB, 0, none⟩ s'.v).heap[LB]? = some (.cells #[s'.v, vv.v, xx.v] 112 (0, 0)) := by
    have := heap_setCell_same w' LB 0 _ 112 s'.v b5
    simpa using this
  refine ⟨s', w', hrun, b5, apw, ⟨b6, h.hLB, n5.keepT ag (apw.trans' ag (by simp; exact h.hLB)) (fun k hk cur => by simp at hk; subst hk; exact blk_ne b5 cur (by decide)), (h.vals.keepT ap5 apw (fun k hk cur => own_ne h.list.own hk cur (by decide))).keepT ag (apw.trans' ag (by simp; exact h.hLB)) (fun k hk cur => by simp at hk; subst hk; exact blk_ne b5 cur (by decide)), (h.ctxs.keepT ap5 apw (fun k hk cur => own_ne h.list.own hk cur (by decide))).keepT ag (apw.trans' ag (by simp; exact h.hLB)) (fun k hk cur => by simp at hk; subst hk; exact blk_ne b5 cur (by decide)), apw.trans' ag (by simp; exact h.hLB)⟩, hs5, ?_⟩
  exact (KeepT.of ap5 (fun k hk cur => ⟨own_ne h.list.own hk cur (by decide), own_ne h.list.own hk cur (by decide)⟩)).trans (KeepT.of ag (fun k hk cur => by simp at hk; subst hk; exact ⟨blk_ne b5 cur (by decide), blk_ne b5 cur (by decide)⟩))
end Go.Proofs.YtokaeiahhmaokaaDoor.ds
