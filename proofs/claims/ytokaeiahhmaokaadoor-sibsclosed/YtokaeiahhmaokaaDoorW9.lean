import Derived.Test.YtokaeiahhmaokaaDoorW8
import Derived.Laws.CopyOwn
import Derived.Lib.Overlaps
import Derived.Lib.AppendZerosOnto
import Derived.Laws.NewBlocks
import Derived.Laws.Externs
import Derived.Laws.IdiomCopy
import Derived.Test.YtokaeiahhmaokaaDoorW5
import Derived.RangeFuncNested
import Derived.RangeFuncBound
import Derived.RangeFuncCalls
import Derived.RangeFuncLeaves
import Derived.Shelf.Abstract
import Derived.Shelf.RegionOpen
import Derived.WalkKit
import Derived.OwnWalkIn
import Derived.TacticsInMore
import Derived.LoopNIn
import Derived.LoopIn
namespace Go.Proofs.YtokaeiahhmaokaaDoor.ds
open Go.ChangeShapes Go.WideShapes Go.ChangeAt Go.RowKit Go.Sort
set_option linter.unusedVariables false
set_option linter.unusedSimpArgs false
theorem Rd.det {w : World} {p : Option Addr} {us vs : List Value} (h : Rd w p us) (h' : Rd w p vs) (hl : us.length = vs.length) : us = vs := by
  by_cases h0 : 0 < us.length
  · obtain ⟨P, o, e1, _, hc⟩ := h h0
    obtain ⟨P', o', e2, _, hc'⟩ := h' (by omega)
    rw [e1] at e2
    simp at e2
    obtain ⟨rfl, rfl⟩ := e2
    apply List.ext_getElem hl
    intro j h1 h2
    have a := hc j _ (List.getElem?_eq_getElem h1)
    have b := hc' j _ (List.getElem?_eq_getElem h2)
    rw [a] at b
    simpa using b
  · rw [List.length_eq_zero_iff.1 (by omega : us.length = 0), List.length_eq_zero_iff.1 (by omega : vs.length = 0)]
theorem byts_inj : ∀ {a b : List Nat}, byts a = byts b → a = b
  | [], [], _ => rfl
  | [], _ :: _, h => by simp [byts] at h
  | _ :: _, [], h => by simp [byts] at h
  | x :: a, y :: b, h => by
    simp only [byts, List.map_cons, List.cons.injEq, Value.int.injEq] at h
    have h1 : x = y := by have := h.1.2; omega
    rw [h1, byts_inj (a := a) (b := b) h.2]
theorem flat_inj : ∀ {a b : List S}, flat a = flat b → a = b
  | [], [], _ => rfl
  | [], _ :: _, h => by simp [flat, ec] at h
  | _ :: _, [], h => by simp [flat, ec] at h
  | x :: a, y :: b, h => by
    have e : ∀ z l, flat (z :: l) = ec z ++ flat l := fun z l => rfl
    rw [e, e] at h
    simp only [ec, List.cons_append, List.nil_append, List.cons.injEq, Value.int.injEq] at h
    obtain ⟨h1, h2, h3, h4⟩ := h
    rw [flat_inj h4]
    cases x; cases y
    simp only at h1 h2 h3
    rw [h1.2, h2.2, Int.ofNat.inj h3.2]
theorem Reads.det {w : World} {e : E} {r q : Wr} (h : Reads w e r) (h' : Reads w e q) : r = q := by
  have e1 := byts_inj (Rd.det h.v h'.v (by simp [byts]; rw [h.vn, h'.vn]))
  have e2 := flat_inj (Rd.det h.x.rd h'.x.rd (by rw [flat_length, flat_length, h.x.len, h'.x.len]))
  have a1 := h.n.symm.trans h'.n
  have a2 := h.c.symm.trans h'.c
  have a3 := h.k.symm.trans h'.k
  have a4 := h.d.symm.trans h'.d
  cases r; cases q
  simp only at a1 a2 a3 a4 e1 e2
  subst a1; subst a2; subst a3; subst a4; subst e1; subst e2; rfl
open Classical in
/-- how a write reads -/
noncomputable def RW (w : World) (t : E) : Wr := if h : ∃ r, Reads w t r then h.choose else Wr.z
theorem RW_eq {w : World} {t : E} {r : Wr} (h : Reads w t r) : RW w t = r := by
  unfold RW
  rw [dif_pos ⟨r, h⟩]
  exact Reads.det (Exists.choose_spec (⟨r, h⟩ : ∃ r, Reads w t r)) h
theorem RW_reads {w : World} {t : E} {r : Wr} (h : Reads w t r) : Reads w t (RW w t) := by rw [RW_eq h]; exact h
/-- merging, as the writes read -/
noncomputable def cvW (t u : Wr) : Bool := keq t.k u.k && hasd t.xs u.n u.c
def belowW (a b : Wr) : Bool := decide (a.n < b.n) || (decide (a.n = b.n) && decide (a.c < b.c))
def deqW (a b : Wr) : Bool := decide (a.n = b.n) && decide (a.c = b.c)
noncomputable def leftW (rs : List Wr) (u : Wr) : List Wr := rs.filter fun t => !cvW u t
def insW (u : Wr) : List Wr → List Wr
  | [] => [u]
  | x :: l => if belowW u x = true then u :: x :: l else x :: insW u l
noncomputable def mergeW (rs : List Wr) (u : Wr) : List Wr := if (leftW rs u).any (fun t => cvW t u) = true then leftW rs u else insW u (leftW rs u)
noncomputable def merrW (rs : List Wr) (u : Wr) (lim : Int) : Int := if rs.any (fun t => !keq t.k u.k) = true then 50 else if rs.any (fun t => deqW t u) = true then 0 else if lim < (mergeW rs u).length then 51 else 0
noncomputable def mlistW (rs : List Wr) (u : Wr) (lim : Int) : List Wr := if rs.any (fun t => !keq t.k u.k) = true then [] else if rs.any (fun t => deqW t u) = true then rs else if lim < (mergeW rs u).length then [] else mergeW rs u
/-- the dot and the key are the write's -/
structure As (e : E) (r : Wr) : Prop where
  n : e.n = r.n
  c : e.c = r.c
  k : e.k = r.k
theorem Reads.as {w : World} {e : E} {r : Wr} (h : Reads w e r) : As e r := ⟨h.n, h.c, h.k⟩
theorem any_R {f : E → Bool} {g : Wr → Bool} {R : E → Wr} : ∀ (es : List E), (∀ t ∈ es, f t = g (R t)) → es.any f = (es.map R).any g
  | [], _ => rfl
  | x :: l, h => by
    simp only [List.any_cons, List.map_cons]
    rw [h x (by simp), any_R l (fun t ht => h t (by simp [ht]))]
theorem filter_R {f : E → Bool} {g : Wr → Bool} {R : E → Wr} : ∀ (es : List E), (∀ t ∈ es, f t = g (R t)) → (es.filter f).map R = (es.map R).filter g
  | [], _ => rfl
  | x :: l, h => by
    have ih := filter_R (f := f) (g := g) (R := R) l (fun t ht => h t (by simp [ht]))
    have hx := h x (by simp)
    simp only [List.filter_cons, List.map_cons]
    rw [← hx]
    split
    · simp [ih]
    · exact ih
theorem insE_R {R : E → Wr} {u : E} : ∀ (es : List E), (∀ t ∈ es, below u t = belowW (R u) (R t)) → (insE u es).map R = insW (R u) (es.map R)
  | [], _ => rfl
  | x :: l, h => by
    have ih := insE_R (R := R) (u := u) l (fun t ht => h t (by simp [ht]))
    have hx := h x (by simp)
    simp only [insE, insW, List.map_cons]
    rw [← hx]
    split
    · simp
    · simp [ih]
theorem as_below {u t : E} {a b : Wr} (h : As u a) (k : As t b) : below u t = belowW a b := by unfold below belowW; rw [h.n, h.c, k.n, k.c]
theorem as_deq {u t : E} {a b : Wr} (h : As u a) (k : As t b) : deq u t = deqW a b := by unfold deq deqW; rw [h.n, h.c, k.n, k.c]
theorem as_cv {u t : E} {a b : Wr} (h : As u a) (k : As t b) : cvE a.xs u t = cvW a b := by unfold cvE cvW; rw [h.k, k.n, k.c, k.k]
theorem left_W {R : E → Wr} {es : List E} {u : E} (h : ∀ t ∈ es, As t (R t)) (hu : As u (R u)) : (leftE (fun t => (R t).xs) es u).map R = leftW (es.map R) (R u) := by
  unfold leftE leftW
  exact filter_R es (fun t ht => by rw [as_cv hu (h t ht)])
theorem merge_W {R : E → Wr} {es : List E} {u : E} (h : ∀ t ∈ es, As t (R t)) (hu : As u (R u)) : (mergeE (fun t => (R t).xs) es u).map R = mergeW (es.map R) (R u) := by
  have hl : ∀ t ∈ leftE (fun t => (R t).xs) es u, As t (R t) := fun t ht => h t (List.mem_filter.1 ht).1
  unfold mergeE mergeW
  rw [← left_W h hu, ← any_R (f := fun t => cvE (R t).xs t u) (g := fun t => cvW t (R u)) (R := R) _ (fun t ht => as_cv (hl t ht) hu)]
  split
  · rfl
  · exact insE_R _ (fun t ht => as_below hu (hl t ht))
theorem merge_len {R : E → Wr} {es : List E} {u : E} (h : ∀ t ∈ es, As t (R t)) (hu : As u (R u)) : (mergeE (fun t => (R t).xs) es u).length = (mergeW (es.map R) (R u)).length := by
  rw [← merge_W h hu]; simp
theorem merr_W {R : E → Wr} {es : List E} {u : E} {lim : Int} (h : ∀ t ∈ es, As t (R t)) (hu : As u (R u)) : merr (fun t => (R t).xs) es u lim = merrW (es.map R) (R u) lim := by
  unfold merr merrW
  rw [← any_R (f := fun t => !keq t.k u.k) (g := fun t => !keq t.k (R u).k) (R := R) es (fun t ht => by rw [(h t ht).k, hu.k]), ← any_R (f := fun t => deq t u) (g := fun t => deqW t (R u)) (R := R) es (fun t ht => as_deq (h t ht) hu), merge_len h hu]
theorem mlist_W {R : E → Wr} {es : List E} {u : E} {lim : Int} (h : ∀ t ∈ es, As t (R t)) (hu : As u (R u)) : (mlist (fun t => (R t).xs) es u lim).map R = mlistW (es.map R) (R u) lim := by
  unfold mlist mlistW
  rw [← any_R (f := fun t => !keq t.k u.k) (g := fun t => !keq t.k (R u).k) (R := R) es (fun t ht => by rw [(h t ht).k, hu.k]), ← any_R (f := fun t => deq t u) (g := fun t => deqW t (R u)) (R := R) es (fun t ht => as_deq (h t ht) hu), merge_len h hu]
  split
  · rfl
  · split
    · rfl
    · split
      · rfl
      · exact merge_W h hu
end Go.Proofs.YtokaeiahhmaokaaDoor.ds
namespace Go.Proofs.YtokaeiahhmaokaaDoor.ds
open Go.ChangeShapes Go.WideShapes Go.ChangeAt Go.RowKit Go.Sort
set_option linter.unusedVariables false
set_option linter.unusedSimpArgs false
/-- several more at a list's end -/
theorem run_appS {w W : World} {s : Sl} {us : List Value} (t ty e : TypeId) (i : TypeInfo) (z : Value) (size bytes : Nat) (ht : Tryd.prog.underlying t = some (.slice e)) (hi : Tryd.prog.info? e = some i) (hz : i.zero = some z) (hsize : i.size = size) (hby : i.bytes = bytes) (hzs : z.cells.size = size) (hsz : 0 < size)
    (h : Nw w W e size s us) (ad : Addr) (m c : Nat) (cs : List Value) (hm : 0 < m) (hcl : cs.length = m * size) (hcs : ∀ j u, cs[j]? = some u → W.cell? (ad.add j) = some u) (one : ∀ u ∈ cs, u.oneCell' = true) (h63 : s.n + m ≤ maxLen) (hb : (s.n + m) * bytes ≤ 140737488355328) :
    ∃ s' W', (Builtin.append_ #[t, t] ty #[s.v, .slice (some ad) m c]).run Tryd.prog W = .ok (Sl.v s') W' ∧ Nw w W' e size s' (us ++ cs) ∧ s'.n = s.n + m ∧ Apart s.v.ownBlock.toList W W' ∧ ∃ k, s'.p = some ⟨k, 0, none⟩ ∧ s'.n ≤ s'.c ∧ (s.v.ownBlock = some k ∨ W.heap.size ≤ k) := by
  have key : ∃ v' W', (Builtin.append_ #[t, t] ty #[s.v, .slice (some ad) m c]).run Tryd.prog W = .ok v' W' ∧ W'.ownsRow 0 e size v' (s.n + m) (us ++ cs) ∧ W.grownBy W' s.v.ownBlock ∧ NewOr W s.v v' :=
    run_append2 W t ty e i z size bytes ht hi hz hsize hby hzs hsz s.v s.n us h.own ad m c cs hm hcl hcs one h63 hb
  obtain ⟨v', W', hrun, r1, r2, r3⟩ := key
  have ap : Apart s.v.ownBlock.toList W W' := apart_grown r2
  obtain ⟨k, c, rfl, hle⟩ : ∃ k c, v' = .slice (some ⟨k, 0, none⟩) (s.n + m) c ∧ s.n + m ≤ c := by
    obtain ⟨_, ⟨hv, hz⟩ | ⟨g, cap, cur, hv, _, _, hle, _⟩⟩ := r1
    · exact absurd hz (by omega)
    · exact ⟨g, cap, hv, hle⟩
  have hk : s.v.ownBlock = some k ∨ W.heap.size ≤ k := by
    rcases r3 with r3 | ⟨q, r3, hq⟩
    · left; rw [← r3]; rfl
    · right
      simp [Value.ownBlock] at r3
      omega
  refine ⟨⟨some ⟨k, 0, none⟩, s.n + m, c⟩, W', hrun, ⟨r1, fun b hb => ?_, h.ap.trans' ap (fun y hy => ?_)⟩, rfl, ap, k, rfl, hle, hk⟩
  · simp [Sl.v, Value.ownBlock] at hb
    subst hb
    rcases hk with hk | hk
    · exact h.new _ hk
    · have := h.ap.size; omega
  · simp at hy
    exact .inr (h.new y hy)
/-- .. out of a row that was just made -/
theorem run_appM {w W : World} {s : Sl} {us : List Value} (t ty e : TypeId) (i : TypeInfo) (z : Value) (size bytes : Nat) (ht : Tryd.prog.underlying t = some (.slice e)) (hi : Tryd.prog.info? e = some i) (hz : i.zero = some z) (hsize : i.size = size) (hby : i.bytes = bytes) (hzs : z.cells.size = size) (hsz : 0 < size)
    (h : Nw w W e size s us) (m : Nat) (cs : List Value) (hm : 0 < m) (hcl : cs.length = m * size) (one : ∀ u ∈ cs, u.oneCell' = true) (h63 : s.n + m ≤ maxLen) (hb : (s.n + m) * bytes ≤ 140737488355328) :
    ∃ s' W', (Builtin.append_ #[t, t] ty #[s.v, .slice (some ⟨W.heap.size, 0, none⟩) m m]).run Tryd.prog (W.alloc (.cells cs.toArray e)) = .ok (Sl.v s') W' ∧ Nw w W' e size s' (us ++ cs) ∧ s'.n = s.n + m ∧ Apart s.v.ownBlock.toList W W' ∧ ∃ k, s'.p = some ⟨k, 0, none⟩ ∧ s'.n ≤ s'.c ∧ (s.v.ownBlock = some k ∨ W.heap.size ≤ k) := by
  have a1 : Apart [] W (W.alloc (.cells cs.toArray e)) := (Apart.refl [] W).alloc _
  have hcs : ∀ j u, cs[j]? = some u → (W.alloc (.cells cs.toArray e)).cell? ((⟨W.heap.size, 0, none⟩ : Addr).add j) = some u := by
    intro j u hj
    rw [Addr.add_lit, Nat.zero_add, cell_of_row _ _ _ _ _ _ (heap_alloc_new W (.cells cs.toArray e))]
    simpa using hj
  obtain ⟨s', W', hrun, r1, r2, r3, k, r4, r5, r6⟩ := run_appS t ty e i z size bytes ht hi hz hsize hby hzs hsz (h.kept a1) ⟨W.heap.size, 0, none⟩ m m cs hm hcl hcs one h63 hb
  exact ⟨s', W', hrun, r1, r2, (a1.mono (by simp)).trans r3, k, r4, r5, r6.imp id (fun h => Nat.le_trans a1.size h)⟩
/-- copy of several cells an element, into a row that is known whole -/
theorem run_copy_rowN (w : World) (dT sT ty elem : TypeId) (sz g o dLen dCap : Nat) (a : Addr) (sLen sCap m : Nat) (cur : List Value) (t : TypeId) (cs : List Value)
    (hu : Tryd.prog.underlying dT = some (.slice elem)) (hs : (Tryd.prog.info? elem).map (·.size) = some sz)
    (hg : w.heap[g]? = some (.cells cur.toArray t (0, 0))) (hm : m = Nat.min sLen dLen) (hn : cs.length = m * sz)
    (hsrc : ∀ j v, cs[j]? = some v → w.cell? (a.add j) = some v) (hfit : o + cs.length ≤ cur.length) (h1 : ∀ v ∈ cs, v.oneCell' = true) :
    (Builtin.copy_ #[dT, sT] ty #[.slice (some ⟨g, o, none⟩) dLen dCap, .slice (some a) sLen sCap]).run Tryd.prog w =
      .ok (goInt m) (w.setRow g (splice cur o cs).toArray) := by
  have hl := run_loadCells_list (P := Tryd.prog) w a cs hsrc
  have hst := run_storeCells_at Tryd.prog g o t cs 0 cur.toArray w hg (by simpa using hfit) h1
  cases hq : Tryd.prog.info? elem with
  | none => simp [hq] at hs
  | some i =>
    have hi : i.size = sz := by simpa [hq] using hs
    simp [Builtin.copy_, run_underlying hu, Builtin.lenOf, Builtin.firstCells, sizeOf, typeInfo, hq, hi, ← hm, ← hn, hl, hst, splice]
theorem apart_setRow (w : World) (g : Nat) (cs : Array Value) : Apart [g] w (w.setRow g cs) :=
  ⟨rfl, rfl, rfl, by simp [World.setRow], fun k hk hx => setRow_other w g k cs (fun e => hx (by simp [e]))⟩
/-- a gap of one is made at k, and filled -/
theorem splice_ins {α : Type} (A D U R : List α) (hR : U.length ≤ R.length) :
    (splice (splice (A ++ D ++ R) (A.length + U.length) D) A.length U).take (A.length + U.length + D.length) = A ++ U ++ D := by
  have e1 : splice (A ++ D ++ R) (A.length + U.length) D = A ++ (((D ++ R).take U.length) ++ (D ++ (A ++ D ++ R).drop (A.length + U.length + D.length))) := by
    unfold splice
    rw [List.append_assoc A D R, List.take_append, List.take_of_length_le (by omega)]
    simp
  rw [e1]
  unfold splice
  have hl : ((D ++ R).take U.length).length = U.length := by simp; omega
  rw [List.take_append_of_le_length (Nat.le_refl _), List.take_of_length_le (Nat.le_refl _), List.drop_append, List.drop_eq_nil_of_le (by omega : A.length ≤ A.length + U.length)]
  rw [show A.length + U.length - A.length = ((D ++ R).take U.length).length from by omega, List.nil_append, List.drop_left]
  rw [← List.append_assoc, ← List.append_assoc, List.take_append_of_le_length (by simp; omega)]
  exact List.take_of_length_le (by simp; omega)
end Go.Proofs.YtokaeiahhmaokaaDoor.ds
namespace Go.Proofs.YtokaeiahhmaokaaDoor.ds
open Go.ChangeShapes Go.WideShapes Go.ChangeAt Go.RowKit Go.Sort
set_option linter.unusedVariables false
set_option linter.unusedSimpArgs false
theorem run_appE2 {w W : World} {s : Sl} {es : List E} (h : OwnE w W s es) (hn : s.n ≤ 2000000) (u : E) (B : Nat) (hB : Cap W B u) (ty : TypeId) :
    ∃ s' W', (Builtin.append_ #[39, 39] ty #[s.v, .slice (some ⟨B, 0, none⟩) 1 1]).run Tryd.prog W = .ok (Sl.v s') W' ∧ OwnE w W' s' (es ++ [u]) := by
  obtain ⟨i0, hi, hz0, hz1, hz2⟩ := info_parts infoW
  have hcs : ∀ j v, (E.cs u)[j]? = some v → W.cell? ((⟨B, 0, none⟩ : Addr).add j) = some v := by
    intro j v hj
    rw [Addr.add_lit, Nat.zero_add, cell_of_row _ _ _ _ _ _ hB]
    simpa [E.cs] using hj
  obtain ⟨s', W', hrun, r1, r2, _⟩ := run_appS 39 ty 28 i0 _ 6 88 Tryd.underlying39 hi hz0 hz1 hz2 rfl (by decide) h.nw ⟨B, 0, none⟩ 1 1 (E.cs u) (by simp) (by simp [E.cs]) hcs (fun v hv => oneE [u] v (by simpa [flatE] using hv)) (by unfold maxLen; omega) (by omega)
  exact ⟨s', W', hrun, ⟨by rw [← flatE_snoc]; exact r1, by rw [List.length_append, h.len, r2]; rfl⟩⟩
theorem OwnE.cap {w W : World} {s : Sl} {l : List E} (h : OwnE w W s l) : s.n ≤ s.c ∧ s.c ≤ 9223372036854775807 ∧ (s.p = none → s.n = 0 ∧ s.c = 0) := by
  obtain ⟨_, ⟨hv, hz⟩ | ⟨g, cap, cur, hv, _, _, hle, hmx, _⟩⟩ := h.nw.own
  · unfold Sl.v at hv; simp at hv; exact ⟨by omega, by omega, fun _ => ⟨hz, hv.2.2⟩⟩
  · unfold Sl.v at hv
    simp at hv
    refine ⟨by omega, by unfold maxLen at hmx; omega, fun e => ?_⟩
    rw [hv.1] at e; cases e
set_option maxHeartbeats 4000000 in
set_option maxRecDepth 100000 in
theorem ins_end (w W : World) (s : Sl) (l : List E) (u : E) (B : Nat) (h : OwnE w W s l) (hn : s.n ≤ 1500000) (hB : Cap W B u) : Calls Tryd.prog 90 #[s.v, .int .i64 (s.n : Int), .slice (some ⟨B, 0, none⟩) 1 1] W fun r W' => ∃ s', r = .returned (Sl.v s') ∧ OwnE w W' s' (l ++ [u]) := by
  obtain ⟨s', W', hrun, own⟩ := run_appE2 h (by omega) u B hB 39
  have hc := h.cap
  have HO := hid own
  clear own hB
  obtain ⟨p, n, c⟩ := s
  unfold Sl.v at hrun ⊢
  simp only at hc hn
  obtain ⟨hc1, hc2, hc3⟩ := hc
  cases p with
  | none =>
    obtain ⟨rfl, rfl⟩ := hc3 rfl
    clear h hc3
    go_enter Tryd.func90, Tryd.ntmps90
    go_wp2_with (at_builtin; refine wpList_append3 rfl (.tmp 23) (.tmp 24) 39 rfl _ _ rfl rfl _ _ hrun ?_)
    go_wp2
    go_ret
    exact ⟨s', rfl, HO.out⟩
  | some a =>
    clear h hc3
    go_enter Tryd.func90, Tryd.ntmps90
    go_wp2_with (at_builtin; refine wpList_append3 rfl (.tmp 23) (.tmp 24) 39 rfl _ _ rfl rfl _ _ hrun ?_)
    all_goals (go_wp2; go_ret; exact ⟨s', rfl, HO.out⟩)
end Go.Proofs.YtokaeiahhmaokaaDoor.ds
namespace Go.Proofs.YtokaeiahhmaokaaDoor.ds
open Go.ChangeShapes Go.WideShapes Go.ChangeAt Go.RowKit Go.Sort
set_option linter.unusedVariables false
set_option linter.unusedSimpArgs false
def gS (l : List Sl) (k : Nat) : Sl := l.getD k ⟨none, 0, 0⟩
theorem Sp.of_rd {w : World} {p : Option Addr} {xs : List S} (h : Rd w p (flat xs)) : Sp w p xs := by
  intro h0
  obtain ⟨P, o, e, hP, hc⟩ := h (by rw [flat_length]; omega)
  refine ⟨P, o, e, hP, fun i hi => ?_⟩
  obtain ⟨a, b, c⟩ := flat_get xs i hi
  simp only [Nat.add_assoc]
  exact ⟨hc _ _ a, hc _ _ b, hc _ _ c⟩
end Go.Proofs.YtokaeiahhmaokaaDoor.ds
namespace Go.Proofs.YtokaeiahhmaokaaDoor.ds
open Go.ChangeShapes Go.WideShapes Go.ChangeAt Go.RowKit Go.Sort
set_option linter.unusedVariables false
set_option linter.unusedSimpArgs false
open Classical in
/-- a list more, where it is a set for the gap -/
noncomputable def knowG (gap : Int) (a xs : List S) : List S := if (1 ≤ gap ∧ gap ≤ 64) ∧ OkL gap a ∧ OkL gap xs then uni a xs else a
/-- several lists of spans, as they read -/
structure LX (w : World) (p : Option Addr) (N : Nat) (ss : List Sl) (xss : List (List S)) : Prop where
  rd : Rd w p (ss.map Sl.v)
  len : ss.length = N
  lx : xss.length = N
  l : ∀ j, j < N → L w (gS ss j).p (gS ss j).n (xss.getD j [])
theorem LX.kept0 {w w' : World} {p : Option Addr} {N : Nat} {ss : List Sl} {xss : List (List S)} (h : LX w p N ss xss) (a : Apart [] w w') : LX w' p N ss xss := ⟨h.rd.kept0 a, h.len, h.lx, fun j hj => (h.l j hj).kept0 a⟩
noncomputable def unis (gap : Int) (xss : List (List S)) : List S := xss.foldl (knowG gap) []
theorem unis_snoc (gap : Int) (xss : List (List S)) (i : Nat) (hi : i < xss.length) : unis gap (xss.take (i + 1)) = knowG gap (unis gap (xss.take i)) (xss.getD i []) := by
  unfold unis
  rw [List.take_add_one, List.foldl_append]
  simp [List.getD_eq_getElem?_getD, hi]
end Go.Proofs.YtokaeiahhmaokaaDoor.ds
namespace Go.Proofs.YtokaeiahhmaokaaDoor.ds
open Go.ChangeShapes Go.WideShapes Go.ChangeAt Go.RowKit Go.Sort
set_option linter.unusedVariables false
set_option linter.unusedSimpArgs false
/-- what P503 asks of a write alone -/
def rightP (r : Wr) (gap : Int) : Prop := ((1 ≤ (r.k.size : Int) ∧ (r.k.size : Int) ≤ 16) ∧ (r.vs.length : Int) ≤ 64 ∧ ¬ (r.d = true ∧ 0 < (r.vs.length : Int))) ∧ isd r.n r.c = true ∧ chk r.xs gap = 0 ∧ hasd r.xs r.n r.c = false
theorem short_iff {w : World} {a : E} {r : Wr} (ha : Reads w a r) : shortE a ↔ (1 ≤ (r.k.size : Int) ∧ (r.k.size : Int) ≤ 16) ∧ (r.vs.length : Int) ≤ 64 ∧ ¬ (r.d = true ∧ 0 < (r.vs.length : Int)) := by
  unfold shortE; rw [ha.k, ha.d, ← ha.vn]
theorem isWrite_ok (a : E) (r : Wr) (gap : Int) (w : World) (ha : Reads w a r) (v : Bool) (hv : v = true ↔ rightP r gap) : Calls Tryd.prog 58 #[a.agg, .int .i64 gap] w fun z w' => z = .returned (.bool v) ∧ Apart [] w w' := by
  by_cases hs : shortE a
  · have h := isW_walk a gap w (isd r.n r.c) (hasd r.xs r.n r.c) (chk r.xs gap) hs (fun W => by rw [ha.n, ha.c]; exact pdot_ok r.n r.c W) (fun W x => check_as (ha.x.kept0 x) _ rfl) (fun W x => by rw [ha.n, ha.c]; exact has_any r.n r.c (ha.x.kept0 x) _ rfl)
    have e : (isd r.n r.c && (decide (chk r.xs gap = 0) && !hasd r.xs r.n r.c)) = v := by
      rw [Bool.eq_iff_iff, hv]
      unfold rightP
      have := (short_iff ha).1 hs
      simp only [Bool.and_eq_true, decide_eq_true_eq, Bool.not_eq_true']
      exact ⟨fun h => ⟨this, h.1, h.2.1, h.2.2⟩, fun h => ⟨h.2.1, h.2.2.1, h.2.2.2⟩⟩
    rw [e] at h
    exact h
  · have e : v = false := by
      cases hvv : v with
      | false => rfl
      | true => exact absurd ((short_iff ha).2 (hv.1 hvv).1) hs
    rw [e]
    exact isW_short a gap w hs
end Go.Proofs.YtokaeiahhmaokaaDoor.ds
namespace Go.Proofs.YtokaeiahhmaokaaDoor.ds
open Go.ChangeShapes Go.WideShapes Go.ChangeAt Go.RowKit Go.Sort
set_option linter.unusedVariables false
set_option linter.unusedSimpArgs false
/-- the contexts of some, one behind the other -/
noncomputable def kno (l : List Wr) (a : List S) : List S := l.foldl (fun a r => knows a r.xs) a
theorem kno_ok (l : List Wr) : ∀ (a : List S), OkL 64 a → OkL 64 (kno l a) := by
  induction l with
  | nil => intro a h; exact h
  | cons r l ih => intro a h; exact ih _ (knows_ok h)
theorem kno_has (l : List Wr) (n c : Int) : ∀ (a : List S), OkL 64 a → hasd (kno l a) n c = (hasd a n c || l.any (fun r => hasd r.xs n c)) := by
  induction l with
  | nil => intro a h; simp [kno]
  | cons r l ih =>
    intro a h
    have e : kno (r :: l) a = kno l (knows a r.xs) := rfl
    rw [e, ih _ (knows_ok h), hasd_knows h, List.any_cons, Bool.or_assoc]
/-- what is known ahead of the i-th, and from the i-th on -/
noncomputable def ahd (rs : List Wr) (i : Nat) : List S := kno (rs.take i) []
noncomputable def bhd (rs : List Wr) (i : Nat) : List S := kno (rs.drop i).reverse []
theorem ahd_ok (rs : List Wr) (i : Nat) : OkL 64 (ahd rs i) := kno_ok _ _ (OkL.nil 64)
theorem ahd_zero (rs : List Wr) : ahd rs 0 = [] := by simp [ahd, kno]
theorem bhd_end (rs : List Wr) (i : Nat) (h : rs.length ≤ i) : bhd rs i = [] := by simp [bhd, kno, List.drop_eq_nil_of_le h]
theorem ahd_succ (rs : List Wr) (i : Nat) (h : i < rs.length) : ahd rs (i + 1) = knows (ahd rs i) (gR rs i).xs := by
  unfold ahd kno
  rw [List.take_add_one, List.foldl_append, List.getElem?_eq_getElem h]
  simp [gR, List.getD_eq_getElem?_getD, h]
theorem bhd_pred (rs : List Wr) (i : Nat) (h : i < rs.length) : bhd rs i = knows (bhd rs (i + 1)) (gR rs i).xs := by
  unfold bhd kno
  rw [List.drop_eq_getElem_cons h, List.reverse_cons, List.foldl_append]
  simp [gR, List.getD_eq_getElem?_getD, h]
/-- the two unions that the program makes of what is known and a context -/
theorem unis_two {a : List S} (xs : List S) (ha : OkL 64 a) : unis 64 [a, xs] = knows a xs := by
  show knowG 64 (knowG 64 [] a) xs = knows a xs
  have e1 : knowG 64 [] a = a := by
    unfold knowG
    rw [if_pos ⟨by decide, OkL.nil 64, ha⟩, uni_comm (OkL.nil 64) ha (by omega) (by omega), uni_nil ha (by omega) (by omega)]
  rw [e1]
  unfold knowG knows
  by_cases hx : OkL 64 xs
  · rw [if_pos ⟨by decide, ha, hx⟩, if_pos hx]
  · rw [if_neg (fun h => hx h.2.2), if_neg hx]
noncomputable def cvd (rs : List Wr) (i : Nat) : Bool := hasd (ahd rs i) (gR rs i).n (gR rs i).c
noncomputable def uncd (rs : List Wr) (i : Nat) : Bool := !cvd rs i && !hasd (bhd rs (i + 1)) (gR rs i).n (gR rs i).c
/-- what is left of the last m, the last first -/
noncomputable def bU (es : List E) (rs : List Wr) (N : Nat) : Nat → List E
  | 0 => []
  | m + 1 => if uncd rs (N - 1 - m) then bU es rs N m ++ [gE es (N - 1 - m)] else bU es rs N m
theorem bU_len (es : List E) (rs : List Wr) (N : Nat) : ∀ m, (bU es rs N m).length ≤ m
  | 0 => by simp [bU]
  | m + 1 => by
    have := bU_len es rs N m
    unfold bU; split
    · rw [List.length_append, List.length_cons, List.length_nil]; omega
    · omega
theorem bU_full (es : List E) (rs : List Wr) (N : Nat) : ∀ m, (bU es rs N m).length = m ↔ ∀ k, k < m → uncd rs (N - 1 - k) = true
  | 0 => by simp [bU]
  | m + 1 => by
    have h1 := bU_len es rs N m
    have h2 := bU_full es rs N m
    unfold bU
    by_cases hu : uncd rs (N - 1 - m) = true
    · rw [if_pos hu, List.length_append, List.length_cons, List.length_nil]
      constructor
      · intro h k hk
        by_cases hkm : k = m
        · rw [hkm]; exact hu
        · exact h2.1 (by omega) k (by omega)
      · intro h
        rw [h2.2 (fun k hk => h k (by omega))]
    · rw [if_neg hu]
      constructor
      · intro h; omega
      · intro h; exact absurd (h m (by omega)) hu
theorem bU_all (es : List E) (rs : List Wr) (N : Nat) : (bU es rs N N).length = N ↔ ∀ i, i < N → uncd rs i = true := by
  rw [bU_full]
  constructor
  · intro h i hi
    have := h (N - 1 - i) (by omega)
    rwa [show N - 1 - (N - 1 - i) = i from by omega] at this
  · intro h k hk; exact h _ (by omega)
theorem anyW_take (rs : List Wr) (f : Wr → Bool) (i : Nat) (hi : i ≤ rs.length) : (rs.take i).any f = true ↔ ∃ j, j < i ∧ f (gR rs j) = true := by
  rw [List.any_eq_true]
  constructor
  · rintro ⟨r, hr, hf⟩
    obtain ⟨j, hj, rfl⟩ := List.mem_iff_getElem.1 hr
    rw [List.length_take] at hj
    refine ⟨j, by omega, ?_⟩
    rw [List.getElem_take] at hf
    simpa [gR, List.getD_eq_getElem?_getD, show j < rs.length from by omega] using hf
  · rintro ⟨j, hj, hf⟩
    have hl : j < rs.length := by omega
    refine ⟨rs[j], ?_, by simpa [gR, List.getD_eq_getElem?_getD, hl] using hf⟩
    rw [List.mem_iff_getElem]
    exact ⟨j, by rw [List.length_take]; omega, by rw [List.getElem_take]⟩
theorem anyW_drop (rs : List Wr) (f : Wr → Bool) (i : Nat) : (rs.drop i).reverse.any f = true ↔ ∃ j, i ≤ j ∧ j < rs.length ∧ f (gR rs j) = true := by
  rw [List.any_eq_true]
  constructor
  · rintro ⟨r, hr, hf⟩
    rw [List.mem_reverse] at hr
    obtain ⟨j, hj, rfl⟩ := List.mem_iff_getElem.1 hr
    rw [List.length_drop] at hj
    refine ⟨i + j, by omega, by omega, ?_⟩
    rw [List.getElem_drop] at hf
    simpa [gR, List.getD_eq_getElem?_getD, show i + j < rs.length from by omega] using hf
  · rintro ⟨j, hj, hl, hf⟩
    refine ⟨rs[j], ?_, by simpa [gR, List.getD_eq_getElem?_getD, hl] using hf⟩
    rw [List.mem_reverse, List.mem_iff_getElem]
    exact ⟨j - i, by rw [List.length_drop]; omega, by rw [List.getElem_drop]; congr 1; omega⟩
/-- nobody else has its dot -/
theorem uncd_iff (rs : List Wr) (i : Nat) (hi : i < rs.length) : uncd rs i = true ↔ ∀ j, j < rs.length → j ≠ i → hasd (gR rs j).xs (gR rs i).n (gR rs i).c = false := by
  unfold uncd cvd ahd bhd
  rw [kno_has _ _ _ _ (OkL.nil 64), kno_has _ _ _ _ (OkL.nil 64), hasd_nil, Bool.false_or, Bool.false_or, Bool.and_eq_true, Bool.not_eq_true', Bool.not_eq_true', ← Bool.not_eq_true, ← Bool.not_eq_true, anyW_take _ _ _ (by omega), anyW_drop]
  constructor
  · rintro ⟨h1, h2⟩ j hj hne
    cases hh : hasd (gR rs j).xs (gR rs i).n (gR rs i).c with
    | false => rfl
    | true =>
      by_cases hji : j < i
      · exact absurd ⟨j, hji, hh⟩ h1
      · exact absurd ⟨j, by omega, hj, hh⟩ h2
  · intro h
    constructor
    · rintro ⟨j, hj, hh⟩
      rw [h j (by omega) (by omega)] at hh; cases hh
    · rintro ⟨j, h1, h2, hh⟩
      rw [h j h2 (by omega)] at hh; cases hh
end Go.Proofs.YtokaeiahhmaokaaDoor.ds
namespace Go.Proofs.YtokaeiahhmaokaaDoor.ds
open Go.ChangeShapes Go.WideShapes Go.ChangeAt Go.RowKit Go.Shelf
set_option linter.unusedVariables false
set_option linter.unusedSimpArgs false
attribute [local go_sem] Oper.semAt_some
/-- the first m of the numbers below N, downward -/
def dn (N : Nat) : Nat → List (Fin N)
  | 0 => []
  | m + 1 => dn N m ++ (if h : N - 1 - m < N then [⟨N - 1 - m, h⟩] else [])
theorem dn_succ (N m : Nat) (h : N - 1 - m < N) : dn N (m + 1) = dn N m ++ [⟨N - 1 - m, h⟩] := by
  show dn N m ++ _ = _; rw [dif_pos h]
theorem dn_len (N : Nat) : ∀ m, (dn N m).length ≤ m
  | 0 => by simp [dn]
  | m + 1 => by
    have := dn_len N m
    unfold dn
    rw [List.length_append]
    split
    · simp; omega
    · simp; omega
theorem dn_pre (N m : Nat) : ∀ k, dn N m <+: dn N (m + k)
  | 0 => List.prefix_refl _
  | k + 1 => (dn_pre N m k).trans (by show dn N (m + k) <+: dn N (m + k) ++ _; exact List.prefix_append _ _)
/-- Backward's box, and the list in it -/
structure BkB (W : World) (Bx : Nat) (p : Option Addr) (N cap : Nat) (es : List E) : Prop where
  c : W.cell? ⟨Bx, 0, none⟩ = some (.slice p N cap)
  l : LE W p N es
set_option maxRecDepth 100000 in
set_option maxHeartbeats 4000000 in
theorem back1_in (n : Nat) (hn : 2 ≤ n) (l Bx : Nat) (p : Option Addr) (N cap : Nat) (es : List E) (J Jx : List (Fin N) → World → Prop) (Kp : World → World → Prop)
    (hKp : ∀ A B, Kp A B → BkB A Bx p N cap es → BkB B Bx p N cap es) (hJ : ∀ pre A B, J pre A → Apart [] A B → J pre B)
    (hY : ∀ pre (c : Fin N) W, J pre W → pre.length < N → YieldAt Fence.wide (n - 1) Tryd.prog l #[.int .i64 (c.1 : Nat), (gE es c.1).agg] W fun e W' =>
      (e = .returned (.bool true) ∧ J (pre ++ [c]) W' ∧ Kp W W') ∨ (e = .returned (.bool false) ∧ Jx (pre ++ [c]) W'))
    (W : World) (b : BkB W Bx p N cap es) (h0 : J [] W) :
    CallsIn Fence.wide n Tryd.prog 115 #[.func (.yield l) #[] #[], .pointer (some ⟨Bx, 0, none⟩)] W fun e W' => (∃ v, e = .returned v) ∧
      ((∃ ys, ys = dn N N ∧ J ys W') ∨ (∃ pre, pre <+: dn N N ∧ Jx pre W')) := by
  refine callsIn_of_wp Tryd.func115 rfl trivial ?_ rfl
  simp only [Tryd.ntmps115, List.size_toArray, List.length_cons, List.length_nil, Nat.reduceAdd, Nat.reduceSub, Array.replicate_succ, Array.replicate_zero, List.push_toArray, List.append_toArray, List.nil_append, List.cons_append]
  have hl := b.l.lim
  have c0 := b.c
  have HB := hid b
  have H0 := hid h0
  have HJ := hid hJ
  have HKp := hid hKp
  have HY := hid hY
  clear b h0 hJ hKp hY
  gi_wp2
  gi_loopw [3] (fun v wr => ∃ m : Nat, v = .int .i64 ((N : Int) - 1 - (m : Nat)) ∧ m ≤ N ∧ BkB wr Bx p N cap es ∧ J (dn N m) wr) (fun v _ => (intOf v + 1).toNat)
  case atStart => exact ⟨0, by simp, by omega, HB.out, H0.out⟩
  case round =>
    obtain ⟨m, rfl, hm, b, hJm⟩ := hrel
    have HJm := hid hJm
    have HB' := hid b
    clear hJm c0
    by_cases hlt : m < N
    · have hi : N - 1 - m < N := by omega
      obtain ⟨i, hie⟩ : ∃ i : Nat, i = N - 1 - m := ⟨_, rfl⟩
      have e1 : (N : Int) - 1 - (m : Nat) = ((i : Nat) : Int) := by omega
      rw [e1]
      have hiN : i < N := by omega
      have HIE := hid hie
      have HE1 := hid e1
      obtain ⟨P, o, rfl, hP, hc⟩ := b.l.at (by omega)
      obtain ⟨k0, k1, k2, k3, k4, k5⟩ := hc i hiN
      have c0 := b.c
      have HDN : Hid (dn N (m + 1) = dn N m ++ [⟨i, hiN⟩]) := by
        unfold Hid; rw [dn_succ N m (by omega)]; simp [HIE.out]
      have hYi := HY.out (dn N m) ⟨i, hiN⟩ wr HJm.out (by have := dn_len N m; omega)
      simp only at hYi
      obtain ⟨x, Hx⟩ : ∃ x, Hid (x = gE es i) := ⟨_, rfl⟩
      rw [← Hx.out] at hYi k0 k1 k2 k3 k4 k5
      have HYi := hid hYi
      unfold Sl.v at k4 k5
      clear hc b hYi hie e1 hi
      obtain ⟨fn, tmps, assign, body, hy', hR⟩ := HYi.out
      unfold E.agg Sl.v at hy'
      gi_wp2
      refine ⟨(fun h => by cases h), ?_⟩
      refine hR.mono ?_
      rintro e W3 (⟨rfl, hJ3, hk3⟩ | ⟨rfl, hJx3⟩)
      · dsimp only
        have HK := hid (HKp.out _ _ hk3 HB'.out)
        have HJ3 := hid hJ3
        clear hk3 hJ3 hR hy' k0 k1 k2 k3 k4 k5 c0
        gi_wp2
        go_roundw
        case rel => exact ⟨m + 1, by have := HIE.out; simp; omega, by omega, HK.out, by rw [HDN.out]; exact HJ3.out⟩
        case measure => have := HIE.out; simp only [intOf]; omega
      · dsimp only
        have HJ3 := hid hJx3
        clear hJx3 hR hy' k0 k1 k2 k3 k4 k5 c0
        gi_wp2
        refine bodyPost_ret (results_none rfl _ _ _) rfl ?_
        refine ⟨⟨_, rfl⟩, .inr ⟨_, ?_, HJ3.out⟩⟩
        have := dn_pre N (m + 1) (N - (m + 1))
        rw [show m + 1 + (N - (m + 1)) = N from by omega, HDN.out] at this
        exact this
    · have hmN : m = N := by omega
      subst hmN
      have hJN := HJm.out
      have e1 : (m : Int) - 1 - (m : Nat) = -1 := by omega
      rw [e1]
      gi_wp2
      go_end0
      exact ⟨⟨_, rfl⟩, .inl ⟨_, rfl, HJm.out⟩⟩
theorem Apart.grown {W W' : World} (a : Apart [] W W') : W.grownBy W' none := ⟨a.os, a.tape, a.output, a.size, fun k hk _ => a.block k hk (by simp)⟩
end Go.Proofs.YtokaeiahhmaokaaDoor.ds
namespace Go.Proofs.YtokaeiahhmaokaaDoor.ds
open Go.ChangeShapes Go.WideShapes Go.ChangeAt Go.RowKit Go.Sort
set_option linter.unusedVariables false
set_option linter.unusedSimpArgs false
/-- a place that is newer than a world -/
def NewP (w : World) (q : Option Addr) : Prop := ∀ P o, q = some ⟨P, o, none⟩ → w.heap.size ≤ P
structure UP2 (w w' : World) (r : Ending) (gap : Int) (a xs : List S) : Prop where
  ex : ∃ q n c e, r = .returned (.tuple #[.slice q n c, .int .i64 e]) ∧ Apart [] w w' ∧ ((e = 0 ∧ L w' q n (knowG gap a xs) ∧ NewP w q) ∨ (¬ e = 0 ∧ knowG gap a xs = a))
theorem union_new {w : World} {p q : Option Addr} {N M cap cb : Nat} {xs ys : List S} {gap : Int} (T : Tab w) (h : L w p N xs) (h2 : L w q M ys) : Calls Tryd.prog 102 #[.slice p N cap, .slice q M cb, .int .i64 gap] w fun r w' => UP2 w w' r gap xs ys := by
  by_cases hg : 1 ≤ gap ∧ gap ≤ 64
  · by_cases k : OkL gap xs
    · by_cases k2 : OkL gap ys
      · refine (union_ok gap T h h2 hg k k2).mono (fun r w' hh => ?_)
        obtain ⟨p', n', c', rfl, ho, hn⟩ := hh.ex
        have e : knowG gap xs ys = uni xs ys := by unfold knowG; rw [if_pos ⟨hg, k, k2⟩]
        exact ⟨p', n', c', 0, rfl, ho.ap, .inl ⟨rfl, by rw [e]; exact ho.L (by omega) ((uni_ok k k2 (by omega) hg.2).fit hg.2), fun P o e => ho.new P (by subst e; rfl)⟩⟩
      · refine (union_set2 gap h h2 hg k k2).mono (fun r w' hh => ?_)
        obtain ⟨rfl, a⟩ := hh
        exact ⟨none, 0, 0, 30, rfl, a, .inr ⟨by decide, by unfold knowG; rw [if_neg (fun h => k2 h.2.2)]⟩⟩
    · refine (union_set1 gap h hg k).mono (fun r w' hh => ?_)
      obtain ⟨rfl, a⟩ := hh
      exact ⟨none, 0, 0, 30, rfl, a, .inr ⟨by decide, by unfold knowG; rw [if_neg (fun h => k h.2.1)]⟩⟩
  · refine (union_arg gap hg).mono (fun r w' hh => ?_)
    obtain ⟨rfl, a⟩ := hh
    exact ⟨none, 0, 0, 1, rfl, a, .inr ⟨by decide, by unfold knowG; rw [if_neg (fun h => hg h.1)]⟩⟩
structure KU2 (w wr : World) (u : Value) (acc : List S) : Prop where
  ex : ∃ q n c, u = .slice q n c ∧ L wr q n acc ∧ Apart [] w wr ∧ NewP w q
set_option maxHeartbeats 8000000 in
set_option maxRecDepth 100000 in
theorem unions_new {w : World} {p : Option Addr} {N cap : Nat} {ss : List Sl} {xss : List (List S)} (gap : Int) (T : Tab w) (h : LX w p N ss xss) (hN : N ≤ 1000000) : Calls Tryd.prog 63 #[.int .i64 gap, .slice p N cap] w fun r w' => ∃ u, r = .returned u ∧ KU2 w w' u (unis gap xss) := by
  have HH := hid h
  have HT := hid T
  clear h T
  go_enter Tryd.func63, Tryd.ntmps63
  go_wp2_with fail
  go_loopw [5, 12] (fun u v wr => ∃ i : Nat, v = .int .i64 (i : Nat) ∧ i ≤ N ∧ KU2 w wr u (unis gap (xss.take i))) (fun _ v _ => N - (intOf v).toNat)
  case atStart => exact ⟨0, rfl, Nat.zero_le _, none, 0, 0, rfl, ⟨Sp.nil _ _, rfl, by decide, by simp [unis]⟩, Apart.refl _ _, by intro P o h; cases h⟩
  case round =>
    obtain ⟨i, rfl, hi, hk⟩ := hrel
    obtain ⟨q, n, c, rfl, hL, ha, hnw⟩ := hk.ex
    have HNW := hid hnw
    clear hk hnw
    have HA := hid ha
    have HL := hid hL
    clear ha hL
    by_cases hlt : i < N
    · have hX := HH.out.kept0 HA.out
      obtain ⟨P, o, hp, hP, hc⟩ := hX.rd (by rw [List.length_map, hX.len]; omega)
      have c0 := hc i (gS ss i).v (by rw [List.getElem?_map]; unfold gS; rw [List.getD_eq_getElem?_getD, List.getElem?_eq_getElem (by rw [hX.len]; exact hlt)]; rfl)
      have hU := union_new (gap := gap) (cap := c) (cb := (gS ss i).c) (HT.out.kept0 HA.out) HL.out (hX.l i hlt)
      have HSN := hid (unis_snoc gap xss i (by rw [hX.lx]; exact hlt))
      unfold Sl.v at c0
      generalize gS ss i = s at *
      generalize xss.getD i [] = ys at *
      generalize unis gap (xss.take i) = acc at *
      subst hp
      clear hX hc HH HT
      go_wp2_with fail
      refine hU.mono ?_
      clear hU
      rintro _ w1 hh
      obtain ⟨q1, n1, c1, e1, rfl, a1, hcase⟩ := hh.ex
      clear hh
      have HA1 := hid (HA.out.trans a1)
      have HL1 := hid (HL.out.kept0 a1)
      have HC := hid hcase
      clear a1 hcase
      dsimp only
      by_cases he : e1 = 0
      · have HK : Hid (KU2 w w1 (.slice q1 n1 c1) (unis gap (xss.take (i + 1)))) := by
          rw [HSN.out]
          rcases HC.out with h | h
          · exact ⟨q1, n1, c1, rfl, h.2.1, HA1.out, fun P o e => Nat.le_trans HA.out.size (h.2.2 P o e)⟩
          · exact absurd he h.1
        subst he
        go_wp2_with fail
        go_roundw
        case rel => exact ⟨i + 1, by go_num, by omega, HK.out⟩
        case measure => simp [intOf]; omega
      · have HK : Hid (KU2 w w1 (.slice q n c) (unis gap (xss.take (i + 1)))) := by
          rw [HSN.out]
          rcases HC.out with h | h
          · exact absurd h.1 he
          · rw [h.2]; exact ⟨q, n, c, rfl, HL1.out, HA1.out, HNW.out⟩
        go_wp2_with fail
        go_roundw
        case rel => exact ⟨i + 1, by go_num, by omega, HK.out⟩
        case measure => simp [intOf]; omega
    · obtain rfl : i = N := by omega
      have HK : Hid (KU2 w wr (.slice q n c) (unis gap xss)) := ⟨q, n, c, rfl, by have := HL.out; rwa [List.take_of_length_le (by rw [HH.out.lx]; omega)] at this, HA.out, HNW.out⟩
      go_wp2
      go_ret
      exact ⟨_, rfl, HK.out⟩
end Go.Proofs.YtokaeiahhmaokaaDoor.ds
namespace Go.Proofs.YtokaeiahhmaokaaDoor.ds
open Go.ChangeShapes Go.WideShapes Go.ChangeAt Go.RowKit Go.Sort
set_option linter.unusedVariables false
set_option linter.unusedSimpArgs false
theorem Nw.keepT {w0 w w' : World} {e size : Nat} {s : Sl} {us : List Value} {X : List Nat} (h : Nw w0 w e size s us) (a : Apart X w w') (ap : Apart [] w0 w') (hX : ∀ k ∈ X, ∀ cur, w.heap[k]? ≠ some (.cells cur e (0, 0))) : Nw w0 w' e size s us :=
  ⟨own_apart h.own a (fun k hk hm => by obtain ⟨cur, e1⟩ := own_typ h.own hk; exact hX k hm cur e1), h.new, ap⟩
end Go.Proofs.YtokaeiahhmaokaaDoor.ds
