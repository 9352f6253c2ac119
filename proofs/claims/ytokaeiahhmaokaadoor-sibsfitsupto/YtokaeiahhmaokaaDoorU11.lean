import Derived.Test.YtokaeiahhmaokaaDoorU10
import Derived.Great.BuildSlice
import Derived.Laws.AppendOwnNone
namespace Go.Proofs.YtokaeiahhmaokaaDoor.ds
open Go.ChangeShapes Go.WideShapes Go.ChangeAt Go.RowKit Go.Sort
set_option linter.unusedVariables false
set_option linter.unusedSimpArgs false
set_option maxHeartbeats 2000000 in
theorem rcovers_ok (t u : E) (xs : List S) (w : World) (h : L w t.x.p t.x.n xs) (v : Bool) (hv : v = cvE xs t u) : Calls Tryd.prog 41 #[t.agg, u.agg] w fun r w' => r = .returned (.bool v) ∧ Apart [] w w' := by
  have aV : Apart [] w ((w.alloc (boxE t)).alloc (boxE u)) := ((Apart.refl [] w).alloc _).alloc _
  obtain ⟨q1, q2⟩ := box2 w t u _ (Apart.refl _ _)
  obtain ⟨t0, t1, t2, t3, t4, t5⟩ := row6 q1
  obtain ⟨u0, u1, u2, u3, u4, u5⟩ := row6 q2
  have hk : (t.k.toList == u.k.toList) = keq t.k u.k := rfl
  have HL := hid (h.kept0 aV)
  have HA := hid aV
  have HVV := hid hv
  clear q1 q2 h aV hv
  unfold E.agg
  cases hkq : keq t.k u.k
  · have hf : v = false := by rw [HVV.out]; unfold cvE; rw [hkq]; rfl
    subst hf
    rw [hkq] at hk
    clear hkq
    go_enter Tryd.func41, Tryd.ntmps41
    go_wp2_with fail
    go_ret
    exact ⟨rfl, HA.out⟩
  · have hf : v = hasv (norm xs) u.n u.c := by rw [HVV.out]; unfold cvE; rw [hkq]; rfl
    rw [hkq] at hk
    have hH := rhas_ok (cap := t.x.c) u.n u.c HL.out v hf
    unfold Sl.v at t5
    clear hkq hf
    go_enter Tryd.func41, Tryd.ntmps41
    go_wp2_with fail
    refine hH.mono ?_
    clear hH
    rintro r w1 ⟨rfl, a1⟩
    go_wp2_with fail
    go_ret
    exact ⟨rfl, HA.out.trans a1⟩

theorem buildE (W : World) (e : E) : Sem.run Tryd.prog (Instr.buildSlice 39 1 #[(0, e.agg)]) W = .ok (.slice (some ⟨W.heap.size, 0, none⟩) 1 1) (W.alloc (boxE e)) := by
  obtain ⟨ie, hi, hz0, hz1, hz2⟩ := info_parts infoW
  refine run_buildSlice W 39 28 1 _ _ ie _ Tryd.underlying39 hi hz0 (by rw [hz1]; decide) (by rw [hz1]; decide) ?_
  rw [hz1]
  first | rfl | (simp [Instr.fill, Array.range, Value.cells, Array.ofFn, E.agg]; done) | kernel_rfl
/-- a list of writes of the call's own -/
structure OwnE (w W : World) (s : Sl) (es : List E) : Prop where
  nw : Nw w W 28 6 s (flatE es)
  len : es.length = s.n
theorem OwnE.kept {w W W' : World} {s : Sl} {es : List E} (h : OwnE w W s es) (a : Apart [] W W') : OwnE w W' s es := ⟨h.nw.kept a, h.len⟩
theorem OwnE.nil (w W : World) (a : Apart [] w W) : OwnE w W ⟨none, 0, 0⟩ [] := ⟨⟨World.ownsRow_nil _ _ _ _, by simp [Sl.v, Value.ownBlock], a⟩, rfl⟩
theorem OwnE.LE {w W : World} {s : Sl} {es : List E} (h : OwnE w W s es) (hn : s.n ≤ 2000000) : LE W s.p s.n es := ⟨h.nw.rd, h.len, hn⟩
/-- one more at its end -/
theorem run_appE {w W : World} {s : Sl} {es : List E} (h : OwnE w W s es) (hn : s.n ≤ 2000000) (e : E) (ty : TypeId) :
    ∃ s' W', (Builtin.append_ #[39, 39] ty #[s.v, .slice (some ⟨W.heap.size, 0, none⟩) 1 1]).run Tryd.prog (W.alloc (boxE e)) = .ok (Sl.v s') W' ∧ OwnE w W' s' (es ++ [e]) ∧ s'.n = s.n + 1 ∧ Apart s.v.ownBlock.toList W W' := by
  obtain ⟨i0, hi, hz0, hz1, hz2⟩ := info_parts infoW
  have o1 := (h.kept ((Apart.refl [] W).alloc (boxE e))).nw.own
  have hcs : ∀ j u, (E.cs e)[j]? = some u → (W.alloc (boxE e)).cell? ((⟨W.heap.size, 0, none⟩ : Addr).add j) = some u := by
    intro j u hj
    rw [Addr.add_lit, Nat.zero_add, cell_of_row _ _ _ _ _ _ (heap_alloc_new W (boxE e))]
    simpa [E.cs] using hj
  have one : ∀ u ∈ E.cs e, u.oneCell' = true := fun u hu => oneE [e] u (by simpa [flatE] using hu)
  have key : ∃ v' W', (Builtin.append_ #[39, 39] ty #[s.v, .slice (some ⟨W.heap.size, 0, none⟩) 1 1]).run Tryd.prog (W.alloc (boxE e)) = .ok v' W' ∧ W'.ownsRow 0 28 6 v' (s.n + 1) (flatE es ++ E.cs e) ∧ (W.alloc (boxE e)).grownBy W' s.v.ownBlock ∧ NewOr (W.alloc (boxE e)) s.v v' := by
    obtain ⟨p, n, c⟩ := s
    simp only at hn
    have o2 := o1
    unfold Sl.v at o1 ⊢
    obtain ⟨_, ⟨hv, hz⟩ | ⟨g, cap, cur, hv, _⟩⟩ := o2
    · unfold Sl.v at hv
      simp at hv
      obtain ⟨rfl, rfl, rfl⟩ := hv
      exact run_append2 (W.alloc (boxE e)) 39 ty 28 i0 _ 6 88 Tryd.underlying39 hi hz0 hz1 hz2 rfl (by decide) (.slice none 0 0) 0 (flatE es) o1 ⟨W.heap.size, 0, none⟩ 1 1 (E.cs e) (by simp) (by simp [E.cs]) hcs one (by decide) (by decide)
    · unfold Sl.v at hv
      simp at hv
      obtain ⟨rfl, rfl⟩ := hv
      exact run_append3 (W.alloc (boxE e)) 39 ty 28 i0 _ 6 88 Tryd.underlying39 hi hz0 hz1 hz2 rfl (by decide) g n c (flatE es) o1 ⟨W.heap.size, 0, none⟩ 1 1 (E.cs e) (by simp [E.cs]) hcs one (by unfold maxLen; omega) (by omega)
  obtain ⟨v', W', hrun, r1, r2, r3⟩ := key
  have ap : Apart s.v.ownBlock.toList W W' := (((Apart.refl _ W).alloc (boxE e))).trans (apart_grown r2)
  have hnew : ∀ k, v'.ownBlock = some k → w.heap.size ≤ k := by
    intro k hk
    rcases r3 with r3 | ⟨q, r3, hq⟩
    · exact h.nw.new k (r3 ▸ hk)
    · rw [r3] at hk; simp at hk; subst hk
      simp at hq
      have := h.nw.ap.size
      omega
  obtain ⟨s', rfl, hs'⟩ : ∃ s' : Sl, v' = s'.v ∧ s'.n = s.n + 1 := by
    obtain ⟨_, ⟨hv, hz⟩ | ⟨g, cap, cur, hv, _⟩⟩ := r1
    · exact absurd hz (by omega)
    · exact ⟨⟨some ⟨g, 0, none⟩, s.n + 1, cap⟩, hv, rfl⟩
  refine ⟨s', W', hrun, ⟨⟨by rw [hs', ← flatE_snoc]; exact r1, hnew, h.nw.ap.trans' ap (fun y hy => ?_)⟩, by rw [List.length_append, h.len, hs']; rfl⟩, hs', ap⟩
  simp at hy
  exact .inr (h.nw.new y hy)
theorem rbelow_ok (a b : E) (w : World) : Calls Tryd.prog 61 #[.agg #[.int .i64 a.n, .int .i64 a.c], .agg #[.int .i64 b.n, .int .i64 b.c]] w fun r w' => r = .returned (.bool (below a b)) ∧ Apart [] w w' := by
  obtain ⟨v, HV⟩ : ∃ v, Hid (v = below a b) := ⟨_, rfl⟩
  rw [← HV.out]
  have hv := HV.out
  unfold below at hv
  by_cases h1 : a.n < b.n
  · have hv' : v = true := by rw [hv]; simp [h1]
    subst hv'
    clear hv
    go_enter Tryd.func61, Tryd.ntmps61
    go_wp2_with fail
    go_ret
    exact ⟨rfl, ((Apart.refl [] w).alloc _).alloc _⟩
  · by_cases h2 : a.n = b.n
    · by_cases h3 : a.c < b.c
      · have hv' : v = true := by rw [hv]; simp [h2, h3]
        subst hv'
        clear hv
        rw [h2]
        go_enter Tryd.func61, Tryd.ntmps61
        go_wp2_with fail
        go_ret
        exact ⟨rfl, ((Apart.refl [] w).alloc _).alloc _⟩
      · have hv' : v = false := by rw [hv]; simp [h2, h3]
        subst hv'
        clear hv
        rw [h2]
        go_enter Tryd.func61, Tryd.ntmps61
        go_wp2_with fail
        go_ret
        exact ⟨by first | rfl | simp, ((Apart.refl [] w).alloc _).alloc _⟩
    · have hv' : v = false := by rw [hv]; simp [h1, h2]
      subst hv'
      clear hv
      go_enter Tryd.func61, Tryd.ntmps61
      go_wp2_with fail
      go_ret
      exact ⟨by first | rfl | simp, ((Apart.refl [] w).alloc _).alloc _⟩
end Go.Proofs.YtokaeiahhmaokaaDoor.ds
namespace Go.Proofs.YtokaeiahhmaokaaDoor.ds
open Go.ChangeShapes Go.WideShapes Go.ChangeAt Go.RowKit Go.Sort
set_option linter.unusedVariables false
set_option linter.unusedSimpArgs false
/-- a write put ahead of the first whose dot is above its own -/
def insE (u : E) : List E → List E
  | [] => [u]
  | x :: l => if below u x = true then u :: x :: l else x :: insE u l
theorem insE_length (u : E) : ∀ l, (insE u l).length = l.length + 1
  | [] => rfl
  | y :: l => by
    simp only [insE]
    split
    · simp
    · simp [insE_length u l]
theorem takeE {es : List E} {i : Nat} (hi : i < es.length) : es.take (i + 1) = es.take i ++ [gE es i] := by
  rw [List.take_succ_eq_append_getElem hi, gE_eq _ _ hi]
end Go.Proofs.YtokaeiahhmaokaaDoor.ds
namespace Go.Proofs.YtokaeiahhmaokaaDoor.ds
open Go.ChangeShapes Go.WideShapes Go.ChangeAt Go.RowKit Go.Sort
set_option linter.unusedVariables false
set_option linter.unusedSimpArgs false
/-- what Merge leaves, of the writes as they lie in memory; X: how their contexts read -/
noncomputable def leftE (X : E → List S) (es : List E) (u : E) : List E := es.filter fun t => !cvE (X u) u t
noncomputable def mergeE (X : E → List S) (es : List E) (u : E) : List E := if (leftE X es u).any (fun t => cvE (X t) t u) = true then leftE X es u else insE u (leftE X es u)
theorem leftE_len (X : E → List S) (es : List E) (u : E) : (leftE X es u).length ≤ es.length := List.length_filter_le _ _
theorem mergeE_len (X : E → List S) (es : List E) (u : E) : (mergeE X es u).length ≤ es.length + 1 := by
  have := leftE_len X es u
  unfold mergeE
  split
  · omega
  · rw [insE_length]; omega
theorem leftE_snoc (X : E → List S) (l : List E) (x u : E) : leftE X (l ++ [x]) u = leftE X l u ++ (if cvE (X u) u x = true then [] else [x]) := by
  unfold leftE
  rw [List.filter_append]
  by_cases h : cvE (X u) u x = true
  · simp [h]
  · simp [h]
/-- what Merge answers: the error, the list -/
noncomputable def merr (X : E → List S) (es : List E) (u : E) (lim : Int) : Int := if es.any (fun t => !keq t.k u.k) = true then 50 else if es.any (fun t => deq t u) = true then 0 else if lim < (mergeE X es u).length then 51 else 0
noncomputable def mlist (X : E → List S) (es : List E) (u : E) (lim : Int) : List E := if es.any (fun t => !keq t.k u.k) = true then [] else if es.any (fun t => deq t u) = true then es else if lim < (mergeE X es u).length then [] else mergeE X es u
end Go.Proofs.YtokaeiahhmaokaaDoor.ds
namespace Go.Proofs.YtokaeiahhmaokaaDoor.ds
open Go.ChangeShapes Go.WideShapes Go.ChangeAt Go.RowKit Go.Sort
set_option linter.unusedVariables false
set_option linter.unusedSimpArgs false
theorem size28 : (Tryd.prog.info? 28).map (·.size) = some 6 := by kernel_rfl
end Go.Proofs.YtokaeiahhmaokaaDoor.ds
namespace Go.Proofs.YtokaeiahhmaokaaDoor.ds
open Go.ChangeShapes Go.WideShapes Go.ChangeAt Go.RowKit Go.Sort
set_option linter.unusedVariables false
set_option linter.unusedSimpArgs false
/-- append to nil -/
theorem run_appNil (w : World) (t ty e : TypeId) (i : TypeInfo) (z : Value) (size bytes : Nat) (ht : Tryd.prog.underlying t = some (.slice e)) (hi : Tryd.prog.info? e = some i) (hz : i.zero = some z) (hsize : i.size = size) (hby : i.bytes = bytes) (hzs : z.cells.size = size) (hsz : 0 < size)
    (s : Sl) (us : List Value) (h : Rd w s.p us) (hl : us.length = s.n * size) (one : ∀ u ∈ us, u.oneCell' = true) (h63 : s.n ≤ 2000000) (hb : s.n * bytes ≤ 140737488355328) (ok : s.ok) :
    ∃ s' w', (Builtin.append_ #[t, t] ty #[.slice none 0 0, s.v]).run Tryd.prog w = .ok (Sl.v s') w' ∧ Nw w w' e size s' us ∧ s'.n = s.n := by
  obtain ⟨p, N, c⟩ := s
  unfold Sl.ok at ok
  simp only at h hl h63 hb ok
  cases p with
  | none =>
    obtain ⟨rfl, rfl⟩ := ok rfl
    have hu : us = [] := List.length_eq_zero_iff.1 (by omega)
    subst hu
    exact ⟨⟨none, 0, 0⟩, w, run_append_owned_none (P := Tryd.prog) w 0 t ty e i size ht hi (.slice none 0 0) 0 [] (World.ownsRow_nil _ _ _ _), ⟨World.ownsRow_nil _ _ _ _, by simp [Sl.v, Value.ownBlock], Apart.refl _ _⟩, rfl⟩
  | some ad =>
    have hcs : ∀ j u, us[j]? = some u → w.cell? (ad.add j) = some u := by
      intro j u hj
      have hjl : j < us.length := by
        by_cases hc : j < us.length
        · exact hc
        · rw [List.getElem?_eq_none (by omega)] at hj; cases hj
      obtain ⟨P, o, e1, hP, hc⟩ := h (by omega)
      simp at e1
      subst e1
      rw [Addr.add_lit]
      exact hc j u hj
    obtain ⟨v', w', hrun, r1, r2, r3⟩ := run_append_own (P := Tryd.prog) (w := w) w.heap.size t ty e i z size bytes ht hi hz hsize hby hzs hsz (.slice none 0 0) 0 [] (World.ownsRow_nil _ _ _ _) ad N c us hl hcs one (by unfold maxLen; omega) (by simpa using hb) (Nat.le_refl _)
    rw [Nat.zero_add, List.nil_append] at r1
    have ap : Apart [] w w' := by have := apart_grown r2; simpa [Value.ownBlock] using this
    have hnew : ∀ k, v'.ownBlock = some k → w.heap.size ≤ k := fun k hk => (r1.lt k hk).1
    have r0 := own_base r1 (Nat.zero_le _)
    obtain ⟨s', rfl, hs'⟩ : ∃ s' : Sl, v' = s'.v ∧ s'.n = N := by
      obtain ⟨_, ⟨hv, hz⟩ | ⟨g, cap, cur, hv, _⟩⟩ := r1
      · exact ⟨⟨none, 0, 0⟩, hv, hz.symm⟩
      · exact ⟨⟨some ⟨g, 0, none⟩, N, cap⟩, hv, rfl⟩
    exact ⟨s', w', hrun, ⟨by rw [hs']; exact r0, hnew, ap⟩, hs'⟩
theorem appB (w : World) (s : Sl) (r : List Nat) (ty : TypeId) (h : Rd w s.p (byts r)) (hl : r.length = s.n) (hn : s.n ≤ 2000000) (ok : s.ok) :
    ∃ s' w', (Builtin.append_ #[25, 25] ty #[.slice none 0 0, s.v]).run Tryd.prog w = .ok (Sl.v s') w' ∧ Nw w w' 5 1 s' (byts r) ∧ s'.n = s.n := by
  obtain ⟨i0, hi, hz0, hz1, hz2⟩ := info_parts infoB
  exact run_appNil w 25 ty 5 i0 _ 1 1 Tryd.underlying25 hi hz0 hz1 hz2 rfl (by decide) s _ h (by simp [byts, hl]) (oneB _) hn (by omega) ok
theorem L.rd {w : World} {p : Option Addr} {N : Nat} {xs : List S} (h : L w p N xs) : Rd w p (flat xs) := by
  intro h0
  obtain ⟨P, o, e1, hP, hc⟩ := h.sp (by rw [flat_length] at h0; omega)
  refine ⟨P, o, e1, hP, fun j u hj => ?_⟩
  have hsp := h.sp
  rw [e1] at hsp
  have := hsp.cells j u hj
  rwa [Addr.add_lit] at this
theorem appS (w : World) (s : Sl) (xs : List S) (ty : TypeId) (h : L w s.p s.n xs) (hn : s.n ≤ 2000000) (ok : s.ok) :
    ∃ s' w', (Builtin.append_ #[26, 26] ty #[.slice none 0 0, s.v]).run Tryd.prog w = .ok (Sl.v s') w' ∧ Nw w w' 80 3 s' (flat xs) ∧ s'.n = s.n := by
  obtain ⟨i0, hi, hz0, hz1, hz2⟩ := info_parts info52
  exact run_appNil w 26 ty 80 i0 _ 3 24 Tryd.underlying26 hi hz0 hz1 hz2 rfl (by decide) s _ h.rd (by rw [flat_length, h.len]) (oneFlat _) hn (by omega) ok
def put6 (w : World) (g : Nat) (a b c d e f : Value) : World := (((((w.setCell ⟨g, 0, none⟩ a).setCell ⟨g, 1, none⟩ b).setCell ⟨g, 2, none⟩ c).setCell ⟨g, 3, none⟩ d).setCell ⟨g, 4, none⟩ e).setCell ⟨g, 5, none⟩ f
theorem row6s {w : World} {g : Nat} {t : TypeId} {a b c d e f : Value} (h : w.heap[g]? = some (.cells #[a, b, c, d, e, f] t (0, 0))) (x0 x1 x2 x3 x4 x5 : Value) : (put6 w g x0 x1 x2 x3 x4 x5).heap[g]? = some (.cells #[x0, x1, x2, x3, x4, x5] t (0, 0)) := by
  have h1 := heap_setCell_same w g 0 _ t x0 h
  have h2 := heap_setCell_same _ g 1 _ t x1 h1
  have h3 := heap_setCell_same _ g 2 _ t x2 h2
  have h4 := heap_setCell_same _ g 3 _ t x3 h3
  have h5 := heap_setCell_same _ g 4 _ t x4 h4
  have h6 := heap_setCell_same _ g 5 _ t x5 h5
  unfold put6
  simpa using h6
theorem ap6 (w : World) (g : Nat) (a b c d e f : Value) : Apart [g] w (put6 w g a b c d e f) := (((((((Apart.refl _ _).setCell (.inl (by simp)) _).setCell (.inl (by simp)) _).setCell (.inl (by simp)) _).setCell (.inl (by simp)) _).setCell (.inl (by simp)) _).setCell (.inl (by simp)) _)
end Go.Proofs.YtokaeiahhmaokaaDoor.ds
namespace Go.Proofs.YtokaeiahhmaokaaDoor.ds
open Go.ChangeShapes Go.WideShapes Go.ChangeAt Go.RowKit Go.Sort
set_option linter.unusedVariables false
set_option linter.unusedSimpArgs false
set_option maxHeartbeats 4000000 in
set_option maxRecDepth 100000 in
theorem twin_ok (e : E) (r : Wr) (w : World) (h : Reads w e r) : Calls Tryd.prog 25 #[e.agg] w fun q w' => ∃ e', q = .returned (E.agg e') ∧ Fresh w w' e' r := by
  have aV : Apart [] w ((w.alloc (boxE e)).alloc (boxE E.z)) := ((Apart.refl [] w).alloc _).alloc _
  obtain ⟨q1, q2⟩ := box2 w e E.z _ (Apart.refl _ _)
  have h1 := h.kept0 aV
  obtain ⟨s1, w1, hr1, n1, hs1⟩ := appB _ e.v r.vs 25 h1.v h1.vn h1.vl h1.vo
  have p1 := (n1.ap.block _ (lt_of_heap q1) (by simp)).trans q1
  have p2 := (n1.ap.block _ (lt_of_heap q2) (by simp)).trans q2
  have lt1 : w.heap.size < w1.heap.size := lt_of_heap p1
  have ag1 : Apart [w.heap.size] w1 (w1.setCell ⟨w.heap.size, 4, none⟩ s1.v) := (Apart.refl _ _).setCell (.inl (by simp)) _
  have p1' : (w1.setCell ⟨w.heap.size, 4, none⟩ s1.v).heap[w.heap.size]? = some (.cells #[.int .i64 e.n, .int .i64 e.c, .string e.k, .bool e.d, s1.v, e.x.v] 28 (0, 0)) := by
    have := heap_setCell_same w1 w.heap.size 4 _ 28 s1.v p1
    simpa using this
  have p2' := (ag1.block _ (lt_of_heap p2) (by simp)).trans p2
  have aW1 : Apart [] w (w1.setCell ⟨w.heap.size, 4, none⟩ s1.v) := (aV.trans n1.ap).trans' ag1 (by simp)
  obtain ⟨s2, w3, hr2, n2, hs2⟩ := appS (w1.setCell ⟨w.heap.size, 4, none⟩ s1.v) e.x r.xs 26 (h.x.kept0 aW1) h.xl h.xo
  have p3 := (n2.ap.block _ (lt_of_heap p1') (by simp)).trans p1'
  have p4 := (n2.ap.block _ (lt_of_heap p2') (by simp)).trans p2'
  have ag2 : Apart [w.heap.size] w3 (w3.setCell ⟨w.heap.size, 5, none⟩ s2.v) := (Apart.refl _ _).setCell (.inl (by simp)) _
  have p3' : (w3.setCell ⟨w.heap.size, 5, none⟩ s2.v).heap[w.heap.size]? = some (.cells #[.int .i64 e.n, .int .i64 e.c, .string e.k, .bool e.d, s1.v, s2.v] 28 (0, 0)) := by
    have := heap_setCell_same w3 w.heap.size 5 _ 28 s2.v p3
    simpa using this
  have p4' := (ag2.block _ (lt_of_heap p4) (by simp)).trans p4
  have aW2 : Apart [] w (w3.setCell ⟨w.heap.size, 5, none⟩ s2.v) := (aW1.trans n2.ap).trans' ag2 (by simp)
  obtain ⟨w4, hw4⟩ : ∃ w4, w4 = w3.setCell ⟨w.heap.size, 5, none⟩ s2.v := ⟨_, rfl⟩
  rw [← hw4] at p3' p4' aW2
  have p5 := row6s p4' (.int .i64 e.n) (.int .i64 e.c) (.string e.k) (.bool e.d) s1.v s2.v
  have ag3 := ap6 w4 (w.heap.size + 1) (.int .i64 e.n) (.int .i64 e.c) (.string e.k) (.bool e.d) s1.v s2.v
  have aF := aW2.trans' ag3 (by simp)
  have hk1 : ∀ k, s1.v.ownBlock = some k → w.heap.size + 2 ≤ k := fun k hk => by have := n1.new k hk; simpa using this
  have hk2 : ∀ k, s2.v.ownBlock = some k → w.heap.size + 2 ≤ k := fun k hk => by
    have := n2.new k hk
    have e1 : (w1.setCell ⟨w.heap.size, 4, none⟩ s1.v).heap.size = w1.heap.size := by simp
    have e2 := n1.ap.size
    simp at e2
    omega
  have o1 := own_apart (own_apart (own_apart (own_apart n1.own ag1 (fun k hk hm => by have := hk1 k hk; simp at hm; omega)) n2.ap (by simp)) ag2 (fun k hk hm => by have := hk1 k hk; simp at hm; omega)) (hw4 ▸ ag3) (fun k hk hm => by have := hk1 k hk; simp at hm; omega)
  have o2 := own_apart (own_apart n2.own ag2 (fun k hk hm => by have := hk2 k hk; simp at hm; omega)) (hw4 ▸ ag3) (fun k hk hm => by have := hk2 k hk; simp at hm; omega)
  rw [← hw4] at o1 o2
  have fr : Fresh w (put6 w4 (w.heap.size + 1) (.int .i64 e.n) (.int .i64 e.c) (.string e.k) (.bool e.d) s1.v s2.v) ⟨e.n, e.c, e.k, e.d, s1, s2⟩ r :=
    ⟨h.n, h.c, h.k, h.d, ⟨o1, fun k hk => by have := hk1 k hk; omega, aF⟩, by rw [h.vn]; exact hs1.symm, by show s1.n ≤ _; rw [hs1]; exact h.vl, h.vb, ⟨o2, fun k hk => by have := hk2 k hk; omega, aF⟩, by rw [h.x.len]; exact hs2.symm, by show s2.n ≤ _; rw [hs2]; exact h.xl, h.x.fit⟩
  have HF := hid fr
  have HP5 := hid p5
  obtain ⟨t0, t1, t2, t3, t4, t5⟩ := row6 q1
  obtain ⟨a0, a1, a2, a3, a4, a5⟩ := row6 p1
  obtain ⟨b0, b1, b2, b3, b4, b5⟩ := row6 p1'
  obtain ⟨c0, c1, c2, c3, c4, c5⟩ := row6 p3
  obtain ⟨d0, d1, d2, d3, d4, d5⟩ := row6 p3'
  obtain ⟨f0, f1, f2, f3, f4, f5⟩ := row6 p4'
  have g4 := frozen_of_row _ _ 4 _ _ p1
  have g5 := frozen_of_row _ _ 5 _ _ p3
  have k0 := frozen_of_row _ _ 0 _ _ p4'
  have k1 := frozen_of_row _ _ 1 _ _ p4'
  have k2 := frozen_of_row _ _ 2 _ _ p4'
  have k3 := frozen_of_row _ _ 3 _ _ p4'
  have k4 := frozen_of_row _ _ 4 _ _ p4'
  have k5 := frozen_of_row _ _ 5 _ _ p4'
  have HW4 := hid hw4
  clear fr p5 q1 q2 p1 p2 p1' p2' p3 p4 p3' p4' aV h1 ag1 ag2 ag3 aW1 aW2 aF o1 o2 hk1 hk2 n1 n2 hs1 hs2 h hw4 lt1
  unfold E.z at hr1
  unfold E.agg
  unfold Sl.v at hr1 hr2 t4 t5 a4 a5 b4 b5 c4 c5 d4 d5 HW4 ⊢
  go_enter Tryd.func25, Tryd.ntmps25
  go_upto_region 1 with fail
  go_upto_region 2 with (at_builtin; refine wpList_append3 rfl (.const (.slice none 0 0)) (.tmp 4) 25 rfl _ _ rfl rfl _ _ hr1 ?_)
  go_upto_region 3 with (at_builtin; refine wpList_append3 rfl (.const (.slice none 0 0)) (.tmp 8) 26 rfl _ _ rfl rfl _ _ hr2 ?_)
  rw [← HW4.out]
  clear a0 a1 a2 a3 a4 a5 b0 b1 b2 b3 b4 b5 c0 c1 c2 c3 c4 c5 t0 t1 t2 t3 t4 t5 g4 g5 hr1 hr2
  go_wp2
  refine bodyPost_ret (results_cell_row rfl _ _ (w.heap.size + 1) 28 _ _ _ rfl HP5.out Tryd.underlying28 rfl size28) rfl ?_
  exact ⟨⟨e.n, e.c, e.k, e.d, s1, s2⟩, rfl, HF.out⟩
end Go.Proofs.YtokaeiahhmaokaaDoor.ds
namespace Go.Proofs.YtokaeiahhmaokaaDoor.ds
open Go.ChangeShapes Go.WideShapes Go.ChangeAt Go.RowKit Go.Sort
set_option linter.unusedVariables false
set_option linter.unusedSimpArgs false
theorem Fresh.from {w0 w w' : World} {e : E} {r : Wr} (h : Fresh w w' e r) (a : Apart [] w0 w) : Fresh w0 w' e r :=
  { h with
    v := ⟨h.v.own, fun k hk => Nat.le_trans a.size (h.v.new k hk), a.trans h.v.ap⟩
    x := ⟨h.x.own, fun k hk => Nat.le_trans a.size (h.x.new k hk), a.trans h.x.ap⟩ }
end Go.Proofs.YtokaeiahhmaokaaDoor.ds
namespace Go.Proofs.YtokaeiahhmaokaaDoor.ds
open Go.ChangeShapes Go.WideShapes Go.ChangeAt Go.RowKit Go.Sort
set_option linter.unusedVariables false
/-- where the program puts it: at the first that stands behind, or at the end -/
def atE (u : E) (l : List E) : Nat := (l.findIdx? (below u)).getD l.length
theorem atE_le (u : E) (l : List E) : atE u l ≤ l.length := by
  unfold atE
  cases h : l.findIdx? (below u) with
  | none => simp
  | some k =>
    rw [List.findIdx?_eq_some_iff_getElem] at h
    obtain ⟨hk, _⟩ := h
    simp; omega
theorem insE_at (u : E) : ∀ l : List E, insE u l = l.take (atE u l) ++ [u] ++ l.drop (atE u l)
  | [] => by simp [insE, atE]
  | x :: l => by
    have ih := insE_at u l
    unfold insE
    by_cases hx : below u x = true
    · rw [if_pos hx]
      have : atE u (x :: l) = 0 := by unfold atE; rw [List.findIdx?_cons]; simp [hx]
      rw [this]; simp
    · rw [if_neg hx]
      have : atE u (x :: l) = atE u l + 1 := by
        unfold atE
        rw [List.findIdx?_cons]
        simp only [hx]
        cases l.findIdx? (below u) <;> simp
      rw [this, ih]
      simp
theorem idx_at (u : E) (l : List E) : (if idxE (below u) l < 0 then (l.length : Int) else idxE (below u) l) = (atE u l : Int) := by
  unfold idxE atE
  cases l.findIdx? (below u) with
  | none => simp
  | some k => simp; omega
end Go.Proofs.YtokaeiahhmaokaaDoor.ds
namespace Go.Proofs.YtokaeiahhmaokaaDoor.ds
open Go.ChangeShapes Go.WideShapes Go.ChangeAt Go.RowKit Go.Sort
set_option linter.unusedVariables false
set_option linter.unusedSimpArgs false
/-- what slices.Insert of one write must answer -/
def InsOk : Prop := ∀ (w W : World) (s : Sl) (l : List E) (u : E) (k B : Nat), OwnE w W s l → s.n ≤ 1500000 → k ≤ s.n → Cap W B u → Calls Tryd.prog 90 #[s.v, .int .i64 (k : Int), .slice (some ⟨B, 0, none⟩) 1 1] W fun r W' => ∃ s', r = .returned (Sl.v s') ∧ OwnE w W' s' (l.take k ++ [u] ++ l.drop k)
set_option maxHeartbeats 8000000 in
set_option maxRecDepth 100000 in
theorem merged_ok (hI : InsOk) (w : World) (p : Option Addr) (N cap : Nat) (es : List E) (u : E) (X : E → List S) (h : LE w p N es) (hN : N ≤ 1100000) (hX : ∀ j, j < N → L w (gE es j).x.p (gE es j).x.n (X (gE es j))) (hu : L w u.x.p u.x.n (X u)) :
    Calls Tryd.prog 51 #[.slice p N cap, u.agg] w fun r w' => ∃ s, r = .returned (Sl.v s) ∧ OwnE w w' s (mergeE X es u) := by
  have aB : Apart [] w (w.alloc (boxE u)) := (Apart.refl [] w).alloc _
  have HB := hid aB
  have HC := hid (Cap.new w u)
  have HL := hid h
  have HN := hid h.len
  have HX := hid hX
  have HU := hid hu
  have HI := hid hI
  have o0 : OwnE (w.alloc (boxE u)) (w.alloc (boxE u)) ⟨none, 0, 0⟩ (leftE X (es.take 0) u) := OwnE.nil _ _ (Apart.refl _ _)
  clear h aB hX hu hI
  unfold E.agg
  go_enter Tryd.func51, Tryd.ntmps51
  go_wp2_with fail
  go_loopw [5, 11] (fun v5 v11 wr => ∃ (i : Nat) (s : Sl), v11 = .int .i64 (i : Nat) ∧ i ≤ N ∧ v5 = s.v ∧ OwnE (w.alloc (boxE u)) wr s (leftE X (es.take i) u)) (fun _ v11 _ => N - (intOf v11).toNat)
  case atStart => exact ⟨0, ⟨none, 0, 0⟩, rfl, Nat.zero_le _, rfl, o0⟩
  case round =>
    clear o0
    obtain ⟨i, ⟨ps, ns, cs⟩, rfl, hi, rfl, own⟩ := hrel
    have HO := hid own
    have HA := hid own.nw.ap
    clear own
    have HCr := hid (HC.out.kept0 HA.out)
    have hns : ns ≤ 1100000 := by
      have h1 := HO.out.len
      have h2 := leftE_len X (es.take i) u
      rw [List.length_take] at h2
      simp only at h1
      omega
    have hbx := fun W => buildE W (gE es i)
    unfold Sl.v
    by_cases hlt : i < N
    · obtain ⟨P, o, hpe, hPw, _⟩ := HL.out.at (by omega)
      obtain ⟨P', o', hpe', hP, hc⟩ := (HL.out.kept0 (HB.out.trans HA.out)).at (by omega)
      rw [hpe] at hpe'
      simp at hpe'
      obtain ⟨rfl, rfl⟩ := hpe'
      subst hpe
      obtain ⟨c0, c1, c2, c3, c4, c5⟩ := hc i hlt
      have HTK := hid (takeE (es := es) (i := i) (by rw [HN.out]; exact hlt))
      obtain ⟨x, hx⟩ : ∃ x, x = gE es i := ⟨_, rfl⟩
      rw [← hx] at c0 c1 c2 c3 c4 c5 hbx HTK
      obtain ⟨v1, HV1⟩ : ∃ v1, Hid (v1 = cvE (X u) u x) := ⟨_, rfl⟩
      have aX : Apart [] wr (wr.alloc (boxE x)) := (Apart.refl [] wr).alloc _
      have hC1 := covers_ok u x (X u) (wr.alloc (boxE x)) (HU.out.kept0 ((HB.out.trans HA.out).trans aX)) v1 HV1.out
      obtain ⟨u0, u1, u2, u3, u4, u5⟩ := row6 (HCr.out.kept0 aX)
      have bX : Cap (wr.alloc (boxE x)) wr.heap.size x := Cap.new wr x
      obtain ⟨x0, x1, x2, x3, x4, x5⟩ := row6 bX
      have HBX := hid bX
      have HAX := hid aX
      unfold Sl.v at c4 c5
      unfold boxE Sl.v at u0 u1 u2 u3 u4 u5 x0 x1 x2 x3 x4 x5
      unfold E.agg Sl.v at hbx hC1
      clear hc hx bX aX
      go_wp2_with fail
      refine hC1.mono ?_
      clear hC1
      rintro r w2 ⟨rfl, a2⟩
      have HA2 := hid (HAX.out.trans a2)
      obtain ⟨y0, y1, y2, y3, y4, y5⟩ := row6 (HBX.out.kept0 a2)
      unfold Sl.v at y4 y5
      clear c0 c1 c2 c3 c4 c5 u0 u1 u2 u3 u4 u5 x0 x1 x2 x3 x4 x5
      cases v1
      · obtain ⟨s', W3, hrun, own', hn', ap'⟩ := run_appE (s := ⟨ps, ns, cs⟩) (HO.out.kept HA2.out) (by show ns ≤ _; omega) x 39
        have HO2 := hid own'
        have HLS : Hid (leftE X (es.take (i + 1)) u = leftE X (es.take i) u ++ [x]) := by
          show leftE X (es.take (i + 1)) u = _
          rw [HTK.out, leftE_snoc, ← HV1.out]; simp
        unfold Sl.v boxE at hrun
        clear own' ap' hn' a2
        go_wp2_with (at_builtin; refine wpList_append3 rfl (.tmp 19) (.tmp 21) 39 rfl _ _ rfl rfl _ _ hrun ?_)
        go_wp2
        go_roundw
        case rel => exact ⟨i + 1, s', by go_num, by omega, rfl, by rw [HLS.out]; exact HO2.out⟩
        case measure => simp [intOf]; omega
      · have HLS : Hid (leftE X (es.take (i + 1)) u = leftE X (es.take i) u) := by
          show leftE X (es.take (i + 1)) u = _
          rw [HTK.out, leftE_snoc, ← HV1.out]; simp
        clear a2
        go_wp2
        go_roundw
        case rel => exact ⟨i + 1, ⟨ps, ns, cs⟩, by go_num, by omega, rfl, by rw [HLS.out]; exact HO.out.kept HA2.out⟩
        case measure => simp [intOf]; omega
    · obtain rfl : N = i := by omega
      have htk : es.take N = es := List.take_of_length_le (by rw [HN.out]; exact Nat.le_refl _)
      rw [htk] at HO
      clear hbx htk
      obtain ⟨l, hl⟩ : ∃ l, l = leftE X es u := ⟨_, rfl⟩
      rw [← hl] at HO
      have HLL := hid hl
      have hmem : ∀ t ∈ l, L wr t.x.p t.x.n (X t) := by
        intro t ht
        rw [hl] at ht
        have ht2 := (List.mem_filter.1 ht).1
        obtain ⟨k, hk, rfl⟩ := List.getElem_of_mem ht2
        have := HX.out k (by rw [← HN.out]; exact hk)
        rw [gE_eq _ _ hk] at this
        exact this.kept0 (HB.out.trans HA.out)
      have gmem : ∀ k, k < l.length → gE l k ∈ l := fun k hk => by rw [gE_eq _ _ hk]; exact List.getElem_mem hk
      have hAsk : Asks wr 88 #[.pointer (some ⟨w.heap.size, 0, none⟩)] l (fun t => cvE (X t) t u) := fun k hk W a => cov1_ok (gE l k) u w.heap.size (X (gE l k)) W (HCr.out.kept0 a) ((hmem _ (gmem k hk)).kept0 a)
      have hK := contains29 (cap := cs) (HO.out.LE (by show ns ≤ _; omega)) _ hAsk
      clear hAsk hmem hl
      go_wp2_with fail
      refine hK.mono ?_
      clear hK
      rintro r w2 ⟨rfl, a2⟩
      have HA2 := hid a2
      clear a2
      dsimp only
      cases hcv : l.any (fun t => cvE (X t) t u)
      · have HM : Hid (mergeE X es u = insE u l) := by
          show mergeE X es u = _
          unfold mergeE
          rw [← HLL.out, if_neg (by rw [hcv]; simp)]
        clear hcv
        have hAsk2 : Asks w2 89 #[.pointer (some ⟨w.heap.size, 0, none⟩)] l (below u) := fun k hk W a => beh1_ok (gE l k) u w.heap.size W (HCr.out.kept0 (HA2.out.trans a))
        have hK2 := index30 (cap := cs) ((HO.out.kept HA2.out).LE (by show ns ≤ _; omega)) _ hAsk2
        clear hAsk2
        have hat := idx_at u l
        have hat2 := atE_le u l
        have hln : l.length = ns := HO.out.len
        rw [hln] at hat hat2
        generalize idxE (below u) l = z at *
        go_wp2_with fail
        refine hK2.mono ?_
        clear hK2
        rintro r w3 ⟨rfl, a3⟩
        have HA3 := hid (HA2.out.trans a3)
        clear a3
        dsimp only
        obtain ⟨u0, u1, u2, u3, u4, u5⟩ := row6 (HCr.out.kept0 HA3.out)
        unfold Sl.v at u4 u5
        have hbu := fun W => buildE W u
        unfold E.agg Sl.v at hbu
        have hIn := HI.out (w.alloc (boxE u)) (w3.alloc (boxE u)) ⟨ps, ns, cs⟩ l u (atE u l) w3.heap.size (HO.out.kept (HA3.out.alloc _)) (by show ns ≤ _; omega) hat2 (Cap.new w3 u)
        rw [← insE_at, ← hat] at hIn
        unfold Sl.v at hIn
        have HHAT := hid hat
        clear hat hat2 hln
        by_cases hz : z < 0
        · rw [if_pos hz] at hIn
          go_wp2_with fail
          refine hIn.mono ?_
          rintro r w4 ⟨s4, rfl, own4⟩
          have HO4 := hid own4
          clear own4 hIn
          dsimp only
          go_wp2
          go_ret
          exact ⟨s4, rfl, ⟨⟨by rw [HM.out]; exact HO4.out.nw.own, fun k hk => Nat.le_trans HB.out.size (HO4.out.nw.new k hk), HB.out.trans HO4.out.nw.ap⟩, by rw [HM.out]; exact HO4.out.len⟩⟩
        · rw [if_neg hz] at hIn
          go_wp2_with fail
          refine hIn.mono ?_
          rintro r w4 ⟨s4, rfl, own4⟩
          have HO4 := hid own4
          clear own4 hIn
          dsimp only
          go_wp2
          go_ret
          exact ⟨s4, rfl, ⟨⟨by rw [HM.out]; exact HO4.out.nw.own, fun k hk => Nat.le_trans HB.out.size (HO4.out.nw.new k hk), HB.out.trans HO4.out.nw.ap⟩, by rw [HM.out]; exact HO4.out.len⟩⟩
      · have HM : Hid (mergeE X es u = l) := by
          show mergeE X es u = _
          unfold mergeE
          rw [← HLL.out, if_pos hcv]
        clear hcv
        go_wp2
        go_ret
        have o5 := HO.out.kept HA2.out
        exact ⟨⟨ps, ns, cs⟩, rfl, ⟨⟨by rw [HM.out]; exact o5.nw.own, fun k hk => Nat.le_trans HB.out.size (o5.nw.new k hk), HB.out.trans o5.nw.ap⟩, by rw [HM.out]; exact o5.len⟩⟩
end Go.Proofs.YtokaeiahhmaokaaDoor.ds
namespace Go.Proofs.YtokaeiahhmaokaaDoor.ds
open Go.ChangeShapes Go.WideShapes Go.ChangeAt Go.RowKit Go.Sort
set_option linter.unusedVariables false
set_option linter.unusedSimpArgs false
theorem gR_map (R : E → Wr) (l : List E) (j : Nat) (hj : j < l.length) : gR (l.map R) j = R (gE l j) := by
  unfold gR
  rw [gE_eq _ _ hj, List.getD_eq_getElem?_getD]
  simp [hj]
theorem insE_mem (u t : E) : ∀ l : List E, t ∈ insE u l → t = u ∨ t ∈ l
  | [], h => by simp [insE] at h; exact .inl h
  | x :: l, h => by
    unfold insE at h
    split at h
    · simp at h
      rcases h with h | h | h
      · exact .inl h
      · exact .inr (by simp [h])
      · exact .inr (by simp [h])
    · simp at h
      rcases h with h | h
      · exact .inr (by simp [h])
      · rcases insE_mem u t l h with h | h
        · exact .inl h
        · exact .inr (by simp [h])
theorem mergeE_mem {X : E → List S} {es : List E} {u t : E} (h : t ∈ mergeE X es u) : t = u ∨ t ∈ es := by
  unfold mergeE at h
  split at h
  · exact .inr (List.mem_filter.1 h).1
  · rcases insE_mem u t _ h with h | h
    · exact .inl h
    · exact .inr (List.mem_filter.1 h).1
/-- what Merge leaves -/
structure MgPost (w w' : World) (r : Ending) (R : E → Wr) (e : Int) (l : List E) : Prop where
  ex : ∃ (s : Sl) (fs : List E), r = .returned (.tuple #[s.v, .int .i64 e]) ∧ s.n = l.length ∧ fs.length = l.length ∧ Nw w w' 28 6 s (flatE fs) ∧ ∀ j, j < l.length → Fresh w w' (gE fs j) (R (gE l j))
set_option maxHeartbeats 8000000 in
set_option maxRecDepth 100000 in
theorem merge_ok (hI : InsOk) (w : World) (p : Option Addr) (N cap : Nat) (es : List E) (u : E) (lim : Int) (R : E → Wr) (h : LE w p N es) (hN : N ≤ 1100000) (ok : Sl.ok ⟨p, N, cap⟩) (hR : ∀ t ∈ es, Reads w t (R t)) (hu : Reads w u (R u)) :
    Calls Tryd.prog 18 #[.slice p N cap, u.agg, .int .i64 lim] w fun r w' => MgPost w w' r R (merr (fun t => (R t).xs) es u lim) (mlist (fun t => (R t).xs) es u lim) := by
  have aB : Apart [] w (w.alloc (boxE u)) := (Apart.refl [] w).alloc _
  have HB := hid aB
  have HC := hid (Cap.new w u)
  have HL := hid h
  have HN := hid h.len
  have HR := hid hR
  have HU := hid hu
  have HI := hid hI
  have HOK := hid ok
  have gmem : ∀ k, k < es.length → gE es k ∈ es := fun k hk => by rw [gE_eq _ _ hk]; exact List.getElem_mem hk
  have hAsk : Asks (w.alloc (boxE u)) 48 #[.pointer (some ⟨w.heap.size, 0, none⟩)] es (fun t => !keq t.k u.k) := fun k hk W a => key1_ok (gE es k) u w.heap.size W (HC.out.kept0 a)
  have hK := contains16 (cap := cap) (h.kept0 aB) _ hAsk
  clear h aB hR hu hI ok hAsk
  unfold E.agg
  go_enter Tryd.func18, Tryd.ntmps18
  go_wp2_with fail
  refine hK.mono ?_
  clear hK
  rintro r w1 ⟨rfl, a1⟩
  have HA1 := hid (HB.out.trans a1)
  dsimp only
  cases hk : es.any (fun t => !keq t.k u.k)
  · have HK := hid hk
    have hAsk : Asks w1 49 #[.pointer (some ⟨w.heap.size, 0, none⟩)] es (fun t => deq t u) := fun k hk W a => dot1_ok (gE es k) u w.heap.size W (HC.out.kept0 (a1.trans a))
    have hK2 := contains17 (cap := cap) (HL.out.kept0 HA1.out) _ hAsk
    have HC1 := hid (HC.out.kept0 a1)
    clear hk hAsk a1
    go_wp2_with fail
    refine hK2.mono ?_
    clear hK2
    rintro r w2 ⟨rfl, a2⟩
    have HA2 := hid (HA1.out.trans a2)
    have HC2 := hid (HC1.out.kept0 a2)
    clear a2
    dsimp only
    cases hd : es.any (fun t => deq t u)
    · have HD := hid hd
      clear hd
      have hMg := merged_ok HI.out w2 p N cap es u (fun t => (R t).xs) (HL.out.kept0 HA2.out) hN (fun j hj => ((HR.out _ (gmem j (by rw [HN.out]; exact hj))).kept0 HA2.out).x) (HU.out.kept0 HA2.out).x
      obtain ⟨u0, u1, u2, u3, u4, u5⟩ := row6 HC2.out
      unfold Sl.v at u4 u5
      unfold E.agg Sl.v at hMg
      go_wp2_with fail
      refine hMg.mono ?_
      clear hMg
      rintro r w3 ⟨⟨p4, n4, c4⟩, rfl, own4⟩
      have HO4 := hid own4
      have HA3 := hid (HA2.out.trans own4.nw.ap)
      have hl4 : (mergeE (fun t => (R t).xs) es u).length = n4 := own4.len
      have HL4 := hid hl4
      have hn4 : n4 ≤ 1200000 := by
        have h1 := mergeE_len (fun t => (R t).xs) es u
        rw [hl4, HN.out] at h1
        omega
      clear own4 hl4
      dsimp only
      by_cases hlm : lim < (n4 : Int)
      · go_wp2
        go_ret2
        have e1 : merr (fun t => (R t).xs) es u lim = 51 := by unfold merr; rw [if_neg (by rw [HK.out]; simp), if_neg (by rw [HD.out]; simp), HL4.out, if_pos hlm]
        have e2 : mlist (fun t => (R t).xs) es u lim = [] := by unfold mlist; rw [if_neg (by rw [HK.out]; simp), if_neg (by rw [HD.out]; simp), HL4.out, if_pos hlm]
        rw [e1, e2]
        exact ⟨⟨none, 0, 0⟩, [], rfl, rfl, rfl, ⟨World.ownsRow_nil _ _ _ _, by simp [Sl.v, Value.ownBlock], HA3.out⟩, fun j hj => absurd hj (by simp)⟩
      · have e1 : merr (fun t => (R t).xs) es u lim = 0 := by unfold merr; rw [if_neg (by rw [HK.out]; simp), if_neg (by rw [HD.out]; simp), HL4.out, if_neg hlm]
        have e2 : mlist (fun t => (R t).xs) es u lim = mergeE (fun t => (R t).xs) es u := by unfold mlist; rw [if_neg (by rw [HK.out]; simp), if_neg (by rw [HD.out]; simp), HL4.out, if_neg hlm]
        have HE1 := hid e1
        have HE2 := hid e2
        clear e1 e2
        obtain ⟨l, hl⟩ : ∃ l, l = mergeE (fun t => (R t).xs) es u := ⟨_, rfl⟩
        have HLL := hid hl
        rw [← hl] at HO4 HL4
        have lmem : ∀ j, j < n4 → Reads w3 (gE l j) (R (gE l j)) := fun j hj => by
          have hj2 : j < l.length := by rw [HL4.out]; exact hj
          have hm : gE l j ∈ mergeE (fun t => (R t).xs) es u := by rw [← hl, gE_eq _ _ hj2]; exact List.getElem_mem hj2
          rcases mergeE_mem hm with e | e
          · rw [e]; exact HU.out.kept0 HA3.out
          · exact (HR.out _ e).kept0 HA3.out
        have hCp := copies_ok w3 ⟨p4, n4, c4⟩ n4 l (l.map R) rfl HO4.out.nw.ok (HO4.out.LE (by show n4 ≤ _; omega)) (fun j hj => by rw [gR_map R l j (by rw [HL4.out]; exact hj)]; exact lmem j hj)
        unfold Sl.v at hCp
        clear lmem hl
        go_wp2_with fail
        refine hCp.mono ?_
        clear hCp
        rintro r w5 ⟨s, fs, rfl, hs, hfl, nw, fr⟩
        have HNW := hid nw
        have HFR := hid fr
        clear nw fr
        dsimp only
        go_wp2
        go_ret2
        rw [HE1.out, HE2.out, ← HLL.out]
        exact ⟨s, fs, rfl, by rw [HL4.out]; exact hs, by rw [HL4.out]; exact hfl, ⟨HNW.out.own, fun k hk => Nat.le_trans HA3.out.size (HNW.out.new k hk), HA3.out.trans HNW.out.ap⟩, fun j hj => by
          have := (HFR.out j (by rw [← HL4.out]; exact hj)).from HA3.out
          rwa [gR_map R l j hj] at this⟩
    · have HD := hid hd
      clear hd
      have hCp := copies_ok w2 ⟨p, N, cap⟩ N es (es.map R) rfl HOK.out (HL.out.kept0 HA2.out) (fun j hj => by rw [gR_map R es j (by rw [HN.out]; exact hj)]; exact (HR.out _ (gmem j (by rw [HN.out]; exact hj))).kept0 HA2.out)
      unfold Sl.v at hCp
      go_wp2_with fail
      refine hCp.mono ?_
      clear hCp
      rintro r w3 ⟨s, fs, rfl, hs, hfl, nw, fr⟩
      have HNW := hid nw
      have HFR := hid fr
      clear nw fr
      dsimp only
      go_wp2
      go_ret2
      have e1 : merr (fun t => (R t).xs) es u lim = 0 := by unfold merr; rw [if_neg (by rw [HK.out]; simp), if_pos HD.out]
      have e2 : mlist (fun t => (R t).xs) es u lim = es := by unfold mlist; rw [if_neg (by rw [HK.out]; simp), if_pos HD.out]
      rw [e1, e2]
      exact ⟨s, fs, rfl, by rw [HN.out]; exact hs, by rw [HN.out]; exact hfl, ⟨HNW.out.own, fun k hk => Nat.le_trans HA2.out.size (HNW.out.new k hk), HA2.out.trans HNW.out.ap⟩, fun j hj => by
        have := (HFR.out j (by rw [← HN.out]; exact hj)).from HA2.out
        rwa [gR_map R es j hj] at this⟩
  · go_wp2
    go_ret2
    have e1 : merr (fun t => (R t).xs) es u lim = 50 := by unfold merr; rw [if_pos hk]
    have e2 : mlist (fun t => (R t).xs) es u lim = [] := by unfold mlist; rw [if_pos hk]
    rw [e1, e2]
    exact ⟨⟨none, 0, 0⟩, [], rfl, rfl, rfl, ⟨World.ownsRow_nil _ _ _ _, by simp [Sl.v, Value.ownBlock], HA1.out⟩, fun j hj => absurd hj (by simp)⟩
end Go.Proofs.YtokaeiahhmaokaaDoor.ds
