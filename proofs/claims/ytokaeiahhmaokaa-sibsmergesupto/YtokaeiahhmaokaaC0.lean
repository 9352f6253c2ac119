import Derived.Test.YtokaeiahhmaokaaB18
namespace Go.Proofs.Ytokaeiahhmaokaa.ds
open Go.ChangeShapes Go.WideShapes Go.ChangeAt Go.RowKit Go.Sort
set_option linter.unusedVariables false
set_option linter.unusedSimpArgs false
theorem Rd.det {w : World} {p : Option Addr} {us vs : List Value} (h : Rd w p us) (h' : Rd w p vs) (hl : us.length = vs.length) : us = vs := by
  by_cases h0 : 0 < us.length
  · obtain ⟨P, o, e1, _, hc⟩ := h h0
    obtain ⟨P', o', e2, _, hc'⟩ := h' (by omega)
    rw [e1] at e2
    simp at e2
    obtain ⟨rfl, rfl⟩ := e2
    apply List.ext_getElem hl
    intro j h1 h2
    have a := hc j _ (List.getElem?_eq_getElem h1)
    have b := hc' j _ (List.getElem?_eq_getElem h2)
    rw [a] at b
    simpa using b
  · rw [List.length_eq_zero_iff.1 (by omega : us.length = 0), List.length_eq_zero_iff.1 (by omega : vs.length = 0)]
theorem byts_inj : ∀ {a b : List Nat}, byts a = byts b → a = b
  | [], [], _ => rfl
  | [], _ :: _, h => by simp [byts] at h
  | _ :: _, [], h => by simp [byts] at h
  | x :: a, y :: b, h => by
    simp only [byts, List.map_cons, List.cons.injEq, Value.int.injEq] at h
    have h1 : x = y := by have := h.1.2; omega
    rw [h1, byts_inj (a := a) (b := b) h.2]
theorem flat_inj : ∀ {a b : List S}, flat a = flat b → a = b
  | [], [], _ => rfl
  | [], _ :: _, h => by simp [flat, ec] at h
  | _ :: _, [], h => by simp [flat, ec] at h
  | x :: a, y :: b, h => by
    have e : ∀ z l, flat (z :: l) = ec z ++ flat l := fun z l => rfl
    rw [e, e] at h
    simp only [ec, List.cons_append, List.nil_append, List.cons.injEq, Value.int.injEq] at h
    obtain ⟨h1, h2, h3, h4⟩ := h
    rw [flat_inj h4]
    cases x; cases y
    simp only at h1 h2 h3
    rw [h1.2, h2.2, Int.ofNat.inj h3.2]
theorem Reads.det {w : World} {e : E} {r q : Wr} (h : Reads w e r) (h' : Reads w e q) : r = q := by
  have e1 := byts_inj (Rd.det h.v h'.v (by simp [byts]; rw [h.vn, h'.vn]))
  have e2 := flat_inj (Rd.det h.x.rd h'.x.rd (by rw [flat_length, flat_length, h.x.len, h'.x.len]))
  have a1 := h.n.symm.trans h'.n
  have a2 := h.c.symm.trans h'.c
  have a3 := h.k.symm.trans h'.k
  have a4 := h.d.symm.trans h'.d
  cases r; cases q
  simp only at a1 a2 a3 a4 e1 e2
  subst a1; subst a2; subst a3; subst a4; subst e1; subst e2; rfl
open Classical in
/-- how a write reads -/
noncomputable def RW (w : World) (t : E) : Wr := if h : ∃ r, Reads w t r then h.choose else Wr.z
theorem RW_eq {w : World} {t : E} {r : Wr} (h : Reads w t r) : RW w t = r := by
  unfold RW
  rw [dif_pos ⟨r, h⟩]
  exact Reads.det (Exists.choose_spec (⟨r, h⟩ : ∃ r, Reads w t r)) h
theorem RW_reads {w : World} {t : E} {r : Wr} (h : Reads w t r) : Reads w t (RW w t) := by rw [RW_eq h]; exact h
/-- merging, as the writes read -/
noncomputable def cvW (t u : Wr) : Bool := keq t.k u.k && hasd t.xs u.n u.c
def belowW (a b : Wr) : Bool := decide (a.n < b.n) || (decide (a.n = b.n) && decide (a.c < b.c))
def deqW (a b : Wr) : Bool := decide (a.n = b.n) && decide (a.c = b.c)
noncomputable def leftW (rs : List Wr) (u : Wr) : List Wr := rs.filter fun t => !cvW u t
def insW (u : Wr) : List Wr → List Wr
  | [] => [u]
  | x :: l => if belowW u x = true then u :: x :: l else x :: insW u l
noncomputable def mergeW (rs : List Wr) (u : Wr) : List Wr := if (leftW rs u).any (fun t => cvW t u) = true then leftW rs u else insW u (leftW rs u)
noncomputable def merrW (rs : List Wr) (u : Wr) (lim : Int) : Int := if rs.any (fun t => !keq t.k u.k) = true then 50 else if rs.any (fun t => deqW t u) = true then 0 else if lim < (mergeW rs u).length then 51 else 0
noncomputable def mlistW (rs : List Wr) (u : Wr) (lim : Int) : List Wr := if rs.any (fun t => !keq t.k u.k) = true then [] else if rs.any (fun t => deqW t u) = true then rs else if lim < (mergeW rs u).length then [] else mergeW rs u
/-- the dot and the key are the write's -/
structure As (e : E) (r : Wr) : Prop where
  n : e.n = r.n
  c : e.c = r.c
  k : e.k = r.k
theorem Reads.as {w : World} {e : E} {r : Wr} (h : Reads w e r) : As e r := ⟨h.n, h.c, h.k⟩
theorem any_R {f : E → Bool} {g : Wr → Bool} {R : E → Wr} : ∀ (es : List E), (∀ t ∈ es, f t = g (R t)) → es.any f = (es.map R).any g
  | [], _ => rfl
  | x :: l, h => by
    simp only [List.any_cons, List.map_cons]
    rw [h x (by simp), any_R l (fun t ht => h t (by simp [ht]))]
theorem filter_R {f : E → Bool} {g : Wr → Bool} {R : E → Wr} : ∀ (es : List E), (∀ t ∈ es, f t = g (R t)) → (es.filter f).map R = (es.map R).filter g
  | [], _ => rfl
  | x :: l, h => by
    have ih := filter_R (f := f) (g := g) (R := R) l (fun t ht => h t (by simp [ht]))
    have hx := h x (by simp)
    simp only [List.filter_cons, List.map_cons]
    rw [← hx]
    split
    · simp [ih]
    · exact ih
theorem insE_R {R : E → Wr} {u : E} : ∀ (es : List E), (∀ t ∈ es, below u t = belowW (R u) (R t)) → (insE u es).map R = insW (R u) (es.map R)
  | [], _ => rfl
  | x :: l, h => by
    have ih := insE_R (R := R) (u := u) l (fun t ht => h t (by simp [ht]))
    have hx := h x (by simp)
    simp only [insE, insW, List.map_cons]
    rw [← hx]
    split
    · simp
    · simp [ih]
theorem as_below {u t : E} {a b : Wr} (h : As u a) (k : As t b) : below u t = belowW a b := by unfold below belowW; rw [h.n, h.c, k.n, k.c]
theorem as_deq {u t : E} {a b : Wr} (h : As u a) (k : As t b) : deq u t = deqW a b := by unfold deq deqW; rw [h.n, h.c, k.n, k.c]
theorem as_cv {u t : E} {a b : Wr} (h : As u a) (k : As t b) : cvE a.xs u t = cvW a b := by unfold cvE cvW; rw [h.k, k.n, k.c, k.k]
theorem left_W {R : E → Wr} {es : List E} {u : E} (h : ∀ t ∈ es, As t (R t)) (hu : As u (R u)) : (leftE (fun t => (R t).xs) es u).map R = leftW (es.map R) (R u) := by
  unfold leftE leftW
  exact filter_R es (fun t ht => by rw [as_cv hu (h t ht)])
theorem merge_W {R : E → Wr} {es : List E} {u : E} (h : ∀ t ∈ es, As t (R t)) (hu : As u (R u)) : (mergeE (fun t => (R t).xs) es u).map R = mergeW (es.map R) (R u) := by
  have hl : ∀ t ∈ leftE (fun t => (R t).xs) es u, As t (R t) := fun t ht => h t (List.mem_filter.1 ht).1
  unfold mergeE mergeW
  rw [← left_W h hu, ← any_R (f := fun t => cvE (R t).xs t u) (g := fun t => cvW t (R u)) (R := R) _ (fun t ht => as_cv (hl t ht) hu)]
  split
  · rfl
  · exact insE_R _ (fun t ht => as_below hu (hl t ht))
theorem merge_len {R : E → Wr} {es : List E} {u : E} (h : ∀ t ∈ es, As t (R t)) (hu : As u (R u)) : (mergeE (fun t => (R t).xs) es u).length = (mergeW (es.map R) (R u)).length := by
  rw [← merge_W h hu]; simp
theorem merr_W {R : E → Wr} {es : List E} {u : E} {lim : Int} (h : ∀ t ∈ es, As t (R t)) (hu : As u (R u)) : merr (fun t => (R t).xs) es u lim = merrW (es.map R) (R u) lim := by
  unfold merr merrW
  rw [← any_R (f := fun t => !keq t.k u.k) (g := fun t => !keq t.k (R u).k) (R := R) es (fun t ht => by rw [(h t ht).k, hu.k]), ← any_R (f := fun t => deq t u) (g := fun t => deqW t (R u)) (R := R) es (fun t ht => as_deq (h t ht) hu), merge_len h hu]
theorem mlist_W {R : E → Wr} {es : List E} {u : E} {lim : Int} (h : ∀ t ∈ es, As t (R t)) (hu : As u (R u)) : (mlist (fun t => (R t).xs) es u lim).map R = mlistW (es.map R) (R u) lim := by
  unfold mlist mlistW
  rw [← any_R (f := fun t => !keq t.k u.k) (g := fun t => !keq t.k (R u).k) (R := R) es (fun t ht => by rw [(h t ht).k, hu.k]), ← any_R (f := fun t => deq t u) (g := fun t => deqW t (R u)) (R := R) es (fun t ht => as_deq (h t ht) hu), merge_len h hu]
  split
  · rfl
  · split
    · rfl
    · split
      · rfl
      · exact merge_W h hu
end Go.Proofs.Ytokaeiahhmaokaa.ds
