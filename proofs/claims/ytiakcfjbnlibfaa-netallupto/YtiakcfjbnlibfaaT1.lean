import Derived.Test.YtiakcfjbnlibfaaT0
namespace Go.Proofs.Ytiakcfjbnlibfaa.nt
open Go.ChangeShapes Go.WideShapes Go.ChangeAt Go.RowKit
set_option linter.unusedVariables false
set_option linter.unusedSimpArgs false
def OpC.agg (o : OpC) : Value := .agg #[.int .i64 o.k, .int .i64 o.w, .int .i64 o.i, .int .i64 o.j, .int .i64 o.l.f, .int .i64 o.l.t, o.l.d.v]
def boxO (o : OpC) : Obj := .cells #[.int .i64 o.k, .int .i64 o.w, .int .i64 o.i, .int .i64 o.j, .int .i64 o.l.f, .int .i64 o.l.t, o.l.d.v] 45
/-- what holds of a pair between two calls -/
structure PI (p : Px) (K : Nat) : Prop where
  xy : p.ys = p.xs ∧ p.e = p.c
  cb : Cb p.c K
  room : p.room ≤ 256
  turns : p.turns ≤ K
  mark : p.mark ≤ K
  kb : p.x.kb.length ≤ 6
  ki : p.x.ki.length ≤ 6
  km : ∀ e ∈ p.x.ki, e.2 ≤ K
  lf : p.x.lf.length ≤ K
  nm : p.x.nm.length ≤ K
  ll : ∀ e ∈ p.x.lf, e.1.n ≤ 2000000
  nl : ∀ e ∈ p.x.nm, e.2.1.length ≤ 100000
structure PlPost (wa w w' : World) (P : Nat) (p : Px) (who : Nat → Option Nat) (K : Nat) : Prop where
  ex : ∃ who' p', PQ wa w' P p' who' p'.x.cof ∧ PI p' (K + 1) ∧ p'.room = p.room ∧ Stp w w' who who' none
theorem opDrop_cb {xs : List Tx} {c : Cn} {i : Int} {K : Nat} (h : Cb c K) : Cb (opDrop xs c i).c (K + 1) := by
  unfold opDrop; split
  · exact h.a3
  · exact h.le (by omega)
theorem opDbl_cb {room : Int} {xs : List Tx} {c : Cn} {i : Int} {K : Nat} (h : Cb c K) : Cb (opDbl room xs c i).c (K + 1) := by
  unfold opDbl; split
  · split
    · exact h.le (by omega)
    · exact h.a4
  · exact h.le (by omega)
theorem opMov_cb {xs : List Tx} {c : Cn} {i j : Int} {K : Nat} (h : Cb c K) : Cb (opMov xs c i j).c (K + 1) := by
  unfold opMov; split <;> exact h.le (by omega)
theorem rowO {w : World} {B : Nat} {o : OpC} (h : w.heap[B]? = some (boxO o)) : w.cell? ⟨B, 0, none⟩ = some (.int .i64 o.k) ∧ w.cell? ⟨B, 2, none⟩ = some (.int .i64 o.i) ∧ w.cell? ⟨B, 3, none⟩ = some (.int .i64 o.j) ∧ w.cell? ⟨B, 4, none⟩ = some (.int .i64 o.l.f) ∧ w.cell? ⟨B, 5, none⟩ = some (.int .i64 o.l.t) ∧ w.cell? ⟨B, 6, none⟩ = some (.slice o.l.d.p o.l.d.n o.l.d.c) := by
  unfold boxO at h
  refine ⟨?_, ?_, ?_, ?_, ?_, ?_⟩ <;> (rw [cell_of_row _ _ _ _ _ _ h]; rfl)
structure SP (W : World) (B : Nat) (o : OpC) (P gb gr : Nat) : Prop where
  b : W.heap[B]? = some (boxO o)
  p : W.cell? ⟨P, 0, none⟩ = some (.pointer (some ⟨gb, 0, none⟩))
  r : W.cell? ⟨P, 1, none⟩ = some (.pointer (some ⟨gr, 0, none⟩))
theorem SP.out {W : World} {B : Nat} {o : OpC} {P gb gr : Nat} (h : SP W B o P gb gr) : W.cell? ⟨B, 0, none⟩ = some (.int .i64 o.k) ∧ W.cell? ⟨B, 2, none⟩ = some (.int .i64 o.i) ∧ W.cell? ⟨B, 3, none⟩ = some (.int .i64 o.j) ∧ W.cell? ⟨P, 0, none⟩ = some (.pointer (some ⟨gb, 0, none⟩)) ∧ W.cell? ⟨P, 1, none⟩ = some (.pointer (some ⟨gr, 0, none⟩)) := ⟨(rowO h.b).1, (rowO h.b).2.1, (rowO h.b).2.2.1, h.p, h.r⟩
/-- behind the first of two calls that answer a number: what is read, and the next call's contract -/
structure Two (r : Ending) (w' : World) (B : Nat) (o : OpC) (P gb gr : Nat) (n : Int) (Q : World → Prop) (f : FuncId) (args : Array Value) : Prop where
  ret : r = .returned (.int .i64 n)
  sp : SP w' B o P gb gr
  nx : Calls Try.prog f args w' fun r w'' => r = .returned (.int .i64 n) ∧ SP w'' B o P gb gr ∧ Q w''
/-- where a call of plays stands: the pair, the boxes, the step so far -/
structure Mid (wa w0 w : World) (P : Nat) (who0 : Nat → Option Nat) (bs : List (Nat × Obj)) (gb gr : Nat) (p : Px) (who : Nat → Option Nat) : Prop where
  q : PQ wa w P p who p.x.cof
  st : Stp w0 w who0 who none
  lo : wa.heap.size ≤ w0.heap.size
  bb : ∀ e ∈ bs, who e.1 = none ∧ w0.heap.size ≤ e.1 ∧ w.heap[e.1]? = some e.2
  nd : (bs.map Prod.fst).Nodup
  sz : w0.heap.size ≤ w.heap.size
  gb : p.b.g = gb
  gr : p.r.g = gr
theorem Mid.sp {wa w0 w : World} {P : Nat} {who0 : Nat → Option Nat} {bs : List (Nat × Obj)} {B : Nat} {o : OpC} {gb gr : Nat} {p : Px} {who : Nat → Option Nat} (m : Mid wa w0 w P who0 bs gb gr p who) (hB : (B, boxO o) ∈ bs) : SP w B o P gb gr := by
  have hb := (m.bb _ hB).2.2
  obtain ⟨q, st, lo, bb, nd, sz, rfl, rfl⟩ := m
  exact ⟨hb, (q.sm.oth).1, (q.sm.oth).2.1⟩
theorem PQ.mid0 {wa w : World} {P : Nat} {p : Px} {who : Nat → Option Nat} (h : PQ wa w P p who p.x.cof) : Mid wa w w P who [] p.b.g p.r.g p who :=
  ⟨h, Stp.refl _ _ _, h.ap.size, by simp, by simp, Nat.le_refl _, rfl, rfl⟩
theorem Mid.kept {wa w0 w w' : World} {P : Nat} {who0 : Nat → Option Nat} {bs : List (Nat × Obj)} {gb gr : Nat} {p : Px} {who : Nat → Option Nat} (m : Mid wa w0 w P who0 bs gb gr p who) (a : Apart [] w w') : Mid wa w0 w' P who0 bs gb gr p who :=
  ⟨m.q.kept0 a, m.st.trans (Stp.ap0 a), m.lo, fun e he => ⟨(m.bb e he).1, (m.bb e he).2.1, (a.block _ (lt_of_heap (m.bb e he).2.2) (by simp)).trans (m.bb e he).2.2⟩, m.nd, Nat.le_trans m.sz a.size, m.gb, m.gr⟩
theorem Mid.alloc {wa w0 w : World} {P : Nat} {who0 : Nat → Option Nat} {bs : List (Nat × Obj)} {gb gr : Nat} {p : Px} {who : Nat → Option Nat} (m : Mid wa w0 w P who0 bs gb gr p who) (bx : Obj) : Mid wa w0 (w.alloc bx) P who0 ((w.heap.size, bx) :: bs) gb gr p who := by
  have m2 := m.kept ((Apart.refl [] w).alloc bx)
  refine ⟨m2.q, m2.st, m2.lo, fun e he => ?_, ?_, m2.sz, m2.gb, m2.gr⟩
  · rcases List.mem_cons.1 he with rfl | he
    · exact ⟨m.q.free (Nat.le_refl _), m.sz, heap_alloc_new w bx⟩
    · exact m2.bb e he
  · simp only [List.map_cons, List.nodup_cons]
    refine ⟨fun hm => ?_, m2.nd⟩
    obtain ⟨e, he, hs⟩ := List.mem_map.1 hm
    have := lt_of_heap (m.bb e he).2.2
    omega
theorem Mid.drew {wa w0 w : World} {P : Nat} {who0 : Nat → Option Nat} {bs : List (Nat × Obj)} {gb gr : Nat} {p : Px} {who : Nat → Option Nat} (m : Mid wa w0 w P who0 bs gb gr p who) : Mid wa w0 w.drew P who0 bs gb gr p who := m.kept (Apart.refl [] w).drew
theorem Stp.fresh {w0 w w' : World} {who0 who : Nat → Option Nat} {q : Option Nat} {A : Nat} (h : Stp w0 w who0 who q) (a : Apart [A] w w') (hA : w0.heap.size ≤ A) : Stp w0 w' who0 who q := by
  obtain ⟨X, aX, hX⟩ := h.ap
  refine ⟨h.old, h.new, X ++ [A], (aX.mono (fun x hx => List.mem_append_left _ hx)).trans (a.mono (fun x hx => List.mem_append_right _ hx)), fun k hk => ?_⟩
  rcases List.mem_append.1 hk with hk | hk
  · exact hX k hk
  · simp at hk; subst hk; exact .inr (.inl hA)
/-- a box is written -/
theorem Mid.set {wa w0 w w' : World} {P : Nat} {who0 : Nat → Option Nat} {bs : List (Nat × Obj)} {A : Nat} {bx bx' : Obj} {gb gr : Nat} {p : Px} {who : Nat → Option Nat} (m : Mid wa w0 w P who0 ((A, bx) :: bs) gb gr p who) (a : Apart [A] w w') (hb : w'.heap[A]? = some bx') : Mid wa w0 w' P who0 ((A, bx') :: bs) gb gr p who := by
  have hA := m.bb (A, bx) (by simp)
  have hnd := m.nd
  simp only [List.map_cons, List.nodup_cons] at hnd
  refine ⟨m.q.keptN a (fun k hk => by simp at hk; subst hk; exact hA.1) (fun k hk => by simp at hk; subst hk; exact Nat.le_trans m.lo hA.2.1), m.st.fresh a hA.2.1, m.lo, fun e he => ?_, by simpa using hnd, Nat.le_trans m.sz a.size, m.gb, m.gr⟩
  rcases List.mem_cons.1 he with rfl | he
  · exact ⟨hA.1, hA.2.1, hb⟩
  · have he2 := m.bb e (List.mem_cons_of_mem _ he)
    exact ⟨he2.1, he2.2.1, (a.block _ (lt_of_heap he2.2.2) (fun hm => by simp at hm; exact hnd.1 (List.mem_map.2 ⟨e, he, hm⟩))).trans he2.2.2⟩
theorem Mid.step {wa w0 w w' : World} {P : Nat} {who0 : Nat → Option Nat} {bs : List (Nat × Obj)} {gb gr : Nat} {p p' : Px} {who who' : Nat → Option Nat} (m : Mid wa w0 w P who0 bs gb gr p who) (q : PQ wa w' P p' who' p'.x.cof) (hs : Stp w w' who who' none) (h1 : p'.b.g = p.b.g) (h2 : p'.r.g = p.r.g) : Mid wa w0 w' P who0 bs gb gr p' who' := by
  obtain ⟨X, aX, hX⟩ := hs.ap
  exact ⟨q, m.st.trans hs, m.lo, fun e he => ⟨hs.none' (lt_of_heap (m.bb e he).2.2) (m.bb e he).1, (m.bb e he).2.1, (hs.keeps (lt_of_heap (m.bb e he).2.2) (m.bb e he).1).trans (m.bb e he).2.2⟩, m.nd, Nat.le_trans m.sz aX.size, h1.trans m.gb, h2.trans m.gr⟩
theorem Mid.bp {wa w0 w w' : World} {P : Nat} {who0 : Nat → Option Nat} {bs : List (Nat × Obj)} {gb gr : Nat} {p : Px} {who : Nat → Option Nat} {r : Ending} {v : Value} {xs' : List Tx} {c' : Cn} (m : Mid wa w0 w P who0 bs gb gr p who) (hh : BP wa w w' r P p who v xs' c') :
    ∃ p' who', r = .returned v ∧ Mid wa w0 w' P who0 bs gb gr p' who' ∧ ∃ d, p' = { p with b := d, xs := xs', c := c' } := by
  obtain ⟨who', d, rfl, hq, hs, hd⟩ := hh.ex
  exact ⟨_, who', rfl, m.step (p' := { p with b := d, xs := xs', c := c' }) hq hs hd rfl, d, rfl⟩
theorem Mid.rp {wa w0 w w' : World} {P : Nat} {who0 : Nat → Option Nat} {bs : List (Nat × Obj)} {gb gr : Nat} {p : Px} {who : Nat → Option Nat} {r : Ending} {v : Value} {xs' : List Tx} {c' : Cn} (m : Mid wa w0 w P who0 bs gb gr p who) (hh : RP wa w w' r P p who v xs' c') :
    ∃ p' who', r = .returned v ∧ Mid wa w0 w' P who0 bs gb gr p' who' ∧ ∃ d, p' = { p with r := d, ys := xs', e := c' } := by
  obtain ⟨who', d, rfl, hq, hs, hd⟩ := hh.ex
  exact ⟨_, who', rfl, m.step (p' := { p with r := d, ys := xs', e := c' }) hq hs rfl hd, d, rfl⟩
/-- both bags behind the same call -/
theorem PI.both {p : Px} {K : Nat} (h : PI p K) {d1 d2 : Bd} {xs : List Tx} {c : Cn} (hc : Cb c (K + 1)) : PI { p with b := d1, xs := xs, c := c, r := d2, ys := xs, e := c } (K + 1) :=
  ⟨⟨rfl, rfl⟩, hc, h.room, by have := h.turns; show p.turns ≤ K + 1; omega, by have := h.mark; show p.mark ≤ K + 1; omega, h.kb, h.ki, fun e he => by have := h.km e he; omega, by have := h.lf; show p.x.lf.length ≤ K + 1; omega, by have := h.nm; show p.x.nm.length ≤ K + 1; omega, h.ll, h.nl⟩
/-- a call of both that answers a number -/
theorem Mid.two {wa w0 w w' : World} {P : Nat} {who0 : Nat → Option Nat} {bs : List (Nat × Obj)} {B : Nat} {o : OpC} {gb gr : Nat} {p : Px} {who : Nat → Option Nat} {r : Ending} {K : Nat} {op : OpR} {f : FuncId} {args : Array Value} (m : Mid wa w0 w P who0 bs gb gr p who) (hB : (B, boxO o) ∈ bs) (hi : PI p K) (hh : BP wa w w' r P p who (.int .i64 op.code) op.xs op.c) (hc : Cb op.c (K + 1))
    (hr : ∀ p' who', PQ wa w' P p' who' p'.x.cof → p'.ys = p.xs → p'.e = p.c → p'.room = p.room → p'.r.g = gr → Calls Try.prog f args w' fun r w'' => RP wa w' w'' r P p' who' (.int .i64 op.code) op.xs op.c) :
    Two r w' B o P gb gr op.code (fun w'' => PlPost wa w0 w'' P p who0 K) f args := by
  obtain ⟨p', who', rfl, m', d, hp⟩ := m.bp hh
  have hx := hi.xy
  refine ⟨rfl, m'.sp hB, ?_⟩
  refine (hr p' who' m'.q (by rw [hp]; exact hx.1) (by rw [hp]; exact hx.2) (by rw [hp]) m'.gr).mono (fun r w'' h2 => ?_)
  obtain ⟨p2, who2, rfl, m2, d2, hp2⟩ := m'.rp h2
  refine ⟨rfl, m2.sp hB, who2, p2, m2.q, ?_, ?_, m2.st⟩
  · rw [hp2, hp]; exact hi.both hc
  · rw [hp2, hp]
set_option maxHeartbeats 8000000 in
set_option maxRecDepth 100000 in
theorem walk_drop {w : World} {P gb gr : Nat} {o : OpC} {n : Int} {Q : World → Prop} (hk : o.k = 3) (hS : SP (w.alloc (boxO o)).drew w.heap.size o P gb gr)
    (hc : Calls Try.prog 21 #[.pointer (some ⟨gb, 0, none⟩), .int .i64 o.i] (w.alloc (boxO o)).drew fun r w' => Two r w' w.heap.size o P gb gr n Q 37 #[.pointer (some ⟨gr, 0, none⟩), .int .i64 o.i]) :
    Calls Try.prog 25 #[.pointer (some ⟨P, 0, none⟩), o.agg] w fun r w' => r = .returned (.bool true) ∧ Q w' := by
  obtain ⟨W1, hW1⟩ : ∃ W1, W1 = w.alloc (boxO o) := ⟨_, rfl⟩
  rw [← hW1] at hS hc
  have q1 : W1.heap[w.heap.size]? = some (boxO o) := by rw [hW1]; exact heap_alloc_new w (boxO o)
  obtain ⟨x0, _⟩ := rowO q1
  rw [hk] at x0
  have HC := hid hc
  have HS := hid hS
  unfold boxO Sl.v at hW1
  unfold OpC.agg Sl.v
  rw [hk] at hW1 ⊢
  clear hc hS q1
  go_enter Try.func25, Try.ntmps25
  go_upto_region 1 with fail
  rw [← hW1]
  clear hW1
  go_upto_region 9 with fail
  refine wp_region_held_drew (S := fun X => SP X w.heap.size o P gb gr) (by kernel_rfl) HS.out (fun hHeld => ?_)
  clear HS
  generalize hwd : W1.drew = wd at *
  clear hwd
  refine wpAnyH_take (i := 0) (oi := ⟨some 53, _, _, _, _, _⟩) (v := (.pointer (some ⟨P, 0, none⟩))) rfl (by kernel_rfl) (by kernel_rfl) (by kernel_rfl) (fun _ _ _ h => h) (Or.inl ⟨by rfl, ?_⟩) (by assumption) ?_
  · intro W hSW; obtain ⟨v0, v2, v3, v7, v8⟩ := hSW.out; go_simp
  simp only [Act.put, List.setIfInBounds_toArray, List.set_cons_zero, List.set_cons_succ]
  refine wpAnyH_take (i := 1) (oi := ⟨some 54, _, _, _, _, _⟩) (v := (.pointer (some ⟨P, 0, none⟩))) rfl (by kernel_rfl) (by kernel_rfl) (by kernel_rfl) (fun _ _ _ h => h) (Or.inl ⟨by rfl, ?_⟩) (by assumption) ?_
  · intro W hSW; obtain ⟨v0, v2, v3, v7, v8⟩ := hSW.out; go_simp
  simp only [Act.put, List.setIfInBounds_toArray, List.set_cons_zero, List.set_cons_succ]
  refine wpAnyH_take (i := 2) (oi := ⟨some 55, _, _, _, _, _⟩) (v := (.pointer (some ⟨P, 0, none⟩))) rfl (by kernel_rfl) (by kernel_rfl) (by kernel_rfl) (fun _ _ _ h => h) (Or.inl ⟨by rfl, ?_⟩) (by assumption) ?_
  · intro W hSW; obtain ⟨v0, v2, v3, v7, v8⟩ := hSW.out; go_simp
  simp only [Act.put, List.setIfInBounds_toArray, List.set_cons_zero, List.set_cons_succ]
  refine wpAnyH_take (i := 3) (oi := ⟨some 56, _, _, _, _, _⟩) (v := (.pointer (some ⟨gb, 0, none⟩))) rfl (by kernel_rfl) (by kernel_rfl) (by kernel_rfl) (fun _ _ _ h => h) (Or.inl ⟨by rfl, ?_⟩) (by assumption) ?_
  · intro W hSW; obtain ⟨v0, v2, v3, v7, v8⟩ := hSW.out; go_simp
  simp only [Act.put, List.setIfInBounds_toArray, List.set_cons_zero, List.set_cons_succ]
  refine wpAnyH_take (i := 4) (oi := ⟨some 57, _, _, _, _, _⟩) (v := (.pointer (some ⟨w.heap.size, 2, none⟩))) rfl (by kernel_rfl) (by kernel_rfl) (by kernel_rfl) (fun _ _ _ h => h) (Or.inl ⟨by rfl, ?_⟩) (by assumption) ?_
  · intro W hSW; obtain ⟨v0, v2, v3, v7, v8⟩ := hSW.out; go_simp
  simp only [Act.put, List.setIfInBounds_toArray, List.set_cons_zero, List.set_cons_succ]
  refine wpAnyH_take (i := 5) (oi := ⟨some 58, _, _, _, _, _⟩) (v := (.int .i64 o.i)) rfl (by kernel_rfl) (by kernel_rfl) (by kernel_rfl) (fun _ _ _ h => h) (Or.inl ⟨by rfl, ?_⟩) (by assumption) ?_
  · intro W hSW; obtain ⟨v0, v2, v3, v7, v8⟩ := hSW.out; go_simp
  simp only [Act.put, List.setIfInBounds_toArray, List.set_cons_zero, List.set_cons_succ]
  refine wpAnyH_take (i := 8) (oi := ⟨some 61, _, _, _, _, _⟩) (v := (.pointer (some ⟨P, 0, none⟩))) rfl (by kernel_rfl) (by kernel_rfl) (by kernel_rfl) (fun _ _ _ h => h) (Or.inl ⟨by rfl, ?_⟩) (by assumption) ?_
  · intro W hSW; obtain ⟨v0, v2, v3, v7, v8⟩ := hSW.out; go_simp
  simp only [Act.put, List.setIfInBounds_toArray, List.set_cons_zero, List.set_cons_succ]
  refine wpAnyH_take (i := 9) (oi := ⟨some 62, _, _, _, _, _⟩) (v := (.pointer (some ⟨P, 0, none⟩))) rfl (by kernel_rfl) (by kernel_rfl) (by kernel_rfl) (fun _ _ _ h => h) (Or.inl ⟨by rfl, ?_⟩) (by assumption) ?_
  · intro W hSW; obtain ⟨v0, v2, v3, v7, v8⟩ := hSW.out; go_simp
  simp only [Act.put, List.setIfInBounds_toArray, List.set_cons_zero, List.set_cons_succ]
  refine wpAnyH_take (i := 10) (oi := ⟨some 63, _, _, _, _, _⟩) (v := (.pointer (some ⟨P, 1, none⟩))) rfl (by kernel_rfl) (by kernel_rfl) (by kernel_rfl) (fun _ _ _ h => h) (Or.inl ⟨by rfl, ?_⟩) (by assumption) ?_
  · intro W hSW; obtain ⟨v0, v2, v3, v7, v8⟩ := hSW.out; go_simp
  simp only [Act.put, List.setIfInBounds_toArray, List.set_cons_zero, List.set_cons_succ]
  refine wpAnyH_take (i := 11) (oi := ⟨some 64, _, _, _, _, _⟩) (v := (.pointer (some ⟨gr, 0, none⟩))) rfl (by kernel_rfl) (by kernel_rfl) (by kernel_rfl) (fun _ _ _ h => h) (Or.inl ⟨by rfl, ?_⟩) (by assumption) ?_
  · intro W hSW; obtain ⟨v0, v2, v3, v7, v8⟩ := hSW.out; go_simp
  simp only [Act.put, List.setIfInBounds_toArray, List.set_cons_zero, List.set_cons_succ]
  refine wpAnyH_take (i := 12) (oi := ⟨some 65, _, _, _, _, _⟩) (v := (.pointer (some ⟨w.heap.size, 2, none⟩))) rfl (by kernel_rfl) (by kernel_rfl) (by kernel_rfl) (fun _ _ _ h => h) (Or.inl ⟨by rfl, ?_⟩) (by assumption) ?_
  · intro W hSW; obtain ⟨v0, v2, v3, v7, v8⟩ := hSW.out; go_simp
  simp only [Act.put, List.setIfInBounds_toArray, List.set_cons_zero, List.set_cons_succ]
  refine wpAnyH_take (i := 13) (oi := ⟨some 66, _, _, _, _, _⟩) (v := (.int .i64 o.i)) rfl (by kernel_rfl) (by kernel_rfl) (by kernel_rfl) (fun _ _ _ h => h) (Or.inl ⟨by rfl, ?_⟩) (by assumption) ?_
  · intro W hSW; obtain ⟨v0, v2, v3, v7, v8⟩ := hSW.out; go_simp
  simp only [Act.put, List.setIfInBounds_toArray, List.set_cons_zero, List.set_cons_succ]
  refine wpAnyH_ready (rs := [6]) (by kernel_rfl) (by simp) ?_
  refine AllReadyH.cons rfl (fun KK hKK => ?_) AllReadyH.nil
  go_simp
  refine HC.out.mono ?_
  clear HC
  rintro _ w6 hh
  have HN := hid hh.nx
  have hS6 := hh.sp
  have hr6 := hh.ret
  clear hh
  subst hr6
  try dsimp only
  refine hKK.out _ _ hS6 (fun hHeld => ?_)
  clear hKK KK
  refine wpAnyH_ready (rs := [7]) (by kernel_rfl) (by simp) ?_
  refine AllReadyH.cons rfl (fun KK hKK => ?_) AllReadyH.nil
  go_simp
  refine (num_ok _ w6).mono ?_
  rintro _ w7 ⟨rfl, hw7⟩
  rw [hw7]
  clear hw7
  try dsimp only
  refine hKK.out _ _ hS6 (fun hHeld => ?_)
  clear hKK KK
  refine wpAnyH_ready (rs := [14]) (by kernel_rfl) (by simp) ?_
  refine AllReadyH.cons rfl (fun KK hKK => ?_) AllReadyH.nil
  go_simp
  refine HN.out.mono ?_
  clear HN
  rintro _ w8 hh
  obtain ⟨rfl, hS8, hQ⟩ := hh
  have HQ := hid hQ
  clear hQ hS6
  try dsimp only
  refine hKK.out _ _ hS8 (fun hHeld => ?_)
  clear hKK KK
  refine wpAnyH_take (i := 15) (oi := ⟨some 68, _, _, _, _, _⟩) (v := (.bool true)) rfl (by kernel_rfl) (by kernel_rfl) (by kernel_rfl) (fun _ _ _ h => h) (Or.inl ⟨by rfl, ?_⟩) (by assumption) ?_
  · intro W hSW; go_simp
  simp only [Act.put, List.setIfInBounds_toArray, List.set_cons_zero, List.set_cons_succ]
  refine wpAnyH_take (i := 16) (oi := ⟨some 4, _, _, _, _, _⟩) (v := (.bool true)) rfl (by kernel_rfl) (by kernel_rfl) (by kernel_rfl) (fun _ _ _ h => h) (Or.inl ⟨by rfl, ?_⟩) (by assumption) ?_
  · intro W hSW; go_simp
  simp only [Act.put, List.setIfInBounds_toArray, List.set_cons_zero, List.set_cons_succ]
  refine wpAnyH_done (by kernel_rfl) ?_ _
  go_wp2
  go_ret
  exact ⟨rfl, HQ.out⟩
set_option maxHeartbeats 8000000 in
set_option maxRecDepth 100000 in
theorem walk_dbl {w : World} {P gb gr : Nat} {o : OpC} {n : Int} {Q : World → Prop} (hk : o.k = 4) (hS : SP (w.alloc (boxO o)).drew w.heap.size o P gb gr)
    (hc : Calls Try.prog 20 #[.pointer (some ⟨gb, 0, none⟩), .int .i64 o.i] (w.alloc (boxO o)).drew fun r w' => Two r w' w.heap.size o P gb gr n Q 38 #[.pointer (some ⟨gr, 0, none⟩), .int .i64 o.i]) :
    Calls Try.prog 25 #[.pointer (some ⟨P, 0, none⟩), o.agg] w fun r w' => r = .returned (.bool true) ∧ Q w' := by
  obtain ⟨W1, hW1⟩ : ∃ W1, W1 = w.alloc (boxO o) := ⟨_, rfl⟩
  rw [← hW1] at hS hc
  have q1 : W1.heap[w.heap.size]? = some (boxO o) := by rw [hW1]; exact heap_alloc_new w (boxO o)
  obtain ⟨x0, _⟩ := rowO q1
  rw [hk] at x0
  have HC := hid hc
  have HS := hid hS
  unfold boxO Sl.v at hW1
  unfold OpC.agg Sl.v
  rw [hk] at hW1 ⊢
  clear hc hS q1
  go_enter Try.func25, Try.ntmps25
  go_upto_region 1 with fail
  rw [← hW1]
  clear hW1
  go_upto_region 11 with fail
  refine wp_region_held_drew (S := fun X => SP X w.heap.size o P gb gr) (by kernel_rfl) HS.out (fun hHeld => ?_)
  clear HS
  generalize hwd : W1.drew = wd at *
  clear hwd
  refine wpAnyH_take (i := 0) (oi := ⟨some 71, _, _, _, _, _⟩) (v := (.pointer (some ⟨P, 0, none⟩))) rfl (by kernel_rfl) (by kernel_rfl) (by kernel_rfl) (fun _ _ _ h => h) (Or.inl ⟨by rfl, ?_⟩) (by assumption) ?_
  · intro W hSW; obtain ⟨v0, v2, v3, v7, v8⟩ := hSW.out; go_simp
  simp only [Act.put, List.setIfInBounds_toArray, List.set_cons_zero, List.set_cons_succ]
  refine wpAnyH_take (i := 1) (oi := ⟨some 72, _, _, _, _, _⟩) (v := (.pointer (some ⟨P, 0, none⟩))) rfl (by kernel_rfl) (by kernel_rfl) (by kernel_rfl) (fun _ _ _ h => h) (Or.inl ⟨by rfl, ?_⟩) (by assumption) ?_
  · intro W hSW; obtain ⟨v0, v2, v3, v7, v8⟩ := hSW.out; go_simp
  simp only [Act.put, List.setIfInBounds_toArray, List.set_cons_zero, List.set_cons_succ]
  refine wpAnyH_take (i := 2) (oi := ⟨some 73, _, _, _, _, _⟩) (v := (.pointer (some ⟨P, 0, none⟩))) rfl (by kernel_rfl) (by kernel_rfl) (by kernel_rfl) (fun _ _ _ h => h) (Or.inl ⟨by rfl, ?_⟩) (by assumption) ?_
  · intro W hSW; obtain ⟨v0, v2, v3, v7, v8⟩ := hSW.out; go_simp
  simp only [Act.put, List.setIfInBounds_toArray, List.set_cons_zero, List.set_cons_succ]
  refine wpAnyH_take (i := 3) (oi := ⟨some 74, _, _, _, _, _⟩) (v := (.pointer (some ⟨gb, 0, none⟩))) rfl (by kernel_rfl) (by kernel_rfl) (by kernel_rfl) (fun _ _ _ h => h) (Or.inl ⟨by rfl, ?_⟩) (by assumption) ?_
  · intro W hSW; obtain ⟨v0, v2, v3, v7, v8⟩ := hSW.out; go_simp
  simp only [Act.put, List.setIfInBounds_toArray, List.set_cons_zero, List.set_cons_succ]
  refine wpAnyH_take (i := 4) (oi := ⟨some 75, _, _, _, _, _⟩) (v := (.pointer (some ⟨w.heap.size, 2, none⟩))) rfl (by kernel_rfl) (by kernel_rfl) (by kernel_rfl) (fun _ _ _ h => h) (Or.inl ⟨by rfl, ?_⟩) (by assumption) ?_
  · intro W hSW; obtain ⟨v0, v2, v3, v7, v8⟩ := hSW.out; go_simp
  simp only [Act.put, List.setIfInBounds_toArray, List.set_cons_zero, List.set_cons_succ]
  refine wpAnyH_take (i := 5) (oi := ⟨some 76, _, _, _, _, _⟩) (v := (.int .i64 o.i)) rfl (by kernel_rfl) (by kernel_rfl) (by kernel_rfl) (fun _ _ _ h => h) (Or.inl ⟨by rfl, ?_⟩) (by assumption) ?_
  · intro W hSW; obtain ⟨v0, v2, v3, v7, v8⟩ := hSW.out; go_simp
  simp only [Act.put, List.setIfInBounds_toArray, List.set_cons_zero, List.set_cons_succ]
  refine wpAnyH_take (i := 8) (oi := ⟨some 79, _, _, _, _, _⟩) (v := (.pointer (some ⟨P, 0, none⟩))) rfl (by kernel_rfl) (by kernel_rfl) (by kernel_rfl) (fun _ _ _ h => h) (Or.inl ⟨by rfl, ?_⟩) (by assumption) ?_
  · intro W hSW; obtain ⟨v0, v2, v3, v7, v8⟩ := hSW.out; go_simp
  simp only [Act.put, List.setIfInBounds_toArray, List.set_cons_zero, List.set_cons_succ]
  refine wpAnyH_take (i := 9) (oi := ⟨some 80, _, _, _, _, _⟩) (v := (.pointer (some ⟨P, 0, none⟩))) rfl (by kernel_rfl) (by kernel_rfl) (by kernel_rfl) (fun _ _ _ h => h) (Or.inl ⟨by rfl, ?_⟩) (by assumption) ?_
  · intro W hSW; obtain ⟨v0, v2, v3, v7, v8⟩ := hSW.out; go_simp
  simp only [Act.put, List.setIfInBounds_toArray, List.set_cons_zero, List.set_cons_succ]
  refine wpAnyH_take (i := 10) (oi := ⟨some 81, _, _, _, _, _⟩) (v := (.pointer (some ⟨P, 1, none⟩))) rfl (by kernel_rfl) (by kernel_rfl) (by kernel_rfl) (fun _ _ _ h => h) (Or.inl ⟨by rfl, ?_⟩) (by assumption) ?_
  · intro W hSW; obtain ⟨v0, v2, v3, v7, v8⟩ := hSW.out; go_simp
  simp only [Act.put, List.setIfInBounds_toArray, List.set_cons_zero, List.set_cons_succ]
  refine wpAnyH_take (i := 11) (oi := ⟨some 82, _, _, _, _, _⟩) (v := (.pointer (some ⟨gr, 0, none⟩))) rfl (by kernel_rfl) (by kernel_rfl) (by kernel_rfl) (fun _ _ _ h => h) (Or.inl ⟨by rfl, ?_⟩) (by assumption) ?_
  · intro W hSW; obtain ⟨v0, v2, v3, v7, v8⟩ := hSW.out; go_simp
  simp only [Act.put, List.setIfInBounds_toArray, List.set_cons_zero, List.set_cons_succ]
  refine wpAnyH_take (i := 12) (oi := ⟨some 83, _, _, _, _, _⟩) (v := (.pointer (some ⟨w.heap.size, 2, none⟩))) rfl (by kernel_rfl) (by kernel_rfl) (by kernel_rfl) (fun _ _ _ h => h) (Or.inl ⟨by rfl, ?_⟩) (by assumption) ?_
  · intro W hSW; obtain ⟨v0, v2, v3, v7, v8⟩ := hSW.out; go_simp
  simp only [Act.put, List.setIfInBounds_toArray, List.set_cons_zero, List.set_cons_succ]
  refine wpAnyH_take (i := 13) (oi := ⟨some 84, _, _, _, _, _⟩) (v := (.int .i64 o.i)) rfl (by kernel_rfl) (by kernel_rfl) (by kernel_rfl) (fun _ _ _ h => h) (Or.inl ⟨by rfl, ?_⟩) (by assumption) ?_
  · intro W hSW; obtain ⟨v0, v2, v3, v7, v8⟩ := hSW.out; go_simp
  simp only [Act.put, List.setIfInBounds_toArray, List.set_cons_zero, List.set_cons_succ]
  refine wpAnyH_ready (rs := [6]) (by kernel_rfl) (by simp) ?_
  refine AllReadyH.cons rfl (fun KK hKK => ?_) AllReadyH.nil
  go_simp
  refine HC.out.mono ?_
  clear HC
  rintro _ w6 hh
  have HN := hid hh.nx
  have hS6 := hh.sp
  have hr6 := hh.ret
  clear hh
  subst hr6
  try dsimp only
  refine hKK.out _ _ hS6 (fun hHeld => ?_)
  clear hKK KK
  refine wpAnyH_ready (rs := [7]) (by kernel_rfl) (by simp) ?_
  refine AllReadyH.cons rfl (fun KK hKK => ?_) AllReadyH.nil
  go_simp
  refine (num_ok _ w6).mono ?_
  rintro _ w7 ⟨rfl, hw7⟩
  rw [hw7]
  clear hw7
  try dsimp only
  refine hKK.out _ _ hS6 (fun hHeld => ?_)
  clear hKK KK
  refine wpAnyH_ready (rs := [14]) (by kernel_rfl) (by simp) ?_
  refine AllReadyH.cons rfl (fun KK hKK => ?_) AllReadyH.nil
  go_simp
  refine HN.out.mono ?_
  clear HN
  rintro _ w8 hh
  obtain ⟨rfl, hS8, hQ⟩ := hh
  have HQ := hid hQ
  clear hQ hS6
  try dsimp only
  refine hKK.out _ _ hS8 (fun hHeld => ?_)
  clear hKK KK
  refine wpAnyH_take (i := 15) (oi := ⟨some 86, _, _, _, _, _⟩) (v := (.bool true)) rfl (by kernel_rfl) (by kernel_rfl) (by kernel_rfl) (fun _ _ _ h => h) (Or.inl ⟨by rfl, ?_⟩) (by assumption) ?_
  · intro W hSW; go_simp
  simp only [Act.put, List.setIfInBounds_toArray, List.set_cons_zero, List.set_cons_succ]
  refine wpAnyH_take (i := 16) (oi := ⟨some 4, _, _, _, _, _⟩) (v := (.bool true)) rfl (by kernel_rfl) (by kernel_rfl) (by kernel_rfl) (fun _ _ _ h => h) (Or.inl ⟨by rfl, ?_⟩) (by assumption) ?_
  · intro W hSW; go_simp
  simp only [Act.put, List.setIfInBounds_toArray, List.set_cons_zero, List.set_cons_succ]
  refine wpAnyH_done (by kernel_rfl) ?_ _
  go_wp2
  go_ret
  exact ⟨rfl, HQ.out⟩
set_option maxHeartbeats 8000000 in
set_option maxRecDepth 100000 in
theorem walk_mov {w : World} {P gb gr : Nat} {o : OpC} {n : Int} {Q : World → Prop} (hk : o.k = 5) (hS : SP (w.alloc (boxO o)).drew w.heap.size o P gb gr)
    (hc : Calls Try.prog 13 #[.pointer (some ⟨gb, 0, none⟩), .int .i64 o.i, .int .i64 o.j] (w.alloc (boxO o)).drew fun r w' => Two r w' w.heap.size o P gb gr n Q 39 #[.pointer (some ⟨gr, 0, none⟩), .int .i64 o.i, .int .i64 o.j]) :
    Calls Try.prog 25 #[.pointer (some ⟨P, 0, none⟩), o.agg] w fun r w' => r = .returned (.bool true) ∧ Q w' := by
  obtain ⟨W1, hW1⟩ : ∃ W1, W1 = w.alloc (boxO o) := ⟨_, rfl⟩
  rw [← hW1] at hS hc
  have q1 : W1.heap[w.heap.size]? = some (boxO o) := by rw [hW1]; exact heap_alloc_new w (boxO o)
  obtain ⟨x0, _⟩ := rowO q1
  rw [hk] at x0
  have HC := hid hc
  have HS := hid hS
  unfold boxO Sl.v at hW1
  unfold OpC.agg Sl.v
  rw [hk] at hW1 ⊢
  clear hc hS q1
  go_enter Try.func25, Try.ntmps25
  go_upto_region 1 with fail
  rw [← hW1]
  clear hW1
  go_upto_region 13 with fail
  refine wp_region_held_drew (S := fun X => SP X w.heap.size o P gb gr) (by kernel_rfl) HS.out (fun hHeld => ?_)
  clear HS
  generalize hwd : W1.drew = wd at *
  clear hwd
  refine wpAnyH_take (i := 0) (oi := ⟨some 89, _, _, _, _, _⟩) (v := (.pointer (some ⟨P, 0, none⟩))) rfl (by kernel_rfl) (by kernel_rfl) (by kernel_rfl) (fun _ _ _ h => h) (Or.inl ⟨by rfl, ?_⟩) (by assumption) ?_
  · intro W hSW; obtain ⟨v0, v2, v3, v7, v8⟩ := hSW.out; go_simp
  simp only [Act.put, List.setIfInBounds_toArray, List.set_cons_zero, List.set_cons_succ]
  refine wpAnyH_take (i := 1) (oi := ⟨some 90, _, _, _, _, _⟩) (v := (.pointer (some ⟨P, 0, none⟩))) rfl (by kernel_rfl) (by kernel_rfl) (by kernel_rfl) (fun _ _ _ h => h) (Or.inl ⟨by rfl, ?_⟩) (by assumption) ?_
  · intro W hSW; obtain ⟨v0, v2, v3, v7, v8⟩ := hSW.out; go_simp
  simp only [Act.put, List.setIfInBounds_toArray, List.set_cons_zero, List.set_cons_succ]
  refine wpAnyH_take (i := 2) (oi := ⟨some 91, _, _, _, _, _⟩) (v := (.pointer (some ⟨P, 0, none⟩))) rfl (by kernel_rfl) (by kernel_rfl) (by kernel_rfl) (fun _ _ _ h => h) (Or.inl ⟨by rfl, ?_⟩) (by assumption) ?_
  · intro W hSW; obtain ⟨v0, v2, v3, v7, v8⟩ := hSW.out; go_simp
  simp only [Act.put, List.setIfInBounds_toArray, List.set_cons_zero, List.set_cons_succ]
  refine wpAnyH_take (i := 3) (oi := ⟨some 92, _, _, _, _, _⟩) (v := (.pointer (some ⟨gb, 0, none⟩))) rfl (by kernel_rfl) (by kernel_rfl) (by kernel_rfl) (fun _ _ _ h => h) (Or.inl ⟨by rfl, ?_⟩) (by assumption) ?_
  · intro W hSW; obtain ⟨v0, v2, v3, v7, v8⟩ := hSW.out; go_simp
  simp only [Act.put, List.setIfInBounds_toArray, List.set_cons_zero, List.set_cons_succ]
  refine wpAnyH_take (i := 4) (oi := ⟨some 93, _, _, _, _, _⟩) (v := (.pointer (some ⟨w.heap.size, 2, none⟩))) rfl (by kernel_rfl) (by kernel_rfl) (by kernel_rfl) (fun _ _ _ h => h) (Or.inl ⟨by rfl, ?_⟩) (by assumption) ?_
  · intro W hSW; obtain ⟨v0, v2, v3, v7, v8⟩ := hSW.out; go_simp
  simp only [Act.put, List.setIfInBounds_toArray, List.set_cons_zero, List.set_cons_succ]
  refine wpAnyH_take (i := 5) (oi := ⟨some 94, _, _, _, _, _⟩) (v := (.int .i64 o.i)) rfl (by kernel_rfl) (by kernel_rfl) (by kernel_rfl) (fun _ _ _ h => h) (Or.inl ⟨by rfl, ?_⟩) (by assumption) ?_
  · intro W hSW; obtain ⟨v0, v2, v3, v7, v8⟩ := hSW.out; go_simp
  simp only [Act.put, List.setIfInBounds_toArray, List.set_cons_zero, List.set_cons_succ]
  refine wpAnyH_take (i := 6) (oi := ⟨some 95, _, _, _, _, _⟩) (v := (.pointer (some ⟨w.heap.size, 3, none⟩))) rfl (by kernel_rfl) (by kernel_rfl) (by kernel_rfl) (fun _ _ _ h => h) (Or.inl ⟨by rfl, ?_⟩) (by assumption) ?_
  · intro W hSW; obtain ⟨v0, v2, v3, v7, v8⟩ := hSW.out; go_simp
  simp only [Act.put, List.setIfInBounds_toArray, List.set_cons_zero, List.set_cons_succ]
  refine wpAnyH_take (i := 7) (oi := ⟨some 96, _, _, _, _, _⟩) (v := (.int .i64 o.j)) rfl (by kernel_rfl) (by kernel_rfl) (by kernel_rfl) (fun _ _ _ h => h) (Or.inl ⟨by rfl, ?_⟩) (by assumption) ?_
  · intro W hSW; obtain ⟨v0, v2, v3, v7, v8⟩ := hSW.out; go_simp
  simp only [Act.put, List.setIfInBounds_toArray, List.set_cons_zero, List.set_cons_succ]
  refine wpAnyH_take (i := 10) (oi := ⟨some 99, _, _, _, _, _⟩) (v := (.pointer (some ⟨P, 0, none⟩))) rfl (by kernel_rfl) (by kernel_rfl) (by kernel_rfl) (fun _ _ _ h => h) (Or.inl ⟨by rfl, ?_⟩) (by assumption) ?_
  · intro W hSW; obtain ⟨v0, v2, v3, v7, v8⟩ := hSW.out; go_simp
  simp only [Act.put, List.setIfInBounds_toArray, List.set_cons_zero, List.set_cons_succ]
  refine wpAnyH_take (i := 11) (oi := ⟨some 100, _, _, _, _, _⟩) (v := (.pointer (some ⟨P, 0, none⟩))) rfl (by kernel_rfl) (by kernel_rfl) (by kernel_rfl) (fun _ _ _ h => h) (Or.inl ⟨by rfl, ?_⟩) (by assumption) ?_
  · intro W hSW; obtain ⟨v0, v2, v3, v7, v8⟩ := hSW.out; go_simp
  simp only [Act.put, List.setIfInBounds_toArray, List.set_cons_zero, List.set_cons_succ]
  refine wpAnyH_take (i := 12) (oi := ⟨some 101, _, _, _, _, _⟩) (v := (.pointer (some ⟨P, 1, none⟩))) rfl (by kernel_rfl) (by kernel_rfl) (by kernel_rfl) (fun _ _ _ h => h) (Or.inl ⟨by rfl, ?_⟩) (by assumption) ?_
  · intro W hSW; obtain ⟨v0, v2, v3, v7, v8⟩ := hSW.out; go_simp
  simp only [Act.put, List.setIfInBounds_toArray, List.set_cons_zero, List.set_cons_succ]
  refine wpAnyH_take (i := 13) (oi := ⟨some 102, _, _, _, _, _⟩) (v := (.pointer (some ⟨gr, 0, none⟩))) rfl (by kernel_rfl) (by kernel_rfl) (by kernel_rfl) (fun _ _ _ h => h) (Or.inl ⟨by rfl, ?_⟩) (by assumption) ?_
  · intro W hSW; obtain ⟨v0, v2, v3, v7, v8⟩ := hSW.out; go_simp
  simp only [Act.put, List.setIfInBounds_toArray, List.set_cons_zero, List.set_cons_succ]
  refine wpAnyH_take (i := 14) (oi := ⟨some 103, _, _, _, _, _⟩) (v := (.pointer (some ⟨w.heap.size, 2, none⟩))) rfl (by kernel_rfl) (by kernel_rfl) (by kernel_rfl) (fun _ _ _ h => h) (Or.inl ⟨by rfl, ?_⟩) (by assumption) ?_
  · intro W hSW; obtain ⟨v0, v2, v3, v7, v8⟩ := hSW.out; go_simp
  simp only [Act.put, List.setIfInBounds_toArray, List.set_cons_zero, List.set_cons_succ]
  refine wpAnyH_take (i := 15) (oi := ⟨some 104, _, _, _, _, _⟩) (v := (.int .i64 o.i)) rfl (by kernel_rfl) (by kernel_rfl) (by kernel_rfl) (fun _ _ _ h => h) (Or.inl ⟨by rfl, ?_⟩) (by assumption) ?_
  · intro W hSW; obtain ⟨v0, v2, v3, v7, v8⟩ := hSW.out; go_simp
  simp only [Act.put, List.setIfInBounds_toArray, List.set_cons_zero, List.set_cons_succ]
  refine wpAnyH_take (i := 16) (oi := ⟨some 105, _, _, _, _, _⟩) (v := (.pointer (some ⟨w.heap.size, 3, none⟩))) rfl (by kernel_rfl) (by kernel_rfl) (by kernel_rfl) (fun _ _ _ h => h) (Or.inl ⟨by rfl, ?_⟩) (by assumption) ?_
  · intro W hSW; obtain ⟨v0, v2, v3, v7, v8⟩ := hSW.out; go_simp
  simp only [Act.put, List.setIfInBounds_toArray, List.set_cons_zero, List.set_cons_succ]
  refine wpAnyH_take (i := 17) (oi := ⟨some 106, _, _, _, _, _⟩) (v := (.int .i64 o.j)) rfl (by kernel_rfl) (by kernel_rfl) (by kernel_rfl) (fun _ _ _ h => h) (Or.inl ⟨by rfl, ?_⟩) (by assumption) ?_
  · intro W hSW; obtain ⟨v0, v2, v3, v7, v8⟩ := hSW.out; go_simp
  simp only [Act.put, List.setIfInBounds_toArray, List.set_cons_zero, List.set_cons_succ]
  refine wpAnyH_ready (rs := [8]) (by kernel_rfl) (by simp) ?_
  refine AllReadyH.cons rfl (fun KK hKK => ?_) AllReadyH.nil
  go_simp
  refine HC.out.mono ?_
  clear HC
  rintro _ w6 hh
  have HN := hid hh.nx
  have hS6 := hh.sp
  have hr6 := hh.ret
  clear hh
  subst hr6
  try dsimp only
  refine hKK.out _ _ hS6 (fun hHeld => ?_)
  clear hKK KK
  refine wpAnyH_ready (rs := [9]) (by kernel_rfl) (by simp) ?_
  refine AllReadyH.cons rfl (fun KK hKK => ?_) AllReadyH.nil
  go_simp
  refine (num_ok _ w6).mono ?_
  rintro _ w7 ⟨rfl, hw7⟩
  rw [hw7]
  clear hw7
  try dsimp only
  refine hKK.out _ _ hS6 (fun hHeld => ?_)
  clear hKK KK
  refine wpAnyH_ready (rs := [18]) (by kernel_rfl) (by simp) ?_
  refine AllReadyH.cons rfl (fun KK hKK => ?_) AllReadyH.nil
  go_simp
  refine HN.out.mono ?_
  clear HN
  rintro _ w8 hh
  obtain ⟨rfl, hS8, hQ⟩ := hh
  have HQ := hid hQ
  clear hQ hS6
  try dsimp only
  refine hKK.out _ _ hS8 (fun hHeld => ?_)
  clear hKK KK
  refine wpAnyH_take (i := 19) (oi := ⟨some 108, _, _, _, _, _⟩) (v := (.bool true)) rfl (by kernel_rfl) (by kernel_rfl) (by kernel_rfl) (fun _ _ _ h => h) (Or.inl ⟨by rfl, ?_⟩) (by assumption) ?_
  · intro W hSW; go_simp
  simp only [Act.put, List.setIfInBounds_toArray, List.set_cons_zero, List.set_cons_succ]
  refine wpAnyH_take (i := 20) (oi := ⟨some 4, _, _, _, _, _⟩) (v := (.bool true)) rfl (by kernel_rfl) (by kernel_rfl) (by kernel_rfl) (fun _ _ _ h => h) (Or.inl ⟨by rfl, ?_⟩) (by assumption) ?_
  · intro W hSW; go_simp
  simp only [Act.put, List.setIfInBounds_toArray, List.set_cons_zero, List.set_cons_succ]
  refine wpAnyH_done (by kernel_rfl) ?_ _
  go_wp2
  go_ret
  exact ⟨rfl, HQ.out⟩
theorem plays_drop {wa w : World} {P : Nat} {p : Px} {who : Nat → Option Nat} {K : Nat} (h : PQ wa w P p who p.x.cof) (hi : PI p K) (hK : K ≤ 100000) (o : OpC) (hk : o.k = 3) : Calls Try.prog 25 #[.pointer (some ⟨P, 0, none⟩), o.agg] w fun r w' => r = .returned (.bool true) ∧ PlPost wa w w' P p who K := by
  have m := (h.mid0.alloc (boxO o)).drew
  refine walk_drop (gb := p.b.g) (gr := p.r.g) (n := (opDrop p.xs p.c o.i).code) hk (m.sp (by simp)) ?_
  refine (dropP m.q o.i hi.cb (by omega)).mono (fun r w' hh => ?_)
  refine m.two (by simp) hi hh (opDrop_cb hi.cb) (fun p' who' hq h1 h2 h3 h4 => ?_)
  have := rdropP (K := K) hq o.i (by rw [h2]; exact hi.cb) (by omega)
  rw [h1, h2, h4] at this
  exact this
theorem plays_dbl {wa w : World} {P : Nat} {p : Px} {who : Nat → Option Nat} {K : Nat} (h : PQ wa w P p who p.x.cof) (hi : PI p K) (hK : K ≤ 100000) (o : OpC) (hk : o.k = 4) : Calls Try.prog 25 #[.pointer (some ⟨P, 0, none⟩), o.agg] w fun r w' => r = .returned (.bool true) ∧ PlPost wa w w' P p who K := by
  have m := (h.mid0.alloc (boxO o)).drew
  refine walk_dbl (gb := p.b.g) (gr := p.r.g) (n := (opDbl p.room p.xs p.c o.i).code) hk (m.sp (by simp)) ?_
  refine (doubleP m.q o.i hi.cb (by omega) hi.room).mono (fun r w' hh => ?_)
  refine m.two (by simp) hi hh (opDbl_cb hi.cb) (fun p' who' hq h1 h2 h3 h4 => ?_)
  have := rdoubleP (K := K) hq o.i (by rw [h2]; exact hi.cb) (by omega) (by rw [h3]; exact hi.room)
  rw [h1, h2, h3, h4] at this
  exact this
theorem plays_mov {wa w : World} {P : Nat} {p : Px} {who : Nat → Option Nat} {K : Nat} (h : PQ wa w P p who p.x.cof) (hi : PI p K) (hK : K ≤ 100000) (o : OpC) (hk : o.k = 5) : Calls Try.prog 25 #[.pointer (some ⟨P, 0, none⟩), o.agg] w fun r w' => r = .returned (.bool true) ∧ PlPost wa w w' P p who K := by
  have m := (h.mid0.alloc (boxO o)).drew
  refine walk_mov (gb := p.b.g) (gr := p.r.g) (n := (opMov p.xs p.c o.i o.j).code) hk (m.sp (by simp)) ?_
  refine (moveP m.q o.i o.j).mono (fun r w' hh => ?_)
  refine m.two (by simp) hi hh (opMov_cb hi.cb) (fun p' who' hq h1 h2 h3 h4 => ?_)
  have := rmoveP hq o.i o.j
  rw [h1, h2, h4] at this
  exact this
end Go.Proofs.Ytiakcfjbnlibfaa.nt
