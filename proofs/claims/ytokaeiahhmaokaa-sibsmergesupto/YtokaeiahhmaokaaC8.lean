import Derived.Test.YtokaeiahhmaokaaC6b
namespace Go.Proofs.Ytokaeiahhmaokaa.ds
open Go.ChangeShapes Go.WideShapes Go.ChangeAt Go.RowKit Go.Sort
set_option linter.unusedVariables false
set_option linter.unusedSimpArgs false
/-- blocks ahead of lo and from hi on are as they were -/
structure Fr (lo hi : Nat) (w w' : World) : Prop where
  os : w'.os = w.os
  tape : w'.tape = w.tape
  output : w'.output = w.output
  size : w.heap.size ≤ w'.heap.size
  block : ∀ k, k < w.heap.size → (k < lo ∨ hi ≤ k) → w'.heap[k]? = w.heap[k]?
theorem Fr.refl (lo hi : Nat) (w : World) : Fr lo hi w w := ⟨rfl, rfl, rfl, Nat.le_refl _, fun _ _ _ => rfl⟩
theorem Fr.trans {lo hi : Nat} {a b c : World} (h : Fr lo hi a b) (k : Fr lo hi b c) : Fr lo hi a c :=
  ⟨k.os.trans h.os, k.tape.trans h.tape, k.output.trans h.output, Nat.le_trans h.size k.size, fun i hi hx => (k.block i (Nat.lt_of_lt_of_le hi h.size) hx).trans (h.block i hi hx)⟩
theorem Apart.fr {X : List Nat} {a b : World} (h : Apart X a b) {lo hi : Nat} (hX : ∀ x ∈ X, lo ≤ x ∧ x < hi) : Fr lo hi a b :=
  ⟨h.os, h.tape, h.output, h.size, fun k hk hx => h.block k hk (fun m => by have := hX k m; omega)⟩
theorem Apart.fr0 {a b : World} (h : Apart [] a b) (lo hi : Nat) : Fr lo hi a b := h.fr (by simp)
theorem own_fr {w w' : World} {base : Nat} {e : TypeId} {size : Nat} {v : Value} {n : Nat} {xs : List Value} {lo hi : Nat} (h : w.ownsRow base e size v n xs) (a : Fr lo hi w w') (hx : ∀ k, v.ownBlock = some k → k < lo ∨ hi ≤ k) : w'.ownsRow base e size v n xs := by
  obtain ⟨hl, ⟨hv, hz⟩ | ⟨g, cap, cur, rfl, hb, hr, hrest⟩⟩ := h
  · exact ⟨hl, .inl ⟨hv, hz⟩⟩
  · exact ⟨hl, .inr ⟨g, cap, cur, rfl, hb, (a.block g (lt_of_heap hr) (hx g rfl)).trans hr, hrest⟩⟩
theorem One.fr {w w' : World} {e : E} {v x : Sl} {r : Wr} {lo hi : Nat} (h : One w e v x r) (a : Fr lo hi w w') (hv : ∀ k, v.v.ownBlock = some k → k < lo ∨ hi ≤ k) (hx : ∀ k, x.v.ownBlock = some k → k < lo ∨ hi ≤ k) : One w' e v x r :=
  { h with vo := own_fr h.vo a hv, xo := own_fr h.xo a hx }
/-- what is lent stays where other memory was written -/
theorem Lt.fr {lo hi lo' hi' : Nat} {w w' : World} {LB G c : Nat} {vv xx : Sl} {fs : List E} {vs xs : List Sl} {rs : List Wr} {N : Nat} (h : Lt lo hi w LB G c vv xx fs vs xs rs N) (a : Fr lo' hi' w w') (ho : hi ≤ lo' ∨ hi' ≤ lo) : Lt lo hi w' LB G c vv xx fs vs xs rs N :=
  { h with
    blk := (a.block LB (lt_of_heap h.blk) (by have := h.rLB; omega)).trans h.blk
    list := own_fr h.list a (fun k hk => by simp [Value.ownBlock] at hk; subst hk; have := h.rG; omega)
    vals := own_fr h.vals a (fun k hk => by have := h.rvv k hk; omega)
    ctxs := own_fr h.ctxs a (fun k hk => by have := h.rxx k hk; omega)
    one := fun j hj => (h.one j hj).fr a (fun k hk => by have := h.rv j hj k hk; omega) (fun k hk => by have := h.rx j hj k hk; omega)
    sz := Nat.le_trans h.sz a.size }
theorem Lt.kept0 {lo hi : Nat} {w w' : World} {LB G c : Nat} {vv xx : Sl} {fs : List E} {vs xs : List Sl} {rs : List Wr} {N : Nat} (h : Lt lo hi w LB G c vv xx fs vs xs rs N) (a : Apart [] w w') : Lt lo hi w' LB G c vv xx fs vs xs rs N := h.fr (a.fr0 hi hi) (.inl (Nat.le_refl _))
/-- the list that is handed in -/
theorem Lt.LE {lo hi : Nat} {w : World} {LB G c : Nat} {vv xx : Sl} {fs : List E} {vs xs : List Sl} {rs : List Wr} {N : Nat} (h : Lt lo hi w LB G c vv xx fs vs xs rs N) (hN : N ≤ 2000000) : LE w (some ⟨G, 0, none⟩) N fs := by
  refine ⟨?_, h.fl, hN⟩
  have := Rd.own (p := some ⟨G, 0, none⟩) (n := N + 2) (cap := c) h.list
  rw [flatE_append] at this
  exact this.pre
theorem Lt.cap {lo hi : Nat} {w : World} {LB G c : Nat} {vv xx : Sl} {fs : List E} {vs xs : List Sl} {rs : List Wr} {N : Nat} (h : Lt lo hi w LB G c vv xx fs vs xs rs N) : N + 2 ≤ c := by
  obtain ⟨_, ⟨hv, hz⟩ | ⟨g, cap, cur, hv, _, _, hle, _⟩⟩ := h.list
  · omega
  · simp at hv; omega
/-- half way through back: the first i are marks, their memory is written over -/
structure Bk (lo hi : Nat) (w0 w : World) (LB G c : Nat) (vv xx : Sl) (fs : List E) (vs xs : List Sl) (rs : List Wr) (N i : Nat) : Prop where
  blk : w.heap[LB]? = some (.cells #[.slice (some ⟨G, 0, none⟩) (N + 2) c, vv.v, xx.v] 58 (0, 0))
  list : w.ownsRow 0 28 6 (.slice (some ⟨G, 0, none⟩) (N + 2) c) (N + 2) (flatE (List.replicate i markE ++ (fs.drop i ++ [markE, markE])))
  vals : w.ownsRow 0 25 1 vv.v vv.n (vs.map Sl.v)
  ctxs : w.ownsRow 0 26 1 xx.v xx.n (xs.map Sl.v)
  one : ∀ j, i ≤ j → j < N → One w (gE fs j) (gS vs j) (gS xs j) (gR rs j)
  fr : Fr lo hi w0 w
theorem Bk.start {lo hi : Nat} {w : World} {LB G c : Nat} {vv xx : Sl} {fs : List E} {vs xs : List Sl} {rs : List Wr} {N : Nat} (h : Lt lo hi w LB G c vv xx fs vs xs rs N) {w' : World} (a : Apart [] w w') : Bk lo hi w w' LB G c vv xx fs vs xs rs N 0 := by
  have k := h.kept0 a
  exact ⟨k.blk, by simpa using k.list, k.vals, k.ctxs, fun j _ hj => k.one j hj, a.fr0 _ _⟩
theorem gmap (l : List Sl) (i : Nat) (h : i < l.length) : (l.map Sl.v)[i]? = some (gS l i).v := by
  unfold gS
  simp [List.getD_eq_getElem?_getD, h]
theorem flatE_setW (es : List E) (e : E) : ∀ (k : Nat), k < es.length → flatE (es.set k e) = ((((((flatE es).set (k * 6) (.int .i64 e.n)).set (k * 6 + 1) (.int .i64 e.c)).set (k * 6 + 2) (.string e.k)).set (k * 6 + 3) (.bool e.d)).set (k * 6 + 4) e.v.v).set (k * 6 + 5) e.x.v := by
  induction es with
  | nil => intro k hk; simp at hk
  | cons a l ih =>
    intro k hk
    match k with
    | 0 => simp [flatE, E.cs]
    | k + 1 =>
      have := ih k (by simpa using hk)
      rw [show (k + 1) * 6 = k * 6 + 6 from by omega]
      show E.cs a ++ flatE (l.set k e) = _
      rw [this]; rfl
end Go.Proofs.Ytokaeiahhmaokaa.ds
