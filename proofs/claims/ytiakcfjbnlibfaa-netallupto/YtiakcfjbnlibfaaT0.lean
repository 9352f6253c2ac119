import Derived.Test.YtiakcfjbnlibfaaU2
namespace Go.Proofs.Ytiakcfjbnlibfaa.nt
open Go.ChangeShapes Go.WideShapes Go.ChangeAt Go.RowKit
set_option linter.unusedVariables false
set_option linter.unusedSimpArgs false
/-- what a call does to a bag, and what it answers -/
structure OpR where
  code : Int
  xs : List Tx
  c : Cn
def opDrop (xs : List Tx) (c : Cn) (i : Int) : OpR := if 0 ≤ i ∧ i < (xs.length : Int) then ⟨0, xs.eraseIdx i.toNat, { c with c3 := c.c3 + 1 }⟩ else ⟨100, xs, c⟩
def opDbl (room : Int) (xs : List Tx) (c : Cn) (i : Int) : OpR := if 0 ≤ i ∧ i < (xs.length : Int) then (if room ≤ (xs.length : Int) then ⟨101, xs, c⟩ else ⟨0, xs ++ [gT xs i.toNat], { c with c4 := c.c4 + 1 }⟩) else ⟨100, xs, c⟩
def opMov (xs : List Tx) (c : Cn) (i j : Int) : OpR := if (0 ≤ i ∧ i < (xs.length : Int)) ∧ (0 ≤ j ∧ j < (xs.length : Int)) then ⟨0, mvD Tx.z i.toNat j.toNat xs, c⟩ else ⟨100, xs, c⟩
/-- behind a call on the program's bag -/
structure BP (wa w w' : World) (r : Ending) (P : Nat) (p : Px) (who : Nat → Option Nat) (v : Value) (xs' : List Tx) (c' : Cn) : Prop where
  ex : ∃ who' d, r = .returned v ∧ PQ wa w' P { p with b := d, xs := xs', c := c' } who' p.x.cof ∧ Stp w w' who who' none ∧ d.g = p.b.g
/-- behind a call on the document's bag -/
structure RP (wa w w' : World) (r : Ending) (P : Nat) (p : Px) (who : Nat → Option Nat) (v : Value) (xs' : List Tx) (c' : Cn) : Prop where
  ex : ∃ who' d, r = .returned v ∧ PQ wa w' P { p with r := d, ys := xs', e := c' } who' p.x.cof ∧ Stp w w' who who' none ∧ d.g = p.r.g
theorem PQ.bp {wa w w' : World} {P : Nat} {p : Px} {who : Nat → Option Nat} {X : List Nat} {v : Value} (h : PQ wa w P p who p.x.cof) (a : Apart X w w') (hX : ∀ k ∈ X, who k = some 1) (s : Sl) (ls : List LM) (xs : List Tx) (c : Cn) (b : Bag wa w' p.b.g p.room s ls xs c)
    (hs : ∀ k, s.v.ownBlock = some k → who k = some 1 ∨ w.heap.size ≤ k) (hl : ∀ l ∈ ls, ∀ k, l.d.v.ownBlock = some k → who k = some 1 ∨ w.heap.size ≤ k) : BP wa w w' (.returned v) P p who v xs c := by
  have h2 := h.bag a hX true ⟨p.b.g, s, ls⟩ xs c rfl b (fun k hk => (hs k hk).imp id (fun e => ⟨rfl, e⟩)) (fun j hj k hk => by
    have hj' : j < ls.length := by rw [b.len]; exact hj
    exact (hl _ (by dsimp only; rw [gL_eq _ _ hj']; exact List.getElem_mem _) k hk).imp id (fun e => ⟨rfl, e⟩))
  refine ⟨_, _, rfl, h2, ⟨fun k s e => whoQ_old (fun k s hk => h.sm.own k s hk) e, fun k s e => ?_, _, a, fun k hk => ?_⟩, rfl⟩
  · rcases whoQ_new e with ⟨_, e, _⟩ | e
    · exact .inr (.inl e)
    · exact .inl e
  · left; rw [hX k hk]; simp
theorem PQ.rp {wa w w' : World} {P : Nat} {p : Px} {who : Nat → Option Nat} {X : List Nat} {v : Value} (h : PQ wa w P p who p.x.cof) (a : Apart X w w') (hX : ∀ k ∈ X, who k = some 2) (s : Sl) (ls : List LM) (xs : List Tx) (c : Cn) (b : RB wa w' p.r.g p.room s ls xs c)
    (hs : ∀ k, s.v.ownBlock = some k → who k = some 2 ∨ w.heap.size ≤ k) (hl : ∀ l ∈ ls, ∀ k, l.d.v.ownBlock = some k → who k = some 2 ∨ w.heap.size ≤ k) : RP wa w w' (.returned v) P p who v xs c := by
  have h2 := h.ref a hX true ⟨p.r.g, s, ls⟩ xs c rfl b (fun k hk => (hs k hk).imp id (fun e => ⟨rfl, e⟩)) (fun j hj k hk => by
    have hj' : j < ls.length := by rw [b.len]; exact hj
    exact (hl _ (by dsimp only; rw [gL_eq _ _ hj']; exact List.getElem_mem _) k hk).imp id (fun e => ⟨rfl, e⟩))
  refine ⟨_, _, rfl, h2, ⟨fun k s e => whoQ_old (fun k s hk => h.sm.own k s hk) e, fun k s e => ?_, _, a, fun k hk => ?_⟩, rfl⟩
  · rcases whoQ_new e with ⟨_, e, _⟩ | e
    · exact .inr (.inl e)
    · exact .inl e
  · left; rw [hX k hk]; simp
theorem PQ.bp0 {wa w w' : World} {P : Nat} {p : Px} {who : Nat → Option Nat} {v : Value} (h : PQ wa w P p who p.x.cof) (a : Apart [] w w') : BP wa w w' (.returned v) P p who v p.xs p.c := ⟨who, p.b, rfl, h.kept0 a, Stp.ap0 a, rfl⟩
theorem PQ.rp0 {wa w w' : World} {P : Nat} {p : Px} {who : Nat → Option Nat} {v : Value} (h : PQ wa w P p who p.x.cof) (a : Apart [] w w') : RP wa w w' (.returned v) P p who v p.ys p.e := ⟨who, p.r, rfl, h.kept0 a, Stp.ap0 a, rfl⟩
theorem Bt.mem {wa w : World} {who : Nat → Option Nat} {d : Bd} {room : Int} {xs : List Tx} {c : Cn} (h : Bt wa w who d room xs c) : ∀ l ∈ d.ls, ∀ k, l.d.v.ownBlock = some k → who k = some 1 := fun l hl k hk => by
  obtain ⟨j, hj, rfl⟩ := List.getElem_of_mem hl
  exact h.wL j (by rw [← h.b.len]; exact hj) k (by rw [gL_eq _ _ hj]; exact hk)
theorem Rt.mem {wa w : World} {who : Nat → Option Nat} {d : Bd} {room : Int} {xs : List Tx} {c : Cn} (h : Rt wa w who d room xs c) : ∀ l ∈ d.ls, ∀ k, l.d.v.ownBlock = some k → who k = some 2 := fun l hl k hk => by
  obtain ⟨j, hj, rfl⟩ := List.getElem_of_mem hl
  exact h.wL j (by rw [← h.b.len]; exact hj) k (by rw [gL_eq _ _ hj]; exact hk)
theorem mem_mvD {l : List LM} {i j : Nat} (hi : i < l.length) {x : LM} (h : x ∈ mvD LM.z i j l) : x ∈ l := by
  unfold mvD at h
  have hr : ∀ y, y ∈ l.take i ++ l.drop (i + 1) → y ∈ l := fun y hy => by
    rcases List.mem_append.1 hy with hy | hy
    · exact List.mem_of_mem_take hy
    · exact List.mem_of_mem_drop hy
  rcases List.mem_append.1 h with h | h
  · rcases List.mem_append.1 h with h | h
    · exact hr x (List.mem_of_mem_take h)
    · simp [List.getD_eq_getElem?_getD, hi] at h
      rw [h]; exact List.getElem_mem _
  · exact hr x (List.mem_of_mem_drop h)
theorem Bag.here {w0 w : World} {Bg : Nat} {room : Int} {s : Sl} {ls : List LM} {xs : List Tx} {c : Cn} (h : Bag w0 w Bg room s ls xs c) (hn : 0 < s.n) : ∃ G m cq, s = ⟨some ⟨G, 0, none⟩, m + 1, cq⟩ := by
  obtain ⟨G, hG⟩ := h.ptr (by omega)
  exact ⟨G, s.n - 1, s.c, by rw [hG]; simp; omega⟩
theorem dropP {wa w : World} {P : Nat} {p : Px} {who : Nat → Option Nat} {K : Nat} (h : PQ wa w P p who p.x.cof) (i : Int) (hK : Cb p.c K) (hK2 : K ≤ 1000000) :
    Calls Try.prog 21 #[.pointer (some ⟨p.b.g, 0, none⟩), .int .i64 i] w fun r w' => BP wa w w' r P p who (.int .i64 (opDrop p.xs p.c i).code) (opDrop p.xs p.c i).xs (opDrop p.xs p.c i).c := by
  have hxl : p.xs.length = p.b.s.n := h.bt.b.xl
  have hb3 := hK.b3
  by_cases hi : 0 ≤ i ∧ i < (p.xs.length : Int)
  · obtain ⟨G, m, cq, hs⟩ := h.bt.b.here (by omega)
    have hb := h.bt.b
    have hwS := h.bt.wS
    rw [hs] at hb hwS
    have hm : p.xs.length = m + 1 := by rw [hxl, hs]
    obtain ⟨I, rfl⟩ : ∃ I : Nat, i = (I : Int) := ⟨i.toNat, by omega⟩
    refine (drop_ok hb I (by omega) (by omega) (by omega)).mono (fun r w' hh => ?_)
    obtain ⟨rfl, hb', a⟩ := hh
    have e : opDrop p.xs p.c (I : Int) = ⟨0, p.xs.eraseIdx I, { p.c with c3 := p.c.c3 + 1 }⟩ := by unfold opDrop; rw [if_pos hi]; simp
    rw [e]
    refine h.bp a (fun k hk => ?_) _ _ _ _ hb' (fun k hk => .inl (hwS k hk)) (fun l hl k hk => .inl (h.bt.mem l (List.mem_of_mem_eraseIdx hl) k hk))
    simp at hk
    rcases hk with rfl | rfl
    · exact hwS _ rfl
    · exact h.bt.wB
  · refine (drop_bad h.bt.b i (by omega)).mono (fun r w' hh => ?_)
    obtain ⟨rfl, a⟩ := hh
    have e : opDrop p.xs p.c i = ⟨100, p.xs, p.c⟩ := by unfold opDrop; rw [if_neg hi]
    rw [e]
    exact h.bp0 a
theorem rdropP {wa w : World} {P : Nat} {p : Px} {who : Nat → Option Nat} {K : Nat} (h : PQ wa w P p who p.x.cof) (i : Int) (hK : Cb p.e K) (hK2 : K ≤ 1000000) :
    Calls Try.prog 37 #[.pointer (some ⟨p.r.g, 0, none⟩), .int .i64 i] w fun r w' => RP wa w w' r P p who (.int .i64 (opDrop p.ys p.e i).code) (opDrop p.ys p.e i).xs (opDrop p.ys p.e i).c := by
  have hxl : p.ys.length = p.r.s.n := h.rt.b.xl
  have hb3 := hK.b3
  by_cases hi : 0 ≤ i ∧ i < (p.ys.length : Int)
  · obtain ⟨I, rfl⟩ : ∃ I : Nat, i = (I : Int) := ⟨i.toNat, by omega⟩
    refine (rdrop_ok h.rt.b I (by omega) (by omega) (by omega)).mono (fun r w' hh => ?_)
    obtain ⟨rfl, hh⟩ := hh
    obtain ⟨s', hb', a, hs'⟩ := hh.ex
    have e : opDrop p.ys p.e (I : Int) = ⟨0, p.ys.eraseIdx I, { p.e with c3 := p.e.c3 + 1 }⟩ := by unfold opDrop; rw [if_pos hi]; simp
    rw [e]
    exact h.rp a (fun k hk => by simp at hk; subst hk; exact h.rt.wB) _ _ _ _ hb' (fun k hk => .inr (hs' k hk)) (fun l hl k hk => .inl (h.rt.mem l (List.mem_of_mem_eraseIdx hl) k hk))
  · refine (rdrop_bad h.rt.b i (by omega)).mono (fun r w' hh => ?_)
    obtain ⟨rfl, a⟩ := hh
    have e : opDrop p.ys p.e i = ⟨100, p.ys, p.e⟩ := by unfold opDrop; rw [if_neg hi]
    rw [e]
    exact h.rp0 a
theorem moveP {wa w : World} {P : Nat} {p : Px} {who : Nat → Option Nat} (h : PQ wa w P p who p.x.cof) (i j : Int) :
    Calls Try.prog 13 #[.pointer (some ⟨p.b.g, 0, none⟩), .int .i64 i, .int .i64 j] w fun r w' => BP wa w w' r P p who (.int .i64 (opMov p.xs p.c i j).code) (opMov p.xs p.c i j).xs (opMov p.xs p.c i j).c := by
  have hxl : p.xs.length = p.b.s.n := h.bt.b.xl
  by_cases hi : (0 ≤ i ∧ i < (p.xs.length : Int)) ∧ (0 ≤ j ∧ j < (p.xs.length : Int))
  · obtain ⟨G, m, cq, hs⟩ := h.bt.b.here (by omega)
    have hb := h.bt.b
    have hwS := h.bt.wS
    rw [hs] at hb hwS
    have hm : p.xs.length = m + 1 := by rw [hxl, hs]
    obtain ⟨I, rfl⟩ : ∃ I : Nat, i = (I : Int) := ⟨i.toNat, by omega⟩
    obtain ⟨J, rfl⟩ : ∃ J : Nat, j = (J : Int) := ⟨j.toNat, by omega⟩
    refine (move_ok hb I J (by omega) (by omega)).mono (fun r w' hh => ?_)
    obtain ⟨rfl, hb', a⟩ := hh
    have e : opMov p.xs p.c (I : Int) (J : Int) = ⟨0, mvD Tx.z I J p.xs, p.c⟩ := by unfold opMov; rw [if_pos hi]; simp
    rw [e]
    have hll := h.bt.b.len
    exact h.bp a (fun k hk => by simp at hk; subst hk; exact hwS _ rfl) _ _ _ _ hb' (fun k hk => .inl (hwS k hk)) (fun l hl k hk => .inl (h.bt.mem l (mem_mvD (by omega) hl) k hk))
  · refine (move_bad h.bt.b i j (by omega)).mono (fun r w' hh => ?_)
    obtain ⟨rfl, a⟩ := hh
    have e : opMov p.xs p.c i j = ⟨100, p.xs, p.c⟩ := by unfold opMov; rw [if_neg hi]
    rw [e]
    exact h.bp0 a
theorem rmoveP {wa w : World} {P : Nat} {p : Px} {who : Nat → Option Nat} (h : PQ wa w P p who p.x.cof) (i j : Int) :
    Calls Try.prog 39 #[.pointer (some ⟨p.r.g, 0, none⟩), .int .i64 i, .int .i64 j] w fun r w' => RP wa w w' r P p who (.int .i64 (opMov p.ys p.e i j).code) (opMov p.ys p.e i j).xs (opMov p.ys p.e i j).c := by
  have hxl : p.ys.length = p.r.s.n := h.rt.b.xl
  by_cases hi : (0 ≤ i ∧ i < (p.ys.length : Int)) ∧ (0 ≤ j ∧ j < (p.ys.length : Int))
  · obtain ⟨I, rfl⟩ : ∃ I : Nat, i = (I : Int) := ⟨i.toNat, by omega⟩
    obtain ⟨J, rfl⟩ : ∃ J : Nat, j = (J : Int) := ⟨j.toNat, by omega⟩
    refine (rmove_ok h.rt.b I J (by omega) (by omega)).mono (fun r w' hh => ?_)
    obtain ⟨s', rfl, hb', a, hs'⟩ := hh.ex
    have e : opMov p.ys p.e (I : Int) (J : Int) = ⟨0, mvD Tx.z I J p.ys, p.e⟩ := by unfold opMov; rw [if_pos hi]; simp
    rw [e]
    have hll := h.rt.b.len
    exact h.rp a (fun k hk => by simp at hk; subst hk; exact h.rt.wB) _ _ _ _ hb' (fun k hk => .inr (hs' k hk)) (fun l hl k hk => .inl (h.rt.mem l (mem_mvD (by omega) hl) k hk))
  · refine (rmove_bad h.rt.b i j (by omega)).mono (fun r w' hh => ?_)
    obtain ⟨rfl, a⟩ := hh
    have e : opMov p.ys p.e i j = ⟨100, p.ys, p.e⟩ := by unfold opMov; rw [if_neg hi]
    rw [e]
    exact h.rp0 a
theorem doubleP {wa w : World} {P : Nat} {p : Px} {who : Nat → Option Nat} {K : Nat} (h : PQ wa w P p who p.x.cof) (i : Int) (hK : Cb p.c K) (hK2 : K ≤ 1000000) (hr : p.room ≤ 256) :
    Calls Try.prog 20 #[.pointer (some ⟨p.b.g, 0, none⟩), .int .i64 i] w fun r w' => BP wa w w' r P p who (.int .i64 (opDbl p.room p.xs p.c i).code) (opDbl p.room p.xs p.c i).xs (opDbl p.room p.xs p.c i).c := by
  have hxl : p.xs.length = p.b.s.n := h.bt.b.xl
  have hb4 := hK.b4
  by_cases hi : 0 ≤ i ∧ i < (p.xs.length : Int)
  · by_cases hf : p.room ≤ (p.xs.length : Int)
    · refine (double_full h.bt.b i (by omega) (by omega)).mono (fun r w' hh => ?_)
      obtain ⟨rfl, a⟩ := hh
      have e : opDbl p.room p.xs p.c i = ⟨101, p.xs, p.c⟩ := by unfold opDbl; rw [if_pos hi, if_pos hf]
      rw [e]
      exact h.bp0 a
    · obtain ⟨G, m, cq, hs⟩ := h.bt.b.here (by omega)
      have hb := h.bt.b
      have hwS := h.bt.wS
      rw [hs] at hb hwS
      have hm : p.xs.length = m + 1 := by rw [hxl, hs]
      obtain ⟨I, rfl⟩ : ∃ I : Nat, i = (I : Int) := ⟨i.toNat, by omega⟩
      refine (double_ok2 hb I (by omega) (by omega) (by omega) (by omega) (by omega)).mono (fun r w' hh => ?_)
      obtain ⟨s', l2, rfl, hb', a, hs', hl2⟩ := hh.ex
      have e : opDbl p.room p.xs p.c (I : Int) = ⟨0, p.xs ++ [gT p.xs I], { p.c with c4 := p.c.c4 + 1 }⟩ := by unfold opDbl; rw [if_pos hi, if_neg hf]; simp
      rw [e]
      refine h.bp a (fun k hk => ?_) _ _ _ _ hb' (fun k hk => (hs' k hk).imp (fun e => hwS k e) id) (fun l hl k hk => ?_)
      · simp at hk
        rcases hk with rfl | hk
        · exact h.bt.wB
        · exact hwS k hk
      · rcases List.mem_append.1 hl with hl | hl
        · exact .inl (h.bt.mem l hl k hk)
        · simp at hl; subst hl; exact .inr (hl2 k hk)
  · refine (double_bad h.bt.b i (by omega)).mono (fun r w' hh => ?_)
    obtain ⟨rfl, a⟩ := hh
    have e : opDbl p.room p.xs p.c i = ⟨100, p.xs, p.c⟩ := by unfold opDbl; rw [if_neg hi]
    rw [e]
    exact h.bp0 a
theorem rdoubleP {wa w : World} {P : Nat} {p : Px} {who : Nat → Option Nat} {K : Nat} (h : PQ wa w P p who p.x.cof) (i : Int) (hK : Cb p.e K) (hK2 : K ≤ 1000000) (hr : p.room ≤ 256) :
    Calls Try.prog 38 #[.pointer (some ⟨p.r.g, 0, none⟩), .int .i64 i] w fun r w' => RP wa w w' r P p who (.int .i64 (opDbl p.room p.ys p.e i).code) (opDbl p.room p.ys p.e i).xs (opDbl p.room p.ys p.e i).c := by
  have hxl : p.ys.length = p.r.s.n := h.rt.b.xl
  have hb4 := hK.b4
  by_cases hi : 0 ≤ i ∧ i < (p.ys.length : Int)
  · obtain ⟨I, rfl⟩ : ∃ I : Nat, i = (I : Int) := ⟨i.toNat, by omega⟩
    by_cases hf : p.room ≤ (p.ys.length : Int)
    · refine (rdouble_full h.rt.b I (by omega) (by omega)).mono (fun r w' hh => ?_)
      obtain ⟨rfl, a⟩ := hh
      have e : opDbl p.room p.ys p.e (I : Int) = ⟨101, p.ys, p.e⟩ := by unfold opDbl; rw [if_pos hi, if_pos hf]
      rw [e]
      exact h.rp0 a
    · refine (rdouble_ok h.rt.b I (by omega) (by omega) (by omega) (by omega) (by omega)).mono (fun r w' hh => ?_)
      obtain ⟨s', l2, rfl, hb', a, hs', hl2⟩ := hh.ex
      have e : opDbl p.room p.ys p.e (I : Int) = ⟨0, p.ys ++ [gT p.ys I], { p.e with c4 := p.e.c4 + 1 }⟩ := by unfold opDbl; rw [if_pos hi, if_neg hf]; simp
      rw [e]
      refine h.rp a (fun k hk => ?_) _ _ _ _ hb' (fun k hk => (hs' k hk).imp (fun e => h.rt.wS k e) id) (fun l hl k hk => ?_)
      · simp at hk
        rcases hk with rfl | hk
        · exact h.rt.wB
        · exact h.rt.wS k hk
      · rcases List.mem_append.1 hl with hl | hl
        · exact .inl (h.rt.mem l hl k hk)
        · simp at hl; subst hl; exact .inr (hl2 k hk)
  · refine (rdouble_bad h.rt.b i (by omega)).mono (fun r w' hh => ?_)
    obtain ⟨rfl, a⟩ := hh
    have e : opDbl p.room p.ys p.e i = ⟨100, p.ys, p.e⟩ := by unfold opDbl; rw [if_neg hi]
    rw [e]
    exact h.rp0 a
/-- Deliver: the letter, its error, what is left -/
def opDel (xs : List Tx) (c : Cn) (i : Int) : OpR := if 0 ≤ i ∧ i < (xs.length : Int) then ⟨0, xs.eraseIdx i.toNat, { c with c2 := c.c2 + 1 }⟩ else ⟨100, xs, c⟩
def opAt (xs : List Tx) (i : Int) : Tx := if 0 ≤ i ∧ i < (xs.length : Int) then gT xs i.toNat else Tx.z
structure DP (wa w w' : World) (r : Ending) (P : Nat) (p : Px) (who : Nat → Option Nat) (x : Tx) (o : OpR) : Prop where
  ex : ∃ l, BP wa w w' r P p who (.tuple #[LM.agg l, .int .i64 o.code]) o.xs o.c ∧ OwnL w' l x ∧ ∀ q, l.d.v.ownBlock = some q → w.heap.size ≤ q
structure RDP (wa w w' : World) (r : Ending) (P : Nat) (p : Px) (who : Nat → Option Nat) (x : Tx) (o : OpR) : Prop where
  ex : ∃ l, RP wa w w' r P p who (.tuple #[LM.agg l, .int .i64 o.code]) o.xs o.c ∧ ReadsL w' l x
theorem own_z (w : World) : OwnL w LM.z Tx.z := ⟨rfl, rfl, ⟨rfl, .inl ⟨rfl, rfl⟩⟩, rfl, Nat.zero_le _, by simp [Tx.z]⟩
theorem deliverP {wa w : World} {P : Nat} {p : Px} {who : Nat → Option Nat} {K : Nat} (h : PQ wa w P p who p.x.cof) (i : Int) (hK : Cb p.c K) (hK2 : K ≤ 1000000) :
    Calls Try.prog 17 #[.pointer (some ⟨p.b.g, 0, none⟩), .int .i64 i] w fun r w' => DP wa w w' r P p who (opAt p.xs i) (opDel p.xs p.c i) := by
  have hxl : p.xs.length = p.b.s.n := h.bt.b.xl
  have hb2 := hK.b2
  by_cases hi : 0 ≤ i ∧ i < (p.xs.length : Int)
  · obtain ⟨G, m, cq, hs⟩ := h.bt.b.here (by omega)
    have hb := h.bt.b
    have hwS := h.bt.wS
    rw [hs] at hb hwS
    have hm : p.xs.length = m + 1 := by rw [hxl, hs]
    obtain ⟨I, rfl⟩ : ∃ I : Nat, i = (I : Int) := ⟨i.toNat, by omega⟩
    refine (deliver_ok hb I (by omega) (by omega) (by omega)).mono (fun r w' hh => ?_)
    obtain ⟨l, rfl, hb', hl, hq, a⟩ := hh.ex
    have e : opDel p.xs p.c (I : Int) = ⟨0, p.xs.eraseIdx I, { p.c with c2 := p.c.c2 + 1 }⟩ := by unfold opDel; rw [if_pos hi]; simp
    have e2 : opAt p.xs (I : Int) = gT p.xs I := by unfold opAt; rw [if_pos hi]; simp
    rw [e, e2]
    refine ⟨l, h.bp a (fun k hk => ?_) _ _ _ _ hb' (fun k hk => .inl (hwS k hk)) (fun l hl k hk => .inl (h.bt.mem l (List.mem_of_mem_eraseIdx hl) k hk)), hl, hq⟩
    simp at hk
    rcases hk with rfl | rfl
    · exact hwS _ rfl
    · exact h.bt.wB
  · refine (deliver_bad h.bt.b i (by omega)).mono (fun r w' hh => ?_)
    obtain ⟨rfl, a⟩ := hh
    have e : opDel p.xs p.c i = ⟨100, p.xs, p.c⟩ := by unfold opDel; rw [if_neg hi]
    have e2 : opAt p.xs i = Tx.z := by unfold opAt; rw [if_neg hi]
    rw [e, e2]
    exact ⟨LM.z, h.bp0 a, own_z _, fun q hq => by cases hq⟩
theorem rdeliverP {wa w : World} {P : Nat} {p : Px} {who : Nat → Option Nat} {K : Nat} (h : PQ wa w P p who p.x.cof) (i : Int) (hK : Cb p.e K) (hK2 : K ≤ 1000000) :
    Calls Try.prog 35 #[.pointer (some ⟨p.r.g, 0, none⟩), .int .i64 i] w fun r w' => RDP wa w w' r P p who (opAt p.ys i) (opDel p.ys p.e i) := by
  have hxl : p.ys.length = p.r.s.n := h.rt.b.xl
  have hb2 := hK.b2
  by_cases hi : 0 ≤ i ∧ i < (p.ys.length : Int)
  · obtain ⟨I, rfl⟩ : ∃ I : Nat, i = (I : Int) := ⟨i.toNat, by omega⟩
    refine (rdeliver_ok h.rt.b I (by omega) (by omega) (by omega)).mono (fun r w' hh => ?_)
    obtain ⟨l, rfl, hl, ho⟩ := hh.ex
    obtain ⟨s', hb', a, hs'⟩ := ho.ex
    have e : opDel p.ys p.e (I : Int) = ⟨0, p.ys.eraseIdx I, { p.e with c2 := p.e.c2 + 1 }⟩ := by unfold opDel; rw [if_pos hi]; simp
    have e2 : opAt p.ys (I : Int) = gT p.ys I := by unfold opAt; rw [if_pos hi]; simp
    rw [e, e2]
    exact ⟨l, h.rp a (fun k hk => by simp at hk; subst hk; exact h.rt.wB) _ _ _ _ hb' (fun k hk => .inr (hs' k hk)) (fun l hl k hk => .inl (h.rt.mem l (List.mem_of_mem_eraseIdx hl) k hk)), hl⟩
  · refine (rdeliver_bad h.rt.b i (by omega)).mono (fun r w' hh => ?_)
    obtain ⟨rfl, a⟩ := hh
    have e : opDel p.ys p.e i = ⟨100, p.ys, p.e⟩ := by unfold opDel; rw [if_neg hi]
    have e2 : opAt p.ys i = Tx.z := by unfold opAt; rw [if_neg hi]
    rw [e, e2]
    exact ⟨LM.z, h.rp0 a, (own_z _).reads⟩
def opSee (xs : List Tx) (c : Cn) (i : Int) : OpR := ⟨if 0 ≤ i ∧ i < (xs.length : Int) then 0 else 100, xs, c⟩
theorem atP {wa w : World} {P : Nat} {p : Px} {who : Nat → Option Nat} (h : PQ wa w P p who p.x.cof) (i : Int) :
    Calls Try.prog 15 #[.pointer (some ⟨p.b.g, 0, none⟩), .int .i64 i] w fun r w' => DP wa w w' r P p who (opAt p.xs i) (opSee p.xs p.c i) := by
  have hxl : p.xs.length = p.b.s.n := h.bt.b.xl
  by_cases hi : 0 ≤ i ∧ i < (p.xs.length : Int)
  · obtain ⟨I, rfl⟩ : ∃ I : Nat, i = (I : Int) := ⟨i.toNat, by omega⟩
    refine (at_ok h.bt.b I (by omega)).mono (fun r w' hh => ?_)
    obtain ⟨l, rfl, hl⟩ := hh
    have e : opSee p.xs p.c (I : Int) = ⟨0, p.xs, p.c⟩ := by unfold opSee; rw [if_pos hi]
    have e2 : opAt p.xs (I : Int) = gT p.xs I := by unfold opAt; rw [if_pos hi]; simp
    rw [e, e2]
    exact ⟨l, h.bp0 hl.d.ap, ⟨hl.f, hl.t, hl.d.own, hl.dn, hl.dl, hl.db⟩, fun q hq => hl.d.new q hq⟩
  · refine (at_bad h.bt.b i (by omega)).mono (fun r w' hh => ?_)
    obtain ⟨rfl, a⟩ := hh
    have e : opSee p.xs p.c i = ⟨100, p.xs, p.c⟩ := by unfold opSee; rw [if_neg hi]
    have e2 : opAt p.xs i = Tx.z := by unfold opAt; rw [if_neg hi]
    rw [e, e2]
    exact ⟨LM.z, h.bp0 a, own_z _, fun q hq => by cases hq⟩
theorem ratP {wa w : World} {P : Nat} {p : Px} {who : Nat → Option Nat} (h : PQ wa w P p who p.x.cof) (i : Int) :
    Calls Try.prog 40 #[.pointer (some ⟨p.r.g, 0, none⟩), .int .i64 i] w fun r w' => RDP wa w w' r P p who (opAt p.ys i) (opSee p.ys p.e i) := by
  have hxl : p.ys.length = p.r.s.n := h.rt.b.xl
  by_cases hi : 0 ≤ i ∧ i < (p.ys.length : Int)
  · obtain ⟨I, rfl⟩ : ∃ I : Nat, i = (I : Int) := ⟨i.toNat, by omega⟩
    refine (rat_ok h.rt.b I (by omega)).mono (fun r w' hh => ?_)
    obtain ⟨l, rfl, hl⟩ := hh
    have e : opSee p.ys p.e (I : Int) = ⟨0, p.ys, p.e⟩ := by unfold opSee; rw [if_pos hi]
    have e2 : opAt p.ys (I : Int) = gT p.ys I := by unfold opAt; rw [if_pos hi]; simp
    rw [e, e2]
    have ho : OwnL w' l (gT p.ys I) := ⟨hl.f, hl.t, hl.d.own, hl.dn, hl.dl, hl.db⟩
    exact ⟨l, h.rp0 hl.d.ap, ho.reads⟩
  · refine (rat_bad h.rt.b i (by omega)).mono (fun r w' hh => ?_)
    obtain ⟨rfl, a⟩ := hh
    have e : opSee p.ys p.e i = ⟨100, p.ys, p.e⟩ := by unfold opSee; rw [if_neg hi]
    have e2 : opAt p.ys i = Tx.z := by unfold opAt; rw [if_neg hi]
    rw [e, e2]
    exact ⟨LM.z, h.rp0 a, (own_z _).reads⟩
end Go.Proofs.Ytiakcfjbnlibfaa.nt
