import Derived.Test.YtiakcfjbnlibfaaN13
namespace Go.Proofs.Ytiakcfjbnlibfaa.nt
open Go.ChangeShapes Go.WideShapes Go.ChangeAt Go.RowKit
set_option linter.unusedVariables false
set_option linter.unusedSimpArgs false
/-- letters that can be read -/
def LL (w : World) (p : Option Addr) (ms : List LM) : Prop := Rd w p (flatL ms)
/-- a list of letters that came in -/
structure InL (w : World) (s : Sl) (ms : List LM) (ys : List Tx) : Prop where
  le : LL w s.p ms
  len : ms.length = s.n
  yl : ys.length = s.n
  ok : s.ok
  rd : ∀ j, j < s.n → ReadsL w (gL ms j) (gT ys j)
/-- what NetMoves and NetOrder hold: the bag, and the list of letters in a row of its own -/
structure MS (wa w : World) (Bg R n cp : Nat) (room : Int) (s : Sl) (ls ms : List LM) (xs ys : List Tx) (c : Cn) : Prop where
  bag : Bag wa w Bg room s ls xs c
  lst : w.ownsRow 0 30 3 (.slice (some ⟨R, 0, none⟩) n cp) n (flatL ms)
  ml : ms.length = n
  yl : ys.length = n
  ne : s.v.ownBlock ≠ some R
  rd : ∀ j, j < n → ReadsL wa (gL ms j) (gT ys j)
theorem MS.kept0 {wa w w' : World} {Bg R n cp : Nat} {room : Int} {s : Sl} {ls ms : List LM} {xs ys : List Tx} {c : Cn} (h : MS wa w Bg R n cp room s ls ms xs ys c) (a : Apart [] w w') : MS wa w' Bg R n cp room s ls ms xs ys c :=
  ⟨h.bag.kept0 a, own_apart h.lst a (by simp), h.ml, h.yl, h.ne, h.rd⟩
theorem MS.neB {wa w : World} {Bg R n cp : Nat} {room : Int} {s : Sl} {ls ms : List LM} {xs ys : List Tx} {c : Cn} (h : MS wa w Bg R n cp room s ls ms xs ys c) : R ≠ Bg := fun e => by
  obtain ⟨cu, t⟩ := own_typ h.lst (k := R) rfl
  have := h.bag.blk
  rw [← e, t] at this
  simp at this
theorem MS.sent {wa w w' : World} {Bg R n cp : Nat} {room : Int} {s s' : Sl} {ls ms ls' : List LM} {xs ys xs' : List Tx} {c c' : Cn} (h : MS wa w Bg R n cp room s ls ms xs ys c) (b : Bag wa w' Bg room s' ls' xs' c') (a : Apart (Bg :: s.v.ownBlock.toList) w w')
    (hn : ∀ k, s'.v.ownBlock = some k → s.v.ownBlock = some k ∨ w.heap.size ≤ k) : MS wa w' Bg R n cp room s' ls' ms xs' ys c' := by
  have hR : R < w.heap.size := (h.lst.lt R rfl).2
  refine ⟨b, own_apart h.lst a (fun k hk m => ?_), h.ml, h.yl, fun e => ?_, h.rd⟩
  · simp [Value.ownBlock] at hk
    subst hk
    simp at m
    rcases m with m | m
    · exact h.neB m
    · exact h.ne m
  · rcases hn R e with q | q
    · exact h.ne q
    · omega
theorem MS.moved {wa w w' : World} {Bg R n cp G m c0 : Nat} {room : Int} {ls ms ls' : List LM} {xs ys xs' : List Tx} {c : Cn} (h : MS wa w Bg R n cp room ⟨some ⟨G, 0, none⟩, m, c0⟩ ls ms xs ys c) (b : Bag wa w' Bg room ⟨some ⟨G, 0, none⟩, m, c0⟩ ls' xs' c) (a : Apart [G] w w') : MS wa w' Bg R n cp room ⟨some ⟨G, 0, none⟩, m, c0⟩ ls' ms xs' ys c :=
  ⟨b, own_apart h.lst a (fun k hk hm => by
    simp [Value.ownBlock] at hk
    simp at hm
    subst hk hm
    exact h.ne rfl), h.ml, h.yl, h.ne, h.rd⟩
/-- the cells of the list's k-th -/
theorem MS.cells {wa w : World} {Bg R n cp : Nat} {room : Int} {s : Sl} {ls ms : List LM} {xs ys : List Tx} {c : Cn} (h : MS wa w Bg R n cp room s ls ms xs ys c) {k : Nat} (hk : k < n) : w.cell? ⟨R, k * 3, none⟩ = some (.int .i64 (gL ms k).f) ∧ w.cell? ⟨R, k * 3 + 1, none⟩ = some (.int .i64 (gL ms k).t) ∧ w.cell? ⟨R, k * 3 + 2, none⟩ = some (gL ms k).d.v := by
  obtain ⟨g0, g1, g2⟩ := flatL_get ms k (by rw [h.ml]; exact hk)
  exact ⟨(h.lst.cellAt _ (by omega)).trans g0, (h.lst.cellAt _ (by omega)).trans g1, (h.lst.cellAt _ (by omega)).trans g2⟩
theorem MS.reads {wa w : World} {Bg R n cp : Nat} {room : Int} {s : Sl} {ls ms : List LM} {xs ys : List Tx} {c : Cn} (h : MS wa w Bg R n cp room s ls ms xs ys c) {k : Nat} (hk : k < n) : ReadsL w (gL ms k) (gT ys k) := (h.rd k hk).kept0 h.bag.row.ap
/-- a bag that has a letter has a row -/
theorem Bag.ptr {w0 w : World} {Bg : Nat} {room : Int} {s : Sl} {ls : List LM} {xs : List Tx} {c : Cn} (h : Bag w0 w Bg room s ls xs c) (hn : 0 < s.n) : ∃ G, s = ⟨some ⟨G, 0, none⟩, s.n, s.c⟩ := by
  obtain ⟨G, hG, _⟩ := h.at hn
  exact ⟨G, by cases s; simp at hG ⊢; exact hG⟩
theorem sg_back (i j k n : Nat) (hi : i < n) (hj : j < n) (hk : k < n) : sg i j (sg j i k) = k := by
  unfold sg
  by_cases h1 : k = i
  · simp [h1]
  · by_cases h2 : k < i
    · by_cases h3 : k < j
      · have e1 : ¬ k = j := by omega
        simp [h1, h2, h3, e1]
      · have e1 : ¬ k + 1 = j := by omega
        have e2 : ¬ k + 1 < j := by omega
        simp [h1, h2, h3, e1, e2]
    · by_cases h3 : k - 1 < j
      · have e1 : ¬ k - 1 = j := by omega
        have e2 : ¬ k - 1 < i := by omega
        simp [h1, h2, h3, e1, e2]
        omega
      · have e0 : k - 1 + 1 = k := by omega
        have e1 : ¬ k = j := by omega
        have e2 : ¬ k < j := by omega
        have e3 : ¬ k - 1 < i := by omega
        simp [h1, h2, h3, e0, e1, e2, e3]
theorem mv_back {α : Type} (d : α) (i j : Nat) (l : List α) (hi : i < l.length) (hj : j < l.length) : mvD d j i (mvD d i j l) = l := by
  have hl := mv_len d i j l hi hj
  have hl2 := mv_len d j i (mvD d i j l) (by omega) (by omega)
  refine List.ext_getElem (by omega) fun k h1 h2 => ?_
  have e := mv_get d j i k (mvD d i j l) (by omega) (by omega) (by omega)
  rw [mv_get d i j (sg j i k) l hi hj (sg_lt hj hi h2), sg_back i j k _ hi hj h2] at e
  simp [List.getD_eq_getElem?_getD, h1, h2] at e
  simpa using e
/-- append of nothing -/
theorem app_none (w : World) (g n c c' : Nat) (p : Option Addr) (hnc : n ≤ c) : (Builtin.append_ #[22, 22] 22 #[.slice (some ⟨g, 0, none⟩) n c, .slice p 0 c']).run Try.prog w = .ok (.slice (some ⟨g, 0, none⟩) n c) w := by
  obtain ⟨i, hi, hz0, hz1, hz2⟩ := info_parts infoL
  cases p <;> simp [Builtin.append_, run_underlying Try.underlying22, sizeOf, typeInfo, hi, Builtin.lenOf, Builtin.firstCells, hnc, storeCells, loadCells, loadCellsFrom]
/-- the list of letters that came in, behind one more: a row of its own -/
theorem app_list {wa W : World} (y : LM) (s : Sl) (ms : List LM) (hle : LL W s.p ms) (hml : ms.length = s.n) (hsn : s.n ≤ 4000000) :
    ∃ R cp W', (Builtin.append_ #[22, 22] 22 #[.slice (some ⟨W.heap.size, 0, none⟩) 1 1, s.v]).run Try.prog (W.alloc (boxL y)) = .ok (.slice (some ⟨R, 0, none⟩) (s.n + 1) cp) W' ∧ W'.ownsRow 0 30 3 (.slice (some ⟨R, 0, none⟩) (s.n + 1) cp) (s.n + 1) (flatL (y :: ms)) ∧ Apart [] W W' ∧ W.heap.size ≤ R := by
  obtain ⟨i0, hi, hz0, hz1, hz2⟩ := info_parts infoL
  have a1 : Apart [] W (W.alloc (boxL y)) := (Apart.refl [] W).alloc _
  have hn1 : Nw W (W.alloc (boxL y)) 30 3 ⟨some ⟨W.heap.size, 0, none⟩, 1, 1⟩ (flatL [y]) := ⟨by
    have := World.ownsRow_lit (base := 0) (e := 30) (size := 3) W #[.int .i64 y.f, .int .i64 y.t, y.d.v] 1 (Nat.zero_le _) (by unfold maxLen; omega) rfl
    simpa [flatL, LM.cs, Sl.v, boxL] using this, fun k hk => by simp [Sl.v, Value.ownBlock] at hk; omega, a1⟩
  by_cases h0 : s.n = 0
  · have hm0 : ms = [] := List.length_eq_zero_iff.1 (by omega)
    refine ⟨W.heap.size, 1, W.alloc (boxL y), ?_, ?_, a1, Nat.le_refl _⟩
    · rw [show s.v = .slice s.p 0 s.c from by unfold Sl.v; rw [h0], h0]
      exact app_none _ _ 1 1 _ _ (Nat.le_refl _)
    · rw [h0, hm0]
      exact hn1.own
  · obtain ⟨P, o, hp, hP, hc⟩ := (hle.kept0 a1 : Rd (W.alloc (boxL y)) s.p (flatL ms)) (by rw [flatL_length]; omega)
    obtain ⟨s', W', hrun, r1, r2, r3, k, r4, r5, r6⟩ := run_appS 22 22 30 i0 _ 3 40 Try.underlying22 hi hz0 hz1 hz2 rfl (by decide) hn1 ⟨P, o, none⟩ s.n s.c (flatL ms) (by omega) (by rw [flatL_length, hml]) (fun j u hj => by rw [Addr.add_lit]; exact hc j u hj) (oneL _) (by unfold maxLen; simp; omega) (by simp; omega)
    have e1 : Sl.v s' = .slice (some ⟨k, 0, none⟩) (s.n + 1) s'.c := by unfold Sl.v; rw [r4, r2]; simp [Nat.add_comm]
    have hk : W.heap.size ≤ k := by
      rcases r6 with r6 | r6
      · simp [Sl.v, Value.ownBlock] at r6; omega
      · exact Nat.le_trans a1.size r6
    refine ⟨k, s'.c, W', ?_, ?_, r1.ap, hk⟩
    · rw [← e1, ← hrun]
      unfold Sl.v
      rw [hp]
    · have := r1.own
      rw [e1, r2] at this
      simpa [flatL, Nat.add_comm] using this
end Go.Proofs.Ytiakcfjbnlibfaa.nt
