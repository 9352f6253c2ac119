import Derived.Test.YtopmhacnopfifaaTQ3
import Derived.JoinedCond
import Derived.ShutString
import Derived.ChangeOld
import Derived.Below
import Derived.Carry
import Derived.ChangeSlices
namespace Go.Proofs.Ytopmhacnopfifaa.tm
open Go.ChangeShapes Go.WideShapes Go.ChangeAt Go.RowKit
set_option linter.unusedVariables false
set_option linter.unusedSimpArgs false
/-- the j-th timer -/
def tE (fs : Nat → Int) (j : Nat) : E := ⟨fs j, (j : Int) + 1, (j : Int) % 3, (j : Int) * 7, j⟩
def tss (fs : Nat → Int) (N : Nat) : List E := (List.range N).map (tE fs)
theorem tss_succ (fs : Nat → Int) (N : Nat) : tss fs N ++ [tE fs N] = tss fs (N + 1) := by simp [tss, List.range_succ]
theorem tss_length (fs : Nat → Int) (N : Nat) : (tss fs N).length = N := by simp [tss]
theorem tss_mem {fs : Nat → Int} {N : Nat} {e : E} : e ∈ tss fs N ↔ ∃ j, j < N ∧ e = tE fs j := by
  simp only [tss, List.mem_map, List.mem_range]
  exact ⟨fun ⟨j, h, e⟩ => ⟨j, h, e.symm⟩, fun ⟨j, h, e⟩ => ⟨j, h, e.symm⟩⟩
def bools (bs : List Bool) : List Value := bs.map Value.bool
def rest (n : Nat) : List Bool := List.replicate n false
theorem rest_get (n k : Nat) : (rest n).getD k false = false := by
  unfold rest
  rw [List.getD_eq_getElem?_getD, List.getElem?_replicate]
  split <;> rfl
theorem info4 : (Try.prog.info? 4).map (fun i => (i.zero, i.size, i.bytes)) = some (some (.bool false), 1, 1) := by kernel_rfl
set_option maxRecDepth 100000 in
theorem make_bools (w : World) (n : Nat) (h2 : n ≤ 4000000) : Sem.run Try.prog (Instr.makeSlice 42 (Value.int .i64 n) (Value.int .i64 n)) w = .ok (.slice (some ⟨w.heap.size, 0, none⟩) n n) (w.alloc (.cells (bools (rest n)).toArray 4)) := by
  obtain ⟨i, hi, hz0, hz1, hz2⟩ := info_parts info4
  have := run_make (P := Try.prog) w 42 4 i _ Try.underlying42 hi hz0 .i64 .i64 n n (by omega) (by omega) (by rw [hz2]; omega) (by omega)
  rw [this, hz1]
  simp only [Int.toNat_natCast, Nat.mul_one]
  congr 3
  apply Array.ext
  · simp [madeCells, bools, rest]
  · intro j h1 h3
    simp [madeCells, bools, rest, Value.cells, Nat.mod_one]
theorem bool_at {w : World} {S : Nat} {bs : List Bool} (h : w.heap[S]? = some (.cells (bools bs).toArray 4 (0, 0))) (k : Nat) (hk : k < bs.length) : w.cell? ⟨S, k, none⟩ = some (.bool (bs.getD k false)) := by
  rw [cell_of_row _ _ _ _ _ _ h]
  simp [bools, List.getD_eq_getElem?_getD, hk]
theorem KeptQ.keep {w0 w w' : World} {Q H : Nat} {row : List E} {n : Nat} {nw : Int} (q : Qu w0 w Q H row n nw) (k : KeptQ Q w w') {i : Nat} {cur : Array Value} {t : TypeId} {f : Nat × Nat} (h : w.heap[i]? = some (.cells cur t f)) (h1 : t ≠ 102) (h2 : t ≠ 100) (h3 : t ≠ 96) : w'.heap[i]? = some (.cells cur t f) :=
  k.same i cur t f h h1 h2 (fun e => by rw [e, q.hq] at h; simp at h; exact h3 h.2.1.symm)
theorem len_filter {row : List E} {k : Int} (di : Dist row) (hm : ∀ e ∈ row, e.m = e.a + 1) (h : ∃ e ∈ row, e.m = k) : row.length = (row.filter (fun e => decide (e.m ≠ k))).length + 1 := by
  obtain ⟨e, he, hk⟩ := h
  obtain ⟨l1, l2, rfl⟩ := List.append_of_mem he
  have hp : (e :: (l1 ++ l2)).Perm (l1 ++ e :: l2) := List.perm_middle.symm
  have := (filter_perm hp hk di hm).length_eq
  rw [← this]
  simp; omega
/-- while timers are cancelled -/
structure G3 (fs : Nat → Int) (w wr : World) (Q H S N : Nat) (bs : List Bool) (row : List E) : Prop where
  qu : Qu w wr Q H row (N + 1) 0
  ap : Apart [] w wr
  hS : wr.heap[S]? = some (.cells (bools bs).toArray 4 (0, 0))
  bl : bs.length = N + 1
  mem : ∀ e, e ∈ row ↔ ∃ j, j < N ∧ e = tE fs j ∧ bs.getD (j + 1) false = false
  hS0 : w.heap.size ≤ S
theorem Qu.hma {w0 w : World} {Q H : Nat} {row : List E} {n : Nat} {nw : Int} (q : Qu w0 w Q H row n nw) : ∀ e ∈ row, e.m = e.a + 1 := fun e he => (q.hm e he).1
/-- a timer that is there is cancelled -/
theorem G3.cancel {fs : Nat → Int} {w wr w2 : World} {Q H S N : Nat} {bs : List Bool} {row : List E} (h : G3 fs w wr Q H S N bs row) {j : Nat} (hj : j < N) (q2 : Qu w w2 Q H (row.filter (fun e => decide (e.m ≠ ((j : Int) + 1)))) (N + 1) 0) (a2 : Apart [] w w2) (k2 : KeptQ Q wr w2) :
    G3 fs w (w2.setCell ⟨S, j + 1, none⟩ (.bool true)) Q H S N (bs.set (j + 1) true) (row.filter (fun e => decide (e.m ≠ ((j : Int) + 1)))) := by
  have hS2 := k2.keep h.qu h.hS (by decide) (by decide) (by decide)
  have aS : Apart [S] w2 (w2.setCell ⟨S, j + 1, none⟩ (.bool true)) := (Apart.refl _ _).setCell (by simp) _
  refine ⟨q2.other aS (fun k hk => by simp at hk; subst hk; exact ⟨_, _, _, hS2, by decide, by decide, by decide⟩), a2.trans' aS (by simp; exact h.hS0), ?_, by simp [h.bl], fun e => ?_, h.hS0⟩
  · rw [heap_setCell_same _ _ _ _ _ _ hS2]; simp [bools]
  · rw [List.mem_filter, h.mem e]
    constructor
    · rintro ⟨⟨i, hi, rfl, hb⟩, hne⟩
      refine ⟨i, hi, rfl, ?_⟩
      have : ¬ ((i : Int) + 1 = (j : Int) + 1) := by simpa [tE] using hne
      rw [List.getD_eq_getElem?_getD, List.getElem?_set_ne (by omega), ← List.getD_eq_getElem?_getD]
      exact hb
    · rintro ⟨i, hi, rfl, hb⟩
      have hij : i ≠ j := by
        rintro rfl
        rw [List.getD_eq_getElem?_getD, List.getElem?_set_self (by rw [h.bl]; omega)] at hb
        simp at hb
      refine ⟨⟨i, hi, rfl, ?_⟩, by simp [tE]; omega⟩
      rw [List.getD_eq_getElem?_getD, List.getElem?_set_ne (by omega), ← List.getD_eq_getElem?_getD] at hb
      exact hb
/-- while timers are fired -/
structure G4 (fs : Nat → Int) (w wr : World) (Q H S L N left i : Nat) (bs : List Bool) (row : List E) (nw : Int) (lr lm lk lc : Int) : Prop where
  qu : Qu w wr Q H row (N + 1) nw
  ap : Apart [] w wr
  hS : wr.heap[S]? = some (.cells (bools bs).toArray 4 (0, 0))
  bl : bs.length = N + 1
  mem : ∀ e ∈ row, ∃ j, j < N ∧ e = tE fs j ∧ bs.getD (j + 1) false = false
  hS0 : w.heap.size ≤ S
  hl : row.length = left - i
  hi : i ≤ left
  hL : wr.heap[L]? = some (.cells #[.int .i64 lr, .int .i64 lm, .int .i64 lk, .int .i64 lc] 46 (0, 0))
  hL0 : w.heap.size ≤ L
  last : 0 < i → ∀ y ∈ row, ¬ (y.r < lr ∨ (y.r = lr ∧ y.m < lm))
theorem G3.fire {fs : Nat → Int} {w wr w2 : World} {Q H S N L : Nat} {bs : List Bool} {row : List E} (h : G3 fs w wr Q H S N bs row) (a : Apart [] wr w2) (hL : w2.heap[L]? = some (.cells #[.int .i64 0, .int .i64 0, .int .i64 0, .int .i64 0] 46 (0, 0))) (hL0 : w.heap.size ≤ L) : G4 fs w w2 Q H S L N row.length 0 bs row 0 0 0 0 0 :=
  ⟨h.qu.kept a, h.ap.trans a, (a.block _ (lt_of_heap h.hS) (by simp)).trans h.hS, h.bl, fun e he => (h.mem e).1 he, h.hS0, by omega, Nat.zero_le _, hL, hL0, fun h0 => by omega⟩
theorem g0_mem {row : List E} (h : 0 < row.length) : g row 0 ∈ row := by rw [g_eq _ _ h]; exact List.getElem_mem h
theorem up_first {row : List E} (h : Up row) (h0 : 0 < row.length) : ∀ y ∈ row.eraseIdx 0, lex y (g row 0) = false := by
  match row, h0 with
  | x :: l, _ =>
    intro y hy
    simp at hy
    have := List.pairwise_cons.1 h
    exact this.1 y hy
theorem di_first {row : List E} (h : Dist row) (h0 : 0 < row.length) : ∀ y ∈ row.eraseIdx 0, y.a ≠ (g row 0).a := by
  match row, h0 with
  | x :: l, _ =>
    intro y hy
    simp at hy
    have := List.pairwise_cons.1 h
    exact fun e => this.1 y hy e.symm
def markL (W : World) (S L k : Nat) (lr lm lk lc : Int) : World := ((((W.setCell ⟨S, k, none⟩ (.bool true)).setCell ⟨L, 0, none⟩ (.int .i64 lr)).setCell ⟨L, 1, none⟩ (.int .i64 lm)).setCell ⟨L, 2, none⟩ (.int .i64 lk)).setCell ⟨L, 3, none⟩ (.int .i64 lc)
/-- one is fired -/
theorem G4.step {fs : Nat → Int} {w wr w2 W : World} {Q H S L N left i j : Nat} {bs : List Bool} {row : List E} {nw lr lm lk lc : Int} (h : G4 fs w wr Q H S L N left i bs row nw lr lm lk lc) (hi : i < left) (hj : j < N) (he : g row 0 = tE fs j) (q2 : Qu w w2 Q H (row.eraseIdx 0) (N + 1) (max nw (fs j))) (a2 : Apart [] w w2) (k2 : KeptQ Q wr w2) (a3 : Apart [] w2 W) :
    G4 fs w (markL W S L (j + 1) (fs j) ((j : Int) + 1) ((j : Int) % 3) ((j : Int) * 7)) Q H S L N left (i + 1) (bs.set (j + 1) true) (row.eraseIdx 0) (max nw (fs j)) (fs j) ((j : Int) + 1) ((j : Int) % 3) ((j : Int) * 7) := by
  have h0 : 0 < row.length := by rw [h.hl]; omega
  have hS3 := (a3.block _ (lt_of_heap (k2.keep h.qu h.hS (by decide) (by decide) (by decide))) (by simp)).trans (k2.keep h.qu h.hS (by decide) (by decide) (by decide))
  have hL3 := (a3.block _ (lt_of_heap (k2.keep h.qu h.hL (by decide) (by decide) (by decide))) (by simp)).trans (k2.keep h.qu h.hL (by decide) (by decide) (by decide))
  have hSL : S ≠ L := fun e => by rw [e, hL3] at hS3; simp at hS3
  have q3 := q2.kept a3
  have aM : Apart [S, L] W (markL W S L (j + 1) (fs j) ((j : Int) + 1) ((j : Int) % 3) ((j : Int) * 7)) := (((((Apart.refl _ _).setCell (by simp) _).setCell (by simp) _).setCell (by simp) _).setCell (by simp) _).setCell (by simp) _
  have s1 := heap_setCell_same W S (j + 1) _ 4 (.bool true) hS3
  have aS : Apart [S] W (W.setCell ⟨S, j + 1, none⟩ (.bool true)) := (Apart.refl _ _).setCell (by simp) _
  have l1 := (aS.block L (lt_of_heap hL3) (by simp; exact fun e => hSL e.symm)).trans hL3
  have aL : Apart [L] (W.setCell ⟨S, j + 1, none⟩ (.bool true)) (markL W S L (j + 1) (fs j) ((j : Int) + 1) ((j : Int) % 3) ((j : Int) * 7)) := ((((Apart.refl _ _).setCell (by simp) _).setCell (by simp) _).setCell (by simp) _).setCell (by simp) _
  have s2 := (aL.block S (lt_of_heap s1) (by simpa using hSL)).trans s1
  have hdi := di_first h.qu.hr.di h0
  have hup := up_first h.qu.hr.up h0
  refine ⟨q3.other aM (fun k hk => ?_), (a2.trans a3).trans' aM (by simp; exact ⟨h.hS0, h.hL0⟩), by rw [s2]; simp [bools], by simp [h.bl], fun e he' => ?_, h.hS0, ?_, by omega, row4 l1 _ _ _ _, h.hL0, fun _ y hy => ?_⟩
  · simp at hk
    rcases hk with rfl | rfl
    · exact ⟨_, _, _, hS3, by decide, by decide, by decide⟩
    · exact ⟨_, _, _, hL3, by decide, by decide, by decide⟩
  · obtain ⟨q, hq, rfl, hb⟩ := h.mem e ((List.eraseIdx_sublist _ _).subset he')
    have hne := hdi _ he'
    rw [he] at hne
    have hqj : q ≠ j := by rintro rfl; exact hne rfl
    refine ⟨q, hq, rfl, ?_⟩
    rw [List.getD_eq_getElem?_getD, List.getElem?_set_ne (by omega), ← List.getD_eq_getElem?_getD]
    exact hb
  · rw [List.length_eraseIdx, if_pos h0, h.hl]; omega
  · have h1 := hup y hy
    rw [he, lex_false] at h1
    obtain ⟨q, hq, rfl, hb⟩ := h.mem y ((List.eraseIdx_sublist _ _).subset hy)
    simp only [tE] at h1 ⊢
    omega
end Go.Proofs.Ytopmhacnopfifaa.tm
