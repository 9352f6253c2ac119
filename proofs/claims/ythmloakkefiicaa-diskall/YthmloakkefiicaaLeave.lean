import Derived.Test.YthmloakkefiicaaSl
import Derived.Test.YthmloakkefiicaaLasts
namespace Go.Proofs.Ythmloakkefiicaa.dk
open Go.ChangeShapes Go.WideShapes Go.ChangeAt Go.RowKit
theorem info9 : (Try.prog.info? 9).map (fun i => (i.zero, i.size, i.bytes)) = some (some (.string ByteArray.empty), 1, 16) := by kernel_rfl
/-- the pair's row, by its cells -/
structure PRow (w : World) (P : Nat) (cur : Array Value) : Prop where
  row : w.heap[P]? = some (.cells cur 66 (0, 0))
  size : cur.size = 14
theorem PRow.cell {w : World} {P : Nat} {cur : Array Value} (h : PRow w P cur) (i : Nat) : w.cell? ⟨P, i, none⟩ = cur[i]? := cell_of_row _ _ _ _ _ _ h.row
theorem PRow.free {w : World} {P : Nat} {cur : Array Value} (h : PRow w P cur) (i : Nat) : w.frozen? ⟨P, i, none⟩ = false := frozen_of_row _ _ _ _ _ h.row
theorem PRow.set {w : World} {P : Nat} {cur : Array Value} (h : PRow w P cur) (i : Nat) (v : Value) : PRow (w.setCell ⟨P, i, none⟩ v) P (cur.setIfInBounds i v) := ⟨heap_setCell_same _ _ _ _ _ _ h.row, by simpa using h.size⟩
theorem PRow.kept {w w' : World} {P : Nat} {cur : Array Value} {X : List Nat} (h : PRow w P cur) (a : Apart X w w') (hx : P ∉ X) : PRow w' P cur := ⟨(a.block P (lt_of_heap h.row) hx).trans h.row, h.size⟩
theorem SlAt.ne {w : World} {e : TypeId} {v : Value} {xs : List Value} {G : Option Nat} {P : Nat} {cur : Array Value} {t : TypeId} (h : SlAt w e v xs G) (hr : w.heap[P]? = some (.cells cur t (0, 0))) (hne : t ≠ e) : P ∉ G.toList := by
  intro hm
  cases G with
  | none => simp at hm
  | some g =>
    simp at hm; subst hm
    obtain ⟨c2, e2⟩ := h.typ
    rw [hr] at e2; simp at e2; exact hne e2.2
theorem SlAt.set {w : World} {e : TypeId} {v : Value} {xs : List Value} {G : Option Nat} {P i : Nat} {cur : Array Value} {t : TypeId} {x : Value} (h : SlAt w e v xs G) (hr : w.heap[P]? = some (.cells cur t (0, 0))) (hne : t ≠ e) : SlAt (w.setCell ⟨P, i, none⟩ x) e v xs G :=
  h.kept ((Apart.refl [P] w).setCell (by simp) x) (fun g hg hm => by
    simp at hm; subst hm
    exact h.ne hr hne (by simp [hg]))
theorem leave_no (w : World) (P : Nat) (cur : Array Value) (h : PRow w P cur) (p : Option Addr) (l c : Nat) (sz n : Nat) (lp : Option Addr) (lc : Nat) (h11 : cur[11]? = some (.int .i64 sz)) (h7 : cur[7]? = some (.slice lp n lc)) (hsz : sz ≤ 4194304) (hno : 4194304 - sz < l ∨ 100 ≤ n) :
    Calls Try.prog 57 #[.pointer (some ⟨P, 2, none⟩), .slice p l c] w fun r w' => r = .returned (.bool false) ∧ w' = w := by
  have e11 := (h.cell 11).trans h11
  have e7 := (h.cell 7).trans h7
  by_cases hc : 4194304 - sz < l
  · have hc' : (4194304 : Int) - sz < l := by omega
    clear hno
    go_enter Try.func57, Try.ntmps57
    go_wp2
    go_ret
    exact ⟨rfl, rfl⟩
  · have hc' : ¬ ((4194304 : Int) - sz < l) := by omega
    have hn : (100 : Int) ≤ n := by omega
    clear hno
    go_enter Try.func57, Try.ntmps57
    go_wp2
    go_ret
    exact ⟨rfl, rfl⟩
set_option maxHeartbeats 1000000 in
theorem leave_yes (w : World) (P : Nat) (cur : Array Value) (h : PRow w P cur) (p : Option Addr) (l c : Nat) (bs : List Int) (hs : Src w p l bs) (hpn : p = none → c = 0) (sz : Nat) (lv wv : Value) (xl xw : List Value) (GL GW : Option Nat) (hL : SlAt w 30 lv xl GL) (hW : SlAt w 9 wv xw GW)
    (h11 : cur[11]? = some (.int .i64 sz)) (h7 : cur[7]? = some lv) (h8 : cur[8]? = some wv) (hsz : sz ≤ 4194304) (hl : l ≤ 4194304 - sz) (hn : xl.length < 100) (hnw : xw.length < 100) (hgs : ∀ g o, p = some ⟨g, o, none⟩ → g ≠ P ∧ (∀ k, GL = some k → g ≠ k)) :
    Calls Try.prog 57 #[.pointer (some ⟨P, 2, none⟩), .slice p l c] w fun r w' => r = .returned (.bool true) ∧ ∃ lv' wv' GL' GW', PRow w' P (((cur.setIfInBounds 11 (.int .i64 ((sz : Int) + l))).setIfInBounds 7 lv').setIfInBounds 8 wv') ∧
      SlAt w' 30 lv' (xl ++ [Value.slice p l c]) GL' ∧ SlAt w' 9 wv' (xw ++ [.string (strOf bs)]) GW' ∧ Apart (P :: (GL.toList ++ GW.toList)) w w' ∧ (GL' = GL ∨ ∃ k, GL' = some k ∧ w.heap.size ≤ k) ∧ (GW' = GW ∨ ∃ k, GW' = some k ∧ w.heap.size ≤ k) := by
  have e11 := (h.cell 11).trans h11
  have e7 := (h.cell 7).trans h7
  have f11 := h.free 11
  have f7 := h.free 7
  obtain ⟨lp, lc, rfl⟩ := hL.shape
  obtain ⟨wp, wc, rfl⟩ := hW.shape
  have hc' : ¬ ((4194304 : Int) - sz < l) := by omega
  have hn' : ¬ ((100 : Int) ≤ xl.length) := by omega
  obtain ⟨i0, hi, hz0, hz1, hz2⟩ := info_parts info30
  obtain ⟨i9, hi9, hy0, hy1, hy2⟩ := info_parts info9
  have hPl := lt_of_heap h.row
  have hL1 : SlAt (w.setCell ⟨P, 11, none⟩ (.int .i64 ((sz : Int) + l))) 30 (.slice lp xl.length lc) xl GL := hL.set h.row (by decide)
  have hW1 : SlAt (w.setCell ⟨P, 11, none⟩ (.int .i64 ((sz : Int) + l))) 9 (.slice wp xw.length wc) xw GW := hW.set h.row (by decide)
  have h1 := h.set 11 (.int .i64 ((sz : Int) + l))
  have a01 : Apart [P] w (w.setCell ⟨P, 11, none⟩ (.int .i64 ((sz : Int) + l))) := (Apart.refl _ _).setCell (by simp) _
  have b1 : (l : Int) ≤ 4194304 := by omega
  have b2 : (sz : Int) ≤ 4194304 := by omega
  have hsz1 : (w.setCell ⟨P, 11, none⟩ (.int .i64 ((sz : Int) + l))).heap.size = w.heap.size := by simp [World.setCell]
  have HSZ : Hid ((w.setCell ⟨P, 11, none⟩ (.int .i64 ((sz : Int) + l))).heap.size = w.heap.size) := hsz1
  clear hsz1
  go_enter Try.func57, Try.ntmps57
  go_wp2_with (at_builtin; refine wpList_append_sl rfl (.tmp 35) (.tmp 37) 29 rfl 30 i0 (.slice none 0 0) 24 Try.underlying29 hi hz0 hz1 hz2 rfl (.slice lp xl.length lc) xl GL rfl (hL1.kept ((Apart.refl [] _).alloc _) (by simp)) ⟨w.heap.size, 0, none⟩ 1 (.slice p l c) rfl ?y1 rfl (by omega) (by decide) ?_)
  intro lv' w2 GL' s2 a2 o2
  have a12 : Apart GL.toList (w.setCell ⟨P, 11, none⟩ (.int .i64 ((sz : Int) + l))) w2 := (((Apart.refl [] _).alloc _).mono (by simp)).trans a2
  have hPL : P ∉ GL.toList := hL.ne h.row (by decide)
  have h2 := h1.kept a12 hPL
  have hW2 := hW1.kept a12 (fun g hg hm => by
    cases GL with
    | none => simp at hm
    | some k =>
      simp at hm; subst hm
      obtain ⟨c1, e1⟩ := hL1.typ
      rw [hg] at hW1
      obtain ⟨c2, e2⟩ := hW1.typ
      rw [e1] at e2; simp at e2)
  have hs2 : Src w2 p l bs := ⟨hs.hlen, fun h0 => by
    obtain ⟨g, o, hp, hg, hcc⟩ := hs.cells h0
    have hq := hgs g o hp
    have a02 : Apart (P :: GL.toList) w w2 := (a01.mono (by simp)).trans (a12.mono (by simp +contextual))
    refine ⟨g, o, hp, Nat.lt_of_lt_of_le hg a02.size, fun j hj => (a02.cell (p := ⟨g, o + j, none⟩) hg ?_).trans (hcc j hj)⟩
    intro hm
    simp at hm
    rcases hm with hm | hm
    · exact hq.1 hm
    · exact hq.2 g hm rfl⟩
  have o2' : GL' = GL ∨ ∃ k, GL' = some k ∧ w.heap.size ≤ k := by
    rcases o2 with o2 | ⟨k, o2, o3⟩
    · exact .inl o2
    · exact .inr ⟨k, o2, by have := HSZ.out; first | omega | (simp at o3; omega)⟩
  obtain ⟨lp2, lc2, rfl⟩ := s2.shape
  have e27 : ∃ y, w2.cell? ⟨P, 7, none⟩ = some y := by
    rw [h2.cell 7]
    exact ⟨_, Array.getElem?_eq_getElem (by rw [h2.size]; decide)⟩
  obtain ⟨y7, e27⟩ := e27
  have f27 := h2.free 7
  have h3 := h2.set 7 (.slice lp2 (xl ++ [Value.slice p l c]).length lc2)
  have a23 : Apart [P] w2 (w2.setCell ⟨P, 7, none⟩ (.slice lp2 (xl ++ [Value.slice p l c]).length lc2)) := (Apart.refl _ _).setCell (by simp) _
  have s3 : SlAt (w2.setCell ⟨P, 7, none⟩ (.slice lp2 (xl ++ [Value.slice p l c]).length lc2)) 30 (.slice lp2 (xl ++ [Value.slice p l c]).length lc2) (xl ++ [Value.slice p l c]) GL' := s2.set h2.row (by decide)
  have hW3 : SlAt (w2.setCell ⟨P, 7, none⟩ (.slice lp2 (xl ++ [Value.slice p l c]).length lc2)) 9 (.slice wp xw.length wc) xw GW := hW2.set h2.row (by decide)
  have hs3 : Src (w2.setCell ⟨P, 7, none⟩ (.slice lp2 (xl ++ [Value.slice p l c]).length lc2)) p l bs := ⟨hs.hlen, fun h0 => by
    obtain ⟨g, o, hp, hg, hcc⟩ := hs2.cells h0
    exact ⟨g, o, hp, by simpa [World.setCell] using hg, fun j hj => (a23.cell (p := ⟨g, o + j, none⟩) hg (by simpa using (hgs g o hp).1)).trans (hcc j hj)⟩⟩
  have hlen2 : (xl ++ [Value.slice p l c]).length = xl.length + 1 := by simp
  rw [hlen2] at h3 a23 s3 hW3 hs3 s2
  have hsz3 : (w2.setCell ⟨P, 7, none⟩ (.slice lp2 (xl.length + 1) lc2)).heap.size = w2.heap.size := by simp [World.setCell]
  have HS3 : Hid ((w2.setCell ⟨P, 7, none⟩ (.slice lp2 (xl.length + 1) lc2)).heap.size = w2.heap.size) := hsz3
  have e38 : (w2.setCell ⟨P, 7, none⟩ (.slice lp2 (xl.length + 1) lc2)).cell? ⟨P, 8, none⟩ = some (.slice wp xw.length wc) := by
    rw [h3.cell 8, Array.getElem?_setIfInBounds_ne (by decide), Array.getElem?_setIfInBounds_ne (by decide)]; exact h8
  have f38 := h3.free 8
  obtain ⟨str, hstr⟩ : ∃ str, str = strOf bs := ⟨_, rfl⟩
  have hcv : Sem.run Try.prog (convert 30 9 (.slice p l c)) (w2.setCell ⟨P, 7, none⟩ (.slice lp2 (xl.length + 1) lc2)).drew = .ok (.string str) (w2.setCell ⟨P, 7, none⟩ (.slice lp2 (xl.length + 1) lc2)).drew := by
    rw [hstr]
    exact conv_src (w := (w2.setCell ⟨P, 7, none⟩ (.slice lp2 (xl.length + 1) lc2)).drew) ⟨hs3.hlen, hs3.cells⟩ hpn
  have HSTR : Hid (str = strOf bs) := hstr
  have a03 : Apart (P :: (GL.toList ++ GW.toList)) w (w2.setCell ⟨P, 7, none⟩ (.slice lp2 (xl.length + 1) lc2)) := ((a01.mono (by simp)).trans (a12.mono (by simp +contextual))).trans (a23.mono (by simp))
  have hP3 := lt_of_heap h3.row
  clear hsz3 hlen2 hL hW hL1 hW1 h1 hW2 hs2 hs a2 o2 h7 h11 e11 e7 f11 f7 s2 hs3 hstr a12 a23 h2 a01 HS3 HSZ h8 h
  go_wp2_with fail
  generalize w2.setCell ⟨P, 7, none⟩ (.slice lp2 (xl.length + 1) lc2) = W3 at *
  go_region_law (refine step_append_sl rfl (.tmp 45) (.tmp 48) 61 rfl 9 i9 (.string ByteArray.empty) 16 Try.underlying61 hi9 hy0 hy1 hy2 rfl (.slice wp xw.length wc) xw GW rfl (by first | exact hW3.kept (((Apart.refl [] W3).alloc _).drewN 1) (by simp) | exact hW3.kept (((Apart.refl [] W3).drewN 1).alloc _) (by simp)) ⟨W3.heap.size, 0, none⟩ 1 (.string str) rfl (by simp) rfl (by omega) (by decide) ?_; intro wv' w4 GW' s4 a4 o4; have a34 : Apart GW.toList W3 w4 := ((((Apart.refl [] W3).alloc (.cells #[.string str] 9)).drewN 1).mono (by simp)).trans a4; have hPW : P ∉ GW.toList := hW3.ne h3.row (by decide); have h4 := h3.kept a34 hPW; have e48 : ∃ y, w4.cell? ⟨P, 8, none⟩ = some y := ⟨_, (h4.cell 8).trans (Array.getElem?_eq_getElem (by rw [h4.size]; decide))⟩; obtain ⟨y8, e48⟩ := e48; have f48 := h4.free 8; have s34 := s3.kept a34 (fun g hg hm => by cases GW with | none => simp at hm | some k => (simp at hm; subst hm; rw [hg] at s3; obtain ⟨c1, q1⟩ := s3.typ; obtain ⟨c2, q2⟩ := hW3.typ; rw [q1] at q2; simp at q2)); obtain ⟨wp2, wc2, rfl⟩ := s4.shape)
  all_goals
    have s5 : SlAt (w4.setCell ⟨P, 8, none⟩ (.slice wp2 (xw ++ [Value.string str]).length wc2)) 9 (.slice wp2 (xw ++ [Value.string str]).length wc2) (xw ++ [Value.string str]) GW' := s4.set h4.row (by decide)
    have s6 : SlAt (w4.setCell ⟨P, 8, none⟩ (.slice wp2 (xw ++ [Value.string str]).length wc2)) 30 (.slice lp2 (xl.length + 1) lc2) (xl ++ [Value.slice p l c]) GL' := s34.set h4.row (by decide)
    have h5 := h4.set 8 (.slice wp2 (xw ++ [Value.string str]).length wc2)
    have a5 : Apart (P :: (GL.toList ++ GW.toList)) w (w4.setCell ⟨P, 8, none⟩ (.slice wp2 (xw ++ [Value.string str]).length wc2)) := (a03.trans (a34.mono (by simp +contextual))).setCell (by simp) _
    have o4' : GW' = GW ∨ ∃ k, GW' = some k ∧ w.heap.size ≤ k := by
      rcases o4 with o4 | ⟨k, o4, o5⟩
      · exact .inl o4
      · exact .inr ⟨k, o4, by have := a03.size; first | omega | (simp at o5; omega)⟩
    have hlw : (xw ++ [Value.string str]).length = xw.length + 1 := by simp
    rw [hlw] at s5 s6 h5 a5
    rw [HSTR.out] at s5
    clear s4 s34 h4 a4 o4 hcv e38 f38 s3 hW3 h3 a03 a34 e48 f48 hlw
    go_wp2
    go_ret
    exact ⟨rfl, _, _, GL', GW', h5, s6, s5, a5, o2', o4'⟩
end Go.Proofs.Ythmloakkefiicaa.dk
