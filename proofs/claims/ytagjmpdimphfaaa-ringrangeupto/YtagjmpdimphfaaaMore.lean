import Derived.Test.YtagjmpdimphfaaaAsm
namespace Go.Proofs.Ytagjmpdimphfaaa.rg
open Go.ChangeShapes Go.WideShapes Go.ChangeAt Go.RowKit
set_option linter.unusedVariables false
set_option linter.unusedSimpArgs false
theorem run_append_sl2 (w : World) (ty : TypeId) (v : Value) (xs : List Value) (G : Option Nat) (h : SlAt w 3 v xs G) (ad : Addr) (c : Nat) (x : Value) (hx : w.cell? ad = some x) (h1 : x.oneCell' = true) (h63 : xs.length + 1 ≤ 1000000) :
    ∃ v' w' G', (Builtin.append_ #[28, 28] ty #[v, .slice (some ad) 1 c]).run Try.prog w = .ok v' w' ∧ SlAt w' 3 v' (xs ++ [x]) G' ∧
      ((∃ g off cap cap', G = some g ∧ G' = some g ∧ v = .slice (some ⟨g, off, none⟩) xs.length cap ∧ v' = .slice (some ⟨g, off, none⟩) (xs.length + 1) cap' ∧ w' = w.setCell ⟨g, off + xs.length, none⟩ x) ∨ (Apart [] w w' ∧ ∃ k, G' = some k ∧ w.heap.size ≤ k)) := by
  obtain ⟨i, hi, hz, hsize, hby⟩ := info_parts info3
  have hnews : ∀ j u, [x][j]? = some u → w.cell? (ad.add j) = some u := by
    intro j u hj
    match j, hj with
    | 0, hj => simp at hj; subst hj; simpa [Addr.add] using hx
  have hone : ∀ u ∈ [x], u.oneCell' = true := by intro u hu; simp at hu; subst hu; exact h1
  have hbb : (xs.length + 1) * 8 ≤ 140737488355328 := by omega
  have hml : xs.length + 1 ≤ maxLen := by unfold maxLen; omega
  cases G with
  | none =>
    obtain ⟨rfl, rfl⟩ := h
    obtain ⟨v', w', hrun, r1, r2, _⟩ := run_append_own (P := Try.prog) w w.heap.size 28 ty 3 i (.int .i64 0) 1 8 Try.underlying28 hi hz hsize hby rfl (by decide) (.slice none 0 0) 0 [] (World.ownsRow_nil w _ 3 1) ad 1 c [x] rfl hnews hone hml hbb (Nat.le_refl _)
    obtain ⟨g, hs, hg⟩ := slAt_of_own (xs := [x]) r1 (by simp)
    exact ⟨v', w', some g, hrun, hs, .inr ⟨(apart_grown r2).mono (by simp [Value.ownBlock]), g, rfl, hg⟩⟩
  | some g =>
    obtain ⟨off, cap, cur, rfl, hr, hle, hsz, hc⟩ := h
    by_cases hroom : xs.length + 1 ≤ cap
    · have hcell : ∀ j, w.cell? ⟨g, j, none⟩ = cur[j]? := fun j => cell_of_row _ _ _ _ _ _ hr
      have hrun := run_append_room_cells (P := Try.prog) w 28 ty 3 i Try.underlying28 hi g off xs.length cap ad 1 c [x] (by rw [hsize]; rfl) hnews hone hroom (fun j hj => by
        simp at hj; subst hj
        rw [hcell, hsize]
        simp; omega) (fun j hj => frozen_of_row _ _ _ _ _ hr)
      rw [hsize, Nat.mul_one] at hrun
      have e1 : w.setCells g (off + xs.length) [x] = w.setCell ⟨g, off + xs.length, none⟩ x := rfl
      rw [e1] at hrun
      refine ⟨_, _, some g, hrun, ⟨off, cap, _, by simp, heap_setCell_same _ _ _ _ _ _ hr, by simpa using hroom, by simpa using hsz, fun j hj => ?_⟩, .inl ⟨g, off, cap, cap, rfl, rfl, rfl, rfl, rfl⟩⟩
      simp at hj
      by_cases ej : j = xs.length
      · subst ej
        rw [Array.getElem?_setIfInBounds_self_of_lt (by omega)]
        simp
      · rw [Array.getElem?_setIfInBounds_ne (by omega), hc j (by omega), List.getElem?_append_left (by omega)]
    · obtain ⟨v', w', hrun, r1, r2⟩ := run_append_arg_grows (P := Try.prog) w 28 ty 3 i (.int .i64 0) 1 8 Try.underlying28 hi hz hsize hby rfl (by decide) ⟨g, off, none⟩ xs.length cap xs (by omega) (fun j u hu => by
        have hj : j < xs.length := (List.getElem?_eq_some_iff.1 hu).1
        rw [Addr.add_lit, cell_of_row _ _ _ _ _ _ hr, hc j hj]; exact hu) ad 1 c [x] rfl hnews (by omega) hml hbb
      obtain ⟨g', hs, hg⟩ := slAt_of_own (xs := xs ++ [x]) (by simpa using r1) (by simp)
      exact ⟨v', w', some g', hrun, hs, .inr ⟨(apart_grown r2).mono (by simp), g', rfl, hg⟩⟩
/-- a cell of the list written -/
theorem ob_set {w : World} {P o n cap : Nat} {zs : List Int} (h : Ob w P o n cap zs) (i : Nat) (hi : i < n) (m : Int) : Ob (w.setCell ⟨P, o + i, none⟩ (.int .i64 m)) P o n cap (zs.set i m) := by
  obtain ⟨cur, hr, hs, hm, hc⟩ := h.ex
  have hl := h.len
  have hle := h.le
  refine ⟨⟨_, heap_setCell_same w P (o + i) _ 3 (.int .i64 m) hr, by simpa using hs, hm, fun j hj => ?_⟩, hle, by simp [hl]⟩
  by_cases hji : j = i
  · subst hji
    rw [Array.getElem?_setIfInBounds_self_of_lt (by omega)]
    simp [List.getD_eq_getElem?_getD, hl, hi]
  · rw [Array.getElem?_setIfInBounds_ne (by omega), hc j hj]
    simp [List.getD_eq_getElem?_getD, List.getElem?_set_ne (Ne.symm hji)]
theorem ob_spare {w : World} {P o n cap : Nat} {zs : List Int} (h : Ob w P o n cap zs) (j : Nat) (hj : n ≤ j) (x : Value) : Ob (w.setCell ⟨P, o + j, none⟩ x) P o n cap zs := by
  obtain ⟨cur, hr, hs, hm, hc⟩ := h.ex
  refine ⟨⟨_, heap_setCell_same w P (o + j) _ 3 x hr, by simpa using hs, hm, fun i hi => ?_⟩, h.le, h.len⟩
  rw [Array.getElem?_setIfInBounds_ne (by omega), hc i hi]
/-- the list that is appended to, and the list itself -/
structure Mo (w0 w : World) (p : Option Addr) (n cap : Nat) (zs : List Int) (v : Value) (i : Nat) : Prop where
  l : (An.mk p n cap zs).At w
  ex : ∃ G ys, SlAt w 3 v (flZ (zs ++ ys)) G ∧ ys.length = i ∧ ∀ g, G = some g → (w0.heap.size ≤ g ∨ ∃ o c2, p = some ⟨g, o, none⟩ ∧ v = .slice (some ⟨g, o, none⟩) (n + i) c2)
  fr : Apart (An.mk p n cap zs).blk.toList w0 w
  pb : ∀ b, (An.mk p n cap zs).blk = some b → b < w0.heap.size
theorem ob_sl {w : World} {P o n cap : Nat} {zs : List Int} (h : Ob w P o n cap zs) : SlAt w 3 (.slice (some ⟨P, o, none⟩) n cap) (flZ zs) (some P) := by
  obtain ⟨cur, hr, hs, hm, hc⟩ := h.ex
  have hl := h.len
  refine ⟨o, cap, cur, by simp [flZ, hl], hr, by simpa [flZ, hl] using h.le, hs, fun j hj => ?_⟩
  have hj' : j < zs.length := by simpa [flZ] using hj
  rw [hc j (by omega)]
  simp [flZ, List.getD_eq_getElem?_getD, List.getElem?_eq_getElem hj']
theorem Mo.start {w : World} {p : Option Addr} {n cap : Nat} {zs : List Int} (h : (An.mk p n cap zs).At w) : Mo w w p n cap zs (.slice p n cap) 0 := by
  refine ⟨h, ?_, Apart.refl _ _, fun b hb => h.blk_lt hb⟩
  rcases h with ⟨h1, h2, h3, h4⟩ | ⟨P, o, h1, h2⟩
  · simp only at h1 h2 h3 h4
    subst h1; subst h2; subst h3; subst h4
    exact ⟨none, [], ⟨rfl, rfl⟩, rfl, fun g hg => by cases hg⟩
  · simp only at h1 h2
    subst h1
    exact ⟨some P, [], by simpa using ob_sl h2, rfl, fun g hg => .inr ⟨o, cap, by cases hg; rfl, by cases hg; rfl⟩⟩
theorem Mo.step {w0 w : World} {p : Option Addr} {n cap : Nat} {zs : List Int} {v : Value} {i : Nat} (h : Mo w0 w p n cap zs v i) (hi : i ≤ 20) (hn : n ≤ 8) (ty : TypeId) (m : Int) :
    ∃ p' c' w', v = .slice p' (n + i) c' ∧ ∃ p2 c2, (Builtin.append_ #[28, 28] ty #[.slice p' (n + i) c', .slice (some ⟨w.heap.size, 0, none⟩) 1 1]).run Try.prog (w.alloc (.cells #[.int .i64 m] 3)) = .ok (.slice p2 (n + i + 1) c2) w' ∧ Mo w0 w' p n cap zs (.slice p2 (n + i + 1) c2) (i + 1) := by
  obtain ⟨G, ys, hs, hy, hg⟩ := h.ex
  have hlz := h.l.len
  simp only at hlz
  have hlen : (flZ (zs ++ ys)).length = n + i := by simp [flZ, hlz, hy]
  obtain ⟨p', c', hv⟩ := hs.shape
  rw [hlen] at hv
  have aA : Apart [] w (w.alloc (.cells #[.int .i64 m] 3)) := (Apart.refl _ _).alloc _
  obtain ⟨v', w', G', hrun, s2, hor⟩ := run_append_sl2 (w.alloc (.cells #[.int .i64 m] 3)) ty v _ G (hs.kept aA (by simp)) ⟨w.heap.size, 0, none⟩ 1 (.int .i64 m) (by simp) rfl (by omega)
  have hfl : flZ (zs ++ ys) ++ [.int .i64 m] = flZ (zs ++ (ys ++ [m])) := by simp [flZ]
  rw [hfl] at s2
  obtain ⟨p2, c2, hv2⟩ := s2.shape
  have hlen2 : (flZ (zs ++ (ys ++ [m]))).length = n + i + 1 := by simp [flZ, hlz, hy]; omega
  rw [hlen2] at hv2
  subst hv2
  subst hv
  refine ⟨p', c', w', rfl, p2, c2, hrun, ?_⟩
  have frA := h.fr.trans (aA.mono (by simp))
  have lA := h.l.kept aA (by simp)
  rcases hor with ⟨g, off, ca, cb, rfl, rfl, e1, e2, rfl⟩ | ⟨ap, k, rfl, hk⟩
  · rw [hlen] at e1 e2
    simp at e1 e2
    obtain ⟨rfl, rfl⟩ := e1
    obtain ⟨rfl, rfl⟩ := e2
    rw [hlen] at *
    rcases hg g rfl with hgn | ⟨o, c3, hp, he⟩
    · refine ⟨lA.kept ((Apart.refl [g] _).setCell (by simp) _) (fun b hb hm => ?_), ⟨some g, ys ++ [m], s2, by simp [hy], fun g' hg' => .inl (by cases hg'; exact hgn)⟩, frA.setCell (.inr hgn) _, h.pb⟩
      simp at hm; subst hm
      have := h.pb b hb; omega
    · subst hp
      simp at he
      obtain ⟨rfl, rfl⟩ := he
      refine ⟨?_, ⟨some g, ys ++ [m], s2, by simp [hy], fun g' hg' => .inr ⟨off, _, by cases hg'; rfl, by cases hg'; rfl⟩⟩, frA.setCell (.inl (by simp [An.blk])) _, h.pb⟩
      rcases lA with ⟨h1, _⟩ | ⟨P, o', h1, h2⟩
      · cases h1
      · simp only at h1 h2
        cases h1
        exact .inr ⟨g, off, rfl, by rw [Nat.add_assoc] at *; exact ob_spare h2 (n + i) (by omega) _⟩
  · exact ⟨lA.kept ap (by simp), ⟨some k, ys ++ [m], s2, by simp [hy], fun g' hg' => .inl (by cases hg'; have := h.fr.size; have := aA.size; omega)⟩, frA.trans (ap.mono (by simp)), h.pb⟩
end Go.Proofs.Ytagjmpdimphfaaa.rg
