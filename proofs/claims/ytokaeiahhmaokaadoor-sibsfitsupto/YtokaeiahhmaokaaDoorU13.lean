import Derived.Test.YtokaeiahhmaokaaDoorU12
namespace Go.Proofs.YtokaeiahhmaokaaDoor.ds
open Go.ChangeShapes Go.WideShapes Go.ChangeAt Go.RowKit Go.Sort
set_option linter.unusedVariables false
set_option linter.unusedSimpArgs false
theorem splice_two {α : Type} (A U D Z : List α) (hZ : U.length + D.length ≤ Z.length) :
    (splice (splice (A ++ Z) A.length U) (A.length + U.length) D).take (A.length + U.length + D.length) = A ++ U ++ D := by
  have e1 : splice (A ++ Z) A.length U = A ++ U ++ Z.drop U.length := by
    unfold splice
    rw [List.take_append_of_le_length (Nat.le_refl _), List.take_of_length_le (Nat.le_refl _), List.drop_append, List.drop_eq_nil_of_le (by omega : A.length ≤ A.length + U.length)]
    simp
  rw [e1]
  unfold splice
  have e2 : (A ++ U ++ Z.drop U.length).take (A.length + U.length) = A ++ U := by
    rw [List.take_append_of_le_length (by simp)]
    exact List.take_of_length_le (by simp)
  rw [e2, ← List.append_assoc, List.take_append_of_le_length (by simp; omega)]
  exact List.take_of_length_le (by simp; omega)
theorem firstE {w : World} {G k c : Nat} {l : List E} {i0 : TypeInfo} (hz1 : i0.size = 6) (hc : ∀ j v, (flatE (l.take k))[j]? = some v → w.drew.cell? ⟨G, j, none⟩ = some v) (hk : k ≤ l.length) : (Builtin.firstCells i0.size k (.slice (some ⟨G, 0, none⟩) k c)).run Tryd.prog w.drew = .ok (flatE (l.take k)).toArray w.drew := by
  rw [hz1]
  exact run_firstCells_some w.drew 6 k ⟨G, 0, none⟩ k c (flatE (l.take k)) (by rw [flatE_length]; simp; omega) (fun j v hj => by rw [Addr.add_lit, Nat.zero_add]; exact hc j v hj)
def zw : Value := .agg #[.int .i64 0, .int .i64 0, .string ⟨#[]⟩, .bool false, .slice none 0 0, .slice none 0 0]
theorem zeros_len (k : Nat) : (Builtin.zeroCells zw.cells k).size = k * 6 := by simp [Builtin.zeroCells, zw, Value.cells]
set_option maxHeartbeats 4000000 in
set_option maxRecDepth 100000 in
theorem ins_grow (w W : World) (s : Sl) (l : List E) (u : E) (k B : Nat) (h : OwnE w W s l) (hn : s.n ≤ 1500000) (hk : k < s.n) (hroom : s.c < s.n + 1) (hB : Cap W B u) : Calls Tryd.prog 90 #[s.v, .int .i64 (k : Int), .slice (some ⟨B, 0, none⟩) 1 1] W fun r W' => ∃ s', r = .returned (Sl.v s') ∧ OwnE w W' s' (l.take k ++ [u] ++ l.drop k) := by
  obtain ⟨i0, hi, hz0, hz1, hz2⟩ := info_parts infoW
  have hsz : (Tryd.prog.info? 28).map (·.size) = some 6 := size28
  obtain ⟨p, n, c⟩ := s
  simp only at hn hk hroom
  have hcap := h.cap
  simp only at hcap
  obtain ⟨hxl, ⟨hv, hz⟩ | ⟨G, cap, cur, hv, hbb, hr, hle, hmx, hcs, htk⟩⟩ := h.nw.own
  · unfold Sl.v at hv; simp at hv; omega
  unfold Sl.v at hv
  simp at hv
  obtain ⟨rfl, rfl⟩ := hv
  obtain rfl : c = n := by omega
  have hlen : l.length = c := h.len
  have hfl := flatE_length l
  have hsplit : flatE l = flatE (l.take k) ++ flatE (l.drop k) := by rw [← flatE_append, List.take_append_drop]
  have hD : (flatE (l.drop k)).length = (c - k) * 6 := by rw [flatE_length]; simp [hlen]
  have hA : (flatE (l.take k)).length = k * 6 := by rw [flatE_length]; simp [hlen]; omega
  have hGs : G < W.heap.size := lt_of_heap hr
  have hBs : B < W.heap.size := lt_of_heap hB
  have hcA : ∀ j v, (flatE (l.take k))[j]? = some v → W.drew.cell? ⟨G, j, none⟩ = some v := fun j v hj => by
    have hjl : j < k * 6 := by
      by_cases hc : j < k * 6
      · exact hc
      · rw [List.getElem?_eq_none (by omega)] at hj; cases hj
    exact (h.nw.own.cellAt j (by show j < c * 6; omega)).trans (by rw [hsplit, List.getElem?_append_left (by omega)]; exact hj)
  have hold := firstE (c := c) hz1 hcA (by omega)
  obtain ⟨C, hC⟩ : ∃ C, C = grownCap W (c + 1) c 28 := ⟨_, rfl⟩
  obtain ⟨ROW, hROW⟩ : ∃ ROW : List Value, ROW = flatE (l.take k) ++ ((Builtin.zeroCells zw.cells (c + 1 - k)).toList ++ (Builtin.zeroCells zw.cells (C - (c + 1))).toList) := ⟨_, rfl⟩
  have hCn : c + 1 ≤ C := by rw [hC]; exact grownCap_ge W _ _ _
  have hC63 : C ≤ maxLen := by rw [hC]; exact grownCap_le_maxLen W (c + 1) c 28 (by unfold maxLen; omega)
  have hRl : ROW.length = C * 6 := by rw [hROW]; simp [zeros_len, hA]; omega
  have hrz : ∀ ty, (Builtin.append_ #[39, 3] ty #[.slice (some ⟨G, 0, none⟩) k c, .int .i64 ((c : Int) + 1 - (k : Int))]).run Tryd.prog W = .ok (.slice (some ⟨W.heap.size, 0, none⟩) (c + 1) C) (W.drew.alloc (.cells ROW.toArray 28)) := fun ty => by
    have hh := Lib.run_append_grow_zeros W 39 3 ty 28 i0 zw .i64 .i64 Tryd.underlying39 Tryd.underlying3 hi hz0 (some ⟨G, 0, none⟩) k c (flatE (l.take k)) hold (c + 1 - k) (by omega) (by omega) (by omega) (by omega) (by rw [hz2]; omega) (by rw [hz2, show k + (c + 1 - k) = c + 1 from by omega]; exact growslice_fits hroom (by omega))
    rw [show k + (c + 1 - k) = c + 1 from by omega, ← hC] at hh
    rw [show (c : Int) + 1 - (k : Int) = ((c + 1 - k : Nat) : Int) from by omega, hh, hROW]
    have e3 : (flatE (l.take k)).toArray ++ Builtin.zeroCells zw.cells (c + 1 - k) ++ Builtin.zeroCells zw.cells (C - (c + 1)) = (flatE (l.take k) ++ ((Builtin.zeroCells zw.cells (c + 1 - k)).toList ++ (Builtin.zeroCells zw.cells (C - (c + 1))).toList)).toArray := by
      apply Array.toList_inj.1
      simp
    rw [e3]
  obtain ⟨W1, hW1⟩ : ∃ W1, W1 = W.drew.alloc (.cells ROW.toArray 28) := ⟨_, rfl⟩
  rw [← hW1] at hrz
  have a1 : Apart [] W W1 := by rw [hW1]; exact (Apart.refl [] W).drew.alloc _
  have r1 : W1.heap[W.heap.size]? = some (.cells ROW.toArray 28 (0, 0)) := by rw [hW1]; exact heap_alloc_new W.drew _
  have hB1 := (a1.block B hBs (by simp)).trans hB
  have hcpA : ∀ ty dc, (Builtin.copy_ #[39, 39] ty #[.slice (some ⟨W.heap.size, k * 6, none⟩) (c + 1 - k) dc, .slice (some ⟨B, 0, none⟩) 1 1]).run Tryd.prog W1 = .ok (goInt ((1 : Nat) : Int)) (W1.setRow W.heap.size (splice ROW (k * 6) (E.cs u)).toArray) := fun ty dc =>
    run_copy_rowN W1 39 39 ty 28 6 W.heap.size (k * 6) (c + 1 - k) dc ⟨B, 0, none⟩ 1 1 1 ROW 28 (E.cs u) Tryd.underlying39 hsz r1 (by simp only [Nat.min_def]; split <;> omega) rfl (fun j v hj => by rw [Addr.add_lit, Nat.zero_add, cell_of_row _ _ _ _ _ _ hB1]; simpa [E.cs] using hj) (by rw [hRl]; simp [E.cs]; omega) (fun v hv => oneE [u] v (by simpa [flatE] using hv))
  obtain ⟨W2, hW2⟩ : ∃ W2, W2 = W1.setRow W.heap.size (splice ROW (k * 6) (E.cs u)).toArray := ⟨_, rfl⟩
  rw [← hW2] at hcpA
  have a2 : Apart [W.heap.size] W1 W2 := by rw [hW2]; exact apart_setRow _ _ _
  have a12 : Apart [] W W2 := a1.trans' a2 (by simp)
  have r2 : W2.heap[W.heap.size]? = some (.cells (splice ROW (k * 6) (E.cs u)).toArray 28 (0, 0)) := by rw [hW2]; exact setRow_heap W1 _ _ _ 28 _ r1
  have hl2 : (splice ROW (k * 6) (E.cs u)).length = C * 6 := by rw [length_splice _ _ _ (by rw [hRl]; simp [E.cs]; omega), hRl]
  have hcB : ∀ j v, (flatE (l.drop k))[j]? = some v → W2.drew.cell? ((⟨G, k * 6, none⟩ : Addr).add j) = some v := fun j v hj => by
    rw [← drop_flat, List.getElem?_drop] at hj
    rw [Addr.add_lit]
    have e1 : W2.drew.cell? ⟨G, k * 6 + j, none⟩ = W.cell? ⟨G, k * 6 + j, none⟩ := a12.drew.cell hGs (by simp)
    rw [e1]
    exact (h.nw.own.cellAt (k * 6 + j) (by
      show k * 6 + j < c * 6
      rw [hlen] at hfl
      by_cases hc : k * 6 + j < c * 6
      · omega
      · rw [List.getElem?_eq_none (by omega)] at hj; cases hj)).trans hj
  have hcpB : ∀ ty dc sc, (Builtin.copy_ #[39, 39] ty #[.slice (some ⟨W.heap.size, (k + 1) * 6, none⟩) (c + 1 - (k + 1)) dc, .slice (some ⟨G, k * 6, none⟩) (c - k) sc]).run Tryd.prog W2.drew = .ok (goInt ((c - k : Nat) : Int)) (W2.drew.setRow W.heap.size (splice (splice ROW (k * 6) (E.cs u)) ((k + 1) * 6) (flatE (l.drop k))).toArray) := fun ty dc sc =>
    run_copy_rowN W2.drew 39 39 ty 28 6 W.heap.size ((k + 1) * 6) (c + 1 - (k + 1)) dc ⟨G, k * 6, none⟩ (c - k) sc (c - k) _ 28 (flatE (l.drop k)) Tryd.underlying39 hsz r2 (by simp only [Nat.min_def]; split <;> omega) hD hcB (by rw [hD, hl2]; omega) (oneE _)
  obtain ⟨W3, hW3⟩ : ∃ W3, W3 = W2.drew.setRow W.heap.size (splice (splice ROW (k * 6) (E.cs u)) ((k + 1) * 6) (flatE (l.drop k))).toArray := ⟨_, rfl⟩
  rw [← hW3] at hcpB
  have a3 : Apart [W.heap.size] W2 W3 := by rw [hW3]; exact (Apart.refl _ W2).drew.trans (apart_setRow _ _ _)
  have a13 : Apart [] W W3 := a12.trans' a3 (by simp)
  have r3 : W3.heap[W.heap.size]? = some (.cells (splice (splice ROW (k * 6) (E.cs u)) ((k + 1) * 6) (flatE (l.drop k))).toArray 28 (0, 0)) := by rw [hW3]; exact setRow_heap W2.drew _ _ _ 28 _ r2
  have hfin : OwnE w W3 ⟨some ⟨W.heap.size, 0, none⟩, c + 1, C⟩ (l.take k ++ [u] ++ l.drop k) := by
    refine ⟨⟨⟨by rw [flatE_length]; simp [hlen]; omega, .inr ⟨W.heap.size, C, _, rfl, Nat.zero_le _, r3, hCn, hC63, ?_, ?_⟩⟩, fun b hb => by simp [Sl.v, Value.ownBlock] at hb; subst hb; exact h.nw.ap.size, h.nw.ap.trans a13⟩, by simp [hlen]; omega⟩
    · simp only [List.size_toArray]
      rw [length_splice _ _ _ (by rw [hl2, hD]; omega), hl2]
    · have := splice_two (flatE (l.take k)) (E.cs u) (flatE (l.drop k)) ((Builtin.zeroCells zw.cells (c + 1 - k)).toList ++ (Builtin.zeroCells zw.cells (C - (c + 1))).toList) (by rw [hD]; simp [zeros_len, E.cs]; omega)
      rw [← hROW, hA, hD] at this
      rw [flatE_append, flatE_append]
      rw [show (E.cs u).length = 6 from rfl, show k * 6 + 6 = (k + 1) * 6 from by omega, show (k + 1) * 6 + (c - k) * 6 = (c + 1) * 6 from by omega] at this
      simpa [flatE] using this
  have HF := hid hfin
  have hb1 : ¬ ((k : Int) = (c : Int)) := by omega
  have hb3 : (k : Int) ≤ (c : Int) := by omega
  have hc2 := hcap.2.1
  have HCn := hid hCn
  have HC63 := hid hC63
  clear hfin hB1 r1 r2 r3 a1 a2 a12 a3 a13 hcB hcA hsplit hA hD hfl htk hcs hmx hr hcap hxl hbb hB h hlen hW1 hW2 hW3 hROW hRl hl2 hold hC hCn hC63 hGs hBs
  unfold Sl.v
  go_enter Tryd.func90, Tryd.ntmps90
  go_upto_region 10 with (first | (at_builtin; refine wpList_app2 rfl (.tmp 34) (.tmp 39) 39 3 rfl _ _ rfl rfl _ _ (hrz _) ?_))
  have hb9 : ¬ (C = k) := by have := HCn.out; omega
  have hb10 : (k : Int) ≤ (c : Int) + 1 := by omega
  have hb11 : k ≤ c + 1 := by omega
  go_upto_region 11 with (first | (at_builtin; refine wpList_copy2 rfl (.tmp 43) (.tmp 44) 39 39 rfl _ _ rfl rfl _ _ (hcpA _ _) ?_))
  have hw1 : IntKind.i64.wrap ((k : Int) + 1) = (k : Int) + 1 := by rw [IntKind.wrap_i64]; omega
  have hb12 : (0 : Int) ≤ (k : Int) + 1 := by omega
  have hb4 : (k : Int) + 1 ≤ (c : Int) + 1 := by omega
  have htn : ((k : Int) + 1).toNat = k + 1 := by omega
  have hb5 : ¬ (C = k + 1) := by have := HCn.out; omega
  have hb6 : ¬ (c = k) := by omega
  refine wp_region_held_drew (S := fun _ => True) (by kernel_rfl) trivial (fun hHeld => ?_)
  refine wpAnyH_take (i := 0) (oi := ⟨some 46, _, _, _, _, _⟩) (v := (.slice (some ⟨W.heap.size, 0, none⟩) (c + 1) C)) rfl (by kernel_rfl) (by kernel_rfl) (by kernel_rfl) (fun _ _ _ h => h) (Or.inl ⟨by rfl, ?_⟩) (by assumption) ?_
  · intro W hSW; go_simp
  simp only [Act.put, List.setIfInBounds_toArray, List.set_cons_zero, List.set_cons_succ]
  refine wpAnyH_take (i := 1) (oi := ⟨some 47, _, _, _, _, _⟩) (v := (.int .i64 (k : Int))) rfl (by kernel_rfl) (by kernel_rfl) (by kernel_rfl) (fun _ _ _ h => h) (Or.inl ⟨by rfl, ?_⟩) (by assumption) ?_
  · intro W hSW; go_simp
  simp only [Act.put, List.setIfInBounds_toArray, List.set_cons_zero, List.set_cons_succ]
  refine wpAnyH_take (i := 2) (oi := ⟨some 48, _, _, _, _, _⟩) (v := (.int .i64 1)) rfl (by kernel_rfl) (by kernel_rfl) (by kernel_rfl) (fun _ _ _ h => h) (Or.inl ⟨by rfl, ?_⟩) (by assumption) ?_
  · intro W hSW; go_simp
  simp only [Act.put, List.setIfInBounds_toArray, List.set_cons_zero, List.set_cons_succ]
  refine wpAnyH_take (i := 3) (oi := ⟨some 49, _, _, _, _, _⟩) (v := (.int .i64 ((k : Int) + 1))) rfl (by kernel_rfl) (by kernel_rfl) (by kernel_rfl) (fun _ _ _ h => h) (Or.inl ⟨by rfl, ?_⟩) (by assumption) ?_
  · intro W hSW; go_simp
  simp only [Act.put, List.setIfInBounds_toArray, List.set_cons_zero, List.set_cons_succ]
  refine wpAnyH_take (i := 4) (oi := ⟨some 50, _, _, _, _, _⟩) (v := (.slice (some ⟨W.heap.size, (k + 1) * 6, none⟩) (c + 1 - (k + 1)) (C - (k + 1)))) rfl (by kernel_rfl) (by kernel_rfl) (by kernel_rfl) (fun _ _ _ h => h) (Or.inl ⟨by rfl, ?_⟩) (by assumption) ?_
  · intro W hSW; go_simp
  simp only [Act.put, List.setIfInBounds_toArray, List.set_cons_zero, List.set_cons_succ]
  refine wpAnyH_take (i := 5) (oi := ⟨some 51, _, _, _, _, _⟩) (v := (.slice (some ⟨G, 0, none⟩) c c)) rfl (by kernel_rfl) (by kernel_rfl) (by kernel_rfl) (fun _ _ _ h => h) (Or.inl ⟨by rfl, ?_⟩) (by assumption) ?_
  · intro W hSW; go_simp
  simp only [Act.put, List.setIfInBounds_toArray, List.set_cons_zero, List.set_cons_succ]
  refine wpAnyH_take (i := 6) (oi := ⟨some 52, _, _, _, _, _⟩) (v := (.int .i64 (k : Int))) rfl (by kernel_rfl) (by kernel_rfl) (by kernel_rfl) (fun _ _ _ h => h) (Or.inl ⟨by rfl, ?_⟩) (by assumption) ?_
  · intro W hSW; go_simp
  simp only [Act.put, List.setIfInBounds_toArray, List.set_cons_zero, List.set_cons_succ]
  refine wpAnyH_take (i := 7) (oi := ⟨some 53, _, _, _, _, _⟩) (v := (.slice (some ⟨G, k * 6, none⟩) (c - k) (c - k))) rfl (by kernel_rfl) (by kernel_rfl) (by kernel_rfl) (fun _ _ _ h => h) (Or.inl ⟨by rfl, ?_⟩) (by assumption) ?_
  · intro W hSW; go_simp
  simp only [Act.put, List.setIfInBounds_toArray, List.set_cons_zero, List.set_cons_succ]
  refine wpAnyH_ready (rs := [8]) (by kernel_rfl) (by simp) ?_
  refine AllReadyH.cons rfl (fun KK hKK => ?_) AllReadyH.nil
  refine step_copy2 (o := ⟨some 54, _, _, _, _, _⟩) rfl (.tmp 50) (.tmp 53) 39 39 rfl _ _ rfl rfl _ _ (hcpB _ _ _) ?_
  refine hKK.out _ _ (by first | assumption | trivial) (fun hHeld => ?_)
  clear hKK KK
  refine wpAnyH_done (by kernel_rfl) ?_ _
  simp only [Act.put, List.setIfInBounds_toArray, List.set_cons_zero, List.set_cons_succ]
  go_wp2
  go_ret
  exact ⟨⟨some ⟨W.heap.size, 0, none⟩, c + 1, C⟩, rfl, by simpa using HF.out⟩
theorem ins_ok : InsOk := by
  intro w W s l u k B h hn hk hB
  by_cases h1 : k = s.n
  · subst h1
    have e1 : l.take s.n = l := List.take_of_length_le (by rw [h.len]; exact Nat.le_refl _)
    have e2 : l.drop s.n = [] := List.drop_eq_nil_of_le (by rw [h.len]; exact Nat.le_refl _)
    rw [e1, e2, List.append_nil]
    exact ins_end w W s l u B h hn hB
  · by_cases h2 : s.n + 1 ≤ s.c
    · exact ins_shift w W s l u k B h hn (by omega) h2 hB
    · exact ins_grow w W s l u k B h hn (by omega) (by omega) hB
end Go.Proofs.YtokaeiahhmaokaaDoor.ds
namespace Go.Proofs.YtokaeiahhmaokaaDoor.ds
open Go.ChangeShapes Go.WideShapes Go.ChangeAt Go.RowKit Go.Sort
set_option linter.unusedVariables false
set_option linter.unusedSimpArgs false
/-- blocks ahead of lo and from hi on are as they were -/
structure Fr (lo hi : Nat) (w w' : World) : Prop where
  os : w'.os = w.os
  tape : w'.tape = w.tape
  output : w'.output = w.output
  size : w.heap.size ≤ w'.heap.size
  block : ∀ k, k < w.heap.size → (k < lo ∨ hi ≤ k) → w'.heap[k]? = w.heap[k]?
theorem Apart.fr {X : List Nat} {a b : World} (h : Apart X a b) {lo hi : Nat} (hX : ∀ x ∈ X, lo ≤ x ∧ x < hi) : Fr lo hi a b :=
  ⟨h.os, h.tape, h.output, h.size, fun k hk hx => h.block k hk (fun m => by have := hX k m; omega)⟩
theorem Apart.fr0 {a b : World} (h : Apart [] a b) (lo hi : Nat) : Fr lo hi a b := h.fr (by simp)
theorem own_fr {w w' : World} {base : Nat} {e : TypeId} {size : Nat} {v : Value} {n : Nat} {xs : List Value} {lo hi : Nat} (h : w.ownsRow base e size v n xs) (a : Fr lo hi w w') (hx : ∀ k, v.ownBlock = some k → k < lo ∨ hi ≤ k) : w'.ownsRow base e size v n xs := by
  obtain ⟨hl, ⟨hv, hz⟩ | ⟨g, cap, cur, rfl, hb, hr, hrest⟩⟩ := h
  · exact ⟨hl, .inl ⟨hv, hz⟩⟩
  · exact ⟨hl, .inr ⟨g, cap, cur, rfl, hb, (a.block g (lt_of_heap hr) (hx g rfl)).trans hr, hrest⟩⟩
theorem flatE_setW (es : List E) (e : E) : ∀ (k : Nat), k < es.length → flatE (es.set k e) = ((((((flatE es).set (k * 6) (.int .i64 e.n)).set (k * 6 + 1) (.int .i64 e.c)).set (k * 6 + 2) (.string e.k)).set (k * 6 + 3) (.bool e.d)).set (k * 6 + 4) e.v.v).set (k * 6 + 5) e.x.v := by
  induction es with
  | nil => intro k hk; simp at hk
  | cons a l ih =>
    intro k hk
    match k with
    | 0 => simp [flatE, E.cs]
    | k + 1 =>
      have := ih k (by simpa using hk)
      rw [show (k + 1) * 6 = k * 6 + 6 from by omega]
      show E.cs a ++ flatE (l.set k e) = _
      rw [this]; rfl
end Go.Proofs.YtokaeiahhmaokaaDoor.ds
namespace Go.Proofs.YtokaeiahhmaokaaDoor.ds
open Go.ChangeShapes Go.WideShapes Go.ChangeAt Go.RowKit Go.Sort
set_option linter.unusedVariables false
set_option linter.unusedSimpArgs false
def set6 (w : World) (g o : Nat) (e : E) : World := (((((w.setCell ⟨g, o, none⟩ (.int .i64 e.n)).setCell ⟨g, o + 1, none⟩ (.int .i64 e.c)).setCell ⟨g, o + 2, none⟩ (.string e.k)).setCell ⟨g, o + 3, none⟩ (.bool e.d)).setCell ⟨g, o + 4, none⟩ e.v.v).setCell ⟨g, o + 5, none⟩ e.x.v
theorem apart_set6 (w : World) (g o : Nat) (e : E) : Apart [g] w (set6 w g o e) := (((((((Apart.refl _ _).setCell (.inl (by simp)) _).setCell (.inl (by simp)) _).setCell (.inl (by simp)) _).setCell (.inl (by simp)) _).setCell (.inl (by simp)) _).setCell (.inl (by simp)) _)
theorem own_set6 {w : World} {G n c : Nat} {es : List E} (h : w.ownsRow 0 28 6 (.slice (some ⟨G, 0, none⟩) n c) n (flatE es)) (i : Nat) (hi : i < es.length) (e : E) : (set6 w G (i * 6) e).ownsRow 0 28 6 (.slice (some ⟨G, 0, none⟩) n c) n (flatE (es.set i e)) := by
  rw [flatE_setW es e i hi]
  exact ((((((h.stored (i * 6) _).1.stored (i * 6 + 1) _).1.stored (i * 6 + 2) _).1.stored (i * 6 + 3) _).1.stored (i * 6 + 4) _).1.stored (i * 6 + 5) _).1
end Go.Proofs.YtokaeiahhmaokaaDoor.ds
