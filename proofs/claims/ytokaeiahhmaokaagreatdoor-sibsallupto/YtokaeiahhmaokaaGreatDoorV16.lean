import Derived.Test.YtokaeiahhmaokaaGreatDoorV1
import Derived.Test.YtokaeiahhmaokaaGreatDoorV15
namespace Go.Proofs.YtokaeiahhmaokaaGreatDoor.ds
open Go.ChangeShapes Go.WideShapes Go.ChangeAt Go.RowKit Go.Sort
set_option linter.unusedVariables false
set_option linter.unusedSimpArgs false
theorem splice_two {α : Type} (A U D Z : List α) (hZ : U.length + D.length ≤ Z.length) :
    (splice (splice (A ++ Z) A.length U) (A.length + U.length) D).take (A.length + U.length + D.length) = A ++ U ++ D := by
  have e1 : splice (A ++ Z) A.length U = A ++ U ++ Z.drop U.length := by
    unfold splice
    rw [List.take_append_of_le_length (Nat.le_refl _), List.take_of_length_le (Nat.le_refl _), List.drop_append, List.drop_eq_nil_of_le (by omega : A.length ≤ A.length + U.length)]
    simp
  rw [e1]
  unfold splice
  have e2 : (A ++ U ++ Z.drop U.length).take (A.length + U.length) = A ++ U := by
    rw [List.take_append_of_le_length (by simp)]
    exact List.take_of_length_le (by simp)
  rw [e2, ← List.append_assoc, List.take_append_of_le_length (by simp; omega)]
  exact List.take_of_length_le (by simp; omega)
theorem firstE {w : World} {G k c : Nat} {l : List E} {i0 : TypeInfo} (hz1 : i0.size = 6) (hc : ∀ j v, (flatE (l.take k))[j]? = some v → w.drew.cell? ⟨G, j, none⟩ = some v) (hk : k ≤ l.length) : (Builtin.firstCells i0.size k (.slice (some ⟨G, 0, none⟩) k c)).run Tryz.prog w.drew = .ok (flatE (l.take k)).toArray w.drew := by
  rw [hz1]
  exact run_firstCells_some w.drew 6 k ⟨G, 0, none⟩ k c (flatE (l.take k)) (by rw [flatE_length]; simp; omega) (fun j v hj => by rw [Addr.add_lit, Nat.zero_add]; exact hc j v hj)
def zw : Value := .agg #[.int .i64 0, .int .i64 0, .string ⟨#[]⟩, .bool false, .slice none 0 0, .slice none 0 0]
theorem zeros_len (k : Nat) : (Builtin.zeroCells zw.cells k).size = k * 6 := by simp [Builtin.zeroCells, zw, Value.cells]
set_option maxHeartbeats 4000000 in
set_option maxRecDepth 100000 in
theorem ins_grow (w W : World) (s : Sl) (l : List E) (u : E) (k B : Nat) (h : OwnE w W s l) (hn : s.n ≤ 1500000) (hk : k < s.n) (hroom : s.c < s.n + 1) (hB : Cap W B u) : Calls Tryz.prog 85 #[s.v, .int .i64 (k : Int), .slice (some ⟨B, 0, none⟩) 1 1] W fun r W' => ∃ s', r = .returned (Sl.v s') ∧ OwnE w W' s' (l.take k ++ [u] ++ l.drop k) := by
  obtain ⟨i0, hi, hz0, hz1, hz2⟩ := info_parts infoW
  have hsz : (Tryz.prog.info? 28).map (·.size) = some 6 := size28
  obtain ⟨p, n, c⟩ := s
  simp only at hn hk hroom
  have hcap := h.cap
  simp only at hcap
  obtain ⟨hxl, ⟨hv, hz⟩ | ⟨G, cap, cur, hv, hbb, hr, hle, hmx, hcs, htk⟩⟩ := h.nw.own
  · unfold Sl.v at hv; simp at hv; omega
  unfold Sl.v at hv
  simp at hv
  obtain ⟨rfl, rfl⟩ := hv
  obtain rfl : c = n := by omega
  have hlen : l.length = c := h.len
  have hfl := flatE_length l
  have hsplit : flatE l = flatE (l.take k) ++ flatE (l.drop k) := by rw [← flatE_append, List.take_append_drop]
  have hD : (flatE (l.drop k)).length = (c - k) * 6 := by rw [flatE_length]; simp [hlen]
  have hA : (flatE (l.take k)).length = k * 6 := by rw [flatE_length]; simp [hlen]; omega
  have hGs : G < W.heap.size := lt_of_heap hr
  have hBs : B < W.heap.size := lt_of_heap hB
  have hcA : ∀ j v, (flatE (l.take k))[j]? = some v → W.drew.cell? ⟨G, j, none⟩ = some v := fun j v hj => by
    have hjl : j < k * 6 := by
      by_cases hc : j < k * 6
      · exact hc
      · rw [List.getElem?_eq_none (by omega)] at hj; cases hj
    exact (h.nw.own.cellAt j (by show j < c * 6; omega)).trans (by rw [hsplit, List.getElem?_append_left (by omega)]; exact hj)
  have hold := firstE (c := c) hz1 hcA (by omega)
  obtain ⟨C, hC⟩ : ∃ C, C = grownCap W (c + 1) c 28 := ⟨_, rfl⟩
  obtain ⟨ROW, hROW⟩ : ∃ ROW : List Value, ROW = flatE (l.take k) ++ ((Builtin.zeroCells zw.cells (c + 1 - k)).toList ++ (Builtin.zeroCells zw.cells (C - (c + 1))).toList) := ⟨_, rfl⟩
  have hCn : c + 1 ≤ C := by rw [hC]; exact grownCap_ge W _ _ _
  have hC63 : C ≤ maxLen := by rw [hC]; exact grownCap_le_maxLen W (c + 1) c 28 (by unfold maxLen; omega)
  have hRl : ROW.length = C * 6 := by rw [hROW]; simp [zeros_len, hA]; omega
  have hrz : ∀ ty, (Builtin.append_ #[35, 3] ty #[.slice (some ⟨G, 0, none⟩) k c, .int .i64 ((c : Int) + 1 - (k : Int))]).run Tryz.prog W = .ok (.slice (some ⟨W.heap.size, 0, none⟩) (c + 1) C) (W.drew.alloc (.cells ROW.toArray 28)) := fun ty => by
    have hh := Lib.run_append_grow_zeros W 35 3 ty 28 i0 zw .i64 .i64 Tryz.underlying35 Tryz.underlying3 hi hz0 (some ⟨G, 0, none⟩) k c (flatE (l.take k)) hold (c + 1 - k) (by omega) (by omega) (by omega) (by omega) (by rw [hz2]; omega) (by rw [hz2, show k + (c + 1 - k) = c + 1 from by omega]; exact growslice_fits hroom (by omega))
    rw [show k + (c + 1 - k) = c + 1 from by omega, ← hC] at hh
    rw [show (c : Int) + 1 - (k : Int) = ((c + 1 - k : Nat) : Int) from by omega, hh, hROW]
    have e3 : (flatE (l.take k)).toArray ++ Builtin.zeroCells zw.cells (c + 1 - k) ++ Builtin.zeroCells zw.cells (C - (c + 1)) = (flatE (l.take k) ++ ((Builtin.zeroCells zw.cells (c + 1 - k)).toList ++ (Builtin.zeroCells zw.cells (C - (c + 1))).toList)).toArray := by
      apply Array.toList_inj.1
      simp
    rw [e3]
  obtain ⟨W1, hW1⟩ : ∃ W1, W1 = W.drew.alloc (.cells ROW.toArray 28) := ⟨_, rfl⟩
  rw [← hW1] at hrz
  have a1 : Apart [] W W1 := by rw [hW1]; exact (Apart.refl [] W).drew.alloc _
  have r1 : W1.heap[W.heap.size]? = some (.cells ROW.toArray 28 (0, 0)) := by rw [hW1]; exact heap_alloc_new W.drew _
  have hB1 := (a1.block B hBs (by simp)).trans hB
  have hcpA : ∀ ty dc, (Builtin.copy_ #[35, 35] ty #[.slice (some ⟨W.heap.size, k * 6, none⟩) (c + 1 - k) dc, .slice (some ⟨B, 0, none⟩) 1 1]).run Tryz.prog W1 = .ok (goInt ((1 : Nat) : Int)) (W1.setRow W.heap.size (splice ROW (k * 6) (E.cs u)).toArray) := fun ty dc =>
    run_copy_rowN W1 35 35 ty 28 6 W.heap.size (k * 6) (c + 1 - k) dc ⟨B, 0, none⟩ 1 1 1 ROW 28 (E.cs u) Tryz.underlying35 hsz r1 (by simp only [Nat.min_def]; split <;> omega) rfl (fun j v hj => by rw [Addr.add_lit, Nat.zero_add, cell_of_row _ _ _ _ _ _ hB1]; simpa [E.cs] using hj) (by rw [hRl]; simp [E.cs]; omega) (fun v hv => oneE [u] v (by simpa [flatE] using hv))
  obtain ⟨W2, hW2⟩ : ∃ W2, W2 = W1.setRow W.heap.size (splice ROW (k * 6) (E.cs u)).toArray := ⟨_, rfl⟩
  rw [← hW2] at hcpA
  have a2 : Apart [W.heap.size] W1 W2 := by rw [hW2]; exact apart_setRow _ _ _
  have a12 : Apart [] W W2 := a1.trans' a2 (by simp)
  have r2 : W2.heap[W.heap.size]? = some (.cells (splice ROW (k * 6) (E.cs u)).toArray 28 (0, 0)) := by rw [hW2]; exact setRow_heap W1 _ _ _ 28 _ r1
  have hl2 : (splice ROW (k * 6) (E.cs u)).length = C * 6 := by rw [length_splice _ _ _ (by rw [hRl]; simp [E.cs]; omega), hRl]
  have hcB : ∀ j v, (flatE (l.drop k))[j]? = some v → W2.drew.cell? ((⟨G, k * 6, none⟩ : Addr).add j) = some v := fun j v hj => by
    rw [← drop_flat, List.getElem?_drop] at hj
    rw [Addr.add_lit]
    have e1 : W2.drew.cell? ⟨G, k * 6 + j, none⟩ = W.cell? ⟨G, k * 6 + j, none⟩ := a12.drew.cell hGs (by simp)
    rw [e1]
    exact (h.nw.own.cellAt (k * 6 + j) (by
      show k * 6 + j < c * 6
      rw [hlen] at hfl
      by_cases hc : k * 6 + j < c * 6
      · omega
      · rw [List.getElem?_eq_none (by omega)] at hj; cases hj)).trans hj
  have hcpB : ∀ ty dc sc, (Builtin.copy_ #[35, 35] ty #[.slice (some ⟨W.heap.size, (k + 1) * 6, none⟩) (c + 1 - (k + 1)) dc, .slice (some ⟨G, k * 6, none⟩) (c - k) sc]).run Tryz.prog W2.drew = .ok (goInt ((c - k : Nat) : Int)) (W2.drew.setRow W.heap.size (splice (splice ROW (k * 6) (E.cs u)) ((k + 1) * 6) (flatE (l.drop k))).toArray) := fun ty dc sc =>
    run_copy_rowN W2.drew 35 35 ty 28 6 W.heap.size ((k + 1) * 6) (c + 1 - (k + 1)) dc ⟨G, k * 6, none⟩ (c - k) sc (c - k) _ 28 (flatE (l.drop k)) Tryz.underlying35 hsz r2 (by simp only [Nat.min_def]; split <;> omega) hD hcB (by rw [hD, hl2]; omega) (oneE _)
  obtain ⟨W3, hW3⟩ : ∃ W3, W3 = W2.drew.setRow W.heap.size (splice (splice ROW (k * 6) (E.cs u)) ((k + 1) * 6) (flatE (l.drop k))).toArray := ⟨_, rfl⟩
  rw [← hW3] at hcpB
  have a3 : Apart [W.heap.size] W2 W3 := by rw [hW3]; exact (Apart.refl _ W2).drew.trans (apart_setRow _ _ _)
  have a13 : Apart [] W W3 := a12.trans' a3 (by simp)
  have r3 : W3.heap[W.heap.size]? = some (.cells (splice (splice ROW (k * 6) (E.cs u)) ((k + 1) * 6) (flatE (l.drop k))).toArray 28 (0, 0)) := by rw [hW3]; exact setRow_heap W2.drew _ _ _ 28 _ r2
  have hfin : OwnE w W3 ⟨some ⟨W.heap.size, 0, none⟩, c + 1, C⟩ (l.take k ++ [u] ++ l.drop k) := by
    refine ⟨⟨⟨by rw [flatE_length]; simp [hlen]; omega, .inr ⟨W.heap.size, C, _, rfl, Nat.zero_le _, r3, hCn, hC63, ?_, ?_⟩⟩, fun b hb => by simp [Sl.v, Value.ownBlock] at hb; subst hb; exact h.nw.ap.size, h.nw.ap.trans a13⟩, by simp [hlen]; omega⟩
    · simp only [List.size_toArray]
      rw [length_splice _ _ _ (by rw [hl2, hD]; omega), hl2]
    · have := splice_two (flatE (l.take k)) (E.cs u) (flatE (l.drop k)) ((Builtin.zeroCells zw.cells (c + 1 - k)).toList ++ (Builtin.zeroCells zw.cells (C - (c + 1))).toList) (by rw [hD]; simp [zeros_len, E.cs]; omega)
      rw [← hROW, hA, hD] at this
      rw [flatE_append, flatE_append]
      rw [show (E.cs u).length = 6 from rfl, show k * 6 + 6 = (k + 1) * 6 from by omega, show (k + 1) * 6 + (c - k) * 6 = (c + 1) * 6 from by omega] at this
      simpa [flatE] using this
  have HF := hid hfin
  have hb1 : ¬ ((k : Int) = (c : Int)) := by omega
  have hb3 : (k : Int) ≤ (c : Int) := by omega
  have hc2 := hcap.2.1
  have HCn := hid hCn
  have HC63 := hid hC63
  clear hfin hB1 r1 r2 r3 a1 a2 a12 a3 a13 hcB hcA hsplit hA hD hfl htk hcs hmx hr hcap hxl hbb hB h hlen hW1 hW2 hW3 hROW hRl hl2 hold hC hCn hC63 hGs hBs
  unfold Sl.v
  go_enter Tryz.func85, Tryz.ntmps85
  go_upto_region 10 with (first | (at_builtin; refine wpList_app2 rfl (.tmp 34) (.tmp 39) 35 3 rfl _ _ rfl rfl _ _ (hrz _) ?_))
  have hb9 : ¬ (C = k) := by have := HCn.out; omega
  have hb10 : (k : Int) ≤ (c : Int) + 1 := by omega
  have hb11 : k ≤ c + 1 := by omega
  go_upto_region 11 with (first | (at_builtin; refine wpList_copy2 rfl (.tmp 43) (.tmp 44) 35 35 rfl _ _ rfl rfl _ _ (hcpA _ _) ?_))
  have hw1 : IntKind.i64.wrap ((k : Int) + 1) = (k : Int) + 1 := by rw [IntKind.wrap_i64]; omega
  have hb12 : (0 : Int) ≤ (k : Int) + 1 := by omega
  have hb4 : (k : Int) + 1 ≤ (c : Int) + 1 := by omega
  have htn : ((k : Int) + 1).toNat = k + 1 := by omega
  have hb5 : ¬ (C = k + 1) := by have := HCn.out; omega
  have hb6 : ¬ (c = k) := by omega
  refine wp_region_held_drew (S := fun _ => True) (by kernel_rfl) trivial (fun hHeld => ?_)
  refine tk 0 46 (.slice (some ⟨W.heap.size, 0, none⟩) (c + 1) C) rfl ?_ ?_
  · intro W hSW; go_simp
  simp only [Act.put, List.setIfInBounds_toArray, List.set_cons_zero, List.set_cons_succ]
  refine tk 1 47 (.int .i64 (k : Int)) rfl ?_ ?_
  · intro W hSW; go_simp
  simp only [Act.put, List.setIfInBounds_toArray, List.set_cons_zero, List.set_cons_succ]
  refine tk 2 48 (.int .i64 1) rfl ?_ ?_
  · intro W hSW; go_simp
  simp only [Act.put, List.setIfInBounds_toArray, List.set_cons_zero, List.set_cons_succ]
  refine tk 3 49 (.int .i64 ((k : Int) + 1)) rfl ?_ ?_
  · intro W hSW; go_simp
  simp only [Act.put, List.setIfInBounds_toArray, List.set_cons_zero, List.set_cons_succ]
  refine tk 4 50 (.slice (some ⟨W.heap.size, (k + 1) * 6, none⟩) (c + 1 - (k + 1)) (C - (k + 1))) rfl ?_ ?_
  · intro W hSW; go_simp
  simp only [Act.put, List.setIfInBounds_toArray, List.set_cons_zero, List.set_cons_succ]
  refine tk 5 51 (.slice (some ⟨G, 0, none⟩) c c) rfl ?_ ?_
  · intro W hSW; go_simp
  simp only [Act.put, List.setIfInBounds_toArray, List.set_cons_zero, List.set_cons_succ]
  refine tk 6 52 (.int .i64 (k : Int)) rfl ?_ ?_
  · intro W hSW; go_simp
  simp only [Act.put, List.setIfInBounds_toArray, List.set_cons_zero, List.set_cons_succ]
  refine tk 7 53 (.slice (some ⟨G, k * 6, none⟩) (c - k) (c - k)) rfl ?_ ?_
  · intro W hSW; go_simp
  simp only [Act.put, List.setIfInBounds_toArray, List.set_cons_zero, List.set_cons_succ]
  refine wpAnyH_ready (rs := [8]) (by kernel_rfl) (by simp) ?_
  refine AllReadyH.cons rfl (fun KK hKK => ?_) AllReadyH.nil
  refine step_copy2 (o := ⟨some 54, _, _, _, _, _⟩) rfl (.tmp 50) (.tmp 53) 35 35 rfl _ _ rfl rfl _ _ (hcpB _ _ _) ?_
  refine hKK.out _ _ (by first | assumption | trivial) (fun hHeld => ?_)
  clear hKK KK
  refine wpAnyH_done (by kernel_rfl) ?_ _
  simp only [Act.put, List.setIfInBounds_toArray, List.set_cons_zero, List.set_cons_succ]
  go_wp2
  go_ret
  exact ⟨⟨some ⟨W.heap.size, 0, none⟩, c + 1, C⟩, rfl, by simpa using HF.out⟩
theorem ins_ok : InsOk := by
  intro w W s l u k B h hn hk hB
  by_cases h1 : k = s.n
  · subst h1
    have e1 : l.take s.n = l := List.take_of_length_le (by rw [h.len]; exact Nat.le_refl _)
    have e2 : l.drop s.n = [] := List.drop_eq_nil_of_le (by rw [h.len]; exact Nat.le_refl _)
    rw [e1, e2, List.append_nil]
    exact ins_end w W s l u B h hn hB
  · by_cases h2 : s.n + 1 ≤ s.c
    · exact ins_shift w W s l u k B h hn (by omega) h2 hB
    · exact ins_grow w W s l u k B h hn (by omega) (by omega) hB
end Go.Proofs.YtokaeiahhmaokaaGreatDoor.ds
namespace Go.Proofs.YtokaeiahhmaokaaGreatDoor.ds
open Go.ChangeShapes Go.WideShapes Go.ChangeAt Go.RowKit Go.Sort
set_option linter.unusedVariables false
set_option linter.unusedSimpArgs false
theorem LI.start (w : World) (rs : List Wr) : LI w (w.alloc (.cells #[.slice none 0 0, .slice none 0 0, .slice none 0 0] 62)) w.heap.size ⟨none, 0, 0⟩ ⟨none, 0, 0⟩ ⟨none, 0, 0⟩ [] [] [] rs 0 := by
  have a : Apart [] w (w.alloc (.cells #[.slice none 0 0, .slice none 0 0, .slice none 0 0] 62)) := (Apart.refl [] w).alloc _
  have nw : ∀ e size, Nw w (w.alloc (.cells #[.slice none 0 0, .slice none 0 0, .slice none 0 0] 62)) e size ⟨none, 0, 0⟩ [] := fun e size => ⟨World.ownsRow_nil _ _ _ _, by simp [Sl.v, Value.ownBlock], a⟩
  exact ⟨⟨heap_alloc_new w _, Nat.le_refl _, nw _ _, nw _ _, nw _ _, a⟩, rfl, rfl, rfl, rfl, rfl, rfl, fun j hj => absurd hj (by omega), fun j hj => absurd hj (by omega), fun j hj => absurd hj (by omega), fun j m _ hj => absurd hj (by omega), fun j m _ hj => absurd hj (by omega)⟩
/-- all that a round of lend makes -/
structure Rnd (w0 wr : World) (LB : Nat) (s vv xx : Sl) (fs : List E) (vs xs : List Sl) (rs : List Wr) (i : Nat) (e : E) (s1 s2 s3 s4 s5 s6 s9 : Sl) (w1 w2 w3 w4 w5 w6 w9 w10 : World) : Prop where
  r1 : (Builtin.append_ #[25, 25] 25 #[.slice none 0 0, e.v.v]).run Tryz.prog wr = .ok s1.v w1
  r2 : (Builtin.append_ #[25, 25] 25 #[s1.v, .slice (some ⟨w1.heap.size, 0, none⟩) 2 2]).run Tryz.prog (w1.alloc (.cells #[.int .u8 7, .int .u8 8] 5)) = .ok s2.v w2
  r3 : (Builtin.append_ #[26, 26] 26 #[.slice none 0 0, e.x.v]).run Tryz.prog w2 = .ok s3.v w3
  r4 : (Builtin.append_ #[26, 26] 26 #[s3.v, .slice (some ⟨w3.heap.size, 0, none⟩) 2 2]).run Tryz.prog (w3.alloc (.cells #[.int .i64 77, .int .i64 0, .int .u64 0, .int .i64 78, .int .i64 0, .int .u64 0] 47)) = .ok s4.v w4
  r5 : (Builtin.append_ #[60, 60] 60 #[vv.v, .slice (some ⟨w4.heap.size, 0, none⟩) 1 1]).run Tryz.prog (w4.alloc (.cells #[s2.v] 25)) = .ok s5.v w5
  r6 : (Builtin.append_ #[29, 29] 29 #[xx.v, .slice (some ⟨(w5.setCell ⟨LB, 1, none⟩ s5.v).heap.size, 0, none⟩) 1 1]).run Tryz.prog ((w5.setCell ⟨LB, 1, none⟩ s5.v).alloc (.cells #[s4.v] 26)) = .ok s6.v w6
  e9 : w9 = (w6.setCell ⟨LB, 2, none⟩ s6.v).alloc (boxE (lentE e s2 s4))
  r9 : (Builtin.append_ #[35, 35] 35 #[s.v, .slice (some ⟨w9.drew.heap.size, 0, none⟩) 1 1]).run Tryz.prog (w9.drew.alloc (boxE (lentE e s2 s4))) = .ok s9.v w10
  a2 : Apart [] w0 w2
  a5 : Apart [] w0 w5
  a6 : Apart [] w0 w6
  b4 : w4.heap[LB]? = some (.cells #[s.v, vv.v, xx.v] 62 (0, 0))
  b5 : w5.heap[LB]? = some (.cells #[s.v, vv.v, xx.v] 62 (0, 0))
  b6 : w6.heap[LB]? = some (.cells #[s.v, s5.v, xx.v] 62 (0, 0))
  b9 : w9.heap[LB]? = some (.cells #[s.v, s5.v, s6.v] 62 (0, 0))
  b10 : w10.heap[LB]? = some (.cells #[s.v, s5.v, s6.v] 62 (0, 0))
  m2 : e.v.n ≤ s2.c
  m4 : e.x.n ≤ s4.c
  p2 : ∃ k, s2.p = some ⟨k, 0, none⟩
  p4 : ∃ k, s4.p = some ⟨k, 0, none⟩
  n2 : s2.n = e.v.n + 2
  n4 : s4.n = e.x.n + 2
  li : LI w0 (w10.setCell ⟨LB, 0, none⟩ s9.v) LB s9 s5 s6 (fs ++ [lentE e s2 s4]) (vs ++ [s2]) (xs ++ [s4]) rs (i + 1)
theorem LI.round {w0 wr : World} {LB : Nat} {s vv xx : Sl} {fs : List E} {vs xs : List Sl} {rs : List Wr} {i : Nat} (h : LI w0 wr LB s vv xx fs vs xs rs i) (hi : i ≤ 1500000) (e : E) (he : Reads w0 e (gR rs i)) :
    ∃ s1 s2 s3 s4 s5 s6 s9 w1 w2 w3 w4 w5 w6 w9 w10, Rnd w0 wr LB s vv xx fs vs xs rs i e s1 s2 s3 s4 s5 s6 s9 w1 w2 w3 w4 w5 w6 w9 w10 := by
  have hr := he.kept0 h.lr.ap
  obtain ⟨s1, w1, s2, w2, s3, w3, s4, w4, r1, r2, r3, r4, a1, a2, a3, a4, nV, nX, n2, n4, p2, p4, m2, m4⟩ := lent_parts wr e (gR rs i) hr
  have lr4 := h.lr.kept0 a4
  obtain ⟨s5, w5, r5, b5, a5, lr5, n5, k5⟩ := lr4.addV s2 (by rw [h.vvn]; omega)
  obtain ⟨s6, w6, r6, b6, a6, lr6, n6, k6⟩ := lr5.addX s4 (by rw [h.xxn]; omega)
  obtain ⟨w9, e9⟩ : ∃ w9, w9 = (w6.setCell ⟨LB, 2, none⟩ s6.v).alloc (boxE (lentE e s2 s4)) := ⟨_, rfl⟩
  have a9 : Apart [] (w6.setCell ⟨LB, 2, none⟩ s6.v) w9 := by
    rw [e9]
    exact (Apart.refl [] _).alloc _
  have lr9 := lr6.kept0 a9
  obtain ⟨s9, w10, r9, b10, a10, lr10, n10, k10⟩ := (lr6.kept0 a9.drew).addE (lentE e s2 s4) (by rw [h.sn]; omega)
  have kt4 := KeepT.of0 a4
  have kt : KeepT w4 (w10.setCell ⟨LB, 0, none⟩ s9.v) := ((k5.trans k6).trans (KeepT.of0 a9.drew)).trans k10
  have hvl := hr.vl
  have hxl := hr.xl
  have one : One w4 (lentE e s2 s4) s2 s4 (gR rs i) :=
    ⟨hr.n, hr.c, hr.k, hr.d, hr.vb, by rw [hr.vn]; exact hr.vl, by rw [hr.x.len]; exact hr.xl, hr.x.fit, nV.own, by rw [hr.vn]; exact n2, p2, by show (⟨s2.p, e.v.n, s2.c⟩ : Sl) = _; rw [hr.vn], nX.own, by rw [hr.x.len]; exact n4, p4, by show (⟨s4.p, e.x.n, s4.c⟩ : Sl) = _; rw [hr.x.len]⟩
  have lr10' : LR w0 (w10.setCell ⟨LB, 0, none⟩ s9.v) LB s9 s5 s6 (flatE (fs ++ [lentE e s2 s4])) ((vs ++ [s2]).map Sl.v) ((xs ++ [s4]).map Sl.v) := by
    rw [← flatE_snoc, List.map_append, List.map_append]
    exact lr10
  have li := h.step (lentE e s2 s4) s2 s4 lr10' (kt4.trans kt) (one.keptK kt) nV.new nX.new (by rw [n10, h.sn]) (by rw [n5, h.vvn]) (by rw [n6, h.xxn])
  exact ⟨s1, s2, s3, s4, s5, s6, s9, w1, w2, w3, w4, w5, w6, w9, w10, ⟨r1, r2, r3, r4, r5, r6, e9, r9, h.lr.ap.trans a2, a5, a6, lr4.blk, b5, b6, lr9.blk, b10, by omega, by omega, p2, p4, n2, n4, li⟩⟩
end Go.Proofs.YtokaeiahhmaokaaGreatDoor.ds
namespace Go.Proofs.YtokaeiahhmaokaaGreatDoor.ds
open Go.ChangeShapes Go.WideShapes Go.ChangeAt Go.RowKit Go.Sort
set_option linter.unusedVariables false
set_option linter.unusedSimpArgs false

/-- one more in the list -/
theorem LR.addM {w0 w : World} {LB : Nat} {s vv xx : Sl} {us vs xs : List Value} (h : LR w0 w LB s vv xx us vs xs)  (hn : s.n ≤ 2000000) :
    ∃ s' w', (Builtin.append_ #[35, 35] 35 #[s.v, .slice (some ⟨w.heap.size, 0, none⟩) 2 2]).run Tryz.prog (w.alloc (.cells (E.cs markE ++ E.cs markE).toArray 28)) = .ok (Sl.v s') w' ∧ w'.heap[LB]? = some (.cells #[s.v, vv.v, xx.v] 62 (0, 0)) ∧ Apart [] w0 w' ∧
      LR w0 (w'.setCell ⟨LB, 0, none⟩ s'.v) LB s' vv xx (us ++ (E.cs markE ++ E.cs markE)) vs xs ∧ s'.n = s.n + 2 ∧ (∃ k, s'.p = some ⟨k, 0, none⟩) ∧ KeepT w (w'.setCell ⟨LB, 0, none⟩ s'.v) := by
  obtain ⟨i0, hi, hz0, hz1, hz2⟩ := info_parts infoW
  obtain ⟨s', w', hrun, n5, hs5, ap5, k5, hk5, hc5, hkk⟩ := run_appM 35 35 28 i0 _ 6 88 Tryz.underlying35 hi hz0 hz1 hz2 rfl (by decide) h.list 2 (E.cs markE ++ E.cs markE) (by decide) rfl (fun v hv => oneE [markE, markE] v (by simpa [flatE] using hv)) (by unfold maxLen; omega) (by omega)
  have apw : Apart [] w0 w' := n5.ap
  have b5 : w'.heap[LB]? = some (.cells #[s.v, vv.v, xx.v] 62 (0, 0)) := (ap5.block LB (lt_of_heap h.blk) (fun m => own_ne h.list.own m _ (by decide) h.blk)).trans h.blk
  have ag : Apart [LB] w' (w'.setCell ⟨LB, 0, none⟩ s'.v) := (Apart.refl _ _).setCell (.inl (by simp)) _
  have b6 : (w'.setCell ⟨LB, 0, none⟩ s'.v).heap[LB]? = some (.cells #[s'.v, vv.v, xx.v] 62 (0, 0)) := by
    have := heap_setCell_same w' LB 0 _ 62 s'.v b5
    simpa using this
  refine ⟨s', w', hrun, b5, apw, ⟨b6, h.hLB, n5.keepT ag (apw.trans' ag (by simp; exact h.hLB)) (fun k hk cur => by simp at hk; subst hk; exact blk_ne b5 cur (by decide)), (h.vals.keepT ap5 apw (fun k hk cur => own_ne h.list.own hk cur (by decide))).keepT ag (apw.trans' ag (by simp; exact h.hLB)) (fun k hk cur => by simp at hk; subst hk; exact blk_ne b5 cur (by decide)), (h.ctxs.keepT ap5 apw (fun k hk cur => own_ne h.list.own hk cur (by decide))).keepT ag (apw.trans' ag (by simp; exact h.hLB)) (fun k hk cur => by simp at hk; subst hk; exact blk_ne b5 cur (by decide)), apw.trans' ag (by simp; exact h.hLB)⟩, hs5, ⟨k5, hk5⟩, ?_⟩
  exact (KeepT.of ap5 (fun k hk cur => ⟨own_ne h.list.own hk cur (by decide), own_ne h.list.own hk cur (by decide)⟩)).trans (KeepT.of ag (fun k hk cur => by simp at hk; subst hk; exact ⟨blk_ne b5 cur (by decide), blk_ne b5 cur (by decide)⟩))

theorem buildM (W : World) : Sem.run Tryz.prog (Instr.buildSlice 35 2 #[(0, markE.agg), (1, markE.agg)]) W = .ok (.slice (some ⟨W.heap.size, 0, none⟩) 2 2) (W.alloc (.cells (E.cs markE ++ E.cs markE).toArray 28)) := by
  obtain ⟨ie, hi, hz0, hz1, hz2⟩ := info_parts infoW
  refine run_buildSlice W 35 28 2 _ _ ie _ Tryz.underlying35 hi hz0 (by rw [hz1]; decide) (by rw [hz1]; decide) ?_
  rw [hz1]
  first | rfl | (simp [Instr.fill, Array.range, Value.cells, Array.ofFn, E.agg]; done) | kernel_rfl
/-- a list that is lent: its memory lies from lo on and ahead of hi -/
structure Lt (lo hi : Nat) (w : World) (LB G c : Nat) (vv xx : Sl) (fs : List E) (vs xs : List Sl) (rs : List Wr) (N : Nat) : Prop where
  blk : w.heap[LB]? = some (.cells #[.slice (some ⟨G, 0, none⟩) (N + 2) c, vv.v, xx.v] 62 (0, 0))
  list : w.ownsRow 0 28 6 (.slice (some ⟨G, 0, none⟩) (N + 2) c) (N + 2) (flatE (fs ++ [markE, markE]))
  vals : w.ownsRow 0 25 1 vv.v vv.n (vs.map Sl.v)
  ctxs : w.ownsRow 0 26 1 xx.v xx.n (xs.map Sl.v)
  fl : fs.length = N
  vl : vs.length = N
  vvn : vv.n = N
  xl : xs.length = N
  xxn : xx.n = N
  one : ∀ j, j < N → One w (gE fs j) (gS vs j) (gS xs j) (gR rs j)
  incv : ∀ j m, j < m → m < N → ∀ k q, (gS vs j).v.ownBlock = some k → (gS vs m).v.ownBlock = some q → k < q
  incx : ∀ j m, j < m → m < N → ∀ k q, (gS xs j).v.ownBlock = some k → (gS xs m).v.ownBlock = some q → k < q
  rLB : lo ≤ LB ∧ LB < hi
  rG : lo ≤ G ∧ G < hi
  rvv : ∀ k, vv.v.ownBlock = some k → lo ≤ k ∧ k < hi
  rxx : ∀ k, xx.v.ownBlock = some k → lo ≤ k ∧ k < hi
  rv : ∀ j, j < N → ∀ k, (gS vs j).v.ownBlock = some k → lo ≤ k ∧ k < hi
  rx : ∀ j, j < N → ∀ k, (gS xs j).v.ownBlock = some k → lo ≤ k ∧ k < hi
  sz : hi ≤ w.heap.size
theorem Lt.make {w0 wr W : World} {LB G : Nat} {s s' vv xx : Sl} {fs : List E} {vs xs : List Sl} {rs : List Wr} {N : Nat} (h : LI w0 wr LB s vv xx fs vs xs rs N) (lr : LR w0 W LB s' vv xx (flatE (fs ++ [markE, markE])) (vs.map Sl.v) (xs.map Sl.v)) (kt : KeepT wr W) (hp : s'.p = some ⟨G, 0, none⟩) (hn : s'.n = N + 2) : Lt w0.heap.size W.heap.size W LB G s'.c vv xx fs vs xs rs N := by
  obtain ⟨p, n, c⟩ := s'
  simp only at hp hn
  subst hp hn
  have b := lr.blk
  have l := lr.list
  have one : ∀ j, j < N → One W (gE fs j) (gS vs j) (gS xs j) (gR rs j) := fun j hj => (h.one j hj).keptK kt
  refine ⟨b, l.own, lr.vals.own, lr.ctxs.own, h.fl, h.vl, h.vvn, h.xl, h.xxn, one, h.incv, h.incx, ⟨lr.hLB, lt_of_heap b⟩, ⟨l.new G rfl, (l.own.lt G rfl).2⟩, fun k hk => ⟨lr.vals.new k hk, (lr.vals.own.lt k hk).2⟩, fun k hk => ⟨lr.ctxs.new k hk, (lr.ctxs.own.lt k hk).2⟩, fun j hj k hk => ⟨h.newv j hj k hk, ((one j hj).vo.lt k hk).2⟩, fun j hj k hk => ⟨h.newx j hj k hk, ((one j hj).xo.lt k hk).2⟩, Nat.le_refl _⟩
end Go.Proofs.YtokaeiahhmaokaaGreatDoor.ds
namespace Go.Proofs.YtokaeiahhmaokaaGreatDoor.ds
open Go.ChangeShapes Go.WideShapes Go.ChangeAt Go.RowKit Go.Sort
set_option linter.unusedVariables false
set_option linter.unusedSimpArgs false
/-- blocks ahead of lo and from hi on are as they were -/
structure Fr (lo hi : Nat) (w w' : World) : Prop where
  os : w'.os = w.os
  tape : w'.tape = w.tape
  output : w'.output = w.output
  size : w.heap.size ≤ w'.heap.size
  block : ∀ k, k < w.heap.size → (k < lo ∨ hi ≤ k) → w'.heap[k]? = w.heap[k]?
theorem Fr.refl (lo hi : Nat) (w : World) : Fr lo hi w w := ⟨rfl, rfl, rfl, Nat.le_refl _, fun _ _ _ => rfl⟩
theorem Fr.trans {lo hi : Nat} {a b c : World} (h : Fr lo hi a b) (k : Fr lo hi b c) : Fr lo hi a c :=
  ⟨k.os.trans h.os, k.tape.trans h.tape, k.output.trans h.output, Nat.le_trans h.size k.size, fun i hi hx => (k.block i (Nat.lt_of_lt_of_le hi h.size) hx).trans (h.block i hi hx)⟩
theorem Apart.fr {X : List Nat} {a b : World} (h : Apart X a b) {lo hi : Nat} (hX : ∀ x ∈ X, lo ≤ x ∧ x < hi) : Fr lo hi a b :=
  ⟨h.os, h.tape, h.output, h.size, fun k hk hx => h.block k hk (fun m => by have := hX k m; omega)⟩
theorem Apart.fr0 {a b : World} (h : Apart [] a b) (lo hi : Nat) : Fr lo hi a b := h.fr (by simp)
theorem own_fr {w w' : World} {base : Nat} {e : TypeId} {size : Nat} {v : Value} {n : Nat} {xs : List Value} {lo hi : Nat} (h : w.ownsRow base e size v n xs) (a : Fr lo hi w w') (hx : ∀ k, v.ownBlock = some k → k < lo ∨ hi ≤ k) : w'.ownsRow base e size v n xs := by
  obtain ⟨hl, ⟨hv, hz⟩ | ⟨g, cap, cur, rfl, hb, hr, hrest⟩⟩ := h
  · exact ⟨hl, .inl ⟨hv, hz⟩⟩
  · exact ⟨hl, .inr ⟨g, cap, cur, rfl, hb, (a.block g (lt_of_heap hr) (hx g rfl)).trans hr, hrest⟩⟩
theorem One.fr {w w' : World} {e : E} {v x : Sl} {r : Wr} {lo hi : Nat} (h : One w e v x r) (a : Fr lo hi w w') (hv : ∀ k, v.v.ownBlock = some k → k < lo ∨ hi ≤ k) (hx : ∀ k, x.v.ownBlock = some k → k < lo ∨ hi ≤ k) : One w' e v x r :=
  { h with vo := own_fr h.vo a hv, xo := own_fr h.xo a hx }
/-- what is lent stays where other memory was written -/
theorem Lt.fr {lo hi lo' hi' : Nat} {w w' : World} {LB G c : Nat} {vv xx : Sl} {fs : List E} {vs xs : List Sl} {rs : List Wr} {N : Nat} (h : Lt lo hi w LB G c vv xx fs vs xs rs N) (a : Fr lo' hi' w w') (ho : hi ≤ lo' ∨ hi' ≤ lo) : Lt lo hi w' LB G c vv xx fs vs xs rs N :=
  { h with
    blk := (a.block LB (lt_of_heap h.blk) (by have := h.rLB; omega)).trans h.blk
    list := own_fr h.list a (fun k hk => by simp [Value.ownBlock] at hk; subst hk; have := h.rG; omega)
    vals := own_fr h.vals a (fun k hk => by have := h.rvv k hk; omega)
    ctxs := own_fr h.ctxs a (fun k hk => by have := h.rxx k hk; omega)
    one := fun j hj => (h.one j hj).fr a (fun k hk => by have := h.rv j hj k hk; omega) (fun k hk => by have := h.rx j hj k hk; omega)
    sz := Nat.le_trans h.sz a.size }
theorem Lt.kept0 {lo hi : Nat} {w w' : World} {LB G c : Nat} {vv xx : Sl} {fs : List E} {vs xs : List Sl} {rs : List Wr} {N : Nat} (h : Lt lo hi w LB G c vv xx fs vs xs rs N) (a : Apart [] w w') : Lt lo hi w' LB G c vv xx fs vs xs rs N := h.fr (a.fr0 hi hi) (.inl (Nat.le_refl _))
/-- the list that is handed in -/
theorem Lt.LE {lo hi : Nat} {w : World} {LB G c : Nat} {vv xx : Sl} {fs : List E} {vs xs : List Sl} {rs : List Wr} {N : Nat} (h : Lt lo hi w LB G c vv xx fs vs xs rs N) (hN : N ≤ 2000000) : LE w (some ⟨G, 0, none⟩) N fs := by
  refine ⟨?_, h.fl, hN⟩
  have := Rd.own (p := some ⟨G, 0, none⟩) (n := N + 2) (cap := c) h.list
  rw [flatE_append] at this
  exact this.pre
theorem Lt.cap {lo hi : Nat} {w : World} {LB G c : Nat} {vv xx : Sl} {fs : List E} {vs xs : List Sl} {rs : List Wr} {N : Nat} (h : Lt lo hi w LB G c vv xx fs vs xs rs N) : N + 2 ≤ c := by
  obtain ⟨_, ⟨hv, hz⟩ | ⟨g, cap, cur, hv, _, _, hle, _⟩⟩ := h.list
  · omega
  · simp at hv; omega
/-- half way through back: the first i are marks, their memory is written over -/
structure Bk (lo hi : Nat) (w0 w : World) (LB G c : Nat) (vv xx : Sl) (fs : List E) (vs xs : List Sl) (rs : List Wr) (N i : Nat) : Prop where
  blk : w.heap[LB]? = some (.cells #[.slice (some ⟨G, 0, none⟩) (N + 2) c, vv.v, xx.v] 62 (0, 0))
  list : w.ownsRow 0 28 6 (.slice (some ⟨G, 0, none⟩) (N + 2) c) (N + 2) (flatE (List.replicate i markE ++ (fs.drop i ++ [markE, markE])))
  vals : w.ownsRow 0 25 1 vv.v vv.n (vs.map Sl.v)
  ctxs : w.ownsRow 0 26 1 xx.v xx.n (xs.map Sl.v)
  one : ∀ j, i ≤ j → j < N → One w (gE fs j) (gS vs j) (gS xs j) (gR rs j)
  fr : Fr lo hi w0 w
theorem Bk.start {lo hi : Nat} {w : World} {LB G c : Nat} {vv xx : Sl} {fs : List E} {vs xs : List Sl} {rs : List Wr} {N : Nat} (h : Lt lo hi w LB G c vv xx fs vs xs rs N) {w' : World} (a : Apart [] w w') : Bk lo hi w w' LB G c vv xx fs vs xs rs N 0 := by
  have k := h.kept0 a
  exact ⟨k.blk, by simpa using k.list, k.vals, k.ctxs, fun j _ hj => k.one j hj, a.fr0 _ _⟩
theorem gmap (l : List Sl) (i : Nat) (h : i < l.length) : (l.map Sl.v)[i]? = some (gS l i).v := by
  unfold gS
  simp [List.getD_eq_getElem?_getD, h]
theorem flatE_setW (es : List E) (e : E) : ∀ (k : Nat), k < es.length → flatE (es.set k e) = ((((((flatE es).set (k * 6) (.int .i64 e.n)).set (k * 6 + 1) (.int .i64 e.c)).set (k * 6 + 2) (.string e.k)).set (k * 6 + 3) (.bool e.d)).set (k * 6 + 4) e.v.v).set (k * 6 + 5) e.x.v := by
  induction es with
  | nil => intro k hk; simp at hk
  | cons a l ih =>
    intro k hk
    match k with
    | 0 => simp [flatE, E.cs]
    | k + 1 =>
      have := ih k (by simpa using hk)
      rw [show (k + 1) * 6 = k * 6 + 6 from by omega]
      show E.cs a ++ flatE (l.set k e) = _
      rw [this]; rfl
end Go.Proofs.YtokaeiahhmaokaaGreatDoor.ds
namespace Go.Proofs.YtokaeiahhmaokaaGreatDoor.ds
open Go.ChangeShapes Go.WideShapes Go.ChangeAt Go.RowKit Go.Sort
set_option linter.unusedVariables false
set_option linter.unusedSimpArgs false
theorem set_marks (fs : List E) (i : Nat) (hi : i < fs.length) : (List.replicate i markE ++ (fs.drop i ++ [markE, markE])).set i markE = List.replicate (i + 1) markE ++ (fs.drop (i + 1) ++ [markE, markE]) := by
  rw [List.set_append_right _ _ (by simp), List.length_replicate, Nat.sub_self, List.drop_eq_getElem_cons hi, List.cons_append, List.set_cons_zero, List.replicate_succ']
  simp
def set6 (w : World) (g o : Nat) (e : E) : World := (((((w.setCell ⟨g, o, none⟩ (.int .i64 e.n)).setCell ⟨g, o + 1, none⟩ (.int .i64 e.c)).setCell ⟨g, o + 2, none⟩ (.string e.k)).setCell ⟨g, o + 3, none⟩ (.bool e.d)).setCell ⟨g, o + 4, none⟩ e.v.v).setCell ⟨g, o + 5, none⟩ e.x.v
theorem apart_set6 (w : World) (g o : Nat) (e : E) : Apart [g] w (set6 w g o e) := (((((((Apart.refl _ _).setCell (.inl (by simp)) _).setCell (.inl (by simp)) _).setCell (.inl (by simp)) _).setCell (.inl (by simp)) _).setCell (.inl (by simp)) _).setCell (.inl (by simp)) _)
theorem own_set6 {w : World} {G n c : Nat} {es : List E} (h : w.ownsRow 0 28 6 (.slice (some ⟨G, 0, none⟩) n c) n (flatE es)) (i : Nat) (hi : i < es.length) (e : E) : (set6 w G (i * 6) e).ownsRow 0 28 6 (.slice (some ⟨G, 0, none⟩) n c) n (flatE (es.set i e)) := by
  rw [flatE_setW es e i hi]
  exact ((((((h.stored (i * 6) _).1.stored (i * 6 + 1) _).1.stored (i * 6 + 2) _).1.stored (i * 6 + 3) _).1.stored (i * 6 + 4) _).1.stored (i * 6 + 5) _).1
theorem Bk.step {lo hi : Nat} {w0 w W W1 : World} {LB G c : Nat} {vv xx : Sl} {fs : List E} {vs xs : List Sl} {rs : List Wr} {N i : Nat} (h0 : Lt lo hi w0 LB G c vv xx fs vs xs rs N) (h : Bk lo hi w0 w LB G c vv xx fs vs xs rs N i) (hi' : i < N) (kv kx : Nat) (hkv : (gS vs i).v.ownBlock = some kv) (hkx : (gS xs i).v.ownBlock = some kx) (a : Apart [kv, kx] w W) (a1 : Apart [] W W1) :
    Bk lo hi w0 (set6 W1 G (i * 6) markE) LB G c vv xx fs vs xs rs N (i + 1) := by
  have o := h.one i (Nat.le_refl _) hi'
  obtain ⟨cv, tv⟩ := own_typ o.vo hkv
  obtain ⟨cx, tx⟩ := own_typ o.xo hkx
  obtain ⟨cG, tG⟩ := own_typ h.list (k := G) rfl
  have hne : ∀ k ∈ [kv, kx], ∀ (cur : Array Value) (t : TypeId), t ≠ 5 → t ≠ 47 → w.heap[k]? ≠ some (.cells cur t (0, 0)) := by
    intro k hk cur t h5 h38
    simp at hk
    rcases hk with rfl | rfl
    · exact blk_ne tv cur h5
    · exact blk_ne tx cur h38
  have aw : Apart [kv, kx] w W1 := a.trans (a1.mono (by simp))
  have bLB := (aw.block LB (lt_of_heap h.blk) (fun m => hne LB m _ 62 (by decide) (by decide) h.blk)).trans h.blk
  have bG := (aw.block G (lt_of_heap tG) (fun m => hne G m _ 28 (by decide) (by decide) tG)).trans tG
  have list1 := own_apart h.list aw (fun k hk m => by simp [Value.ownBlock] at hk; subst hk; exact hne _ m _ 28 (by decide) (by decide) tG)
  have vals1 := own_apart h.vals aw (fun k hk m => by obtain ⟨cu, tt⟩ := own_typ h.vals hk; exact hne _ m _ 25 (by decide) (by decide) tt)
  have ctxs1 := own_apart h.ctxs aw (fun k hk m => by obtain ⟨cu, tt⟩ := own_typ h.ctxs hk; exact hne _ m _ 26 (by decide) (by decide) tt)
  have aG := apart_set6 W1 G (i * 6) markE
  have hlen : i < (List.replicate i markE ++ (fs.drop i ++ [markE, markE])).length := by simp
  have one1 : ∀ j, i + 1 ≤ j → j < N → One W1 (gE fs j) (gS vs j) (gS xs j) (gR rs j) := fun j hj hjN => by
    have oj := h.one j (by omega) hjN
    refine oj.kept aw (fun k hk m => ?_) (fun k hk m => ?_)
    · simp at m
      rcases m with rfl | rfl
      · have := h0.incv i j (by omega) hjN _ _ hkv hk; omega
      · obtain ⟨cu, tt⟩ := own_typ oj.vo hk
        rw [tx] at tt; simp at tt
    · simp at m
      rcases m with rfl | rfl
      · obtain ⟨cu, tt⟩ := own_typ oj.xo hk
        rw [tv] at tt; simp at tt
      · have := h0.incx i j (by omega) hjN _ _ hkx hk; omega
  refine ⟨(aG.block LB (lt_of_heap bLB) (fun m => by simp at m; subst m; rw [bLB] at bG; simp at bG)).trans bLB, ?_, ?_, ?_, fun j hj hjN => ?_, ?_⟩
  · have := own_set6 list1 i hlen markE
    rwa [set_marks fs i (by rw [h0.fl]; exact hi')] at this
  · exact own_apart vals1 aG (fun k hk m => by simp at m; subst m; obtain ⟨cu, tt⟩ := own_typ vals1 hk; rw [bG] at tt; simp at tt)
  · exact own_apart ctxs1 aG (fun k hk m => by simp at m; subst m; obtain ⟨cu, tt⟩ := own_typ ctxs1 hk; rw [bG] at tt; simp at tt)
  · exact (one1 j hj hjN).keptT aG (fun k hk cur => by simp at hk; subst hk; exact ⟨blk_ne bG cur (by decide), blk_ne bG cur (by decide)⟩)
  · exact h.fr.trans ((aw.fr (by
      intro x hx
      simp at hx
      rcases hx with rfl | rfl
      · exact h0.rv i hi' _ hkv
      · exact h0.rx i hi' _ hkx)).trans (aG.fr (by simp; exact h0.rG)))
end Go.Proofs.YtokaeiahhmaokaaGreatDoor.ds
