import Derived.Test.YtokaeiahhmaokaaDoorW1
import Derived.Test.YtokaeiahhmaokaaDoorW9
namespace Go.Proofs.YtokaeiahhmaokaaDoor.ds
open Go.ChangeShapes Go.WideShapes Go.ChangeAt Go.RowKit Go.Sort
set_option linter.unusedVariables false
set_option linter.unusedSimpArgs false
theorem wpList_copy2 {w : World} {ops : Array Oper} {rest : List Oper} {o : Oper} {a : Act} {Q : Exit → Act → World → Prop} (hgd : o.guard = none) (s x : Operand) (t t' : TypeId)
    (ho : o.op = .call { callee := .builtin .copy, args := #[s, x], argTypes := #[t, t'] }) (v u : Value) (hs : a.eval s = v) (hx : a.eval x = u) (v' : Value) (w' : World)
    (hrun : (Builtin.copy_ #[t, t'] o.type #[v, u]).run Tryd.prog w = .ok v' w') (hK : wpList Tryd.prog ops Q rest (a.put o.dst v') w') : wpList Tryd.prog ops Q (o :: rest) a w := by
  refine wpList_plain hgd fun K hK' => ?_
  unfold Oper.wp
  simp [execOp, ho, resolve, invoke, builtin, hs, hx, hrun, Result.andThen]
  exact hK' _ _ hK
theorem step_copy2 {w : World} {ops : Array Oper} {o : Oper} {a : Act} {K : Act → World → Prop} {Q : Exit → Act → World → Prop} {E : Prop} (hgd : o.guard = none) (s x : Operand) (t t' : TypeId)
    (ho : o.op = .call { callee := .builtin .copy, args := #[s, x], argTypes := #[t, t'] }) (v u : Value) (hs : a.eval s = v) (hx : a.eval x = u) (v' : Value) (w' : World)
    (hrun : (Builtin.copy_ #[t, t'] o.type #[v, u]).run Tryd.prog w = .ok v' w') (hK : K (a.put o.dst v') w') : if Region.wanted o (yielded ops a.tmps) = true then Oper.wp Tryd.prog o a w K Q else E := by
  have hw : Region.wanted o (yielded ops a.tmps) = true := by simp [Region.wanted, hgd]
  rw [if_pos hw]
  unfold Oper.wp
  simp [execOp, ho, resolve, invoke, builtin, hs, hx, hrun, Result.andThen]
  exact hK
theorem wpList_app2 {w : World} {ops : Array Oper} {rest : List Oper} {o : Oper} {a : Act} {Q : Exit → Act → World → Prop} (hgd : o.guard = none) (s x : Operand) (t t' : TypeId)
    (ho : o.op = .call { callee := .builtin .append, args := #[s, x], argTypes := #[t, t'] }) (v u : Value) (hs : a.eval s = v) (hx : a.eval x = u) (v' : Value) (w' : World)
    (hrun : (Builtin.append_ #[t, t'] o.type #[v, u]).run Tryd.prog w = .ok v' w') (hK : wpList Tryd.prog ops Q rest (a.put o.dst v') w') : wpList Tryd.prog ops Q (o :: rest) a w := by
  refine wpList_plain hgd fun K hK' => ?_
  unfold Oper.wp
  simp [execOp, ho, resolve, invoke, builtin, hs, hx, hrun, Result.andThen]
  exact hK' _ _ hK
theorem step_app2 {w : World} {ops : Array Oper} {o : Oper} {a : Act} {K : Act → World → Prop} {Q : Exit → Act → World → Prop} {E : Prop} (hgd : o.guard = none) (s x : Operand) (t t' : TypeId)
    (ho : o.op = .call { callee := .builtin .append, args := #[s, x], argTypes := #[t, t'] }) (v u : Value) (hs : a.eval s = v) (hx : a.eval x = u) (v' : Value) (w' : World)
    (hrun : (Builtin.append_ #[t, t'] o.type #[v, u]).run Tryd.prog w = .ok v' w') (hK : K (a.put o.dst v') w') : if Region.wanted o (yielded ops a.tmps) = true then Oper.wp Tryd.prog o a w K Q else E := by
  have hw : Region.wanted o (yielded ops a.tmps) = true := by simp [Region.wanted, hgd]
  rw [if_pos hw]
  unfold Oper.wp
  simp [execOp, ho, resolve, invoke, builtin, hs, hx, hrun, Result.andThen]
  exact hK
theorem sz28 (w : World) : (Go.sizeOf 28).run Tryd.prog w = .ok 6 w := by
  obtain ⟨i0, hi, hz0, hz1, hz2⟩ := info_parts infoW
  simp [sizeOf, typeInfo, hi, hz1]
theorem drop_flat (l : List E) (k : Nat) : (flatE l).drop (k * 6) = flatE (l.drop k) := by
  have h : flatE l = flatE (l.take k) ++ flatE (l.drop k) := by rw [← flatE_append, List.take_append_drop]
  by_cases hk : k ≤ l.length
  · rw [h, List.drop_append_of_le_length (by rw [flatE_length]; simp; omega), List.drop_eq_nil_of_le (by rw [flatE_length]; simp; omega)]; simp
  · rw [List.drop_eq_nil_of_le (by rw [flatE_length]; omega), List.drop_eq_nil_of_le (by omega : l.length ≤ k)]; rfl
set_option maxHeartbeats 4000000 in
set_option maxRecDepth 100000 in
theorem ins_shift (w W : World) (s : Sl) (l : List E) (u : E) (k B : Nat) (h : OwnE w W s l) (hn : s.n ≤ 1500000) (hk : k < s.n) (hroom : s.n + 1 ≤ s.c) (hB : Cap W B u) : Calls Tryd.prog 90 #[s.v, .int .i64 (k : Int), .slice (some ⟨B, 0, none⟩) 1 1] W fun r W' => ∃ s', r = .returned (Sl.v s') ∧ OwnE w W' s' (l.take k ++ [u] ++ l.drop k) := by
  obtain ⟨i0, hi, hz0, hz1, hz2⟩ := info_parts infoW
  have hsz : (Tryd.prog.info? 28).map (·.size) = some 6 := size28
  obtain ⟨p, n, c⟩ := s
  simp only at hn hk hroom
  have hcap := h.cap
  simp only at hcap
  obtain ⟨hxl, ⟨hv, hz⟩ | ⟨G, cap, cur, hv, hbb, hr, hle, hmx, hcs, htk⟩⟩ := h.nw.own
  · unfold Sl.v at hv; simp at hv; omega
  unfold Sl.v at hv
  simp at hv
  obtain ⟨rfl, rfl⟩ := hv
  have hlen : l.length = n := h.len
  have hGB : B ≠ G := fun e => by
    subst e
    have := hB
    unfold Cap at this
    rw [hr] at this
    simp at this
    rw [this] at hcs
    simp at hcs
    omega
  have hov : ∀ off lb cb, (callFunc 113 #[.slice (some ⟨B, 0, none⟩) 1 1, .slice (some ⟨G, off, none⟩) lb cb]).run Tryd.prog W = .ok (.value (.bool false)) W := fun off lb cb => by
    rw [run_callFunc_extern Tryd.func113 (by kernel_rfl) (by kernel_rfl) (by kernel_rfl) (e := Extern.SlicesOverlaps.overlaps #[39, 39] #[4]) (by kernel_rfl),
      Lib.run_overlaps_apart W 39 4 28 Tryd.underlying39 6 sz28 ⟨B, 0, none⟩ ⟨G, off, none⟩ 1 1 lb cb hGB 28 28 6 cur.size (by unfold World.shape?; rw [hB]; rfl) (by unfold World.shape?; rw [hr]) (by rw [hcs]; omega) (frozen_of_row _ _ _ _ _ hB) (frozen_of_row _ _ _ _ _ hB)]
    rfl
  obtain ⟨L, hL⟩ : ∃ L, L = cur.toList := ⟨_, rfl⟩
  have hcur : cur = L.toArray := by rw [hL]
  have hLl : L.length = c * 6 := by rw [hL]; simpa using hcs
  have hLt : L.take (n * 6) = flatE l := by rw [hL]; exact htk
  have hfl := flatE_length l
  have hD : (flatE (l.drop k)).length = (n - k) * 6 := by rw [flatE_length]; simp [hlen]
  have hA : (flatE (l.take k)).length = k * 6 := by rw [flatE_length]; simp [hlen]; omega
  have hsplit : L = flatE (l.take k) ++ flatE (l.drop k) ++ L.drop (n * 6) := by rw [← flatE_append, List.take_append_drop, ← hLt, List.take_append_drop]
  rw [hcur] at hr
  have hcell : ∀ j v, (flatE (l.drop k))[j]? = some v → W.drew.cell? ((⟨G, k * 6, none⟩ : Addr).add j) = some v := fun j v hj => by
    rw [← drop_flat, List.getElem?_drop] at hj
    rw [Addr.add_lit]
    exact (h.nw.own.cellAt (k * 6 + j) (by
      rw [hlen] at hfl
      by_cases hc : k * 6 + j < n * 6
      · omega
      · rw [List.getElem?_eq_none (by omega)] at hj; cases hj)).trans hj
  have hcp1 : ∀ ty dc sc, (Builtin.copy_ #[39, 39] ty #[.slice (some ⟨G, (k + 1) * 6, none⟩) (n + 1 - (k + 1)) dc, .slice (some ⟨G, k * 6, none⟩) (n + 1 - k) sc]).run Tryd.prog W.drew = .ok (goInt ((n - k : Nat) : Int)) (W.drew.setRow G (splice L ((k + 1) * 6) (flatE (l.drop k))).toArray) := fun ty dc sc =>
    run_copy_rowN W.drew 39 39 ty 28 6 G ((k + 1) * 6) (n + 1 - (k + 1)) dc ⟨G, k * 6, none⟩ (n + 1 - k) sc (n - k) L 28 (flatE (l.drop k)) Tryd.underlying39 hsz hr (by simp only [Nat.min_def]; split <;> omega) hD hcell (by rw [hD, hLl]; omega) (oneE _)
  obtain ⟨W1, hW1⟩ : ∃ W1, W1 = W.drew.setRow G (splice L ((k + 1) * 6) (flatE (l.drop k))).toArray := ⟨_, rfl⟩
  rw [← hW1] at hcp1
  have a1 : Apart [G] W W1 := by rw [hW1]; exact (Apart.refl [G] W).drew.trans (apart_setRow _ _ _)
  have hr1 : W1.heap[G]? = some (.cells (splice L ((k + 1) * 6) (flatE (l.drop k))).toArray 28 (0, 0)) := by rw [hW1]; exact setRow_heap W.drew G _ _ 28 _ hr
  have hB1 : W1.heap[B]? = _ := (a1.block B (lt_of_heap hB) (by simpa using hGB)).trans hB
  have hcp2 : ∀ ty dc, (Builtin.copy_ #[39, 39] ty #[.slice (some ⟨G, k * 6, none⟩) (n + 1 - k) dc, .slice (some ⟨B, 0, none⟩) 1 1]).run Tryd.prog W1 = .ok (goInt 1) (W1.setRow G (splice (splice L ((k + 1) * 6) (flatE (l.drop k))) (k * 6) (E.cs u)).toArray) := fun ty dc =>
    run_copy_rowN W1 39 39 ty 28 6 G (k * 6) (n + 1 - k) dc ⟨B, 0, none⟩ 1 1 1 _ 28 (E.cs u) Tryd.underlying39 hsz hr1 (by simp only [Nat.min_def]; split <;> omega) rfl (fun j v hj => by rw [Addr.add_lit, Nat.zero_add, cell_of_row _ _ _ _ _ _ hB1]; simpa [E.cs] using hj) (by rw [length_splice _ _ _ (by rw [hD, hLl]; omega), hLl]; simp [E.cs]; omega) (fun v hv => oneE [u] v (by simpa [flatE] using hv))
  have hfin : OwnE w (W1.setRow G (splice (splice L ((k + 1) * 6) (flatE (l.drop k))) (k * 6) (E.cs u)).toArray) ⟨some ⟨G, 0, none⟩, n + 1, c⟩ (l.take k ++ [u] ++ l.drop k) := by
    have hGw : w.heap.size ≤ G := h.nw.new G rfl
    refine ⟨⟨⟨by rw [flatE_length]; simp [hlen]; omega, .inr ⟨G, c, _, rfl, Nat.zero_le _, setRow_heap W1 G _ _ 28 _ hr1, hroom, hmx, ?_, ?_⟩⟩, h.nw.new, h.nw.ap.trans' (a1.trans (apart_setRow _ _ _)) (by simp; exact hGw)⟩, by simp [hlen]; omega⟩
    · simp only [List.size_toArray]
      rw [length_splice _ _ _ (by rw [length_splice _ _ _ (by rw [hD, hLl]; omega), hLl]; simp [E.cs]; omega), length_splice _ _ _ (by rw [hD, hLl]; omega), hLl]
    · have := splice_ins (flatE (l.take k)) (flatE (l.drop k)) (E.cs u) (L.drop (n * 6)) (by simp [E.cs, hLl]; omega)
      rw [← hsplit, hA, hD] at this
      rw [flatE_append, flatE_append]
      rw [show (E.cs u).length = 6 from rfl, show k * 6 + 6 = (k + 1) * 6 from by omega, show (k + 1) * 6 + (n - k) * 6 = (n + 1) * 6 from by omega] at this
      simpa [flatE] using this
  have HF := hid hfin
  have hb1 : ¬ ((k : Int) = (n : Int)) := by omega
  have hc2 := hcap.2.1
  clear hW1 hfin hB1 hr1 a1 hcell hsplit hA hD hfl hLt hLl hcur hL htk hcs hmx hle hr hGB hcap hxl hbb hB h hlen
  unfold Sl.v
  go_enter Tryd.func90, Tryd.ntmps90
  go_wp2_with (simp only [hov])
  have hw1 : IntKind.i64.wrap ((k : Int) + 1) = (k : Int) + 1 := by rw [IntKind.wrap_i64]; omega
  have hb3 : (0 : Int) ≤ (k : Int) + 1 := by omega
  have hb4 : (k : Int) + 1 ≤ (n : Int) + 1 := by omega
  have htn : ((k : Int) + 1).toNat = k + 1 := by omega
  have hb5 : ¬ (c = k + 1) := by omega
  have hb6 : ¬ (c = k) := by omega
  have hb7 : (k : Int) ≤ (n : Int) + 1 := by omega
  have hb8 : k ≤ n := by omega
  clear hov hc2
  refine wp_region_held_drew (S := fun _ => True) (by kernel_rfl) trivial (fun hHeld => ?_)
  refine tk 0 69 (.slice (some ⟨G, 0, none⟩) (n + 1) c) rfl ?_ ?_
  · intro W hSW; go_simp
  simp only [Act.put, List.setIfInBounds_toArray, List.set_cons_zero, List.set_cons_succ]
  refine tk 1 70 (.int .i64 (k : Int)) rfl ?_ ?_
  · intro W hSW; go_simp
  simp only [Act.put, List.setIfInBounds_toArray, List.set_cons_zero, List.set_cons_succ]
  refine tk 2 71 (.int .i64 1) rfl ?_ ?_
  · intro W hSW; go_simp
  simp only [Act.put, List.setIfInBounds_toArray, List.set_cons_zero, List.set_cons_succ]
  refine tk 3 72 (.int .i64 ((k : Int) + 1)) rfl ?_ ?_
  · intro W hSW; go_simp
  simp only [Act.put, List.setIfInBounds_toArray, List.set_cons_zero, List.set_cons_succ]
  refine tk 4 73 (.slice (some ⟨G, (k + 1) * 6, none⟩) (n + 1 - (k + 1)) (c - (k + 1))) rfl ?_ ?_
  · intro W hSW; go_simp
  simp only [Act.put, List.setIfInBounds_toArray, List.set_cons_zero, List.set_cons_succ]
  refine tk 5 74 (.slice (some ⟨G, 0, none⟩) (n + 1) c) rfl ?_ ?_
  · intro W hSW; go_simp
  simp only [Act.put, List.setIfInBounds_toArray, List.set_cons_zero, List.set_cons_succ]
  refine tk 6 75 (.int .i64 (k : Int)) rfl ?_ ?_
  · intro W hSW; go_simp
  simp only [Act.put, List.setIfInBounds_toArray, List.set_cons_zero, List.set_cons_succ]
  refine tk 7 76 (.slice (some ⟨G, k * 6, none⟩) (n + 1 - k) (c - k)) rfl ?_ ?_
  · intro W hSW; go_simp
  simp only [Act.put, List.setIfInBounds_toArray, List.set_cons_zero, List.set_cons_succ]
  refine wpAnyH_ready (rs := [8]) (by kernel_rfl) (by simp) ?_
  refine AllReadyH.cons rfl (fun KK hKK => ?_) AllReadyH.nil
  refine step_copy2 (o := ⟨some 77, _, _, _, _, _⟩) rfl (.tmp 73) (.tmp 76) 39 39 rfl _ _ rfl rfl _ _ (hcp1 _ _ _) ?_
  refine hKK.out _ _ (by first | assumption | trivial) (fun hHeld => ?_)
  clear hKK KK
  refine wpAnyH_done (by kernel_rfl) ?_ _
  simp only [Act.put, List.setIfInBounds_toArray, List.set_cons_zero, List.set_cons_succ]
  go_wp2_with (first | (at_builtin; refine wpList_copy2 rfl (.tmp 80) (.tmp 81) 39 39 rfl _ _ rfl rfl _ _ (hcp2 _ _) ?_))
  go_wp2
  go_ret
  exact ⟨⟨some ⟨G, 0, none⟩, n + 1, c⟩, rfl, HF.out⟩
end Go.Proofs.YtokaeiahhmaokaaDoor.ds
namespace Go.Proofs.YtokaeiahhmaokaaDoor.ds
open Go.ChangeShapes Go.WideShapes Go.ChangeAt Go.RowKit Go.Sort
set_option linter.unusedVariables false
set_option linter.unusedSimpArgs false
theorem splice_two {α : Type} (A U D Z : List α) (hZ : U.length + D.length ≤ Z.length) :
    (splice (splice (A ++ Z) A.length U) (A.length + U.length) D).take (A.length + U.length + D.length) = A ++ U ++ D := by
  have e1 : splice (A ++ Z) A.length U = A ++ U ++ Z.drop U.length := by
    unfold splice
    rw [List.take_append_of_le_length (Nat.le_refl _), List.take_of_length_le (Nat.le_refl _), List.drop_append, List.drop_eq_nil_of_le (by omega : A.length ≤ A.length + U.length)]
    simp
  rw [e1]
  unfold splice
  have e2 : (A ++ U ++ Z.drop U.length).take (A.length + U.length) = A ++ U := by
    rw [List.take_append_of_le_length (by simp)]
    exact List.take_of_length_le (by simp)
  rw [e2, ← List.append_assoc, List.take_append_of_le_length (by simp; omega)]
  exact List.take_of_length_le (by simp; omega)
theorem firstE {w : World} {G k c : Nat} {l : List E} {i0 : TypeInfo} (hz1 : i0.size = 6) (hc : ∀ j v, (flatE (l.take k))[j]? = some v → w.drew.cell? ⟨G, j, none⟩ = some v) (hk : k ≤ l.length) : (Builtin.firstCells i0.size k (.slice (some ⟨G, 0, none⟩) k c)).run Tryd.prog w.drew = .ok (flatE (l.take k)).toArray w.drew := by
  rw [hz1]
  exact run_firstCells_some w.drew 6 k ⟨G, 0, none⟩ k c (flatE (l.take k)) (by rw [flatE_length]; simp; omega) (fun j v hj => by rw [Addr.add_lit, Nat.zero_add]; exact hc j v hj)
def zw : Value := .agg #[.int .i64 0, .int .i64 0, .string ⟨#[]⟩, .bool false, .slice none 0 0, .slice none 0 0]
theorem zeros_len (k : Nat) : (Builtin.zeroCells zw.cells k).size = k * 6 := by simp [Builtin.zeroCells, zw, Value.cells]
set_option maxHeartbeats 4000000 in
set_option maxRecDepth 100000 in
theorem ins_grow (w W : World) (s : Sl) (l : List E) (u : E) (k B : Nat) (h : OwnE w W s l) (hn : s.n ≤ 1500000) (hk : k < s.n) (hroom : s.c < s.n + 1) (hB : Cap W B u) : Calls Tryd.prog 90 #[s.v, .int .i64 (k : Int), .slice (some ⟨B, 0, none⟩) 1 1] W fun r W' => ∃ s', r = .returned (Sl.v s') ∧ OwnE w W' s' (l.take k ++ [u] ++ l.drop k) := by
  obtain ⟨i0, hi, hz0, hz1, hz2⟩ := info_parts infoW
  have hsz : (Tryd.prog.info? 28).map (·.size) = some 6 := size28
  obtain ⟨p, n, c⟩ := s
  simp only at hn hk hroom
  have hcap := h.cap
  simp only at hcap
  obtain ⟨hxl, ⟨hv, hz⟩ | ⟨G, cap, cur, hv, hbb, hr, hle, hmx, hcs, htk⟩⟩ := h.nw.own
  · unfold Sl.v at hv; simp at hv; omega
  unfold Sl.v at hv
  simp at hv
  obtain ⟨rfl, rfl⟩ := hv
  obtain rfl : c = n := by omega
  have hlen : l.length = c := h.len
  have hfl := flatE_length l
  have hsplit : flatE l = flatE (l.take k) ++ flatE (l.drop k) := by rw [← flatE_append, List.take_append_drop]
  have hD : (flatE (l.drop k)).length = (c - k) * 6 := by rw [flatE_length]; simp [hlen]
  have hA : (flatE (l.take k)).length = k * 6 := by rw [flatE_length]; simp [hlen]; omega
  have hGs : G < W.heap.size := lt_of_heap hr
  have hBs : B < W.heap.size := lt_of_heap hB
  have hcA : ∀ j v, (flatE (l.take k))[j]? = some v → W.drew.cell? ⟨G, j, none⟩ = some v := fun j v hj => by
    have hjl : j < k * 6 := by
      by_cases hc : j < k * 6
      · exact hc
      · rw [List.getElem?_eq_none (by omega)] at hj; cases hj
    exact (h.nw.own.cellAt j (by show j < c * 6; omega)).trans (by rw [hsplit, List.getElem?_append_left (by omega)]; exact hj)
  have hold := firstE (c := c) hz1 hcA (by omega)
  obtain ⟨C, hC⟩ : ∃ C, C = grownCap W (c + 1) c 28 := ⟨_, rfl⟩
  obtain ⟨ROW, hROW⟩ : ∃ ROW : List Value, ROW = flatE (l.take k) ++ ((Builtin.zeroCells zw.cells (c + 1 - k)).toList ++ (Builtin.zeroCells zw.cells (C - (c + 1))).toList) := ⟨_, rfl⟩
  have hCn : c + 1 ≤ C := by rw [hC]; exact grownCap_ge W _ _ _
  have hC63 : C ≤ maxLen := by rw [hC]; exact grownCap_le_maxLen W (c + 1) c 28 (by unfold maxLen; omega)
  have hRl : ROW.length = C * 6 := by rw [hROW]; simp [zeros_len, hA]; omega
  have hrz : ∀ ty, (Builtin.append_ #[39, 3] ty #[.slice (some ⟨G, 0, none⟩) k c, .int .i64 ((c : Int) + 1 - (k : Int))]).run Tryd.prog W = .ok (.slice (some ⟨W.heap.size, 0, none⟩) (c + 1) C) (W.drew.alloc (.cells ROW.toArray 28)) := fun ty => by
    have hh := Lib.run_append_grow_zeros W 39 3 ty 28 i0 zw .i64 .i64 Tryd.underlying39 Tryd.underlying3 hi hz0 (some ⟨G, 0, none⟩) k c (flatE (l.take k)) hold (c + 1 - k) (by omega) (by omega) (by omega) (by omega) (by rw [hz2]; omega) (by rw [hz2, show k + (c + 1 - k) = c + 1 from by omega]; exact growslice_fits hroom (by omega))
    rw [show k + (c + 1 - k) = c + 1 from by omega, ← hC] at hh
    rw [show (c : Int) + 1 - (k : Int) = ((c + 1 - k : Nat) : Int) from by omega, hh, hROW]
    have e3 : (flatE (l.take k)).toArray ++ Builtin.zeroCells zw.cells (c + 1 - k) ++ Builtin.zeroCells zw.cells (C - (c + 1)) = (flatE (l.take k) ++ ((Builtin.zeroCells zw.cells (c + 1 - k)).toList ++ (Builtin.zeroCells zw.cells (C - (c + 1))).toList)).toArray := by
      apply Array.toList_inj.1
      simp
    rw [e3]
  obtain ⟨W1, hW1⟩ : ∃ W1, W1 = W.drew.alloc (.cells ROW.toArray 28) := ⟨_, rfl⟩
  rw [← hW1] at hrz
  have a1 : Apart [] W W1 := by rw [hW1]; exact (Apart.refl [] W).drew.alloc _
  have r1 : W1.heap[W.heap.size]? = some (.cells ROW.toArray 28 (0, 0)) := by rw [hW1]; exact heap_alloc_new W.drew _
  have hB1 := (a1.block B hBs (by simp)).trans hB
  have hcpA : ∀ ty dc, (Builtin.copy_ #[39, 39] ty #[.slice (some ⟨W.heap.size, k * 6, none⟩) (c + 1 - k) dc, .slice (some ⟨B, 0, none⟩) 1 1]).run Tryd.prog W1 = .ok (goInt ((1 : Nat) : Int)) (W1.setRow W.heap.size (splice ROW (k * 6) (E.cs u)).toArray) := fun ty dc =>
    run_copy_rowN W1 39 39 ty 28 6 W.heap.size (k * 6) (c + 1 - k) dc ⟨B, 0, none⟩ 1 1 1 ROW 28 (E.cs u) Tryd.underlying39 hsz r1 (by simp only [Nat.min_def]; split <;> omega) rfl (fun j v hj => by rw [Addr.add_lit, Nat.zero_add, cell_of_row _ _ _ _ _ _ hB1]; simpa [E.cs] using hj) (by rw [hRl]; simp [E.cs]; omega) (fun v hv => oneE [u] v (by simpa [flatE] using hv))
  obtain ⟨W2, hW2⟩ : ∃ W2, W2 = W1.setRow W.heap.size (splice ROW (k * 6) (E.cs u)).toArray := ⟨_, rfl⟩
  rw [← hW2] at hcpA
  have a2 : Apart [W.heap.size] W1 W2 := by rw [hW2]; exact apart_setRow _ _ _
  have a12 : Apart [] W W2 := a1.trans' a2 (by simp)
  have r2 : W2.heap[W.heap.size]? = some (.cells (splice ROW (k * 6) (E.cs u)).toArray 28 (0, 0)) := by rw [hW2]; exact setRow_heap W1 _ _ _ 28 _ r1
  have hl2 : (splice ROW (k * 6) (E.cs u)).length = C * 6 := by rw [length_splice _ _ _ (by rw [hRl]; simp [E.cs]; omega), hRl]
  have hcB : ∀ j v, (flatE (l.drop k))[j]? = some v → W2.drew.cell? ((⟨G, k * 6, none⟩ : Addr).add j) = some v := fun j v hj => by
    rw [← drop_flat, List.getElem?_drop] at hj
    rw [Addr.add_lit]
    have e1 : W2.drew.cell? ⟨G, k * 6 + j, none⟩ = W.cell? ⟨G, k * 6 + j, none⟩ := a12.drew.cell hGs (by simp)
    rw [e1]
    exact (h.nw.own.cellAt (k * 6 + j) (by
      show k * 6 + j < c * 6
      rw [hlen] at hfl
      by_cases hc : k * 6 + j < c * 6
      · omega
      · rw [List.getElem?_eq_none (by omega)] at hj; cases hj)).trans hj
  have hcpB : ∀ ty dc sc, (Builtin.copy_ #[39, 39] ty #[.slice (some ⟨W.heap.size, (k + 1) * 6, none⟩) (c + 1 - (k + 1)) dc, .slice (some ⟨G, k * 6, none⟩) (c - k) sc]).run Tryd.prog W2.drew = .ok (goInt ((c - k : Nat) : Int)) (W2.drew.setRow W.heap.size (splice (splice ROW (k * 6) (E.cs u)) ((k + 1) * 6) (flatE (l.drop k))).toArray) := fun ty dc sc =>
    run_copy_rowN W2.drew 39 39 ty 28 6 W.heap.size ((k + 1) * 6) (c + 1 - (k + 1)) dc ⟨G, k * 6, none⟩ (c - k) sc (c - k) _ 28 (flatE (l.drop k)) Tryd.underlying39 hsz r2 (by simp only [Nat.min_def]; split <;> omega) hD hcB (by rw [hD, hl2]; omega) (oneE _)
  obtain ⟨W3, hW3⟩ : ∃ W3, W3 = W2.drew.setRow W.heap.size (splice (splice ROW (k * 6) (E.cs u)) ((k + 1) * 6) (flatE (l.drop k))).toArray := ⟨_, rfl⟩
  rw [← hW3] at hcpB
  have a3 : Apart [W.heap.size] W2 W3 := by rw [hW3]; exact (Apart.refl _ W2).drew.trans (apart_setRow _ _ _)
  have a13 : Apart [] W W3 := a12.trans' a3 (by simp)
  have r3 : W3.heap[W.heap.size]? = some (.cells (splice (splice ROW (k * 6) (E.cs u)) ((k + 1) * 6) (flatE (l.drop k))).toArray 28 (0, 0)) := by rw [hW3]; exact setRow_heap W2.drew _ _ _ 28 _ r2
  have hfin : OwnE w W3 ⟨some ⟨W.heap.size, 0, none⟩, c + 1, C⟩ (l.take k ++ [u] ++ l.drop k) := by
    refine ⟨⟨⟨by rw [flatE_length]; simp [hlen]; omega, .inr ⟨W.heap.size, C, _, rfl, Nat.zero_le _, r3, hCn, hC63, ?_, ?_⟩⟩, fun b hb => by simp [Sl.v, Value.ownBlock] at hb; subst hb; exact h.nw.ap.size, h.nw.ap.trans a13⟩, by simp [hlen]; omega⟩
    · simp only [List.size_toArray]
      rw [length_splice _ _ _ (by rw [hl2, hD]; omega), hl2]
    · have := splice_two (flatE (l.take k)) (E.cs u) (flatE (l.drop k)) ((Builtin.zeroCells zw.cells (c + 1 - k)).toList ++ (Builtin.zeroCells zw.cells (C - (c + 1))).toList) (by rw [hD]; simp [zeros_len, E.cs]; omega)
      rw [← hROW, hA, hD] at this
      rw [flatE_append, flatE_append]
      rw [show (E.cs u).length = 6 from rfl, show k * 6 + 6 = (k + 1) * 6 from by omega, show (k + 1) * 6 + (c - k) * 6 = (c + 1) * 6 from by omega] at this
      simpa [flatE] using this
  have HF := hid hfin
  have hb1 : ¬ ((k : Int) = (c : Int)) := by omega
  have hb3 : (k : Int) ≤ (c : Int) := by omega
  have hc2 := hcap.2.1
  have HCn := hid hCn
  have HC63 := hid hC63
  clear hfin hB1 r1 r2 r3 a1 a2 a12 a3 a13 hcB hcA hsplit hA hD hfl htk hcs hmx hr hcap hxl hbb hB h hlen hW1 hW2 hW3 hROW hRl hl2 hold hC hCn hC63 hGs hBs
  unfold Sl.v
  go_enter Tryd.func90, Tryd.ntmps90
  go_upto_region 10 with (first | (at_builtin; refine wpList_app2 rfl (.tmp 34) (.tmp 39) 39 3 rfl _ _ rfl rfl _ _ (hrz _) ?_))
  have hb9 : ¬ (C = k) := by have := HCn.out; omega
  have hb10 : (k : Int) ≤ (c : Int) + 1 := by omega
  have hb11 : k ≤ c + 1 := by omega
  go_upto_region 11 with (first | (at_builtin; refine wpList_copy2 rfl (.tmp 43) (.tmp 44) 39 39 rfl _ _ rfl rfl _ _ (hcpA _ _) ?_))
  have hw1 : IntKind.i64.wrap ((k : Int) + 1) = (k : Int) + 1 := by rw [IntKind.wrap_i64]; omega
  have hb12 : (0 : Int) ≤ (k : Int) + 1 := by omega
  have hb4 : (k : Int) + 1 ≤ (c : Int) + 1 := by omega
  have htn : ((k : Int) + 1).toNat = k + 1 := by omega
  have hb5 : ¬ (C = k + 1) := by have := HCn.out; omega
  have hb6 : ¬ (c = k) := by omega
  refine wp_region_held_drew (S := fun _ => True) (by kernel_rfl) trivial (fun hHeld => ?_)
  refine tk 0 46 (.slice (some ⟨W.heap.size, 0, none⟩) (c + 1) C) rfl ?_ ?_
  · intro W hSW; go_simp
  simp only [Act.put, List.setIfInBounds_toArray, List.set_cons_zero, List.set_cons_succ]
  refine tk 1 47 (.int .i64 (k : Int)) rfl ?_ ?_
  · intro W hSW; go_simp
  simp only [Act.put, List.setIfInBounds_toArray, List.set_cons_zero, List.set_cons_succ]
  refine tk 2 48 (.int .i64 1) rfl ?_ ?_
  · intro W hSW; go_simp
  simp only [Act.put, List.setIfInBounds_toArray, List.set_cons_zero, List.set_cons_succ]
  refine tk 3 49 (.int .i64 ((k : Int) + 1)) rfl ?_ ?_
  · intro W hSW; go_simp
  simp only [Act.put, List.setIfInBounds_toArray, List.set_cons_zero, List.set_cons_succ]
  refine tk 4 50 (.slice (some ⟨W.heap.size, (k + 1) * 6, none⟩) (c + 1 - (k + 1)) (C - (k + 1))) rfl ?_ ?_
  · intro W hSW; go_simp
  simp only [Act.put, List.setIfInBounds_toArray, List.set_cons_zero, List.set_cons_succ]
  refine tk 5 51 (.slice (some ⟨G, 0, none⟩) c c) rfl ?_ ?_
  · intro W hSW; go_simp
  simp only [Act.put, List.setIfInBounds_toArray, List.set_cons_zero, List.set_cons_succ]
  refine tk 6 52 (.int .i64 (k : Int)) rfl ?_ ?_
  · intro W hSW; go_simp
  simp only [Act.put, List.setIfInBounds_toArray, List.set_cons_zero, List.set_cons_succ]
  refine tk 7 53 (.slice (some ⟨G, k * 6, none⟩) (c - k) (c - k)) rfl ?_ ?_
  · intro W hSW; go_simp
  simp only [Act.put, List.setIfInBounds_toArray, List.set_cons_zero, List.set_cons_succ]
  refine wpAnyH_ready (rs := [8]) (by kernel_rfl) (by simp) ?_
  refine AllReadyH.cons rfl (fun KK hKK => ?_) AllReadyH.nil
  refine step_copy2 (o := ⟨some 54, _, _, _, _, _⟩) rfl (.tmp 50) (.tmp 53) 39 39 rfl _ _ rfl rfl _ _ (hcpB _ _ _) ?_
  refine hKK.out _ _ (by first | assumption | trivial) (fun hHeld => ?_)
  clear hKK KK
  refine wpAnyH_done (by kernel_rfl) ?_ _
  simp only [Act.put, List.setIfInBounds_toArray, List.set_cons_zero, List.set_cons_succ]
  go_wp2
  go_ret
  exact ⟨⟨some ⟨W.heap.size, 0, none⟩, c + 1, C⟩, rfl, by simpa using HF.out⟩
theorem ins_ok : InsOk := by
  intro w W s l u k B h hn hk hB
  by_cases h1 : k = s.n
  · subst h1
    have e1 : l.take s.n = l := List.take_of_length_le (by rw [h.len]; exact Nat.le_refl _)
    have e2 : l.drop s.n = [] := List.drop_eq_nil_of_le (by rw [h.len]; exact Nat.le_refl _)
    rw [e1, e2, List.append_nil]
    exact ins_end w W s l u B h hn hB
  · by_cases h2 : s.n + 1 ≤ s.c
    · exact ins_shift w W s l u k B h hn (by omega) h2 hB
    · exact ins_grow w W s l u k B h hn (by omega) (by omega) hB
end Go.Proofs.YtokaeiahhmaokaaDoor.ds
namespace Go.Proofs.YtokaeiahhmaokaaDoor.ds
open Go.ChangeShapes Go.WideShapes Go.ChangeAt Go.RowKit Go.Sort
set_option linter.unusedVariables false
set_option linter.unusedSimpArgs false
/-- blocks ahead of lo and from hi on are as they were -/
structure Fr (lo hi : Nat) (w w' : World) : Prop where
  os : w'.os = w.os
  tape : w'.tape = w.tape
  output : w'.output = w.output
  size : w.heap.size ≤ w'.heap.size
  block : ∀ k, k < w.heap.size → (k < lo ∨ hi ≤ k) → w'.heap[k]? = w.heap[k]?
theorem Apart.fr {X : List Nat} {a b : World} (h : Apart X a b) {lo hi : Nat} (hX : ∀ x ∈ X, lo ≤ x ∧ x < hi) : Fr lo hi a b :=
  ⟨h.os, h.tape, h.output, h.size, fun k hk hx => h.block k hk (fun m => by have := hX k m; omega)⟩
theorem Apart.fr0 {a b : World} (h : Apart [] a b) (lo hi : Nat) : Fr lo hi a b := h.fr (by simp)
theorem own_fr {w w' : World} {base : Nat} {e : TypeId} {size : Nat} {v : Value} {n : Nat} {xs : List Value} {lo hi : Nat} (h : w.ownsRow base e size v n xs) (a : Fr lo hi w w') (hx : ∀ k, v.ownBlock = some k → k < lo ∨ hi ≤ k) : w'.ownsRow base e size v n xs := by
  obtain ⟨hl, ⟨hv, hz⟩ | ⟨g, cap, cur, rfl, hb, hr, hrest⟩⟩ := h
  · exact ⟨hl, .inl ⟨hv, hz⟩⟩
  · exact ⟨hl, .inr ⟨g, cap, cur, rfl, hb, (a.block g (lt_of_heap hr) (hx g rfl)).trans hr, hrest⟩⟩
theorem flatE_setW (es : List E) (e : E) : ∀ (k : Nat), k < es.length → flatE (es.set k e) = ((((((flatE es).set (k * 6) (.int .i64 e.n)).set (k * 6 + 1) (.int .i64 e.c)).set (k * 6 + 2) (.string e.k)).set (k * 6 + 3) (.bool e.d)).set (k * 6 + 4) e.v.v).set (k * 6 + 5) e.x.v := by
  induction es with
  | nil => intro k hk; simp at hk
  | cons a l ih =>
    intro k hk
    match k with
    | 0 => simp [flatE, E.cs]
    | k + 1 =>
      have := ih k (by simpa using hk)
      rw [show (k + 1) * 6 = k * 6 + 6 from by omega]
      show E.cs a ++ flatE (l.set k e) = _
      rw [this]; rfl
end Go.Proofs.YtokaeiahhmaokaaDoor.ds
namespace Go.Proofs.YtokaeiahhmaokaaDoor.ds
open Go.ChangeShapes Go.WideShapes Go.ChangeAt Go.RowKit Go.Sort
set_option linter.unusedVariables false
set_option linter.unusedSimpArgs false
def set6 (w : World) (g o : Nat) (e : E) : World := (((((w.setCell ⟨g, o, none⟩ (.int .i64 e.n)).setCell ⟨g, o + 1, none⟩ (.int .i64 e.c)).setCell ⟨g, o + 2, none⟩ (.string e.k)).setCell ⟨g, o + 3, none⟩ (.bool e.d)).setCell ⟨g, o + 4, none⟩ e.v.v).setCell ⟨g, o + 5, none⟩ e.x.v
theorem apart_set6 (w : World) (g o : Nat) (e : E) : Apart [g] w (set6 w g o e) := (((((((Apart.refl _ _).setCell (.inl (by simp)) _).setCell (.inl (by simp)) _).setCell (.inl (by simp)) _).setCell (.inl (by simp)) _).setCell (.inl (by simp)) _).setCell (.inl (by simp)) _)
theorem own_set6 {w : World} {G n c : Nat} {es : List E} (h : w.ownsRow 0 28 6 (.slice (some ⟨G, 0, none⟩) n c) n (flatE es)) (i : Nat) (hi : i < es.length) (e : E) : (set6 w G (i * 6) e).ownsRow 0 28 6 (.slice (some ⟨G, 0, none⟩) n c) n (flatE (es.set i e)) := by
  rw [flatE_setW es e i hi]
  exact ((((((h.stored (i * 6) _).1.stored (i * 6 + 1) _).1.stored (i * 6 + 2) _).1.stored (i * 6 + 3) _).1.stored (i * 6 + 4) _).1.stored (i * 6 + 5) _).1
end Go.Proofs.YtokaeiahhmaokaaDoor.ds
