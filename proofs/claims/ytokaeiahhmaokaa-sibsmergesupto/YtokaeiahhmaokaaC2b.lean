import Derived.Test.YtokaeiahhmaokaaC2
namespace Go.Proofs.Ytokaeiahhmaokaa.ds
open Go.ChangeShapes Go.WideShapes Go.ChangeAt Go.RowKit Go.Sort
set_option linter.unusedVariables false
set_option linter.unusedSimpArgs false
theorem wpList_copy2 {w : World} {ops : Array Oper} {rest : List Oper} {o : Oper} {a : Act} {Q : Exit → Act → World → Prop} (hgd : o.guard = none) (s x : Operand) (t t' : TypeId)
    (ho : o.op = .call { callee := .builtin .copy, args := #[s, x], argTypes := #[t, t'] }) (v u : Value) (hs : a.eval s = v) (hx : a.eval x = u) (v' : Value) (w' : World)
    (hrun : (Builtin.copy_ #[t, t'] o.type #[v, u]).run Try.prog w = .ok v' w') (hK : wpList Try.prog ops Q rest (a.put o.dst v') w') : wpList Try.prog ops Q (o :: rest) a w := by
  refine wpList_plain hgd fun K hK' => ?_
  unfold Oper.wp
  simp [execOp, ho, resolve, invoke, builtin, hs, hx, hrun, Result.andThen]
  exact hK' _ _ hK
theorem step_copy2 {w : World} {ops : Array Oper} {o : Oper} {a : Act} {K : Act → World → Prop} {Q : Exit → Act → World → Prop} {E : Prop} (hgd : o.guard = none) (s x : Operand) (t t' : TypeId)
    (ho : o.op = .call { callee := .builtin .copy, args := #[s, x], argTypes := #[t, t'] }) (v u : Value) (hs : a.eval s = v) (hx : a.eval x = u) (v' : Value) (w' : World)
    (hrun : (Builtin.copy_ #[t, t'] o.type #[v, u]).run Try.prog w = .ok v' w') (hK : K (a.put o.dst v') w') : if Region.wanted o (yielded ops a.tmps) = true then Oper.wp Try.prog o a w K Q else E := by
  have hw : Region.wanted o (yielded ops a.tmps) = true := by simp [Region.wanted, hgd]
  rw [if_pos hw]
  unfold Oper.wp
  simp [execOp, ho, resolve, invoke, builtin, hs, hx, hrun, Result.andThen]
  exact hK
theorem wpList_app2 {w : World} {ops : Array Oper} {rest : List Oper} {o : Oper} {a : Act} {Q : Exit → Act → World → Prop} (hgd : o.guard = none) (s x : Operand) (t t' : TypeId)
    (ho : o.op = .call { callee := .builtin .append, args := #[s, x], argTypes := #[t, t'] }) (v u : Value) (hs : a.eval s = v) (hx : a.eval x = u) (v' : Value) (w' : World)
    (hrun : (Builtin.append_ #[t, t'] o.type #[v, u]).run Try.prog w = .ok v' w') (hK : wpList Try.prog ops Q rest (a.put o.dst v') w') : wpList Try.prog ops Q (o :: rest) a w := by
  refine wpList_plain hgd fun K hK' => ?_
  unfold Oper.wp
  simp [execOp, ho, resolve, invoke, builtin, hs, hx, hrun, Result.andThen]
  exact hK' _ _ hK
theorem step_app2 {w : World} {ops : Array Oper} {o : Oper} {a : Act} {K : Act → World → Prop} {Q : Exit → Act → World → Prop} {E : Prop} (hgd : o.guard = none) (s x : Operand) (t t' : TypeId)
    (ho : o.op = .call { callee := .builtin .append, args := #[s, x], argTypes := #[t, t'] }) (v u : Value) (hs : a.eval s = v) (hx : a.eval x = u) (v' : Value) (w' : World)
    (hrun : (Builtin.append_ #[t, t'] o.type #[v, u]).run Try.prog w = .ok v' w') (hK : K (a.put o.dst v') w') : if Region.wanted o (yielded ops a.tmps) = true then Oper.wp Try.prog o a w K Q else E := by
  have hw : Region.wanted o (yielded ops a.tmps) = true := by simp [Region.wanted, hgd]
  rw [if_pos hw]
  unfold Oper.wp
  simp [execOp, ho, resolve, invoke, builtin, hs, hx, hrun, Result.andThen]
  exact hK
theorem sz28 (w : World) : (Go.sizeOf 28).run Try.prog w = .ok 6 w := by
  obtain ⟨i0, hi, hz0, hz1, hz2⟩ := info_parts infoW
  simp [sizeOf, typeInfo, hi, hz1]
theorem drop_flat (l : List E) (k : Nat) : (flatE l).drop (k * 6) = flatE (l.drop k) := by
  have h : flatE l = flatE (l.take k) ++ flatE (l.drop k) := by rw [← flatE_append, List.take_append_drop]
  by_cases hk : k ≤ l.length
  · rw [h, List.drop_append_of_le_length (by rw [flatE_length]; simp; omega), List.drop_eq_nil_of_le (by rw [flatE_length]; simp; omega)]; simp
  · rw [List.drop_eq_nil_of_le (by rw [flatE_length]; omega), List.drop_eq_nil_of_le (by omega : l.length ≤ k)]; rfl
set_option maxHeartbeats 4000000 in
set_option maxRecDepth 100000 in
theorem ins_shift (w W : World) (s : Sl) (l : List E) (u : E) (k B : Nat) (h : OwnE w W s l) (hn : s.n ≤ 1500000) (hk : k < s.n) (hroom : s.n + 1 ≤ s.c) (hB : Cap W B u) : Calls Try.prog 32 #[s.v, .int .i64 (k : Int), .slice (some ⟨B, 0, none⟩) 1 1] W fun r W' => ∃ s', r = .returned (Sl.v s') ∧ OwnE w W' s' (l.take k ++ [u] ++ l.drop k) := by
  obtain ⟨i0, hi, hz0, hz1, hz2⟩ := info_parts infoW
  have hsz : (Try.prog.info? 28).map (·.size) = some 6 := size28
  obtain ⟨p, n, c⟩ := s
  simp only at hn hk hroom
  have hcap := h.cap
  simp only at hcap
  obtain ⟨hxl, ⟨hv, hz⟩ | ⟨G, cap, cur, hv, hbb, hr, hle, hmx, hcs, htk⟩⟩ := h.nw.own
  · unfold Sl.v at hv; simp at hv; omega
  unfold Sl.v at hv
  simp at hv
  obtain ⟨rfl, rfl⟩ := hv
  have hlen : l.length = n := h.len
  have hGB : B ≠ G := fun e => by
    subst e
    have := hB
    unfold Cap at this
    rw [hr] at this
    simp at this
    rw [this] at hcs
    simp at hcs
    omega
  have hov : ∀ off lb cb, (callFunc 41 #[.slice (some ⟨B, 0, none⟩) 1 1, .slice (some ⟨G, off, none⟩) lb cb]).run Try.prog W = .ok (.value (.bool false)) W := fun off lb cb => by
    rw [run_callFunc_extern Try.func41 (by kernel_rfl) (by kernel_rfl) (by kernel_rfl) (e := Extern.SlicesOverlaps.overlaps #[34, 34] #[4]) (by kernel_rfl),
      Lib.run_overlaps_apart W 34 4 28 Try.underlying34 6 sz28 ⟨B, 0, none⟩ ⟨G, off, none⟩ 1 1 lb cb hGB 28 28 6 cur.size (by unfold World.shape?; rw [hB]; rfl) (by unfold World.shape?; rw [hr]) (by rw [hcs]; omega) (frozen_of_row _ _ _ _ _ hB) (frozen_of_row _ _ _ _ _ hB)]
    rfl
  obtain ⟨L, hL⟩ : ∃ L, L = cur.toList := ⟨_, rfl⟩
  have hcur : cur = L.toArray := by rw [hL]
  have hLl : L.length = c * 6 := by rw [hL]; simpa using hcs
  have hLt : L.take (n * 6) = flatE l := by rw [hL]; exact htk
  have hfl := flatE_length l
  have hD : (flatE (l.drop k)).length = (n - k) * 6 := by rw [flatE_length]; simp [hlen]
  have hA : (flatE (l.take k)).length = k * 6 := by rw [flatE_length]; simp [hlen]; omega
  have hsplit : L = flatE (l.take k) ++ flatE (l.drop k) ++ L.drop (n * 6) := by rw [← flatE_append, List.take_append_drop, ← hLt, List.take_append_drop]
  rw [hcur] at hr
  have hcell : ∀ j v, (flatE (l.drop k))[j]? = some v → W.drew.cell? ((⟨G, k * 6, none⟩ : Addr).add j) = some v := fun j v hj => by
    rw [← drop_flat, List.getElem?_drop] at hj
    rw [Addr.add_lit]
    exact (h.nw.own.cellAt (k * 6 + j) (by
      rw [hlen] at hfl
      by_cases hc : k * 6 + j < n * 6
      · omega
      · rw [List.getElem?_eq_none (by omega)] at hj; cases hj)).trans hj
  have hcp1 : ∀ ty dc sc, (Builtin.copy_ #[34, 34] ty #[.slice (some ⟨G, (k + 1) * 6, none⟩) (n + 1 - (k + 1)) dc, .slice (some ⟨G, k * 6, none⟩) (n + 1 - k) sc]).run Try.prog W.drew = .ok (goInt ((n - k : Nat) : Int)) (W.drew.setRow G (splice L ((k + 1) * 6) (flatE (l.drop k))).toArray) := fun ty dc sc =>
    run_copy_rowN W.drew 34 34 ty 28 6 G ((k + 1) * 6) (n + 1 - (k + 1)) dc ⟨G, k * 6, none⟩ (n + 1 - k) sc (n - k) L 28 (flatE (l.drop k)) Try.underlying34 hsz hr (by simp only [Nat.min_def]; split <;> omega) hD hcell (by rw [hD, hLl]; omega) (oneE _)
  obtain ⟨W1, hW1⟩ : ∃ W1, W1 = W.drew.setRow G (splice L ((k + 1) * 6) (flatE (l.drop k))).toArray := ⟨_, rfl⟩
  rw [← hW1] at hcp1
  have a1 : Apart [G] W W1 := by rw [hW1]; exact (Apart.refl [G] W).drew.trans (apart_setRow _ _ _)
  have hr1 : W1.heap[G]? = some (.cells (splice L ((k + 1) * 6) (flatE (l.drop k))).toArray 28 (0, 0)) := by rw [hW1]; exact setRow_heap W.drew G _ _ 28 _ hr
  have hB1 : W1.heap[B]? = _ := (a1.block B (lt_of_heap hB) (by simpa using hGB)).trans hB
  have hcp2 : ∀ ty dc, (Builtin.copy_ #[34, 34] ty #[.slice (some ⟨G, k * 6, none⟩) (n + 1 - k) dc, .slice (some ⟨B, 0, none⟩) 1 1]).run Try.prog W1 = .ok (goInt 1) (W1.setRow G (splice (splice L ((k + 1) * 6) (flatE (l.drop k))) (k * 6) (E.cs u)).toArray) := fun ty dc =>
    run_copy_rowN W1 34 34 ty 28 6 G (k * 6) (n + 1 - k) dc ⟨B, 0, none⟩ 1 1 1 _ 28 (E.cs u) Try.underlying34 hsz hr1 (by simp only [Nat.min_def]; split <;> omega) rfl (fun j v hj => by rw [Addr.add_lit, Nat.zero_add, cell_of_row _ _ _ _ _ _ hB1]; simpa [E.cs] using hj) (by rw [length_splice _ _ _ (by rw [hD, hLl]; omega), hLl]; simp [E.cs]; omega) (fun v hv => oneE [u] v (by simpa [flatE] using hv))
  have hfin : OwnE w (W1.setRow G (splice (splice L ((k + 1) * 6) (flatE (l.drop k))) (k * 6) (E.cs u)).toArray) ⟨some ⟨G, 0, none⟩, n + 1, c⟩ (l.take k ++ [u] ++ l.drop k) := by
    have hGw : w.heap.size ≤ G := h.nw.new G rfl
    refine ⟨⟨⟨by rw [flatE_length]; simp [hlen]; omega, .inr ⟨G, c, _, rfl, Nat.zero_le _, setRow_heap W1 G _ _ 28 _ hr1, hroom, hmx, ?_, ?_⟩⟩, h.nw.new, h.nw.ap.trans' (a1.trans (apart_setRow _ _ _)) (by simp; exact hGw)⟩, by simp [hlen]; omega⟩
    · simp only [List.size_toArray]
      rw [length_splice _ _ _ (by rw [length_splice _ _ _ (by rw [hD, hLl]; omega), hLl]; simp [E.cs]; omega), length_splice _ _ _ (by rw [hD, hLl]; omega), hLl]
    · have := splice_ins (flatE (l.take k)) (flatE (l.drop k)) (E.cs u) (L.drop (n * 6)) (by simp [E.cs, hLl]; omega)
      rw [← hsplit, hA, hD] at this
      rw [flatE_append, flatE_append]
      rw [show (E.cs u).length = 6 from rfl, show k * 6 + 6 = (k + 1) * 6 from by omega, show (k + 1) * 6 + (n - k) * 6 = (n + 1) * 6 from by omega] at this
      simpa [flatE] using this
  have HF := hid hfin
  have hb1 : ¬ ((k : Int) = (n : Int)) := by omega
  have hc2 := hcap.2.1
  clear hW1 hfin hB1 hr1 a1 hcell hsplit hA hD hfl hLt hLl hcur hL htk hcs hmx hle hr hGB hcap hxl hbb hB h hlen
  unfold Sl.v
  go_enter Try.func32, Try.ntmps32
  go_wp2_with (simp only [hov])
  have hw1 : IntKind.i64.wrap ((k : Int) + 1) = (k : Int) + 1 := by rw [IntKind.wrap_i64]; omega
  have hb3 : (0 : Int) ≤ (k : Int) + 1 := by omega
  have hb4 : (k : Int) + 1 ≤ (n : Int) + 1 := by omega
  have htn : ((k : Int) + 1).toNat = k + 1 := by omega
  have hb5 : ¬ (c = k + 1) := by omega
  have hb6 : ¬ (c = k) := by omega
  have hb7 : (k : Int) ≤ (n : Int) + 1 := by omega
  have hb8 : k ≤ n := by omega
  clear hov hc2
  refine wp_region_held_drew (S := fun _ => True) (by kernel_rfl) trivial (fun hHeld => ?_)
  refine wpAnyH_take (i := 0) (oi := ⟨some 69, _, _, _, _, _⟩) (v := (.slice (some ⟨G, 0, none⟩) (n + 1) c)) rfl (by kernel_rfl) (by kernel_rfl) (by kernel_rfl) (fun _ _ _ h => h) (Or.inl ⟨by rfl, ?_⟩) (by assumption) ?_
  · intro W hSW; go_simp
  simp only [Act.put, List.setIfInBounds_toArray, List.set_cons_zero, List.set_cons_succ]
  refine wpAnyH_take (i := 1) (oi := ⟨some 70, _, _, _, _, _⟩) (v := (.int .i64 (k : Int))) rfl (by kernel_rfl) (by kernel_rfl) (by kernel_rfl) (fun _ _ _ h => h) (Or.inl ⟨by rfl, ?_⟩) (by assumption) ?_
  · intro W hSW; go_simp
  simp only [Act.put, List.setIfInBounds_toArray, List.set_cons_zero, List.set_cons_succ]
  refine wpAnyH_take (i := 2) (oi := ⟨some 71, _, _, _, _, _⟩) (v := (.int .i64 1)) rfl (by kernel_rfl) (by kernel_rfl) (by kernel_rfl) (fun _ _ _ h => h) (Or.inl ⟨by rfl, ?_⟩) (by assumption) ?_
  · intro W hSW; go_simp
  simp only [Act.put, List.setIfInBounds_toArray, List.set_cons_zero, List.set_cons_succ]
  refine wpAnyH_take (i := 3) (oi := ⟨some 72, _, _, _, _, _⟩) (v := (.int .i64 ((k : Int) + 1))) rfl (by kernel_rfl) (by kernel_rfl) (by kernel_rfl) (fun _ _ _ h => h) (Or.inl ⟨by rfl, ?_⟩) (by assumption) ?_
  · intro W hSW; go_simp
  simp only [Act.put, List.setIfInBounds_toArray, List.set_cons_zero, List.set_cons_succ]
  refine wpAnyH_take (i := 4) (oi := ⟨some 73, _, _, _, _, _⟩) (v := (.slice (some ⟨G, (k + 1) * 6, none⟩) (n + 1 - (k + 1)) (c - (k + 1)))) rfl (by kernel_rfl) (by kernel_rfl) (by kernel_rfl) (fun _ _ _ h => h) (Or.inl ⟨by rfl, ?_⟩) (by assumption) ?_
  · intro W hSW; go_simp
  simp only [Act.put, List.setIfInBounds_toArray, List.set_cons_zero, List.set_cons_succ]
  refine wpAnyH_take (i := 5) (oi := ⟨some 74, _, _, _, _, _⟩) (v := (.slice (some ⟨G, 0, none⟩) (n + 1) c)) rfl (by kernel_rfl) (by kernel_rfl) (by kernel_rfl) (fun _ _ _ h => h) (Or.inl ⟨by rfl, ?_⟩) (by assumption) ?_
  · intro W hSW; go_simp
  simp only [Act.put, List.setIfInBounds_toArray, List.set_cons_zero, List.set_cons_succ]
  refine wpAnyH_take (i := 6) (oi := ⟨some 75, _, _, _, _, _⟩) (v := (.int .i64 (k : Int))) rfl (by kernel_rfl) (by kernel_rfl) (by kernel_rfl) (fun _ _ _ h => h) (Or.inl ⟨by rfl, ?_⟩) (by assumption) ?_
  · intro W hSW; go_simp
  simp only [Act.put, List.setIfInBounds_toArray, List.set_cons_zero, List.set_cons_succ]
  refine wpAnyH_take (i := 7) (oi := ⟨some 76, _, _, _, _, _⟩) (v := (.slice (some ⟨G, k * 6, none⟩) (n + 1 - k) (c - k))) rfl (by kernel_rfl) (by kernel_rfl) (by kernel_rfl) (fun _ _ _ h => h) (Or.inl ⟨by rfl, ?_⟩) (by assumption) ?_
  · intro W hSW; go_simp
  simp only [Act.put, List.setIfInBounds_toArray, List.set_cons_zero, List.set_cons_succ]
  refine wpAnyH_ready (rs := [8]) (by kernel_rfl) (by simp) ?_
  refine AllReadyH.cons rfl (fun KK hKK => ?_) AllReadyH.nil
  refine step_copy2 (o := ⟨some 77, _, _, _, _, _⟩) rfl (.tmp 73) (.tmp 76) 34 34 rfl _ _ rfl rfl _ _ (hcp1 _ _ _) ?_
  refine hKK.out _ _ (by first | assumption | trivial) (fun hHeld => ?_)
  clear hKK KK
  refine wpAnyH_done (by kernel_rfl) ?_ _
  simp only [Act.put, List.setIfInBounds_toArray, List.set_cons_zero, List.set_cons_succ]
  go_wp2_with (first | (at_builtin; refine wpList_copy2 rfl (.tmp 80) (.tmp 81) 34 34 rfl _ _ rfl rfl _ _ (hcp2 _ _) ?_))
  go_wp2
  go_ret
  exact ⟨⟨some ⟨G, 0, none⟩, n + 1, c⟩, rfl, HF.out⟩
end Go.Proofs.Ytokaeiahhmaokaa.ds
