import Derived.Test.YtokaeiahhmaokaaDoorT11
namespace Go.Proofs.YtokaeiahhmaokaaDoor.ds
open Go.ChangeShapes Go.WideShapes Go.ChangeAt Go.RowKit Go.Sort
set_option linter.unusedVariables false
set_option linter.unusedSimpArgs false
/-- a list that is being lent -/
structure LI (w0 w : World) (LB : Nat) (s vv xx : Sl) (fs : List E) (vs xs : List Sl) (rs : List Wr) (i : Nat) : Prop where
  lr : LR w0 w LB s vv xx (flatE fs) (vs.map Sl.v) (xs.map Sl.v)
  fl : fs.length = i
  sn : s.n = i
  vl : vs.length = i
  vvn : vv.n = i
  xl : xs.length = i
  xxn : xx.n = i
  one : ∀ j, j < i → One w (gE fs j) (gS vs j) (gS xs j) (gR rs j)
  newv : ∀ j, j < i → ∀ k, (gS vs j).v.ownBlock = some k → w0.heap.size ≤ k
  newx : ∀ j, j < i → ∀ k, (gS xs j).v.ownBlock = some k → w0.heap.size ≤ k
  incv : ∀ j m, j < m → m < i → ∀ k q, (gS vs j).v.ownBlock = some k → (gS vs m).v.ownBlock = some q → k < q
  incx : ∀ j m, j < m → m < i → ∀ k q, (gS xs j).v.ownBlock = some k → (gS xs m).v.ownBlock = some q → k < q
theorem LI.step {w0 w W : World} {LB : Nat} {s vv xx s' vv' xx' : Sl} {fs : List E} {vs xs : List Sl} {rs : List Wr} {i : Nat} (h : LI w0 w LB s vv xx fs vs xs rs i) (e : E) (v x : Sl)
    (lr : LR w0 W LB s' vv' xx' (flatE (fs ++ [e])) ((vs ++ [v]).map Sl.v) ((xs ++ [x]).map Sl.v)) (kt : KeepT w W) (o : One W e v x (gR rs i)) (nv : ∀ k, v.v.ownBlock = some k → w.heap.size ≤ k) (nx : ∀ k, x.v.ownBlock = some k → w.heap.size ≤ k) (h1 : s'.n = i + 1) (h2 : vv'.n = i + 1) (h3 : xx'.n = i + 1) :
    LI w0 W LB s' vv' xx' (fs ++ [e]) (vs ++ [v]) (xs ++ [x]) rs (i + 1) := by
  have ef : gE (fs ++ [e]) i = e := by have := gE_at fs e; rwa [h.fl] at this
  have ev : gS (vs ++ [v]) i = v := by have := gS_at vs v; rwa [h.vl] at this
  have ex : gS (xs ++ [x]) i = x := by have := gS_at xs x; rwa [h.xl] at this
  have lf : ∀ j, j < i → gE (fs ++ [e]) j = gE fs j := fun j hj => gE_left _ _ _ (by rw [h.fl]; exact hj)
  have lv : ∀ j, j < i → gS (vs ++ [v]) j = gS vs j := fun j hj => gS_left _ _ _ (by rw [h.vl]; exact hj)
  have lx : ∀ j, j < i → gS (xs ++ [x]) j = gS xs j := fun j hj => gS_left _ _ _ (by rw [h.xl]; exact hj)
  have hs := h.lr.ap.size
  refine ⟨lr, by simp [h.fl], h1, by simp [h.vl], h2, by simp [h.xl], h3, fun j hj => ?_, fun j hj k hk => ?_, fun j hj k hk => ?_, fun j m hjm hm k q hk hq => ?_, fun j m hjm hm k q hk hq => ?_⟩
  · by_cases e1 : j = i
    · subst e1; rw [ef, ev, ex]; exact o
    · rw [lf j (by omega), lv j (by omega), lx j (by omega)]; exact (h.one j (by omega)).keptK kt
  · by_cases e1 : j = i
    · subst e1; rw [ev] at hk; exact Nat.le_trans hs (nv k hk)
    · rw [lv j (by omega)] at hk; exact h.newv j (by omega) k hk
  · by_cases e1 : j = i
    · subst e1; rw [ex] at hk; exact Nat.le_trans hs (nx k hk)
    · rw [lx j (by omega)] at hk; exact h.newx j (by omega) k hk
  · rw [lv j (by omega)] at hk
    by_cases e1 : m = i
    · subst e1; rw [ev] at hq
      have a := nv q hq
      have b := ((h.one j hjm).vo.lt k hk).2
      omega
    · rw [lv m (by omega)] at hq; exact h.incv j m hjm (by omega) k q hk hq
  · rw [lx j (by omega)] at hk
    by_cases e1 : m = i
    · subst e1; rw [ex] at hq
      have a := nx q hq
      have b := ((h.one j hjm).xo.lt k hk).2
      omega
    · rw [lx m (by omega)] at hq; exact h.incx j m hjm (by omega) k q hk hq
theorem buildX (W : World) : Sem.run Tryd.prog (Instr.buildSlice 26 2 #[(0, .agg #[.int .i64 77, .int .i64 0, .int .u64 0]), (1, .agg #[.int .i64 78, .int .i64 0, .int .u64 0])]) W = .ok (.slice (some ⟨W.heap.size, 0, none⟩) 2 2) (W.alloc (.cells #[.int .i64 77, .int .i64 0, .int .u64 0, .int .i64 78, .int .i64 0, .int .u64 0] 80)) := by
  obtain ⟨ie, hi, hz0, hz1, hz2⟩ := info_parts info52
  refine run_buildSlice W 26 80 2 _ _ ie _ Tryd.underlying26 hi hz0 (by rw [hz1]; decide) (by rw [hz1]; decide) ?_
  rw [hz1]
  first | rfl | (simp [Instr.fill, Array.range, Value.cells, Array.ofFn]; done) | kernel_rfl
/-- the write as it is lent -/
def lentE (e : E) (v x : Sl) : E := ⟨e.n, e.c, e.k, e.d, ⟨v.p, e.v.n, v.c⟩, ⟨x.p, e.x.n, x.c⟩⟩
end Go.Proofs.YtokaeiahhmaokaaDoor.ds
namespace Go.Proofs.YtokaeiahhmaokaaDoor.ds
open Go.ChangeShapes Go.WideShapes Go.ChangeAt Go.RowKit Go.Sort
set_option linter.unusedVariables false
set_option linter.unusedSimpArgs false
theorem wpList_copy2 {w : World} {ops : Array Oper} {rest : List Oper} {o : Oper} {a : Act} {Q : Exit → Act → World → Prop} (hgd : o.guard = none) (s x : Operand) (t t' : TypeId)
    (ho : o.op = .call { callee := .builtin .copy, args := #[s, x], argTypes := #[t, t'] }) (v u : Value) (hs : a.eval s = v) (hx : a.eval x = u) (v' : Value) (w' : World)
    (hrun : (Builtin.copy_ #[t, t'] o.type #[v, u]).run Tryd.prog w = .ok v' w') (hK : wpList Tryd.prog ops Q rest (a.put o.dst v') w') : wpList Tryd.prog ops Q (o :: rest) a w := by
  refine wpList_plain hgd fun K hK' => ?_
  unfold Oper.wp
  simp [execOp, ho, resolve, invoke, builtin, hs, hx, hrun, Result.andThen]
  exact hK' _ _ hK
theorem step_copy2 {w : World} {ops : Array Oper} {o : Oper} {a : Act} {K : Act → World → Prop} {Q : Exit → Act → World → Prop} {E : Prop} (hgd : o.guard = none) (s x : Operand) (t t' : TypeId)
    (ho : o.op = .call { callee := .builtin .copy, args := #[s, x], argTypes := #[t, t'] }) (v u : Value) (hs : a.eval s = v) (hx : a.eval x = u) (v' : Value) (w' : World)
    (hrun : (Builtin.copy_ #[t, t'] o.type #[v, u]).run Tryd.prog w = .ok v' w') (hK : K (a.put o.dst v') w') : if Region.wanted o (yielded ops a.tmps) = true then Oper.wp Tryd.prog o a w K Q else E := by
  have hw : Region.wanted o (yielded ops a.tmps) = true := by simp [Region.wanted, hgd]
  rw [if_pos hw]
  unfold Oper.wp
  simp [execOp, ho, resolve, invoke, builtin, hs, hx, hrun, Result.andThen]
  exact hK
theorem wpList_app2 {w : World} {ops : Array Oper} {rest : List Oper} {o : Oper} {a : Act} {Q : Exit → Act → World → Prop} (hgd : o.guard = none) (s x : Operand) (t t' : TypeId)
    (ho : o.op = .call { callee := .builtin .append, args := #[s, x], argTypes := #[t, t'] }) (v u : Value) (hs : a.eval s = v) (hx : a.eval x = u) (v' : Value) (w' : World)
    (hrun : (Builtin.append_ #[t, t'] o.type #[v, u]).run Tryd.prog w = .ok v' w') (hK : wpList Tryd.prog ops Q rest (a.put o.dst v') w') : wpList Tryd.prog ops Q (o :: rest) a w := by
  refine wpList_plain hgd fun K hK' => ?_
  unfold Oper.wp
  simp [execOp, ho, resolve, invoke, builtin, hs, hx, hrun, Result.andThen]
  exact hK' _ _ hK
theorem step_app2 {w : World} {ops : Array Oper} {o : Oper} {a : Act} {K : Act → World → Prop} {Q : Exit → Act → World → Prop} {E : Prop} (hgd : o.guard = none) (s x : Operand) (t t' : TypeId)
    (ho : o.op = .call { callee := .builtin .append, args := #[s, x], argTypes := #[t, t'] }) (v u : Value) (hs : a.eval s = v) (hx : a.eval x = u) (v' : Value) (w' : World)
    (hrun : (Builtin.append_ #[t, t'] o.type #[v, u]).run Tryd.prog w = .ok v' w') (hK : K (a.put o.dst v') w') : if Region.wanted o (yielded ops a.tmps) = true then Oper.wp Tryd.prog o a w K Q else E := by
  have hw : Region.wanted o (yielded ops a.tmps) = true := by simp [Region.wanted, hgd]
  rw [if_pos hw]
  unfold Oper.wp
  simp [execOp, ho, resolve, invoke, builtin, hs, hx, hrun, Result.andThen]
  exact hK
theorem sz28 (w : World) : (Go.sizeOf 28).run Tryd.prog w = .ok 6 w := by
  obtain ⟨i0, hi, hz0, hz1, hz2⟩ := info_parts infoW
  simp [sizeOf, typeInfo, hi, hz1]
theorem drop_flat (l : List E) (k : Nat) : (flatE l).drop (k * 6) = flatE (l.drop k) := by
  have h : flatE l = flatE (l.take k) ++ flatE (l.drop k) := by rw [← flatE_append, List.take_append_drop]
  by_cases hk : k ≤ l.length
  · rw [h, List.drop_append_of_le_length (by rw [flatE_length]; simp; omega), List.drop_eq_nil_of_le (by rw [flatE_length]; simp; omega)]; simp
  · rw [List.drop_eq_nil_of_le (by rw [flatE_length]; omega), List.drop_eq_nil_of_le (by omega : l.length ≤ k)]; rfl
set_option maxHeartbeats 4000000 in
set_option maxRecDepth 100000 in
theorem ins_shift (w W : World) (s : Sl) (l : List E) (u : E) (k B : Nat) (h : OwnE w W s l) (hn : s.n ≤ 1500000) (hk : k < s.n) (hroom : s.n + 1 ≤ s.c) (hB : Cap W B u) : Calls Tryd.prog 90 #[s.v, .int .i64 (k : Int), .slice (some ⟨B, 0, none⟩) 1 1] W fun r W' => ∃ s', r = .returned (Sl.v s') ∧ OwnE w W' s' (l.take k ++ [u] ++ l.drop k) := by
  obtain ⟨i0, hi, hz0, hz1, hz2⟩ := info_parts infoW
  have hsz : (Tryd.prog.info? 28).map (·.size) = some 6 := size28
  obtain ⟨p, n, c⟩ := s
  simp only at hn hk hroom
  have hcap := h.cap
  simp only at hcap
  obtain ⟨hxl, ⟨hv, hz⟩ | ⟨G, cap, cur, hv, hbb, hr, hle, hmx, hcs, htk⟩⟩ := h.nw.own
  · unfold Sl.v at hv; simp at hv; omega
  unfold Sl.v at hv
  simp at hv
  obtain ⟨rfl, rfl⟩ := hv
  have hlen : l.length = n := h.len
  have hGB : B ≠ G := fun e => by
    subst e
    have := hB
    unfold Cap at this
    rw [hr] at this
    simp at this
    rw [this] at hcs
    simp at hcs
    omega
  have hov : ∀ off lb cb, (callFunc 113 #[.slice (some ⟨B, 0, none⟩) 1 1, .slice (some ⟨G, off, none⟩) lb cb]).run Tryd.prog W = .ok (.value (.bool false)) W := fun off lb cb => by
    rw [run_callFunc_extern Tryd.func113 (by kernel_rfl) (by kernel_rfl) (by kernel_rfl) (e := Extern.SlicesOverlaps.overlaps #[39, 39] #[4]) (by kernel_rfl),
      Lib.run_overlaps_apart W 39 4 28 Tryd.underlying39 6 sz28 ⟨B, 0, none⟩ ⟨G, off, none⟩ 1 1 lb cb hGB 28 28 6 cur.size (by unfold World.shape?; rw [hB]; rfl) (by unfold World.shape?; rw [hr]) (by rw [hcs]; omega) (frozen_of_row _ _ _ _ _ hB) (frozen_of_row _ _ _ _ _ hB)]
    rfl
  obtain ⟨L, hL⟩ : ∃ L, L = cur.toList := ⟨_, rfl⟩
  have hcur : cur = L.toArray := by rw [hL]
  have hLl : L.length = c * 6 := by rw [hL]; simpa using hcs
  have hLt : L.take (n * 6) = flatE l := by rw [hL]; exact htk
  have hfl := flatE_length l
  have hD : (flatE (l.drop k)).length = (n - k) * 6 := by rw [flatE_length]; simp [hlen]
  have hA : (flatE (l.take k)).length = k * 6 := by rw [flatE_length]; simp [hlen]; omega
  have hsplit : L = flatE (l.take k) ++ flatE (l.drop k) ++ L.drop (n * 6) := by rw [← flatE_append, List.take_append_drop, ← hLt, List.take_append_drop]
  rw [hcur] at hr
  have hcell : ∀ j v, (flatE (l.drop k))[j]? = some v → W.drew.cell? ((⟨G, k * 6, none⟩ : Addr).add j) = some v := fun j v hj => by
    rw [← drop_flat, List.getElem?_drop] at hj
    rw [Addr.add_lit]
    exact (h.nw.own.cellAt (k * 6 + j) (by
      rw [hlen] at hfl
      by_cases hc : k * 6 + j < n * 6
      · omega
      · rw [List.getElem?_eq_none (by omega)] at hj; cases hj)).trans hj
  have hcp1 : ∀ ty dc sc, (Builtin.copy_ #[39, 39] ty #[.slice (some ⟨G, (k + 1) * 6, none⟩) (n + 1 - (k + 1)) dc, .slice (some ⟨G, k * 6, none⟩) (n + 1 - k) sc]).run Tryd.prog W.drew = .ok (goInt ((n - k : Nat) : Int)) (W.drew.setRow G (splice L ((k + 1) * 6) (flatE (l.drop k))).toArray) := fun ty dc sc =>
    run_copy_rowN W.drew 39 39 ty 28 6 G ((k + 1) * 6) (n + 1 - (k + 1)) dc ⟨G, k * 6, none⟩ (n + 1 - k) sc (n - k) L 28 (flatE (l.drop k)) Tryd.underlying39 hsz hr (by simp only [Nat.min_def]; split <;> omega) hD hcell (by rw [hD, hLl]; omega) (oneE _)
  obtain ⟨W1, hW1⟩ : ∃ W1, W1 = W.drew.setRow G (splice L ((k + 1) * 6) (flatE (l.drop k))).toArray := ⟨_, rfl⟩
  rw [← hW1] at hcp1
  have a1 : Apart [G] W W1 := by rw [hW1]; exact (Apart.refl [G] W).drew.trans (apart_setRow _ _ _)
  have hr1 : W1.heap[G]? = some (.cells (splice L ((k + 1) * 6) (flatE (l.drop k))).toArray 28 (0, 0)) := by rw [hW1]; exact setRow_heap W.drew G _ _ 28 _ hr
  have hB1 : W1.heap[B]? = _ := (a1.block B (lt_of_heap hB) (by simpa using hGB)).trans hB
  have hcp2 : ∀ ty dc, (Builtin.copy_ #[39, 39] ty #[.slice (some ⟨G, k * 6, none⟩) (n + 1 - k) dc, .slice (some ⟨B, 0, none⟩) 1 1]).run Tryd.prog W1 = .ok (goInt 1) (W1.setRow G (splice (splice L ((k + 1) * 6) (flatE (l.drop k))) (k * 6) (E.cs u)).toArray) := fun ty dc =>
    run_copy_rowN W1 39 39 ty 28 6 G (k * 6) (n + 1 - k) dc ⟨B, 0, none⟩ 1 1 1 _ 28 (E.cs u) Tryd.underlying39 hsz hr1 (by simp only [Nat.min_def]; split <;> omega) rfl (fun j v hj => by rw [Addr.add_lit, Nat.zero_add, cell_of_row _ _ _ _ _ _ hB1]; simpa [E.cs] using hj) (by rw [length_splice _ _ _ (by rw [hD, hLl]; omega), hLl]; simp [E.cs]; omega) (fun v hv => oneE [u] v (by simpa [flatE] using hv))
  have hfin : OwnE w (W1.setRow G (splice (splice L ((k + 1) * 6) (flatE (l.drop k))) (k * 6) (E.cs u)).toArray) ⟨some ⟨G, 0, none⟩, n + 1, c⟩ (l.take k ++ [u] ++ l.drop k) := by
    have hGw : w.heap.size ≤ G := h.nw.new G rfl
    refine ⟨⟨⟨by rw [flatE_length]; simp [hlen]; omega, .inr ⟨G, c, _, rfl, Nat.zero_le _, setRow_heap W1 G _ _ 28 _ hr1, hroom, hmx, ?_, ?_⟩⟩, h.nw.new, h.nw.ap.trans' (a1.trans (apart_setRow _ _ _)) (by simp; exact hGw)⟩, by simp [hlen]; omega⟩
    · simp only [List.size_toArray]
      rw [length_splice _ _ _ (by rw [length_splice _ _ _ (by rw [hD, hLl]; omega), hLl]; simp [E.cs]; omega), length_splice _ _ _ (by rw [hD, hLl]; omega), hLl]
    · have := splice_ins (flatE (l.take k)) (flatE (l.drop k)) (E.cs u) (L.drop (n * 6)) (by simp [E.cs, hLl]; omega)
      rw [← hsplit, hA, hD] at this
      rw [flatE_append, flatE_append]
      rw [show (E.cs u).length = 6 from rfl, show k * 6 + 6 = (k + 1) * 6 from by omega, show (k + 1) * 6 + (n - k) * 6 = (n + 1) * 6 from by omega] at this
      simpa [flatE] using this
  have HF := hid hfin
  have hb1 : ¬ ((k : Int) = (n : Int)) := by omega
  have hc2 := hcap.2.1
  clear hW1 hfin hB1 hr1 a1 hcell hsplit hA hD hfl hLt hLl hcur hL htk hcs hmx hle hr hGB hcap hxl hbb hB h hlen
  unfold Sl.v
  go_enter Tryd.func90, Tryd.ntmps90
  go_wp2_with (simp only [hov])
  have hw1 : IntKind.i64.wrap ((k : Int) + 1) = (k : Int) + 1 := by rw [IntKind.wrap_i64]; omega
  have hb3 : (0 : Int) ≤ (k : Int) + 1 := by omega
  have hb4 : (k : Int) + 1 ≤ (n : Int) + 1 := by omega
  have htn : ((k : Int) + 1).toNat = k + 1 := by omega
  have hb5 : ¬ (c = k + 1) := by omega
  have hb6 : ¬ (c = k) := by omega
  have hb7 : (k : Int) ≤ (n : Int) + 1 := by omega
  have hb8 : k ≤ n := by omega
  clear hov hc2
  refine wp_region_held_drew (S := fun _ => True) (by kernel_rfl) trivial (fun hHeld => ?_)
  refine wpAnyH_take (i := 0) (oi := ⟨some 69, _, _, _, _, _⟩) (v := (.slice (some ⟨G, 0, none⟩) (n + 1) c)) rfl (by kernel_rfl) (by kernel_rfl) (by kernel_rfl) (fun _ _ _ h => h) (Or.inl ⟨by rfl, ?_⟩) (by assumption) ?_
  · intro W hSW; go_simp
  simp only [Act.put, List.setIfInBounds_toArray, List.set_cons_zero, List.set_cons_succ]
  refine wpAnyH_take (i := 1) (oi := ⟨some 70, _, _, _, _, _⟩) (v := (.int .i64 (k : Int))) rfl (by kernel_rfl) (by kernel_rfl) (by kernel_rfl) (fun _ _ _ h => h) (Or.inl ⟨by rfl, ?_⟩) (by assumption) ?_
  · intro W hSW; go_simp
  simp only [Act.put, List.setIfInBounds_toArray, List.set_cons_zero, List.set_cons_succ]
  refine wpAnyH_take (i := 2) (oi := ⟨some 71, _, _, _, _, _⟩) (v := (.int .i64 1)) rfl (by kernel_rfl) (by kernel_rfl) (by kernel_rfl) (fun _ _ _ h => h) (Or.inl ⟨by rfl, ?_⟩) (by assumption) ?_
  · intro W hSW; go_simp
  simp only [Act.put, List.setIfInBounds_toArray, List.set_cons_zero, List.set_cons_succ]
  refine wpAnyH_take (i := 3) (oi := ⟨some 72, _, _, _, _, _⟩) (v := (.int .i64 ((k : Int) + 1))) rfl (by kernel_rfl) (by kernel_rfl) (by kernel_rfl) (fun _ _ _ h => h) (Or.inl ⟨by rfl, ?_⟩) (by assumption) ?_
  · intro W hSW; go_simp
  simp only [Act.put, List.setIfInBounds_toArray, List.set_cons_zero, List.set_cons_succ]
  refine wpAnyH_take (i := 4) (oi := ⟨some 73, _, _, _, _, _⟩) (v := (.slice (some ⟨G, (k + 1) * 6, none⟩) (n + 1 - (k + 1)) (c - (k + 1)))) rfl (by kernel_rfl) (by kernel_rfl) (by kernel_rfl) (fun _ _ _ h => h) (Or.inl ⟨by rfl, ?_⟩) (by assumption) ?_
  · intro W hSW; go_simp
  simp only [Act.put, List.setIfInBounds_toArray, List.set_cons_zero, List.set_cons_succ]
  refine wpAnyH_take (i := 5) (oi := ⟨some 74, _, _, _, _, _⟩) (v := (.slice (some ⟨G, 0, none⟩) (n + 1) c)) rfl (by kernel_rfl) (by kernel_rfl) (by kernel_rfl) (fun _ _ _ h => h) (Or.inl ⟨by rfl, ?_⟩) (by assumption) ?_
  · intro W hSW; go_simp
  simp only [Act.put, List.setIfInBounds_toArray, List.set_cons_zero, List.set_cons_succ]
  refine wpAnyH_take (i := 6) (oi := ⟨some 75, _, _, _, _, _⟩) (v := (.int .i64 (k : Int))) rfl (by kernel_rfl) (by kernel_rfl) (by kernel_rfl) (fun _ _ _ h => h) (Or.inl ⟨by rfl, ?_⟩) (by assumption) ?_
  · intro W hSW; go_simp
  simp only [Act.put, List.setIfInBounds_toArray, List.set_cons_zero, List.set_cons_succ]
  refine wpAnyH_take (i := 7) (oi := ⟨some 76, _, _, _, _, _⟩) (v := (.slice (some ⟨G, k * 6, none⟩) (n + 1 - k) (c - k))) rfl (by kernel_rfl) (by kernel_rfl) (by kernel_rfl) (fun _ _ _ h => h) (Or.inl ⟨by rfl, ?_⟩) (by assumption) ?_
  · intro W hSW; go_simp
  simp only [Act.put, List.setIfInBounds_toArray, List.set_cons_zero, List.set_cons_succ]
  refine wpAnyH_ready (rs := [8]) (by kernel_rfl) (by simp) ?_
  refine AllReadyH.cons rfl (fun KK hKK => ?_) AllReadyH.nil
  refine step_copy2 (o := ⟨some 77, _, _, _, _, _⟩) rfl (.tmp 73) (.tmp 76) 39 39 rfl _ _ rfl rfl _ _ (hcp1 _ _ _) ?_
  refine hKK.out _ _ (by first | assumption | trivial) (fun hHeld => ?_)
  clear hKK KK
  refine wpAnyH_done (by kernel_rfl) ?_ _
  simp only [Act.put, List.setIfInBounds_toArray, List.set_cons_zero, List.set_cons_succ]
  go_wp2_with (first | (at_builtin; refine wpList_copy2 rfl (.tmp 80) (.tmp 81) 39 39 rfl _ _ rfl rfl _ _ (hcp2 _ _) ?_))
  go_wp2
  go_ret
  exact ⟨⟨some ⟨G, 0, none⟩, n + 1, c⟩, rfl, HF.out⟩
end Go.Proofs.YtokaeiahhmaokaaDoor.ds
namespace Go.Proofs.YtokaeiahhmaokaaDoor.ds
open Go.ChangeShapes Go.WideShapes Go.ChangeAt Go.RowKit Go.Sort
set_option linter.unusedVariables false
set_option linter.unusedSimpArgs false
theorem splice_two {α : Type} (A U D Z : List α) (hZ : U.length + D.length ≤ Z.length) :
    (splice (splice (A ++ Z) A.length U) (A.length + U.length) D).take (A.length + U.length + D.length) = A ++ U ++ D := by
  have e1 : splice (A ++ Z) A.length U = A ++ U ++ Z.drop U.length := by
    unfold splice
    rw [List.take_append_of_le_length (Nat.le_refl _), List.take_of_length_le (Nat.le_refl _), List.drop_append, List.drop_eq_nil_of_le (by omega : A.length ≤ A.length + U.length)]
    simp
  rw [e1]
  unfold splice
  have e2 : (A ++ U ++ Z.drop U.length).take (A.length + U.length) = A ++ U := by
    rw [List.take_append_of_le_length (by simp)]
    exact List.take_of_length_le (by simp)
  rw [e2, ← List.append_assoc, List.take_append_of_le_length (by simp; omega)]
  exact List.take_of_length_le (by simp; omega)
theorem firstE {w : World} {G k c : Nat} {l : List E} {i0 : TypeInfo} (hz1 : i0.size = 6) (hc : ∀ j v, (flatE (l.take k))[j]? = some v → w.drew.cell? ⟨G, j, none⟩ = some v) (hk : k ≤ l.length) : (Builtin.firstCells i0.size k (.slice (some ⟨G, 0, none⟩) k c)).run Tryd.prog w.drew = .ok (flatE (l.take k)).toArray w.drew := by
  rw [hz1]
  exact run_firstCells_some w.drew 6 k ⟨G, 0, none⟩ k c (flatE (l.take k)) (by rw [flatE_length]; simp; omega) (fun j v hj => by rw [Addr.add_lit, Nat.zero_add]; exact hc j v hj)
def zw : Value := .agg #[.int .i64 0, .int .i64 0, .string ⟨#[]⟩, .bool false, .slice none 0 0, .slice none 0 0]
theorem zeros_len (k : Nat) : (Builtin.zeroCells zw.cells k).size = k * 6 := by simp [Builtin.zeroCells, zw, Value.cells]
set_option maxHeartbeats 4000000 in
set_option maxRecDepth 100000 in
theorem ins_grow (w W : World) (s : Sl) (l : List E) (u : E) (k B : Nat) (h : OwnE w W s l) (hn : s.n ≤ 1500000) (hk : k < s.n) (hroom : s.c < s.n + 1) (hB : Cap W B u) : Calls Tryd.prog 90 #[s.v, .int .i64 (k : Int), .slice (some ⟨B, 0, none⟩) 1 1] W fun r W' => ∃ s', r = .returned (Sl.v s') ∧ OwnE w W' s' (l.take k ++ [u] ++ l.drop k) := by
  obtain ⟨i0, hi, hz0, hz1, hz2⟩ := info_parts infoW
  have hsz : (Tryd.prog.info? 28).map (·.size) = some 6 := size28
  obtain ⟨p, n, c⟩ := s
  simp only at hn hk hroom
  have hcap := h.cap
  simp only at hcap
  obtain ⟨hxl, ⟨hv, hz⟩ | ⟨G, cap, cur, hv, hbb, hr, hle, hmx, hcs, htk⟩⟩ := h.nw.own
  · unfold Sl.v at hv; simp at hv; omega
  unfold Sl.v at hv
  simp at hv
  obtain ⟨rfl, rfl⟩ := hv
  obtain rfl : c = n := by omega
  have hlen : l.length = c := h.len
  have hfl := flatE_length l
  have hsplit : flatE l = flatE (l.take k) ++ flatE (l.drop k) := by rw [← flatE_append, List.take_append_drop]
  have hD : (flatE (l.drop k)).length = (c - k) * 6 := by rw [flatE_length]; simp [hlen]
  have hA : (flatE (l.take k)).length = k * 6 := by rw [flatE_length]; simp [hlen]; omega
  have hGs : G < W.heap.size := lt_of_heap hr
  have hBs : B < W.heap.size := lt_of_heap hB
  have hcA : ∀ j v, (flatE (l.take k))[j]? = some v → W.drew.cell? ⟨G, j, none⟩ = some v := fun j v hj => by
    have hjl : j < k * 6 := by
      by_cases hc : j < k * 6
      · exact hc
      · rw [List.getElem?_eq_none (by omega)] at hj; cases hj
    exact (h.nw.own.cellAt j (by show j < c * 6; omega)).trans (by rw [hsplit, List.getElem?_append_left (by omega)]; exact hj)
  have hold := firstE (c := c) hz1 hcA (by omega)
  obtain ⟨C, hC⟩ : ∃ C, C = grownCap W (c + 1) c 28 := ⟨_, rfl⟩
  obtain ⟨ROW, hROW⟩ : ∃ ROW : List Value, ROW = flatE (l.take k) ++ ((Builtin.zeroCells zw.cells (c + 1 - k)).toList ++ (Builtin.zeroCells zw.cells (C - (c + 1))).toList) := ⟨_, rfl⟩
  have hCn : c + 1 ≤ C := by rw [hC]; exact grownCap_ge W _ _ _
  have hC63 : C ≤ maxLen := by rw [hC]; exact grownCap_le_maxLen W (c + 1) c 28 (by unfold maxLen; omega)
  have hRl : ROW.length = C * 6 := by rw [hROW]; simp [zeros_len, hA]; omega
  have hrz : ∀ ty, (Builtin.append_ #[39, 3] ty #[.slice (some ⟨G, 0, none⟩) k c, .int .i64 ((c : Int) + 1 - (k : Int))]).run Tryd.prog W = .ok (.slice (some ⟨W.heap.size, 0, none⟩) (c + 1) C) (W.drew.alloc (.cells ROW.toArray 28)) := fun ty => by
    have hh := Lib.run_append_grow_zeros W 39 3 ty 28 i0 zw .i64 .i64 Tryd.underlying39 Tryd.underlying3 hi hz0 (some ⟨G, 0, none⟩) k c (flatE (l.take k)) hold (c + 1 - k) (by omega) (by omega) (by omega) (by omega) (by rw [hz2]; omega) (by rw [hz2, show k + (c + 1 - k) = c + 1 from by omega]; exact growslice_fits hroom (by omega))
    rw [show k + (c + 1 - k) = c + 1 from by omega, ← hC] at hh
    rw [show (c : Int) + 1 - (k : Int) = ((c + 1 - k : Nat) : Int) from by omega, hh, hROW]
    have e3 : (flatE (l.take k)).toArray ++ Builtin.zeroCells zw.cells (c + 1 - k) ++ Builtin.zeroCells zw.cells (C - (c + 1)) = (flatE (l.take k) ++ ((Builtin.zeroCells zw.cells (c + 1 - k)).toList ++ (Builtin.zeroCells zw.cells (C - (c + 1))).toList)).toArray := by
      apply Array.toList_inj.1
      simp
    rw [e3]
  obtain ⟨W1, hW1⟩ : ∃ W1, W1 = W.drew.alloc (.cells ROW.toArray 28) := ⟨_, rfl⟩
  rw [← hW1] at hrz
  have a1 : Apart [] W W1 := by rw [hW1]; exact (Apart.refl [] W).drew.alloc _
  have r1 : W1.heap[W.heap.size]? = some (.cells ROW.toArray 28 (0, 0)) := by rw [hW1]; exact heap_alloc_new W.drew _
  have hB1 := (a1.block B hBs (by simp)).trans hB
  have hcpA : ∀ ty dc, (Builtin.copy_ #[39, 39] ty #[.slice (some ⟨W.heap.size, k * 6, none⟩) (c + 1 - k) dc, .slice (some ⟨B, 0, none⟩) 1 1]).run Tryd.prog W1 = .ok (goInt ((1 : Nat) : Int)) (W1.setRow W.heap.size (splice ROW (k * 6) (E.cs u)).toArray) := fun ty dc =>
    run_copy_rowN W1 39 39 ty 28 6 W.heap.size (k * 6) (c + 1 - k) dc ⟨B, 0, none⟩ 1 1 1 ROW 28 (E.cs u) Tryd.underlying39 hsz r1 (by simp only [Nat.min_def]; split <;> omega) rfl (fun j v hj => by rw [Addr.add_lit, Nat.zero_add, cell_of_row _ _ _ _ _ _ hB1]; simpa [E.cs] using hj) (by rw [hRl]; simp [E.cs]; omega) (fun v hv => oneE [u] v (by simpa [flatE] using hv))
  obtain ⟨W2, hW2⟩ : ∃ W2, W2 = W1.setRow W.heap.size (splice ROW (k * 6) (E.cs u)).toArray := ⟨_, rfl⟩
  rw [← hW2] at hcpA
  have a2 : Apart [W.heap.size] W1 W2 := by rw [hW2]; exact apart_setRow _ _ _
  have a12 : Apart [] W W2 := a1.trans' a2 (by simp)
  have r2 : W2.heap[W.heap.size]? = some (.cells (splice ROW (k * 6) (E.cs u)).toArray 28 (0, 0)) := by rw [hW2]; exact setRow_heap W1 _ _ _ 28 _ r1
  have hl2 : (splice ROW (k * 6) (E.cs u)).length = C * 6 := by rw [length_splice _ _ _ (by rw [hRl]; simp [E.cs]; omega), hRl]
  have hcB : ∀ j v, (flatE (l.drop k))[j]? = some v → W2.drew.cell? ((⟨G, k * 6, none⟩ : Addr).add j) = some v := fun j v hj => by
    rw [← drop_flat, List.getElem?_drop] at hj
    rw [Addr.add_lit]
    have e1 : W2.drew.cell? ⟨G, k * 6 + j, none⟩ = W.cell? ⟨G, k * 6 + j, none⟩ := a12.drew.cell hGs (by simp)
    rw [e1]
    exact (h.nw.own.cellAt (k * 6 + j) (by
      show k * 6 + j < c * 6
      rw [hlen] at hfl
      by_cases hc : k * 6 + j < c * 6
      · omega
      · rw [List.getElem?_eq_none (by omega)] at hj; cases hj)).trans hj
  have hcpB : ∀ ty dc sc, (Builtin.copy_ #[39, 39] ty #[.slice (some ⟨W.heap.size, (k + 1) * 6, none⟩) (c + 1 - (k + 1)) dc, .slice (some ⟨G, k * 6, none⟩) (c - k) sc]).run Tryd.prog W2.drew = .ok (goInt ((c - k : Nat) : Int)) (W2.drew.setRow W.heap.size (splice (splice ROW (k * 6) (E.cs u)) ((k + 1) * 6) (flatE (l.drop k))).toArray) := fun ty dc sc =>
    run_copy_rowN W2.drew 39 39 ty 28 6 W.heap.size ((k + 1) * 6) (c + 1 - (k + 1)) dc ⟨G, k * 6, none⟩ (c - k) sc (c - k) _ 28 (flatE (l.drop k)) Tryd.underlying39 hsz r2 (by simp only [Nat.min_def]; split <;> omega) hD hcB (by rw [hD, hl2]; omega) (oneE _)
  obtain ⟨W3, hW3⟩ : ∃ W3, W3 = W2.drew.setRow W.heap.size (splice (splice ROW (k * 6) (E.cs u)) ((k + 1) * 6) (flatE (l.drop k))).toArray := ⟨_, rfl⟩
  rw [← hW3] at hcpB
  have a3 : Apart [W.heap.size] W2 W3 := by rw [hW3]; exact (Apart.refl _ W2).drew.trans (apart_setRow _ _ _)
  have a13 : Apart [] W W3 := a12.trans' a3 (by simp)
  have r3 : W3.heap[W.heap.size]? = some (.cells (splice (splice ROW (k * 6) (E.cs u)) ((k + 1) * 6) (flatE (l.drop k))).toArray 28 (0, 0)) := by rw [hW3]; exact setRow_heap W2.drew _ _ _ 28 _ r2
  have hfin : OwnE w W3 ⟨some ⟨W.heap.size, 0, none⟩, c + 1, C⟩ (l.take k ++ [u] ++ l.drop k) := by
    refine ⟨⟨⟨by rw [flatE_length]; simp [hlen]; omega, .inr ⟨W.heap.size, C, _, rfl, Nat.zero_le _, r3, hCn, hC63, ?_, ?_⟩⟩, fun b hb => by simp [Sl.v, Value.ownBlock] at hb; subst hb; exact h.nw.ap.size, h.nw.ap.trans a13⟩, by simp [hlen]; omega⟩
    · simp only [List.size_toArray]
      rw [length_splice _ _ _ (by rw [hl2, hD]; omega), hl2]
    · have := splice_two (flatE (l.take k)) (E.cs u) (flatE (l.drop k)) ((Builtin.zeroCells zw.cells (c + 1 - k)).toList ++ (Builtin.zeroCells zw.cells (C - (c + 1))).toList) (by rw [hD]; simp [zeros_len, E.cs]; omega)
      rw [← hROW, hA, hD] at this
      rw [flatE_append, flatE_append]
      rw [show (E.cs u).length = 6 from rfl, show k * 6 + 6 = (k + 1) * 6 from by omega, show (k + 1) * 6 + (c - k) * 6 = (c + 1) * 6 from by omega] at this
      simpa [flatE] using this
  have HF := hid hfin
  have hb1 : ¬ ((k : Int) = (c : Int)) := by omega
  have hb3 : (k : Int) ≤ (c : Int) := by omega
  have hc2 := hcap.2.1
  have HCn := hid hCn
  have HC63 := hid hC63
  clear hfin hB1 r1 r2 r3 a1 a2 a12 a3 a13 hcB hcA hsplit hA hD hfl htk hcs hmx hr hcap hxl hbb hB h hlen hW1 hW2 hW3 hROW hRl hl2 hold hC hCn hC63 hGs hBs
  unfold Sl.v
  go_enter Tryd.func90, Tryd.ntmps90
  go_upto_region 10 with (first | (at_builtin; refine wpList_app2 rfl (.tmp 34) (.tmp 39) 39 3 rfl _ _ rfl rfl _ _ (hrz _) ?_))
  have hb9 : ¬ (C = k) := by have := HCn.out; omega
  have hb10 : (k : Int) ≤ (c : Int) + 1 := by omega
  have hb11 : k ≤ c + 1 := by omega
  go_upto_region 11 with (first | (at_builtin; refine wpList_copy2 rfl (.tmp 43) (.tmp 44) 39 39 rfl _ _ rfl rfl _ _ (hcpA _ _) ?_))
  have hw1 : IntKind.i64.wrap ((k : Int) + 1) = (k : Int) + 1 := by rw [IntKind.wrap_i64]; omega
  have hb12 : (0 : Int) ≤ (k : Int) + 1 := by omega
  have hb4 : (k : Int) + 1 ≤ (c : Int) + 1 := by omega
  have htn : ((k : Int) + 1).toNat = k + 1 := by omega
  have hb5 : ¬ (C = k + 1) := by have := HCn.out; omega
  have hb6 : ¬ (c = k) := by omega
  refine wp_region_held_drew (S := fun _ => True) (by kernel_rfl) trivial (fun hHeld => ?_)
  refine wpAnyH_take (i := 0) (oi := ⟨some 46, _, _, _, _, _⟩) (v := (.slice (some ⟨W.heap.size, 0, none⟩) (c + 1) C)) rfl (by kernel_rfl) (by kernel_rfl) (by kernel_rfl) (fun _ _ _ h => h) (Or.inl ⟨by rfl, ?_⟩) (by assumption) ?_
  · intro W hSW; go_simp
  simp only [Act.put, List.setIfInBounds_toArray, List.set_cons_zero, List.set_cons_succ]
  refine wpAnyH_take (i := 1) (oi := ⟨some 47, _, _, _, _, _⟩) (v := (.int .i64 (k : Int))) rfl (by kernel_rfl) (by kernel_rfl) (by kernel_rfl) (fun _ _ _ h => h) (Or.inl ⟨by rfl, ?_⟩) (by assumption) ?_
  · intro W hSW; go_simp
  simp only [Act.put, List.setIfInBounds_toArray, List.set_cons_zero, List.set_cons_succ]
  refine wpAnyH_take (i := 2) (oi := ⟨some 48, _, _, _, _, _⟩) (v := (.int .i64 1)) rfl (by kernel_rfl) (by kernel_rfl) (by kernel_rfl) (fun _ _ _ h => h) (Or.inl ⟨by rfl, ?_⟩) (by assumption) ?_
  · intro W hSW; go_simp
  simp only [Act.put, List.setIfInBounds_toArray, List.set_cons_zero, List.set_cons_succ]
  refine wpAnyH_take (i := 3) (oi := ⟨some 49, _, _, _, _, _⟩) (v := (.int .i64 ((k : Int) + 1))) rfl (by kernel_rfl) (by kernel_rfl) (by kernel_rfl) (fun _ _ _ h => h) (Or.inl ⟨by rfl, ?_⟩) (by assumption) ?_
  · intro W hSW; go_simp
  simp only [Act.put, List.setIfInBounds_toArray, List.set_cons_zero, List.set_cons_succ]
  refine wpAnyH_take (i := 4) (oi := ⟨some 50, _, _, _, _, _⟩) (v := (.slice (some ⟨W.heap.size, (k + 1) * 6, none⟩) (c + 1 - (k + 1)) (C - (k + 1)))) rfl (by kernel_rfl) (by kernel_rfl) (by kernel_rfl) (fun _ _ _ h => h) (Or.inl ⟨by rfl, ?_⟩) (by assumption) ?_
  · intro W hSW; go_simp
  simp only [Act.put, List.setIfInBounds_toArray, List.set_cons_zero, List.set_cons_succ]
  refine wpAnyH_take (i := 5) (oi := ⟨some 51, _, _, _, _, _⟩) (v := (.slice (some ⟨G, 0, none⟩) c c)) rfl (by kernel_rfl) (by kernel_rfl) (by kernel_rfl) (fun _ _ _ h => h) (Or.inl ⟨by rfl, ?_⟩) (by assumption) ?_
  · intro W hSW; go_simp
  simp only [Act.put, List.setIfInBounds_toArray, List.set_cons_zero, List.set_cons_succ]
  refine wpAnyH_take (i := 6) (oi := ⟨some 52, _, _, _, _, _⟩) (v := (.int .i64 (k : Int))) rfl (by kernel_rfl) (by kernel_rfl) (by kernel_rfl) (fun _ _ _ h => h) (Or.inl ⟨by rfl, ?_⟩) (by assumption) ?_
  · intro W hSW; go_simp
  simp only [Act.put, List.setIfInBounds_toArray, List.set_cons_zero, List.set_cons_succ]
  refine wpAnyH_take (i := 7) (oi := ⟨some 53, _, _, _, _, _⟩) (v := (.slice (some ⟨G, k * 6, none⟩) (c - k) (c - k))) rfl (by kernel_rfl) (by kernel_rfl) (by kernel_rfl) (fun _ _ _ h => h) (Or.inl ⟨by rfl, ?_⟩) (by assumption) ?_
  · intro W hSW; go_simp
  simp only [Act.put, List.setIfInBounds_toArray, List.set_cons_zero, List.set_cons_succ]
  refine wpAnyH_ready (rs := [8]) (by kernel_rfl) (by simp) ?_
  refine AllReadyH.cons rfl (fun KK hKK => ?_) AllReadyH.nil
  refine step_copy2 (o := ⟨some 54, _, _, _, _, _⟩) rfl (.tmp 50) (.tmp 53) 39 39 rfl _ _ rfl rfl _ _ (hcpB _ _ _) ?_
  refine hKK.out _ _ (by first | assumption | trivial) (fun hHeld => ?_)
  clear hKK KK
  refine wpAnyH_done (by kernel_rfl) ?_ _
  simp only [Act.put, List.setIfInBounds_toArray, List.set_cons_zero, List.set_cons_succ]
  go_wp2
  go_ret
  exact ⟨⟨some ⟨W.heap.size, 0, none⟩, c + 1, C⟩, rfl, by simpa using HF.out⟩
theorem ins_ok : InsOk := by
  intro w W s l u k B h hn hk hB
  by_cases h1 : k = s.n
  · subst h1
    have e1 : l.take s.n = l := List.take_of_length_le (by rw [h.len]; exact Nat.le_refl _)
    have e2 : l.drop s.n = [] := List.drop_eq_nil_of_le (by rw [h.len]; exact Nat.le_refl _)
    rw [e1, e2, List.append_nil]
    exact ins_end w W s l u B h hn hB
  · by_cases h2 : s.n + 1 ≤ s.c
    · exact ins_shift w W s l u k B h hn (by omega) h2 hB
    · exact ins_grow w W s l u k B h hn (by omega) (by omega) hB
end Go.Proofs.YtokaeiahhmaokaaDoor.ds
namespace Go.Proofs.YtokaeiahhmaokaaDoor.ds
open Go.ChangeShapes Go.WideShapes Go.ChangeAt Go.RowKit Go.Sort
set_option linter.unusedVariables false
set_option linter.unusedSimpArgs false
theorem LI.start (w : World) (rs : List Wr) : LI w (w.alloc (.cells #[.slice none 0 0, .slice none 0 0, .slice none 0 0] 112)) w.heap.size ⟨none, 0, 0⟩ ⟨none, 0, 0⟩ ⟨none, 0, 0⟩ [] [] [] rs 0 := by
  have a : Apart [] w (w.alloc (.cells #[.slice none 0 0, .slice none 0 0, .slice none 0 0] 112)) := (Apart.refl [] w).alloc _
  have nw : ∀ e size, Nw w (w.alloc (.cells #[.slice none 0 0, .slice none 0 0, .slice none 0 0] 112)) e size ⟨none, 0, 0⟩ [] := fun e size => ⟨World.ownsRow_nil _ _ _ _, by simp [Sl.v, Value.ownBlock], a⟩
  exact ⟨⟨heap_alloc_new w _, Nat.le_refl _, nw _ _, nw _ _, nw _ _, a⟩, rfl, rfl, rfl, rfl, rfl, rfl, fun j hj => absurd hj (by omega), fun j hj => absurd hj (by omega), fun j hj => absurd hj (by omega), fun j m _ hj => absurd hj (by omega), fun j m _ hj => absurd hj (by omega)⟩
/-- all that a round of lend makes -/
structure Rnd (w0 wr : World) (LB : Nat) (s vv xx : Sl) (fs : List E) (vs xs : List Sl) (rs : List Wr) (i : Nat) (e : E) (s1 s2 s3 s4 s5 s6 s9 : Sl) (w1 w2 w3 w4 w5 w6 w9 w10 : World) : Prop where
  r1 : (Builtin.append_ #[25, 25] 25 #[.slice none 0 0, e.v.v]).run Tryd.prog wr = .ok s1.v w1
  r2 : (Builtin.append_ #[25, 25] 25 #[s1.v, .slice (some ⟨w1.heap.size, 0, none⟩) 2 2]).run Tryd.prog (w1.alloc (.cells #[.int .u8 7, .int .u8 8] 5)) = .ok s2.v w2
  r3 : (Builtin.append_ #[26, 26] 26 #[.slice none 0 0, e.x.v]).run Tryd.prog w2 = .ok s3.v w3
  r4 : (Builtin.append_ #[26, 26] 26 #[s3.v, .slice (some ⟨w3.heap.size, 0, none⟩) 2 2]).run Tryd.prog (w3.alloc (.cells #[.int .i64 77, .int .i64 0, .int .u64 0, .int .i64 78, .int .i64 0, .int .u64 0] 80)) = .ok s4.v w4
  r5 : (Builtin.append_ #[72, 72] 72 #[vv.v, .slice (some ⟨w4.heap.size, 0, none⟩) 1 1]).run Tryd.prog (w4.alloc (.cells #[s2.v] 25)) = .ok s5.v w5
  r6 : (Builtin.append_ #[29, 29] 29 #[xx.v, .slice (some ⟨(w5.setCell ⟨LB, 1, none⟩ s5.v).heap.size, 0, none⟩) 1 1]).run Tryd.prog ((w5.setCell ⟨LB, 1, none⟩ s5.v).alloc (.cells #[s4.v] 26)) = .ok s6.v w6
  e9 : w9 = (w6.setCell ⟨LB, 2, none⟩ s6.v).alloc (boxE (lentE e s2 s4))
  r9 : (Builtin.append_ #[39, 39] 39 #[s.v, .slice (some ⟨w9.drew.heap.size, 0, none⟩) 1 1]).run Tryd.prog (w9.drew.alloc (boxE (lentE e s2 s4))) = .ok s9.v w10
  a2 : Apart [] w0 w2
  a5 : Apart [] w0 w5
  a6 : Apart [] w0 w6
  b4 : w4.heap[LB]? = some (.cells #[s.v, vv.v, xx.v] 112 (0, 0))
  b5 : w5.heap[LB]? = some (.cells #[s.v, vv.v, xx.v] 112 (0, 0))
  b6 : w6.heap[LB]? = some (.cells #[s.v, s5.v, xx.v] 112 (0, 0))
  b9 : w9.heap[LB]? = some (.cells #[s.v, s5.v, s6.v] 112 (0, 0))
  b10 : w10.heap[LB]? = some (.cells #[s.v, s5.v, s6.v] 112 (0, 0))
  m2 : e.v.n ≤ s2.c
  m4 : e.x.n ≤ s4.c
  p2 : ∃ k, s2.p = some ⟨k, 0, none⟩
  p4 : ∃ k, s4.p = some ⟨k, 0, none⟩
  n2 : s2.n = e.v.n + 2
  n4 : s4.n = e.x.n + 2
  li : LI w0 (w10.setCell ⟨LB, 0, none⟩ s9.v) LB s9 s5 s6 (fs ++ [lentE e s2 s4]) (vs ++ [s2]) (xs ++ [s4]) rs (i + 1)
theorem LI.round {w0 wr : World} {LB : Nat} {s vv xx : Sl} {fs : List E} {vs xs : List Sl} {rs : List Wr} {i : Nat} (h : LI w0 wr LB s vv xx fs vs xs rs i) (hi : i ≤ 1500000) (e : E) (he : Reads w0 e (gR rs i)) :
    ∃ s1 s2 s3 s4 s5 s6 s9 w1 w2 w3 w4 w5 w6 w9 w10, Rnd w0 wr LB s vv xx fs vs xs rs i e s1 s2 s3 s4 s5 s6 s9 w1 w2 w3 w4 w5 w6 w9 w10 := by
  have hr := he.kept0 h.lr.ap
  obtain ⟨s1, w1, s2, w2, s3, w3, s4, w4, r1, r2, r3, r4, a1, a2, a3, a4, nV, nX, n2, n4, p2, p4, m2, m4⟩ := lent_parts wr e (gR rs i) hr
  have lr4 := h.lr.kept0 a4
  obtain ⟨s5, w5, r5, b5, a5, lr5, n5, k5⟩ := lr4.addV s2 (by rw [h.vvn]; omega)
  obtain ⟨s6, w6, r6, b6, a6, lr6, n6, k6⟩ := lr5.addX s4 (by rw [h.xxn]; omega)
  obtain ⟨w9, e9⟩ : ∃ w9, w9 = (w6.setCell ⟨LB, 2, none⟩ s6.v).alloc (boxE (lentE e s2 s4)) := ⟨_, rfl⟩
  have a9 : Apart [] (w6.setCell ⟨LB, 2, none⟩ s6.v) w9 := by
    rw [e9]
    exact (Apart.refl [] _).alloc _
  have lr9 := lr6.kept0 a9
  obtain ⟨s9, w10, r9, b10, a10, lr10, n10, k10⟩ := (lr6.kept0 a9.drew).addE (lentE e s2 s4) (by rw [h.sn]; omega)
  have kt4 := KeepT.of0 a4
  have kt : KeepT w4 (w10.setCell ⟨LB, 0, none⟩ s9.v) := ((k5.trans k6).trans (KeepT.of0 a9.drew)).trans k10
  have hvl := hr.vl
  have hxl := hr.xl
  have one : One w4 (lentE e s2 s4) s2 s4 (gR rs i) :=
    ⟨hr.n, hr.c, hr.k, hr.d, hr.vb, by rw [hr.vn]; exact hr.vl, by rw [hr.x.len]; exact hr.xl, hr.x.fit, nV.own, by rw [hr.vn]; exact n2, p2, by show (⟨s2.p, e.v.n, s2.c⟩ : Sl) = _; rw [hr.vn], nX.own, by rw [hr.x.len]; exact n4, p4, by show (⟨s4.p, e.x.n, s4.c⟩ : Sl) = _; rw [hr.x.len]⟩
  have lr10' : LR w0 (w10.setCell ⟨LB, 0, none⟩ s9.v) LB s9 s5 s6 (flatE (fs ++ [lentE e s2 s4])) ((vs ++ [s2]).map Sl.v) ((xs ++ [s4]).map Sl.v) := by
    rw [← flatE_snoc, List.map_append, List.map_append]
    exact lr10
  have li := h.step (lentE e s2 s4) s2 s4 lr10' (kt4.trans kt) (one.keptK kt) nV.new nX.new (by rw [n10, h.sn]) (by rw [n5, h.vvn]) (by rw [n6, h.xxn])
  exact ⟨s1, s2, s3, s4, s5, s6, s9, w1, w2, w3, w4, w5, w6, w9, w10, ⟨r1, r2, r3, r4, r5, r6, e9, r9, h.lr.ap.trans a2, a5, a6, lr4.blk, b5, b6, lr9.blk, b10, by omega, by omega, p2, p4, n2, n4, li⟩⟩
end Go.Proofs.YtokaeiahhmaokaaDoor.ds
