import Derived.Test.YtiakcfjbnlibfaaN14
namespace Go.Proofs.Ytiakcfjbnlibfaa.nt
open Go.ChangeShapes Go.WideShapes Go.ChangeAt Go.RowKit
set_option linter.unusedVariables false
set_option linter.unusedSimpArgs false
theorem wpList_clear2 {w : World} {ops : Array Oper} {rest : List Oper} {o : Oper} {a : Act} {Q : Exit → Act → World → Prop} (hgd : o.guard = none) (s : Operand) (t : TypeId)
    (ho : o.op = .call { callee := .builtin .clear, args := #[s], argTypes := #[t] }) (v : Value) (hs : a.eval s = v) (v' : Value) (w' : World)
    (hrun : (Builtin.clear_ #[t] o.type #[v]).run Try.prog w = .ok v' w') (hK : wpList Try.prog ops Q rest (a.put o.dst v') w') : wpList Try.prog ops Q (o :: rest) a w := by
  refine wpList_plain hgd fun K hK' => ?_
  unfold Oper.wp
  simp [execOp, ho, resolve, invoke, builtin, hs, hrun, Result.andThen]
  exact hK' _ _ hK
theorem zero30 (w : World) : (zeroValue 30).run Try.prog w = .ok (.agg #[.int .i64 0, .int .i64 0, .slice none 0 0]) w := by
  obtain ⟨i0, hi, hz0, hz1, hz2⟩ := info_parts infoL
  simp [zeroValue, typeInfo, hi, hz0]
/-- clear of one letter -/
theorem run_clear1 (w : World) (ty : TypeId) (g o c : Nat) (cur : List Value) (t : TypeId) (hg : w.heap[g]? = some (.cells cur.toArray t (0, 0))) (hfit : o + 3 ≤ cur.length) :
    (Builtin.clear_ #[22] ty #[.slice (some ⟨g, o, none⟩) 1 c]).run Try.prog w = .ok (.tuple #[]) (w.setRow g (splice cur o (flatL [LM.z])).toArray) := by
  have hst := run_storeCells_at Try.prog g o t (flatL [LM.z]) 0 cur.toArray w hg (by simpa [flatL, LM.cs] using hfit) (oneL _)
  have hzc : (Builtin.zeroCells (Value.agg #[.int .i64 0, .int .i64 0, .slice none 0 0]).cells 1).toList = flatL [LM.z] := by kernel_rfl
  simp only [Nat.add_zero] at hst
  simp [Builtin.clear_, run_underlying Try.underlying22, zero30, hzc, hst, splice]
theorem own_shrink {w : World} {G n c : Nat} {ls : List LM} (h : w.ownsRow 0 30 3 (.slice (some ⟨G, 0, none⟩) n c) n (flatL ls)) (m : Nat) (hm : m ≤ n) : w.ownsRow 0 30 3 (.slice (some ⟨G, 0, none⟩) m c) m (flatL (ls.take m)) := by
  obtain ⟨hxl, ⟨hv, hz⟩ | ⟨g, cap, cur, hv, hb, hr, hle, hmx, hcs, htk⟩⟩ := h
  · simp at hv
  · simp at hv
    obtain ⟨rfl, rfl⟩ := hv
    have hl : ls.length = n := by rw [flatL_length] at hxl; omega
    have e := flat_cut ls 0 m
    simp only [List.drop_zero, Nat.zero_mul] at e
    refine ⟨by rw [flatL_length, List.length_take]; omega, .inr ⟨G, c, cur, rfl, hb, hr, by omega, hmx, hcs, ?_⟩⟩
    rw [e, ← htk, List.take_take, Nat.min_eq_left (by omega)]
def ers (i j : Nat) : Nat := if j < i then j else j + 1
theorem er_get {α : Type} (d : α) (l : List α) (i j : Nat) : (l.eraseIdx i).getD j d = l.getD (ers i j) d := by
  unfold ers
  simp only [List.getD_eq_getElem?_getD, List.getElem?_eraseIdx]
  split <;> rfl
theorem er_split {α : Type} (l : List α) (i : Nat) : l.take i ++ l.drop (i + 1) = l.eraseIdx i := (List.eraseIdx_eq_take_drop_succ l i).symm
/-- the letters behind takeOut -/
theorem Bag.took {w0 w W : World} {Bg G m c : Nat} {room : Int} {ls : List LM} {xs : List Tx} {k : Cn} (h : Bag w0 w Bg room ⟨some ⟨G, 0, none⟩, m + 1, c⟩ ls xs k) (i : Nat) (hi : i ≤ m) (a : Apart [G] w W) (o : W.ownsRow 0 30 3 (.slice (some ⟨G, 0, none⟩) m c) m (flatL (ls.eraseIdx i))) :
    Bag w0 (W.setCell ⟨Bg, 1, none⟩ (.slice (some ⟨G, 0, none⟩) m c)) Bg room ⟨some ⟨G, 0, none⟩, m, c⟩ (ls.eraseIdx i) (xs.eraseIdx i) k ∧ Apart [G, Bg] w (W.setCell ⟨Bg, 1, none⟩ (.slice (some ⟨G, 0, none⟩) m c)) := by
  have hl : ls.length = m + 1 := h.len
  have hx : xs.length = m + 1 := h.xl
  obtain ⟨cu, tG⟩ := own_typ h.row.own (k := G) rfl
  have hne : ∀ (t : TypeId), t ≠ 30 → ∀ k ∈ [G], ∀ cur : Array Value, w.heap[k]? ≠ some (.cells cur t (0, 0)) := fun t ht k hk cur => by simp at hk; subst hk; exact blk_ne tG cur ht
  have hGw : w0.heap.size ≤ G := h.row.new G rfl
  have b1 := (a.block Bg (lt_of_heap h.blk) (fun m => hne 57 (by decide) Bg m _ h.blk)).trans h.blk
  have ag : Apart [Bg] W (W.setCell ⟨Bg, 1, none⟩ (.slice (some ⟨G, 0, none⟩) m c)) := (Apart.refl _ _).setCell (.inl (by simp)) _
  have hne2 : ∀ (t : TypeId), t ≠ 57 → ∀ k ∈ [Bg], ∀ cur : Array Value, W.heap[k]? ≠ some (.cells cur t (0, 0)) := fun t ht k hk cur => by simp at hk; subst hk; exact blk_ne b1 cur ht
  have hap : Apart [] w0 W := h.row.ap.trans' a (by simp; exact hGw)
  have hap2 := hap.trans' ag (by simp; exact h.hB)
  refine ⟨⟨?_, h.hB, (⟨o, h.row.new, hap⟩ : Nw w0 W 30 3 ⟨some ⟨G, 0, none⟩, m, c⟩ (flatL (ls.eraseIdx i))).keepT ag hap2 (hne2 30 (by decide)), by rw [List.length_eraseIdx, if_pos (by omega)]; simp; omega, by rw [List.length_eraseIdx, if_pos (by omega)]; simp; omega, by have := h.le; simp at this ⊢; omega, fun q hq => ?_⟩, (a.mono (by simp)).trans (ag.mono (by simp))⟩
  · have := heap_setCell_same W Bg 1 _ 57 (.slice (some ⟨G, 0, none⟩) m c) b1
    simpa [Sl.v] using this
  · have hq' : q < m := hq
    rw [show gL (ls.eraseIdx i) q = gL ls (ers i q) from er_get _ _ _ _, show gT (xs.eraseIdx i) q = gT xs (ers i q) from er_get _ _ _ _]
    exact ((h.rd (ers i q) (by show ers i q < m + 1; unfold ers; split <;> omega)).keepT a (hne 5 (by decide))).keepT ag (hne2 5 (by decide))
/-- the row behind the copy and the clear -/
theorem out_rows {w : World} {G m c : Nat} {ls : List LM} (h : w.ownsRow 0 30 3 (.slice (some ⟨G, 0, none⟩) (m + 1) c) (m + 1) (flatL ls)) (hl : ls.length = m + 1) (i : Nat) (hi : i ≤ m) :
    ∃ cur : List Value, w.heap[G]? = some (.cells cur.toArray 30 (0, 0)) ∧ i * 3 + (flatL (ls.drop (i + 1))).length ≤ cur.length ∧ ∃ cur2 : List Value, (w.setRow G (splice cur (i * 3) (flatL (ls.drop (i + 1)))).toArray).heap[G]? = some (.cells cur2.toArray 30 (0, 0)) ∧ m * 3 + 3 ≤ cur2.length ∧
      ((w.setRow G (splice cur (i * 3) (flatL (ls.drop (i + 1)))).toArray).setRow G (splice cur2 (m * 3) (flatL [LM.z])).toArray).ownsRow 0 30 3 (.slice (some ⟨G, 0, none⟩) m c) m (flatL (ls.eraseIdx i)) ∧
      (w.setRow G (splice cur (i * 3) (flatL (ls.drop (i + 1)))).toArray).ownsRow 0 30 3 (.slice (some ⟨G, 0, none⟩) (m + 1) c) (m + 1) (flatL (ls.eraseIdx i ++ ls.drop m)) := by
  obtain ⟨cur, hcur, hspl⟩ := own_splice h
  have hml : (ls.drop (i + 1)).length = m - i := by simp; omega
  have hfl := flatL_length ls
  have hfd := flatL_length (ls.drop (i + 1))
  obtain ⟨hfit, ho⟩ := hspl w (i * 3) (flatL (ls.drop (i + 1))) rfl (by omega)
  rw [flat_splice ls (ls.drop (i + 1)) i (by omega), hml, show i + (m - i) = m from by omega, er_split] at ho
  obtain ⟨cur2, hcur2, hspl2⟩ := own_splice ho
  have hel : (ls.eraseIdx i).length = m := by rw [List.length_eraseIdx, if_pos (by omega)]; omega
  have hl2 : (ls.eraseIdx i ++ ls.drop m).length = m + 1 := by simp [hel]; omega
  have hf2 := flatL_length (ls.eraseIdx i ++ ls.drop m)
  obtain ⟨hfit2, ho2⟩ := hspl2 _ (m * 3) (flatL [LM.z]) rfl (by rw [hf2, hl2]; simp [flatL, LM.cs]; omega)
  rw [flat_splice (ls.eraseIdx i ++ ls.drop m) [LM.z] m (by rw [hl2]; simp)] at ho2
  refine ⟨cur, hcur, hfit, cur2, hcur2, by simpa [flatL, LM.cs] using hfit2, ?_, ho⟩
  have := own_shrink ho2 m (by omega)
  rwa [show ((ls.eraseIdx i ++ ls.drop m).take m ++ [LM.z] ++ (ls.eraseIdx i ++ ls.drop m).drop (m + [LM.z].length)).take m = ls.eraseIdx i from by
    rw [List.take_append_of_le_length (by simp; omega), List.take_append_of_le_length (by simp; omega), List.take_take, Nat.min_self, List.take_append_of_le_length (by omega), List.take_of_length_le (by omega)]] at this
end Go.Proofs.Ytiakcfjbnlibfaa.nt
