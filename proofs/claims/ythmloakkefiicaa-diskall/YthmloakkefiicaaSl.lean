import Derived.Test.YthmloakkefiicaaKept
import Derived.ArgAppend
import Derived.Deep.RegionLaw
namespace Go.Proofs.Ythmloakkefiicaa.dk
open Go.ChangeShapes Go.WideShapes Go.ChangeAt Go.RowKit

/-- a slice of the call's own, one cell an element, at whatever place of its row; G: the row -/
def SlAt (w : World) (e : TypeId) (v : Value) (xs : List Value) : Option Nat → Prop
  | none => v = .slice none 0 0 ∧ xs = []
  | some g => ∃ off cap cur, v = .slice (some ⟨g, off, none⟩) xs.length cap ∧ w.heap[g]? = some (.cells cur e (0, 0)) ∧ xs.length ≤ cap ∧ off + cap ≤ cur.size ∧ ∀ j, j < xs.length → cur[off + j]? = xs[j]?
theorem SlAt.shape {w : World} {e : TypeId} {v : Value} {xs : List Value} {G : Option Nat} (h : SlAt w e v xs G) : ∃ p c, v = .slice p xs.length c := by
  cases G with
  | none => exact ⟨none, 0, by rw [h.1, h.2]; rfl⟩
  | some g => obtain ⟨off, cap, cur, hv, _⟩ := h; exact ⟨_, _, hv⟩
theorem SlAt.kept {w w' : World} {e : TypeId} {v : Value} {xs : List Value} {G : Option Nat} {X : List Nat} (h : SlAt w e v xs G) (a : Apart X w w') (hx : ∀ g, G = some g → g ∉ X) : SlAt w' e v xs G := by
  cases G with
  | none => exact h
  | some g =>
    obtain ⟨off, cap, cur, hv, hr, hrest⟩ := h
    exact ⟨off, cap, cur, hv, (a.block g (lt_of_heap hr) (hx g rfl)).trans hr, hrest⟩
theorem SlAt.typ {w : World} {e : TypeId} {v : Value} {xs : List Value} {g : Nat} (h : SlAt w e v xs (some g)) : ∃ cur, w.heap[g]? = some (.cells cur e (0, 0)) := by
  obtain ⟨off, cap, cur, hv, hr, hrest⟩ := h; exact ⟨cur, hr⟩
theorem slAt_of_own {w : World} {base : Nat} {e : TypeId} {v : Value} {xs : List Value} (h : w.ownsRow base e 1 v xs.length xs) (hp : 0 < xs.length) : ∃ g, SlAt w e v xs (some g) ∧ base ≤ g := by
  have h0 := h
  obtain ⟨_, ⟨_, hz⟩ | ⟨g, cap, cur, rfl, hb, hr, hle, _, hcs, _⟩⟩ := h
  · omega
  · refine ⟨g, ⟨0, cap, cur, rfl, hr, hle, by omega, fun j hj => ?_⟩, hb⟩
    rw [← h0.cellAt j (by omega), cell_of_row _ _ _ _ _ _ hr, Nat.zero_add]
/-- append of one element -/
theorem run_append_sl (w : World) (t ty e : TypeId) (i : TypeInfo) (z : Value) (bytes : Nat) (ht : Try.prog.underlying t = some (.slice e)) (hi : Try.prog.info? e = some i) (hz : i.zero = some z) (hsize : i.size = 1) (hby : i.bytes = bytes) (hzs : z.cells.size = 1)
    (v : Value) (xs : List Value) (G : Option Nat) (h : SlAt w e v xs G) (ad : Addr) (c : Nat) (x : Value) (hx : w.cell? ad = some x) (h1 : x.oneCell' = true) (h63 : xs.length + 1 ≤ 1000000) (hb : bytes ≤ 1000) :
    ∃ v' w' G', (Builtin.append_ #[t, t] ty #[v, .slice (some ad) 1 c]).run Try.prog w = .ok v' w' ∧ SlAt w' e v' (xs ++ [x]) G' ∧ Apart G.toList w w' ∧ (G' = G ∨ ∃ k, G' = some k ∧ w.heap.size ≤ k) := by
  have hnews : ∀ j u, [x][j]? = some u → w.cell? (ad.add j) = some u := by
    intro j u hj
    match j, hj with
    | 0, hj => simp at hj; subst hj; simpa [Addr.add] using hx
  have hone : ∀ u ∈ [x], u.oneCell' = true := by intro u hu; simp at hu; subst hu; exact h1
  have hbb : (xs.length + 1) * bytes ≤ 140737488355328 := by
    have := Nat.mul_le_mul h63 hb; omega
  have hml : xs.length + 1 ≤ maxLen := by unfold maxLen; omega
  cases G with
  | none =>
    obtain ⟨rfl, rfl⟩ := h
    obtain ⟨v', w', hrun, r1, r2, _⟩ := run_append_own (P := Try.prog) w w.heap.size t ty e i z 1 bytes ht hi hz hsize hby hzs (by decide) (.slice none 0 0) 0 [] (World.ownsRow_nil w _ e 1) ad 1 c [x] rfl hnews hone hml hbb (Nat.le_refl _)
    obtain ⟨g, hs, hg⟩ := slAt_of_own (xs := [x]) r1 (by simp)
    exact ⟨v', w', some g, hrun, hs, apart_grown r2, .inr ⟨g, rfl, hg⟩⟩
  | some g =>
    obtain ⟨off, cap, cur, rfl, hr, hle, hsz, hc⟩ := h
    by_cases hroom : xs.length + 1 ≤ cap
    · have hcell : ∀ j, w.cell? ⟨g, j, none⟩ = cur[j]? := fun j => cell_of_row _ _ _ _ _ _ hr
      have hrun := run_append_room_cells (P := Try.prog) w t ty e i ht hi g off xs.length cap ad 1 c [x] (by rw [hsize]; rfl) hnews hone hroom (fun j hj => by
        simp at hj; subst hj
        rw [hcell, hsize]
        simp; omega) (fun j hj => frozen_of_row _ _ _ _ _ hr)
      rw [hsize, Nat.mul_one] at hrun
      have e1 : w.setCells g (off + xs.length) [x] = w.setCell ⟨g, off + xs.length, none⟩ x := rfl
      rw [e1] at hrun
      refine ⟨_, _, some g, hrun, ⟨off, cap, _, by simp, heap_setCell_same _ _ _ _ _ _ hr, by simpa using hroom, by simpa using hsz, fun j hj => ?_⟩, by simpa using (Apart.refl [g] w).setCell (by simp) x, .inl rfl⟩
      simp at hj
      by_cases ej : j = xs.length
      · subst ej
        rw [Array.getElem?_setIfInBounds_self_of_lt (by omega)]
        simp
      · rw [Array.getElem?_setIfInBounds_ne (by omega), hc j (by omega), List.getElem?_append_left (by omega)]
    · obtain ⟨v', w', hrun, r1, r2⟩ := run_append_arg_grows (P := Try.prog) w t ty e i z 1 bytes ht hi hz hsize hby hzs (by decide) ⟨g, off, none⟩ xs.length cap xs (by omega) (fun j u hu => by
        have hj : j < xs.length := (List.getElem?_eq_some_iff.1 hu).1
        rw [Addr.add_lit, cell_of_row _ _ _ _ _ _ hr, hc j hj]; exact hu) ad 1 c [x] rfl hnews (by omega) hml hbb
      obtain ⟨g', hs, hg⟩ := slAt_of_own (xs := xs ++ [x]) (by simpa using r1) (by simp)
      exact ⟨v', w', some g', hrun, hs, (apart_grown r2).mono (by simp), .inr ⟨g', rfl, hg⟩⟩
/-- cut at its head -/
theorem SlAt.tail {w : World} {e : TypeId} {xs : List Value} {g off cap : Nat} (h : SlAt w e (.slice (some ⟨g, off, none⟩) xs.length cap) xs (some g)) (h4 : 1 < xs.length) : SlAt w e (.slice (some ⟨g, off + 1, none⟩) (xs.length - 1) (cap - 1)) xs.tail (some g) := by
  obtain ⟨off', cap', cur, hv, hr, hle, hsz, hc⟩ := h
  simp at hv
  obtain ⟨rfl, rfl⟩ := hv
  refine ⟨off + 1, cap - 1, cur, by simp, hr, by simp; omega, by omega, fun j hj => ?_⟩
  simp at hj
  have := hc (j + 1) (by omega)
  rw [show off + 1 + j = off + (j + 1) from by omega, this]
  simp
theorem wpList_append_sl {w : World} {ops : Array Oper} {rest : List Oper} {o : Oper} {a : Act} {Q : Exit → Act → World → Prop} (hgd : o.guard = none) (s x : Operand) (t : TypeId)
    (ho : o.op = .call { callee := .builtin .append, args := #[s, x], argTypes := #[t, t] })
    (e : TypeId) (i : TypeInfo) (z : Value) (bytes : Nat) (ht : Try.prog.underlying t = some (.slice e)) (hi : Try.prog.info? e = some i) (hz : i.zero = some z) (hsize : i.size = 1) (hby : i.bytes = bytes) (hzs : z.cells.size = 1)
    (v : Value) (xs : List Value) (G : Option Nat) (hs : a.eval s = v) (h : SlAt w e v xs G) (ad : Addr) (c : Nat) (y : Value) (hx : a.eval x = .slice (some ad) 1 c) (hy : w.cell? ad = some y) (h1 : y.oneCell' = true) (h63 : xs.length + 1 ≤ 1000000) (hb : bytes ≤ 1000)
    (hK : ∀ v' w' G', SlAt w' e v' (xs ++ [y]) G' → Apart G.toList w w' → (G' = G ∨ ∃ k, G' = some k ∧ w.heap.size ≤ k) → wpList Try.prog ops Q rest (a.put o.dst v') w') : wpList Try.prog ops Q (o :: rest) a w := by
  refine wpList_plain hgd fun K hK' => ?_
  obtain ⟨v', w', G', hrun, r1, r2, r3⟩ := run_append_sl w t o.type e i z bytes ht hi hz hsize hby hzs v xs G h ad c y hy h1 h63 hb
  unfold Oper.wp
  simp [execOp, ho, resolve, invoke, builtin, hs, hx, hrun, Result.andThen]
  exact hK' _ _ (hK v' w' G' r1 r2 r3)
theorem step_append_sl {w : World} {ops : Array Oper} {o : Oper} {a : Act} {K : Act → World → Prop} {Q : Exit → Act → World → Prop} {E : Prop} (hgd : o.guard = none) (s x : Operand) (t : TypeId)
    (ho : o.op = .call { callee := .builtin .append, args := #[s, x], argTypes := #[t, t] })
    (e : TypeId) (i : TypeInfo) (z : Value) (bytes : Nat) (ht : Try.prog.underlying t = some (.slice e)) (hi : Try.prog.info? e = some i) (hz : i.zero = some z) (hsize : i.size = 1) (hby : i.bytes = bytes) (hzs : z.cells.size = 1)
    (v : Value) (xs : List Value) (G : Option Nat) (hs : a.eval s = v) (h : SlAt w e v xs G) (ad : Addr) (c : Nat) (y : Value) (hx : a.eval x = .slice (some ad) 1 c) (hy : w.cell? ad = some y) (h1 : y.oneCell' = true) (h63 : xs.length + 1 ≤ 1000000) (hb : bytes ≤ 1000)
    (hK : ∀ v' w' G', SlAt w' e v' (xs ++ [y]) G' → Apart G.toList w w' → (G' = G ∨ ∃ k, G' = some k ∧ w.heap.size ≤ k) → K (a.put o.dst v') w') : if Region.wanted o (yielded ops a.tmps) = true then Oper.wp Try.prog o a w K Q else E := by
  have hw : Region.wanted o (yielded ops a.tmps) = true := by simp [Region.wanted, hgd]
  rw [if_pos hw]
  obtain ⟨v', w', G', hrun, r1, r2, r3⟩ := run_append_sl w t o.type e i z bytes ht hi hz hsize hby hzs v xs G h ad c y hy h1 h63 hb
  unfold Oper.wp
  simp [execOp, ho, resolve, invoke, builtin, hs, hx, hrun, Result.andThen]
  exact hK v' w' G' r1 r2 r3
end Go.Proofs.Ythmloakkefiicaa.dk
