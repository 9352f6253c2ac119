import Derived.Test.YtagjmpdimphfaaaDeals
namespace Go.Proofs.Ytagjmpdimphfaaa.rg
open Go.ChangeShapes Go.WideShapes Go.ChangeAt Go.RowKit
set_option linter.unusedVariables false
/-- a slice of the call's own, one cell an element, at whatever place of its row; G: the row -/
def SlAt (w : World) (e : TypeId) (v : Value) (xs : List Value) : Option Nat → Prop
  | none => v = .slice none 0 0 ∧ xs = []
  | some g => ∃ off cap cur, v = .slice (some ⟨g, off, none⟩) xs.length cap ∧ w.heap[g]? = some (.cells cur e (0, 0)) ∧ xs.length ≤ cap ∧ off + cap ≤ cur.size ∧ ∀ j, j < xs.length → cur[off + j]? = xs[j]?
theorem SlAt.shape {w : World} {e : TypeId} {v : Value} {xs : List Value} {G : Option Nat} (h : SlAt w e v xs G) : ∃ p c, v = .slice p xs.length c := by
  cases G with
  | none => exact ⟨none, 0, by rw [h.1, h.2]; rfl⟩
  | some g => obtain ⟨off, cap, cur, hv, _⟩ := h; exact ⟨_, _, hv⟩
theorem SlAt.kept {w w' : World} {e : TypeId} {v : Value} {xs : List Value} {G : Option Nat} {X : List Nat} (h : SlAt w e v xs G) (a : Apart X w w') (hx : ∀ g, G = some g → g ∉ X) : SlAt w' e v xs G := by
  cases G with
  | none => exact h
  | some g =>
    obtain ⟨off, cap, cur, hv, hr, hrest⟩ := h
    exact ⟨off, cap, cur, hv, (a.block g (lt_of_heap hr) (hx g rfl)).trans hr, hrest⟩
theorem SlAt.typ {w : World} {e : TypeId} {v : Value} {xs : List Value} {g : Nat} (h : SlAt w e v xs (some g)) : ∃ cur, w.heap[g]? = some (.cells cur e (0, 0)) := by
  obtain ⟨off, cap, cur, hv, hr, hrest⟩ := h; exact ⟨cur, hr⟩
theorem slAt_of_own {w : World} {base : Nat} {e : TypeId} {v : Value} {xs : List Value} (h : w.ownsRow base e 1 v xs.length xs) (hp : 0 < xs.length) : ∃ g, SlAt w e v xs (some g) ∧ base ≤ g := by
  have h0 := h
  obtain ⟨_, ⟨_, hz⟩ | ⟨g, cap, cur, rfl, hb, hr, hle, _, hcs, _⟩⟩ := h
  · omega
  · refine ⟨g, ⟨0, cap, cur, rfl, hr, hle, by omega, fun j hj => ?_⟩, hb⟩
    rw [← h0.cellAt j (by omega), cell_of_row _ _ _ _ _ _ hr, Nat.zero_add]
/-- append of one element -/
theorem run_append_sl (w : World) (t ty e : TypeId) (i : TypeInfo) (z : Value) (bytes : Nat) (ht : Try.prog.underlying t = some (.slice e)) (hi : Try.prog.info? e = some i) (hz : i.zero = some z) (hsize : i.size = 1) (hby : i.bytes = bytes) (hzs : z.cells.size = 1)
    (v : Value) (xs : List Value) (G : Option Nat) (h : SlAt w e v xs G) (ad : Addr) (c : Nat) (x : Value) (hx : w.cell? ad = some x) (h1 : x.oneCell' = true) (h63 : xs.length + 1 ≤ 1000000) (hb : bytes ≤ 1000) :
    ∃ v' w' G', (Builtin.append_ #[t, t] ty #[v, .slice (some ad) 1 c]).run Try.prog w = .ok v' w' ∧ SlAt w' e v' (xs ++ [x]) G' ∧ Apart G.toList w w' ∧ (G' = G ∨ ∃ k, G' = some k ∧ w.heap.size ≤ k) := by
  have hnews : ∀ j u, [x][j]? = some u → w.cell? (ad.add j) = some u := by
    intro j u hj
    match j, hj with
    | 0, hj => simp at hj; subst hj; simpa [Addr.add] using hx
  have hone : ∀ u ∈ [x], u.oneCell' = true := by intro u hu; simp at hu; subst hu; exact h1
  have hbb : (xs.length + 1) * bytes ≤ 140737488355328 := by
    have := Nat.mul_le_mul h63 hb; omega
  have hml : xs.length + 1 ≤ maxLen := by unfold maxLen; omega
  cases G with
  | none =>
    obtain ⟨rfl, rfl⟩ := h
    obtain ⟨v', w', hrun, r1, r2, _⟩ := run_append_own (P := Try.prog) w w.heap.size t ty e i z 1 bytes ht hi hz hsize hby hzs (by decide) (.slice none 0 0) 0 [] (World.ownsRow_nil w _ e 1) ad 1 c [x] rfl hnews hone hml hbb (Nat.le_refl _)
    obtain ⟨g, hs, hg⟩ := slAt_of_own (xs := [x]) r1 (by simp)
    exact ⟨v', w', some g, hrun, hs, apart_grown r2, .inr ⟨g, rfl, hg⟩⟩
  | some g =>
    obtain ⟨off, cap, cur, rfl, hr, hle, hsz, hc⟩ := h
    by_cases hroom : xs.length + 1 ≤ cap
    · have hcell : ∀ j, w.cell? ⟨g, j, none⟩ = cur[j]? := fun j => cell_of_row _ _ _ _ _ _ hr
      have hrun := run_append_room_cells (P := Try.prog) w t ty e i ht hi g off xs.length cap ad 1 c [x] (by rw [hsize]; rfl) hnews hone hroom (fun j hj => by
        simp at hj; subst hj
        rw [hcell, hsize]
        simp; omega) (fun j hj => frozen_of_row _ _ _ _ _ hr)
      rw [hsize, Nat.mul_one] at hrun
      have e1 : w.setCells g (off + xs.length) [x] = w.setCell ⟨g, off + xs.length, none⟩ x := rfl
      rw [e1] at hrun
      refine ⟨_, _, some g, hrun, ⟨off, cap, _, by simp, heap_setCell_same _ _ _ _ _ _ hr, by simpa using hroom, by simpa using hsz, fun j hj => ?_⟩, by simpa using (Apart.refl [g] w).setCell (by simp) x, .inl rfl⟩
      simp at hj
      by_cases ej : j = xs.length
      · subst ej
        rw [Array.getElem?_setIfInBounds_self_of_lt (by omega)]
        simp
      · rw [Array.getElem?_setIfInBounds_ne (by omega), hc j (by omega), List.getElem?_append_left (by omega)]
    · obtain ⟨v', w', hrun, r1, r2⟩ := run_append_arg_grows (P := Try.prog) w t ty e i z 1 bytes ht hi hz hsize hby hzs (by decide) ⟨g, off, none⟩ xs.length cap xs (by omega) (fun j u hu => by
        have hj : j < xs.length := (List.getElem?_eq_some_iff.1 hu).1
        rw [Addr.add_lit, cell_of_row _ _ _ _ _ _ hr, hc j hj]; exact hu) ad 1 c [x] rfl hnews (by omega) hml hbb
      obtain ⟨g', hs, hg⟩ := slAt_of_own (xs := xs ++ [x]) (by simpa using r1) (by simp)
      exact ⟨v', w', some g', hrun, hs, (apart_grown r2).mono (by simp), .inr ⟨g', rfl, hg⟩⟩
/-- cut at its head -/
theorem SlAt.tail {w : World} {e : TypeId} {xs : List Value} {g off cap : Nat} (h : SlAt w e (.slice (some ⟨g, off, none⟩) xs.length cap) xs (some g)) (h4 : 1 < xs.length) : SlAt w e (.slice (some ⟨g, off + 1, none⟩) (xs.length - 1) (cap - 1)) xs.tail (some g) := by
  obtain ⟨off', cap', cur, hv, hr, hle, hsz, hc⟩ := h
  simp at hv
  obtain ⟨rfl, rfl⟩ := hv
  refine ⟨off + 1, cap - 1, cur, by simp, hr, by simp; omega, by omega, fun j hj => ?_⟩
  simp at hj
  have := hc (j + 1) (by omega)
  rw [show off + 1 + j = off + (j + 1) from by omega, this]
  simp
theorem info28 : (Try.prog.info? 28).map (fun i => (i.zero, i.size, i.bytes)) = some (some (.slice none 0 0), 1, 24) := by kernel_rfl
/-- append of one to a [][]int -/
theorem append51 (w : World) (ty : TypeId) (v : Value) (xs : List Value) (G : Option Nat) (h : SlAt w 28 v xs G) (ad : Addr) (c : Nat) (x : Value) (hx : w.cell? ad = some x) (h1 : x.oneCell' = true) (h63 : xs.length + 1 ≤ 1000000) :
    ∃ v' w' G', (Builtin.append_ #[51, 51] ty #[v, .slice (some ad) 1 c]).run Try.prog w = .ok v' w' ∧ SlAt w' 28 v' (xs ++ [x]) G' ∧ Apart G.toList w w' ∧ (G' = G ∨ ∃ k, G' = some k ∧ w.heap.size ≤ k) := by
  obtain ⟨i0, hi, hz0, hz1, hz2⟩ := info_parts info28
  exact run_append_sl w 51 ty 28 i0 (.slice none 0 0) 24 Try.underlying51 hi hz0 hz1 hz2 rfl v xs G h ad c x hx h1 h63 (by omega)
/-- append of one to a []int -/
theorem append28 (w : World) (ty : TypeId) (v : Value) (xs : List Value) (G : Option Nat) (h : SlAt w 3 v xs G) (ad : Addr) (c : Nat) (x : Value) (hx : w.cell? ad = some x) (h1 : x.oneCell' = true) (h63 : xs.length + 1 ≤ 1000000) :
    ∃ v' w' G', (Builtin.append_ #[28, 28] ty #[v, .slice (some ad) 1 c]).run Try.prog w = .ok v' w' ∧ SlAt w' 3 v' (xs ++ [x]) G' ∧ Apart G.toList w w' ∧ (G' = G ∨ ∃ k, G' = some k ∧ w.heap.size ≤ k) := by
  obtain ⟨i0, hi, hz0, hz1, hz2⟩ := info_parts info3
  exact run_append_sl w 28 ty 3 i0 (.int .i64 0) 8 Try.underlying28 hi hz0 hz1 hz2 rfl v xs G h ad c x hx h1 h63 (by omega)
/-- a list that was answered: where it lies, and what it holds -/
structure An where
  p : Option Addr
  n : Nat
  cap : Nat
  zs : List Int
def An.v (a : An) : Value := .slice a.p a.n a.cap
def An.blk (a : An) : Option Nat := a.p.map (·.block)
def An.At (w : World) (a : An) : Prop := (a.p = none ∧ a.n = 0 ∧ a.cap = 0 ∧ a.zs = []) ∨ ∃ P o, a.p = some ⟨P, o, none⟩ ∧ Ob w P o a.n a.cap a.zs
theorem An.At.kept {w w' : World} {a : An} {X : List Nat} (h : a.At w) (ap : Apart X w w') (hx : ∀ b, a.blk = some b → b ∉ X) : a.At w' := by
  rcases h with h | ⟨P, o, hp, h⟩
  · exact .inl h
  · exact .inr ⟨P, o, hp, h.kept ap (hx P (by simp [An.blk, hp]))⟩
theorem An.At.ir {w : World} {a : An} (h : a.At w) : Ir w a.p a.n a.zs := by
  rcases h with ⟨h1, h2, h3, h4⟩ | ⟨P, o, hp, h⟩
  · rw [h1, h2, h4]; exact ⟨rfl, fun h0 => absurd h0 (Nat.lt_irrefl _)⟩
  · rw [hp]; exact h.ir
theorem An.At.len {w : World} {a : An} (h : a.At w) : a.zs.length = a.n := h.ir.len
end Go.Proofs.Ytagjmpdimphfaaa.rg
