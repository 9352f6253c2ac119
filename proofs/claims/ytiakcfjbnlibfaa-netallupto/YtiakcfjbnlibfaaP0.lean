import Derived.Test.YtiakcfjbnlibfaaS5
namespace Go.Proofs.Ytiakcfjbnlibfaa.nt
open Go.ChangeShapes Go.WideShapes Go.ChangeAt Go.RowKit
set_option linter.unusedVariables false
set_option linter.unusedSimpArgs false
/-- a slice of the call's own, one cell an element, at whatever place of its row; G: the row -/
def SlAt (w : World) (e : TypeId) (v : Value) (xs : List Value) : Option Nat → Prop
  | none => v = .slice none 0 0 ∧ xs = []
  | some g => ∃ off cap cur, v = .slice (some ⟨g, off, none⟩) xs.length cap ∧ w.heap[g]? = some (.cells cur e (0, 0)) ∧ xs.length ≤ cap ∧ off + cap ≤ cur.size ∧ ∀ j, j < xs.length → cur[off + j]? = xs[j]?
theorem SlAt.shape {w : World} {e : TypeId} {v : Value} {xs : List Value} {G : Option Nat} (h : SlAt w e v xs G) : ∃ p c, v = .slice p xs.length c := by
  cases G with
  | none => exact ⟨none, 0, by rw [h.1, h.2]; rfl⟩
  | some g => obtain ⟨off, cap, cur, hv, _⟩ := h; exact ⟨_, _, hv⟩
theorem SlAt.kept {w w' : World} {e : TypeId} {v : Value} {xs : List Value} {G : Option Nat} {X : List Nat} (h : SlAt w e v xs G) (a : Apart X w w') (hx : ∀ g, G = some g → g ∉ X) : SlAt w' e v xs G := by
  cases G with
  | none => exact h
  | some g =>
    obtain ⟨off, cap, cur, hv, hr, hrest⟩ := h
    exact ⟨off, cap, cur, hv, (a.block g (lt_of_heap hr) (hx g rfl)).trans hr, hrest⟩
theorem SlAt.typ {w : World} {e : TypeId} {v : Value} {xs : List Value} {g : Nat} (h : SlAt w e v xs (some g)) : ∃ cur, w.heap[g]? = some (.cells cur e (0, 0)) := by
  obtain ⟨off, cap, cur, hv, hr, hrest⟩ := h; exact ⟨cur, hr⟩
theorem slAt_of_own {w : World} {base : Nat} {e : TypeId} {v : Value} {xs : List Value} (h : w.ownsRow base e 1 v xs.length xs) (hp : 0 < xs.length) : ∃ g, SlAt w e v xs (some g) ∧ base ≤ g := by
  have h0 := h
  obtain ⟨_, ⟨_, hz⟩ | ⟨g, cap, cur, rfl, hb, hr, hle, _, hcs, _⟩⟩ := h
  · omega
  · refine ⟨g, ⟨0, cap, cur, rfl, hr, hle, by omega, fun j hj => ?_⟩, hb⟩
    rw [← h0.cellAt j (by omega), cell_of_row _ _ _ _ _ _ hr, Nat.zero_add]
/-- append of one element -/
theorem run_append_sl (w : World) (t ty e : TypeId) (i : TypeInfo) (z : Value) (bytes : Nat) (ht : Try.prog.underlying t = some (.slice e)) (hi : Try.prog.info? e = some i) (hz : i.zero = some z) (hsize : i.size = 1) (hby : i.bytes = bytes) (hzs : z.cells.size = 1)
    (v : Value) (xs : List Value) (G : Option Nat) (h : SlAt w e v xs G) (ad : Addr) (c : Nat) (x : Value) (hx : w.cell? ad = some x) (h1 : x.oneCell' = true) (h63 : xs.length + 1 ≤ 1000000) (hb : bytes ≤ 1000) :
    ∃ v' w' G', (Builtin.append_ #[t, t] ty #[v, .slice (some ad) 1 c]).run Try.prog w = .ok v' w' ∧ SlAt w' e v' (xs ++ [x]) G' ∧ Apart G.toList w w' ∧ (G' = G ∨ ∃ k, G' = some k ∧ w.heap.size ≤ k) := by
  have hnews : ∀ j u, [x][j]? = some u → w.cell? (ad.add j) = some u := by
    intro j u hj
    match j, hj with
    | 0, hj => simp at hj; subst hj; simpa [Addr.add] using hx
  have hone : ∀ u ∈ [x], u.oneCell' = true := by intro u hu; simp at hu; subst hu; exact h1
  have hbb : (xs.length + 1) * bytes ≤ 140737488355328 := by
    have := Nat.mul_le_mul h63 hb; omega
  have hml : xs.length + 1 ≤ maxLen := by unfold maxLen; omega
  cases G with
  | none =>
    obtain ⟨rfl, rfl⟩ := h
    obtain ⟨v', w', hrun, r1, r2, _⟩ := run_append_own (P := Try.prog) w w.heap.size t ty e i z 1 bytes ht hi hz hsize hby hzs (by decide) (.slice none 0 0) 0 [] (World.ownsRow_nil w _ e 1) ad 1 c [x] rfl hnews hone hml hbb (Nat.le_refl _)
    obtain ⟨g, hs, hg⟩ := slAt_of_own (xs := [x]) r1 (by simp)
    exact ⟨v', w', some g, hrun, hs, apart_grown r2, .inr ⟨g, rfl, hg⟩⟩
  | some g =>
    obtain ⟨off, cap, cur, rfl, hr, hle, hsz, hc⟩ := h
    by_cases hroom : xs.length + 1 ≤ cap
    · have hcell : ∀ j, w.cell? ⟨g, j, none⟩ = cur[j]? := fun j => cell_of_row _ _ _ _ _ _ hr
      have hrun := run_append_room_cells (P := Try.prog) w t ty e i ht hi g off xs.length cap ad 1 c [x] (by rw [hsize]; rfl) hnews hone hroom (fun j hj => by
        simp at hj; subst hj
        rw [hcell, hsize]
        simp; omega) (fun j hj => frozen_of_row _ _ _ _ _ hr)
      rw [hsize, Nat.mul_one] at hrun
      have e1 : w.setCells g (off + xs.length) [x] = w.setCell ⟨g, off + xs.length, none⟩ x := rfl
      rw [e1] at hrun
      refine ⟨_, _, some g, hrun, ⟨off, cap, _, by simp, heap_setCell_same _ _ _ _ _ _ hr, by simpa using hroom, by simpa using hsz, fun j hj => ?_⟩, by simpa using (Apart.refl [g] w).setCell (by simp) x, .inl rfl⟩
      simp at hj
      by_cases ej : j = xs.length
      · subst ej
        rw [Array.getElem?_setIfInBounds_self_of_lt (by omega)]
        simp
      · rw [Array.getElem?_setIfInBounds_ne (by omega), hc j (by omega), List.getElem?_append_left (by omega)]
    · obtain ⟨v', w', hrun, r1, r2⟩ := run_append_arg_grows (P := Try.prog) w t ty e i z 1 bytes ht hi hz hsize hby hzs (by decide) ⟨g, off, none⟩ xs.length cap xs (by omega) (fun j u hu => by
        have hj : j < xs.length := (List.getElem?_eq_some_iff.1 hu).1
        rw [Addr.add_lit, cell_of_row _ _ _ _ _ _ hr, hc j hj]; exact hu) ad 1 c [x] rfl hnews (by omega) hml hbb
      obtain ⟨g', hs, hg⟩ := slAt_of_own (xs := xs ++ [x]) (by simpa using r1) (by simp)
      exact ⟨v', w', some g', hrun, hs, (apart_grown r2).mono (by simp), .inr ⟨g', rfl, hg⟩⟩
/-- cut at its head -/
theorem SlAt.tail {w : World} {e : TypeId} {xs : List Value} {g off cap : Nat} (h : SlAt w e (.slice (some ⟨g, off, none⟩) xs.length cap) xs (some g)) (h4 : 1 < xs.length) : SlAt w e (.slice (some ⟨g, off + 1, none⟩) (xs.length - 1) (cap - 1)) xs.tail (some g) := by
  obtain ⟨off', cap', cur, hv, hr, hle, hsz, hc⟩ := h
  simp at hv
  obtain ⟨rfl, rfl⟩ := hv
  refine ⟨off + 1, cap - 1, cur, by simp, hr, by simp; omega, by omega, fun j hj => ?_⟩
  simp at hj
  have := hc (j + 1) (by omega)
  rw [show off + 1 + j = off + (j + 1) from by omega, this]
  simp
def ety (f : Nat) : TypeId := if f = 2 ∨ f = 8 then 28 else if f = 5 ∨ f = 6 then 3 else if f = 9 then 9 else 65
def sty (f : Nat) : TypeId := if f = 2 ∨ f = 8 then 63 else if f = 5 ∨ f = 6 then 65 else if f = 9 then 67 else 64
def fs : List Nat := [2, 3, 5, 6, 8, 9, 10, 11]
/-- the pair's other cells -/
structure Oth where
  b : Value
  r : Value
  mark : Int
  lent : Value
  turns : Int
def rowS (v : Nat → Value) (o : Oth) : Array Value := #[o.b, o.r, v 2, v 3, .int .i64 o.mark, v 5, v 6, o.lent, v 8, v 9, v 10, v 11, .int .i64 o.turns]
theorem info28 : (Try.prog.info? 28).map (fun i => (i.zero, i.size, i.bytes)) = some (some (.slice none 0 0), 1, 24) := by kernel_rfl
theorem info65 : (Try.prog.info? 65).map (fun i => (i.zero, i.size, i.bytes)) = some (some (.slice none 0 0), 1, 24) := by kernel_rfl
theorem info9 : (Try.prog.info? 9).map (fun i => (i.zero, i.size, i.bytes)) = some (some (.string ByteArray.empty), 1, 16) := by kernel_rfl
/-- append of one to a field's list -/
theorem appF (f : Nat) (hf : f ∈ fs) (w : World) (ty : TypeId) (v : Value) (xs : List Value) (G : Option Nat) (h : SlAt w (ety f) v xs G) (ad : Addr) (c : Nat) (x : Value) (hx : w.cell? ad = some x) (h1 : x.oneCell' = true) (h63 : xs.length + 1 ≤ 1000000) :
    ∃ v' w' G', (Builtin.append_ #[sty f, sty f] ty #[v, .slice (some ad) 1 c]).run Try.prog w = .ok v' w' ∧ SlAt w' (ety f) v' (xs ++ [x]) G' ∧ Apart G.toList w w' ∧ (G' = G ∨ ∃ k, G' = some k ∧ w.heap.size ≤ k) := by
  obtain ⟨i1, hi1, ha0, ha1, ha2⟩ := info_parts info28
  obtain ⟨i2, hi2, hb0, hb1, hb2⟩ := info_parts info65
  obtain ⟨i3, hi3, hc0, hc1, hc2⟩ := info_parts infoI
  obtain ⟨i4, hi4, hd0, hd1, hd2⟩ := info_parts info9
  simp only [fs, List.mem_cons, List.not_mem_nil, or_false] at hf
  rcases hf with rfl | rfl | rfl | rfl | rfl | rfl | rfl | rfl
  · exact run_append_sl w 63 ty 28 i1 _ 24 Try.underlying63 hi1 ha0 ha1 ha2 rfl v xs G h ad c x hx h1 h63 (by omega)
  · exact run_append_sl w 64 ty 65 i2 _ 24 Try.underlying64 hi2 hb0 hb1 hb2 rfl v xs G h ad c x hx h1 h63 (by omega)
  · exact run_append_sl w 65 ty 3 i3 _ 8 Try.underlying65 hi3 hc0 hc1 hc2 rfl v xs G h ad c x hx h1 h63 (by omega)
  · exact run_append_sl w 65 ty 3 i3 _ 8 Try.underlying65 hi3 hc0 hc1 hc2 rfl v xs G h ad c x hx h1 h63 (by omega)
  · exact run_append_sl w 63 ty 28 i1 _ 24 Try.underlying63 hi1 ha0 ha1 ha2 rfl v xs G h ad c x hx h1 h63 (by omega)
  · exact run_append_sl w 67 ty 9 i4 _ 16 Try.underlying67 hi4 hd0 hd1 hd2 rfl v xs G h ad c x hx h1 h63 (by omega)
  · exact run_append_sl w 64 ty 65 i2 _ 24 Try.underlying64 hi2 hb0 hb1 hb2 rfl v xs G h ad c x hx h1 h63 (by omega)
  · exact run_append_sl w 64 ty 65 i2 _ 24 Try.underlying64 hi2 hb0 hb1 hb2 rfl v xs G h ad c x hx h1 h63 (by omega)
def updV (v : Nat → Value) (f : Nat) (x : Value) : Nat → Value := fun k => if k = f then x else v k
def updG (v : Nat → Option Nat) (f : Nat) (x : Option Nat) : Nat → Option Nat := fun k => if k = f then x else v k
def updC (v : Nat → List Value) (f : Nat) (x : List Value) : Nat → List Value := fun k => if k = f then x else v k
theorem rowS_upd (v : Nat → Value) (o : Oth) (f : Nat) (x : Value) (hf : f ∈ fs) : (rowS v o).setIfInBounds f x = rowS (updV v f x) o := by
  simp only [fs, List.mem_cons, List.not_mem_nil, or_false] at hf
  rcases hf with rfl | rfl | rfl | rfl | rfl | rfl | rfl | rfl <;> rfl
theorem rowS_get (v : Nat → Value) (o : Oth) (f : Nat) (hf : f ∈ fs) : (rowS v o)[f]? = some (v f) := by
  simp only [fs, List.mem_cons, List.not_mem_nil, or_false] at hf
  rcases hf with rfl | rfl | rfl | rfl | rfl | rfl | rfl | rfl <;> rfl
/-- the shelf's own row, and its four lists -/
structure Sm (w : World) (S : Nat) (o : Oth) (c : Nat → List Value) (who : Nat → Option Nat) : Prop where
  own : ∀ k t, who k = some t → k < w.heap.size
  wS : who S = some 0
  ex : ∃ (v : Nat → Value) (G : Nat → Option Nat), w.heap[S]? = some (.cells (rowS v o) 69 (0, 0)) ∧ ∀ f, f ∈ fs → SlAt w (ety f) (v f) (c f) (G f) ∧ ∀ g, G f = some g → who g = some (f + 10)
theorem Sm.congr {w : World} {S : Nat} {o : Oth} {c c' : Nat → List Value} {who : Nat → Option Nat} (h : Sm w S o c who) (hc : ∀ f, f ∈ fs → c f = c' f) : Sm w S o c' who := by
  obtain ⟨v, G, hr, hf⟩ := h.ex
  exact ⟨h.own, h.wS, v, G, hr, fun f hm => by rw [← hc f hm]; exact hf f hm⟩
theorem Sm.lt {w : World} {S : Nat} {o : Oth} {c : Nat → List Value} {who : Nat → Option Nat} (h : Sm w S o c who) : S < w.heap.size := h.own S 0 h.wS
theorem Sm.kept {w w' : World} {S : Nat} {o : Oth} {c : Nat → List Value} {who : Nat → Option Nat} {X : List Nat} (h : Sm w S o c who) (a : Apart X w w') (hX : ∀ x ∈ X, who x = none) : Sm w' S o c who := by
  obtain ⟨v, G, hr, hf⟩ := h.ex
  refine ⟨fun k t hk => Nat.lt_of_lt_of_le (h.own k t hk) a.size, h.wS, v, G, (a.block S h.lt (fun hm => ?_)).trans hr, fun f hm => ⟨(hf f hm).1.kept a (fun g hg hx => ?_), (hf f hm).2⟩⟩
  · have := hX S hm; rw [h.wS] at this; cases this
  · have h1 := hX g hx
    rw [(hf f hm).2 g hg] at h1; cases h1
theorem Sm.kept0 {w w' : World} {S : Nat} {o : Oth} {c : Nat → List Value} {who : Nat → Option Nat} (h : Sm w S o c who) (a : Apart [] w w') : Sm w' S o c who := h.kept a (by simp)
/-- what a field of the shelf reads -/
theorem Sm.field {w : World} {S : Nat} {o : Oth} {c : Nat → List Value} {who : Nat → Option Nat} (h : Sm w S o c who) (f : Nat) (hf : f ∈ fs) : ∃ p cp, w.cell? ⟨S, f, none⟩ = some (.slice p (c f).length cp) ∧ w.frozen? ⟨S, f, none⟩ = false ∧
    ∀ i x, (c f)[i]? = some x → ∃ g of, p = some ⟨g, of, none⟩ ∧ w.cell? ⟨g, of + i, none⟩ = some x := by
  obtain ⟨v, G, hr, hfs⟩ := h.ex
  obtain ⟨hs, _⟩ := hfs f hf
  have hcell : w.cell? ⟨S, f, none⟩ = some (v f) := by rw [cell_of_row _ _ _ _ _ _ hr, rowS_get v o f hf]
  have hfz : w.frozen? ⟨S, f, none⟩ = false := frozen_of_row _ _ _ _ _ hr
  cases hG : G f with
  | none =>
    rw [hG] at hs
    obtain ⟨hv, hx⟩ := hs
    exact ⟨none, 0, by rw [hcell, hv, hx]; rfl, hfz, fun i x hi => by rw [hx] at hi; simp at hi⟩
  | some g =>
    rw [hG] at hs
    obtain ⟨off, cap, cur, hv, hg, hle, hsz, hc⟩ := hs
    refine ⟨some ⟨g, off, none⟩, cap, by rw [hcell, hv], hfz, fun i x hi => ⟨g, off, rfl, ?_⟩⟩
    have hil : i < (c f).length := (List.getElem?_eq_some_iff.1 hi).1
    rw [cell_of_row _ _ _ _ _ _ hg, hc i hil]; exact hi
/-- who has what, with one block more -/
def whoP (who : Nat → Option Nat) (b : Option Nat) (t : Nat) : Nat → Option Nat := fun k => if b = some k then some t else who k
theorem whoP_old {who : Nat → Option Nat} {b : Option Nat} {t : Nat} (hb : ∀ k, b = some k → who k = none ∨ who k = some t) {k s : Nat} (h : who k = some s) : whoP who b t k = some s := by
  unfold whoP
  split
  · rename_i e
    rcases hb k e with h1 | h1 <;> rw [h1] at h
    · cases h
    · exact h
  · exact h
/-- a field's list has one more -/
theorem Sm.app {w : World} {S : Nat} {o : Oth} {c : Nat → List Value} {who : Nat → Option Nat} (h : Sm w S o c who) (f : Nat) (hf : f ∈ fs) (x : Value) (hx : x.oneCell' = true) (hl : (c f).length ≤ 100000) {p : Option Addr} {cp : Nat} (hc : w.cell? ⟨S, f, none⟩ = some (.slice p (c f).length cp)) (ty : TypeId) :
    ∃ p' cp' w2, (Builtin.append_ #[sty f, sty f] ty #[.slice p (c f).length cp, .slice (some ⟨w.heap.size, 0, none⟩) 1 1]).run Try.prog (w.alloc (.cells #[x] (ety f))) = .ok (.slice p' ((c f).length + 1) cp') w2 ∧
      (∃ y, w2.cell? ⟨S, f, none⟩ = some y) ∧ w2.frozen? ⟨S, f, none⟩ = false ∧
      ∃ who' X, Sm (w2.setCell ⟨S, f, none⟩ (.slice p' ((c f).length + 1) cp')) S o (updC c f (c f ++ [x])) who' ∧ (∀ k s, who k = some s → who' k = some s) ∧ (∀ k s, who' k = some s → who k = some s ∨ (w.heap.size ≤ k ∧ s = f + 10)) ∧
        Apart X w (w2.setCell ⟨S, f, none⟩ (.slice p' ((c f).length + 1) cp')) ∧ (∀ k ∈ X, who k = some 0 ∨ who k = some (f + 10)) := by
  obtain ⟨v, G, hr, hfs⟩ := h.ex
  obtain ⟨hs, ht⟩ := hfs f hf
  have hcell : w.cell? ⟨S, f, none⟩ = some (v f) := by rw [cell_of_row _ _ _ _ _ _ hr, rowS_get v o f hf]
  have hv : v f = .slice p (c f).length cp := by rw [hc] at hcell; exact (Option.some.inj hcell).symm
  have aA : Apart [] w (w.alloc (.cells #[x] (ety f))) := (Apart.refl _ _).alloc _
  have hs1 := hs.kept aA (by simp)
  rw [hv] at hs1
  have happ : ∃ v' w' G', (Builtin.append_ #[sty f, sty f] ty #[.slice p (c f).length cp, .slice (some ⟨w.heap.size, 0, none⟩) 1 1]).run Try.prog (w.alloc (.cells #[x] (ety f))) = .ok v' w' ∧ SlAt w' (ety f) v' (c f ++ [x]) G' ∧ Apart (G f).toList (w.alloc (.cells #[x] (ety f))) w' ∧ (G' = G f ∨ ∃ k, G' = some k ∧ (w.alloc (.cells #[x] (ety f))).heap.size ≤ k) := by
    exact appF f hf _ ty _ _ _ hs1 ⟨w.heap.size, 0, none⟩ 1 x (by simp) hx (by omega)
  obtain ⟨v', w2, G', hrun, s2, a2, o2⟩ := happ
  have hshape := s2.shape
  rw [List.length_append, List.length_singleton] at hshape
  obtain ⟨p', cp', rfl⟩ := hshape
  have aW : Apart (G f).toList w w2 := (aA.mono (by simp)).trans a2
  have hSn : S ∉ (G f).toList := fun hm => by
    have hg : G f = some S := by simpa using hm
    have := ht S hg; rw [h.wS] at this; simp at this
  have hr2 : w2.heap[S]? = some (.cells (rowS v o) 69 (0, 0)) := (aW.block S h.lt hSn).trans hr
  have hcw2 : w2.cell? ⟨S, f, none⟩ = some (v f) := by rw [cell_of_row _ _ _ _ _ _ hr2, rowS_get v o f hf]
  have a3 : Apart (S :: (G f).toList) w (w2.setCell ⟨S, f, none⟩ (.slice p' ((c f).length + 1) cp')) := (aW.mono (by simp +contextual)).setCell (by simp) _
  have aS : Apart [S] w2 (w2.setCell ⟨S, f, none⟩ (.slice p' ((c f).length + 1) cp')) := (Apart.refl [S] w2).setCell (by simp) _
  have hG'k : ∀ k, G' = some k → who k = none ∨ who k = some (f + 10) := by
    intro k hk
    rcases o2 with o2 | ⟨j, o2, o3⟩
    · exact .inr (ht k (o2 ▸ hk))
    · rw [o2] at hk; cases hk
      left
      cases hw : who k with
      | none => rfl
      | some t => have := h.own k t hw; have := aA.size; omega
  have hnew : ∀ k, G' = some k → G f = some k ∨ w.heap.size ≤ k := by
    intro k hk
    rcases o2 with o2 | ⟨j, o2, o3⟩
    · exact .inl (o2 ▸ hk)
    · rw [o2] at hk; cases hk
      exact .inr (Nat.le_trans aA.size o3)
  have hG'2 : ∀ k, G' = some k → k < w2.heap.size := by
    intro k hk
    rw [hk] at s2
    obtain ⟨cur, e⟩ := s2.typ
    exact lt_of_heap e
  have hlt2 := aW.size
  refine ⟨p', cp', w2, hrun, ⟨_, hcw2⟩, frozen_of_row _ _ _ _ _ hr2, whoP who G' (f + 10), S :: (G f).toList, ?_, fun k s hk => whoP_old hG'k hk, ?_, a3, ?_⟩
  · refine ⟨fun k t hk => ?_, whoP_old hG'k h.wS, updV v f (.slice p' ((c f).length + 1) cp'), updG G f G', ?_, fun f2 hm2 => ?_⟩
    · unfold whoP at hk
      split at hk
      · rename_i e; exact Nat.lt_of_lt_of_le (hG'2 k e) aS.size
      · exact Nat.lt_of_lt_of_le (h.own k t hk) a3.size
    · have := heap_setCell_same w2 S f _ 69 (.slice p' ((c f).length + 1) cp') hr2
      rwa [rowS_upd v o f _ hf] at this
    · by_cases hff : f2 = f
      · subst hff
        have e1 : updV v f2 (.slice p' ((c f2).length + 1) cp') f2 = .slice p' ((c f2).length + 1) cp' := by simp [updV]
        have e2 : updC c f2 (c f2 ++ [x]) f2 = c f2 ++ [x] := by simp [updC]
        have e3 : updG G f2 G' f2 = G' := by simp [updG]
        rw [e1, e2, e3]
        refine ⟨s2.kept aS (fun g hg hm => ?_), fun g hg => by simp [whoP, hg]⟩
        simp at hm; subst hm
        rcases hG'k g hg with h1 | h1 <;> rw [h.wS] at h1 <;> simp at h1
      · have e1 : updV v f (.slice p' ((c f).length + 1) cp') f2 = v f2 := by simp [updV, hff]
        have e2 : updC c f (c f ++ [x]) f2 = c f2 := by simp [updC, hff]
        have e3 : updG G f G' f2 = G f2 := by simp [updG, hff]
        rw [e1, e2, e3]
        obtain ⟨s3, t3⟩ := hfs f2 hm2
        refine ⟨s3.kept a3 (fun g hg hm => ?_), fun g hg => whoP_old hG'k (t3 g hg)⟩
        have hw := t3 g hg
        rcases List.mem_cons.1 hm with rfl | hm
        · rw [h.wS] at hw; simp at hw
        · have := ht g (by simpa using hm)
          rw [this] at hw; simp at hw; omega
  · intro k s hk
    unfold whoP at hk
    split at hk
    · rename_i e
      simp at hk
      rcases hnew k e with h1 | h1
      · left; rw [ht k h1, hk]
      · exact .inr ⟨h1, hk.symm⟩
    · exact .inl hk
  · intro k hk
    rcases List.mem_cons.1 hk with rfl | hk
    · exact .inl h.wS
    · exact .inr (ht k (by simpa using hk))
/-- a field's list loses its first -/
theorem Sm.cut {w : World} {S : Nat} {o : Oth} {c : Nat → List Value} {who : Nat → Option Nat} (h : Sm w S o c who) (f : Nat) (hf : f ∈ fs) (hl : 1 < (c f).length) :
    ∃ g of cp, w.cell? ⟨S, f, none⟩ = some (.slice (some ⟨g, of, none⟩) (c f).length cp) ∧ (c f).length ≤ cp ∧ Sm (w.setCell ⟨S, f, none⟩ (.slice (some ⟨g, of + 1, none⟩) ((c f).length - 1) (cp - 1))) S o (updC c f (c f).tail) who := by
  obtain ⟨v, G, hr, hfs⟩ := h.ex
  obtain ⟨hs, ht⟩ := hfs f hf
  have hcell : w.cell? ⟨S, f, none⟩ = some (v f) := by rw [cell_of_row _ _ _ _ _ _ hr, rowS_get v o f hf]
  cases hG : G f with
  | none => rw [hG] at hs; have := hs.2; rw [this] at hl; simp at hl
  | some g =>
    rw [hG] at hs
    have hs0 := hs
    obtain ⟨off, cap, cur, hv, hg, hle, hsz, hc⟩ := hs
    rw [hv] at hs0
    have htl := hs0.tail hl
    have a : Apart [S] w (w.setCell ⟨S, f, none⟩ (.slice (some ⟨g, off + 1, none⟩) ((c f).length - 1) (cap - 1))) := (Apart.refl [S] w).setCell (by simp) _
    refine ⟨g, off, cap, by rw [hcell, hv], hle, fun k t hk => Nat.lt_of_lt_of_le (h.own k t hk) a.size, h.wS, updV v f (.slice (some ⟨g, off + 1, none⟩) ((c f).length - 1) (cap - 1)), G, ?_, fun f2 hm2 => ?_⟩
    · have := heap_setCell_same w S f _ 69 (.slice (some ⟨g, off + 1, none⟩) ((c f).length - 1) (cap - 1)) hr
      rwa [rowS_upd v o f _ hf] at this
    · by_cases hff : f2 = f
      · subst hff
        have e1 : updV v f2 (.slice (some ⟨g, off + 1, none⟩) ((c f2).length - 1) (cap - 1)) f2 = .slice (some ⟨g, off + 1, none⟩) ((c f2).length - 1) (cap - 1) := by simp [updV]
        have e2 : updC c f2 (c f2).tail f2 = (c f2).tail := by simp [updC]
        rw [e1, e2, hG]
        refine ⟨htl.kept a (fun g' hg' hm => ?_), fun g' hg' => ht g' (by rw [hG]; exact hg')⟩
        have hgg : g = g' := Option.some.inj hg'
        have hms : g' = S := by simpa using hm
        have := ht g hG
        rw [hgg, hms, h.wS] at this; simp at this
      · have e1 : updV v f (.slice (some ⟨g, off + 1, none⟩) ((c f).length - 1) (cap - 1)) f2 = v f2 := by simp [updV, hff]
        have e2 : updC c f (c f).tail f2 = c f2 := by simp [updC, hff]
        rw [e1, e2]
        obtain ⟨s3, t3⟩ := hfs f2 hm2
        refine ⟨s3.kept a (fun g' hg' hm => ?_), t3⟩
        simp at hm; subst hm
        have := t3 g' hg'; rw [h.wS] at this; simp at this
/-- one of the other cells is written -/
theorem Sm.setO {w : World} {S : Nat} {o : Oth} {c : Nat → List Value} {who : Nat → Option Nat} (h : Sm w S o c who) (k : Nat) (x : Value) (o' : Oth) (hr : ∀ v, (rowS v o).setIfInBounds k x = rowS v o') : Sm (w.setCell ⟨S, k, none⟩ x) S o' c who := by
  obtain ⟨v, G, hb, hf⟩ := h.ex
  have a : Apart [S] w (w.setCell ⟨S, k, none⟩ x) := (Apart.refl [S] w).setCell (by simp) _
  refine ⟨fun k t hk => Nat.lt_of_lt_of_le (h.own k t hk) a.size, h.wS, v, G, ?_, fun f hm => ⟨(hf f hm).1.kept a (fun g hg hx => ?_), (hf f hm).2⟩⟩
  · have := heap_setCell_same w S k _ 69 x hb
    rwa [hr v] at this
  · simp at hx; subst hx
    have := (hf f hm).2 g hg; rw [h.wS] at this; simp at this
/-- the other cells -/
theorem Sm.oth {w : World} {S : Nat} {o : Oth} {c : Nat → List Value} {who : Nat → Option Nat} (h : Sm w S o c who) : w.cell? ⟨S, 0, none⟩ = some o.b ∧ w.cell? ⟨S, 1, none⟩ = some o.r ∧ w.cell? ⟨S, 4, none⟩ = some (.int .i64 o.mark) ∧ w.cell? ⟨S, 7, none⟩ = some o.lent ∧ w.cell? ⟨S, 12, none⟩ = some (.int .i64 o.turns) ∧ ∀ k, w.frozen? ⟨S, k, none⟩ = false := by
  obtain ⟨v, G, hr, hfs⟩ := h.ex
  refine ⟨?_, ?_, ?_, ?_, ?_, fun k => frozen_of_row _ _ _ _ _ hr⟩ <;> (rw [cell_of_row _ _ _ _ _ _ hr]; rfl)
/-- who has what may grow -/
theorem Sm.grow {w : World} {S : Nat} {o : Oth} {c : Nat → List Value} {who who' : Nat → Option Nat} (h : Sm w S o c who) (hw : ∀ k s, who k = some s → who' k = some s) (ho : ∀ k t, who' k = some t → k < w.heap.size) : Sm w S o c who' := by
  obtain ⟨v, G, hr, hf⟩ := h.ex
  exact ⟨ho, hw _ _ h.wS, v, G, hr, fun f hm => ⟨(hf f hm).1, fun g hg => hw _ _ ((hf f hm).2 g hg)⟩⟩
/-- blocks that are none of the row's and the lists' change -/
theorem Sm.keptT {w w' : World} {S : Nat} {o : Oth} {c : Nat → List Value} {who : Nat → Option Nat} {X : List Nat} (h : Sm w S o c who) (a : Apart X w w') (hX : ∀ x ∈ X, who x ≠ some 0 ∧ ∀ f ∈ fs, who x ≠ some (f + 10)) : Sm w' S o c who := by
  obtain ⟨v, G, hr, hf⟩ := h.ex
  refine ⟨fun k t hk => Nat.lt_of_lt_of_le (h.own k t hk) a.size, h.wS, v, G, (a.block S h.lt (fun hm => ?_)).trans hr, fun f hm => ⟨(hf f hm).1.kept a (fun g hg hx => ?_), (hf f hm).2⟩⟩
  · exact (hX S hm).1 h.wS
  · exact (hX g hx).2 f hm ((hf f hm).2 g hg)
end Go.Proofs.Ytiakcfjbnlibfaa.nt
