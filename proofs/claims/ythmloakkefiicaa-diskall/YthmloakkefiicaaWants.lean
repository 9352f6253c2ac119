import Derived.Test.YthmloakkefiicaaDiskI
namespace Go.Proofs.Ythmloakkefiicaa.dk
open Go.ChangeShapes Go.WideShapes Go.ChangeAt Go.RowKit

theorem own_apart {w w' : World} {base : Nat} {e : TypeId} {size : Nat} {v : Value} {n : Nat} {xs : List Value} {X : List Nat} (h : w.ownsRow base e size v n xs) (a : Apart X w w') (hx : ∀ k, v.ownBlock = some k → k ∉ X) : w'.ownsRow base e size v n xs := by
  obtain ⟨hl, ⟨hv, hz⟩ | ⟨g, cap, cur, rfl, hb, hr, hrest⟩⟩ := h
  · exact ⟨hl, .inl ⟨hv, hz⟩⟩
  · exact ⟨hl, .inr ⟨g, cap, cur, rfl, hb, (a.block g (lt_of_heap hr) (hx g rfl)).trans hr, hrest⟩⟩
theorem own_typ {w : World} {base : Nat} {e : TypeId} {size : Nat} {v : Value} {n : Nat} {xs : List Value} (h : w.ownsRow base e size v n xs) {k : Nat} (hk : v.ownBlock = some k) : ∃ cur, w.heap[k]? = some (.cells cur e (0, 0)) := by
  obtain ⟨hl, ⟨hv, hz⟩ | ⟨g, cap, cur, rfl, hb, hr, hrest⟩⟩ := h
  · subst hv; cases hk
  · simp [Value.ownBlock] at hk; subst hk; exact ⟨cur, hr⟩
theorem apart_grown {w w' : World} {row : Option Nat} (h : w.grownBy w' row) : Apart row.toList w w' :=
  ⟨h.os, h.tape, h.output, h.size, fun k hk hx => h.block k hk (fun e => hx (by simp [← e]))⟩

theorem getD_left {α : Type} (a b : List α) (z : α) (j : Nat) (h : j < a.length) : (a ++ b).getD j z = a.getD j z := by
  simp only [List.getD_eq_getElem?_getD]; rw [List.getElem?_append_left h]
theorem getD_snoc {α : Type} (a : List α) (x z : α) : (a ++ [x]).getD a.length z = x := by
  simp
/-- the bytes of one sector each -/
structure Wants (w : World) (base : Nat) (v : Value) (L : List (List Int)) (xs : List Value) : Prop where
  own : w.ownsRow base 30 1 v L.length xs
  el : ∀ j, j < L.length → ∃ g c, Bytes w (xs.getD j undef) g c (L.getD j [])
theorem Wants.len {w : World} {base : Nat} {v : Value} {L : List (List Int)} {xs : List Value} (h : Wants w base v L xs) : xs.length = L.length := by have := h.own.1; omega
theorem Wants.kept {w w' : World} {base : Nat} {v : Value} {L : List (List Int)} {xs : List Value} {X : List Nat} (h : Wants w base v L xs) (a : Apart X w w') (hx : ∀ k cur, k ∈ X → w.heap[k]? ≠ some (.cells cur 30 (0, 0))) (hy : ∀ k cur, k ∈ X → w.heap[k]? ≠ some (.cells cur 5 (0, 0))) : Wants w' base v L xs := by
  refine ⟨own_apart h.own a (fun k hk hm => ?_), fun j hj => ?_⟩
  · obtain ⟨cur, e⟩ := own_typ h.own hk; exact hx k cur hm e
  · obtain ⟨g, c, hb⟩ := h.el j hj
    exact ⟨g, c, hb.kept a (fun hm => by obtain ⟨arr, e, _⟩ := hb.row; exact hy g arr hm e)⟩
theorem DiskAt.not30 {w : World} {D S : Nat} {d : Dk} (h : DiskAt w D S d) (k : Nat) (cur : Array Value) (hk : k ∈ [D, S]) : w.heap[k]? ≠ some (.cells cur 30 (0, 0)) := by
  intro e
  simp at hk
  rcases hk with rfl | rfl
  · rw [h.hd] at e; simp at e
  · rw [h.hs] at e; simp at e
theorem DiskAt.not5 {w : World} {D S : Nat} {d : Dk} (h : DiskAt w D S d) (k : Nat) (cur : Array Value) (hk : k ∈ [D, S]) : w.heap[k]? ≠ some (.cells cur 5 (0, 0)) := by
  intro e
  simp at hk
  rcases hk with rfl | rfl
  · rw [h.hd] at e; simp at e
  · rw [h.hs] at e; simp at e
theorem Wants.keptD {w w' : World} {base : Nat} {v : Value} {L : List (List Int)} {xs : List Value} {D S : Nat} {d : Dk} (h : Wants w base v L xs) (hd : DiskAt w D S d) (a : Apart [D, S] w w') : Wants w' base v L xs :=
  h.kept a hd.not30 hd.not5
theorem Wants.kept0 {w w' : World} {base : Nat} {v : Value} {L : List (List Int)} {xs : List Value} (h : Wants w base v L xs) (a : Apart [] w w') : Wants w' base v L xs :=
  h.kept a (by simp) (by simp)
theorem Bytes.keptD {w w' : World} {v : Value} {g c : Nat} {bs : List Int} {D S : Nat} {d : Dk} (h : Bytes w v g c bs) (hd : DiskAt w D S d) (a : Apart [D, S] w w') : Bytes w' v g c bs :=
  h.kept a (fun hm => by obtain ⟨arr, e, _⟩ := h.row; exact hd.not5 g arr hm e)
theorem Wants.snoc {w w1 : World} {base : Nat} {v v' v1 : Value} {L : List (List Int)} {xs : List Value} {g c : Nat} {bs : List Int} (h : Wants w base v L xs) (hb : Bytes w v1 g c bs)
    (own : w1.ownsRow base 30 1 v' (L.length + 1) (xs ++ [v1])) (gr : w.grownBy w1 v.ownBlock) : Wants w1 base v' (L ++ [bs]) (xs ++ [v1]) := by
  have hl := h.len
  have hne : ∀ g' c' v2 b2, Bytes w v2 g' c' b2 → g' ∉ v.ownBlock.toList := by
    intro g' c' v2 b2 hb2 hm
    obtain ⟨arr, e, _⟩ := hb2.row
    obtain ⟨cur, e2⟩ := own_typ h.own (k := g') (by simpa using hm)
    rw [e] at e2; simp at e2
  refine ⟨by simpa using own, fun j hj => ?_⟩
  by_cases hlt : j < L.length
  · obtain ⟨g', c', hb'⟩ := h.el j hlt
    refine ⟨g', c', ?_⟩
    rw [getD_left _ _ _ _ (by omega), getD_left _ _ _ _ (by omega)]
    exact hb'.kept (apart_grown gr) (hne _ _ _ _ hb')
  · have e : j = L.length := by simp at hj; omega
    subst e
    refine ⟨g, c, ?_⟩
    rw [getD_snoc, ← hl, getD_snoc]
    exact hb.kept (apart_grown gr) (hne _ _ _ _ hb)

theorem getD_set_same {α : Type} (a : List α) (x z : α) (j : Nat) (h : j < a.length) : (a.set j x).getD j z = x := by
  simp [List.getD_eq_getElem?_getD, h]
theorem getD_set_other {α : Type} (a : List α) (x z : α) (i j : Nat) (h : i ≠ j) : (a.set i x).getD j z = a.getD j z := by
  simp [List.getD_eq_getElem?_getD, h]
theorem Wants.set {w : World} {base : Nat} {gw cap : Nat} {v1 : Value} {L : List (List Int)} {xs : List Value} {g c : Nat} {bs : List Int} (h : Wants w base (.slice (some ⟨gw, 0, none⟩) L.length cap) L xs) (hb : Bytes w v1 g c bs) (m : Nat) (hm : m < L.length) :
    Wants (w.setCell ⟨gw, m, none⟩ v1) base (.slice (some ⟨gw, 0, none⟩) L.length cap) (L.set m bs) (xs.set m v1) ∧ Apart [gw] w (w.setCell ⟨gw, m, none⟩ v1) := by
  have hl := h.len
  obtain ⟨o2, gr⟩ := h.own.stored m v1
  have ap : Apart [gw] w (w.setCell ⟨gw, m, none⟩ v1) := apart_grown gr
  have hne : ∀ g' c' v2 b2, Bytes w v2 g' c' b2 → g' ∉ [gw] := by
    intro g' c' v2 b2 hb2 hm
    obtain ⟨arr, e, _⟩ := hb2.row
    simp at hm; subst hm
    obtain ⟨cur, e2⟩ := own_typ h.own (k := g') rfl
    rw [e] at e2; simp at e2
  refine ⟨⟨by simpa using o2, fun j hj => ?_⟩, ap⟩
  simp at hj
  by_cases e : m = j
  · subst e
    rw [getD_set_same _ _ _ _ (by omega), getD_set_same _ _ _ _ hm]
    exact ⟨g, c, hb.kept ap (hne _ _ _ _ hb)⟩
  · rw [getD_set_other _ _ _ _ _ e, getD_set_other _ _ _ _ _ e]
    obtain ⟨g', c', hb'⟩ := h.el j hj
    exact ⟨g', c', hb'.kept ap (hne _ _ _ _ hb')⟩
theorem Wants.shape {w : World} {base : Nat} {v : Value} {L : List (List Int)} {xs : List Value} (h : Wants w base v L xs) (hp : 0 < L.length) : ∃ gw cap, v = .slice (some ⟨gw, 0, none⟩) L.length cap ∧ base ≤ gw ∧ (∃ cur, w.heap[gw]? = some (.cells cur 30 (0, 0))) ∧ L.length ≤ cap := by
  obtain ⟨hl, ⟨hv, hz⟩ | ⟨g, cap, cur, rfl, hb, hr, hrest⟩⟩ := h.own
  · omega
  · exact ⟨g, cap, rfl, hb, ⟨cur, hr⟩, hrest.1⟩
theorem Wants.cell {w : World} {base gw cap : Nat} {L : List (List Int)} {xs : List Value} (h : Wants w base (.slice (some ⟨gw, 0, none⟩) L.length cap) L xs) (j : Nat) (hj : j < L.length) : w.cell? ⟨gw, j, none⟩ = some (xs.getD j undef) := by
  rw [h.own.cellAt j (by omega)]
  have := h.len
  simp [List.getD_eq_getElem?_getD, show j < xs.length by omega]
theorem Wants.free {w : World} {base gw cap : Nat} {L : List (List Int)} {xs : List Value} (h : Wants w base (.slice (some ⟨gw, 0, none⟩) L.length cap) L xs) (j : Nat) : w.frozen? ⟨gw, j, none⟩ = false := h.own.frozenAt j
theorem sec_splice_same {w : World} {D S : Nat} {d : Dk} (h : DiskAt w D S d) (m : Nat) (hm : m < d.n) (bs : List Int) (hb : bs.length = 512) (d' : Dk) (hd' : d'.mem = splice d.mem (m * 512) bs) : d'.sec m = bs := by
  have hl := h.lmem
  unfold Dk.sec splice at *
  rw [hd', List.drop_append, List.drop_eq_nil_of_le (by simp only [List.length_take]; omega)]
  simp only [List.nil_append, List.length_take]
  rw [show m * 512 - min (m * 512) d.mem.length = 0 from by omega, List.drop_zero, List.take_append_of_le_length (by omega), List.take_of_length_le (by omega)]
theorem splice_get (L : List Int) (off : Nat) (bs : List Int) (h : off + bs.length ≤ L.length) (i : Nat) (hi : i < off ∨ off + bs.length ≤ i) : (splice L off bs).getD i 0 = L.getD i 0 := by
  unfold splice
  simp only [List.getD_eq_getElem?_getD]
  congr 1
  rcases hi with hi | hi
  · rw [List.getElem?_append_left (by simp; omega), List.getElem?_take_of_lt hi]
  · rw [List.getElem?_append_right (by simp; omega), List.getElem?_append_right (by simp; omega), List.getElem?_drop]
    simp only [List.length_take]
    congr 1; omega
theorem sec_ext {d d' : Dk} {m : Nat} (h1 : (d.sec m).length = 512) (h2 : (d'.sec m).length = 512) (h : ∀ j, j < 512 → d'.mem.getD (m * 512 + j) 0 = d.mem.getD (m * 512 + j) 0) : d'.sec m = d.sec m := by
  apply List.ext_getElem (by rw [h1, h2])
  intro j hj1 hj2
  have := h j (by omega)
  rw [← sec_at d m j (by omega), ← sec_at d' m j (by omega)] at this
  simpa [List.getD_eq_getElem?_getD, hj1, hj2] using this
theorem sec_splice_other {w : World} {D S : Nat} {d : Dk} (h : DiskAt w D S d) (m k : Nat) (hm : m < d.n) (hk : k < d.n) (hmk : k ≠ m) (bs : List Int) (hb : bs.length ≤ 512) (d' : Dk) (hd' : d'.mem = splice d.mem (m * 512) bs) : d'.sec k = d.sec k := by
  have hl := h.lmem
  refine sec_ext (sec_length h k hk) ?_ (fun j hj => ?_)
  · have : d'.mem.length = 512 * d.n := by rw [hd', length_splice _ _ _ (by omega)]; exact hl
    simp [Dk.sec]; omega
  · rw [hd']
    refine splice_get _ _ _ (by omega) _ ?_
    rcases Nat.lt_or_gt_of_ne hmk with hlt | hlt
    · left; omega
    · right; omega
end Go.Proofs.Ythmloakkefiicaa.dk
