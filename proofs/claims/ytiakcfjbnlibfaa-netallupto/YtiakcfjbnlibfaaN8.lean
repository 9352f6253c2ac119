import Derived.Test.YtiakcfjbnlibfaaN7
namespace Go.Proofs.Ytiakcfjbnlibfaa.nt
open Go.ChangeShapes Go.WideShapes Go.ChangeAt Go.RowKit
set_option linter.unusedVariables false
set_option linter.unusedSimpArgs false
/-- the i-th is taken out and put in so that it stands at j -/
def mvD {α : Type} (d : α) (i j : Nat) (l : List α) : List α := (l.take i ++ l.drop (i + 1)).take j ++ [l.getD i d] ++ (l.take i ++ l.drop (i + 1)).drop j
def sg (i j k : Nat) : Nat := if k = j then i else if (if k < j then k else k - 1) < i then (if k < j then k else k - 1) else (if k < j then k else k - 1) + 1
theorem rest_get {α : Type} (l : List α) (i m : Nat) (hi : i < l.length) : (l.take i ++ l.drop (i + 1))[m]? = if m < i then l[m]? else l[m + 1]? := by
  by_cases h : m < i
  · rw [if_pos h, List.getElem?_append_left (by simp; omega), List.getElem?_take, if_pos h]
  · rw [if_neg h, List.getElem?_append_right (by simp; omega), List.getElem?_drop]
    congr 1
    simp
    omega
theorem mv_get {α : Type} (d : α) (i j k : Nat) (l : List α) (hi : i < l.length) (hj : j < l.length) (hk : k < l.length) : (mvD d i j l).getD k d = l.getD (sg i j k) d := by
  have hr : (l.take i ++ l.drop (i + 1)).length = l.length - 1 := by simp; omega
  simp only [List.getD_eq_getElem?_getD]
  congr 1
  unfold mvD sg
  by_cases h1 : k = j
  · subst h1
    rw [if_pos rfl, List.append_assoc, List.getElem?_append_right (by simp; omega)]
    have e : k - ((l.take i ++ l.drop (i + 1)).take k).length = 0 := by rw [List.length_take, hr]; omega
    rw [e]
    simp [List.getD_eq_getElem?_getD, hi]
  · rw [if_neg h1]
    by_cases h2 : k < j
    · rw [List.append_assoc, List.getElem?_append_left (by rw [List.length_take, hr]; omega), List.getElem?_take, if_pos h2, rest_get l i k hi]
      simp only [if_pos h2]
      split <;> rfl
    · rw [List.getElem?_append_right (by simp; omega)]
      have e : k - ((l.take i ++ l.drop (i + 1)).take j ++ [l.getD i d]).length = k - 1 - j := by rw [List.length_append, List.length_take, hr]; simp; omega
      rw [e, List.getElem?_drop, show j + (k - 1 - j) = k - 1 from by omega, rest_get l i (k - 1) hi]
      simp only [if_neg h2]
      split <;> rfl
theorem sg_lt {i j k n : Nat} (hi : i < n) (hj : j < n) (hk : k < n) : sg i j k < n := by
  unfold sg
  split
  · exact hi
  · split <;> split <;> omega
theorem mv_len {α : Type} (d : α) (i j : Nat) (l : List α) (hi : i < l.length) (hj : j < l.length) : (mvD d i j l).length = l.length := by
  unfold mvD
  simp
  omega
/-- forward: the ones behind move up, then the letter stands at j -/
theorem mv_fwd {α : Type} (d : α) (i j : Nat) (l : List α) (hij : i < j) (hj : j < l.length) : (l.take i ++ (l.drop (i + 1)).take (j - i) ++ l.drop j).set j (l.getD i d) = mvD d i j l := by
  unfold mvD
  have e1 : (l.take i ++ l.drop (i + 1)).take j = l.take i ++ (l.drop (i + 1)).take (j - i) := by
    rw [List.take_append, List.take_of_length_le (by simp; omega)]
    congr 2
    simp
    omega
  have e2 : (l.take i ++ l.drop (i + 1)).drop j = l.drop (j + 1) := by
    rw [List.drop_append, List.drop_eq_nil_of_le (by simp; omega), List.nil_append, List.drop_drop]
    congr 1
    simp
    omega
  rw [e1, e2]
  have hl : (l.take i ++ (l.drop (i + 1)).take (j - i)).length = j := by simp; omega
  rw [List.set_append_right _ _ (by omega), hl, Nat.sub_self, List.drop_eq_getElem_cons hj, List.set_cons_zero]
  simp
/-- backward -/
theorem mv_bwd {α : Type} (d : α) (i j : Nat) (l : List α) (hij : j ≤ i) (hi : i < l.length) : (l.take (j + 1) ++ (l.take i).drop j ++ l.drop (i + 1)).set j (l.getD i d) = mvD d i j l := by
  unfold mvD
  have e1 : (l.take i ++ l.drop (i + 1)).take j = l.take j := by
    rw [List.take_append_of_le_length (by simp; omega), List.take_take]
    congr 1
    omega
  have e2 : (l.take i ++ l.drop (i + 1)).drop j = (l.take i).drop j ++ l.drop (i + 1) := by
    rw [List.drop_append_of_le_length (by simp; omega)]
  rw [e1, e2]
  have e3 : l.take (j + 1) = l.take j ++ [l[j]'(by omega)] := List.take_succ_eq_append_getElem (by omega)
  rw [e3, List.append_assoc, List.append_assoc, List.set_append_right _ _ (by simp; omega)]
  have e4 : j - (l.take j).length = 0 := by simp; omega
  rw [e4]
  simp
theorem flatL_set (es : List LM) (e : LM) : ∀ (k : Nat), k < es.length → flatL (es.set k e) = (((flatL es).set (k * 3) (.int .i64 e.f)).set (k * 3 + 1) (.int .i64 e.t)).set (k * 3 + 2) e.d.v := by
  induction es with
  | nil => intro k hk; simp at hk
  | cons a l ih =>
    intro k hk
    match k with
    | 0 => simp [flatL, LM.cs]
    | k + 1 =>
      have := ih k (by simpa using hk)
      rw [show (k + 1) * 3 = k * 3 + 3 from by omega]
      show LM.cs a ++ flatL (l.set k e) = _
      rw [this]; rfl
theorem take_splice {α : Type} (L : List α) (m o : Nat) (cs : List α) (hm : m ≤ L.length) (ho : o + cs.length ≤ m) : (splice L o cs).take m = splice (L.take m) o cs := by
  unfold splice
  rw [List.take_take, Nat.min_eq_left (by omega), List.drop_take, List.take_append, List.length_take, Nat.min_eq_left (by omega : o ≤ L.length), List.take_of_length_le (by rw [List.length_take]; omega), List.take_append, List.take_of_length_le (by omega : cs.length ≤ m - o), show m - o - cs.length = m - (o + cs.length) from by omega]
/-- a part of a row of the call's own is laid over -/
theorem own_splice {w : World} {e : TypeId} {size G n c : Nat} {us : List Value} (h : w.ownsRow 0 e size (.slice (some ⟨G, 0, none⟩) n c) n us) : ∃ cur : List Value, w.heap[G]? = some (.cells cur.toArray e (0, 0)) ∧ ∀ (W : World) (o : Nat) (cs : List Value), W.heap[G]? = w.heap[G]? → o + cs.length ≤ us.length → o + cs.length ≤ cur.length ∧ (W.setRow G (splice cur o cs).toArray).ownsRow 0 e size (.slice (some ⟨G, 0, none⟩) n c) n (splice us o cs) := by
  obtain ⟨hxl, ⟨hv, hz⟩ | ⟨g, cap, cur, hv, hb, hr, hle, hmx, hcs, htk⟩⟩ := h
  · simp at hv
  · simp at hv
    obtain ⟨rfl, rfl⟩ := hv
    refine ⟨cur.toList, by simpa using hr, fun W o cs hW ho => ?_⟩
    have hle' : us.length ≤ cur.toList.length := by rw [← htk, List.length_take]; exact Nat.min_le_right _ _
    refine ⟨by omega, ⟨by rw [length_splice _ _ _ ho]; exact hxl, .inr ⟨G, c, _, rfl, Nat.zero_le _, setRow_heap W G cur _ e (0, 0) (hW.trans hr), hle, hmx, ?_, ?_⟩⟩⟩
    · rw [List.size_toArray, length_splice cur.toList o cs (by omega)]; simpa using hcs
    · show (splice cur.toList o cs).take (n * size) = _
      rw [take_splice cur.toList (n * size) o cs (by omega) (by omega), htk]
end Go.Proofs.Ytiakcfjbnlibfaa.nt
