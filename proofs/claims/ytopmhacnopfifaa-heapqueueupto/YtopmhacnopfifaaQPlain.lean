import Derived.Test.YtopmhacnopfifaaRows
namespace Go.Proofs.Ytopmhacnopfifaa.tm

/-- an entry: rank, mark, age -/
structure E where
  r : Int
  m : Int
  k : Int
  c : Int
  a : Int
def z : E := ⟨0, 0, 0, 0, 0⟩
/-- the k-th -/
def g (es : List E) (k : Nat) : E := es.getD k z
def sw (es : List E) (i j : Nat) : List E := (es.set i (g es j)).set j (g es i)
theorem g_eq (es : List E) (k : Nat) (h : k < es.length) : g es k = es[k] := by simp [g, List.getD_eq_getElem?_getD, h]
theorem sw_length (es : List E) (i j : Nat) : (sw es i j).length = es.length := by simp [sw]
theorem sw_perm (es : List E) (i j : Nat) (hi : i < es.length) (hj : j < es.length) : (sw es i j).Perm es := by
  unfold sw
  rw [g_eq _ _ hi, g_eq _ _ hj]
  exact List.set_set_perm hi hj
theorem g_set (es : List E) (i k : Nat) (x : E) (hi : i < es.length) : g (es.set i x) k = if k = i then x else g es k := by
  unfold g
  simp only [List.getD_eq_getElem?_getD, List.getElem?_set]
  by_cases h : i = k
  · subst h; simp [hi]
  · rw [if_neg h, if_neg (fun e => h e.symm)]
theorem g_sw (es : List E) (i j k : Nat) (hi : i < es.length) (hj : j < es.length) : g (sw es i j) k = if k = j then g es i else if k = i then g es j else g es k := by
  unfold sw
  rw [g_set _ _ _ _ (by simpa using hj), g_set _ _ _ _ hi]

structure Ord (A : E → E → Bool) : Prop where
  asym : ∀ x y, A x y = true → A y x = false
  nt : ∀ x y u, A x y = false → A y u = false → A x u = false
theorem Ord.irr {A : E → E → Bool} (o : Ord A) (x : E) : A x x = false := by
  cases h : A x x
  · rfl
  · have := o.asym x x h; rw [h] at this; cases this
def Hp (A : E → E → Bool) (es : List E) : Prop := ∀ k, 0 < k → k < es.length → A (g es k) (g es ((k - 1) / 2)) = false
structure RI (A : E → E → Bool) (es : List E) (i : Nat) : Prop where
  up : ∀ k, 0 < k → k < es.length → k ≠ i → A (g es k) (g es ((k - 1) / 2)) = false
  ch : ∀ k, 0 < k → k < es.length → (k - 1) / 2 = i → 0 < i → A (g es k) (g es ((i - 1) / 2)) = false
structure SI (A : E → E → Bool) (es : List E) (i : Nat) (b : Bool) : Prop where
  up : ∀ k, 0 < k → k < es.length → (k - 1) / 2 ≠ i → (b = false ∨ k ≠ i) → A (g es k) (g es ((k - 1) / 2)) = false
  ch : ∀ k, 0 < k → k < es.length → (k - 1) / 2 = i → 0 < i → A (g es k) (g es ((i - 1) / 2)) = false

theorem RI.step {A : E → E → Bool} (o : Ord A) {es : List E} {i : Nat} (h : RI A es i) (h0 : 0 < i) (hi : i < es.length) (ha : A (g es i) (g es ((i - 1) / 2)) = true) : RI A (sw es i ((i - 1) / 2)) ((i - 1) / 2) := by
  have hp : (i - 1) / 2 < i := by omega
  generalize hq : (i - 1) / 2 = p at *
  have hpl : p < es.length := by omega
  have ha' := o.asym _ _ ha
  refine ⟨fun k k0 kl kp => ?_, fun k k0 kl kp p0 => ?_⟩
  · rw [sw_length] at kl
    rw [g_sw _ _ _ _ hi hpl, g_sw _ _ _ _ hi hpl, if_neg kp]
    by_cases e1 : k = i
    · subst e1
      rw [if_pos rfl, hq, if_pos rfl]; exact ha'
    · rw [if_neg e1]
      by_cases e2 : (k - 1) / 2 = p
      · rw [if_pos e2]
        have := h.up k k0 kl e1
        rw [e2] at this
        exact o.nt _ _ _ this ha'
      · rw [if_neg e2]
        by_cases e3 : (k - 1) / 2 = i
        · rw [if_pos e3]; have := h.ch k k0 kl e3 h0; rw [hq] at this; exact this
        · rw [if_neg e3]; exact h.up k k0 kl e1
  · rw [sw_length] at kl
    rw [g_sw _ _ _ _ hi hpl, g_sw _ _ _ _ hi hpl]
    have q1 : (p - 1) / 2 ≠ p := by omega
    have q2 : (p - 1) / 2 ≠ i := by omega
    have q3 : k ≠ p := by omega
    rw [if_neg q1, if_neg q2, if_neg q3]
    have hpp := h.up p p0 hpl (by omega)
    by_cases e1 : k = i
    · rw [if_pos e1]; exact hpp
    · rw [if_neg e1]
      have := h.up k k0 kl e1
      rw [kp] at this
      exact o.nt _ _ _ this hpp
theorem RI.done {A : E → E → Bool} {es : List E} {i : Nat} (h : RI A es i) (ha : i = 0 ∨ A (g es i) (g es ((i - 1) / 2)) = false) : Hp A es := by
  intro k k0 kl
  by_cases e : k = i
  · subst e; rcases ha with ha | ha
    · omega
    · exact ha
  · exact h.up k k0 kl e
theorem g_left (es : List E) (x : E) (k : Nat) (h : k < es.length) : g (es ++ [x]) k = g es k := by
  unfold g; simp only [List.getD_eq_getElem?_getD]; rw [List.getElem?_append_left h]
theorem RI.start {A : E → E → Bool} {es : List E} (h : Hp A es) (x : E) : RI A (es ++ [x]) es.length := by
  refine ⟨fun k k0 kl kp => ?_, fun k k0 kl kp p0 => ?_⟩
  · simp at kl
    rw [g_left _ _ _ (by omega), g_left _ _ _ (by omega)]
    exact h k k0 (by omega)
  · simp at kl; omega
theorem RI.of_hp {A : E → E → Bool} (o : Ord A) {es : List E} (h : Hp A es) (i : Nat) : RI A es i :=
  ⟨fun k k0 kl _ => h k k0 kl, fun k k0 kl kp i0 => by
    have h1 := h k k0 kl
    rw [kp] at h1
    exact o.nt _ _ _ h1 (h i i0 (by omega))⟩
theorem SI.step {A : E → E → Bool} (o : Ord A) {es : List E} {i c : Nat} {b : Bool} (h : SI A es i b) (hc : c < es.length) (hci : 0 < c ∧ (c - 1) / 2 = i) (ha : A (g es c) (g es i) = true)
    (hb : ∀ k, 0 < k → k < es.length → (k - 1) / 2 = i → A (g es k) (g es c) = false) : SI A (sw es i c) c false := by
  have hil : i < es.length := by omega
  have hic : i < c := by omega
  have ha' := o.asym _ _ ha
  refine ⟨fun k k0 kl kp _ => ?_, fun k k0 kl kp c0 => ?_⟩
  · rw [sw_length] at kl
    rw [g_sw _ _ _ _ hil hc, g_sw _ _ _ _ hil hc, if_neg kp]
    by_cases e1 : k = c
    · subst e1
      rw [if_pos rfl, if_pos hci.2]; exact ha'
    · rw [if_neg e1]
      by_cases e2 : k = i
      · subst e2
        rw [if_pos rfl, if_neg (by omega)]
        exact h.ch c hci.1 hc hci.2 k0
      · rw [if_neg e2]
        by_cases e3 : (k - 1) / 2 = i
        · rw [if_pos e3]; exact hb k k0 kl e3
        · rw [if_neg e3]; exact h.up k k0 kl e3 (.inr e2)
  · rw [sw_length] at kl
    rw [g_sw _ _ _ _ hil hc, g_sw _ _ _ _ hil hc, if_neg (by omega), if_neg (by omega), if_neg (by omega), if_pos hci.2]
    have := h.up k k0 kl (by omega) (.inr (by omega))
    rw [kp] at this; exact this
/-- no child is ahead: the row from i up is to be mended alone -/
theorem SI.done {A : E → E → Bool} {es : List E} {i : Nat} {b : Bool} (h : SI A es i b) (hb : ∀ k, 0 < k → k < es.length → (k - 1) / 2 = i → A (g es k) (g es i) = false) : RI A es i :=
  ⟨fun k k0 kl ki => by
    by_cases e : (k - 1) / 2 = i
    · rw [e]; exact hb k k0 kl e
    · exact h.up k k0 kl e (.inr ki), h.ch⟩
theorem SI.done' {A : E → E → Bool} {es : List E} {i : Nat} (h : SI A es i false) (hb : ∀ k, 0 < k → k < es.length → (k - 1) / 2 = i → A (g es k) (g es i) = false) : Hp A es :=
  fun k k0 kl => by
    by_cases e : (k - 1) / 2 = i
    · rw [e]; exact hb k k0 kl e
    · exact h.up k k0 kl e (.inl rfl)
theorem Hp.min {A : E → E → Bool} (o : Ord A) {es : List E} (h : Hp A es) : ∀ k, k < es.length → A (g es k) (g es 0) = false := by
  intro k
  induction k using Nat.strongRecOn with
  | ind k ih =>
    intro kl
    by_cases e : k = 0
    · subst e; exact o.irr _
    · exact o.nt _ _ _ (h k (by omega) kl) (ih _ (by omega) (by omega))
/-- the last one put at i, the row shorter by one -/
def cut (es : List E) (i : Nat) : List E := (sw es i (es.length - 1)).take (es.length - 1)
theorem cut_length (es : List E) (i : Nat) : (cut es i).length = es.length - 1 := by simp [cut, sw_length]
theorem g_take (es : List E) (n k : Nat) (h : k < n) : g (es.take n) k = g es k := by
  unfold g; simp only [List.getD_eq_getElem?_getD]; rw [List.getElem?_take_of_lt h]
theorem g_cut (es : List E) (i k : Nat) (hi : i < es.length) (hk : k < es.length - 1) : g (cut es i) k = if k = i then g es (es.length - 1) else g es k := by
  unfold cut
  rw [g_take _ _ _ hk, g_sw _ _ _ _ hi (by omega), if_neg (by omega)]
theorem cut_perm (es : List E) (i : Nat) (hi : i < es.length) : (g es i :: cut es i).Perm es := by
  have h1 := sw_perm es i (es.length - 1) hi (by omega)
  refine List.Perm.trans ?_ h1
  have h2 : sw es i (es.length - 1) = cut es i ++ [g es i] := by
    have hl : (sw es i (es.length - 1)).length = es.length - 1 + 1 := by rw [sw_length]; omega
    have h3 := List.take_append_drop (es.length - 1) (sw es i (es.length - 1))
    rw [← h3]
    unfold cut
    congr 1
    rw [List.drop_eq_getElem_cons (by omega), List.drop_eq_nil_of_le (by omega)]
    congr 1
    rw [← g_eq, g_sw _ _ _ _ hi (by omega), if_pos rfl]
  rw [h2]
  exact (List.perm_append_comm (l₁ := [g es i]) (l₂ := cut es i))
theorem SI.start {A : E → E → Bool} (o : Ord A) {es : List E} (h : Hp A es) (i : Nat) (hi : i < es.length - 1) : SI A (cut es i) i true := by
  refine ⟨fun k k0 kl kp kb => ?_, fun k k0 kl kp i0 => ?_⟩
  · rw [cut_length] at kl
    have ki : k ≠ i := by simpa using kb
    rw [g_cut _ _ _ (by omega) kl, g_cut _ _ _ (by omega) (by omega), if_neg ki, if_neg kp]
    exact h k k0 (by omega)
  · rw [cut_length] at kl
    rw [g_cut _ _ _ (by omega) kl, g_cut _ _ _ (by omega) (by omega), if_neg (by omega), if_neg (by omega)]
    have h1 := h k k0 (by omega)
    rw [kp] at h1
    exact o.nt _ _ _ h1 (h i i0 (by omega))
theorem Hp.cut_last {A : E → E → Bool} {es : List E} (h : Hp A es) (i : Nat) (hi : i < es.length) (hl : ¬ i < es.length - 1) : Hp A (cut es i) := by
  intro k k0 kl
  rw [cut_length] at kl
  rw [g_cut _ _ _ (by omega) kl, g_cut _ _ _ (by omega) (by omega), if_neg (by omega), if_neg (by omega)]
  exact h k k0 (by omega)
theorem Hp.nil (A : E → E → Bool) : Hp A [] := fun k k0 kl => by simp at kl
end Go.Proofs.Ytopmhacnopfifaa.tm
