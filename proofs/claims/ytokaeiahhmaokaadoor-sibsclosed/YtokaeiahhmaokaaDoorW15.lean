import Derived.Test.YtokaeiahhmaokaaDoorW13
import Derived.Test.YtokaeiahhmaokaaDoorW1
import Derived.Test.YtokaeiahhmaokaaDoorW10
namespace Go.Proofs.YtokaeiahhmaokaaDoor.ds
set_option linter.unusedVariables false
set_option linter.unusedSimpArgs false
/-- ahead by its dot -/
def dl (a b : E) : Prop := a.n < b.n ∨ (a.n = b.n ∧ a.c < b.c)
theorem cf_neg (a b : E) : cfE a b < 0 ↔ dl a b := by
  unfold cfE cmpI dl
  by_cases h1 : a.n < b.n
  · simp [h1]
  · by_cases h2 : b.n < a.n
    · have h3 : ¬ a.n = b.n := by omega
      simp [h1, h2, h3]
    · have h3 : a.n = b.n := by omega
      by_cases h4 : a.c < b.c
      · simp [h3, h4]
      · by_cases h5 : b.c < a.c
        · simp [h3, h4, h5]
        · simp [h3, h4, h5]
/-- writes with the numbers of their places at the beginning -/
abbrev TF := Nat → E × Nat
/-- the order of a stable sort -/
def lt2 (x y : E × Nat) : Prop := dl x.1 y.1 ∨ (x.1.n = y.1.n ∧ x.1.c = y.1.c ∧ x.2 < y.2)
theorem lt2_trans {x y z : E × Nat} (h : lt2 x y) (k : lt2 y z) : lt2 x z := by unfold lt2 dl at *; omega
theorem lt2_of {x y : E × Nat} (h : ¬ dl y.1 x.1) (t : x.2 < y.2) : lt2 x y := by unfold lt2 dl at *; omega
def Srt (a b : Nat) (D : TF) : Prop := ∀ i j, a ≤ i → i < j → j < b → lt2 (D i) (D j)
def Tg (a m b : Nat) (D : TF) : Prop := ∀ i j, a ≤ i → i < m → m ≤ j → j < b → (D i).2 < (D j).2
/-- a change of places between a and b -/
def Pm (a b : Nat) (D D' : TF) : Prop := ∃ σ τ : Nat → Nat, (∀ k, σ (τ k) = k) ∧ (∀ k, τ (σ k) = k) ∧ (∀ k, ¬ (a ≤ k ∧ k < b) → σ k = k) ∧ ∀ k, D' k = D (σ k)
theorem Pm.refl (a b : Nat) (D : TF) : Pm a b D D := ⟨id, id, fun _ => rfl, fun _ => rfl, fun _ _ => rfl, fun _ => rfl⟩
theorem Pm.trans {a b : Nat} {D D' D'' : TF} (h : Pm a b D D') (k : Pm a b D' D'') : Pm a b D D'' := by
  obtain ⟨σ, τ, h1, h2, h3, h4⟩ := h
  obtain ⟨σ', τ', k1, k2, k3, k4⟩ := k
  exact ⟨fun i => σ (σ' i), fun i => τ' (τ i), fun i => by dsimp only; rw [k1, h1], fun i => by dsimp only; rw [h2, k2], fun i hi => by dsimp only; rw [k3 i hi, h3 i hi], fun i => by dsimp only; rw [k4, h4]⟩
theorem Pm.mono {a b a' b' : Nat} {D D' : TF} (h : Pm a b D D') (ha : a' ≤ a) (hb : b ≤ b') : Pm a' b' D D' := by
  obtain ⟨σ, τ, h1, h2, h3, h4⟩ := h
  exact ⟨σ, τ, h1, h2, fun k hk => h3 k (fun hh => hk ⟨by omega, by omega⟩), h4⟩
theorem Pm.out {a b : Nat} {D D' : TF} (h : Pm a b D D') (k : Nat) (hk : k < a ∨ b ≤ k) : D' k = D k := by
  obtain ⟨σ, τ, h1, h2, h3, h4⟩ := h
  rw [h4, h3 k (by omega)]
theorem Pm.inn {a b : Nat} {D D' : TF} (h : Pm a b D D') (k : Nat) (h1 : a ≤ k) (h2 : k < b) : ∃ j, a ≤ j ∧ j < b ∧ D' k = D j := by
  obtain ⟨σ, τ, s1, s2, s3, s4⟩ := h
  refine ⟨σ k, ?_⟩
  by_cases hc : a ≤ σ k ∧ σ k < b
  · exact ⟨hc.1, hc.2, s4 k⟩
  · have e := s3 (σ k) hc
    have e2 : τ (σ (σ k)) = τ (σ k) := by rw [e]
    rw [s2, s2] at e2
    rw [e2] at hc
    exact absurd ⟨h1, h2⟩ hc
/-- two change places -/
def swp (D : TF) (i j : Nat) : TF := fun k => if k = i then D j else if k = j then D i else D k
theorem swp_pm (D : TF) (a b i j : Nat) (hi : a ≤ i ∧ i < b) (hj : a ≤ j ∧ j < b) : Pm a b D (swp D i j) := by
  refine ⟨fun k => if k = i then j else if k = j then i else k, fun k => if k = i then j else if k = j then i else k, fun k => ?_, fun k => ?_, fun k hk => ?_, fun k => ?_⟩
  · dsimp only
    by_cases h1 : k = i
    · subst h1; simp
    · by_cases h2 : k = j
      · subst h2; simp [h1]
      · simp [h1, h2]
  · dsimp only
    by_cases h1 : k = i
    · subst h1; simp
    · by_cases h2 : k = j
      · subst h2; simp [h1]
      · simp [h1, h2]
  · dsimp only
    rw [if_neg (by omega), if_neg (by omega)]
  · unfold swp
    dsimp only
    by_cases h1 : k = i
    · rw [if_pos h1, if_pos h1]
    · rw [if_neg h1, if_neg h1]
      by_cases h2 : k = j
      · rw [if_pos h2, if_pos h2]
      · rw [if_neg h2, if_neg h2]
/-- swapRange -/
def swR (D : TF) (a b n : Nat) : TF := fun k => if a ≤ k ∧ k < a + n then D (k - a + b) else if b ≤ k ∧ k < b + n then D (k - b + a) else D k
theorem swR_zero (D : TF) (a b : Nat) : swR D a b 0 = D := by
  funext k; unfold swR; rw [if_neg (by omega), if_neg (by omega)]
theorem swR_succ (D : TF) (a b n : Nat) (h : a + (n + 1) ≤ b) : swp (swR D a b n) (a + n) (b + n) = swR D a b (n + 1) := by
  funext k
  unfold swp
  by_cases h1 : k = a + n
  · subst h1
    rw [if_pos rfl]
    unfold swR
    rw [if_neg (by omega), if_neg (by omega), if_pos (by omega)]
    congr 1; omega
  · rw [if_neg h1]
    by_cases h2 : k = b + n
    · subst h2
      rw [if_pos rfl]
      have e1 : swR D a b n (a + n) = D (a + n) := by unfold swR; rw [if_neg (by omega), if_neg (by omega)]
      have e2 : swR D a b (n + 1) (b + n) = D (b + n - b + a) := by unfold swR; rw [if_neg (by omega), if_pos (by omega)]
      rw [e1, e2]
      congr 1; omega
    · rw [if_neg h2]
      unfold swR
      by_cases h3 : a ≤ k ∧ k < a + n
      · rw [if_pos h3, if_pos (show a ≤ k ∧ k < a + (n + 1) by omega)]
      · rw [if_neg h3, if_neg (show ¬ (a ≤ k ∧ k < a + (n + 1)) by omega)]
        by_cases h4 : b ≤ k ∧ k < b + n
        · rw [if_pos h4, if_pos (show b ≤ k ∧ k < b + (n + 1) by omega)]
        · rw [if_neg h4, if_neg (show ¬ (b ≤ k ∧ k < b + (n + 1)) by omega)]
/-- a rotation: what stands from a to m and what stands from m to b change places -/
def rot (D : TF) (a m b : Nat) : TF := fun k => if k < a then D k else if k < a + (b - m) then D (k - a + m) else if k < b then D (k - (b - m)) else D k
theorem rot_big (D : TF) (m i j : Nat) (him : i ≤ m) (h : j < i) : rot (swR D (m - i) m j) (m - (i - j)) m (m + j) = rot D (m - i) m (m + j) := by
  funext k
  unfold rot
  have e1 : m - (i - j) = m - i + j := by omega
  have e2 : m + j - m = j := by omega
  rw [e1, e2]
  by_cases h1 : k < m - i
  · rw [if_pos (by omega), if_pos h1]
    unfold swR; rw [if_neg (by omega), if_neg (by omega)]
  · by_cases h2 : k < m - i + j
    · rw [if_pos h2, if_neg h1, if_pos h2]
      unfold swR; rw [if_pos (by omega)]
    · rw [if_neg h2, if_neg h1, if_neg h2]
      by_cases h3 : k < m - i + j + j
      · rw [if_pos h3]
        unfold swR
        by_cases h4 : m ≤ k - (m - i + j) + m ∧ k - (m - i + j) + m < m + j
        · rw [if_neg (by omega), if_pos h4, if_pos (by omega)]
          congr 1; omega
        · omega
      · rw [if_neg h3]
        by_cases h4 : k < m + j
        · rw [if_pos h4, if_pos h4]
          unfold swR; rw [if_neg (by omega), if_neg (by omega)]
        · rw [if_neg h4, if_neg h4]
          unfold swR; rw [if_neg (by omega), if_neg (by omega)]
theorem rot_small (D : TF) (m i j : Nat) (him : i ≤ m) (h : i < j) : rot (swR D (m - i) (m + j - i) i) (m - i) m (m + (j - i)) = rot D (m - i) m (m + j) := by
  funext k
  unfold rot
  have e1 : m + (j - i) - m = j - i := by omega
  have e2 : m + j - m = j := by omega
  rw [e1, e2]
  by_cases h1 : k < m - i
  · rw [if_pos h1, if_pos h1]
    unfold swR; rw [if_neg (by omega), if_neg (by omega)]
  · rw [if_neg h1, if_neg h1]
    by_cases h2 : k < m - i + (j - i)
    · rw [if_pos h2, if_pos (by omega)]
      unfold swR; rw [if_neg (by omega), if_neg (by omega)]
    · rw [if_neg h2]
      by_cases h3 : k < m + (j - i)
      · rw [if_pos h3, if_pos (by omega)]
        unfold swR; rw [if_pos (by omega)]
        congr 1; omega
      · rw [if_neg h3]
        by_cases h4 : k < m + j
        · rw [if_neg (by omega), if_pos h4]
          unfold swR; rw [if_neg (by omega), if_pos (by omega)]
          congr 1; omega
        · rw [if_neg (by omega), if_neg h4]
          unfold swR; rw [if_neg (by omega), if_neg (by omega)]
theorem rot_same (D : TF) (m i : Nat) (him : i ≤ m) : swR D (m - i) m i = rot D (m - i) m (m + i) := by
  funext k
  unfold rot swR
  have e2 : m + i - m = i := by omega
  rw [e2]
  by_cases h1 : k < m - i
  · rw [if_neg (by omega), if_neg (by omega), if_pos h1]
  · rw [if_neg h1]
    by_cases h2 : k < m - i + i
    · rw [if_pos (by omega), if_pos h2]
    · rw [if_neg (by omega), if_neg h2]
      by_cases h3 : k < m + i
      · rw [if_pos (by omega), if_pos h3]
        congr 1; omega
      · rw [if_neg (by omega), if_neg h3]
end Go.Proofs.YtokaeiahhmaokaaDoor.ds
namespace Go.Proofs.YtokaeiahhmaokaaDoor.ds
set_option linter.unusedVariables false
set_option linter.unusedSimpArgs false
theorem srt_join {a mid b : Nat} {D : TF} (h1 : Srt a mid D) (h2 : Srt mid b D) (hx : ∀ i j, a ≤ i → i < mid → mid ≤ j → j < b → lt2 (D i) (D j)) : Srt a b D := by
  intro i j hi hij hj
  by_cases hjm : j < mid
  · exact h1 i j hi hij hjm
  · by_cases him : i < mid
    · exact hx i j hi him (by omega) hj
    · exact h2 i j (by omega) hij hj
theorem rot_s (D : TF) (m e : Nat) (h : m ≤ e) : rot D m m e = D := by
  funext k; unfold rot
  by_cases h1 : k < m
  · rw [if_pos h1]
  · rw [if_neg h1]
    by_cases h2 : k < m + (e - m)
    · rw [if_pos h2]; congr 1; omega
    · rw [if_neg h2, if_neg (by omega)]
theorem rot_e (D : TF) (s m : Nat) (h : s ≤ m) : rot D s m m = D := by
  funext k; unfold rot
  by_cases h1 : k < s
  · rw [if_pos h1]
  · rw [if_neg h1, if_neg (by omega)]
    by_cases h2 : k < m
    · rw [if_pos h2]; congr 1; omega
    · rw [if_neg h2]
/-- the four parts behind a rotation -/
theorem rot1 {D : TF} {s m e k : Nat} (h : k < s) : rot D s m e k = D k := by unfold rot; rw [if_pos h]
theorem rot2 {D : TF} {s m e k : Nat} (h : s ≤ k) (h2 : k < s + (e - m)) : rot D s m e k = D (k - s + m) := by unfold rot; rw [if_neg (by omega), if_pos h2]
theorem rot3 {D : TF} {s m e k : Nat} (hs : s ≤ m) (h : s + (e - m) ≤ k) (h2 : k < e) : rot D s m e k = D (k - (e - m)) := by unfold rot; rw [if_neg (by omega), if_neg (by omega), if_pos h2]
theorem rot4 {D : TF} {s m e k : Nat} (hs : s ≤ m) (hm : m ≤ e) (h : e ≤ k) : rot D s m e k = D k := by unfold rot; rw [if_neg (by omega), if_neg (by omega), if_neg (by omega)]
/-- what symMerge has found -/
structure Sym (a m b mid s e : Nat) (D : TF) : Prop where
  am : a ≤ m
  mb : m ≤ b
  sl : Srt a m D
  sr : Srt m b D
  tg : Tg a m b D
  asx : a ≤ s
  sm : s ≤ m
  me : m ≤ e
  eb : e ≤ b
  md : s + (e - m) = mid
  lo : a < s → e < b → ¬ dl (D e).1 (D (s - 1)).1
  hi : s < m → m < e → dl (D (e - 1)).1 (D s).1
theorem Sym.lr1 {a m b mid s e : Nat} {D : TF} (h : Sym a m b mid s e D) (i j : Nat) (hi : a ≤ i) (his : i < s) (hj : e ≤ j) (hjb : j < b) : lt2 (D i) (D j) := by
  obtain ⟨am, mb, sl, sr, tg, asx, sm, me, eb, md, lo, _⟩ := h
  have h1 : lt2 (D (s - 1)) (D e) := lt2_of (lo (by omega) (by omega)) (tg _ _ (by omega) (by omega) (by omega) (by omega))
  have h2 : lt2 (D (s - 1)) (D j) := by
    by_cases hej : e = j
    · rw [← hej]; exact h1
    · exact lt2_trans h1 (sr e j (by omega) (by omega) hjb)
  by_cases hii : i = s - 1
  · rw [hii]; exact h2
  · exact lt2_trans (sl i (s - 1) hi (by omega) (by omega)) h2
theorem Sym.rl {a m b mid s e : Nat} {D : TF} (h : Sym a m b mid s e D) (i j : Nat) (hi : m ≤ i) (hie : i < e) (hj : s ≤ j) (hjm : j < m) : lt2 (D i) (D j) := by
  obtain ⟨am, mb, sl, sr, tg, asx, sm, me, eb, md, _, hh⟩ := h
  have h1 : lt2 (D (e - 1)) (D s) := .inl (hh (by omega) (by omega))
  have h2 : lt2 (D i) (D s) := by
    by_cases hii : i = e - 1
    · rw [hii]; exact h1
    · exact lt2_trans (sr i (e - 1) hi (by omega) (by omega)) h1
  by_cases hjs : j = s
  · rw [hjs]; exact h2
  · exact lt2_trans h2 (sl s j (by omega) (by omega) hjm)
theorem Sym.cross {a m b mid s e : Nat} {D : TF} (h : Sym a m b mid s e D) (i j : Nat) (hi : a ≤ i) (him : i < mid) (hj : mid ≤ j) (hjb : j < b) : lt2 (rot D s m e i) (rot D s m e j) := by
  have h' := h
  obtain ⟨am, mb, sl, sr, tg, asx, sm, me, eb, md, _, _⟩ := h'
  by_cases h1 : i < s
  · rw [rot1 h1]
    by_cases h2 : j < e
    · rw [rot3 sm (by omega) h2]
      exact sl _ _ hi (by omega) (by omega)
    · rw [rot4 sm me (by omega)]
      exact h.lr1 i j hi h1 (by omega) hjb
  · rw [rot2 (by omega) (by omega)]
    by_cases h2 : j < e
    · rw [rot3 sm (by omega) h2]
      exact h.rl _ _ (by omega) (by omega) (by omega) (by omega)
    · rw [rot4 sm me (by omega)]
      exact sr _ _ (by omega) (by omega) hjb
theorem Sym.s1 {a m b mid s e : Nat} {D : TF} (h : Sym a m b mid s e D) : Srt a s (rot D s m e) := fun i j hi hij hj => by
  rw [rot1 (by omega), rot1 hj]; exact h.sl i j hi hij (by have := h.sm; omega)
theorem Sym.s2 {a m b mid s e : Nat} {D : TF} (h : Sym a m b mid s e D) : Srt s mid (rot D s m e) := fun i j hi hij hj => by
  have := h.md; have := h.eb; have := h.me
  rw [rot2 hi (by omega), rot2 (by omega) (by omega)]
  exact h.sr _ _ (by omega) (by omega) (by omega)
theorem Sym.t1 {a m b mid s e : Nat} {D : TF} (h : Sym a m b mid s e D) : Tg a s mid (rot D s m e) := fun i j hi his hj hjm => by
  have := h.md; have := h.eb; have := h.me; have := h.sm
  rw [rot1 his, rot2 hj (by omega)]
  exact h.tg _ _ hi (by omega) (by omega) (by omega)
theorem Sym.s3 {a m b mid s e : Nat} {D : TF} (h : Sym a m b mid s e D) : Srt mid e (rot D s m e) := fun i j hi hij hj => by
  have := h.md; have := h.eb; have := h.me; have := h.sm; have := h.asx
  rw [rot3 h.sm (by omega) (by omega), rot3 h.sm (by omega) hj]
  exact h.sl _ _ (by omega) (by omega) (by omega)
theorem Sym.s4 {a m b mid s e : Nat} {D : TF} (h : Sym a m b mid s e D) : Srt e b (rot D s m e) := fun i j hi hij hj => by
  have := h.me
  rw [rot4 h.sm h.me hi, rot4 h.sm h.me (by omega)]
  exact h.sr _ _ (by omega) hij hj
theorem Sym.t2 {a m b mid s e : Nat} {D : TF} (h : Sym a m b mid s e D) : Tg mid e b (rot D s m e) := fun i j hi hie hj hjb => by
  have := h.md; have := h.eb; have := h.me; have := h.sm; have := h.asx
  rw [rot3 h.sm (by omega) hie, rot4 h.sm h.me hj]
  exact h.tg _ _ (by omega) (by omega) (by omega) hjb
/-- both halves merged -/
theorem Sym.fin {a m b mid s e : Nat} {D D3 D4 : TF} (h : Sym a m b mid s e D) (p3 : Pm a mid (rot D s m e) D3) (h3 : Srt a mid D3) (p4 : Pm mid b D3 D4) (h4 : Srt mid b D4) : Srt a b D4 := by
  refine srt_join (mid := mid) (fun i j hi hij hj => ?_) h4 (fun i j hi him hj hjb => ?_)
  · rw [p4.out i (by omega), p4.out j (by omega)]; exact h3 i j hi hij hj
  · rw [p4.out i (by omega)]
    obtain ⟨i', a1, a2, e1⟩ := p3.inn i hi him
    obtain ⟨j', b1, b2, e2⟩ := p4.inn j hj hjb
    rw [e1, e2, p3.out j' (by omega)]
    exact h.cross i' j' a1 a2 b1 b2
theorem srt_tr {a b : Nat} {D : TF} (h : b ≤ a + 1) : Srt a b D := fun i j hi hij hj => by omega
/-- one is put into what stands behind it: from a up to i -/
def insR (D : TF) (a i : Nat) : TF := fun k => if k < a then D k else if k < i then D (k + 1) else if k = i then D a else D k
theorem insR_zero (D : TF) (a : Nat) : insR D a a = D := by
  funext k; unfold insR
  by_cases h1 : k < a
  · rw [if_pos h1]
  · rw [if_neg h1, if_neg h1]
    by_cases h2 : k = a
    · rw [if_pos h2, h2]
    · rw [if_neg h2]
theorem insR_succ (D : TF) (a i : Nat) (h : a ≤ i) : swp (insR D a i) i (i + 1) = insR D a (i + 1) := by
  funext k; unfold swp
  by_cases h1 : k = i
  · subst h1
    rw [if_pos rfl]
    unfold insR
    rw [if_neg (by omega), if_neg (by omega), if_neg (by omega), if_neg (by omega), if_pos (by omega)]
  · rw [if_neg h1]
    by_cases h2 : k = i + 1
    · subst h2
      rw [if_pos rfl]
      unfold insR
      rw [if_neg (by omega), if_neg (by omega), if_pos rfl, if_neg (by omega), if_neg (by omega), if_pos rfl]
    · rw [if_neg h2]
      unfold insR
      by_cases h3 : k < a
      · rw [if_pos h3, if_pos h3]
      · rw [if_neg h3, if_neg h3]
        by_cases h4 : k < i
        · rw [if_pos h4, if_pos (show k < i + 1 by omega)]
        · rw [if_neg h4, if_neg h1, if_neg (show ¬ k < i + 1 by omega), if_neg h2]
theorem insR_pm (D : TF) (a b : Nat) : ∀ k, a + k < b → Pm a b D (insR D a (a + k))
  | 0, _ => by rw [Nat.add_zero, insR_zero]; exact Pm.refl _ _ _
  | k + 1, h => by
    rw [← Nat.add_assoc, ← insR_succ D a (a + k) (by omega)]
    exact (insR_pm D a b k (by omega)).trans (swp_pm _ a b _ _ (by omega) (by omega))
theorem insR_srt {D : TF} {a b i : Nat} (hs : Srt (a + 1) b D) (hi : a + 1 ≤ i) (hib : i ≤ b) (tg : Tg a (a + 1) b D) (h1 : ∀ k, a + 1 ≤ k → k < i → dl (D k).1 (D a).1) (h2 : ∀ k, i ≤ k → k < b → ¬ dl (D k).1 (D a).1) : Srt a b (insR D a (i - 1)) := by
  intro x y hx hxy hy
  have hA : ∀ k, a + 1 ≤ k → k < i → lt2 (D k) (D a) := fun k u v => .inl (h1 k u v)
  have hB : ∀ k, i ≤ k → k < b → lt2 (D a) (D k) := fun k u v => lt2_of (h2 k u v) (tg a k (by omega) (by omega) (by omega) v)
  unfold insR
  rw [if_neg (show ¬ x < a by omega), if_neg (show ¬ y < a by omega)]
  by_cases x1 : x < i - 1
  · rw [if_pos x1]
    by_cases y1 : y < i - 1
    · rw [if_pos y1]; exact hs _ _ (by omega) (by omega) (by omega)
    · rw [if_neg y1]
      by_cases y2 : y = i - 1
      · rw [if_pos y2]; exact hA _ (by omega) (by omega)
      · rw [if_neg y2]; exact hs _ _ (by omega) (by omega) hy
  · rw [if_neg x1, if_neg (by omega : ¬ y < i - 1), if_neg (by omega : ¬ y = i - 1)]
    by_cases x2 : x = i - 1
    · rw [if_pos x2]; exact hB _ (by omega) hy
    · rw [if_neg x2]; exact hs _ _ (by omega) hxy hy
/-- one is put into what stands ahead of it: from m down to i -/
def insL (D : TF) (m i : Nat) : TF := fun k => if k < i then D k else if k = i then D m else if k ≤ m then D (k - 1) else D k
theorem insL_zero (D : TF) (m : Nat) : insL D m m = D := by
  funext k; unfold insL
  by_cases h1 : k < m
  · rw [if_pos h1]
  · rw [if_neg h1]
    by_cases h2 : k = m
    · rw [if_pos h2, h2]
    · rw [if_neg h2, if_neg (by omega)]
theorem insL_pred (D : TF) (m i : Nat) (h : i < m) : swp (insL D m (i + 1)) (i + 1) i = insL D m i := by
  funext k; unfold swp
  by_cases h1 : k = i + 1
  · subst h1
    rw [if_pos rfl]
    unfold insL
    rw [if_pos (by omega), if_neg (by omega), if_neg (by omega), if_pos (by omega)]
    congr 1
  · rw [if_neg h1]
    by_cases h2 : k = i
    · subst h2
      rw [if_pos rfl]
      unfold insL
      rw [if_neg (by omega), if_pos rfl, if_neg (by omega), if_pos rfl]
    · rw [if_neg h2]
      unfold insL
      by_cases h3 : k < i
      · rw [if_pos h3, if_pos (by omega)]
      · rw [if_neg h3, if_neg (by omega), if_neg h1, if_neg h2]
theorem insL_pm (D : TF) (a m b : Nat) (hm : m < b) : ∀ k, k ≤ m → a + k ≤ m → Pm a b D (insL D m (m - k))
  | 0, _, _ => by rw [Nat.sub_zero, insL_zero]; exact Pm.refl _ _ _
  | k + 1, h, h2 => by
    have e : m - k = m - (k + 1) + 1 := by omega
    have := insL_pm D a m b hm k (by omega) (by omega)
    rw [e] at this
    rw [← insL_pred D m (m - (k + 1)) (by omega)]
    exact this.trans (swp_pm _ a b _ _ (by omega) (by omega))
theorem insL_srt {D : TF} {a m i : Nat} (hs : Srt a m D) (hi : a ≤ i) (him : i ≤ m) (tg : Tg a m (m + 1) D) (h1 : ∀ k, a ≤ k → k < i → ¬ dl (D m).1 (D k).1) (h2 : ∀ k, i ≤ k → k < m → dl (D m).1 (D k).1) : Srt a (m + 1) (insL D m i) := by
  intro x y hx hxy hy
  have hA : ∀ k, a ≤ k → k < i → lt2 (D k) (D m) := fun k u v => lt2_of (h1 k u v) (tg k m u (by omega) (by omega) (by omega))
  have hB : ∀ k, i ≤ k → k < m → lt2 (D m) (D k) := fun k u v => .inl (h2 k u v)
  unfold insL
  by_cases x1 : x < i
  · rw [if_pos x1]
    by_cases y1 : y < i
    · rw [if_pos y1]; exact hs _ _ hx hxy (by omega)
    · rw [if_neg y1]
      by_cases y2 : y = i
      · rw [if_pos y2]; exact hA _ hx x1
      · rw [if_neg y2, if_pos (by omega)]; exact hs _ _ hx (by omega) (by omega)
  · rw [if_neg x1, if_neg (by omega : ¬ y < i), if_neg (by omega : ¬ y = i), if_pos (by omega : y ≤ m)]
    by_cases x2 : x = i
    · rw [if_pos x2]; exact hB _ (by omega) (by omega)
    · rw [if_neg x2, if_pos (by omega : x ≤ m)]; exact hs _ _ (by omega) (by omega) (by omega)
end Go.Proofs.YtokaeiahhmaokaaDoor.ds
namespace Go.Proofs.YtokaeiahhmaokaaDoor.ds
open Go.ChangeShapes Go.WideShapes Go.ChangeAt Go.RowKit Go.Sort
set_option linter.unusedVariables false
set_option linter.unusedSimpArgs false
/-- a list of writes of the call's own, while it is sorted -/
structure AF (w W : World) (G N c : Nat) (D : TF) : Prop where
  own : OwnE w W ⟨some ⟨G, 0, none⟩, N, c⟩ ((List.range N).map (fun k => (D k).1))
theorem AF.kept {w W W' : World} {G N c : Nat} {D : TF} (h : AF w W G N c D) (a : Apart [] W W') : AF w W' G N c D := ⟨h.own.kept a⟩
theorem gE_rangeD (N : Nat) (D : TF) (k : Nat) (h : k < N) : gE ((List.range N).map (fun k => (D k).1)) k = (D k).1 := by
  unfold gE
  rw [List.getD_eq_getElem?_getD, List.getElem?_map, List.getElem?_range h]; rfl
theorem AF.cells {w W : World} {G N c : Nat} {D : TF} (h : AF w W G N c D) (k : Nat) (hk : k < N) : W.cell? ⟨G, k * 6, none⟩ = some (.int .i64 (D k).1.n) ∧ W.cell? ⟨G, k * 6 + 1, none⟩ = some (.int .i64 (D k).1.c) ∧ W.cell? ⟨G, k * 6 + 2, none⟩ = some (.string (D k).1.k) ∧ W.cell? ⟨G, k * 6 + 3, none⟩ = some (.bool (D k).1.d) ∧ W.cell? ⟨G, k * 6 + 4, none⟩ = some (.slice (D k).1.v.p (D k).1.v.n (D k).1.v.c) ∧ W.cell? ⟨G, k * 6 + 5, none⟩ = some (.slice (D k).1.x.p (D k).1.x.n (D k).1.x.c) := by
  obtain ⟨P', o', e, _, hc⟩ := h.own.nw.rd (by rw [flatE_length]; simp; omega)
  simp at e
  obtain ⟨rfl, rfl⟩ := e
  simp only [Nat.zero_add] at hc
  obtain ⟨a0, a1, a2, a3, a4, a5⟩ := flatE_get ((List.range N).map (fun k => (D k).1)) k (by simpa using hk)
  rw [gE_rangeD N D k hk] at a0 a1 a2 a3 a4 a5
  exact ⟨hc _ _ a0, hc _ _ a1, hc _ _ a2, hc _ _ a3, hc _ _ a4, hc _ _ a5⟩
theorem AF.row {w W : World} {G N c : Nat} {D : TF} (h : AF w W G N c D) : W.ownsRow 0 28 6 (.slice (some ⟨G, 0, none⟩) N c) N (flatE ((List.range N).map (fun k => (D k).1))) := h.own.nw.own
theorem set_swp (N : Nat) (D : TF) (i j : Nat) (hi : i < N) (hj : j < N) : (((List.range N).map (fun k => (D k).1)).set i (D j).1).set j (D i).1 = (List.range N).map (fun k => (swp D i j k).1) := by
  apply List.ext_getElem (by simp)
  intro k h1 h2
  simp only [List.getElem_set, List.getElem_map, List.getElem_range]
  unfold swp
  by_cases hkj : j = k
  · rw [if_pos hkj]
    by_cases hki : k = i
    · rw [if_pos hki, hkj.trans hki]
    · rw [if_neg hki, if_pos hkj.symm]
  · rw [if_neg hkj]
    by_cases hki : i = k
    · rw [if_pos hki, if_pos hki.symm]
    · rw [if_neg hki, if_neg (fun e => hki e.symm), if_neg (fun e => hkj e.symm)]
/-- two have changed places -/
theorem AF.swap {w W : World} {G N c : Nat} {D : TF} (h : AF w W G N c D) (W' : World) (i j : Nat) (hi : i < N) (hj : j < N) (o : W'.ownsRow 0 28 6 (.slice (some ⟨G, 0, none⟩) N c) N (flatE ((((List.range N).map (fun k => (D k).1)).set i (D j).1).set j (D i).1))) (a : Apart [G] W W') : AF w W' G N c (swp D i j) := by
  rw [set_swp N D i j hi hj] at o
  have hb := h.own.nw
  refine ⟨⟨⟨o, hb.new, hb.ap.trans' a (fun k hk => ?_)⟩, by simp⟩⟩
  simp at hk
  subst hk
  exact .inr (hb.new _ rfl)
end Go.Proofs.YtokaeiahhmaokaaDoor.ds
namespace Go.Proofs.YtokaeiahhmaokaaDoor.ds
open Go.ChangeShapes Go.WideShapes Go.ChangeAt Go.RowKit Go.Sort
set_option linter.unusedVariables false
set_option linter.unusedSimpArgs false
set_option maxHeartbeats 8000000 in
set_option maxRecDepth 100000 in
theorem swapRange_ok {w W : World} {G N c : Nat} {D0 : TF} (h : AF w W G N c D0) (hN : N ≤ 2000000) (a b n : Nat) (hab : a + n ≤ b) (hbn : b + n ≤ N) (cmp : Value) : Calls Tryd.prog 131 #[.slice (some ⟨G, 0, none⟩) N c, .int .i64 (a : Nat), .int .i64 (b : Nat), .int .i64 (n : Nat), cmp] W fun r W' => (∃ v, r = .returned v) ∧ AF w W' G N c (swR D0 a b n) ∧ Apart [G] W W' := by
  have HH := hid h
  clear h
  go_enter Tryd.func131, Tryd.ntmps131
  go_wp2_with fail
  go_loopw [10] (fun v wr => ∃ k : Nat, v = .int .i64 (k : Nat) ∧ k ≤ n ∧ AF w wr G N c (swR D0 a b k) ∧ Apart [G] W wr) (fun v _ => n - (intOf v).toNat)
  case atStart => exact ⟨0, rfl, Nat.zero_le _, by rw [swR_zero]; exact HH.out, Apart.refl _ _⟩
  case round =>
    obtain ⟨k, rfl, hk, haf, ap⟩ := hrel
    have HAF := hid haf
    have HAP := hid ap
    clear haf ap
    by_cases hlt : k < n
    · obtain ⟨I, hI⟩ : ∃ I, a + k = I := ⟨_, rfl⟩
      obtain ⟨J, hJ⟩ : ∃ J, b + k = J := ⟨_, rfl⟩
      have HSS : Hid (swp (swR D0 a b k) I J = swR D0 a b (k + 1)) := by rw [← hI, ← hJ]; exact swR_succ D0 a b k (by omega)
      have HWI : Hid (IntKind.i64.wrap (((a : Nat) : Int) + ((k : Nat) : Int)) = ((I : Nat) : Int)) := by
        unfold Hid; rw [IntKind.wrap_i64]; omega
      have HWJ : Hid (IntKind.i64.wrap (((b : Nat) : Int) + ((k : Nat) : Int)) = ((J : Nat) : Int)) := by
        unfold Hid; rw [IntKind.wrap_i64]; omega
      have hIN : I < N := by omega
      have hJN : J < N := by omega
      have hINI : ((I : Nat) : Int) < (N : Int) := by omega
      have hJNI : ((J : Nat) : Int) < (N : Int) := by omega
      have hkI : ((k : Nat) : Int) < (n : Int) := by omega
      clear hI hJ
      generalize swR D0 a b k = D at *
      have hDD := HAF.out.kept (Apart.refl [] wr).drew
      have ci := hDD.cells I hIN
      have cj := hDD.cells J hJN
      have AD := hid (Apart.refl [G] wr).drew
      have OW1 := hid hDD.row
      have HAFD := hid hDD
      obtain ⟨x, Hx⟩ : ∃ x, Hid (x = (D I).1) := ⟨_, rfl⟩
      obtain ⟨y, Hy⟩ : ∃ y, Hid (y = (D J).1) := ⟨_, rfl⟩
      rw [← Hx.out] at ci
      rw [← Hy.out] at cj
      have CI := hid ci
      have CJ := hid cj
      clear hDD ci cj
      go_upto_region 3 with fail
      refine wp_region_held_drew (S := fun _ => True) (by kernel_rfl) trivial (fun hHeld => ?_)
      generalize wr.drew = wd at *
      have own1 := OW1.out
      obtain ⟨i0, i1, i2, i3, i4, i5⟩ := CI.out
      obtain ⟨j0, j1, j2, j3, j4, j5⟩ := CJ.out
      refine tk 0 16 (.slice (some ⟨G, 0, none⟩) N c) rfl ?_ ?_
      · intro W hSW; go_simp
      simp only [Act.put, List.setIfInBounds_toArray, List.set_cons_zero, List.set_cons_succ]
      refine tk 1 17 (.int .i64 (a : Nat)) rfl ?_ ?_
      · intro W hSW; go_simp
      simp only [Act.put, List.setIfInBounds_toArray, List.set_cons_zero, List.set_cons_succ]
      refine tk 2 18 (.int .i64 (k : Nat)) rfl ?_ ?_
      · intro W hSW; go_simp
      simp only [Act.put, List.setIfInBounds_toArray, List.set_cons_zero, List.set_cons_succ]
      refine tk 3 19 (.int .i64 (I : Nat)) rfl ?_ ?_
      · intro W hSW; have hw := HWI.out; go_simp
      simp only [Act.put, List.setIfInBounds_toArray, List.set_cons_zero, List.set_cons_succ]
      refine tk 4 20 (.slice (some ⟨G, 0, none⟩) N c) rfl ?_ ?_
      · intro W hSW; go_simp
      simp only [Act.put, List.setIfInBounds_toArray, List.set_cons_zero, List.set_cons_succ]
      refine tk 5 21 (.int .i64 (b : Nat)) rfl ?_ ?_
      · intro W hSW; go_simp
      simp only [Act.put, List.setIfInBounds_toArray, List.set_cons_zero, List.set_cons_succ]
      refine tk 6 22 (.int .i64 (k : Nat)) rfl ?_ ?_
      · intro W hSW; go_simp
      simp only [Act.put, List.setIfInBounds_toArray, List.set_cons_zero, List.set_cons_succ]
      refine tk 7 23 (.int .i64 (J : Nat)) rfl ?_ ?_
      · intro W hSW; have hw := HWJ.out; go_simp
      simp only [Act.put, List.setIfInBounds_toArray, List.set_cons_zero, List.set_cons_succ]
      refine tk 8 24 (.slice (some ⟨G, 0, none⟩) N c) rfl ?_ ?_
      · intro W hSW; go_simp
      simp only [Act.put, List.setIfInBounds_toArray, List.set_cons_zero, List.set_cons_succ]
      refine tk 9 25 (.int .i64 (b : Nat)) rfl ?_ ?_
      · intro W hSW; go_simp
      simp only [Act.put, List.setIfInBounds_toArray, List.set_cons_zero, List.set_cons_succ]
      refine tk 10 26 (.int .i64 (k : Nat)) rfl ?_ ?_
      · intro W hSW; go_simp
      simp only [Act.put, List.setIfInBounds_toArray, List.set_cons_zero, List.set_cons_succ]
      refine tk 11 27 (.int .i64 (J : Nat)) rfl ?_ ?_
      · intro W hSW; have hw := HWJ.out; go_simp
      simp only [Act.put, List.setIfInBounds_toArray, List.set_cons_zero, List.set_cons_succ]
      refine tk 12 28 (.pointer (some ⟨G, J * 6, none⟩)) rfl ?_ ?_
      · intro W hSW; go_simp
      simp only [Act.put, List.setIfInBounds_toArray, List.set_cons_zero, List.set_cons_succ]
      refine tk 14 30 (.slice (some ⟨G, 0, none⟩) N c) rfl ?_ ?_
      · intro W hSW; go_simp
      simp only [Act.put, List.setIfInBounds_toArray, List.set_cons_zero, List.set_cons_succ]
      refine tk 15 31 (.int .i64 (a : Nat)) rfl ?_ ?_
      · intro W hSW; go_simp
      simp only [Act.put, List.setIfInBounds_toArray, List.set_cons_zero, List.set_cons_succ]
      refine tk 16 32 (.int .i64 (k : Nat)) rfl ?_ ?_
      · intro W hSW; go_simp
      simp only [Act.put, List.setIfInBounds_toArray, List.set_cons_zero, List.set_cons_succ]
      refine tk 17 33 (.int .i64 (I : Nat)) rfl ?_ ?_
      · intro W hSW; have hw := HWI.out; go_simp
      simp only [Act.put, List.setIfInBounds_toArray, List.set_cons_zero, List.set_cons_succ]
      refine tk 18 34 (.pointer (some ⟨G, I * 6, none⟩)) rfl ?_ ?_
      · intro W hSW; go_simp
      simp only [Act.put, List.setIfInBounds_toArray, List.set_cons_zero, List.set_cons_succ]
      refine wpAnyH_ready (rs := [13, 19]) (by kernel_rfl) (by simp) ?_
      refine AllReadyH.cons rfl (fun KK hKK => ?_) (AllReadyH.cons rfl (fun KK hKK => ?_) AllReadyH.nil)
      · go_simp
        refine hKK.out _ _ trivial (fun hHeld => ?_)
        clear hKK KK
        refine wpAnyH_ready (rs := [19]) (by kernel_rfl) (by simp) ?_
        refine AllReadyH.cons rfl (fun KK hKK => ?_) AllReadyH.nil
        go_simp
        refine hKK.out _ _ trivial (fun hHeld => ?_)
        clear hKK KK
        have f0 := own1.frozenAt (I * 6)
        have f1 := own1.frozenAt (I * 6 + 1)
        have f2 := own1.frozenAt (I * 6 + 2)
        have f3 := own1.frozenAt (I * 6 + 3)
        have f4 := own1.frozenAt (I * 6 + 4)
        have f5 := own1.frozenAt (I * 6 + 5)
        refine tk 20 36 (.pointer (some ⟨G, I * 6, none⟩)) rfl ?_ ?_
        · intro W hSW; go_simp
        simp only [Act.put, List.setIfInBounds_toArray, List.set_cons_zero, List.set_cons_succ]
        refine wpAnyH_ready (rs := [21]) (by kernel_rfl) (by simp) ?_
        refine AllReadyH.cons rfl (fun KK hKK => ?_) AllReadyH.nil
        go_simp
        refine hKK.out _ _ trivial (fun hHeld => ?_)
        clear hKK KK f0 f1 f2 f3 f4 f5 i0 i1 i2 i3 i4 i5 j0 j1 j2 j3 j4 j5
        have hle : I < ((List.range N).map (fun k => (D k).1)).length := by simp; exact hIN
        have own2 := own_set6 own1 I hle y
        have A2 := hid (AD.out.trans (apart_set6 wd G (I * 6) y))
        change wpAnyH _ _ _ _ _ _ _ _ (set6 wd G (I * 6) y)
        generalize set6 wd G (I * 6) y = W2 at *
        clear own1 hle
        have HO2 := hid own2
        have hle2 : J < (((List.range N).map (fun k => (D k).1)).set I y).length := by simp; exact hJN
        obtain ⟨g0, g1, g2, g3, g4, g5⟩ := flatE_get _ J hle2
        have j0 := (own2.cellAt (J * 6) (by have := hJN; omega)).trans g0
        have j1 := (own2.cellAt (J * 6 + 1) (by have := hJN; omega)).trans g1
        have j2 := (own2.cellAt (J * 6 + 2) (by have := hJN; omega)).trans g2
        have j3 := (own2.cellAt (J * 6 + 3) (by have := hJN; omega)).trans g3
        have j4 := (own2.cellAt (J * 6 + 4) (by have := hJN; omega)).trans g4
        have j5 := (own2.cellAt (J * 6 + 5) (by have := hJN; omega)).trans g5
        have f0 := own2.frozenAt (J * 6)
        have f1 := own2.frozenAt (J * 6 + 1)
        have f2 := own2.frozenAt (J * 6 + 2)
        have f3 := own2.frozenAt (J * 6 + 3)
        have f4 := own2.frozenAt (J * 6 + 4)
        have f5 := own2.frozenAt (J * 6 + 5)
        clear own2 g0 g1 g2 g3 g4 g5
        refine tk 22 37 (.pointer (some ⟨G, J * 6, none⟩)) rfl ?_ ?_
        · intro W hSW; go_simp
        simp only [Act.put, List.setIfInBounds_toArray, List.set_cons_zero, List.set_cons_succ]
        refine wpAnyH_ready (rs := [23]) (by kernel_rfl) (by simp) ?_
        refine AllReadyH.cons rfl (fun KK hKK => ?_) AllReadyH.nil
        go_simp
        refine hKK.out _ _ trivial (fun hHeld => ?_)
        clear hKK KK f0 f1 f2 f3 f4 f5 j0 j1 j2 j3 j4 j5
        have own3 := own_set6 HO2.out J hle2 x
        have A3 := hid (apart_set6 W2 G (J * 6) x)
        change wpAnyH _ _ _ _ _ _ _ _ (set6 W2 G (J * 6) x)
        generalize set6 W2 G (J * 6) x = W3 at *
        rw [Hx.out, Hy.out] at own3
        have HA3 := hid (A2.out.trans A3.out)
        have HAN : Hid (AF w W3 G N c (swp D I J)) := HAF.out.swap W3 I J hIN hJN own3 HA3.out
        clear own3 hle2
        refine wpAnyH_done (by kernel_rfl) ?_ _
        go_wp2_with fail
        go_roundw
        case rel => exact ⟨k + 1, by go_num, by omega, by rw [← HSS.out]; exact HAN.out, HAP.out.trans HA3.out⟩
        case measure => simp [intOf]; omega
      · go_simp
        refine hKK.out _ _ trivial (fun hHeld => ?_)
        clear hKK KK
        refine wpAnyH_ready (rs := [13]) (by kernel_rfl) (by simp) ?_
        refine AllReadyH.cons rfl (fun KK hKK => ?_) AllReadyH.nil
        go_simp
        refine hKK.out _ _ trivial (fun hHeld => ?_)
        clear hKK KK
        have f0 := own1.frozenAt (I * 6)
        have f1 := own1.frozenAt (I * 6 + 1)
        have f2 := own1.frozenAt (I * 6 + 2)
        have f3 := own1.frozenAt (I * 6 + 3)
        have f4 := own1.frozenAt (I * 6 + 4)
        have f5 := own1.frozenAt (I * 6 + 5)
        refine tk 20 36 (.pointer (some ⟨G, I * 6, none⟩)) rfl ?_ ?_
        · intro W hSW; go_simp
        simp only [Act.put, List.setIfInBounds_toArray, List.set_cons_zero, List.set_cons_succ]
        refine wpAnyH_ready (rs := [21]) (by kernel_rfl) (by simp) ?_
        refine AllReadyH.cons rfl (fun KK hKK => ?_) AllReadyH.nil
        go_simp
        refine hKK.out _ _ trivial (fun hHeld => ?_)
        clear hKK KK f0 f1 f2 f3 f4 f5 i0 i1 i2 i3 i4 i5 j0 j1 j2 j3 j4 j5
        have hle : I < ((List.range N).map (fun k => (D k).1)).length := by simp; exact hIN
        have own2 := own_set6 own1 I hle y
        have A2 := hid (AD.out.trans (apart_set6 wd G (I * 6) y))
        change wpAnyH _ _ _ _ _ _ _ _ (set6 wd G (I * 6) y)
        generalize set6 wd G (I * 6) y = W2 at *
        clear own1 hle
        have HO2 := hid own2
        have hle2 : J < (((List.range N).map (fun k => (D k).1)).set I y).length := by simp; exact hJN
        obtain ⟨g0, g1, g2, g3, g4, g5⟩ := flatE_get _ J hle2
        have j0 := (own2.cellAt (J * 6) (by have := hJN; omega)).trans g0
        have j1 := (own2.cellAt (J * 6 + 1) (by have := hJN; omega)).trans g1
        have j2 := (own2.cellAt (J * 6 + 2) (by have := hJN; omega)).trans g2
        have j3 := (own2.cellAt (J * 6 + 3) (by have := hJN; omega)).trans g3
        have j4 := (own2.cellAt (J * 6 + 4) (by have := hJN; omega)).trans g4
        have j5 := (own2.cellAt (J * 6 + 5) (by have := hJN; omega)).trans g5
        have f0 := own2.frozenAt (J * 6)
        have f1 := own2.frozenAt (J * 6 + 1)
        have f2 := own2.frozenAt (J * 6 + 2)
        have f3 := own2.frozenAt (J * 6 + 3)
        have f4 := own2.frozenAt (J * 6 + 4)
        have f5 := own2.frozenAt (J * 6 + 5)
        clear own2 g0 g1 g2 g3 g4 g5
        refine tk 22 37 (.pointer (some ⟨G, J * 6, none⟩)) rfl ?_ ?_
        · intro W hSW; go_simp
        simp only [Act.put, List.setIfInBounds_toArray, List.set_cons_zero, List.set_cons_succ]
        refine wpAnyH_ready (rs := [23]) (by kernel_rfl) (by simp) ?_
        refine AllReadyH.cons rfl (fun KK hKK => ?_) AllReadyH.nil
        go_simp
        refine hKK.out _ _ trivial (fun hHeld => ?_)
        clear hKK KK f0 f1 f2 f3 f4 f5 j0 j1 j2 j3 j4 j5
        have own3 := own_set6 HO2.out J hle2 x
        have A3 := hid (apart_set6 W2 G (J * 6) x)
        change wpAnyH _ _ _ _ _ _ _ _ (set6 W2 G (J * 6) x)
        generalize set6 W2 G (J * 6) x = W3 at *
        rw [Hx.out, Hy.out] at own3
        have HA3 := hid (A2.out.trans A3.out)
        have HAN : Hid (AF w W3 G N c (swp D I J)) := HAF.out.swap W3 I J hIN hJN own3 HA3.out
        clear own3 hle2
        refine wpAnyH_done (by kernel_rfl) ?_ _
        go_wp2_with fail
        go_roundw
        case rel => exact ⟨k + 1, by go_num, by omega, by rw [← HSS.out]; exact HAN.out, HAP.out.trans HA3.out⟩
        case measure => simp [intOf]; omega
    · obtain rfl : n = k := by omega
      go_wp2_with fail
      go_end0
      exact ⟨⟨_, rfl⟩, HAF.out, HAP.out⟩
end Go.Proofs.YtokaeiahhmaokaaDoor.ds
