import Derived.Test.YtddffdcjhleejaaGreatG13
import Derived.Lib.AppendStr
namespace Go.Proofs.YtddffdcjhleejaaGreat.ds
open Go.ChangeShapes Go.WideShapes Go.ChangeAt Go.RowKit Go.Sort
set_option linter.unusedVariables false
set_option linter.unusedSimpArgs false
/-- l stands in B from q on, to q' -/
def St (B : List Nat) : Nat → List Nat → Nat → Prop
  | q, [], q' => q' = q ∧ q ≤ B.length
  | q, x :: l, q' => q < B.length ∧ B.getD q 0 = x ∧ St B (q + 1) l q'
theorem St.len {B : List Nat} : ∀ {l : List Nat} {q q' : Nat}, St B q l q' → q' = q + l.length ∧ q' ≤ B.length
  | [], q, q', h => by obtain ⟨h1, h2⟩ := h; subst h1; exact ⟨by simp, h2⟩
  | x :: l, q, q', h => by
    obtain ⟨h1, h2, h3⟩ := h
    have := St.len h3
    simp only [List.length_cons]
    omega
theorem St_app {B : List Nat} : ∀ {a b : List Nat} {q q' : Nat}, St B q (a ++ b) q' ↔ ∃ m, St B q a m ∧ St B m b q'
  | [], b, q, q' => by
    constructor
    · intro h
      refine ⟨q, ⟨rfl, ?_⟩, h⟩
      have := St.len h
      simp at this
      omega
    · rintro ⟨m, ⟨h1, h2⟩, h3⟩
      rw [h1] at h3; exact h3
  | x :: a, b, q, q' => by
    constructor
    · rintro ⟨h1, h2, h3⟩
      obtain ⟨m, h4, h5⟩ := St_app.1 h3
      exact ⟨m, ⟨h1, h2, h4⟩, h5⟩
    · rintro ⟨m, ⟨h1, h2, h3⟩, h4⟩
      exact ⟨h1, h2, St_app.2 ⟨m, h3, h4⟩⟩
theorem St.drop {B : List Nat} : ∀ {l : List Nat} {q q' : Nat}, St B q l q' → B.drop q = l ++ B.drop q'
  | [], q, q', h => by rw [h.1]; rfl
  | x :: l, q, q', h => by
    obtain ⟨h1, h2, h3⟩ := h
    rw [List.drop_eq_getElem_cons h1, St.drop h3]
    rw [List.getD_eq_getElem?_getD, List.getElem?_eq_getElem h1] at h2
    simp at h2
    rw [h2]; rfl
theorem St.of_drop {B : List Nat} : ∀ {l : List Nat} {q : Nat} {r : List Nat}, q ≤ B.length → B.drop q = l ++ r → St B q l (q + l.length)
  | [], q, r, hq, h => ⟨by simp, hq⟩
  | x :: l, q, r, hq, h => by
    have hl : q < B.length := by
      by_cases hc : q < B.length
      · exact hc
      · rw [List.drop_eq_nil_of_le (by omega)] at h; simp at h
    rw [List.drop_eq_getElem_cons hl] at h
    simp only [List.cons_append, List.cons.injEq] at h
    refine ⟨hl, ?_, ?_⟩
    · rw [List.getD_eq_getElem?_getD, List.getElem?_eq_getElem hl]; simpa using h.1
    · have := St.of_drop (l := l) (q := q + 1) (r := r) (by omega) h.2
      rw [show q + (x :: l).length = q + 1 + l.length from by simp; omega]
      exact this
/-- the whole of it -/
theorem St.whole {l : List Nat} : St l 0 l l.length := by
  have := St.of_drop (B := l) (l := l) (q := 0) (r := []) (by omega) (by simp)
  simpa using this
theorem or_add (a b i : Nat) (ha : a < 2 ^ i) (hb : b * 2 ^ i < 18446744073709551616) : a ||| b <<< i % 18446744073709551616 = a + b * 2 ^ i := by
  rw [Nat.shiftLeft_eq, Nat.mod_eq_of_lt hb, Nat.or_comm, ← Nat.shiftLeft_eq, ← Nat.shiftLeft_add_eq_or_of_lt ha, Nat.shiftLeft_eq]
  omega
theorem pow7 (i : Nat) : 2 ^ (7 * (i + 1)) = 2 ^ (7 * i) * 128 := by rw [show 7 * (i + 1) = 7 * i + 7 from by omega, Nat.pow_add]
theorem pow7_le (i : Nat) (h : i ≤ 9) : 2 ^ (7 * i) ≤ 9223372036854775808 := by
  have := Nat.pow_le_pow_right (n := 2) (by omega) (show 7 * i ≤ 63 by omega)
  have e : 2 ^ 63 = 9223372036854775808 := by decide
  omega
/-- a number that stands there in its one form is read -/
theorem rnum_of (B : List Nat) : ∀ (f i p acc m q' : Nat), f + i = 10 → i ≤ 9 → acc < 2 ^ (7 * i) → m * 2 ^ (7 * i) < 18446744073709551616 → (i = 0 ∨ 0 < m) → St B p (enc m) q' → rnum B f i p acc = .ok (acc + m * 2 ^ (7 * i), true, q')
  | 0, i, p, acc, m, q', hf, hi, _, _, _, _ => by omega
  | f + 1, i, p, acc, m, q', hf, hi, ha, hm, h0, h => by
    by_cases hs : m < 128
    · rw [enc_small hs] at h
      obtain ⟨h1, h2, h3, h4⟩ := h
      subst h3
      rw [rnum, if_pos h1, h2, Nat.mod_eq_of_lt hs, or_add acc m (7 * i) ha hm]
      by_cases h9 : i = 9
      · rw [if_pos h9]
        subst h9
        have : m = 1 := by
          have e : 2 ^ (7 * 9) = 9223372036854775808 := by decide
          rw [e] at hm
          omega
        simp [this]
      · rw [if_neg h9, if_pos hs]
        rcases h0 with h0 | h0
        · simp [h0]
        · have : m ≠ 0 := by omega
          simp [this]
    · rw [enc_big hs] at h
      obtain ⟨h1, h2, h3⟩ := h
      have h9 : i ≠ 9 := by
        rintro rfl
        have e : 2 ^ (7 * 9) = 9223372036854775808 := by decide
        rw [e] at hm
        omega
      have hmod : (m % 128 + 128) % 128 = m % 128 := by omega
      have hz := pow7 i
      have hdm : m % 128 + 128 * (m / 128) = m := by omega
      have hle : m % 128 * 2 ^ (7 * i) ≤ m * 2 ^ (7 * i) := Nat.mul_le_mul_right _ (by omega)
      rw [rnum, if_pos h1, h2, if_neg h9, if_neg (by omega), hmod, or_add acc (m % 128) (7 * i) ha (by omega)]
      have hlt : acc + m % 128 * 2 ^ (7 * i) < 2 ^ (7 * (i + 1)) := by
        rw [hz]
        have : m % 128 * 2 ^ (7 * i) ≤ 127 * 2 ^ (7 * i) := Nat.mul_le_mul_right _ (by omega)
        omega
      have hsum : m % 128 * 2 ^ (7 * i) + m / 128 * 2 ^ (7 * (i + 1)) = m * 2 ^ (7 * i) := by
        rw [hz]
        calc m % 128 * 2 ^ (7 * i) + m / 128 * (2 ^ (7 * i) * 128) = (m % 128 + 128 * (m / 128)) * 2 ^ (7 * i) := by rw [Nat.add_mul, Nat.mul_comm 128 (m / 128), Nat.mul_assoc, Nat.mul_comm 128 (2 ^ (7 * i))]
          _ = m * 2 ^ (7 * i) := by rw [hdm]
      rw [rnum_of B f (i + 1) (p + 1) (acc + m % 128 * 2 ^ (7 * i)) (m / 128) q' (by omega) (by omega) hlt (by omega) (.inr (by omega)) h3]
      rw [Nat.add_assoc, hsum]
/-- what is read stands there in its one form -/
theorem rnum_to (B : List Nat) (hB : ∀ b ∈ B, b < 256) : ∀ (f i p acc n q' : Nat), f + i = 10 → i ≤ 9 → acc < 2 ^ (7 * i) → rnum B f i p acc = .ok (n, true, q') → ∃ m, n = acc + m * 2 ^ (7 * i) ∧ n < 18446744073709551616 ∧ (i = 0 ∨ 0 < m) ∧ St B p (enc m) q'
  | 0, i, p, acc, n, q', hf, hi, _, h => by omega
  | f + 1, i, p, acc, n, q', hf, hi, ha, h => by
    rw [rnum] at h
    by_cases hp : p < B.length
    · rw [if_pos hp] at h
      have hb : B.getD p 0 < 256 := by
        rw [List.getD_eq_getElem?_getD, List.getElem?_eq_getElem hp]
        exact hB _ (List.getElem_mem _)
      have hz := pow7 i
      have hle := pow7_le i hi
      generalize hd : B.getD p 0 = d at h hb
      by_cases h9 : i = 9
      · rw [if_pos h9] at h
        simp only [Except.ok.injEq, Prod.mk.injEq, decide_eq_true_eq] at h
        obtain ⟨h1, h2, h3⟩ := h
        subst h9
        subst h2
        have e : 2 ^ (7 * 9) = 9223372036854775808 := by decide
        rw [or_add acc 1 (7 * 9) ha (by rw [e]; omega)] at h1
        refine ⟨1, h1.symm, by rw [e] at h1 ha; omega, .inr (by omega), ?_⟩
        rw [enc_small (by omega)]
        exact ⟨hp, hd, h3.symm, by omega⟩
      · rw [if_neg h9] at h
        have h8 : 2 ^ (7 * i) ≤ 72057594037927936 := by
          have := Nat.pow_le_pow_right (n := 2) (by omega) (show 7 * i ≤ 56 by omega)
          have e : 2 ^ 56 = 72057594037927936 := by decide
          omega
        by_cases h128 : d < 128
        · rw [if_pos h128] at h
          simp only [Except.ok.injEq, Prod.mk.injEq] at h
          obtain ⟨h1, h2, h3⟩ := h
          have hlt : d * 2 ^ (7 * i) ≤ 127 * 2 ^ (7 * i) := Nat.mul_le_mul_right _ (by omega)
          rw [Nat.mod_eq_of_lt h128, or_add acc d (7 * i) ha (by omega)] at h1
          refine ⟨d, h1.symm, by omega, ?_, ?_⟩
          · by_cases h0 : i = 0
            · exact .inl h0
            · right
              simp [h0] at h2
              omega
          · rw [enc_small h128]
            exact ⟨hp, hd, h3.symm, by omega⟩
        · rw [if_neg h128] at h
          have hlt : d % 128 * 2 ^ (7 * i) ≤ 127 * 2 ^ (7 * i) := Nat.mul_le_mul_right _ (by omega)
          rw [or_add acc (d % 128) (7 * i) ha (by omega)] at h
          obtain ⟨m, hm1, hm2, hm3, hm4⟩ := rnum_to B hB f (i + 1) (p + 1) (acc + d % 128 * 2 ^ (7 * i)) n q' (by omega) (by omega) (by rw [hz]; omega) h
          have hm0 : 0 < m := by omega
          refine ⟨d % 128 + 128 * m, ?_, hm2, .inr (by omega), ?_⟩
          · rw [hm1, hz, Nat.add_mul, Nat.mul_comm 128 m, Nat.mul_assoc, Nat.mul_comm 128 (2 ^ (7 * i))]; omega
          · rw [enc_big (by omega)]
            refine ⟨hp, ?_, ?_⟩
            · rw [hd]; omega
            · rw [show (d % 128 + 128 * m) / 128 = m from by omega]; exact hm4
    · rw [if_neg hp] at h; cases h
theorem rnumber_iff {B : List Nat} (hB : ∀ b ∈ B, b < 256) (q n q' : Nat) : rnumber B q = .ok ((n, true), q') ↔ n < 18446744073709551616 ∧ St B q (enc n) q' := by
  unfold rnumber
  constructor
  · intro h
    split at h
    · rename_i n' b' q2 hr
      simp only [Except.ok.injEq, Prod.mk.injEq] at h
      obtain ⟨⟨rfl, rfl⟩, rfl⟩ := h
      obtain ⟨m, h1, h2, _, h4⟩ := rnum_to B hB 10 0 q 0 n' q2 (by omega) (by omega) (by simp) hr
      simp at h1
      subst h1
      exact ⟨h2, h4⟩
    · cases h
  · rintro ⟨h1, h2⟩
    have := rnum_of B 10 0 q 0 n q' (by omega) (by omega) (by simp) (by simpa using h1) (.inl rfl) h2
    rw [this]
    simp
theorem rbound_iff {B : List Nat} (hB : ∀ b ∈ B, b < 256) (q lo hi n q' : Nat) (hhi : hi < 18446744073709551616) : rbound B q lo hi = .ok (n, q') ↔ (lo ≤ n ∧ n ≤ hi) ∧ St B q (enc n) q' := by
  have key := rnumber_iff hB q n q'
  unfold rbound
  constructor
  · intro h
    split at h
    · rename_i n' b' q2 hr
      split at h
      · rename_i hc
        simp only [Except.ok.injEq, Prod.mk.injEq] at h
        obtain ⟨rfl, rfl⟩ := h
        obtain ⟨rfl, h1, h2⟩ := hc
        exact ⟨⟨h1, h2⟩, (key.1 hr).2⟩
      · cases h
    · cases h
  · rintro ⟨⟨h1, h2⟩, h3⟩
    rw [key.2 ⟨by omega, h3⟩]
    simp [h1, h2]
theorem rb_iff {α β : Type} {r : Except Nat (α × Nat)} {f : α → Nat → Except Nat (β × Nat)} {b : β} {q' : Nat} : rb r f = .ok (b, q') ↔ ∃ a q1, r = .ok (a, q1) ∧ f a q1 = .ok (b, q') := by
  cases r with
  | error x => simp [rb]
  | ok t =>
    obtain ⟨a, q⟩ := t
    simp only [rb, Except.ok.injEq, Prod.mk.injEq]
    constructor
    · intro h; exact ⟨a, q, ⟨rfl, rfl⟩, h⟩
    · rintro ⟨a', q', ⟨rfl, rfl⟩, h⟩; exact h
/-- bytes behind their number -/
def encT (l : List Nat) : List Nat := enc l.length ++ l
theorem rbytes_iff {B : List Nat} (n q : Nat) (hq : q ≤ B.length) (l : List Nat) (q' : Nat) : rbytes B n q = .ok (l, q') ↔ l.length = n ∧ St B q l q' := by
  unfold rbytes
  constructor
  · intro h
    split at h
    · simp only [Except.ok.injEq, Prod.mk.injEq] at h
      obtain ⟨rfl, rfl⟩ := h
      have hl : ((B.drop q).take n).length = n := by simp; omega
      refine ⟨hl, ?_⟩
      have := St.of_drop (B := B) (l := (B.drop q).take n) (q := q) (r := (B.drop q).drop n) hq (List.take_append_drop _ _).symm
      rwa [hl] at this
    · cases h
  · rintro ⟨rfl, h⟩
    have hl := h.len
    rw [if_pos (by omega), h.drop]
    simp [hl.1]
theorem rtext_iff {B : List Nat} (hB : ∀ b ∈ B, b < 256) (q lo hi : Nat) (hhi : hi < 1000) (l : List Nat) (q' : Nat) : rtext B q lo hi = .ok (l, q') ↔ (lo ≤ l.length ∧ l.length ≤ hi) ∧ St B q (encT l) q' := by
  unfold rtext encT
  rw [rb_iff, St_app]
  constructor
  · rintro ⟨n, q1, h1, h2⟩
    rw [rbound_iff hB _ _ _ _ _ (by omega)] at h1
    have hl := h1.2.len
    rw [rbytes_iff n q1 hl.2] at h2
    obtain ⟨rfl, h2⟩ := h2
    exact ⟨h1.1, q1, h1.2, h2⟩
  · rintro ⟨h1, q1, h2, h3⟩
    refine ⟨l.length, q1, (rbound_iff hB _ _ _ _ _ (by omega)).2 ⟨h1, h2⟩, ?_⟩
    have hl := h2.len
    exact (rbytes_iff _ q1 hl.2 l q').2 ⟨rfl, h3⟩
theorem rdot_iff {B : List Nat} (hB : ∀ b ∈ B, b < 256) (q n c q' : Nat) : rdot B q = .ok ((n, c), q') ↔ (n ≤ 7 ∧ 1 ≤ c ∧ c ≤ 1048576) ∧ St B q (enc n ++ enc c) q' := by
  unfold rdot
  rw [rb_iff, St_app]
  constructor
  · rintro ⟨a, q1, h1, h2⟩
    rw [rb_iff] at h2
    obtain ⟨b, q2, h2, h3⟩ := h2
    simp only [Except.ok.injEq, Prod.mk.injEq] at h3
    obtain ⟨⟨rfl, rfl⟩, rfl⟩ := h3
    rw [rbound_iff hB _ _ _ _ _ (by omega)] at h1 h2
    exact ⟨⟨h1.1.2, h2.1⟩, q1, h1.2, h2.2⟩
  · rintro ⟨⟨h1, h2, h3⟩, q1, h4, h5⟩
    refine ⟨n, q1, (rbound_iff hB _ _ _ _ _ (by omega)).2 ⟨⟨by omega, h1⟩, h4⟩, ?_⟩
    rw [rb_iff]
    exact ⟨c, q', (rbound_iff hB _ _ _ _ _ (by omega)).2 ⟨⟨h2, h3⟩, h5⟩, rfl⟩
/-- a span as it is written -/
def encS (x : S) : List Nat := enc x.n.toNat ++ (enc x.b.toNat ++ enc x.t)
def encSet (xs : List S) : List Nat := enc xs.length ++ xs.flatMap encS
theorem OkL.one {x : S} : OkL 64 [x] ↔ Ok 64 x := ⟨fun h => h.ok x (by simp), fun h => ⟨by simpa using h, List.pairwise_singleton _ _⟩⟩
theorem Ok.t64 {x : S} (h : Ok 64 x) : x.t < 18446744073709551616 := (h.wf (by omega)).lt
theorem rspan_iff {B : List Nat} (hB : ∀ b ∈ B, b < 256) (q ln mb : Nat) (x : S) (q' : Nat) : rspan B q ln mb = .ok (x, q') ↔ (ln ≤ x.n.toNat ∧ Ok 64 x ∧ x.t ≤ mb) ∧ St B q (encS x) q' := by
  unfold rspan encS
  rw [rb_iff, St_app]
  constructor
  · rintro ⟨n, q1, h1, h2⟩
    rw [rb_iff] at h2
    obtain ⟨b, q2, h2, h3⟩ := h2
    rw [rb_iff] at h3
    obtain ⟨⟨t, ok⟩, q3, h3, h4⟩ := h3
    split at h4
    · rename_i hc
      rw [okS_iff] at hc
      obtain ⟨rfl, hc1, hc2⟩ := hc
      simp only [Except.ok.injEq, Prod.mk.injEq] at h4
      obtain ⟨rfl, rfl⟩ := h4
      rw [rbound_iff hB _ _ _ _ _ (by omega)] at h1 h2
      rw [rnumber_iff hB] at h3
      exact ⟨⟨by simpa using h1.1.1, OkL.one.1 hc2, hc1⟩, q1, by simpa using h1.2, St_app.2 ⟨q2, by simpa using h2.2, h3.2⟩⟩
    · cases h4
  · rintro ⟨⟨h1, h2, h3⟩, q1, h4, h5⟩
    obtain ⟨q2, h5, h6⟩ := St_app.1 h5
    have a0 := h2.n0
    have a1 := h2.n8
    have a2 := h2.b0
    have a3 := h2.bM
    have a4 := h2.t64
    refine ⟨x.n.toNat, q1, (rbound_iff hB _ _ _ _ _ (by omega)).2 ⟨⟨h1, by omega⟩, h4⟩, ?_⟩
    rw [rb_iff]
    refine ⟨x.b.toNat, q2, (rbound_iff hB _ _ _ _ _ (by omega)).2 ⟨⟨by omega, by omega⟩, h5⟩, ?_⟩
    rw [rb_iff]
    refine ⟨(x.t, true), q', (rnumber_iff hB _ _ _).2 ⟨a4, h6⟩, ?_⟩
    have e1 : (⟨((x.n.toNat : Nat) : Int), ((x.b.toNat : Nat) : Int), x.t⟩ : S) = x := by
      rw [Int.toNat_of_nonneg a0, Int.toNat_of_nonneg a2]
    have : okS x.n.toNat x.b.toNat x.t mb true = true := by
      rw [okS_iff]
      refine ⟨rfl, h3, ?_⟩
      rw [e1]; exact OkL.one.2 h2
    simp only [this, if_true, e1]
theorem rspansA_iff {B : List Nat} (hB : ∀ b ∈ B, b < 256) (mb : Nat) : ∀ (k ln q : Nat) (l : List S) (q' : Nat), q ≤ B.length → (rspansA B mb k ln q = .ok (l, q') ↔ (l.length = k ∧ (∀ x ∈ l, ln ≤ x.n.toNat) ∧ OkL 64 l ∧ ∀ x ∈ l, x.t ≤ mb) ∧ St B q (l.flatMap encS) q')
  | 0, ln, q, l, q', hq => by
    unfold rspansA
    constructor
    · intro h
      simp only [Except.ok.injEq, Prod.mk.injEq] at h
      obtain ⟨rfl, rfl⟩ := h
      exact ⟨⟨rfl, by simp, OkL.nil 64, by simp⟩, rfl, hq⟩
    · rintro ⟨⟨h1, _⟩, h2⟩
      have := List.length_eq_zero_iff.1 h1
      subst this
      rw [h2.1]
  | k + 1, ln, q, l, q', hq => by
    unfold rspansA
    rw [rb_iff]
    constructor
    · rintro ⟨x, q1, h1, h2⟩
      rw [rb_iff] at h2
      obtain ⟨l', q2, h2, h3⟩ := h2
      simp only [Except.ok.injEq, Prod.mk.injEq] at h3
      obtain ⟨rfl, rfl⟩ := h3
      rw [rspan_iff hB] at h1
      rw [rspansA_iff hB mb k _ q1 l' q2 h1.2.len.2] at h2
      obtain ⟨⟨h3, h4, h5⟩, h6⟩ := h1
      obtain ⟨⟨g1, g2, g3, g4⟩, g5⟩ := h2
      refine ⟨⟨by simp [g1], ?_, ⟨?_, ?_⟩, ?_⟩, ?_⟩
      · intro y hy
        rcases List.mem_cons.1 hy with rfl | hy
        · exact h3
        · have := g2 y hy; omega
      · intro y hy
        rcases List.mem_cons.1 hy with rfl | hy
        · exact h4
        · exact g3.ok y hy
      · refine List.pairwise_cons.2 ⟨fun y hy => ?_, g3.up⟩
        have := g2 y hy
        have := (g3.ok y hy).n0
        omega
      · intro y hy
        rcases List.mem_cons.1 hy with rfl | hy
        · exact h5
        · exact g4 y hy
      · rw [List.flatMap_cons, St_app]; exact ⟨q1, h6, g5⟩
    · rintro ⟨⟨h1, h2, h3, h4⟩, h5⟩
      cases l with
      | nil => simp at h1
      | cons x l =>
        rw [List.flatMap_cons, St_app] at h5
        obtain ⟨q1, h5, h6⟩ := h5
        refine ⟨x, q1, (rspan_iff hB _ _ _ _ _).2 ⟨⟨h2 x (by simp), h3.ok x (by simp), h4 x (by simp)⟩, h5⟩, ?_⟩
        rw [rb_iff]
        refine ⟨l, q', (rspansA_iff hB mb k _ q1 l q' h5.len.2).2 ⟨⟨by simpa using h1, fun y hy => ?_, h3.tail, fun y hy => h4 y (List.mem_cons_of_mem _ hy)⟩, h6⟩, rfl⟩
        have a := (List.pairwise_cons.1 h3.up).1 y hy
        have b := (h3.ok x (by simp)).n0
        omega
/-- a set has at most eight spans -/
theorem OkL.len8 : ∀ {l : List S} (k : Int), OkL 64 l → (∀ x ∈ l, k ≤ x.n) → k ≤ 8 → (l.length : Int) ≤ 8 - k
  | [], k, h, hk, h8 => by simp; omega
  | x :: l, k, h, hk, h8 => by
    have a := hk x (by simp)
    have b := (h.ok x (by simp)).n8
    have := OkL.len8 (l := l) (x.n + 1) h.tail (fun y hy => by have := (List.pairwise_cons.1 h.up).1 y hy; omega) (by omega)
    simp only [List.length_cons]
    omega
theorem OkL.le8 {l : List S} (h : OkL 64 l) : l.length ≤ 8 := by
  have := OkL.len8 (l := l) 0 h (fun x hx => (h.ok x hx).n0) (by omega)
  omega
theorem rspans_iff {B : List Nat} (hB : ∀ b ∈ B, b < 256) (q mb : Nat) (l : List S) (q' : Nat) : rspans B q mb = .ok (l, q') ↔ (OkL 64 l ∧ ∀ x ∈ l, x.t ≤ mb) ∧ St B q (encSet l) q' := by
  unfold rspans encSet
  rw [rb_iff, St_app]
  constructor
  · rintro ⟨k, q1, h1, h2⟩
    rw [rbound_iff hB _ _ _ _ _ (by omega)] at h1
    rw [rspansA_iff hB mb k 0 q1 l q' h1.2.len.2] at h2
    obtain ⟨⟨rfl, h3, h4, h5⟩, h6⟩ := h2
    exact ⟨⟨h4, h5⟩, q1, h1.2, h6⟩
  · rintro ⟨⟨h1, h2⟩, q1, h3, h4⟩
    refine ⟨l.length, q1, (rbound_iff hB _ _ _ _ _ (by omega)).2 ⟨⟨by omega, h1.le8⟩, h3⟩, ?_⟩
    exact (rspansA_iff hB mb _ 0 q1 l q' h3.len.2).2 ⟨⟨rfl, by simp, h1, h2⟩, h4⟩
theorem rset_iff {B : List Nat} (hB : ∀ b ∈ B, b < 256) (q : Nat) (l : List S) (q' : Nat) : rset B q = .ok (l, q') ↔ OkL 64 l ∧ St B q (encSet l) q' := by
  unfold rset
  rw [rspans_iff hB]
  constructor
  · rintro ⟨⟨h1, _⟩, h2⟩; exact ⟨h1, h2⟩
  · rintro ⟨h1, h2⟩; exact ⟨⟨h1, fun x hx => by have := (h1.ok x hx).t64; omega⟩, h2⟩
theorem rbases_iff {B : List Nat} (hB : ∀ b ∈ B, b < 256) (q : Nat) (l : List S) (q' : Nat) : rbases B q = .ok (l, q') ↔ (OkL 64 l ∧ ∀ x ∈ l, x.t = 0) ∧ St B q (encSet l) q' := by
  unfold rbases
  rw [rspans_iff hB]
  simp
end Go.Proofs.YtddffdcjhleejaaGreat.ds
namespace Go.Proofs.YtddffdcjhleejaaGreat.ds
open Go.ChangeShapes Go.WideShapes Go.ChangeAt Go.RowKit Go.Sort
set_option linter.unusedVariables false
set_option linter.unusedSimpArgs false
/-- bytes that are being written -/
structure Bf (wB w : World) (s : Sl) (us : List Nat) : Prop where
  nw : Nw wB w 5 1 s (byts us)
  len : s.n = us.length
theorem Bf.kept {wB w w' : World} {s : Sl} {us : List Nat} (h : Bf wB w s us) (a : Apart [] w w') : Bf wB w' s us := ⟨h.nw.kept a, h.len⟩
theorem Bf.nil {wB w : World} (a : Apart [] wB w) : Bf wB w ⟨none, 0, 0⟩ [] := ⟨⟨World.ownsRow_nil _ _ _ _, by simp [Sl.v, Value.ownBlock], a⟩, rfl⟩
/-- what writing does to memory: the old row, and new ones -/
structure Gw (w w' : World) (s s' : Sl) : Prop where
  ap : Apart s.v.ownBlock.toList w w'
  new : ∀ k, s'.v.ownBlock = some k → s.v.ownBlock = some k ∨ w.heap.size ≤ k
theorem Gw.trans {w w1 w2 : World} {s s1 s2 : Sl} (h : Gw w w1 s s1) (k : Gw w1 w2 s1 s2) : Gw w w2 s s2 := by
  refine ⟨h.ap.trans' k.ap (fun y hy => ?_), fun y hy => ?_⟩
  · simp at hy
    rcases h.new y hy with h1 | h1
    · left; simpa using h1
    · exact .inr h1
  · rcases k.new y hy with h1 | h1
    · exact h.new y h1
    · right; have := h.ap.size; omega
theorem Gw.of {w w' : World} {s : Sl} (a : Apart [] w w') : Gw w w' s s := ⟨a.mono (by simp), fun k hk => .inl hk⟩
theorem Gw.refl (w : World) (s : Sl) : Gw w w s s := Gw.of (Apart.refl _ _)
/-- blocks of another kind stay -/
theorem Gw.block {wB w w' : World} {s s' : Sl} {us : List Nat} (h : Gw w w' s s') (b : Bf wB w s us) {X : Nat} {cur : Array Value} {t : TypeId} (hX : w.heap[X]? = some (.cells cur t (0, 0))) (ht : t ≠ 5) : w'.heap[X]? = some (.cells cur t (0, 0)) := by
  refine (h.ap.block X (lt_of_heap hX) (fun hm => ?_)).trans hX
  obtain ⟨cu, hc⟩ := own_typ b.nw.own (k := X) (by simpa using hm)
  rw [hX] at hc
  simp at hc
  exact ht hc.2
structure AP (wB w : World) (s : Sl) (us : List Nat) (e : Ending) (w' : World) : Prop where
  ex : ∃ s' : Sl, e = .returned (.slice s'.p s'.n s'.c) ∧ Bf wB w' s' us ∧ Gw w w' s s'
theorem byts_app (a b : List Nat) : byts (a ++ b) = byts a ++ byts b := by simp [byts]
/-- one byte more -/
theorem app_byte {wB w : World} {s : Sl} {us : List Nat} (h : Bf wB w s us) (x : Nat) (hl : us.length + 1 ≤ 1099511627776) :
    ∃ s' W', (Builtin.append_ #[30, 30] 30 #[.slice s.p s.n s.c, .slice (some ⟨w.heap.size, 0, none⟩) 1 1]).run Tryz.prog (w.alloc (Obj.cells #[.int .u8 (x : Int)] 5)) = .ok (.slice s'.p s'.n s'.c) W' ∧ Bf wB W' s' (us ++ [x]) ∧ Gw w W' s s' := by
  obtain ⟨i0, hif, hz0, hz1, hz2⟩ := info_parts infoB
  have hlen := h.len
  obtain ⟨s5, w5, hrun, hnw5, hs5, ap5, k5, hk5, -, hk6⟩ := run_appM (s := s) 30 30 5 i0 _ 1 1 Tryz.underlying30 hif hz0 hz1 hz2 rfl (by decide) h.nw 1 [.int .u8 (x : Int)] (by decide) rfl (fun u hu => by simp at hu; subst hu; rfl) (by unfold maxLen; omega) (by omega)
  refine ⟨s5, w5, hrun, ⟨by rw [byts_app]; exact hnw5, by simp; omega⟩, ap5, fun k hk => ?_⟩
  have e1 : k5 = k := by unfold Sl.v at hk; rw [hk5] at hk; simpa [Value.ownBlock] using hk
  rw [← e1]; exact hk6
/-- a text more -/
theorem strCells_bsk (k : ByteArray) : Lib.strCells k = byts (k.toList.map UInt8.toNat) := by
  simp [Lib.strCells, byts, ByteArray.toList_eq]
theorem app_str {wB w : World} {s : Sl} {us : List Nat} (h : Bf wB w s us) (k : ByteArray) (hl : us.length + k.size ≤ 1099511627776) :
    ∃ s' W', (Builtin.append_ #[30, 9] 30 #[.slice s.p s.n s.c, .string k]).run Tryz.prog w = .ok (.slice s'.p s'.n s'.c) W' ∧ Bf wB W' s' (us ++ k.toList.map UInt8.toNat) ∧ Gw w W' s s' := by
  obtain ⟨i0, hif, hz0, hz1, hz2⟩ := info_parts infoB
  have hlen := h.len
  have hb : wB.heap.size ≤ w.heap.size := h.nw.ap.size
  have hown : w.ownsRow wB.heap.size 5 1 s.v s.n (byts us) := by
    obtain ⟨h1, h2 | ⟨g, cap, cur, hv, _, h4⟩⟩ := h.nw.own
    · exact ⟨h1, .inl h2⟩
    · exact ⟨h1, .inr ⟨g, cap, cur, hv, h.nw.new g (by rw [hv]; rfl), h4⟩⟩
  obtain ⟨v', w', hrun, r1, r2, r3⟩ := Lib.run_append_own_string (P := Tryz.prog) (w := w) wB.heap.size 30 9 30 5 i0 Tryz.underlying30 Tryz.underlying9 hif hz0 hz1 hz2 s.v s.n (byts us) hown k (by unfold maxLen; omega) (by omega) hb
  have hkl : (k.toList.map UInt8.toNat).length = k.size := by rw [List.length_map, ByteArray.toList_eq, Array.length_toList]; rfl
  have ap : Apart s.v.ownBlock.toList w w' := apart_grown r2
  obtain ⟨s', rfl, hs'⟩ : ∃ s' : Sl, v' = s'.v ∧ s'.n = s.n + k.size := by
    obtain ⟨_, ⟨hv, hz⟩ | ⟨g, cap, cur, hv, _⟩⟩ := r1
    · exact ⟨⟨none, 0, 0⟩, hv, hz.symm⟩
    · exact ⟨⟨some ⟨g, 0, none⟩, s.n + k.size, cap⟩, hv, rfl⟩
  rw [strCells_bsk, ← byts_app] at r1
  have hnewb : ∀ b, s'.v.ownBlock = some b → wB.heap.size ≤ b := fun b hb => (r1.lt b hb).1
  refine ⟨s', w', hrun, ⟨⟨by rw [hs']; exact own_base r1 (Nat.zero_le _), hnewb, h.nw.ap.trans' ap (fun y hy => .inr (h.nw.new y (by simpa using hy)))⟩, by rw [hs', List.length_append, hkl]; omega⟩, ap, fun b hb => ?_⟩
  have hxl : (byts us).length = s.n := by simpa using h.nw.own.1
  rcases h.nw.own.2 with ⟨hv, hz⟩ | ⟨g, cap, cur, hv, _, hg, hle, hcm, hcs, htake⟩
  · by_cases hk0 : k.size = 0
    · have := r3.2 ⟨hv, hk0⟩
      rw [this] at hb; simp [Value.ownBlock] at hb
    · have hr := run_append_nil_string (P := Tryz.prog) w 30 9 30 5 i0 (.int .u8 0) Tryz.underlying30 Tryz.underlying9 hif hz0 k (by omega) (by omega) (by rw [hz2]; omega)
      rw [hv, hr] at hrun
      simp only [Result.ok.injEq] at hrun
      rw [← hrun.1] at hb
      simp [Value.ownBlock] at hb
      right; omega
  · by_cases hroom : s.n + k.size ≤ cap
    · have hr := Lib.run_append_room_string (P := Tryz.prog) w 30 9 30 5 i0 Tryz.underlying30 Tryz.underlying9 hif hz1 g s.n cap cur hg k hroom (by omega)
      rw [hv, hr] at hrun
      simp only [Result.ok.injEq] at hrun
      rw [← hrun.1] at hb
      left; rw [hv]; exact hb
    · have hr := Lib.run_append_grow_string (P := Tryz.prog) w 30 9 30 5 i0 (.int .u8 0) Tryz.underlying30 Tryz.underlying9 hif hz0 ⟨g, 0, none⟩ s.n cap (byts us) (by rw [hz1]; omega) (h.nw.own.cells (g := g) (by rw [hv]; rfl)) k (by omega) (by omega) (by rw [hz2]; exact growslice_fits (by omega) (by omega))
      rw [hv, hr] at hrun
      simp only [Result.ok.injEq] at hrun
      rw [← hrun.1] at hb
      simp [Value.ownBlock] at hb
      right; omega
/-- a number is written -/
theorem enc_pos (n : Nat) : 1 ≤ (enc n).length := by
  by_cases h : n < 128
  · rw [enc_small h]; simp
  · rw [enc_big h]; simp
set_option maxHeartbeats 4000000 in
set_option maxRecDepth 100000 in
theorem anumber_ok {wB w : World} {s : Sl} {us : List Nat} (h : Bf wB w s us) (n : Nat) (hn : n < 18446744073709551616) (hl : us.length + (enc n).length ≤ 1099511627776) :
    Calls Tryz.prog 73 #[.slice s.p s.n s.c, .int .u64 (n : Nat)] w fun e w' => AP wB w s (us ++ enc n) e w' := by
  have HB := hid h
  have HL := hid hl
  clear h hl
  go_enter Tryz.func73, Tryz.ntmps73
  go_wp2_with fail
  go_loopw [0, 1] (fun a b wt => ∃ (m : Nat) (s1 : Sl) (us1 : List Nat), a = .slice s1.p s1.n s1.c ∧ b = .int .u64 (m : Nat) ∧ m < 18446744073709551616 ∧ Bf wB wt s1 us1 ∧ Gw w wt s s1 ∧ us1 ++ enc m = us ++ enc n) (fun _ b _ => (intOf b).toNat)
  case atStart => exact ⟨n, s, us, rfl, rfl, hn, HB.out, Gw.refl _ _, rfl⟩
  case round =>
    obtain ⟨m, s1, us1, rfl, rfl, hm, hb, hg, heq⟩ := hrel
    have HB1 := hid hb
    have HG1 := hid hg
    have HEQ := hid heq
    have HLL : Hid (us1.length + (enc m).length ≤ 1099511627776) := by unfold Hid; have := congrArg List.length heq; simp only [List.length_append] at this; have := HL.out; omega
    clear hb hg heq
    by_cases h128 : m < 128
    · have h1 : ¬ ((m : Nat) : Int) ≥ 128 := by omega
      have hw5 : IntKind.u8.wrap (m : Int) = (m : Int) := by rw [IntKind.wrap_u8]; omega
      obtain ⟨s2, w2, hrun, hb2, hg2⟩ := app_byte HB1.out m (by have := HLL.out; have := enc_pos m; omega)
      have HRUN := hid hrun
      have HB2 : Hid (Bf wB w2 s2 (us ++ enc n)) := by unfold Hid; rw [← HEQ.out, enc_small h128]; exact hb2
      have HG2 : Hid (Gw w w2 s s2) := HG1.out.trans hg2
      clear hrun hb2 hg2
      go_wp2_with (at_builtin; refine wpList_app2 rfl (.tmp 16) (.tmp 19) 30 30 rfl _ _ rfl rfl _ _ HRUN.out ?_)
      go_ret
      exact ⟨s2, rfl, HB2.out, HG2.out⟩
    · have h1 : ((m : Nat) : Int) ≥ 128 := by omega
      have hw5 : IntKind.u8.wrap ((m : Int) % 128 + 128) = ((m % 128 + 128 : Nat) : Int) := by rw [IntKind.wrap_u8]; omega
      obtain ⟨s2, w2, hrun, hb2, hg2⟩ := app_byte HB1.out (m % 128 + 128) (by have := HLL.out; have := enc_pos m; omega)
      have HRUN := hid hrun
      have HB2 : Hid (Bf wB w2 s2 (us1 ++ [m % 128 + 128])) := hb2
      have HG2 : Hid (Gw w w2 s s2) := HG1.out.trans hg2
      have HEQ2 : Hid ((us1 ++ [m % 128 + 128]) ++ enc (m / 128) = us ++ enc n) := by unfold Hid; rw [← HEQ.out, enc_big h128]; simp
      clear hrun hb2 hg2
      go_wp2_with (at_builtin; refine wpList_app2 rfl (.tmp 7) (.tmp 12) 30 30 rfl _ _ rfl rfl _ _ HRUN.out ?_)
      go_roundw
      case rel => exact ⟨m / 128, s2, us1 ++ [m % 128 + 128], rfl, by go_num, by omega, HB2.out, HG2.out, HEQ2.out⟩
      case measure => simp [intOf]; omega
end Go.Proofs.YtddffdcjhleejaaGreat.ds
