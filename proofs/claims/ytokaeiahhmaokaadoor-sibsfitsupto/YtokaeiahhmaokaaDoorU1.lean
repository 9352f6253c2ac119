import Derived.Lib.TrailingZeros

namespace Go.Proofs.YtokaeiahhmaokaaDoor.ds
set_option linter.unusedVariables false
set_option linter.unusedSimpArgs false
/-- a span: node, base, bits -/
structure S where
  n : Int
  b : Int
  t : Nat
deriving DecidableEq, Inhabited
def bl (t : Nat) : Nat := if t = 0 then 0 else t.log2 + 1
/-- a count of a span -/
def dot (x : S) (c : Int) : Bool := decide (c ≤ x.b) || x.t.testBit (c - x.b - 1).toNat
def none0 (n : Int) : S := ⟨n, 0, 0⟩
/-- a span for a gap -/
structure Ok (gap : Int) (x : S) : Prop where
  n0 : 0 ≤ x.n
  n8 : x.n < 8
  b0 : 0 ≤ x.b
  bM : x.b ≤ 1048576
  ne : ¬ (x.b = 0 ∧ x.t = 0)
  ev : x.t % 2 = 0
  gp : (bl x.t : Int) ≤ gap
  mx : x.b + bl x.t ≤ 1048576
/-- base not below nothing, bit 0 clear, 64 bits -/
structure Wf (x : S) : Prop where
  b0 : 0 ≤ x.b
  ev : x.t % 2 = 0
  lt : x.t < 2 ^ 64
theorem bl_le {t k : Nat} : bl t ≤ k ↔ t < 2 ^ k := by
  unfold bl
  split
  · subst_vars; simp [Nat.two_pow_pos]
  · rename_i h
    rw [← Nat.log2_lt h]; omega
theorem bl_le' {t k : Nat} : bl t ≤ k ↔ ∀ i, k ≤ i → t.testBit i = false := by
  rw [bl_le]
  constructor
  · intro h i hi
    exact Nat.testBit_lt_two_pow (Nat.lt_of_lt_of_le h (Nat.pow_le_pow_right (by omega) hi))
  · intro h
    exact Nat.lt_pow_two_of_testBit _ h
theorem Ok.wf {gap : Int} {x : S} (h : Ok gap x) (hg : gap ≤ 64) : Wf x := ⟨h.b0, h.ev, bl_le.1 (by have := h.gp; omega)⟩
theorem wf_none (n : Int) : Wf (none0 n) := ⟨Int.le_refl _, rfl, by show 0 < 2 ^ 64; decide⟩
theorem dot_none (n c : Int) (h : 1 ≤ c) : dot (none0 n) c = false := by
  have : decide (c ≤ 0) = false := decide_eq_false (by omega)
  show (decide (c ≤ 0) || Nat.testBit 0 _) = false
  rw [this, Nat.zero_testBit]; rfl
theorem ev_bit {t : Nat} : t % 2 = 0 ↔ t.testBit 0 = false := by
  rw [Nat.testBit_zero]; simp
theorem dot_next {x : S} (h : Wf x) : dot x (x.b + 1) = false := by
  have := ev_bit.1 h.ev
  simp [dot, show x.b + 1 - x.b - 1 = 0 by omega, this]
  omega
theorem dot_bit (x : S) (i : Nat) : dot x (x.b + 1 + i) = x.t.testBit i := by
  have : (x.b + 1 + i - x.b - 1).toNat = i := by omega
  rw [dot, this]
  simp
  omega
theorem dot_low {x : S} {c : Int} (h : c ≤ x.b) : dot x c = true := by simp [dot, h]
theorem ext {x y : S} (hn : x.n = y.n) (hx : Wf x) (hy : Wf y) (h : ∀ c, 1 ≤ c → dot x c = dot y c) : x = y := by
  have hb : x.b = y.b := by
    rcases Int.lt_trichotomy x.b y.b with l | l | l
    · have := h (x.b + 1) (by have := hx.b0; omega)
      rw [dot_next hx, dot_low (by omega)] at this; cases this
    · exact l
    · have := h (y.b + 1) (by have := hy.b0; omega)
      rw [dot_next hy, dot_low (by omega)] at this; cases this
  have ht : x.t = y.t := by
    apply Nat.eq_of_testBit_eq
    intro i
    rw [← dot_bit, ← dot_bit, hb]
    exact h _ (by have := hy.b0; omega)
  cases x; cases y; simp_all
/-- how far the ones go on from bit 0 -/
def tz1 (t : Nat) : Nat → Nat
  | 0 => 0
  | f + 1 => if t % 2 = 0 then 0 else 1 + tz1 (t / 2) f
theorem tz1_le (f : Nat) : ∀ t, tz1 t f ≤ f := by
  induction f with
  | zero => intro t; exact Nat.le_refl _
  | succ f ih => intro t; unfold tz1; split; omega; have := ih (t / 2); omega
theorem tz1_ones (f : Nat) : ∀ t i, i < tz1 t f → t.testBit i = true := by
  induction f with
  | zero => intro t i h; simp [tz1] at h
  | succ f ih =>
    intro t i h
    unfold tz1 at h
    split at h
    · omega
    · match i with
      | 0 => rw [Nat.testBit_zero]; simp; omega
      | i + 1 => rw [Nat.testBit_succ]; exact ih _ _ (by omega)
theorem tz1_stop (f : Nat) : ∀ t, tz1 t f < f → t.testBit (tz1 t f) = false := by
  induction f with
  | zero => intro t h; omega
  | succ f ih =>
    intro t h
    unfold tz1 at h ⊢
    split
    · rename_i h0; exact ev_bit.1 h0
    · rename_i h0
      rw [if_neg h0] at h
      rw [Nat.add_comm, Nat.testBit_succ]; exact ih _ (by omega)
/-- the base over the counts that follow on it -/
def settle (x : S) : S := ⟨x.n, x.b + tz1 x.t 64, x.t >>> tz1 x.t 64⟩
theorem settle_wf {x : S} (h0 : 0 ≤ x.b) (hl : x.t < 2 ^ 64) : Wf (settle x) := by
  refine ⟨by show 0 ≤ x.b + _; omega, ?_, ?_⟩
  · rw [ev_bit]
    show (x.t >>> tz1 x.t 64).testBit 0 = false
    rw [Nat.testBit_shiftRight, Nat.add_zero]
    by_cases h : tz1 x.t 64 < 64
    · exact tz1_stop 64 _ h
    · exact Nat.testBit_lt_two_pow (Nat.lt_of_lt_of_le hl (Nat.pow_le_pow_right (by omega) (by omega)))
  · show x.t >>> _ < 2 ^ 64
    rw [Nat.shiftRight_eq_div_pow]
    exact Nat.lt_of_le_of_lt (Nat.div_le_self _ _) hl
theorem settle_dot (x : S) (c : Int) : dot (settle x) c = dot x c := by
  show (decide (c ≤ x.b + tz1 x.t 64) || (x.t >>> tz1 x.t 64).testBit (c - (x.b + tz1 x.t 64) - 1).toNat) = (decide (c ≤ x.b) || x.t.testBit (c - x.b - 1).toNat)
  rw [Nat.testBit_shiftRight]
  by_cases h1 : c ≤ x.b
  · simp [h1, show c ≤ x.b + tz1 x.t 64 by omega]
  · by_cases h2 : c ≤ x.b + tz1 x.t 64
    · have := tz1_ones 64 x.t (c - x.b - 1).toNat (by omega)
      rw [this, decide_eq_true h2]; simp
    · have : tz1 x.t 64 + (c - (x.b + tz1 x.t 64) - 1).toNat = (c - x.b - 1).toNat := by omega
      rw [this]
      simp [h1, h2]
/-- the counts of both -/
def join (x y : S) : S := if x.b < y.b then settle ⟨y.n, y.b, y.t ||| (x.t >>> (y.b - x.b).toNat)⟩ else settle ⟨x.n, x.b, x.t ||| (y.t >>> (x.b - y.b).toNat)⟩
theorem shr_lt {t k : Nat} (h : t < 2 ^ 64) : t >>> k < 2 ^ 64 := by
  rw [Nat.shiftRight_eq_div_pow]; exact Nat.lt_of_le_of_lt (Nat.div_le_self _ _) h
theorem join_wf {x y : S} (hx : Wf x) (hy : Wf y) : Wf (join x y) := by
  unfold join
  split
  · exact settle_wf hy.b0 (Nat.or_lt_two_pow hy.lt (shr_lt hx.lt))
  · exact settle_wf hx.b0 (Nat.or_lt_two_pow hx.lt (shr_lt hy.lt))
theorem join_n {x y : S} (h : x.n = y.n) : (join x y).n = x.n := by unfold join; split <;> simp [settle, h]
theorem or_dot (n : Int) (b a : Int) (t u : Nat) (h : a ≤ b) (c : Int) : dot ⟨n, b, t ||| (u >>> (b - a).toNat)⟩ c = (dot ⟨n, b, t⟩ c || dot ⟨n, a, u⟩ c) := by
  simp only [dot, Nat.testBit_or, Nat.testBit_shiftRight]
  by_cases h1 : c ≤ b
  · simp [h1]
  · have e : (b - a).toNat + (c - b - 1).toNat = (c - a - 1).toNat := by omega
    rw [e]
    simp [h1, show ¬ c ≤ a by omega]
theorem join_dot {x y : S} (c : Int) : dot (join x y) c = (dot x c || dot y c) := by
  unfold join
  split
  · rw [settle_dot, or_dot _ _ _ _ _ (by omega), Bool.or_comm]; rfl
  · rw [settle_dot, or_dot _ _ _ _ _ (by omega)]; rfl
/-- all counts of x are y's -/
def Sub (x y : S) : Prop := ∀ c, 1 ≤ c → dot x c = true → dot y c = true
theorem join_eq_iff {x y : S} (hn : x.n = y.n) (hx : Wf x) (hy : Wf y) : join x y = y ↔ Sub x y := by
  constructor
  · intro h c hc hd
    have := join_dot (x := x) (y := y) c
    rw [h, hd] at this; simpa using this
  · intro h
    refine ext ((join_n hn).trans hn) (join_wf hx hy) hy fun c hc => ?_
    rw [join_dot]
    have := h c hc
    cases h1 : dot x c <;> simp_all
/-- the greatest count -/
def top (x : S) : Int := x.b + bl x.t
theorem top_le {x : S} {M : Int} (hM : x.b ≤ M) : top x ≤ M ↔ ∀ c, M < c → dot x c = false := by
  unfold top
  constructor
  · intro h c hc
    have h1 := (bl_le' (t := x.t) (k := (M - x.b).toNat)).1 (by omega) (c - x.b - 1).toNat (by omega)
    rw [dot, h1]; simp; omega
  · intro h
    have := (bl_le' (t := x.t) (k := (M - x.b).toNat)).2 (fun i hi => by have := h (x.b + 1 + i) (by omega); rwa [dot_bit] at this)
    omega
theorem base_le_top (x : S) : x.b ≤ top x := by unfold top; omega
/-- a join is a span for the gap -/
theorem join_top {x y : S} (hx : Wf x) (hy : Wf y) : top (join x y) ≤ max (top x) (top y) := by
  have hb : (join x y).b ≤ max (top x) (top y) := by
    by_cases h : (join x y).b ≤ max (top x) (top y)
    · exact h
    · have hd : dot (join x y) (join x y).b = true := dot_low (by omega)
      rw [join_dot] at hd
      have h1 := (top_le (base_le_top x)).1 (Int.le_refl _) (join x y).b (by omega)
      have h2 := (top_le (base_le_top y)).1 (Int.le_refl _) (join x y).b (by omega)
      simp [h1, h2] at hd
  rw [top_le hb]
  intro c hc
  rw [join_dot, (top_le (base_le_top x)).1 (Int.le_refl _) c (by omega), (top_le (base_le_top y)).1 (Int.le_refl _) c (by omega)]; rfl
theorem join_base {x y : S} : x.b ≤ (join x y).b ∧ y.b ≤ (join x y).b := by
  unfold join
  split <;> simp only [settle] <;> constructor <;> omega
/-- a span for the gap, or nothing -/
structure Okn (gap : Int) (n : Int) (x : S) : Prop where
  n : x.n = n
  wf : Wf x
  gp : (bl x.t : Int) ≤ gap
  mx : top x ≤ 1048576
theorem Okn.ok {gap n : Int} {x : S} (h : Okn gap n x) (h0 : 0 ≤ n) (h8 : n < 8) (hne : x ≠ none0 n) : Ok gap x :=
  ⟨by have := h.n; omega, by have := h.n; omega, h.wf.b0, by have := h.mx; unfold top at this; omega, fun ⟨e1, e2⟩ => hne (by have := h.n; cases x; simp_all [none0]), h.wf.ev, h.gp, h.mx⟩
theorem Ok.okn {gap : Int} {x : S} (h : Ok gap x) (hg : gap ≤ 64) : Okn gap x.n x := ⟨rfl, h.wf hg, h.gp, h.mx⟩
theorem okn_none (gap n : Int) (hg : 0 ≤ gap) : Okn gap n (none0 n) := ⟨rfl, wf_none n, by simpa [none0, bl] using hg, by simp [top, none0, bl]⟩
theorem join_okn {gap n : Int} {x y : S} (hx : Okn gap n x) (hy : Okn gap n y) : Okn gap n (join x y) := by
  have h1 := join_top hx.wf hy.wf
  have h2 := join_base (x := x) (y := y)
  have := hx.gp; have := hy.gp; have := hx.mx; have := hy.mx
  refine ⟨(join_n (hx.n.trans hy.n.symm)).trans hx.n, join_wf hx.wf hy.wf, ?_, by omega⟩
  unfold top at *; omega
/-- a count more -/
def withc (x : S) (c : Int) : S := if c ≤ x.b then x else settle ⟨x.n, x.b, x.t ||| 2 ^ (c - x.b - 1).toNat⟩
theorem withc_n (x : S) (c : Int) : (withc x c).n = x.n := by unfold withc; split <;> rfl
theorem withc_dot {x : S} {c : Int} (hc : 1 ≤ c) (e : Int) (he : 1 ≤ e) : dot (withc x c) e = (dot x e || decide (e = c)) := by
  unfold withc
  split
  · rename_i h
    by_cases h1 : e = c
    · subst h1; simp [dot, h]
    · simp [h1]
  · rename_i h
    rw [settle_dot]
    simp only [dot, Nat.testBit_or, Nat.testBit_two_pow]
    by_cases h1 : e ≤ x.b
    · simp [h1]
    · have : decide ((c - x.b - 1).toNat = (e - x.b - 1).toNat) = decide (e = c) := by
        rw [decide_eq_decide]; omega
      rw [this]; simp [h1]
theorem withc_wf {x : S} {c : Int} (hx : Wf x) (hc : c ≤ x.b + 64) : Wf (withc x c) := by
  unfold withc
  split
  · exact hx
  · exact settle_wf hx.b0 (Nat.or_lt_two_pow hx.lt (Nat.pow_lt_pow_right (by omega) (by omega)))
theorem withc_base {x : S} {c : Int} : x.b ≤ (withc x c).b := by unfold withc; split; omega; simp only [settle]; omega
theorem withc_top {x : S} {c M : Int} (hc : 1 ≤ c) (hM : top x ≤ M) (hcM : c ≤ M) (h0 : 0 ≤ x.b) : top (withc x c) ≤ M := by
  have hb0 := withc_base (x := x) (c := c)
  have hbx := base_le_top x
  have hb : (withc x c).b ≤ M := by
    by_cases h : (withc x c).b ≤ M
    · exact h
    · have hd : dot (withc x c) (withc x c).b = true := dot_low (by omega)
      rw [withc_dot hc _ (by omega), (top_le (base_le_top x)).1 (Int.le_refl _) _ (by omega)] at hd
      simp at hd; omega
  rw [top_le hb]
  intro e he
  rw [withc_dot hc _ (by omega), (top_le (base_le_top x)).1 (Int.le_refl _) _ (by omega)]
  simp; omega
theorem withc_okn {gap n c : Int} {x : S} (hx : Okn gap n x) (hg : gap ≤ 64) (hc : 1 ≤ c) (hM : c ≤ 1048576) (hcg : c ≤ x.b + gap) : Okn gap n (withc x c) := by
  have h2 := withc_base (x := x) (c := c)
  have h1 := withc_top (M := x.b + gap) hc (by have := hx.gp; unfold top; omega) hcg hx.wf.b0
  refine ⟨(withc_n x c).trans hx.n, withc_wf hx.wf (by omega), by unfold top at h1; omega, withc_top hc hx.mx hM hx.wf.b0⟩
/-- so many of the first M -/
def nd (p : Nat → Bool) : Nat → Nat
  | 0 => 0
  | M + 1 => nd p M + (p M).toNat
theorem nd_congr {p q : Nat → Bool} : ∀ M, (∀ i, i < M → p i = q i) → nd p M = nd q M
  | 0, _ => rfl
  | M + 1, h => by simp only [nd, nd_congr M (fun i hi => h i (by omega)), h M (by omega)]
theorem nd_add (p : Nat → Bool) (a : Nat) : ∀ k, nd p (a + k) = nd p a + nd (fun i => p (a + i)) k
  | 0 => rfl
  | k + 1 => by rw [← Nat.add_assoc]; simp only [nd, nd_add p a k]; omega
theorem nd_all {p : Nat → Bool} : ∀ M, (∀ i, i < M → p i = true) → nd p M = M
  | 0, _ => rfl
  | M + 1, h => by simp only [nd, nd_all M (fun i hi => h i (by omega)), h M (by omega)]; rfl
theorem nd_none {p : Nat → Bool} : ∀ M, (∀ i, i < M → p i = false) → nd p M = 0
  | 0, _ => rfl
  | M + 1, h => by simp only [nd, nd_none M (fun i hi => h i (by omega)), h M (by omega)]; rfl
/-- how many counts -/
def cnt (x : S) : Nat := x.b.toNat + nd x.t.testBit 64
theorem cnt_nd {x : S} (h : Wf x) (M : Nat) (hM : x.b.toNat + 64 ≤ M) : cnt x = nd (fun i => dot x (i + 1)) M := by
  obtain ⟨k, rfl⟩ : ∃ k, M = x.b.toNat + (64 + k) := ⟨M - x.b.toNat - 64, by omega⟩
  have h0 := h.b0
  rw [nd_add, nd_add, nd_all, nd_none (p := fun i => dot x (((x.b.toNat + (64 + i) : Nat) : Int) + 1)), Nat.add_zero, cnt]
  · congr 1
    refine nd_congr _ fun i hi => ?_
    rw [← dot_bit]
    congr 1; omega
  · intro i hi
    have := dot_bit x (64 + i)
    have e : (((x.b.toNat + (64 + i) : Nat) : Int) + 1) = x.b + 1 + ((64 + i : Nat) : Int) := by omega
    rw [e, this]
    exact Nat.testBit_lt_two_pow (Nat.lt_of_lt_of_le h.lt (Nat.pow_le_pow_right (by omega) (by omega)))
  · intro i hi
    exact dot_low (by omega)
end Go.Proofs.YtokaeiahhmaokaaDoor.ds
namespace Go.Proofs.YtokaeiahhmaokaaDoor.ds
set_option linter.unusedVariables false
set_option linter.unusedSimpArgs false
/-- a set for a gap -/
structure OkL (gap : Int) (s : List S) : Prop where
  ok : ∀ x ∈ s, Ok gap x
  up : s.Pairwise (fun x y => x.n < y.n)
theorem OkL.nil (gap : Int) : OkL gap [] := ⟨by simp, List.Pairwise.nil⟩
theorem OkL.tail {g : Int} {x : S} {s : List S} (h : OkL g (x :: s)) : OkL g s := ⟨fun y hy => h.ok y (List.mem_cons_of_mem _ hy), (List.pairwise_cons.1 h.up).2⟩
def ofn : List S → Int → S
  | [], n => none0 n
  | x :: l, n => if x.n = n then x else ofn l n
theorem ofn_n : ∀ (s : List S) (n : Int), (ofn s n).n = n
  | [], n => rfl
  | x :: l, n => by unfold ofn; split; assumption; exact ofn_n l n
theorem ofn_out : ∀ (s : List S) (n : Int), (∀ x ∈ s, x.n ≠ n) → ofn s n = none0 n
  | [], n, _ => rfl
  | x :: l, n, h => by rw [ofn, if_neg (h x List.mem_cons_self)]; exact ofn_out l n fun y hy => h y (List.mem_cons_of_mem _ hy)
theorem ofn_or : ∀ (s : List S) (n : Int), ofn s n = none0 n ∨ ofn s n ∈ s
  | [], n => .inl rfl
  | x :: l, n => by
    unfold ofn
    split
    · exact .inr List.mem_cons_self
    · rcases ofn_or l n with h | h
      · exact .inl h
      · exact .inr (List.mem_cons_of_mem _ h)
theorem ofn_mem {g : Int} : ∀ (s : List S), OkL g s → ∀ x ∈ s, ofn s x.n = x
  | y :: l, h, x, hx => by
    unfold ofn
    rcases List.mem_cons.1 hx with rfl | hx
    · rw [if_pos rfl]
    · have := (List.pairwise_cons.1 h.up).1 x hx
      rw [if_neg (by omega)]
      exact ofn_mem l h.tail x hx
theorem OkL.okn {g : Int} {s : List S} (h : OkL g s) (h0 : 0 ≤ g) (hg : g ≤ 64) (n : Int) : Okn g n (ofn s n) := by
  rcases ofn_or s n with e | e
  · rw [e]; exact okn_none g n h0
  · have := (h.ok _ e).okn hg
    rw [ofn_n] at this; exact this
theorem OkL.wf {g : Int} {s : List S} (h : OkL g s) (h0 : 0 ≤ g) (hg : g ≤ 64) (n : Int) : Wf (ofn s n) := (h.okn h0 hg n).wf
theorem okL_ext {g k : Int} : ∀ (s t : List S), OkL g s → OkL k t → (∀ n, 0 ≤ n → n < 8 → ofn s n = ofn t n) → s = t
  | [], [], _, _, _ => rfl
  | [], y :: t, _, ht, h => by
    have o := ht.ok y List.mem_cons_self
    have := h y.n o.n0 o.n8
    rw [ofn_mem _ ht y List.mem_cons_self] at this
    exact absurd ⟨by rw [← this]; rfl, by rw [← this]; rfl⟩ o.ne
  | x :: s, [], hs, _, h => by
    have o := hs.ok x List.mem_cons_self
    have := h x.n o.n0 o.n8
    rw [ofn_mem _ hs x List.mem_cons_self] at this
    exact absurd ⟨by rw [this]; rfl, by rw [this]; rfl⟩ o.ne
  | x :: s, y :: t, hs, ht, h => by
    have ox := hs.ok x List.mem_cons_self
    have oy := ht.ok y List.mem_cons_self
    have us := (List.pairwise_cons.1 hs.up).1
    have ut := (List.pairwise_cons.1 ht.up).1
    have hx := h x.n ox.n0 ox.n8
    have hy := h y.n oy.n0 oy.n8
    rw [ofn_mem _ hs x List.mem_cons_self] at hx
    rw [ofn_mem _ ht y List.mem_cons_self] at hy
    rcases Int.lt_trichotomy x.n y.n with l | l | l
    · rw [ofn_out (y :: t) x.n (fun z hz => by rcases List.mem_cons.1 hz with rfl | hz; omega; have := ut z hz; omega)] at hx
      exact absurd ⟨by rw [hx]; rfl, by rw [hx]; rfl⟩ ox.ne
    · have e : x = y := by
        rw [l] at hx
        rw [ofn_mem _ ht y List.mem_cons_self] at hx; exact hx
      subst e
      rw [okL_ext s t hs.tail ht.tail fun n h0 h8 => ?_]
      have hn := h n h0 h8
      unfold ofn at hn
      by_cases e : x.n = n
      · rw [ofn_out s n (fun z hz => by have := us z hz; omega), ofn_out t n (fun z hz => by have := ut z hz; omega)]
      · simpa [e] using hn
    · rw [ofn_out (x :: s) y.n (fun z hz => by rcases List.mem_cons.1 hz with rfl | hz; omega; have := us z hz; omega)] at hy
      exact absurd ⟨by rw [← hy]; rfl, by rw [← hy]; rfl⟩ oy.ne
/-- the spans of the first k nodes -/
def gath (F : Nat → S) : Nat → List S
  | 0 => []
  | k + 1 => gath F k ++ (if F k = none0 k then [] else [F k])
theorem gath_lt {F : Nat → S} (hn : ∀ k, (F k).n = k) : ∀ k, ∀ x ∈ gath F k, x.n < k ∧ ∃ j, j < k ∧ x = F j ∧ F j ≠ none0 j
  | 0, x, h => by simp [gath] at h
  | k + 1, x, h => by
    simp only [gath, List.mem_append] at h
    rcases h with h | h
    · obtain ⟨h1, j, h2, h3⟩ := gath_lt hn k x h
      exact ⟨by omega, j, by omega, h3⟩
    · split at h
      · simp at h
      · rename_i h0
        simp at h; subst h
        exact ⟨by rw [hn]; omega, k, by omega, rfl, h0⟩
theorem gath_ok {g : Int} {F : Nat → S} (hF : ∀ k : Nat, k < 8 → Okn g k (F k)) (hn : ∀ k, (F k).n = k) : ∀ k, k ≤ 8 → OkL g (gath F k)
  | 0, _ => OkL.nil g
  | k + 1, hk => by
    have ih := gath_ok hF hn k (by omega)
    refine ⟨?_, ?_⟩
    · intro x hx
      obtain ⟨_, j, hj, rfl, hne⟩ := gath_lt hn (k + 1) x hx
      exact (hF j (by omega)).ok (by omega) (by omega) hne
    · simp only [gath]
      rw [List.pairwise_append]
      refine ⟨ih.up, by split <;> simp, ?_⟩
      intro x hx y hy
      have := (gath_lt hn k x hx).1
      split at hy
      · simp at hy
      · simp at hy; subst hy; rw [hn]; exact this
theorem ofn_append (s t : List S) (n : Int) (h : ∀ x ∈ s, x.n ≠ n) : ofn (s ++ t) n = ofn t n := by
  induction s with
  | nil => rfl
  | cons x l ih => rw [List.cons_append, ofn, if_neg (h x List.mem_cons_self)]; exact ih fun y hy => h y (List.mem_cons_of_mem _ hy)
theorem ofn_append' (s t : List S) (n : Int) (h : ∀ x ∈ t, x.n ≠ n) : ofn (s ++ t) n = ofn s n := by
  induction s with
  | nil => exact ofn_out t n h
  | cons x l ih => rw [List.cons_append, ofn, ofn, ih]
theorem ofn_gath {F : Nat → S} (hn : ∀ k, (F k).n = k) (j : Nat) : ∀ k, ofn (gath F k) j = if j < k then F j else none0 j
  | 0 => rfl
  | k + 1 => by
    simp only [gath]
    by_cases h : j = k
    · subst h
      rw [ofn_append _ _ _ (fun x hx => by have := (gath_lt hn j x hx).1; omega), if_pos (Nat.lt_succ_self j)]
      split
      · rename_i h0; exact h0.symm
      · simp [ofn, hn]
    · rw [ofn_append' _ _ _ (fun x hx => by split at hx; simp at hx; simp at hx; subst hx; rw [hn]; omega), ofn_gath hn j k]
      by_cases h2 : j < k
      · rw [if_pos h2, if_pos (by omega)]
      · rw [if_neg h2, if_neg (by omega)]
theorem gath_ofn {g : Int} {s : List S} (h : OkL g s) (h0 : 0 ≤ g) (hg : g ≤ 64) : gath (fun k => ofn s k) 8 = s := by
  refine okL_ext _ _ (gath_ok (g := g) (fun k _ => h.okn h0 hg k) (fun k => ofn_n s k) 8 (by omega)) h fun n hn0 hn8 => ?_
  obtain ⟨j, rfl⟩ := Int.eq_ofNat_of_zero_le hn0
  have := ofn_gath (F := fun k => ofn s k) (fun k => ofn_n s k) j 8
  rw [if_pos (by omega)] at this
  exact this
/-- all dots of a are b's -/
def Win (a b : List S) : Prop := ∀ n : Nat, n < 8 → Sub (ofn a n) (ofn b n)
theorem sub_none (n : Int) (y : S) : Sub (none0 n) y := fun c hc h => by rw [dot_none n c hc] at h; cases h
theorem win_iff {g k : Int} {a b : List S} (ha : OkL g a) (hb : OkL k b) (h0 : 0 ≤ g) (hg : g ≤ 64) (k0 : 0 ≤ k) (hk : k ≤ 64) : (∀ x ∈ a, join x (ofn b x.n) = ofn b x.n) ↔ Win a b := by
  constructor
  · intro h n hn
    rcases ofn_or a n with e | e
    · rw [e]; exact sub_none _ _
    · have h1 := h _ e
      rw [ofn_n] at h1
      exact (join_eq_iff (by rw [ofn_n, ofn_n]) (ha.wf h0 hg n) (hb.wf k0 hk n)).1 h1
  · intro h x hx
    have o := ha.ok x hx
    obtain ⟨j, hj⟩ := Int.eq_ofNat_of_zero_le o.n0
    have h1 := h j (by have := o.n8; omega)
    rw [← hj, ofn_mem a ha x hx] at h1
    exact (join_eq_iff (by rw [ofn_n]) (o.wf hg) (hb.wf k0 hk _)).2 h1
/-- how many dots -/
def tot (s : List S) : Nat := (s.map cnt).sum
def sumF (F : Nat → S) : Nat → Nat
  | 0 => 0
  | k + 1 => sumF F k + cnt (F k)
theorem cnt_none (n : Int) : cnt (none0 n) = 0 := by
  show (0 : Int).toNat + nd (Nat.testBit 0) 64 = 0
  rw [nd_none 64 (fun i _ => Nat.zero_testBit i)]; rfl
theorem tot_append (s t : List S) : tot (s ++ t) = tot s + tot t := by simp [tot]
theorem tot_gath (F : Nat → S) : ∀ k, tot (gath F k) = sumF F k
  | 0 => rfl
  | k + 1 => by
    simp only [gath, sumF, tot_append, tot_gath F k]
    split
    · rename_i h; rw [h, cnt_none]; rfl
    · simp [tot]
theorem tot_eq {g : Int} {s : List S} (h : OkL g s) (h0 : 0 ≤ g) (hg : g ≤ 64) : tot s = sumF (fun k => ofn s k) 8 := by
  rw [← tot_gath, gath_ofn h h0 hg]
/-- the union -/
def uni (a b : List S) : List S := gath (fun k => join (ofn a k) (ofn b k)) 8
theorem uni_ok {g : Int} {a b : List S} (ha : OkL g a) (hb : OkL g b) (h0 : 0 ≤ g) (hg : g ≤ 64) : OkL g (uni a b) :=
  gath_ok (fun k _ => join_okn (ha.okn h0 hg k) (hb.okn h0 hg k)) (fun k => (join_n (by rw [ofn_n, ofn_n])).trans (ofn_n a k)) 8 (by omega)
theorem ofn_uni (a b : List S) (n : Nat) (hn : n < 8) : ofn (uni a b) n = join (ofn a n) (ofn b n) := by
  have := ofn_gath (F := fun k => join (ofn a k) (ofn b k)) (fun k => (join_n (by rw [ofn_n, ofn_n])).trans (ofn_n a k)) n 8
  rwa [if_pos hn] at this
end Go.Proofs.YtokaeiahhmaokaaDoor.ds
namespace Go.Proofs.YtokaeiahhmaokaaDoor.ds
set_option linter.unusedVariables false
set_option linter.unusedSimpArgs false
/-- byte by byte -/
def ln (f : Nat → Nat) : Nat → Nat → Nat
  | 0, _ => 0
  | k + 1, x => f (x % 256) + 256 * ln f k (x / 256)
def mk (m : Nat) : Nat → Nat
  | 0 => 0
  | k + 1 => m + 256 * mk m k
theorem and_split (h l mh ml : Nat) (hl : l < 256) (hm : ml < 256) : (l + 256 * h) &&& (ml + 256 * mh) = (l &&& ml) + 256 * (h &&& mh) := by
  have e : ∀ a b, b < 256 → b + 256 * a = 2 ^ 8 * a + b := fun a b _ => by omega
  have hlm : l &&& ml < 256 := Nat.lt_of_le_of_lt Nat.and_le_left hl
  rw [e h l hl, e mh ml hm, e _ _ hlm]
  apply Nat.eq_of_testBit_eq
  intro i
  rw [Nat.testBit_and, Nat.testBit_two_pow_mul_add _ (by omega), Nat.testBit_two_pow_mul_add _ (by omega), Nat.testBit_two_pow_mul_add _ (by omega)]
  split
  · rw [Nat.testBit_and]
  · rw [Nat.testBit_and]
theorem shr_split (j h l mh ml : Nat) (hj : j ≤ 8) (hl : l < 256) (hm : ml < 2 ^ (8 - j)) : ((l + 256 * h) / 2 ^ j) &&& (ml + 256 * mh) = ((l / 2 ^ j) &&& ml) + 256 * ((h / 2 ^ j) &&& mh) := by
  have hm8 : ml < 256 := Nat.lt_of_lt_of_le hm (Nat.pow_le_pow_right (n := 2) (by omega) (show 8 - j ≤ 8 by omega))
  have hlj : l / 2 ^ j < 256 := Nat.lt_of_le_of_lt (Nat.div_le_self _ _) hl
  have e : ∀ a b, b < 256 → b + 256 * a = 2 ^ 8 * a + b := fun a b _ => by omega
  have hlm : (l / 2 ^ j) &&& ml < 256 := Nat.lt_of_le_of_lt Nat.and_le_left hlj
  rw [e h l hl, e mh ml hm8, e _ _ hlm, ← Nat.shiftRight_eq_div_pow, ← Nat.shiftRight_eq_div_pow, ← Nat.shiftRight_eq_div_pow]
  rw [← Nat.shiftRight_eq_div_pow] at hlm
  apply Nat.eq_of_testBit_eq
  intro i
  rw [Nat.testBit_and, Nat.testBit_shiftRight, Nat.testBit_two_pow_mul_add _ (by omega), Nat.testBit_two_pow_mul_add _ (by omega), Nat.testBit_two_pow_mul_add _ hlm]
  by_cases hi : i < 8
  · rw [if_pos hi, if_pos hi, Nat.testBit_and, Nat.testBit_shiftRight]
    by_cases hij : j + i < 8
    · rw [if_pos hij]
    · have : ml.testBit i = false := Nat.testBit_lt_two_pow (Nat.lt_of_lt_of_le hm (Nat.pow_le_pow_right (by omega) (by omega)))
      simp [this]
  · rw [if_neg hi, if_neg hi, if_neg (by omega), Nat.testBit_and, Nat.testBit_shiftRight, show j + i - 8 = j + (i - 8) by omega]
theorem step_ln (j m : Nat) (hj : j ≤ 8) (hm : m < 2 ^ (8 - j)) : ∀ k x, ((x / 2 ^ j) &&& mk m k) + (x &&& mk m k) = ln (fun b => ((b / 2 ^ j) &&& m) + (b &&& m)) k x
  | 0, x => by simp [mk, ln]
  | k + 1, x => by
    have hx : x = x % 256 + 256 * (x / 256) := by omega
    have hm8 : m < 256 := Nat.lt_of_lt_of_le hm (Nat.pow_le_pow_right (n := 2) (by omega) (show 8 - j ≤ 8 by omega))
    have h1 := shr_split j (x / 256) (x % 256) (mk m k) m hj (by omega) hm
    have h2 := and_split (x / 256) (x % 256) (mk m k) m (by omega) hm8
    rw [← hx] at h1 h2
    simp only [mk, ln]
    rw [h1, h2, ← step_ln j m hj hm k (x / 256)]
    omega
theorem ln_comp (g f : Nat → Nat) (hf : ∀ b, b < 256 → f b < 256) : ∀ k x, ln g k (ln f k x) = ln (fun b => g (f b)) k x
  | 0, x => rfl
  | k + 1, x => by
    have h := hf (x % 256) (by omega)
    simp only [ln]
    rw [show (f (x % 256) + 256 * ln f k (x / 256)) % 256 = f (x % 256) by omega, show (f (x % 256) + 256 * ln f k (x / 256)) / 256 = ln f k (x / 256) by omega, ln_comp g f hf k]
theorem ln_congr (g f : Nat → Nat) (hf : ∀ b, b < 256 → f b = g b) : ∀ k x, ln f k x = ln g k x
  | 0, x => rfl
  | k + 1, x => by simp only [ln]; rw [hf _ (by omega), ln_congr g f hf k]
theorem nib (f : Nat → Nat) (hf : ∀ b, b < 256 → f b % 16 ≤ 4 ∧ f b / 16 ≤ 4) : ∀ k x, ln f k x % 16 ≤ 4
  | 0, x => by simp [ln]
  | k + 1, x => by
    have := hf (x % 256) (by omega)
    simp only [ln]; omega
theorem step3_ln (f : Nat → Nat) (hf : ∀ b, b < 256 → f b % 16 ≤ 4 ∧ f b / 16 ≤ 4) : ∀ k x, (ln f k x / 16 + ln f k x) &&& mk 15 k = ln (fun b => f b / 16 + f b % 16) k x
  | 0, x => by simp [mk, ln]
  | k + 1, x => by
    have h := hf (x % 256) (by omega)
    have hn := nib f hf k (x / 256)
    have ih := step3_ln f hf k (x / 256)
    simp only [mk, ln]
    rw [← ih]
    generalize ln f k (x / 256) = y at *
    generalize f (x % 256) = b at *
    have e : (b + 256 * y) / 16 + (b + 256 * y) = (16 * (y % 16 + b / 16) + (b / 16 + b % 16)) + 256 * (y / 16 + y) := by omega
    rw [e, and_split _ _ _ _ (by omega) (by omega)]
    congr 1
    have : ∀ a c, c < 16 → (16 * a + c) &&& 15 = c := by
      intro a c hc
      have := Nat.and_two_pow_sub_one_eq_mod (16 * a + c) 4
      rw [show 2 ^ 4 - 1 = 15 by decide, show 2 ^ 4 = 16 by decide] at this
      rw [this]; omega
    exact this _ _ (by omega)
def f1 (b : Nat) : Nat := ((b / 2 ^ 1) &&& 85) + (b &&& 85)
def f2 (b : Nat) : Nat := ((b / 2 ^ 2) &&& 51) + (b &&& 51)
theorem f1_lt : ∀ b, b < 256 → f1 b < 256 := by decide +kernel
theorem f12_nib : ∀ b, b < 256 → f2 (f1 b) % 16 ≤ 4 ∧ f2 (f1 b) / 16 ≤ 4 := by decide +kernel
theorem pop8 : ∀ b, b < 256 → f2 (f1 b) / 16 + f2 (f1 b) % 16 = nd (Nat.testBit b) 8 := by decide +kernel
theorem nd8_le (b : Nat) : nd (Nat.testBit b) 8 ≤ 8 := by
  have : ∀ (p : Nat → Bool) M, nd p M ≤ M := by
    intro p M
    induction M with
    | zero => exact Nat.le_refl _
    | succ M ih => simp only [nd]; have : (p M).toNat ≤ 1 := Bool.toNat_le _; omega
  exact this _ _
theorem nd_byte (x k : Nat) : nd x.testBit (8 + k) = nd (Nat.testBit (x % 256)) 8 + nd (Nat.testBit (x / 256)) k := by
  rw [nd_add]
  congr 1
  · refine nd_congr 8 fun i hi => ?_
    rw [show 256 = 2 ^ 8 by decide, Nat.testBit_mod_two_pow]; simp [hi]
  · refine nd_congr k fun i hi => ?_
    rw [show 256 = 2 ^ 8 by decide, ← Nat.shiftRight_eq_div_pow, Nat.testBit_shiftRight]
/-- what OnesCount64 reckons -/
def ones1 (x : Nat) : Nat := ((x / 2) &&& 6148914691236517205) + (x &&& 6148914691236517205)
def ones2 (x : Nat) : Nat := ((x / 4) &&& 3689348814741910323) + (x &&& 3689348814741910323)
def ones3 (x : Nat) : Nat := (x / 16 + x) &&& 1085102592571150095
def add8 (y : Nat) : Nat := y + y / 256
def add16 (y : Nat) : Nat := y + y / 65536
def add32 (y : Nat) : Nat := y + y / 4294967296
theorem ones123 (x : Nat) : ones3 (ones2 (ones1 x)) = ln (fun b => nd (Nat.testBit b) 8) 8 x := by
  have e1 : ones1 x = ln f1 8 x := step_ln 1 85 (by omega) (by decide) 8 x
  have e2 : ones2 (ln f1 8 x) = ln f2 8 (ln f1 8 x) := step_ln 2 51 (by omega) (by decide) 8 _
  rw [e1, e2, ln_comp f2 f1 f1_lt]
  have e3 := step3_ln (fun b => f2 (f1 b)) f12_nib 8 x
  show (ln (fun b => f2 (f1 b)) 8 x / 16 + ln (fun b => f2 (f1 b)) 8 x) &&& mk 15 8 = _
  rw [e3]
  exact ln_congr _ _ pop8 8 x
theorem ones_lt (x : Nat) : ones1 x < 18446744073709551616 ∧ ones2 (ones1 x) < 18446744073709551616 ∧ ones2 (ones1 x) / 16 + ones2 (ones1 x) < 18446744073709551616 := by
  have a1 : ∀ y m : Nat, y &&& m ≤ m := fun y m => Nat.and_le_right
  have h1 := a1 (x / 2) 6148914691236517205
  have h2 := a1 x 6148914691236517205
  have h3 := a1 (ones1 x / 4) 3689348814741910323
  have h4 := a1 (ones1 x) 3689348814741910323
  unfold ones2 at *
  unfold ones1 at *
  omega
theorem div1 (c r : Nat) (h : c < 256) : (c + 256 * r) / 256 = r := by omega
theorem div2 (c d r : Nat) (h : c < 256) (k : d < 256) : (c + 256 * (d + 256 * r)) / 65536 = r := by omega
theorem div4 (c d e f r : Nat) (h : c < 256) (k : d < 256) (l : e < 256) (m : f < 256) : (c + 256 * (d + 256 * (e + 256 * (f + 256 * r)))) / 4294967296 = r := by omega
set_option maxHeartbeats 2000000 in
theorem ones_eq (x : Nat) (hx : x < 2 ^ 64) : add32 (add16 (add8 (ones3 (ones2 (ones1 x))))) % 128 = nd x.testBit 64 ∧ add32 (add16 (add8 (ones3 (ones2 (ones1 x))))) < 18446744073709551616 ∧ add16 (add8 (ones3 (ones2 (ones1 x)))) < 18446744073709551616 ∧ add8 (ones3 (ones2 (ones1 x))) < 18446744073709551616 := by
  rw [ones123]
  have e : nd x.testBit 64 = nd (Nat.testBit (x % 256)) 8 + (nd (Nat.testBit (x / 256 % 256)) 8 + (nd (Nat.testBit (x / 256 / 256 % 256)) 8 + (nd (Nat.testBit (x / 256 / 256 / 256 % 256)) 8 + (nd (Nat.testBit (x / 256 / 256 / 256 / 256 % 256)) 8 + (nd (Nat.testBit (x / 256 / 256 / 256 / 256 / 256 % 256)) 8 + (nd (Nat.testBit (x / 256 / 256 / 256 / 256 / 256 / 256 % 256)) 8 + (nd (Nat.testBit (x / 256 / 256 / 256 / 256 / 256 / 256 / 256 % 256)) 8 + 0))))))) := by
    rw [show 64 = 8 + 56 by decide, nd_byte, show 56 = 8 + 48 by decide, nd_byte, show 48 = 8 + 40 by decide, nd_byte, show 40 = 8 + 32 by decide, nd_byte, show 32 = 8 + 24 by decide, nd_byte, show 24 = 8 + 16 by decide, nd_byte, show 16 = 8 + 8 by decide, nd_byte, show nd (Nat.testBit (x / 256 / 256 / 256 / 256 / 256 / 256 / 256)) 8 = nd (Nat.testBit (x / 256 / 256 / 256 / 256 / 256 / 256 / 256)) (8 + 0) from rfl, nd_byte]
    rfl
  rw [e]
  simp only [ln]
  have l0 := nd8_le (x % 256)
  have l1 := nd8_le (x / 256 % 256)
  have l2 := nd8_le (x / 256 / 256 % 256)
  have l3 := nd8_le (x / 256 / 256 / 256 % 256)
  have l4 := nd8_le (x / 256 / 256 / 256 / 256 % 256)
  have l5 := nd8_le (x / 256 / 256 / 256 / 256 / 256 % 256)
  have l6 := nd8_le (x / 256 / 256 / 256 / 256 / 256 / 256 % 256)
  have l7 := nd8_le (x / 256 / 256 / 256 / 256 / 256 / 256 / 256 % 256)
  clear e hx
  generalize nd (Nat.testBit (x / 256 / 256 / 256 / 256 / 256 / 256 / 256 % 256)) 8 = p7 at *
  generalize nd (Nat.testBit (x / 256 / 256 / 256 / 256 / 256 / 256 % 256)) 8 = p6 at *
  generalize nd (Nat.testBit (x / 256 / 256 / 256 / 256 / 256 % 256)) 8 = p5 at *
  generalize nd (Nat.testBit (x / 256 / 256 / 256 / 256 % 256)) 8 = p4 at *
  generalize nd (Nat.testBit (x / 256 / 256 / 256 % 256)) 8 = p3 at *
  generalize nd (Nat.testBit (x / 256 / 256 % 256)) 8 = p2 at *
  generalize nd (Nat.testBit (x / 256 % 256)) 8 = p1 at *
  generalize nd (Nat.testBit (x % 256)) 8 = p0 at *
  have d0 : p0 + 256 * (p1 + 256 * (p2 + 256 * (p3 + 256 * (p4 + 256 * (p5 + 256 * (p6 + 256 * (p7 + 256 * 0))))))) = (p0 + 256 * (p1 + 256 * (p2 + 256 * (p3 + 256 * (p4 + 256 * (p5 + 256 * (p6 + 256 * (p7)))))))) := by omega
  rw [d0]
  have d8 : add8 (p0 + 256 * (p1 + 256 * (p2 + 256 * (p3 + 256 * (p4 + 256 * (p5 + 256 * (p6 + 256 * (p7)))))))) = ((p0 + p1) + 256 * ((p1 + p2) + 256 * ((p2 + p3) + 256 * ((p3 + p4) + 256 * ((p4 + p5) + 256 * ((p5 + p6) + 256 * ((p6 + p7) + 256 * ((p7))))))))) := by
    unfold add8
    have : (p0 + 256 * (p1 + 256 * (p2 + 256 * (p3 + 256 * (p4 + 256 * (p5 + 256 * (p6 + 256 * (p7)))))))) / 256 = (p1 + 256 * (p2 + 256 * (p3 + 256 * (p4 + 256 * (p5 + 256 * (p6 + 256 * (p7))))))) := div1 _ _ (by omega)
    omega
  have d16 : add16 ((p0 + p1) + 256 * ((p1 + p2) + 256 * ((p2 + p3) + 256 * ((p3 + p4) + 256 * ((p4 + p5) + 256 * ((p5 + p6) + 256 * ((p6 + p7) + 256 * ((p7))))))))) = ((p0 + p1 + p2 + p3) + 256 * ((p1 + p2 + p3 + p4) + 256 * ((p2 + p3 + p4 + p5) + 256 * ((p3 + p4 + p5 + p6) + 256 * ((p4 + p5 + p6 + p7) + 256 * ((p5 + p6 + p7) + 256 * ((p6 + p7) + 256 * ((p7))))))))) := by
    unfold add16
    have : ((p0 + p1) + 256 * ((p1 + p2) + 256 * ((p2 + p3) + 256 * ((p3 + p4) + 256 * ((p4 + p5) + 256 * ((p5 + p6) + 256 * ((p6 + p7) + 256 * ((p7))))))))) / 65536 = ((p2 + p3) + 256 * ((p3 + p4) + 256 * ((p4 + p5) + 256 * ((p5 + p6) + 256 * ((p6 + p7) + 256 * ((p7))))))) := div2 _ _ _ (by omega) (by omega)
    omega
  have d32 : add32 ((p0 + p1 + p2 + p3) + 256 * ((p1 + p2 + p3 + p4) + 256 * ((p2 + p3 + p4 + p5) + 256 * ((p3 + p4 + p5 + p6) + 256 * ((p4 + p5 + p6 + p7) + 256 * ((p5 + p6 + p7) + 256 * ((p6 + p7) + 256 * ((p7))))))))) = ((p0 + p1 + p2 + p3 + p4 + p5 + p6 + p7) + 256 * ((p1 + p2 + p3 + p4 + p5 + p6 + p7) + 256 * ((p2 + p3 + p4 + p5 + p6 + p7) + 256 * ((p3 + p4 + p5 + p6 + p7) + 256 * ((p4 + p5 + p6 + p7) + 256 * ((p5 + p6 + p7) + 256 * ((p6 + p7) + 256 * ((p7))))))))) := by
    unfold add32
    have : ((p0 + p1 + p2 + p3) + 256 * ((p1 + p2 + p3 + p4) + 256 * ((p2 + p3 + p4 + p5) + 256 * ((p3 + p4 + p5 + p6) + 256 * ((p4 + p5 + p6 + p7) + 256 * ((p5 + p6 + p7) + 256 * ((p6 + p7) + 256 * ((p7))))))))) / 4294967296 = ((p4 + p5 + p6 + p7) + 256 * ((p5 + p6 + p7) + 256 * ((p6 + p7) + 256 * ((p7))))) := div4 _ _ _ _ _ (by omega) (by omega) (by omega) (by omega)
    omega
  rw [d8, d16, d32]
  clear d0 d8 d16 d32
  refine ⟨?_, by omega, by omega, by omega⟩
  omega
/-- the trailing ones by the zeros of the others -/
theorem tz1_ctz : ∀ (f t y : Nat), t + y = 2 ^ f - 1 → tz1 t f = (if y = 0 then f else Lib.ctzFrom f y)
  | 0, t, y, h => by
    have : y = 0 := by simp at h; omega
    simp [tz1, this]
  | f + 1, t, y, h => by
    have hp : 2 ^ (f + 1) = 2 * 2 ^ f := by rw [Nat.pow_succ]; omega
    have h0 : 0 < 2 ^ f := Nat.two_pow_pos f
    unfold tz1 Lib.ctzFrom
    by_cases ht : t % 2 = 0
    · rw [if_pos ht, if_neg (by omega), if_pos (by omega)]
    · rw [if_neg ht, tz1_ctz f (t / 2) (y / 2) (by omega)]
      by_cases hy : y = 0
      · subst hy; simp; omega
      · rw [if_neg hy, if_neg (by omega), if_neg (by omega)]
theorem tz1_ctz64 (t : Nat) (ht : t < 2 ^ 64) : Lib.ctz 64 (18446744073709551615 - t) = tz1 t 64 := by
  rw [tz1_ctz 64 t (18446744073709551615 - t) (by omega)]; rfl
end Go.Proofs.YtokaeiahhmaokaaDoor.ds
