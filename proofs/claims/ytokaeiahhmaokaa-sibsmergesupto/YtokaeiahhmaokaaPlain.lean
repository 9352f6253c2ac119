namespace Go.Proofs.Ytokaeiahhmaokaa.ds
set_option linter.unusedVariables false
set_option linter.unusedSimpArgs false
/-- a span: node, base, bits -/
structure S where
  n : Int
  b : Int
  t : Nat
deriving DecidableEq, Inhabited
def bl (t : Nat) : Nat := if t = 0 then 0 else t.log2 + 1
/-- a count of a span -/
def dot (x : S) (c : Int) : Bool := decide (c ≤ x.b) || x.t.testBit (c - x.b - 1).toNat
def none0 (n : Int) : S := ⟨n, 0, 0⟩
/-- a span for a gap -/
structure Ok (gap : Int) (x : S) : Prop where
  n0 : 0 ≤ x.n
  n8 : x.n < 8
  b0 : 0 ≤ x.b
  bM : x.b ≤ 1048576
  ne : ¬ (x.b = 0 ∧ x.t = 0)
  ev : x.t % 2 = 0
  gp : (bl x.t : Int) ≤ gap
  mx : x.b + bl x.t ≤ 1048576
/-- base not below nothing, bit 0 clear, 64 bits -/
structure Wf (x : S) : Prop where
  b0 : 0 ≤ x.b
  ev : x.t % 2 = 0
  lt : x.t < 2 ^ 64
theorem bl_le {t k : Nat} : bl t ≤ k ↔ t < 2 ^ k := by
  unfold bl
  split
  · subst_vars; simp [Nat.two_pow_pos]
  · rename_i h
    rw [← Nat.log2_lt h]; omega
theorem bl_le' {t k : Nat} : bl t ≤ k ↔ ∀ i, k ≤ i → t.testBit i = false := by
  rw [bl_le]
  constructor
  · intro h i hi
    exact Nat.testBit_lt_two_pow (Nat.lt_of_lt_of_le h (Nat.pow_le_pow_right (by omega) hi))
  · intro h
    exact Nat.lt_pow_two_of_testBit _ h
theorem Ok.wf {gap : Int} {x : S} (h : Ok gap x) (hg : gap ≤ 64) : Wf x := ⟨h.b0, h.ev, bl_le.1 (by have := h.gp; omega)⟩
theorem Ok.mono {g k : Int} {x : S} (h : Ok g x) (hk : g ≤ k) : Ok k x := { h with gp := Int.le_trans h.gp hk }
theorem wf_none (n : Int) : Wf (none0 n) := ⟨Int.le_refl _, rfl, by show 0 < 2 ^ 64; decide⟩
theorem dot_none (n c : Int) (h : 1 ≤ c) : dot (none0 n) c = false := by
  have : decide (c ≤ 0) = false := decide_eq_false (by omega)
  show (decide (c ≤ 0) || Nat.testBit 0 _) = false
  rw [this, Nat.zero_testBit]; rfl
theorem ev_bit {t : Nat} : t % 2 = 0 ↔ t.testBit 0 = false := by
  rw [Nat.testBit_zero]; simp
theorem dot_next {x : S} (h : Wf x) : dot x (x.b + 1) = false := by
  have := ev_bit.1 h.ev
  simp [dot, show x.b + 1 - x.b - 1 = 0 by omega, this]
  omega
theorem dot_bit (x : S) (i : Nat) : dot x (x.b + 1 + i) = x.t.testBit i := by
  have : (x.b + 1 + i - x.b - 1).toNat = i := by omega
  rw [dot, this]
  simp
  omega
theorem dot_low {x : S} {c : Int} (h : c ≤ x.b) : dot x c = true := by simp [dot, h]
theorem ext {x y : S} (hn : x.n = y.n) (hx : Wf x) (hy : Wf y) (h : ∀ c, 1 ≤ c → dot x c = dot y c) : x = y := by
  have hb : x.b = y.b := by
    rcases Int.lt_trichotomy x.b y.b with l | l | l
    · have := h (x.b + 1) (by have := hx.b0; omega)
      rw [dot_next hx, dot_low (by omega)] at this; cases this
    · exact l
    · have := h (y.b + 1) (by have := hy.b0; omega)
      rw [dot_next hy, dot_low (by omega)] at this; cases this
  have ht : x.t = y.t := by
    apply Nat.eq_of_testBit_eq
    intro i
    rw [← dot_bit, ← dot_bit, hb]
    exact h _ (by have := hy.b0; omega)
  cases x; cases y; simp_all
/-- how far the ones go on from bit 0 -/
def tz1 (t : Nat) : Nat → Nat
  | 0 => 0
  | f + 1 => if t % 2 = 0 then 0 else 1 + tz1 (t / 2) f
theorem tz1_le (f : Nat) : ∀ t, tz1 t f ≤ f := by
  induction f with
  | zero => intro t; exact Nat.le_refl _
  | succ f ih => intro t; unfold tz1; split; omega; have := ih (t / 2); omega
theorem tz1_ones (f : Nat) : ∀ t i, i < tz1 t f → t.testBit i = true := by
  induction f with
  | zero => intro t i h; simp [tz1] at h
  | succ f ih =>
    intro t i h
    unfold tz1 at h
    split at h
    · omega
    · match i with
      | 0 => rw [Nat.testBit_zero]; simp; omega
      | i + 1 => rw [Nat.testBit_succ]; exact ih _ _ (by omega)
theorem tz1_stop (f : Nat) : ∀ t, tz1 t f < f → t.testBit (tz1 t f) = false := by
  induction f with
  | zero => intro t h; omega
  | succ f ih =>
    intro t h
    unfold tz1 at h ⊢
    split
    · rename_i h0; exact ev_bit.1 h0
    · rename_i h0
      rw [if_neg h0] at h
      rw [Nat.add_comm, Nat.testBit_succ]; exact ih _ (by omega)
/-- the base over the counts that follow on it -/
def settle (x : S) : S := ⟨x.n, x.b + tz1 x.t 64, x.t >>> tz1 x.t 64⟩
theorem settle_wf {x : S} (h0 : 0 ≤ x.b) (hl : x.t < 2 ^ 64) : Wf (settle x) := by
  refine ⟨by show 0 ≤ x.b + _; omega, ?_, ?_⟩
  · rw [ev_bit]
    show (x.t >>> tz1 x.t 64).testBit 0 = false
    rw [Nat.testBit_shiftRight, Nat.add_zero]
    by_cases h : tz1 x.t 64 < 64
    · exact tz1_stop 64 _ h
    · exact Nat.testBit_lt_two_pow (Nat.lt_of_lt_of_le hl (Nat.pow_le_pow_right (by omega) (by omega)))
  · show x.t >>> _ < 2 ^ 64
    rw [Nat.shiftRight_eq_div_pow]
    exact Nat.lt_of_le_of_lt (Nat.div_le_self _ _) hl
theorem settle_dot (x : S) (c : Int) : dot (settle x) c = dot x c := by
  show (decide (c ≤ x.b + tz1 x.t 64) || (x.t >>> tz1 x.t 64).testBit (c - (x.b + tz1 x.t 64) - 1).toNat) = (decide (c ≤ x.b) || x.t.testBit (c - x.b - 1).toNat)
  rw [Nat.testBit_shiftRight]
  by_cases h1 : c ≤ x.b
  · simp [h1, show c ≤ x.b + tz1 x.t 64 by omega]
  · by_cases h2 : c ≤ x.b + tz1 x.t 64
    · have := tz1_ones 64 x.t (c - x.b - 1).toNat (by omega)
      rw [this, decide_eq_true h2]; simp
    · have : tz1 x.t 64 + (c - (x.b + tz1 x.t 64) - 1).toNat = (c - x.b - 1).toNat := by omega
      rw [this]
      simp [h1, h2]
/-- the counts of both -/
def join (x y : S) : S := if x.b < y.b then settle ⟨y.n, y.b, y.t ||| (x.t >>> (y.b - x.b).toNat)⟩ else settle ⟨x.n, x.b, x.t ||| (y.t >>> (x.b - y.b).toNat)⟩
theorem shr_lt {t k : Nat} (h : t < 2 ^ 64) : t >>> k < 2 ^ 64 := by
  rw [Nat.shiftRight_eq_div_pow]; exact Nat.lt_of_le_of_lt (Nat.div_le_self _ _) h
theorem join_wf {x y : S} (hx : Wf x) (hy : Wf y) : Wf (join x y) := by
  unfold join
  split
  · exact settle_wf hy.b0 (Nat.or_lt_two_pow hy.lt (shr_lt hx.lt))
  · exact settle_wf hx.b0 (Nat.or_lt_two_pow hx.lt (shr_lt hy.lt))
theorem join_n {x y : S} (h : x.n = y.n) : (join x y).n = x.n := by unfold join; split <;> simp [settle, h]
theorem or_dot (n : Int) (b a : Int) (t u : Nat) (h : a ≤ b) (c : Int) : dot ⟨n, b, t ||| (u >>> (b - a).toNat)⟩ c = (dot ⟨n, b, t⟩ c || dot ⟨n, a, u⟩ c) := by
  simp only [dot, Nat.testBit_or, Nat.testBit_shiftRight]
  by_cases h1 : c ≤ b
  · simp [h1]
  · have e : (b - a).toNat + (c - b - 1).toNat = (c - a - 1).toNat := by omega
    rw [e]
    simp [h1, show ¬ c ≤ a by omega]
theorem join_dot {x y : S} (c : Int) : dot (join x y) c = (dot x c || dot y c) := by
  unfold join
  split
  · rw [settle_dot, or_dot _ _ _ _ _ (by omega), Bool.or_comm]; rfl
  · rw [settle_dot, or_dot _ _ _ _ _ (by omega)]; rfl
/-- all counts of x are y's -/
def Sub (x y : S) : Prop := ∀ c, 1 ≤ c → dot x c = true → dot y c = true
theorem join_eq_iff {x y : S} (hn : x.n = y.n) (hx : Wf x) (hy : Wf y) : join x y = y ↔ Sub x y := by
  constructor
  · intro h c hc hd
    have := join_dot (x := x) (y := y) c
    rw [h, hd] at this; simpa using this
  · intro h
    refine ext ((join_n hn).trans hn) (join_wf hx hy) hy fun c hc => ?_
    rw [join_dot]
    have := h c hc
    cases h1 : dot x c <;> simp_all
theorem join_comm {x y : S} (hn : x.n = y.n) (hx : Wf x) (hy : Wf y) : join x y = join y x :=
  ext (by rw [join_n hn, join_n hn.symm, hn]) (join_wf hx hy) (join_wf hy hx) fun c _ => by rw [join_dot, join_dot, Bool.or_comm]
theorem join_assoc {x y z : S} (hn : x.n = y.n) (hm : y.n = z.n) (hx : Wf x) (hy : Wf y) (hz : Wf z) : join (join x y) z = join x (join y z) :=
  ext (by rw [join_n, join_n hn, join_n]; rw [join_n hm, hn]; rw [join_n hn, hn, hm]) (join_wf (join_wf hx hy) hz) (join_wf hx (join_wf hy hz)) fun c _ => by simp only [join_dot, Bool.or_assoc]
theorem join_self {x : S} (hx : Wf x) : join x x = x := ext (join_n rfl) (join_wf hx hx) hx fun c _ => by rw [join_dot, Bool.or_self]
theorem join_none {x : S} (hx : Wf x) : join x (none0 x.n) = x := ext (join_n rfl) (join_wf hx (wf_none _)) hx fun c hc => by rw [join_dot, dot_none _ _ hc, Bool.or_false]
theorem none_join {x : S} (hx : Wf x) : join (none0 x.n) x = x := ext (join_n rfl) (join_wf (wf_none _) hx) hx fun c hc => by rw [join_dot, dot_none _ _ hc, Bool.false_or]
/-- the greatest count -/
def top (x : S) : Int := x.b + bl x.t
theorem top_le {x : S} {M : Int} (hM : x.b ≤ M) : top x ≤ M ↔ ∀ c, M < c → dot x c = false := by
  unfold top
  constructor
  · intro h c hc
    have h1 := (bl_le' (t := x.t) (k := (M - x.b).toNat)).1 (by omega) (c - x.b - 1).toNat (by omega)
    rw [dot, h1]; simp; omega
  · intro h
    have := (bl_le' (t := x.t) (k := (M - x.b).toNat)).2 (fun i hi => by have := h (x.b + 1 + i) (by omega); rwa [dot_bit] at this)
    omega
theorem base_le_top (x : S) : x.b ≤ top x := by unfold top; omega
/-- a join is a span for the gap -/
theorem join_top {x y : S} (hx : Wf x) (hy : Wf y) : top (join x y) ≤ max (top x) (top y) := by
  have hb : (join x y).b ≤ max (top x) (top y) := by
    by_cases h : (join x y).b ≤ max (top x) (top y)
    · exact h
    · have hd : dot (join x y) (join x y).b = true := dot_low (by omega)
      rw [join_dot] at hd
      have h1 := (top_le (base_le_top x)).1 (Int.le_refl _) (join x y).b (by omega)
      have h2 := (top_le (base_le_top y)).1 (Int.le_refl _) (join x y).b (by omega)
      simp [h1, h2] at hd
  rw [top_le hb]
  intro c hc
  rw [join_dot, (top_le (base_le_top x)).1 (Int.le_refl _) c (by omega), (top_le (base_le_top y)).1 (Int.le_refl _) c (by omega)]; rfl
theorem join_base {x y : S} : x.b ≤ (join x y).b ∧ y.b ≤ (join x y).b := by
  unfold join
  split <;> simp only [settle] <;> constructor <;> omega
/-- a span for the gap, or nothing -/
structure Okn (gap : Int) (n : Int) (x : S) : Prop where
  n : x.n = n
  wf : Wf x
  gp : (bl x.t : Int) ≤ gap
  mx : top x ≤ 1048576
theorem Okn.ok {gap n : Int} {x : S} (h : Okn gap n x) (h0 : 0 ≤ n) (h8 : n < 8) (hne : x ≠ none0 n) : Ok gap x :=
  ⟨by have := h.n; omega, by have := h.n; omega, h.wf.b0, by have := h.mx; unfold top at this; omega, fun ⟨e1, e2⟩ => hne (by have := h.n; cases x; simp_all [none0]), h.wf.ev, h.gp, h.mx⟩
theorem Ok.okn {gap : Int} {x : S} (h : Ok gap x) (hg : gap ≤ 64) : Okn gap x.n x := ⟨rfl, h.wf hg, h.gp, h.mx⟩
theorem okn_none (gap n : Int) (hg : 0 ≤ gap) : Okn gap n (none0 n) := ⟨rfl, wf_none n, by simpa [none0, bl] using hg, by simp [top, none0, bl]⟩
theorem Okn.mono {g k n : Int} {x : S} (h : Okn g n x) (hk : g ≤ k) : Okn k n x := { h with gp := Int.le_trans h.gp hk }
theorem join_okn {gap n : Int} {x y : S} (hx : Okn gap n x) (hy : Okn gap n y) : Okn gap n (join x y) := by
  have h1 := join_top hx.wf hy.wf
  have h2 := join_base (x := x) (y := y)
  have := hx.gp; have := hy.gp; have := hx.mx; have := hy.mx
  refine ⟨(join_n (hx.n.trans hy.n.symm)).trans hx.n, join_wf hx.wf hy.wf, ?_, by omega⟩
  unfold top at *; omega
/-- a count more -/
def withc (x : S) (c : Int) : S := if c ≤ x.b then x else settle ⟨x.n, x.b, x.t ||| 2 ^ (c - x.b - 1).toNat⟩
theorem withc_n (x : S) (c : Int) : (withc x c).n = x.n := by unfold withc; split <;> rfl
theorem withc_dot {x : S} {c : Int} (hc : 1 ≤ c) (e : Int) (he : 1 ≤ e) : dot (withc x c) e = (dot x e || decide (e = c)) := by
  unfold withc
  split
  · rename_i h
    by_cases h1 : e = c
    · subst h1; simp [dot, h]
    · simp [h1]
  · rename_i h
    rw [settle_dot]
    simp only [dot, Nat.testBit_or, Nat.testBit_two_pow]
    by_cases h1 : e ≤ x.b
    · simp [h1]
    · have : decide ((c - x.b - 1).toNat = (e - x.b - 1).toNat) = decide (e = c) := by
        rw [decide_eq_decide]; omega
      rw [this]; simp [h1]
theorem withc_wf {x : S} {c : Int} (hx : Wf x) (hc : c ≤ x.b + 64) : Wf (withc x c) := by
  unfold withc
  split
  · exact hx
  · exact settle_wf hx.b0 (Nat.or_lt_two_pow hx.lt (Nat.pow_lt_pow_right (by omega) (by omega)))
theorem withc_base {x : S} {c : Int} : x.b ≤ (withc x c).b := by unfold withc; split; omega; simp only [settle]; omega
theorem withc_top {x : S} {c M : Int} (hc : 1 ≤ c) (hM : top x ≤ M) (hcM : c ≤ M) (h0 : 0 ≤ x.b) : top (withc x c) ≤ M := by
  have hb0 := withc_base (x := x) (c := c)
  have hbx := base_le_top x
  have hb : (withc x c).b ≤ M := by
    by_cases h : (withc x c).b ≤ M
    · exact h
    · have hd : dot (withc x c) (withc x c).b = true := dot_low (by omega)
      rw [withc_dot hc _ (by omega), (top_le (base_le_top x)).1 (Int.le_refl _) _ (by omega)] at hd
      simp at hd; omega
  rw [top_le hb]
  intro e he
  rw [withc_dot hc _ (by omega), (top_le (base_le_top x)).1 (Int.le_refl _) _ (by omega)]
  simp; omega
theorem withc_okn {gap n c : Int} {x : S} (hx : Okn gap n x) (hg : gap ≤ 64) (hc : 1 ≤ c) (hM : c ≤ 1048576) (hcg : c ≤ x.b + gap) : Okn gap n (withc x c) := by
  have h2 := withc_base (x := x) (c := c)
  have h1 := withc_top (M := x.b + gap) hc (by have := hx.gp; unfold top; omega) hcg hx.wf.b0
  refine ⟨(withc_n x c).trans hx.n, withc_wf hx.wf (by omega), by unfold top at h1; omega, withc_top hc hx.mx hM hx.wf.b0⟩
/-- so many of the first M -/
def nd (p : Nat → Bool) : Nat → Nat
  | 0 => 0
  | M + 1 => nd p M + (p M).toNat
theorem nd_mono {p q : Nat → Bool} : ∀ M, (∀ i, i < M → p i = true → q i = true) → nd p M ≤ nd q M ∧ (nd p M = nd q M → ∀ i, i < M → p i = q i)
  | 0, _ => ⟨Nat.le_refl _, fun _ i h => by omega⟩
  | M + 1, h => by
    have ih := nd_mono M (fun i hi => h i (by omega))
    have hM := h M (by omega)
    have hle : (p M).toNat ≤ (q M).toNat := by cases h1 : p M <;> simp_all
    refine ⟨by simp only [nd]; omega, fun e i hi => ?_⟩
    simp only [nd] at e
    by_cases h1 : i = M
    · subst h1
      have : (p i).toNat = (q i).toNat := by omega
      cases h2 : p i <;> cases h3 : q i <;> simp_all
    · exact ih.2 (by omega) i (by omega)
theorem nd_congr {p q : Nat → Bool} : ∀ M, (∀ i, i < M → p i = q i) → nd p M = nd q M
  | 0, _ => rfl
  | M + 1, h => by simp only [nd, nd_congr M (fun i hi => h i (by omega)), h M (by omega)]
theorem nd_add (p : Nat → Bool) (a : Nat) : ∀ k, nd p (a + k) = nd p a + nd (fun i => p (a + i)) k
  | 0 => rfl
  | k + 1 => by rw [← Nat.add_assoc]; simp only [nd, nd_add p a k]; omega
theorem nd_all {p : Nat → Bool} : ∀ M, (∀ i, i < M → p i = true) → nd p M = M
  | 0, _ => rfl
  | M + 1, h => by simp only [nd, nd_all M (fun i hi => h i (by omega)), h M (by omega)]; rfl
theorem nd_none {p : Nat → Bool} : ∀ M, (∀ i, i < M → p i = false) → nd p M = 0
  | 0, _ => rfl
  | M + 1, h => by simp only [nd, nd_none M (fun i hi => h i (by omega)), h M (by omega)]; rfl
/-- how many counts -/
def cnt (x : S) : Nat := x.b.toNat + nd x.t.testBit 64
theorem cnt_nd {x : S} (h : Wf x) (M : Nat) (hM : x.b.toNat + 64 ≤ M) : cnt x = nd (fun i => dot x (i + 1)) M := by
  obtain ⟨k, rfl⟩ : ∃ k, M = x.b.toNat + (64 + k) := ⟨M - x.b.toNat - 64, by omega⟩
  have h0 := h.b0
  rw [nd_add, nd_add, nd_all, nd_none (p := fun i => dot x (((x.b.toNat + (64 + i) : Nat) : Int) + 1)), Nat.add_zero, cnt]
  · congr 1
    refine nd_congr _ fun i hi => ?_
    rw [← dot_bit]
    congr 1; omega
  · intro i hi
    have := dot_bit x (64 + i)
    have e : (((x.b.toNat + (64 + i) : Nat) : Int) + 1) = x.b + 1 + ((64 + i : Nat) : Int) := by omega
    rw [e, this]
    exact Nat.testBit_lt_two_pow (Nat.lt_of_lt_of_le h.lt (Nat.pow_le_pow_right (by omega) (by omega)))
  · intro i hi
    exact dot_low (by omega)
theorem cnt_sub {x y : S} (hn : x.n = y.n) (hx : Wf x) (hy : Wf y) (h : Sub x y) : cnt x ≤ cnt y ∧ (cnt x = cnt y → x = y) := by
  let M := x.b.toNat + y.b.toNat + 64
  have h1 := cnt_nd hx M (by omega)
  have h2 := cnt_nd hy M (by omega)
  have h3 := nd_mono (p := fun i => dot x (i + 1)) (q := fun i => dot y (i + 1)) M (fun i _ hd => h _ (by omega) hd)
  refine ⟨by omega, fun e => ext hn hx hy fun c hc => ?_⟩
  by_cases hcM : c.toNat - 1 < M
  · have := h3.2 (by omega) (c.toNat - 1) hcM
    have e2 : (((c.toNat - 1 : Nat) : Int) + 1) = c := by omega
    simpa [e2] using this
  · have z : ∀ z : S, Wf z → z.b.toNat + 64 ≤ M → dot z c = false := by
      intro z hz hzM
      have hb := hz.b0
      have := dot_bit z (c - z.b - 1).toNat
      rw [show z.b + 1 + ((c - z.b - 1).toNat : Int) = c by omega] at this
      rw [this]
      exact Nat.testBit_lt_two_pow (Nat.lt_of_lt_of_le hz.lt (Nat.pow_le_pow_right (by omega) (by omega)))
    rw [z x hx (by omega), z y hy (by omega)]
theorem sub_antisymm {x y : S} (hn : x.n = y.n) (hx : Wf x) (hy : Wf y) (h : Sub x y) (k : Sub y x) : x = y :=
  ext hn hx hy fun c hc => by
    have := h c hc; have := k c hc
    cases h1 : dot x c <;> cases h2 : dot y c <;> simp_all
theorem cnt_withc {x : S} {c : Int} (hx : Wf x) (hc : 1 ≤ c) (hc64 : c ≤ x.b + 64) (h : dot x c = false) : cnt (withc x c) = cnt x + 1 := by
  have hw := withc_wf hx hc64
  let M := x.b.toNat + (withc x c).b.toNat + c.toNat + 64
  have h1 := cnt_nd hx M (by omega)
  have h2 := cnt_nd hw M (by omega)
  have key : ∀ (p q : Nat → Bool) (k : Nat), p k = false → (∀ i, q i = (p i || decide (i = k))) → ∀ M, nd q M = nd p M + (if k < M then 1 else 0) := by
    intro p q k hp hq M
    induction M with
    | zero => simp [nd]
    | succ M ih =>
      simp only [nd, ih, hq M]
      by_cases h1 : M = k
      · subst h1; simp [hp]
      · by_cases h2 : k < M
        · simp [h1, h2, show k < M + 1 by omega]; omega
        · simp [h1, h2, show ¬ k < M + 1 by omega]
  have := key (fun i => dot x (i + 1)) (fun i => dot (withc x c) (i + 1)) (c.toNat - 1) (by
    have e : (((c.toNat - 1 : Nat) : Int) + 1) = c := by omega
    show dot x (((c.toNat - 1 : Nat) : Int) + 1) = false
    rw [e]; exact h) (fun i => by
    rw [withc_dot hc _ (by omega)]
    congr 1; rw [decide_eq_decide]; omega) M
  rw [if_pos (by omega)] at this
  omega
end Go.Proofs.Ytokaeiahhmaokaa.ds
