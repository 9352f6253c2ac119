import Derived.Deep.RegionHeld
import Derived.OrdersHeld
import Derived.WalkKit
import Derived.ProofKit
import Derived.Lib.TrailingZeros
import Derived.Test.YtokaeiahhmaokaaDoorChecked
import Derived.OpenShut
import Derived.Deep.QuietTactic
import Derived.BigQuiet
import Derived.BigRegion
import Derived.Laws.CopyOwn
import Derived.Laws.Bits64b
import Derived.Laws.MathBits
import Derived.Laws.ShiftsVarLaws
import Derived.WalkSmall
import Derived.Laws.ResultCell
import Derived.Lib.BitFns
namespace Go.Proofs.YtokaeiahhmaokaaDoor.ds
open Go.ChangeShapes Go.WideShapes Go.ChangeAt Go.RowKit
set_option linter.unusedVariables false
/-- the operation i is taken: its slot d, its value v -/
theorem tk {P : Program} {ops : Array Oper} {Q : Exit → Act → World → Prop} {md : Region.Mode} {S : World → Prop} {o1 o2 o3 o4 o5} (i d : Nat) (v : Value) {fuel : Nat} {listed : Array Bool} {a : Act} {w : World} (hi : ops[i]? = some ⟨some d, o1, o2, o3, o4, o5⟩) (hy : ∀ w, S w → (execOp a.eval ⟨some d, o1, o2, o3, o4, o5⟩).run P w = .ok (.value v) w)
    (h : wpAnyH P md ops Q S fuel (listed.setIfInBounds i true) (a.put (some d) v) w) (hs : Region.noSelect ops = true := by kernel_rfl) (hf : Region.free md ops listed i = true := by kernel_rfl) (hr : (Region.ready md ops listed).contains i = true := by kernel_rfl) (hQ : ∀ c a w, Q (.panic c) (a.put (some d) v) w → Q (.panic c) a w := by exact fun _ _ _ h => h) (hw : Region.wanted ⟨some d, o1, o2, o3, o4, o5⟩ (yielded ops a.tmps) = true := by rfl) (hS : S w := by assumption) : wpAnyH P md ops Q S (fuel + 1) listed a w :=
  wpAnyH_take hi hs hf hr hQ (Or.inl ⟨hw, hy⟩) hS h
/-- .. is passed over: it is not wanted -/
theorem tu {P : Program} {ops : Array Oper} {Q : Exit → Act → World → Prop} {md : Region.Mode} {S : World → Prop} {o1 o2 o3 o4 o5} (i d : Nat) {fuel : Nat} {listed : Array Bool} {a : Act} {w : World} (hi : ops[i]? = some ⟨some d, o1, o2, o3, o4, o5⟩)
    (h : wpAnyH P md ops Q S fuel (listed.setIfInBounds i true) (a.put (some d) undef) w) (hs : Region.noSelect ops = true := by kernel_rfl) (hf : Region.free md ops listed i = true := by kernel_rfl) (hr : (Region.ready md ops listed).contains i = true := by kernel_rfl) (hQ : ∀ c a w, Q (.panic c) (a.put (some d) undef) w → Q (.panic c) a w := by exact fun _ _ _ h => h) (hw : Region.wanted ⟨some d, o1, o2, o3, o4, o5⟩ (yielded ops a.tmps) = false := by kernel_rfl) (hS : S w := by assumption) : wpAnyH P md ops Q S (fuel + 1) listed a w :=
  wpAnyH_take hi hs hf hr hQ (Or.inr ⟨hw, rfl⟩) hS h
end Go.Proofs.YtokaeiahhmaokaaDoor.ds

namespace Go.Proofs.YtokaeiahhmaokaaDoor.ds
set_option linter.unusedVariables false
set_option linter.unusedSimpArgs false
/-- a span: node, base, bits -/
structure S where
  n : Int
  b : Int
  t : Nat
deriving DecidableEq, Inhabited
def bl (t : Nat) : Nat := if t = 0 then 0 else t.log2 + 1
/-- a count of a span -/
def dot (x : S) (c : Int) : Bool := decide (c ≤ x.b) || x.t.testBit (c - x.b - 1).toNat
def none0 (n : Int) : S := ⟨n, 0, 0⟩
/-- a span for a gap -/
structure Ok (gap : Int) (x : S) : Prop where
  n0 : 0 ≤ x.n
  n8 : x.n < 8
  b0 : 0 ≤ x.b
  bM : x.b ≤ 1048576
  ne : ¬ (x.b = 0 ∧ x.t = 0)
  ev : x.t % 2 = 0
  gp : (bl x.t : Int) ≤ gap
  mx : x.b + bl x.t ≤ 1048576
/-- base not below nothing, bit 0 clear, 64 bits -/
structure Wf (x : S) : Prop where
  b0 : 0 ≤ x.b
  ev : x.t % 2 = 0
  lt : x.t < 2 ^ 64
theorem bl_le {t k : Nat} : bl t ≤ k ↔ t < 2 ^ k := by
  unfold bl
  split
  · subst_vars; simp [Nat.two_pow_pos]
  · rename_i h
    rw [← Nat.log2_lt h]; omega
theorem bl_le' {t k : Nat} : bl t ≤ k ↔ ∀ i, k ≤ i → t.testBit i = false := by
  rw [bl_le]
  constructor
  · intro h i hi
    exact Nat.testBit_lt_two_pow (Nat.lt_of_lt_of_le h (Nat.pow_le_pow_right (by omega) hi))
  · intro h
    exact Nat.lt_pow_two_of_testBit _ h
theorem Ok.wf {gap : Int} {x : S} (h : Ok gap x) (hg : gap ≤ 64) : Wf x := ⟨h.b0, h.ev, bl_le.1 (by have := h.gp; omega)⟩
theorem Ok.mono {g k : Int} {x : S} (h : Ok g x) (hk : g ≤ k) : Ok k x := { h with gp := Int.le_trans h.gp hk }
theorem wf_none (n : Int) : Wf (none0 n) := ⟨Int.le_refl _, rfl, by show 0 < 2 ^ 64; decide⟩
theorem dot_none (n c : Int) (h : 1 ≤ c) : dot (none0 n) c = false := by
  have : decide (c ≤ 0) = false := decide_eq_false (by omega)
  show (decide (c ≤ 0) || Nat.testBit 0 _) = false
  rw [this, Nat.zero_testBit]; rfl
theorem ev_bit {t : Nat} : t % 2 = 0 ↔ t.testBit 0 = false := by
  rw [Nat.testBit_zero]; simp
theorem dot_next {x : S} (h : Wf x) : dot x (x.b + 1) = false := by
  have := ev_bit.1 h.ev
  simp [dot, show x.b + 1 - x.b - 1 = 0 by omega, this]
  omega
theorem dot_bit (x : S) (i : Nat) : dot x (x.b + 1 + i) = x.t.testBit i := by
  have : (x.b + 1 + i - x.b - 1).toNat = i := by omega
  rw [dot, this]
  simp
  omega
theorem dot_low {x : S} {c : Int} (h : c ≤ x.b) : dot x c = true := by simp [dot, h]
theorem ext {x y : S} (hn : x.n = y.n) (hx : Wf x) (hy : Wf y) (h : ∀ c, 1 ≤ c → dot x c = dot y c) : x = y := by
  have hb : x.b = y.b := by
    rcases Int.lt_trichotomy x.b y.b with l | l | l
    · have := h (x.b + 1) (by have := hx.b0; omega)
      rw [dot_next hx, dot_low (by omega)] at this; cases this
    · exact l
    · have := h (y.b + 1) (by have := hy.b0; omega)
      rw [dot_next hy, dot_low (by omega)] at this; cases this
  have ht : x.t = y.t := by
    apply Nat.eq_of_testBit_eq
    intro i
    rw [← dot_bit, ← dot_bit, hb]
    exact h _ (by have := hy.b0; omega)
  cases x; cases y; simp_all
/-- how far the ones go on from bit 0 -/
def tz1 (t : Nat) : Nat → Nat
  | 0 => 0
  | f + 1 => if t % 2 = 0 then 0 else 1 + tz1 (t / 2) f
theorem tz1_le (f : Nat) : ∀ t, tz1 t f ≤ f := by
  induction f with
  | zero => intro t; exact Nat.le_refl _
  | succ f ih => intro t; unfold tz1; split; omega; have := ih (t / 2); omega
theorem tz1_ones (f : Nat) : ∀ t i, i < tz1 t f → t.testBit i = true := by
  induction f with
  | zero => intro t i h; simp [tz1] at h
  | succ f ih =>
    intro t i h
    unfold tz1 at h
    split at h
    · omega
    · match i with
      | 0 => rw [Nat.testBit_zero]; simp; omega
      | i + 1 => rw [Nat.testBit_succ]; exact ih _ _ (by omega)
theorem tz1_stop (f : Nat) : ∀ t, tz1 t f < f → t.testBit (tz1 t f) = false := by
  induction f with
  | zero => intro t h; omega
  | succ f ih =>
    intro t h
    unfold tz1 at h ⊢
    split
    · rename_i h0; exact ev_bit.1 h0
    · rename_i h0
      rw [if_neg h0] at h
      rw [Nat.add_comm, Nat.testBit_succ]; exact ih _ (by omega)
/-- the base over the counts that follow on it -/
def settle (x : S) : S := ⟨x.n, x.b + tz1 x.t 64, x.t >>> tz1 x.t 64⟩
theorem settle_wf {x : S} (h0 : 0 ≤ x.b) (hl : x.t < 2 ^ 64) : Wf (settle x) := by
  refine ⟨by show 0 ≤ x.b + _; omega, ?_, ?_⟩
  · rw [ev_bit]
    show (x.t >>> tz1 x.t 64).testBit 0 = false
    rw [Nat.testBit_shiftRight, Nat.add_zero]
    by_cases h : tz1 x.t 64 < 64
    · exact tz1_stop 64 _ h
    · exact Nat.testBit_lt_two_pow (Nat.lt_of_lt_of_le hl (Nat.pow_le_pow_right (by omega) (by omega)))
  · show x.t >>> _ < 2 ^ 64
    rw [Nat.shiftRight_eq_div_pow]
    exact Nat.lt_of_le_of_lt (Nat.div_le_self _ _) hl
theorem settle_dot (x : S) (c : Int) : dot (settle x) c = dot x c := by
  show (decide (c ≤ x.b + tz1 x.t 64) || (x.t >>> tz1 x.t 64).testBit (c - (x.b + tz1 x.t 64) - 1).toNat) = (decide (c ≤ x.b) || x.t.testBit (c - x.b - 1).toNat)
  rw [Nat.testBit_shiftRight]
  by_cases h1 : c ≤ x.b
  · simp [h1, show c ≤ x.b + tz1 x.t 64 by omega]
  · by_cases h2 : c ≤ x.b + tz1 x.t 64
    · have := tz1_ones 64 x.t (c - x.b - 1).toNat (by omega)
      rw [this, decide_eq_true h2]; simp
    · have : tz1 x.t 64 + (c - (x.b + tz1 x.t 64) - 1).toNat = (c - x.b - 1).toNat := by omega
      rw [this]
      simp [h1, h2]
/-- the counts of both -/
def join (x y : S) : S := if x.b < y.b then settle ⟨y.n, y.b, y.t ||| (x.t >>> (y.b - x.b).toNat)⟩ else settle ⟨x.n, x.b, x.t ||| (y.t >>> (x.b - y.b).toNat)⟩
theorem shr_lt {t k : Nat} (h : t < 2 ^ 64) : t >>> k < 2 ^ 64 := by
  rw [Nat.shiftRight_eq_div_pow]; exact Nat.lt_of_le_of_lt (Nat.div_le_self _ _) h
theorem join_wf {x y : S} (hx : Wf x) (hy : Wf y) : Wf (join x y) := by
  unfold join
  split
  · exact settle_wf hy.b0 (Nat.or_lt_two_pow hy.lt (shr_lt hx.lt))
  · exact settle_wf hx.b0 (Nat.or_lt_two_pow hx.lt (shr_lt hy.lt))
theorem join_n {x y : S} (h : x.n = y.n) : (join x y).n = x.n := by unfold join; split <;> simp [settle, h]
theorem or_dot (n : Int) (b a : Int) (t u : Nat) (h : a ≤ b) (c : Int) : dot ⟨n, b, t ||| (u >>> (b - a).toNat)⟩ c = (dot ⟨n, b, t⟩ c || dot ⟨n, a, u⟩ c) := by
  simp only [dot, Nat.testBit_or, Nat.testBit_shiftRight]
  by_cases h1 : c ≤ b
  · simp [h1]
  · have e : (b - a).toNat + (c - b - 1).toNat = (c - a - 1).toNat := by omega
    rw [e]
    simp [h1, show ¬ c ≤ a by omega]
theorem join_dot {x y : S} (c : Int) : dot (join x y) c = (dot x c || dot y c) := by
  unfold join
  split
  · rw [settle_dot, or_dot _ _ _ _ _ (by omega), Bool.or_comm]; rfl
  · rw [settle_dot, or_dot _ _ _ _ _ (by omega)]; rfl
/-- all counts of x are y's -/
def Sub (x y : S) : Prop := ∀ c, 1 ≤ c → dot x c = true → dot y c = true
theorem join_comm {x y : S} (hn : x.n = y.n) (hx : Wf x) (hy : Wf y) : join x y = join y x :=
  ext (by rw [join_n hn, join_n hn.symm, hn]) (join_wf hx hy) (join_wf hy hx) fun c _ => by rw [join_dot, join_dot, Bool.or_comm]
theorem join_none {x : S} (hx : Wf x) : join x (none0 x.n) = x := ext (join_n rfl) (join_wf hx (wf_none _)) hx fun c hc => by rw [join_dot, dot_none _ _ hc, Bool.or_false]
/-- the greatest count -/
def top (x : S) : Int := x.b + bl x.t
theorem top_le {x : S} {M : Int} (hM : x.b ≤ M) : top x ≤ M ↔ ∀ c, M < c → dot x c = false := by
  unfold top
  constructor
  · intro h c hc
    have h1 := (bl_le' (t := x.t) (k := (M - x.b).toNat)).1 (by omega) (c - x.b - 1).toNat (by omega)
    rw [dot, h1]; simp; omega
  · intro h
    have := (bl_le' (t := x.t) (k := (M - x.b).toNat)).2 (fun i hi => by have := h (x.b + 1 + i) (by omega); rwa [dot_bit] at this)
    omega
theorem base_le_top (x : S) : x.b ≤ top x := by unfold top; omega
/-- a join is a span for the gap -/
theorem join_top {x y : S} (hx : Wf x) (hy : Wf y) : top (join x y) ≤ max (top x) (top y) := by
  have hb : (join x y).b ≤ max (top x) (top y) := by
    by_cases h : (join x y).b ≤ max (top x) (top y)
    · exact h
    · have hd : dot (join x y) (join x y).b = true := dot_low (by omega)
      rw [join_dot] at hd
      have h1 := (top_le (base_le_top x)).1 (Int.le_refl _) (join x y).b (by omega)
      have h2 := (top_le (base_le_top y)).1 (Int.le_refl _) (join x y).b (by omega)
      simp [h1, h2] at hd
  rw [top_le hb]
  intro c hc
  rw [join_dot, (top_le (base_le_top x)).1 (Int.le_refl _) c (by omega), (top_le (base_le_top y)).1 (Int.le_refl _) c (by omega)]; rfl
theorem join_base {x y : S} : x.b ≤ (join x y).b ∧ y.b ≤ (join x y).b := by
  unfold join
  split <;> simp only [settle] <;> constructor <;> omega
/-- a span for the gap, or nothing -/
structure Okn (gap : Int) (n : Int) (x : S) : Prop where
  n : x.n = n
  wf : Wf x
  gp : (bl x.t : Int) ≤ gap
  mx : top x ≤ 1048576
theorem Okn.ok {gap n : Int} {x : S} (h : Okn gap n x) (h0 : 0 ≤ n) (h8 : n < 8) (hne : x ≠ none0 n) : Ok gap x :=
  ⟨by have := h.n; omega, by have := h.n; omega, h.wf.b0, by have := h.mx; unfold top at this; omega, fun ⟨e1, e2⟩ => hne (by have := h.n; cases x; simp_all [none0]), h.wf.ev, h.gp, h.mx⟩
theorem Ok.okn {gap : Int} {x : S} (h : Ok gap x) (hg : gap ≤ 64) : Okn gap x.n x := ⟨rfl, h.wf hg, h.gp, h.mx⟩
theorem okn_none (gap n : Int) (hg : 0 ≤ gap) : Okn gap n (none0 n) := ⟨rfl, wf_none n, by simpa [none0, bl] using hg, by simp [top, none0, bl]⟩
theorem join_okn {gap n : Int} {x y : S} (hx : Okn gap n x) (hy : Okn gap n y) : Okn gap n (join x y) := by
  have h1 := join_top hx.wf hy.wf
  have h2 := join_base (x := x) (y := y)
  have := hx.gp; have := hy.gp; have := hx.mx; have := hy.mx
  refine ⟨(join_n (hx.n.trans hy.n.symm)).trans hx.n, join_wf hx.wf hy.wf, ?_, by omega⟩
  unfold top at *; omega
/-- a count more -/
def withc (x : S) (c : Int) : S := if c ≤ x.b then x else settle ⟨x.n, x.b, x.t ||| 2 ^ (c - x.b - 1).toNat⟩
theorem withc_n (x : S) (c : Int) : (withc x c).n = x.n := by unfold withc; split <;> rfl
theorem withc_dot {x : S} {c : Int} (hc : 1 ≤ c) (e : Int) (he : 1 ≤ e) : dot (withc x c) e = (dot x e || decide (e = c)) := by
  unfold withc
  split
  · rename_i h
    by_cases h1 : e = c
    · subst h1; simp [dot, h]
    · simp [h1]
  · rename_i h
    rw [settle_dot]
    simp only [dot, Nat.testBit_or, Nat.testBit_two_pow]
    by_cases h1 : e ≤ x.b
    · simp [h1]
    · have : decide ((c - x.b - 1).toNat = (e - x.b - 1).toNat) = decide (e = c) := by
        rw [decide_eq_decide]; omega
      rw [this]; simp [h1]
theorem withc_wf {x : S} {c : Int} (hx : Wf x) (hc : c ≤ x.b + 64) : Wf (withc x c) := by
  unfold withc
  split
  · exact hx
  · exact settle_wf hx.b0 (Nat.or_lt_two_pow hx.lt (Nat.pow_lt_pow_right (by omega) (by omega)))
theorem withc_base {x : S} {c : Int} : x.b ≤ (withc x c).b := by unfold withc; split; omega; simp only [settle]; omega
theorem withc_top {x : S} {c M : Int} (hc : 1 ≤ c) (hM : top x ≤ M) (hcM : c ≤ M) (h0 : 0 ≤ x.b) : top (withc x c) ≤ M := by
  have hb0 := withc_base (x := x) (c := c)
  have hbx := base_le_top x
  have hb : (withc x c).b ≤ M := by
    by_cases h : (withc x c).b ≤ M
    · exact h
    · have hd : dot (withc x c) (withc x c).b = true := dot_low (by omega)
      rw [withc_dot hc _ (by omega), (top_le (base_le_top x)).1 (Int.le_refl _) _ (by omega)] at hd
      simp at hd; omega
  rw [top_le hb]
  intro e he
  rw [withc_dot hc _ (by omega), (top_le (base_le_top x)).1 (Int.le_refl _) _ (by omega)]
  simp; omega
theorem withc_okn {gap n c : Int} {x : S} (hx : Okn gap n x) (hg : gap ≤ 64) (hc : 1 ≤ c) (hM : c ≤ 1048576) (hcg : c ≤ x.b + gap) : Okn gap n (withc x c) := by
  have h2 := withc_base (x := x) (c := c)
  have h1 := withc_top (M := x.b + gap) hc (by have := hx.gp; unfold top; omega) hcg hx.wf.b0
  refine ⟨(withc_n x c).trans hx.n, withc_wf hx.wf (by omega), by unfold top at h1; omega, withc_top hc hx.mx hM hx.wf.b0⟩
/-- so many of the first M -/
def nd (p : Nat → Bool) : Nat → Nat
  | 0 => 0
  | M + 1 => nd p M + (p M).toNat
theorem nd_congr {p q : Nat → Bool} : ∀ M, (∀ i, i < M → p i = q i) → nd p M = nd q M
  | 0, _ => rfl
  | M + 1, h => by simp only [nd, nd_congr M (fun i hi => h i (by omega)), h M (by omega)]
theorem nd_add (p : Nat → Bool) (a : Nat) : ∀ k, nd p (a + k) = nd p a + nd (fun i => p (a + i)) k
  | 0 => rfl
  | k + 1 => by rw [← Nat.add_assoc]; simp only [nd, nd_add p a k]; omega
theorem nd_all {p : Nat → Bool} : ∀ M, (∀ i, i < M → p i = true) → nd p M = M
  | 0, _ => rfl
  | M + 1, h => by simp only [nd, nd_all M (fun i hi => h i (by omega)), h M (by omega)]; rfl
theorem nd_none {p : Nat → Bool} : ∀ M, (∀ i, i < M → p i = false) → nd p M = 0
  | 0, _ => rfl
  | M + 1, h => by simp only [nd, nd_none M (fun i hi => h i (by omega)), h M (by omega)]; rfl
/-- how many counts -/
def cnt (x : S) : Nat := x.b.toNat + nd x.t.testBit 64
theorem cnt_nd {x : S} (h : Wf x) (M : Nat) (hM : x.b.toNat + 64 ≤ M) : cnt x = nd (fun i => dot x (i + 1)) M := by
  obtain ⟨k, rfl⟩ : ∃ k, M = x.b.toNat + (64 + k) := ⟨M - x.b.toNat - 64, by omega⟩
  have h0 := h.b0
  rw [nd_add, nd_add, nd_all, nd_none (p := fun i => dot x (((x.b.toNat + (64 + i) : Nat) : Int) + 1)), Nat.add_zero, cnt]
  · congr 1
    refine nd_congr _ fun i hi => ?_
    rw [← dot_bit]
    congr 1; omega
  · intro i hi
    have := dot_bit x (64 + i)
    have e : (((x.b.toNat + (64 + i) : Nat) : Int) + 1) = x.b + 1 + ((64 + i : Nat) : Int) := by omega
    rw [e, this]
    exact Nat.testBit_lt_two_pow (Nat.lt_of_lt_of_le h.lt (Nat.pow_le_pow_right (by omega) (by omega)))
  · intro i hi
    exact dot_low (by omega)
end Go.Proofs.YtokaeiahhmaokaaDoor.ds
namespace Go.Proofs.YtokaeiahhmaokaaDoor.ds
set_option linter.unusedVariables false
set_option linter.unusedSimpArgs false
/-- a set for a gap -/
structure OkL (gap : Int) (s : List S) : Prop where
  ok : ∀ x ∈ s, Ok gap x
  up : s.Pairwise (fun x y => x.n < y.n)
theorem OkL.nil (gap : Int) : OkL gap [] := ⟨by simp, List.Pairwise.nil⟩
theorem OkL.mono {g k : Int} {s : List S} (h : OkL g s) (hk : g ≤ k) : OkL k s := ⟨fun x hx => (h.ok x hx).mono hk, h.up⟩
theorem OkL.tail {g : Int} {x : S} {s : List S} (h : OkL g (x :: s)) : OkL g s := ⟨fun y hy => h.ok y (List.mem_cons_of_mem _ hy), (List.pairwise_cons.1 h.up).2⟩
def ofn : List S → Int → S
  | [], n => none0 n
  | x :: l, n => if x.n = n then x else ofn l n
theorem ofn_n : ∀ (s : List S) (n : Int), (ofn s n).n = n
  | [], n => rfl
  | x :: l, n => by unfold ofn; split; assumption; exact ofn_n l n
theorem ofn_out : ∀ (s : List S) (n : Int), (∀ x ∈ s, x.n ≠ n) → ofn s n = none0 n
  | [], n, _ => rfl
  | x :: l, n, h => by rw [ofn, if_neg (h x List.mem_cons_self)]; exact ofn_out l n fun y hy => h y (List.mem_cons_of_mem _ hy)
theorem ofn_or : ∀ (s : List S) (n : Int), ofn s n = none0 n ∨ ofn s n ∈ s
  | [], n => .inl rfl
  | x :: l, n => by
    unfold ofn
    split
    · exact .inr List.mem_cons_self
    · rcases ofn_or l n with h | h
      · exact .inl h
      · exact .inr (List.mem_cons_of_mem _ h)
theorem ofn_mem {g : Int} : ∀ (s : List S), OkL g s → ∀ x ∈ s, ofn s x.n = x
  | y :: l, h, x, hx => by
    unfold ofn
    rcases List.mem_cons.1 hx with rfl | hx
    · rw [if_pos rfl]
    · have := (List.pairwise_cons.1 h.up).1 x hx
      rw [if_neg (by omega)]
      exact ofn_mem l h.tail x hx
theorem OkL.okn {g : Int} {s : List S} (h : OkL g s) (h0 : 0 ≤ g) (hg : g ≤ 64) (n : Int) : Okn g n (ofn s n) := by
  rcases ofn_or s n with e | e
  · rw [e]; exact okn_none g n h0
  · have := (h.ok _ e).okn hg
    rw [ofn_n] at this; exact this
theorem OkL.wf {g : Int} {s : List S} (h : OkL g s) (h0 : 0 ≤ g) (hg : g ≤ 64) (n : Int) : Wf (ofn s n) := (h.okn h0 hg n).wf
theorem okL_ext {g k : Int} : ∀ (s t : List S), OkL g s → OkL k t → (∀ n, 0 ≤ n → n < 8 → ofn s n = ofn t n) → s = t
  | [], [], _, _, _ => rfl
  | [], y :: t, _, ht, h => by
    have o := ht.ok y List.mem_cons_self
    have := h y.n o.n0 o.n8
    rw [ofn_mem _ ht y List.mem_cons_self] at this
    exact absurd ⟨by rw [← this]; rfl, by rw [← this]; rfl⟩ o.ne
  | x :: s, [], hs, _, h => by
    have o := hs.ok x List.mem_cons_self
    have := h x.n o.n0 o.n8
    rw [ofn_mem _ hs x List.mem_cons_self] at this
    exact absurd ⟨by rw [this]; rfl, by rw [this]; rfl⟩ o.ne
  | x :: s, y :: t, hs, ht, h => by
    have ox := hs.ok x List.mem_cons_self
    have oy := ht.ok y List.mem_cons_self
    have us := (List.pairwise_cons.1 hs.up).1
    have ut := (List.pairwise_cons.1 ht.up).1
    have hx := h x.n ox.n0 ox.n8
    have hy := h y.n oy.n0 oy.n8
    rw [ofn_mem _ hs x List.mem_cons_self] at hx
    rw [ofn_mem _ ht y List.mem_cons_self] at hy
    rcases Int.lt_trichotomy x.n y.n with l | l | l
    · rw [ofn_out (y :: t) x.n (fun z hz => by rcases List.mem_cons.1 hz with rfl | hz; omega; have := ut z hz; omega)] at hx
      exact absurd ⟨by rw [hx]; rfl, by rw [hx]; rfl⟩ ox.ne
    · have e : x = y := by
        rw [l] at hx
        rw [ofn_mem _ ht y List.mem_cons_self] at hx; exact hx
      subst e
      rw [okL_ext s t hs.tail ht.tail fun n h0 h8 => ?_]
      have hn := h n h0 h8
      unfold ofn at hn
      by_cases e : x.n = n
      · rw [ofn_out s n (fun z hz => by have := us z hz; omega), ofn_out t n (fun z hz => by have := ut z hz; omega)]
      · simpa [e] using hn
    · rw [ofn_out (x :: s) y.n (fun z hz => by rcases List.mem_cons.1 hz with rfl | hz; omega; have := us z hz; omega)] at hy
      exact absurd ⟨by rw [← hy]; rfl, by rw [← hy]; rfl⟩ oy.ne
/-- the spans of the first k nodes -/
def gath (F : Nat → S) : Nat → List S
  | 0 => []
  | k + 1 => gath F k ++ (if F k = none0 k then [] else [F k])
theorem gath_lt {F : Nat → S} (hn : ∀ k, (F k).n = k) : ∀ k, ∀ x ∈ gath F k, x.n < k ∧ ∃ j, j < k ∧ x = F j ∧ F j ≠ none0 j
  | 0, x, h => by simp [gath] at h
  | k + 1, x, h => by
    simp only [gath, List.mem_append] at h
    rcases h with h | h
    · obtain ⟨h1, j, h2, h3⟩ := gath_lt hn k x h
      exact ⟨by omega, j, by omega, h3⟩
    · split at h
      · simp at h
      · rename_i h0
        simp at h; subst h
        exact ⟨by rw [hn]; omega, k, by omega, rfl, h0⟩
theorem gath_ok {g : Int} {F : Nat → S} (hF : ∀ k : Nat, k < 8 → Okn g k (F k)) (hn : ∀ k, (F k).n = k) : ∀ k, k ≤ 8 → OkL g (gath F k)
  | 0, _ => OkL.nil g
  | k + 1, hk => by
    have ih := gath_ok hF hn k (by omega)
    refine ⟨?_, ?_⟩
    · intro x hx
      obtain ⟨_, j, hj, rfl, hne⟩ := gath_lt hn (k + 1) x hx
      exact (hF j (by omega)).ok (by omega) (by omega) hne
    · simp only [gath]
      rw [List.pairwise_append]
      refine ⟨ih.up, by split <;> simp, ?_⟩
      intro x hx y hy
      have := (gath_lt hn k x hx).1
      split at hy
      · simp at hy
      · simp at hy; subst hy; rw [hn]; exact this
theorem ofn_append (s t : List S) (n : Int) (h : ∀ x ∈ s, x.n ≠ n) : ofn (s ++ t) n = ofn t n := by
  induction s with
  | nil => rfl
  | cons x l ih => rw [List.cons_append, ofn, if_neg (h x List.mem_cons_self)]; exact ih fun y hy => h y (List.mem_cons_of_mem _ hy)
theorem ofn_append' (s t : List S) (n : Int) (h : ∀ x ∈ t, x.n ≠ n) : ofn (s ++ t) n = ofn s n := by
  induction s with
  | nil => exact ofn_out t n h
  | cons x l ih => rw [List.cons_append, ofn, ofn, ih]
theorem ofn_gath {F : Nat → S} (hn : ∀ k, (F k).n = k) (j : Nat) : ∀ k, ofn (gath F k) j = if j < k then F j else none0 j
  | 0 => rfl
  | k + 1 => by
    simp only [gath]
    by_cases h : j = k
    · subst h
      rw [ofn_append _ _ _ (fun x hx => by have := (gath_lt hn j x hx).1; omega), if_pos (Nat.lt_succ_self j)]
      split
      · rename_i h0; exact h0.symm
      · simp [ofn, hn]
    · rw [ofn_append' _ _ _ (fun x hx => by split at hx; simp at hx; simp at hx; subst hx; rw [hn]; omega), ofn_gath hn j k]
      by_cases h2 : j < k
      · rw [if_pos h2, if_pos (by omega)]
      · rw [if_neg h2, if_neg (by omega)]
theorem gath_congr {F G : Nat → S} : ∀ k, (∀ j, j < k → F j = G j) → gath F k = gath G k
  | 0, _ => rfl
  | k + 1, h => by simp only [gath, gath_congr k (fun j hj => h j (by omega)), h k (by omega)]
theorem gath_ofn {g : Int} {s : List S} (h : OkL g s) (h0 : 0 ≤ g) (hg : g ≤ 64) : gath (fun k => ofn s k) 8 = s := by
  refine okL_ext _ _ (gath_ok (g := g) (fun k _ => h.okn h0 hg k) (fun k => ofn_n s k) 8 (by omega)) h fun n hn0 hn8 => ?_
  obtain ⟨j, rfl⟩ := Int.eq_ofNat_of_zero_le hn0
  have := ofn_gath (F := fun k => ofn s k) (fun k => ofn_n s k) j 8
  rw [if_pos (by omega)] at this
  exact this
/-- all dots of a are b's -/
def Win (a b : List S) : Prop := ∀ n : Nat, n < 8 → Sub (ofn a n) (ofn b n)
/-- how many dots -/
def tot (s : List S) : Nat := (s.map cnt).sum
def sumF (F : Nat → S) : Nat → Nat
  | 0 => 0
  | k + 1 => sumF F k + cnt (F k)
theorem cnt_none (n : Int) : cnt (none0 n) = 0 := by
  show (0 : Int).toNat + nd (Nat.testBit 0) 64 = 0
  rw [nd_none 64 (fun i _ => Nat.zero_testBit i)]; rfl
theorem tot_append (s t : List S) : tot (s ++ t) = tot s + tot t := by simp [tot]
theorem tot_gath (F : Nat → S) : ∀ k, tot (gath F k) = sumF F k
  | 0 => rfl
  | k + 1 => by
    simp only [gath, sumF, tot_append, tot_gath F k]
    split
    · rename_i h; rw [h, cnt_none]; rfl
    · simp [tot]
theorem tot_eq {g : Int} {s : List S} (h : OkL g s) (h0 : 0 ≤ g) (hg : g ≤ 64) : tot s = sumF (fun k => ofn s k) 8 := by
  rw [← tot_gath, gath_ofn h h0 hg]
/-- the union -/
def uni (a b : List S) : List S := gath (fun k => join (ofn a k) (ofn b k)) 8
theorem uni_ok {g : Int} {a b : List S} (ha : OkL g a) (hb : OkL g b) (h0 : 0 ≤ g) (hg : g ≤ 64) : OkL g (uni a b) :=
  gath_ok (fun k _ => join_okn (ha.okn h0 hg k) (hb.okn h0 hg k)) (fun k => (join_n (by rw [ofn_n, ofn_n])).trans (ofn_n a k)) 8 (by omega)
theorem ofn_uni (a b : List S) (n : Nat) (hn : n < 8) : ofn (uni a b) n = join (ofn a n) (ofn b n) := by
  have := ofn_gath (F := fun k => join (ofn a k) (ofn b k)) (fun k => (join_n (by rw [ofn_n, ofn_n])).trans (ofn_n a k)) n 8
  rwa [if_pos hn] at this
theorem uni_comm {g : Int} {a b : List S} (ha : OkL g a) (hb : OkL g b) (h0 : 0 ≤ g) (hg : g ≤ 64) : uni a b = uni b a :=
  gath_congr 8 fun j _ => join_comm (by rw [ofn_n, ofn_n]) (ha.wf h0 hg j) (hb.wf h0 hg j)
theorem uni_nil {g : Int} {a : List S} (ha : OkL g a) (h0 : 0 ≤ g) (hg : g ≤ 64) : uni a [] = a := by
  refine Eq.trans (gath_congr 8 fun j _ => ?_) (gath_ofn ha h0 hg)
  have := join_none (ha.wf h0 hg j)
  rw [ofn_n] at this; exact this
/-- the bases -/
def bas (a : List S) : List S := gath (fun k => ⟨k, (ofn a k).b, 0⟩) 8
theorem bas_okn {g : Int} {a : List S} (ha : OkL g a) (h0 : 0 ≤ g) (hg : g ≤ 64) (k : Nat) : Okn 1 k ⟨k, (ofn a k).b, 0⟩ := by
  have := ha.okn h0 hg k
  refine ⟨rfl, ⟨this.wf.b0, rfl, Nat.two_pow_pos 64⟩, by simp [bl], ?_⟩
  have h1 := this.mx
  unfold top at h1 ⊢
  simp only [bl, if_pos]; omega
theorem bas_ok {g : Int} {a : List S} (ha : OkL g a) (h0 : 0 ≤ g) (hg : g ≤ 64) : OkL 1 (bas a) :=
  gath_ok (fun k _ => bas_okn ha h0 hg k) (fun k => rfl) 8 (by omega)
theorem bas_win (a : List S) : Win (bas a) a := by
  intro n hn c hc hd
  have := ofn_gath (F := fun k => ⟨k, (ofn a k).b, 0⟩) (fun k => rfl) n 8
  rw [if_pos hn] at this
  rw [bas, this] at hd
  simp only [dot, Nat.zero_testBit, Bool.or_false] at hd
  exact dot_low (by simpa using hd)
end Go.Proofs.YtokaeiahhmaokaaDoor.ds
namespace Go.Proofs.YtokaeiahhmaokaaDoor.ds
set_option linter.unusedVariables false
set_option linter.unusedSimpArgs false
/-- byte by byte -/
def ln (f : Nat → Nat) : Nat → Nat → Nat
  | 0, _ => 0
  | k + 1, x => f (x % 256) + 256 * ln f k (x / 256)
def mk (m : Nat) : Nat → Nat
  | 0 => 0
  | k + 1 => m + 256 * mk m k
def f1 (b : Nat) : Nat := ((b / 2 ^ 1) &&& 85) + (b &&& 85)
def f2 (b : Nat) : Nat := ((b / 2 ^ 2) &&& 51) + (b &&& 51)
/-- what OnesCount64 reckons -/
def ones1 (x : Nat) : Nat := ((x / 2) &&& 6148914691236517205) + (x &&& 6148914691236517205)
def ones2 (x : Nat) : Nat := ((x / 4) &&& 3689348814741910323) + (x &&& 3689348814741910323)
def ones3 (x : Nat) : Nat := (x / 16 + x) &&& 1085102592571150095
def add8 (y : Nat) : Nat := y + y / 256
def add16 (y : Nat) : Nat := y + y / 65536
def add32 (y : Nat) : Nat := y + y / 4294967296
theorem ones_lt (x : Nat) : ones1 x < 18446744073709551616 ∧ ones2 (ones1 x) < 18446744073709551616 ∧ ones2 (ones1 x) / 16 + ones2 (ones1 x) < 18446744073709551616 := by
  have a1 : ∀ y m : Nat, y &&& m ≤ m := fun y m => Nat.and_le_right
  have h1 := a1 (x / 2) 6148914691236517205
  have h2 := a1 x 6148914691236517205
  have h3 := a1 (ones1 x / 4) 3689348814741910323
  have h4 := a1 (ones1 x) 3689348814741910323
  unfold ones2 at *
  unfold ones1 at *
  omega
/-- the trailing ones by the zeros of the others -/
theorem tz1_ctz : ∀ (f t y : Nat), t + y = 2 ^ f - 1 → tz1 t f = (if y = 0 then f else Lib.ctzFrom f y)
  | 0, t, y, h => by
    have : y = 0 := by simp at h; omega
    simp [tz1, this]
  | f + 1, t, y, h => by
    have hp : 2 ^ (f + 1) = 2 * 2 ^ f := by rw [Nat.pow_succ]; omega
    have h0 : 0 < 2 ^ f := Nat.two_pow_pos f
    unfold tz1 Lib.ctzFrom
    by_cases ht : t % 2 = 0
    · rw [if_pos ht, if_neg (by omega), if_pos (by omega)]
    · rw [if_neg ht, tz1_ctz f (t / 2) (y / 2) (by omega)]
      by_cases hy : y = 0
      · subst hy; simp; omega
      · rw [if_neg hy, if_neg (by omega), if_neg (by omega)]
theorem tz1_ctz64 (t : Nat) (ht : t < 2 ^ 64) : Lib.ctz 64 (18446744073709551615 - t) = tz1 t 64 := by
  rw [tz1_ctz 64 t (18446744073709551615 - t) (by omega)]; rfl
end Go.Proofs.YtokaeiahhmaokaaDoor.ds
namespace Go.Proofs.YtokaeiahhmaokaaDoor.ds
open Go.ChangeShapes Go.WideShapes Go.ChangeAt Go.RowKit
set_option linter.unusedVariables false
/-- Blocks outside of X are as they were. -/
structure Apart (X : List Nat) (w w' : World) : Prop where
  os : w'.os = w.os
  tape : w'.tape = w.tape
  output : w'.output = w.output
  size : w.heap.size ≤ w'.heap.size
  block : ∀ k, k < w.heap.size → k ∉ X → w'.heap[k]? = w.heap[k]?
theorem Apart.refl (X : List Nat) (w : World) : Apart X w w := ⟨rfl, rfl, rfl, Nat.le_refl _, fun _ _ _ => rfl⟩
theorem Apart.trans {X : List Nat} {a b c : World} (h : Apart X a b) (k : Apart X b c) : Apart X a c :=
  ⟨k.os.trans h.os, k.tape.trans h.tape, k.output.trans h.output, Nat.le_trans h.size k.size, fun i hi hx => (k.block i (Nat.lt_of_lt_of_le hi h.size) hx).trans (h.block i hi hx)⟩
theorem Apart.mono {X Y : List Nat} {a b : World} (h : Apart X a b) (hs : ∀ x ∈ X, x ∈ Y) : Apart Y a b :=
  ⟨h.os, h.tape, h.output, h.size, fun i hi hx => h.block i hi (fun m => hx (hs i m))⟩
theorem Apart.trans' {X Y : List Nat} {a b c : World} (h : Apart X a b) (k : Apart Y b c) (hy : ∀ y ∈ Y, y ∈ X ∨ a.heap.size ≤ y) : Apart X a c :=
  ⟨k.os.trans h.os, k.tape.trans h.tape, k.output.trans h.output, Nat.le_trans h.size k.size, fun i hi hx => (k.block i (Nat.lt_of_lt_of_le hi h.size) (fun m => by rcases hy i m with h1 | h1; exact hx h1; omega)).trans (h.block i hi hx)⟩
theorem Apart.drewN {X : List Nat} {a b : World} (h : Apart X a b) (n : Nat) : Apart X a (b.drewN n) := ⟨h.os, h.tape, h.output, h.size, h.block⟩
theorem Apart.drew {X : List Nat} {a b : World} (h : Apart X a b) : Apart X a b.drew := ⟨h.os, h.tape, h.output, h.size, h.block⟩
theorem Apart.alloc {X : List Nat} {a b : World} (h : Apart X a b) (o : Obj) : Apart X a (b.alloc o) :=
  h.trans ⟨rfl, rfl, rfl, by simp, fun k hk _ => Below.heap_alloc _ _ _ (by omega)⟩
theorem Apart.setCell {X : List Nat} {a b : World} (h : Apart X a b) {p : Addr} (hp : p.block ∈ X ∨ a.heap.size ≤ p.block) (u : Value) : Apart X a (b.setCell p u) := by
  refine h.trans' (Y := [p.block]) ⟨rfl, rfl, rfl, by simp [World.setCell], fun k _ hx => Below.heap_setCell _ _ _ _ (fun e => hx (e ▸ by simp))⟩ ?_
  intro y hy; simp at hy; subst hy; exact hp
theorem Apart.cell {X : List Nat} {w w' : World} (h : Apart X w w') {p : Addr} (hp : p.block < w.heap.size) (hx : p.block ∉ X) : w'.cell? p = w.cell? p := World.cell?_of_block (w := w) (h.block p.block hp hx)
theorem Apart.below {X : List Nat} {w w' : World} (h : Apart X w w') {B : Nat} (hB : B ≤ w.heap.size) (hx : ∀ x ∈ X, B ≤ x) : Below B w w' :=
  ⟨h.os, h.tape, h.output, h.size, fun k hk => h.block k (by omega) (fun m => by have := hx k m; omega)⟩
theorem lt_of_heap {w : World} {g : Nat} {o : Obj} (h : w.heap[g]? = some o) : g < w.heap.size := (Array.getElem?_eq_some_iff.1 h).1
theorem own_apart {w w' : World} {base : Nat} {e : TypeId} {size : Nat} {v : Value} {n : Nat} {xs : List Value} {X : List Nat} (h : w.ownsRow base e size v n xs) (a : Apart X w w') (hx : ∀ k, v.ownBlock = some k → k ∉ X) : w'.ownsRow base e size v n xs := by
  obtain ⟨hl, ⟨hv, hz⟩ | ⟨g, cap, cur, rfl, hb, hr, hrest⟩⟩ := h
  · exact ⟨hl, .inl ⟨hv, hz⟩⟩
  · exact ⟨hl, .inr ⟨g, cap, cur, rfl, hb, (a.block g (lt_of_heap hr) (hx g rfl)).trans hr, hrest⟩⟩
theorem apart_grown {w w' : World} {row : Option Nat} (h : w.grownBy w' row) : Apart row.toList w w' :=
  ⟨h.os, h.tape, h.output, h.size, fun k hk hx => h.block k hk (fun e => hx (by simp [← e]))⟩
/-- the table of math/bits in its variable -/
structure Tab (w : World) : Prop where
  at' : ∀ j, j < 64 → w.cell? ⟨0, j, none⟩ = some (.int .u8 (Lib.deBruijn64tab.getD j 0))
theorem Tab.lt {w : World} (h : Tab w) : 0 < w.heap.size := block_lt_of_cell (h.at' 0 (by decide))
theorem Tab.kept {w w' : World} {X : List Nat} (h : Tab w) (a : Apart X w w') (hX : 0 ∉ X) : Tab w' := ⟨fun j hj => (a.cell h.lt hX).trans (h.at' j hj)⟩
theorem Tab.kept0 {w w' : World} (h : Tab w) (a : Apart [] w w') : Tab w' := h.kept a (by simp)
/-- a span as a value -/
def spv (x : S) : Value := .agg #[.int .i64 x.n, .int .i64 x.b, .int .u64 (x.t : Int)]
def ec (x : S) : List Value := [.int .i64 x.n, .int .i64 x.b, .int .u64 (x.t : Int)]
def flat (es : List S) : List Value := es.flatMap ec
theorem flat_length (es : List S) : (flat es).length = es.length * 3 := by
  induction es with
  | nil => rfl
  | cons e l ih => simp only [flat, List.flatMap_cons, List.length_append, List.length_cons] at *; simp only [ec, List.length_cons, List.length_nil]; omega
def g (es : List S) (k : Nat) : S := es.getD k default
theorem g_mem {es : List S} {k : Nat} (h : k < es.length) : g es k ∈ es := by
  unfold g; rw [List.getD_eq_getElem?_getD, List.getElem?_eq_getElem h]; exact List.getElem_mem h
theorem flat_get (es : List S) : ∀ (k : Nat), k < es.length → (flat es)[k * 3]? = some (.int .i64 (g es k).n) ∧ (flat es)[k * 3 + 1]? = some (.int .i64 (g es k).b) ∧ (flat es)[k * 3 + 2]? = some (.int .u64 ((g es k).t : Int)) := by
  induction es with
  | nil => intro k hk; simp at hk
  | cons e l ih =>
    intro k hk
    match k with
    | 0 => exact ⟨rfl, rfl, rfl⟩
    | k + 1 =>
      have := ih k (by simpa using hk)
      rw [show (k + 1) * 3 = k * 3 + 3 from by omega]
      exact this
theorem flat_snoc (es : List S) (e : S) : flat es ++ [.int .i64 e.n, .int .i64 e.b, .int .u64 (e.t : Int)] = flat (es ++ [e]) := by simp [flat, ec]
/-- a slice of spans, as it reads -/
def Sp (w : World) (p : Option Addr) (xs : List S) : Prop :=
  0 < xs.length → ∃ P o, p = some ⟨P, o, none⟩ ∧ P < w.heap.size ∧ ∀ i, i < xs.length → w.cell? ⟨P, o + i * 3, none⟩ = some (.int .i64 (g xs i).n) ∧ w.cell? ⟨P, o + i * 3 + 1, none⟩ = some (.int .i64 (g xs i).b) ∧ w.cell? ⟨P, o + i * 3 + 2, none⟩ = some (.int .u64 ((g xs i).t : Int))
theorem Sp.kept {w w' : World} {p : Option Addr} {xs : List S} {X : List Nat} (h : Sp w p xs) (a : Apart X w w') (hX : ∀ P o, p = some ⟨P, o, none⟩ → P ∉ X) : Sp w' p xs := by
  intro h0
  obtain ⟨P, o, rfl, hP, hc⟩ := h h0
  refine ⟨P, o, rfl, Nat.lt_of_lt_of_le hP a.size, fun i hi => ?_⟩
  have hx := hX P o rfl
  obtain ⟨c0, c1, c2⟩ := hc i hi
  exact ⟨(a.cell hP hx).trans c0, (a.cell hP hx).trans c1, (a.cell hP hx).trans c2⟩
theorem Sp.kept0 {w w' : World} {p : Option Addr} {xs : List S} (h : Sp w p xs) (a : Apart [] w w') : Sp w' p xs := h.kept a (by simp)
theorem Sp.nil (w : World) (p : Option Addr) : Sp w p [] := fun h => absurd h (by simp)
theorem Sp.own {w : World} {p : Option Addr} {n cap : Nat} {xs : List S} {base : Nat} (h : w.ownsRow base 80 3 (.slice p n cap) n (flat xs)) (hn : n = xs.length) : Sp w p xs := by
  subst hn
  intro h0
  obtain ⟨hl, ⟨hv, hz⟩ | ⟨G, cap', cur, hv, hb, hr, hle, _⟩⟩ := id h
  · omega
  · simp only [Value.slice.injEq] at hv
    obtain ⟨rfl, _, rfl⟩ := hv
    refine ⟨G, 0, rfl, lt_of_heap hr, fun i hi => ?_⟩
    obtain ⟨c0, c1, c2⟩ := flat_get xs i hi
    rw [Nat.zero_add]
    have hfl := flat_length xs
    exact ⟨by rw [h.cellAt _ (by omega)]; exact c0, by rw [h.cellAt _ (by omega)]; exact c1, by rw [h.cellAt _ (by omega)]; exact c2⟩
theorem size52 : (Tryd.prog.info? 80).map (·.size) = some 3 := by kernel_rfl
theorem info52 : (Tryd.prog.info? 80).map (fun i => (i.zero, i.size, i.bytes)) = some (some (.agg #[.int .i64 0, .int .i64 0, .int .u64 0]), 3, 24) := by kernel_rfl
theorem row3 {w : World} {g : Nat} {t : TypeId} {a b c : Value} (h : w.heap[g]? = some (.cells #[a, b, c] t (0, 0))) (x y u : Value) : (((w.setCell ⟨g, 0, none⟩ x).setCell ⟨g, 1, none⟩ y).setCell ⟨g, 2, none⟩ u).heap[g]? = some (.cells #[x, y, u] t (0, 0)) := by
  have h1 := heap_setCell_same w g 0 _ t x h
  have h2 := heap_setCell_same _ g 1 _ t y h1
  have h3 := heap_setCell_same _ g 2 _ t u h2
  simpa using h3
end Go.Proofs.YtokaeiahhmaokaaDoor.ds
namespace Go.Proofs.YtokaeiahhmaokaaDoor.ds
open Go.ChangeShapes Go.WideShapes Go.ChangeAt Go.RowKit
set_option linter.unusedVariables false
theorem bl_shift (x k : Nat) (h : 0 < x / 2 ^ k) : bl x = k + bl (x / 2 ^ k) := by
  have h1 := (bl_le (t := x / 2 ^ k) (k := bl (x / 2 ^ k))).1 (Nat.le_refl _)
  have hp := Nat.two_pow_pos k
  apply Nat.le_antisymm
  · rw [bl_le, Nat.pow_add, Nat.mul_comm]
    exact (Nat.div_lt_iff_lt_mul hp).1 h1
  · by_cases hc : k + bl (x / 2 ^ k) ≤ bl x
    · exact hc
    · have hb : 1 ≤ bl (x / 2 ^ k) := by
        by_cases h0 : 1 ≤ bl (x / 2 ^ k)
        · exact h0
        · have := (bl_le (t := x / 2 ^ k) (k := 0)).1 (by omega)
          have h2 : x / 2 ^ k < 1 := this
          omega
      have h2 := (bl_le (t := x) (k := k + (bl (x / 2 ^ k) - 1))).1 (by omega)
      rw [Nat.pow_add, Nat.mul_comm] at h2
      have h3 := (Nat.div_lt_iff_lt_mul hp).2 h2
      have := (bl_le (t := x / 2 ^ k) (k := bl (x / 2 ^ k) - 1)).2 h3
      omega
theorem tabs : ∀ j : Fin 256, (Lib.len8tab[j.val]?).map (·.toNat) = some (bl j.val) := by decide +kernel
theorem tabsize : Lib.len8tab.size = 256 := by decide +kernel
theorem tabv (i : Nat) (h : i < Lib.len8tab.size) : (Lib.len8tab[i]'h).toNat = bl i := by
  have := tabs ⟨i, by rw [← tabsize]; exact h⟩
  rw [getElem?_pos Lib.len8tab i h] at this
  simpa using this
theorem bl8 {i : Nat} (h : i < 256) : bl i ≤ 8 := bl_le.2 h
theorem arm (x y : Nat) (k : Nat) (e : y = x / 2 ^ k) (h0 : 0 < y) (h8 : y < 256) (hk : k ≤ 56) : wrap64 ((k : Int) + wrap64 (bl y : Int)) = (bl x : Int) := by
  have h := bl_shift x k (by omega)
  rw [← e] at h
  have := bl8 h8
  unfold wrap64
  omega
theorem arm0 (y : Nat) (h8 : y < 256) : wrap64 (wrap64 (bl y : Int)) = (bl y : Int) := by
  have := bl8 h8
  unfold wrap64
  omega
set_option maxHeartbeats 4000000 in
set_option maxRecDepth 100000 in
theorem len64i (x : Int) (w : World) (h0 : 0 ≤ x) (h1 : x ≤ 18446744073709551615) :
    Calls Tryd.prog 122 #[.int .u64 x] w fun e w' => e = .returned (.int .i64 (bl x.toNat)) ∧ w' = w := by
  go_enter Tryd.func122, Tryd.ntmps122
  go_wp2
  all_goals first
    | (go_ret; refine ⟨congrArg Ending.returned (congrArg (Value.int IntKind.i64) ?_), rfl⟩; rw [tabv])
    | (exfalso; have hs := tabsize; omega)
  all_goals first
    | (refine arm x.toNat (x / 4294967296 / 65536 / 256).toNat 56 ?_ ?_ ?_ ?_ <;> omega)
    | (refine arm x.toNat (x / 4294967296 / 65536).toNat 48 ?_ ?_ ?_ ?_ <;> omega)
    | (refine arm x.toNat (x / 4294967296 / 256).toNat 40 ?_ ?_ ?_ ?_ <;> omega)
    | (refine arm x.toNat (x / 4294967296).toNat 32 ?_ ?_ ?_ ?_ <;> omega)
    | (refine arm x.toNat (x / 65536 / 256).toNat 24 ?_ ?_ ?_ ?_ <;> omega)
    | (refine arm x.toNat (x / 65536).toNat 16 ?_ ?_ ?_ ?_ <;> omega)
    | (refine arm x.toNat (x / 256).toNat 8 ?_ ?_ ?_ ?_ <;> omega)
    | (refine arm0 x.toNat ?_; omega)
theorem len64 (x : Nat) (hx : x < 2 ^ 64) (w : World) : Calls Tryd.prog 122 #[.int .u64 x] w fun e w' => e = .returned (.int .i64 (bl x)) ∧ w' = w := by
  have := len64i x w (by omega) (by omega)
  simpa using this
end Go.Proofs.YtokaeiahhmaokaaDoor.ds
