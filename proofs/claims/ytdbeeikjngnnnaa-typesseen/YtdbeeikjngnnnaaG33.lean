import Derived.Test.YtdbeeikjngnnnaaG30
namespace Go.Proofs.Ytdbeeikjngnnnaa.ty
open Go.ChangeShapes Go.WideShapes Go.ChangeAt Go.RowKit
set_option linter.unusedVariables false
set_option linter.unusedSimpArgs false
/-! ### registers -/
theorem cmI_neg (a b : Int) : cmI a b < 0 ↔ a < b := by
  unfold cmI
  by_cases h : a < b
  · simp [h]
  · by_cases k : a > b <;> simp [h, k]
theorem cmI_zero (a b : Int) : cmI a b = 0 ↔ a = b := by
  unfold cmI
  by_cases h : a < b
  · simp [h]; omega
  · by_cases k : a > b
    · simp [h, k]; omega
    · simp [h, k]; omega
theorem cmS_neg (a b : ByteArray) : cmS a b < 0 ↔ bl a b = true := by
  unfold cmS
  rw [bl_less]
  cases bl a b
  · simp only [Bool.false_eq_true, if_false, iff_false]
    split <;> decide
  · simp
/-- the order of what was written -/
def Lt3 (x y : Int × Int × ByteArray) : Prop := x.1 < y.1 ∨ (x.1 = y.1 ∧ (x.2.1 < y.2.1 ∨ (x.2.1 = y.2.1 ∧ bl x.2.2 y.2.2 = true)))
theorem later_iff (s a : Int) (t : ByteArray) (s2 a2 : Int) (t2 : ByteArray) : orL [cmI s s2, cmI a a2, cmS t t2] < 0 ↔ Lt3 (s, a, t) (s2, a2, t2) := by
  unfold Lt3
  simp only [orL]
  by_cases h1 : cmI s s2 = 0
  · have e1 := (cmI_zero s s2).1 h1
    simp only [h1, ne_eq, not_true, if_false]
    by_cases h2 : cmI a a2 = 0
    · have e2 := (cmI_zero a a2).1 h2
      simp only [h2, ne_eq, not_true, if_false]
      subst e1; subst e2
      by_cases h3 : cmS t t2 = 0
      · simp only [h3, ne_eq, not_true, if_false]
        have h4 := cmS_neg t t2
        rw [h3] at h4
        simp only [Int.lt_irrefl, false_iff] at h4
        simp [h4]
      · simp only [h3, ne_eq, not_false_eq_true, if_true]
        rw [cmS_neg]
        simp
    · simp only [h2, ne_eq, not_false_eq_true, if_true]
      rw [cmI_neg]
      have : a ≠ a2 := fun e => h2 ((cmI_zero a a2).2 e)
      subst e1
      simp [this]
  · simp only [h1, ne_eq, not_false_eq_true, if_true]
    rw [cmI_neg]
    have : s ≠ s2 := fun e => h1 ((cmI_zero s s2).2 e)
    simp [this]
theorem Lt3.trans {x y z : Int × Int × ByteArray} (h : Lt3 x y) (k : Lt3 y z) : Lt3 x z := by
  rcases h with h | ⟨h, h' | ⟨h', h''⟩⟩ <;> rcases k with k | ⟨k, k' | ⟨k', k''⟩⟩
  · exact .inl (by omega)
  · exact .inl (by omega)
  · exact .inl (by omega)
  · exact .inl (by omega)
  · exact .inr ⟨by omega, .inl (by omega)⟩
  · exact .inr ⟨by omega, .inl (by omega)⟩
  · exact .inl (by omega)
  · exact .inr ⟨by omega, .inl (by omega)⟩
  · exact .inr ⟨by omega, .inr ⟨by omega, bl_trans h'' k''⟩⟩
theorem Lt3.irrefl (x : Int × Int × ByteArray) : ¬ Lt3 x x := by
  rintro (h | ⟨-, h | ⟨-, h⟩⟩)
  · omega
  · omega
  · rw [bl_irrefl] at h; cases h
theorem Lt3.tri {x y : Int × Int × ByteArray} (h : ¬ Lt3 x y) (k : ¬ Lt3 y x) : x = y := by
  obtain ⟨s, a, t⟩ := x
  obtain ⟨s2, a2, t2⟩ := y
  unfold Lt3 at h k
  simp only at h k
  have e1 : s = s2 := by
    have h1 : ¬ s < s2 := fun e => h (.inl e)
    have h2 : ¬ s2 < s := fun e => k (.inl e)
    omega
  subst e1
  have e2 : a = a2 := by
    have h1 : ¬ a < a2 := fun e => h (.inr ⟨rfl, .inl e⟩)
    have h2 : ¬ a2 < a := fun e => k (.inr ⟨rfl, .inl e⟩)
    omega
  subst e2
  have e3 : t = t2 := by
    refine bl_total ?_ ?_
    · cases hb : bl t t2
      · rfl
      · exact absurd (.inr ⟨rfl, .inr ⟨rfl, hb⟩⟩) h
    · cases hb : bl t2 t
      · rfl
      · exact absurd (.inr ⟨rfl, .inr ⟨rfl, hb⟩⟩) k
  rw [e3]
theorem laterR_yes {x y : Int × Int × ByteArray} (h : Lt3 x y) : laterR x.1 x.2.1 x.2.2 y.1 y.2.1 y.2.2 = .rgs y.1 y.2.1 y.2.2 := by
  unfold laterR
  rw [if_pos ((later_iff _ _ _ _ _ _).2 h)]
theorem laterR_no {x y : Int × Int × ByteArray} (h : ¬ Lt3 x y) : laterR x.1 x.2.1 x.2.2 y.1 y.2.1 y.2.2 = .rgs x.1 x.2.1 x.2.2 := by
  unfold laterR
  rw [if_neg (fun k => h ((later_iff _ _ _ _ _ _).1 k))]
/-! ### any value -/
def mgV (v o : Vl) : Vl := match v, o with
  | Sum.inl (u, d), Sum.inl (p, q) => .cnt (gr u p) (gr d q)
  | Sum.inr (Sum.inl (c, es)), Sum.inr (Sum.inl (d, fs)) => .set (gr c d) (mgE c d es fs)
  | Sum.inr (Sum.inr (Sum.inl (u, d))), Sum.inr (Sum.inr (Sum.inl (p, q))) => .flg (gr u p) (mt d u q p)
  | Sum.inr (Sum.inr (Sum.inr (s, a, t))), Sum.inr (Sum.inr (Sum.inr (s2, a2, t2))) => laterR s a t s2 a2 t2
  | _, _ => v
theorem mgV_yes {x y : Int × Int × ByteArray} (h : Lt3 x y) : mgV (.rgs x.1 x.2.1 x.2.2) (.rgs y.1 y.2.1 y.2.2) = .rgs y.1 y.2.1 y.2.2 := laterR_yes h
theorem mgV_no {x y : Int × Int × ByteArray} (h : ¬ Lt3 x y) : mgV (.rgs x.1 x.2.1 x.2.2) (.rgs y.1 y.2.1 y.2.2) = .rgs x.1 x.2.1 x.2.2 := laterR_no h
/-- as a value may be -/
def Gd (v : Vl) : Prop := match v with
  | Sum.inl (u, d) => Wd u ∧ Wd d
  | Sum.inr (Sum.inl (c, es)) => Gs c es ∧ Cn c ∧ ∀ x ∈ es, x.e.size ≤ 8
  | Sum.inr (Sum.inr (Sum.inl (c, g))) => Cn c ∧ Wi g c
  | Sum.inr (Sum.inr (Sum.inr (s, a, t))) => (0 ≤ s ∧ s ≤ 16777215) ∧ (0 ≤ a ∧ t.size ≤ 59) ∧ (s = 0 → a = 0 ∧ t = ⟨#[]⟩)
theorem Cn.ge {c : List Int} (h : Cn c) : ∀ i, i < 8 → 0 ≤ c.getD i 0 := fun i _ => (h.2 i).1
theorem Wi.cn {a c : List Int} (h : Wi a c) (k : Cn c) : Cn a := ⟨h.1, fun i => by
  rcases Nat.lt_or_ge i 8 with hi | hi
  · have h1 := h.2.2 i hi
    have h2 := k.2 i
    omega
  · rw [List.getD_eq_getElem?_getD, List.getElem?_eq_none (by have := h.1; omega)]
    simp⟩
theorem Cn.gr {a b : List Int} (h : Cn a) (k : Cn b) : Cn (gr a b) := ⟨gr_len h.1 k.1, fun i => by
  rcases Nat.lt_or_ge i 8 with hi | hi
  · have h1 := h.2 i
    have h2 := k.2 i
    rw [gr_at h.1 k.1 i hi]
    omega
  · rw [List.getD_eq_getElem?_getD, List.getElem?_eq_none (by have := gr_len h.1 k.1; omega)]
    simp⟩
theorem Wd.gr {a b : List Int} (h : Wd a) (k : Wd b) : Wd (gr a b) := ⟨gr_len h.1 k.1, fun x hx => by
  obtain ⟨i, hi, e⟩ := List.mem_iff_getElem.1 hx
  have hl := gr_len h.1 k.1
  have h1 := h.at i (by omega)
  have h2 := k.at i (by omega)
  have h3 := gr_at h.1 k.1 i (by omega)
  rw [List.getD_eq_getElem?_getD, List.getElem?_eq_getElem hi] at h3
  simp only [Option.getD_some] at h3
  rw [← e, h3]
  omega⟩
theorem Wd.ge {a : List Int} (h : Wd a) : ∀ i, i < 8 → 0 ≤ a.getD i 0 := fun i hi => (h.at i hi).1
theorem mgV_kd (v o : Vl) : (mgV v o).kd = v.kd := by
  cases v using Vl.el with
  | cnt u d => cases o using Vl.el <;> rfl
  | set c es => cases o using Vl.el <;> rfl
  | flg c g => cases o using Vl.el <;> rfl
  | rgs s a t =>
    cases o using Vl.el with
    | cnt u d => rfl
    | set c es => rfl
    | flg c g => rfl
    | rgs s2 a2 t2 =>
      by_cases h : Lt3 (s, a, t) (s2, a2, t2)
      · rw [show mgV (.rgs s a t) (.rgs s2 a2 t2) = _ from mgV_yes h]; rfl
      · rw [show mgV (.rgs s a t) (.rgs s2 a2 t2) = _ from mgV_no h]
/-- two values of one type, by their type -/
theorem Vl.two {motive : Vl → Vl → Prop} (cnt : ∀ u d p q, motive (.cnt u d) (.cnt p q)) (set : ∀ c es d fs, motive (.set c es) (.set d fs)) (flg : ∀ c g d f, motive (.flg c g) (.flg d f)) (rgs : ∀ x y : Int × Int × ByteArray, motive (.rgs x.1 x.2.1 x.2.2) (.rgs y.1 y.2.1 y.2.2)) (v o : Vl) (h : v.kd = o.kd) : motive v o := by
  rcases v with ⟨u, d⟩ | ⟨c, es⟩ | ⟨c, g⟩ | x <;> rcases o with ⟨p, q⟩ | ⟨e, fs⟩ | ⟨e, f⟩ | y
  case inl.inl => exact cnt u d p q
  case inr.inl.inr.inl => exact set c es e fs
  case inr.inr.inl.inr.inr.inl => exact flg c g e f
  case inr.inr.inr.inr.inr.inr => exact rgs x y
  all_goals (exact absurd h (by simp [Vl.kd]))
theorem mgV_gd {v o : Vl} (h : Gd v) (k : Gd o) (e : v.kd = o.kd) : Gd (mgV v o) := by
  revert h k
  refine Vl.two (motive := fun v o => Gd v → Gd o → Gd (mgV v o)) ?_ ?_ ?_ ?_ v o e
  · exact fun u d p q h k => ⟨h.1.gr k.1, h.2.gr k.2⟩
  · exact fun c es d fs h k => ⟨mgE_gs h.1 k.1, h.2.1.gr k.2.1, mgE_size h.2.2 k.2.2⟩
  · exact fun c g d f h k => ⟨h.1.gr k.1, mt_wi h.2 k.2⟩
  · intro x y h k
    by_cases hl : Lt3 x y
    · rw [mgV_yes hl]; exact k
    · rw [mgV_no hl]; exact h
theorem mgV_comm {v o : Vl} (h : Gd v) (k : Gd o) (e : v.kd = o.kd) : mgV v o = mgV o v := by
  revert h k
  refine Vl.two (motive := fun v o => Gd v → Gd o → mgV v o = mgV o v) ?_ ?_ ?_ ?_ v o e
  · intro u d p q h k
    show Vl.cnt (gr u p) (gr d q) = .cnt (gr p u) (gr q d)
    rw [gr_comm h.1.1 k.1.1, gr_comm h.2.1 k.2.1]
  · intro c es d fs h k
    show Vl.set (gr c d) (mgE c d es fs) = .set (gr d c) (mgE d c fs es)
    rw [gr_comm h.1.len k.1.len, mgE_comm h.1 k.1]
  · intro c g d f h k
    show Vl.flg (gr c d) (mt g c f d) = .flg (gr d c) (mt f d g c)
    rw [gr_comm h.1.1 k.1.1, mt_comm]
  · intro x y h k
    by_cases hl : Lt3 x y
    · have hn : ¬ Lt3 y x := fun hm => Lt3.irrefl _ (hl.trans hm)
      rw [mgV_yes hl, mgV_no hn]
    · by_cases hm : Lt3 y x
      · rw [mgV_no hl, mgV_yes hm]
      · rw [Lt3.tri hl hm]
theorem mgV_idem {v : Vl} (h : Gd v) : mgV v v = v := by
  cases v using Vl.el with
  | cnt u d => show Vl.cnt (gr u u) (gr d d) = _; rw [gr_idem h.1.1, gr_idem h.2.1]
  | set c es => show Vl.set (gr c c) (mgE c c es es) = _; rw [gr_idem h.1.len, mgE_idem h.1]
  | flg c g => show Vl.flg (gr c c) (mt g c g c) = _; rw [gr_idem h.1.1, mt_idem h.2.1]
  | rgs s a t => exact mgV_no (x := (s, a, t)) (y := (s, a, t)) (Lt3.irrefl _)
theorem kd_new0 (k : Nat) (h1 : 1 ≤ k) (h4 : k ≤ 4) : (new0 k).kd = k := by
  obtain rfl | rfl | rfl | rfl : k = 1 ∨ k = 2 ∨ k = 3 ∨ k = 4 := by omega
  · rfl
  · rfl
  · rfl
  · rfl
theorem new0_gd (k : Nat) : Gd (new0 k) := by
  unfold new0
  split
  · exact ⟨Wd.zr, Wd.zr⟩
  split
  · exact ⟨Gs.new, Cn.zr, by simp⟩
  split
  · exact ⟨Cn.zr, Wi.zr rfl (Cn.zr.ge)⟩
  · exact ⟨⟨by omega, by omega⟩, ⟨by omega, by decide⟩, fun _ => ⟨rfl, rfl⟩⟩
theorem mgV_new {v : Vl} (h : Gd v) : mgV v (new0 v.kd) = v := by
  cases v using Vl.el with
  | cnt u d => show Vl.cnt (gr u zr) (gr d zr) = _; rw [gr_zr h.1.1 h.1.ge, gr_zr h.2.1 h.2.ge]
  | set c es => show Vl.set (gr c zr) (mgE c zr es []) = _; rw [gr_zr h.1.len h.1.ge, mgE_zr h.1]
  | flg c g => show Vl.flg (gr c zr) (mt g c zr zr) = _; rw [gr_zr h.1.1 h.1.ge, mt_zr h.2]
  | rgs s a t =>
    refine mgV_no (x := (s, a, t)) (y := (0, 0, ⟨#[]⟩)) ?_
    have h0 := h.1.1
    rintro (k | ⟨k, k' | ⟨-, k'⟩⟩)
    · simp only at k; omega
    · simp only at k k'
      have := (h.2.2 k).1
      omega
    · simp only at k k'
      rw [(h.2.2 k).2, bl_irrefl] at k'
      cases k'
/-- three values of one type -/
theorem Vl.three {motive : Vl → Vl → Vl → Prop} (cnt : ∀ u d p q r s, motive (.cnt u d) (.cnt p q) (.cnt r s)) (set : ∀ c es d fs f gs, motive (.set c es) (.set d fs) (.set f gs)) (flg : ∀ c g d f e h, motive (.flg c g) (.flg d f) (.flg e h)) (rgs : ∀ x y z : Int × Int × ByteArray, motive (.rgs x.1 x.2.1 x.2.2) (.rgs y.1 y.2.1 y.2.2) (.rgs z.1 z.2.1 z.2.2)) (v o u : Vl) (h : v.kd = o.kd) (k : o.kd = u.kd) : motive v o u := by
  revert k
  refine Vl.two (motive := fun v o => o.kd = u.kd → motive v o u) ?_ ?_ ?_ ?_ v o h
  · intro a b c d k
    rcases u with ⟨p, q⟩ | ⟨e, fs⟩ | ⟨e, f⟩ | y
    · exact cnt _ _ _ _ _ _
    all_goals (exact absurd k (by simp [Vl.kd]))
  · intro a b c d k
    rcases u with ⟨p, q⟩ | ⟨e, fs⟩ | ⟨e, f⟩ | y
    case inr.inl => exact set _ _ _ _ _ _
    all_goals (exact absurd k (by simp [Vl.kd]))
  · intro a b c d k
    rcases u with ⟨p, q⟩ | ⟨e, fs⟩ | ⟨e, f⟩ | y
    case inr.inr.inl => exact flg _ _ _ _ _ _
    all_goals (exact absurd k (by simp [Vl.kd]))
  · intro a b k
    rcases u with ⟨p, q⟩ | ⟨e, fs⟩ | ⟨e, f⟩ | y
    case inr.inr.inr => exact rgs _ _ y
    all_goals (exact absurd k (by simp [Vl.kd]))
theorem mgV_assoc {v o u : Vl} (h : Gd v) (k : Gd o) (l : Gd u) (e : v.kd = o.kd) (e' : o.kd = u.kd) : mgV (mgV v o) u = mgV v (mgV o u) := by
  revert h k l
  refine Vl.three (motive := fun v o u => Gd v → Gd o → Gd u → mgV (mgV v o) u = mgV v (mgV o u)) ?_ ?_ ?_ ?_ v o u e e'
  · intro u d p q r s h k l
    show Vl.cnt (gr (gr u p) r) (gr (gr d q) s) = .cnt (gr u (gr p r)) (gr d (gr q s))
    rw [gr_assoc h.1.1 k.1.1 l.1.1, gr_assoc h.2.1 k.2.1 l.2.1]
  · intro c es d fs f gs h k l
    show Vl.set (gr (gr c d) f) (mgE (gr c d) f (mgE c d es fs) gs) = .set (gr c (gr d f)) (mgE c (gr d f) es (mgE d f fs gs))
    rw [gr_assoc h.1.len k.1.len l.1.len, mgE_assoc h.1 k.1 l.1]
  · intro c g d f e i h k l
    show Vl.flg (gr (gr c d) e) (mt (mt g c f d) (gr c d) i e) = .flg (gr c (gr d e)) (mt g c (mt f d i e) (gr d e))
    rw [gr_assoc h.1.1 k.1.1 l.1.1, mt_assoc h.2 k.2 l.2]
  · intro x y z h k l
    by_cases h1 : Lt3 x y
    · rw [mgV_yes h1]
      by_cases h2 : Lt3 y z
      · rw [mgV_yes h2, mgV_yes (h1.trans h2)]
      · rw [mgV_no h2, mgV_yes h1]
    · rw [mgV_no h1]
      by_cases h2 : Lt3 y z
      · rw [mgV_yes h2]
      · rw [mgV_no h2, mgV_no h1]
        refine mgV_no fun h3 => ?_
        by_cases h4 : Lt3 y x
        · exact h2 (h4.trans h3)
        · rw [Lt3.tri h1 h4] at h3
          exact h2 h3
/-- how many elements -/
theorem mgV_els (v o : Vl) : (elsR (mgV v o)).length ≤ (elsR v).length + (elsR o).length := by
  cases v using Vl.el with
  | cnt u d => cases o using Vl.el <;> simp [mgV, elsR]
  | set c es => cases o using Vl.el with
    | set d fs => exact mgE_len c d es fs
    | cnt u d => simp [mgV, elsR]
    | flg u d => simp [mgV, elsR]
    | rgs s a t => simp [mgV, elsR]
  | flg c g => cases o using Vl.el <;> simp [mgV, elsR]
  | rgs s a t =>
    cases o using Vl.el with
    | cnt u d => simp [mgV, elsR]
    | set c es => simp [mgV, elsR]
    | flg c g => simp [mgV, elsR]
    | rgs s2 a2 t2 =>
      by_cases h : Lt3 (s, a, t) (s2, a2, t2)
      · rw [show mgV (.rgs s a t) (.rgs s2 a2 t2) = _ from mgV_yes h]; simp [elsR]
      · rw [show mgV (.rgs s a t) (.rgs s2 a2 t2) = _ from mgV_no h]; simp [elsR]
theorem Gd.ok {v : Vl} (h : Gd v) (hl : (elsR v).length ≤ 200) : Ok v := by
  cases v using Vl.el with
  | cnt u d => exact h
  | set c es => exact ⟨h.2.1, h.1.so, hl, fun x hx => ⟨h.2.2 x hx, (h.1.wi x hx).cn h.2.1⟩⟩
  | flg c g => exact ⟨h.1, h.2.cn h.1⟩
  | rgs s a t => exact h.1
theorem Gd.okF {v : Vl} (h : Gd v) (hl : (elsR v).length ≤ 200) : OkF v := by
  cases v using Vl.el with
  | cnt u d => exact h
  | set c es => exact ⟨h.1.len, by simp only [elsR] at hl; omega, fun x hx => by have := h.2.2 x hx; omega⟩
  | flg c g => exact ⟨h.1.1, h.2.1⟩
  | rgs s a t => exact ⟨h.1.1, h.2.1.1, by have := h.2.1.2; omega⟩
/-! ### what is read is as it may be -/
theorem sr_gs {c : List Int} {es : List En} (hc : Cn c) (h : srR c es = true) (ht : ∀ x ∈ es, Cn x.t) : Gs c es ∧ ∀ x ∈ es, x.e.size ≤ 8 := by
  have h1 : ∀ i (hi : i < es.length), okX c es[i] = true ∧ (i ≠ 0 → bl (es[i - 1]'(by omega)).e es[i].e = true) := by
    intro i hi
    unfold srR at h
    rw [List.all_eq_true] at h
    have h2 := h i (List.mem_range.2 hi)
    unfold okE okP at h2
    rw [List.getElem?_eq_getElem hi, List.getElem?_eq_getElem (show i - 1 < es.length by omega)] at h2
    simp only [Bool.and_eq_true, Bool.or_eq_true, beq_iff_eq] at h2
    refine ⟨h2.1, fun hne => ?_⟩
    rcases h2.2 with e | e
    · exact absurd e hne
    · exact e
  have h3 : ∀ x ∈ es, okX c x = true := by
    intro x hx
    obtain ⟨i, hi, e⟩ := List.mem_iff_getElem.1 hx
    rw [← e]
    exact (h1 i hi).1
  have h4 : So es := by
    refine List.pairwise_iff_getElem.2 fun i j hi hj hij => ?_
    obtain ⟨n, rfl⟩ : ∃ n, j = i + n + 1 := ⟨j - i - 1, by omega⟩
    clear hij
    induction n with
    | zero => exact (h1 (i + 0 + 1) hj).2 (by omega)
    | succ n ih =>
      have h5 := ih (by omega)
      have h6 := (h1 (i + (n + 1) + 1) hj).2 (by omega)
      exact bl_trans h5 h6
  refine ⟨⟨h4, fun x hx => ?_, fun x hx => ?_, hc.1, hc.ge⟩, fun x hx => ?_⟩
  · have := h3 x hx
    unfold okX at this
    simp only [Bool.and_eq_true, Bool.not_eq_true', beq_eq_false_iff_ne] at this
    exact this.2.1
  · have := h3 x hx
    unfold okX at this
    simp only [Bool.and_eq_true, beq_iff_eq] at this
    exact Wi.of_gr (ht x hx).1 hc.1 (ht x hx).ge this.2.2
  · have := h3 x hx
    unfold okX isE at this
    simp only [Bool.and_eq_true, decide_eq_true_eq] at this
    exact this.1.2
theorem esB_ge : ∀ es : List En, es.length * 2 ≤ (esB es).length
  | [] => by simp [esB]
  | x :: r => by
    have := esB_ge r
    simp only [esB, enB, rowB, List.length_append, List.length_cons]
    omega
theorem readV_gd {k : Nat} (h1 : 1 ≤ k) (h4 : k ≤ 4) {bs : List Nat} (h8 : U8 bs) (hl : bs.length ≤ 64) (hr : rdOk k bs = true) : Gd (readV k bs) ∧ (elsR (readV k bs)).length ≤ 32 ∧ (readV k bs).kd = k := by
  have hF := readV_okF h1 h4 h8 hl
  unfold rdOk at hr
  simp only [Bool.and_eq_true, decide_eq_true_eq] at hr
  obtain ⟨hr, hf⟩ := hr
  have e2 : (2 : Int) ^ (8 * 2) = 65536 := by decide
  obtain rfl | rfl | rfl | rfl : k = 1 ∨ k = 2 ∨ k = 3 ∨ k = 4 := by omega
  · exact ⟨hF, by simp [readV, elsR], rfl⟩
  · have hb := rowR_bd (h8.drop 1) 2
    rw [e2] at hb
    have hs := esI_bd (hb.2.2.drop 1) (leV ((rowR (bs.drop 1) 2).2.take 1))
    have hc := Cn.of hb.1 hb.2.1
    have hg := sr_gs hc hr (fun x hx => (hs.1 x hx).2)
    refine ⟨⟨hg.1, hc, hg.2⟩, ?_, rfl⟩
    have h5 := congrArg List.length hf
    have h6 := esB_ge (esI (leV ((rowR (bs.drop 1) 2).2.take 1)) ((rowR (bs.drop 1) 2).2.drop 1)).1
    have h7 : (formV (readV 2 bs)).length ≥ (esB (esI (leV ((rowR (bs.drop 1) 2).2.take 1)) ((rowR (bs.drop 1) 2).2.drop 1)).1).length := by
      show (setB _ _).length ≥ _
      simp only [setB, List.length_cons, List.length_append]
      omega
    show ((esI (leV ((rowR (bs.drop 1) 2).2.take 1)) ((rowR (bs.drop 1) 2).2.drop 1)).1).length ≤ 32
    omega
  · have hb := rowR_bd (h8.drop 1) 2
    have hb2 := rowR_bd hb.2.2 2
    rw [e2] at hb hb2
    have hc := Cn.of hb.1 hb.2.1
    have hc2 := Cn.of hb2.1 hb2.2.1
    refine ⟨⟨hc, Wi.of_gr hc2.1 hc.1 hc2.ge ?_⟩, by simp [readV, elsR], rfl⟩
    have : (gr (rowR (rowR (bs.drop 1) 2).2 2).1 (rowR (bs.drop 1) 2).1 == (rowR (bs.drop 1) 2).1) = true := hr
    exact beq_iff_eq.1 this
  · have hr' : rtR ((regR bs).1 : Int) ((regR bs).2.1 : Int) (strB (regR bs).2.2) = true := hr
    unfold rtR at hr'
    simp only [Bool.and_eq_true, Bool.or_eq_true, decide_eq_true_eq] at hr'
    refine ⟨⟨⟨Int.natCast_nonneg _, ?_⟩, ⟨Int.natCast_nonneg _, ?_⟩, fun e => ?_⟩, by simp [readV, elsR], rfl⟩
    · have h9 := leV_lt (l := (bs.drop 1).take 3) (fun x hx => h8 x (List.mem_of_mem_drop (List.mem_of_mem_take hx)))
      have h10 : ((bs.drop 1).take 3).length ≤ 3 := by rw [List.length_take]; omega
      have h11 : 2 ^ (8 * ((bs.drop 1).take 3).length) ≤ 2 ^ 24 := Nat.pow_le_pow_right (by omega) (by omega)
      show ((leV ((bs.drop 1).take 3) : Nat) : Int) ≤ 16777215
      omega
    · rw [strB_size]
      show ((((bs.drop 1).drop 3).drop 1).take 59).length ≤ 59
      rw [List.length_take]; omega
    · have e' : ((regR bs).1 : Int) = 0 := e
      rcases hr'.2 with h9 | ⟨⟨-, h9⟩, h10⟩
      · omega
      · refine ⟨h9, ?_⟩
        have h11 : (strB (regR bs).2.2).data.toList = [] := by rw [← Lib.toList_data]; exact h10
        exact ba_inj h11
theorem valV_gd {k : Nat} (h1 : 1 ≤ k) (h4 : k ≤ 4) {bs : List Nat} (h8 : U8 bs) : Gd (valV k bs) ∧ (elsR (valV k bs)).length ≤ 32 ∧ (valV k bs).kd = k := by
  unfold valV
  split
  · rename_i h
    exact readV_gd h1 h4 h8 h.1 h.2
  · refine ⟨new0_gd k, ?_, kd_new0 k h1 h4⟩
    obtain rfl | rfl | rfl | rfl : k = 1 ∨ k = 2 ∨ k = 3 ∨ k = 4 := by omega
    all_goals simp [new0, elsR]
end Go.Proofs.Ytdbeeikjngnnnaa.ty
namespace Go.Proofs.Ytdbeeikjngnnnaa.ty
open Go.ChangeShapes Go.WideShapes Go.ChangeAt Go.RowKit
set_option linter.unusedVariables false
set_option linter.unusedSimpArgs false
theorem form_ne (v : Vl) : formV v ≠ [] := by
  cases v using Vl.el <;> simp [formV, setB]
theorem valV_nil (k : Nat) : valV k [] = new0 k := by
  unfold valV
  rw [if_neg]
  rintro ⟨-, h⟩
  unfold rdOk at h
  simp only [Bool.and_eq_true, decide_eq_true_eq] at h
  exact form_ne _ h.2
/-- a value that may be, and of few elements -/
structure Gk (k n : Nat) (v : Vl) : Prop where
  gd : Gd v
  le : (elsR v).length ≤ n
  kd : v.kd = k
theorem Gk.mg {k n m : Nat} {v o : Vl} (h : Gk k n v) (g : Gk k m o) : Gk k (n + m) (mgV v o) := ⟨mgV_gd h.gd g.gd (h.kd.trans g.kd.symm), by have := mgV_els v o; have := h.le; have := g.le; omega, (mgV_kd v o).trans h.kd⟩
theorem Gk.ok {k n : Nat} {v : Vl} (h : Gk k n v) (hn : n ≤ 200 := by omega) : Ok v := h.gd.ok (by have := h.le; omega)
theorem Gk.okF {k n : Nat} {v : Vl} (h : Gk k n v) (hn : n ≤ 200 := by omega) : OkF v := h.gd.okF (by have := h.le; omega)
theorem Gk.val {k : Nat} (h1 : 1 ≤ k) (h4 : k ≤ 4) {bs : List Nat} (h8 : U8 bs) : Gk k 32 (valV k bs) := by
  obtain ⟨a, b, c⟩ := valV_gd h1 h4 h8
  exact ⟨a, b, c⟩
theorem Gk.new {k : Nat} (h1 : 1 ≤ k) (h4 : k ≤ 4) : Gk k 32 (new0 k) := by
  have := Gk.val h1 h4 (bs := []) (by intro x hx; simp at hx)
  rwa [valV_nil] at this
end Go.Proofs.Ytdbeeikjngnnnaa.ty
