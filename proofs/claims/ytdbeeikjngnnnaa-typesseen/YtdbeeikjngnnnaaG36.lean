import Derived.Test.YtdbeeikjngnnnaaG35
import Derived.Test.YtdbeeikjngnnnaaG33
namespace Go.Proofs.Ytdbeeikjngnnnaa.ty
open Go.ChangeShapes Go.WideShapes Go.ChangeAt Go.RowKit
set_option linter.unusedVariables false
set_option linter.unusedSimpArgs false
/-! ### what a replica's value has to do with what it has seen -/
def uf (d : Dn) : Int := max d.by_ 0
def df (d : Dn) : Int := -(min d.by_ 0)
theorem uf_ge {H : List Dn} : ∀ (p : Nat) (d : Dn), H[p]? = some d → 0 ≤ uf d := fun p d _ => by unfold uf; omega
theorem df_ge {H : List Dn} : ∀ (p : Nat) (d : Dn), H[p]? = some d → 0 ≤ df d := fun p d _ => by unfold df; omega
/-- of a register: the last of what was seen -/
def Lg (H : List Dn) (v : Nat → Nat) (x : Int × Int × ByteArray) : Prop := (x = (0, 0, ⟨#[]⟩) ∧ ∀ (p : Nat) (d : Dn), H[p]? = some d → ¬ p < v d.act) ∨ ∃ (p : Nat) (d : Dn), H[p]? = some d ∧ p < v d.act ∧ x = (d.st, (d.act : Int), d.tx) ∧ ∀ (q : Nat) (f : Dn), H[q]? = some f → q < v f.act → ¬ Lt3 x (f.st, (f.act : Int), f.tx)
/-- of a set -/
def Ls (H : List Dn) (v : Nat → Nat) (c : List Int) (es : List En) : Prop := Rc H pt v c ∧ ∃ r : Nat → List Int, es = cano r ∧ ∀ e, e < 3 → Rt H v e (r e)
def Rel (H : List Dn) (v : Nat → Nat) (x : Vl) : Prop := match x with
  | Sum.inl (u, d) => Rc H uf v u ∧ Rc H df v d
  | Sum.inr (Sum.inl (c, es)) => Ls H v c es
  | Sum.inr (Sum.inr (Sum.inl (c, g))) => Rc H pt v c ∧ Rt H v 0 g
  | Sum.inr (Sum.inr (Sum.inr x)) => Lg H v x
/-- what the events of a type are -/
structure Hk (k : Nat) (H : List Dn) : Prop where
  by_ : k = 1 → ∀ (p : Nat) (d : Dn), H[p]? = some d → -1000 ≤ d.by_ ∧ d.by_ ≤ 1000
  el : ∀ (p : Nat) (d : Dn), H[p]? = some d → d.el < 3
  el0 : k = 3 → ∀ (p : Nat) (d : Dn), H[p]? = some d → d.el = 0
  st : ∀ (p : Nat) (d : Dn), H[p]? = some d → 1 ≤ d.st ∧ d.st ≤ (p : Int) + 1
  tx : k = 4 → ∀ (p : Nat) (d : Dn), H[p]? = some d → d.tx.size ≤ 59
theorem Lt3.cases (x y : Int × Int × ByteArray) : Lt3 x y ∨ ¬ Lt3 x y := Classical.em _
theorem lt3_pos {x : Int × Int × ByteArray} (h : 1 ≤ x.1) : Lt3 (0, 0, ⟨#[]⟩) x := .inl (by simp only; omega)
theorem lt3_zero {x : Int × Int × ByteArray} (h : 0 ≤ x.1) (h2 : x.1 = 0 → x = (0, 0, ⟨#[]⟩)) : ¬ Lt3 x (0, 0, ⟨#[]⟩) := by
  intro k
  by_cases e : x.1 = 0
  · rw [h2 e] at k; exact Lt3.irrefl _ k
  · rcases k with k | ⟨k, -⟩
    · simp only at k; omega
    · exact e k
theorem Lg.mx {k : Nat} {H : List Dn} (hk : Hk k H) {v u : Nat → Nat} {x y : Int × Int × ByteArray} (h : Lg H v x) (g : Lg H u y) : (Lt3 x y → Lg H (ty.mx v u) y) ∧ (¬ Lt3 x y → Lg H (ty.mx v u) x) := by
  have key : ∀ {v u : Nat → Nat} {x y : Int × Int × ByteArray}, Lg H v x → Lg H u y → ¬ Lt3 x y → Lg H (ty.mx v u) x := by
    intro v u x y h g hn
    rcases h with ⟨hx, hno⟩ | ⟨p, d, hp, hpv, hx, hmax⟩
    · subst hx
      rcases g with ⟨hy, hno2⟩ | ⟨q, f, hq, hqu, hy, -⟩
      · refine .inl ⟨rfl, fun p d hp hpm => ?_⟩
        simp only [ty.mx] at hpm
        by_cases h1 : p < v d.act
        · exact hno p d hp h1
        · exact hno2 p d hp (by omega)
      · refine absurd (lt3_pos ?_) hn
        rw [hy]; exact (hk.st q f hq).1
    · refine .inr ⟨p, d, hp, by simp only [ty.mx]; omega, hx, fun q f hq hqm => ?_⟩
      simp only [ty.mx] at hqm
      by_cases h1 : q < v f.act
      · exact hmax q f hq h1
      · rcases g with ⟨hy, hno2⟩ | ⟨q', f', hq', hqu', hy, hmax2⟩
        · exact absurd (show q < u f.act by omega) (hno2 q f hq)
        · intro hlt
          have h2 := hmax2 q f hq (by omega)
          by_cases h3 : Lt3 y (f.st, (f.act : Int), f.tx)
          · exact h2 h3
          · by_cases h4 : Lt3 (f.st, (f.act : Int), f.tx) y
            · exact hn (hlt.trans h4)
            · rw [Lt3.tri h4 h3] at hlt; exact hn hlt
  refine ⟨fun hl => ?_, fun hl => key h g hl⟩
  rw [mx_comm]
  exact key g h fun h2 => Lt3.irrefl _ (hl.trans h2)
theorem Lg.push {H : List Dn} {v : Nat → Nat} {x : Int × Int × ByteArray} (h : Lg H v x) (k : Vc H v) (d : Dn) : Lg (H ++ [d]) v x := by
  rcases h with ⟨hx, hno⟩ | ⟨p, e, hp, hpv, hx, hmax⟩
  · refine .inl ⟨hx, fun p e hp => ?_⟩
    rcases push_at hp with ⟨-, hp'⟩ | ⟨rfl, rfl⟩
    · exact hno p e hp'
    · have := k.le e.act; omega
  · refine .inr ⟨p, e, push_old hp, hpv, hx, fun q f hq hqv => ?_⟩
    rcases push_at hq with ⟨-, hq'⟩ | ⟨rfl, rfl⟩
    · exact hmax q f hq' hqv
    · have := k.le f.act; omega
theorem Lg.stamp {k : Nat} {H : List Dn} (hk : Hk k H) {v : Nat → Nat} {x : Int × Int × ByteArray} (h : Lg H v x) : 0 ≤ x.1 ∧ x.1 ≤ (H.length : Int) ∧ ∀ (q : Nat) (f : Dn), H[q]? = some f → q < v f.act → f.st ≤ x.1 := by
  rcases h with ⟨hx, hno⟩ | ⟨p, e, hp, hpv, hx, hmax⟩
  · subst hx
    exact ⟨Int.le_refl _, by simp, fun q f hq hqv => absurd hqv (hno q f hq)⟩
  · have h1 := hk.st p e hp
    have h2 := at_lt hp
    refine ⟨by rw [hx]; simp only; omega, by rw [hx]; simp only; omega, fun q f hq hqv => ?_⟩
    refine Int.not_lt.1 fun hlt => hmax q f hq hqv (.inl hlt)
theorem Lg.up {H : List Dn} {v : Nat → Nat} (k : Vc H v) {d : Dn} (o : Own H v d.act) (h : ∀ (q : Nat) (f : Dn), H[q]? = some f → q < v f.act → f.st < d.st) : Lg (H ++ [d]) (ty.up v d.act (H.length + 1)) (d.st, (d.act : Int), d.tx) := by
  refine .inr ⟨H.length, d, push_new H d, by simp only [ty.up, if_true]; omega, rfl, fun q f hq hqv => ?_⟩
  rcases push_at hq with ⟨-, hq'⟩ | ⟨rfl, rfl⟩
  · have h1 := h q f hq' ((up_old o hq' (by omega)).1 hqv)
    rintro (h2 | ⟨h2, -⟩)
    · simp only at h2; omega
    · simp only at h2; omega
  · exact Lt3.irrefl _
theorem Rel.push {H : List Dn} {v : Nat → Nat} {x : Vl} (h : Rel H v x) (k : Vc H v) (d : Dn) : Rel (H ++ [d]) v x := by
  cases x using Vl.el with
  | cnt u e => exact ⟨h.1.push k d, h.2.push k d⟩
  | set c es =>
    obtain ⟨h1, r, he, hr⟩ := h
    exact ⟨h1.push k d, r, he, fun e hl => (hr e hl).push k d⟩
  | flg c g => exact ⟨h.1.push k d, h.2.push k d⟩
  | rgs s a t => exact Lg.push h k d
theorem T1.bd {H : List Dn} (hh : Hs H) {v : Nat → Nat} {e j : Nat} {x : Int} (h : T1 H v e j x) : 0 ≤ x ∧ x ≤ cnt H pt j (v j) := by
  rcases h with ⟨p, d, hp, hj, hx⟩ | ⟨hx, -⟩
  · have h1 := cnt_ge (f := pt) (H := H) pt_ge j (p + 1)
    have h2 : p + 1 ≤ v j := by rw [← hj]; exact hp.2.1
    have h3 := cnt_mono (f := pt) (H := H) pt_ge j _ _ h2
    omega
  · have := cnt_ge (f := pt) (H := H) pt_ge j (v j)
    omega
theorem Rt.wi {H : List Dn} (hh : Hs H) {v : Nat → Nat} {e : Nat} {a c : List Int} (h : Rt H v e a) (k : Rc H pt v c) : Wi a c :=
  ⟨h.len, k.len, fun j hj => by rw [k.eq j hj]; exact T1.bd hh (h.eq j hj)⟩
theorem Rc.bd {H : List Dn} {f : Dn → Int} {v : Nat → Nat} {a : List Int} (h : Rc H f v a) (k : Vc H v) (hf : ∀ (p : Nat) (d : Dn), H[p]? = some d → 0 ≤ f d) {B : Int} (hB : 0 ≤ B) (hb : ∀ (p : Nat) (d : Dn), H[p]? = some d → f d ≤ B) (hl : H.length ≤ 60) (j : Nat) (hj : j < 8) : 0 ≤ a.getD j 0 ∧ a.getD j 0 ≤ B * 60 := by
  rw [h.eq j hj]
  refine ⟨cnt_ge hf j _, Int.le_trans (cnt_bound hB hb j _) ?_⟩
  have h1 := k.le j
  exact Int.mul_le_mul_of_nonneg_left (by omega) hB
theorem getD_out {a : List Int} {i : Nat} (h : a.length ≤ i) : a.getD i 0 = 0 := by
  rw [List.getD_eq_getElem?_getD, List.getElem?_eq_none h]; rfl
theorem Rc.cn {H : List Dn} {v : Nat → Nat} {c : List Int} (h : Rc H pt v c) (k : Vc H v) (hl : H.length ≤ 60) : Cn c :=
  ⟨h.len, fun i => by
    rcases Nat.lt_or_ge i 8 with hi | hi
    · have := h.bd k pt_ge (by omega) pt_le hl i hi
      omega
    · rw [getD_out (by rw [h.len]; exact hi)]; omega⟩
theorem Rc.wd {H : List Dn} {f : Dn → Int} {v : Nat → Nat} {a : List Int} (h : Rc H f v a) (k : Vc H v) (hf : ∀ (p : Nat) (d : Dn), H[p]? = some d → 0 ≤ f d) (hb : ∀ (p : Nat) (d : Dn), H[p]? = some d → f d ≤ 1000) (hl : H.length ≤ 60) : Wd a :=
  ⟨h.len, fun x hx => by
    obtain ⟨i, hi, e⟩ := List.mem_iff_getElem.1 hx
    have h1 := h.bd k hf (by omega) hb hl i (by rw [h.len] at hi; exact hi)
    have e2 : a.getD i 0 = x := by rw [List.getD_eq_getElem?_getD, List.getElem?_eq_getElem hi]; exact e
    omega⟩
theorem uf_le {k : Nat} {H : List Dn} (hk : Hk k H) (h : k = 1) : ∀ (p : Nat) (d : Dn), H[p]? = some d → uf d ≤ 1000 := fun p d hd => by have := hk.by_ h p d hd; unfold uf; omega
theorem df_le {k : Nat} {H : List Dn} (hk : Hk k H) (h : k = 1) : ∀ (p : Nat) (d : Dn), H[p]? = some d → df d ≤ 1000 := fun p d hd => by have := hk.by_ h p d hd; unfold df; omega
theorem Rel.gd {k : Nat} {H : List Dn} (hh : Hs H) (hk : Hk k H) {v : Nat → Nat} {x : Vl} (h : Rel H v x) (g : Vc H v) (hx : x.kd = k) (hl : H.length ≤ 60) : Gk k 3 x := by
  cases x using Vl.el with
  | cnt u d =>
    have e : k = 1 := hx.symm
    exact ⟨⟨h.1.wd g uf_ge (uf_le hk e) hl, h.2.wd g df_ge (df_le hk e) hl⟩, by simp [elsR], hx⟩
  | set c es =>
    obtain ⟨h1, r, he, hr⟩ := h
    subst he
    have hc := h1.cn g hl
    refine ⟨⟨cano_gs hc.1 hc.ge fun e he => (hr e he).wi hh h1, hc, fun x hx => ?_⟩, cano_len r, hx⟩
    obtain ⟨e, -, -, rfl⟩ := cano_mem hx
    have := el_size e
    simp only; omega
  | flg c g' =>
    exact ⟨⟨h.1.cn g hl, h.2.wi hh h.1⟩, by simp [elsR], hx⟩
  | rgs s a t =>
    have e : k = 4 := hx.symm
    have hs := Lg.stamp hk (x := (s, a, t)) h
    refine ⟨⟨⟨hs.1, by have := hs.2.1; simp only at this; omega⟩, ?_, ?_⟩, by simp [elsR], hx⟩
    · rcases h with ⟨hx, -⟩ | ⟨p, d, hp, -, hx, -⟩
      · simp only [Prod.mk.injEq] at hx
        obtain ⟨-, rfl, rfl⟩ := hx
        exact ⟨Int.le_refl _, by decide⟩
      · simp only [Prod.mk.injEq] at hx
        obtain ⟨-, rfl, rfl⟩ := hx
        exact ⟨Int.natCast_nonneg _, hk.tx e p d hp⟩
    · rcases h with ⟨hx, -⟩ | ⟨p, d, hp, -, hx, -⟩
      · simp only [Prod.mk.injEq] at hx
        exact fun _ => ⟨hx.2.1, hx.2.2⟩
      · simp only [Prod.mk.injEq] at hx
        have := (hk.st p d hp).1
        intro h0
        omega
theorem Rel.mx {k : Nat} {H : List Dn} (hh : Hs H) (hk : Hk k H) {v u : Nat → Nat} {x y : Vl} (h : Rel H v x) (g : Rel H u y) (hv : Vc H v) (hu : Vc H u) (hx : x.kd = k) (hy : y.kd = k) (hl : H.length ≤ 60) : Rel H (ty.mx v u) (mgV x y) := by
  have hgx := h.gd hh hk hv hx hl
  have hgy := g.gd hh hk hu hy hl
  revert h g hgx hgy
  refine Vl.two (motive := fun x y => Rel H v x → Rel H u y → Gk k 3 x → Gk k 3 y → Rel H (ty.mx v u) (mgV x y)) ?_ ?_ ?_ ?_ x y (hx.trans hy.symm)
  · exact fun a b c d h g _ _ => ⟨h.1.mx uf_ge g.1, h.2.mx df_ge g.2⟩
  · intro c es d fs h g hgx hgy
    obtain ⟨h1, r, he, hr⟩ := h
    obtain ⟨g1, s, hf, hs⟩ := g
    subst he; subst hf
    exact ⟨h1.mx pt_ge g1, _, cano_mg hgx.gd.1 hgy.gd.1, fun e he => (hr e he).mx hh hv hu (hs e he) h1 g1⟩
  · exact fun c g' d f h g _ _ => ⟨h.1.mx pt_ge g.1, h.2.mx hh hv hu g.2 h.1 g.1⟩
  · intro x y h g _ _
    have := Lg.mx hk h g
    by_cases hl : Lt3 x y
    · rw [mgV_yes hl]; exact this.1 hl
    · rw [mgV_no hl]; exact this.2 hl
end Go.Proofs.Ytdbeeikjngnnnaa.ty
namespace Go.Proofs.Ytdbeeikjngnnnaa.ty
open Go.ChangeShapes Go.WideShapes Go.ChangeAt Go.RowKit
set_option linter.unusedVariables false
set_option linter.unusedSimpArgs false
/-! ### what is done -/
theorem isA_nat {i : Nat} (h : i < 8) : isA (i : Int) = true := by unfold isA; simp; omega
theorem Hk.push {k : Nat} {H : List Dn} (h : Hk k H) {d : Dn} (h1 : k = 1 → -1000 ≤ d.by_ ∧ d.by_ ≤ 1000) (h2 : d.el < 3) (h3 : k = 3 → d.el = 0) (h4 : 1 ≤ d.st ∧ d.st ≤ (H.length : Int) + 1) (h5 : k = 4 → d.tx.size ≤ 59) : Hk k (H ++ [d]) := by
  refine ⟨fun e p f hp => ?_, fun p f hp => ?_, fun e p f hp => ?_, fun p f hp => ?_, fun e p f hp => ?_⟩
  · rcases push_at hp with ⟨-, hp'⟩ | ⟨rfl, rfl⟩
    · exact h.by_ e p f hp'
    · exact h1 e
  · rcases push_at hp with ⟨-, hp'⟩ | ⟨rfl, rfl⟩
    · exact h.el p f hp'
    · exact h2
  · rcases push_at hp with ⟨-, hp'⟩ | ⟨rfl, rfl⟩
    · exact h.el0 e p f hp'
    · exact h3 e
  · rcases push_at hp with ⟨-, hp'⟩ | ⟨rfl, rfl⟩
    · exact h.st p f hp'
    · exact h4
  · rcases push_at hp with ⟨-, hp'⟩ | ⟨rfl, rfl⟩
    · exact h.tx e p f hp'
    · exact h5 e
theorem act_cnt {H : List Dn} (hk : Hk 1 H) {v : Nat → Nat} {u e : List Int} (h : Rel H v (.cnt u e)) (g : Vc H v) (hl : H.length ≤ 60) {d : Dn} (ha : d.act < 4) (o : Own H v d.act) (hb : -1000 ≤ d.by_ ∧ d.by_ ≤ 1000) :
    ∃ x, addR (.cnt u e) (d.act : Int) d.by_ = (0, x) ∧ Rel (H ++ [d]) (ty.up v d.act (H.length + 1)) x ∧ x.kd = 1 := by
  have h1 := h.1.bd g uf_ge (by omega) (uf_le hk rfl) hl d.act (by omega)
  have h2 := h.2.bd g df_ge (by omega) (df_le hk rfl) hl d.act (by omega)
  have hr := h.1.up g (d := d) ha o
  have hs := h.2.up g (d := d) ha o
  refine ⟨.cnt (u.set d.act (u.getD d.act 0 + uf d)) (e.set d.act (e.getD d.act 0 + df d)), ?_, ⟨hr, hs⟩, rfl⟩
  show (if isA (d.act : Int) = false then _ else _) = _
  rw [if_neg (by rw [isA_nat (by omega)]; simp), if_neg (by omega), if_neg (by rw [Int.toNat_natCast]; unfold uf at *; unfold df at *; omega)]
  rw [Int.toNat_natCast]
  rfl
theorem nb8_few {r : List Int} (wd : Nat) (h : ∀ j, 4 ≤ j → r.getD j 0 = 0) : ∀ i, (nb8 r wd i).length ≤ min i 4 * wd
  | 0 => by simp [nb8]
  | i + 1 => by
    have ih := nb8_few wd h i
    unfold nb8
    split
    · rename_i hp
      have hi : i < 4 := by
        rcases Nat.lt_or_ge i 4 with h1 | h1
        · exact h1
        · rw [h i h1] at hp; omega
      rw [List.length_append, leB_len]
      have e1 : min i 4 = i := by omega
      have e2 : min (i + 1) 4 = i + 1 := by omega
      rw [e1] at ih
      rw [e2, Nat.succ_mul]
      omega
    · refine Nat.le_trans ih (Nat.mul_le_mul_right _ (by omega))
theorem rowB_few {r : List Int} (h : ∀ j, 4 ≤ j → r.getD j 0 = 0) : (rowB r 2).length ≤ 9 := by
  have := nb8_few 2 h 8
  simp only [rowB, List.length_cons]; omega
theorem Rc.few {H : List Dn} (hh : Hs H) {f : Dn → Int} {v : Nat → Nat} {a : List Int} (h : Rc H f v a) (j : Nat) (hj : 4 ≤ j) : a.getD j 0 = 0 := by
  rcases Nat.lt_or_ge j 8 with h8 | h8
  · rw [h.eq j h8, cnt_none hh hj]
  · exact getD_out (by rw [h.len]; exact h8)
theorem Wi.few {a c : List Int} (h : Wi a c) (hc : ∀ j, 4 ≤ j → c.getD j 0 = 0) (j : Nat) (hj : 4 ≤ j) : a.getD j 0 = 0 := by
  rcases Nat.lt_or_ge j 8 with h8 | h8
  · have h1 := h.2.2 j h8
    have h2 := hc j hj
    omega
  · exact getD_out (by rw [h.1]; exact h8)
theorem enB_few {x : En} (hs : x.e.size ≤ 2) (h : ∀ j, 4 ≤ j → x.t.getD j 0 = 0) : (enB x).length ≤ 12 := by
  have := rowB_few h
  have h2 := bsk_len x.e
  simp only [enB, List.length_cons, List.length_append]; omega
theorem esB_few : ∀ {es : List En}, (∀ x ∈ es, x.e.size ≤ 2 ∧ ∀ j, 4 ≤ j → x.t.getD j 0 = 0) → (esB es).length ≤ es.length * 12
  | [], _ => by simp [esB]
  | x :: r, h => by
    have h1 := enB_few (h x (by simp)).1 (h x (by simp)).2
    have h2 := esB_few fun y hy => h y (List.mem_cons_of_mem _ hy)
    simp only [esB, List.length_append, List.length_cons]; omega
theorem Ls.form {H : List Dn} (hh : Hs H) {v : Nat → Nat} {c : List Int} {es : List En} (h : Ls H v c es) : (setB c es).length ≤ 47 := by
  obtain ⟨h1, r, he, hr⟩ := h
  have hf := h1.few hh
  have hl := cano_len r
  have h2 := rowB_few hf
  have h3 := esB_few (es := cano r) (fun x hx => by
    obtain ⟨e, he, -, rfl⟩ := cano_mem hx
    exact ⟨el_size e, ((hr e he).wi hh h1).few hf⟩)
  rw [he]
  simp only [setB, List.length_cons, List.length_append]; omega
theorem act_take {H : List Dn} {v : Nat → Nat} {c : List Int} {es : List En} (h : Rel H v (.set c es)) (g : Vc H v) {d : Dn} (ha : d.act < 4) (o : Own H v d.act) (hv : d.vc = v) (he : d.el < 3) (ht : d.tk = true) :
    ∃ x, takeR (.set c es) (elB d.el) = (0, x) ∧ Rel (H ++ [d]) (ty.up v d.act (H.length + 1)) x ∧ x.kd = 2 := by
  obtain ⟨h1, r, hes, hr⟩ := h
  refine ⟨.set c (lo es (elS d.el) ++ hi es (elS d.el)), rfl, ⟨h1.same g ha o (by unfold pt; rw [ht]; rfl), ur r d.el zr, by rw [hes]; exact cano_take r he, fun e hl => ?_⟩, rfl⟩
  unfold ur
  by_cases hee : e = d.el
  · rw [if_pos hee]
    exact Rt.take g o hv hee.symm ht
  · rw [if_neg hee]
    exact (hr e hl).other g o (fun k => hee k.symm)
theorem set_ne {i : Nat} (hi : i < 8) {x : Int} (hx : x ≠ 0) : zr.set i x ≠ zr := by
  intro h
  have : (zr.set i x).getD i 0 = zr.getD i 0 := by rw [h]
  rw [getD_set (by show i < 8; exact hi), if_pos rfl, zrD] at this
  exact hx this
theorem act_put {H : List Dn} (hh : Hs H) {v : Nat → Nat} {c : List Int} {es : List En} (h : Rel H v (.set c es)) (g : Vc H v) (hl : H.length < 60) {d : Dn} (ha : d.act < 4) (o : Own H v d.act) (hv : d.vc = v) (he : d.el < 3) (ht : d.tk = false) (hst : ∀ (q : Nat) (e : Dn), H[q]? = some e → q < v e.act → e.st < d.st) :
    ∃ x, putR (.set c es) (d.act : Int) (elB d.el) = (0, x) ∧ Rel (H ++ [d]) (ty.up v d.act (H.length + 1)) x ∧ x.kd = 2 := by
  obtain ⟨h1, r, hes, hr⟩ := h
  have hb := h1.bd g pt_ge (by omega) pt_le (by omega) d.act (by omega)
  have hpt : pt d = 1 := by unfold pt; rw [ht]; rfl
  have hup := h1.up g (d := d) ha o
  rw [hpt] at hup
  have hR : Ls (H ++ [d]) (ty.up v d.act (H.length + 1)) (putC c d.act) (putE c es d.act (elS d.el)) := by
    refine ⟨hup, ur r d.el (zr.set d.act (c.getD d.act 0 + 1)), ?_, fun e hl => ?_⟩
    · rw [hes]
      exact cano_put r he (set_ne (by omega) (by omega))
    · unfold ur
      by_cases hee : e = d.el
      · rw [if_pos hee]
        exact Rt.put g ha o hv hee.symm ht h1
      · rw [if_neg hee]
        exact (hr e hl).other g o (fun k => hee k.symm)
  have hform := hR.form (hh.push g hv ha o hst)
  refine ⟨.set (putC c d.act) (putE c es d.act (elS d.el)), ?_, hR, rfl⟩
  have hE : isE (elB d.el).length = true := by
    unfold isE elB
    split
    · rfl
    split <;> rfl
  show (if isA (d.act : Int) = false then _ else _) = _
  rw [if_neg (by rw [isA_nat (by omega)]; simp), if_neg (by rw [hE]; simp), if_neg (by rw [Int.toNat_natCast]; omega), Int.toNat_natCast, if_neg (by show ¬ 64 < (setB (putC c d.act) (putE c es d.act (elS d.el))).length; omega)]
  rfl
theorem act_switch {H : List Dn} {v : Nat → Nat} {c t : List Int} (h : Rel H v (.flg c t)) (g : Vc H v) (hl : H.length ≤ 60) {d : Dn} (ha : d.act < 4) (o : Own H v d.act) (hv : d.vc = v) (he : d.el = 0) :
    ∃ x, switchR (.flg c t) (d.act : Int) (!d.tk) = (0, x) ∧ Rel (H ++ [d]) (ty.up v d.act (H.length + 1)) x ∧ x.kd = 3 := by
  obtain ⟨h1, hr⟩ := h
  have hb := h1.bd g pt_ge (by omega) pt_le hl d.act (by omega)
  cases ht : d.tk
  · have hpt : pt d = 1 := by unfold pt; rw [ht]; rfl
    have hup := h1.up g (d := d) ha o
    rw [hpt] at hup
    refine ⟨.flg (c.set d.act (c.getD d.act 0 + 1)) (zr.set d.act (c.getD d.act 0 + 1)), ?_, ⟨hup, Rt.put g ha o hv he ht h1⟩, rfl⟩
    show (if isA (d.act : Int) = false then _ else _) = _
    rw [if_neg (by rw [isA_nat (by omega)]; simp), if_neg (by simp), if_neg (by rw [Int.toNat_natCast]; omega), Int.toNat_natCast]
  · refine ⟨.flg c zr, ?_, ⟨h1.same g ha o (by unfold pt; rw [ht]; rfl), Rt.take g o hv he ht⟩, rfl⟩
    show (if isA (d.act : Int) = false then _ else _) = _
    rw [if_neg (by rw [isA_nat (by omega)]; simp), if_pos (by simp)]
theorem act_write {H : List Dn} (hk : Hk 4 H) {v : Nat → Nat} {s a : Int} {t : ByteArray} (h : Rel H v (.rgs s a t)) (g : Vc H v) (hl : H.length ≤ 60) {d : Dn} (ha : d.act < 4) (o : Own H v d.act) (bs : List Nat) (hbs : bs.length ≤ 59) (hs : d.st = s + 1) (hx : d.tx = strB bs) :
    ∃ x, writeR (.rgs s a t) (d.act : Int) bs = (0, x) ∧ Rel (H ++ [d]) (ty.up v d.act (H.length + 1)) x ∧ x.kd = 4 := by
  have hst := Lg.stamp hk (x := (s, a, t)) h
  simp only at hst
  have hup := Lg.up g (d := d) o (fun q f hq hqv => by have := hst.2.2 q f hq hqv; omega)
  refine ⟨.rgs (s + 1) (d.act : Int) (strB bs), ?_, by rw [hs, hx] at hup; exact hup, rfl⟩
  show (if isA (d.act : Int) = false then _ else _) = _
  rw [if_neg (by rw [isA_nat (by omega)]; simp), if_neg (by omega), if_neg (by omega)]
end Go.Proofs.Ytdbeeikjngnnnaa.ty
