import Derived.Test.YtdbeeikjngnnnaaG34
namespace Go.Proofs.Ytdbeeikjngnnnaa.ty
open Go.ChangeShapes Go.WideShapes Go.ChangeAt Go.RowKit
set_option linter.unusedVariables false
set_option linter.unusedSimpArgs false
/-! ### tags -/
def pt (d : Dn) : Int := if d.tk then 0 else 1
theorem pt_ge {H : List Dn} : ∀ (p : Nat) (d : Dn), H[p]? = some d → 0 ≤ pt d := fun p d _ => by unfold pt; split <;> omega
theorem pt_le {H : List Dn} : ∀ (p : Nat) (d : Dn), H[p]? = some d → pt d ≤ 1 := fun p d _ => by unfold pt; split <;> omega
/-- a putting that nothing seen has seen -/
def Al (H : List Dn) (v : Nat → Nat) (e p : Nat) (d : Dn) : Prop := H[p]? = some d ∧ p < v d.act ∧ d.tk = false ∧ d.el = e ∧ ∀ (q : Nat) (d' : Dn), H[q]? = some d' → q < v d'.act → d'.el = e → ¬ p < d'.vc d.act
theorem Al.mx {H : List Dn} {v u : Nat → Nat} {e p : Nat} {d : Dn} (h : Al H (ty.mx v u) e p d) : (p < v d.act → Al H v e p d) ∧ (p < u d.act → Al H u e p d) ∧ (p < v d.act ∨ p < u d.act) := by
  obtain ⟨h1, h2, h3, h4, h5⟩ := h
  simp only [ty.mx] at h2
  refine ⟨fun hv => ⟨h1, hv, h3, h4, fun q d' hd hq he => h5 q d' hd (by simp only [ty.mx]; omega) he⟩, fun hu => ⟨h1, hu, h3, h4, fun q d' hd hq he => h5 q d' hd (by simp only [ty.mx]; omega) he⟩, by omega⟩
theorem Al.one {H : List Dn} (hh : Hs H) {v : Nat → Nat} {e p q : Nat} {d d' : Dn} (h : Al H v e p d) (k : Al H v e q d') (ha : d.act = d'.act) : p = q := by
  rcases Nat.lt_trichotomy p q with hlt | he | hlt
  · refine absurd (hh.own q d' p d k.1 h.1 hlt ha) ?_
    rw [← ha]
    exact h.2.2.2.2 q d' k.1 k.2.1 k.2.2.2.1
  · exact he
  · refine absurd (hh.own p d q d' h.1 k.1 hlt ha.symm) ?_
    rw [ha]
    exact k.2.2.2.2 p d h.1 h.2.1 h.2.2.2.1
theorem cnt_pt {H : List Dn} {p : Nat} {d : Dn} (h : H[p]? = some d) (ht : d.tk = false) : cnt H pt d.act (p + 1) = cnt H pt d.act p + 1 := by
  rw [cnt, h]; simp [pt, ht]
/-- an element's row of tags -/
structure Rt (H : List Dn) (v : Nat → Nat) (e : Nat) (a : List Int) : Prop where
  len : a.length = 8
  eq : ∀ j, j < 8 → (∃ (p : Nat) (d : Dn), Al H v e p d ∧ d.act = j ∧ a.getD j 0 = cnt H pt j (p + 1)) ∨ (a.getD j 0 = 0 ∧ ∀ (p : Nat) (d : Dn), Al H v e p d → d.act ≠ j)
/-- one number of two -/
def T1 (H : List Dn) (v : Nat → Nat) (e j : Nat) (x : Int) : Prop := (∃ (p : Nat) (d : Dn), Al H v e p d ∧ d.act = j ∧ x = cnt H pt j (p + 1)) ∨ (x = 0 ∧ ∀ (p : Nat) (d : Dn), Al H v e p d → d.act ≠ j)
theorem t1_half {H : List Dn} (hh : Hs H) {v u : Nat → Nat} (hv : Vc H v) (hu : Vc H u) {e j : Nat} {x y : Int} (h : T1 H v e j x) (k : T1 H u e j y) (hq : (∃ (p : Nat) (d : Dn), Al H v e p d ∧ d.act = j ∧ x = cnt H pt j (p + 1) ∧ ((∀ (q : Nat) (d' : Dn), Al H u e q d' → d'.act ≠ j) ∨ ∃ (q : Nat) (d' : Dn), Al H u e q d' ∧ d'.act = j ∧ p < q))) :
    T1 H (mx v u) e j (max (st x y (cnt H pt j (u j))) (st y x (cnt H pt j (v j)))) := by
  obtain ⟨p, d, hp, hj, hx, hc⟩ := hq
  have hN := cnt_pt hp.1 hp.2.2.1
  rw [hj] at hN
  have h0 := cnt_ge (f := pt) (H := H) pt_ge j p
  have hpv : p < v j := by rw [← hj]; exact hp.2.1
  have hxv : x ≤ cnt H pt j (v j) := by rw [hx]; exact cnt_mono pt_ge j _ _ hpv
  rcases hc with hc | ⟨q, d', hq, hj', hlt⟩
  · have hy : y = 0 := by
      rcases k with ⟨q, d', hq, hj', -⟩ | ⟨h1, -⟩
      · exact absurd hj' (hc q d' hq)
      · exact h1
    subst hy
    by_cases hpu : p < u j
    · have hxu : x ≤ cnt H pt j (u j) := by rw [hx]; exact cnt_mono pt_ge j _ _ hpu
      have e1 : st x 0 (cnt H pt j (u j)) = 0 := by unfold st; rw [if_neg]; omega
      have e2 : st 0 x (cnt H pt j (v j)) = 0 := by unfold st; split <;> rfl
      rw [e1, e2]
      refine .inr ⟨rfl, fun r f hr hf => ?_⟩
      obtain ⟨h1, h2, h3⟩ := hr.mx
      by_cases hru : r < u f.act
      · exact hc r f (h2 hru) hf
      · have h4 := h1 (by omega)
        have h5 := Al.one hh h4 hp (hf.trans hj.symm)
        subst h5
        rw [hf] at hru
        exact hru hpu
    · have hxu : cnt H pt j (u j) < x := by
        have := cnt_mono (f := pt) (H := H) pt_ge j (u j) p (by omega)
        omega
      have e1 : st x 0 (cnt H pt j (u j)) = x := by unfold st; rw [if_pos (.inr hxu)]
      have e2 : st 0 x (cnt H pt j (v j)) = 0 := by unfold st; split <;> rfl
      rw [e1, e2, show max x 0 = x from by omega]
      refine .inl ⟨p, d, ⟨hp.1, ?_, hp.2.2.1, hp.2.2.2.1, fun r f hf hr he => ?_⟩, hj, hx⟩
      · have := hp.2.1; simp only [mx]; omega
      · simp only [mx] at hr
        by_cases hrv : r < v f.act
        · exact hp.2.2.2.2 r f hf hrv he
        · have := hu.cl r f hf (by omega) d.act
          rw [hj] at this ⊢
          omega
  · have hy : y = cnt H pt j (q + 1) := by
      rcases k with ⟨r, f, hr, hf, hy⟩ | ⟨-, h2⟩
      · rw [hy, Al.one hh hr hq (hf.trans hj'.symm)]
      · exact absurd hj' (h2 q d' hq)
    have hM := cnt_pt hq.1 hq.2.2.1
    rw [hj'] at hM
    have hqu : q < u j := by rw [← hj']; exact hq.2.1
    have hxy : x < y := by
      have := cnt_mono (f := pt) (H := H) pt_ge j (p + 1) q (by omega)
      omega
    have hpq : p < d'.vc j := by
      have := hh.own q d' p d hq.1 hp.1 hlt (hj.trans hj'.symm)
      rwa [hj'] at this
    have hqv : ¬ q < v j := fun hqv => by
      refine hp.2.2.2.2 q d' hq.1 (by rw [hj']; exact hqv) hq.2.2.2.1 ?_
      rw [hj]; exact hpq
    have hyv : cnt H pt j (v j) < y := by
      have := cnt_mono (f := pt) (H := H) pt_ge j (v j) q (by omega)
      omega
    have hyu : y ≤ cnt H pt j (u j) := by rw [hy]; exact cnt_mono pt_ge j _ _ hqu
    have e1 : st x y (cnt H pt j (u j)) = 0 := by unfold st; rw [if_neg]; omega
    have e2 : st y x (cnt H pt j (v j)) = y := by unfold st; rw [if_pos (.inr hyv)]
    rw [e1, e2, show max 0 y = y from by omega]
    refine .inl ⟨q, d', ⟨hq.1, ?_, hq.2.2.1, hq.2.2.2.1, fun r f hf hr he => ?_⟩, hj', hy⟩
    · have := hq.2.1; simp only [mx]; omega
    · simp only [mx] at hr
      by_cases hru : r < u f.act
      · exact hq.2.2.2.2 r f hf hru he
      · have := hv.cl r f hf (by omega) d'.act
        rw [hj'] at this ⊢
        omega
theorem T1.comm {H : List Dn} {v u : Nat → Nat} {e j : Nat} {x y a b : Int} (h : T1 H (mx v u) e j (max (st x y a) (st y x b))) : T1 H (mx u v) e j (max (st y x b) (st x y a)) := by
  rw [mx_comm u v, Int.max_comm]
  exact h
theorem t1_mx {H : List Dn} (hh : Hs H) {v u : Nat → Nat} (hv : Vc H v) (hu : Vc H u) {e j : Nat} {x y : Int} (h : T1 H v e j x) (k : T1 H u e j y) :
    T1 H (mx v u) e j (max (st x y (cnt H pt j (u j))) (st y x (cnt H pt j (v j)))) := by
  rcases id h with ⟨p, d, hp, hj, hx⟩ | ⟨hx, hn⟩
  · rcases id k with ⟨q, d', hq, hj', hy⟩ | ⟨hy, hm⟩
    · rcases Nat.lt_trichotomy p q with hlt | he | hlt
      · exact t1_half hh hv hu h k ⟨p, d, hp, hj, hx, .inr ⟨q, d', hq, hj', hlt⟩⟩
      · subst he
        have hd : d = d' := by have h1 := hp.1; rw [hq.1] at h1; exact (Option.some.inj h1).symm
        subst hd
        have hxy : x = y := by rw [hx, hy]
        subst hxy
        have e1 : ∀ z, st x x z = x := fun z => by unfold st; simp
        rw [e1, e1, show max x x = x from by omega]
        refine .inl ⟨p, d, ⟨hp.1, ?_, hp.2.2.1, hp.2.2.2.1, fun r f hf hr he => ?_⟩, hj, hx⟩
        · have := hp.2.1; simp only [mx]; omega
        · simp only [mx] at hr
          by_cases hrv : r < v f.act
          · exact hp.2.2.2.2 r f hf hrv he
          · exact hq.2.2.2.2 r f hf (by omega) he
      · exact (t1_half hh hu hv k h ⟨q, d', hq, hj', hy, .inr ⟨p, d, hp, hj, hlt⟩⟩).comm
    · exact t1_half hh hv hu h k ⟨p, d, hp, hj, hx, .inl hm⟩
  · rcases id k with ⟨q, d', hq, hj', hy⟩ | ⟨hy, hm⟩
    · exact (t1_half hh hu hv k h ⟨q, d', hq, hj', hy, .inl hn⟩).comm
    · subst hx; subst hy
      have e1 : ∀ z, st 0 0 z = 0 := fun z => by unfold st; simp
      rw [e1, e1, show max (0 : Int) 0 = 0 from by omega]
      refine .inr ⟨rfl, fun r f hr hf => ?_⟩
      obtain ⟨h1, h2, h3⟩ := hr.mx
      rcases h3 with h3 | h3
      · exact hn r f (h1 h3) hf
      · exact hm r f (h2 h3) hf
theorem Rt.mx {H : List Dn} (hh : Hs H) {v u : Nat → Nat} (hv : Vc H v) (hu : Vc H u) {e : Nat} {a b c c' : List Int} (ha : Rt H v e a) (hb : Rt H u e b) (hc : Rc H pt v c) (hc' : Rc H pt u c') : Rt H (ty.mx v u) e (mt a c b c') :=
  ⟨mt_len _ _ _ _, fun j hj => by
    rw [mt_at _ _ _ _ j hj, hc.eq j hj, hc'.eq j hj]
    exact t1_mx hh hv hu (ha.eq j hj) (hb.eq j hj)⟩
/-- an event that has nothing to do with the element, or with this view -/
theorem Al.push {H : List Dn} {v : Nat → Nat} (k : Vc H v) {e p : Nat} {d f : Dn} : Al (H ++ [d]) v e p f ↔ Al H v e p f := by
  constructor
  · rintro ⟨h1, h2, h3, h4, h5⟩
    rcases push_at h1 with ⟨-, h1⟩ | ⟨rfl, rfl⟩
    · exact ⟨h1, h2, h3, h4, fun q d' hd => h5 q d' (push_old hd)⟩
    · have := k.le f.act; omega
  · rintro ⟨h1, h2, h3, h4, h5⟩
    refine ⟨push_old h1, h2, h3, h4, fun q d' hd hq => ?_⟩
    rcases push_at hd with ⟨-, hd⟩ | ⟨rfl, rfl⟩
    · exact h5 q d' hd hq
    · have := k.le d'.act; omega
theorem Rt.push {H : List Dn} {v : Nat → Nat} {e : Nat} {a : List Int} (h : Rt H v e a) (k : Vc H v) (d : Dn) : Rt (H ++ [d]) v e a :=
  ⟨h.len, fun j hj => by
    rcases h.eq j hj with ⟨p, f, hp, hf, hx⟩ | ⟨hx, hn⟩
    · exact .inl ⟨p, f, (Al.push k).2 hp, hf, by rw [hx, cnt_push j _ (by have := at_lt hp.1; omega)]⟩
    · exact .inr ⟨hx, fun p f hp => hn p f ((Al.push k).1 hp)⟩⟩
theorem Al.other {H : List Dn} {v : Nat → Nat} (k : Vc H v) {e p : Nat} {d f : Dn} (o : Own H v d.act) (he : d.el ≠ e) : Al (H ++ [d]) (ty.up v d.act (H.length + 1)) e p f ↔ Al H v e p f := by
  constructor
  · rintro ⟨h1, h2, h3, h4, h5⟩
    rcases push_at h1 with ⟨-, h1⟩ | ⟨rfl, rfl⟩
    · exact ⟨h1, (up_old o h1 (by omega)).1 h2, h3, h4, fun q d' hd hq => h5 q d' (push_old hd) ((up_old o hd (by omega)).2 hq)⟩
    · exact absurd h4 he
  · rintro ⟨h1, h2, h3, h4, h5⟩
    refine ⟨push_old h1, (up_old o h1 (by omega)).2 h2, h3, h4, fun q d' hd hq he' => ?_⟩
    rcases push_at hd with ⟨-, hd⟩ | ⟨rfl, rfl⟩
    · exact h5 q d' hd ((up_old o hd (by omega)).1 hq) he'
    · exact absurd he' he
theorem Rt.other {H : List Dn} {v : Nat → Nat} {e : Nat} {a : List Int} (h : Rt H v e a) (k : Vc H v) {d : Dn} (o : Own H v d.act) (he : d.el ≠ e) : Rt (H ++ [d]) (ty.up v d.act (H.length + 1)) e a :=
  ⟨h.len, fun j hj => by
    rcases h.eq j hj with ⟨p, f, hp, hf, hx⟩ | ⟨hx, hn⟩
    · exact .inl ⟨p, f, (Al.other k o he).2 hp, hf, by rw [hx, cnt_push j _ (by have := at_lt hp.1; omega)]⟩
    · exact .inr ⟨hx, fun p f hp => hn p f ((Al.other k o he).1 hp)⟩⟩
/-- what is done to the element kills all that was there -/
theorem Al.killed {H : List Dn} {v : Nat → Nat} (k : Vc H v) {e p : Nat} {d f : Dn} (o : Own H v d.act) (hv : d.vc = v) (he : d.el = e) (h : Al (H ++ [d]) (ty.up v d.act (H.length + 1)) e p f) : p = H.length ∧ f = d := by
  obtain ⟨h1, h2, h3, h4, h5⟩ := h
  rcases push_at h1 with ⟨-, h1⟩ | h1
  · refine absurd ((up_old o h1 (by omega)).1 h2) ?_
    rw [← hv]
    exact h5 H.length d (push_new H d) (by simp only [ty.up, if_true]; omega) he
  · exact h1
theorem Rt.take {H : List Dn} {v : Nat → Nat} {e : Nat} (k : Vc H v) {d : Dn} (o : Own H v d.act) (hv : d.vc = v) (he : d.el = e) (ht : d.tk = true) : Rt (H ++ [d]) (ty.up v d.act (H.length + 1)) e zr :=
  ⟨rfl, fun j hj => .inr ⟨zrD j, fun p f hp => by
    obtain ⟨-, rfl⟩ := hp.killed k o hv he
    have := hp.2.2.1
    rw [ht] at this; cases this⟩⟩
theorem Rt.put {H : List Dn} {v : Nat → Nat} {e : Nat} (k : Vc H v) {d : Dn} (ha : d.act < 4) (o : Own H v d.act) (hv : d.vc = v) (he : d.el = e) (ht : d.tk = false) {c : List Int} (hc : Rc H pt v c) : Rt (H ++ [d]) (ty.up v d.act (H.length + 1)) e (zr.set d.act (c.getD d.act 0 + 1)) :=
  ⟨by rw [List.length_set]; rfl, fun j hj => by
    rw [getD_set (by show d.act < 8; omega)]
    by_cases hja : j = d.act
    · subst hja
      rw [if_pos rfl]
      refine .inl ⟨H.length, d, ⟨push_new H d, by simp only [ty.up, if_true]; omega, ht, he, fun q d' hd hq he' => ?_⟩, rfl, ?_⟩
      · rcases push_at hd with ⟨hl, hd⟩ | ⟨rfl, rfl⟩
        · intro h1
          have h2 := (up_old o hd (by omega)).1 hq
          have h3 := k.cl q d' hd h2 d.act
          have := k.le d.act
          omega
        · rw [hv]
          have := k.le d'.act
          omega
      · rw [cnt_new, if_pos rfl, cnt_own o (k.le _), hc.eq _ hj]
        simp [pt, ht]
    · rw [if_neg hja]
      refine .inr ⟨zrD j, fun p f hp hf => ?_⟩
      obtain ⟨-, rfl⟩ := hp.killed k o hv he
      exact hja hf.symm⟩
/-- is anything there? -/
theorem Rt.zr_iff {H : List Dn} {v : Nat → Nat} {e : Nat} {a : List Int} (hh : Hs H) (h : Rt H v e a) : a ≠ zr ↔ ∃ (p : Nat) (d : Dn), Al H v e p d := by
  constructor
  · intro hne
    refine Classical.byContradiction fun hno => hne ?_
    refine row_ext h.len rfl fun j hj => ?_
    rw [zrD]
    rcases h.eq j hj with ⟨p, d, hp, -⟩ | ⟨hx, -⟩
    · exact absurd ⟨p, d, hp⟩ hno
    · exact hx
  · rintro ⟨p, d, hp⟩ rfl
    have ha := hh.act p d hp.1
    rcases h.eq d.act (by omega) with ⟨q, f, hq, hf, hx⟩ | ⟨-, hn⟩
    · have hN := cnt_pt hq.1 hq.2.2.1
      have h0 := cnt_ge (f := pt) (H := H) pt_ge f.act q
      rw [zrD] at hx
      rw [← hf] at hx
      omega
    · exact hn p d hp rfl
end Go.Proofs.Ytdbeeikjngnnnaa.ty
namespace Go.Proofs.Ytdbeeikjngnnnaa.ty
open Go.ChangeShapes Go.WideShapes Go.ChangeAt Go.RowKit
set_option linter.unusedVariables false
set_option linter.unusedSimpArgs false
/-! ### sets of three elements -/
def elB (e : Nat) : List Nat := if e = 0 then [97] else if e = 1 then [98] else [97, 0]
def elS (e : Nat) : ByteArray := strB (elB e)
theorem bl02 : bl (elS 0) (elS 2) = true := by decide +kernel
theorem bl21 : bl (elS 2) (elS 1) = true := by decide +kernel
theorem bl01 : bl (elS 0) (elS 1) = true := by decide +kernel
theorem bl20 : bl (elS 2) (elS 0) = false := by decide +kernel
theorem bl12 : bl (elS 1) (elS 2) = false := by decide +kernel
theorem bl10 : bl (elS 1) (elS 0) = false := by decide +kernel
theorem el_size (e : Nat) : (elS e).size ≤ 2 := by
  unfold elS
  rw [strB_size]
  unfold elB
  split
  · simp
  split <;> simp
theorem el_inj {a b : Nat} (ha : a < 3) (hb : b < 3) (h : elS a = elS b) : a = b := by
  obtain rfl | rfl | rfl : a = 0 ∨ a = 1 ∨ a = 2 := by omega
  all_goals obtain rfl | rfl | rfl : b = 0 ∨ b = 1 ∨ b = 2 := by omega
  all_goals first
    | rfl
    | (exfalso; first
        | (have := bl01; rw [h, bl_irrefl] at this; cases this)
        | (have := bl01; rw [← h, bl_irrefl] at this; cases this)
        | (have := bl02; rw [h, bl_irrefl] at this; cases this)
        | (have := bl02; rw [← h, bl_irrefl] at this; cases this)
        | (have := bl21; rw [h, bl_irrefl] at this; cases this)
        | (have := bl21; rw [← h, bl_irrefl] at this; cases this))
def e1 (r : Nat → List Int) (e : Nat) : List En := if r e = zr then [] else [⟨elS e, r e⟩]
/-- the entries of three elements, by their tags -/
def cano (r : Nat → List Int) : List En := e1 r 0 ++ (e1 r 2 ++ e1 r 1)
theorem e1_mem {r : Nat → List Int} {e : Nat} {x : En} (h : x ∈ e1 r e) : r e ≠ zr ∧ x = ⟨elS e, r e⟩ := by
  unfold e1 at h
  split at h
  · simp at h
  · rename_i hn
    rw [List.mem_singleton] at h
    exact ⟨hn, h⟩
theorem cano_mem {r : Nat → List Int} {x : En} (h : x ∈ cano r) : ∃ e, e < 3 ∧ r e ≠ zr ∧ x = ⟨elS e, r e⟩ := by
  unfold cano at h
  rcases List.mem_append.1 h with h | h
  · exact ⟨0, by omega, e1_mem h⟩
  rcases List.mem_append.1 h with h | h
  · exact ⟨2, by omega, e1_mem h⟩
  · exact ⟨1, by omega, e1_mem h⟩
theorem e1_len (r : Nat → List Int) (e : Nat) : (e1 r e).length ≤ 1 := by unfold e1; split <;> simp
theorem cano_len (r : Nat → List Int) : (cano r).length ≤ 3 := by
  have h0 := e1_len r 0
  have h1 := e1_len r 1
  have h2 := e1_len r 2
  simp only [cano, List.length_append]; omega
theorem e1_so (r : Nat → List Int) (e : Nat) : So (e1 r e) := by
  unfold e1 So
  split
  · exact List.Pairwise.nil
  · exact List.pairwise_singleton _ _
theorem cano_so (r : Nat → List Int) : So (cano r) := by
  refine List.pairwise_append.2 ⟨e1_so r 0, List.pairwise_append.2 ⟨e1_so r 2, e1_so r 1, fun x hx y hy => ?_⟩, fun x hx y hy => ?_⟩
  · rw [(e1_mem hx).2, (e1_mem hy).2]; exact bl21
  · rw [(e1_mem hx).2]
    rcases List.mem_append.1 hy with hy | hy
    · rw [(e1_mem hy).2]; exact bl02
    · rw [(e1_mem hy).2]; exact bl01
theorem cano_nz (r : Nat → List Int) : ∀ x ∈ cano r, x.t ≠ zr := fun x hx => by
  obtain ⟨e, -, h, rfl⟩ := cano_mem hx
  exact h
theorem tg_app (a b : List En) (e : ByteArray) : tg (a ++ b) e = if ∃ x ∈ a, x.e = e then tg a e else tg b e := by
  induction a with
  | nil => simp
  | cons x a ih =>
    simp only [List.cons_append, tg]
    by_cases h : x.e = e
    · simp [h]
    · simp only [h, if_false, ih, List.mem_cons, exists_eq_or_imp, false_or]
theorem tg_e1 (r : Nat → List Int) (e : Nat) (x : ByteArray) : tg (e1 r e) x = if elS e = x then r e else zr := by
  unfold e1
  split
  · rename_i h
    simp only [tg, h, ite_self]
  · simp only [tg]
theorem tg_no {a : List En} {e : ByteArray} (h : ∀ x ∈ a, x.e ≠ e) : tg a e = zr := by
  induction a with
  | nil => rfl
  | cons x a ih =>
    simp only [tg, h x (by simp), if_false]
    exact ih fun y hy => h y (List.mem_cons_of_mem _ hy)
theorem cano_tg (r : Nat → List Int) {e : Nat} (he : e < 3) : tg (cano r) (elS e) = r e := by
  by_cases hz : r e = zr
  · rw [hz]
    refine tg_no fun x hx => ?_
    obtain ⟨e', he', hn, rfl⟩ := cano_mem hx
    intro h
    have := el_inj he' he h
    subst this
    exact hn hz
  · have hm : (⟨elS e, r e⟩ : En) ∈ cano r := by
      have h1 : (⟨elS e, r e⟩ : En) ∈ e1 r e := by unfold e1; rw [if_neg hz]; simp
      unfold cano
      obtain rfl | rfl | rfl : e = 0 ∨ e = 1 ∨ e = 2 := by omega
      · exact List.mem_append_left _ h1
      · exact List.mem_append_right _ (List.mem_append_right _ h1)
      · exact List.mem_append_right _ (List.mem_append_left _ h1)
    exact tg_mem (cano_so r) hm
theorem cano_tg_no (r : Nat → List Int) {x : ByteArray} (h : ∀ e, e < 3 → elS e ≠ x) : tg (cano r) x = zr := by
  refine tg_no fun y hy => ?_
  obtain ⟨e, he, -, rfl⟩ := cano_mem hy
  exact h e he
/-- sorted entries of these elements are so made -/
theorem cano_of {es : List En} (so : So es) (nz : ∀ x ∈ es, x.t ≠ zr) {r : Nat → List Int} (h : ∀ e, e < 3 → tg es (elS e) = r e) (hn : ∀ x, (∀ e, e < 3 → elS e ≠ x) → tg es x = zr) : es = cano r := by
  refine es_ext so (cano_so r) nz (cano_nz r) fun x => ?_
  by_cases hx : ∃ e, e < 3 ∧ elS e = x
  · obtain ⟨e, he, rfl⟩ := hx
    rw [h e he, cano_tg r he]
  · have hno : ∀ e, e < 3 → elS e ≠ x := fun e he k => hx ⟨e, he, k⟩
    rw [hn x hno, cano_tg_no r hno]
theorem tg_lohi {es : List En} (so : So es) (a x : ByteArray) : tg (lo es a ++ hi es a) x = if x = a then zr else tg es x := by
  have hso : So (lo es a ++ hi es a) := by
    refine List.pairwise_append.2 ⟨so.filter _, so.filter _, fun y hy z hz => ?_⟩
    exact bl_trans (List.mem_filter.1 hy).2 (List.mem_filter.1 hz).2
  by_cases h : x = a
  · subst h
    rw [if_pos rfl]
    refine tg_no fun y hy e => ?_
    rcases List.mem_append.1 hy with hy | hy
    · have := (List.mem_filter.1 hy).2; rw [e, bl_irrefl] at this; cases this
    · have := (List.mem_filter.1 hy).2; rw [e, bl_irrefl] at this; cases this
  · rw [if_neg h]
    rcases tg_or es x with h1 | ⟨y, hy, hyx, h1⟩
    · rw [h1]
      rcases tg_or (lo es a ++ hi es a) x with h2 | ⟨z, hz, hzx, h2⟩
      · exact h2
      · have hm : z ∈ es := by
          rcases List.mem_append.1 hz with hz | hz
          · exact (List.mem_filter.1 hz).1
          · exact (List.mem_filter.1 hz).1
        rw [h2, ← tg_mem so hm, hzx, h1]
    · rw [h1]
      have hm : y ∈ lo es a ++ hi es a := by
        cases hb : bl y.e a
        · cases hb2 : bl a y.e
          · exact absurd ((hyx.symm.trans (bl_total hb hb2))) h
          · exact List.mem_append_right _ (List.mem_filter.2 ⟨hy, hb2⟩)
        · exact List.mem_append_left _ (List.mem_filter.2 ⟨hy, hb⟩)
      rw [← hyx, tg_mem hso hm]
def ur (r : Nat → List Int) (e : Nat) (t : List Int) : Nat → List Int := fun i => if i = e then t else r i
theorem cano_take (r : Nat → List Int) {e : Nat} (he : e < 3) : lo (cano r) (elS e) ++ hi (cano r) (elS e) = cano (ur r e zr) := by
  have so := cano_so r
  have hso : So (lo (cano r) (elS e) ++ hi (cano r) (elS e)) := by
    refine List.pairwise_append.2 ⟨so.filter _, so.filter _, fun y hy z hz => ?_⟩
    exact bl_trans (List.mem_filter.1 hy).2 (List.mem_filter.1 hz).2
  refine cano_of hso (fun x hx => ?_) (fun i hi' => ?_) (fun x hx => ?_)
  · rcases List.mem_append.1 hx with hx | hx
    · exact cano_nz r x (List.mem_filter.1 hx).1
    · exact cano_nz r x (List.mem_filter.1 hx).1
  · rw [tg_lohi so]
    simp only [ur]
    by_cases h : i = e
    · subst h; simp
    · rw [if_neg (fun k => h (el_inj hi' he k)), if_neg h, cano_tg r hi']
  · rw [tg_lohi so, if_neg (fun k => hx e he k.symm), cano_tg_no r hx]
theorem cano_put (r : Nat → List Int) {e : Nat} (he : e < 3) {t : List Int} (ht : t ≠ zr) : lo (cano r) (elS e) ++ [⟨elS e, t⟩] ++ hi (cano r) (elS e) = cano (ur r e t) := by
  have so := cano_so r
  have hso : So (lo (cano r) (elS e) ++ [⟨elS e, t⟩] ++ hi (cano r) (elS e)) := by
    refine List.pairwise_append.2 ⟨List.pairwise_append.2 ⟨so.filter _, List.pairwise_singleton _ _, fun y hy z hz => ?_⟩, so.filter _, fun y hy z hz => ?_⟩
    · rw [List.mem_singleton] at hz; rw [hz]; exact (List.mem_filter.1 hy).2
    · rcases List.mem_append.1 hy with hy | hy
      · exact bl_trans (List.mem_filter.1 hy).2 (List.mem_filter.1 hz).2
      · rw [List.mem_singleton] at hy; rw [hy]; exact (List.mem_filter.1 hz).2
  have hk : ∀ x, x ≠ elS e → tg (lo (cano r) (elS e) ++ [⟨elS e, t⟩] ++ hi (cano r) (elS e)) x = tg (cano r) x := by
    intro x hx
    have h1 := tg_lohi so (elS e) x
    rw [if_neg hx] at h1
    rw [← h1, List.append_assoc, tg_app, tg_app (lo (cano r) (elS e))]
    split
    · rfl
    · simp only [List.singleton_append, tg]
      rw [if_neg (fun k => hx k.symm)]
  refine cano_of hso (fun x hx => ?_) (fun i hi' => ?_) (fun x hx => ?_)
  · rcases List.mem_append.1 hx with hx | hx
    · rcases List.mem_append.1 hx with hx | hx
      · exact cano_nz r x (List.mem_filter.1 hx).1
      · rw [List.mem_singleton] at hx; rw [hx]; exact ht
    · exact cano_nz r x (List.mem_filter.1 hx).1
  · simp only [ur]
    by_cases h : i = e
    · subst h
      rw [if_pos rfl]
      exact tg_mem hso (x := ⟨elS i, t⟩) (by simp)
    · rw [if_neg h, hk _ (fun k => h (el_inj hi' he k)), cano_tg r hi']
  · rw [hk x (fun k => hx e he k.symm), cano_tg_no r hx]
theorem cano_gs {r : Nat → List Int} {c : List Int} (hc : c.length = 8) (h0 : ∀ i, i < 8 → 0 ≤ c.getD i 0) (h : ∀ e, e < 3 → Wi (r e) c) : Gs c (cano r) :=
  ⟨cano_so r, cano_nz r, fun x hx => by obtain ⟨e, he, -, rfl⟩ := cano_mem hx; exact h e he, hc, h0⟩
theorem cano_mg {r s : Nat → List Int} {c d : List Int} (h : Gs c (cano r)) (k : Gs d (cano s)) : mgE c d (cano r) (cano s) = cano (fun e => mt (r e) c (s e) d) := by
  have g := mgE_gs h k
  refine cano_of g.so g.nz (fun e he => ?_) (fun x hx => ?_)
  · rw [mgE_tg h k, cano_tg r he, cano_tg s he]
  · rw [mgE_tg h k, cano_tg_no r hx, cano_tg_no s hx, mt_zz]
end Go.Proofs.Ytdbeeikjngnnnaa.ty
