import Derived.Test.YtdbeeikjngnnnaaG36
import Derived.Test.YtdbeeikjngnnnaaG34
namespace Go.Proofs.Ytdbeeikjngnnnaa.ty
open Go.ChangeShapes Go.WideShapes Go.ChangeAt Go.RowKit
set_option linter.unusedVariables false
set_option linter.unusedSimpArgs false
/-! ### what a replica must tell -/
def byf (d : Dn) : Int := d.by_
theorem cnt_sub (H : List Dn) (j : Nat) : ∀ m, cnt H uf j m - cnt H df j m = cnt H byf j m
  | 0 => rfl
  | m + 1 => by
    have ih := cnt_sub H j m
    rw [cnt, cnt, cnt]
    cases H[m]? with
    | none => simpa using ih
    | some d =>
      simp only
      split
      · simp only [uf, df, byf]; omega
      · omega
/-- the sum of what is seen -/
def sm (H : List Dn) (v : Nat → Nat) : Nat → Int
  | 0 => 0
  | m + 1 => sm H v m + (match H[m]? with | some d => if m < v d.act then d.by_ else 0 | none => 0)
def sN (f : Nat → Int) : Nat → Int
  | 0 => 0
  | n + 1 => sN f n + f n
theorem sN_add (f g : Nat → Int) : ∀ n, sN (fun j => f j + g j) n = sN f n + sN g n
  | 0 => rfl
  | n + 1 => by rw [sN, sN, sN, sN_add f g n]; omega
theorem sN_one (a : Nat) (x : Int) : ∀ n, sN (fun j => if a = j then x else 0) n = if a < n then x else 0
  | 0 => by simp [sN]
  | n + 1 => by
    rw [sN, sN_one a x n]
    by_cases h1 : a = n
    · subst h1; simp
    · by_cases h2 : a < n
      · simp [h1, h2, show a < n + 1 by omega]
      · simp [h1, h2, show ¬ a < n + 1 by omega]
theorem sN_zero : ∀ n, sN (fun _ => 0) n = 0
  | 0 => rfl
  | n + 1 => by rw [sN, sN_zero n]; rfl
theorem sN_congr {f g : Nat → Int} : ∀ n, (∀ j, j < n → f j = g j) → sN f n = sN g n
  | 0, _ => rfl
  | n + 1, h => by rw [sN, sN, sN_congr n (fun j hj => h j (by omega)), h n (by omega)]
theorem sm_sN {H : List Dn} (hh : Hs H) (v : Nat → Nat) : ∀ m, sN (fun j => cnt H byf j (min (v j) m)) 8 = sm H v m
  | 0 => by
    have : (fun j => cnt H byf j (min (v j) 0)) = fun _ => 0 := by funext j; rw [Nat.min_zero]; rfl
    rw [this, sN_zero]; rfl
  | m + 1 => by
    rw [sm, ← sm_sN hh v m]
    have hstep : ∀ j, cnt H byf j (min (v j) (m + 1)) = cnt H byf j (min (v j) m) + (match H[m]? with | some d => if d.act = j then (if m < v d.act then d.by_ else 0) else 0 | none => 0) := by
      intro j
      by_cases h1 : m < v j
      · rw [show min (v j) (m + 1) = m + 1 by omega, show min (v j) m = m by omega, cnt]
        cases H[m]? with
        | none => rfl
        | some d =>
          simp only
          by_cases h2 : d.act = j
          · rw [if_pos h2, if_pos h2, if_pos (by rw [h2]; exact h1)]; rfl
          · rw [if_neg h2, if_neg h2]
      · rw [show min (v j) (m + 1) = v j by omega, show min (v j) m = v j by omega]
        cases H[m]? with
        | none => simp
        | some d =>
          simp only
          by_cases h2 : d.act = j
          · rw [if_pos h2, if_neg (by rw [h2]; exact h1)]; simp
          · rw [if_neg h2]; simp
    rw [show (fun j => cnt H byf j (min (v j) (m + 1))) = fun j => cnt H byf j (min (v j) m) + (match H[m]? with | some d => if d.act = j then (if m < v d.act then d.by_ else 0) else 0 | none => 0) from funext hstep, sN_add]
    congr 1
    cases hm : H[m]? with
    | none => exact sN_zero 8
    | some d =>
      have := hh.act m d hm
      simp only
      rw [sN_one, if_pos (by omega)]
theorem sumC_sN (u d : List Int) : ∀ n, sumC u d n = sN (fun j => u.getD j 0 - d.getD j 0) n
  | 0 => rfl
  | n + 1 => by rw [sumC, sN, sumC_sN u d n]
theorem sum_right {H : List Dn} (hh : Hs H) {v : Nat → Nat} (g : Vc H v) {u d : List Int} (h : Rel H v (.cnt u d)) : sumR (.cnt u d) = sm H v H.length := by
  show sumC u d 8 = _
  rw [sumC_sN, ← sm_sN hh v H.length]
  refine sN_congr 8 fun j hj => ?_
  rw [h.1.eq j hj, h.2.eq j hj, cnt_sub, Nat.min_eq_left (g.le j)]
theorem sm_bound {H : List Dn} (h : ∀ (p : Nat) (d : Dn), H[p]? = some d → -1000 ≤ d.by_ ∧ d.by_ ≤ 1000) (v : Nat → Nat) : ∀ m : Nat, -(1000 * (m : Int)) ≤ sm H v m ∧ sm H v m ≤ 1000 * (m : Int)
  | 0 => by simp [sm]
  | m + 1 => by
    have ih := sm_bound h v m
    rw [sm]
    cases hm : H[m]? with
    | none => simp only; omega
    | some d =>
      have := h m d hm
      simp only
      split <;> omega
/-! ### is an element there? -/
def elA (H : List Dn) (q : Nat) : Nat := match H[q]? with | some d => d.el | none => 3
def tkA (H : List Dn) (q : Nat) : Bool := match H[q]? with | some d => d.tk | none => true
/-- has q seen p? -/
def sw (H : List Dn) (q p : Nat) : Bool := match H[q]? with | some d => se H d.vc p | none => false
def kl (H : List Dn) (v : Nat → Nat) (e p q : Nat) : Bool := se H v q && elA H q == e && sw H q p
def gnB (H : List Dn) (v : Nat → Nat) (e p m : Nat) : Bool := (List.range m).any (kl H v e p)
def alB (H : List Dn) (v : Nat → Nat) (e p : Nat) : Bool := se H v p && !tkA H p && elA H p == e && !gnB H v e p H.length
def thB (H : List Dn) (v : Nat → Nat) (e : Nat) : Bool := (List.range H.length).any (alB H v e)
theorem gnB_succ (H : List Dn) (v : Nat → Nat) (e p m : Nat) : gnB H v e p (m + 1) = (gnB H v e p m || kl H v e p m) := by
  unfold gnB
  rw [List.range_succ, List.any_append]; simp
theorem alB_iff {H : List Dn} {v : Nat → Nat} {e p : Nat} (hp : p < H.length) : alB H v e p = true ↔ ∃ d, Al H v e p d := by
  obtain ⟨d, hd⟩ : ∃ d, H[p]? = some d := ⟨_, List.getElem?_eq_getElem hp⟩
  have hgn : gnB H v e p H.length = false ↔ ∀ (q : Nat) (d' : Dn), H[q]? = some d' → q < v d'.act → d'.el = e → ¬ p < d'.vc d.act := by
    unfold gnB
    rw [List.any_eq_false]
    constructor
    · intro h q d' hq hv he hlt
      refine h q (List.mem_range.2 (at_lt hq)) ?_
      unfold kl elA sw se
      simp only [hq, hd]
      simp [hv, he, hlt]
    · intro h q hq
      unfold kl elA sw se
      cases hq' : H[q]? with
      | none => simp
      | some d' =>
        simp only [hd]
        intro hk
        simp only [Bool.and_eq_true, decide_eq_true_eq, beq_iff_eq] at hk
        exact h q d' hq' hk.1.1 hk.1.2 hk.2
  unfold alB
  constructor
  · intro h
    simp only [Bool.and_eq_true, Bool.not_eq_true', beq_iff_eq] at h
    refine ⟨d, hd, ?_, ?_, ?_, hgn.1 h.2⟩
    · have := h.1.1.1; unfold se at this; rw [hd] at this; simpa using this
    · have := h.1.1.2; unfold tkA at this; rw [hd] at this; exact this
    · have := h.1.2; unfold elA at this; rw [hd] at this; exact this
  · rintro ⟨d', hd', h2, h3, h4, h5⟩
    rw [hd] at hd'
    obtain rfl := Option.some.inj hd'
    simp only [Bool.and_eq_true, Bool.not_eq_true', beq_iff_eq]
    refine ⟨⟨⟨?_, ?_⟩, ?_⟩, hgn.2 h5⟩
    · unfold se; rw [hd]; simpa using h2
    · unfold tkA; rw [hd]; exact h3
    · unfold elA; rw [hd]; exact h4
theorem thB_iff {H : List Dn} {v : Nat → Nat} {e : Nat} : thB H v e = true ↔ ∃ p d, Al H v e p d := by
  unfold thB
  rw [List.any_eq_true]
  constructor
  · rintro ⟨p, hp, h⟩
    obtain ⟨d, hd⟩ := (alB_iff (List.mem_range.1 hp)).1 h
    exact ⟨p, d, hd⟩
  · rintro ⟨p, d, h⟩
    exact ⟨p, List.mem_range.2 (at_lt h.1), (alB_iff (at_lt h.1)).2 ⟨d, h⟩⟩
theorem thB_no {H : List Dn} {v : Nat → Nat} {e : Nat} (h : ∀ p, p < H.length → alB H v e p = false) : thB H v e = false := by
  unfold thB
  rw [List.any_eq_false]
  intro p hp
  rw [h p (List.mem_range.1 hp)]; simp
theorem thB_yes {H : List Dn} {v : Nat → Nat} {e p : Nat} (hp : p < H.length) (h : alB H v e p = true) : thB H v e = true := by
  unfold thB
  rw [List.any_eq_true]
  exact ⟨p, List.mem_range.2 hp, h⟩
theorem Rt.th {H : List Dn} (hh : Hs H) {v : Nat → Nat} {e : Nat} {a : List Int} (h : Rt H v e a) : thB H v e = (a != zr) := by
  have h1 := h.zr_iff hh
  cases hb : thB H v e
  · have : ¬ a ≠ zr := fun k => by rw [thB_iff.2 (h1.1 k)] at hb; cases hb
    have h2 : a = zr := Classical.not_not.1 this
    rw [h2]; simp
  · have h2 := h1.2 (thB_iff.1 hb)
    simp [h2]
theorem on_right {H : List Dn} (hh : Hs H) {v : Nat → Nat} {c g : List Int} (h : Rel H v (.flg c g)) : onR (.flg c g) = thB H v 0 := (h.2.th hh).symm
/-- how many of the first elements are there -/
def kk (H : List Dn) (v : Nat → Nat) (t : Nat) : Nat := (if 0 < t ∧ thB H v 0 = true then 1 else 0) + (if 1 < t ∧ thB H v 2 = true then 1 else 0) + (if 2 < t ∧ thB H v 1 = true then 1 else 0)
def eo (t : Nat) : Nat := if t = 0 then 0 else if t = 1 then 2 else 1
theorem els_right {H : List Dn} (hh : Hs H) {v : Nat → Nat} {c : List Int} {es : List En} (h : Rel H v (.set c es)) : es.length = kk H v 3 ∧ ∀ t, t < 3 → thB H v (eo t) = true → ∃ x, es[kk H v t]? = some x ∧ x.e = elS (eo t) := by
  obtain ⟨h1, r, he, hr⟩ := h
  have t0 := (hr 0 (by omega)).th hh
  have t1 := (hr 1 (by omega)).th hh
  have t2 := (hr 2 (by omega)).th hh
  subst he
  have l : ∀ e, (e1 r e) = if (r e != zr) = true then [⟨elS e, r e⟩] else [] := by
    intro e
    unfold e1
    by_cases hz : r e = zr
    · simp [hz]
    · simp [hz]
  unfold cano kk
  rw [l 0, l 1, l 2, ← t0, ← t1, ← t2]
  refine ⟨?_, fun t ht hth => ?_⟩
  · cases thB H v 0 <;> cases thB H v 1 <;> cases thB H v 2 <;> simp
  · obtain rfl | rfl | rfl : t = 0 ∨ t = 1 ∨ t = 2 := by omega
    · have hth : thB H v 0 = true := hth
      rw [hth]
      cases thB H v 1 <;> cases thB H v 2 <;> exact ⟨⟨elS 0, r 0⟩, by simp, rfl⟩
    · have hth : thB H v 2 = true := hth
      rw [hth]
      cases thB H v 0 <;> cases thB H v 1 <;> exact ⟨⟨elS 2, r 2⟩, by simp, rfl⟩
    · have hth : thB H v 1 = true := hth
      rw [hth]
      cases thB H v 0 <;> cases thB H v 2 <;> exact ⟨⟨elS 1, r 1⟩, by simp, rfl⟩
/-- of a register: is p seen by another one? -/
def snB (H : List Dn) (v : Nat → Nat) (p m : Nat) : Bool := (List.range m).any fun q => se H v q && sw H q p
theorem snB_succ (H : List Dn) (v : Nat → Nat) (p m : Nat) : snB H v p (m + 1) = (snB H v p m || (se H v m && sw H m p)) := by
  unfold snB
  rw [List.range_succ, List.any_append]; simp
theorem text_right {H : List Dn} (hh : Hs H) {v : Nat → Nat} {s a : Int} {t : ByteArray} (h : Rel H v (.rgs s a t)) : (t = ⟨#[]⟩ ∧ ∀ p, se H v p = false) ∨ ∃ p d, H[p]? = some d ∧ se H v p = true ∧ t = d.tx ∧ snB H v p H.length = false := by
  rcases h with ⟨hx, hno⟩ | ⟨p, d, hp, hpv, hx, hmax⟩
  · simp only [Prod.mk.injEq] at hx
    refine .inl ⟨hx.2.2, fun p => ?_⟩
    unfold se
    cases hp : H[p]? with
    | none => rfl
    | some d => simpa using hno p d hp
  · simp only [Prod.mk.injEq] at hx
    refine .inr ⟨p, d, hp, by unfold se; rw [hp]; simpa using hpv, hx.2.2, ?_⟩
    unfold snB
    rw [List.any_eq_false]
    intro q hq
    unfold se sw
    cases hq' : H[q]? with
    | none => simp
    | some f =>
      simp only
      unfold se
      rw [hp]
      intro hk
      simp only [Bool.and_eq_true, decide_eq_true_eq] at hk
      have h1 := hh.st q f p d hq' hp hk.2
      refine hmax q f hq' hk.1 (.inl ?_)
      simp only
      omega
/-! ### the whole -/
def ud {α : Type} (f : Nat → α) (i : Nat) (x : α) : Nat → α := fun j => if j = i then x else f j
structure Wr (k : Nat) (H : List Dn) (c : Nat → Nat → Nat) (V : Nat → Vl) : Prop where
  hs : Hs H
  hk : Hk k H
  vc : ∀ i, i < 4 → Vc H (c i)
  own : ∀ i, i < 4 → Own H (c i) i
  rel : ∀ i, i < 4 → Rel H (c i) (V i)
  kd : ∀ i, i < 4 → (V i).kd = k
theorem Wr.gk {k : Nat} {H : List Dn} {c : Nat → Nat → Nat} {V : Nat → Vl} (h : Wr k H c V) (hl : H.length ≤ 60) {i : Nat} (hi : i < 4) : Gk k 3 (V i) := (h.rel i hi).gd h.hs h.hk (h.vc i hi) (h.kd i hi) hl
theorem Wr.merge {k : Nat} {H : List Dn} {c : Nat → Nat → Nat} {V : Nat → Vl} (h : Wr k H c V) (hl : H.length ≤ 60) {i j : Nat} (hi : i < 4) (hj : j < 4) : Wr k H (ud c i (mx (c i) (c j))) (ud V i (mgV (V i) (V j))) := by
  refine ⟨h.hs, h.hk, fun l hl' => ?_, fun l hl' => ?_, fun l hl' => ?_, fun l hl' => ?_⟩
  · unfold ud
    split
    · exact (h.vc i hi).mx (h.vc j hj)
    · exact h.vc l hl'
  · unfold ud
    split
    · rename_i e; subst e; exact (h.own _ hi).mx
    · exact h.own l hl'
  · unfold ud
    split
    · rename_i e; subst e
      exact (h.rel _ hi).mx h.hs h.hk (h.rel j hj) (h.vc _ hi) (h.vc j hj) (h.kd _ hi) (h.kd j hj) hl
    · exact h.rel l hl'
  · unfold ud
    split
    · rw [mgV_kd]; exact h.kd i hi
    · exact h.kd l hl'
theorem Wr.act {k : Nat} {H : List Dn} {c : Nat → Nat → Nat} {V : Nat → Vl} (h : Wr k H c V) {d : Dn} (ha : d.act < 4) (hv : d.vc = c d.act) (hst : ∀ (q : Nat) (e : Dn), H[q]? = some e → q < c d.act e.act → e.st < d.st) (hk : Hk k (H ++ [d])) {x : Vl} (hx : Rel (H ++ [d]) (ty.up (c d.act) d.act (H.length + 1)) x) (hkd : x.kd = k) : Wr k (H ++ [d]) (ud c d.act (ty.up (c d.act) d.act (H.length + 1))) (ud V d.act x) := by
  have o := h.own d.act ha
  refine ⟨h.hs.push (h.vc d.act ha) hv ha o hst, hk, fun l hl' => ?_, fun l hl' => ?_, fun l hl' => ?_, fun l hl' => ?_⟩
  · unfold ud
    split
    · exact (h.vc d.act ha).up hv o
    · exact (h.vc l hl').push d
  · unfold ud
    split
    · rename_i e; subst e; exact Own.up
    · rename_i e; exact (h.own l hl').push (fun k => e k.symm)
  · unfold ud
    split
    · exact hx
    · exact (h.rel l hl').push (h.vc l hl') d
  · unfold ud
    split
    · exact hkd
    · exact h.kd l hl'
theorem Rt.new (e : Nat) : Rt [] (fun _ => 0) e zr := ⟨rfl, fun j hj => .inr ⟨zrD j, fun p d h => by have := h.1; simp at this⟩⟩
theorem Rc.new (f : Dn → Int) : Rc [] f (fun _ => 0) zr := ⟨rfl, fun j hj => by rw [zrD]; rfl⟩
theorem Rel.new (k : Nat) : Rel [] (fun _ => 0) (new0 k) := by
  unfold new0
  split
  · exact ⟨Rc.new _, Rc.new _⟩
  split
  · exact ⟨Rc.new _, fun _ => zr, by simp [cano, e1], fun e _ => Rt.new e⟩
  split
  · exact ⟨Rc.new _, Rt.new 0⟩
  · exact .inl ⟨rfl, fun p d h => by simp at h⟩
theorem Wr.new {k : Nat} (h1 : 1 ≤ k) (h4 : k ≤ 4) : Wr k [] (fun _ _ => 0) (fun _ => new0 k) :=
  ⟨⟨fun p d h => by simp at h, fun p d h => by simp at h, fun p d q e h => by simp at h, fun p d q e h => by simp at h, fun p d q e h => by simp at h⟩,
   ⟨fun _ p d h => by simp at h, fun p d h => by simp at h, fun _ p d h => by simp at h, fun p d h => by simp at h, fun _ p d h => by simp at h⟩,
   fun i _ => ⟨fun j => Nat.le_refl _, fun q e h => by simp at h⟩, fun i _ q e h => by simp at h, fun i _ => Rel.new k, fun i _ => kd_new0 k h1 h4⟩
end Go.Proofs.Ytdbeeikjngnnnaa.ty
namespace Go.Proofs.Ytdbeeikjngnnnaa.ty
open Go.ChangeShapes Go.WideShapes Go.ChangeAt Go.RowKit
set_option linter.unusedVariables false
set_option linter.unusedSimpArgs false
theorem wth_nat (e n : Nat) (h : e < n) : wth (e : Int) n = e := by
  unfold wth
  rw [if_neg (by omega), Int.emod_eq_of_lt (by omega) (by omega)]
  exact Int.toNat_natCast e
theorem rdW {W : World} {P : Nat} {cs : Array Value} {bs : List Nat} (hP : W.heap[P]? = some (.cells cs 5 (0, 0))) (h : cs.toList = byts bs) : Rd W (some ⟨P, 0, none⟩) (byts bs) := fun _ => by
  refine ⟨P, 0, rfl, lt_of_heap hP, fun j v hj => ?_⟩
  rw [Nat.zero_add, cell_of_row _ _ _ _ _ _ hP, ← h] at *
  simpa using hj
theorem heap_push {W : World} {o : Obj} {k : Nat} {x : Obj} (h : W.heap[k]? = some x) : (W.alloc o).heap[k]? = some x := by
  obtain ⟨hk, h'⟩ := Array.getElem?_eq_some_iff.1 h
  show (W.heap.push o)[k]? = some x
  rw [Array.getElem?_push_lt hk, h']
theorem heap_new {W : World} {o : Obj} {k : Nat} (h : k = W.heap.size) : (W.alloc o).heap[k]? = some o := by
  subst h
  show (W.heap.push o)[W.heap.size]? = some o
  simp
set_option maxHeartbeats 2000000 in
set_option maxRecDepth 100000 in
theorem element_ok (w : World) (e : Nat) (he : e < 3) : Calls Try.prog 33 #[.int .i64 (e : Int)] w fun r w' => ∃ sl : Sl, r = .returned (.slice sl.p sl.n sl.c) ∧ Bq w' sl (elB e) ∧ Apart [] w w' := by
  have HC := hid (fun wx => within_law (e : Int) 3 (by omega) (by omega) (by omega) wx)
  rw [wth_nat e 3 he] at HC
  obtain rfl | rfl | rfl : e = 0 ∨ e = 1 ∨ e = 2 := by omega
  · go_enter Try.func33, Try.ntmps33
    go_wp2_with (go_at_call 25; refine (HC.out _).mono ?_; rintro _ wn ⟨rfl, hwn⟩; rw [hwn]; clear hwn)
    go_ret
    have a1 : Apart [] w ((((w.alloc (.cells #[.int .u8 97] 5)).alloc (.cells #[.int .u8 98] 5)).alloc (.cells #[.int .u8 97, .int .u8 0] 5)).alloc (.cells #[.slice (some ⟨w.heap.size, 0, none⟩) 1 1, .slice (some ⟨w.heap.size + 1, 0, none⟩) 1 1, .slice (some ⟨w.heap.size + 1 + 1, 0, none⟩) 2 2] 22)) := ((((Apart.refl [] w).alloc _).alloc _).alloc _).alloc _
    exact ⟨⟨some ⟨w.heap.size, 0, none⟩, 1, 1⟩, rfl, ⟨(rdW (heap_push (heap_push (heap_push (heap_new rfl)))) rfl), rfl, fun e => by cases e⟩, a1⟩
  · go_enter Try.func33, Try.ntmps33
    go_wp2_with (go_at_call 25; refine (HC.out _).mono ?_; rintro _ wn ⟨rfl, hwn⟩; rw [hwn]; clear hwn)
    go_ret
    have a1 : Apart [] w ((((w.alloc (.cells #[.int .u8 97] 5)).alloc (.cells #[.int .u8 98] 5)).alloc (.cells #[.int .u8 97, .int .u8 0] 5)).alloc (.cells #[.slice (some ⟨w.heap.size, 0, none⟩) 1 1, .slice (some ⟨w.heap.size + 1, 0, none⟩) 1 1, .slice (some ⟨w.heap.size + 1 + 1, 0, none⟩) 2 2] 22)) := ((((Apart.refl [] w).alloc _).alloc _).alloc _).alloc _
    exact ⟨⟨some ⟨w.heap.size + 1, 0, none⟩, 1, 1⟩, rfl, ⟨(rdW (heap_push (heap_push (heap_new (by show _ = (w.heap.push _).size; simp)))) rfl), rfl, fun e => by cases e⟩, a1⟩
  · go_enter Try.func33, Try.ntmps33
    go_wp2_with (go_at_call 25; refine (HC.out _).mono ?_; rintro _ wn ⟨rfl, hwn⟩; rw [hwn]; clear hwn)
    go_ret
    have a1 : Apart [] w ((((w.alloc (.cells #[.int .u8 97] 5)).alloc (.cells #[.int .u8 98] 5)).alloc (.cells #[.int .u8 97, .int .u8 0] 5)).alloc (.cells #[.slice (some ⟨w.heap.size, 0, none⟩) 1 1, .slice (some ⟨w.heap.size + 1, 0, none⟩) 1 1, .slice (some ⟨w.heap.size + 1 + 1, 0, none⟩) 2 2] 22)) := ((((Apart.refl [] w).alloc _).alloc _).alloc _).alloc _
    exact ⟨⟨some ⟨w.heap.size + 1 + 1, 0, none⟩, 2, 2⟩, rfl, ⟨(rdW (heap_push (heap_new (by show _ = ((w.heap.push _).push _).size; simp))) rfl), rfl, fun e => by cases e⟩, a1⟩
end Go.Proofs.Ytdbeeikjngnnnaa.ty
