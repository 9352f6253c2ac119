import Derived.Test.YtokaeiahhmaokaaDoorW5
import Derived.Test.YtokaeiahhmaokaaDoorW21
import Derived.Test.YtokaeiahhmaokaaDoorW1
import Derived.Test.YtokaeiahhmaokaaDoorW12
import Derived.Test.YtokaeiahhmaokaaDoorW14
namespace Go.Proofs.YtokaeiahhmaokaaDoor.ds
open Go.ChangeShapes Go.WideShapes Go.ChangeAt Go.RowKit
set_option linter.unusedVariables false
set_option linter.unusedSimpArgs false
/-- the set with the dot, node by node -/
def addF (xs : List S) (dn dc : Int) (j : Nat) : S := if (j : Int) = dn then withc (ofn xs dn) dc else ofn xs j
theorem addF_n (xs : List S) (dn dc : Int) (j : Nat) : (addF xs dn dc j).n = j := by
  unfold addF
  split
  · rename_i h; rw [withc_n, ofn_n, h]
  · exact ofn_n xs j
theorem addF_okn {gp : Int} {xs : List S} (k : OkL gp xs) (h0 : 1 ≤ gp) (hg : gp ≤ 64) (dn dc : Int) (hc : 1 ≤ dc ∧ dc ≤ 1048576) (hcg : dc ≤ (ofn xs dn).b + gp) (j : Nat) : Okn gp j (addF xs dn dc j) := by
  unfold addF
  split
  · rename_i h
    rw [h]
    exact withc_okn (k.okn (by omega) hg dn) hg hc.1 hc.2 hcg
  · exact k.okn (by omega) hg j
theorem addl_eq (xs : List S) (dn dc : Int) : addl xs dn dc = gath (addF xs dn dc) 8 := rfl
theorem addl_ok {gp : Int} {xs : List S} (k : OkL gp xs) (h0 : 1 ≤ gp) (hg : gp ≤ 64) (dn dc : Int) (hc : 1 ≤ dc ∧ dc ≤ 1048576) (hcg : dc ≤ (ofn xs dn).b + gp) : OkL gp (addl xs dn dc) := by
  rw [addl_eq]
  exact gath_ok (fun j _ => addF_okn k h0 hg dn dc hc hcg j) (fun j => addF_n xs dn dc j) 8 (by omega)
section
variable {p : Option Addr} {N cap : Nat} {xs : List S} {w : World} (dn dc gap : Int)
end
end Go.Proofs.YtokaeiahhmaokaaDoor.ds

namespace Go.Proofs.YtokaeiahhmaokaaDoor.ds
open Go.ChangeShapes Go.WideShapes Go.ChangeAt Go.RowKit Go.Sort
set_option linter.unusedVariables false
set_option linter.unusedSimpArgs false
/-- a union that is made -/
def UnC (gap : Int) (xs ys : List S) : Prop := (1 ≤ gap ∧ gap ≤ 64) ∧ OkL gap xs ∧ OkL gap ys
/-- a dot that is taken -/
def AdC (gap : Int) (xs : List S) (dn dc : Int) : Prop := (1 ≤ gap ∧ gap ≤ 64) ∧ IsDot dn dc ∧ OkL gap xs ∧ dc ≤ (ofn xs dn).b + gap
structure US (w w' : World) (r : Ending) (gap : Int) (xs ys : List S) : Prop where
  ex : ∃ q n c e, r = .returned (.tuple #[.slice q n c, .int .i64 e]) ∧ Apart [] w w' ∧ ((e = 0 ∧ UnC gap xs ys ∧ Own w w' q n c (uni xs ys) ∧ n ≤ 8) ∨ (¬ e = 0 ∧ ¬ UnC gap xs ys))
structure AS (w w' : World) (r : Ending) (gap : Int) (xs : List S) (dn dc : Int) : Prop where
  ex : ∃ q n c e, r = .returned (.tuple #[.slice q n c, .int .i64 e]) ∧ Apart [] w w' ∧ ((e = 0 ∧ AdC gap xs dn dc ∧ Own w w' q n c (addl xs dn dc) ∧ n ≤ 8) ∨ (¬ e = 0 ∧ ¬ AdC gap xs dn dc))
theorem US.ok {w w' : World} {r : Ending} {gap : Int} {xs ys : List S} (h : RPost w w' r (uni xs ys)) (k : UnC gap xs ys) : US w w' r gap xs ys := by
  obtain ⟨p, n, c, rfl, ho, hn⟩ := h.ex
  exact ⟨p, n, c, 0, rfl, ho.ap, .inl ⟨rfl, k, ho, hn⟩⟩
theorem US.err {w w' : World} {r : Ending} {gap e : Int} {xs ys : List S} (h : r = .returned (.tuple #[.slice none 0 0, .int .i64 e]) ∧ Apart [] w w') (he : ¬ e = 0) (k : ¬ UnC gap xs ys) : US w w' r gap xs ys :=
  ⟨none, 0, 0, e, h.1, h.2, .inr ⟨he, k⟩⟩
theorem AS.ok {w w' : World} {r : Ending} {gap : Int} {xs : List S} {dn dc : Int} (h : RPost w w' r (addl xs dn dc)) (k : AdC gap xs dn dc) : AS w w' r gap xs dn dc := by
  obtain ⟨p, n, c, rfl, ho, hn⟩ := h.ex
  exact ⟨p, n, c, 0, rfl, ho.ap, .inl ⟨rfl, k, ho, hn⟩⟩
theorem AS.err {w w' : World} {r : Ending} {gap e : Int} {xs : List S} {dn dc : Int} (h : r = .returned (.tuple #[.slice none 0 0, .int .i64 e]) ∧ Apart [] w w') (he : ¬ e = 0) (k : ¬ AdC gap xs dn dc) : AS w w' r gap xs dn dc :=
  ⟨none, 0, 0, e, h.1, h.2, .inr ⟨he, k⟩⟩
theorem union_c {w : World} {p q : Option Addr} {N M cap cb : Nat} {xs ys : List S} (gap : Int) (T : Tab w) (h : L w p N xs) (h2 : L w q M ys) : Calls Tryd.prog 102 #[.slice p N cap, .slice q M cb, .int .i64 gap] w fun r w' => US w w' r gap xs ys := by
  by_cases hg : 1 ≤ gap ∧ gap ≤ 64
  · by_cases k : OkL gap xs
    · by_cases k2 : OkL gap ys
      · exact (union_ok gap T h h2 hg k k2).mono (fun r w' hh => US.ok hh ⟨hg, k, k2⟩)
      · exact (union_set2 gap h h2 hg k k2).mono (fun r w' hh => US.err hh (by decide) (fun h => k2 h.2.2))
    · exact (union_set1 gap h hg k).mono (fun r w' hh => US.err hh (by decide) (fun h => k h.2.1))
  · exact (union_arg gap hg).mono (fun r w' hh => US.err hh (by decide) (fun h => hg h.1))
theorem isd_iff (dn dc : Int) : isd dn dc = true ↔ IsDot dn dc := by unfold isd IsDot; simp
theorem add_c {w : World} {p : Option Addr} {N cap : Nat} {xs : List S} (gap dn dc : Int) (T : Tab w) (h : L w p N xs) : Calls Tryd.prog 103 #[.slice p N cap, .agg #[.int .i64 dn, .int .i64 dc], .int .i64 gap] w fun r w' => AS w w' r gap xs dn dc := by
  by_cases hg : 1 ≤ gap ∧ gap ≤ 64
  · by_cases hd : IsDot dn dc
    · by_cases k : OkL gap xs
      · by_cases hc : dc ≤ (ofn xs dn).b + gap
        · exact (add_ok dn dc gap T h hg hd k hc).mono (fun r w' hh => AS.ok hh ⟨hg, hd, k, hc⟩)
        · exact (add_gap dn dc gap h hg hd k (by omega)).mono (fun r w' hh => AS.err hh (by decide) (fun h => hc h.2.2.2))
      · exact (add_set dn dc gap h hg hd k).mono (fun r w' hh => AS.err hh (by decide) (fun h => k h.2.2.1))
    · exact (add_arg2 dn dc gap hg hd).mono (fun r w' hh => AS.err hh (by decide) (fun h => hd h.2.1))
  · exact (add_arg1 dn dc gap hg).mono (fun r w' hh => AS.err hh (by decide) (fun h => hg h.1))
/-- a write that fits in a token -/
def TkC (gap : Int) (T : List S) (x : Wr) : Prop := UnC gap T x.xs ∧ AdC gap (uni T x.xs) x.n x.c
open Classical in
noncomputable def tkT (gap : Int) (T : List S) (rs : List Wr) : Nat → List S
  | 0 => T
  | i + 1 => if TkC gap (tkT gap T rs i) (gR rs i) then addl (uni (tkT gap T rs i) (gR rs i).xs) (gR rs i).n (gR rs i).c else tkT gap T rs i
open Classical in
noncomputable def tkO (gap : Int) (T : List S) (rs : List Wr) : Nat → List Wr
  | 0 => []
  | i + 1 => if TkC gap (tkT gap T rs i) (gR rs i) then tkO gap T rs i else tkO gap T rs i ++ [gR rs i]
open Classical in
noncomputable def tkE (gap : Int) (T : List S) (rs : List Wr) (es : List E) : Nat → List E
  | 0 => []
  | i + 1 => if TkC gap (tkT gap T rs i) (gR rs i) then tkE gap T rs es i else tkE gap T rs es i ++ [gE es i]
theorem tkT_yes {gap : Int} {T : List S} {rs : List Wr} {i : Nat} (h : TkC gap (tkT gap T rs i) (gR rs i)) : tkT gap T rs (i + 1) = addl (uni (tkT gap T rs i) (gR rs i).xs) (gR rs i).n (gR rs i).c := by simp only [tkT]; rw [if_pos h]
theorem tkT_no {gap : Int} {T : List S} {rs : List Wr} {i : Nat} (h : ¬ TkC gap (tkT gap T rs i) (gR rs i)) : tkT gap T rs (i + 1) = tkT gap T rs i := by simp only [tkT]; rw [if_neg h]
theorem tkE_yes {gap : Int} {T : List S} {rs : List Wr} {es : List E} {i : Nat} (h : TkC gap (tkT gap T rs i) (gR rs i)) : tkE gap T rs es (i + 1) = tkE gap T rs es i := by simp only [tkE]; rw [if_pos h]
theorem tkE_no {gap : Int} {T : List S} {rs : List Wr} {es : List E} {i : Nat} (h : ¬ TkC gap (tkT gap T rs i) (gR rs i)) : tkE gap T rs es (i + 1) = tkE gap T rs es i ++ [gE es i] := by simp only [tkE]; rw [if_neg h]
theorem tkE_map (gap : Int) (T : List S) (R : E → Wr) (es : List E) : ∀ i, i ≤ es.length → (tkE gap T (es.map R) es i).map R = tkO gap T (es.map R) i
  | 0, _ => rfl
  | i + 1, h => by
    simp only [tkE, tkO]
    split
    · exact tkE_map gap T R es i (by omega)
    · rw [List.map_append, tkE_map gap T R es i (by omega), gR_map R es i (by omega)]; rfl
theorem tkE_sub (gap : Int) (T : List S) (rs : List Wr) (es : List E) : ∀ i, i ≤ es.length → ∀ e ∈ tkE gap T rs es i, e ∈ es
  | 0, _, e, he => by simp [tkE] at he
  | i + 1, h, e, he => by
    simp only [tkE] at he
    split at he
    · exact tkE_sub gap T rs es i (by omega) e he
    · rcases List.mem_append.1 he with h1 | h1
      · exact tkE_sub gap T rs es i (by omega) e h1
      · simp at h1; rw [h1]; exact gE_memE es i (by omega)
theorem tkE_len (gap : Int) (T : List S) (rs : List Wr) (es : List E) : ∀ i, (tkE gap T rs es i).length ≤ i
  | 0 => by simp [tkE]
  | i + 1 => by
    have := tkE_len gap T rs es i
    simp only [tkE]
    split
    · omega
    · simp; omega
/-- Token of what is read: the token, and what does not fit in -/
noncomputable def tokT (gap : Int) (bs : List (List S)) (rs : List Wr) : List S := tkT gap (unis gap bs) (eachW rs) (eachW rs).length
noncomputable def tokO (gap : Int) (bs : List (List S)) (rs : List Wr) : List Wr := tkO gap (unis gap bs) (eachW rs) (eachW rs).length
/-- a token in memory of the call's own -/
structure TS (w wr : World) (q : Option Addr) (n c : Nat) (T : List S) : Prop where
  own : Own w wr q n c T
  n8 : n ≤ 8
  fit : ∀ x ∈ T, x.t < 2 ^ 64
theorem TS.L {w wr : World} {q : Option Addr} {n c : Nat} {T : List S} (h : TS w wr q n c T) : L wr q n T := h.own.L (by have := h.n8; omega) h.fit
theorem TS.kept0 {w wr wx : World} {q : Option Addr} {n c : Nat} {T : List S} (h : TS w wr q n c T) (a : Apart [] wr wx) : TS w wx q n c T := { h with own := h.own.kept a }
theorem TS.from {w0 w wr : World} {q : Option Addr} {n c : Nat} {T : List S} (h : TS w wr q n c T) (a : Apart [] w0 w) : TS w0 wr q n c T := { h with own := Own.from a h.own }
theorem TS.nil (w wr : World) (a : Apart [] w wr) : TS w wr none 0 0 [] := ⟨⟨rfl, World.ownsRow_nil _ _ _ _, by simp [Value.ownBlock], a⟩, by decide, by simp⟩
/-- what is written in rows of writes -/
theorem TS.keptW {w wr wx : World} {q : Option Addr} {n c : Nat} {T : List S} (h : TS w wr q n c T) {u : Sl} {us : List Value} {wa : World} (hu : Nw wa wr 28 6 u us) (a : Apart u.v.ownBlock.toList wr wx) (aw : Apart [] w wx) : TS w wx q n c T :=
  { h with own := ⟨h.own.len, own_apart h.own.own a (fun k hk hm => by
      simp at hm
      obtain ⟨c1, e1⟩ := own_typ h.own.own hk
      obtain ⟨c2, e2⟩ := own_typ hu.own hm
      rw [e1] at e2
      simp at e2), h.own.new, aw⟩ }
theorem uni_fit {gap : Int} {xs ys : List S} (h : UnC gap xs ys) : ∀ x ∈ uni xs ys, x.t < 2 ^ 64 := (uni_ok h.2.1 h.2.2 (by have := h.1; omega) h.1.2).fit h.1.2
theorem addl_fit {gap : Int} {xs : List S} {dn dc : Int} (h : AdC gap xs dn dc) : ∀ x ∈ addl xs dn dc, x.t < 2 ^ 64 := (addl_ok h.2.2.1 h.1.1 h.1.2 dn dc h.2.1.2 h.2.2.2).fit h.1.2
theorem knowG_of {gap : Int} {a xs : List S} (h : UnC gap a xs) : knowG gap a xs = uni a xs := by unfold knowG; exact if_pos h
theorem knowG_not {gap : Int} {a xs : List S} (h : ¬ UnC gap a xs) : knowG gap a xs = a := by unfold knowG; exact if_neg h
theorem knowG_ok {gap : Int} {a xs : List S} (hg : 1 ≤ gap ∧ gap ≤ 64) (h : OkL gap a) : OkL gap (knowG gap a xs) := by
  by_cases k : UnC gap a xs
  · rw [knowG_of k]; exact uni_ok k.2.1 k.2.2 (by omega) hg.2
  · rw [knowG_not k]; exact h
theorem unis_okA {gap : Int} (hg : 1 ≤ gap ∧ gap ≤ 64) : ∀ (bs : List (List S)) (a : List S), OkL gap a → OkL gap (bs.foldl (knowG gap) a)
  | [], a, h => h
  | x :: bs, a, h => unis_okA hg bs _ (knowG_ok hg h)
theorem unis_ok {gap : Int} (hg : 1 ≤ gap ∧ gap ≤ 64) (bs : List (List S)) : OkL gap (unis gap bs) := unis_okA hg bs [] (OkL.nil _)
end Go.Proofs.YtokaeiahhmaokaaDoor.ds
namespace Go.Proofs.YtokaeiahhmaokaaDoor.ds
set_option linter.unusedVariables false
set_option linter.unusedSimpArgs false
theorem nd_or (p q : Nat → Bool) : ∀ M, nd (fun i => p i || q i) M ≤ nd p M + nd q M
  | 0 => Nat.le_refl _
  | M + 1 => by
    have := nd_or p q M
    simp only [nd]
    cases p M <;> cases q M <;> simp <;> omega
theorem nd_one (k : Nat) : ∀ M, nd (fun i => decide (i = k)) M ≤ 1 ∧ (M ≤ k → nd (fun i => decide (i = k)) M = 0)
  | 0 => ⟨Nat.zero_le _, fun _ => rfl⟩
  | M + 1 => by
    obtain ⟨h1, h2⟩ := nd_one k M
    simp only [nd]
    by_cases h : M = k
    · have := h2 (by omega)
      rw [decide_eq_true h, this]
      exact ⟨by decide, fun h => by omega⟩
    · rw [decide_eq_false h]
      exact ⟨h1, fun h => h2 (by omega)⟩
theorem cnt_join {x y : S} (hx : Wf x) (hy : Wf y) : cnt (join x y) ≤ cnt x + cnt y := by
  have hj := join_wf hx hy
  rw [cnt_nd hj ((join x y).b.toNat + 64 + (x.b.toNat + 64) + (y.b.toNat + 64)) (by omega), cnt_nd hx ((join x y).b.toNat + 64 + (x.b.toNat + 64) + (y.b.toNat + 64)) (by omega), cnt_nd hy ((join x y).b.toNat + 64 + (x.b.toNat + 64) + (y.b.toNat + 64)) (by omega)]
  rw [nd_congr _ (fun i _ => join_dot (x := x) (y := y) ((i : Int) + 1))]
  exact nd_or _ _ _
theorem cnt_with1 {x : S} {c : Int} (hx : Wf x) (hc : 1 ≤ c) (hc64 : c ≤ x.b + 64) : cnt (withc x c) ≤ cnt x + 1 := by
  have hj := withc_wf hx hc64
  rw [cnt_nd hj ((withc x c).b.toNat + 64 + (x.b.toNat + 64)) (by omega), cnt_nd hx ((withc x c).b.toNat + 64 + (x.b.toNat + 64)) (by omega)]
  rw [nd_congr (q := fun i => dot x ((i : Int) + 1) || decide (i = (c - 1).toNat)) _ (fun i _ => by
    rw [withc_dot hc ((i : Int) + 1) (by omega)]
    congr 1
    by_cases h : (i : Int) + 1 = c
    · rw [decide_eq_true h, decide_eq_true (show i = (c - 1).toNat by omega)]
    · rw [decide_eq_false h, decide_eq_false (show ¬ i = (c - 1).toNat by omega)])]
  exact Nat.le_trans (nd_or _ _ _) (Nat.add_le_add_left (nd_one _ _).1 _)
theorem sumF_add {F G H : Nat → S} : ∀ k, (∀ j, j < k → cnt (F j) ≤ cnt (G j) + cnt (H j)) → sumF F k ≤ sumF G k + sumF H k
  | 0, _ => Nat.le_refl _
  | k + 1, h => by
    have h1 := sumF_add k (fun j hj => h j (by omega))
    have h2 := h k (by omega)
    simp only [sumF]
    omega
theorem sumF_le1 {F G : Nat → S} (d : Nat) : ∀ k, (∀ j, j < k → cnt (F j) ≤ cnt (G j) + (if j = d then 1 else 0)) → sumF F k ≤ sumF G k + (if d < k then 1 else 0)
  | 0, _ => Nat.zero_le _
  | k + 1, h => by
    have h1 := sumF_le1 d k (fun j hj => h j (by omega))
    have h2 := h k (by omega)
    simp only [sumF]
    by_cases hd : k = d
    · subst hd
      rw [if_neg (by omega)] at h1
      rw [if_pos rfl] at h2
      rw [if_pos (by omega)]
      omega
    · rw [if_neg hd] at h2
      by_cases hk : d < k
      · rw [if_pos hk] at h1
        rw [if_pos (by omega)]
        omega
      · rw [if_neg hk] at h1
        rw [if_neg (by omega)]
        omega
theorem tot_uni {g : Int} {a b : List S} (ha : OkL g a) (hb : OkL g b) (h0 : 0 ≤ g) (hg : g ≤ 64) : tot (uni a b) ≤ tot a + tot b := by
  rw [tot_eq ha h0 hg, tot_eq hb h0 hg, uni, tot_gath]
  exact sumF_add 8 (fun j _ => cnt_join (ha.wf h0 hg j) (hb.wf h0 hg j))
theorem tot_add1 {g : Int} {a : List S} (ha : OkL g a) (h0 : 0 ≤ g) (hg : g ≤ 64) (dn dc : Int) (hc : 1 ≤ dc) (hcg : dc ≤ (ofn a dn).b + g) : tot (gath (fun j => if (j : Int) = dn then withc (ofn a dn) dc else ofn a j) 8) ≤ tot a + 1 := by
  rw [tot_eq ha h0 hg, tot_gath]
  refine Nat.le_trans (sumF_le1 (G := fun k => ofn a k) dn.toNat 8 (fun j hj => ?_)) (by split <;> omega)
  by_cases h : (j : Int) = dn
  · have e : j = dn.toNat := by omega
    simp only [h, if_true]
    rw [if_pos e]
    exact cnt_with1 (ha.wf h0 hg dn) hc (by omega)
  · simp only [h, if_false]
    omega
/-- bases grow with sets -/
theorem sub_base {x y : S} (hy : Wf y) (h0 : 0 ≤ y.b) (h : Sub x y) : x.b ≤ y.b := by
  by_cases hx : x.b ≤ y.b
  · exact hx
  · have h1 := h (y.b + 1) (by omega) (dot_low (by omega))
    rw [dot_next hy] at h1
    cases h1
theorem dot_near {x : S} (hx : Wf x) {c : Int} (h : dot x c = true) : c ≤ x.b + 64 := by
  by_cases hc : c ≤ x.b + 64
  · exact hc
  · exfalso
    unfold dot at h
    rw [decide_eq_false (by omega), Bool.false_or] at h
    have := Nat.testBit_lt_two_pow (x := x.t) (i := (c - x.b - 1).toNat) (Nat.lt_of_lt_of_le hx.lt (Nat.pow_le_pow_right (by omega) (by omega)))
    rw [this] at h
    cases h
theorem win_refl (a : List S) : Win a a := fun n _ c _ h => h
theorem win_trans {a b c : List S} (h : Win a b) (k : Win b c) : Win a c := fun n hn e he hd => k n hn e he (h n hn e he hd)
theorem win_l (a b : List S) : Win a (uni a b) := fun n hn c hc h => by rw [ofn_uni _ _ _ hn, join_dot, h, Bool.true_or]
theorem win_r (a b : List S) : Win b (uni a b) := fun n hn c hc h => by rw [ofn_uni _ _ _ hn, join_dot, h, Bool.or_true]
end Go.Proofs.YtokaeiahhmaokaaDoor.ds
namespace Go.Proofs.YtokaeiahhmaokaaDoor.ds
open Go.ChangeShapes Go.WideShapes Go.ChangeAt Go.RowKit Go.Sort
set_option linter.unusedVariables false
set_option linter.unusedSimpArgs false
theorem addl_ofn (a : List S) (dn dc : Int) (n : Nat) (hn : n < 8) : ofn (addl a dn dc) n = addF a dn dc n := by
  rw [addl_eq, ofn_gath (fun k => addF_n a dn dc k), if_pos hn]
theorem addl_win (a : List S) (dn dc : Int) (hc : 1 ≤ dc) : Win a (addl a dn dc) := fun n hn c hc' h => by
  rw [addl_ofn a dn dc n hn]
  unfold addF
  split
  · rename_i e
    rw [withc_dot hc c hc', ← e, h, Bool.true_or]
  · exact h
theorem addl_has {dn dc : Int} (a : List S) (hd : IsDot dn dc) : dot (ofn (addl a dn dc) dn) dc = true := by
  obtain ⟨k, rfl⟩ := Int.eq_ofNat_of_zero_le hd.1.1
  rw [addl_ofn a _ dc k (by have := hd.1.2; omega)]
  unfold addF
  rw [if_pos rfl, withc_dot hd.2.1 dc hd.2.1]
  simp
theorem tkT_ok {gap : Int} (hg : 1 ≤ gap ∧ gap ≤ 64) {T : List S} (hT : OkL gap T) (rs : List Wr) : ∀ i, OkL gap (tkT gap T rs i)
  | 0 => hT
  | i + 1 => by
    by_cases h : TkC gap (tkT gap T rs i) (gR rs i)
    · rw [tkT_yes h]
      exact addl_ok h.2.2.2.1 hg.1 hg.2 _ _ h.2.2.1.2 h.2.2.2.2
    · rw [tkT_no h]; exact tkT_ok hg hT rs i
theorem tkT_step {gap : Int} {T : List S} (rs : List Wr) (i : Nat) : Win (tkT gap T rs i) (tkT gap T rs (i + 1)) := by
  by_cases h : TkC gap (tkT gap T rs i) (gR rs i)
  · rw [tkT_yes h]
    exact win_trans (win_l _ _) (addl_win _ _ _ h.2.2.1.2.1)
  · rw [tkT_no h]; exact win_refl _
theorem tkT_win {gap : Int} {T : List S} (rs : List Wr) : ∀ i k, Win (tkT gap T rs i) (tkT gap T rs (i + k))
  | i, 0 => win_refl _
  | i, k + 1 => win_trans (tkT_win rs i k) (tkT_step rs (i + k))
theorem dot_win {a b : List S} (h : Win a b) {dn dc : Int} (hd : IsDot dn dc) (k : dot (ofn a dn) dc = true) : dot (ofn b dn) dc = true := by
  obtain ⟨j, rfl⟩ := Int.eq_ofNat_of_zero_le hd.1.1
  exact h j (by have := hd.1.2; omega) dc hd.2.1 k
theorem tkT_has {gap : Int} {T : List S} {rs : List Wr} {i : Nat} (h : TkC gap (tkT gap T rs i) (gR rs i)) : ∀ N, i < N → dot (ofn (tkT gap T rs N) (gR rs i).n) (gR rs i).c = true := fun N hN => by
  have h1 : dot (ofn (tkT gap T rs (i + 1)) (gR rs i).n) (gR rs i).c = true := by
    rw [tkT_yes h]; exact addl_has _ h.2.2.1
  have := tkT_win (gap := gap) (T := T) rs (i + 1) (N - (i + 1))
  rw [show i + 1 + (N - (i + 1)) = N from by omega] at this
  exact dot_win this h.2.2.1 h1
def totW (rs : List Wr) : Nat := (rs.map fun x => 1 + tot x.xs).sum
theorem tkT_tot {gap : Int} (hg : 1 ≤ gap ∧ gap ≤ 64) {T : List S} (hT : OkL gap T) (rs : List Wr) : ∀ i, i ≤ rs.length → tot (tkT gap T rs i) ≤ tot T + totW (rs.take i)
  | 0, _ => by simp [totW, tkT]
  | i + 1, hi => by
    have ih := tkT_tot hg hT rs i (by omega)
    have e : totW (rs.take (i + 1)) = totW (rs.take i) + (1 + tot (gR rs i).xs) := by
      unfold totW
      rw [List.take_add_one, List.getElem?_eq_getElem (by omega), List.map_append, List.sum_append, gR_eq rs i (by omega)]
      simp
    by_cases h : TkC gap (tkT gap T rs i) (gR rs i)
    · rw [tkT_yes h]
      have h1 := tot_uni h.1.2.1 h.1.2.2 (by omega) hg.2
      have h2 := tot_add1 h.2.2.2.1 (by omega) hg.2 (gR rs i).n (gR rs i).c h.2.2.1.2.1 h.2.2.2.2
      have h3 : tot (addl (uni (tkT gap T rs i) (gR rs i).xs) (gR rs i).n (gR rs i).c) ≤ tot (uni (tkT gap T rs i) (gR rs i).xs) + 1 := h2
      omega
    · rw [tkT_no h]; omega
theorem unis_winA {gap : Int} : ∀ (bs : List (List S)) (a : List S), Win a (bs.foldl (knowG gap) a)
  | [], a => win_refl a
  | x :: bs, a => by
    refine win_trans ?_ (unis_winA bs (knowG gap a x))
    by_cases h : UnC gap a x
    · rw [knowG_of h]; exact win_l _ _
    · rw [knowG_not h]; exact win_refl _
theorem unis_winB {gap : Int} (hg : 1 ≤ gap ∧ gap ≤ 64) : ∀ (bs : List (List S)) (a : List S), OkL gap a → ∀ b ∈ bs, OkL gap b → Win b (bs.foldl (knowG gap) a)
  | [], a, _, b, hb, _ => by simp at hb
  | x :: bs, a, ha, b, hb, hob => by
    rcases List.mem_cons.1 hb with rfl | hb
    · refine win_trans ?_ (unis_winA bs (knowG gap a b))
      rw [knowG_of ⟨hg, ha, hob⟩]; exact win_r _ _
    · exact unis_winB hg bs _ (knowG_ok hg ha) b hb hob
theorem unis_win {gap : Int} (hg : 1 ≤ gap ∧ gap ≤ 64) (bs : List (List S)) (b : List S) (hb : b ∈ bs) (hob : OkL gap b) : Win b (unis gap bs) := unis_winB hg bs [] (OkL.nil _) b hb hob
theorem unis_totA {gap : Int} (hg : 1 ≤ gap ∧ gap ≤ 64) : ∀ (bs : List (List S)) (a : List S), tot (bs.foldl (knowG gap) a) ≤ tot a + (bs.map tot).sum
  | [], a => by simp
  | x :: bs, a => by
    have h1 := unis_totA hg bs (knowG gap a x)
    have h2 : tot (knowG gap a x) ≤ tot a + tot x := by
      by_cases h : UnC gap a x
      · rw [knowG_of h]; exact tot_uni h.2.1 h.2.2 (by omega) hg.2
      · rw [knowG_not h]; omega
    simp only [List.foldl_cons, List.map_cons, List.sum_cons]
    omega
theorem unis_tot {gap : Int} (hg : 1 ≤ gap ∧ gap ≤ 64) (bs : List (List S)) : tot (unis gap bs) ≤ (bs.map tot).sum := by
  have := unis_totA hg bs []
  simpa [tot, unis] using this
/-- what is near the bases fits -/
theorem tk_near {T : List S} (rs : List Wr) (hT : OkL 64 T) (i : Nat) (hx : OkL 64 (gR rs i).xs) (hd : IsDot (gR rs i).n (gR rs i).c) (near : (gR rs i).c ≤ 64 ∨ ∃ b, OkL 64 b ∧ Win b T ∧ dot (ofn b (gR rs i).n) (gR rs i).c = true) : TkC 64 (tkT 64 T rs i) (gR rs i) := by
  have hg : (1 : Int) ≤ 64 ∧ (64 : Int) ≤ 64 := by omega
  have ht := tkT_ok hg hT rs i
  have hu := uni_ok ht hx (by omega) hg.2
  refine ⟨⟨hg, ht, hx⟩, hg, hd, hu, ?_⟩
  rcases near with h | ⟨b, hb, hw, hdot⟩
  · have := (hu.wf (by omega) hg.2 (gR rs i).n).b0
    omega
  · have h1 := dot_near (hb.wf (by omega) hg.2 (gR rs i).n) hdot
    obtain ⟨j, hj⟩ := Int.eq_ofNat_of_zero_le hd.1.1
    have h0 := tkT_win (gap := 64) (T := T) rs 0 i
    rw [Nat.zero_add] at h0
    have hw2 : Win b (uni (tkT 64 T rs i) (gR rs i).xs) := win_trans (win_trans hw h0) (win_l _ _)
    rw [hj] at h1 ⊢
    have h2 := sub_base (hu.wf (by omega) hg.2 j) (hu.wf (by omega) hg.2 j).b0 (hw2 j (by have := hd.1.2; omega))
    omega
theorem tkO_mem {gap : Int} {T : List S} {rs : List Wr} : ∀ N (x : Wr), x ∈ tkO gap T rs N ↔ ∃ i, i < N ∧ x = gR rs i ∧ ¬ TkC gap (tkT gap T rs i) (gR rs i)
  | 0, x => by simp [tkO]
  | N + 1, x => by
    have ih := tkO_mem (gap := gap) (T := T) (rs := rs) N x
    simp only [tkO]
    split
    · rename_i h
      rw [ih]
      constructor
      · rintro ⟨i, hi, h1, h2⟩; exact ⟨i, by omega, h1, h2⟩
      · rintro ⟨i, hi, h1, h2⟩
        by_cases e : i = N
        · subst e; exact absurd h h2
        · exact ⟨i, by omega, h1, h2⟩
    · rename_i h
      rw [List.mem_append, ih]
      constructor
      · rintro (⟨i, hi, h1, h2⟩ | h1)
        · exact ⟨i, by omega, h1, h2⟩
        · simp at h1; exact ⟨N, by omega, h1, h⟩
      · rintro ⟨i, hi, h1, h2⟩
        by_cases e : i = N
        · subst e; exact .inr (by simp [h1])
        · exact .inl ⟨i, by omega, h1, h2⟩
end Go.Proofs.YtokaeiahhmaokaaDoor.ds
namespace Go.Proofs.YtokaeiahhmaokaaDoor.ds
open Go.ChangeShapes Go.WideShapes Go.ChangeAt Go.RowKit
set_option linter.unusedVariables false
end Go.Proofs.YtokaeiahhmaokaaDoor.ds

namespace Go.Proofs.YtokaeiahhmaokaaDoor.ds
open Go.ChangeShapes Go.WideShapes Go.ChangeAt Go.RowKit Go.Sort
set_option linter.unusedVariables false
set_option linter.unusedSimpArgs false
/-- a write that is right for the gap 64: what counts of it here -/
structure Vw (r : Wr) : Prop where
  ok : OkL 64 r.xs
  dt : IsDot r.n r.c
theorem insWb_mem (u x : Wr) : ∀ l, x ∈ insWb u l ↔ x = u ∨ x ∈ l
  | [] => by simp [insWb]
  | y :: l => by
    unfold insWb
    split
    · simp
    · simp only [List.mem_cons, insWb_mem u x l]
      constructor
      · rintro (h | h | h) <;> simp [h]
      · rintro (h | h | h) <;> simp [h]
theorem eachW_foldA : ∀ (ls out : List Wr), (∀ x ∈ ls.foldl (fun out w => if out.any (fun o => deqW o w) = true then out else insWb w out) out, x ∈ out ∨ x ∈ ls) ∧ (∀ x ∈ out, x ∈ ls.foldl (fun out w => if out.any (fun o => deqW o w) = true then out else insWb w out) out) ∧ (∀ x ∈ ls, ∃ e ∈ ls.foldl (fun out w => if out.any (fun o => deqW o w) = true then out else insWb w out) out, deqW e x = true)
  | [], out => ⟨fun x hx => .inl hx, fun x hx => hx, fun x hx => by simp at hx⟩
  | u :: ls, out => by
    rw [List.foldl_cons]
    obtain ⟨h1, h2, h3⟩ := eachW_foldA ls (if out.any (fun o => deqW o u) = true then out else insWb u out)
    refine ⟨fun x hx => ?_, fun x hx => ?_, fun x hx => ?_⟩
    · rcases h1 x hx with h | h
      · split at h
        · exact .inl h
        · rcases (insWb_mem u x out).1 h with rfl | h
          · exact .inr (by simp)
          · exact .inl h
      · exact .inr (List.mem_cons_of_mem _ h)
    · refine h2 x ?_
      split
      · exact hx
      · exact (insWb_mem u x out).2 (.inr hx)
    · rcases List.mem_cons.1 hx with rfl | hx
      · by_cases ha : out.any (fun o => deqW o x) = true
        · obtain ⟨o, ho, hd⟩ := List.any_eq_true.1 ha
          exact ⟨o, h2 o (by rw [if_pos ha]; exact ho), hd⟩
        · exact ⟨x, h2 x (by rw [if_neg ha]; exact (insWb_mem x x out).2 (.inl rfl)), by simp [deqW]⟩
      · exact h3 x hx
theorem eachW_sub (rs : List Wr) : ∀ x ∈ eachW rs, x ∈ rs := fun x hx => by
  rcases (eachW_foldA rs []).1 x hx with h | h
  · simp at h
  · exact h
theorem eachW_dot (rs : List Wr) : ∀ x ∈ rs, ∃ e ∈ eachW rs, deqW e x = true := (eachW_foldA rs []).2.2
theorem totW_ins (u : Wr) : ∀ l, totW (insWb u l) = 1 + tot u.xs + totW l
  | [] => by simp [insWb, totW]
  | x :: l => by
    unfold insWb
    split
    · simp [totW]
    · have := totW_ins u l
      unfold totW at *
      simp only [List.map_cons, List.sum_cons] at *
      omega
theorem totW_eachA : ∀ (ls out : List Wr), totW (ls.foldl (fun out w => if out.any (fun o => deqW o w) = true then out else insWb w out) out) ≤ totW out + totW ls
  | [], out => by simp [totW]
  | u :: ls, out => by
    rw [List.foldl_cons]
    have h := totW_eachA ls (if out.any (fun o => deqW o u) = true then out else insWb u out)
    have e : totW (u :: ls) = (1 + tot u.xs) + totW ls := by simp [totW]
    rw [e]
    split at h
    · rename_i ha
      rw [if_pos ha]
      omega
    · rename_i ha
      rw [if_neg ha]
      rw [totW_ins] at h
      omega
theorem totW_each (rs : List Wr) : totW (eachW rs) ≤ totW rs := by
  have := totW_eachA rs []
  simpa [totW, eachW] using this
/-- what a token of right writes and sets has -/
structure Fits (bs : List (List S)) (rs : List Wr) : Prop where
  ok : OkL 64 (tokT 64 bs rs)
  win : ∀ b ∈ bs, Win b (tokT 64 bs rs)
  fit : ∀ x ∈ rs, ¬ ((∃ o ∈ tokO 64 bs rs, deqW o x = true) ∧ (x.c ≤ 64 ∨ ∃ b ∈ bs, dot (ofn b x.n) x.c = true))
  has : ∀ x ∈ rs, ¬ (∃ o ∈ tokO 64 bs rs, deqW o x = true) → dot (ofn (tokT 64 bs rs) x.n) x.c = true
  tot : tot (tokT 64 bs rs) ≤ totW rs + (bs.map tot).sum
theorem deqW_iff {a b : Wr} : deqW a b = true ↔ a.n = b.n ∧ a.c = b.c := by simp [deqW]
theorem fits_all {bs : List (List S)} {rs : List Wr} (hb : ∀ b ∈ bs, OkL 64 b) (hr : ∀ r ∈ rs, Vw r) : Fits bs rs := by
  have hg : (1 : Int) ≤ 64 ∧ (64 : Int) ≤ 64 := by omega
  have hT := unis_ok hg bs
  have hE : ∀ i, i < (eachW rs).length → Vw (gR (eachW rs) i) := fun i hi => by
    rw [gR_eq _ i hi]; exact hr _ (eachW_sub rs _ (List.getElem_mem hi))
  refine ⟨tkT_ok hg hT _ _, fun b h => ?_, fun x hx h => ?_, fun x hx h => ?_, ?_⟩
  · have h1 := unis_win hg bs b h (hb b h)
    have h2 := tkT_win (gap := 64) (T := unis 64 bs) (eachW rs) 0 (eachW rs).length
    rw [Nat.zero_add] at h2
    exact win_trans h1 h2
  · obtain ⟨⟨o, ho, hd⟩, hn⟩ := h
    obtain ⟨i, hi, rfl, hnc⟩ := (tkO_mem _ _).1 ho
    obtain ⟨e1, e2⟩ := deqW_iff.1 hd
    refine hnc (tk_near (eachW rs) hT i (hE i hi).ok (hE i hi).dt ?_)
    rw [e1, e2]
    rcases hn with hn | ⟨b, hb1, hb2⟩
    · exact .inl hn
    · exact .inr ⟨b, hb b hb1, unis_win hg bs b hb1 (hb b hb1), hb2⟩
  · obtain ⟨e, he, hd⟩ := eachW_dot rs x hx
    obtain ⟨i, hi, rfl⟩ := List.getElem_of_mem he
    rw [← gR_eq _ i hi] at hd
    obtain ⟨e1, e2⟩ := deqW_iff.1 hd
    by_cases hc : TkC 64 (tkT 64 (unis 64 bs) (eachW rs) i) (gR (eachW rs) i)
    · have := tkT_has hc (eachW rs).length hi
      rw [e1, e2] at this
      exact this
    · exact absurd ⟨_, (tkO_mem _ _).2 ⟨i, hi, rfl, hc⟩, hd⟩ h
  · have h1 := tkT_tot hg hT (eachW rs) (eachW rs).length (Nat.le_refl _)
    rw [List.take_length] at h1
    have h2 := unis_tot hg bs
    have h3 := totW_each rs
    unfold tokT
    omega
end Go.Proofs.YtokaeiahhmaokaaDoor.ds
namespace Go.Proofs.YtokaeiahhmaokaaDoor.ds
open Go.ChangeShapes Go.WideShapes Go.ChangeAt Go.RowKit Go.Sort
set_option linter.unusedVariables false
set_option linter.unusedSimpArgs false
def dtW (r : Wr) : Int × Int := (r.n, r.c)
theorem dtW_iff {a b : Wr} : dtW a = dtW b ↔ a.n = b.n ∧ a.c = b.c := by simp [dtW]
theorem deqW_dt {a b : Wr} : deqW a b = true ↔ dtW a = dtW b := by rw [dtW_iff, deqW_iff]
theorem belowW_iff {a b : Wr} : belowW a b = true ↔ a.n < b.n ∨ (a.n = b.n ∧ a.c < b.c) := by simp [belowW]
theorem belowW_ir (x : Wr) : belowW x x = false := by
  cases h : belowW x x
  · rfl
  · rw [belowW_iff] at h; omega
theorem belowW_tr (x y z : Wr) (h : belowW x y = true) (k : belowW y z = true) : belowW x z = true := by
  rw [belowW_iff] at *; omega
theorem belowW_tri (x y : Wr) : dtW x = dtW y ∨ belowW x y = true ∨ belowW y x = true := by
  rw [dtW_iff, belowW_iff, belowW_iff]; omega
theorem od_W {M : List Wr} (h : ∀ x ∈ M, ∀ y ∈ M, dtW x = dtW y → x = y) : Od belowW M :=
  ⟨fun x hx y hy => (belowW_tri x y).imp (h x hx y hy) id, belowW_ir, belowW_tr⟩
theorem insA_W (u : Wr) : ∀ l, insWb u l = insA belowW u l
  | [] => rfl
  | x :: l => by unfold insWb insA; rw [insA_W u l]
theorem insA_W2 (u : Wr) : ∀ l, insW u l = insA belowW u l
  | [] => rfl
  | x :: l => by unfold insW insA; rw [insA_W2 u l]
theorem mergeW_A (rs : List Wr) (u : Wr) : mergeW rs u = mrgA cvW belowW rs u := by
  unfold mergeW mrgA leftW
  rw [insA_W2]
theorem eachW_upA : ∀ (ls out : List Wr), Up belowW out → Up belowW (ls.foldl (fun out w => if out.any (fun o => deqW o w) = true then out else insWb w out) out)
  | [], out, h => h
  | u :: ls, out, h => by
    rw [List.foldl_cons]
    refine eachW_upA ls _ ?_
    split
    · exact h
    · rename_i ha
      rw [insA_W]
      refine insA_up belowW_tr u out h (fun x hx => ?_)
      rcases belowW_tri u x with e | e | e
      · exact absurd (show (out.any fun o => deqW o u) = true from List.any_eq_true.2 ⟨x, hx, deqW_dt.2 e.symm⟩) ha
      · exact .inl e
      · exact .inr e
theorem eachW_up (rs : List Wr) : Up belowW (eachW rs) := eachW_upA rs [] List.Pairwise.nil
theorem eachW_mem {rs : List Wr} (h : ∀ x ∈ rs, ∀ y ∈ rs, dtW x = dtW y → x = y) (x : Wr) : x ∈ eachW rs ↔ x ∈ rs := by
  refine ⟨eachW_sub rs x, fun hx => ?_⟩
  obtain ⟨e, he, hd⟩ := eachW_dot rs x hx
  rw [← h e (eachW_sub rs e he) x hx (deqW_dt.1 hd)]
  exact he
theorem bUW_sub (es : List Wr) : ∀ m, m ≤ es.length → ((bUW es es.length m).reverse).Sublist (es.drop (es.length - m))
  | 0, _ => by simp [bUW]
  | m + 1, h => by
    have ih := bUW_sub es m (by omega)
    have e : es.drop (es.length - (m + 1)) = gR es (es.length - 1 - m) :: es.drop (es.length - m) := by
      have h1 : es.length - (m + 1) < es.length := by omega
      rw [List.drop_eq_getElem_cons h1, show es.length - (m + 1) + 1 = es.length - m from by omega]
      congr 1
      rw [gR_eq es _ (by omega)]
      congr 1
      omega
    rw [e]
    simp only [bUW]
    split
    · rw [List.reverse_append]
      exact ih.cons_cons _
    · exact ih.cons _
theorem bUW_mem (es : List Wr) (N : Nat) (x : Wr) : ∀ m, m ≤ N → (x ∈ bUW es N m ↔ ∃ i, N - m ≤ i ∧ i < N ∧ x = gR es i ∧ uncd es i = true)
  | 0, _ => by
    simp only [bUW, List.not_mem_nil, false_iff]
    rintro ⟨i, h1, h2, _⟩
    omega
  | m + 1, h => by
    have ih := bUW_mem es N x m (by omega)
    simp only [bUW]
    split
    · rename_i hu
      rw [List.mem_append, ih]
      constructor
      · rintro (⟨i, h1, h2, h3⟩ | h1)
        · exact ⟨i, by omega, h2, h3⟩
        · simp at h1; exact ⟨N - 1 - m, by omega, by omega, h1, hu⟩
      · rintro ⟨i, h1, h2, h3, h4⟩
        by_cases e : i = N - 1 - m
        · subst e; exact .inr (by simp [h3])
        · exact .inl ⟨i, by omega, h2, h3, h4⟩
    · rename_i hu
      rw [ih]
      constructor
      · rintro ⟨i, h1, h2, h3⟩; exact ⟨i, by omega, h2, h3⟩
      · rintro ⟨i, h1, h2, h3, h4⟩
        by_cases e : i = N - 1 - m
        · subst e; exact absurd h4 hu
        · exact ⟨i, by omega, h2, h3, h4⟩
theorem uncW_up {es : List Wr} (h : Up belowW es) : Up belowW (uncW es) := by
  have h1 := bUW_sub es es.length (Nat.le_refl _)
  rw [Nat.sub_self, List.drop_zero] at h1
  exact List.Pairwise.sublist h1 h
theorem uncW_mem {es : List Wr} (hd : Up belowW es) (x : Wr) : x ∈ uncW es ↔ x ∈ es ∧ ∀ y ∈ es, y ≠ x → hasd y.xs x.n x.c = false := by
  unfold uncW
  rw [List.mem_reverse, bUW_mem es es.length x es.length (Nat.le_refl _)]
  have inj : ∀ i j, i < es.length → j < es.length → gR es i = gR es j → i = j := fun i j hi hj e => by
    rw [gR_eq es i hi, gR_eq es j hj] at e
    rcases Nat.lt_trichotomy i j with h | h | h
    · have := List.pairwise_iff_getElem.1 hd i j hi hj h
      rw [e, belowW_ir] at this
      cases this
    · exact h
    · have := List.pairwise_iff_getElem.1 hd j i hj hi h
      rw [e, belowW_ir] at this
      cases this
  constructor
  · rintro ⟨i, _, hi, rfl, hu⟩
    have hx : gR es i ∈ es := by rw [gR_eq es i hi]; exact List.getElem_mem hi
    refine ⟨hx, fun y hy hne => ?_⟩
    obtain ⟨j, hj, rfl⟩ := List.getElem_of_mem hy
    rw [← gR_eq es j hj] at hne ⊢
    exact (uncd_iff es i hi).1 hu j hj (fun e => hne (by rw [e]))
  · rintro ⟨hx, h⟩
    obtain ⟨i, hi, rfl⟩ := List.getElem_of_mem hx
    refine ⟨i, by omega, hi, (gR_eq es i hi).symm, (uncd_iff es i hi).2 (fun j hj hne => ?_)⟩
    rw [gR_eq es i hi]
    refine h (gR es j) (by rw [gR_eq es j hj]; exact List.getElem_mem hj) (fun e => hne (inj j i hj hi ?_))
    rw [e, gR_eq es i hi]
/-- what is gathered: where all are of one key, and a dot tells its write -/
theorem gathW_mem {rs : List Wr} {key : ByteArray} (hk : ∀ x ∈ rs, keq x.k key = true) (hd : ∀ x ∈ rs, ∀ y ∈ rs, dtW x = dtW y → x = y) : Up belowW (gathW rs) ∧ ∀ x, x ∈ gathW rs ↔ x ∈ rs ∧ ∀ y ∈ rs, y ≠ x → hasd y.xs x.n x.c = false := by
  have e : rs.filter (fun e => keq e.k (gR rs 0).k) = rs := by
    rw [List.filter_eq_self]
    intro x hx
    have h0 : 0 < rs.length := List.length_pos_of_mem hx
    have h1 := hk x hx
    have h2 := hk (gR rs 0) (by rw [gR_eq rs 0 h0]; exact List.getElem_mem h0)
    unfold keq at *
    simp at *
    rw [h1, h2]
  unfold gathW
  rw [e]
  refine ⟨uncW_up (eachW_up rs), fun x => ?_⟩
  rw [uncW_mem (eachW_up rs)]
  simp only [eachW_mem hd]
theorem hasd_iff {a : List S} (ha : OkL 64 a) (n c : Int) : hasd a n c = true ↔ IsDot n c ∧ dot (ofn a n) c = true := by
  unfold hasd
  rw [norm_of ha, hasv_isd, Bool.and_eq_true, isd_iff]
theorem hasd_addl {a : List S} {dn dc : Int} (h : AdC 64 a dn dc) (n c : Int) : hasd (addl a dn dc) n c = true ↔ hasd a n c = true ∨ (n = dn ∧ c = dc) := by
  have hok := addl_ok h.2.2.1 h.1.1 h.1.2 dn dc h.2.1.2 h.2.2.2
  rw [hasd_iff hok, hasd_iff h.2.2.1]
  constructor
  · rintro ⟨hd, hdot⟩
    obtain ⟨k, rfl⟩ := Int.eq_ofNat_of_zero_le hd.1.1
    rw [addl_ofn a dn dc k (by have := hd.1.2; omega)] at hdot
    unfold addF at hdot
    split at hdot
    · rename_i e
      rw [withc_dot h.2.1.2.1 c hd.2.1, Bool.or_eq_true_iff] at hdot
      rcases hdot with h1 | h1
      · rw [e]
        exact .inl ⟨by rw [← e]; exact hd, h1⟩
      · exact .inr ⟨e, by simpa using h1⟩
    · exact .inl ⟨hd, hdot⟩
  · rintro (⟨hd, hdot⟩ | ⟨rfl, rfl⟩)
    · exact ⟨hd, dot_win (addl_win a dn dc h.2.1.2.1) hd hdot⟩
    · exact ⟨h.2.1, addl_has a h.2.1⟩
theorem hasd_unis {gap : Int} (hg : 1 ≤ gap ∧ gap ≤ 64) (n c : Int) : ∀ (bs : List (List S)) (a : List S), OkL gap a → (∀ b ∈ bs, OkL gap b) → (hasd (bs.foldl (knowG gap) a) n c = true ↔ hasd a n c = true ∨ ∃ b ∈ bs, hasd b n c = true)
  | [], a, _, _ => by simp
  | x :: bs, a, ha, hb => by
    have hx := hb x (by simp)
    rw [List.foldl_cons, hasd_unis hg n c bs _ (knowG_ok hg ha) (fun b h => hb b (List.mem_cons_of_mem _ h)), knowG_of ⟨hg, ha, hx⟩, hasd_uni (ha.mono hg.2) (hx.mono hg.2), Bool.or_eq_true_iff]
    constructor
    · rintro ((h | h) | ⟨b, hb1, hb2⟩)
      · exact .inl h
      · exact .inr ⟨x, by simp, h⟩
      · exact .inr ⟨b, List.mem_cons_of_mem _ hb1, hb2⟩
    · rintro (h | ⟨b, hb1, hb2⟩)
      · exact .inl (.inl h)
      · rcases List.mem_cons.1 hb1 with rfl | hb1
        · exact .inl (.inr hb2)
        · exact .inr ⟨b, hb1, hb2⟩
/-- what a token has, where all fits -/
theorem hasd_tkT {T : List S} (hT : OkL 64 T) (rs : List Wr) (n c : Int) : ∀ i, i ≤ rs.length → (∀ j, j < i → Vw (gR rs j) ∧ (gR rs j).c ≤ 64) → (hasd (tkT 64 T rs i) n c = true ↔ hasd T n c = true ∨ ∃ j, j < i ∧ (((gR rs j).n = n ∧ (gR rs j).c = c) ∨ hasd (gR rs j).xs n c = true)) ∧ tkO 64 T rs i = []
  | 0, _, _ => by simp [tkT, tkO]
  | i + 1, hi, h => by
    obtain ⟨ih, ih2⟩ := hasd_tkT hT rs n c i (by omega) (fun j hj => h j (by omega))
    obtain ⟨hv, hc⟩ := h i (by omega)
    have hk : TkC 64 (tkT 64 T rs i) (gR rs i) := tk_near rs hT i hv.ok hv.dt (.inl hc)
    have hto := tkT_ok ⟨by omega, by omega⟩ hT rs i
    refine ⟨?_, by simp only [tkO]; rw [if_pos hk]; exact ih2⟩
    rw [tkT_yes hk, hasd_addl hk.2, hasd_uni hto hv.ok, Bool.or_eq_true_iff, ih]
    constructor
    · rintro (((h1 | ⟨j, hj, h1⟩) | h1) | ⟨h1, h2⟩)
      · exact .inl h1
      · exact .inr ⟨j, by omega, h1⟩
      · exact .inr ⟨i, by omega, .inr h1⟩
      · exact .inr ⟨i, by omega, .inl ⟨h1.symm, h2.symm⟩⟩
    · rintro (h1 | ⟨j, hj, h1⟩)
      · exact .inl (.inl (.inl h1))
      · by_cases e : j = i
        · subst e
          rcases h1 with ⟨h1, h2⟩ | h1
          · exact .inr ⟨h1.symm, h2.symm⟩
          · exact .inl (.inr h1)
        · exact .inl (.inl (.inr ⟨j, by omega, h1⟩))
theorem hasd_tok {bs : List (List S)} {rs : List Wr} (hb : ∀ b ∈ bs, OkL 64 b) (hr : ∀ r ∈ rs, Vw r ∧ r.c ≤ 64) (hd : ∀ x ∈ rs, ∀ y ∈ rs, dtW x = dtW y → x = y) (n c : Int) : (hasd (tokT 64 bs rs) n c = true ↔ (∃ b ∈ bs, hasd b n c = true) ∨ ∃ r ∈ rs, (n, c) = dtW r ∨ hasd r.xs n c = true) ∧ tokO 64 bs rs = [] := by
  have hg : (1 : Int) ≤ 64 ∧ (64 : Int) ≤ 64 := by omega
  have h := hasd_tkT (unis_ok hg bs) (eachW rs) n c (eachW rs).length (Nat.le_refl _) (fun j hj => by
    rw [gR_eq _ j hj]
    exact hr _ (eachW_sub rs _ (List.getElem_mem hj)))
  refine ⟨?_, h.2⟩
  unfold tokT
  rw [h.1]
  have hu : hasd (unis 64 bs) n c = true ↔ ∃ b ∈ bs, hasd b n c = true := by
    have := hasd_unis hg n c bs [] (OkL.nil _) hb
    rw [hasd_nil] at this
    simpa [unis] using this
  rw [hu]
  refine or_congr Iff.rfl ?_
  constructor
  · rintro ⟨j, hj, h1⟩
    refine ⟨gR (eachW rs) j, eachW_sub rs _ (by rw [gR_eq _ j hj]; exact List.getElem_mem hj), ?_⟩
    rcases h1 with ⟨h1, h2⟩ | h1
    · exact .inl (by unfold dtW; rw [h1, h2])
    · exact .inr h1
  · rintro ⟨r, hr1, h1⟩
    obtain ⟨j, hj, rfl⟩ := List.getElem_of_mem ((eachW_mem hd r).2 hr1)
    refine ⟨j, hj, ?_⟩
    rw [gR_eq _ j hj]
    rcases h1 with h1 | h1
    · unfold dtW at h1
      simp at h1
      exact .inl ⟨h1.1.symm, h1.2.symm⟩
    · exact .inr h1
end Go.Proofs.YtokaeiahhmaokaaDoor.ds
