import Derived.Test.YtokaeiahhmaokaaDoorA6
import Derived.Test.YtokaeiahhmaokaaDoorA10
import Derived.Test.YtokaeiahhmaokaaDoorA13
namespace Go.Proofs.YtokaeiahhmaokaaDoor.ds
open Go.ChangeShapes Go.WideShapes Go.ChangeAt Go.RowKit Go.Sort
set_option linter.unusedVariables false
set_option linter.unusedSimpArgs false
open Classical in
/-- a list more, where it is a set for the gap -/
noncomputable def knowG (gap : Int) (a xs : List S) : List S := if (1 ≤ gap ∧ gap ≤ 64) ∧ OkL gap a ∧ OkL gap xs then uni a xs else a
structure UP (w w' : World) (r : Ending) (gap : Int) (a xs : List S) : Prop where
  ex : ∃ q n c e, r = .returned (.tuple #[.slice q n c, .int .i64 e]) ∧ Apart [] w w' ∧ ((e = 0 ∧ L w' q n (knowG gap a xs)) ∨ (¬ e = 0 ∧ knowG gap a xs = a))
theorem union_any {w : World} {p q : Option Addr} {N M cap cb : Nat} {xs ys : List S} {gap : Int} (T : Tab w) (h : L w p N xs) (h2 : L w q M ys) : Calls Tryd.prog 102 #[.slice p N cap, .slice q M cb, .int .i64 gap] w fun r w' => UP w w' r gap xs ys := by
  by_cases hg : 1 ≤ gap ∧ gap ≤ 64
  · by_cases k : OkL gap xs
    · by_cases k2 : OkL gap ys
      · refine (union_ok gap T h h2 hg k k2).mono (fun r w' hh => ?_)
        obtain ⟨p', n', c', rfl, ho, hn⟩ := hh.ex
        have e : knowG gap xs ys = uni xs ys := by unfold knowG; rw [if_pos ⟨hg, k, k2⟩]
        exact ⟨p', n', c', 0, rfl, ho.ap, .inl ⟨rfl, by rw [e]; exact ho.L (by omega) ((uni_ok k k2 (by omega) hg.2).fit hg.2)⟩⟩
      · refine (union_set2 gap h h2 hg k k2).mono (fun r w' hh => ?_)
        obtain ⟨rfl, a⟩ := hh
        exact ⟨none, 0, 0, 30, rfl, a, .inr ⟨by decide, by unfold knowG; rw [if_neg (fun h => k2 h.2.2)]⟩⟩
    · refine (union_set1 gap h hg k).mono (fun r w' hh => ?_)
      obtain ⟨rfl, a⟩ := hh
      exact ⟨none, 0, 0, 30, rfl, a, .inr ⟨by decide, by unfold knowG; rw [if_neg (fun h => k h.2.1)]⟩⟩
  · refine (union_arg gap hg).mono (fun r w' hh => ?_)
    obtain ⟨rfl, a⟩ := hh
    exact ⟨none, 0, 0, 1, rfl, a, .inr ⟨by decide, by unfold knowG; rw [if_neg (fun h => hg h.1)]⟩⟩
/-- several lists of spans, as they read -/
structure LX (w : World) (p : Option Addr) (N : Nat) (ss : List Sl) (xss : List (List S)) : Prop where
  rd : Rd w p (ss.map Sl.v)
  len : ss.length = N
  lx : xss.length = N
  l : ∀ j, j < N → L w (gS ss j).p (gS ss j).n (xss.getD j [])
theorem LX.kept0 {w w' : World} {p : Option Addr} {N : Nat} {ss : List Sl} {xss : List (List S)} (h : LX w p N ss xss) (a : Apart [] w w') : LX w' p N ss xss := ⟨h.rd.kept0 a, h.len, h.lx, fun j hj => (h.l j hj).kept0 a⟩
structure KU (w wr : World) (u : Value) (acc : List S) : Prop where
  ex : ∃ q n c, u = .slice q n c ∧ L wr q n acc ∧ Apart [] w wr
noncomputable def unis (gap : Int) (xss : List (List S)) : List S := xss.foldl (knowG gap) []
theorem unis_snoc (gap : Int) (xss : List (List S)) (i : Nat) (hi : i < xss.length) : unis gap (xss.take (i + 1)) = knowG gap (unis gap (xss.take i)) (xss.getD i []) := by
  unfold unis
  rw [List.take_add_one, List.foldl_append]
  simp [List.getD_eq_getElem?_getD, hi]
set_option maxHeartbeats 8000000 in
set_option maxRecDepth 100000 in
theorem unions_ok {w : World} {p : Option Addr} {N cap : Nat} {ss : List Sl} {xss : List (List S)} (gap : Int) (T : Tab w) (h : LX w p N ss xss) (hN : N ≤ 1000000) : Calls Tryd.prog 63 #[.int .i64 gap, .slice p N cap] w fun r w' => ∃ u, r = .returned u ∧ KU w w' u (unis gap xss) := by
  have HH := hid h
  have HT := hid T
  clear h T
  go_enter Tryd.func63, Tryd.ntmps63
  go_wp2_with fail
  go_loopw [5, 12] (fun u v wr => ∃ i : Nat, v = .int .i64 (i : Nat) ∧ i ≤ N ∧ KU w wr u (unis gap (xss.take i))) (fun _ v _ => N - (intOf v).toNat)
  case atStart => exact ⟨0, rfl, Nat.zero_le _, none, 0, 0, rfl, ⟨Sp.nil _ _, rfl, by decide, by simp [unis]⟩, Apart.refl _ _⟩
  case round =>
    obtain ⟨i, rfl, hi, hk⟩ := hrel
    obtain ⟨q, n, c, rfl, hL, ha⟩ := hk.ex
    clear hk
    have HA := hid ha
    have HL := hid hL
    clear ha hL
    by_cases hlt : i < N
    · have hX := HH.out.kept0 HA.out
      obtain ⟨P, o, hp, hP, hc⟩ := hX.rd (by rw [List.length_map, hX.len]; omega)
      have c0 := hc i (gS ss i).v (by rw [List.getElem?_map]; unfold gS; rw [List.getD_eq_getElem?_getD, List.getElem?_eq_getElem (by rw [hX.len]; exact hlt)]; rfl)
      have hU := union_any (gap := gap) (cap := c) (cb := (gS ss i).c) (HT.out.kept0 HA.out) HL.out (hX.l i hlt)
      have HSN := hid (unis_snoc gap xss i (by rw [hX.lx]; exact hlt))
      unfold Sl.v at c0
      generalize gS ss i = s at *
      generalize xss.getD i [] = ys at *
      generalize unis gap (xss.take i) = acc at *
      subst hp
      clear hX hc HH HT
      go_wp2_with fail
      refine hU.mono ?_
      clear hU
      rintro _ w1 hh
      obtain ⟨q1, n1, c1, e1, rfl, a1, hcase⟩ := hh.ex
      clear hh
      have HA1 := hid (HA.out.trans a1)
      have HL1 := hid (HL.out.kept0 a1)
      have HC := hid hcase
      clear a1 hcase
      dsimp only
      by_cases he : e1 = 0
      · have HK : Hid (KU w w1 (.slice q1 n1 c1) (unis gap (xss.take (i + 1)))) := by
          rw [HSN.out]
          rcases HC.out with h | h
          · exact ⟨q1, n1, c1, rfl, h.2, HA1.out⟩
          · exact absurd he h.1
        subst he
        go_wp2_with fail
        go_roundw
        case rel => exact ⟨i + 1, by go_num, by omega, HK.out⟩
        case measure => simp [intOf]; omega
      · have HK : Hid (KU w w1 (.slice q n c) (unis gap (xss.take (i + 1)))) := by
          rw [HSN.out]
          rcases HC.out with h | h
          · exact absurd h.1 he
          · rw [h.2]; exact ⟨q, n, c, rfl, HL1.out, HA1.out⟩
        go_wp2_with fail
        go_roundw
        case rel => exact ⟨i + 1, by go_num, by omega, HK.out⟩
        case measure => simp [intOf]; omega
    · obtain rfl : i = N := by omega
      have HK : Hid (KU w wr (.slice q n c) (unis gap xss)) := ⟨q, n, c, rfl, by have := HL.out; rwa [List.take_of_length_le (by rw [HH.out.lx]; omega)] at this, HA.out⟩
      go_wp2
      go_ret
      exact ⟨_, rfl, HK.out⟩
end Go.Proofs.YtokaeiahhmaokaaDoor.ds
namespace Go.Proofs.YtokaeiahhmaokaaDoor.ds
open Go.ChangeShapes Go.WideShapes Go.ChangeAt Go.RowKit Go.Sort
set_option linter.unusedVariables false
set_option linter.unusedSimpArgs false
/-- the same in all -/
def sameP (r q : Wr) : Prop := ((r.n = q.n ∧ r.c = q.c) ∧ keq r.k q.k = true ∧ r.d = q.d) ∧ r.vs = q.vs ∧ r.xs = q.xs
theorem head_iff {w : World} {a b : E} {r q : Wr} (ha : Reads w a r) (hb : Reads w b q) : headP a b ↔ (r.n = q.n ∧ r.c = q.c) ∧ keq r.k q.k = true ∧ r.d = q.d := by
  unfold headP; rw [ha.n, ha.c, ha.k, ha.d, hb.n, hb.c, hb.k, hb.d]
theorem psame_ok (a b : E) (r q : Wr) (w : World) (ha : Reads w a r) (hb : Reads w b q) (v : Bool) (hv : v = true ↔ sameP r q) : Calls Tryd.prog 42 #[a.agg, b.agg] w fun z w' => z = .returned (.bool v) ∧ Apart [] w w' := by
  classical
  have h := psame_walk a b w (decide (headP a b)) (decide (r.vs = q.vs)) (decide (r.xs = q.xs)) (by simp) (fun W x => beq_ok a.v b.v r.vs q.vs W (ha.v.kept0 x) (hb.v.kept0 x) ha.vn hb.vn ha.vo hb.vo ha.vb hb.vb) (fun W x => seq_ok a.x b.x r.xs q.xs W (ha.x.kept0 x) (hb.x.kept0 x) ha.xl hb.xl _ (by simp))
  have e : (decide (headP a b) && (decide (r.vs = q.vs) && decide (r.xs = q.xs))) = v := by
    rw [Bool.eq_iff_iff, hv]
    unfold sameP
    rw [← head_iff ha hb]
    simp
  rw [e] at h
  exact h
theorem rsame_ok (a b : E) (r q : Wr) (w : World) (ha : Reads w a r) (hb : Reads w b q) (v : Bool) (hv : v = true ↔ sameP r q) : Calls Tryd.prog 43 #[a.agg, b.agg] w fun z w' => z = .returned (.bool v) ∧ Apart [] w w' := by
  classical
  exact rsame_walk a b r.vs q.vs r.xs q.xs w (decide (headP a b)) v (by simp) (by rw [hv]; unfold sameP; rw [← head_iff ha hb]; simp) ha.v hb.v ha.vn hb.vn ha.vl hb.vl ha.x hb.x ha.xl hb.xl
/-- what P503 asks of a write alone -/
def rightP (r : Wr) (gap : Int) : Prop := ((1 ≤ (r.k.size : Int) ∧ (r.k.size : Int) ≤ 16) ∧ (r.vs.length : Int) ≤ 64 ∧ ¬ (r.d = true ∧ 0 < (r.vs.length : Int))) ∧ isd r.n r.c = true ∧ chk r.xs gap = 0 ∧ hasd r.xs r.n r.c = false
theorem short_iff {w : World} {a : E} {r : Wr} (ha : Reads w a r) : shortE a ↔ (1 ≤ (r.k.size : Int) ∧ (r.k.size : Int) ≤ 16) ∧ (r.vs.length : Int) ≤ 64 ∧ ¬ (r.d = true ∧ 0 < (r.vs.length : Int)) := by
  unfold shortE; rw [ha.k, ha.d, ← ha.vn]
theorem isWrite_ok (a : E) (r : Wr) (gap : Int) (w : World) (ha : Reads w a r) (v : Bool) (hv : v = true ↔ rightP r gap) : Calls Tryd.prog 58 #[a.agg, .int .i64 gap] w fun z w' => z = .returned (.bool v) ∧ Apart [] w w' := by
  by_cases hs : shortE a
  · have h := isW_walk a gap w (isd r.n r.c) (hasd r.xs r.n r.c) (chk r.xs gap) hs (fun W => by rw [ha.n, ha.c]; exact pdot_ok r.n r.c W) (fun W x => check_as (ha.x.kept0 x) _ rfl) (fun W x => by rw [ha.n, ha.c]; exact has_any r.n r.c (ha.x.kept0 x) _ rfl)
    have e : (isd r.n r.c && (decide (chk r.xs gap = 0) && !hasd r.xs r.n r.c)) = v := by
      rw [Bool.eq_iff_iff, hv]
      unfold rightP
      have := (short_iff ha).1 hs
      simp only [Bool.and_eq_true, decide_eq_true_eq, Bool.not_eq_true']
      exact ⟨fun h => ⟨this, h.1, h.2.1, h.2.2⟩, fun h => ⟨h.2.1, h.2.2.1, h.2.2.2⟩⟩
    rw [e] at h
    exact h
  · have e : v = false := by
      cases hvv : v with
      | false => rfl
      | true => exact absurd ((short_iff ha).2 (hv.1 hvv).1) hs
    rw [e]
    exact isW_short a gap w hs
theorem rright_ok (a : E) (r : Wr) (gap : Int) (w : World) (ha : Reads w a r) (v : Bool) (hv : v = true ↔ rightP r gap) : Calls Tryd.prog 60 #[a.agg, .int .i64 gap] w fun z w' => z = .returned (.bool v) ∧ Apart [] w w' := by
  by_cases hs : shortE a
  · have h := right_walk a gap w (isd r.n r.c) (hasd r.xs r.n r.c) (chk r.xs gap) hs (fun W => by rw [ha.n, ha.c]; exact rdot_ok r.n r.c W) (fun W x => rcheck_as (ha.x.kept0 x) _ rfl) (fun W x => by rw [ha.n, ha.c]; exact rhas_ok r.n r.c (ha.x.kept0 x) _ rfl)
    have e : (isd r.n r.c && (decide (chk r.xs gap = 0) && !hasd r.xs r.n r.c)) = v := by
      rw [Bool.eq_iff_iff, hv]
      unfold rightP
      have := (short_iff ha).1 hs
      simp only [Bool.and_eq_true, decide_eq_true_eq, Bool.not_eq_true']
      exact ⟨fun h => ⟨this, h.1, h.2.1, h.2.2⟩, fun h => ⟨h.2.1, h.2.2.1, h.2.2.2⟩⟩
    rw [e] at h
    exact h
  · have e : v = false := by
      cases hvv : v with
      | false => rfl
      | true => exact absurd ((short_iff ha).2 (hv.1 hvv).1) hs
    rw [e]
    exact right_short a gap w hs
end Go.Proofs.YtokaeiahhmaokaaDoor.ds
namespace Go.Proofs.YtokaeiahhmaokaaDoor.ds
open Go.ChangeShapes Go.WideShapes Go.ChangeAt Go.RowKit Go.Sort
set_option linter.unusedVariables false
set_option linter.unusedSimpArgs false
/-- the contexts of some, one behind the other -/
noncomputable def kno (l : List Wr) (a : List S) : List S := l.foldl (fun a r => knows a r.xs) a
theorem kno_ok (l : List Wr) : ∀ (a : List S), OkL 64 a → OkL 64 (kno l a) := by
  induction l with
  | nil => intro a h; exact h
  | cons r l ih => intro a h; exact ih _ (knows_ok h)
theorem kno_has (l : List Wr) (n c : Int) : ∀ (a : List S), OkL 64 a → hasd (kno l a) n c = (hasd a n c || l.any (fun r => hasd r.xs n c)) := by
  induction l with
  | nil => intro a h; simp [kno]
  | cons r l ih =>
    intro a h
    have e : kno (r :: l) a = kno l (knows a r.xs) := rfl
    rw [e, ih _ (knows_ok h), hasd_knows h, List.any_cons, Bool.or_assoc]
/-- what is known ahead of the i-th, and from the i-th on -/
noncomputable def ahd (rs : List Wr) (i : Nat) : List S := kno (rs.take i) []
noncomputable def bhd (rs : List Wr) (i : Nat) : List S := kno (rs.drop i).reverse []
theorem ahd_ok (rs : List Wr) (i : Nat) : OkL 64 (ahd rs i) := kno_ok _ _ (OkL.nil 64)
theorem bhd_ok (rs : List Wr) (i : Nat) : OkL 64 (bhd rs i) := kno_ok _ _ (OkL.nil 64)
theorem ahd_zero (rs : List Wr) : ahd rs 0 = [] := by simp [ahd, kno]
theorem bhd_end (rs : List Wr) (i : Nat) (h : rs.length ≤ i) : bhd rs i = [] := by simp [bhd, kno, List.drop_eq_nil_of_le h]
theorem ahd_succ (rs : List Wr) (i : Nat) (h : i < rs.length) : ahd rs (i + 1) = knows (ahd rs i) (gR rs i).xs := by
  unfold ahd kno
  rw [List.take_add_one, List.foldl_append, List.getElem?_eq_getElem h]
  simp [gR, List.getD_eq_getElem?_getD, h]
theorem bhd_pred (rs : List Wr) (i : Nat) (h : i < rs.length) : bhd rs i = knows (bhd rs (i + 1)) (gR rs i).xs := by
  unfold bhd kno
  rw [List.drop_eq_getElem_cons h, List.reverse_cons, List.foldl_append]
  simp [gR, List.getD_eq_getElem?_getD, h]
/-- the two unions that the program makes of what is known and a context -/
theorem unis_two {a : List S} (xs : List S) (ha : OkL 64 a) : unis 64 [a, xs] = knows a xs := by
  show knowG 64 (knowG 64 [] a) xs = knows a xs
  have e1 : knowG 64 [] a = a := by
    unfold knowG
    rw [if_pos ⟨by decide, OkL.nil 64, ha⟩, uni_comm (OkL.nil 64) ha (by omega) (by omega), uni_nil ha (by omega) (by omega)]
  rw [e1]
  unfold knowG knows
  by_cases hx : OkL 64 xs
  · rw [if_pos ⟨by decide, ha, hx⟩, if_pos hx]
  · rw [if_neg (fun h => hx h.2.2), if_neg hx]
noncomputable def cvd (rs : List Wr) (i : Nat) : Bool := hasd (ahd rs i) (gR rs i).n (gR rs i).c
noncomputable def uncd (rs : List Wr) (i : Nat) : Bool := !cvd rs i && !hasd (bhd rs (i + 1)) (gR rs i).n (gR rs i).c
/-- what is left of the last m, the last first -/
noncomputable def bU (es : List E) (rs : List Wr) (N : Nat) : Nat → List E
  | 0 => []
  | m + 1 => if uncd rs (N - 1 - m) then bU es rs N m ++ [gE es (N - 1 - m)] else bU es rs N m
theorem bU_len (es : List E) (rs : List Wr) (N : Nat) : ∀ m, (bU es rs N m).length ≤ m
  | 0 => by simp [bU]
  | m + 1 => by
    have := bU_len es rs N m
    unfold bU; split
    · rw [List.length_append, List.length_cons, List.length_nil]; omega
    · omega
theorem bU_full (es : List E) (rs : List Wr) (N : Nat) : ∀ m, (bU es rs N m).length = m ↔ ∀ k, k < m → uncd rs (N - 1 - k) = true
  | 0 => by simp [bU]
  | m + 1 => by
    have h1 := bU_len es rs N m
    have h2 := bU_full es rs N m
    unfold bU
    by_cases hu : uncd rs (N - 1 - m) = true
    · rw [if_pos hu, List.length_append, List.length_cons, List.length_nil]
      constructor
      · intro h k hk
        by_cases hkm : k = m
        · rw [hkm]; exact hu
        · exact h2.1 (by omega) k (by omega)
      · intro h
        rw [h2.2 (fun k hk => h k (by omega))]
    · rw [if_neg hu]
      constructor
      · intro h; omega
      · intro h; exact absurd (h m (by omega)) hu
theorem bU_all (es : List E) (rs : List Wr) (N : Nat) : (bU es rs N N).length = N ↔ ∀ i, i < N → uncd rs i = true := by
  rw [bU_full]
  constructor
  · intro h i hi
    have := h (N - 1 - i) (by omega)
    rwa [show N - 1 - (N - 1 - i) = i from by omega] at this
  · intro h k hk; exact h _ (by omega)
theorem anyW_take (rs : List Wr) (f : Wr → Bool) (i : Nat) (hi : i ≤ rs.length) : (rs.take i).any f = true ↔ ∃ j, j < i ∧ f (gR rs j) = true := by
  rw [List.any_eq_true]
  constructor
  · rintro ⟨r, hr, hf⟩
    obtain ⟨j, hj, rfl⟩ := List.mem_iff_getElem.1 hr
    rw [List.length_take] at hj
    refine ⟨j, by omega, ?_⟩
    rw [List.getElem_take] at hf
    simpa [gR, List.getD_eq_getElem?_getD, show j < rs.length from by omega] using hf
  · rintro ⟨j, hj, hf⟩
    have hl : j < rs.length := by omega
    refine ⟨rs[j], ?_, by simpa [gR, List.getD_eq_getElem?_getD, hl] using hf⟩
    rw [List.mem_iff_getElem]
    exact ⟨j, by rw [List.length_take]; omega, by rw [List.getElem_take]⟩
theorem anyW_drop (rs : List Wr) (f : Wr → Bool) (i : Nat) : (rs.drop i).reverse.any f = true ↔ ∃ j, i ≤ j ∧ j < rs.length ∧ f (gR rs j) = true := by
  rw [List.any_eq_true]
  constructor
  · rintro ⟨r, hr, hf⟩
    rw [List.mem_reverse] at hr
    obtain ⟨j, hj, rfl⟩ := List.mem_iff_getElem.1 hr
    rw [List.length_drop] at hj
    refine ⟨i + j, by omega, by omega, ?_⟩
    rw [List.getElem_drop] at hf
    simpa [gR, List.getD_eq_getElem?_getD, show i + j < rs.length from by omega] using hf
  · rintro ⟨j, hj, hl, hf⟩
    refine ⟨rs[j], ?_, by simpa [gR, List.getD_eq_getElem?_getD, hl] using hf⟩
    rw [List.mem_reverse, List.mem_iff_getElem]
    exact ⟨j - i, by rw [List.length_drop]; omega, by rw [List.getElem_drop]; congr 1; omega⟩
/-- nobody else has its dot -/
theorem uncd_iff (rs : List Wr) (i : Nat) (hi : i < rs.length) : uncd rs i = true ↔ ∀ j, j < rs.length → j ≠ i → hasd (gR rs j).xs (gR rs i).n (gR rs i).c = false := by
  unfold uncd cvd ahd bhd
  rw [kno_has _ _ _ _ (OkL.nil 64), kno_has _ _ _ _ (OkL.nil 64), hasd_nil, Bool.false_or, Bool.false_or, Bool.and_eq_true, Bool.not_eq_true', Bool.not_eq_true', ← Bool.not_eq_true, ← Bool.not_eq_true, anyW_take _ _ _ (by omega), anyW_drop]
  constructor
  · rintro ⟨h1, h2⟩ j hj hne
    cases hh : hasd (gR rs j).xs (gR rs i).n (gR rs i).c with
    | false => rfl
    | true =>
      by_cases hji : j < i
      · exact absurd ⟨j, hji, hh⟩ h1
      · exact absurd ⟨j, by omega, hj, hh⟩ h2
  · intro h
    constructor
    · rintro ⟨j, hj, hh⟩
      rw [h j (by omega) (by omega)] at hh; cases hh
    · rintro ⟨j, h1, h2, hh⟩
      rw [h j h2 (by omega)] at hh; cases hh
end Go.Proofs.YtokaeiahhmaokaaDoor.ds
