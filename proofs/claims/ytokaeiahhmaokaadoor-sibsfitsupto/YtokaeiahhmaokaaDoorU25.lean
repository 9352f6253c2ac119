import Derived.Test.YtokaeiahhmaokaaDoorU24
import Derived.Test.YtokaeiahhmaokaaDoorU1
namespace Go.Proofs.YtokaeiahhmaokaaDoor.ds
open Go.ChangeShapes Go.WideShapes Go.ChangeAt Go.RowKit Go.Sort
set_option linter.unusedVariables false
set_option linter.unusedSimpArgs false
/-- a union that is made -/
def UnC (gap : Int) (xs ys : List S) : Prop := (1 ≤ gap ∧ gap ≤ 64) ∧ OkL gap xs ∧ OkL gap ys
/-- a dot that is taken -/
def AdC (gap : Int) (xs : List S) (dn dc : Int) : Prop := (1 ≤ gap ∧ gap ≤ 64) ∧ IsDot dn dc ∧ OkL gap xs ∧ dc ≤ (ofn xs dn).b + gap
structure US (w w' : World) (r : Ending) (gap : Int) (xs ys : List S) : Prop where
  ex : ∃ q n c e, r = .returned (.tuple #[.slice q n c, .int .i64 e]) ∧ Apart [] w w' ∧ ((e = 0 ∧ UnC gap xs ys ∧ Own w w' q n c (uni xs ys) ∧ n ≤ 8) ∨ (¬ e = 0 ∧ ¬ UnC gap xs ys))
structure AS (w w' : World) (r : Ending) (gap : Int) (xs : List S) (dn dc : Int) : Prop where
  ex : ∃ q n c e, r = .returned (.tuple #[.slice q n c, .int .i64 e]) ∧ Apart [] w w' ∧ ((e = 0 ∧ AdC gap xs dn dc ∧ Own w w' q n c (addl xs dn dc) ∧ n ≤ 8) ∨ (¬ e = 0 ∧ ¬ AdC gap xs dn dc))
theorem US.ok {w w' : World} {r : Ending} {gap : Int} {xs ys : List S} (h : RPost w w' r (uni xs ys)) (k : UnC gap xs ys) : US w w' r gap xs ys := by
  obtain ⟨p, n, c, rfl, ho, hn⟩ := h.ex
  exact ⟨p, n, c, 0, rfl, ho.ap, .inl ⟨rfl, k, ho, hn⟩⟩
theorem US.err {w w' : World} {r : Ending} {gap e : Int} {xs ys : List S} (h : r = .returned (.tuple #[.slice none 0 0, .int .i64 e]) ∧ Apart [] w w') (he : ¬ e = 0) (k : ¬ UnC gap xs ys) : US w w' r gap xs ys :=
  ⟨none, 0, 0, e, h.1, h.2, .inr ⟨he, k⟩⟩
theorem AS.ok {w w' : World} {r : Ending} {gap : Int} {xs : List S} {dn dc : Int} (h : RPost w w' r (addl xs dn dc)) (k : AdC gap xs dn dc) : AS w w' r gap xs dn dc := by
  obtain ⟨p, n, c, rfl, ho, hn⟩ := h.ex
  exact ⟨p, n, c, 0, rfl, ho.ap, .inl ⟨rfl, k, ho, hn⟩⟩
theorem AS.err {w w' : World} {r : Ending} {gap e : Int} {xs : List S} {dn dc : Int} (h : r = .returned (.tuple #[.slice none 0 0, .int .i64 e]) ∧ Apart [] w w') (he : ¬ e = 0) (k : ¬ AdC gap xs dn dc) : AS w w' r gap xs dn dc :=
  ⟨none, 0, 0, e, h.1, h.2, .inr ⟨he, k⟩⟩
theorem union_c {w : World} {p q : Option Addr} {N M cap cb : Nat} {xs ys : List S} (gap : Int) (T : Tab w) (h : L w p N xs) (h2 : L w q M ys) : Calls Tryd.prog 102 #[.slice p N cap, .slice q M cb, .int .i64 gap] w fun r w' => US w w' r gap xs ys := by
  by_cases hg : 1 ≤ gap ∧ gap ≤ 64
  · by_cases k : OkL gap xs
    · by_cases k2 : OkL gap ys
      · exact (union_ok gap T h h2 hg k k2).mono (fun r w' hh => US.ok hh ⟨hg, k, k2⟩)
      · exact (union_set2 gap h h2 hg k k2).mono (fun r w' hh => US.err hh (by decide) (fun h => k2 h.2.2))
    · exact (union_set1 gap h hg k).mono (fun r w' hh => US.err hh (by decide) (fun h => k h.2.1))
  · exact (union_arg gap hg).mono (fun r w' hh => US.err hh (by decide) (fun h => hg h.1))
theorem isd_iff (dn dc : Int) : isd dn dc = true ↔ IsDot dn dc := by unfold isd IsDot; simp
theorem add_c {w : World} {p : Option Addr} {N cap : Nat} {xs : List S} (gap dn dc : Int) (T : Tab w) (h : L w p N xs) : Calls Tryd.prog 103 #[.slice p N cap, .agg #[.int .i64 dn, .int .i64 dc], .int .i64 gap] w fun r w' => AS w w' r gap xs dn dc := by
  by_cases hg : 1 ≤ gap ∧ gap ≤ 64
  · by_cases hd : IsDot dn dc
    · by_cases k : OkL gap xs
      · by_cases hc : dc ≤ (ofn xs dn).b + gap
        · exact (add_ok dn dc gap T h hg hd k hc).mono (fun r w' hh => AS.ok hh ⟨hg, hd, k, hc⟩)
        · exact (add_gap dn dc gap h hg hd k (by omega)).mono (fun r w' hh => AS.err hh (by decide) (fun h => hc h.2.2.2))
      · exact (add_set dn dc gap h hg hd k).mono (fun r w' hh => AS.err hh (by decide) (fun h => k h.2.2.1))
    · exact (add_arg2 dn dc gap hg hd).mono (fun r w' hh => AS.err hh (by decide) (fun h => hd h.2.1))
  · exact (add_arg1 dn dc gap hg).mono (fun r w' hh => AS.err hh (by decide) (fun h => hg h.1))
/-- a write that fits in a token -/
def TkC (gap : Int) (T : List S) (x : Wr) : Prop := UnC gap T x.xs ∧ AdC gap (uni T x.xs) x.n x.c
open Classical in
noncomputable def tkT (gap : Int) (T : List S) (rs : List Wr) : Nat → List S
  | 0 => T
  | i + 1 => if TkC gap (tkT gap T rs i) (gR rs i) then addl (uni (tkT gap T rs i) (gR rs i).xs) (gR rs i).n (gR rs i).c else tkT gap T rs i
open Classical in
noncomputable def tkO (gap : Int) (T : List S) (rs : List Wr) : Nat → List Wr
  | 0 => []
  | i + 1 => if TkC gap (tkT gap T rs i) (gR rs i) then tkO gap T rs i else tkO gap T rs i ++ [gR rs i]
open Classical in
noncomputable def tkE (gap : Int) (T : List S) (rs : List Wr) (es : List E) : Nat → List E
  | 0 => []
  | i + 1 => if TkC gap (tkT gap T rs i) (gR rs i) then tkE gap T rs es i else tkE gap T rs es i ++ [gE es i]
theorem tkT_yes {gap : Int} {T : List S} {rs : List Wr} {i : Nat} (h : TkC gap (tkT gap T rs i) (gR rs i)) : tkT gap T rs (i + 1) = addl (uni (tkT gap T rs i) (gR rs i).xs) (gR rs i).n (gR rs i).c := by simp only [tkT]; rw [if_pos h]
theorem tkT_no {gap : Int} {T : List S} {rs : List Wr} {i : Nat} (h : ¬ TkC gap (tkT gap T rs i) (gR rs i)) : tkT gap T rs (i + 1) = tkT gap T rs i := by simp only [tkT]; rw [if_neg h]
theorem tkE_yes {gap : Int} {T : List S} {rs : List Wr} {es : List E} {i : Nat} (h : TkC gap (tkT gap T rs i) (gR rs i)) : tkE gap T rs es (i + 1) = tkE gap T rs es i := by simp only [tkE]; rw [if_pos h]
theorem tkE_no {gap : Int} {T : List S} {rs : List Wr} {es : List E} {i : Nat} (h : ¬ TkC gap (tkT gap T rs i) (gR rs i)) : tkE gap T rs es (i + 1) = tkE gap T rs es i ++ [gE es i] := by simp only [tkE]; rw [if_neg h]
theorem tkE_map (gap : Int) (T : List S) (R : E → Wr) (es : List E) : ∀ i, i ≤ es.length → (tkE gap T (es.map R) es i).map R = tkO gap T (es.map R) i
  | 0, _ => rfl
  | i + 1, h => by
    simp only [tkE, tkO]
    split
    · exact tkE_map gap T R es i (by omega)
    · rw [List.map_append, tkE_map gap T R es i (by omega), gR_map R es i (by omega)]; rfl
theorem tkE_sub (gap : Int) (T : List S) (rs : List Wr) (es : List E) : ∀ i, i ≤ es.length → ∀ e ∈ tkE gap T rs es i, e ∈ es
  | 0, _, e, he => by simp [tkE] at he
  | i + 1, h, e, he => by
    simp only [tkE] at he
    split at he
    · exact tkE_sub gap T rs es i (by omega) e he
    · rcases List.mem_append.1 he with h1 | h1
      · exact tkE_sub gap T rs es i (by omega) e h1
      · simp at h1; rw [h1]; exact gE_memE es i (by omega)
theorem tkE_len (gap : Int) (T : List S) (rs : List Wr) (es : List E) : ∀ i, (tkE gap T rs es i).length ≤ i
  | 0 => by simp [tkE]
  | i + 1 => by
    have := tkE_len gap T rs es i
    simp only [tkE]
    split
    · omega
    · simp; omega
theorem tkO_len (gap : Int) (T : List S) (rs : List Wr) : ∀ i, (tkO gap T rs i).length ≤ i
  | 0 => by simp [tkO]
  | i + 1 => by
    have := tkO_len gap T rs i
    simp only [tkO]
    split
    · omega
    · simp; omega
/-- Token of what is read: the token, and what does not fit in -/
noncomputable def tokT (gap : Int) (bs : List (List S)) (rs : List Wr) : List S := tkT gap (unis gap bs) (eachW rs) (eachW rs).length
noncomputable def tokO (gap : Int) (bs : List (List S)) (rs : List Wr) : List Wr := tkO gap (unis gap bs) (eachW rs) (eachW rs).length
/-- a token in memory of the call's own -/
structure TS (w wr : World) (q : Option Addr) (n c : Nat) (T : List S) : Prop where
  own : Own w wr q n c T
  n8 : n ≤ 8
  fit : ∀ x ∈ T, x.t < 2 ^ 64
theorem TS.L {w wr : World} {q : Option Addr} {n c : Nat} {T : List S} (h : TS w wr q n c T) : L wr q n T := h.own.L (by have := h.n8; omega) h.fit
theorem TS.kept0 {w wr wx : World} {q : Option Addr} {n c : Nat} {T : List S} (h : TS w wr q n c T) (a : Apart [] wr wx) : TS w wx q n c T := { h with own := h.own.kept a }
theorem TS.from {w0 w wr : World} {q : Option Addr} {n c : Nat} {T : List S} (h : TS w wr q n c T) (a : Apart [] w0 w) : TS w0 wr q n c T := { h with own := Own.from a h.own }
theorem TS.nil (w wr : World) (a : Apart [] w wr) : TS w wr none 0 0 [] := ⟨⟨rfl, World.ownsRow_nil _ _ _ _, by simp [Value.ownBlock], a⟩, by decide, by simp⟩
/-- what is written in rows of writes -/
theorem TS.keptW {w wr wx : World} {q : Option Addr} {n c : Nat} {T : List S} (h : TS w wr q n c T) {u : Sl} {us : List Value} {wa : World} (hu : Nw wa wr 28 6 u us) (a : Apart u.v.ownBlock.toList wr wx) (aw : Apart [] w wx) : TS w wx q n c T :=
  { h with own := ⟨h.own.len, own_apart h.own.own a (fun k hk hm => by
      simp at hm
      obtain ⟨c1, e1⟩ := own_typ h.own.own hk
      obtain ⟨c2, e2⟩ := own_typ hu.own hm
      rw [e1] at e2
      simp at e2), h.own.new, aw⟩ }
theorem uni_fit {gap : Int} {xs ys : List S} (h : UnC gap xs ys) : ∀ x ∈ uni xs ys, x.t < 2 ^ 64 := (uni_ok h.2.1 h.2.2 (by have := h.1; omega) h.1.2).fit h.1.2
theorem addl_fit {gap : Int} {xs : List S} {dn dc : Int} (h : AdC gap xs dn dc) : ∀ x ∈ addl xs dn dc, x.t < 2 ^ 64 := (addl_ok h.2.2.1 h.1.1 h.1.2 dn dc h.2.1.2 h.2.2.2).fit h.1.2
theorem knowG_of {gap : Int} {a xs : List S} (h : UnC gap a xs) : knowG gap a xs = uni a xs := by unfold knowG; exact if_pos h
theorem knowG_not {gap : Int} {a xs : List S} (h : ¬ UnC gap a xs) : knowG gap a xs = a := by unfold knowG; exact if_neg h
theorem knowG_ok {gap : Int} {a xs : List S} (hg : 1 ≤ gap ∧ gap ≤ 64) (h : OkL gap a) : OkL gap (knowG gap a xs) := by
  by_cases k : UnC gap a xs
  · rw [knowG_of k]; exact uni_ok k.2.1 k.2.2 (by omega) hg.2
  · rw [knowG_not k]; exact h
theorem unis_okA {gap : Int} (hg : 1 ≤ gap ∧ gap ≤ 64) : ∀ (bs : List (List S)) (a : List S), OkL gap a → OkL gap (bs.foldl (knowG gap) a)
  | [], a, h => h
  | x :: bs, a, h => unis_okA hg bs _ (knowG_ok hg h)
theorem unis_ok {gap : Int} (hg : 1 ≤ gap ∧ gap ≤ 64) (bs : List (List S)) : OkL gap (unis gap bs) := unis_okA hg bs [] (OkL.nil _)
end Go.Proofs.YtokaeiahhmaokaaDoor.ds
namespace Go.Proofs.YtokaeiahhmaokaaDoor.ds
open Go.ChangeShapes Go.WideShapes Go.ChangeAt Go.RowKit Go.Sort
set_option linter.unusedVariables false
set_option linter.unusedSimpArgs false
theorem infoSS : (Tryd.prog.info? 26).map (fun i => (i.zero, i.size, i.bytes)) = some (some (.slice none 0 0), 1, 24) := by kernel_rfl
/-- a list of spans that came in -/
structure InS (w : World) (s : Sl) (xs : List S) : Prop where
  l : L w s.p s.n xs
  n : s.n ≤ 1048576
  ok : s.ok
theorem InS.kept0 {w w' : World} {s : Sl} {xs : List S} (h : InS w s xs) (a : Apart [] w w') : InS w' s xs := ⟨h.l.kept0 a, h.n, h.ok⟩
/-- the bases of a case -/
def Bss (w : World) (p : Option Addr) (n : Nat) (B : Nat → Sl × List S) : Prop :=
  0 < n → ∃ P o, p = some ⟨P, o, none⟩ ∧ P < w.heap.size ∧ ∀ i, i < n → w.cell? ⟨P, o + i, none⟩ = some (B i).1.v ∧ InS w (B i).1 (B i).2
theorem Bss.ins {w : World} {p : Option Addr} {n : Nat} {B : Nat → Sl × List S} (h : Bss w p n B) (i : Nat) (hi : i < n) : InS w (B i).1 (B i).2 := by
  obtain ⟨P, o, e, hP, hc⟩ := h (by omega)
  exact (hc i hi).2
def bsX (B : Nat → Sl × List S) (n : Nat) : List (List S) := (List.range n).map fun i => (B i).2
theorem bsX_len (B : Nat → Sl × List S) (n : Nat) : (bsX B n).length = n := by simp [bsX]
theorem bsX_at (B : Nat → Sl × List S) (n j : Nat) (hj : j < n) : (bsX B n).getD j [] = (B j).2 := by
  unfold bsX
  rw [List.getD_eq_getElem?_getD, List.getElem?_map, List.getElem?_range hj]; rfl
theorem gS_range (n : Nat) (f : Nat → Sl) (j : Nat) (hj : j < n) : gS ((List.range n).map f) j = f j := by
  unfold gS
  rw [List.getD_eq_getElem?_getD, List.getElem?_map, List.getElem?_range hj]; rfl
end Go.Proofs.YtokaeiahhmaokaaDoor.ds
namespace Go.Proofs.YtokaeiahhmaokaaDoor.ds
open Go.ChangeShapes Go.WideShapes Go.ChangeAt Go.RowKit Go.Deep Go.Sort
set_option linter.unusedVariables false
set_option linter.unusedSimpArgs false
set_option maxRecDepth 100000 in
/-- a [][]api.Span that came in -/
theorem open_bss {H : Type} {enc : TypeId × Value → H} {W : World} {fuel : Nat} {v : Value} {x : DataW H × List MemPlace} (h : DataW.trod enc Tryd.prog W 0 (fun _ => true) true fuel 29 [v] = some x) (hb : Rows.uptoBulk x.1 ≤ 1048576) :
    ∃ p n c B, v = .slice p n c ∧ Bss W p n B ∧ n ≤ 1048576 := by
  rcases open_slice Tryd.underlying29 h with ⟨hcs, _⟩ | ⟨a, len, cap, m, n, D, Pl, hcs, _, hl, hm, hmeq, hx, hall⟩
  · simp at hcs
    exact ⟨none, 0, 0, fun _ => (⟨none, 0, 0⟩, []), hcs, fun h => absurd h (by omega), by decide⟩
  · simp only [if_true] at hmeq
    subst hmeq
    simp at hcs
    rw [hx] at hb
    have hball := Nat.le_trans (slice_many ((List.range len).map D) ((List.range (m - len)).map fun j => D (len + j))) hb
    have hlim : len ≤ 1048576 := by
      have h2 := many ((List.range len).map D)
      simp only [List.length_map, List.length_range] at h2
      omega
    by_cases h0 : 0 < len
    · obtain ⟨P, o, spot⟩ := a
      have hspot : spot = none := by
        obtain ⟨cs', h1, h2⟩ := hall 0 (by omega)
        rw [cells26] at h1
        obtain ⟨_, hlen, hcell⟩ := World.cells?_some h1
        have hc := hcell 0 (by omega)
        rw [List.getElem?_eq_getElem (by omega)] at hc
        have := World.cell?_spot hc
        simpa [Addr.add] using this
      subst hspot
      have each : ∀ i, i < len → ∃ d : Sl × List S, W.cell? ⟨P, o + i, none⟩ = some d.1.v ∧ InS W d.1 d.2 := by
        intro i hi
        obtain ⟨cs', h1, h2⟩ := hall i (by omega)
        have hDi : Rows.uptoBulk (D i) ≤ 1048576 := Nat.le_trans (all_mem (List.mem_map.2 ⟨i, List.mem_range.2 hi, rfl⟩)) hball
        rw [cells26, Addr.add_lit, Nat.mul_one] at h1
        obtain ⟨_, hlen, hcell⟩ := World.cells?_some h1
        match cs', hlen with
        | [v0], _ =>
          obtain ⟨s, xs, rfl, hL, hn, hok⟩ := open_spans h2 hDi
          have := hcell 0 (by omega)
          rw [Addr.add_lit] at this
          exact ⟨(s, xs), by simpa using this, ⟨hL, hn, hok⟩⟩
      obtain ⟨f, hf⟩ := @choose_lt (Sl × List S) ⟨(⟨none, 0, 0⟩, [])⟩ _ _ each
      exact ⟨some ⟨P, o, none⟩, len, m, f, hcs, fun _ => ⟨P, o, rfl, block_lt_of_cell (hf 0 h0).1, hf⟩, hlim⟩
    · obtain rfl : len = 0 := by omega
      exact ⟨some a, 0, m, fun _ => (⟨none, 0, 0⟩, []), hcs, fun h => absurd h (by omega), by omega⟩
/-- a case that came in, its bases too -/
theorem open_caseB {H : Type} {enc : TypeId × Value → H} {W : World} {fuel : Nat} {cs : Array Value} {x : DataW H × List MemPlace} (hsz : cs.size = 10) (h : DataW.trod enc Tryd.prog W 0 (fun _ => true) true fuel 31 cs.toList = some x) (hb : Rows.uptoBulk x.1 ≤ 1048576) :
    ∃ sp n sc u ru lim gap F bp m bc B, cs = #[.slice sp n sc, .int .i64 u.n, .int .i64 u.c, .string u.k, .bool u.d, Sl.v u.v, Sl.v u.x, .slice bp m bc, .int .i64 lim, .int .i64 gap] ∧ Sets W sp n F ∧ n ≤ 1048576 ∧ totL F n ≤ 1048576 ∧ Reads W u ru ∧ Bss W bp m B ∧ m ≤ 1048576 := by
  obtain ⟨l⟩ := cs
  simp only [List.size_toArray] at hsz
  match l, hsz with
  | [a0, a1, a2, a3, a4, a5, a6, a7, a8, a9], _ =>
    simp only at h
    obtain ⟨xs, k, hk, hxy, _, hxl, hf⟩ := DataW.trod_struct Tryd.underlying31 h
    match xs, hxl with
    | [y0, y1, y2, y3, y4], _ =>
      have g0 := hf 0 _ rfl
      have g1 := hf 1 _ rfl
      have g2 := hf 2 _ rfl
      have g3 := hf 3 _ rfl
      have g4 := hf 4 _ rfl
      simp [cells22, cells28, cells29, cells3] at g0 g1 g2 g3 g4
      have hD : x.1 = .agg [y0.1, y1.1, y2.1, y3.1, y4.1] := by rw [hxy]; rfl
      rw [hD] at hb
      have hall := Nat.le_trans (agg_many _) hb
      obtain ⟨sp, n, sc, F, rfl, hS, hn, hT⟩ := open_sets2 g0 (Nat.le_trans (all_mem (by simp)) hall)
      obtain ⟨u, ru, rfl, rfl, rfl, rfl, rfl, rfl, hu⟩ := open_write g1 (Nat.le_trans (all_mem (by simp)) hall)
      obtain ⟨bp, m, bc, B, rfl, hB, hm⟩ := open_bss g2 (Nat.le_trans (all_mem (by simp)) hall)
      obtain ⟨k3, q3, _, _⟩ := DataW.trod_int Tryd.underlying3 g3
      obtain ⟨k4, q4, _, _⟩ := DataW.trod_int Tryd.underlying3 g4
      simp only [List.cons.injEq, and_true] at q3 q4
      subst q3 q4
      exact ⟨sp, n, sc, u, ru, k3, k4, F, bp, m, bc, B, rfl, hS, hn, hT, hu, hB, hm⟩
end Go.Proofs.YtokaeiahhmaokaaDoor.ds
namespace Go.Proofs.YtokaeiahhmaokaaDoor.ds
set_option linter.unusedVariables false
set_option linter.unusedSimpArgs false
theorem nd_or (p q : Nat → Bool) : ∀ M, nd (fun i => p i || q i) M ≤ nd p M + nd q M
  | 0 => Nat.le_refl _
  | M + 1 => by
    have := nd_or p q M
    simp only [nd]
    cases p M <;> cases q M <;> simp <;> omega
theorem nd_one (k : Nat) : ∀ M, nd (fun i => decide (i = k)) M ≤ 1 ∧ (M ≤ k → nd (fun i => decide (i = k)) M = 0)
  | 0 => ⟨Nat.zero_le _, fun _ => rfl⟩
  | M + 1 => by
    obtain ⟨h1, h2⟩ := nd_one k M
    simp only [nd]
    by_cases h : M = k
    · have := h2 (by omega)
      rw [decide_eq_true h, this]
      exact ⟨by decide, fun h => by omega⟩
    · rw [decide_eq_false h]
      exact ⟨h1, fun h => h2 (by omega)⟩
theorem cnt_join {x y : S} (hx : Wf x) (hy : Wf y) : cnt (join x y) ≤ cnt x + cnt y := by
  have hj := join_wf hx hy
  rw [cnt_nd hj ((join x y).b.toNat + 64 + (x.b.toNat + 64) + (y.b.toNat + 64)) (by omega), cnt_nd hx ((join x y).b.toNat + 64 + (x.b.toNat + 64) + (y.b.toNat + 64)) (by omega), cnt_nd hy ((join x y).b.toNat + 64 + (x.b.toNat + 64) + (y.b.toNat + 64)) (by omega)]
  rw [nd_congr _ (fun i _ => join_dot (x := x) (y := y) ((i : Int) + 1))]
  exact nd_or _ _ _
theorem cnt_with1 {x : S} {c : Int} (hx : Wf x) (hc : 1 ≤ c) (hc64 : c ≤ x.b + 64) : cnt (withc x c) ≤ cnt x + 1 := by
  have hj := withc_wf hx hc64
  rw [cnt_nd hj ((withc x c).b.toNat + 64 + (x.b.toNat + 64)) (by omega), cnt_nd hx ((withc x c).b.toNat + 64 + (x.b.toNat + 64)) (by omega)]
  rw [nd_congr (q := fun i => dot x ((i : Int) + 1) || decide (i = (c - 1).toNat)) _ (fun i _ => by
    rw [withc_dot hc ((i : Int) + 1) (by omega)]
    congr 1
    by_cases h : (i : Int) + 1 = c
    · rw [decide_eq_true h, decide_eq_true (show i = (c - 1).toNat by omega)]
    · rw [decide_eq_false h, decide_eq_false (show ¬ i = (c - 1).toNat by omega)])]
  exact Nat.le_trans (nd_or _ _ _) (Nat.add_le_add_left (nd_one _ _).1 _)
theorem sumF_add {F G H : Nat → S} : ∀ k, (∀ j, j < k → cnt (F j) ≤ cnt (G j) + cnt (H j)) → sumF F k ≤ sumF G k + sumF H k
  | 0, _ => Nat.le_refl _
  | k + 1, h => by
    have h1 := sumF_add k (fun j hj => h j (by omega))
    have h2 := h k (by omega)
    simp only [sumF]
    omega
theorem sumF_le1 {F G : Nat → S} (d : Nat) : ∀ k, (∀ j, j < k → cnt (F j) ≤ cnt (G j) + (if j = d then 1 else 0)) → sumF F k ≤ sumF G k + (if d < k then 1 else 0)
  | 0, _ => Nat.zero_le _
  | k + 1, h => by
    have h1 := sumF_le1 d k (fun j hj => h j (by omega))
    have h2 := h k (by omega)
    simp only [sumF]
    by_cases hd : k = d
    · subst hd
      rw [if_neg (by omega)] at h1
      rw [if_pos rfl] at h2
      rw [if_pos (by omega)]
      omega
    · rw [if_neg hd] at h2
      by_cases hk : d < k
      · rw [if_pos hk] at h1
        rw [if_pos (by omega)]
        omega
      · rw [if_neg hk] at h1
        rw [if_neg (by omega)]
        omega
theorem tot_uni {g : Int} {a b : List S} (ha : OkL g a) (hb : OkL g b) (h0 : 0 ≤ g) (hg : g ≤ 64) : tot (uni a b) ≤ tot a + tot b := by
  rw [tot_eq ha h0 hg, tot_eq hb h0 hg, uni, tot_gath]
  exact sumF_add 8 (fun j _ => cnt_join (ha.wf h0 hg j) (hb.wf h0 hg j))
theorem tot_add1 {g : Int} {a : List S} (ha : OkL g a) (h0 : 0 ≤ g) (hg : g ≤ 64) (dn dc : Int) (hc : 1 ≤ dc) (hcg : dc ≤ (ofn a dn).b + g) : tot (gath (fun j => if (j : Int) = dn then withc (ofn a dn) dc else ofn a j) 8) ≤ tot a + 1 := by
  rw [tot_eq ha h0 hg, tot_gath]
  refine Nat.le_trans (sumF_le1 (G := fun k => ofn a k) dn.toNat 8 (fun j hj => ?_)) (by split <;> omega)
  by_cases h : (j : Int) = dn
  · have e : j = dn.toNat := by omega
    simp only [h, if_true]
    rw [if_pos e]
    exact cnt_with1 (ha.wf h0 hg dn) hc (by omega)
  · simp only [h, if_false]
    omega
/-- bases grow with sets -/
theorem sub_base {x y : S} (hy : Wf y) (h0 : 0 ≤ y.b) (h : Sub x y) : x.b ≤ y.b := by
  by_cases hx : x.b ≤ y.b
  · exact hx
  · have h1 := h (y.b + 1) (by omega) (dot_low (by omega))
    rw [dot_next hy] at h1
    cases h1
theorem dot_near {x : S} (hx : Wf x) {c : Int} (h : dot x c = true) : c ≤ x.b + 64 := by
  by_cases hc : c ≤ x.b + 64
  · exact hc
  · exfalso
    unfold dot at h
    rw [decide_eq_false (by omega), Bool.false_or] at h
    have := Nat.testBit_lt_two_pow (x := x.t) (i := (c - x.b - 1).toNat) (Nat.lt_of_lt_of_le hx.lt (Nat.pow_le_pow_right (by omega) (by omega)))
    rw [this] at h
    cases h
theorem win_refl (a : List S) : Win a a := fun n _ c _ h => h
theorem win_trans {a b c : List S} (h : Win a b) (k : Win b c) : Win a c := fun n hn e he hd => k n hn e he (h n hn e he hd)
theorem win_l (a b : List S) : Win a (uni a b) := fun n hn c hc h => by rw [ofn_uni _ _ _ hn, join_dot, h, Bool.true_or]
theorem win_r (a b : List S) : Win b (uni a b) := fun n hn c hc h => by rw [ofn_uni _ _ _ hn, join_dot, h, Bool.or_true]
end Go.Proofs.YtokaeiahhmaokaaDoor.ds
namespace Go.Proofs.YtokaeiahhmaokaaDoor.ds
open Go.ChangeShapes Go.WideShapes Go.ChangeAt Go.RowKit Go.Sort
set_option linter.unusedVariables false
set_option linter.unusedSimpArgs false
theorem addl_ofn (a : List S) (dn dc : Int) (n : Nat) (hn : n < 8) : ofn (addl a dn dc) n = addF a dn dc n := by
  rw [addl_eq, ofn_gath (fun k => addF_n a dn dc k), if_pos hn]
theorem addl_win (a : List S) (dn dc : Int) (hc : 1 ≤ dc) : Win a (addl a dn dc) := fun n hn c hc' h => by
  rw [addl_ofn a dn dc n hn]
  unfold addF
  split
  · rename_i e
    rw [withc_dot hc c hc', ← e, h, Bool.true_or]
  · exact h
theorem addl_has {dn dc : Int} (a : List S) (hd : IsDot dn dc) : dot (ofn (addl a dn dc) dn) dc = true := by
  obtain ⟨k, rfl⟩ := Int.eq_ofNat_of_zero_le hd.1.1
  rw [addl_ofn a _ dc k (by have := hd.1.2; omega)]
  unfold addF
  rw [if_pos rfl, withc_dot hd.2.1 dc hd.2.1]
  simp
theorem tkT_ok {gap : Int} (hg : 1 ≤ gap ∧ gap ≤ 64) {T : List S} (hT : OkL gap T) (rs : List Wr) : ∀ i, OkL gap (tkT gap T rs i)
  | 0 => hT
  | i + 1 => by
    by_cases h : TkC gap (tkT gap T rs i) (gR rs i)
    · rw [tkT_yes h]
      exact addl_ok h.2.2.2.1 hg.1 hg.2 _ _ h.2.2.1.2 h.2.2.2.2
    · rw [tkT_no h]; exact tkT_ok hg hT rs i
theorem tkT_step {gap : Int} {T : List S} (rs : List Wr) (i : Nat) : Win (tkT gap T rs i) (tkT gap T rs (i + 1)) := by
  by_cases h : TkC gap (tkT gap T rs i) (gR rs i)
  · rw [tkT_yes h]
    exact win_trans (win_l _ _) (addl_win _ _ _ h.2.2.1.2.1)
  · rw [tkT_no h]; exact win_refl _
theorem tkT_win {gap : Int} {T : List S} (rs : List Wr) : ∀ i k, Win (tkT gap T rs i) (tkT gap T rs (i + k))
  | i, 0 => win_refl _
  | i, k + 1 => win_trans (tkT_win rs i k) (tkT_step rs (i + k))
theorem dot_win {a b : List S} (h : Win a b) {dn dc : Int} (hd : IsDot dn dc) (k : dot (ofn a dn) dc = true) : dot (ofn b dn) dc = true := by
  obtain ⟨j, rfl⟩ := Int.eq_ofNat_of_zero_le hd.1.1
  exact h j (by have := hd.1.2; omega) dc hd.2.1 k
theorem tkT_has {gap : Int} {T : List S} {rs : List Wr} {i : Nat} (h : TkC gap (tkT gap T rs i) (gR rs i)) : ∀ N, i < N → dot (ofn (tkT gap T rs N) (gR rs i).n) (gR rs i).c = true := fun N hN => by
  have h1 : dot (ofn (tkT gap T rs (i + 1)) (gR rs i).n) (gR rs i).c = true := by
    rw [tkT_yes h]; exact addl_has _ h.2.2.1
  have := tkT_win (gap := gap) (T := T) rs (i + 1) (N - (i + 1))
  rw [show i + 1 + (N - (i + 1)) = N from by omega] at this
  exact dot_win this h.2.2.1 h1
def totW (rs : List Wr) : Nat := (rs.map fun x => 1 + tot x.xs).sum
theorem tkT_tot {gap : Int} (hg : 1 ≤ gap ∧ gap ≤ 64) {T : List S} (hT : OkL gap T) (rs : List Wr) : ∀ i, i ≤ rs.length → tot (tkT gap T rs i) ≤ tot T + totW (rs.take i)
  | 0, _ => by simp [totW, tkT]
  | i + 1, hi => by
    have ih := tkT_tot hg hT rs i (by omega)
    have e : totW (rs.take (i + 1)) = totW (rs.take i) + (1 + tot (gR rs i).xs) := by
      unfold totW
      rw [List.take_add_one, List.getElem?_eq_getElem (by omega), List.map_append, List.sum_append, gR_eq rs i (by omega)]
      simp
    by_cases h : TkC gap (tkT gap T rs i) (gR rs i)
    · rw [tkT_yes h]
      have h1 := tot_uni h.1.2.1 h.1.2.2 (by omega) hg.2
      have h2 := tot_add1 h.2.2.2.1 (by omega) hg.2 (gR rs i).n (gR rs i).c h.2.2.1.2.1 h.2.2.2.2
      have h3 : tot (addl (uni (tkT gap T rs i) (gR rs i).xs) (gR rs i).n (gR rs i).c) ≤ tot (uni (tkT gap T rs i) (gR rs i).xs) + 1 := h2
      omega
    · rw [tkT_no h]; omega
theorem unis_winA {gap : Int} : ∀ (bs : List (List S)) (a : List S), Win a (bs.foldl (knowG gap) a)
  | [], a => win_refl a
  | x :: bs, a => by
    refine win_trans ?_ (unis_winA bs (knowG gap a x))
    by_cases h : UnC gap a x
    · rw [knowG_of h]; exact win_l _ _
    · rw [knowG_not h]; exact win_refl _
theorem unis_winB {gap : Int} (hg : 1 ≤ gap ∧ gap ≤ 64) : ∀ (bs : List (List S)) (a : List S), OkL gap a → ∀ b ∈ bs, OkL gap b → Win b (bs.foldl (knowG gap) a)
  | [], a, _, b, hb, _ => by simp at hb
  | x :: bs, a, ha, b, hb, hob => by
    rcases List.mem_cons.1 hb with rfl | hb
    · refine win_trans ?_ (unis_winA bs (knowG gap a b))
      rw [knowG_of ⟨hg, ha, hob⟩]; exact win_r _ _
    · exact unis_winB hg bs _ (knowG_ok hg ha) b hb hob
theorem unis_win {gap : Int} (hg : 1 ≤ gap ∧ gap ≤ 64) (bs : List (List S)) (b : List S) (hb : b ∈ bs) (hob : OkL gap b) : Win b (unis gap bs) := unis_winB hg bs [] (OkL.nil _) b hb hob
theorem unis_totA {gap : Int} (hg : 1 ≤ gap ∧ gap ≤ 64) : ∀ (bs : List (List S)) (a : List S), tot (bs.foldl (knowG gap) a) ≤ tot a + (bs.map tot).sum
  | [], a => by simp
  | x :: bs, a => by
    have h1 := unis_totA hg bs (knowG gap a x)
    have h2 : tot (knowG gap a x) ≤ tot a + tot x := by
      by_cases h : UnC gap a x
      · rw [knowG_of h]; exact tot_uni h.2.1 h.2.2 (by omega) hg.2
      · rw [knowG_not h]; omega
    simp only [List.foldl_cons, List.map_cons, List.sum_cons]
    omega
theorem unis_tot {gap : Int} (hg : 1 ≤ gap ∧ gap ≤ 64) (bs : List (List S)) : tot (unis gap bs) ≤ (bs.map tot).sum := by
  have := unis_totA hg bs []
  simpa [tot, unis] using this
/-- what is near the bases fits -/
theorem tk_near {T : List S} (rs : List Wr) (hT : OkL 64 T) (i : Nat) (hx : OkL 64 (gR rs i).xs) (hd : IsDot (gR rs i).n (gR rs i).c) (near : (gR rs i).c ≤ 64 ∨ ∃ b, OkL 64 b ∧ Win b T ∧ dot (ofn b (gR rs i).n) (gR rs i).c = true) : TkC 64 (tkT 64 T rs i) (gR rs i) := by
  have hg : (1 : Int) ≤ 64 ∧ (64 : Int) ≤ 64 := by omega
  have ht := tkT_ok hg hT rs i
  have hu := uni_ok ht hx (by omega) hg.2
  refine ⟨⟨hg, ht, hx⟩, hg, hd, hu, ?_⟩
  rcases near with h | ⟨b, hb, hw, hdot⟩
  · have := (hu.wf (by omega) hg.2 (gR rs i).n).b0
    omega
  · have h1 := dot_near (hb.wf (by omega) hg.2 (gR rs i).n) hdot
    obtain ⟨j, hj⟩ := Int.eq_ofNat_of_zero_le hd.1.1
    have h0 := tkT_win (gap := 64) (T := T) rs 0 i
    rw [Nat.zero_add] at h0
    have hw2 : Win b (uni (tkT 64 T rs i) (gR rs i).xs) := win_trans (win_trans hw h0) (win_l _ _)
    rw [hj] at h1 ⊢
    have h2 := sub_base (hu.wf (by omega) hg.2 j) (hu.wf (by omega) hg.2 j).b0 (hw2 j (by have := hd.1.2; omega))
    omega
theorem tkO_mem {gap : Int} {T : List S} {rs : List Wr} : ∀ N (x : Wr), x ∈ tkO gap T rs N ↔ ∃ i, i < N ∧ x = gR rs i ∧ ¬ TkC gap (tkT gap T rs i) (gR rs i)
  | 0, x => by simp [tkO]
  | N + 1, x => by
    have ih := tkO_mem (gap := gap) (T := T) (rs := rs) N x
    simp only [tkO]
    split
    · rename_i h
      rw [ih]
      constructor
      · rintro ⟨i, hi, h1, h2⟩; exact ⟨i, by omega, h1, h2⟩
      · rintro ⟨i, hi, h1, h2⟩
        by_cases e : i = N
        · subst e; exact absurd h h2
        · exact ⟨i, by omega, h1, h2⟩
    · rename_i h
      rw [List.mem_append, ih]
      constructor
      · rintro (⟨i, hi, h1, h2⟩ | h1)
        · exact ⟨i, by omega, h1, h2⟩
        · simp at h1; exact ⟨N, by omega, h1, h⟩
      · rintro ⟨i, hi, h1, h2⟩
        by_cases e : i = N
        · subst e; exact .inr (by simp [h1])
        · exact .inl ⟨i, by omega, h1, h2⟩
end Go.Proofs.YtokaeiahhmaokaaDoor.ds
