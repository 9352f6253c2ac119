import Derived.Test.YthmloakkefiicaaSteps2
namespace Go.Proofs.Ythmloakkefiicaa.dk
open Go.ChangeShapes Go.WideShapes Go.ChangeAt Go.RowKit
set_option linter.unusedVariables false
set_option linter.unusedSimpArgs false
theorem hd4 {b1 b2 b3 b4 : Option Nat} {t1 t2 t3 t4 : Nat} (h12 : ∀ k, b1 = some k → b2 = some k → False) (h13 : ∀ k, b1 = some k → b3 = some k → False) (h14 : ∀ k, b1 = some k → b4 = some k → False) (h23 : ∀ k, b2 = some k → b3 = some k → False) (h24 : ∀ k, b2 = some k → b4 = some k → False) (h34 : ∀ k, b3 = some k → b4 = some k → False) :
    ∀ q ∈ [(b1, t1), (b2, t2), (b3, t3), (b4, t4)], ∀ q' ∈ [(b1, t1), (b2, t2), (b3, t3), (b4, t4)], ∀ k, q.1 = some k → q'.1 = some k → q.2 = q'.2 := by
  intro q hq q' hq' k h1 h2
  simp only [List.mem_cons, List.not_mem_nil, or_false] at hq hq'
  rcases hq with rfl | rfl | rfl | rfl <;> rcases hq' with rfl | rfl | rfl | rfl <;> first | rfl | exact (h12 k h1 h2).elim | exact (h12 k h2 h1).elim | exact (h13 k h1 h2).elim | exact (h13 k h2 h1).elim | exact (h14 k h1 h2).elim | exact (h14 k h2 h1).elim | exact (h23 k h1 h2).elim | exact (h23 k h2 h1).elim | exact (h24 k h1 h2).elim | exact (h24 k h2 h1).elim | exact (h34 k h1 h2).elim | exact (h34 k h2 h1).elim
/-! numbers that are left alone -/
theorem Pr.leftI {w w' : World} {P : Nat} {x : Pd} {who : Nat → Option Nat} (h : Pr w P x who) {p : Option Addr} {l c : Nat} {bs : List Int} {GA : Option Nat} (hA : AnsI w p l c bs GA) (hfr : ∀ g, GA = some g → who g = none) (hl : l ≤ 4194304) (hn : x.nu.length < 100) {r : Ending}
    (lp : LeaveIPost w P x.row p l c bs (x.nu.map AI.val) (x.wo.map AI.val) (x.G 9) (x.G 10) r w') (K : Nat) (hK : Bk x K) : r = .returned (.bool true) ∧ St w w' P who K GA := by
  obtain ⟨hr, cur', nv', wv', GN', GW', p', c', G', prow, c9, c10, crest, s9, s10, hB', hnew, a, o9, o10, hNW⟩ := lp
  refine ⟨hr, ?_⟩
  have hGl : ∀ g, GA = some g → g < w.heap.size := fun g hg => hA.lt' hg
  have t9 := (h.sl 9 (by decide)).tg
  have t10 := (h.sl 10 (by decide)).tg
  have hAX : ∀ g, GA = some g → g ∉ (P :: ((x.G 9).toList ++ (x.G 10).toList)) := by
    intro g hg hm
    have hw := hfr g hg
    simp only [List.mem_cons, List.mem_append, Option.mem_toList, Option.mem_def] at hm
    rcases hm with rfl | hm | hm
    · rw [h.wP] at hw; cases hw
    · rw [t9 g hm] at hw; cases hw
    · rw [t10 g hm] at hw; cases hw
  have hA' : AnsI w' p l c bs GA := hA.kept a hAX
  obtain ⟨L, hL⟩ : ∃ L : List (Option Nat × Nat), L = [(GN', 19), (GW', 20), (GA, 41 + 2 * x.nu.length), (G', 32)] := ⟨_, rfl⟩
  have hq : ∀ q ∈ L, ∀ k, q.1 = some k → who k = some q.2 ∨ who k = none ∨ w.heap.size ≤ k := by
    subst hL
    intro q hm k hk
    simp only [List.mem_cons, List.not_mem_nil, or_false] at hm
    rcases hm with rfl | rfl | rfl | rfl
    · exact gr_of t9 o9 k hk
    · exact gr_of t10 o10 k hk
    · exact .inr (.inl (hfr k hk))
    · exact .inr (.inr (hnew k hk))
  have hd := hd4 (t1 := 19) (t2 := 20) (t3 := 41 + 2 * x.nu.length) (t4 := 32) (fun k h1 h2 => hNW k h1 h2) (fun k h1 h2 => ansI_ne s9 hA' (by decide) h1 h2) (fun k h1 h2 => ansI_ne s9 hB' (by decide) h1 h2) (fun k h1 h2 => ansI_ne s10 hA' (by decide) h1 h2) (fun k h1 h2 => ansI_ne s10 hB' (by decide) h1 h2) (fun k h1 h2 => by
    have := hGl k h1; have := hnew k h2; omega)
  rw [← hL] at hd
  have up := whoL_up h.own L hq
  have tag := whoL_tag (who := who) L hd
  have inv : ∀ k s, whoL who L k = some s → who k ≠ none ∨ GA = some k ∨ w.heap.size ≤ k := by
    intro k s hk
    rcases whoL_inv L k s hk with h1 | ⟨q, hq1, hq2⟩
    · exact .inl (by rw [h1]; simp)
    · subst hL
      simp only [List.mem_cons, List.not_mem_nil, or_false] at hq1
      rcases hq1 with rfl | rfl | rfl | rfl
      · rcases new_of t9 o9 hq2 with h1 | h1
        · exact .inl h1
        · exact .inr (.inr h1)
      · rcases new_of t10 o10 hq2 with h1 | h1
        · exact .inl h1
        · exact .inr (.inr h1)
      · exact .inr (.inl hq2)
      · exact .inr (.inr (hnew k hq2))
  have m : Mv w w' who (whoL who L) [0, 19, 20] := Mv.of a h.own (fun k hm t ht => by
    simp only [List.mem_cons, List.mem_append, Option.mem_toList, Option.mem_def] at hm
    rcases hm with rfl | hm | hm
    · rw [h.wP] at ht; cases ht; simp
    · rw [t9 k hm] at ht; cases ht; simp
    · rw [t10 k hm] at ht; cases ht; simp) up
  obtain ⟨y, hy⟩ : ∃ y : Pd, y = { x with nu := x.nu ++ [⟨p, l, c, bs, GA⟩], wo := x.wo ++ [⟨p', l, c', bs, G'⟩], v := updV (updV x.v 9 nv') 10 wv', G := updG (updG x.G 9 GN') 10 GW' } := ⟨_, rfl⟩
  have hrow : cur' = y.row := by
    subst hy
    refine arr14 prow.size rfl (fun i hi => ?_)
    rcases lt14 hi with rfl | rfl | rfl | rfl | rfl | rfl | rfl | rfl | rfl | rfl | rfl | rfl | rfl | rfl
    · rw [crest 0 (by decide) (by decide)]; rfl
    · rw [crest 1 (by decide) (by decide)]; rfl
    · rw [crest 2 (by decide) (by decide)]; rfl
    · rw [crest 3 (by decide) (by decide)]; rfl
    · rw [crest 4 (by decide) (by decide)]; rfl
    · rw [crest 5 (by decide) (by decide)]; rfl
    · rw [crest 6 (by decide) (by decide)]; rfl
    · rw [crest 7 (by decide) (by decide)]; rfl
    · rw [crest 8 (by decide) (by decide)]; rfl
    · rw [c9]; rfl
    · rw [c10]; rfl
    · rw [crest 11 (by decide) (by decide)]; rfl
    · rw [crest 12 (by decide) (by decide)]; rfl
    · rw [crest 13 (by decide) (by decide)]; rfl
  have hwo := h.bd.wo
  refine ⟨⟨y, whoL who L, ⟨fun k t hk => ?_, up _ _ h.wP, ?_, ?_, ?_, ?_, ?_, ?_, ?_, ?_, ?_, ?_, ?_⟩, ?_, inv⟩, ?_⟩
  · rcases whoL_inv L k t hk with h1 | ⟨q, hq1, hq2⟩
    · exact Nat.lt_of_lt_of_le (h.own k t h1) a.size
    · subst hL
      simp only [List.mem_cons, List.not_mem_nil, or_false] at hq1
      rcases hq1 with rfl | rfl | rfl | rfl
      · exact s9.lt hq2
      · exact s10.lt hq2
      · exact hA'.lt' hq2
      · exact hB'.lt' hq2
  · rw [prow.row, hrow]
  · exact h.dp.mv m (by simp) (by subst hy; rfl) (by subst hy; rfl) (by subst hy; rfl)
  · exact h.rp.mv m (by simp) (by subst hy; rfl) (by subst hy; rfl)
  · refine fs_cases ?_ ?_ ?_ ?_ ?_ ?_ ?_ ?_
    · exact (h.sl 2 (by decide)).mv m (by simp) (by subst hy; rfl) (by subst hy; rfl) (by subst hy; rfl)
    · exact (h.sl 3 (by decide)).mv m (by simp) (by subst hy; rfl) (by subst hy; rfl) (by subst hy; rfl)
    · exact (h.sl 4 (by decide)).mv m (by simp) (by subst hy; rfl) (by subst hy; rfl) (by subst hy; rfl)
    · exact (h.sl 5 (by decide)).mv m (by simp) (by subst hy; rfl) (by subst hy; rfl) (by subst hy; rfl)
    · exact (h.sl 7 (by decide)).mv m (by simp) (by subst hy; rfl) (by subst hy; rfl) (by subst hy; rfl)
    · exact (h.sl 8 (by decide)).mv m (by simp) (by subst hy; rfl) (by subst hy; rfl) (by subst hy; rfl)
    · subst hy
      refine ⟨?_, fun g hg => tag (GN', 19) (by simp [hL]) g hg⟩
      show SlAt w' 44 nv' ((x.nu ++ [_]).map AI.val) GN'
      rw [List.map_append]; exact s9
    · subst hy
      refine ⟨?_, fun g hg => tag (GW', 20) (by simp [hL]) g hg⟩
      show SlAt w' 44 wv' ((x.wo ++ [_]).map AI.val) GW'
      rw [List.map_append]; exact s10
  · exact h.lp.mv m (by simp) (by subst hy; rfl) (by subst hy; rfl) (by subst hy; rfl) (by subst hy; rfl) (by subst hy; rfl)
  · subst hy; exact fun a ha => (h.kab a ha).mv m (by simp)
  · subst hy; exact fun a ha => (h.kai a ha).mv m (by simp)
  · subst hy; exact fun i a ha => (h.klf i a ha).mv m (by simp; omega)
  · subst hy
    intro i b hb
    by_cases hi : i < x.nu.length
    · simp only at hb
      rw [List.getElem?_append_left hi] at hb
      exact (h.knu i b hb).mv m (by simp; omega)
    · have hi2 : i = x.nu.length := by
        have := (List.getElem?_eq_some_iff.1 hb).1
        simp at this; omega
      subst hi2
      simp at hb; subst hb
      exact ⟨hA', fun g hg => tag (GA, 41 + 2 * x.nu.length) (by simp [hL]) g hg, hl⟩
  · subst hy
    intro b hb
    rcases List.mem_append.1 hb with hb | hb
    · exact (h.kwo b hb).mv m (by simp)
    · simp at hb; subst hb
      exact ⟨hB', fun g hg => tag (G', 32) (by simp [hL]) g hg, hl⟩
  · subst hy
    refine { h.bd with nu := by simp; omega, wo := by simp [hwo], same := ?_ }
    intro t b1 b2 h1 h2
    by_cases hi : t < x.nu.length
    · simp only at h1 h2
      rw [List.getElem?_append_left hi] at h1
      rw [List.getElem?_append_left (by omega)] at h2
      exact h.bd.same t b1 b2 h1 h2
    · have hi2 : t = x.nu.length := by
        have := (List.getElem?_eq_some_iff.1 h1).1
        simp at this; omega
      subst hi2
      simp at h1; subst h1
      rw [← hwo] at h2
      simp at h2; subst h2
      exact ⟨rfl, rfl⟩
  · subst hy; exact ⟨hK.mark, hK.n, hK.wr⟩
  · refine Fr.of a (fun k hm _ hk => ?_)
    simp only [List.mem_cons, List.mem_append, Option.mem_toList, Option.mem_def] at hm
    rcases hm with rfl | hm | hm
    · rw [h.wP] at hk; cases hk.1
    · rw [t9 k hm] at hk; cases hk.1
    · rw [t10 k hm] at hk; cases hk.1
/-- a cell of the pair's own row -/
theorem Pr.setP {w : World} {P : Nat} {x y : Pd} {who : Nat → Option Nat} (h : Pr w P x who) (i : Nat) (v : Value) (hrow : x.row.setIfInBounds i v = y.row) (e1 : y.D = x.D) (e2 : y.S = x.S) (e3 : y.R = x.R) (e4 : y.d = x.d) (e5 : y.r = x.r) (e6 : y.v = x.v) (e7 : y.G = x.G) (e8 : y.ab = x.ab) (e9 : y.ai = x.ai) (e10 : y.ms = x.ms) (e11 : y.lf = x.lf) (e12 : y.nu = x.nu) (e13 : y.wo = x.wo) (e14 : y.lp = x.lp) (e15 : y.ll = x.ll) (e16 : y.lc = x.lc) (e17 : y.lb = x.lb) (e18 : y.lg = x.lg) (e19 : y.size = x.size) :
    Pr (w.setCell ⟨P, i, none⟩ v) P y who ∧ Apart [P] w (w.setCell ⟨P, i, none⟩ v) := by
  have a : Apart [P] w (w.setCell ⟨P, i, none⟩ v) := (Apart.refl [P] w).setCell (by simp) _
  have m : Mv w (w.setCell ⟨P, i, none⟩ v) who who [0] := Mv.of a h.own (fun k hm t ht => by
    simp at hm; subst hm; rw [h.wP] at ht; cases ht; simp) (fun k t hk => hk)
  refine ⟨⟨fun k t hk => Nat.lt_of_lt_of_le (h.own k t hk) a.size, h.wP, ?_, h.dp.mv m (by simp) e1 e2 e4, h.rp.mv m (by simp) e3 e5, ?_, h.lp.mv m (by simp) e14 e15 e16 e17 e18, ?_, ?_, ?_, ?_, ?_, ?_⟩, a⟩
  · rw [heap_setCell_same _ _ _ _ _ _ h.row, hrow]
  · intro f hf
    have hff : 10 + f ∉ [0] := by simp
    exact (h.sl f hf).mv m hff (by rw [e6]) (by simp only [Pd.c, e8, e9, e10, e11, e12, e13]) (by rw [e7])
  · rw [e8]; exact fun a ha => (h.kab a ha).mv m (by simp)
  · rw [e9]; exact fun a ha => (h.kai a ha).mv m (by simp)
  · rw [e11]; exact fun i a ha => (h.klf i a ha).mv m (by simp)
  · rw [e12]; exact fun i a ha => (h.knu i a ha).mv m (by simp)
  · rw [e13]; exact fun a ha => (h.kwo a ha).mv m (by simp)
  · obtain ⟨b1, b2, b3, b4, b5, b6, b7, b8, b9, b10, b11⟩ := h.bd
    exact ⟨by rw [e8]; exact b1, by rw [e9]; exact b2, by rw [e10, e9]; exact b3, by rw [e9, e10]; exact b4, by rw [e11]; exact b5, by rw [e12]; exact b6, by rw [e13, e12]; exact b7, by rw [e12, e13]; exact b8, by rw [e19]; exact b9, by rw [e4]; exact b10, by rw [e4, e5]; exact b11⟩
theorem Pr.setN {w : World} {P : Nat} {x : Pd} {who : Nat → Option Nat} (h : Pr w P x who) (n : Nat) : Pr (w.setCell ⟨P, 13, none⟩ (.int .i64 (n : Nat))) P { x with n := n } who ∧ Apart [P] w (w.setCell ⟨P, 13, none⟩ (.int .i64 (n : Nat))) :=
  h.setP 13 _ rfl rfl rfl rfl rfl rfl rfl rfl rfl rfl rfl rfl rfl rfl rfl rfl rfl rfl rfl rfl
/-- the memory that is lent: its bytes changed, or another row, and laid into the pair -/
theorem Pr.lent {w w' : World} {P : Nat} {x : Pd} {who : Nat → Option Nat} (h : Pr w P x who) {X : List Nat} (a : Apart X w w') (hX : ∀ k ∈ X, x.lg = some k) (g n c : Nat) (bs : List Int) (hL : Lent w' g n c bs) (hg : x.lg = some g ∨ w.heap.size ≤ g) :
    Pr (w'.setCell ⟨P, 12, none⟩ (.slice (some ⟨g, 0, none⟩) n c)) P { x with lp := some ⟨g, 0, none⟩, ll := n, lc := c, lb := bs, lg := some g } (whoP who (some g) 3) := by
  have tl := h.lp.tg
  have hPX : P ∉ X := fun hm => by have := tl P (hX P hm); rw [h.wP] at this; cases this
  have up : ∀ k t, who k = some t → whoP who (some g) 3 k = some t := fun k t hk => whoP_old (fun j hj => by
    cases hj
    rcases hg with hg | hg
    · exact .inr (tl g hg)
    · left
      cases hw : who g with
      | none => rfl
      | some s => have := h.own g s hw; omega) hk
  have hgP : g ≠ P := by
    intro e; subst e
    rcases hg with hg | hg
    · have := tl g hg; rw [h.wP] at this; cases this
    · have := h.lt; omega
  have a2 : Apart [P] w' (w'.setCell ⟨P, 12, none⟩ (.slice (some ⟨g, 0, none⟩) n c)) := (Apart.refl [P] w').setCell (by simp) _
  have a3 : Apart (P :: X) w (w'.setCell ⟨P, 12, none⟩ (.slice (some ⟨g, 0, none⟩) n c)) := (a.mono (by simp +contextual)).trans (a2.mono (by simp))
  have m : Mv w (w'.setCell ⟨P, 12, none⟩ (.slice (some ⟨g, 0, none⟩) n c)) who (whoP who (some g) 3) [0, 3] := Mv.of a3 h.own (fun k hm t ht => by
    rcases List.mem_cons.1 hm with rfl | hm
    · rw [h.wP] at ht; cases ht; simp
    · rw [tl k (hX k hm)] at ht; cases ht; simp) up
  refine ⟨fun k t hk => ?_, up _ _ h.wP, ?_, h.dp.mv m (by simp) rfl rfl rfl, h.rp.mv m (by simp) rfl rfl, ?_, ?_, fun a ha => (h.kab a ha).mv m (by simp), fun a ha => (h.kai a ha).mv m (by simp), fun i a ha => (h.klf i a ha).mv m (by simp; omega), fun i a ha => (h.knu i a ha).mv m (by simp; omega), fun a ha => (h.kwo a ha).mv m (by simp), { h.bd with }⟩
  · rcases whoP_inv hk with ⟨h1, _⟩ | h1
    · cases h1
      obtain ⟨cur, hr, _⟩ := hL.row
      exact Nat.lt_of_lt_of_le (lt_of_heap hr) a2.size
    · exact Nat.lt_of_lt_of_le (h.own k t h1) a3.size
  · rw [heap_setCell_same _ _ _ _ _ _ ((a.block P h.lt hPX).trans h.row)]; rfl
  · intro f hf
    refine (h.sl f hf).mv m ?_ rfl rfl rfl
    simp; omega
  · exact ⟨⟨rfl, hL.kept a2 (by simpa using hgP)⟩, fun k hk => by cases hk; exact whoP_new rfl⟩
/-- the memory that was lent is written over -/
theorem Pr.lentB {w w' : World} {P : Nat} {x : Pd} {who : Nat → Option Nat} (h : Pr w P x who) (g n c : Nat) (hlg : x.lg = some g) (hlp : x.lp = some ⟨g, 0, none⟩) (hn : x.ll = n) (hc : x.lc = c) (a : Apart [g] w w') (bs : List Int) (hL : Lent w' g n c bs) :
    Pr w' P { x with lb := bs } who := by
  have tl := h.lp.tg g hlg
  have m : Mv w w' who who [3] := Mv.of a h.own (fun k hm t ht => by
    simp at hm; subst hm; rw [tl] at ht; cases ht; simp) (fun k t hk => hk)
  refine ⟨fun k t hk => Nat.lt_of_lt_of_le (h.own k t hk) a.size, h.wP, (m.blk _ _ h.wP (by simp)).trans h.row, h.dp.mv m (by simp) rfl rfl rfl, h.rp.mv m (by simp) rfl rfl, ?_, ?_, fun a ha => (h.kab a ha).mv m (by simp), fun a ha => (h.kai a ha).mv m (by simp), fun i a ha => (h.klf i a ha).mv m (by simp; omega), fun i a ha => (h.knu i a ha).mv m (by simp; omega), fun a ha => (h.kwo a ha).mv m (by simp), { h.bd with }⟩
  · intro f hf
    refine (h.sl f hf).mv m ?_ rfl rfl rfl
    simp; omega
  · refine ⟨?_, h.lp.tg⟩
    show Ans w' x.lp x.ll x.lc bs x.lg
    rw [hlp, hlg, hn, hc]; exact ⟨rfl, hL⟩
open Classical in
/-- the disk and the document's disk went on -/
theorem Pr.both {w w1 w2 : World} {P : Nat} {x : Pd} {who : Nat → Option Nat} (h : Pr w P x who) {X Y : List Nat} {d' : Dk} {r' : Rf} (hd : DiskAt w1 x.D x.S d') (a1 : Apart X w w1) (hX : ∀ k ∈ X, k = x.D ∨ k = x.S) (hr : RefAt w2 x.R r') (a2 : Apart Y w1 w2) (hY : ∀ k ∈ Y, RefBlk x.R x.r k) (hnew : ∀ k, RefBlk x.R r' k → RefBlk x.R x.r k ∨ w1.heap.size ≤ k) (hrel : Rel d' r') (hn : d'.n = x.d.n) :
    ∃ who', Pr w2 P { x with d := d', r := r' } who' ∧ (∀ k s, who' k = some s → who k ≠ none ∨ w.heap.size ≤ k) ∧ Fr (fun k => who k = none) w w2 := by
  have wD := h.dp.wD
  have wS := h.dp.wS
  have wR := h.rp.wR
  have a12 : Apart (X ++ Y) w w2 := (a1.mono (by simp +contextual)).trans (a2.mono (by simp +contextual))
  obtain ⟨who', hwho⟩ : ∃ who' : Nat → Option Nat, who' = fun k => if RefBlk x.R r' k then some 2 else who k := ⟨_, rfl⟩
  have up : ∀ k t, who k = some t → who' k = some t := by
    intro k t hk
    subst hwho
    simp only
    split
    · rename_i e
      rcases hnew k e with h1 | h1
      · rw [wR k h1] at hk; exact hk
      · have := h.own k t hk; have := a1.size; omega
    · exact hk
  have hXY : ∀ k ∈ X ++ Y, who k = some 1 ∨ who k = some 2 := by
    intro k hm
    rcases List.mem_append.1 hm with hm | hm
    · rcases hX k hm with rfl | rfl
      · exact .inl wD
      · exact .inl wS
    · exact .inr (wR k (hY k hm))
  have m : Mv w w2 who who' [1, 2] := Mv.of a12 h.own (fun k hm t ht => by
    rcases hXY k hm with h1 | h1 <;> rw [h1] at ht <;> cases ht <;> simp) up
  have hYD : ∀ k, who k = some 1 → k ∉ Y := fun k hk hm => by rw [wR k (hY k hm)] at hk; cases hk
  refine ⟨who', ⟨fun k t hk => ?_, up _ _ h.wP, (m.blk _ _ h.wP (by simp)).trans h.row, ?_, ⟨hr, fun k hk => by subst hwho; simp only [if_pos hk]⟩, ?_, h.lp.mv m (by simp) rfl rfl rfl rfl rfl, fun a ha => (h.kab a ha).mv m (by simp), fun a ha => (h.kai a ha).mv m (by simp), fun i a ha => (h.klf i a ha).mv m (by simp; omega), fun i a ha => (h.knu i a ha).mv m (by simp; omega), fun a ha => (h.kwo a ha).mv m (by simp), { h.bd with dn := by show 1 ≤ d'.n; rw [hn]; exact h.bd.dn, rel := hrel }⟩, ?_, ?_⟩
  · subst hwho
    simp only at hk
    split at hk
    · rename_i e; exact hr.lt e
    · exact Nat.lt_of_lt_of_le (h.own k t hk) a12.size
  · exact ⟨hd.kept a2 (hYD _ wD) (hYD _ wS), up _ _ wD, up _ _ wS⟩
  · intro f hf
    refine (h.sl f hf).mv m ?_ rfl rfl rfl
    simp; omega
  · intro k s hk
    subst hwho
    simp only at hk
    split at hk
    · rename_i e
      rcases hnew k e with h1 | h1
      · exact .inl (by rw [wR k h1]; simp)
      · exact .inr (Nat.le_trans a1.size h1)
    · exact .inl (by rw [hk]; simp)
  · refine Fr.of a12 (fun k hm _ hk => ?_)
    rcases hXY k hm with h1 | h1 <;> rw [h1] at hk <;> cases hk
end Go.Proofs.Ythmloakkefiicaa.dk
