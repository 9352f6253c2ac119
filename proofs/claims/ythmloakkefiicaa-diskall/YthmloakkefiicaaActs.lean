import Derived.Test.YthmloakkefiicaaActs0
import Derived.Test.YthmloakkefiicaaFits
import Derived.Deep.RegionHeld
namespace Go.Proofs.Ythmloakkefiicaa.dk
open Go.ChangeShapes Go.WideShapes Go.ChangeAt Go.RowKit
set_option linter.unusedVariables false
set_option linter.unusedSimpArgs false
theorem hid {p : Prop} (h : p) : Hid p := h
/-- a step's bytes, as they read -/
structure OpB (w : World) (who : Nat → Option Nat) (p : Option Addr) (l c : Nat) (bs : List Int) : Prop where
  src : Src w p l bs
  nil : p = none → l = 0 ∧ c = 0
  le : l ≤ 4194304
  fr : 0 < l → ∀ g o, p = some ⟨g, o, none⟩ → who g = none
theorem OpB.kept {w w' : World} {who : Nat → Option Nat} {p : Option Addr} {l c : Nat} {bs : List Int} (h : OpB w who p l c bs) (f : Fr (fun k => who k = none) w w') : OpB w' who p l c bs := ⟨h.src.fr f h.fr, h.nil, h.le, h.fr⟩
theorem again_pr {w : World} {P : Nat} {x : Pd} {who : Nat → Option Nat} (h : Pr w P x who) {p : Option Addr} {l c : Nat} {bs : List Int} (hb : OpB w who p l c bs) :
    Calls Try.prog 46 #[.slice x.lp x.ll x.lc, .slice p l c] w fun r w' => ∃ g c', r = .returned (.slice (some ⟨g, 0, none⟩) (l + 40) c') ∧ Lent w' g (l + 40) c' (lentL bs) ∧ (∃ X, Apart X w w' ∧ ∀ k ∈ X, x.lg = some k) ∧ (x.lg = some g ∨ w.heap.size ≤ g) := by
  by_cases hll : x.ll = l + 40
  · have hA := h.lp.at'
    cases hg : x.lg with
    | none => rw [hg] at hA; have := hA.2.1; omega
    | some g =>
      rw [hg] at hA
      rw [hll] at hA ⊢
      rw [hA.1]
      refine (again_old w g p x.lc l c bs x.lb hb.src hb.le hb.nil hA.2).mono ?_
      rintro r w' ⟨rfl, h1, h2⟩
      exact ⟨g, x.lc, rfl, h1, ⟨[g], h2, by simp⟩, .inl rfl⟩
  · refine (again_new w x.lp p x.ll x.lc l c bs hb.src hb.le hb.nil hll).mono ?_
    rintro r w' ⟨g, c', rfl, h1, h2, h3⟩
    exact ⟨g, c', rfl, h1, ⟨[], h3, by simp⟩, .inr h2⟩
/-- what is left behind again, and the pair's cell -/
structure Lnt (w w2 : World) (P : Nat) (x y : Pd) (who who2 : Nat → Option Nat) (g l c' : Nat) (bs : List Int) : Prop where
  pr : Pr w2 P y who2
  bk : ∀ K, Bk x K → Bk y K
  eD : y.D = x.D
  eR : y.R = x.R
  ll : y.ll = l + 40
  lc : y.lc = c'
  lp : y.lp = some ⟨g, 0, none⟩
  lg : y.lg = some g
  lb : y.lb = lentL bs
  gD : g ≠ y.D
  fr : Fr (fun k => who k = none) w w2
  nw : ∀ k s, who2 k = some s → who k ≠ none ∨ w.heap.size ≤ k
theorem Pr.lnt {w w1 : World} {P : Nat} {x : Pd} {who : Nat → Option Nat} (h : Pr w P x who) {g l c' : Nat} {bs : List Int} (hL : Lent w1 g (l + 40) c' (lentL bs)) (hX : ∃ X, Apart X w w1 ∧ ∀ k ∈ X, x.lg = some k) (hg : x.lg = some g ∨ w.heap.size ≤ g) :
    ∃ y who2, Lnt w (w1.setCell ⟨P, 12, none⟩ (.slice (some ⟨g, 0, none⟩) (l + 40) c')) P x y who who2 g l c' bs := by
  obtain ⟨X, a, hX⟩ := hX
  have h2 := h.lent a hX g (l + 40) c' (lentL bs) hL hg
  have hw2g : whoP who (some g) 3 g = some 3 := whoP_new rfl
  refine ⟨_, _, ⟨h2, fun K hK => ⟨hK.mark, hK.n, hK.wr⟩, rfl, rfl, rfl, rfl, rfl, rfl, rfl, ?_, ?_, ?_⟩⟩
  · intro e
    have := h2.dp.wD
    rw [← e, hw2g] at this; simp at this
  · have a2 : Apart (P :: X) w (w1.setCell ⟨P, 12, none⟩ (.slice (some ⟨g, 0, none⟩) (l + 40) c')) := (a.mono (by simp +contextual)).setCell (by simp) _
    refine Fr.of a2 (fun k hm _ hk => ?_)
    rcases List.mem_cons.1 hm with rfl | hm
    · rw [h.wP] at hk; cases hk
    · rw [h.lp.tg k (hX k hm)] at hk; cases hk
  · intro k s hk
    rcases whoP_inv hk with ⟨h1, _⟩ | h1
    · cases h1
      rcases hg with hg | hg
      · exact .inl (by rw [h.lp.tg g hg]; simp)
      · exact .inr hg
    · exact .inl (by rw [h1]; simp)
theorem Lnt.done {w w2 w4 w5 : World} {P : Nat} {x y : Pd} {who who2 who4 : Nat → Option Nat} {g l c' : Nat} {bs : List Int} (h : Lnt w w2 P x y who who2 g l c' bs) {K : Nat} (hK : Bk x K) {d' : Dk} {r' : Rf} (p4 : Pr w4 P { y with d := d', r := r' } who4) (n4 : ∀ k s, who4 k = some s → who2 k ≠ none ∨ w2.heap.size ≤ k) (f4 : Fr (fun k => who2 k = none) w2 w4) (hw : d'.writes ≤ K + 1) (a5 : Apart [g] w4 w5) (bs' : List Int) (hL : Lent w5 g (l + 40) c' bs') : St w w5 P who (K + 2) none := by
  have p5 := p4.lentB g (l + 40) c' h.lg h.lp h.ll h.lc a5 bs' hL
  have hb := h.bk K hK
  have hwg : who2 g ≠ none := by rw [h.pr.lp.tg g h.lg]; simp
  refine ⟨⟨_, who4, p5, ⟨Nat.le_trans hb.mark (by omega), Nat.le_trans hb.n (by omega), Nat.le_trans hw (by omega)⟩, fun k s hk => ?_⟩, ?_⟩
  · rcases n4 k s hk with h1 | h1
    · cases h2 : who2 k with
      | none => exact absurd h2 h1
      | some t =>
        rcases h.nw k t h2 with h3 | h3
        · exact .inl h3
        · exact .inr (.inr h3)
    · exact .inr (.inr (Nat.le_trans h.fr.size h1))
  · have key : ∀ i, i < w.heap.size → who i = none → who2 i = none := by
      intro i hi hw
      cases h2 : who2 i with
      | none => rfl
      | some t =>
        rcases h.nw i t h2 with h3 | h3
        · exact absurd hw h3
        · omega
    have f5 : Fr (fun k => who2 k = none) w4 w5 := Fr.of a5 (fun k hm _ hk => by simp at hm; subst hm; exact hwg hk)
    refine (h.fr.mono (fun i _ hi => hi.1)).trans (f4.trans f5 (fun i _ hi => hi)) (fun i hi hh => key i hi hh.1)
theorem OpB.lnt {w w2 : World} {P : Nat} {x y : Pd} {who who2 : Nat → Option Nat} {g l' c' : Nat} {bs' : List Int} (h : Lnt w w2 P x y who who2 g l' c' bs') {p : Option Addr} {l c : Nat} {bs : List Int} (hb : OpB w who p l c bs) : OpB w2 who2 p l c bs := by
  refine ⟨hb.src.fr h.fr hb.fr, hb.nil, hb.le, fun h0 k o hp => ?_⟩
  cases h2 : who2 k with
  | none => rfl
  | some t =>
    rcases h.nw k t h2 with h3 | h3
    · exact absurd (hb.fr h0 k o hp) h3
    · obtain ⟨k2, o2, hp2, hk2, _⟩ := hb.src.cells h0
      rw [hp] at hp2
      have : k = k2 := by injection hp2 with h4; injection h4
      omega
theorem box5 (w : World) (a b c d e : Value) : ∀ W, Apart [] (w.alloc (.cells #[a, b, c, d, e] 58)) W → W.cell? ⟨w.heap.size, 0, none⟩ = some a ∧ W.cell? ⟨w.heap.size, 1, none⟩ = some b ∧ W.cell? ⟨w.heap.size, 2, none⟩ = some c ∧ W.cell? ⟨w.heap.size, 3, none⟩ = some d ∧ W.cell? ⟨w.heap.size, 4, none⟩ = some e := by
  intro W h
  have hlt : w.heap.size < (w.alloc (.cells #[a, b, c, d, e] 58)).heap.size := by simp
  refine ⟨?_, ?_, ?_, ?_, ?_⟩
  · exact (h.cell (p := ⟨w.heap.size, 0, none⟩) hlt (by simp)).trans (by simp)
  · exact (h.cell (p := ⟨w.heap.size, 1, none⟩) hlt (by simp)).trans (by simp)
  · exact (h.cell (p := ⟨w.heap.size, 2, none⟩) hlt (by simp)).trans (by simp)
  · exact (h.cell (p := ⟨w.heap.size, 3, none⟩) hlt (by simp)).trans (by simp)
  · exact (h.cell (p := ⟨w.heap.size, 4, none⟩) hlt (by simp)).trans (by simp)
theorem Pr.notDS {w : World} {P : Nat} {x : Pd} {who : Nat → Option Nat} (h : Pr w P x who) : P ∉ [x.D, x.S] := by
  intro hm
  simp only [List.mem_cons, List.not_mem_nil, or_false] at hm
  rcases hm with e | e
  · have := h.dp.wD; rw [← e, h.wP] at this; cases this
  · have := h.dp.wS; rw [← e, h.wP] at this; cases this
set_option maxHeartbeats 4000000 in
theorem acts_2 {w : World} {P : Nat} {x : Pd} {who : Nat → Option Nat} (h : Pr w P x who) {K : Nat} (hK : Bk x K) (hK9 : K ≤ 900) (wh N M : Int) (hN : N ≤ 9223372036854775807) (v : Value) :
    Calls Try.prog 42 #[.pointer (some ⟨P, 0, none⟩), .agg #[.int .i64 2, .int .i64 wh, .int .i64 N, .int .i64 M, v]] w fun r w' => r = .returned (.bool true) ∧ St w w' P who (K + 2) none := by
  have HB : Hid (∀ W, Apart [] (w.alloc (.cells #[.int .i64 2, .int .i64 wh, .int .i64 N, .int .i64 M, v] 58)) W → W.cell? ⟨w.heap.size, 0, none⟩ = some (.int .i64 2) ∧ W.cell? ⟨w.heap.size, 1, none⟩ = some (.int .i64 wh) ∧ W.cell? ⟨w.heap.size, 2, none⟩ = some (.int .i64 N) ∧ W.cell? ⟨w.heap.size, 3, none⟩ = some (.int .i64 M) ∧ W.cell? ⟨w.heap.size, 4, none⟩ = some v) := box5 w _ _ _ _ _
  have aB : Apart [] w (w.alloc (.cells #[.int .i64 2, .int .i64 wh, .int .i64 N, .int .i64 M, v] 58)) := (Apart.refl _ _).alloc _
  have h1 := h.kept0 aB
  have HP : Hid (Pr (w.alloc (.cells #[.int .i64 2, .int .i64 wh, .int .i64 N, .int .i64 M, v] 58)) P x who) := h1
  have HK : Hid (Bk x K) := hK
  have e0 := h1.c0
  have hw0 : Hid (who w.heap.size = none) := by
    unfold Hid
    cases hw : who w.heap.size with
    | none => rfl
    | some s => have := h.own _ s hw; omega
  obtain ⟨d', c1, hn, hwr, c2⟩ := both_arm (h1.kept0 ((Apart.refl [] _).drewN 1)) hK N M hN
  have HN : Hid (d'.n = x.d.n) := hn
  have HC2 := hid c2
  have HC1 := hid c1
  clear h h1 hK hn c2 c1
  go_enter Try.func42, Try.ntmps42
  go_wp2_with fail
  generalize hV : w.alloc (.cells #[.int .i64 2, .int .i64 wh, .int .i64 N, .int .i64 M, v] 58) = V at *
  generalize w.heap.size = B at *
  clear hV
  obtain ⟨q0, q1, q2, q3, q4⟩ := HB.out V (Apart.refl _ _)
  clear q1 q4
  have hBV : B < V.heap.size := block_lt_of_cell q0
  have HD : Hid (DiskAt V x.D x.S x.d) := HP.out.dp.at'
  have keepV : Hid (∀ w1, Apart [x.D, x.S] (V.drewN 1) w1 → w1.cell? ⟨P, 0, none⟩ = some (.pointer (some ⟨x.D, 0, none⟩)) ∧ w1.cell? ⟨P, 1, none⟩ = some (.pointer (some ⟨x.R, 0, none⟩)) ∧ w1.cell? ⟨B, 2, none⟩ = some (.int .i64 N) ∧ w1.cell? ⟨B, 3, none⟩ = some (.int .i64 M)) := by
    intro w1 ap
    have a1 := ((Apart.refl [x.D, x.S] V).drewN 1).trans ap
    have hBn : B ∉ [x.D, x.S] := fun hm => by
      simp only [List.mem_cons, List.not_mem_nil, or_false] at hm
      rcases hm with e | e
      · have := HP.out.dp.wD; rw [← e, hw0.out] at this; cases this
      · have := HP.out.dp.wS; rw [← e, hw0.out] at this; cases this
    exact ⟨(a1.cell (p := ⟨P, 0, none⟩) HP.out.lt HP.out.notDS).trans e0, (a1.cell (p := ⟨P, 1, none⟩) HP.out.lt HP.out.notDS).trans HP.out.c1, (a1.cell (p := ⟨B, 2, none⟩) hBV hBn).trans q2, (a1.cell (p := ⟨B, 3, none⟩) hBV hBn).trans q3⟩
  go_region_held (fun W => W.cell? ⟨P, 0, none⟩ = some (.pointer (some ⟨x.D, 0, none⟩)) ∧ W.cell? ⟨B, 2, none⟩ = some (.int .i64 N) ∧ W.cell? ⟨B, 3, none⟩ = some (.int .i64 M)) (go_keep) (first | (go_at_call 23; refine HC1.out.mono ?_; rintro r w1 ⟨rfl, ds⟩; obtain ⟨g0, g1, g2, g3⟩ := keepV.out w1 ds.ap))
  have DS : Hid (DStep (V.drewN 1) (w1.drewN 1) x d') := ⟨ds.at'.drewN 1, ds.ap.drewN 1⟩
  clear ds e0 q0 q2 q3 HC1
  go_wp2_with fail
  have keepW : Hid (∀ w2, Apart (x.R :: x.r.lv.ownBlock.toList) (w1.drewN 1) w2 → w2.cell? ⟨P, 1, none⟩ = some (.pointer (some ⟨x.R, 0, none⟩)) ∧ w2.cell? ⟨B, 2, none⟩ = some (.int .i64 N) ∧ w2.cell? ⟨B, 3, none⟩ = some (.int .i64 M)) := by
    intro w2 ap
    have hno : ∀ k, who k ≠ some 2 → k ∉ x.R :: x.r.lv.ownBlock.toList := fun k hk hm => by
      rcases List.mem_cons.1 hm with rfl | hm
      · exact hk (HP.out.rp.wR _ (.inl rfl))
      · exact hk (HP.out.rp.wR _ (.inr (.inr (.inl (by simpa using hm)))))
    have hl1 : V.heap.size ≤ w1.heap.size := DS.out.ap.size
    exact ⟨(ap.cell (p := ⟨P, 1, none⟩) (Nat.lt_of_lt_of_le HP.out.lt hl1) (hno P (by rw [HP.out.wP]; simp))).trans g1, (ap.cell (p := ⟨B, 2, none⟩) (Nat.lt_of_lt_of_le hBV hl1) (hno B (by rw [hw0.out]; simp))).trans g2, (ap.cell (p := ⟨B, 3, none⟩) (Nat.lt_of_lt_of_le hBV hl1) (hno B (by rw [hw0.out]; simp))).trans g3⟩
  go_region_held (fun W => W.cell? ⟨P, 1, none⟩ = some (.pointer (some ⟨x.R, 0, none⟩)) ∧ W.cell? ⟨B, 2, none⟩ = some (.int .i64 N) ∧ W.cell? ⟨B, 3, none⟩ = some (.int .i64 M)) (go_keep) (first | (go_at_call 48; refine (HC2.out (w1.drewN 1) DS.out.ap).mono ?_; rintro r w2 ⟨rfl, r', rs, hrel⟩; obtain ⟨m1, m2, m3⟩ := keepW.out w2 rs.ap))
  have S2 : Hid (St w w2 P who (K + 2) none) := St.of (aB.drewN 1).fr ((HP.out.kept0 ((Apart.refl [] _).drewN 1)).bothSt HK.out DS.out rs hrel HN.out hwr)
  clear rs hrel m1 m2 m3 g0 g1 g2 g3
  go_wp2_with fail
  go_ret
  exact ⟨rfl, S2.out⟩
set_option maxHeartbeats 4000000 in
theorem acts_3 {w : World} {P : Nat} {x : Pd} {who : Nat → Option Nat} (h : Pr w P x who) {K : Nat} (hK : Bk x K) (hK9 : K ≤ 900) (wh N M : Int) (hN : N ≤ 9223372036854775807) (v : Value) :
    Calls Try.prog 42 #[.pointer (some ⟨P, 0, none⟩), .agg #[.int .i64 3, .int .i64 wh, .int .i64 N, .int .i64 M, v]] w fun r w' => r = .returned (.bool true) ∧ St w w' P who (K + 2) none := by
  have HB : Hid (∀ W, Apart [] (w.alloc (.cells #[.int .i64 3, .int .i64 wh, .int .i64 N, .int .i64 M, v] 58)) W → W.cell? ⟨w.heap.size, 0, none⟩ = some (.int .i64 3) ∧ W.cell? ⟨w.heap.size, 1, none⟩ = some (.int .i64 wh) ∧ W.cell? ⟨w.heap.size, 2, none⟩ = some (.int .i64 N) ∧ W.cell? ⟨w.heap.size, 3, none⟩ = some (.int .i64 M) ∧ W.cell? ⟨w.heap.size, 4, none⟩ = some v) := box5 w _ _ _ _ _
  have aB : Apart [] w (w.alloc (.cells #[.int .i64 3, .int .i64 wh, .int .i64 N, .int .i64 M, v] 58)) := (Apart.refl _ _).alloc _
  have h1 := h.kept0 aB
  have HP : Hid (Pr (w.alloc (.cells #[.int .i64 3, .int .i64 wh, .int .i64 N, .int .i64 M, v] 58)) P x who) := h1
  have HK : Hid (Bk x K) := hK
  have e0 := h1.c0
  have hw0 : Hid (who w.heap.size = none) := by
    unfold Hid
    cases hw : who w.heap.size with
    | none => rfl
    | some s => have := h.own _ s hw; omega
  obtain ⟨d', c1, hn, hwr, c2⟩ := both_off h1 hK 
  have HN : Hid (d'.n = x.d.n) := hn
  have HC2 := hid c2
  have HC1 := hid c1
  clear h h1 hK hn c2 c1
  go_enter Try.func42, Try.ntmps42
  go_wp2_with fail
  generalize hV : w.alloc (.cells #[.int .i64 3, .int .i64 wh, .int .i64 N, .int .i64 M, v] 58) = V at *
  generalize w.heap.size = B at *
  clear hV
  refine HC1.out.mono ?_
  rintro r w1 ⟨rfl, ds⟩
  dsimp only
  have DS : Hid (DStep V w1 x d') := ds
  have F1 : Fr (fun k => who k = none) V w1 := Fr.of ds.ap (fun k hm _ hk => by
    simp at hm
    rcases hm with rfl | rfl
    · rw [HP.out.dp.wD] at hk; cases hk
    · rw [HP.out.dp.wS] at hk; cases hk)
  have e1 : w1.cell? ⟨P, 1, none⟩ = some (.pointer (some ⟨x.R, 0, none⟩)) := by
    rw [ds.ap.cell (p := ⟨P, 1, none⟩) HP.out.lt (by
      exact HP.out.notDS)]
    exact HP.out.c1
  obtain ⟨q0, q1, q2, q3, q4⟩ := HB.out V (Apart.refl _ _)
  have hBV : B < V.heap.size := block_lt_of_cell q0
  replace q0 := (World.cell?_of_block (a := ⟨B, 0, none⟩) (F1.block B hBV hw0.out)).trans q0
  replace q2 := (World.cell?_of_block (a := ⟨B, 2, none⟩) (F1.block B hBV hw0.out)).trans q2
  replace q3 := (World.cell?_of_block (a := ⟨B, 3, none⟩) (F1.block B hBV hw0.out)).trans q3
  clear ds F1 q1 q4 e0
  go_wp2_with fail
  refine (HC2.out w1 DS.out.ap).mono ?_
  rintro r w2 ⟨rfl, r', rs, hrel⟩
  dsimp only
  have S2 : Hid (St w w2 P who (K + 2) none) := St.of aB.fr (HP.out.bothSt HK.out DS.out rs hrel HN.out hwr)
  clear rs hrel e1 q0 q2 q3
  go_wp2_with fail
  go_ret
  exact ⟨rfl, S2.out⟩
set_option maxHeartbeats 4000000 in
theorem acts_4 {w : World} {P : Nat} {x : Pd} {who : Nat → Option Nat} (h : Pr w P x who) {K : Nat} (hK : Bk x K) (hK9 : K ≤ 900) (wh N M : Int) (hN : N ≤ 9223372036854775807) (v : Value) :
    Calls Try.prog 42 #[.pointer (some ⟨P, 0, none⟩), .agg #[.int .i64 4, .int .i64 wh, .int .i64 N, .int .i64 M, v]] w fun r w' => r = .returned (.bool true) ∧ St w w' P who (K + 2) none := by
  have HB : Hid (∀ W, Apart [] (w.alloc (.cells #[.int .i64 4, .int .i64 wh, .int .i64 N, .int .i64 M, v] 58)) W → W.cell? ⟨w.heap.size, 0, none⟩ = some (.int .i64 4) ∧ W.cell? ⟨w.heap.size, 1, none⟩ = some (.int .i64 wh) ∧ W.cell? ⟨w.heap.size, 2, none⟩ = some (.int .i64 N) ∧ W.cell? ⟨w.heap.size, 3, none⟩ = some (.int .i64 M) ∧ W.cell? ⟨w.heap.size, 4, none⟩ = some v) := box5 w _ _ _ _ _
  have aB : Apart [] w (w.alloc (.cells #[.int .i64 4, .int .i64 wh, .int .i64 N, .int .i64 M, v] 58)) := (Apart.refl _ _).alloc _
  have h1 := h.kept0 aB
  have HP : Hid (Pr (w.alloc (.cells #[.int .i64 4, .int .i64 wh, .int .i64 N, .int .i64 M, v] 58)) P x who) := h1
  have HK : Hid (Bk x K) := hK
  have e0 := h1.c0
  have hw0 : Hid (who w.heap.size = none) := by
    unfold Hid
    cases hw : who w.heap.size with
    | none => rfl
    | some s => have := h.own _ s hw; omega
  obtain ⟨d', c1, hn, hwr, c2⟩ := both_on h1 hK 
  have HN : Hid (d'.n = x.d.n) := hn
  have HC2 := hid c2
  have HC1 := hid c1
  clear h h1 hK hn c2 c1
  go_enter Try.func42, Try.ntmps42
  go_wp2_with fail
  generalize hV : w.alloc (.cells #[.int .i64 4, .int .i64 wh, .int .i64 N, .int .i64 M, v] 58) = V at *
  generalize w.heap.size = B at *
  clear hV
  refine HC1.out.mono ?_
  rintro r w1 ⟨rfl, ds⟩
  dsimp only
  have DS : Hid (DStep V w1 x d') := ds
  have F1 : Fr (fun k => who k = none) V w1 := Fr.of ds.ap (fun k hm _ hk => by
    simp at hm
    rcases hm with rfl | rfl
    · rw [HP.out.dp.wD] at hk; cases hk
    · rw [HP.out.dp.wS] at hk; cases hk)
  have e1 : w1.cell? ⟨P, 1, none⟩ = some (.pointer (some ⟨x.R, 0, none⟩)) := by
    rw [ds.ap.cell (p := ⟨P, 1, none⟩) HP.out.lt (by
      exact HP.out.notDS)]
    exact HP.out.c1
  obtain ⟨q0, q1, q2, q3, q4⟩ := HB.out V (Apart.refl _ _)
  have hBV : B < V.heap.size := block_lt_of_cell q0
  replace q0 := (World.cell?_of_block (a := ⟨B, 0, none⟩) (F1.block B hBV hw0.out)).trans q0
  replace q2 := (World.cell?_of_block (a := ⟨B, 2, none⟩) (F1.block B hBV hw0.out)).trans q2
  replace q3 := (World.cell?_of_block (a := ⟨B, 3, none⟩) (F1.block B hBV hw0.out)).trans q3
  clear ds F1 q1 q4 e0
  go_wp2_with fail
  refine (HC2.out w1 DS.out.ap).mono ?_
  rintro r w2 ⟨rfl, r', rs, hrel⟩
  dsimp only
  have S2 : Hid (St w w2 P who (K + 2) none) := St.of aB.fr (HP.out.bothSt HK.out DS.out rs hrel HN.out hwr)
  clear rs hrel e1 q0 q2 q3
  go_wp2_with fail
  go_ret
  exact ⟨rfl, S2.out⟩
end Go.Proofs.Ythmloakkefiicaa.dk
