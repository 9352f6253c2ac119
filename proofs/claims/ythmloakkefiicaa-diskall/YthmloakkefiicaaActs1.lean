import Derived.Test.YthmloakkefiicaaActs
namespace Go.Proofs.Ythmloakkefiicaa.dk
open Go.ChangeShapes Go.WideShapes Go.ChangeAt Go.RowKit
set_option linter.unusedVariables false
set_option linter.unusedSimpArgs false
theorem Lnt.lent {w w2 : World} {P : Nat} {x y : Pd} {who who2 : Nat → Option Nat} {g l c' : Nat} {bs : List Int} (h : Lnt w w2 P x y who who2 g l c' bs) : Lent w2 g (l + 40) c' (lentL bs) := by
  have := h.pr.lp.at'
  rw [h.lg, h.ll, h.lc, h.lb] at this
  exact this.2
set_option maxHeartbeats 8000000 in
theorem acts_1 {w : World} {P : Nat} {x : Pd} {who : Nat → Option Nat} (h : Pr w P x who) {K : Nat} (hK : Bk x K) (hK9 : K ≤ 900) (wh N M : Int) {p : Option Addr} {l c : Nat} {bs : List Int} (hb : OpB w who p l c bs) :
    Calls Try.prog 42 #[.pointer (some ⟨P, 0, none⟩), .agg #[.int .i64 1, .int .i64 wh, .int .i64 N, .int .i64 M, .slice p l c]] w fun r w' => r = .returned (.bool true) ∧ St w w' P who (K + 2) none := by
  have HB : Hid (∀ W, Apart [] (w.alloc (.cells #[.int .i64 1, .int .i64 wh, .int .i64 N, .int .i64 M, .slice p l c] 58)) W → W.cell? ⟨w.heap.size, 0, none⟩ = some (.int .i64 1) ∧ W.cell? ⟨w.heap.size, 1, none⟩ = some (.int .i64 wh) ∧ W.cell? ⟨w.heap.size, 2, none⟩ = some (.int .i64 N) ∧ W.cell? ⟨w.heap.size, 3, none⟩ = some (.int .i64 M) ∧ W.cell? ⟨w.heap.size, 4, none⟩ = some (.slice p l c)) := box5 w _ _ _ _ _
  have aB : Apart [] w (w.alloc (.cells #[.int .i64 1, .int .i64 wh, .int .i64 N, .int .i64 M, .slice p l c] 58)) := (Apart.refl _ _).alloc _
  have h1 := h.kept0 aB
  have HP : Hid (Pr (w.alloc (.cells #[.int .i64 1, .int .i64 wh, .int .i64 N, .int .i64 M, .slice p l c] 58)) P x who) := h1
  have HK : Hid (Bk x K) := hK
  have HO : Hid (OpB (w.alloc (.cells #[.int .i64 1, .int .i64 wh, .int .i64 N, .int .i64 M, .slice p l c] 58)) who p l c bs) := hb.kept aB.fr
  have hl4 := hb.le
  have e12 : (w.alloc (.cells #[.int .i64 1, .int .i64 wh, .int .i64 N, .int .i64 M, .slice p l c] 58)).cell? ⟨P, 12, none⟩ = some (.slice x.lp x.ll x.lc) := by rw [cell_of_row _ _ _ _ _ _ h1.row]; rfl
  have f12 := h1.fz 12
  have hw0 : Hid (who w.heap.size = none) := by
    unfold Hid
    cases hw : who w.heap.size with
    | none => rfl
    | some s => have := h.own _ s hw; omega
  clear h h1 hK hb
  go_enter Try.func42, Try.ntmps42
  go_wp2_with fail
  generalize hV : w.alloc (.cells #[.int .i64 1, .int .i64 wh, .int .i64 N, .int .i64 M, .slice p l c] 58) = V at *
  generalize w.heap.size = B at *
  clear hV
  obtain ⟨q0, q1, q2, q3, q4⟩ := HB.out V (Apart.refl _ _)
  have hBV : B < V.heap.size := block_lt_of_cell q0
  have HV1 : Hid (Pr (V.drewN 1) P x who) := HP.out.kept0 ((Apart.refl [] _).drewN 1)
  have HO1 : Hid (OpB (V.drewN 1) who p l c bs) := HO.out.kept ((Apart.refl [] _).drewN 1).fr
  have keep1 : Hid (∀ w1, (∃ X, Apart X (V.drewN 1) w1 ∧ ∀ k ∈ X, x.lg = some k) → w1.cell? ⟨P, 12, none⟩ = some (.slice x.lp x.ll x.lc) ∧ w1.cell? ⟨B, 4, none⟩ = some (.slice p l c) ∧ w1.frozen? ⟨P, 12, none⟩ = false) := by
    rintro w1 ⟨X, a, hX⟩
    have hno : ∀ k, who k ≠ some 3 → k ∉ X := fun k hk hm => hk (HP.out.lp.tg k (hX k hm))
    have hPX := hno P (by rw [HP.out.wP]; simp)
    refine ⟨(a.cell (p := ⟨P, 12, none⟩) HP.out.lt hPX).trans e12, (a.cell (p := ⟨B, 4, none⟩) hBV (hno B (by rw [hw0.out]; simp))).trans q4, ?_⟩
    exact frozen_of_row _ _ _ _ _ ((a.block P HP.out.lt hPX).trans HP.out.row)
  clear q0 q1 q3
  go_region_held (fun W => W.cell? ⟨P, 12, none⟩ = some (.slice x.lp x.ll x.lc) ∧ W.cell? ⟨B, 4, none⟩ = some (.slice p l c)) (go_keep) (first | (go_at_call 46; refine (again_pr HV1.out HO1.out).mono ?_; rintro r w1 ⟨g, c', rfl, hL, hX, hg⟩; obtain ⟨g0, g1, g2⟩ := keep1.out w1 hX))
  have LN := hid (HV1.out.lnt hL hX hg)
  clear hL hX hg
  go_wp2_with fail
  generalize w1.setCell ⟨P, 12, none⟩ (.slice (some ⟨g, 0, none⟩) (l + 40) c') = w2 at *
  obtain ⟨y, who2, ln⟩ := LN.out
  have HLN : Hid (Lnt (V.drewN 1) w2 P x y who who2 g l c' bs) := ln
  have hlc := ln.lent.le
  have HP2 : Hid (Pr (w2.drewN 1) P y who2) := ln.pr.kept0 ((Apart.refl [] _).drewN 1)
  have HO2 : Hid (OpB w2 who2 p l c bs) := HO1.out.lnt ln
  have hw2B : Hid (who2 B = none) := by
    unfold Hid
    cases hw : who2 B with
    | none => rfl
    | some t =>
      rcases ln.nw B t hw with h3 | h3
      · exact absurd hw0.out h3
      · have h3' : V.heap.size ≤ B := h3
        omega
  have a0 := ln.pr.c0
  have b2 : w2.cell? ⟨B, 2, none⟩ = some (.int .i64 N) := (World.cell?_of_block (a := ⟨B, 2, none⟩) (ln.fr.block B hBV hw0.out)).trans q2
  have b4 : w2.cell? ⟨B, 4, none⟩ = some (.slice p l c) := (World.cell?_of_block (a := ⟨B, 4, none⟩) (ln.fr.block B hBV hw0.out)).trans q4
  have hB2 : Hid (B < w2.heap.size) := Nat.lt_of_lt_of_le hBV ln.fr.size
  obtain ⟨e, d', c1, hn, hwr, c2⟩ := both_write HP2.out (ln.bk K HK.out) hK9 N g l c' c p bs ln.gD (fun j hj => by
    have hbl := HO1.out.src.hlen
    rw [← lentL_head bs j (by omega)]
    exact ln.lent.cells j (by omega)) (HO2.out.src.fr (K := fun _ => True) ((Apart.refl [] _).drewN 1).fr (fun _ _ _ _ => trivial)) HO2.out.fr
  have HC1 := hid c1
  have HC2 := hid c2
  have HN := hid hn
  clear LN ln c1 c2 hn e12 f12 q2 q4 keep1 g0 g1 g2 hBV HV1 HO1 HO HP
  have keep2 : Hid (∀ w3, Apart [y.D, y.S] (w2.drewN 1) w3 → w3.cell? ⟨P, 0, none⟩ = some (.pointer (some ⟨y.D, 0, none⟩)) ∧ w3.cell? ⟨P, 1, none⟩ = some (.pointer (some ⟨y.R, 0, none⟩)) ∧ w3.cell? ⟨B, 2, none⟩ = some (.int .i64 N) ∧ w3.cell? ⟨B, 4, none⟩ = some (.slice p l c)) := by
    intro w3 a
    have hBn : B ∉ [y.D, y.S] := fun hm => by
      simp only [List.mem_cons, List.not_mem_nil, or_false] at hm
      rcases hm with e | e
      · have := HP2.out.dp.wD; rw [← e, hw2B.out] at this; cases this
      · have := HP2.out.dp.wS; rw [← e, hw2B.out] at this; cases this
    exact ⟨(a.cell (p := ⟨P, 0, none⟩) HP2.out.lt HP2.out.notDS).trans HP2.out.c0, (a.cell (p := ⟨P, 1, none⟩) HP2.out.lt HP2.out.notDS).trans HP2.out.c1, (a.cell (p := ⟨B, 2, none⟩) hB2.out hBn).trans b2, (a.cell (p := ⟨B, 4, none⟩) hB2.out hBn).trans b4⟩
  go_wp2_with fail
  go_region_held (fun W => W.cell? ⟨P, 0, none⟩ = some (.pointer (some ⟨y.D, 0, none⟩)) ∧ W.cell? ⟨B, 2, none⟩ = some (.int .i64 N) ∧ W.cell? ⟨B, 4, none⟩ = some (.slice p l c)) (go_keep) (first | (go_at_call 15; refine HC1.out.mono ?_; rintro r w3 ⟨rfl, ds⟩; obtain ⟨g0, g1, g2, g4⟩ := keep2.out w3 ds.ap))
  have DS : Hid (DStep (w2.drewN 1) (w3.drewN 1) y d') := ⟨ds.at'.drewN 1, ds.ap.drewN 1⟩
  clear ds a0 b2 b4 HC1 keep2
  have keep3 : Hid (∀ w4, Apart (y.R :: y.r.lv.ownBlock.toList) (w3.drewN 1) w4 → w4.cell? ⟨P, 1, none⟩ = some (.pointer (some ⟨y.R, 0, none⟩)) ∧ w4.cell? ⟨B, 2, none⟩ = some (.int .i64 N) ∧ w4.cell? ⟨B, 4, none⟩ = some (.slice p l c)) := by
    intro w4 ap
    have hno : ∀ k, who2 k ≠ some 2 → k ∉ y.R :: y.r.lv.ownBlock.toList := fun k hk hm => by
      rcases List.mem_cons.1 hm with rfl | hm
      · exact hk (HP2.out.rp.wR _ (.inl rfl))
      · exact hk (HP2.out.rp.wR _ (.inr (.inr (.inl (by simpa using hm)))))
    have hl1 : w2.heap.size ≤ w3.heap.size := DS.out.ap.size
    have hPl : P < w2.heap.size := HP2.out.lt
    exact ⟨(ap.cell (p := ⟨P, 1, none⟩) (Nat.lt_of_lt_of_le hPl hl1) (hno P (by rw [HP2.out.wP]; simp))).trans g1, (ap.cell (p := ⟨B, 2, none⟩) (Nat.lt_of_lt_of_le hB2.out hl1) (hno B (by rw [hw2B.out]; simp))).trans g2, (ap.cell (p := ⟨B, 4, none⟩) (Nat.lt_of_lt_of_le hB2.out hl1) (hno B (by rw [hw2B.out]; simp))).trans g4⟩
  go_wp2_with fail
  go_region_held (fun W => W.cell? ⟨P, 1, none⟩ = some (.pointer (some ⟨y.R, 0, none⟩)) ∧ W.cell? ⟨B, 2, none⟩ = some (.int .i64 N) ∧ W.cell? ⟨B, 4, none⟩ = some (.slice p l c)) (go_keep) (first | (go_at_call 47; refine (HC2.out (w3.drewN 1) DS.out.ap).mono ?_; rintro r w4 ⟨rfl, r', rs, hrel⟩; obtain ⟨m1, m2, m4⟩ := keep3.out w4 rs.ap))
  obtain ⟨who4, p4, n4, f4⟩ := HP2.out.bothS DS.out rs hrel HN.out
  have HP4 := hid p4
  have HN4 := hid n4
  have HF4 := hid f4
  have hL4 : Lent w4 g (l + 40) c' (lentL bs) := by
    have := p4.lp.at'
    simp only at this
    rw [HLN.out.lg, HLN.out.ll, HLN.out.lc, HLN.out.lb] at this
    exact this.2
  have hO4 : OpB w4 who2 p l c bs := (HO2.out.kept ((Apart.refl [] _).drewN 1).fr).kept f4
  have HK5 := hid (kept_ok w4 g c' l bs hL4 p c hO4.src (fun e => (hO4.nil e).2) hl4)
  clear p4 n4 f4 hL4 hO4 rs hrel g0 g1 g2 g4 m1 m2 keep3
  go_wp2_with fail
  refine HK5.out.mono ?_
  rintro r w5 ⟨rfl, a5, bs', hL5⟩
  dsimp only
  have S5 : Hid (St w w5 P who (K + 2) none) := St.of (aB.drewN 1).fr (HLN.out.done HK.out HP4.out HN4.out ((((Apart.refl [] w2).drewN 1).fr (K := fun k => who2 k = none)).trans HF4.out (fun _ _ h => h)) hwr a5 bs' hL5)
  clear a5 hL5 m4
  go_wp2_with fail
  refine (num_any _ _).mono ?_
  rintro r w6 ⟨rfl, rfl⟩
  dsimp only
  go_wp2_with fail
  go_ret
  exact ⟨rfl, S5.out⟩
end Go.Proofs.Ythmloakkefiicaa.dk
