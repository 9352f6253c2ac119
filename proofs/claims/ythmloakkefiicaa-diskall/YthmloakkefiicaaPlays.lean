import Derived.Test.YthmloakkefiicaaTells3
namespace Go.Proofs.Ythmloakkefiicaa.dk
open Go.ChangeShapes Go.WideShapes Go.ChangeAt Go.RowKit
set_option linter.unusedVariables false
set_option linter.unusedSimpArgs false
theorem stands_pr {w : World} {P : Nat} {x : Pd} {who : Nat → Option Nat} (h : Pr w P x who) : Calls Try.prog 44 #[.pointer (some ⟨P, 2, none⟩)] w fun r w' => r = .returned (.bool true) ∧ Apart [] w w' :=
  stands_ok w P x.row h.prow (x.v 2) (x.v 3) (x.v 4) (x.v 5) x.ab x.ai x.ms (x.G 2) (x.G 3) (x.G 4) (x.G 5) (h.sl 2 (by decide)).at' (h.sl 3 (by decide)).at' (h.sl 4 (by decide)).at' (h.sl 5 (by decide)).at' rfl rfl rfl rfl (fun a ha => (h.kab a ha).at') (fun a ha => (h.kai a ha).at') h.bd.ab4 h.bd.ai4 h.bd.ms
    (fun i a ha => ⟨h.bd.all i a ha, (h.kai a (List.mem_of_getElem? ha)).le⟩)
theorem apart_pr {w : World} {P : Nat} {x : Pd} {who : Nat → Option Nat} (h : Pr w P x who) : Calls Try.prog 34 #[.pointer (some ⟨P, 2, none⟩)] w fun r w' => r = .returned (.bool true) ∧ Fr (fun k => who k = none) w w' := by
  have hB : ∀ g, g ∈ blocksB x.lf → who g ≠ none := by
    intro g hg
    obtain ⟨a, ha, hag⟩ := List.mem_filterMap.1 hg
    obtain ⟨i, hi, rfl⟩ := List.getElem_of_mem ha
    rw [(h.klf i _ (List.getElem?_eq_getElem hi)).tg g hag]; simp
  have hI : ∀ g, g ∈ blocksI x.nu → who g ≠ none := by
    intro g hg
    obtain ⟨a, ha, hag⟩ := List.mem_filterMap.1 hg
    obtain ⟨i, hi, rfl⟩ := List.getElem_of_mem ha
    rw [(h.knu i _ (List.getElem?_eq_getElem hi)).tg g hag]; simp
  refine (apart_ok w P x.row h.prow (x.v 7) (x.v 8) (x.v 9) (x.v 10) x.lf x.nu x.wo (x.G 7) (x.G 8) (x.G 9) (x.G 10) (h.sl 7 (by decide)).at' (h.sl 8 (by decide)).at' (h.sl 9 (by decide)).at' (h.sl 10 (by decide)).at' rfl rfl rfl rfl ?_ ?_ (fun a ha => (h.kwo a ha).at') ?_ ?_ h.bd.lf h.bd.nu h.bd.wo ?_ ?_ h.bd.same).mono ?_
  · intro a ha
    obtain ⟨i, hi, rfl⟩ := List.getElem_of_mem ha
    exact (h.klf i _ (List.getElem?_eq_getElem hi)).at'
  · intro a ha
    obtain ⟨i, hi, rfl⟩ := List.getElem_of_mem ha
    exact (h.knu i _ (List.getElem?_eq_getElem hi)).at'
  · intro t s a b hts ha hb g hg hg2
    have h1 := (h.klf t a ha).tg g hg
    have h2 := (h.klf s b hb).tg g hg2
    rw [h1] at h2; simp at h2; omega
  · intro t s a b hts ha hb g hg hg2
    have h1 := (h.knu t a ha).tg g hg
    have h2 := (h.knu s b hb).tg g hg2
    rw [h1] at h2; simp at h2; omega
  · intro a ha
    obtain ⟨i, hi, rfl⟩ := List.getElem_of_mem ha
    exact (h.klf i _ (List.getElem?_eq_getElem hi)).le
  · intro a ha
    obtain ⟨i, hi, rfl⟩ := List.getElem_of_mem ha
    exact (h.knu i _ (List.getElem?_eq_getElem hi)).le
  · rintro r w' ⟨rfl, a⟩
    refine ⟨rfl, Fr.of a (fun k hm _ hk => ?_)⟩
    rcases List.mem_append.1 hm with hm | hm
    · exact hB k hm hk
    · exact hI k hm hk
/-- a script, as it reads, away from the pair -/
structure Sc (w : World) (who : Nat → Option Nat) (sp : Option Addr) (N : Nat) (f : Nat → OpD) : Prop where
  at' : 0 < N → ∃ PS o, sp = some ⟨PS, o, none⟩ ∧ PS < w.heap.size ∧ who PS = none ∧ ∀ i, i < N → OpAt w PS (o + i * 5) (f i)
  ob : ∀ i, i < N → OpB w who (f i).p (f i).l (f i).c (f i).bs
theorem Sc.kept {w w' : World} {who who' : Nat → Option Nat} {sp : Option Addr} {N : Nat} {f : Nat → OpD} (h : Sc w who sp N f) (fr : Fr (fun k => who k = none) w w') (nw : ∀ k s, who' k = some s → who k ≠ none ∨ w.heap.size ≤ k) : Sc w' who' sp N f := by
  have key : ∀ k, k < w.heap.size → who k = none → who' k = none := by
    intro k hk hw
    cases h2 : who' k with
    | none => rfl
    | some t =>
      rcases nw k t h2 with h3 | h3
      · exact absurd hw h3
      · omega
  have okb : ∀ i, i < N → OpB w' who' (f i).p (f i).l (f i).c (f i).bs := fun i hi => by
    have hb := (h.ob i hi).kept fr
    exact ⟨hb.src, hb.nil, hb.le, fun h0 g o hp => by
      obtain ⟨g2, o2, hp2, hg2, _⟩ := (h.ob i hi).src.cells h0
      rw [hp] at hp2
      have : g = g2 := by injection hp2 with h4; injection h4
      exact key g (by omega) ((h.ob i hi).fr h0 g o hp)⟩
  refine ⟨fun h0 => ?_, okb⟩
  obtain ⟨PS, o, hsp, hPS, hw, hop⟩ := h.at' h0
  refine ⟨PS, o, hsp, Nat.lt_of_lt_of_le hPS fr.size, key PS hPS hw, fun i hi => ?_⟩
  have ho := hop i hi
  have e : ∀ j, w'.cell? ⟨PS, j, none⟩ = w.cell? ⟨PS, j, none⟩ := fun j => World.cell?_of_block (a := ⟨PS, j, none⟩) (fr.block PS hPS hw)
  exact ⟨(e _).trans ho.c0, (e _).trans ho.c1, (e _).trans ho.c2, (e _).trans ho.c3, (e _).trans ho.c4, (okb i hi).src, ho.nil, ho.len, ho.nb⟩
def TellOk (kd : Int) : Prop := ∀ {w : World} {P : Nat} {x : Pd} {who : Nat → Option Nat} (_ : Pr w P x who) {K : Nat} (_ : Bk x K) (_ : K ≤ 900) (wh N M : Int) {p : Option Addr} {l c : Nat} {bs : List Int} (_ : OpB w who p l c bs),
  Calls Try.prog 43 #[.pointer (some ⟨P, 0, none⟩), .agg #[.int .i64 kd, .int .i64 wh, .int .i64 N, .int .i64 M, .slice p l c]] w fun r w' => r = .returned (.bool true) ∧ St w w' P who (K + 2) none
theorem tellOk (kd : Int) (h1 : 5 ≤ kd) (h2 : kd ≤ 11) : TellOk kd := by
  intro w P x who h K hK hK9 wh N M p l c bs hb
  rcases (show kd = 5 ∨ kd = 6 ∨ kd = 7 ∨ kd = 8 ∨ kd = 9 ∨ kd = 10 ∨ kd = 11 by omega) with rfl | rfl | rfl | rfl | rfl | rfl | rfl
  · exact tells_5 h hK hK9 wh N M _
  · exact tells_6 h hK hK9 wh N M _
  · exact tells_7 h hK hK9 wh N M _
  · exact tells_8 h hK hK9 wh N M _
  · exact tells_9 h hK hK9 wh N M _
  · exact tells_10 h hK hK9 wh N M _
  · exact tells_11 h hK hK9 wh N M hb
theorem actOk (kd : Int) (h1 : 1 ≤ kd) (h2 : kd ≤ 4) {w : World} {P : Nat} {x : Pd} {who : Nat → Option Nat} (h : Pr w P x who) {K : Nat} (hK : Bk x K) (hK9 : K ≤ 900) (wh N M : Int) (hN : N ≤ 9223372036854775807) {p : Option Addr} {l c : Nat} {bs : List Int} (hb : OpB w who p l c bs) :
    Calls Try.prog 42 #[.pointer (some ⟨P, 0, none⟩), .agg #[.int .i64 kd, .int .i64 wh, .int .i64 N, .int .i64 M, .slice p l c]] w fun r w' => r = .returned (.bool true) ∧ St w w' P who (K + 2) none := by
  rcases (show kd = 1 ∨ kd = 2 ∨ kd = 3 ∨ kd = 4 by omega) with rfl | rfl | rfl | rfl
  · exact acts_1 h hK hK9 wh N M hb
  · exact acts_2 h hK hK9 wh N M hN _
  · exact acts_3 h hK hK9 wh N M hN _
  · exact acts_4 h hK hK9 wh N M hN _
theorem St.trans {w w1 w2 : World} {P : Nat} {who : Nat → Option Nat} {K L : Nat} {x1 : Pd} {who1 : Nat → Option Nat} (nw1 : ∀ k s, who1 k = some s → who k ≠ none ∨ w.heap.size ≤ k) (f1 : Fr (fun k => who k = none) w w1) (h : St w1 w2 P who1 L none) : St w w2 P who L none := by
  obtain ⟨⟨x', who', h1, h2, h3⟩, h4⟩ := h
  refine ⟨⟨x', who', h1, h2, fun k s hk => ?_⟩, ?_⟩
  · rcases h3 k s hk with h5 | h5 | h5
    · cases h6 : who1 k with
      | none => exact absurd h6 h5
      | some t =>
        rcases nw1 k t h6 with h7 | h7
        · exact .inl h7
        · exact .inr (.inr h7)
    · cases h5
    · exact .inr (.inr (Nat.le_trans f1.size h5))
  · refine (f1.mono (fun i _ hi => hi.1)).trans h4 (fun i hi hh => ⟨?_, by simp⟩)
    cases h6 : who1 i with
    | none => rfl
    | some t =>
      rcases nw1 i t h6 with h7 | h7
      · exact absurd hh.1 h7
      · omega
/-- a step, and that all stands -/
theorem St.apart {w w1 w2 : World} {P : Nat} {who : Nat → Option Nat} {K : Nat} (h : St w w1 P who K none) (a : Apart [] w1 w2) : St w w2 P who K none := by
  obtain ⟨⟨x', who', h1, h2, h3⟩, h4⟩ := h
  exact ⟨⟨x', who', h1.kept0 a, h2, h3⟩, h4.trans (a.fr (K := fun _ => True)) (fun _ _ _ => trivial)⟩
theorem St.refl {w : World} {P : Nat} {x : Pd} {who : Nat → Option Nat} (h : Pr w P x who) {K : Nat} (hK : Bk x K) : St w w P who K none := ⟨⟨x, who, h, hK, fun k s hk => .inl (by rw [hk]; simp)⟩, Fr.refl _ _⟩
set_option maxHeartbeats 8000000 in
set_option maxRecDepth 100000 in
theorem plays_ok {w : World} {P : Nat} {x : Pd} {who : Nat → Option Nat} (h : Pr w P x who) {K : Nat} (hK : Bk x K) {sp : Option Addr} {N cap : Nat} {f : Nat → OpD} (hs : Sc w who sp N f) (hKN : K + 2 * N ≤ 900) (lo hi : Int) (hlo : 5 ≤ lo) (hhi : hi ≤ 11) :
    Calls Try.prog 33 #[.pointer (some ⟨P, 0, none⟩), .slice sp N cap, .int .i64 lo, .int .i64 hi] w fun r w' => r = .returned (.bool true) ∧ St w w' P who (K + 2 * N) none := by
  have S0 := hid (St.refl h hK)
  have HSc := hid hs
  clear h hK hs
  go_enter Try.func33, Try.ntmps33
  go_wp2_with fail
  go_loopw [9, 10] (fun okv iv wr => ∃ k : Nat, k ≤ N ∧ iv = .int .i64 k ∧ okv = .bool true ∧ St w wr P who (K + 2 * k) none) (fun _ iv _ => N - (intOf iv).toNat)
  case atStart => exact ⟨0, Nat.zero_le _, rfl, rfl, S0.out⟩
  case round =>
    obtain ⟨k, hk, rfl, rfl, st⟩ := hrel
    have HST := hid st
    obtain ⟨⟨x1, who1, p1, b1, n1⟩, f1⟩ := st
    have F1 : Fr (fun k => who k = none) w wr := f1.mono (fun i _ hi => ⟨hi, by simp⟩)
    have N1 : ∀ k s, who1 k = some s → who k ≠ none ∨ w.heap.size ≤ k := fun k s hk => by
      rcases n1 k s hk with h1 | h1 | h1
      · exact .inl h1
      · cases h1
      · exact .inr h1
    have HF1 := hid F1
    have HN1 := hid N1
    have HP1 := hid p1
    have HB1 := hid b1
    have HS1 := hid (HSc.out.kept F1 N1)
    clear p1 b1 n1 f1 F1 N1
    by_cases hlt : k < N
    · obtain ⟨PS, o, rfl, hPS, hwPS, hop⟩ := HS1.out.at' (by omega)
      obtain ⟨c0, c1, c2, c3, c4, _, _, _, hnb⟩ := hop k hlt
      have HO := hid (HS1.out.ob k hlt)
      clear hop
      obtain ⟨⟨kd, wh, nn, mm, p, l, c, bs⟩, HQ⟩ : ∃ q : OpD, Hid (q = f k) := ⟨_, rfl⟩
      rw [← HQ.out] at c0 c1 c2 c3 c4 hnb HO
      simp only at c0 c1 c2 c3 c4 hnb HO
      have hn2 := hnb.2
      have aV : Apart [] wr (wr.alloc (.cells #[.int .i64 kd, .int .i64 wh, .int .i64 nn, .int .i64 mm, .slice p l c] 58)) := (Apart.refl _ _).alloc _
      have HPV := hid (HP1.out.kept0 aV)
      have HOV : Hid (OpB _ who1 p l c bs) := HO.out.kept aV.fr
      have hKk : K + 2 * k ≤ 900 := by omega
      clear hnb
      by_cases hA : 1 ≤ kd ∧ kd ≤ 4
      · obtain ⟨hA1, hA2⟩ := hA
        have HC := hid (actOk kd hA1 hA2 HPV.out HB1.out hKk wh nn mm hn2 HOV.out)
        have hne1 : ¬ kd < 1 := by omega
        have hne2 : ¬ 4 < kd := by omega
        go_wp2_with fail
        generalize wr.alloc (.cells #[.int .i64 kd, .int .i64 wh, .int .i64 nn, .int .i64 mm, .slice p l c] 58) = V at *
        refine HC.out.mono ?_
        rintro r w2 ⟨rfl, s2⟩
        dsimp only
        have S2 := hid (St.of aV.fr s2)
        clear s2 c0 c1 c2 c3 c4
        obtain ⟨x2, who2, p2, b2, n2⟩ := S2.out.ex
        have HP2 := hid p2
        clear p2 b2 n2
        go_wp2_with fail
        refine (stands_pr HP2.out).mono ?_
        rintro r w3 ⟨rfl, a3⟩
        dsimp only
        have S3 := hid (St.trans (K := K) (x1 := x1) HN1.out HF1.out (S2.out.apart a3))
        clear a3
        go_wp2_with fail
        go_roundw
        case rel => exact ⟨k + 1, by omega, by go_num, rfl, by have := S3.out; rw [show K + 2 * (k + 1) = K + 2 * k + 2 from by omega]; exact this⟩
        case measure => simp only [intOf]; omega
      · by_cases hT : lo ≤ kd ∧ kd ≤ hi
        · obtain ⟨hT1, hT2⟩ := hT
          have HC := hid (tellOk kd (by omega) (by omega) HPV.out HB1.out hKk wh nn mm HOV.out)
          have hne1 : ¬ kd < 1 := by omega
          have hne2 : 4 < kd := by omega
          have hne3 : ¬ kd < lo := by omega
          have hne4 : ¬ hi < kd := by omega
          clear hA
          go_wp2_with fail
          generalize wr.alloc (.cells #[.int .i64 kd, .int .i64 wh, .int .i64 nn, .int .i64 mm, .slice p l c] 58) = V at *
          refine HC.out.mono ?_
          rintro r w2 ⟨rfl, s2⟩
          dsimp only
          have S2 := hid (St.of aV.fr s2)
          clear s2 c0 c1 c2 c3 c4
          obtain ⟨x2, who2, p2, b2, n2⟩ := S2.out.ex
          have HP2 := hid p2
          clear p2 b2 n2
          go_wp2_with fail
          refine (stands_pr HP2.out).mono ?_
          rintro r w3 ⟨rfl, a3⟩
          dsimp only
          have S3 := hid (St.trans (K := K) (x1 := x1) HN1.out HF1.out (S2.out.apart a3))
          clear a3
          go_wp2_with fail
          go_roundw
          case rel => exact ⟨k + 1, by omega, by go_num, rfl, by have := S3.out; rw [show K + 2 * (k + 1) = K + 2 * k + 2 from by omega]; exact this⟩
          case measure => simp only [intOf]; omega
        · have S2 := hid (HST.out.apart aV)
          have HA := hid hA
          have HT := hid hT
          clear hA hT
          have fin : ∀ (w2 : World) (h2 : Apart [] (wr.alloc (.cells #[.int .i64 kd, .int .i64 wh, .int .i64 nn, .int .i64 mm, .slice p l c] 58)) w2), St w w2 P who (K + 2 * (k + 1)) none := fun w2 h2 => (S2.out.apart h2).up (by omega)
          have FIN := hid fin
          clear fin
          rcases (show (kd < 1) ∨ (4 < kd ∧ kd < lo) ∨ (4 < kd ∧ lo ≤ kd ∧ hi < kd) by have h1 := HA.out; have h2 := HT.out; omega) with hc | ⟨hc, hc2⟩ | ⟨hc, hc2, hc3⟩
          · have hc2 : kd < lo := by omega
            go_wp2_with fail
            generalize wr.alloc (.cells #[.int .i64 kd, .int .i64 wh, .int .i64 nn, .int .i64 mm, .slice p l c] 58) = V at *
            refine (stands_pr HPV.out).mono ?_
            rintro r w3 ⟨rfl, a3⟩
            dsimp only
            have S3 := hid (FIN.out w3 a3)
            clear a3 c0 c1 c2 c3 c4
            go_wp2_with fail
            go_roundw
            case rel => exact ⟨k + 1, by omega, by go_num, rfl, S3.out⟩
            case measure => simp only [intOf]; omega
          · have hne1 : ¬ kd < 1 := by omega
            go_wp2_with fail
            generalize wr.alloc (.cells #[.int .i64 kd, .int .i64 wh, .int .i64 nn, .int .i64 mm, .slice p l c] 58) = V at *
            refine (stands_pr HPV.out).mono ?_
            rintro r w3 ⟨rfl, a3⟩
            dsimp only
            have S3 := hid (FIN.out w3 a3)
            clear a3 c0 c1 c2 c3 c4
            go_wp2_with fail
            go_roundw
            case rel => exact ⟨k + 1, by omega, by go_num, rfl, S3.out⟩
            case measure => simp only [intOf]; omega
          · have hne1 : ¬ kd < 1 := by omega
            have hne3 : ¬ kd < lo := by omega
            go_wp2_with fail
            generalize wr.alloc (.cells #[.int .i64 kd, .int .i64 wh, .int .i64 nn, .int .i64 mm, .slice p l c] 58) = V at *
            refine (stands_pr HPV.out).mono ?_
            rintro r w3 ⟨rfl, a3⟩
            dsimp only
            have S3 := hid (FIN.out w3 a3)
            clear a3 c0 c1 c2 c3 c4
            go_wp2_with fail
            go_roundw
            case rel => exact ⟨k + 1, by omega, by go_num, rfl, S3.out⟩
            case measure => simp only [intOf]; omega
    · obtain rfl : k = N := by omega
      clear HP1 HB1 HS1 HF1 HN1
      go_wp2_with fail
      go_ret
      exact ⟨rfl, HST.out⟩
end Go.Proofs.Ythmloakkefiicaa.dk
