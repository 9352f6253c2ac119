import Derived.Test.YthmloakkefiicaaAlive
namespace Go.Proofs.Ythmloakkefiicaa.dk
open Go.ChangeShapes Go.WideShapes Go.ChangeAt Go.RowKit
set_option linter.unusedVariables false
set_option linter.unusedSimpArgs false
theorem le_sumL (f : Nat → OpD) : ∀ (k i : Nat), i < k → (f i).l ≤ sumL f k
  | 0, i, h => by omega
  | k + 1, i, h => by
    rw [sumL_succ]
    by_cases e : i = k
    · subst e; omega
    · have := le_sumL f k i (by omega); omega
theorem sc_of {w w' : World} {who : Nat → Option Nat} {sp : Option Addr} {N : Nat} {f : Nat → OpD} (ho : IsOps w sp N f) (hle : ∀ i, i < N → (f i).l ≤ 4194304) (a : Apart [] w w') (hw : ∀ k, k < w.heap.size → who k = none) : Sc w' who sp N f := by
  have base : Sc w who sp N f := by
    refine ⟨fun h0 => ?_, fun i hi => ?_⟩
    · obtain ⟨PS, o, h1, h2, h3⟩ := ho h0
      exact ⟨PS, o, h1, h2, hw PS h2, h3⟩
    · obtain ⟨PS, o, h1, h2, h3⟩ := ho (by omega)
      have q := h3 i hi
      exact ⟨q.src, q.nil, hle i hi, fun h0 g o hp => by
        obtain ⟨g2, o2, hp2, hg2, _⟩ := q.src.cells h0
        rw [hp] at hp2
        have : g = g2 := by injection hp2 with h4; injection h4
        exact hw g (by omega)⟩
  exact base.kept a.fr (fun k s hk => .inl (by rw [hk]; simp))
theorem fits_pr (w : World) (sp : Option Addr) (N cap : Nat) (f : Nat → OpD) (ho : IsOps w sp N f) (hN : N ≤ 140737488355328) (hb : ∀ i, i < N → (f i).l ≤ 140737488355328) :
    Calls Try.prog 29 #[.slice sp N cap] w fun r w' => ∃ b, r = .returned (.bool b) ∧ (b = true → N ≤ 300 ∧ ∀ i, i < N → (f i).l ≤ 4194304) ∧ w' = w := by
  by_cases h3 : N ≤ 300
  · refine (fits_short w sp N cap f ho h3 hb).mono ?_
    rintro r w' ⟨rfl, rfl⟩
    exact ⟨_, rfl, fun e => ⟨h3, fun i hi => Nat.le_trans (le_sumL f N i hi) (by simpa using e)⟩, rfl⟩
  · refine (fits_long w sp N cap f ho (by omega) hN).mono ?_
    rintro r w' ⟨rfl, rfl⟩
    exact ⟨false, rfl, (fun e => by cases e), rfl⟩
set_option maxHeartbeats 8000000 in
set_option maxRecDepth 100000 in
theorem holds_ok (w : World) (sec : Int) (ip : Option Addr) (il ic : Nat) (ibs : List Int) (hs : Src w ip il ibs) (hnil : ip = none → il = 0 ∧ ic = 0) (hil : il ≤ 140737488355328) (sp : Option Addr) (N cap : Nat) (f : Nat → OpD) (ho : IsOps w sp N f) (hN : N ≤ 140737488355328) (hb : ∀ i, i < N → (f i).l ≤ 140737488355328) (lo hi : Int) (hlo : 5 ≤ lo) (hhi : hi ≤ 11) :
    Calls Try.prog 35 #[.int .i64 sec, .slice ip il ic, .slice sp N cap, .int .i64 lo, .int .i64 hi] w fun r w' => r = .returned (.bool true) ∧ Apart [] w w' := by
  have HS := hid hs
  have HNIL := hid hnil
  have HO := hid ho
  have HF := hid (fits_pr w sp N cap f ho hN hb)
  clear hs hnil ho hb
  go_enter Try.func35, Try.ntmps35
  go_wp2_with fail
  refine HF.out.mono ?_
  rintro r w1 ⟨b, rfl, hfit, rfl⟩
  dsimp only
  clear HF
  cases b with
  | false =>
    go_wp2_with fail
    go_ret
    exact ⟨rfl, Apart.refl _ _⟩
  | true =>
    obtain ⟨hN3, hle⟩ := hfit rfl
    have HLE := hid hle
    clear hfit hle
    by_cases hi4 : il ≤ 4194304
    · go_wp2_with fail
      refine (alive_ok w1).mono ?_
      rintro r w2 ⟨rfl, a2⟩
      dsimp only
      have A2 := hid a2
      clear a2
      go_wp2_with fail
      have fin : Hid (∀ (W0 W : World) (P : Nat) (x : Pd) (who : Nat → Option Nat), Apart [] w1 W0 → NewP W0 W P x who → Calls Try.prog 33 #[.pointer (some ⟨P, 0, none⟩), .slice sp N cap, .int .i64 lo, .int .i64 hi] W fun r w' => r = .returned (.bool true) ∧ ∃ x' who', Pr w' P x' who' ∧ (∀ k, k < w1.heap.size → who' k = none) ∧ Apart [] w1 w') := by
        intro W0 W P x who a0 np
        have hno : ∀ k, k < W0.heap.size → who k = none := fun k hk => by
          cases hw : who k with
          | none => rfl
          | some s => have := np.nw k s hw; omega
        have hsz := a0.size
        refine (plays_ok np.pr np.bk (sc_of HO.out HLE.out (a0.trans np.ap) (fun k hk => hno k (by omega))) (by omega) lo hi hlo hhi).mono ?_
        rintro r w' ⟨rfl, ⟨x', who', p', b', n'⟩, f'⟩
        refine ⟨rfl, x', who', p', fun k hk => ?_, (a0.trans np.ap).trans' f' (fun k hk => ⟨hno k (by omega), by simp⟩)⟩
        cases hw : who' k with
        | none => rfl
        | some s =>
          rcases n' k s hw with h1 | h1 | h1
          · exact absurd (hno k (by omega)) h1
          · cases h1
          · have := np.ap.size; omega
      refine (made_pr w2 sec).mono ?_
      rintro r w3 (⟨rfl, rfl⟩ | ⟨P, x, who, rfl, np⟩)
      · dsimp only
        by_cases hi0 : il = 0
        · subst hi0
          go_wp2_with fail
          go_ret
          exact ⟨rfl, A2.out⟩
        · have hip : 0 < il := by omega
          go_wp2_with fail
          refine (taken_pr w3 ip il ic ibs (HS.out.below (A2.out.below (Nat.le_refl _) (by simp))) HNIL.out hi4).mono ?_
          rintro r w4 (⟨rfl, a4⟩ | ⟨P, x, who, rfl, np⟩)
          · dsimp only
            have A4 := hid (A2.out.trans a4)
            clear a4
            go_wp2_with fail
            go_ret
            exact ⟨rfl, A4.out⟩
          · dsimp only
            have HF := hid (fin.out w3 w4 P x who A2.out np)
            clear np
            go_wp2_with fail
            refine HF.out.mono ?_
            rintro r w5 ⟨rfl, x5, who5, p5, n5, a5⟩
            dsimp only
            have P5 := hid p5
            have N5 := hid n5
            have A5 := hid a5
            clear p5 n5 a5 HF
            go_wp2_with fail
            refine (apart_pr P5.out).mono ?_
            rintro r w6 ⟨rfl, f6⟩
            dsimp only
            have A6 := hid (A5.out.trans' f6 N5.out)
            clear f6
            go_wp2_with fail
            go_ret
            exact ⟨rfl, A6.out⟩
      · dsimp only
        have NP := hid np
        clear np
        by_cases hi0 : il = 0
        · subst hi0
          have HF := hid (fin.out w2 w3 P x who A2.out NP.out)
          go_wp2_with fail
          refine HF.out.mono ?_
          rintro r w5 ⟨rfl, x5, who5, p5, n5, a5⟩
          dsimp only
          have P5 := hid p5
          have N5 := hid n5
          have A5 := hid a5
          clear p5 n5 a5 HF
          go_wp2_with fail
          refine (apart_pr P5.out).mono ?_
          rintro r w6 ⟨rfl, f6⟩
          dsimp only
          have A6 := hid (A5.out.trans' f6 N5.out)
          clear f6
          go_wp2_with fail
          go_ret
          exact ⟨rfl, A6.out⟩
        · have hip : 0 < il := by omega
          have A3 := hid (A2.out.trans NP.out.ap)
          go_wp2_with fail
          refine (taken_pr w3 ip il ic ibs (HS.out.below (A3.out.below (Nat.le_refl _) (by simp))) HNIL.out hi4).mono ?_
          rintro r w4 (⟨rfl, a4⟩ | ⟨P2, x2, who2, rfl, np⟩)
          · dsimp only
            have A4 := hid (A3.out.trans a4)
            clear a4
            go_wp2_with fail
            go_ret
            exact ⟨rfl, A4.out⟩
          · dsimp only
            have HF := hid (fin.out w3 w4 P2 x2 who2 A3.out np)
            clear np
            go_wp2_with fail
            refine HF.out.mono ?_
            rintro r w5 ⟨rfl, x5, who5, p5, n5, a5⟩
            dsimp only
            have P5 := hid p5
            have N5 := hid n5
            have A5 := hid a5
            clear p5 n5 a5 HF
            go_wp2_with fail
            refine (apart_pr P5.out).mono ?_
            rintro r w6 ⟨rfl, f6⟩
            dsimp only
            have A6 := hid (A5.out.trans' f6 N5.out)
            clear f6
            go_wp2_with fail
            go_ret
            exact ⟨rfl, A6.out⟩
    · have hi5 : 4194304 < il := by omega
      clear hi4
      go_wp2_with fail
      go_ret
      exact ⟨rfl, Apart.refl _ _⟩
def LawW (fn : Nat) : Prop := ∀ (w : World) (sec : Int) (ip : Option Addr) (il ic : Nat) (ibs : List Int) (hs : Src w ip il ibs) (hnil : ip = none → il = 0 ∧ ic = 0) (hil : il ≤ 140737488355328) (sp : Option Addr) (N cap : Nat) (f : Nat → OpD) (ho : IsOps w sp N f) (hN : N ≤ 140737488355328) (hb : ∀ i, i < N → (f i).l ≤ 140737488355328),
    Calls Try.prog fn #[.int .i64 sec, .slice ip il ic, .slice sp N cap] w fun r w' => r = .returned (.bool true) ∧ Apart [] w w'
theorem reads_walk : LawW 7 := by
  intro w sec ip il ic ibs hs hnil hil sp N cap f ho hN hb
  have H := hid (holds_ok w sec ip il ic ibs hs hnil hil sp N cap f ho hN hb 5 5 (by decide) (by decide))
  clear hs hnil ho hb
  go_enter Try.func7, Try.ntmps7
  go_wp2_with fail
  refine H.out.mono ?_
  rintro r w1 ⟨rfl, a1⟩
  dsimp only
  have A1 := hid a1
  clear a1
  go_wp2_with fail
  go_ret
  exact ⟨rfl, A1.out⟩
theorem power_walk : LawW 8 := by
  intro w sec ip il ic ibs hs hnil hil sp N cap f ho hN hb
  have H := hid (holds_ok w sec ip il ic ibs hs hnil hil sp N cap f ho hN hb 6 9 (by decide) (by decide))
  clear hs hnil ho hb
  go_enter Try.func8, Try.ntmps8
  go_wp2_with fail
  refine H.out.mono ?_
  rintro r w1 ⟨rfl, a1⟩
  dsimp only
  have A1 := hid a1
  clear a1
  go_wp2_with fail
  go_ret
  exact ⟨rfl, A1.out⟩
theorem images_walk : LawW 9 := by
  intro w sec ip il ic ibs hs hnil hil sp N cap f ho hN hb
  have H := hid (holds_ok w sec ip il ic ibs hs hnil hil sp N cap f ho hN hb 10 11 (by decide) (by decide))
  clear hs hnil ho hb
  go_enter Try.func9, Try.ntmps9
  go_wp2_with fail
  refine H.out.mono ?_
  rintro r w1 ⟨rfl, a1⟩
  dsimp only
  have A1 := hid a1
  clear a1
  go_wp2_with fail
  go_ret
  exact ⟨rfl, A1.out⟩
end Go.Proofs.Ythmloakkefiicaa.dk
