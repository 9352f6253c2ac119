import Derived.Test.YthmloakkefiicaaSteps3
namespace Go.Proofs.Ythmloakkefiicaa.dk
open Go.ChangeShapes Go.WideShapes Go.ChangeAt Go.RowKit
set_option linter.unusedVariables false
set_option linter.unusedSimpArgs false
theorem St.of {w0 w w' : World} {P : Nat} {who : Nat → Option Nat} {K : Nat} {b : Option Nat} (f0 : Fr (fun k => who k = none) w0 w) (h : St w w' P who K b) : St w0 w' P who K b := by
  obtain ⟨⟨x', who', h1, h2, h3⟩, h4⟩ := h
  refine ⟨⟨x', who', h1, h2, fun k s hk => ?_⟩, (f0.mono (fun i _ hi => hi.1)).trans h4 (fun i _ hi => hi)⟩
  rcases h3 k s hk with h5 | h5 | h5
  · exact .inl h5
  · exact .inr (.inl h5)
  · exact .inr (.inr (Nat.le_trans f0.size h5))
theorem Fr.ofP {w w' : World} {P : Nat} {x : Pd} {who : Nat → Option Nat} (h : Pr w P x who) (a : Apart [P] w w') : Fr (fun k => who k = none) w w' := Fr.of a (fun k hm _ hk => by simp at hm; subst hm; rw [h.wP] at hk; cases hk)
/-- bytes as an answer -/
structure An (w : World) (who : Nat → Option Nat) (p : Option Addr) (l c : Nat) (bs : List Int) (GA : Option Nat) : Prop where
  at' : Ans w p l c bs GA
  fr : ∀ g, GA = some g → who g = none
  pos : ∀ g, GA = some g → 0 < l
  cap : c ≤ 4194304
theorem An.le {w : World} {who : Nat → Option Nat} {p : Option Addr} {l c : Nat} {bs : List Int} {GA : Option Nat} (h : An w who p l c bs GA) : l ≤ 4194304 := by
  have := h.cap
  have h1 := h.at'
  cases GA with
  | none => have := h1.2.1; omega
  | some g => have := h1.2.le; omega
theorem An.kept {w w' : World} {who : Nat → Option Nat} {p : Option Addr} {l c : Nat} {bs : List Int} {GA : Option Nat} (h : An w who p l c bs GA) {X : List Nat} (a : Apart X w w') (hX : ∀ k ∈ X, who k ≠ none) : An w' who p l c bs GA :=
  ⟨h.at'.kept a (fun g hg hm => hX g hm (h.fr g hg)), h.fr, h.pos, h.cap⟩
theorem St.spoilt {w w1 w' : World} {P : Nat} {who : Nat → Option Nat} {K : Nat} {GA : Option Nat} (a : Apart GA.toList w w1) (h : St w1 w' P who K GA) : St w w' P who K GA := by
  obtain ⟨⟨x', who', h1, h2, h3⟩, h4⟩ := h
  refine ⟨⟨x', who', h1, h2, fun k s hk => ?_⟩, (Fr.of a (fun k hm _ hk => hk.2 (by simpa using hm))).trans h4 (fun i _ hi => hi)⟩
  rcases h3 k s hk with h5 | h5 | h5
  · exact .inl h5
  · exact .inr (.inl h5)
  · exact .inr (.inr (Nat.le_trans a.size h5))
/-- spoil, of any answer -/
theorem spoil_An {w : World} {who : Nat → Option Nat} {p : Option Addr} {l c : Nat} {bs : List Int} {GA : Option Nat} (h : An w who p l c bs GA) :
    Calls Try.prog 27 #[.slice p l c] w fun r w' => r = .returned (.tuple #[]) ∧ Apart GA.toList w w' ∧ ∃ bs', An w' who p l c bs' GA := by
  obtain ⟨h1, h2, h3, h4⟩ := h
  cases GA with
  | none =>
    obtain ⟨rfl, rfl, rfl, rfl⟩ := h1
    refine (spoil_nil w).mono ?_
    rintro r w' ⟨rfl, a⟩
    exact ⟨rfl, a, [], ⟨rfl, rfl, rfl, rfl⟩, h2, h3, h4⟩
  | some g =>
    obtain ⟨rfl, hL⟩ := h1
    refine (spoil_ans w g l c bs hL h4 (h3 g rfl)).mono ?_
    rintro r w' ⟨rfl, a, bs', hL'⟩
    exact ⟨rfl, a, bs', ⟨rfl, hL'⟩, h2, h3, h4⟩
theorem Pr.n13 {w : World} {P : Nat} {x : Pd} {who : Nat → Option Nat} (h : Pr w P x who) : w.cell? ⟨P, 13, none⟩ = some (.int .i64 (x.n : Nat)) := by rw [cell_of_row _ _ _ _ _ _ h.row]; rfl
theorem Pr.fz {w : World} {P : Nat} {x : Pd} {who : Nat → Option Nat} (h : Pr w P x who) (i : Nat) : w.frozen? ⟨P, i, none⟩ = false := frozen_of_row _ _ _ _ _ h.row
/-- keep, of any answer of a pair -/
theorem keep_pr {w : World} {P : Nat} {x : Pd} {who : Nat → Option Nat} (h : Pr w P x who) {K : Nat} (hK : Bk x K) (hK9 : K ≤ 1000) {p : Option Addr} {l c : Nat} {bs : List Int} {GA : Option Nat} (hA : An w who p l c bs GA) :
    Calls Try.prog 58 #[.pointer (some ⟨P, 2, none⟩), .slice p l c] w fun r w' => r = .returned (.tuple #[]) ∧ St w w' P who (K + 1) GA := by
  have hm := hK.mark
  refine (keep_any w P x.row h.prow p l c bs GA hA.at' hA.le x.mark (by omega) (x.v 2) (x.v 3) _ _ _ _ (h.sl 2 (by decide)).at' (h.sl 3 (by decide)).at' rfl rfl rfl (by have := h.bd.ab4; simpa [Pd.c] using this) (by simp [Pd.c])).mono ?_
  intro r w' kp
  exact h.keepB hA.fr (fun g hg => hA.at'.lt' hg) hA.le kp K hK
theorem leave_pr {w : World} {P : Nat} {x : Pd} {who : Nat → Option Nat} (h : Pr w P x who) {K : Nat} (hK : Bk x K) {p : Option Addr} {l c : Nat} {bs : List Int} {GA : Option Nat} (hA : An w who p l c bs GA) :
    Calls Try.prog 57 #[.pointer (some ⟨P, 2, none⟩), .slice p l c] w fun r w' => (r = .returned (.bool false) ∧ w' = w) ∨ (r = .returned (.bool true) ∧ St w w' P who K GA) := by
  have hsz := h.bd.size
  obtain ⟨lp7, lc7, hv7⟩ := (h.sl 7 (by decide)).at'.shape
  have hl7 : (x.c 7).length = x.lf.length := by simp [Pd.c]
  have hl8 : (x.c 8).length = x.lf.length := by simp [Pd.c]
  by_cases hc : 4194304 - x.size < l ∨ 100 ≤ x.lf.length
  · refine (leave_no w P x.row h.prow p l c x.size x.lf.length lp7 lc7 rfl (by rw [← hl7, ← hv7]; rfl) hsz hc).mono ?_
    rintro r w' ⟨rfl, rfl⟩
    exact .inl ⟨rfl, rfl⟩
  · have hgs : ∀ g o, p = some ⟨g, o, none⟩ → g ≠ P ∧ (∀ k, x.G 7 = some k → g ≠ k) := by
      intro g o hp
      have hA' := hA.at'
      cases hGA : GA with
      | none => rw [hGA] at hA'; have := hA'.1; rw [this] at hp; cases hp
      | some g' =>
        rw [hGA] at hA'
        have h2 := hA'.1
        rw [hp] at h2
        have e : g = g' := by injection h2 with h3; injection h3
        have hw := hA.fr g' hGA
        subst e
        refine ⟨fun e => ?_, fun k hk e => ?_⟩
        · rw [e, h.wP] at hw; cases hw
        · rw [e, (h.sl 7 (by decide)).tg k hk] at hw; cases hw
    refine (leave_yes w P x.row h.prow p l c bs hA.at'.src hA.at'.nil x.size (x.v 7) (x.v 8) _ _ (x.G 7) (x.G 8) (h.sl 7 (by decide)).at' (h.sl 8 (by decide)).at' rfl rfl rfl hsz (by omega) (by rw [hl7]; omega) (by rw [hl8]; omega) hgs).mono ?_
    rintro r w' ⟨rfl, lv', wv', GL', GW', row, s7, s8, a, o7, o8⟩
    exact .inr ⟨rfl, h.left hA.at' hA.fr (by omega) (by omega) row s7 s8 a o7 o8 K hK⟩
set_option maxHeartbeats 2000000 in
theorem answered_ok {w : World} {P : Nat} {x : Pd} {who : Nat → Option Nat} (h : Pr w P x who) {K : Nat} (hK : Bk x K) (hK9 : K ≤ 900) {p : Option Addr} {l c : Nat} {bs : List Int} {GA : Option Nat} (hA : An w who p l c bs GA) :
    Calls Try.prog 52 #[.pointer (some ⟨P, 0, none⟩), .slice p l c] w fun r w' => r = .returned (.tuple #[]) ∧ St w w' P who (K + 2) GA := by
  have hn := hK.n
  obtain ⟨n, Hn⟩ : ∃ n : Nat, Hid (n = x.n) := ⟨_, rfl⟩
  have hn9 : n ≤ 900 := by rw [Hn.out]; omega
  have e13 : w.cell? ⟨P, 13, none⟩ = some (.int .i64 (n : Nat)) := by rw [Hn.out]; exact h.n13
  have f13 := h.fz 13
  obtain ⟨h1, a1⟩ := h.setN (n + 1)
  have hK1 : Bk { x with n := n + 1 } (K + 1) := ⟨Nat.le_succ_of_le hK.mark, by show n + 1 ≤ K + 1; rw [Hn.out]; omega, Nat.le_succ_of_le hK.wr⟩
  obtain ⟨y, Hy⟩ : ∃ y : Pd, Hid (y = { x with n := n + 1 }) := ⟨_, rfl⟩
  have HK1 : Hid (Bk y (K + 1)) := by rw [Hy.out]; exact hK1
  have HP1 : Hid (Pr (w.setCell ⟨P, 13, none⟩ (.int .i64 ((n : Int) + 1))) P y who) := by rw [Hy.out]; exact h1
  have hA1 := hA.kept a1 (fun k hm => by simp at hm; subst hm; rw [h.wP]; simp)
  have HA1 : Hid (An (w.setCell ⟨P, 13, none⟩ (.int .i64 ((n : Int) + 1))) who p l c bs GA) := hA1
  have F1 : Hid (Fr (fun k => who k = none) w (w.setCell ⟨P, 13, none⟩ (.int .i64 ((n : Int) + 1)))) := Fr.ofP h a1
  clear h hK hA hn h1 hA1 a1 hK1 Hy
  go_enter Try.func52, Try.ntmps52
  go_wp2_with fail
  · generalize w.setCell ⟨P, 13, none⟩ (.int .i64 ((n : Int) + 1)) = W1 at *
    refine (spoil_An HA1.out).mono ?_
    rintro r w2 ⟨rfl, a2, bs2, hA2⟩
    have HP2 : Hid (Pr w2 P y who) := HP1.out.kept (Fr.of a2 (fun k hm _ hk => hk (HA1.out.fr k (by simpa using hm))))
    have HA2 : Hid (An w2 who p l c bs2 GA) := hA2
    have HS : Hid (Apart GA.toList W1 w2) := a2
    clear hA2 a2
    dsimp only
    go_wp2_with fail
    refine (keep_pr HP2.out HK1.out (by omega) HA2.out).mono ?_
    rintro r w3 ⟨rfl, s3⟩
    have S3 : Hid (St w w3 P who (K + 2) GA) := St.of F1.out (St.spoilt HS.out s3)
    clear s3
    dsimp only
    go_wp2_with fail
    go_end0
    exact ⟨rfl, S3.out⟩
  · generalize w.setCell ⟨P, 13, none⟩ (.int .i64 ((n : Int) + 1)) = W1 at *
    refine (leave_pr HP1.out HK1.out HA1.out).mono ?_
    rintro r w2 (⟨rfl, rfl⟩ | ⟨rfl, s2⟩)
    · dsimp only
      go_wp2_with fail
      refine (spoil_An HA1.out).mono ?_
      rintro r w2 ⟨rfl, a2, bs2, hA2⟩
      have HP2 : Hid (Pr w2 P y who) := HP1.out.kept (Fr.of a2 (fun k hm _ hk => hk (HA1.out.fr k (by simpa using hm))))
      have HA2 : Hid (An w2 who p l c bs2 GA) := hA2
      have HS := a2
      have HS : Hid (Apart GA.toList _ w2) := a2
      clear hA2 a2
      dsimp only
      go_wp2_with fail
      refine (keep_pr HP2.out HK1.out (by omega) HA2.out).mono ?_
      rintro r w3 ⟨rfl, s3⟩
      have S3 : Hid (St w w3 P who (K + 2) GA) := St.of F1.out (St.spoilt HS.out s3)
      clear s3
      dsimp only
      go_wp2_with fail
      go_end0
      exact ⟨rfl, S3.out⟩
    · have S3 : Hid (St w w2 P who (K + 2) GA) := St.of F1.out (by
        obtain ⟨⟨x', who', q1, q2, q3⟩, q4⟩ := s2
        exact ⟨⟨x', who', q1, q2.up (by omega), q3⟩, q4⟩)
      clear s2
      dsimp only
      go_wp2_with fail
      go_end0
      exact ⟨rfl, S3.out⟩
end Go.Proofs.Ythmloakkefiicaa.dk
