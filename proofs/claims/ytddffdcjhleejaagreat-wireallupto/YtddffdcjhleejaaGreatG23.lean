import Derived.Test.YtddffdcjhleejaaGreatG1
import Derived.Test.YtddffdcjhleejaaGreatG21
import Derived.Test.YtddffdcjhleejaaGreatG22
namespace Go.Proofs.YtddffdcjhleejaaGreat.ds
open Go.ChangeShapes Go.WideShapes Go.ChangeAt Go.RowKit Go.Sort
set_option linter.unusedVariables false
set_option linter.unusedSimpArgs false
/-- what the i-th of a list must be -/
def LsI (key : ByteArray) (rs : List Wr) (i : Nat) : Prop := GoodW (gR rs i) ∧ keyIs key (gR rs i).k ∧ (0 < i → risW (gR rs (i - 1)).n (gR rs (i - 1)).c (gR rs i).n (gR rs i).c = true)
theorem LsI_ws {key : ByteArray} : ∀ {rs : List Wr} {an ac : Int}, (∀ i, i < rs.length → LsI key rs i) → (0 < rs.length → risW an ac (gR rs 0).n (gR rs 0).c = true) → WsOk key an ac rs
  | [], _, _, _, _ => trivial
  | r :: l, an, ac, h, h0 => by
    have a := h 0 (by simp)
    refine ⟨⟨a.1, h0 (by simp), a.2.1⟩, LsI_ws (rs := l) (fun i hi => ?_) (fun hl => ?_)⟩
    · have b := h (i + 1) (by simpa using hi)
      refine ⟨b.1, b.2.1, fun hp => ?_⟩
      have := b.2.2 (by omega)
      cases i with
      | zero => omega
      | succ j => exact this
    · exact (h 1 (by simpa using hl)).2.2 (by omega)
theorem ws_LsI {key : ByteArray} {rs : List Wr} (h : WsOk key 0 0 rs) : ∀ i, i < rs.length → LsI key rs i := by
  intro i hi
  obtain ⟨a, b, c⟩ := h.snd i hi
  exact ⟨a, c, fun hp => by rw [if_neg (by omega), if_neg (by omega)] at b; exact b⟩
theorem ls_iff {key : ByteArray} {rs : List Wr} : (∀ i, i < rs.length → LsI key rs i) ↔ WsOk key 0 0 rs := ⟨fun h => LsI_ws h (fun hl => (h 0 hl).1.ris), ws_LsI⟩
set_option maxHeartbeats 16000000 in
set_option maxRecDepth 100000 in
theorem rlist_ok {w : World} {s : Sl} {es : List E} {rs : List Wr} (h : RWs w s es rs) (most : Nat) (key : ByteArray) (v : Bool) (hv : v = true ↔ rs.length ≤ most ∧ WsOk key 0 0 rs) : Calls Tryz.prog 84 #[.slice s.p s.n s.c, .int .i64 (most : Nat), .string key] w fun r w' => r = .returned (.bool v) ∧ Apart [] w w' := by
  rw [← ls_iff] at hv
  have HX := hid h
  have hlim := h.lim
  have HRL := hid h.rl
  rw [h.rl] at hv
  have HV := hid hv
  clear h hv
  obtain ⟨sp, n, sc⟩ := s
  simp only at hlim HRL HV ⊢
  by_cases hm : n ≤ most
  · have hmi : ¬ ((n : Nat) : Int) > (most : Int) := by omega
    go_enter Tryz.func84, Tryz.ntmps84
    go_wp2_with fail
    go_loopw [7, 8] (fun u _ wt => ∃ i : Nat, u = .int .i64 (i : Nat) ∧ i ≤ n ∧ Apart [] w wt ∧ ∀ j, j < i → LsI key rs j) (fun u _ _ => n - (intOf u).toNat)
    case atStart => exact ⟨0, rfl, Nat.zero_le _, Apart.refl _ _, fun j hj => absurd hj (by omega)⟩
    case round =>
      obtain ⟨i, rfl, hi, hap, hsm⟩ := hrel
      have HA := hid hap
      have HS := hid hsm
      clear hap hsm
      by_cases hlt : i < n
      · have hlti : ((i : Nat) : Int) < (n : Int) := by omega
        have HXr := hid (HX.out.kept0 HA.out)
        obtain ⟨P, o, hP, hPl, c0, c1, c2, c3, c4, c5⟩ := HXr.out.cells i hlt
        simp only at hP
        subst hP
        obtain ⟨x, Hx⟩ : ∃ x, Hid (x = gE es i) := ⟨_, rfl⟩
        have hrd := HXr.out.each i hlt
        rw [← Hx.out] at c0 c1 c2 c3 c4 c5 hrd
        obtain ⟨bg, hbg⟩ := bool_of' (GoodW (gR rs i))
        have HCg : Hid (∀ W, Apart [] wr W → Calls Tryz.prog 56 #[.agg #[.int .i64 x.n, .int .i64 x.c, .string x.k, .bool x.d, .slice x.v.p x.v.n x.v.c, .slice x.x.p x.x.n x.x.c]] W fun r w' => r = .returned (.bool bg) ∧ Apart [] W w') := fun W a => good_ok W x (gR rs i) (hrd.kept0 a) bg hbg
        have HRD := hid hrd
        have HBG := hid hbg
        clear hrd hbg
        go_wp2_with fail
        refine (HCg.out wr (Apart.refl _ _)).mono ?_
        rintro _ w2 ⟨rfl, ha2⟩
        have HA2 : Hid (Apart [] w w2) := HA.out.trans ha2
        have HC : Hid (∀ W, Apart [] w2 W → W.cell? ⟨P, o + i * 6, none⟩ = some (.int .i64 x.n) ∧ W.cell? ⟨P, o + i * 6 + 1, none⟩ = some (.int .i64 x.c) ∧ W.cell? ⟨P, o + i * 6 + 2, none⟩ = some (.string x.k)) := fun W aW => ⟨((ha2.trans aW).cell hPl (by simp)).trans c0, ((ha2.trans aW).cell hPl (by simp)).trans c1, ((ha2.trans aW).cell hPl (by simp)).trans c2⟩
        clear ha2 c0 c1 c2 c3 c4 c5
        try dsimp only
        go_upto_region 7 with fail
        go_cut [57] from 24 to 57 (fun a wx => ∃ b : Bool, .bool b = a ∧ Apart [] w wx ∧ (b = false ↔ LsI key rs i))
        case first =>
          cases bg with
          | false =>
            have HI : Hid (true = false ↔ LsI key rs i) := ⟨fun h => (by cases h), fun h => by have := HBG.out.2 h.1; cases this⟩
            refine wp_region_held_drew (S := fun W => Apart [] w2 W) (by kernel_rfl) (Apart.refl [] w2).drew (fun hHeld => ?_)
            generalize w2.drew = wd at *
            refine tkn 0 24 (.bool false) rfl ?_ ?_
            · intro W hSW; go_simp
            refine tkn 1 25 (.bool true) rfl ?_ ?_
            · intro W hSW; go_simp
            refine tkn 2 26 (.bool true) rfl ?_ ?_
            · intro W hSW; go_simp
            refine tun 3 27 rfl ?_
            refine tun 4 28 rfl ?_
            refine tun 5 29 rfl ?_
            refine tun 6 30 rfl ?_
            refine tun 7 31 rfl ?_
            refine tun 8 32 rfl ?_
            refine tun 9 33 rfl ?_
            refine tun 10 34 rfl ?_
            refine tun 11 35 rfl ?_
            refine tun 12 36 rfl ?_
            refine tun 13 37 rfl ?_
            refine tkn 14 38 (.bool true) rfl ?_ ?_
            · intro W hSW; go_simp
            refine tkn 15 39 (.bool true) rfl ?_ ?_
            · intro W hSW; go_simp
            refine tun 16 40 rfl ?_
            refine tun 17 41 rfl ?_
            refine tun 18 42 rfl ?_
            refine tun 19 43 rfl ?_
            refine tun 20 44 rfl ?_
            refine tun 21 45 rfl ?_
            refine tun 22 46 rfl ?_
            refine tun 23 47 rfl ?_
            refine tun 24 48 rfl ?_
            refine tun 25 49 rfl ?_
            refine tun 26 50 rfl ?_
            refine tun 27 51 rfl ?_
            refine tun 28 52 rfl ?_
            refine tun 29 53 rfl ?_
            refine wpAnyH_pass 30 (o := ⟨some 54, _, _, _, _, _⟩) (by kernel_rfl) rfl (by kernel_rfl) (by assumption) ?_
            try simp only [Act.put, List.setIfInBounds_toArray, List.set_cons_zero, List.set_cons_succ]
            refine tun 31 55 rfl ?_
            refine tun 32 56 rfl ?_
            refine tkn 33 57 (.bool true) rfl ?_ ?_
            · intro W hSW; go_simp
            refine wpAnyH_done (by kernel_rfl) ?_ _
            go_wp2_with fail
            go_meet
            exact ⟨true, rfl, HA2.out.trans hHeld, by first | exact HI.out | simpa using HI.out⟩
          | true =>
            have HGD : Hid (GoodW (gR rs i)) := HBG.out.1 rfl
            cases hke : keq key ⟨#[]⟩ with
            | true =>
              have hkeb : (key.toList == []) = true := by rw [← keq_e]; exact hke
              have HKI : Hid (keyIs key (gR rs i).k) := .inl ((keq_iff _ _).1 hke)
              clear hke
              rcases Nat.eq_zero_or_pos i with h0 | h0
              · have HI : Hid (false = false ↔ LsI key rs i) := ⟨fun _ => ⟨HGD.out, HKI.out, fun h => absurd h (by omega)⟩, fun _ => rfl⟩
                have hz : ¬ ((i : Nat) : Int) > 0 := by omega
                have HZ0 := hid h0
                clear h0
                refine wp_region_held_drew (S := fun W => Apart [] w2 W) (by kernel_rfl) (Apart.refl [] w2).drew (fun hHeld => ?_)
                generalize w2.drew = wd at *
                refine tkn 0 24 (.bool true) rfl ?_ ?_
                · intro W hSW; go_simp
                refine tkn 1 25 (.bool false) rfl ?_ ?_
                · intro W hSW; go_simp
                refine tkn 2 26 (.bool false) rfl ?_ ?_
                · intro W hSW; go_simp
                refine tkn 3 27 (.string key) rfl ?_ ?_
                · intro W hSW; go_simp
                refine tkn 4 28 (.bool false) rfl ?_ ?_
                · intro W hSW; go_simp
                refine tkn 5 29 (.bool false) rfl ?_ ?_
                · intro W hSW; go_simp
                refine tun 6 30 rfl ?_
                refine tun 7 31 rfl ?_
                refine tun 8 32 rfl ?_
                refine tun 9 33 rfl ?_
                refine tun 10 34 rfl ?_
                refine tun 11 35 rfl ?_
                refine tun 12 36 rfl ?_
                refine tkn 13 37 (.bool false) rfl ?_ ?_
                · intro W hSW; go_simp
                refine tkn 14 38 (.bool false) rfl ?_ ?_
                · intro W hSW; go_simp
                refine tkn 15 39 (.bool false) rfl ?_ ?_
                · intro W hSW; go_simp
                refine tkn 16 40 (.int .i64 (i : Nat)) rfl ?_ ?_
                · intro W hSW; go_simp
                refine tkn 17 41 (.bool false) rfl ?_ ?_
                · intro W hSW; go_simp; exact HZ0.out
                refine tkn 18 42 (.bool false) rfl ?_ ?_
                · intro W hSW; go_simp
                refine tun 19 43 rfl ?_
                refine tun 20 44 rfl ?_
                refine tun 21 45 rfl ?_
                refine tun 22 46 rfl ?_
                refine tun 23 47 rfl ?_
                refine tun 24 48 rfl ?_
                refine tun 25 49 rfl ?_
                refine tun 26 50 rfl ?_
                refine tun 27 51 rfl ?_
                refine tun 28 52 rfl ?_
                refine tun 29 53 rfl ?_
                refine wpAnyH_pass 30 (o := ⟨some 54, _, _, _, _, _⟩) (by kernel_rfl) rfl (by kernel_rfl) (by assumption) ?_
                try simp only [Act.put, List.setIfInBounds_toArray, List.set_cons_zero, List.set_cons_succ]
                refine tun 31 55 rfl ?_
                refine tkn 32 56 (.bool false) rfl ?_ ?_
                · intro W hSW; go_simp
                refine tkn 33 57 (.bool false) rfl ?_ ?_
                · intro W hSW; go_simp
                refine wpAnyH_done (by kernel_rfl) ?_ _
                go_wp2_with fail
                go_meet
                exact ⟨false, rfl, HA2.out.trans hHeld, by first | exact HI.out | simpa using HI.out⟩
              · obtain ⟨t, Hit⟩ : ∃ t, Hid (i = t + 1) := ⟨i - 1, by unfold Hid; omega⟩
                have htn : ((t : Nat) : Int) < (n : Int) := by have := Hit.out; omega
                have hz : ((i : Nat) : Int) > 0 := by omega
                have HW50 : Hid (IntKind.i64.wrap (((i : Nat) : Int) - 1) = ((t : Nat) : Int)) := by
                  have e1 : ((i : Nat) : Int) - 1 = ((t : Nat) : Int) := by have := Hit.out; omega
                  rw [e1]; unfold Hid; rw [IntKind.wrap_i64]; omega
                obtain ⟨y, Hy⟩ : ∃ y, Hid (y = gE es t) := ⟨_, rfl⟩
                have HXc := hid (HX.out.kept0 HA2.out)
                have HM : Hid (∀ W, Apart [] w2 W → W.cell? ⟨P, o + t * 6, none⟩ = some (.int .i64 y.n) ∧ W.cell? ⟨P, o + t * 6 + 1, none⟩ = some (.int .i64 y.c)) := fun W aW => by
                  obtain ⟨P', o', hP', hPl', d0, d1, _⟩ := HXc.out.cells t (by have := Hit.out; show t < n; omega)
                  simp at hP'
                  obtain ⟨rfl, rfl⟩ := hP'
                  rw [← Hy.out] at d0 d1
                  exact ⟨(aW.cell hPl' (by simp)).trans d0, (aW.cell hPl' (by simp)).trans d1⟩
                obtain ⟨br, Hbr⟩ : ∃ br, Hid (br = risW y.n y.c x.n x.c) := ⟨_, rfl⟩
                have HCr : Hid (∀ W, Calls Tryz.prog 95 #[.agg #[.int .i64 x.n, .int .i64 x.c], .agg #[.int .i64 y.n, .int .i64 y.c]] W fun r w' => r = .returned (.bool br) ∧ Apart [] W w') := fun W => rrises_ok _ _ _ _ br Hbr.out W
                have HI : Hid ((!br) = false ↔ LsI key rs i) := by
                  have ry := HXc.out.each t (by have := Hit.out; show t < n; omega)
                  rw [← Hy.out] at ry
                  have e1 : i - 1 = t := by have := Hit.out; omega
                  have e2 : br = risW (gR rs (i - 1)).n (gR rs (i - 1)).c (gR rs i).n (gR rs i).c := by rw [Hbr.out, ry.n, ry.c, HRD.out.n, HRD.out.c, e1]
                  unfold Hid
                  rw [Bool.not_eq_false', e2]
                  exact ⟨fun h => ⟨HGD.out, HKI.out, fun _ => h⟩, fun h => h.2.2 h0⟩
                clear h0
                refine wp_region_held_drew (S := fun W => Apart [] w2 W) (by kernel_rfl) (Apart.refl [] w2).drew (fun hHeld => ?_)
                generalize w2.drew = wd at *
                refine tkn 0 24 (.bool true) rfl ?_ ?_
                · intro W hSW; go_simp
                refine tkn 1 25 (.bool false) rfl ?_ ?_
                · intro W hSW; go_simp
                refine tkn 2 26 (.bool false) rfl ?_ ?_
                · intro W hSW; go_simp
                refine tkn 3 27 (.string key) rfl ?_ ?_
                · intro W hSW; go_simp
                refine tkn 4 28 (.bool false) rfl ?_ ?_
                · intro W hSW; go_simp
                refine tkn 5 29 (.bool false) rfl ?_ ?_
                · intro W hSW; go_simp
                refine tun 6 30 rfl ?_
                refine tun 7 31 rfl ?_
                refine tun 8 32 rfl ?_
                refine tun 9 33 rfl ?_
                refine tun 10 34 rfl ?_
                refine tun 11 35 rfl ?_
                refine tun 12 36 rfl ?_
                refine tkn 13 37 (.bool false) rfl ?_ ?_
                · intro W hSW; go_simp
                refine tkn 14 38 (.bool false) rfl ?_ ?_
                · intro W hSW; go_simp
                refine tkn 15 39 (.bool false) rfl ?_ ?_
                · intro W hSW; go_simp
                refine tkn 16 40 (.int .i64 (i : Nat)) rfl ?_ ?_
                · intro W hSW; go_simp
                refine tkn 17 41 (.bool true) rfl ?_ ?_
                · intro W hSW; go_simp; omega
                refine tkn 18 42 (.bool true) rfl ?_ ?_
                · intro W hSW; go_simp
                refine tkn 19 43 (.slice (some ⟨P, o, none⟩) n sc) rfl ?_ ?_
                · intro W hSW; go_simp
                refine tkn 20 44 (.int .i64 (i : Nat)) rfl ?_ ?_
                · intro W hSW; go_simp
                refine tkn 21 45 (.pointer (some ⟨P, o + i * 6, none⟩)) rfl ?_ ?_
                · intro W hSW; go_simp
                refine tkn 22 46 (.pointer (some ⟨P, o + i * 6, none⟩)) rfl ?_ ?_
                · intro W hSW; go_simp
                refine tkn 23 47 (.agg #[.int .i64 x.n, .int .i64 x.c]) rfl ?_ ?_
                · intro W hSW; obtain ⟨c0, c1, c2⟩ := HC.out W hSW; go_simp
                refine tkn 24 48 (.slice (some ⟨P, o, none⟩) n sc) rfl ?_ ?_
                · intro W hSW; go_simp
                refine tkn 25 49 (.int .i64 (i : Nat)) rfl ?_ ?_
                · intro W hSW; go_simp
                refine tkn 26 50 (.int .i64 (t : Nat)) rfl ?_ ?_
                · intro W hSW; have hw50 := HW50.out; go_simp
                refine tkn 27 51 (.pointer (some ⟨P, o + t * 6, none⟩)) rfl ?_ ?_
                · intro W hSW; go_simp
                refine tkn 28 52 (.pointer (some ⟨P, o + t * 6, none⟩)) rfl ?_ ?_
                · intro W hSW; go_simp
                refine tkn 29 53 (.agg #[.int .i64 y.n, .int .i64 y.c]) rfl ?_ ?_
                · intro W hSW; obtain ⟨m0, m1⟩ := HM.out W hSW; go_simp
                refine wpAnyH_ready (rs := [30]) (by kernel_rfl) (by simp) ?_
                refine AllReadyH.cons rfl (fun KK hKK => ?_) AllReadyH.nil
                go_simp
                refine (HCr.out _).mono ?_
                rintro _ w6 ⟨rfl, a6⟩
                have hS6 : Apart [] w2 w6 := hHeld.trans a6
                clear a6
                try dsimp only
                refine hKK.out _ _ hS6 (fun hHeld => ?_)
                clear hKK KK
                refine tkn 31 55 (.bool (!br)) rfl ?_ ?_
                · intro W hSW; go_simp
                refine tkn 32 56 (.bool (!br)) rfl ?_ ?_
                · intro W hSW; go_simp
                refine tkn 33 57 (.bool (!br)) rfl ?_ ?_
                · intro W hSW; go_simp
                refine wpAnyH_done (by kernel_rfl) ?_ _
                go_wp2_with fail
                go_meet
                exact ⟨(!br), rfl, HA2.out.trans hHeld, by first | exact HI.out | simpa using HI.out⟩
            | false =>
              have hkeb : (key.toList == []) = false := by rw [← keq_e]; exact hke
              cases hkm : keq x.k key with
              | false =>
                have hkmb : (x.k.toList == key.toList) = false := hkm
                have HI : Hid (true = false ↔ LsI key rs i) := ⟨fun h => (by cases h), fun h => by
                  rcases h.2.1 with h1 | h1
                  · rw [h1] at hke; simp [keq] at hke
                  · rw [← HRD.out.k] at h1; rw [h1] at hkm; simp [keq] at hkm⟩
                clear hke hkm
                refine wp_region_held_drew (S := fun W => Apart [] w2 W) (by kernel_rfl) (Apart.refl [] w2).drew (fun hHeld => ?_)
                generalize w2.drew = wd at *
                refine tkn 0 24 (.bool true) rfl ?_ ?_
                · intro W hSW; go_simp
                refine tkn 1 25 (.bool false) rfl ?_ ?_
                · intro W hSW; go_simp
                refine tkn 2 26 (.bool false) rfl ?_ ?_
                · intro W hSW; go_simp
                refine tkn 3 27 (.string key) rfl ?_ ?_
                · intro W hSW; go_simp
                refine tkn 4 28 (.bool true) rfl ?_ ?_
                · intro W hSW; go_simp
                refine tkn 5 29 (.bool true) rfl ?_ ?_
                · intro W hSW; go_simp
                refine tkn 6 30 (.slice (some ⟨P, o, none⟩) n sc) rfl ?_ ?_
                · intro W hSW; go_simp
                refine tkn 7 31 (.int .i64 (i : Nat)) rfl ?_ ?_
                · intro W hSW; go_simp
                refine tkn 8 32 (.pointer (some ⟨P, o + i * 6, none⟩)) rfl ?_ ?_
                · intro W hSW; go_simp
                refine tkn 9 33 (.pointer (some ⟨P, o + i * 6 + 2, none⟩)) rfl ?_ ?_
                · intro W hSW; go_simp
                refine tkn 10 34 (.string x.k) rfl ?_ ?_
                · intro W hSW; obtain ⟨c0, c1, c2⟩ := HC.out W hSW; go_simp
                refine tkn 11 35 (.string key) rfl ?_ ?_
                · intro W hSW; go_simp
                refine tkn 12 36 (.bool true) rfl ?_ ?_
                · intro W hSW; go_simp
                refine tkn 13 37 (.bool true) rfl ?_ ?_
                · intro W hSW; go_simp
                refine tkn 14 38 (.bool true) rfl ?_ ?_
                · intro W hSW; go_simp
                refine tkn 15 39 (.bool true) rfl ?_ ?_
                · intro W hSW; go_simp
                refine tun 16 40 rfl ?_
                refine tun 17 41 rfl ?_
                refine tun 18 42 rfl ?_
                refine tun 19 43 rfl ?_
                refine tun 20 44 rfl ?_
                refine tun 21 45 rfl ?_
                refine tun 22 46 rfl ?_
                refine tun 23 47 rfl ?_
                refine tun 24 48 rfl ?_
                refine tun 25 49 rfl ?_
                refine tun 26 50 rfl ?_
                refine tun 27 51 rfl ?_
                refine tun 28 52 rfl ?_
                refine tun 29 53 rfl ?_
                refine wpAnyH_pass 30 (o := ⟨some 54, _, _, _, _, _⟩) (by kernel_rfl) rfl (by kernel_rfl) (by assumption) ?_
                try simp only [Act.put, List.setIfInBounds_toArray, List.set_cons_zero, List.set_cons_succ]
                refine tun 31 55 rfl ?_
                refine tun 32 56 rfl ?_
                refine tkn 33 57 (.bool true) rfl ?_ ?_
                · intro W hSW; go_simp
                refine wpAnyH_done (by kernel_rfl) ?_ _
                go_wp2_with fail
                go_meet
                exact ⟨true, rfl, HA2.out.trans hHeld, by first | exact HI.out | simpa using HI.out⟩
              | true =>
                have hkmb : (x.k.toList == key.toList) = true := hkm
                have HKI : Hid (keyIs key (gR rs i).k) := .inr (by rw [← HRD.out.k]; exact (keq_iff _ _).1 hkm)
                clear hke hkm
                rcases Nat.eq_zero_or_pos i with h0 | h0
                · have HI : Hid (false = false ↔ LsI key rs i) := ⟨fun _ => ⟨HGD.out, HKI.out, fun h => absurd h (by omega)⟩, fun _ => rfl⟩
                  have hz : ¬ ((i : Nat) : Int) > 0 := by omega
                  have HZ0 := hid h0
                  clear h0
                  refine wp_region_held_drew (S := fun W => Apart [] w2 W) (by kernel_rfl) (Apart.refl [] w2).drew (fun hHeld => ?_)
                  generalize w2.drew = wd at *
                  refine tkn 0 24 (.bool true) rfl ?_ ?_
                  · intro W hSW; go_simp
                  refine tkn 1 25 (.bool false) rfl ?_ ?_
                  · intro W hSW; go_simp
                  refine tkn 2 26 (.bool false) rfl ?_ ?_
                  · intro W hSW; go_simp
                  refine tkn 3 27 (.string key) rfl ?_ ?_
                  · intro W hSW; go_simp
                  refine tkn 4 28 (.bool true) rfl ?_ ?_
                  · intro W hSW; go_simp
                  refine tkn 5 29 (.bool true) rfl ?_ ?_
                  · intro W hSW; go_simp
                  refine tkn 6 30 (.slice (some ⟨P, o, none⟩) n sc) rfl ?_ ?_
                  · intro W hSW; go_simp
                  refine tkn 7 31 (.int .i64 (i : Nat)) rfl ?_ ?_
                  · intro W hSW; go_simp
                  refine tkn 8 32 (.pointer (some ⟨P, o + i * 6, none⟩)) rfl ?_ ?_
                  · intro W hSW; go_simp
                  refine tkn 9 33 (.pointer (some ⟨P, o + i * 6 + 2, none⟩)) rfl ?_ ?_
                  · intro W hSW; go_simp
                  refine tkn 10 34 (.string x.k) rfl ?_ ?_
                  · intro W hSW; obtain ⟨c0, c1, c2⟩ := HC.out W hSW; go_simp
                  refine tkn 11 35 (.string key) rfl ?_ ?_
                  · intro W hSW; go_simp
                  refine tkn 12 36 (.bool false) rfl ?_ ?_
                  · intro W hSW; go_simp
                  refine tkn 13 37 (.bool false) rfl ?_ ?_
                  · intro W hSW; go_simp
                  refine tkn 14 38 (.bool false) rfl ?_ ?_
                  · intro W hSW; go_simp
                  refine tkn 15 39 (.bool false) rfl ?_ ?_
                  · intro W hSW; go_simp
                  refine tkn 16 40 (.int .i64 (i : Nat)) rfl ?_ ?_
                  · intro W hSW; go_simp
                  refine tkn 17 41 (.bool false) rfl ?_ ?_
                  · intro W hSW; go_simp; exact HZ0.out
                  refine tkn 18 42 (.bool false) rfl ?_ ?_
                  · intro W hSW; go_simp
                  refine tun 19 43 rfl ?_
                  refine tun 20 44 rfl ?_
                  refine tun 21 45 rfl ?_
                  refine tun 22 46 rfl ?_
                  refine tun 23 47 rfl ?_
                  refine tun 24 48 rfl ?_
                  refine tun 25 49 rfl ?_
                  refine tun 26 50 rfl ?_
                  refine tun 27 51 rfl ?_
                  refine tun 28 52 rfl ?_
                  refine tun 29 53 rfl ?_
                  refine wpAnyH_pass 30 (o := ⟨some 54, _, _, _, _, _⟩) (by kernel_rfl) rfl (by kernel_rfl) (by assumption) ?_
                  try simp only [Act.put, List.setIfInBounds_toArray, List.set_cons_zero, List.set_cons_succ]
                  refine tun 31 55 rfl ?_
                  refine tkn 32 56 (.bool false) rfl ?_ ?_
                  · intro W hSW; go_simp
                  refine tkn 33 57 (.bool false) rfl ?_ ?_
                  · intro W hSW; go_simp
                  refine wpAnyH_done (by kernel_rfl) ?_ _
                  go_wp2_with fail
                  go_meet
                  exact ⟨false, rfl, HA2.out.trans hHeld, by first | exact HI.out | simpa using HI.out⟩
                · obtain ⟨t, Hit⟩ : ∃ t, Hid (i = t + 1) := ⟨i - 1, by unfold Hid; omega⟩
                  have htn : ((t : Nat) : Int) < (n : Int) := by have := Hit.out; omega
                  have hz : ((i : Nat) : Int) > 0 := by omega
                  have HW50 : Hid (IntKind.i64.wrap (((i : Nat) : Int) - 1) = ((t : Nat) : Int)) := by
                    have e1 : ((i : Nat) : Int) - 1 = ((t : Nat) : Int) := by have := Hit.out; omega
                    rw [e1]; unfold Hid; rw [IntKind.wrap_i64]; omega
                  obtain ⟨y, Hy⟩ : ∃ y, Hid (y = gE es t) := ⟨_, rfl⟩
                  have HXc := hid (HX.out.kept0 HA2.out)
                  have HM : Hid (∀ W, Apart [] w2 W → W.cell? ⟨P, o + t * 6, none⟩ = some (.int .i64 y.n) ∧ W.cell? ⟨P, o + t * 6 + 1, none⟩ = some (.int .i64 y.c)) := fun W aW => by
                    obtain ⟨P', o', hP', hPl', d0, d1, _⟩ := HXc.out.cells t (by have := Hit.out; show t < n; omega)
                    simp at hP'
                    obtain ⟨rfl, rfl⟩ := hP'
                    rw [← Hy.out] at d0 d1
                    exact ⟨(aW.cell hPl' (by simp)).trans d0, (aW.cell hPl' (by simp)).trans d1⟩
                  obtain ⟨br, Hbr⟩ : ∃ br, Hid (br = risW y.n y.c x.n x.c) := ⟨_, rfl⟩
                  have HCr : Hid (∀ W, Calls Tryz.prog 95 #[.agg #[.int .i64 x.n, .int .i64 x.c], .agg #[.int .i64 y.n, .int .i64 y.c]] W fun r w' => r = .returned (.bool br) ∧ Apart [] W w') := fun W => rrises_ok _ _ _ _ br Hbr.out W
                  have HI : Hid ((!br) = false ↔ LsI key rs i) := by
                    have ry := HXc.out.each t (by have := Hit.out; show t < n; omega)
                    rw [← Hy.out] at ry
                    have e1 : i - 1 = t := by have := Hit.out; omega
                    have e2 : br = risW (gR rs (i - 1)).n (gR rs (i - 1)).c (gR rs i).n (gR rs i).c := by rw [Hbr.out, ry.n, ry.c, HRD.out.n, HRD.out.c, e1]
                    unfold Hid
                    rw [Bool.not_eq_false', e2]
                    exact ⟨fun h => ⟨HGD.out, HKI.out, fun _ => h⟩, fun h => h.2.2 h0⟩
                  clear h0
                  refine wp_region_held_drew (S := fun W => Apart [] w2 W) (by kernel_rfl) (Apart.refl [] w2).drew (fun hHeld => ?_)
                  generalize w2.drew = wd at *
                  refine tkn 0 24 (.bool true) rfl ?_ ?_
                  · intro W hSW; go_simp
                  refine tkn 1 25 (.bool false) rfl ?_ ?_
                  · intro W hSW; go_simp
                  refine tkn 2 26 (.bool false) rfl ?_ ?_
                  · intro W hSW; go_simp
                  refine tkn 3 27 (.string key) rfl ?_ ?_
                  · intro W hSW; go_simp
                  refine tkn 4 28 (.bool true) rfl ?_ ?_
                  · intro W hSW; go_simp
                  refine tkn 5 29 (.bool true) rfl ?_ ?_
                  · intro W hSW; go_simp
                  refine tkn 6 30 (.slice (some ⟨P, o, none⟩) n sc) rfl ?_ ?_
                  · intro W hSW; go_simp
                  refine tkn 7 31 (.int .i64 (i : Nat)) rfl ?_ ?_
                  · intro W hSW; go_simp
                  refine tkn 8 32 (.pointer (some ⟨P, o + i * 6, none⟩)) rfl ?_ ?_
                  · intro W hSW; go_simp
                  refine tkn 9 33 (.pointer (some ⟨P, o + i * 6 + 2, none⟩)) rfl ?_ ?_
                  · intro W hSW; go_simp
                  refine tkn 10 34 (.string x.k) rfl ?_ ?_
                  · intro W hSW; obtain ⟨c0, c1, c2⟩ := HC.out W hSW; go_simp
                  refine tkn 11 35 (.string key) rfl ?_ ?_
                  · intro W hSW; go_simp
                  refine tkn 12 36 (.bool false) rfl ?_ ?_
                  · intro W hSW; go_simp
                  refine tkn 13 37 (.bool false) rfl ?_ ?_
                  · intro W hSW; go_simp
                  refine tkn 14 38 (.bool false) rfl ?_ ?_
                  · intro W hSW; go_simp
                  refine tkn 15 39 (.bool false) rfl ?_ ?_
                  · intro W hSW; go_simp
                  refine tkn 16 40 (.int .i64 (i : Nat)) rfl ?_ ?_
                  · intro W hSW; go_simp
                  refine tkn 17 41 (.bool true) rfl ?_ ?_
                  · intro W hSW; go_simp; omega
                  refine tkn 18 42 (.bool true) rfl ?_ ?_
                  · intro W hSW; go_simp
                  refine tkn 19 43 (.slice (some ⟨P, o, none⟩) n sc) rfl ?_ ?_
                  · intro W hSW; go_simp
                  refine tkn 20 44 (.int .i64 (i : Nat)) rfl ?_ ?_
                  · intro W hSW; go_simp
                  refine tkn 21 45 (.pointer (some ⟨P, o + i * 6, none⟩)) rfl ?_ ?_
                  · intro W hSW; go_simp
                  refine tkn 22 46 (.pointer (some ⟨P, o + i * 6, none⟩)) rfl ?_ ?_
                  · intro W hSW; go_simp
                  refine tkn 23 47 (.agg #[.int .i64 x.n, .int .i64 x.c]) rfl ?_ ?_
                  · intro W hSW; obtain ⟨c0, c1, c2⟩ := HC.out W hSW; go_simp
                  refine tkn 24 48 (.slice (some ⟨P, o, none⟩) n sc) rfl ?_ ?_
                  · intro W hSW; go_simp
                  refine tkn 25 49 (.int .i64 (i : Nat)) rfl ?_ ?_
                  · intro W hSW; go_simp
                  refine tkn 26 50 (.int .i64 (t : Nat)) rfl ?_ ?_
                  · intro W hSW; have hw50 := HW50.out; go_simp
                  refine tkn 27 51 (.pointer (some ⟨P, o + t * 6, none⟩)) rfl ?_ ?_
                  · intro W hSW; go_simp
                  refine tkn 28 52 (.pointer (some ⟨P, o + t * 6, none⟩)) rfl ?_ ?_
                  · intro W hSW; go_simp
                  refine tkn 29 53 (.agg #[.int .i64 y.n, .int .i64 y.c]) rfl ?_ ?_
                  · intro W hSW; obtain ⟨m0, m1⟩ := HM.out W hSW; go_simp
                  refine wpAnyH_ready (rs := [30]) (by kernel_rfl) (by simp) ?_
                  refine AllReadyH.cons rfl (fun KK hKK => ?_) AllReadyH.nil
                  go_simp
                  refine (HCr.out _).mono ?_
                  rintro _ w6 ⟨rfl, a6⟩
                  have hS6 : Apart [] w2 w6 := hHeld.trans a6
                  clear a6
                  try dsimp only
                  refine hKK.out _ _ hS6 (fun hHeld => ?_)
                  clear hKK KK
                  refine tkn 31 55 (.bool (!br)) rfl ?_ ?_
                  · intro W hSW; go_simp
                  refine tkn 32 56 (.bool (!br)) rfl ?_ ?_
                  · intro W hSW; go_simp
                  refine tkn 33 57 (.bool (!br)) rfl ?_ ?_
                  · intro W hSW; go_simp
                  refine wpAnyH_done (by kernel_rfl) ?_ _
                  go_wp2_with fail
                  go_meet
                  exact ⟨(!br), rfl, HA2.out.trans hHeld, by first | exact HI.out | simpa using HI.out⟩
        obtain ⟨b, rfl, hap, hI⟩ := hcut
        have HAc := hid hap
        have HIc := hid hI
        clear hap hI
        cases b with
        | true =>
          have Hv : Hid (v = false) := bool_f' HV.out (fun h => by have := HIc.out.2 (h.2 i hlt); cases this)
          go_wp2_with fail
          go_ret
          exact ⟨by rw [Hv.out]; rfl, HAc.out⟩
        | false =>
          have HLi : Hid (LsI key rs i) := HIc.out.1 rfl
          go_wp2_with fail
          go_roundw
          case rel => exact ⟨i + 1, by go_num, by omega, HAc.out, fun j hj => by
            by_cases hji : j < i
            · exact HS.out j hji
            · obtain rfl : j = i := by omega
              exact HLi.out⟩
          case measure => simp [intOf]; omega
      · have hlti : ¬ ((i : Nat) : Int) < (n : Int) := by omega
        have Hv : Hid (v = true) := HV.out.2 ⟨hm, fun j hj => HS.out j (by omega)⟩
        go_wp2_with fail
        go_ret
        exact ⟨by rw [Hv.out]; rfl, HA.out⟩
  · have hmi : ((n : Nat) : Int) > (most : Int) := by omega
    have Hv : Hid (v = false) := bool_f' HV.out (fun h => hm h.1)
    go_enter Tryz.func84, Tryz.ntmps84
    go_wp2_with fail
    go_ret
    exact ⟨by rw [Hv.out]; rfl, Apart.refl _ _⟩
end Go.Proofs.YtddffdcjhleejaaGreat.ds
