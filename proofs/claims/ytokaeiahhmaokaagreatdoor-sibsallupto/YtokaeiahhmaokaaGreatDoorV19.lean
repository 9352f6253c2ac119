import Derived.Test.YtokaeiahhmaokaaGreatDoorV1
import Derived.Test.YtokaeiahhmaokaaGreatDoorV14
import Derived.Deep.CutRange
namespace Go.Proofs.YtokaeiahhmaokaaGreatDoor.ds
open Go.ChangeShapes Go.WideShapes Go.ChangeAt Go.RowKit Go.Sort
set_option linter.unusedVariables false
set_option linter.unusedSimpArgs false
/-- an operation that is not wanted, of whatever kind -/
theorem wpAnyH_pass {P : Program} {ops : Array Oper} {Q : Exit → Act → World → Prop} {md : Region.Mode} {S : World → Prop} {fuel : Nat} {listed : Array Bool} {a : Act} {w : World} (i : Nat) {o : Oper} (hr : Region.ready md ops listed = [i]) (ho : ops[i]? = some o) (hw : Region.wanted o (yielded ops a.tmps) = false) (hS : S w) (h : wpAnyH P md ops Q S fuel (listed.setIfInBounds i true) (a.put o.dst undef) w) : wpAnyH P md ops Q S (fuel + 1) listed a w :=
  wpAnyH_ready hr (by simp) (AllReadyH.cons ho (fun K' hK => by rw [if_neg (by rw [hw]; simp)]; exact hK.out _ _ hS (fun _ => h)) AllReadyH.nil)
/-- what is asked of the i-th of a list -/
def okI (rs : List Wr) (N : Nat) (gap : Int) (i : Nat) : Prop := (keq (gR rs i).k (gR rs 0).k = true ∧ rightP (gR rs i) gap ∧ (0 < i → belowW (gR rs (i - 1)) (gR rs i) = true)) ∧ ∀ j, j < N → cvW (gR rs i) (gR rs j) = false
def rvalP (rs : List Wr) (N : Nat) (gap : Int) : Prop := (1 ≤ gap ∧ gap ≤ 64) ∧ ∀ i, i < N → okI rs N gap i
structure V6 (s : Value) (w wx : World) (rs : List Wr) (gap : Int) (i : Nat) : Prop where
  ex : ∃ b : Bool, s = .bool b ∧ Apart [] w wx ∧ (b = false ↔ (keq (gR rs i).k (gR rs 0).k = true ∧ rightP (gR rs i) gap ∧ (0 < i → belowW (gR rs (i - 1)) (gR rs i) = true)))
set_option maxHeartbeats 16000000 in
set_option maxRecDepth 100000 in
theorem rvalid_ok {w : World} {p : Option Addr} {N cap : Nat} {es : List E} {rs : List Wr} (gap : Int) (h : LE w p N es) (hR : ∀ j, j < N → Reads w (gE es j) (gR rs j)) (v : Bool) (hv : v = true ↔ rvalP rs N gap) :
    Calls Tryz.prog 22 #[.slice p N cap, .int .i64 gap] w fun r w' => r = .returned (.bool v) ∧ Apart [] w w' := by
  have hl := h.lim
  have HL := hid h
  have HR := hid hR
  have HV := hid hv
  clear h hR hv
  by_cases hg : 1 ≤ gap ∧ gap ≤ 64
  case neg =>
    have hvf : v = false := by
      cases hvv : v with
      | false => rfl
      | true => exact absurd (HV.out.1 hvv).1 hg
    subst hvf
    clear HV HL HR
    by_cases h1 : 1 ≤ gap
    · have h2 : ¬ gap ≤ 64 := fun h => hg ⟨h1, h⟩
      go_enter Tryz.func22, Tryz.ntmps22
      go_wp2
      go_ret
      exact ⟨rfl, Apart.refl _ _⟩
    · go_enter Tryz.func22, Tryz.ntmps22
      go_wp2
      go_ret
      exact ⟨rfl, Apart.refl _ _⟩
  obtain ⟨hg1, hg2⟩ := hg
  go_enter Tryz.func22, Tryz.ntmps22
  go_wp2_with fail
  go_loopw [5] (fun u wr => ∃ i : Nat, u = .int .i64 (i : Nat) ∧ i ≤ N ∧ (∀ k, k < i → okI rs N gap k) ∧ Apart [] w wr) (fun u _ => N - (intOf u).toNat)
  case atStart => exact ⟨0, rfl, Nat.zero_le _, fun k hk => absurd hk (by omega), Apart.refl _ _⟩
  case round =>
    obtain ⟨i, rfl, hi, hok, ap1⟩ := hrel
    have HA := hid ap1
    have HOK := hid hok
    clear ap1 hok
    by_cases hlt : i < N
    · obtain ⟨P, o, rfl, hP, _⟩ := HL.out.at (by omega)
      have HC : Hid (∀ W, Apart [] w W → W.cell? ⟨P, o + i * 6, none⟩ = some (.int .i64 (gE es i).n) ∧ W.cell? ⟨P, o + i * 6 + 1, none⟩ = some (.int .i64 (gE es i).c) ∧ W.cell? ⟨P, o + i * 6 + 2, none⟩ = some (.string (gE es i).k) ∧ W.cell? ⟨P, o + i * 6 + 3, none⟩ = some (.bool (gE es i).d) ∧ W.cell? ⟨P, o + i * 6 + 4, none⟩ = some (.slice (gE es i).v.p (gE es i).v.n (gE es i).v.c) ∧ W.cell? ⟨P, o + i * 6 + 5, none⟩ = some (.slice (gE es i).x.p (gE es i).x.n (gE es i).x.c)) := fun W a => by
        obtain ⟨P', o', e, _, hc⟩ := (HL.out.kept0 a).at (by omega)
        simp at e
        obtain ⟨rfl, rfl⟩ := e
        exact hc i hlt
      have HZ : Hid (∀ W, Apart [] w W → W.cell? ⟨P, o + 2, none⟩ = some (.string (gE es 0).k)) := fun W a => by
        obtain ⟨P', o', e, _, hc⟩ := (HL.out.kept0 a).at (by omega)
        simp at e
        obtain ⟨rfl, rfl⟩ := e
        have := (hc 0 (by omega)).2.2.1
        simpa using this
      have HM : Hid (0 < i → ∀ W, Apart [] w W → W.cell? ⟨P, o + (i - 1) * 6, none⟩ = some (.int .i64 (gE es (i - 1)).n) ∧ W.cell? ⟨P, o + (i - 1) * 6 + 1, none⟩ = some (.int .i64 (gE es (i - 1)).c)) := fun h0 W a => by
        obtain ⟨P', o', e, _, hc⟩ := (HL.out.kept0 a).at (by omega)
        simp at e
        obtain ⟨rfl, rfl⟩ := e
        have := hc (i - 1) (by omega)
        exact ⟨this.1, this.2.1⟩
      have HKQ : Hid (keq (gE es i).k (gE es 0).k = keq (gR rs i).k (gR rs 0).k) := by rw [(HR.out i hlt).k, (HR.out 0 (by omega)).k]; rfl
      go_upto_region 6 with fail
      go_cut [56] from 19 to 56 (fun s wx => V6 s w wx rs gap i)
      case first =>
        have HAD := hid HA.out.drew
        clear HA
        classical
        obtain ⟨bR, hbR⟩ : ∃ bR : Bool, bR = true ↔ rightP (gR rs i) gap := ⟨decide (rightP (gR rs i) gap), by simp⟩
        have hRc : ∀ W, Apart [] w W → Calls Tryz.prog 46 #[(gE es i).agg, .int .i64 gap] W fun r w' => r = .returned (.bool bR) ∧ Apart [] W w' := fun W a => rright_ok (gE es i) (gR rs i) gap W ((HR.out i hlt).kept0 a) bR hbR
        unfold E.agg Sl.v at hRc
        have hN0 : (0 : Int) < (N : Int) := by omega
        have hiN : ((i : Nat) : Int) < (N : Int) := by omega
        have HRc := hid hRc
        have HbR := hid hbR
        clear hRc hbR
        cases hk : keq (gE es i).k (gE es 0).k
        case false =>
          have HIFF : Hid (true = false ↔ (keq (gR rs i).k (gR rs 0).k = true ∧ rightP (gR rs i) gap ∧ (0 < i → belowW (gR rs (i - 1)) (gR rs i) = true))) := by
            show (true = false ↔ _)
            rw [← HKQ.out, hk]; simp
          unfold keq at hk
          generalize gE es i = x at *
          generalize gE es 0 = y at *
          refine wp_region_held_drew (S := fun X => Apart [] w X) (by kernel_rfl) HAD.out (fun hHeld => ?_)
          generalize wr.drew = wd at *
          refine tk 0 19 (.slice (some ⟨P, o, none⟩) N cap) rfl ?_ ?_
          · intro W hSW; go_simp
          simp only [Act.put, List.setIfInBounds_toArray, List.set_cons_zero, List.set_cons_succ]
          refine tk 1 20 (.int .i64 (i : Nat)) rfl ?_ ?_
          · intro W hSW; go_simp
          simp only [Act.put, List.setIfInBounds_toArray, List.set_cons_zero, List.set_cons_succ]
          refine tk 2 21 (.pointer (some ⟨P, o + i * 6, none⟩)) rfl ?_ ?_
          · intro W hSW; go_simp
          simp only [Act.put, List.setIfInBounds_toArray, List.set_cons_zero, List.set_cons_succ]
          refine tk 3 22 (.pointer (some ⟨P, o + i * 6 + 2, none⟩)) rfl ?_ ?_
          · intro W hSW; go_simp
          simp only [Act.put, List.setIfInBounds_toArray, List.set_cons_zero, List.set_cons_succ]
          refine tk 4 23 (.string x.k) rfl ?_ ?_
          · intro W hSW; obtain ⟨k0, k1, k2, k3, k4, k5⟩ := HC.out W hSW; go_simp
          simp only [Act.put, List.setIfInBounds_toArray, List.set_cons_zero, List.set_cons_succ]
          refine tk 5 24 (.slice (some ⟨P, o, none⟩) N cap) rfl ?_ ?_
          · intro W hSW; go_simp
          simp only [Act.put, List.setIfInBounds_toArray, List.set_cons_zero, List.set_cons_succ]
          refine tk 6 25 (.pointer (some ⟨P, o, none⟩)) rfl ?_ ?_
          · intro W hSW; go_simp; intro h0; exact absurd h0 (by omega)
          simp only [Act.put, List.setIfInBounds_toArray, List.set_cons_zero, List.set_cons_succ]
          refine tk 7 26 (.pointer (some ⟨P, o + 2, none⟩)) rfl ?_ ?_
          · intro W hSW; go_simp
          simp only [Act.put, List.setIfInBounds_toArray, List.set_cons_zero, List.set_cons_succ]
          refine tk 8 27 (.string y.k) rfl ?_ ?_
          · intro W hSW; have z2 := HZ.out W hSW; go_simp
          simp only [Act.put, List.setIfInBounds_toArray, List.set_cons_zero, List.set_cons_succ]
          refine tk 9 28 (.bool true) rfl ?_ ?_
          · intro W hSW; go_simp
          simp only [Act.put, List.setIfInBounds_toArray, List.set_cons_zero, List.set_cons_succ]
          refine tk 10 29 (.bool true) rfl ?_ ?_
          · intro W hSW; go_simp
          simp only [Act.put, List.setIfInBounds_toArray, List.set_cons_zero, List.set_cons_succ]
          refine tu 11 30 rfl ?_
          simp only [Act.put, List.setIfInBounds_toArray, List.set_cons_zero, List.set_cons_succ]
          refine tu 12 31 rfl ?_
          simp only [Act.put, List.setIfInBounds_toArray, List.set_cons_zero, List.set_cons_succ]
          refine tu 13 32 rfl ?_
          simp only [Act.put, List.setIfInBounds_toArray, List.set_cons_zero, List.set_cons_succ]
          refine tu 14 33 rfl ?_
          simp only [Act.put, List.setIfInBounds_toArray, List.set_cons_zero, List.set_cons_succ]
          refine tu 15 34 rfl ?_
          simp only [Act.put, List.setIfInBounds_toArray, List.set_cons_zero, List.set_cons_succ]
          refine wpAnyH_pass 16 (o := ⟨some 35, _, _, _, _, _⟩) (by kernel_rfl) rfl (by kernel_rfl) hHeld ?_
          simp only [Act.put, List.setIfInBounds_toArray, List.set_cons_zero, List.set_cons_succ]
          refine tu 17 36 rfl ?_
          simp only [Act.put, List.setIfInBounds_toArray, List.set_cons_zero, List.set_cons_succ]
          refine tk 18 37 (.bool true) rfl ?_ ?_
          · intro W hSW; go_simp
          simp only [Act.put, List.setIfInBounds_toArray, List.set_cons_zero, List.set_cons_succ]
          refine tk 19 38 (.bool true) rfl ?_ ?_
          · intro W hSW; go_simp
          simp only [Act.put, List.setIfInBounds_toArray, List.set_cons_zero, List.set_cons_succ]
          refine tu 20 39 rfl ?_
          simp only [Act.put, List.setIfInBounds_toArray, List.set_cons_zero, List.set_cons_succ]
          refine tu 21 40 rfl ?_
          simp only [Act.put, List.setIfInBounds_toArray, List.set_cons_zero, List.set_cons_succ]
          refine tu 22 41 rfl ?_
          simp only [Act.put, List.setIfInBounds_toArray, List.set_cons_zero, List.set_cons_succ]
          refine tu 23 42 rfl ?_
          simp only [Act.put, List.setIfInBounds_toArray, List.set_cons_zero, List.set_cons_succ]
          refine tu 24 43 rfl ?_
          simp only [Act.put, List.setIfInBounds_toArray, List.set_cons_zero, List.set_cons_succ]
          refine tu 25 44 rfl ?_
          simp only [Act.put, List.setIfInBounds_toArray, List.set_cons_zero, List.set_cons_succ]
          refine tu 26 45 rfl ?_
          simp only [Act.put, List.setIfInBounds_toArray, List.set_cons_zero, List.set_cons_succ]
          refine tu 27 46 rfl ?_
          simp only [Act.put, List.setIfInBounds_toArray, List.set_cons_zero, List.set_cons_succ]
          refine tu 28 47 rfl ?_
          simp only [Act.put, List.setIfInBounds_toArray, List.set_cons_zero, List.set_cons_succ]
          refine tu 29 48 rfl ?_
          simp only [Act.put, List.setIfInBounds_toArray, List.set_cons_zero, List.set_cons_succ]
          refine tu 30 49 rfl ?_
          simp only [Act.put, List.setIfInBounds_toArray, List.set_cons_zero, List.set_cons_succ]
          refine tu 31 50 rfl ?_
          simp only [Act.put, List.setIfInBounds_toArray, List.set_cons_zero, List.set_cons_succ]
          refine tu 32 51 rfl ?_
          simp only [Act.put, List.setIfInBounds_toArray, List.set_cons_zero, List.set_cons_succ]
          refine tu 33 52 rfl ?_
          simp only [Act.put, List.setIfInBounds_toArray, List.set_cons_zero, List.set_cons_succ]
          refine wpAnyH_pass 34 (o := ⟨some 53, _, _, _, _, _⟩) (by kernel_rfl) rfl (by kernel_rfl) hHeld ?_
          simp only [Act.put, List.setIfInBounds_toArray, List.set_cons_zero, List.set_cons_succ]
          refine tu 35 54 rfl ?_
          simp only [Act.put, List.setIfInBounds_toArray, List.set_cons_zero, List.set_cons_succ]
          refine tu 36 55 rfl ?_
          simp only [Act.put, List.setIfInBounds_toArray, List.set_cons_zero, List.set_cons_succ]
          refine tk 37 56 (.bool true) rfl ?_ ?_
          · intro W hSW; go_simp
          simp only [Act.put, List.setIfInBounds_toArray, List.set_cons_zero, List.set_cons_succ]
          refine wpAnyH_done (by kernel_rfl) ?_ _
          go_wp2_with fail
          go_meet
          exact ⟨true, rfl, hHeld, by first | exact HIFF.out | exact ⟨fun _ => HIFF.out.1 trivial, fun _ => rfl⟩⟩
        case true =>
          cases hbv : bR
          case false =>
            have HIFF : Hid (true = false ↔ (keq (gR rs i).k (gR rs 0).k = true ∧ rightP (gR rs i) gap ∧ (0 < i → belowW (gR rs (i - 1)) (gR rs i) = true))) := by
              constructor
              · intro h; cases h
              · intro h; have := HbR.out.2 h.2.1; rw [hbv] at this; cases this
            subst hbv
            unfold keq at hk
            generalize gE es i = x at *
            generalize gE es 0 = y at *
            refine wp_region_held_drew (S := fun X => Apart [] w X) (by kernel_rfl) HAD.out (fun hHeld => ?_)
            generalize wr.drew = wd at *
            refine tk 0 19 (.slice (some ⟨P, o, none⟩) N cap) rfl ?_ ?_
            · intro W hSW; go_simp
            simp only [Act.put, List.setIfInBounds_toArray, List.set_cons_zero, List.set_cons_succ]
            refine tk 1 20 (.int .i64 (i : Nat)) rfl ?_ ?_
            · intro W hSW; go_simp
            simp only [Act.put, List.setIfInBounds_toArray, List.set_cons_zero, List.set_cons_succ]
            refine tk 2 21 (.pointer (some ⟨P, o + i * 6, none⟩)) rfl ?_ ?_
            · intro W hSW; go_simp
            simp only [Act.put, List.setIfInBounds_toArray, List.set_cons_zero, List.set_cons_succ]
            refine tk 3 22 (.pointer (some ⟨P, o + i * 6 + 2, none⟩)) rfl ?_ ?_
            · intro W hSW; go_simp
            simp only [Act.put, List.setIfInBounds_toArray, List.set_cons_zero, List.set_cons_succ]
            refine tk 4 23 (.string x.k) rfl ?_ ?_
            · intro W hSW; obtain ⟨k0, k1, k2, k3, k4, k5⟩ := HC.out W hSW; go_simp
            simp only [Act.put, List.setIfInBounds_toArray, List.set_cons_zero, List.set_cons_succ]
            refine tk 5 24 (.slice (some ⟨P, o, none⟩) N cap) rfl ?_ ?_
            · intro W hSW; go_simp
            simp only [Act.put, List.setIfInBounds_toArray, List.set_cons_zero, List.set_cons_succ]
            refine tk 6 25 (.pointer (some ⟨P, o, none⟩)) rfl ?_ ?_
            · intro W hSW; go_simp; intro h0; exact absurd h0 (by omega)
            simp only [Act.put, List.setIfInBounds_toArray, List.set_cons_zero, List.set_cons_succ]
            refine tk 7 26 (.pointer (some ⟨P, o + 2, none⟩)) rfl ?_ ?_
            · intro W hSW; go_simp
            simp only [Act.put, List.setIfInBounds_toArray, List.set_cons_zero, List.set_cons_succ]
            refine tk 8 27 (.string y.k) rfl ?_ ?_
            · intro W hSW; have z2 := HZ.out W hSW; go_simp
            simp only [Act.put, List.setIfInBounds_toArray, List.set_cons_zero, List.set_cons_succ]
            refine tk 9 28 (.bool false) rfl ?_ ?_
            · intro W hSW; go_simp
            simp only [Act.put, List.setIfInBounds_toArray, List.set_cons_zero, List.set_cons_succ]
            refine tk 10 29 (.bool false) rfl ?_ ?_
            · intro W hSW; go_simp
            simp only [Act.put, List.setIfInBounds_toArray, List.set_cons_zero, List.set_cons_succ]
            refine tk 11 30 (.slice (some ⟨P, o, none⟩) N cap) rfl ?_ ?_
            · intro W hSW; go_simp
            simp only [Act.put, List.setIfInBounds_toArray, List.set_cons_zero, List.set_cons_succ]
            refine tk 12 31 (.int .i64 (i : Nat)) rfl ?_ ?_
            · intro W hSW; go_simp
            simp only [Act.put, List.setIfInBounds_toArray, List.set_cons_zero, List.set_cons_succ]
            refine tk 13 32 (.pointer (some ⟨P, o + i * 6, none⟩)) rfl ?_ ?_
            · intro W hSW; go_simp
            simp only [Act.put, List.setIfInBounds_toArray, List.set_cons_zero, List.set_cons_succ]
            refine tk 14 33 (.agg #[.int .i64 x.n, .int .i64 x.c, .string x.k, .bool x.d, .slice x.v.p x.v.n x.v.c, .slice x.x.p x.x.n x.x.c]) rfl ?_ ?_
            · intro W hSW; obtain ⟨k0, k1, k2, k3, k4, k5⟩ := HC.out W hSW; go_simp
            simp only [Act.put, List.setIfInBounds_toArray, List.set_cons_zero, List.set_cons_succ]
            refine tk 15 34 (.int .i64 gap) rfl ?_ ?_
            · intro W hSW; go_simp
            simp only [Act.put, List.setIfInBounds_toArray, List.set_cons_zero, List.set_cons_succ]
            refine wpAnyH_ready (rs := [16]) (by kernel_rfl) (by simp) ?_
            refine AllReadyH.cons rfl (fun KK hKK => ?_) AllReadyH.nil
            go_simp
            refine (HRc.out _ hHeld).mono ?_
            rintro _ w6 ⟨rfl, a_w6⟩
            have hS_w6 : Apart [] w w6 := hHeld.trans a_w6
            clear a_w6
            try dsimp only
            refine hKK.out _ _ hS_w6 (fun hHeld => ?_)
            clear hKK KK
            refine tk 17 36 (.bool true) rfl ?_ ?_
            · intro W hSW; go_simp
            simp only [Act.put, List.setIfInBounds_toArray, List.set_cons_zero, List.set_cons_succ]
            refine tk 18 37 (.bool true) rfl ?_ ?_
            · intro W hSW; go_simp
            simp only [Act.put, List.setIfInBounds_toArray, List.set_cons_zero, List.set_cons_succ]
            refine tk 19 38 (.bool true) rfl ?_ ?_
            · intro W hSW; go_simp
            simp only [Act.put, List.setIfInBounds_toArray, List.set_cons_zero, List.set_cons_succ]
            refine tu 20 39 rfl ?_
            simp only [Act.put, List.setIfInBounds_toArray, List.set_cons_zero, List.set_cons_succ]
            refine tu 21 40 rfl ?_
            simp only [Act.put, List.setIfInBounds_toArray, List.set_cons_zero, List.set_cons_succ]
            refine tu 22 41 rfl ?_
            simp only [Act.put, List.setIfInBounds_toArray, List.set_cons_zero, List.set_cons_succ]
            refine tu 23 42 rfl ?_
            simp only [Act.put, List.setIfInBounds_toArray, List.set_cons_zero, List.set_cons_succ]
            refine tu 24 43 rfl ?_
            simp only [Act.put, List.setIfInBounds_toArray, List.set_cons_zero, List.set_cons_succ]
            refine tu 25 44 rfl ?_
            simp only [Act.put, List.setIfInBounds_toArray, List.set_cons_zero, List.set_cons_succ]
            refine tu 26 45 rfl ?_
            simp only [Act.put, List.setIfInBounds_toArray, List.set_cons_zero, List.set_cons_succ]
            refine tu 27 46 rfl ?_
            simp only [Act.put, List.setIfInBounds_toArray, List.set_cons_zero, List.set_cons_succ]
            refine tu 28 47 rfl ?_
            simp only [Act.put, List.setIfInBounds_toArray, List.set_cons_zero, List.set_cons_succ]
            refine tu 29 48 rfl ?_
            simp only [Act.put, List.setIfInBounds_toArray, List.set_cons_zero, List.set_cons_succ]
            refine tu 30 49 rfl ?_
            simp only [Act.put, List.setIfInBounds_toArray, List.set_cons_zero, List.set_cons_succ]
            refine tu 31 50 rfl ?_
            simp only [Act.put, List.setIfInBounds_toArray, List.set_cons_zero, List.set_cons_succ]
            refine tu 32 51 rfl ?_
            simp only [Act.put, List.setIfInBounds_toArray, List.set_cons_zero, List.set_cons_succ]
            refine tu 33 52 rfl ?_
            simp only [Act.put, List.setIfInBounds_toArray, List.set_cons_zero, List.set_cons_succ]
            refine wpAnyH_pass 34 (o := ⟨some 53, _, _, _, _, _⟩) (by kernel_rfl) rfl (by kernel_rfl) hS_w6 ?_
            simp only [Act.put, List.setIfInBounds_toArray, List.set_cons_zero, List.set_cons_succ]
            refine tu 35 54 rfl ?_
            simp only [Act.put, List.setIfInBounds_toArray, List.set_cons_zero, List.set_cons_succ]
            refine tu 36 55 rfl ?_
            simp only [Act.put, List.setIfInBounds_toArray, List.set_cons_zero, List.set_cons_succ]
            refine tk 37 56 (.bool true) rfl ?_ ?_
            · intro W hSW; go_simp
            simp only [Act.put, List.setIfInBounds_toArray, List.set_cons_zero, List.set_cons_succ]
            refine wpAnyH_done (by kernel_rfl) ?_ _
            go_wp2_with fail
            go_meet
            exact ⟨true, rfl, hS_w6, by first | exact HIFF.out | exact ⟨fun _ => HIFF.out.1 trivial, fun _ => rfl⟩⟩
          case true =>
            rcases Nat.eq_zero_or_pos i with h0 | h0
            · have HIFF : Hid (false = false ↔ (keq (gR rs i).k (gR rs 0).k = true ∧ rightP (gR rs i) gap ∧ (0 < i → belowW (gR rs (i - 1)) (gR rs i) = true))) := ⟨fun _ => ⟨by rw [← HKQ.out]; exact hk, HbR.out.1 hbv, fun h => absurd h (by omega)⟩, fun _ => rfl⟩
              have hz : ¬ ((0 : Int) < ((i : Nat) : Int)) := by omega
              subst hbv
              unfold keq at hk
              generalize gE es i = x at *
              generalize gE es 0 = y at *
              clear h0
              refine wp_region_held_drew (S := fun X => Apart [] w X) (by kernel_rfl) HAD.out (fun hHeld => ?_)
              generalize wr.drew = wd at *
              refine tk 0 19 (.slice (some ⟨P, o, none⟩) N cap) rfl ?_ ?_
              · intro W hSW; go_simp
              simp only [Act.put, List.setIfInBounds_toArray, List.set_cons_zero, List.set_cons_succ]
              refine tk 1 20 (.int .i64 (i : Nat)) rfl ?_ ?_
              · intro W hSW; go_simp
              simp only [Act.put, List.setIfInBounds_toArray, List.set_cons_zero, List.set_cons_succ]
              refine tk 2 21 (.pointer (some ⟨P, o + i * 6, none⟩)) rfl ?_ ?_
              · intro W hSW; go_simp
              simp only [Act.put, List.setIfInBounds_toArray, List.set_cons_zero, List.set_cons_succ]
              refine tk 3 22 (.pointer (some ⟨P, o + i * 6 + 2, none⟩)) rfl ?_ ?_
              · intro W hSW; go_simp
              simp only [Act.put, List.setIfInBounds_toArray, List.set_cons_zero, List.set_cons_succ]
              refine tk 4 23 (.string x.k) rfl ?_ ?_
              · intro W hSW; obtain ⟨k0, k1, k2, k3, k4, k5⟩ := HC.out W hSW; go_simp
              simp only [Act.put, List.setIfInBounds_toArray, List.set_cons_zero, List.set_cons_succ]
              refine tk 5 24 (.slice (some ⟨P, o, none⟩) N cap) rfl ?_ ?_
              · intro W hSW; go_simp
              simp only [Act.put, List.setIfInBounds_toArray, List.set_cons_zero, List.set_cons_succ]
              refine tk 6 25 (.pointer (some ⟨P, o, none⟩)) rfl ?_ ?_
              · intro W hSW; go_simp; intro h0; exact absurd h0 (by omega)
              simp only [Act.put, List.setIfInBounds_toArray, List.set_cons_zero, List.set_cons_succ]
              refine tk 7 26 (.pointer (some ⟨P, o + 2, none⟩)) rfl ?_ ?_
              · intro W hSW; go_simp
              simp only [Act.put, List.setIfInBounds_toArray, List.set_cons_zero, List.set_cons_succ]
              refine tk 8 27 (.string y.k) rfl ?_ ?_
              · intro W hSW; have z2 := HZ.out W hSW; go_simp
              simp only [Act.put, List.setIfInBounds_toArray, List.set_cons_zero, List.set_cons_succ]
              refine tk 9 28 (.bool false) rfl ?_ ?_
              · intro W hSW; go_simp
              simp only [Act.put, List.setIfInBounds_toArray, List.set_cons_zero, List.set_cons_succ]
              refine tk 10 29 (.bool false) rfl ?_ ?_
              · intro W hSW; go_simp
              simp only [Act.put, List.setIfInBounds_toArray, List.set_cons_zero, List.set_cons_succ]
              refine tk 11 30 (.slice (some ⟨P, o, none⟩) N cap) rfl ?_ ?_
              · intro W hSW; go_simp
              simp only [Act.put, List.setIfInBounds_toArray, List.set_cons_zero, List.set_cons_succ]
              refine tk 12 31 (.int .i64 (i : Nat)) rfl ?_ ?_
              · intro W hSW; go_simp
              simp only [Act.put, List.setIfInBounds_toArray, List.set_cons_zero, List.set_cons_succ]
              refine tk 13 32 (.pointer (some ⟨P, o + i * 6, none⟩)) rfl ?_ ?_
              · intro W hSW; go_simp
              simp only [Act.put, List.setIfInBounds_toArray, List.set_cons_zero, List.set_cons_succ]
              refine tk 14 33 (.agg #[.int .i64 x.n, .int .i64 x.c, .string x.k, .bool x.d, .slice x.v.p x.v.n x.v.c, .slice x.x.p x.x.n x.x.c]) rfl ?_ ?_
              · intro W hSW; obtain ⟨k0, k1, k2, k3, k4, k5⟩ := HC.out W hSW; go_simp
              simp only [Act.put, List.setIfInBounds_toArray, List.set_cons_zero, List.set_cons_succ]
              refine tk 15 34 (.int .i64 gap) rfl ?_ ?_
              · intro W hSW; go_simp
              simp only [Act.put, List.setIfInBounds_toArray, List.set_cons_zero, List.set_cons_succ]
              refine wpAnyH_ready (rs := [16]) (by kernel_rfl) (by simp) ?_
              refine AllReadyH.cons rfl (fun KK hKK => ?_) AllReadyH.nil
              go_simp
              refine (HRc.out _ hHeld).mono ?_
              rintro _ w6 ⟨rfl, a_w6⟩
              have hS_w6 : Apart [] w w6 := hHeld.trans a_w6
              clear a_w6
              try dsimp only
              refine hKK.out _ _ hS_w6 (fun hHeld => ?_)
              clear hKK KK
              refine tk 17 36 (.bool false) rfl ?_ ?_
              · intro W hSW; go_simp
              simp only [Act.put, List.setIfInBounds_toArray, List.set_cons_zero, List.set_cons_succ]
              refine tk 18 37 (.bool false) rfl ?_ ?_
              · intro W hSW; go_simp
              simp only [Act.put, List.setIfInBounds_toArray, List.set_cons_zero, List.set_cons_succ]
              refine tk 19 38 (.bool false) rfl ?_ ?_
              · intro W hSW; go_simp
              simp only [Act.put, List.setIfInBounds_toArray, List.set_cons_zero, List.set_cons_succ]
              refine tk 20 39 (.int .i64 (i : Nat)) rfl ?_ ?_
              · intro W hSW; go_simp
              simp only [Act.put, List.setIfInBounds_toArray, List.set_cons_zero, List.set_cons_succ]
              refine tk 21 40 (.bool false) rfl ?_ ?_
              · intro W hSW; go_simp; omega
              simp only [Act.put, List.setIfInBounds_toArray, List.set_cons_zero, List.set_cons_succ]
              refine tk 22 41 (.bool false) rfl ?_ ?_
              · intro W hSW; go_simp
              simp only [Act.put, List.setIfInBounds_toArray, List.set_cons_zero, List.set_cons_succ]
              refine tu 23 42 rfl ?_
              simp only [Act.put, List.setIfInBounds_toArray, List.set_cons_zero, List.set_cons_succ]
              refine tu 24 43 rfl ?_
              simp only [Act.put, List.setIfInBounds_toArray, List.set_cons_zero, List.set_cons_succ]
              refine tu 25 44 rfl ?_
              simp only [Act.put, List.setIfInBounds_toArray, List.set_cons_zero, List.set_cons_succ]
              refine tu 26 45 rfl ?_
              simp only [Act.put, List.setIfInBounds_toArray, List.set_cons_zero, List.set_cons_succ]
              refine tu 27 46 rfl ?_
              simp only [Act.put, List.setIfInBounds_toArray, List.set_cons_zero, List.set_cons_succ]
              refine tu 28 47 rfl ?_
              simp only [Act.put, List.setIfInBounds_toArray, List.set_cons_zero, List.set_cons_succ]
              refine tu 29 48 rfl ?_
              simp only [Act.put, List.setIfInBounds_toArray, List.set_cons_zero, List.set_cons_succ]
              refine tu 30 49 rfl ?_
              simp only [Act.put, List.setIfInBounds_toArray, List.set_cons_zero, List.set_cons_succ]
              refine tu 31 50 rfl ?_
              simp only [Act.put, List.setIfInBounds_toArray, List.set_cons_zero, List.set_cons_succ]
              refine tu 32 51 rfl ?_
              simp only [Act.put, List.setIfInBounds_toArray, List.set_cons_zero, List.set_cons_succ]
              refine tu 33 52 rfl ?_
              simp only [Act.put, List.setIfInBounds_toArray, List.set_cons_zero, List.set_cons_succ]
              refine wpAnyH_pass 34 (o := ⟨some 53, _, _, _, _, _⟩) (by kernel_rfl) rfl (by kernel_rfl) hS_w6 ?_
              simp only [Act.put, List.setIfInBounds_toArray, List.set_cons_zero, List.set_cons_succ]
              refine tu 35 54 rfl ?_
              simp only [Act.put, List.setIfInBounds_toArray, List.set_cons_zero, List.set_cons_succ]
              refine tk 36 55 (.bool false) rfl ?_ ?_
              · intro W hSW; go_simp
              simp only [Act.put, List.setIfInBounds_toArray, List.set_cons_zero, List.set_cons_succ]
              refine tk 37 56 (.bool false) rfl ?_ ?_
              · intro W hSW; go_simp
              simp only [Act.put, List.setIfInBounds_toArray, List.set_cons_zero, List.set_cons_succ]
              refine wpAnyH_done (by kernel_rfl) ?_ _
              go_wp2_with fail
              go_meet
              exact ⟨false, rfl, hS_w6, by first | exact HIFF.out | exact ⟨fun _ => HIFF.out.1 trivial, fun _ => rfl⟩⟩
            · obtain ⟨t, hit⟩ : ∃ t, i = t + 1 := ⟨i - 1, by omega⟩
              have HMt : Hid (∀ W, Apart [] w W → W.cell? ⟨P, o + t * 6, none⟩ = some (.int .i64 (gE es t).n) ∧ W.cell? ⟨P, o + t * 6 + 1, none⟩ = some (.int .i64 (gE es t).c)) := fun W a => by
                have := HM.out h0 W a
                rw [hit] at this
                simpa using this
              have hBc : ∀ W, Apart [] w W → Calls Tryz.prog 47 #[.agg #[.int .i64 (gE es t).n, .int .i64 (gE es t).c], .agg #[.int .i64 (gE es i).n, .int .i64 (gE es i).c]] W fun r w' => r = .returned (.bool (below (gE es t) (gE es i))) ∧ Apart [] W w' := fun W _ => rbelow_ok _ _ W
              have HBE : Hid (below (gE es t) (gE es i) = belowW (gR rs (i - 1)) (gR rs i)) := by
                have r1 := HR.out t (by omega)
                have r2 := HR.out i hlt
                have e1 : i - 1 = t := by omega
                unfold Hid below belowW
                rw [r1.n, r1.c, r2.n, r2.c, e1]
              obtain ⟨bb, Hbb⟩ : ∃ bb, Hid (bb = below (gE es t) (gE es i)) := ⟨_, rfl⟩
              rw [← Hbb.out] at hBc
              have HBc := hid hBc
              have hz : (0 : Int) < ((i : Nat) : Int) := by omega
              have htN : ((t : Nat) : Int) < (N : Int) := by omega
              have HW44 : Hid (IntKind.i64.wrap (((i : Nat) : Int) - 1) = ((t : Nat) : Int)) := by
                have e1 : ((i : Nat) : Int) - 1 = ((t : Nat) : Int) := by omega
                rw [e1]; unfold Hid; rw [IntKind.wrap_i64]; omega
              clear hBc hit
              cases hbb : bb
              case false =>
                have HIFF : Hid (true = false ↔ (keq (gR rs i).k (gR rs 0).k = true ∧ rightP (gR rs i) gap ∧ (0 < i → belowW (gR rs (i - 1)) (gR rs i) = true))) := by
                  constructor
                  · intro h; cases h
                  · intro h
                    have h1 := h.2.2 h0
                    rw [← HBE.out, ← Hbb.out, hbb] at h1
                    cases h1
                subst hbb
                subst hbv
                unfold keq at hk
                clear HM HBE Hbb HKQ h0
                generalize gE es i = x at *
                generalize gE es t = m at *
                generalize gE es 0 = y at *
                refine wp_region_held_drew (S := fun X => Apart [] w X) (by kernel_rfl) HAD.out (fun hHeld => ?_)
                generalize wr.drew = wd at *
                refine tk 0 19 (.slice (some ⟨P, o, none⟩) N cap) rfl ?_ ?_
                · intro W hSW; go_simp
                simp only [Act.put, List.setIfInBounds_toArray, List.set_cons_zero, List.set_cons_succ]
                refine tk 1 20 (.int .i64 (i : Nat)) rfl ?_ ?_
                · intro W hSW; go_simp
                simp only [Act.put, List.setIfInBounds_toArray, List.set_cons_zero, List.set_cons_succ]
                refine tk 2 21 (.pointer (some ⟨P, o + i * 6, none⟩)) rfl ?_ ?_
                · intro W hSW; go_simp
                simp only [Act.put, List.setIfInBounds_toArray, List.set_cons_zero, List.set_cons_succ]
                refine tk 3 22 (.pointer (some ⟨P, o + i * 6 + 2, none⟩)) rfl ?_ ?_
                · intro W hSW; go_simp
                simp only [Act.put, List.setIfInBounds_toArray, List.set_cons_zero, List.set_cons_succ]
                refine tk 4 23 (.string x.k) rfl ?_ ?_
                · intro W hSW; obtain ⟨k0, k1, k2, k3, k4, k5⟩ := HC.out W hSW; go_simp
                simp only [Act.put, List.setIfInBounds_toArray, List.set_cons_zero, List.set_cons_succ]
                refine tk 5 24 (.slice (some ⟨P, o, none⟩) N cap) rfl ?_ ?_
                · intro W hSW; go_simp
                simp only [Act.put, List.setIfInBounds_toArray, List.set_cons_zero, List.set_cons_succ]
                refine tk 6 25 (.pointer (some ⟨P, o, none⟩)) rfl ?_ ?_
                · intro W hSW; go_simp; intro h0; exact absurd h0 (by omega)
                simp only [Act.put, List.setIfInBounds_toArray, List.set_cons_zero, List.set_cons_succ]
                refine tk 7 26 (.pointer (some ⟨P, o + 2, none⟩)) rfl ?_ ?_
                · intro W hSW; go_simp
                simp only [Act.put, List.setIfInBounds_toArray, List.set_cons_zero, List.set_cons_succ]
                refine tk 8 27 (.string y.k) rfl ?_ ?_
                · intro W hSW; have z2 := HZ.out W hSW; go_simp
                simp only [Act.put, List.setIfInBounds_toArray, List.set_cons_zero, List.set_cons_succ]
                refine tk 9 28 (.bool false) rfl ?_ ?_
                · intro W hSW; go_simp
                simp only [Act.put, List.setIfInBounds_toArray, List.set_cons_zero, List.set_cons_succ]
                refine tk 10 29 (.bool false) rfl ?_ ?_
                · intro W hSW; go_simp
                simp only [Act.put, List.setIfInBounds_toArray, List.set_cons_zero, List.set_cons_succ]
                refine tk 11 30 (.slice (some ⟨P, o, none⟩) N cap) rfl ?_ ?_
                · intro W hSW; go_simp
                simp only [Act.put, List.setIfInBounds_toArray, List.set_cons_zero, List.set_cons_succ]
                refine tk 12 31 (.int .i64 (i : Nat)) rfl ?_ ?_
                · intro W hSW; go_simp
                simp only [Act.put, List.setIfInBounds_toArray, List.set_cons_zero, List.set_cons_succ]
                refine tk 13 32 (.pointer (some ⟨P, o + i * 6, none⟩)) rfl ?_ ?_
                · intro W hSW; go_simp
                simp only [Act.put, List.setIfInBounds_toArray, List.set_cons_zero, List.set_cons_succ]
                refine tk 14 33 (.agg #[.int .i64 x.n, .int .i64 x.c, .string x.k, .bool x.d, .slice x.v.p x.v.n x.v.c, .slice x.x.p x.x.n x.x.c]) rfl ?_ ?_
                · intro W hSW; obtain ⟨k0, k1, k2, k3, k4, k5⟩ := HC.out W hSW; go_simp
                simp only [Act.put, List.setIfInBounds_toArray, List.set_cons_zero, List.set_cons_succ]
                refine tk 15 34 (.int .i64 gap) rfl ?_ ?_
                · intro W hSW; go_simp
                simp only [Act.put, List.setIfInBounds_toArray, List.set_cons_zero, List.set_cons_succ]
                refine wpAnyH_ready (rs := [16]) (by kernel_rfl) (by simp) ?_
                refine AllReadyH.cons rfl (fun KK hKK => ?_) AllReadyH.nil
                go_simp
                refine (HRc.out _ hHeld).mono ?_
                rintro _ w6 ⟨rfl, a_w6⟩
                have hS_w6 : Apart [] w w6 := hHeld.trans a_w6
                clear a_w6
                try dsimp only
                refine hKK.out _ _ hS_w6 (fun hHeld => ?_)
                clear hKK KK
                refine tk 17 36 (.bool false) rfl ?_ ?_
                · intro W hSW; go_simp
                simp only [Act.put, List.setIfInBounds_toArray, List.set_cons_zero, List.set_cons_succ]
                refine tk 18 37 (.bool false) rfl ?_ ?_
                · intro W hSW; go_simp
                simp only [Act.put, List.setIfInBounds_toArray, List.set_cons_zero, List.set_cons_succ]
                refine tk 19 38 (.bool false) rfl ?_ ?_
                · intro W hSW; go_simp
                simp only [Act.put, List.setIfInBounds_toArray, List.set_cons_zero, List.set_cons_succ]
                refine tk 20 39 (.int .i64 (i : Nat)) rfl ?_ ?_
                · intro W hSW; go_simp
                simp only [Act.put, List.setIfInBounds_toArray, List.set_cons_zero, List.set_cons_succ]
                refine tk 21 40 (.bool true) rfl ?_ ?_
                · intro W hSW; go_simp; omega
                simp only [Act.put, List.setIfInBounds_toArray, List.set_cons_zero, List.set_cons_succ]
                refine tk 22 41 (.bool true) rfl ?_ ?_
                · intro W hSW; go_simp
                simp only [Act.put, List.setIfInBounds_toArray, List.set_cons_zero, List.set_cons_succ]
                refine tk 23 42 (.slice (some ⟨P, o, none⟩) N cap) rfl ?_ ?_
                · intro W hSW; go_simp
                simp only [Act.put, List.setIfInBounds_toArray, List.set_cons_zero, List.set_cons_succ]
                refine tk 24 43 (.int .i64 (i : Nat)) rfl ?_ ?_
                · intro W hSW; go_simp
                simp only [Act.put, List.setIfInBounds_toArray, List.set_cons_zero, List.set_cons_succ]
                refine tk 25 44 (.int .i64 (t : Nat)) rfl ?_ ?_
                · intro W hSW; have hw44 := HW44.out; go_simp
                simp only [Act.put, List.setIfInBounds_toArray, List.set_cons_zero, List.set_cons_succ]
                refine tk 26 45 (.pointer (some ⟨P, o + t * 6, none⟩)) rfl ?_ ?_
                · intro W hSW; go_simp
                simp only [Act.put, List.setIfInBounds_toArray, List.set_cons_zero, List.set_cons_succ]
                refine tk 27 46 (.pointer (some ⟨P, o + t * 6, none⟩)) rfl ?_ ?_
                · intro W hSW; go_simp
                simp only [Act.put, List.setIfInBounds_toArray, List.set_cons_zero, List.set_cons_succ]
                refine tk 28 47 (.agg #[.int .i64 m.n, .int .i64 m.c]) rfl ?_ ?_
                · intro W hSW; obtain ⟨m0, m1⟩ := HMt.out W hSW; go_simp
                simp only [Act.put, List.setIfInBounds_toArray, List.set_cons_zero, List.set_cons_succ]
                refine tk 29 48 (.slice (some ⟨P, o, none⟩) N cap) rfl ?_ ?_
                · intro W hSW; go_simp
                simp only [Act.put, List.setIfInBounds_toArray, List.set_cons_zero, List.set_cons_succ]
                refine tk 30 49 (.int .i64 (i : Nat)) rfl ?_ ?_
                · intro W hSW; go_simp
                simp only [Act.put, List.setIfInBounds_toArray, List.set_cons_zero, List.set_cons_succ]
                refine tk 31 50 (.pointer (some ⟨P, o + i * 6, none⟩)) rfl ?_ ?_
                · intro W hSW; go_simp
                simp only [Act.put, List.setIfInBounds_toArray, List.set_cons_zero, List.set_cons_succ]
                refine tk 32 51 (.pointer (some ⟨P, o + i * 6, none⟩)) rfl ?_ ?_
                · intro W hSW; go_simp
                simp only [Act.put, List.setIfInBounds_toArray, List.set_cons_zero, List.set_cons_succ]
                refine tk 33 52 (.agg #[.int .i64 x.n, .int .i64 x.c]) rfl ?_ ?_
                · intro W hSW; obtain ⟨k0, k1, k2, k3, k4, k5⟩ := HC.out W hSW; go_simp
                simp only [Act.put, List.setIfInBounds_toArray, List.set_cons_zero, List.set_cons_succ]
                refine wpAnyH_ready (rs := [34]) (by kernel_rfl) (by simp) ?_
                refine AllReadyH.cons rfl (fun KK hKK => ?_) AllReadyH.nil
                go_simp
                refine (HBc.out _ hS_w6).mono ?_
                rintro _ w7 ⟨rfl, a_w7⟩
                have hS_w7 : Apart [] w w7 := hS_w6.trans a_w7
                clear a_w7
                try dsimp only
                refine hKK.out _ _ hS_w7 (fun hHeld => ?_)
                clear hKK KK
                refine tk 35 54 (.bool true) rfl ?_ ?_
                · intro W hSW; go_simp
                simp only [Act.put, List.setIfInBounds_toArray, List.set_cons_zero, List.set_cons_succ]
                refine tk 36 55 (.bool true) rfl ?_ ?_
                · intro W hSW; go_simp
                simp only [Act.put, List.setIfInBounds_toArray, List.set_cons_zero, List.set_cons_succ]
                refine tk 37 56 (.bool true) rfl ?_ ?_
                · intro W hSW; go_simp
                simp only [Act.put, List.setIfInBounds_toArray, List.set_cons_zero, List.set_cons_succ]
                refine wpAnyH_done (by kernel_rfl) ?_ _
                go_wp2_with fail
                go_meet
                exact ⟨true, rfl, hS_w7, by first | exact HIFF.out | exact ⟨fun _ => HIFF.out.1 trivial, fun _ => rfl⟩⟩
              case true =>
                have HIFF : Hid (false = false ↔ (keq (gR rs i).k (gR rs 0).k = true ∧ rightP (gR rs i) gap ∧ (0 < i → belowW (gR rs (i - 1)) (gR rs i) = true))) := ⟨fun _ => ⟨by rw [← HKQ.out]; exact hk, HbR.out.1 hbv, fun _ => by rw [← HBE.out, ← Hbb.out, hbb]⟩, fun _ => rfl⟩
                subst hbb
                subst hbv
                unfold keq at hk
                clear HM HBE Hbb HKQ h0
                generalize gE es i = x at *
                generalize gE es t = m at *
                generalize gE es 0 = y at *
                refine wp_region_held_drew (S := fun X => Apart [] w X) (by kernel_rfl) HAD.out (fun hHeld => ?_)
                generalize wr.drew = wd at *
                refine tk 0 19 (.slice (some ⟨P, o, none⟩) N cap) rfl ?_ ?_
                · intro W hSW; go_simp
                simp only [Act.put, List.setIfInBounds_toArray, List.set_cons_zero, List.set_cons_succ]
                refine tk 1 20 (.int .i64 (i : Nat)) rfl ?_ ?_
                · intro W hSW; go_simp
                simp only [Act.put, List.setIfInBounds_toArray, List.set_cons_zero, List.set_cons_succ]
                refine tk 2 21 (.pointer (some ⟨P, o + i * 6, none⟩)) rfl ?_ ?_
                · intro W hSW; go_simp
                simp only [Act.put, List.setIfInBounds_toArray, List.set_cons_zero, List.set_cons_succ]
                refine tk 3 22 (.pointer (some ⟨P, o + i * 6 + 2, none⟩)) rfl ?_ ?_
                · intro W hSW; go_simp
                simp only [Act.put, List.setIfInBounds_toArray, List.set_cons_zero, List.set_cons_succ]
                refine tk 4 23 (.string x.k) rfl ?_ ?_
                · intro W hSW; obtain ⟨k0, k1, k2, k3, k4, k5⟩ := HC.out W hSW; go_simp
                simp only [Act.put, List.setIfInBounds_toArray, List.set_cons_zero, List.set_cons_succ]
                refine tk 5 24 (.slice (some ⟨P, o, none⟩) N cap) rfl ?_ ?_
                · intro W hSW; go_simp
                simp only [Act.put, List.setIfInBounds_toArray, List.set_cons_zero, List.set_cons_succ]
                refine tk 6 25 (.pointer (some ⟨P, o, none⟩)) rfl ?_ ?_
                · intro W hSW; go_simp; intro h0; exact absurd h0 (by omega)
                simp only [Act.put, List.setIfInBounds_toArray, List.set_cons_zero, List.set_cons_succ]
                refine tk 7 26 (.pointer (some ⟨P, o + 2, none⟩)) rfl ?_ ?_
                · intro W hSW; go_simp
                simp only [Act.put, List.setIfInBounds_toArray, List.set_cons_zero, List.set_cons_succ]
                refine tk 8 27 (.string y.k) rfl ?_ ?_
                · intro W hSW; have z2 := HZ.out W hSW; go_simp
                simp only [Act.put, List.setIfInBounds_toArray, List.set_cons_zero, List.set_cons_succ]
                refine tk 9 28 (.bool false) rfl ?_ ?_
                · intro W hSW; go_simp
                simp only [Act.put, List.setIfInBounds_toArray, List.set_cons_zero, List.set_cons_succ]
                refine tk 10 29 (.bool false) rfl ?_ ?_
                · intro W hSW; go_simp
                simp only [Act.put, List.setIfInBounds_toArray, List.set_cons_zero, List.set_cons_succ]
                refine tk 11 30 (.slice (some ⟨P, o, none⟩) N cap) rfl ?_ ?_
                · intro W hSW; go_simp
                simp only [Act.put, List.setIfInBounds_toArray, List.set_cons_zero, List.set_cons_succ]
                refine tk 12 31 (.int .i64 (i : Nat)) rfl ?_ ?_
                · intro W hSW; go_simp
                simp only [Act.put, List.setIfInBounds_toArray, List.set_cons_zero, List.set_cons_succ]
                refine tk 13 32 (.pointer (some ⟨P, o + i * 6, none⟩)) rfl ?_ ?_
                · intro W hSW; go_simp
                simp only [Act.put, List.setIfInBounds_toArray, List.set_cons_zero, List.set_cons_succ]
                refine tk 14 33 (.agg #[.int .i64 x.n, .int .i64 x.c, .string x.k, .bool x.d, .slice x.v.p x.v.n x.v.c, .slice x.x.p x.x.n x.x.c]) rfl ?_ ?_
                · intro W hSW; obtain ⟨k0, k1, k2, k3, k4, k5⟩ := HC.out W hSW; go_simp
                simp only [Act.put, List.setIfInBounds_toArray, List.set_cons_zero, List.set_cons_succ]
                refine tk 15 34 (.int .i64 gap) rfl ?_ ?_
                · intro W hSW; go_simp
                simp only [Act.put, List.setIfInBounds_toArray, List.set_cons_zero, List.set_cons_succ]
                refine wpAnyH_ready (rs := [16]) (by kernel_rfl) (by simp) ?_
                refine AllReadyH.cons rfl (fun KK hKK => ?_) AllReadyH.nil
                go_simp
                refine (HRc.out _ hHeld).mono ?_
                rintro _ w6 ⟨rfl, a_w6⟩
                have hS_w6 : Apart [] w w6 := hHeld.trans a_w6
                clear a_w6
                try dsimp only
                refine hKK.out _ _ hS_w6 (fun hHeld => ?_)
                clear hKK KK
                refine tk 17 36 (.bool false) rfl ?_ ?_
                · intro W hSW; go_simp
                simp only [Act.put, List.setIfInBounds_toArray, List.set_cons_zero, List.set_cons_succ]
                refine tk 18 37 (.bool false) rfl ?_ ?_
                · intro W hSW; go_simp
                simp only [Act.put, List.setIfInBounds_toArray, List.set_cons_zero, List.set_cons_succ]
                refine tk 19 38 (.bool false) rfl ?_ ?_
                · intro W hSW; go_simp
                simp only [Act.put, List.setIfInBounds_toArray, List.set_cons_zero, List.set_cons_succ]
                refine tk 20 39 (.int .i64 (i : Nat)) rfl ?_ ?_
                · intro W hSW; go_simp
                simp only [Act.put, List.setIfInBounds_toArray, List.set_cons_zero, List.set_cons_succ]
                refine tk 21 40 (.bool true) rfl ?_ ?_
                · intro W hSW; go_simp; omega
                simp only [Act.put, List.setIfInBounds_toArray, List.set_cons_zero, List.set_cons_succ]
                refine tk 22 41 (.bool true) rfl ?_ ?_
                · intro W hSW; go_simp
                simp only [Act.put, List.setIfInBounds_toArray, List.set_cons_zero, List.set_cons_succ]
                refine tk 23 42 (.slice (some ⟨P, o, none⟩) N cap) rfl ?_ ?_
                · intro W hSW; go_simp
                simp only [Act.put, List.setIfInBounds_toArray, List.set_cons_zero, List.set_cons_succ]
                refine tk 24 43 (.int .i64 (i : Nat)) rfl ?_ ?_
                · intro W hSW; go_simp
                simp only [Act.put, List.setIfInBounds_toArray, List.set_cons_zero, List.set_cons_succ]
                refine tk 25 44 (.int .i64 (t : Nat)) rfl ?_ ?_
                · intro W hSW; have hw44 := HW44.out; go_simp
                simp only [Act.put, List.setIfInBounds_toArray, List.set_cons_zero, List.set_cons_succ]
                refine tk 26 45 (.pointer (some ⟨P, o + t * 6, none⟩)) rfl ?_ ?_
                · intro W hSW; go_simp
                simp only [Act.put, List.setIfInBounds_toArray, List.set_cons_zero, List.set_cons_succ]
                refine tk 27 46 (.pointer (some ⟨P, o + t * 6, none⟩)) rfl ?_ ?_
                · intro W hSW; go_simp
                simp only [Act.put, List.setIfInBounds_toArray, List.set_cons_zero, List.set_cons_succ]
                refine tk 28 47 (.agg #[.int .i64 m.n, .int .i64 m.c]) rfl ?_ ?_
                · intro W hSW; obtain ⟨m0, m1⟩ := HMt.out W hSW; go_simp
                simp only [Act.put, List.setIfInBounds_toArray, List.set_cons_zero, List.set_cons_succ]
                refine tk 29 48 (.slice (some ⟨P, o, none⟩) N cap) rfl ?_ ?_
                · intro W hSW; go_simp
                simp only [Act.put, List.setIfInBounds_toArray, List.set_cons_zero, List.set_cons_succ]
                refine tk 30 49 (.int .i64 (i : Nat)) rfl ?_ ?_
                · intro W hSW; go_simp
                simp only [Act.put, List.setIfInBounds_toArray, List.set_cons_zero, List.set_cons_succ]
                refine tk 31 50 (.pointer (some ⟨P, o + i * 6, none⟩)) rfl ?_ ?_
                · intro W hSW; go_simp
                simp only [Act.put, List.setIfInBounds_toArray, List.set_cons_zero, List.set_cons_succ]
                refine tk 32 51 (.pointer (some ⟨P, o + i * 6, none⟩)) rfl ?_ ?_
                · intro W hSW; go_simp
                simp only [Act.put, List.setIfInBounds_toArray, List.set_cons_zero, List.set_cons_succ]
                refine tk 33 52 (.agg #[.int .i64 x.n, .int .i64 x.c]) rfl ?_ ?_
                · intro W hSW; obtain ⟨k0, k1, k2, k3, k4, k5⟩ := HC.out W hSW; go_simp
                simp only [Act.put, List.setIfInBounds_toArray, List.set_cons_zero, List.set_cons_succ]
                refine wpAnyH_ready (rs := [34]) (by kernel_rfl) (by simp) ?_
                refine AllReadyH.cons rfl (fun KK hKK => ?_) AllReadyH.nil
                go_simp
                refine (HBc.out _ hS_w6).mono ?_
                rintro _ w7 ⟨rfl, a_w7⟩
                have hS_w7 : Apart [] w w7 := hS_w6.trans a_w7
                clear a_w7
                try dsimp only
                refine hKK.out _ _ hS_w7 (fun hHeld => ?_)
                clear hKK KK
                refine tk 35 54 (.bool false) rfl ?_ ?_
                · intro W hSW; go_simp
                simp only [Act.put, List.setIfInBounds_toArray, List.set_cons_zero, List.set_cons_succ]
                refine tk 36 55 (.bool false) rfl ?_ ?_
                · intro W hSW; go_simp
                simp only [Act.put, List.setIfInBounds_toArray, List.set_cons_zero, List.set_cons_succ]
                refine tk 37 56 (.bool false) rfl ?_ ?_
                · intro W hSW; go_simp
                simp only [Act.put, List.setIfInBounds_toArray, List.set_cons_zero, List.set_cons_succ]
                refine wpAnyH_done (by kernel_rfl) ?_ _
                go_wp2_with fail
                go_meet
                exact ⟨false, rfl, hS_w7, by first | exact HIFF.out | exact ⟨fun _ => HIFF.out.1 trivial, fun _ => rfl⟩⟩
      obtain ⟨b, rfl, apc, hiff⟩ := hcut.ex
      have HAC := hid apc
      have HI := hid hiff
      clear hcut apc hiff HKQ HZ HM HA HC
      cases b
      case true =>
        have hvf : v = false := by
          cases hvv : v with
          | false => rfl
          | true => exact absurd (HI.out.2 ((HV.out.1 hvv).2 i hlt).1) (by simp)
        subst hvf
        go_wp2
        go_ret
        exact ⟨rfl, HAC.out⟩
      case false =>
        have H1 := hid (HI.out.1 rfl)
        clear HI
        go_wp2_with fail
        go_loopw [6] (fun u wr => ∃ j : Nat, u = .int .i64 (j : Nat) ∧ j ≤ N ∧ (∀ k, k < j → cvW (gR rs i) (gR rs k) = false) ∧ Apart [] w wr) (fun u _ => N - (intOf u).toNat)
        case atStart => exact ⟨0, rfl, Nat.zero_le _, fun k hk => absurd hk (by omega), HAC.out⟩
        case round =>
          obtain ⟨j, rfl, hj, hno, ap2⟩ := hrel
          have HA2 := hid ap2
          have HNO := hid hno
          clear ap2 hno HAC
          by_cases hjl : j < N
          · have HC : Hid (∀ W, Apart [] w W → ∀ k, k < N → W.cell? ⟨P, o + k * 6, none⟩ = some (.int .i64 (gE es k).n) ∧ W.cell? ⟨P, o + k * 6 + 1, none⟩ = some (.int .i64 (gE es k).c) ∧ W.cell? ⟨P, o + k * 6 + 2, none⟩ = some (.string (gE es k).k) ∧ W.cell? ⟨P, o + k * 6 + 3, none⟩ = some (.bool (gE es k).d) ∧ W.cell? ⟨P, o + k * 6 + 4, none⟩ = some (.slice (gE es k).v.p (gE es k).v.n (gE es k).v.c) ∧ W.cell? ⟨P, o + k * 6 + 5, none⟩ = some (.slice (gE es k).x.p (gE es k).x.n (gE es k).x.c)) := fun W a k hk => by
              obtain ⟨P', o', e, _, hc⟩ := (HL.out.kept0 a).at (by omega)
              simp at e
              obtain ⟨rfl, rfl⟩ := e
              exact hc k hk
            have HCi : Hid (∀ W, Apart [] w W → _) := fun W a => HC.out W a i hlt
            have HCj : Hid (∀ W, Apart [] w W → _) := fun W a => HC.out W a j hjl
            have hCv : ∀ W, Apart [] w W → Calls Tryz.prog 25 #[(gE es i).agg, (gE es j).agg] W fun r w' => r = .returned (.bool (cvW (gR rs i) (gR rs j))) ∧ Apart [] W w' := fun W a => rcovers_ok _ _ (gR rs i).xs W ((HR.out i hlt).x.kept0 a) _ (by
              have r1 := HR.out i hlt
              have r2 := HR.out j hjl
              unfold cvW cvE hasd
              rw [r1.k, r2.k, r2.n, r2.c])
            unfold E.agg Sl.v at hCv
            have HCv := hid hCv
            have hiN : ((i : Nat) : Int) < (N : Int) := by omega
            have hjN : ((j : Nat) : Int) < (N : Int) := by omega
            obtain ⟨cv, Hcv⟩ : ∃ cv, Hid (cv = cvW (gR rs i) (gR rs j)) := ⟨_, rfl⟩
            rw [← Hcv.out] at HCv
            clear HC hCv
            go_upto_region 11 with fail
            go_cut [71] from 63 to 71 (fun s wx => s = .bool cv ∧ Apart [] w wx)
            case first =>
              have HAD := hid HA2.out.drew
              clear HA2
              generalize gE es i = x at *
              generalize gE es j = y at *
              refine wp_region_held_drew (S := fun X => Apart [] w X) (by kernel_rfl) HAD.out (fun hHeld => ?_)
              generalize wr.drew = wd at *
              refine tk 0 63 (.slice (some ⟨P, o, none⟩) N cap) rfl ?_ ?_
              · intro W hSW; go_simp
              simp only [Act.put, List.setIfInBounds_toArray, List.set_cons_zero, List.set_cons_succ]
              refine tk 1 64 (.int .i64 (i : Nat)) rfl ?_ ?_
              · intro W hSW; go_simp
              simp only [Act.put, List.setIfInBounds_toArray, List.set_cons_zero, List.set_cons_succ]
              refine tk 2 65 (.pointer (some ⟨P, o + i * 6, none⟩)) rfl ?_ ?_
              · intro W hSW; go_simp
              simp only [Act.put, List.setIfInBounds_toArray, List.set_cons_zero, List.set_cons_succ]
              refine tk 3 66 (.agg #[.int .i64 x.n, .int .i64 x.c, .string x.k, .bool x.d, .slice x.v.p x.v.n x.v.c, .slice x.x.p x.x.n x.x.c]) rfl ?_ ?_
              · intro W hSW; obtain ⟨k0, k1, k2, k3, k4, k5⟩ := HCi.out W hSW; go_simp
              simp only [Act.put, List.setIfInBounds_toArray, List.set_cons_zero, List.set_cons_succ]
              refine tk 4 67 (.slice (some ⟨P, o, none⟩) N cap) rfl ?_ ?_
              · intro W hSW; go_simp
              simp only [Act.put, List.setIfInBounds_toArray, List.set_cons_zero, List.set_cons_succ]
              refine tk 5 68 (.int .i64 (j : Nat)) rfl ?_ ?_
              · intro W hSW; go_simp
              simp only [Act.put, List.setIfInBounds_toArray, List.set_cons_zero, List.set_cons_succ]
              refine tk 6 69 (.pointer (some ⟨P, o + j * 6, none⟩)) rfl ?_ ?_
              · intro W hSW; go_simp
              simp only [Act.put, List.setIfInBounds_toArray, List.set_cons_zero, List.set_cons_succ]
              refine tk 7 70 (.agg #[.int .i64 y.n, .int .i64 y.c, .string y.k, .bool y.d, .slice y.v.p y.v.n y.v.c, .slice y.x.p y.x.n y.x.c]) rfl ?_ ?_
              · intro W hSW; obtain ⟨k0, k1, k2, k3, k4, k5⟩ := HCj.out W hSW; go_simp
              simp only [Act.put, List.setIfInBounds_toArray, List.set_cons_zero, List.set_cons_succ]
              refine wpAnyH_ready (rs := [8]) (by kernel_rfl) (by simp) ?_
              refine AllReadyH.cons rfl (fun KK hKK => ?_) AllReadyH.nil
              go_simp
              refine (HCv.out _ hHeld).mono ?_
              rintro _ w8 ⟨rfl, a_w8⟩
              have hS_w8 : Apart [] w w8 := hHeld.trans a_w8
              clear a_w8
              try dsimp only
              refine hKK.out _ _ hS_w8 (fun hHeld => ?_)
              clear hKK KK
              refine wpAnyH_done (by kernel_rfl) ?_ _
              go_wp2_with fail
              go_meet
              exact ⟨rfl, hS_w8⟩
            obtain ⟨rfl, apc⟩ := hcut
            have HAC := hid apc
            clear apc HA2
            cases hcv : cv
            case true =>
              have hvf : v = false := by
                cases hvv : v with
                | false => rfl
                | true =>
                  have := ((HV.out.1 hvv).2 i hlt).2 j hjl
                  rw [← Hcv.out, hcv] at this
                  cases this
              subst hvf
              go_wp2
              go_ret
              exact ⟨rfl, HAC.out⟩
            case false =>
              have HN2 : Hid (∀ k, k < j + 1 → cvW (gR rs i) (gR rs k) = false) := fun k hk => by
                by_cases hkj : k = j
                · rw [hkj, ← Hcv.out, hcv]
                · exact HNO.out k (by omega)
              go_wp2_with fail
              go_roundw
              case rel => exact ⟨j + 1, by go_num, by omega, HN2.out, HAC.out⟩
              case measure => simp [intOf]; omega
          · obtain rfl : j = N := by omega
            have HOI : Hid (∀ k, k < i + 1 → okI rs j gap k) := fun k hk => by
              by_cases hki : k = i
              · rw [hki]; exact ⟨H1.out, HNO.out⟩
              · exact HOK.out k (by omega)
            go_wp2_with fail
            go_roundw
            case rel => exact ⟨i + 1, by go_num, by omega, HOI.out, HA2.out⟩
            case measure => simp [intOf]; omega
    · obtain rfl : i = N := by omega
      have hvt : v = true := HV.out.2 ⟨⟨hg1, hg2⟩, HOK.out⟩
      subst hvt
      go_wp2
      go_ret
      exact ⟨rfl, HA.out⟩
end Go.Proofs.YtokaeiahhmaokaaGreatDoor.ds
