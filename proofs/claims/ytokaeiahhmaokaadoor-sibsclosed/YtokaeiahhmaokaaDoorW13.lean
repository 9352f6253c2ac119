import Derived.Test.YtokaeiahhmaokaaDoorW1
import Derived.Test.YtokaeiahhmaokaaDoorW12
namespace Go.Proofs.YtokaeiahhmaokaaDoor.ds
open Go.ChangeShapes Go.WideShapes Go.ChangeAt Go.RowKit Go.Sort
set_option linter.unusedVariables false
set_option linter.unusedSimpArgs false
/-- what the program asks of the i-th -/
def okV (rs : List Wr) (gap : Int) (i : Nat) : Prop := rightP (gR rs i) gap ∧ (0 < i → keq (gR rs i).k (gR rs 0).k = true ∧ belowW (gR rs (i - 1)) (gR rs i) = true)
theorem cf_below (a b : E) : (0 ≤ cfE a b) ↔ below a b = false := by
  unfold cfE below cmpI
  by_cases h1 : a.n < b.n
  · simp [h1]
  · by_cases h2 : b.n < a.n
    · have h3 : ¬ a.n = b.n := by omega
      simp [h1, h2, h3]
    · have h3 : a.n = b.n := by omega
      by_cases h4 : a.c < b.c
      · simp [h3, h4]
      · by_cases h5 : b.c < a.c
        · simp [h3, h4, h5]
        · simp [h3, h4, h5]
theorem val_iff (es : List E) (rs : List Wr) (N : Nat) (gap : Int) (hl : rs.length = N) : (((1 ≤ gap ∧ gap ≤ 64) ∧ ∀ i, i < N → okV rs gap i) ∧ (bU es rs N N).length = N) ↔ rvalP rs N gap := by
  rw [bU_all]
  constructor
  · rintro ⟨⟨hg, hv⟩, hu⟩
    refine ⟨hg, fun i hi => ⟨⟨?_, (hv i hi).1, fun h0 => ((hv i hi).2 h0).2⟩, fun j hj => ?_⟩⟩
    · by_cases h0 : 0 < i
      · exact ((hv i hi).2 h0).1
      · have : i = 0 := by omega
        subst this
        exact (keq_iff _ _).2 rfl
    · unfold cvW
      rw [Bool.and_eq_false_iff]
      right
      by_cases hij : j = i
      · subst hij
        exact (hv j hj).1.2.2.2
      · exact (uncd_iff rs j (by omega)).1 (hu j hj) i (by omega) (fun e => hij e.symm)
  · rintro ⟨hg, ho⟩
    refine ⟨⟨hg, fun i hi => ⟨(ho i hi).1.2.1, fun h0 => ⟨(ho i hi).1.1, (ho i hi).1.2.2 h0⟩⟩⟩, fun i hi => (uncd_iff rs i (by omega)).2 (fun j hj hne => ?_)⟩
    have h1 := (ho j (by omega)).2 i hi
    unfold cvW at h1
    have k1 := (keq_iff _ _).1 (ho j (by omega)).1.1
    have k2 := (keq_iff _ _).1 (ho i hi).1.1
    rw [(keq_iff _ _).2 (k1.trans k2.symm), Bool.true_and] at h1
    exact h1
structure V8 (s : Value) (w wx : World) (rs : List Wr) (gap : Int) (i : Nat) : Prop where
  ex : ∃ b : Bool, s = .bool b ∧ Apart [] w wx ∧ (b = false ↔ okV rs gap i)
set_option maxHeartbeats 16000000 in
set_option maxRecDepth 100000 in
theorem pvalid_ok {w : World} {p : Option Addr} {N cap : Nat} {es : List E} {rs : List Wr} (gap : Int) (T : Tab w) (h : LE w p N es) (hR : ∀ j, j < N → Reads w (gE es j) (gR rs j)) (hrl : rs.length = N) (v : Bool) (hv : v = true ↔ rvalP rs N gap) :
    Calls Tryd.prog 23 #[.slice p N cap, .int .i64 gap] w fun r w' => r = .returned (.bool v) ∧ Apart [] w w' := by
  have hl := h.lim
  rw [← val_iff es rs N gap hrl] at hv
  have HL := hid h
  have HR := hid hR
  have HV := hid hv
  have HT := hid T
  have HRL := hid hrl
  have HCK := hid (check_as (gap := gap) (cap := 0) (L.nil w none) _ rfl)
  clear h hR hv T hrl
  by_cases hg : 1 ≤ gap ∧ gap ≤ 64
  case neg =>
    have hvf : v = false := by
      cases hvv : v with
      | false => rfl
      | true => exact absurd (HV.out.1 hvv).1.1 hg
    subst hvf
    have hck : ¬ chk [] gap = 0 := by
      unfold chk
      rw [if_neg hg]; decide
    go_enter Tryd.func23, Tryd.ntmps23
    go_wp2_with fail
    refine HCK.out.mono ?_
    rintro _ w1 ⟨rfl, a1⟩
    have HA1 := hid a1
    clear a1
    dsimp only
    go_wp2
    go_ret
    exact ⟨rfl, HA1.out⟩
  have hck : chk [] gap = 0 := by
    unfold chk
    rw [if_pos hg, if_pos (OkL.nil gap)]
  obtain ⟨hg1, hg2⟩ := hg
  rw [hck] at HCK
  clear hck
  go_enter Tryd.func23, Tryd.ntmps23
  go_wp2_with fail
  refine HCK.out.mono ?_
  rintro _ w1 ⟨rfl, a1⟩
  have HA1 := hid a1
  clear a1 HCK
  dsimp only
  go_wp2_with fail
  go_loopw [12] (fun u wr => ∃ i : Nat, u = .int .i64 (i : Nat) ∧ i ≤ N ∧ (∀ k, k < i → okV rs gap k) ∧ Apart [] w wr) (fun u _ => N - (intOf u).toNat)
  case atStart => exact ⟨0, rfl, Nat.zero_le _, fun k hk => absurd hk (by omega), HA1.out⟩
  case round =>
    clear HA1
    obtain ⟨i, rfl, hi, hok, ap1⟩ := hrel
    have HA := hid ap1
    have HOK := hid hok
    clear ap1 hok
    by_cases hlt : i < N
    · obtain ⟨P, o, rfl, hP, _⟩ := HL.out.at (by omega)
      have HC : Hid (∀ W, Apart [] w W → ∀ k, k < N → W.cell? ⟨P, o + k * 6, none⟩ = some (.int .i64 (gE es k).n) ∧ W.cell? ⟨P, o + k * 6 + 1, none⟩ = some (.int .i64 (gE es k).c) ∧ W.cell? ⟨P, o + k * 6 + 2, none⟩ = some (.string (gE es k).k) ∧ W.cell? ⟨P, o + k * 6 + 3, none⟩ = some (.bool (gE es k).d) ∧ W.cell? ⟨P, o + k * 6 + 4, none⟩ = some (.slice (gE es k).v.p (gE es k).v.n (gE es k).v.c) ∧ W.cell? ⟨P, o + k * 6 + 5, none⟩ = some (.slice (gE es k).x.p (gE es k).x.n (gE es k).x.c)) := fun W a k hk => by
        obtain ⟨P', o', e, _, hc⟩ := (HL.out.kept0 a).at (by omega)
        simp at e
        obtain ⟨rfl, rfl⟩ := e
        exact hc k hk
      obtain ⟨k0, k1, k2, k3, k4, k5⟩ := HC.out wr HA.out i hlt
      have hiN : ((i : Nat) : Int) < (N : Int) := by omega
      have hN0 : (0 : Int) < (N : Int) := by omega
      have a1 : Apart [] wr (wr.alloc (boxE (gE es i))) := (Apart.refl _ _).alloc _
      have hb6 := heap_alloc_new wr (boxE (gE es i))
      have HAW : Hid (Apart [] w (wr.alloc (boxE (gE es i)))) := HA.out.trans a1
      have HB : Hid (∀ X, Apart [] (wr.alloc (boxE (gE es i))) X → X.cell? ⟨wr.heap.size, 0, none⟩ = some (.int .i64 (gE es i).n) ∧ X.cell? ⟨wr.heap.size, 1, none⟩ = some (.int .i64 (gE es i).c) ∧ X.cell? ⟨wr.heap.size, 2, none⟩ = some (.string (gE es i).k) ∧ X.cell? ⟨wr.heap.size, 3, none⟩ = some (.bool (gE es i).d) ∧ X.cell? ⟨wr.heap.size, 4, none⟩ = some (.slice (gE es i).v.p (gE es i).v.n (gE es i).v.c) ∧ X.cell? ⟨wr.heap.size, 5, none⟩ = some (.slice (gE es i).x.p (gE es i).x.n (gE es i).x.c)) := fun X a => box9 ((a.block _ (lt_of_heap hb6) (by simp)).trans hb6)
      have HZ : Hid (∀ X, Apart [] (wr.alloc (boxE (gE es i))) X → X.cell? ⟨P, o + 2, none⟩ = some (.string (gE es 0).k)) := fun X a => by
        have := (HC.out X (HAW.out.trans a) 0 (by omega)).2.2.1
        simpa using this
      classical
      obtain ⟨bR, hbR⟩ : ∃ bR : Bool, bR = true ↔ rightP (gR rs i) gap := ⟨decide (rightP (gR rs i) gap), by simp⟩
      have hWc : ∀ X, Apart [] (wr.alloc (boxE (gE es i))) X → Calls Tryd.prog 58 #[(gE es i).agg, .int .i64 gap] X fun r w' => r = .returned (.bool bR) ∧ Apart [] X w' := fun X a => isWrite_ok (gE es i) (gR rs i) gap X ((HR.out i hlt).kept0 (HAW.out.trans a)) bR hbR
      unfold E.agg Sl.v at hWc
      have HWc := hid hWc
      have HbR := hid hbR
      have HKQ : Hid (keq (gE es i).k (gE es 0).k = keq (gR rs i).k (gR rs 0).k) := by rw [(HR.out i hlt).k, (HR.out 0 (by omega)).k]; rfl
      clear hWc hbR a1 hb6
      go_upto_region 6 with fail
      obtain ⟨W1, hW1⟩ : ∃ W1, wr.alloc (Obj.cells #[Value.int IntKind.i64 (gE es i).n, Value.int IntKind.i64 (gE es i).c, Value.string (gE es i).k, Value.bool (gE es i).d, Value.slice (gE es i).v.p (gE es i).v.n (gE es i).v.c, Value.slice (gE es i).x.p (gE es i).x.n (gE es i).x.c] 28) = W1 := ⟨_, rfl⟩
      have hW1' : wr.alloc (boxE (gE es i)) = W1 := hW1
      rw [hW1'] at HAW HB HZ HWc
      rw [hW1]
      clear hW1 hW1' k0 k1 k2 k3 k4 k5
      go_cut [43] from 17 to 43 (fun s wx => V8 s w wx rs gap i)
      case first =>
        have HAD := hid (Apart.refl [] W1).drew
        cases hbv : bR
        case false =>
          have HIFF : Hid (true = false ↔ okV rs gap i) := by
            constructor
            · intro h; cases h
            · intro h; have := HbR.out.2 h.1; rw [hbv] at this; cases this
          subst hbv
          generalize gE es i = x at *
          generalize gE es 0 = y at *
          refine wp_region_held_drew (S := fun X => Apart [] W1 X) (by kernel_rfl) HAD.out (fun hHeld => ?_)
          generalize W1.drew = wd at *
          refine tk 0 17 (.agg #[.int .i64 x.n, .int .i64 x.c, .string x.k, .bool x.d, .slice x.v.p x.v.n x.v.c, .slice x.x.p x.x.n x.x.c]) rfl ?_ ?_
          · intro W hSW; obtain ⟨b0, b1, b2, b3, b4, b5⟩ := HB.out W hSW; go_simp
          simp only [Act.put, List.setIfInBounds_toArray, List.set_cons_zero, List.set_cons_succ]
          refine tk 1 18 (.int .i64 gap) rfl ?_ ?_
          · intro W hSW; go_simp
          simp only [Act.put, List.setIfInBounds_toArray, List.set_cons_zero, List.set_cons_succ]
          refine wpAnyH_ready (rs := [2]) (by kernel_rfl) (by simp) ?_
          refine AllReadyH.cons rfl (fun KK hKK => ?_) AllReadyH.nil
          go_simp
          refine (HWc.out _ hHeld).mono ?_
          rintro _ w2 ⟨rfl, a_w2⟩
          have hS_w2 : Apart [] W1 w2 := hHeld.trans a_w2
          clear a_w2
          try dsimp only
          refine hKK.out _ _ hS_w2 (fun hHeld => ?_)
          clear hKK KK
          refine tk 3 20 (.bool true) rfl ?_ ?_
          · intro W hSW; go_simp
          simp only [Act.put, List.setIfInBounds_toArray, List.set_cons_zero, List.set_cons_succ]
          refine tk 4 21 (.bool true) rfl ?_ ?_
          · intro W hSW; go_simp
          simp only [Act.put, List.setIfInBounds_toArray, List.set_cons_zero, List.set_cons_succ]
          refine tu 5 22 rfl ?_
          simp only [Act.put, List.setIfInBounds_toArray, List.set_cons_zero, List.set_cons_succ]
          refine tu 6 23 rfl ?_
          simp only [Act.put, List.setIfInBounds_toArray, List.set_cons_zero, List.set_cons_succ]
          refine tu 7 24 rfl ?_
          simp only [Act.put, List.setIfInBounds_toArray, List.set_cons_zero, List.set_cons_succ]
          refine tu 8 25 rfl ?_
          simp only [Act.put, List.setIfInBounds_toArray, List.set_cons_zero, List.set_cons_succ]
          refine tu 9 26 rfl ?_
          simp only [Act.put, List.setIfInBounds_toArray, List.set_cons_zero, List.set_cons_succ]
          refine tu 10 27 rfl ?_
          simp only [Act.put, List.setIfInBounds_toArray, List.set_cons_zero, List.set_cons_succ]
          refine tu 11 28 rfl ?_
          simp only [Act.put, List.setIfInBounds_toArray, List.set_cons_zero, List.set_cons_succ]
          refine tu 12 29 rfl ?_
          simp only [Act.put, List.setIfInBounds_toArray, List.set_cons_zero, List.set_cons_succ]
          refine tu 13 30 rfl ?_
          simp only [Act.put, List.setIfInBounds_toArray, List.set_cons_zero, List.set_cons_succ]
          refine tu 14 31 rfl ?_
          simp only [Act.put, List.setIfInBounds_toArray, List.set_cons_zero, List.set_cons_succ]
          refine tu 15 32 rfl ?_
          simp only [Act.put, List.setIfInBounds_toArray, List.set_cons_zero, List.set_cons_succ]
          refine tu 16 33 rfl ?_
          simp only [Act.put, List.setIfInBounds_toArray, List.set_cons_zero, List.set_cons_succ]
          refine tu 17 34 rfl ?_
          simp only [Act.put, List.setIfInBounds_toArray, List.set_cons_zero, List.set_cons_succ]
          refine tu 18 35 rfl ?_
          simp only [Act.put, List.setIfInBounds_toArray, List.set_cons_zero, List.set_cons_succ]
          refine tu 19 36 rfl ?_
          simp only [Act.put, List.setIfInBounds_toArray, List.set_cons_zero, List.set_cons_succ]
          refine tu 20 37 rfl ?_
          simp only [Act.put, List.setIfInBounds_toArray, List.set_cons_zero, List.set_cons_succ]
          refine tu 21 38 rfl ?_
          simp only [Act.put, List.setIfInBounds_toArray, List.set_cons_zero, List.set_cons_succ]
          refine wpAnyH_pass 22 (o := ⟨some 39, _, _, _, _, _⟩) (by kernel_rfl) rfl (by kernel_rfl) hS_w2 ?_
          simp only [Act.put, List.setIfInBounds_toArray, List.set_cons_zero, List.set_cons_succ]
          refine tu 23 40 rfl ?_
          simp only [Act.put, List.setIfInBounds_toArray, List.set_cons_zero, List.set_cons_succ]
          refine tu 24 41 rfl ?_
          simp only [Act.put, List.setIfInBounds_toArray, List.set_cons_zero, List.set_cons_succ]
          refine tu 25 42 rfl ?_
          simp only [Act.put, List.setIfInBounds_toArray, List.set_cons_zero, List.set_cons_succ]
          refine tk 26 43 (.bool true) rfl ?_ ?_
          · intro W hSW; go_simp
          simp only [Act.put, List.setIfInBounds_toArray, List.set_cons_zero, List.set_cons_succ]
          refine wpAnyH_done (by kernel_rfl) ?_ _
          go_wp2_with fail
          go_meet
          exact ⟨true, rfl, HAW.out.trans hS_w2, by first | exact HIFF.out | exact ⟨fun _ => HIFF.out.1 trivial, fun _ => rfl⟩⟩
        case true =>
          rcases Nat.eq_zero_or_pos i with h0 | h0
          · have HIFF : Hid (false = false ↔ okV rs gap i) := ⟨fun _ => ⟨HbR.out.1 hbv, fun h => absurd h (by omega)⟩, fun _ => rfl⟩
            have hz : ¬ ((0 : Int) < ((i : Nat) : Int)) := by omega
            subst hbv
            generalize gE es i = x at *
            generalize gE es 0 = y at *
            clear h0
            refine wp_region_held_drew (S := fun X => Apart [] W1 X) (by kernel_rfl) HAD.out (fun hHeld => ?_)
            generalize W1.drew = wd at *
            refine tk 0 17 (.agg #[.int .i64 x.n, .int .i64 x.c, .string x.k, .bool x.d, .slice x.v.p x.v.n x.v.c, .slice x.x.p x.x.n x.x.c]) rfl ?_ ?_
            · intro W hSW; obtain ⟨b0, b1, b2, b3, b4, b5⟩ := HB.out W hSW; go_simp
            simp only [Act.put, List.setIfInBounds_toArray, List.set_cons_zero, List.set_cons_succ]
            refine tk 1 18 (.int .i64 gap) rfl ?_ ?_
            · intro W hSW; go_simp
            simp only [Act.put, List.setIfInBounds_toArray, List.set_cons_zero, List.set_cons_succ]
            refine wpAnyH_ready (rs := [2]) (by kernel_rfl) (by simp) ?_
            refine AllReadyH.cons rfl (fun KK hKK => ?_) AllReadyH.nil
            go_simp
            refine (HWc.out _ hHeld).mono ?_
            rintro _ w2 ⟨rfl, a_w2⟩
            have hS_w2 : Apart [] W1 w2 := hHeld.trans a_w2
            clear a_w2
            try dsimp only
            refine hKK.out _ _ hS_w2 (fun hHeld => ?_)
            clear hKK KK
            refine tk 3 20 (.bool false) rfl ?_ ?_
            · intro W hSW; go_simp
            simp only [Act.put, List.setIfInBounds_toArray, List.set_cons_zero, List.set_cons_succ]
            refine tk 4 21 (.bool false) rfl ?_ ?_
            · intro W hSW; go_simp
            simp only [Act.put, List.setIfInBounds_toArray, List.set_cons_zero, List.set_cons_succ]
            refine tk 5 22 (.int .i64 (i : Nat)) rfl ?_ ?_
            · intro W hSW; go_simp
            simp only [Act.put, List.setIfInBounds_toArray, List.set_cons_zero, List.set_cons_succ]
            refine tk 6 23 (.bool false) rfl ?_ ?_
            · intro W hSW; go_simp; omega
            simp only [Act.put, List.setIfInBounds_toArray, List.set_cons_zero, List.set_cons_succ]
            refine tk 7 24 (.bool false) rfl ?_ ?_
            · intro W hSW; go_simp
            simp only [Act.put, List.setIfInBounds_toArray, List.set_cons_zero, List.set_cons_succ]
            refine tu 8 25 rfl ?_
            simp only [Act.put, List.setIfInBounds_toArray, List.set_cons_zero, List.set_cons_succ]
            refine tu 9 26 rfl ?_
            simp only [Act.put, List.setIfInBounds_toArray, List.set_cons_zero, List.set_cons_succ]
            refine tu 10 27 rfl ?_
            simp only [Act.put, List.setIfInBounds_toArray, List.set_cons_zero, List.set_cons_succ]
            refine tu 11 28 rfl ?_
            simp only [Act.put, List.setIfInBounds_toArray, List.set_cons_zero, List.set_cons_succ]
            refine tu 12 29 rfl ?_
            simp only [Act.put, List.setIfInBounds_toArray, List.set_cons_zero, List.set_cons_succ]
            refine tu 13 30 rfl ?_
            simp only [Act.put, List.setIfInBounds_toArray, List.set_cons_zero, List.set_cons_succ]
            refine tu 14 31 rfl ?_
            simp only [Act.put, List.setIfInBounds_toArray, List.set_cons_zero, List.set_cons_succ]
            refine tu 15 32 rfl ?_
            simp only [Act.put, List.setIfInBounds_toArray, List.set_cons_zero, List.set_cons_succ]
            refine tu 16 33 rfl ?_
            simp only [Act.put, List.setIfInBounds_toArray, List.set_cons_zero, List.set_cons_succ]
            refine tu 17 34 rfl ?_
            simp only [Act.put, List.setIfInBounds_toArray, List.set_cons_zero, List.set_cons_succ]
            refine tu 18 35 rfl ?_
            simp only [Act.put, List.setIfInBounds_toArray, List.set_cons_zero, List.set_cons_succ]
            refine tu 19 36 rfl ?_
            simp only [Act.put, List.setIfInBounds_toArray, List.set_cons_zero, List.set_cons_succ]
            refine tu 20 37 rfl ?_
            simp only [Act.put, List.setIfInBounds_toArray, List.set_cons_zero, List.set_cons_succ]
            refine tu 21 38 rfl ?_
            simp only [Act.put, List.setIfInBounds_toArray, List.set_cons_zero, List.set_cons_succ]
            refine wpAnyH_pass 22 (o := ⟨some 39, _, _, _, _, _⟩) (by kernel_rfl) rfl (by kernel_rfl) hS_w2 ?_
            simp only [Act.put, List.setIfInBounds_toArray, List.set_cons_zero, List.set_cons_succ]
            refine tu 23 40 rfl ?_
            simp only [Act.put, List.setIfInBounds_toArray, List.set_cons_zero, List.set_cons_succ]
            refine tu 24 41 rfl ?_
            simp only [Act.put, List.setIfInBounds_toArray, List.set_cons_zero, List.set_cons_succ]
            refine tk 25 42 (.bool false) rfl ?_ ?_
            · intro W hSW; go_simp
            simp only [Act.put, List.setIfInBounds_toArray, List.set_cons_zero, List.set_cons_succ]
            refine tk 26 43 (.bool false) rfl ?_ ?_
            · intro W hSW; go_simp
            simp only [Act.put, List.setIfInBounds_toArray, List.set_cons_zero, List.set_cons_succ]
            refine wpAnyH_done (by kernel_rfl) ?_ _
            go_wp2_with fail
            go_meet
            exact ⟨false, rfl, HAW.out.trans hS_w2, by first | exact HIFF.out | exact ⟨fun _ => HIFF.out.1 trivial, fun _ => rfl⟩⟩
          · cases hk : keq (gE es i).k (gE es 0).k
            case false =>
              have HIFF : Hid (true = false ↔ okV rs gap i) := by
                constructor
                · intro h; cases h
                · intro h; have := (h.2 h0).1; rw [← HKQ.out, hk] at this; cases this
              have hz : (0 : Int) < ((i : Nat) : Int) := by omega
              subst hbv
              unfold keq at hk
              generalize gE es i = x at *
              generalize gE es 0 = y at *
              clear h0
              refine wp_region_held_drew (S := fun X => Apart [] W1 X) (by kernel_rfl) HAD.out (fun hHeld => ?_)
              generalize W1.drew = wd at *
              refine tk 0 17 (.agg #[.int .i64 x.n, .int .i64 x.c, .string x.k, .bool x.d, .slice x.v.p x.v.n x.v.c, .slice x.x.p x.x.n x.x.c]) rfl ?_ ?_
              · intro W hSW; obtain ⟨b0, b1, b2, b3, b4, b5⟩ := HB.out W hSW; go_simp
              simp only [Act.put, List.setIfInBounds_toArray, List.set_cons_zero, List.set_cons_succ]
              refine tk 1 18 (.int .i64 gap) rfl ?_ ?_
              · intro W hSW; go_simp
              simp only [Act.put, List.setIfInBounds_toArray, List.set_cons_zero, List.set_cons_succ]
              refine wpAnyH_ready (rs := [2]) (by kernel_rfl) (by simp) ?_
              refine AllReadyH.cons rfl (fun KK hKK => ?_) AllReadyH.nil
              go_simp
              refine (HWc.out _ hHeld).mono ?_
              rintro _ w2 ⟨rfl, a_w2⟩
              have hS_w2 : Apart [] W1 w2 := hHeld.trans a_w2
              clear a_w2
              try dsimp only
              refine hKK.out _ _ hS_w2 (fun hHeld => ?_)
              clear hKK KK
              refine tk 3 20 (.bool false) rfl ?_ ?_
              · intro W hSW; go_simp
              simp only [Act.put, List.setIfInBounds_toArray, List.set_cons_zero, List.set_cons_succ]
              refine tk 4 21 (.bool false) rfl ?_ ?_
              · intro W hSW; go_simp
              simp only [Act.put, List.setIfInBounds_toArray, List.set_cons_zero, List.set_cons_succ]
              refine tk 5 22 (.int .i64 (i : Nat)) rfl ?_ ?_
              · intro W hSW; go_simp
              simp only [Act.put, List.setIfInBounds_toArray, List.set_cons_zero, List.set_cons_succ]
              refine tk 6 23 (.bool true) rfl ?_ ?_
              · intro W hSW; go_simp; omega
              simp only [Act.put, List.setIfInBounds_toArray, List.set_cons_zero, List.set_cons_succ]
              refine tk 7 24 (.bool true) rfl ?_ ?_
              · intro W hSW; go_simp
              simp only [Act.put, List.setIfInBounds_toArray, List.set_cons_zero, List.set_cons_succ]
              refine tk 8 25 (.pointer (some ⟨wr.heap.size, 2, none⟩)) rfl ?_ ?_
              · intro W hSW; go_simp
              simp only [Act.put, List.setIfInBounds_toArray, List.set_cons_zero, List.set_cons_succ]
              refine tk 9 26 (.string x.k) rfl ?_ ?_
              · intro W hSW; obtain ⟨b0, b1, b2, b3, b4, b5⟩ := HB.out W hSW; go_simp
              simp only [Act.put, List.setIfInBounds_toArray, List.set_cons_zero, List.set_cons_succ]
              refine tk 10 27 (.slice (some ⟨P, o, none⟩) N cap) rfl ?_ ?_
              · intro W hSW; go_simp
              simp only [Act.put, List.setIfInBounds_toArray, List.set_cons_zero, List.set_cons_succ]
              refine tk 11 28 (.pointer (some ⟨P, o, none⟩)) rfl ?_ ?_
              · intro W hSW; go_simp; intro h0; exact absurd h0 (by omega)
              simp only [Act.put, List.setIfInBounds_toArray, List.set_cons_zero, List.set_cons_succ]
              refine tk 12 29 (.pointer (some ⟨P, o + 2, none⟩)) rfl ?_ ?_
              · intro W hSW; go_simp
              simp only [Act.put, List.setIfInBounds_toArray, List.set_cons_zero, List.set_cons_succ]
              refine tk 13 30 (.string y.k) rfl ?_ ?_
              · intro W hSW; have z2 := HZ.out W hSW; go_simp
              simp only [Act.put, List.setIfInBounds_toArray, List.set_cons_zero, List.set_cons_succ]
              refine tk 14 31 (.bool true) rfl ?_ ?_
              · intro W hSW; go_simp
              simp only [Act.put, List.setIfInBounds_toArray, List.set_cons_zero, List.set_cons_succ]
              refine tk 15 32 (.bool true) rfl ?_ ?_
              · intro W hSW; go_simp
              simp only [Act.put, List.setIfInBounds_toArray, List.set_cons_zero, List.set_cons_succ]
              refine tu 16 33 rfl ?_
              simp only [Act.put, List.setIfInBounds_toArray, List.set_cons_zero, List.set_cons_succ]
              refine tu 17 34 rfl ?_
              simp only [Act.put, List.setIfInBounds_toArray, List.set_cons_zero, List.set_cons_succ]
              refine tu 18 35 rfl ?_
              simp only [Act.put, List.setIfInBounds_toArray, List.set_cons_zero, List.set_cons_succ]
              refine tu 19 36 rfl ?_
              simp only [Act.put, List.setIfInBounds_toArray, List.set_cons_zero, List.set_cons_succ]
              refine tu 20 37 rfl ?_
              simp only [Act.put, List.setIfInBounds_toArray, List.set_cons_zero, List.set_cons_succ]
              refine tu 21 38 rfl ?_
              simp only [Act.put, List.setIfInBounds_toArray, List.set_cons_zero, List.set_cons_succ]
              refine wpAnyH_pass 22 (o := ⟨some 39, _, _, _, _, _⟩) (by kernel_rfl) rfl (by kernel_rfl) hS_w2 ?_
              simp only [Act.put, List.setIfInBounds_toArray, List.set_cons_zero, List.set_cons_succ]
              refine tu 23 40 rfl ?_
              simp only [Act.put, List.setIfInBounds_toArray, List.set_cons_zero, List.set_cons_succ]
              refine tk 24 41 (.bool true) rfl ?_ ?_
              · intro W hSW; go_simp
              simp only [Act.put, List.setIfInBounds_toArray, List.set_cons_zero, List.set_cons_succ]
              refine tk 25 42 (.bool true) rfl ?_ ?_
              · intro W hSW; go_simp
              simp only [Act.put, List.setIfInBounds_toArray, List.set_cons_zero, List.set_cons_succ]
              refine tk 26 43 (.bool true) rfl ?_ ?_
              · intro W hSW; go_simp
              simp only [Act.put, List.setIfInBounds_toArray, List.set_cons_zero, List.set_cons_succ]
              refine wpAnyH_done (by kernel_rfl) ?_ _
              go_wp2_with fail
              go_meet
              exact ⟨true, rfl, HAW.out.trans hS_w2, by first | exact HIFF.out | exact ⟨fun _ => HIFF.out.1 trivial, fun _ => rfl⟩⟩
            case true =>
              obtain ⟨t, hit⟩ : ∃ t, i = t + 1 := ⟨i - 1, by omega⟩
              have HM : Hid (∀ X, Apart [] W1 X → X.cell? ⟨P, o + t * 6, none⟩ = some (.int .i64 (gE es t).n) ∧ X.cell? ⟨P, o + t * 6 + 1, none⟩ = some (.int .i64 (gE es t).c) ∧ X.cell? ⟨P, o + t * 6 + 2, none⟩ = some (.string (gE es t).k) ∧ X.cell? ⟨P, o + t * 6 + 3, none⟩ = some (.bool (gE es t).d) ∧ X.cell? ⟨P, o + t * 6 + 4, none⟩ = some (.slice (gE es t).v.p (gE es t).v.n (gE es t).v.c) ∧ X.cell? ⟨P, o + t * 6 + 5, none⟩ = some (.slice (gE es t).x.p (gE es t).x.n (gE es t).x.c)) := fun X a => HC.out X (HAW.out.trans a) t (by omega)
              have hCc : ∀ X, Apart [] W1 X → Calls Tryd.prog 59 #[(gE es t).agg, (gE es i).agg] X fun r w' => r = .returned (.int .i64 (cfE (gE es t) (gE es i))) ∧ Apart [] X w' := fun X _ => compare_ok _ _ X
              have HBE : Hid ((0 ≤ cfE (gE es t) (gE es i)) ↔ belowW (gR rs (i - 1)) (gR rs i) = false) := by
                have r1 := HR.out t (by omega)
                have r2 := HR.out i hlt
                have e1 : i - 1 = t := by omega
                have := cf_below (gE es t) (gE es i)
                unfold Hid
                rw [this]
                unfold below belowW
                rw [r1.n, r1.c, r2.n, r2.c, e1]
              unfold E.agg Sl.v at hCc
              obtain ⟨cf, Hcf⟩ : ∃ cf, Hid (cf = cfE (gE es t) (gE es i)) := ⟨_, rfl⟩
              rw [← Hcf.out] at hCc HBE
              have HCc := hid hCc
              have hz : (0 : Int) < ((i : Nat) : Int) := by omega
              have htN : ((t : Nat) : Int) < (N : Int) := by omega
              have HW44 : Hid (IntKind.i64.wrap (((i : Nat) : Int) - 1) = ((t : Nat) : Int)) := by
                have e1 : ((i : Nat) : Int) - 1 = ((t : Nat) : Int) := by omega
                rw [e1]; unfold Hid; rw [IntKind.wrap_i64]; omega
              clear hCc hit Hcf
              by_cases hge : 0 ≤ cf
              · have HIFF : Hid (true = false ↔ okV rs gap i) := by
                  constructor
                  · intro h; cases h
                  · intro h
                    have h1 := (h.2 h0).2
                    rw [HBE.out.1 hge] at h1
                    cases h1
                subst hbv
                unfold keq at hk
                clear h0 HC HBE HKQ
                generalize gE es i = x at *
                generalize gE es t = m at *
                generalize gE es 0 = y at *
                refine wp_region_held_drew (S := fun X => Apart [] W1 X) (by kernel_rfl) HAD.out (fun hHeld => ?_)
                generalize W1.drew = wd at *
                refine tk 0 17 (.agg #[.int .i64 x.n, .int .i64 x.c, .string x.k, .bool x.d, .slice x.v.p x.v.n x.v.c, .slice x.x.p x.x.n x.x.c]) rfl ?_ ?_
                · intro W hSW; obtain ⟨b0, b1, b2, b3, b4, b5⟩ := HB.out W hSW; go_simp
                simp only [Act.put, List.setIfInBounds_toArray, List.set_cons_zero, List.set_cons_succ]
                refine tk 1 18 (.int .i64 gap) rfl ?_ ?_
                · intro W hSW; go_simp
                simp only [Act.put, List.setIfInBounds_toArray, List.set_cons_zero, List.set_cons_succ]
                refine wpAnyH_ready (rs := [2]) (by kernel_rfl) (by simp) ?_
                refine AllReadyH.cons rfl (fun KK hKK => ?_) AllReadyH.nil
                go_simp
                refine (HWc.out _ hHeld).mono ?_
                rintro _ w2 ⟨rfl, a_w2⟩
                have hS_w2 : Apart [] W1 w2 := hHeld.trans a_w2
                clear a_w2
                try dsimp only
                refine hKK.out _ _ hS_w2 (fun hHeld => ?_)
                clear hKK KK
                refine tk 3 20 (.bool false) rfl ?_ ?_
                · intro W hSW; go_simp
                simp only [Act.put, List.setIfInBounds_toArray, List.set_cons_zero, List.set_cons_succ]
                refine tk 4 21 (.bool false) rfl ?_ ?_
                · intro W hSW; go_simp
                simp only [Act.put, List.setIfInBounds_toArray, List.set_cons_zero, List.set_cons_succ]
                refine tk 5 22 (.int .i64 (i : Nat)) rfl ?_ ?_
                · intro W hSW; go_simp
                simp only [Act.put, List.setIfInBounds_toArray, List.set_cons_zero, List.set_cons_succ]
                refine tk 6 23 (.bool true) rfl ?_ ?_
                · intro W hSW; go_simp; omega
                simp only [Act.put, List.setIfInBounds_toArray, List.set_cons_zero, List.set_cons_succ]
                refine tk 7 24 (.bool true) rfl ?_ ?_
                · intro W hSW; go_simp
                simp only [Act.put, List.setIfInBounds_toArray, List.set_cons_zero, List.set_cons_succ]
                refine tk 8 25 (.pointer (some ⟨wr.heap.size, 2, none⟩)) rfl ?_ ?_
                · intro W hSW; go_simp
                simp only [Act.put, List.setIfInBounds_toArray, List.set_cons_zero, List.set_cons_succ]
                refine tk 9 26 (.string x.k) rfl ?_ ?_
                · intro W hSW; obtain ⟨b0, b1, b2, b3, b4, b5⟩ := HB.out W hSW; go_simp
                simp only [Act.put, List.setIfInBounds_toArray, List.set_cons_zero, List.set_cons_succ]
                refine tk 10 27 (.slice (some ⟨P, o, none⟩) N cap) rfl ?_ ?_
                · intro W hSW; go_simp
                simp only [Act.put, List.setIfInBounds_toArray, List.set_cons_zero, List.set_cons_succ]
                refine tk 11 28 (.pointer (some ⟨P, o, none⟩)) rfl ?_ ?_
                · intro W hSW; go_simp; intro h0; exact absurd h0 (by omega)
                simp only [Act.put, List.setIfInBounds_toArray, List.set_cons_zero, List.set_cons_succ]
                refine tk 12 29 (.pointer (some ⟨P, o + 2, none⟩)) rfl ?_ ?_
                · intro W hSW; go_simp
                simp only [Act.put, List.setIfInBounds_toArray, List.set_cons_zero, List.set_cons_succ]
                refine tk 13 30 (.string y.k) rfl ?_ ?_
                · intro W hSW; have z2 := HZ.out W hSW; go_simp
                simp only [Act.put, List.setIfInBounds_toArray, List.set_cons_zero, List.set_cons_succ]
                refine tk 14 31 (.bool false) rfl ?_ ?_
                · intro W hSW; go_simp
                simp only [Act.put, List.setIfInBounds_toArray, List.set_cons_zero, List.set_cons_succ]
                refine tk 15 32 (.bool false) rfl ?_ ?_
                · intro W hSW; go_simp
                simp only [Act.put, List.setIfInBounds_toArray, List.set_cons_zero, List.set_cons_succ]
                refine tk 16 33 (.slice (some ⟨P, o, none⟩) N cap) rfl ?_ ?_
                · intro W hSW; go_simp
                simp only [Act.put, List.setIfInBounds_toArray, List.set_cons_zero, List.set_cons_succ]
                refine tk 17 34 (.int .i64 (i : Nat)) rfl ?_ ?_
                · intro W hSW; go_simp
                simp only [Act.put, List.setIfInBounds_toArray, List.set_cons_zero, List.set_cons_succ]
                refine tk 18 35 (.int .i64 (t : Nat)) rfl ?_ ?_
                · intro W hSW; have hw44 := HW44.out; go_simp
                simp only [Act.put, List.setIfInBounds_toArray, List.set_cons_zero, List.set_cons_succ]
                refine tk 19 36 (.pointer (some ⟨P, o + t * 6, none⟩)) rfl ?_ ?_
                · intro W hSW; go_simp
                simp only [Act.put, List.setIfInBounds_toArray, List.set_cons_zero, List.set_cons_succ]
                refine tk 20 37 (.agg #[.int .i64 m.n, .int .i64 m.c, .string m.k, .bool m.d, .slice m.v.p m.v.n m.v.c, .slice m.x.p m.x.n m.x.c]) rfl ?_ ?_
                · intro W hSW; obtain ⟨m0, m1, m2, m3, m4, m5⟩ := HM.out W hSW; go_simp
                simp only [Act.put, List.setIfInBounds_toArray, List.set_cons_zero, List.set_cons_succ]
                refine tk 21 38 (.agg #[.int .i64 x.n, .int .i64 x.c, .string x.k, .bool x.d, .slice x.v.p x.v.n x.v.c, .slice x.x.p x.x.n x.x.c]) rfl ?_ ?_
                · intro W hSW; obtain ⟨b0, b1, b2, b3, b4, b5⟩ := HB.out W hSW; go_simp
                simp only [Act.put, List.setIfInBounds_toArray, List.set_cons_zero, List.set_cons_succ]
                refine wpAnyH_ready (rs := [22]) (by kernel_rfl) (by simp) ?_
                refine AllReadyH.cons rfl (fun KK hKK => ?_) AllReadyH.nil
                go_simp
                refine (HCc.out _ hS_w2).mono ?_
                rintro _ w7 ⟨rfl, a_w7⟩
                have hS_w7 : Apart [] W1 w7 := hS_w2.trans a_w7
                clear a_w7
                try dsimp only
                refine hKK.out _ _ hS_w7 (fun hHeld => ?_)
                clear hKK KK
                refine tk 23 40 (.bool true) rfl ?_ ?_
                · intro W hSW; go_simp
                simp only [Act.put, List.setIfInBounds_toArray, List.set_cons_zero, List.set_cons_succ]
                refine tk 24 41 (.bool true) rfl ?_ ?_
                · intro W hSW; go_simp
                simp only [Act.put, List.setIfInBounds_toArray, List.set_cons_zero, List.set_cons_succ]
                refine tk 25 42 (.bool true) rfl ?_ ?_
                · intro W hSW; go_simp
                simp only [Act.put, List.setIfInBounds_toArray, List.set_cons_zero, List.set_cons_succ]
                refine tk 26 43 (.bool true) rfl ?_ ?_
                · intro W hSW; go_simp
                simp only [Act.put, List.setIfInBounds_toArray, List.set_cons_zero, List.set_cons_succ]
                refine wpAnyH_done (by kernel_rfl) ?_ _
                go_wp2_with fail
                go_meet
                exact ⟨true, rfl, HAW.out.trans hS_w7, by first | exact HIFF.out | exact ⟨fun _ => HIFF.out.1 trivial, fun _ => rfl⟩⟩
              · have HIFF : Hid (false = false ↔ okV rs gap i) := ⟨fun _ => ⟨HbR.out.1 hbv, fun _ => ⟨by rw [← HKQ.out]; exact hk, by
                  cases hb : belowW (gR rs (i - 1)) (gR rs i) with
                  | true => rfl
                  | false => exact absurd (HBE.out.2 hb) hge⟩⟩, fun _ => rfl⟩
                subst hbv
                unfold keq at hk
                clear h0 HC HBE HKQ
                generalize gE es i = x at *
                generalize gE es t = m at *
                generalize gE es 0 = y at *
                refine wp_region_held_drew (S := fun X => Apart [] W1 X) (by kernel_rfl) HAD.out (fun hHeld => ?_)
                generalize W1.drew = wd at *
                refine tk 0 17 (.agg #[.int .i64 x.n, .int .i64 x.c, .string x.k, .bool x.d, .slice x.v.p x.v.n x.v.c, .slice x.x.p x.x.n x.x.c]) rfl ?_ ?_
                · intro W hSW; obtain ⟨b0, b1, b2, b3, b4, b5⟩ := HB.out W hSW; go_simp
                simp only [Act.put, List.setIfInBounds_toArray, List.set_cons_zero, List.set_cons_succ]
                refine tk 1 18 (.int .i64 gap) rfl ?_ ?_
                · intro W hSW; go_simp
                simp only [Act.put, List.setIfInBounds_toArray, List.set_cons_zero, List.set_cons_succ]
                refine wpAnyH_ready (rs := [2]) (by kernel_rfl) (by simp) ?_
                refine AllReadyH.cons rfl (fun KK hKK => ?_) AllReadyH.nil
                go_simp
                refine (HWc.out _ hHeld).mono ?_
                rintro _ w2 ⟨rfl, a_w2⟩
                have hS_w2 : Apart [] W1 w2 := hHeld.trans a_w2
                clear a_w2
                try dsimp only
                refine hKK.out _ _ hS_w2 (fun hHeld => ?_)
                clear hKK KK
                refine tk 3 20 (.bool false) rfl ?_ ?_
                · intro W hSW; go_simp
                simp only [Act.put, List.setIfInBounds_toArray, List.set_cons_zero, List.set_cons_succ]
                refine tk 4 21 (.bool false) rfl ?_ ?_
                · intro W hSW; go_simp
                simp only [Act.put, List.setIfInBounds_toArray, List.set_cons_zero, List.set_cons_succ]
                refine tk 5 22 (.int .i64 (i : Nat)) rfl ?_ ?_
                · intro W hSW; go_simp
                simp only [Act.put, List.setIfInBounds_toArray, List.set_cons_zero, List.set_cons_succ]
                refine tk 6 23 (.bool true) rfl ?_ ?_
                · intro W hSW; go_simp; omega
                simp only [Act.put, List.setIfInBounds_toArray, List.set_cons_zero, List.set_cons_succ]
                refine tk 7 24 (.bool true) rfl ?_ ?_
                · intro W hSW; go_simp
                simp only [Act.put, List.setIfInBounds_toArray, List.set_cons_zero, List.set_cons_succ]
                refine tk 8 25 (.pointer (some ⟨wr.heap.size, 2, none⟩)) rfl ?_ ?_
                · intro W hSW; go_simp
                simp only [Act.put, List.setIfInBounds_toArray, List.set_cons_zero, List.set_cons_succ]
                refine tk 9 26 (.string x.k) rfl ?_ ?_
                · intro W hSW; obtain ⟨b0, b1, b2, b3, b4, b5⟩ := HB.out W hSW; go_simp
                simp only [Act.put, List.setIfInBounds_toArray, List.set_cons_zero, List.set_cons_succ]
                refine tk 10 27 (.slice (some ⟨P, o, none⟩) N cap) rfl ?_ ?_
                · intro W hSW; go_simp
                simp only [Act.put, List.setIfInBounds_toArray, List.set_cons_zero, List.set_cons_succ]
                refine tk 11 28 (.pointer (some ⟨P, o, none⟩)) rfl ?_ ?_
                · intro W hSW; go_simp; intro h0; exact absurd h0 (by omega)
                simp only [Act.put, List.setIfInBounds_toArray, List.set_cons_zero, List.set_cons_succ]
                refine tk 12 29 (.pointer (some ⟨P, o + 2, none⟩)) rfl ?_ ?_
                · intro W hSW; go_simp
                simp only [Act.put, List.setIfInBounds_toArray, List.set_cons_zero, List.set_cons_succ]
                refine tk 13 30 (.string y.k) rfl ?_ ?_
                · intro W hSW; have z2 := HZ.out W hSW; go_simp
                simp only [Act.put, List.setIfInBounds_toArray, List.set_cons_zero, List.set_cons_succ]
                refine tk 14 31 (.bool false) rfl ?_ ?_
                · intro W hSW; go_simp
                simp only [Act.put, List.setIfInBounds_toArray, List.set_cons_zero, List.set_cons_succ]
                refine tk 15 32 (.bool false) rfl ?_ ?_
                · intro W hSW; go_simp
                simp only [Act.put, List.setIfInBounds_toArray, List.set_cons_zero, List.set_cons_succ]
                refine tk 16 33 (.slice (some ⟨P, o, none⟩) N cap) rfl ?_ ?_
                · intro W hSW; go_simp
                simp only [Act.put, List.setIfInBounds_toArray, List.set_cons_zero, List.set_cons_succ]
                refine tk 17 34 (.int .i64 (i : Nat)) rfl ?_ ?_
                · intro W hSW; go_simp
                simp only [Act.put, List.setIfInBounds_toArray, List.set_cons_zero, List.set_cons_succ]
                refine tk 18 35 (.int .i64 (t : Nat)) rfl ?_ ?_
                · intro W hSW; have hw44 := HW44.out; go_simp
                simp only [Act.put, List.setIfInBounds_toArray, List.set_cons_zero, List.set_cons_succ]
                refine tk 19 36 (.pointer (some ⟨P, o + t * 6, none⟩)) rfl ?_ ?_
                · intro W hSW; go_simp
                simp only [Act.put, List.setIfInBounds_toArray, List.set_cons_zero, List.set_cons_succ]
                refine tk 20 37 (.agg #[.int .i64 m.n, .int .i64 m.c, .string m.k, .bool m.d, .slice m.v.p m.v.n m.v.c, .slice m.x.p m.x.n m.x.c]) rfl ?_ ?_
                · intro W hSW; obtain ⟨m0, m1, m2, m3, m4, m5⟩ := HM.out W hSW; go_simp
                simp only [Act.put, List.setIfInBounds_toArray, List.set_cons_zero, List.set_cons_succ]
                refine tk 21 38 (.agg #[.int .i64 x.n, .int .i64 x.c, .string x.k, .bool x.d, .slice x.v.p x.v.n x.v.c, .slice x.x.p x.x.n x.x.c]) rfl ?_ ?_
                · intro W hSW; obtain ⟨b0, b1, b2, b3, b4, b5⟩ := HB.out W hSW; go_simp
                simp only [Act.put, List.setIfInBounds_toArray, List.set_cons_zero, List.set_cons_succ]
                refine wpAnyH_ready (rs := [22]) (by kernel_rfl) (by simp) ?_
                refine AllReadyH.cons rfl (fun KK hKK => ?_) AllReadyH.nil
                go_simp
                refine (HCc.out _ hS_w2).mono ?_
                rintro _ w7 ⟨rfl, a_w7⟩
                have hS_w7 : Apart [] W1 w7 := hS_w2.trans a_w7
                clear a_w7
                try dsimp only
                refine hKK.out _ _ hS_w7 (fun hHeld => ?_)
                clear hKK KK
                refine tk 23 40 (.bool false) rfl ?_ ?_
                · intro W hSW; go_simp
                simp only [Act.put, List.setIfInBounds_toArray, List.set_cons_zero, List.set_cons_succ]
                refine tk 24 41 (.bool false) rfl ?_ ?_
                · intro W hSW; go_simp
                simp only [Act.put, List.setIfInBounds_toArray, List.set_cons_zero, List.set_cons_succ]
                refine tk 25 42 (.bool false) rfl ?_ ?_
                · intro W hSW; go_simp
                simp only [Act.put, List.setIfInBounds_toArray, List.set_cons_zero, List.set_cons_succ]
                refine tk 26 43 (.bool false) rfl ?_ ?_
                · intro W hSW; go_simp
                simp only [Act.put, List.setIfInBounds_toArray, List.set_cons_zero, List.set_cons_succ]
                refine wpAnyH_done (by kernel_rfl) ?_ _
                go_wp2_with fail
                go_meet
                exact ⟨false, rfl, HAW.out.trans hS_w7, by first | exact HIFF.out | exact ⟨fun _ => HIFF.out.1 trivial, fun _ => rfl⟩⟩
      obtain ⟨b, rfl, apc, hiff⟩ := hcut.ex
      have HAC := hid apc
      have HI := hid hiff
      clear hcut apc hiff HKQ HZ HB HA HC HWc HAW
      cases b
      case true =>
        have hvf : v = false := by
          cases hvv : v with
          | false => rfl
          | true => exact absurd (HI.out.2 ((HV.out.1 hvv).1.2 i hlt)) (by simp)
        subst hvf
        go_wp2
        go_ret
        exact ⟨rfl, HAC.out⟩
      case false =>
        have HOI : Hid (∀ k, k < i + 1 → okV rs gap k) := fun k hk => by
          by_cases hki : k = i
          · rw [hki]; exact HI.out.1 rfl
          · exact HOK.out k (by omega)
        go_wp2_with fail
        go_roundw
        case rel => exact ⟨i + 1, by go_num, by omega, HOI.out, HAC.out⟩
        case measure => simp [intOf]; omega
    · obtain rfl : N = i := by omega
      have hU := uncovered_ok (cap := cap) (HT.out.kept0 HA.out) (HL.out.kept0 HA.out) (fun j hj => (HR.out j hj).kept0 HA.out) HRL.out
      have HU := hid hU
      clear hU
      go_wp2_with fail
      refine HU.out.mono ?_
      rintro _ w5 ⟨s, rfl, ho⟩
      have hlen : s.n = (bU es rs N N).length := by rw [← ho.len, List.length_reverse]
      have hsl : s.n ≤ 2000000 := by rw [hlen]; exact Nat.le_trans (bU_len es rs N N) hl
      have HA5 := hid (HA.out.trans ho.nw.ap)
      have HLEN := hid hlen
      clear ho hlen
      unfold Sl.v
      dsimp only
      by_cases hsn : ((s.n : Nat) : Int) = (N : Int)
      · have hvt : v = true := HV.out.2 ⟨⟨⟨hg1, hg2⟩, HOK.out⟩, by rw [← HLEN.out]; omega⟩
        subst hvt
        go_wp2
        go_ret
        exact ⟨by simp [hsn], HA5.out⟩
      · have hvf : v = false := by
          cases hvv : v with
          | false => rfl
          | true => exact absurd (HV.out.1 hvv).2 (by rw [← HLEN.out]; omega)
        subst hvf
        go_wp2
        go_ret
        exact ⟨by simp [hsn], HA5.out⟩
end Go.Proofs.YtokaeiahhmaokaaDoor.ds
