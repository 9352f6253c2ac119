import Derived.Test.YtddffdcjhleejaaGreatG1
import Derived.Test.YtddffdcjhleejaaGreatG2
import Derived.ArgAppend
import Derived.Deep.RegionLaw
import Derived.Deep.DeepAppendRoom
namespace Go.Proofs.YtddffdcjhleejaaGreat.ds
open Go.ChangeShapes Go.WideShapes Go.ChangeAt Go.RowKit
set_option linter.unusedVariables false
theorem isSpan_yes (x : S) (gap : Int) (w : World) (ht : x.t < 2 ^ 64) (h : Ok gap x) : Calls Tryz.prog 111 #[spv x, .int .i64 gap] w fun r w' => r = .returned (.bool true) ∧ Apart [] w w' := by
  refine (isSpan_ok x gap w ht).mono ?_
  rintro r w1 ⟨⟨v, rfl, hv⟩, a1⟩
  exact ⟨by rw [hv.2 h], a1⟩
theorem isSpan_no (x : S) (gap : Int) (w : World) (ht : x.t < 2 ^ 64) (h : ¬ Ok gap x) : Calls Tryz.prog 111 #[spv x, .int .i64 gap] w fun r w' => r = .returned (.bool false) ∧ Apart [] w w' := by
  refine (isSpan_ok x gap w ht).mono ?_
  rintro r w1 ⟨⟨v, rfl, hv⟩, a1⟩
  cases v
  · exact ⟨rfl, a1⟩
  · exact absurd (hv.1 rfl) h
theorem okL_iff (gap : Int) (xs : List S) : OkL gap xs ↔ ∀ i, i < xs.length → Ok gap (g xs i) ∧ (0 < i → (g xs (i - 1)).n < (g xs i).n) := by
  have gi : ∀ i (h : i < xs.length), g xs i = xs[i] := by
    intro i h; unfold g; rw [List.getD_eq_getElem?_getD, List.getElem?_eq_getElem h]; rfl
  constructor
  · intro h i hi
    refine ⟨h.ok _ (g_mem hi), fun h0 => ?_⟩
    have := (List.pairwise_iff_getElem.1 h.up) (i - 1) i (by omega) hi (by omega)
    rw [gi i hi, gi (i - 1) (by omega)]; exact this
  · intro h
    have step : ∀ d i, i + d < xs.length → 0 < d → (g xs i).n < (g xs (i + d)).n := by
      intro d
      induction d with
      | zero => intro i _ h0; omega
      | succ d ih =>
        intro i hi _
        have h1 := (h (i + (d + 1)) hi).2 (by omega)
        rw [show i + (d + 1) - 1 = i + d by omega] at h1
        by_cases hd : d = 0
        · subst hd; exact h1
        · have := ih i (by omega) (by omega); omega
    refine ⟨fun x hx => ?_, List.pairwise_iff_getElem.2 fun i j hi hj hij => ?_⟩
    · obtain ⟨i, hi, rfl⟩ := List.getElem_of_mem hx
      rw [← gi i hi]; exact (h i hi).1
    · rw [← gi i hi, ← gi j hj]
      have := step (j - i) i (by omega) (by omega)
      rwa [show i + (j - i) = j by omega] at this

/-- so far a set -/
def Pre (gap : Int) (xs : List S) (i : Nat) : Prop := ∀ j, j < i → Ok gap (g xs j) ∧ (0 < j → (g xs (j - 1)).n < (g xs j).n)
set_option maxHeartbeats 2000000 in
set_option maxRecDepth 100000 in
theorem isSet_ok (p : Option Addr) (N cap : Nat) (xs : List S) (gap : Int) (w : World) (hp : Sp w p xs) (hN : xs.length = N) (hl : N ≤ 9223372036854775807) (hf : ∀ x ∈ xs, x.t < 2 ^ 64) : Calls Tryz.prog 100 #[.slice p N cap, .int .i64 gap] w fun r w' => Tells r (OkL gap xs) ∧ Apart [] w w' := by
  have HN : Hid (xs.length = N) := hN
  clear hN
  go_enter Tryz.func100, Tryz.ntmps100
  go_wp2_with fail
  go_loopw [9] (fun v wr => ∃ i : Nat, i ≤ N ∧ v = .int .i64 i ∧ Apart [] w wr ∧ Pre gap xs i) (fun v _ => N - (intOf v).toNat)
  case atStart => exact ⟨0, Nat.zero_le _, rfl, Apart.refl _ _, fun j hj => absurd hj (by omega)⟩
  case round =>
    obtain ⟨i, hi, rfl, aR, hno⟩ := hrel
    by_cases hlt : i < N
    · obtain ⟨P, o, rfl, hP, hc⟩ := (hp.kept0 aR) (by rw [HN.out]; omega)
      obtain ⟨c0, c1, c2⟩ := hc i (by rw [HN.out]; omega)
      have hxt := hf (g xs i) (g_mem (by rw [HN.out]; omega))
      have HX : Hid (i < xs.length) := by show i < xs.length; rw [HN.out]; omega
      have hprev := fun (h0 : 0 < i) => (hc (i - 1) (by rw [HN.out]; omega)).1
      have HG : ∃ x, Hid (x = g xs i) := ⟨_, rfl⟩
      obtain ⟨⟨xn, xb, xt⟩, HG⟩ := HG
      rw [← HG.out] at c0 c1 c2 hxt
      simp only at c0 c1 c2 hxt
      clear hc
      go_wp2_with fail
      have bV := new1 wr #[.int .i64 xn, .int .i64 xb, .int .u64 xt] 48
      have aV0 : Apart [] wr (wr.alloc (.cells #[.int .i64 xn, .int .i64 xb, .int .u64 xt] 48)) := (Apart.refl _ _).alloc _
      generalize wr.alloc (.cells #[.int .i64 xn, .int .i64 xb, .int .u64 xt] 48) = V at *
      have r0 : ∀ W, Apart [] V W → W.cell? ⟨wr.heap.size, 0, none⟩ = some (.int .i64 xn) := fun W a => (rowc ((a.block _ (lt_of_heap bV) (by simp)).trans bV)).1.1
      have r1 : ∀ W, Apart [] V W → W.cell? ⟨wr.heap.size, 1, none⟩ = some (.int .i64 xb) := fun W a => (rowc ((a.block _ (lt_of_heap bV) (by simp)).trans bV)).1.2.1
      have r2 : ∀ W, Apart [] V W → W.cell? ⟨wr.heap.size, 2, none⟩ = some (.int .u64 xt) := fun W a => (rowc ((a.block _ (lt_of_heap bV) (by simp)).trans bV)).1.2.2
      have aV : Apart [] V V.drew := (Apart.refl _ _).drew
      by_cases hok : Ok gap ⟨xn, xb, xt⟩
      · by_cases hi0 : i = 0
        · subst hi0
          refine wp_region_held_drew (S := fun W => Apart [] V W) (by kernel_rfl) aV (fun hHeld => ?_)
          refine tk 0 14 (.agg #[.int .i64 xn, .int .i64 xb, .int .u64 xt]) rfl ?_ ?_
          · intro W hSW; go_simp
          simp only [Act.put, List.setIfInBounds_toArray, List.set_cons_zero, List.set_cons_succ]
          refine tk 1 15 (.int .i64 gap) rfl ?_ ?_
          · intro W hSW; go_simp
          simp only [Act.put, List.setIfInBounds_toArray, List.set_cons_zero, List.set_cons_succ]
          refine wpAnyH_ready (rs := [2]) (by kernel_rfl) (by simp) ?_
          refine AllReadyH.cons rfl (fun KK hKK => ?_) AllReadyH.nil
          go_simp
          refine (isSpan_yes ⟨xn, xb, xt⟩ gap _ hxt hok).mono ?_
          rintro r w2 ⟨rfl, a2⟩
          dsimp only
          have a3 := aV.trans a2
          refine hKK.out _ _ (by assumption) (fun hHeld => ?_)
          clear hKK KK
          refine tk 3 17 (.bool false) rfl ?_ ?_
          · intro W hSW; go_simp
          simp only [Act.put, List.setIfInBounds_toArray, List.set_cons_zero, List.set_cons_succ]
          refine tk 4 18 (.bool false) rfl ?_ ?_
          · intro W hSW; go_simp
          simp only [Act.put, List.setIfInBounds_toArray, List.set_cons_zero, List.set_cons_succ]
          refine tk 5 19 (.int .i64 0) rfl ?_ ?_
          · intro W hSW; go_simp
          simp only [Act.put, List.setIfInBounds_toArray, List.set_cons_zero, List.set_cons_succ]
          refine tk 6 20 (.bool false) rfl ?_ ?_
          · intro W hSW; go_simp
          simp only [Act.put, List.setIfInBounds_toArray, List.set_cons_zero, List.set_cons_succ]
          refine tk 7 21 (.bool false) rfl ?_ ?_
          · intro W hSW; go_simp
          simp only [Act.put, List.setIfInBounds_toArray, List.set_cons_zero, List.set_cons_succ]
          refine tu 8 22 rfl ?_
          simp only [Act.put, List.setIfInBounds_toArray, List.set_cons_zero, List.set_cons_succ]
          refine tu 9 23 rfl ?_
          simp only [Act.put, List.setIfInBounds_toArray, List.set_cons_zero, List.set_cons_succ]
          refine tu 10 24 rfl ?_
          simp only [Act.put, List.setIfInBounds_toArray, List.set_cons_zero, List.set_cons_succ]
          refine tu 11 25 rfl ?_
          simp only [Act.put, List.setIfInBounds_toArray, List.set_cons_zero, List.set_cons_succ]
          refine tu 12 26 rfl ?_
          simp only [Act.put, List.setIfInBounds_toArray, List.set_cons_zero, List.set_cons_succ]
          refine tu 13 27 rfl ?_
          simp only [Act.put, List.setIfInBounds_toArray, List.set_cons_zero, List.set_cons_succ]
          refine tu 14 28 rfl ?_
          simp only [Act.put, List.setIfInBounds_toArray, List.set_cons_zero, List.set_cons_succ]
          refine tu 15 29 rfl ?_
          simp only [Act.put, List.setIfInBounds_toArray, List.set_cons_zero, List.set_cons_succ]
          refine tu 16 30 rfl ?_
          simp only [Act.put, List.setIfInBounds_toArray, List.set_cons_zero, List.set_cons_succ]
          refine tk 17 31 (.bool false) rfl ?_ ?_
          · intro W hSW; go_simp
          simp only [Act.put, List.setIfInBounds_toArray, List.set_cons_zero, List.set_cons_succ]
          refine tk 18 32 (.bool false) rfl ?_ ?_
          · intro W hSW; go_simp
          simp only [Act.put, List.setIfInBounds_toArray, List.set_cons_zero, List.set_cons_succ]
          refine wpAnyH_done (by kernel_rfl) ?_ _
          have a4 : Apart [] w w2 := (aR.trans aV0).trans a3
          clear r0 r1 r2 bV
          go_wp2
          go_roundw
          case rel => exact ⟨1, by omega, rfl, a4, fun j hj => by
            obtain rfl : j = 0 := by omega
            exact ⟨by rw [← HG.out]; exact hok, fun h => absurd h (by omega)⟩⟩
          case measure => simp [intOf]; omega
        · obtain ⟨k, rfl⟩ : ∃ k, i = k + 1 := ⟨i - 1, by omega⟩
          have hp1 := hprev (by omega)
          rw [Nat.add_sub_cancel] at hp1
          obtain ⟨y, HY⟩ : ∃ y, Hid (y = (g xs k).n) := ⟨_, rfl⟩
          rw [← HY.out] at hp1
          have rp : ∀ W, Apart [] V W → W.cell? ⟨P, o + k * 3, none⟩ = some (.int .i64 y) := fun W a => ((aV0.trans a).cell hP (by simp)).trans hp1
          have hgt : (0 : Int) < (k : Int) + 1 := by omega
          have hkN : k < N := by omega
          have hsub : IntKind.i64.wrap (k : Int) = (k : Int) := by rw [IntKind.wrap_i64]; omega
          by_cases hle : xn ≤ y
          · skip
            refine wp_region_held_drew (S := fun W => Apart [] V W) (by kernel_rfl) aV (fun hHeld => ?_)
            refine tk 0 14 (.agg #[.int .i64 xn, .int .i64 xb, .int .u64 xt]) rfl ?_ ?_
            · intro W hSW; go_simp
            simp only [Act.put, List.setIfInBounds_toArray, List.set_cons_zero, List.set_cons_succ]
            refine tk 1 15 (.int .i64 gap) rfl ?_ ?_
            · intro W hSW; go_simp
            simp only [Act.put, List.setIfInBounds_toArray, List.set_cons_zero, List.set_cons_succ]
            refine wpAnyH_ready (rs := [2]) (by kernel_rfl) (by simp) ?_
            refine AllReadyH.cons rfl (fun KK hKK => ?_) AllReadyH.nil
            go_simp
            refine (isSpan_yes ⟨xn, xb, xt⟩ gap _ hxt hok).mono ?_
            rintro r w2 ⟨rfl, a2⟩
            dsimp only
            have a3 := aV.trans a2
            refine hKK.out _ _ (by assumption) (fun hHeld => ?_)
            clear hKK KK
            refine tk 3 17 (.bool false) rfl ?_ ?_
            · intro W hSW; go_simp
            simp only [Act.put, List.setIfInBounds_toArray, List.set_cons_zero, List.set_cons_succ]
            refine tk 4 18 (.bool false) rfl ?_ ?_
            · intro W hSW; go_simp
            simp only [Act.put, List.setIfInBounds_toArray, List.set_cons_zero, List.set_cons_succ]
            refine tk 5 19 (.int .i64 ((k : Int) + 1)) rfl ?_ ?_
            · intro W hSW; go_simp
            simp only [Act.put, List.setIfInBounds_toArray, List.set_cons_zero, List.set_cons_succ]
            refine tk 6 20 (.bool true) rfl ?_ ?_
            · intro W hSW; go_simp
            simp only [Act.put, List.setIfInBounds_toArray, List.set_cons_zero, List.set_cons_succ]
            refine tk 7 21 (.bool true) rfl ?_ ?_
            · intro W hSW; go_simp
            simp only [Act.put, List.setIfInBounds_toArray, List.set_cons_zero, List.set_cons_succ]
            refine tk 8 22 (.pointer (some ⟨wr.heap.size, 0, none⟩)) rfl ?_ ?_
            · intro W hSW; go_simp
            simp only [Act.put, List.setIfInBounds_toArray, List.set_cons_zero, List.set_cons_succ]
            refine tk 9 23 (.int .i64 xn) rfl ?_ ?_
            · intro W hSW; go_simp
            simp only [Act.put, List.setIfInBounds_toArray, List.set_cons_zero, List.set_cons_succ]
            refine tk 10 24 (.slice (some ⟨P, o, none⟩) N cap) rfl ?_ ?_
            · intro W hSW; go_simp
            simp only [Act.put, List.setIfInBounds_toArray, List.set_cons_zero, List.set_cons_succ]
            refine tk 11 25 (.int .i64 ((k : Int) + 1)) rfl ?_ ?_
            · intro W hSW; go_simp
            simp only [Act.put, List.setIfInBounds_toArray, List.set_cons_zero, List.set_cons_succ]
            refine tk 12 26 (.int .i64 (k : Int)) rfl ?_ ?_
            · intro W hSW; go_simp
            simp only [Act.put, List.setIfInBounds_toArray, List.set_cons_zero, List.set_cons_succ]
            refine tk 13 27 (.pointer (some ⟨P, o + k * 3, none⟩)) rfl ?_ ?_
            · intro W hSW; go_simp
            simp only [Act.put, List.setIfInBounds_toArray, List.set_cons_zero, List.set_cons_succ]
            refine tk 14 28 (.pointer (some ⟨P, o + k * 3, none⟩)) rfl ?_ ?_
            · intro W hSW; go_simp
            simp only [Act.put, List.setIfInBounds_toArray, List.set_cons_zero, List.set_cons_succ]
            refine tk 15 29 (.int .i64 y) rfl ?_ ?_
            · intro W hSW; go_simp
            simp only [Act.put, List.setIfInBounds_toArray, List.set_cons_zero, List.set_cons_succ]
            refine tk 16 30 (.bool true) rfl ?_ ?_
            · intro W hSW; go_simp
            simp only [Act.put, List.setIfInBounds_toArray, List.set_cons_zero, List.set_cons_succ]
            refine tk 17 31 (.bool true) rfl ?_ ?_
            · intro W hSW; go_simp
            simp only [Act.put, List.setIfInBounds_toArray, List.set_cons_zero, List.set_cons_succ]
            refine tk 18 32 (.bool true) rfl ?_ ?_
            · intro W hSW; go_simp
            simp only [Act.put, List.setIfInBounds_toArray, List.set_cons_zero, List.set_cons_succ]
            refine wpAnyH_done (by kernel_rfl) ?_ _
            have a4 : Apart [] w w2 := (aR.trans aV0).trans a3
            clear r0 r1 r2 bV rp
            go_wp2
            go_ret
            refine ⟨.no fun kk => ?_, a4⟩
            have := ((okL_iff gap xs).1 kk (k + 1) HX.out).2 (by omega)
            rw [Nat.add_sub_cancel, ← HY.out, ← HG.out] at this
            simp only at this
            omega
          · skip
            refine wp_region_held_drew (S := fun W => Apart [] V W) (by kernel_rfl) aV (fun hHeld => ?_)
            refine tk 0 14 (.agg #[.int .i64 xn, .int .i64 xb, .int .u64 xt]) rfl ?_ ?_
            · intro W hSW; go_simp
            simp only [Act.put, List.setIfInBounds_toArray, List.set_cons_zero, List.set_cons_succ]
            refine tk 1 15 (.int .i64 gap) rfl ?_ ?_
            · intro W hSW; go_simp
            simp only [Act.put, List.setIfInBounds_toArray, List.set_cons_zero, List.set_cons_succ]
            refine wpAnyH_ready (rs := [2]) (by kernel_rfl) (by simp) ?_
            refine AllReadyH.cons rfl (fun KK hKK => ?_) AllReadyH.nil
            go_simp
            refine (isSpan_yes ⟨xn, xb, xt⟩ gap _ hxt hok).mono ?_
            rintro r w2 ⟨rfl, a2⟩
            dsimp only
            have a3 := aV.trans a2
            refine hKK.out _ _ (by assumption) (fun hHeld => ?_)
            clear hKK KK
            refine tk 3 17 (.bool false) rfl ?_ ?_
            · intro W hSW; go_simp
            simp only [Act.put, List.setIfInBounds_toArray, List.set_cons_zero, List.set_cons_succ]
            refine tk 4 18 (.bool false) rfl ?_ ?_
            · intro W hSW; go_simp
            simp only [Act.put, List.setIfInBounds_toArray, List.set_cons_zero, List.set_cons_succ]
            refine tk 5 19 (.int .i64 ((k : Int) + 1)) rfl ?_ ?_
            · intro W hSW; go_simp
            simp only [Act.put, List.setIfInBounds_toArray, List.set_cons_zero, List.set_cons_succ]
            refine tk 6 20 (.bool true) rfl ?_ ?_
            · intro W hSW; go_simp
            simp only [Act.put, List.setIfInBounds_toArray, List.set_cons_zero, List.set_cons_succ]
            refine tk 7 21 (.bool true) rfl ?_ ?_
            · intro W hSW; go_simp
            simp only [Act.put, List.setIfInBounds_toArray, List.set_cons_zero, List.set_cons_succ]
            refine tk 8 22 (.pointer (some ⟨wr.heap.size, 0, none⟩)) rfl ?_ ?_
            · intro W hSW; go_simp
            simp only [Act.put, List.setIfInBounds_toArray, List.set_cons_zero, List.set_cons_succ]
            refine tk 9 23 (.int .i64 xn) rfl ?_ ?_
            · intro W hSW; go_simp
            simp only [Act.put, List.setIfInBounds_toArray, List.set_cons_zero, List.set_cons_succ]
            refine tk 10 24 (.slice (some ⟨P, o, none⟩) N cap) rfl ?_ ?_
            · intro W hSW; go_simp
            simp only [Act.put, List.setIfInBounds_toArray, List.set_cons_zero, List.set_cons_succ]
            refine tk 11 25 (.int .i64 ((k : Int) + 1)) rfl ?_ ?_
            · intro W hSW; go_simp
            simp only [Act.put, List.setIfInBounds_toArray, List.set_cons_zero, List.set_cons_succ]
            refine tk 12 26 (.int .i64 (k : Int)) rfl ?_ ?_
            · intro W hSW; go_simp
            simp only [Act.put, List.setIfInBounds_toArray, List.set_cons_zero, List.set_cons_succ]
            refine tk 13 27 (.pointer (some ⟨P, o + k * 3, none⟩)) rfl ?_ ?_
            · intro W hSW; go_simp
            simp only [Act.put, List.setIfInBounds_toArray, List.set_cons_zero, List.set_cons_succ]
            refine tk 14 28 (.pointer (some ⟨P, o + k * 3, none⟩)) rfl ?_ ?_
            · intro W hSW; go_simp
            simp only [Act.put, List.setIfInBounds_toArray, List.set_cons_zero, List.set_cons_succ]
            refine tk 15 29 (.int .i64 y) rfl ?_ ?_
            · intro W hSW; go_simp
            simp only [Act.put, List.setIfInBounds_toArray, List.set_cons_zero, List.set_cons_succ]
            refine tk 16 30 (.bool false) rfl ?_ ?_
            · intro W hSW; go_simp
            simp only [Act.put, List.setIfInBounds_toArray, List.set_cons_zero, List.set_cons_succ]
            refine tk 17 31 (.bool false) rfl ?_ ?_
            · intro W hSW; go_simp
            simp only [Act.put, List.setIfInBounds_toArray, List.set_cons_zero, List.set_cons_succ]
            refine tk 18 32 (.bool false) rfl ?_ ?_
            · intro W hSW; go_simp
            simp only [Act.put, List.setIfInBounds_toArray, List.set_cons_zero, List.set_cons_succ]
            refine wpAnyH_done (by kernel_rfl) ?_ _
            have a4 : Apart [] w w2 := (aR.trans aV0).trans a3
            clear r0 r1 r2 bV rp
            go_wp2
            go_roundw
            case rel => exact ⟨k + 2, by omega, rfl, a4, fun j hj => by
              by_cases hji : j = k + 1
              · subst hji
                refine ⟨by rw [← HG.out]; exact hok, fun _ => ?_⟩
                rw [Nat.add_sub_cancel, ← HY.out, ← HG.out]; simp only; omega
              · exact hno j (by omega)⟩
            case measure => simp [intOf]; omega
      · skip
        refine wp_region_held_drew (S := fun W => Apart [] V W) (by kernel_rfl) aV (fun hHeld => ?_)
        refine tk 0 14 (.agg #[.int .i64 xn, .int .i64 xb, .int .u64 xt]) rfl ?_ ?_
        · intro W hSW; go_simp
        simp only [Act.put, List.setIfInBounds_toArray, List.set_cons_zero, List.set_cons_succ]
        refine tk 1 15 (.int .i64 gap) rfl ?_ ?_
        · intro W hSW; go_simp
        simp only [Act.put, List.setIfInBounds_toArray, List.set_cons_zero, List.set_cons_succ]
        refine wpAnyH_ready (rs := [2]) (by kernel_rfl) (by simp) ?_
        refine AllReadyH.cons rfl (fun KK hKK => ?_) AllReadyH.nil
        go_simp
        refine (isSpan_no ⟨xn, xb, xt⟩ gap _ hxt hok).mono ?_
        rintro r w2 ⟨rfl, a2⟩
        dsimp only
        have a3 := aV.trans a2
        refine hKK.out _ _ (by assumption) (fun hHeld => ?_)
        clear hKK KK
        refine tk 3 17 (.bool true) rfl ?_ ?_
        · intro W hSW; go_simp
        simp only [Act.put, List.setIfInBounds_toArray, List.set_cons_zero, List.set_cons_succ]
        refine tk 4 18 (.bool true) rfl ?_ ?_
        · intro W hSW; go_simp
        simp only [Act.put, List.setIfInBounds_toArray, List.set_cons_zero, List.set_cons_succ]
        refine tu 5 19 rfl ?_
        simp only [Act.put, List.setIfInBounds_toArray, List.set_cons_zero, List.set_cons_succ]
        refine tu 6 20 rfl ?_
        simp only [Act.put, List.setIfInBounds_toArray, List.set_cons_zero, List.set_cons_succ]
        refine tu 7 21 rfl ?_
        simp only [Act.put, List.setIfInBounds_toArray, List.set_cons_zero, List.set_cons_succ]
        refine tu 8 22 rfl ?_
        simp only [Act.put, List.setIfInBounds_toArray, List.set_cons_zero, List.set_cons_succ]
        refine tu 9 23 rfl ?_
        simp only [Act.put, List.setIfInBounds_toArray, List.set_cons_zero, List.set_cons_succ]
        refine tu 10 24 rfl ?_
        simp only [Act.put, List.setIfInBounds_toArray, List.set_cons_zero, List.set_cons_succ]
        refine tu 11 25 rfl ?_
        simp only [Act.put, List.setIfInBounds_toArray, List.set_cons_zero, List.set_cons_succ]
        refine tu 12 26 rfl ?_
        simp only [Act.put, List.setIfInBounds_toArray, List.set_cons_zero, List.set_cons_succ]
        refine tu 13 27 rfl ?_
        simp only [Act.put, List.setIfInBounds_toArray, List.set_cons_zero, List.set_cons_succ]
        refine tu 14 28 rfl ?_
        simp only [Act.put, List.setIfInBounds_toArray, List.set_cons_zero, List.set_cons_succ]
        refine tu 15 29 rfl ?_
        simp only [Act.put, List.setIfInBounds_toArray, List.set_cons_zero, List.set_cons_succ]
        refine tu 16 30 rfl ?_
        simp only [Act.put, List.setIfInBounds_toArray, List.set_cons_zero, List.set_cons_succ]
        refine tu 17 31 rfl ?_
        simp only [Act.put, List.setIfInBounds_toArray, List.set_cons_zero, List.set_cons_succ]
        refine tk 18 32 (.bool true) rfl ?_ ?_
        · intro W hSW; go_simp
        simp only [Act.put, List.setIfInBounds_toArray, List.set_cons_zero, List.set_cons_succ]
        refine wpAnyH_done (by kernel_rfl) ?_ _
        have a4 : Apart [] w w2 := (aR.trans aV0).trans a3
        clear r0 r1 r2 bV
        go_wp2
        go_ret
        refine ⟨.no fun k => ?_, a4⟩
        have := ((okL_iff gap xs).1 k i HX.out).1
        rw [← HG.out] at this
        exact hok this
    · go_wp2
      go_ret
      refine ⟨.yes ?_, aR⟩
      rw [okL_iff]
      intro j hj
      exact hno j (by have := HN.out; omega)
end Go.Proofs.YtddffdcjhleejaaGreat.ds
namespace Go.Proofs.YtddffdcjhleejaaGreat.ds
open Go.ChangeShapes Go.WideShapes Go.ChangeAt Go.RowKit
set_option linter.unusedVariables false
/-- a list that can be read -/
structure L (w : World) (p : Option Addr) (N : Nat) (xs : List S) : Prop where
  sp : Sp w p xs
  len : xs.length = N
  lim : N ≤ 9223372036854775807
  fit : ∀ x ∈ xs, x.t < 2 ^ 64
theorem L.kept0 {w w' : World} {p : Option Addr} {N : Nat} {xs : List S} (h : L w p N xs) (a : Apart [] w w') : L w' p N xs := { h with sp := h.sp.kept0 a }
theorem L.nil (w : World) (p : Option Addr) : L w p 0 [] := ⟨Sp.nil w p, rfl, by omega, by simp⟩
open Classical in
/-- a list, or none where it is no set -/
noncomputable def norm (xs : List S) : List S := if OkL 64 xs then xs else []
theorem norm_ok (xs : List S) : OkL 64 (norm xs) := by unfold norm; split; assumption; exact OkL.nil 64
theorem norm_of {xs : List S} (h : OkL 64 xs) : norm xs = xs := by unfold norm; rw [if_pos h]
theorem norm_no {xs : List S} (h : ¬ OkL 64 xs) : norm xs = [] := by unfold norm; rw [if_neg h]
theorem isSet_yes {p : Option Addr} {N cap : Nat} {xs : List S} {gap : Int} {w : World} (h : L w p N xs) (k : OkL gap xs) : Calls Tryz.prog 100 #[.slice p N cap, .int .i64 gap] w fun r w' => r = .returned (.bool true) ∧ Apart [] w w' := by
  refine (isSet_ok p N cap xs gap w h.sp h.len h.lim h.fit).mono ?_
  rintro r w1 ⟨⟨v, rfl, hv⟩, a1⟩
  exact ⟨by rw [hv.2 k], a1⟩
theorem isSet_no {p : Option Addr} {N cap : Nat} {xs : List S} {gap : Int} {w : World} (h : L w p N xs) (k : ¬ OkL gap xs) : Calls Tryz.prog 100 #[.slice p N cap, .int .i64 gap] w fun r w' => r = .returned (.bool false) ∧ Apart [] w w' := by
  refine (isSet_ok p N cap xs gap w h.sp h.len h.lim h.fit).mono ?_
  rintro r w1 ⟨⟨v, rfl, hv⟩, a1⟩
  cases v
  · exact ⟨rfl, a1⟩
  · exact absurd (hv.1 rfl) k
structure AsPost (w w' : World) (r : Ending) (xs : List S) : Prop where
  ex : ∃ p N cap, r = .returned (.slice p N cap) ∧ L w' p N (norm xs) ∧ Apart [] w w'
theorem asSet_ok {p : Option Addr} {N cap : Nat} {xs : List S} {w : World} (h : L w p N xs) : Calls Tryz.prog 104 #[.slice p N cap] w fun r w' => AsPost w w' r xs := by
  by_cases k : OkL 64 xs
  · go_enter Tryz.func104, Tryz.ntmps104
    go_wp2_with (go_at_call 100; refine (isSet_yes h k).mono ?_; rintro r w1 ⟨rfl, a1⟩)
    go_ret
    exact ⟨p, N, cap, rfl, by rw [norm_of k]; exact h.kept0 a1, a1⟩
  · go_enter Tryz.func104, Tryz.ntmps104
    go_wp2_with (go_at_call 100; refine (isSet_no h k).mono ?_; rintro r w1 ⟨rfl, a1⟩)
    go_ret
    exact ⟨none, 0, 0, rfl, by rw [norm_no k]; exact L.nil _ _, a1⟩
theorem own_base {w : World} {b c : Nat} {e : TypeId} {size : Nat} {v : Value} {n : Nat} {xs : List Value} (h : w.ownsRow b e size v n xs) (hc : c ≤ b) : w.ownsRow c e size v n xs := by
  obtain ⟨hl, ⟨hv, hz⟩ | ⟨g, cap, cur, rfl, hb, hr⟩⟩ := h
  · exact ⟨hl, .inl ⟨hv, hz⟩⟩
  · exact ⟨hl, .inr ⟨g, cap, cur, rfl, by omega, hr⟩⟩
/-- the row is the old one, or a new one -/
def NewOr (w : World) (v v' : Value) : Prop := v'.ownBlock = v.ownBlock ∨ ∃ k, v'.ownBlock = some k ∧ w.heap.size ≤ k
theorem run_append2 (w : World) (t ty e : TypeId) (i : TypeInfo) (z : Value) (size bytes : Nat) (ht : Tryz.prog.underlying t = some (.slice e)) (hi : Tryz.prog.info? e = some i) (hz : i.zero = some z) (hsize : i.size = size) (hby : i.bytes = bytes) (hzs : z.cells.size = size) (hsz : 0 < size)
    (v : Value) (n : Nat) (xs : List Value) (h : w.ownsRow 0 e size v n xs) (ad : Addr) (m c : Nat) (news : List Value) (hm : 0 < m) (hl : news.length = m * size) (hnews : ∀ j u, news[j]? = some u → w.cell? (ad.add j) = some u) (h1 : ∀ u ∈ news, u.oneCell' = true) (h63 : n + m ≤ maxLen) (hb : (n + m) * bytes ≤ 140737488355328) :
    ∃ v' w', (Builtin.append_ #[t, t] ty #[v, .slice (some ad) m c]).run Tryz.prog w = .ok v' w' ∧ w'.ownsRow 0 e size v' (n + m) (xs ++ news) ∧ w.grownBy w' v.ownBlock ∧ NewOr w v v' := by
  have h0 := h
  obtain ⟨hxl, ⟨rfl, rfl⟩ | ⟨g, cap, cur, rfl, hbb, hr, hle, hrest⟩⟩ := h
  · obtain rfl : xs = [] := by simpa using hxl
    obtain ⟨v', w', hrun, r1, r2, _⟩ := run_append_own (P := Tryz.prog) w w.heap.size t ty e i z size bytes ht hi hz hsize hby hzs hsz (.slice none 0 0) 0 [] (World.ownsRow_nil w _ e size) ad m c news hl hnews h1 h63 hb (Nat.le_refl _)
    refine ⟨v', w', hrun, own_base r1 (Nat.zero_le _), r2, .inr ?_⟩
    obtain ⟨_, ⟨_, hzz⟩ | ⟨g, cap, cur, rfl, hb2, _⟩⟩ := r1
    · omega
    · exact ⟨g, rfl, hb2⟩
  · by_cases hroom : n + m ≤ cap
    · obtain ⟨w', hrun, r1, r2⟩ := run_append_own_spare (P := Tryz.prog) w 0 t ty e i size ht hi hsize g n cap xs h0 ad m c news hl hnews h1 hroom
      exact ⟨_, w', hrun, r1, r2, .inl rfl⟩
    · obtain ⟨v', w', hrun, r1, r2⟩ := run_append_arg_grows (P := Tryz.prog) w t ty e i z size bytes ht hi hz hsize hby hzs hsz ⟨g, 0, none⟩ n cap xs (by omega) (fun j u hu => h0.cells rfl j u hu) ad m c news hl hnews (by omega) h63 hb
      refine ⟨v', w', hrun, own_base r1 (Nat.zero_le _), ⟨r2.os, r2.tape, r2.output, r2.size, fun k hk _ => r2.block k hk (by simp)⟩, .inr ?_⟩
      obtain ⟨_, ⟨_, hzz⟩ | ⟨g', cap', cur', rfl, hb2, _⟩⟩ := r1
      · omega
      · exact ⟨g', rfl, hb2⟩
end Go.Proofs.YtddffdcjhleejaaGreat.ds
