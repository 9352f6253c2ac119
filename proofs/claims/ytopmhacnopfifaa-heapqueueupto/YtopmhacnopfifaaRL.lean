import Derived.Test.YtopmhacnopfifaaRL0
import Derived.Deep.CutBlock
namespace Go.Proofs.Ytopmhacnopfifaa.tm
open Go.ChangeShapes Go.WideShapes Go.ChangeAt Go.RowKit
set_option linter.unusedVariables false
set_option linter.unusedSimpArgs false
structure LI (w wr : World) (i : Nat) (v : Value) (L ol : List E) : Prop where
  ap : Apart [] w wr
  own : wr.ownsRow w.heap.size 46 4 v i (flat2 ol)
  hl : ol.length = i
  up : Up ol
  pm : ol.Perm (L.take i)
  sh : ∃ p c, v = .slice p i c
set_option maxHeartbeats 4000000 in
set_option maxRecDepth 100000 in
theorem rlist_ok {w : World} {R o : Nat} {cs : Array Value} {lv : Value} {L : List E} {n : Nat} {nw : Int} (h : Rq w R o cs lv L n nw) (inc : Inc L) (row : List E) (p : L.Perm row) (up : Up row) (di : Dist row) (N : Nat) (hN : row.length = N) :
    Calls Try.prog 53 #[.pointer (some ⟨R, o, none⟩)] w fun r w' => ∃ q c, r = .returned (.slice q N c) ∧ w'.ownsRow w.heap.size 46 4 (.slice q N c) N (flat2 row) ∧ Apart [] w w' := by
  have hRs := lt_of_heap h.hR
  have hLN : L.length = N := by rw [p.length_eq, hN]
  obtain ⟨pl, c, hv⟩ := h.shape0
  rw [hLN] at hv
  have cR : ∀ X, Apart [] w X → X.cell? ⟨R, o, none⟩ = some (.slice pl N c) := fun X a => by rw [a.cell (p := ⟨R, o, none⟩) hRs (by simp), cell_of_row _ _ _ _ _ _ h.hR, h.h0, hv]
  have hN12 : N ≤ 1200000 := by rw [← hLN]; exact h.hl
  have hown := h.own
  rw [hLN, hv] at hown
  have HOW := hid hown
  have HLN := hid hLN
  have HIN := hid inc
  have HPM := hid p
  have HUP := hid up
  have HDI := hid di
  clear h hown hLN inc p up di hv hN
  go_enter Try.func53, Try.ntmps53
  go_wp2_with fail
  go_loopw [3, 4] (fun v x wr => ∃ (i : Nat) (ol : List E), i ≤ N ∧ x = .int .i64 i ∧ LI w wr i v L ol) (fun _ x _ => N - (intOf x).toNat)
  case atStart => exact ⟨0, [], Nat.zero_le _, rfl, Apart.refl _ _, World.ownsRow_nil w _ 46 4, rfl, List.Pairwise.nil, by simp, ⟨none, 0, rfl⟩⟩
  case round =>
    obtain ⟨i, ol, hi, rfl, hI⟩ := hrel
    have cW := cR wr hI.ap
    obtain ⟨ov, oc, rfl⟩ := hI.sh
    have HI := hid hI
    clear hI
    by_cases hlt : i < N
    · obtain ⟨G, rfl⟩ : ∃ G, pl = some ⟨G, 0, none⟩ := by
        obtain ⟨_, ⟨hv, hz⟩ | ⟨g', cap', cur, hv, _⟩⟩ := HOW.out
        · omega
        · simp at hv; exact ⟨g', hv.1⟩
      have cG : ∀ X, Apart [] w X → X.cell? ⟨G, i * 4, none⟩ = some (.int .i64 (g L i).r) ∧ X.cell? ⟨G, i * 4 + 1, none⟩ = some (.int .i64 (g L i).m) ∧ X.cell? ⟨G, i * 4 + 2, none⟩ = some (.int .i64 (g L i).k) ∧ X.cell? ⟨G, i * 4 + 3, none⟩ = some (.int .i64 (g L i).c) := fun X a => own4_get (own_apart HOW.out a (by simp)) HLN.out rfl i hlt
      obtain ⟨e, He⟩ : ∃ e, Hid (g L i = e) := ⟨_, rfl⟩
      rw [He.out] at cG
      obtain ⟨y, Hy⟩ : ∃ y, Hid (e.r = y) := ⟨_, rfl⟩
      obtain ⟨wi, hwi⟩ : ∃ wi, wr = wi := ⟨_, rfl⟩
      rw [hwi] at HI cW ⊢
      clear hwi
      go_upto_block 2 with fail
      go_cut [5] from 18 to 38 (fun x wx => ∃ k : Nat, k ≤ i ∧ x = .int .i64 k ∧ Apart [] wi wx ∧ (∀ j, k ≤ j → j < i → y < (g ol j).r) ∧ (k = 0 ∨ (g ol (k - 1)).r ≤ y))
      case first =>
        go_wp2_with fail
        go_loopw [5] (fun x wq => ∃ k : Nat, k ≤ i ∧ x = .int .i64 k ∧ Apart [] wi wq ∧ (∀ j, k ≤ j → j < i → y < (g ol j).r)) (fun x _ => (intOf x).toNat)
        case atStart => exact ⟨i, Nat.le_refl _, rfl, Apart.refl _ _, fun j h1 h2 => by omega⟩
        case round =>
          obtain ⟨k, hk, rfl, aq, hgt⟩ := hrel
          have HGT := hid hgt
          clear hgt
          have adq : Apart [] wi wr.drew := aq.trans ((Apart.refl _ _).drewN 1)
          by_cases hk0 : k = 0
          · subst hk0
            clear cG
            go_wp2_with fail
            refine wp_region_held_drew (S := fun X => Apart [] wi X) (by kernel_rfl) adq (fun hHeld => ?_)
            refine wpAnyH_take (i := 0) (oi := ⟨some 18, _, _, _, _, _⟩) (v := (.int .i64 (0 : Nat))) rfl (by kernel_rfl) (by kernel_rfl) (by kernel_rfl) (fun _ _ _ h => h) (Or.inl ⟨by rfl, ?_⟩) (by assumption) ?_
            · intro W hSW; go_simp
            simp only [Act.put, List.setIfInBounds_toArray, List.set_cons_zero, List.set_cons_succ]
            refine wpAnyH_take (i := 1) (oi := ⟨some 19, _, _, _, _, _⟩) (v := (.bool false)) rfl (by kernel_rfl) (by kernel_rfl) (by kernel_rfl) (fun _ _ _ h => h) (Or.inl ⟨by rfl, ?_⟩) (by assumption) ?_
            · intro W hSW; go_simp
            simp only [Act.put, List.setIfInBounds_toArray, List.set_cons_zero, List.set_cons_succ]
            refine wpAnyH_take (i := 2) (oi := ⟨some 20, _, _, _, _, _⟩) (v := (.bool false)) rfl (by kernel_rfl) (by kernel_rfl) (by kernel_rfl) (fun _ _ _ h => h) (Or.inl ⟨by rfl, ?_⟩) (by assumption) ?_
            · intro W hSW; go_simp
            simp only [Act.put, List.setIfInBounds_toArray, List.set_cons_zero, List.set_cons_succ]
            refine wpAnyH_take (i := 3) (oi := ⟨some 21, _, _, _, _, _⟩) (v := undef) rfl (by kernel_rfl) (by kernel_rfl) (by kernel_rfl) (fun _ _ _ h => h) (Or.inr ⟨by rfl, rfl⟩) (by assumption) ?_
            simp only [Act.put, List.setIfInBounds_toArray, List.set_cons_zero, List.set_cons_succ]
            refine wpAnyH_take (i := 4) (oi := ⟨some 22, _, _, _, _, _⟩) (v := undef) rfl (by kernel_rfl) (by kernel_rfl) (by kernel_rfl) (fun _ _ _ h => h) (Or.inr ⟨by rfl, rfl⟩) (by assumption) ?_
            simp only [Act.put, List.setIfInBounds_toArray, List.set_cons_zero, List.set_cons_succ]
            refine wpAnyH_take (i := 5) (oi := ⟨some 23, _, _, _, _, _⟩) (v := undef) rfl (by kernel_rfl) (by kernel_rfl) (by kernel_rfl) (fun _ _ _ h => h) (Or.inr ⟨by rfl, rfl⟩) (by assumption) ?_
            simp only [Act.put, List.setIfInBounds_toArray, List.set_cons_zero, List.set_cons_succ]
            refine wpAnyH_take (i := 6) (oi := ⟨some 24, _, _, _, _, _⟩) (v := undef) rfl (by kernel_rfl) (by kernel_rfl) (by kernel_rfl) (fun _ _ _ h => h) (Or.inr ⟨by rfl, rfl⟩) (by assumption) ?_
            simp only [Act.put, List.setIfInBounds_toArray, List.set_cons_zero, List.set_cons_succ]
            refine wpAnyH_take (i := 7) (oi := ⟨some 25, _, _, _, _, _⟩) (v := undef) rfl (by kernel_rfl) (by kernel_rfl) (by kernel_rfl) (fun _ _ _ h => h) (Or.inr ⟨by rfl, rfl⟩) (by assumption) ?_
            simp only [Act.put, List.setIfInBounds_toArray, List.set_cons_zero, List.set_cons_succ]
            refine wpAnyH_take (i := 8) (oi := ⟨some 26, _, _, _, _, _⟩) (v := undef) rfl (by kernel_rfl) (by kernel_rfl) (by kernel_rfl) (fun _ _ _ h => h) (Or.inr ⟨by rfl, rfl⟩) (by assumption) ?_
            simp only [Act.put, List.setIfInBounds_toArray, List.set_cons_zero, List.set_cons_succ]
            refine wpAnyH_take (i := 9) (oi := ⟨some 27, _, _, _, _, _⟩) (v := undef) rfl (by kernel_rfl) (by kernel_rfl) (by kernel_rfl) (fun _ _ _ h => h) (Or.inr ⟨by rfl, rfl⟩) (by assumption) ?_
            simp only [Act.put, List.setIfInBounds_toArray, List.set_cons_zero, List.set_cons_succ]
            refine wpAnyH_take (i := 10) (oi := ⟨some 28, _, _, _, _, _⟩) (v := undef) rfl (by kernel_rfl) (by kernel_rfl) (by kernel_rfl) (fun _ _ _ h => h) (Or.inr ⟨by rfl, rfl⟩) (by assumption) ?_
            simp only [Act.put, List.setIfInBounds_toArray, List.set_cons_zero, List.set_cons_succ]
            refine wpAnyH_take (i := 11) (oi := ⟨some 29, _, _, _, _, _⟩) (v := undef) rfl (by kernel_rfl) (by kernel_rfl) (by kernel_rfl) (fun _ _ _ h => h) (Or.inr ⟨by rfl, rfl⟩) (by assumption) ?_
            simp only [Act.put, List.setIfInBounds_toArray, List.set_cons_zero, List.set_cons_succ]
            refine wpAnyH_take (i := 12) (oi := ⟨some 30, _, _, _, _, _⟩) (v := undef) rfl (by kernel_rfl) (by kernel_rfl) (by kernel_rfl) (fun _ _ _ h => h) (Or.inr ⟨by rfl, rfl⟩) (by assumption) ?_
            simp only [Act.put, List.setIfInBounds_toArray, List.set_cons_zero, List.set_cons_succ]
            refine wpAnyH_take (i := 13) (oi := ⟨some 31, _, _, _, _, _⟩) (v := undef) rfl (by kernel_rfl) (by kernel_rfl) (by kernel_rfl) (fun _ _ _ h => h) (Or.inr ⟨by rfl, rfl⟩) (by assumption) ?_
            simp only [Act.put, List.setIfInBounds_toArray, List.set_cons_zero, List.set_cons_succ]
            refine wpAnyH_take (i := 14) (oi := ⟨some 32, _, _, _, _, _⟩) (v := undef) rfl (by kernel_rfl) (by kernel_rfl) (by kernel_rfl) (fun _ _ _ h => h) (Or.inr ⟨by rfl, rfl⟩) (by assumption) ?_
            simp only [Act.put, List.setIfInBounds_toArray, List.set_cons_zero, List.set_cons_succ]
            refine wpAnyH_take (i := 15) (oi := ⟨some 33, _, _, _, _, _⟩) (v := undef) rfl (by kernel_rfl) (by kernel_rfl) (by kernel_rfl) (fun _ _ _ h => h) (Or.inr ⟨by rfl, rfl⟩) (by assumption) ?_
            simp only [Act.put, List.setIfInBounds_toArray, List.set_cons_zero, List.set_cons_succ]
            refine wpAnyH_take (i := 16) (oi := ⟨some 34, _, _, _, _, _⟩) (v := undef) rfl (by kernel_rfl) (by kernel_rfl) (by kernel_rfl) (fun _ _ _ h => h) (Or.inr ⟨by rfl, rfl⟩) (by assumption) ?_
            simp only [Act.put, List.setIfInBounds_toArray, List.set_cons_zero, List.set_cons_succ]
            refine wpAnyH_take (i := 17) (oi := ⟨some 35, _, _, _, _, _⟩) (v := undef) rfl (by kernel_rfl) (by kernel_rfl) (by kernel_rfl) (fun _ _ _ h => h) (Or.inr ⟨by rfl, rfl⟩) (by assumption) ?_
            simp only [Act.put, List.setIfInBounds_toArray, List.set_cons_zero, List.set_cons_succ]
            refine wpAnyH_take (i := 18) (oi := ⟨some 36, _, _, _, _, _⟩) (v := (.bool false)) rfl (by kernel_rfl) (by kernel_rfl) (by kernel_rfl) (fun _ _ _ h => h) (Or.inl ⟨by rfl, ?_⟩) (by assumption) ?_
            · intro W hSW; go_simp
            simp only [Act.put, List.setIfInBounds_toArray, List.set_cons_zero, List.set_cons_succ]
            refine wpAnyH_done (by kernel_rfl) ?_ _
            go_wp2_with fail
            go_meet
            exact ⟨0, Nat.zero_le _, rfl, adq, HGT.out, .inl rfl⟩
          · obtain ⟨OG, OC, hov⟩ : ∃ OG OC, Value.slice ov i oc = .slice (some ⟨OG, 0, none⟩) i OC := by
              rcases own_shape2 HI.out.own with ⟨_, hz⟩ | ⟨g', c', hv, _⟩
              · omega
              · exact ⟨_, _, hv⟩
            obtain ⟨rfl, rfl⟩ : ov = some ⟨OG, 0, none⟩ ∧ oc = OC := by simpa using hov
            have hk1 : k - 1 < i := by omega
            have x0 : ∀ X, Apart [] wi X → X.cell? ⟨OG, (k - 1) * 4, none⟩ = some (.int .i64 (g ol (k - 1)).r) := fun X a => (own4_get (own_base (own_apart HI.out.own a (by simp)) (Nat.zero_le _)) HI.out.hl rfl (k - 1) hk1).1
            have y0 : ∀ X, Apart [] wi X → X.cell? ⟨G, i * 4, none⟩ = some (.int .i64 y) := fun X a => by rw [← Hy.out]; exact (cG X (HI.out.ap.trans a)).1
            have l0 : ∀ X, Apart [] wi X → X.cell? ⟨R, o, none⟩ = some (.slice (some ⟨G, 0, none⟩) N c) := fun X a => cR X (HI.out.ap.trans a)
            obtain ⟨x, Hx⟩ : ∃ x, Hid ((g ol (k - 1)).r = x) := ⟨_, rfl⟩
            rw [Hx.out] at x0
            have ek : ((k : Int) - 1).toNat = k - 1 := by omega
            have ek1 : (k : Int) - 1 = ((k - 1 : Nat) : Int) := by omega
            have hk2 : ¬ ((k : Int) - 1 < 0) := by omega
            have hk00 : 0 < k := by omega
            have ewk : IntKind.wrap .i64 ((k - 1 : Nat) : Int) = ((k - 1 : Nat) : Int) := by rw [IntKind.wrap_i64]; omega
            have hk3 : (k : Int) - 1 < (i : Int) := by omega
            clear cG cR cW hov
            by_cases hxy : y < x
            · go_wp2_with fail
              refine wp_region_held_drew (S := fun X => Apart [] wi X) (by kernel_rfl) adq (fun hHeld => ?_)
              refine wpAnyH_take (i := 0) (oi := ⟨some 18, _, _, _, _, _⟩) (v := (.int .i64 (k : Nat))) rfl (by kernel_rfl) (by kernel_rfl) (by kernel_rfl) (fun _ _ _ h => h) (Or.inl ⟨by rfl, ?_⟩) (by assumption) ?_
              · intro W hSW; go_simp
              simp only [Act.put, List.setIfInBounds_toArray, List.set_cons_zero, List.set_cons_succ]
              refine wpAnyH_take (i := 1) (oi := ⟨some 19, _, _, _, _, _⟩) (v := (.bool true)) rfl (by kernel_rfl) (by kernel_rfl) (by kernel_rfl) (fun _ _ _ h => h) (Or.inl ⟨by rfl, ?_⟩) (by assumption) ?_
              · intro W hSW; go_simp
              simp only [Act.put, List.setIfInBounds_toArray, List.set_cons_zero, List.set_cons_succ]
              refine wpAnyH_take (i := 2) (oi := ⟨some 20, _, _, _, _, _⟩) (v := (.bool true)) rfl (by kernel_rfl) (by kernel_rfl) (by kernel_rfl) (fun _ _ _ h => h) (Or.inl ⟨by rfl, ?_⟩) (by assumption) ?_
              · intro W hSW; go_simp
              simp only [Act.put, List.setIfInBounds_toArray, List.set_cons_zero, List.set_cons_succ]
              refine wpAnyH_take (i := 3) (oi := ⟨some 21, _, _, _, _, _⟩) (v := (.slice (some ⟨OG, 0, none⟩) i oc)) rfl (by kernel_rfl) (by kernel_rfl) (by kernel_rfl) (fun _ _ _ h => h) (Or.inl ⟨by rfl, ?_⟩) (by assumption) ?_
              · intro W hSW; go_simp
              simp only [Act.put, List.setIfInBounds_toArray, List.set_cons_zero, List.set_cons_succ]
              refine wpAnyH_take (i := 4) (oi := ⟨some 22, _, _, _, _, _⟩) (v := (.int .i64 (k : Nat))) rfl (by kernel_rfl) (by kernel_rfl) (by kernel_rfl) (fun _ _ _ h => h) (Or.inl ⟨by rfl, ?_⟩) (by assumption) ?_
              · intro W hSW; go_simp
              simp only [Act.put, List.setIfInBounds_toArray, List.set_cons_zero, List.set_cons_succ]
              refine wpAnyH_take (i := 5) (oi := ⟨some 23, _, _, _, _, _⟩) (v := (.int .i64 ((k - 1 : Nat) : Int))) rfl (by kernel_rfl) (by kernel_rfl) (by kernel_rfl) (fun _ _ _ h => h) (Or.inl ⟨by rfl, ?_⟩) (by assumption) ?_
              · intro W hSW; go_simp
              simp only [Act.put, List.setIfInBounds_toArray, List.set_cons_zero, List.set_cons_succ]
              refine wpAnyH_take (i := 6) (oi := ⟨some 24, _, _, _, _, _⟩) (v := (.pointer (some ⟨OG, (k - 1) * 4, none⟩))) rfl (by kernel_rfl) (by kernel_rfl) (by kernel_rfl) (fun _ _ _ h => h) (Or.inl ⟨by rfl, ?_⟩) (by assumption) ?_
              · intro W hSW; go_simp
              simp only [Act.put, List.setIfInBounds_toArray, List.set_cons_zero, List.set_cons_succ]
              refine wpAnyH_take (i := 7) (oi := ⟨some 25, _, _, _, _, _⟩) (v := (.pointer (some ⟨OG, (k - 1) * 4, none⟩))) rfl (by kernel_rfl) (by kernel_rfl) (by kernel_rfl) (fun _ _ _ h => h) (Or.inl ⟨by rfl, ?_⟩) (by assumption) ?_
              · intro W hSW; go_simp
              simp only [Act.put, List.setIfInBounds_toArray, List.set_cons_zero, List.set_cons_succ]
              refine wpAnyH_take (i := 8) (oi := ⟨some 26, _, _, _, _, _⟩) (v := (.int .i64 x)) rfl (by kernel_rfl) (by kernel_rfl) (by kernel_rfl) (fun _ _ _ h => h) (Or.inl ⟨by rfl, ?_⟩) (by assumption) ?_
              · intro W hSW; go_simp
              simp only [Act.put, List.setIfInBounds_toArray, List.set_cons_zero, List.set_cons_succ]
              refine wpAnyH_take (i := 9) (oi := ⟨some 27, _, _, _, _, _⟩) (v := (.pointer (some ⟨R, o, none⟩))) rfl (by kernel_rfl) (by kernel_rfl) (by kernel_rfl) (fun _ _ _ h => h) (Or.inl ⟨by rfl, ?_⟩) (by assumption) ?_
              · intro W hSW; go_simp
              simp only [Act.put, List.setIfInBounds_toArray, List.set_cons_zero, List.set_cons_succ]
              refine wpAnyH_take (i := 10) (oi := ⟨some 28, _, _, _, _, _⟩) (v := (.pointer (some ⟨R, o, none⟩))) rfl (by kernel_rfl) (by kernel_rfl) (by kernel_rfl) (fun _ _ _ h => h) (Or.inl ⟨by rfl, ?_⟩) (by assumption) ?_
              · intro W hSW; go_simp
              simp only [Act.put, List.setIfInBounds_toArray, List.set_cons_zero, List.set_cons_succ]
              refine wpAnyH_take (i := 11) (oi := ⟨some 29, _, _, _, _, _⟩) (v := (.pointer (some ⟨R, o, none⟩))) rfl (by kernel_rfl) (by kernel_rfl) (by kernel_rfl) (fun _ _ _ h => h) (Or.inl ⟨by rfl, ?_⟩) (by assumption) ?_
              · intro W hSW; go_simp
              simp only [Act.put, List.setIfInBounds_toArray, List.set_cons_zero, List.set_cons_succ]
              refine wpAnyH_take (i := 12) (oi := ⟨some 30, _, _, _, _, _⟩) (v := (.slice (some ⟨G, 0, none⟩) N c)) rfl (by kernel_rfl) (by kernel_rfl) (by kernel_rfl) (fun _ _ _ h => h) (Or.inl ⟨by rfl, ?_⟩) (by assumption) ?_
              · intro W hSW; go_simp
              simp only [Act.put, List.setIfInBounds_toArray, List.set_cons_zero, List.set_cons_succ]
              refine wpAnyH_take (i := 13) (oi := ⟨some 31, _, _, _, _, _⟩) (v := (.int .i64 (i : Nat))) rfl (by kernel_rfl) (by kernel_rfl) (by kernel_rfl) (fun _ _ _ h => h) (Or.inl ⟨by rfl, ?_⟩) (by assumption) ?_
              · intro W hSW; go_simp
              simp only [Act.put, List.setIfInBounds_toArray, List.set_cons_zero, List.set_cons_succ]
              refine wpAnyH_take (i := 14) (oi := ⟨some 32, _, _, _, _, _⟩) (v := (.pointer (some ⟨G, i * 4, none⟩))) rfl (by kernel_rfl) (by kernel_rfl) (by kernel_rfl) (fun _ _ _ h => h) (Or.inl ⟨by rfl, ?_⟩) (by assumption) ?_
              · intro W hSW; go_simp
              simp only [Act.put, List.setIfInBounds_toArray, List.set_cons_zero, List.set_cons_succ]
              refine wpAnyH_take (i := 15) (oi := ⟨some 33, _, _, _, _, _⟩) (v := (.pointer (some ⟨G, i * 4, none⟩))) rfl (by kernel_rfl) (by kernel_rfl) (by kernel_rfl) (fun _ _ _ h => h) (Or.inl ⟨by rfl, ?_⟩) (by assumption) ?_
              · intro W hSW; go_simp
              simp only [Act.put, List.setIfInBounds_toArray, List.set_cons_zero, List.set_cons_succ]
              refine wpAnyH_take (i := 16) (oi := ⟨some 34, _, _, _, _, _⟩) (v := (.int .i64 y)) rfl (by kernel_rfl) (by kernel_rfl) (by kernel_rfl) (fun _ _ _ h => h) (Or.inl ⟨by rfl, ?_⟩) (by assumption) ?_
              · intro W hSW; go_simp
              simp only [Act.put, List.setIfInBounds_toArray, List.set_cons_zero, List.set_cons_succ]
              refine wpAnyH_take (i := 17) (oi := ⟨some 35, _, _, _, _, _⟩) (v := (.bool true)) rfl (by kernel_rfl) (by kernel_rfl) (by kernel_rfl) (fun _ _ _ h => h) (Or.inl ⟨by rfl, ?_⟩) (by assumption) ?_
              · intro W hSW; go_simp
              simp only [Act.put, List.setIfInBounds_toArray, List.set_cons_zero, List.set_cons_succ]
              refine wpAnyH_take (i := 18) (oi := ⟨some 36, _, _, _, _, _⟩) (v := (.bool true)) rfl (by kernel_rfl) (by kernel_rfl) (by kernel_rfl) (fun _ _ _ h => h) (Or.inl ⟨by rfl, ?_⟩) (by assumption) ?_
              · intro W hSW; go_simp
              simp only [Act.put, List.setIfInBounds_toArray, List.set_cons_zero, List.set_cons_succ]
              refine wpAnyH_done (by kernel_rfl) ?_ _
              clear x0 y0 l0
              go_wp2
              go_roundw
              case rel => exact ⟨k - 1, by omega, by go_num, adq, fun j h1 h2 => by
                by_cases e1 : j = k - 1
                · subst e1; rw [Hx.out]; exact hxy
                · exact HGT.out j (by omega) h2⟩
              case measure => simp [intOf]; omega
            · go_wp2_with fail
              refine wp_region_held_drew (S := fun X => Apart [] wi X) (by kernel_rfl) adq (fun hHeld => ?_)
              refine wpAnyH_take (i := 0) (oi := ⟨some 18, _, _, _, _, _⟩) (v := (.int .i64 (k : Nat))) rfl (by kernel_rfl) (by kernel_rfl) (by kernel_rfl) (fun _ _ _ h => h) (Or.inl ⟨by rfl, ?_⟩) (by assumption) ?_
              · intro W hSW; go_simp
              simp only [Act.put, List.setIfInBounds_toArray, List.set_cons_zero, List.set_cons_succ]
              refine wpAnyH_take (i := 1) (oi := ⟨some 19, _, _, _, _, _⟩) (v := (.bool true)) rfl (by kernel_rfl) (by kernel_rfl) (by kernel_rfl) (fun _ _ _ h => h) (Or.inl ⟨by rfl, ?_⟩) (by assumption) ?_
              · intro W hSW; go_simp
              simp only [Act.put, List.setIfInBounds_toArray, List.set_cons_zero, List.set_cons_succ]
              refine wpAnyH_take (i := 2) (oi := ⟨some 20, _, _, _, _, _⟩) (v := (.bool true)) rfl (by kernel_rfl) (by kernel_rfl) (by kernel_rfl) (fun _ _ _ h => h) (Or.inl ⟨by rfl, ?_⟩) (by assumption) ?_
              · intro W hSW; go_simp
              simp only [Act.put, List.setIfInBounds_toArray, List.set_cons_zero, List.set_cons_succ]
              refine wpAnyH_take (i := 3) (oi := ⟨some 21, _, _, _, _, _⟩) (v := (.slice (some ⟨OG, 0, none⟩) i oc)) rfl (by kernel_rfl) (by kernel_rfl) (by kernel_rfl) (fun _ _ _ h => h) (Or.inl ⟨by rfl, ?_⟩) (by assumption) ?_
              · intro W hSW; go_simp
              simp only [Act.put, List.setIfInBounds_toArray, List.set_cons_zero, List.set_cons_succ]
              refine wpAnyH_take (i := 4) (oi := ⟨some 22, _, _, _, _, _⟩) (v := (.int .i64 (k : Nat))) rfl (by kernel_rfl) (by kernel_rfl) (by kernel_rfl) (fun _ _ _ h => h) (Or.inl ⟨by rfl, ?_⟩) (by assumption) ?_
              · intro W hSW; go_simp
              simp only [Act.put, List.setIfInBounds_toArray, List.set_cons_zero, List.set_cons_succ]
              refine wpAnyH_take (i := 5) (oi := ⟨some 23, _, _, _, _, _⟩) (v := (.int .i64 ((k - 1 : Nat) : Int))) rfl (by kernel_rfl) (by kernel_rfl) (by kernel_rfl) (fun _ _ _ h => h) (Or.inl ⟨by rfl, ?_⟩) (by assumption) ?_
              · intro W hSW; go_simp
              simp only [Act.put, List.setIfInBounds_toArray, List.set_cons_zero, List.set_cons_succ]
              refine wpAnyH_take (i := 6) (oi := ⟨some 24, _, _, _, _, _⟩) (v := (.pointer (some ⟨OG, (k - 1) * 4, none⟩))) rfl (by kernel_rfl) (by kernel_rfl) (by kernel_rfl) (fun _ _ _ h => h) (Or.inl ⟨by rfl, ?_⟩) (by assumption) ?_
              · intro W hSW; go_simp
              simp only [Act.put, List.setIfInBounds_toArray, List.set_cons_zero, List.set_cons_succ]
              refine wpAnyH_take (i := 7) (oi := ⟨some 25, _, _, _, _, _⟩) (v := (.pointer (some ⟨OG, (k - 1) * 4, none⟩))) rfl (by kernel_rfl) (by kernel_rfl) (by kernel_rfl) (fun _ _ _ h => h) (Or.inl ⟨by rfl, ?_⟩) (by assumption) ?_
              · intro W hSW; go_simp
              simp only [Act.put, List.setIfInBounds_toArray, List.set_cons_zero, List.set_cons_succ]
              refine wpAnyH_take (i := 8) (oi := ⟨some 26, _, _, _, _, _⟩) (v := (.int .i64 x)) rfl (by kernel_rfl) (by kernel_rfl) (by kernel_rfl) (fun _ _ _ h => h) (Or.inl ⟨by rfl, ?_⟩) (by assumption) ?_
              · intro W hSW; go_simp
              simp only [Act.put, List.setIfInBounds_toArray, List.set_cons_zero, List.set_cons_succ]
              refine wpAnyH_take (i := 9) (oi := ⟨some 27, _, _, _, _, _⟩) (v := (.pointer (some ⟨R, o, none⟩))) rfl (by kernel_rfl) (by kernel_rfl) (by kernel_rfl) (fun _ _ _ h => h) (Or.inl ⟨by rfl, ?_⟩) (by assumption) ?_
              · intro W hSW; go_simp
              simp only [Act.put, List.setIfInBounds_toArray, List.set_cons_zero, List.set_cons_succ]
              refine wpAnyH_take (i := 10) (oi := ⟨some 28, _, _, _, _, _⟩) (v := (.pointer (some ⟨R, o, none⟩))) rfl (by kernel_rfl) (by kernel_rfl) (by kernel_rfl) (fun _ _ _ h => h) (Or.inl ⟨by rfl, ?_⟩) (by assumption) ?_
              · intro W hSW; go_simp
              simp only [Act.put, List.setIfInBounds_toArray, List.set_cons_zero, List.set_cons_succ]
              refine wpAnyH_take (i := 11) (oi := ⟨some 29, _, _, _, _, _⟩) (v := (.pointer (some ⟨R, o, none⟩))) rfl (by kernel_rfl) (by kernel_rfl) (by kernel_rfl) (fun _ _ _ h => h) (Or.inl ⟨by rfl, ?_⟩) (by assumption) ?_
              · intro W hSW; go_simp
              simp only [Act.put, List.setIfInBounds_toArray, List.set_cons_zero, List.set_cons_succ]
              refine wpAnyH_take (i := 12) (oi := ⟨some 30, _, _, _, _, _⟩) (v := (.slice (some ⟨G, 0, none⟩) N c)) rfl (by kernel_rfl) (by kernel_rfl) (by kernel_rfl) (fun _ _ _ h => h) (Or.inl ⟨by rfl, ?_⟩) (by assumption) ?_
              · intro W hSW; go_simp
              simp only [Act.put, List.setIfInBounds_toArray, List.set_cons_zero, List.set_cons_succ]
              refine wpAnyH_take (i := 13) (oi := ⟨some 31, _, _, _, _, _⟩) (v := (.int .i64 (i : Nat))) rfl (by kernel_rfl) (by kernel_rfl) (by kernel_rfl) (fun _ _ _ h => h) (Or.inl ⟨by rfl, ?_⟩) (by assumption) ?_
              · intro W hSW; go_simp
              simp only [Act.put, List.setIfInBounds_toArray, List.set_cons_zero, List.set_cons_succ]
              refine wpAnyH_take (i := 14) (oi := ⟨some 32, _, _, _, _, _⟩) (v := (.pointer (some ⟨G, i * 4, none⟩))) rfl (by kernel_rfl) (by kernel_rfl) (by kernel_rfl) (fun _ _ _ h => h) (Or.inl ⟨by rfl, ?_⟩) (by assumption) ?_
              · intro W hSW; go_simp
              simp only [Act.put, List.setIfInBounds_toArray, List.set_cons_zero, List.set_cons_succ]
              refine wpAnyH_take (i := 15) (oi := ⟨some 33, _, _, _, _, _⟩) (v := (.pointer (some ⟨G, i * 4, none⟩))) rfl (by kernel_rfl) (by kernel_rfl) (by kernel_rfl) (fun _ _ _ h => h) (Or.inl ⟨by rfl, ?_⟩) (by assumption) ?_
              · intro W hSW; go_simp
              simp only [Act.put, List.setIfInBounds_toArray, List.set_cons_zero, List.set_cons_succ]
              refine wpAnyH_take (i := 16) (oi := ⟨some 34, _, _, _, _, _⟩) (v := (.int .i64 y)) rfl (by kernel_rfl) (by kernel_rfl) (by kernel_rfl) (fun _ _ _ h => h) (Or.inl ⟨by rfl, ?_⟩) (by assumption) ?_
              · intro W hSW; go_simp
              simp only [Act.put, List.setIfInBounds_toArray, List.set_cons_zero, List.set_cons_succ]
              refine wpAnyH_take (i := 17) (oi := ⟨some 35, _, _, _, _, _⟩) (v := (.bool false)) rfl (by kernel_rfl) (by kernel_rfl) (by kernel_rfl) (fun _ _ _ h => h) (Or.inl ⟨by rfl, ?_⟩) (by assumption) ?_
              · intro W hSW; go_simp
              simp only [Act.put, List.setIfInBounds_toArray, List.set_cons_zero, List.set_cons_succ]
              refine wpAnyH_take (i := 18) (oi := ⟨some 36, _, _, _, _, _⟩) (v := (.bool false)) rfl (by kernel_rfl) (by kernel_rfl) (by kernel_rfl) (fun _ _ _ h => h) (Or.inl ⟨by rfl, ?_⟩) (by assumption) ?_
              · intro W hSW; go_simp
              simp only [Act.put, List.setIfInBounds_toArray, List.set_cons_zero, List.set_cons_succ]
              refine wpAnyH_done (by kernel_rfl) ?_ _
              clear x0 y0 l0
              go_wp2_with fail
              go_meet
              exact ⟨k, hk, rfl, adq, HGT.out, .inr (by rw [Hx.out]; omega)⟩
      case rest =>
        obtain ⟨k, hk, rfl, ax, hgt, hf⟩ := hcut
        have HGT := hid hgt
        have HF := hid hf
        have HAX := hid ax
        have ownc := own_apart HI.out.own ax (by simp)
        have hli := HI.out.hl
        have hole : ∀ x ∈ ol, x.a < e.a := fun x hx => by
          have hm := HI.out.pm.subset hx
          obtain ⟨j, hj, rfl⟩ := List.getElem_of_mem hm
          have hj' : j < i := by simp at hj; omega
          have hp := List.pairwise_iff_getElem.1 HIN.out j i (by rw [HLN.out]; omega) (by rw [HLN.out]; exact hlt) hj'
          rw [List.getElem_take, ← He.out, g_eq _ _ (by rw [HLN.out]; exact hlt)]
          exact hp
        have HUPN : Hid (Up (ol.take k ++ [e] ++ ol.drop k)) := ins_up HI.out.up hole (by omega) (fun j h1 h2 => by rw [Hy.out]; exact HGT.out j h1 (by omega)) (by rw [Hy.out]; exact HF.out)
        have HPMN : Hid ((ol.take k ++ [e] ++ ol.drop k).Perm (L.take (i + 1))) := by rw [← He.out]; exact ins_perm HI.out.pm (by rw [HLN.out]; exact hlt)
        have HLE : Hid ((ol.take k ++ [e] ++ ol.drop k).length = i + 1) := by unfold Hid; simp; omega
        clear hgt hf hole ax
        rcases own_shape2 ownc with ⟨hv, hz⟩ | ⟨OG, OC, hv, hBg, hic⟩
        · obtain ⟨rfl, hz2, rfl⟩ : ov = none ∧ i = 0 ∧ oc = 0 := by simpa using hv
          subst hz2
          obtain rfl : k = 0 := by omega
          have hol : ol = [] := List.length_eq_zero_iff.1 hli
          obtain ⟨v1, w1, v2, w3, v3, w4, q1, a1, q2, a3, q3, hR⟩ := ins_runs wc w.heap.size (.slice none 0 0) ol (by rw [hli]; exact ownc) e 0 (by omega) (by omega) (.slice none 0 0) (.slice none 0 0) (fun X a => .inl ⟨rfl, by simp⟩) (fun X a => .inl ⟨rfl, by simp [hol]⟩)
          obtain ⟨p3, c3, rfl⟩ : ∃ p3 c3, v3 = .slice p3 (0 + 1) c3 := by
            have := own_shape hR.own
            rwa [HLE.out] at this
          have cg1 := cG w1 ((HI.out.ap.trans HAX.out).trans a1)
          have cr1 := cR w1 ((HI.out.ap.trans HAX.out).trans a1)
          obtain ⟨cg0, cg1, cg2, cg3⟩ := cg1
          have LN : Hid (LI w w4 (0 + 1) (.slice p3 (0 + 1) c3) L (ol.take 0 ++ [e] ++ ol.drop 0)) := by
            have o4 := own_base hR.own (Nat.le_trans HI.out.ap.size HAX.out.size)
            rw [HLE.out] at o4
            exact ⟨(HI.out.ap.trans HAX.out).trans hR.ap, o4, HLE.out, HUPN.out, HPMN.out, ⟨_, _, rfl⟩⟩
          clear cG cR cW hR a1 a3 ownc hv
          go_wp2_with (at_builtin; first | refine wpList_append3 rfl (.tmp 39) (.tmp 42) 49 rfl _ _ rfl rfl _ _ q1 ?_ | refine wpList_append3 rfl (.tmp 44) (.tmp 52) 49 rfl _ _ rfl rfl _ _ q2 ?_ | refine wpList_append3 rfl (.tmp 54) (.tmp 57) 49 rfl _ _ rfl rfl _ _ q3 ?_)
          go_roundw
          case rel => exact ⟨0 + 1, _, by omega, by go_num, LN.out⟩
          case measure => simp [intOf]; omega
        · obtain ⟨rfl, rfl⟩ : ov = some ⟨OG, 0, none⟩ ∧ oc = OC := by simpa using hv
          obtain ⟨v1, w1, v2, w3, v3, w4, q1, a1, q2, a3, q3, hR⟩ := ins_runs wc w.heap.size (.slice (some ⟨OG, 0, none⟩) i oc) ol (by rw [hli]; exact ownc) e k (by omega) (by omega) (.slice (some ⟨OG, 0, none⟩) k oc) (.slice (if oc = k then some ⟨OG, 0, none⟩ else some ⟨OG, k * 4, none⟩) (i - k) (oc - k)) (fun X a => src_take (ol := ol) (by rw [hli]; exact own_apart ownc a (by simp)) k oc (by omega)) (fun X a => by
            by_cases hoc : oc = k
            · rw [if_pos hoc]
              have hd : ol.drop k = [] := List.drop_eq_nil_of_le (by omega)
              rw [hd]
              exact .inr ⟨_, _, _, rfl, by simp; omega, fun j u hu => by simp [flat2] at hu⟩
            · rw [if_neg hoc]
              have := src_drop (ol := ol) (by rw [hli]; exact own_apart ownc a (by simp)) k (oc - k) (by omega)
              rwa [hli] at this)
          obtain ⟨p3, c3, rfl⟩ : ∃ p3 c3, v3 = .slice p3 (i + 1) c3 := by
            have := own_shape hR.own
            rwa [HLE.out] at this
          have cg1 := cG w1 ((HI.out.ap.trans HAX.out).trans a1)
          have cr1 := cR w1 ((HI.out.ap.trans HAX.out).trans a1)
          obtain ⟨cg0, cg1, cg2, cg3⟩ := cg1
          have LN : Hid (LI w w4 (i + 1) (.slice p3 (i + 1) c3) L (ol.take k ++ [e] ++ ol.drop k)) := by
            have o4 := own_base hR.own (Nat.le_trans HI.out.ap.size HAX.out.size)
            rw [HLE.out] at o4
            exact ⟨(HI.out.ap.trans HAX.out).trans hR.ap, o4, HLE.out, HUPN.out, HPMN.out, ⟨_, _, rfl⟩⟩
          clear cG cR cW hR a1 a3 ownc hv
          go_wp2_with (at_builtin; first | refine wpList_append3 rfl (.tmp 39) (.tmp 42) 49 rfl _ _ rfl rfl _ _ q1 ?_ | refine wpList_append3 rfl (.tmp 44) (.tmp 52) 49 rfl _ _ rfl rfl _ _ q2 ?_ | refine wpList_append3 rfl (.tmp 54) (.tmp 57) 49 rfl _ _ rfl rfl _ _ q3 ?_)
          go_roundw
          case rel => exact ⟨i + 1, _, by omega, by go_num, LN.out⟩
          case measure => simp [intOf]; omega
    · obtain rfl : i = N := by omega
      have hrow : ol = row := row_unique (HDI.out.perm (HI.out.pm.trans (by rw [List.take_of_length_le (by rw [HLN.out]; exact Nat.le_refl _)]; exact HPM.out))) (HI.out.pm.trans (by rw [List.take_of_length_le (by rw [HLN.out]; exact Nat.le_refl _)]; exact HPM.out)) HI.out.up HUP.out
      have P : Hid (wr.ownsRow w.heap.size 46 4 (.slice ov i oc) i (flat2 row) ∧ Apart [] w wr) := ⟨by rw [← hrow]; exact HI.out.own, HI.out.ap⟩
      clear hrow HI
      go_wp2
      go_ret
      exact ⟨_, _, rfl, P.out⟩
end Go.Proofs.Ytopmhacnopfifaa.tm
