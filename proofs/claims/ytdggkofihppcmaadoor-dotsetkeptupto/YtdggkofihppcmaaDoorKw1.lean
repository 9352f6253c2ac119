import Derived.Test.YtdggkofihppcmaaDoorKw0
import Derived.Deep.RegionHeld
namespace Go.Proofs.YtdggkofihppcmaaDoor.ds
open Go.ChangeShapes Go.WideShapes Go.ChangeAt Go.RowKit
set_option linter.unusedVariables false
set_option linter.unusedSimpArgs false
structure OPost (w w' : World) (r : Ending) (e : Int) (zs : List S) : Prop where
  ex : ∃ p n cap, r = .returned (.tuple #[.slice p n cap, .int .i64 e]) ∧ Own w w' p n cap zs ∧ n ≤ 8 ∧ ∀ x ∈ zs, x.t < 2 ^ 64
theorem OPost.of {w w' : World} {r : Ending} {xs : List S} (h : RPost w w' r xs) (k : OkL 64 xs) : OPost w w' r 0 xs := by
  obtain ⟨p, n, cap, rfl, o, hn⟩ := h.ex
  exact ⟨p, n, cap, rfl, o, hn, k.fit (by decide)⟩
theorem OPost.err {w w' : World} {r : Ending} {e : Int} (h : r = .returned (.tuple #[.slice none 0 0, .int .i64 e]) ∧ Apart [] w w') : OPost w w' r e [] := ⟨none, 0, 0, h.1, ⟨rfl, World.ownsRow_nil _ _ _ _, fun b hb => by simp [Value.ownBlock] at hb, h.2⟩, by omega, by simp⟩
theorem unions_own {xs ys : List S} (gap : Int) : ∃ e zs, ∀ (p q : Option Addr) (N cap M cb : Nat) w, Tab w → L w p N xs → L w q M ys → Calls Tryd.prog 22 #[.slice p N cap, .slice q M cb, .int .i64 gap] w fun r w' => OPost w w' r e zs := by
  by_cases hg : 1 ≤ gap ∧ gap ≤ 64
  · by_cases k : OkL gap xs
    · by_cases k2 : OkL gap ys
      · have ku := (uni_ok k k2 (by omega) hg.2).mono hg.2
        exact ⟨0, uni xs ys, fun p q N cap M cb w T l l2 => (union_ok gap T l l2 hg k k2).mono fun r w' h => .of h ku⟩
      · exact ⟨30, [], fun p q N cap M cb w T l l2 => (union_set2 gap l l2 hg k k2).mono fun r w' h => .err h⟩
    · exact ⟨30, [], fun p q N cap M cb w T l l2 => (union_set1 gap l hg k).mono fun r w' h => .err h⟩
  · exact ⟨1, [], fun p q N cap M cb w T l l2 => (union_arg gap hg).mono fun r w' h => .err h⟩
theorem adds_own {xs : List S} (dn dc gap : Int) : ∃ e zs, ∀ (p : Option Addr) (N cap : Nat) w, Tab w → L w p N xs → Calls Tryd.prog 26 #[.slice p N cap, .agg #[.int .i64 dn, .int .i64 dc], .int .i64 gap] w fun r w' => OPost w w' r e zs := by
  by_cases hg : 1 ≤ gap ∧ gap ≤ 64
  · by_cases hd : IsDot dn dc
    · by_cases k : OkL gap xs
      · by_cases hc : dc ≤ (ofn xs dn).b + gap
        · have ku := (addl_ok k hg.1 hg.2 dn dc hd.2 hc).mono hg.2
          exact ⟨0, addl xs dn dc, fun p N cap w T l => (add_ok dn dc gap T l hg hd k hc).mono fun r w' h => .of h ku⟩
        · exact ⟨31, [], fun p N cap w T l => (add_gap dn dc gap l hg hd k (by omega)).mono fun r w' h => .err h⟩
      · exact ⟨30, [], fun p N cap w T l => (add_set dn dc gap l hg hd k).mono fun r w' h => .err h⟩
    · exact ⟨1, [], fun p N cap w T l => (add_arg2 dn dc gap hg hd).mono fun r w' h => .err h⟩
  · exact ⟨1, [], fun p N cap w T l => (add_arg1 dn dc gap hg).mono fun r w' h => .err h⟩
theorem bases_own {p : Option Addr} {N cap : Nat} {xs : List S} {w : World} (h : L w p N xs) : Calls Tryd.prog 20 #[.slice p N cap] w fun r w' => ∃ p n cap, r = .returned (.slice p n cap) ∧ Own w w' p n cap (bas (norm xs)) ∧ n ≤ 8 ∧ ∀ x ∈ bas (norm xs), x.t < 2 ^ 64 := by
  refine (bases_ok h).mono ?_
  rintro r w' ⟨⟨p', n', c', rfl, o, hn⟩⟩
  exact ⟨p', n', c', rfl, o, hn, OkL.fit (g := 1) (bas_ok (norm_ok xs) (by decide) (by decide)) (by decide)⟩
theorem unions2 {xs ys : List S} (gap : Int) : ∃ e zs, (∀ (p q : Option Addr) (N cap M cb : Nat) w, Tab w → L w p N xs → L w q M ys → Calls Tryd.prog 22 #[.slice p N cap, .slice q M cb, .int .i64 gap] w fun r w' => UPost w w' r e zs) ∧ (∀ (p q : Option Addr) (N cap M cb : Nat) w, L w p N xs → L w q M ys → Calls Tryd.prog 55 #[.slice p N cap, .slice q M cb, .int .i64 gap] w fun r w' => UPost w w' r e zs) := by
  by_cases hg : 1 ≤ gap ∧ gap ≤ 64
  · by_cases k : OkL gap xs
    · by_cases k2 : OkL gap ys
      · have ku := (uni_ok k k2 (by omega) hg.2).mono hg.2
        exact ⟨0, uni xs ys, fun p q N cap M cb w T l l2 => (union_ok gap T l l2 hg k k2).mono fun r w' h => .of h ku, fun p q N cap M cb w l l2 => (runion_ok gap l l2 hg k k2).mono fun r w' h => .of h ku⟩
      · exact ⟨30, [], fun p q N cap M cb w T l l2 => (union_set2 gap l l2 hg k k2).mono fun r w' h => .err h, fun p q N cap M cb w l l2 => (runion_set2 gap l l2 hg k k2).mono fun r w' h => .err h⟩
    · exact ⟨30, [], fun p q N cap M cb w T l l2 => (union_set1 gap l hg k).mono fun r w' h => .err h, fun p q N cap M cb w l l2 => (runion_set1 gap l l2 hg k).mono fun r w' h => .err h⟩
  · exact ⟨1, [], fun p q N cap M cb w T l l2 => (union_arg gap hg).mono fun r w' h => .err h, fun p q N cap M cb w l l2 => (runion_arg gap hg).mono fun r w' h => .err h⟩
theorem adds2 {xs : List S} (dn dc gap : Int) : ∃ e zs, (∀ (p : Option Addr) (N cap : Nat) w, Tab w → L w p N xs → Calls Tryd.prog 26 #[.slice p N cap, .agg #[.int .i64 dn, .int .i64 dc], .int .i64 gap] w fun r w' => UPost w w' r e zs) ∧ (∀ (p : Option Addr) (N cap : Nat) w, L w p N xs → Calls Tryd.prog 56 #[.slice p N cap, .agg #[.int .i64 dn, .int .i64 dc], .int .i64 gap] w fun r w' => UPost w w' r e zs) := by
  by_cases hg : 1 ≤ gap ∧ gap ≤ 64
  · by_cases hd : IsDot dn dc
    · have hi : isd dn dc = true := by unfold isd; rw [decide_eq_true hd.1, decide_eq_true hd.2]; rfl
      by_cases k : OkL gap xs
      · by_cases hc : dc ≤ (ofn xs dn).b + gap
        · have ku := (addl_ok k hg.1 hg.2 dn dc hd.2 hc).mono hg.2
          exact ⟨0, addl xs dn dc, fun p N cap w T l => (add_ok dn dc gap T l hg hd k hc).mono fun r w' h => .of h ku, fun p N cap w l => (radd_ok dn dc gap l hg hi k hd.2 hc).mono fun r w' h => .of h ku⟩
        · exact ⟨31, [], fun p N cap w T l => (add_gap dn dc gap l hg hd k (by omega)).mono fun r w' h => .err h, fun p N cap w l => (radd_gap dn dc gap l hg hi k (by omega)).mono fun r w' h => .err h⟩
      · exact ⟨30, [], fun p N cap w T l => (add_set dn dc gap l hg hd k).mono fun r w' h => .err h, fun p N cap w l => (radd_set dn dc gap l hg hi k).mono fun r w' h => .err h⟩
    · have hi : ¬ isd dn dc = true := fun h => by
        unfold isd at h
        rw [Bool.and_eq_true, decide_eq_true_eq, decide_eq_true_eq] at h
        exact hd h
      exact ⟨1, [], fun p N cap w T l => (add_arg2 dn dc gap hg hd).mono fun r w' h => .err h, fun p N cap w l => (radd_early dn dc gap (fun h => hi h.2)).mono fun r w' h => .err h⟩
  · exact ⟨1, [], fun p N cap w T l => (add_arg1 dn dc gap hg).mono fun r w' h => .err h, fun p N cap w l => (radd_early dn dc gap (fun h => hg h.1)).mono fun r w' h => .err h⟩
set_option maxHeartbeats 4000000 in
set_option maxRecDepth 100000 in
theorem replaced_ok {w : World} (T : Tab w) {p : Option Addr} {N cap : Nat} {xs : List S} (h : L w p N xs) (hN : N ≤ 4398046511104) (dn dc gap : Int) : Calls Tryd.prog 33 #[.slice p N cap, .agg #[.int .i64 dn, .int .i64 dc], .int .i64 gap] w fun r w' => r = .returned (.bool true) ∧ Apart [] w w' := by
  have aV : Apart [] w (w.alloc (.cells #[.int .i64 dn, .int .i64 dc] 35)) := (Apart.refl _ _).alloc _
  have bV := new1 w #[.int .i64 dn, .int .i64 dc] 35
  obtain ⟨BB, hBB⟩ : ∃ BB, w.heap.size = BB := ⟨_, rfl⟩
  have hbox : ∀ W, Apart [] (w.alloc (.cells #[.int .i64 dn, .int .i64 dc] 35)) W → W.cell? ⟨BB, 0, none⟩ = some (.int .i64 dn) ∧ W.cell? ⟨BB, 1, none⟩ = some (.int .i64 dc) := fun W a => by
    have b2 := (a.block _ (lt_of_heap bV) (by simp)).trans bV
    rw [hBB] at b2
    exact ⟨by rw [cell_of_row _ _ _ _ _ _ b2]; rfl, by rw [cell_of_row _ _ _ _ _ _ b2]; rfl⟩
  have HBX := hid hbox
  have HT := hid T
  have HL := hid h
  have HAV := hid aV
  clear T h aV bV hbox
  go_enter Tryd.func33, Tryd.ntmps33
  go_wp2_with fail
  generalize hW0 : w.alloc (.cells #[.int .i64 dn, .int .i64 dc] 35) = W0 at HAV HBX ⊢
  obtain ⟨e, zs, hU, hR⟩ := unions2 (xs := xs) (ys := xs) gap
  obtain ⟨e2, zs2, hA, hB⟩ := adds2 (xs := xs) dn dc gap
  have HR := hid hR
  have HA := hid hA
  have HB := hid hB
  have hU' := hU p p N cap N cap W0 (HT.out.kept0 HAV.out) (HL.out.kept0 HAV.out) (HL.out.kept0 HAV.out)
  clear hU hR hA hB
  refine hU'.mono ?_
  rintro r w1 ⟨⟨p1, n1, c1, rfl, l1, a1⟩⟩
  dsimp only
  have D1 := hid a1
  have K1 := hid l1
  have hC := copied_ok (cap := cap) (HL.out.kept0 (HAV.out.trans a1)) hN
  clear hU' a1 l1
  go_wp2_with fail
  refine hC.mono ?_
  rintro r w2 ⟨⟨p2, c2, rfl, o2⟩⟩
  dsimp only
  have D2 := hid (D1.out.trans o2.ap)
  have HO2 := hid o2
  have A2 := hid o2.ap
  have hC2 := copied_ok (cap := cap) (HL.out.kept0 (HAV.out.trans D2.out)) hN
  clear hC o2
  go_wp2_with fail
  refine hC2.mono ?_
  rintro r w3 ⟨⟨p3, c3, rfl, o3⟩⟩
  dsimp only
  have D3 := hid (D2.out.trans o3.ap)
  have A3 := hid (A2.out.trans o3.ap)
  have l2 := (HO2.out.L (by omega) HL.out.fit).kept0 o3.ap
  have l3 := o3.L (by omega) HL.out.fit
  have hR := HR.out p2 p3 N c2 N c3 w3 l2 l3
  clear hC2 o3 l2 l3
  go_wp2_with fail
  refine hR.mono ?_
  rintro r w4 ⟨⟨p4, n4, c4, rfl, l4, a4⟩⟩
  dsimp only
  have D4 := hid (D3.out.trans a4)
  have A4 := hid (A3.out.trans a4)
  have K4 := hid l4
  have q4 := HBX.out _ D4.out
  have hA := HA.out p N cap w4 (HT.out.kept0 (HAV.out.trans D4.out)) (HL.out.kept0 (HAV.out.trans D4.out))
  clear hR l4 a4
  obtain ⟨q40, q41⟩ := q4
  go_wp2_with fail
  refine hA.mono ?_
  rintro r w5 ⟨⟨p5, n5, c5, rfl, l5, a5⟩⟩
  dsimp only
  have D5 := hid (D4.out.trans a5)
  have A5 := hid a5
  have K5 := hid l5
  have q5 := HBX.out _ (D5.out.drewN 1)
  have hC := copied_ok (cap := cap) (HL.out.kept0 (HAV.out.trans (D5.out.drewN 1))) hN
  clear hA l5 a5 q40 q41
  go_wp2_with fail
  refine wp_region_held_drew (S := fun X => X.cell? ⟨BB, 0, none⟩ = some (.int .i64 dn) ∧ X.cell? ⟨BB, 1, none⟩ = some (.int .i64 dc)) (by kernel_rfl) q5 (fun hHeld => ?_)
  refine wpAnyH_take (i := 0) (oi := ⟨some 39, _, _, _, _, _⟩) (v := (.slice p N cap)) rfl (by kernel_rfl) (by kernel_rfl) (by kernel_rfl) (fun _ _ _ h => h) (Or.inl ⟨by rfl, ?_⟩) (by assumption) ?_
  · intro W hSW; go_simp
  simp only [Act.put, List.setIfInBounds_toArray, List.set_cons_zero, List.set_cons_succ]
  refine wpAnyH_take (i := 2) (oi := ⟨some 41, _, _, _, _, _⟩) (v := (.agg #[.int .i64 dn, .int .i64 dc])) rfl (by kernel_rfl) (by kernel_rfl) (by kernel_rfl) (fun _ _ _ h => h) (Or.inl ⟨by rfl, ?_⟩) (by assumption) ?_
  · intro W hSW; go_simp
  simp only [Act.put, List.setIfInBounds_toArray, List.set_cons_zero, List.set_cons_succ]
  refine wpAnyH_take (i := 3) (oi := ⟨some 42, _, _, _, _, _⟩) (v := (.int .i64 gap)) rfl (by kernel_rfl) (by kernel_rfl) (by kernel_rfl) (fun _ _ _ h => h) (Or.inl ⟨by rfl, ?_⟩) (by assumption) ?_
  · intro W hSW; go_simp
  simp only [Act.put, List.setIfInBounds_toArray, List.set_cons_zero, List.set_cons_succ]
  refine wpAnyH_ready (rs := [1]) (by kernel_rfl) (by simp) ?_
  refine AllReadyH.cons rfl (fun KK hKK => ?_) AllReadyH.nil
  go_simp
  refine hC.mono ?_
  rintro r w6 ⟨⟨p6, c6, rfl, o6⟩⟩
  dsimp only
  have D6 := hid ((D5.out.drewN 1).trans o6.ap)
  have A6 := hid (((Apart.refl [] w5).drewN 1).trans o6.ap)
  have q6 := HBX.out _ D6.out
  have hB := HB.out p6 N c6 w6 (o6.L (by omega) HL.out.fit)
  clear o6 hC
  refine hKK.out _ _ q6 (fun hHeld => ?_)
  clear hKK KK
  refine wpAnyH_ready (rs := [4]) (by kernel_rfl) (by simp) ?_
  refine AllReadyH.cons rfl (fun KK hKK => ?_) AllReadyH.nil
  go_simp
  refine hB.mono ?_
  rintro r w7 ⟨⟨p7, n7, c7, rfl, l7, a7⟩⟩
  dsimp only
  have D7 := hid (D6.out.trans a7)
  have A7 := hid (A6.out.trans a7)
  have q7 := HBX.out _ D7.out
  have K7 := hid l7
  clear hB l7 a7
  refine hKK.out _ _ q7 (fun hHeld => ?_)
  clear hKK KK
  refine wpAnyH_take (i := 5) (oi := ⟨some 38, _, _, _, _, _⟩) (v := (.tuple #[.slice p7 n7 c7, .int .i64 e2])) rfl (by kernel_rfl) (by kernel_rfl) (by kernel_rfl) (fun _ _ _ h => h) (Or.inl ⟨by rfl, ?_⟩) (by assumption) ?_
  · intro W hSW; go_simp
  simp only [Act.put, List.setIfInBounds_toArray, List.set_cons_zero, List.set_cons_succ]
  refine wpAnyH_take (i := 6) (oi := ⟨some 44, _, _, _, _, _⟩) (v := (.slice p7 n7 c7)) rfl (by kernel_rfl) (by kernel_rfl) (by kernel_rfl) (fun _ _ _ h => h) (Or.inl ⟨by rfl, ?_⟩) (by assumption) ?_
  · intro W hSW; go_simp
  simp only [Act.put, List.setIfInBounds_toArray, List.set_cons_zero, List.set_cons_succ]
  refine wpAnyH_take (i := 7) (oi := ⟨some 45, _, _, _, _, _⟩) (v := (.int .i64 e2)) rfl (by kernel_rfl) (by kernel_rfl) (by kernel_rfl) (fun _ _ _ h => h) (Or.inl ⟨by rfl, ?_⟩) (by assumption) ?_
  · intro W hSW; go_simp
  simp only [Act.put, List.setIfInBounds_toArray, List.set_cons_zero, List.set_cons_succ]
  refine wpAnyH_take (i := 8) (oi := ⟨some 13, _, _, _, _, _⟩) (v := (.slice p7 n7 c7)) rfl (by kernel_rfl) (by kernel_rfl) (by kernel_rfl) (fun _ _ _ h => h) (Or.inl ⟨by rfl, ?_⟩) (by assumption) ?_
  · intro W hSW; go_simp
  simp only [Act.put, List.setIfInBounds_toArray, List.set_cons_zero, List.set_cons_succ]
  refine wpAnyH_take (i := 9) (oi := ⟨some 14, _, _, _, _, _⟩) (v := (.int .i64 e2)) rfl (by kernel_rfl) (by kernel_rfl) (by kernel_rfl) (fun _ _ _ h => h) (Or.inl ⟨by rfl, ?_⟩) (by assumption) ?_
  · intro W hSW; go_simp
  simp only [Act.put, List.setIfInBounds_toArray, List.set_cons_zero, List.set_cons_succ]
  refine wpAnyH_done (by kernel_rfl) ?_ _
  have hS := same_as (cap := c1) (cb := c4) (K1.out.kept0 (A4.out.trans (A5.out.trans A7.out))) (K4.out.kept0 (A5.out.trans A7.out)) true ⟨by simp⟩
  clear q7 q6 q5
  go_wp2_with fail
  refine hS.mono ?_
  rintro r w8 ⟨rfl, a8⟩
  dsimp only
  have A8 := hid a8
  have hS2 := same_as (cap := c5) (cb := c7) (K5.out.kept0 (A7.out.trans a8)) (K7.out.kept0 a8) true ⟨by simp⟩
  clear hS a8
  go_wp2_with fail
  refine hS2.mono ?_
  rintro r w9 ⟨rfl, a9⟩
  dsimp only
  have A9 : Hid (Apart [] w w9) := HAV.out.trans ((D7.out.trans A8.out).trans a9)
  clear hS2 a9
  go_wp2
  go_ret
  exact ⟨rfl, A9.out⟩
end Go.Proofs.YtdggkofihppcmaaDoor.ds
