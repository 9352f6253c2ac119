import Derived.Test.YtpidoipehpnohaaDoorG2
import Derived.Test.YtpidoipehpnohaaDoorAlive
import Derived.Deep.CutRange
namespace Go.Proofs.YtpidoipehpnohaaDoor.ds
open Go.ChangeShapes Go.WideShapes Go.ChangeAt Go.RowKit
set_option linter.unusedVariables false
set_option linter.unusedSimpArgs false
set_option maxHeartbeats 40000000 in
set_option maxRecDepth 100000 in
theorem grown_walk (w : World) (T : Tab w) (p p2 : Option Addr) (N cap M cb : Nat) (f f2 : Nat → Int × Int) (gap0 : Int) (hf : Dts w p N f) (hf2 : Dts w p2 M f2) (hN : N ≤ 9223372036854775807) (hM : M ≤ 9223372036854775807) (hr : ∀ i, i < N → (-9223372036854775808 ≤ (f i).1 ∧ (f i).1 ≤ 9223372036854775807) ∧ -9223372036854775808 ≤ (f i).2 ∧ (f i).2 ≤ 9223372036854775807) (hg0 : -9223372036854775808 ≤ gap0 ∧ gap0 ≤ 9223372036854775807) :
    Calls Tryd.prog 5 #[.slice p N cap, .slice p2 M cb, .int .i64 gap0] w fun r w' => r = .returned (.bool true) ∧ Apart [] w w' := by
  go_enter Tryd.func5, Tryd.ntmps5
  go_wp2_with fail
  refine (alive_ok w T).mono ?_
  rintro r w1 ⟨rfl, a1⟩
  dsimp only
  go_wp2_with fail
  refine (win_ok gap0 1 64 w1 hg0.1 hg0.2 (by decide) (by decide) (by decide)).mono ?_
  rintro r w2 ⟨⟨gap, rfl, hg⟩, rfl⟩
  dsimp only
  go_wp2_with fail
  go_loopw [8, 9, 10] (fun s l v wr => ∃ i : Nat, i ≤ N ∧ i ≤ 120 ∧ v = .int .i64 i ∧ ∃ ps ns cs xs pl nl cl ds, s = .slice ps ns cs ∧ l = .slice pl nl cl ∧ GInv w wr ps ns cs xs pl nl cl ds gap i) (fun _ _ v _ => 120 - (intOf v).toNat)
  case atStart => exact ⟨0, Nat.zero_le _, by omega, rfl, none, 0, 0, [], none, 0, 0, [], rfl, rfl, ⟨⟨rfl, World.ownsRow_nil _ _ _ _, fun b hb => by simp [Value.ownBlock] at hb, a1⟩, ⟨rfl, World.ownsRow_nil _ _ _ _, fun b hb => by simp [Value.ownBlock] at hb, a1⟩, OkL.nil gap, fun n _ c hc => by rw [ofn_nil, dot_none _ _ hc]; rfl, fun d hd => by simp at hd, rfl, Nat.le_refl _⟩⟩
  case round =>
    obtain ⟨i, hi, hi120, rfl, ps, ns, cs, xs, pl, nl, cl, ds, rfl, rfl, inv⟩ := hrel
    have hnl : nl ≤ 120 := by have := inv.le; have := inv.ol.len; omega
    have hns : ns ≤ 4398046511104 := by have := inv.ok.len (by omega) hg.2; have := inv.os.len; omega
    by_cases hlt : i < N ∧ i < 120
    · obtain ⟨hlt1, hlt2⟩ := hlt
      have hlt2i : (i : Int) < 120 := by omega
      obtain ⟨P, o, rfl, hP, hc⟩ := (hf.kept0 inv.os.ap) (by omega)
      obtain ⟨c0, c1⟩ := hc i hlt1
      have hri := hr i hlt1
      obtain ⟨⟨fn, fc⟩, HX⟩ : ∃ x, Hid (x = f i) := ⟨_, rfl⟩
      rw [← HX.out] at c0 c1 hri
      simp only at c0 c1 hri
      clear hc
      go_wp2_with fail
      have aV : Apart [] wr wr.drew := (Apart.refl _ _).drew
      have rV0 : ∀ W, Apart [] wr W → W.cell? ⟨P, o + i * 2, none⟩ = some (.int .i64 fn) := fun W a => (a.cell hP (by simp)).trans c0
      have rV1 : ∀ W, Apart [] wr W → W.cell? ⟨P, o + i * 2 + 1, none⟩ = some (.int .i64 fc) := fun W a => (a.cell hP (by simp)).trans c1
      go_cut [11] from 32 to 44 (fun d wx => ∃ dn dc : Int, d = .pointer (some ⟨wr.heap.size, 0, none⟩) ∧ (0 ≤ dn ∧ dn ≤ 7) ∧ (1 ≤ dc ∧ dc ≤ 200) ∧ Apart [] (wr.alloc (.cells #[.int .i64 dn, .int .i64 dc] 35)) wx)
      case first =>
        refine wp_region_held_drew (S := fun W => Apart [] wr W) (by kernel_rfl) aV (fun hHeld => ?_)
        refine wpAnyH_take (i := 0) (oi := ⟨some 32, _, _, _, _, _⟩) (v := (.slice (some ⟨P, o, none⟩) N cap)) rfl (by kernel_rfl) (by kernel_rfl) (by kernel_rfl) (fun _ _ _ h => h) (Or.inl ⟨by rfl, ?_⟩) (by assumption) ?_
        · intro W hSW; go_simp
        simp only [Act.put, List.setIfInBounds_toArray, List.set_cons_zero, List.set_cons_succ]
        refine wpAnyH_take (i := 1) (oi := ⟨some 33, _, _, _, _, _⟩) (v := (.int .i64 (i : Int))) rfl (by kernel_rfl) (by kernel_rfl) (by kernel_rfl) (fun _ _ _ h => h) (Or.inl ⟨by rfl, ?_⟩) (by assumption) ?_
        · intro W hSW; go_simp
        simp only [Act.put, List.setIfInBounds_toArray, List.set_cons_zero, List.set_cons_succ]
        refine wpAnyH_take (i := 2) (oi := ⟨some 34, _, _, _, _, _⟩) (v := (.pointer (some ⟨P, o + i * 2, none⟩))) rfl (by kernel_rfl) (by kernel_rfl) (by kernel_rfl) (fun _ _ _ h => h) (Or.inl ⟨by rfl, ?_⟩) (by assumption) ?_
        · intro W hSW; go_simp
        simp only [Act.put, List.setIfInBounds_toArray, List.set_cons_zero, List.set_cons_succ]
        refine wpAnyH_take (i := 3) (oi := ⟨some 35, _, _, _, _, _⟩) (v := (.pointer (some ⟨P, o + i * 2, none⟩))) rfl (by kernel_rfl) (by kernel_rfl) (by kernel_rfl) (fun _ _ _ h => h) (Or.inl ⟨by rfl, ?_⟩) (by assumption) ?_
        · intro W hSW; go_simp
        simp only [Act.put, List.setIfInBounds_toArray, List.set_cons_zero, List.set_cons_succ]
        refine wpAnyH_take (i := 4) (oi := ⟨some 36, _, _, _, _, _⟩) (v := (.int .i64 fn)) rfl (by kernel_rfl) (by kernel_rfl) (by kernel_rfl) (fun _ _ _ h => h) (Or.inl ⟨by rfl, ?_⟩) (by assumption) ?_
        · intro W hSW; go_simp
        simp only [Act.put, List.setIfInBounds_toArray, List.set_cons_zero, List.set_cons_succ]
        refine wpAnyH_take (i := 6) (oi := ⟨some 38, _, _, _, _, _⟩) (v := (.slice (some ⟨P, o, none⟩) N cap)) rfl (by kernel_rfl) (by kernel_rfl) (by kernel_rfl) (fun _ _ _ h => h) (Or.inl ⟨by rfl, ?_⟩) (by assumption) ?_
        · intro W hSW; go_simp
        simp only [Act.put, List.setIfInBounds_toArray, List.set_cons_zero, List.set_cons_succ]
        refine wpAnyH_take (i := 7) (oi := ⟨some 39, _, _, _, _, _⟩) (v := (.int .i64 (i : Int))) rfl (by kernel_rfl) (by kernel_rfl) (by kernel_rfl) (fun _ _ _ h => h) (Or.inl ⟨by rfl, ?_⟩) (by assumption) ?_
        · intro W hSW; go_simp
        simp only [Act.put, List.setIfInBounds_toArray, List.set_cons_zero, List.set_cons_succ]
        refine wpAnyH_take (i := 8) (oi := ⟨some 40, _, _, _, _, _⟩) (v := (.pointer (some ⟨P, o + i * 2, none⟩))) rfl (by kernel_rfl) (by kernel_rfl) (by kernel_rfl) (fun _ _ _ h => h) (Or.inl ⟨by rfl, ?_⟩) (by assumption) ?_
        · intro W hSW; go_simp
        simp only [Act.put, List.setIfInBounds_toArray, List.set_cons_zero, List.set_cons_succ]
        refine wpAnyH_take (i := 9) (oi := ⟨some 41, _, _, _, _, _⟩) (v := (.pointer (some ⟨P, o + i * 2 + 1, none⟩))) rfl (by kernel_rfl) (by kernel_rfl) (by kernel_rfl) (fun _ _ _ h => h) (Or.inl ⟨by rfl, ?_⟩) (by assumption) ?_
        · intro W hSW; go_simp
        simp only [Act.put, List.setIfInBounds_toArray, List.set_cons_zero, List.set_cons_succ]
        refine wpAnyH_take (i := 10) (oi := ⟨some 42, _, _, _, _, _⟩) (v := (.int .i64 fc)) rfl (by kernel_rfl) (by kernel_rfl) (by kernel_rfl) (fun _ _ _ h => h) (Or.inl ⟨by rfl, ?_⟩) (by assumption) ?_
        · intro W hSW; go_simp
        simp only [Act.put, List.setIfInBounds_toArray, List.set_cons_zero, List.set_cons_succ]
        refine wpAnyH_ready (rs := [5, 13]) (by kernel_rfl) (by simp) ?_
        refine AllReadyH.cons rfl (fun KK hKK => ?_) (AllReadyH.cons rfl (fun KK hKK => ?_) AllReadyH.nil)
        · skip
          go_simp
          refine (win_ok fn 0 7 _ hri.1.1 hri.1.2 (by decide) (by decide) (by decide)).mono ?_
          rintro r z ⟨⟨dn, rfl, hdn⟩, rfl⟩
          dsimp only
          refine hKK.out _ _ (by assumption) (fun hHeld => ?_)
          clear hKK KK
          refine wpAnyH_ready (rs := [11, 13]) (by kernel_rfl) (by simp) ?_
          refine AllReadyH.cons rfl (fun KK hKK => ?_) (AllReadyH.cons rfl (fun KK hKK => ?_) AllReadyH.nil)
          · skip
            go_simp
            refine (win_ok fc 1 200 _ hri.2.1 hri.2.2 (by decide) (by decide) (by decide)).mono ?_
            rintro r z' ⟨⟨dc, rfl, hdc⟩, rfl⟩
            dsimp only
            refine hKK.out _ _ (by assumption) (fun hHeld => ?_)
            clear hKK KK
            refine wpAnyH_take (i := 12) (oi := ⟨some 44, _, _, _, _, _⟩) (v := (.agg #[.int .i64 dn, .int .i64 dc])) rfl (by kernel_rfl) (by kernel_rfl) (by kernel_rfl) (fun _ _ _ h => h) (Or.inl ⟨by rfl, ?_⟩) (by assumption) ?_
            · intro W hSW; go_simp
            simp only [Act.put, List.setIfInBounds_toArray, List.set_cons_zero, List.set_cons_succ]
            refine wpAnyH_ready (rs := [13]) (by kernel_rfl) (by simp) ?_
            refine AllReadyH.cons rfl (fun KK hKK => ?_) AllReadyH.nil
            go_simp
            refine hKK.out _ _ (by first | exact ((Apart.refl _ _).alloc _).drew | exact ((Apart.refl _ _).drew).alloc _) (fun hHeld => ?_)
            clear hKK KK
            refine wpAnyH_ready (rs := [14]) (by kernel_rfl) (by simp) ?_
            refine AllReadyH.cons rfl (fun KK hKK => ?_) AllReadyH.nil
            go_simp
            refine hKK.out _ _ (by first | exact ((Apart.refl _ _).alloc _).drew | exact ((Apart.refl _ _).drew).alloc _ | exact ((((Apart.refl _ _).alloc _).setCell (.inr (Nat.le_refl _)) _).setCell (.inr (Nat.le_refl _)) _).drew) (fun hHeld => ?_)
            clear hKK KK
            refine wpAnyH_done (by kernel_rfl) ?_ _
            go_wp2_with fail
            go_meet
            exact ⟨dn, dc, rfl, hdn, hdc, by first | exact (Apart.refl _ _).drew | exact Apart.refl _ _⟩
          · skip
            go_simp
            refine hKK.out _ _ (by first | exact ((Apart.refl _ _).alloc _).drew | exact ((Apart.refl _ _).drew).alloc _) (fun hHeld => ?_)
            clear hKK KK
            refine wpAnyH_ready (rs := [11]) (by kernel_rfl) (by simp) ?_
            refine AllReadyH.cons rfl (fun KK hKK => ?_) AllReadyH.nil
            go_simp
            refine (win_ok fc 1 200 _ hri.2.1 hri.2.2 (by decide) (by decide) (by decide)).mono ?_
            rintro r z' ⟨⟨dc, rfl, hdc⟩, rfl⟩
            dsimp only
            refine hKK.out _ _ (by assumption) (fun hHeld => ?_)
            clear hKK KK
            refine wpAnyH_take (i := 12) (oi := ⟨some 44, _, _, _, _, _⟩) (v := (.agg #[.int .i64 dn, .int .i64 dc])) rfl (by kernel_rfl) (by kernel_rfl) (by kernel_rfl) (fun _ _ _ h => h) (Or.inl ⟨by rfl, ?_⟩) (by assumption) ?_
            · intro W hSW; go_simp
            simp only [Act.put, List.setIfInBounds_toArray, List.set_cons_zero, List.set_cons_succ]
            refine wpAnyH_ready (rs := [14]) (by kernel_rfl) (by simp) ?_
            refine AllReadyH.cons rfl (fun KK hKK => ?_) AllReadyH.nil
            go_simp
            refine hKK.out _ _ (by first | exact ((Apart.refl _ _).alloc _).drew | exact ((Apart.refl _ _).drew).alloc _ | exact ((((Apart.refl _ _).alloc _).setCell (.inr (Nat.le_refl _)) _).setCell (.inr (Nat.le_refl _)) _).drew) (fun hHeld => ?_)
            clear hKK KK
            refine wpAnyH_done (by kernel_rfl) ?_ _
            go_wp2_with fail
            go_meet
            exact ⟨dn, dc, rfl, hdn, hdc, by first | exact (Apart.refl _ _).drew | exact Apart.refl _ _⟩
        · skip
          go_simp
          refine hKK.out _ _ (by first | exact ((Apart.refl _ _).alloc _).drew | exact ((Apart.refl _ _).drew).alloc _) (fun hHeld => ?_)
          clear hKK KK
          refine wpAnyH_ready (rs := [5]) (by kernel_rfl) (by simp) ?_
          refine AllReadyH.cons rfl (fun KK hKK => ?_) AllReadyH.nil
          go_simp
          refine (win_ok fn 0 7 _ hri.1.1 hri.1.2 (by decide) (by decide) (by decide)).mono ?_
          rintro r z ⟨⟨dn, rfl, hdn⟩, rfl⟩
          dsimp only
          refine hKK.out _ _ (by assumption) (fun hHeld => ?_)
          clear hKK KK
          refine wpAnyH_ready (rs := [11]) (by kernel_rfl) (by simp) ?_
          refine AllReadyH.cons rfl (fun KK hKK => ?_) AllReadyH.nil
          go_simp
          refine (win_ok fc 1 200 _ hri.2.1 hri.2.2 (by decide) (by decide) (by decide)).mono ?_
          rintro r z' ⟨⟨dc, rfl, hdc⟩, rfl⟩
          dsimp only
          refine hKK.out _ _ (by assumption) (fun hHeld => ?_)
          clear hKK KK
          refine wpAnyH_take (i := 12) (oi := ⟨some 44, _, _, _, _, _⟩) (v := (.agg #[.int .i64 dn, .int .i64 dc])) rfl (by kernel_rfl) (by kernel_rfl) (by kernel_rfl) (fun _ _ _ h => h) (Or.inl ⟨by rfl, ?_⟩) (by assumption) ?_
          · intro W hSW; go_simp
          simp only [Act.put, List.setIfInBounds_toArray, List.set_cons_zero, List.set_cons_succ]
          refine wpAnyH_ready (rs := [14]) (by kernel_rfl) (by simp) ?_
          refine AllReadyH.cons rfl (fun KK hKK => ?_) AllReadyH.nil
          go_simp
          refine hKK.out _ _ (by first | exact ((Apart.refl _ _).alloc _).drew | exact ((Apart.refl _ _).drew).alloc _ | exact ((((Apart.refl _ _).alloc _).setCell (.inr (Nat.le_refl _)) _).setCell (.inr (Nat.le_refl _)) _).drew) (fun hHeld => ?_)
          clear hKK KK
          refine wpAnyH_done (by kernel_rfl) ?_ _
          go_wp2_with fail
          go_meet
          exact ⟨dn, dc, rfl, hdn, hdc, by first | exact (Apart.refl _ _).drew | exact Apart.refl _ _⟩
      case rest =>
        clear rV0 rV1 aV c0 c1
        obtain ⟨dnI, dc, rfl, hdn, hdc, aC⟩ := hcut
        obtain ⟨d, rfl⟩ := Int.eq_ofNat_of_zero_le hdn.1
        have hd8 : d < 8 := by omega
        obtain ⟨dn, Hdn⟩ : ∃ dn : Int, Hid (dn = (d : Int)) := ⟨_, rfl⟩
        rw [← Hdn.out] at aC
        have kD0 := fun W => @new1d wr (.int .i64 dn) (.int .i64 dc) 35 W
        have a0C : Apart [] wr wc := ((Apart.refl [] wr).alloc _).trans aC
        have kD : ∀ W, Apart [] wc W → W.cell? ⟨wr.heap.size, 0, none⟩ = some (.int .i64 dn) ∧ W.cell? ⟨wr.heap.size, 1, none⟩ = some (.int .i64 dc) := fun W a => kD0 W (aC.trans a)
        replace inv := inv.kept a0C
        obtain ⟨O, HO⟩ : ∃ O, Hid (O = wr.heap.size) := ⟨_, rfl⟩
        rw [← HO.out] at kD ⊢
        clear kD0 aC a0C hP
        have hdot : IsDot dn dc := ⟨by rw [Hdn.out]; omega, by omega⟩
        have ok := inv.ok
        have ls := inv.os.L (by omega) (ok.fit hg.2)
        have ll := inv.ol.LD (by omega)
        have TV := T.kept0 inv.os.ap
        obtain ⟨y, HY⟩ : ∃ y, Hid (y = ofn xs dn) := ⟨_, rfl⟩
        have wfy : Wf y := by rw [HY.out]; exact ok.wf (by omega) hg.2 dn
        have hmx : y.b ≤ 1048576 := by
          have := (ok.okn (by omega : 0 ≤ gap) hg.2 dn).mx
          rw [← HY.out] at this
          unfold top at this
          omega
        have hmy : ∀ c : Int, 1 ≤ c → memb ds dn c = dot y c := fun c hc => by rw [HY.out, Hdn.out]; exact inv.mm d hd8 c hc
        have hy0 := wfy.b0
        have hwl : IntKind.i64.wrap (y.b + 1 + gap) = y.b + 1 + gap := by rw [IntKind.wrap_i64]; omega
        have Hinv : Hid (GInv w wc ps ns cs xs pl nl cl ds gap i) := inv
        clear inv
        go_wp2_with fail
        obtain ⟨V, HV⟩ : ∃ V, Hid (V = wc) := ⟨_, rfl⟩
        rw [← HV.out] at kD ls ll TV
        have rV0 : ∀ W, Apart [] V W → W.cell? ⟨O, 0, none⟩ = some (.int .i64 dn) := fun W a => (kD W a).1
        have rV1 : ∀ W, Apart [] V W → W.cell? ⟨O, 1, none⟩ = some (.int .i64 dc) := fun W a => (kD W a).2
        have aV : Apart [] V wc.drew := by rw [HV.out]; exact (Apart.refl _ _).drew
        by_cases hgap : y.b + gap < dc
        · have hgapx : (ofn xs dn).b + gap < dc := by rw [← HY.out]; exact hgap
          have hge : y.b + 1 + gap ≤ dc := by omega
          refine wp_region_held_drew (S := fun W => Apart [] V W) (by kernel_rfl) aV (fun hHeld => ?_)
          refine wpAnyH_take (i := 0) (oi := ⟨some 46, _, _, _, _, _⟩) (v := (.slice ps ns cs)) rfl (by kernel_rfl) (by kernel_rfl) (by kernel_rfl) (fun _ _ _ h => h) (Or.inl ⟨by rfl, ?_⟩) (by assumption) ?_
          · intro W hSW; go_simp
          simp only [Act.put, List.setIfInBounds_toArray, List.set_cons_zero, List.set_cons_succ]
          refine wpAnyH_take (i := 2) (oi := ⟨some 48, _, _, _, _, _⟩) (v := (.agg #[.int .i64 dn, .int .i64 dc])) rfl (by kernel_rfl) (by kernel_rfl) (by kernel_rfl) (fun _ _ _ h => h) (Or.inl ⟨by rfl, ?_⟩) (by assumption) ?_
          · intro W hSW; go_simp
          simp only [Act.put, List.setIfInBounds_toArray, List.set_cons_zero, List.set_cons_succ]
          refine wpAnyH_take (i := 3) (oi := ⟨some 49, _, _, _, _, _⟩) (v := (.int .i64 gap)) rfl (by kernel_rfl) (by kernel_rfl) (by kernel_rfl) (fun _ _ _ h => h) (Or.inl ⟨by rfl, ?_⟩) (by assumption) ?_
          · intro W hSW; go_simp
          simp only [Act.put, List.setIfInBounds_toArray, List.set_cons_zero, List.set_cons_succ]
          refine wpAnyH_ready (rs := [1]) (by kernel_rfl) (by simp) ?_
          refine AllReadyH.cons rfl (fun KK hKK => ?_) AllReadyH.nil
          go_simp
          refine (copied_ok (ls.kept0 aV) hns).mono ?_
          rintro r z1 hz1
          obtain ⟨pz, cz, rfl, lz, y1⟩ := hz1.parts (by omega) (ok.fit hg.2)
          dsimp only
          have y2 := aV.trans y1
          refine hKK.out _ _ (by assumption) (fun hHeld => ?_)
          clear hKK KK
          refine wpAnyH_ready (rs := [4]) (by kernel_rfl) (by simp) ?_
          refine AllReadyH.cons rfl (fun KK hKK => ?_) AllReadyH.nil
          go_simp
          refine (add_gap dn dc gap lz hg hdot ok hgapx).mono ?_
          rintro r z2 ⟨rfl, y3⟩
          dsimp only
          have y4 := y2.trans y3
          refine hKK.out _ _ (by assumption) (fun hHeld => ?_)
          clear hKK KK
          refine wpAnyH_take (i := 5) (oi := ⟨some 45, _, _, _, _, _⟩) (v := (.tuple #[.slice none 0 0, .int .i64 31])) rfl (by kernel_rfl) (by kernel_rfl) (by kernel_rfl) (fun _ _ _ h => h) (Or.inl ⟨by rfl, ?_⟩) (by assumption) ?_
          · intro W hSW; go_simp
          simp only [Act.put, List.setIfInBounds_toArray, List.set_cons_zero, List.set_cons_succ]
          refine wpAnyH_take (i := 6) (oi := ⟨some 51, _, _, _, _, _⟩) (v := (.slice none 0 0)) rfl (by kernel_rfl) (by kernel_rfl) (by kernel_rfl) (fun _ _ _ h => h) (Or.inl ⟨by rfl, ?_⟩) (by assumption) ?_
          · intro W hSW; go_simp
          simp only [Act.put, List.setIfInBounds_toArray, List.set_cons_zero, List.set_cons_succ]
          refine wpAnyH_take (i := 7) (oi := ⟨some 52, _, _, _, _, _⟩) (v := (.int .i64 31)) rfl (by kernel_rfl) (by kernel_rfl) (by kernel_rfl) (fun _ _ _ h => h) (Or.inl ⟨by rfl, ?_⟩) (by assumption) ?_
          · intro W hSW; go_simp
          simp only [Act.put, List.setIfInBounds_toArray, List.set_cons_zero, List.set_cons_succ]
          refine wpAnyH_take (i := 8) (oi := ⟨some 12, _, _, _, _, _⟩) (v := (.slice none 0 0)) rfl (by kernel_rfl) (by kernel_rfl) (by kernel_rfl) (fun _ _ _ h => h) (Or.inl ⟨by rfl, ?_⟩) (by assumption) ?_
          · intro W hSW; go_simp
          simp only [Act.put, List.setIfInBounds_toArray, List.set_cons_zero, List.set_cons_succ]
          refine wpAnyH_take (i := 9) (oi := ⟨some 13, _, _, _, _, _⟩) (v := (.int .i64 31)) rfl (by kernel_rfl) (by kernel_rfl) (by kernel_rfl) (fun _ _ _ h => h) (Or.inl ⟨by rfl, ?_⟩) (by assumption) ?_
          · intro W hSW; go_simp
          simp only [Act.put, List.setIfInBounds_toArray, List.set_cons_zero, List.set_cons_succ]
          refine wpAnyH_done (by kernel_rfl) ?_ _
          clear rV0 rV1
          have q0 := (kD z2 y4).1
          have q1 := (kD z2 y4).2
          go_wp2_with fail
          have rW0 : ∀ W, Apart [] z2 W → W.cell? ⟨O, 0, none⟩ = some (.int .i64 dn) := fun W a => (kD W (y4.trans a)).1
          have rW1 : ∀ W, Apart [] z2 W → W.cell? ⟨O, 1, none⟩ = some (.int .i64 dc) := fun W a => (kD W (y4.trans a)).2
          have b1 : Apart [] z2 z2.drew := (Apart.refl _ _).drew
          replace ll := ll.kept0 y4
          clear q0 q1
          refine wp_region_held_drew (S := fun W => Apart [] z2 W) (by kernel_rfl) b1 (fun hHeld => ?_)
          refine wpAnyH_take (i := 0) (oi := ⟨some 53, _, _, _, _, _⟩) (v := (.pointer (some ⟨O, 1, none⟩))) rfl (by kernel_rfl) (by kernel_rfl) (by kernel_rfl) (fun _ _ _ h => h) (Or.inl ⟨by rfl, ?_⟩) (by assumption) ?_
          · intro W hSW; go_simp
          simp only [Act.put, List.setIfInBounds_toArray, List.set_cons_zero, List.set_cons_succ]
          refine wpAnyH_take (i := 1) (oi := ⟨some 54, _, _, _, _, _⟩) (v := (.int .i64 dc)) rfl (by kernel_rfl) (by kernel_rfl) (by kernel_rfl) (fun _ _ _ h => h) (Or.inl ⟨by rfl, ?_⟩) (by assumption) ?_
          · intro W hSW; go_simp
          simp only [Act.put, List.setIfInBounds_toArray, List.set_cons_zero, List.set_cons_succ]
          refine wpAnyH_take (i := 2) (oi := ⟨some 55, _, _, _, _, _⟩) (v := (.slice pl nl cl)) rfl (by kernel_rfl) (by kernel_rfl) (by kernel_rfl) (fun _ _ _ h => h) (Or.inl ⟨by rfl, ?_⟩) (by assumption) ?_
          · intro W hSW; go_simp
          simp only [Act.put, List.setIfInBounds_toArray, List.set_cons_zero, List.set_cons_succ]
          refine wpAnyH_take (i := 3) (oi := ⟨some 56, _, _, _, _, _⟩) (v := (.pointer (some ⟨O, 0, none⟩))) rfl (by kernel_rfl) (by kernel_rfl) (by kernel_rfl) (fun _ _ _ h => h) (Or.inl ⟨by rfl, ?_⟩) (by assumption) ?_
          · intro W hSW; go_simp
          simp only [Act.put, List.setIfInBounds_toArray, List.set_cons_zero, List.set_cons_succ]
          refine wpAnyH_take (i := 4) (oi := ⟨some 57, _, _, _, _, _⟩) (v := (.int .i64 dn)) rfl (by kernel_rfl) (by kernel_rfl) (by kernel_rfl) (fun _ _ _ h => h) (Or.inl ⟨by rfl, ?_⟩) (by assumption) ?_
          · intro W hSW; go_simp
          simp only [Act.put, List.setIfInBounds_toArray, List.set_cons_zero, List.set_cons_succ]
          refine wpAnyH_take (i := 6) (oi := ⟨some 59, _, _, _, _, _⟩) (v := (.int .i64 gap)) rfl (by kernel_rfl) (by kernel_rfl) (by kernel_rfl) (fun _ _ _ h => h) (Or.inl ⟨by rfl, ?_⟩) (by assumption) ?_
          · intro W hSW; go_simp
          simp only [Act.put, List.setIfInBounds_toArray, List.set_cons_zero, List.set_cons_succ]
          refine wpAnyH_ready (rs := [5]) (by kernel_rfl) (by simp) ?_
          refine AllReadyH.cons rfl (fun KK hKK => ?_) AllReadyH.nil
          go_simp
          refine (lowest_ok (ll.kept0 b1) dn y wfy (by omega) hmy).mono ?_
          rintro r z3 ⟨rfl, b2⟩
          dsimp only
          have b3 := b1.trans b2
          refine hKK.out _ _ (by assumption) (fun hHeld => ?_)
          clear hKK KK
          refine wpAnyH_take (i := 7) (oi := ⟨some 60, _, _, _, _, _⟩) (v := (.int .i64 (y.b + 1 + gap))) rfl (by kernel_rfl) (by kernel_rfl) (by kernel_rfl) (fun _ _ _ h => h) (Or.inl ⟨by rfl, ?_⟩) (by assumption) ?_
          · intro W hSW; go_simp
          simp only [Act.put, List.setIfInBounds_toArray, List.set_cons_zero, List.set_cons_succ]
          refine wpAnyH_take (i := 8) (oi := ⟨some 61, _, _, _, _, _⟩) (v := (.bool true)) rfl (by kernel_rfl) (by kernel_rfl) (by kernel_rfl) (fun _ _ _ h => h) (Or.inl ⟨by rfl, ?_⟩) (by assumption) ?_
          · intro W hSW; go_simp
          simp only [Act.put, List.setIfInBounds_toArray, List.set_cons_zero, List.set_cons_succ]
          refine wpAnyH_done (by kernel_rfl) ?_ _
          have q0 := rW0 z3 b3
          have q1 := rW1 z3 b3
          have y5 := y4.trans b3
          clear rW0 rW1
          have inv2 := Hinv.out.kept (by rw [HV.out] at y5; exact y5)
          go_wp2
          go_roundw
          case rel => exact ⟨i + 1, by omega, by omega, rfl, ps, ns, cs, xs, pl, nl, cl, ds, rfl, rfl, { inv2 with le := by have := inv2.le; omega }⟩
          case measure => simp [intOf]; omega
        · have hgapx : dc ≤ (ofn xs dn).b + gap := by rw [← HY.out]; omega
          have hge : ¬ y.b + 1 + gap ≤ dc := by omega
          refine wp_region_held_drew (S := fun W => Apart [] V W) (by kernel_rfl) aV (fun hHeld => ?_)
          refine wpAnyH_take (i := 0) (oi := ⟨some 46, _, _, _, _, _⟩) (v := (.slice ps ns cs)) rfl (by kernel_rfl) (by kernel_rfl) (by kernel_rfl) (fun _ _ _ h => h) (Or.inl ⟨by rfl, ?_⟩) (by assumption) ?_
          · intro W hSW; go_simp
          simp only [Act.put, List.setIfInBounds_toArray, List.set_cons_zero, List.set_cons_succ]
          refine wpAnyH_take (i := 2) (oi := ⟨some 48, _, _, _, _, _⟩) (v := (.agg #[.int .i64 dn, .int .i64 dc])) rfl (by kernel_rfl) (by kernel_rfl) (by kernel_rfl) (fun _ _ _ h => h) (Or.inl ⟨by rfl, ?_⟩) (by assumption) ?_
          · intro W hSW; go_simp
          simp only [Act.put, List.setIfInBounds_toArray, List.set_cons_zero, List.set_cons_succ]
          refine wpAnyH_take (i := 3) (oi := ⟨some 49, _, _, _, _, _⟩) (v := (.int .i64 gap)) rfl (by kernel_rfl) (by kernel_rfl) (by kernel_rfl) (fun _ _ _ h => h) (Or.inl ⟨by rfl, ?_⟩) (by assumption) ?_
          · intro W hSW; go_simp
          simp only [Act.put, List.setIfInBounds_toArray, List.set_cons_zero, List.set_cons_succ]
          refine wpAnyH_ready (rs := [1]) (by kernel_rfl) (by simp) ?_
          refine AllReadyH.cons rfl (fun KK hKK => ?_) AllReadyH.nil
          go_simp
          refine (copied_ok (ls.kept0 aV) hns).mono ?_
          rintro r z1 hz1
          obtain ⟨pz, cz, rfl, lz, y1⟩ := hz1.parts (by omega) (ok.fit hg.2)
          dsimp only
          have y2 := aV.trans y1
          refine hKK.out _ _ (by assumption) (fun hHeld => ?_)
          clear hKK KK
          refine wpAnyH_ready (rs := [4]) (by kernel_rfl) (by simp) ?_
          refine AllReadyH.cons rfl (fun KK hKK => ?_) AllReadyH.nil
          go_simp
          refine (add_ok dn dc gap (TV.kept0 y2) lz hg hdot ok hgapx).mono ?_
          rintro r z2 ⟨⟨pt, nt, ct, rfl, ownt, hnt⟩⟩
          have y3 := ownt.ap
          dsimp only
          have y4 := y2.trans y3
          refine hKK.out _ _ (by assumption) (fun hHeld => ?_)
          clear hKK KK
          refine wpAnyH_take (i := 5) (oi := ⟨some 45, _, _, _, _, _⟩) (v := (.tuple #[.slice pt nt ct, .int .i64 0])) rfl (by kernel_rfl) (by kernel_rfl) (by kernel_rfl) (fun _ _ _ h => h) (Or.inl ⟨by rfl, ?_⟩) (by assumption) ?_
          · intro W hSW; go_simp
          simp only [Act.put, List.setIfInBounds_toArray, List.set_cons_zero, List.set_cons_succ]
          refine wpAnyH_take (i := 6) (oi := ⟨some 51, _, _, _, _, _⟩) (v := (.slice pt nt ct)) rfl (by kernel_rfl) (by kernel_rfl) (by kernel_rfl) (fun _ _ _ h => h) (Or.inl ⟨by rfl, ?_⟩) (by assumption) ?_
          · intro W hSW; go_simp
          simp only [Act.put, List.setIfInBounds_toArray, List.set_cons_zero, List.set_cons_succ]
          refine wpAnyH_take (i := 7) (oi := ⟨some 52, _, _, _, _, _⟩) (v := (.int .i64 0)) rfl (by kernel_rfl) (by kernel_rfl) (by kernel_rfl) (fun _ _ _ h => h) (Or.inl ⟨by rfl, ?_⟩) (by assumption) ?_
          · intro W hSW; go_simp
          simp only [Act.put, List.setIfInBounds_toArray, List.set_cons_zero, List.set_cons_succ]
          refine wpAnyH_take (i := 8) (oi := ⟨some 12, _, _, _, _, _⟩) (v := (.slice pt nt ct)) rfl (by kernel_rfl) (by kernel_rfl) (by kernel_rfl) (fun _ _ _ h => h) (Or.inl ⟨by rfl, ?_⟩) (by assumption) ?_
          · intro W hSW; go_simp
          simp only [Act.put, List.setIfInBounds_toArray, List.set_cons_zero, List.set_cons_succ]
          refine wpAnyH_take (i := 9) (oi := ⟨some 13, _, _, _, _, _⟩) (v := (.int .i64 0)) rfl (by kernel_rfl) (by kernel_rfl) (by kernel_rfl) (fun _ _ _ h => h) (Or.inl ⟨by rfl, ?_⟩) (by assumption) ?_
          · intro W hSW; go_simp
          simp only [Act.put, List.setIfInBounds_toArray, List.set_cons_zero, List.set_cons_succ]
          refine wpAnyH_done (by kernel_rfl) ?_ _
          clear rV0 rV1
          have q0 := (kD z2 y4).1
          have q1 := (kD z2 y4).2
          go_wp2_with fail
          have rW0 : ∀ W, Apart [] z2 W → W.cell? ⟨O, 0, none⟩ = some (.int .i64 dn) := fun W a => (kD W (y4.trans a)).1
          have rW1 : ∀ W, Apart [] z2 W → W.cell? ⟨O, 1, none⟩ = some (.int .i64 dc) := fun W a => (kD W (y4.trans a)).2
          have b1 : Apart [] z2 z2.drew := (Apart.refl _ _).drew
          replace ll := ll.kept0 y4
          clear q0 q1
          refine wp_region_held_drew (S := fun W => Apart [] z2 W) (by kernel_rfl) b1 (fun hHeld => ?_)
          refine wpAnyH_take (i := 0) (oi := ⟨some 53, _, _, _, _, _⟩) (v := (.pointer (some ⟨O, 1, none⟩))) rfl (by kernel_rfl) (by kernel_rfl) (by kernel_rfl) (fun _ _ _ h => h) (Or.inl ⟨by rfl, ?_⟩) (by assumption) ?_
          · intro W hSW; go_simp
          simp only [Act.put, List.setIfInBounds_toArray, List.set_cons_zero, List.set_cons_succ]
          refine wpAnyH_take (i := 1) (oi := ⟨some 54, _, _, _, _, _⟩) (v := (.int .i64 dc)) rfl (by kernel_rfl) (by kernel_rfl) (by kernel_rfl) (fun _ _ _ h => h) (Or.inl ⟨by rfl, ?_⟩) (by assumption) ?_
          · intro W hSW; go_simp
          simp only [Act.put, List.setIfInBounds_toArray, List.set_cons_zero, List.set_cons_succ]
          refine wpAnyH_take (i := 2) (oi := ⟨some 55, _, _, _, _, _⟩) (v := (.slice pl nl cl)) rfl (by kernel_rfl) (by kernel_rfl) (by kernel_rfl) (fun _ _ _ h => h) (Or.inl ⟨by rfl, ?_⟩) (by assumption) ?_
          · intro W hSW; go_simp
          simp only [Act.put, List.setIfInBounds_toArray, List.set_cons_zero, List.set_cons_succ]
          refine wpAnyH_take (i := 3) (oi := ⟨some 56, _, _, _, _, _⟩) (v := (.pointer (some ⟨O, 0, none⟩))) rfl (by kernel_rfl) (by kernel_rfl) (by kernel_rfl) (fun _ _ _ h => h) (Or.inl ⟨by rfl, ?_⟩) (by assumption) ?_
          · intro W hSW; go_simp
          simp only [Act.put, List.setIfInBounds_toArray, List.set_cons_zero, List.set_cons_succ]
          refine wpAnyH_take (i := 4) (oi := ⟨some 57, _, _, _, _, _⟩) (v := (.int .i64 dn)) rfl (by kernel_rfl) (by kernel_rfl) (by kernel_rfl) (fun _ _ _ h => h) (Or.inl ⟨by rfl, ?_⟩) (by assumption) ?_
          · intro W hSW; go_simp
          simp only [Act.put, List.setIfInBounds_toArray, List.set_cons_zero, List.set_cons_succ]
          refine wpAnyH_take (i := 6) (oi := ⟨some 59, _, _, _, _, _⟩) (v := (.int .i64 gap)) rfl (by kernel_rfl) (by kernel_rfl) (by kernel_rfl) (fun _ _ _ h => h) (Or.inl ⟨by rfl, ?_⟩) (by assumption) ?_
          · intro W hSW; go_simp
          simp only [Act.put, List.setIfInBounds_toArray, List.set_cons_zero, List.set_cons_succ]
          refine wpAnyH_ready (rs := [5]) (by kernel_rfl) (by simp) ?_
          refine AllReadyH.cons rfl (fun KK hKK => ?_) AllReadyH.nil
          go_simp
          refine (lowest_ok (ll.kept0 b1) dn y wfy (by omega) hmy).mono ?_
          rintro r z3 ⟨rfl, b2⟩
          dsimp only
          have b3 := b1.trans b2
          refine hKK.out _ _ (by assumption) (fun hHeld => ?_)
          clear hKK KK
          refine wpAnyH_take (i := 7) (oi := ⟨some 60, _, _, _, _, _⟩) (v := (.int .i64 (y.b + 1 + gap))) rfl (by kernel_rfl) (by kernel_rfl) (by kernel_rfl) (fun _ _ _ h => h) (Or.inl ⟨by rfl, ?_⟩) (by assumption) ?_
          · intro W hSW; go_simp
          simp only [Act.put, List.setIfInBounds_toArray, List.set_cons_zero, List.set_cons_succ]
          refine wpAnyH_take (i := 8) (oi := ⟨some 61, _, _, _, _, _⟩) (v := (.bool false)) rfl (by kernel_rfl) (by kernel_rfl) (by kernel_rfl) (fun _ _ _ h => h) (Or.inl ⟨by rfl, ?_⟩) (by assumption) ?_
          · intro W hSW; go_simp
          simp only [Act.put, List.setIfInBounds_toArray, List.set_cons_zero, List.set_cons_succ]
          refine wpAnyH_done (by kernel_rfl) ?_ _
          have q0 := rW0 z3 b3
          have q1 := rW1 z3 b3
          have y5 := y4.trans b3
          clear rW0 rW1
          go_wp2_with fail
          rw [HV.out] at y2 y5
          have H0 := Hinv.out
          have ownT : Own w z3 pt nt ct (addl xs dn dc) := (ownt.from (H0.os.ap.trans y2)).kept b3
          have olT : OwnD w z3 pl nl cl ds := (H0.ol.kept y5)
          have hnlen : Hid (nl = ds.length) := H0.ol.len
          have kadd : OkL gap (addl xs dn dc) := by
            rw [Hdn.out]; exact addl_okb ok hg.1 hg.2 d dc ⟨hdc.1, by omega⟩ (by rw [← Hdn.out]; exact hgapx)
          have kadd64 := kadd.mono hg.2
          have HT : Hid (tot (addl xs dn dc) = nl + (if dot (ofn xs dn) dc then 0 else 1)) := by
            show tot (addl xs dn dc) = nl + (if dot (ofn xs dn) dc then 0 else 1)
            rw [Hdn.out, tot_addl ok hg.1 hg.2 d hd8 dc hdc.1 (by rw [← Hdn.out]; exact hgapx), H0.tt, hnlen.out]
          obtain ⟨va, Hva⟩ : ∃ v, Hid (v = memb ds dn dc) := ⟨_, rfl⟩
          have HD : Hid (va = dot (ofn xs dn) dc) := by
            show va = dot (ofn xs dn) dc
            rw [Hva.out, hmy dc hdc.1, HY.out]
          have hmem := member_ok (cap := cl) (olT.LD (by omega)) dn dc
          rw [← Hva.out] at hmem
          have hcnt := fun W (l : L W pt nt (addl xs dn dc)) => count_ok (cap := ct) l
          simp only [norm_of kadd64] at hcnt
          obtain ⟨m, Hm⟩ : ∃ m, Hid (m = tot (addl xs dn dc)) := ⟨_, rfl⟩
          simp only [← Hm.out] at hcnt
          rw [← HD.out, ← Hm.out] at HT
          have hwn : IntKind.i64.wrap ((nl : Int) + 1) = (nl : Int) + 1 := by rw [IntKind.wrap_i64]; omega
          refine hmem.mono ?_
          rintro r z4 ⟨rfl, b4⟩
          dsimp only
          have lT : L z4 pt nt (addl xs dn dc) := (ownT.kept b4).L (by omega) (kadd.fit hg.2)
          clear hmem ll ls TV hmy
          have y6 := y5.trans b4
          have kD' : ∀ W, Apart [] z4 W → W.cell? ⟨O, 0, none⟩ = some (.int .i64 dn) ∧ W.cell? ⟨O, 1, none⟩ = some (.int .i64 dc) := fun W a => kD W (by rw [HV.out]; exact y6.trans a)
          cases va
          case true =>
            have hmn : m = nl := by have := HT.out; simpa using this
            subst hmn
            have hb1 : ((m : Int) != (m : Int) + 1) = true := by simp; omega
            go_wp2_with fail
            refine (hcnt z4 lT).mono ?_
            rintro r z5 ⟨rfl, b5⟩
            dsimp only
            go_wp2_with fail
            refine (check_yes (lT.kept0 b5) hg kadd).mono ?_
            rintro r z6 ⟨rfl, b6⟩
            dsimp only
            have b7 := b5.trans b6
            go_wp2_with fail
            refine (hcnt z6 (lT.kept0 b7)).mono ?_
            rintro r z7 ⟨rfl, b8⟩
            dsimp only
            have inv2 := H0.again (p2 := pt) (n2 := nt) (c2 := ct) (y6.trans (b7.trans b8)) d hd8 dc hdc hg (by rw [← Hdn.out]; exact hgapx) (by rw [← Hdn.out]; exact (ownT.kept b4).kept (b7.trans b8)) (by rw [← Hdn.out]; exact HD.out.symm)
            rw [← Hdn.out] at inv2
            clear H0 Hinv
            go_wp2
            go_roundw
            case rel => exact ⟨i + 1, by omega, by omega, rfl, pt, nt, ct, _, pl, m, cl, ds, rfl, rfl, inv2⟩
            case measure => simp [intOf]; omega
          case false =>
            have hmn : m = nl + 1 := by have := HT.out; simpa using this
            subst hmn
            go_wp2_with fail
            refine (hcnt z4 lT).mono ?_
            rintro r z5 ⟨rfl, b5⟩
            dsimp only
            have ownT5 := ((ownT.kept b4).kept b5).kept ((Apart.refl [] z5).alloc (.cells #[.int .i64 dn, .int .i64 dc] 35))
            have olT5 := ((olT.kept b4).kept b5).kept ((Apart.refl [] z5).alloc (.cells #[.int .i64 dn, .int .i64 dc] 35))
            obtain ⟨p6, c6, z6, hrun, ol6, own6⟩ := ownd_append olT5 ownT5 (by omega) 30 ⟨z5.heap.size, 0, none⟩ dn dc (by simp [Addr.add]) (by simp [Addr.add])
            have l6 := own6.L (by omega) (kadd.fit hg.2)
            obtain ⟨g0, g1⟩ := kD' z5 b5
            clear ownT5 olT5
            push_cast at hcnt
            go_wp2_with (first | (at_builtin; refine wpList_append3 rfl (.tmp 88) (.tmp 90) 30 rfl _ _ rfl rfl _ _ hrun ?_) | fail)
            refine (check_yes l6 hg kadd).mono ?_
            rintro r z7 ⟨rfl, b7⟩
            dsimp only
            go_wp2_with fail
            refine (hcnt z7 (l6.kept0 b7)).mono ?_
            rintro r z8 ⟨rfl, b8⟩
            dsimp only
            have b9 := b7.trans b8
            have inv2 := H0.more (p2 := pt) (n2 := nt) (c2 := ct) (p3 := p6) (c3 := c6) (w2 := z8) d hd8 dc hdc hg (by rw [← Hdn.out]; exact hgapx) (by rw [← Hdn.out]; exact own6.kept b9) (by rw [← Hdn.out]; exact ol6.kept b9) (by rw [← Hdn.out]; exact HD.out.symm)
            rw [← Hdn.out] at inv2
            clear H0 Hinv
            go_wp2
            go_roundw
            case rel => exact ⟨i + 1, by omega, by omega, rfl, pt, nt, ct, _, p6, nl + 1, c6, _, rfl, rfl, inv2⟩
            case measure => simp [intOf]; omega
    · have ok64 := inv.ok.mono hg.2
      have ls := inv.os.L (by omega) (inv.ok.fit hg.2)
      have ll := inv.ol.LD (by omega)
      have hasall := inv.has hg
      have inv0 : Hid (GInv w wr ps ns cs xs pl nl cl ds gap i) := inv
      clear inv hf
      obtain ⟨w0, Hw0⟩ : ∃ w0, Hid (wr = w0) := ⟨_, rfl⟩
      have aW0 : Apart [] w0 wr := by rw [Hw0.out]; exact Apart.refl _ _
      rw [Hw0.out] at ls ll inv0
      by_cases h1 : i < N
      · have h2 : ¬ i < 120 := fun h => hlt ⟨h1, h⟩
        have h3 : ¬ (i : Int) < 120 := by omega
        clear hlt
        go_wp2_with fail
        go_loopw [15] (fun v wq => ∃ j : Nat, j ≤ nl ∧ v = .int .i64 j ∧ Apart [] w0 wq) (fun v _ => nl - (intOf v).toNat)
        case atStart => exact ⟨0, Nat.zero_le _, rfl, aW0⟩
        case round =>
          obtain ⟨j, hj, rfl, aQ⟩ := hrel
          by_cases hjn : j < nl
          · obtain ⟨P, o, rfl, hP, hc⟩ := (ll.kept0 aQ).at' (by omega)
            obtain ⟨c0, c1⟩ := hc j hjn
            dsimp only at c0 c1
            have hmem : memb ds (ds.getD j (0, 0)).1 (ds.getD j (0, 0)).2 = true := by
              have hjl : j < ds.length := by rw [ll.len]; exact hjn
              unfold memb
              rw [List.any_eq_true]
              refine ⟨ds.getD j (0, 0), ?_, by simp⟩
              rw [List.getD_eq_getElem?_getD, List.getElem?_eq_getElem hjl]
              exact List.getElem_mem hjl
            have hh := hasall (ds.getD j (0, 0)).1 (ds.getD j (0, 0)).2
            rw [hmem] at hh
            obtain ⟨⟨qn, qc⟩, HQ⟩ : ∃ x, Hid (x = ds.getD j (0, 0)) := ⟨_, rfl⟩
            rw [← HQ.out] at c0 c1 hh
            simp only at c0 c1 hh
            have hhas := has_as (cap := cs) qn qc (ls.kept0 aQ) ok64 true hh.symm
            clear hc hmem hh
            go_wp2_with (go_at_call 24; refine hhas.mono ?_; rintro r z1 ⟨rfl, y1⟩)
            go_roundw
            case rel => exact ⟨j + 1, by omega, rfl, aQ.trans y1⟩
            case measure => simp [intOf]; omega
          · go_wp2_with fail
            go_loopw [16] (fun v wz => ∃ j : Nat, j ≤ M ∧ v = .int .i64 j ∧ Apart [] w0 wz) (fun v _ => M - (intOf v).toNat)
            case atStart => exact ⟨0, Nat.zero_le _, rfl, aQ⟩
            case round =>
              clear aQ hjn hj
              obtain ⟨j, hj, rfl, aQ⟩ := hrel
              by_cases hjn : j < M
              · obtain ⟨P, o, rfl, hP, hc⟩ := (hf2.kept0 (inv0.out.os.ap.trans aQ)) (by omega)
                obtain ⟨c0, c1⟩ := hc j hjn
                obtain ⟨⟨qn, qc⟩, HQ⟩ : ∃ x, Hid (x = f2 j) := ⟨_, rfl⟩
                rw [← HQ.out] at c0 c1
                simp only at c0 c1
                clear hc
                obtain ⟨v, HV2⟩ : ∃ v, Hid (v = memb ds qn qc) := ⟨_, rfl⟩
                have HV1 : Hid (v = hasv xs qn qc) := by
                  show v = hasv xs qn qc
                  rw [HV2.out, hasall]
                go_wp2_with fail
                obtain ⟨V, HV⟩ : ∃ V, Hid (V = wr) := ⟨_, rfl⟩
                have rV0 : ∀ W, Apart [] V W → W.cell? ⟨P, o + j * 2, none⟩ = some (.int .i64 qn) := fun W a => by rw [HV.out] at a; exact (a.cell hP (by simp)).trans c0
                have rV1 : ∀ W, Apart [] V W → W.cell? ⟨P, o + j * 2 + 1, none⟩ = some (.int .i64 qc) := fun W a => by rw [HV.out] at a; exact (a.cell hP (by simp)).trans c1
                have aV : Apart [] V wr.drew := by rw [HV.out]; exact (Apart.refl _ _).drew
                rw [← HV.out] at aQ
                clear c0 c1
                refine wp_region_held_drew (S := fun W => Apart [] V W) (by kernel_rfl) aV (fun hHeld => ?_)
                refine wpAnyH_take (i := 0) (oi := ⟨some 123, _, _, _, _, _⟩) (v := (.slice ps ns cs)) rfl (by kernel_rfl) (by kernel_rfl) (by kernel_rfl) (fun _ _ _ h => h) (Or.inl ⟨by rfl, ?_⟩) (by assumption) ?_
                · intro W hSW; go_simp
                simp only [Act.put, List.setIfInBounds_toArray, List.set_cons_zero, List.set_cons_succ]
                refine wpAnyH_take (i := 1) (oi := ⟨some 124, _, _, _, _, _⟩) (v := (.slice (some ⟨P, o, none⟩) M cb)) rfl (by kernel_rfl) (by kernel_rfl) (by kernel_rfl) (fun _ _ _ h => h) (Or.inl ⟨by rfl, ?_⟩) (by assumption) ?_
                · intro W hSW; go_simp
                simp only [Act.put, List.setIfInBounds_toArray, List.set_cons_zero, List.set_cons_succ]
                refine wpAnyH_take (i := 2) (oi := ⟨some 125, _, _, _, _, _⟩) (v := (.int .i64 (j : Int))) rfl (by kernel_rfl) (by kernel_rfl) (by kernel_rfl) (fun _ _ _ h => h) (Or.inl ⟨by rfl, ?_⟩) (by assumption) ?_
                · intro W hSW; go_simp
                simp only [Act.put, List.setIfInBounds_toArray, List.set_cons_zero, List.set_cons_succ]
                refine wpAnyH_take (i := 3) (oi := ⟨some 126, _, _, _, _, _⟩) (v := (.pointer (some ⟨P, o + j * 2, none⟩))) rfl (by kernel_rfl) (by kernel_rfl) (by kernel_rfl) (fun _ _ _ h => h) (Or.inl ⟨by rfl, ?_⟩) (by assumption) ?_
                · intro W hSW; go_simp
                simp only [Act.put, List.setIfInBounds_toArray, List.set_cons_zero, List.set_cons_succ]
                refine wpAnyH_take (i := 4) (oi := ⟨some 127, _, _, _, _, _⟩) (v := (.agg #[.int .i64 qn, .int .i64 qc])) rfl (by kernel_rfl) (by kernel_rfl) (by kernel_rfl) (fun _ _ _ h => h) (Or.inl ⟨by rfl, ?_⟩) (by assumption) ?_
                · intro W hSW; go_simp
                simp only [Act.put, List.setIfInBounds_toArray, List.set_cons_zero, List.set_cons_succ]
                refine wpAnyH_take (i := 6) (oi := ⟨some 129, _, _, _, _, _⟩) (v := (.slice pl nl cl)) rfl (by kernel_rfl) (by kernel_rfl) (by kernel_rfl) (fun _ _ _ h => h) (Or.inl ⟨by rfl, ?_⟩) (by assumption) ?_
                · intro W hSW; go_simp
                simp only [Act.put, List.setIfInBounds_toArray, List.set_cons_zero, List.set_cons_succ]
                refine wpAnyH_take (i := 7) (oi := ⟨some 130, _, _, _, _, _⟩) (v := (.slice (some ⟨P, o, none⟩) M cb)) rfl (by kernel_rfl) (by kernel_rfl) (by kernel_rfl) (fun _ _ _ h => h) (Or.inl ⟨by rfl, ?_⟩) (by assumption) ?_
                · intro W hSW; go_simp
                simp only [Act.put, List.setIfInBounds_toArray, List.set_cons_zero, List.set_cons_succ]
                refine wpAnyH_take (i := 8) (oi := ⟨some 131, _, _, _, _, _⟩) (v := (.int .i64 (j : Int))) rfl (by kernel_rfl) (by kernel_rfl) (by kernel_rfl) (fun _ _ _ h => h) (Or.inl ⟨by rfl, ?_⟩) (by assumption) ?_
                · intro W hSW; go_simp
                simp only [Act.put, List.setIfInBounds_toArray, List.set_cons_zero, List.set_cons_succ]
                refine wpAnyH_take (i := 9) (oi := ⟨some 132, _, _, _, _, _⟩) (v := (.pointer (some ⟨P, o + j * 2, none⟩))) rfl (by kernel_rfl) (by kernel_rfl) (by kernel_rfl) (fun _ _ _ h => h) (Or.inl ⟨by rfl, ?_⟩) (by assumption) ?_
                · intro W hSW; go_simp
                simp only [Act.put, List.setIfInBounds_toArray, List.set_cons_zero, List.set_cons_succ]
                refine wpAnyH_take (i := 10) (oi := ⟨some 133, _, _, _, _, _⟩) (v := (.agg #[.int .i64 qn, .int .i64 qc])) rfl (by kernel_rfl) (by kernel_rfl) (by kernel_rfl) (fun _ _ _ h => h) (Or.inl ⟨by rfl, ?_⟩) (by assumption) ?_
                · intro W hSW; go_simp
                simp only [Act.put, List.setIfInBounds_toArray, List.set_cons_zero, List.set_cons_succ]
                refine wpAnyH_ready (rs := [5]) (by kernel_rfl) (by simp) ?_
                refine AllReadyH.cons rfl (fun KK hKK => ?_) AllReadyH.nil
                go_simp
                refine (has_as qn qc ((ls.kept0 aQ).kept0 aV) ok64 v HV1.out).mono ?_
                rintro r z1 ⟨rfl, y1⟩
                dsimp only
                have y2 := aV.trans y1
                refine hKK.out _ _ (by assumption) (fun hHeld => ?_)
                clear hKK KK
                refine wpAnyH_ready (rs := [11]) (by kernel_rfl) (by simp) ?_
                refine AllReadyH.cons rfl (fun KK hKK => ?_) AllReadyH.nil
                go_simp
                have hmm := member_ok (cap := cl) ((ll.kept0 aQ).kept0 y2) qn qc
                rw [← HV2.out] at hmm
                refine hmm.mono ?_
                rintro r z2 ⟨rfl, y3⟩
                dsimp only
                clear hmm
                have y4 := y2.trans y3
                refine hKK.out _ _ (by assumption) (fun hHeld => ?_)
                clear hKK KK
                refine wpAnyH_take (i := 12) (oi := ⟨some 135, _, _, _, _, _⟩) (v := (.bool false)) rfl (by kernel_rfl) (by kernel_rfl) (by kernel_rfl) (fun _ _ _ h => h) (Or.inl ⟨by rfl, ?_⟩) (by assumption) ?_
                · intro W hSW; go_simp
                simp only [Act.put, List.setIfInBounds_toArray, List.set_cons_zero, List.set_cons_succ]
                refine wpAnyH_done (by kernel_rfl) ?_ _
                have y9 := aQ.trans y4
                clear rV0 rV1
                go_wp2
                go_roundw
                case rel => exact ⟨j + 1, by omega, rfl, y9⟩
                case measure => simp [intOf]; omega
              · go_wp2
                go_ret
                exact ⟨rfl, inv0.out.os.ap.trans aQ⟩
      · clear hlt
        go_wp2_with fail
        go_loopw [15] (fun v wq => ∃ j : Nat, j ≤ nl ∧ v = .int .i64 j ∧ Apart [] w0 wq) (fun v _ => nl - (intOf v).toNat)
        case atStart => exact ⟨0, Nat.zero_le _, rfl, aW0⟩
        case round =>
          obtain ⟨j, hj, rfl, aQ⟩ := hrel
          by_cases hjn : j < nl
          · obtain ⟨P, o, rfl, hP, hc⟩ := (ll.kept0 aQ).at' (by omega)
            obtain ⟨c0, c1⟩ := hc j hjn
            dsimp only at c0 c1
            have hmem : memb ds (ds.getD j (0, 0)).1 (ds.getD j (0, 0)).2 = true := by
              have hjl : j < ds.length := by rw [ll.len]; exact hjn
              unfold memb
              rw [List.any_eq_true]
              refine ⟨ds.getD j (0, 0), ?_, by simp⟩
              rw [List.getD_eq_getElem?_getD, List.getElem?_eq_getElem hjl]
              exact List.getElem_mem hjl
            have hh := hasall (ds.getD j (0, 0)).1 (ds.getD j (0, 0)).2
            rw [hmem] at hh
            obtain ⟨⟨qn, qc⟩, HQ⟩ : ∃ x, Hid (x = ds.getD j (0, 0)) := ⟨_, rfl⟩
            rw [← HQ.out] at c0 c1 hh
            simp only at c0 c1 hh
            have hhas := has_as (cap := cs) qn qc (ls.kept0 aQ) ok64 true hh.symm
            clear hc hmem hh
            go_wp2_with (go_at_call 24; refine hhas.mono ?_; rintro r z1 ⟨rfl, y1⟩)
            go_roundw
            case rel => exact ⟨j + 1, by omega, rfl, aQ.trans y1⟩
            case measure => simp [intOf]; omega
          · go_wp2_with fail
            go_loopw [16] (fun v wz => ∃ j : Nat, j ≤ M ∧ v = .int .i64 j ∧ Apart [] w0 wz) (fun v _ => M - (intOf v).toNat)
            case atStart => exact ⟨0, Nat.zero_le _, rfl, aQ⟩
            case round =>
              clear aQ hjn hj
              obtain ⟨j, hj, rfl, aQ⟩ := hrel
              by_cases hjn : j < M
              · obtain ⟨P, o, rfl, hP, hc⟩ := (hf2.kept0 (inv0.out.os.ap.trans aQ)) (by omega)
                obtain ⟨c0, c1⟩ := hc j hjn
                obtain ⟨⟨qn, qc⟩, HQ⟩ : ∃ x, Hid (x = f2 j) := ⟨_, rfl⟩
                rw [← HQ.out] at c0 c1
                simp only at c0 c1
                clear hc
                obtain ⟨v, HV2⟩ : ∃ v, Hid (v = memb ds qn qc) := ⟨_, rfl⟩
                have HV1 : Hid (v = hasv xs qn qc) := by
                  show v = hasv xs qn qc
                  rw [HV2.out, hasall]
                go_wp2_with fail
                obtain ⟨V, HV⟩ : ∃ V, Hid (V = wr) := ⟨_, rfl⟩
                have rV0 : ∀ W, Apart [] V W → W.cell? ⟨P, o + j * 2, none⟩ = some (.int .i64 qn) := fun W a => by rw [HV.out] at a; exact (a.cell hP (by simp)).trans c0
                have rV1 : ∀ W, Apart [] V W → W.cell? ⟨P, o + j * 2 + 1, none⟩ = some (.int .i64 qc) := fun W a => by rw [HV.out] at a; exact (a.cell hP (by simp)).trans c1
                have aV : Apart [] V wr.drew := by rw [HV.out]; exact (Apart.refl _ _).drew
                rw [← HV.out] at aQ
                clear c0 c1
                refine wp_region_held_drew (S := fun W => Apart [] V W) (by kernel_rfl) aV (fun hHeld => ?_)
                refine wpAnyH_take (i := 0) (oi := ⟨some 123, _, _, _, _, _⟩) (v := (.slice ps ns cs)) rfl (by kernel_rfl) (by kernel_rfl) (by kernel_rfl) (fun _ _ _ h => h) (Or.inl ⟨by rfl, ?_⟩) (by assumption) ?_
                · intro W hSW; go_simp
                simp only [Act.put, List.setIfInBounds_toArray, List.set_cons_zero, List.set_cons_succ]
                refine wpAnyH_take (i := 1) (oi := ⟨some 124, _, _, _, _, _⟩) (v := (.slice (some ⟨P, o, none⟩) M cb)) rfl (by kernel_rfl) (by kernel_rfl) (by kernel_rfl) (fun _ _ _ h => h) (Or.inl ⟨by rfl, ?_⟩) (by assumption) ?_
                · intro W hSW; go_simp
                simp only [Act.put, List.setIfInBounds_toArray, List.set_cons_zero, List.set_cons_succ]
                refine wpAnyH_take (i := 2) (oi := ⟨some 125, _, _, _, _, _⟩) (v := (.int .i64 (j : Int))) rfl (by kernel_rfl) (by kernel_rfl) (by kernel_rfl) (fun _ _ _ h => h) (Or.inl ⟨by rfl, ?_⟩) (by assumption) ?_
                · intro W hSW; go_simp
                simp only [Act.put, List.setIfInBounds_toArray, List.set_cons_zero, List.set_cons_succ]
                refine wpAnyH_take (i := 3) (oi := ⟨some 126, _, _, _, _, _⟩) (v := (.pointer (some ⟨P, o + j * 2, none⟩))) rfl (by kernel_rfl) (by kernel_rfl) (by kernel_rfl) (fun _ _ _ h => h) (Or.inl ⟨by rfl, ?_⟩) (by assumption) ?_
                · intro W hSW; go_simp
                simp only [Act.put, List.setIfInBounds_toArray, List.set_cons_zero, List.set_cons_succ]
                refine wpAnyH_take (i := 4) (oi := ⟨some 127, _, _, _, _, _⟩) (v := (.agg #[.int .i64 qn, .int .i64 qc])) rfl (by kernel_rfl) (by kernel_rfl) (by kernel_rfl) (fun _ _ _ h => h) (Or.inl ⟨by rfl, ?_⟩) (by assumption) ?_
                · intro W hSW; go_simp
                simp only [Act.put, List.setIfInBounds_toArray, List.set_cons_zero, List.set_cons_succ]
                refine wpAnyH_take (i := 6) (oi := ⟨some 129, _, _, _, _, _⟩) (v := (.slice pl nl cl)) rfl (by kernel_rfl) (by kernel_rfl) (by kernel_rfl) (fun _ _ _ h => h) (Or.inl ⟨by rfl, ?_⟩) (by assumption) ?_
                · intro W hSW; go_simp
                simp only [Act.put, List.setIfInBounds_toArray, List.set_cons_zero, List.set_cons_succ]
                refine wpAnyH_take (i := 7) (oi := ⟨some 130, _, _, _, _, _⟩) (v := (.slice (some ⟨P, o, none⟩) M cb)) rfl (by kernel_rfl) (by kernel_rfl) (by kernel_rfl) (fun _ _ _ h => h) (Or.inl ⟨by rfl, ?_⟩) (by assumption) ?_
                · intro W hSW; go_simp
                simp only [Act.put, List.setIfInBounds_toArray, List.set_cons_zero, List.set_cons_succ]
                refine wpAnyH_take (i := 8) (oi := ⟨some 131, _, _, _, _, _⟩) (v := (.int .i64 (j : Int))) rfl (by kernel_rfl) (by kernel_rfl) (by kernel_rfl) (fun _ _ _ h => h) (Or.inl ⟨by rfl, ?_⟩) (by assumption) ?_
                · intro W hSW; go_simp
                simp only [Act.put, List.setIfInBounds_toArray, List.set_cons_zero, List.set_cons_succ]
                refine wpAnyH_take (i := 9) (oi := ⟨some 132, _, _, _, _, _⟩) (v := (.pointer (some ⟨P, o + j * 2, none⟩))) rfl (by kernel_rfl) (by kernel_rfl) (by kernel_rfl) (fun _ _ _ h => h) (Or.inl ⟨by rfl, ?_⟩) (by assumption) ?_
                · intro W hSW; go_simp
                simp only [Act.put, List.setIfInBounds_toArray, List.set_cons_zero, List.set_cons_succ]
                refine wpAnyH_take (i := 10) (oi := ⟨some 133, _, _, _, _, _⟩) (v := (.agg #[.int .i64 qn, .int .i64 qc])) rfl (by kernel_rfl) (by kernel_rfl) (by kernel_rfl) (fun _ _ _ h => h) (Or.inl ⟨by rfl, ?_⟩) (by assumption) ?_
                · intro W hSW; go_simp
                simp only [Act.put, List.setIfInBounds_toArray, List.set_cons_zero, List.set_cons_succ]
                refine wpAnyH_ready (rs := [5]) (by kernel_rfl) (by simp) ?_
                refine AllReadyH.cons rfl (fun KK hKK => ?_) AllReadyH.nil
                go_simp
                refine (has_as qn qc ((ls.kept0 aQ).kept0 aV) ok64 v HV1.out).mono ?_
                rintro r z1 ⟨rfl, y1⟩
                dsimp only
                have y2 := aV.trans y1
                refine hKK.out _ _ (by assumption) (fun hHeld => ?_)
                clear hKK KK
                refine wpAnyH_ready (rs := [11]) (by kernel_rfl) (by simp) ?_
                refine AllReadyH.cons rfl (fun KK hKK => ?_) AllReadyH.nil
                go_simp
                have hmm := member_ok (cap := cl) ((ll.kept0 aQ).kept0 y2) qn qc
                rw [← HV2.out] at hmm
                refine hmm.mono ?_
                rintro r z2 ⟨rfl, y3⟩
                dsimp only
                clear hmm
                have y4 := y2.trans y3
                refine hKK.out _ _ (by assumption) (fun hHeld => ?_)
                clear hKK KK
                refine wpAnyH_take (i := 12) (oi := ⟨some 135, _, _, _, _, _⟩) (v := (.bool false)) rfl (by kernel_rfl) (by kernel_rfl) (by kernel_rfl) (fun _ _ _ h => h) (Or.inl ⟨by rfl, ?_⟩) (by assumption) ?_
                · intro W hSW; go_simp
                simp only [Act.put, List.setIfInBounds_toArray, List.set_cons_zero, List.set_cons_succ]
                refine wpAnyH_done (by kernel_rfl) ?_ _
                have y9 := aQ.trans y4
                clear rV0 rV1
                go_wp2
                go_roundw
                case rel => exact ⟨j + 1, by omega, rfl, y9⟩
                case measure => simp [intOf]; omega
              · go_wp2
                go_ret
                exact ⟨rfl, inv0.out.os.ap.trans aQ⟩
end Go.Proofs.YtpidoipehpnohaaDoor.ds
