import Derived.Test.YtiakcfjbnlibfaaU2
namespace Go.Proofs.Ytiakcfjbnlibfaa.nt
open Go.ChangeShapes Go.WideShapes Go.ChangeAt Go.RowKit
set_option linter.unusedVariables false
set_option linter.unusedSimpArgs false
structure ApE (w W : World) (p : Px) (who : Nat → Option Nat) : Prop where
  ex : ∃ L N, Ap w W p who L N
set_option maxHeartbeats 8000000 in
set_option maxRecDepth 100000 in
theorem apart_ok {wa w : World} {P : Nat} {p : Px} {who : Nat → Option Nat} (h : PQ wa w P p who p.x.cof) (hb : p.x.lf.length ≤ 4000) (hn : p.x.nm.length ≤ 4000) (hle : ∀ e ∈ p.x.lf, e.1.n ≤ 2000000) (hne : ∀ e ∈ p.x.nm, e.2.1.length ≤ 100000) : Calls Try.prog 27 #[.pointer (some ⟨P, 0, none⟩)] w fun r w' => r = .returned (.bool true) ∧ Stp w w' who who none := by
  have HH := hid h
  have HLE := hid hle
  have HNE := hid hne
  clear h hle hne
  have HL8 : Hid ((p.x.cof 8).length = p.x.lf.length) := by show _ = _; simp [Sx.cof]
  have HL9 : Hid ((p.x.cof 9).length = p.x.lf.length) := by show _ = _; simp [Sx.cof]
  have HL10 : Hid ((p.x.cof 10).length = p.x.nm.length) := by show _ = _; simp [Sx.cof]
  have HL11 : Hid ((p.x.cof 11).length = p.x.nm.length) := by show _ = _; simp [Sx.cof]
  obtain ⟨q8, kq8, hq8⟩ := Ap.lenU HH.out 8 (by decide)
  rw [HL8.out] at hq8
  obtain ⟨q10, kq10, hq10⟩ := Ap.lenU HH.out 10 (by decide)
  rw [HL10.out] at hq10
  have HQ8 := hid hq8
  have HQ10 := hid hq10
  clear hq8 hq10
  go_enter Try.func27, Try.ntmps27
  go_wp2_with fail
  go_loopw [3] (fun v wr => ∃ i : Nat, v = .int .i64 (i : Nat) ∧ i ≤ p.x.lf.length ∧ A1 w wr p who) (fun v _ => p.x.lf.length - (intOf v).toNat)
  case atStart => exact ⟨0, rfl, Nat.zero_le _, ⟨Ap.start HH.out⟩⟩
  case round =>
    obtain ⟨i, rfl, hi, ai⟩ := hrel
    have HA := hid ai
    have c8 := HQ8.out wr _ _ ai.a
    clear ai
    by_cases hlt : i < p.x.lf.length
    · have hz : ((i : Nat) : Int) < ((p.x.lf.length : Nat) : Int) := by omega
      obtain ⟨e, he⟩ : ∃ e, p.x.lf[i]? = some e := ⟨_, List.getElem?_eq_getElem hlt⟩
      obtain ⟨⟨ep, en, ec⟩, eb⟩ := e
      obtain ⟨g8, o8, k8, h8⟩ := Ap.fldU HH.out 8 (by decide) i (.slice ep en ec) (by simp [Sx.cof, he, Sl.v])
      obtain ⟨g9, o9, k9, h9⟩ := Ap.fldU HH.out 9 (by decide) i (.string (strB eb)) (by simp [Sx.cof, he])
      rw [HL8.out] at h8
      rw [HL9.out] at h9
      have HX : Hid (∀ W, A1 w W p who → W.cell? ⟨P, 8, none⟩ = some (.slice (some ⟨g8, o8, none⟩) p.x.lf.length k8) ∧ W.cell? ⟨g8, o8 + i, none⟩ = some (.slice ep en ec) ∧ W.cell? ⟨P, 9, none⟩ = some (.slice (some ⟨g9, o9, none⟩) p.x.lf.length k9) ∧ W.cell? ⟨g9, o9 + i, none⟩ = some (.string (strB eb)) ∧ Sem.run Try.prog (convert 28 9 (.slice ep en ec)) W = .ok (.string (strB eb)) W) := fun W a => by
        refine ⟨(h8 W _ _ a.a).1, (h8 W _ _ a.a).2, (h9 W _ _ a.a).1, (h9 W _ _ a.a).2, ?_⟩
        have ho := (a.a.lf i _ he).o
        simp only [lfv, he] at ho
        obtain ⟨r1, r2, r3⟩ := own_rd ho
        exact conv_bytes (s := ⟨ep, en, ec⟩) r1 (by simpa [byts] using r2) r3
      have hS : A1 w wr.drew p who := ⟨HA.out.a.kept0 (Apart.refl [] wr).drew⟩
      clear h8 h9 he
      go_wp2_with fail
      refine wp_region_held_drew (S := fun X => A1 w X p who) (by kernel_rfl) hS (fun hHeld => ?_)
      refine wpAnyH_take (i := 0) (oi := ⟨some 21, _, _, _, _, _⟩) (v := (.pointer (some ⟨P, 0, none⟩))) rfl (by kernel_rfl) (by kernel_rfl) (by kernel_rfl) (fun _ _ _ h => h) (Or.inl ⟨by rfl, ?_⟩) (by assumption) ?_
      · intro W hSW; go_simp
      simp only [Act.put, List.setIfInBounds_toArray, List.set_cons_zero, List.set_cons_succ]
      refine wpAnyH_take (i := 1) (oi := ⟨some 22, _, _, _, _, _⟩) (v := (.pointer (some ⟨P, 0, none⟩))) rfl (by kernel_rfl) (by kernel_rfl) (by kernel_rfl) (fun _ _ _ h => h) (Or.inl ⟨by rfl, ?_⟩) (by assumption) ?_
      · intro W hSW; go_simp
      simp only [Act.put, List.setIfInBounds_toArray, List.set_cons_zero, List.set_cons_succ]
      refine wpAnyH_take (i := 2) (oi := ⟨some 23, _, _, _, _, _⟩) (v := (.pointer (some ⟨P, 8, none⟩))) rfl (by kernel_rfl) (by kernel_rfl) (by kernel_rfl) (fun _ _ _ h => h) (Or.inl ⟨by rfl, ?_⟩) (by assumption) ?_
      · intro W hSW; go_simp
      simp only [Act.put, List.setIfInBounds_toArray, List.set_cons_zero, List.set_cons_succ]
      refine wpAnyH_take (i := 3) (oi := ⟨some 24, _, _, _, _, _⟩) (v := (.slice (some ⟨g8, o8, none⟩) p.x.lf.length k8)) rfl (by kernel_rfl) (by kernel_rfl) (by kernel_rfl) (fun _ _ _ h => h) (Or.inl ⟨by rfl, ?_⟩) (by assumption) ?_
      · intro W hSW; obtain ⟨v1, v2, v3, v4, v5⟩ := HX.out W hSW; go_simp
      simp only [Act.put, List.setIfInBounds_toArray, List.set_cons_zero, List.set_cons_succ]
      refine wpAnyH_take (i := 4) (oi := ⟨some 25, _, _, _, _, _⟩) (v := (.int .i64 ((i : Nat) : Int))) rfl (by kernel_rfl) (by kernel_rfl) (by kernel_rfl) (fun _ _ _ h => h) (Or.inl ⟨by rfl, ?_⟩) (by assumption) ?_
      · intro W hSW; go_simp
      simp only [Act.put, List.setIfInBounds_toArray, List.set_cons_zero, List.set_cons_succ]
      refine wpAnyH_take (i := 5) (oi := ⟨some 26, _, _, _, _, _⟩) (v := (.pointer (some ⟨g8, o8 + i, none⟩))) rfl (by kernel_rfl) (by kernel_rfl) (by kernel_rfl) (fun _ _ _ h => h) (Or.inl ⟨by rfl, ?_⟩) (by assumption) ?_
      · intro W hSW; go_simp
      simp only [Act.put, List.setIfInBounds_toArray, List.set_cons_zero, List.set_cons_succ]
      refine wpAnyH_take (i := 6) (oi := ⟨some 27, _, _, _, _, _⟩) (v := (.slice ep en ec)) rfl (by kernel_rfl) (by kernel_rfl) (by kernel_rfl) (fun _ _ _ h => h) (Or.inl ⟨by rfl, ?_⟩) (by assumption) ?_
      · intro W hSW; obtain ⟨v1, v2, v3, v4, v5⟩ := HX.out W hSW; go_simp
      simp only [Act.put, List.setIfInBounds_toArray, List.set_cons_zero, List.set_cons_succ]
      refine wpAnyH_take (i := 7) (oi := ⟨some 28, _, _, _, _, _⟩) (v := (.string (strB eb))) rfl (by kernel_rfl) (by kernel_rfl) (by kernel_rfl) (fun _ _ _ h => h) (Or.inl ⟨by rfl, ?_⟩) (by assumption) ?_
      · intro W hSW; obtain ⟨v1, v2, v3, v4, v5⟩ := HX.out W hSW; go_simp
      simp only [Act.put, List.setIfInBounds_toArray, List.set_cons_zero, List.set_cons_succ]
      refine wpAnyH_take (i := 8) (oi := ⟨some 29, _, _, _, _, _⟩) (v := (.pointer (some ⟨P, 0, none⟩))) rfl (by kernel_rfl) (by kernel_rfl) (by kernel_rfl) (fun _ _ _ h => h) (Or.inl ⟨by rfl, ?_⟩) (by assumption) ?_
      · intro W hSW; go_simp
      simp only [Act.put, List.setIfInBounds_toArray, List.set_cons_zero, List.set_cons_succ]
      refine wpAnyH_take (i := 9) (oi := ⟨some 30, _, _, _, _, _⟩) (v := (.pointer (some ⟨P, 0, none⟩))) rfl (by kernel_rfl) (by kernel_rfl) (by kernel_rfl) (fun _ _ _ h => h) (Or.inl ⟨by rfl, ?_⟩) (by assumption) ?_
      · intro W hSW; go_simp
      simp only [Act.put, List.setIfInBounds_toArray, List.set_cons_zero, List.set_cons_succ]
      refine wpAnyH_take (i := 10) (oi := ⟨some 31, _, _, _, _, _⟩) (v := (.pointer (some ⟨P, 9, none⟩))) rfl (by kernel_rfl) (by kernel_rfl) (by kernel_rfl) (fun _ _ _ h => h) (Or.inl ⟨by rfl, ?_⟩) (by assumption) ?_
      · intro W hSW; go_simp
      simp only [Act.put, List.setIfInBounds_toArray, List.set_cons_zero, List.set_cons_succ]
      refine wpAnyH_take (i := 11) (oi := ⟨some 32, _, _, _, _, _⟩) (v := (.slice (some ⟨g9, o9, none⟩) p.x.lf.length k9)) rfl (by kernel_rfl) (by kernel_rfl) (by kernel_rfl) (fun _ _ _ h => h) (Or.inl ⟨by rfl, ?_⟩) (by assumption) ?_
      · intro W hSW; obtain ⟨v1, v2, v3, v4, v5⟩ := HX.out W hSW; go_simp
      simp only [Act.put, List.setIfInBounds_toArray, List.set_cons_zero, List.set_cons_succ]
      refine wpAnyH_take (i := 12) (oi := ⟨some 33, _, _, _, _, _⟩) (v := (.int .i64 ((i : Nat) : Int))) rfl (by kernel_rfl) (by kernel_rfl) (by kernel_rfl) (fun _ _ _ h => h) (Or.inl ⟨by rfl, ?_⟩) (by assumption) ?_
      · intro W hSW; go_simp
      simp only [Act.put, List.setIfInBounds_toArray, List.set_cons_zero, List.set_cons_succ]
      refine wpAnyH_take (i := 13) (oi := ⟨some 34, _, _, _, _, _⟩) (v := (.pointer (some ⟨g9, o9 + i, none⟩))) rfl (by kernel_rfl) (by kernel_rfl) (by kernel_rfl) (fun _ _ _ h => h) (Or.inl ⟨by rfl, ?_⟩) (by assumption) ?_
      · intro W hSW; go_simp
      simp only [Act.put, List.setIfInBounds_toArray, List.set_cons_zero, List.set_cons_succ]
      refine wpAnyH_take (i := 14) (oi := ⟨some 35, _, _, _, _, _⟩) (v := (.string (strB eb))) rfl (by kernel_rfl) (by kernel_rfl) (by kernel_rfl) (fun _ _ _ h => h) (Or.inl ⟨by rfl, ?_⟩) (by assumption) ?_
      · intro W hSW; obtain ⟨v1, v2, v3, v4, v5⟩ := HX.out W hSW; go_simp
      simp only [Act.put, List.setIfInBounds_toArray, List.set_cons_zero, List.set_cons_succ]
      refine wpAnyH_take (i := 15) (oi := ⟨some 36, _, _, _, _, _⟩) (v := (.bool false)) rfl (by kernel_rfl) (by kernel_rfl) (by kernel_rfl) (fun _ _ _ h => h) (Or.inl ⟨by rfl, ?_⟩) (by assumption) ?_
      · intro W hSW; go_simp
      simp only [Act.put, List.setIfInBounds_toArray, List.set_cons_zero, List.set_cons_succ]
      refine wpAnyH_done (by kernel_rfl) ?_ _
      clear hHeld
      go_wp2_with fail
      go_roundw
      case rel => exact ⟨i + 1, by go_num, by omega, hS⟩
      case measure => simp [intOf]; omega
    · obtain rfl : i = p.x.lf.length := by omega
      go_wp2_with fail
      clear c8
      go_loopw [4] (fun v wr => ∃ i : Nat, v = .int .i64 (i : Nat) ∧ i ≤ p.x.nm.length ∧ A2 w wr p who i) (fun v _ => p.x.nm.length - (intOf v).toNat)
      case atStart => exact ⟨0, rfl, Nat.zero_le _, ⟨_, HA.out.a, ⟨fun k hk => by omega, fun k hk => rfl⟩⟩⟩
      case round =>
        clear HA hi
        obtain ⟨i, rfl, hi, ai⟩ := hrel
        have HA := hid ai
        have c10 : wr.cell? ⟨P, 10, none⟩ = some (.slice q10 p.x.nm.length kq10) := by obtain ⟨N, hA, _⟩ := ai.ex; exact HQ10.out wr _ _ hA
        clear ai
        by_cases hlt : i < p.x.nm.length
        · have hz : ((i : Nat) : Int) < ((p.x.nm.length : Nat) : Int) := by omega
          obtain ⟨e, he⟩ : ∃ e, p.x.nm[i]? = some e := ⟨_, List.getElem?_eq_getElem hlt⟩
          obtain ⟨⟨ep, en, ec⟩, eb, ⟨fp, fn, fc⟩⟩ := e
          obtain ⟨g10, o10, k10, h10⟩ := Ap.fldU HH.out 10 (by decide) i (.slice ep en ec) (by simp [Sx.cof, he, Sl.v])
          obtain ⟨g11, o11, k11, h11⟩ := Ap.fldU HH.out 11 (by decide) i (.slice fp fn fc) (by simp [Sx.cof, he, Sl.v])
          rw [HL10.out] at h10
          rw [HL11.out] at h11
          have HX : Hid (∀ W L N, Ap w W p who L N → W.cell? ⟨P, 10, none⟩ = some (.slice (some ⟨g10, o10, none⟩) p.x.nm.length k10) ∧ W.cell? ⟨g10, o10 + i, none⟩ = some (.slice ep en ec) ∧ W.cell? ⟨P, 11, none⟩ = some (.slice (some ⟨g11, o11, none⟩) p.x.nm.length k11) ∧ W.cell? ⟨g11, o11 + i, none⟩ = some (.slice fp fn fc)) := fun W L N a => ⟨(h10 W _ _ a).1, (h10 W _ _ a).2, (h11 W _ _ a).1, (h11 W _ _ a).2⟩
          have HE := hid he
          have hS : A2 w wr.drew p who i := by obtain ⟨N, hA, hN⟩ := HA.out.ex; exact ⟨N, hA.kept0 (Apart.refl [] wr).drew, hN⟩
          have hcall : Calls Try.prog 42 #[.slice ep en ec, .slice fp fn fc] wr.drew fun r w' => r = .returned (.bool true) ∧ Apart [] wr.drew w' := by
            obtain ⟨N, hA, hN⟩ := hS.ex
            have ho := (hA.nm i _ he).o
            rw [hN.rest i (Nat.le_refl _)] at ho
            simp only [nmv, he] at ho
            have hw := (hA.wore HH.out he).o
            obtain ⟨r1, r2, r3⟩ := own_rd ho
            obtain ⟨s1, s2, s3⟩ := own_rd hw
            exact same_yes ⟨ep, en, ec⟩ ⟨fp, fn, fc⟩ eb wr.drew r1 s1 (by simpa [nums] using r2) (by simpa [nums] using s2) (HNE.out _ (List.mem_of_getElem? he))
          clear h10 h11 he
          go_wp2_with fail
          refine wp_region_held_drew (S := fun X => A2 w X p who i) (by kernel_rfl) hS (fun hHeld => ?_)
          refine wpAnyH_take (i := 0) (oi := ⟨some 46, _, _, _, _, _⟩) (v := (.pointer (some ⟨P, 0, none⟩))) rfl (by kernel_rfl) (by kernel_rfl) (by kernel_rfl) (fun _ _ _ h => h) (Or.inl ⟨by rfl, ?_⟩) (by assumption) ?_
          · intro W hSW; go_simp
          simp only [Act.put, List.setIfInBounds_toArray, List.set_cons_zero, List.set_cons_succ]
          refine wpAnyH_take (i := 1) (oi := ⟨some 47, _, _, _, _, _⟩) (v := (.pointer (some ⟨P, 0, none⟩))) rfl (by kernel_rfl) (by kernel_rfl) (by kernel_rfl) (fun _ _ _ h => h) (Or.inl ⟨by rfl, ?_⟩) (by assumption) ?_
          · intro W hSW; go_simp
          simp only [Act.put, List.setIfInBounds_toArray, List.set_cons_zero, List.set_cons_succ]
          refine wpAnyH_take (i := 2) (oi := ⟨some 48, _, _, _, _, _⟩) (v := (.pointer (some ⟨P, 10, none⟩))) rfl (by kernel_rfl) (by kernel_rfl) (by kernel_rfl) (fun _ _ _ h => h) (Or.inl ⟨by rfl, ?_⟩) (by assumption) ?_
          · intro W hSW; go_simp
          simp only [Act.put, List.setIfInBounds_toArray, List.set_cons_zero, List.set_cons_succ]
          refine wpAnyH_take (i := 3) (oi := ⟨some 49, _, _, _, _, _⟩) (v := (.slice (some ⟨g10, o10, none⟩) p.x.nm.length k10)) rfl (by kernel_rfl) (by kernel_rfl) (by kernel_rfl) (fun _ _ _ h => h) (Or.inl ⟨by rfl, ?_⟩) (by assumption) ?_
          · intro W hSW; obtain ⟨N, hA, _⟩ := hSW.ex; obtain ⟨v1, v2, v3, v4⟩ := HX.out W _ _ hA; go_simp
          simp only [Act.put, List.setIfInBounds_toArray, List.set_cons_zero, List.set_cons_succ]
          refine wpAnyH_take (i := 4) (oi := ⟨some 50, _, _, _, _, _⟩) (v := (.int .i64 ((i : Nat) : Int))) rfl (by kernel_rfl) (by kernel_rfl) (by kernel_rfl) (fun _ _ _ h => h) (Or.inl ⟨by rfl, ?_⟩) (by assumption) ?_
          · intro W hSW; go_simp
          simp only [Act.put, List.setIfInBounds_toArray, List.set_cons_zero, List.set_cons_succ]
          refine wpAnyH_take (i := 5) (oi := ⟨some 51, _, _, _, _, _⟩) (v := (.pointer (some ⟨g10, o10 + i, none⟩))) rfl (by kernel_rfl) (by kernel_rfl) (by kernel_rfl) (fun _ _ _ h => h) (Or.inl ⟨by rfl, ?_⟩) (by assumption) ?_
          · intro W hSW; go_simp
          simp only [Act.put, List.setIfInBounds_toArray, List.set_cons_zero, List.set_cons_succ]
          refine wpAnyH_take (i := 6) (oi := ⟨some 52, _, _, _, _, _⟩) (v := (.slice ep en ec)) rfl (by kernel_rfl) (by kernel_rfl) (by kernel_rfl) (fun _ _ _ h => h) (Or.inl ⟨by rfl, ?_⟩) (by assumption) ?_
          · intro W hSW; obtain ⟨N, hA, _⟩ := hSW.ex; obtain ⟨v1, v2, v3, v4⟩ := HX.out W _ _ hA; go_simp
          simp only [Act.put, List.setIfInBounds_toArray, List.set_cons_zero, List.set_cons_succ]
          refine wpAnyH_take (i := 7) (oi := ⟨some 53, _, _, _, _, _⟩) (v := (.pointer (some ⟨P, 0, none⟩))) rfl (by kernel_rfl) (by kernel_rfl) (by kernel_rfl) (fun _ _ _ h => h) (Or.inl ⟨by rfl, ?_⟩) (by assumption) ?_
          · intro W hSW; go_simp
          simp only [Act.put, List.setIfInBounds_toArray, List.set_cons_zero, List.set_cons_succ]
          refine wpAnyH_take (i := 8) (oi := ⟨some 54, _, _, _, _, _⟩) (v := (.pointer (some ⟨P, 0, none⟩))) rfl (by kernel_rfl) (by kernel_rfl) (by kernel_rfl) (fun _ _ _ h => h) (Or.inl ⟨by rfl, ?_⟩) (by assumption) ?_
          · intro W hSW; go_simp
          simp only [Act.put, List.setIfInBounds_toArray, List.set_cons_zero, List.set_cons_succ]
          refine wpAnyH_take (i := 9) (oi := ⟨some 55, _, _, _, _, _⟩) (v := (.pointer (some ⟨P, 11, none⟩))) rfl (by kernel_rfl) (by kernel_rfl) (by kernel_rfl) (fun _ _ _ h => h) (Or.inl ⟨by rfl, ?_⟩) (by assumption) ?_
          · intro W hSW; go_simp
          simp only [Act.put, List.setIfInBounds_toArray, List.set_cons_zero, List.set_cons_succ]
          refine wpAnyH_take (i := 10) (oi := ⟨some 56, _, _, _, _, _⟩) (v := (.slice (some ⟨g11, o11, none⟩) p.x.nm.length k11)) rfl (by kernel_rfl) (by kernel_rfl) (by kernel_rfl) (fun _ _ _ h => h) (Or.inl ⟨by rfl, ?_⟩) (by assumption) ?_
          · intro W hSW; obtain ⟨N, hA, _⟩ := hSW.ex; obtain ⟨v1, v2, v3, v4⟩ := HX.out W _ _ hA; go_simp
          simp only [Act.put, List.setIfInBounds_toArray, List.set_cons_zero, List.set_cons_succ]
          refine wpAnyH_take (i := 11) (oi := ⟨some 57, _, _, _, _, _⟩) (v := (.int .i64 ((i : Nat) : Int))) rfl (by kernel_rfl) (by kernel_rfl) (by kernel_rfl) (fun _ _ _ h => h) (Or.inl ⟨by rfl, ?_⟩) (by assumption) ?_
          · intro W hSW; go_simp
          simp only [Act.put, List.setIfInBounds_toArray, List.set_cons_zero, List.set_cons_succ]
          refine wpAnyH_take (i := 12) (oi := ⟨some 58, _, _, _, _, _⟩) (v := (.pointer (some ⟨g11, o11 + i, none⟩))) rfl (by kernel_rfl) (by kernel_rfl) (by kernel_rfl) (fun _ _ _ h => h) (Or.inl ⟨by rfl, ?_⟩) (by assumption) ?_
          · intro W hSW; go_simp
          simp only [Act.put, List.setIfInBounds_toArray, List.set_cons_zero, List.set_cons_succ]
          refine wpAnyH_take (i := 13) (oi := ⟨some 59, _, _, _, _, _⟩) (v := (.slice fp fn fc)) rfl (by kernel_rfl) (by kernel_rfl) (by kernel_rfl) (fun _ _ _ h => h) (Or.inl ⟨by rfl, ?_⟩) (by assumption) ?_
          · intro W hSW; obtain ⟨N, hA, _⟩ := hSW.ex; obtain ⟨v1, v2, v3, v4⟩ := HX.out W _ _ hA; go_simp
          simp only [Act.put, List.setIfInBounds_toArray, List.set_cons_zero, List.set_cons_succ]
          refine wpAnyH_ready (rs := [14]) (by kernel_rfl) (by simp) ?_
          refine AllReadyH.cons rfl (fun KK hKK => ?_) AllReadyH.nil
          go_simp
          refine hcall.mono ?_
          clear hcall
          rintro _ w6 ⟨rfl, a6⟩
          have hS2 : A2 w w6 p who i := by obtain ⟨N, hA, hN⟩ := hS.ex; exact ⟨N, hA.kept0 a6, hN⟩
          clear a6
          try dsimp only
          refine hKK.out _ _ hS2 (fun hHeld => ?_)
          clear hKK KK
          refine wpAnyH_take (i := 15) (oi := ⟨some 61, _, _, _, _, _⟩) (v := (.bool false)) rfl (by kernel_rfl) (by kernel_rfl) (by kernel_rfl) (fun _ _ _ h => h) (Or.inl ⟨by rfl, ?_⟩) (by assumption) ?_
          · intro W hSW; go_simp
          simp only [Act.put, List.setIfInBounds_toArray, List.set_cons_zero, List.set_cons_succ]
          refine wpAnyH_done (by kernel_rfl) ?_ _
          clear hHeld hS
          go_wp2_with fail
          go_loopw [5] (fun v wz => ∃ j : Nat, v = .int .i64 (j : Nat) ∧ j ≤ en ∧ A2i w wz p who i j) (fun v _ => en - (intOf v).toNat)
          case atStart => exact ⟨0, rfl, Nat.zero_le _, by obtain ⟨N, hA, hN⟩ := hS2.ex; exact ⟨N, hA, hN.nf⟩⟩
          case round =>
            clear hS2 c10
            obtain ⟨j, rfl, hj, aj⟩ := hrel
            obtain ⟨N, hA, hN⟩ := aj.ex
            obtain ⟨d1, d2, _, _⟩ := HX.out wr _ _ hA
            have hon := hA.nm i _ HE.out
            have hnl := hon.nle
            dsimp only at hnl
            by_cases hjt : j < en
            · have hjz : ((j : Nat) : Int) < ((en : Nat) : Int) := by omega
              obtain ⟨g, hg⟩ := hon.at hjt
              dsimp only at hg
              subst hg
              obtain ⟨⟨y, cg⟩, fg⟩ := own_cf hon.o j hjt
              have HF : Hid (A2i w (wr.setCell ⟨g, j, none⟩ (.int .i64 (-1 - (i : Int)))) p who i (j + 1)) := by
                refine ⟨_, hA.setN HE.out rfl j _, hN.set ?_⟩
                have := hon.o.1
                dsimp only at this
                omega
              clear hon hA hN aj
              go_wp2_with fail
              go_roundw
              case rel => exact ⟨j + 1, by go_num, by omega, HF.out⟩
              case measure => simp [intOf]; omega
            · obtain rfl : j = en := by omega
              have HF : Hid (A2 w wr p who (i + 1)) := ⟨N, hA, hN.no HE.out (Nat.le_refl _)⟩
              clear hon hA hN aj
              go_wp2_with fail
              go_roundw
              case rel => exact ⟨i + 1, by go_num, by omega, HF.out⟩
              case measure => simp [intOf]; omega
        · obtain rfl : i = p.x.nm.length := by omega
          go_wp2_with fail
          clear c10
          go_loopw [6] (fun v wr => ∃ i : Nat, v = .int .i64 (i : Nat) ∧ i ≤ p.x.lf.length ∧ A3 w wr p who i 0) (fun v _ => p.x.lf.length - (intOf v).toNat)
          case atStart => exact ⟨0, rfl, Nat.zero_le _, by obtain ⟨N, hA, hN⟩ := HA.out.ex; exact ⟨_, N, hA, hN, ⟨fun k hk => by omega, fun m hm => by omega⟩⟩⟩
          case round =>
            clear HA hi
            obtain ⟨i, rfl, hi, ai⟩ := hrel
            have HA := hid ai
            have c8 : wr.cell? ⟨P, 8, none⟩ = some (.slice q8 p.x.lf.length kq8) := by obtain ⟨L, N, hA, _⟩ := ai.ex; exact HQ8.out wr _ _ hA
            clear ai
            by_cases hlt : i < p.x.lf.length
            · have hz : ((i : Nat) : Int) < ((p.x.lf.length : Nat) : Int) := by omega
              obtain ⟨e, he⟩ : ∃ e, p.x.lf[i]? = some e := ⟨_, List.getElem?_eq_getElem hlt⟩
              obtain ⟨⟨ep, en, ec⟩, eb⟩ := e
              obtain ⟨g8, o8, k8, h8⟩ := Ap.fldU HH.out 8 (by decide) i (.slice ep en ec) (by simp [Sx.cof, he, Sl.v])
              rw [HL8.out] at h8
              have HX := hid h8
              have HE := hid he
              have hen : en ≤ 2000000 := HLE.out _ (List.mem_of_getElem? he)
              clear h8 he
              obtain ⟨d1, d2⟩ : wr.cell? ⟨P, 8, none⟩ = some (.slice (some ⟨g8, o8, none⟩) p.x.lf.length k8) ∧ wr.cell? ⟨g8, o8 + i, none⟩ = some (.slice ep en ec) := by obtain ⟨L, N, hA, _⟩ := HA.out.ex; exact HX.out wr _ _ hA
              go_wp2_with fail
              go_loopw [7] (fun v wz => ∃ j : Nat, v = .int .i64 (j : Nat) ∧ j ≤ en ∧ A3 w wz p who i j) (fun v _ => en - (intOf v).toNat)
              case atStart => exact ⟨0, rfl, Nat.zero_le _, HA.out⟩
              case round =>
                clear c8 d1 d2
                obtain ⟨j, rfl, hj, aj⟩ := hrel
                obtain ⟨L, N, hA, hN, hL⟩ := aj.ex
                obtain ⟨d1, d2⟩ := HX.out wr _ _ hA
                have hon := hA.lf i _ HE.out
                by_cases hjt : j < en
                · have hjz : ((j : Nat) : Int) < ((en : Nat) : Int) := by omega
                  obtain ⟨g, hg⟩ := hon.at hjt
                  dsimp only at hg
                  subst hg
                  have hAd := hA.kept0 (Apart.refl [] wr).drew
                  have hond := hAd.lf i _ HE.out
                  obtain ⟨⟨y, cg⟩, fg⟩ := own_cf hond.o j hjt
                  have hS : ApE w wr.drew p who := ⟨L, N, hAd⟩
                  obtain ⟨wz, hwz⟩ : ∃ wz, wz = wr.drew.setCell ⟨g, j, none⟩ (.int .u8 (sgn i j)) := ⟨_, rfl⟩
                  have HF : Hid (A3 w wz p who i (j + 1)) := by
                    rw [hwz]
                    refine ⟨_, N, hAd.setL HE.out rfl j _, hN, hL.set ?_⟩
                    have := hond.o.1
                    dsimp only at this
                    omega
                  have hSz : ApE w wz p who := by obtain ⟨L, N, hA, _⟩ := HF.out.ex; exact ⟨L, N, hA⟩
                  have hcall := sign_ok i j (by omega) (by omega) wr.drew
                  clear hon hond hA hAd hN hL aj
                  go_wp2_with fail
                  refine wp_region_held_drew (S := fun X => ApE w X p who) (by kernel_rfl) hS (fun hHeld => ?_)
                  generalize wr.drew = wd at *
                  refine wpAnyH_take (i := 0) (oi := ⟨some 106, _, _, _, _, _⟩) (v := (.pointer (some ⟨P, 0, none⟩))) rfl (by kernel_rfl) (by kernel_rfl) (by kernel_rfl) (fun _ _ _ h => h) (Or.inl ⟨by rfl, ?_⟩) (by assumption) ?_
                  · intro W hSW; go_simp
                  simp only [Act.put, List.setIfInBounds_toArray, List.set_cons_zero, List.set_cons_succ]
                  refine wpAnyH_take (i := 1) (oi := ⟨some 107, _, _, _, _, _⟩) (v := (.pointer (some ⟨P, 0, none⟩))) rfl (by kernel_rfl) (by kernel_rfl) (by kernel_rfl) (fun _ _ _ h => h) (Or.inl ⟨by rfl, ?_⟩) (by assumption) ?_
                  · intro W hSW; go_simp
                  simp only [Act.put, List.setIfInBounds_toArray, List.set_cons_zero, List.set_cons_succ]
                  refine wpAnyH_take (i := 2) (oi := ⟨some 108, _, _, _, _, _⟩) (v := (.pointer (some ⟨P, 8, none⟩))) rfl (by kernel_rfl) (by kernel_rfl) (by kernel_rfl) (fun _ _ _ h => h) (Or.inl ⟨by rfl, ?_⟩) (by assumption) ?_
                  · intro W hSW; go_simp
                  simp only [Act.put, List.setIfInBounds_toArray, List.set_cons_zero, List.set_cons_succ]
                  refine wpAnyH_take (i := 3) (oi := ⟨some 109, _, _, _, _, _⟩) (v := (.slice (some ⟨g8, o8, none⟩) p.x.lf.length k8)) rfl (by kernel_rfl) (by kernel_rfl) (by kernel_rfl) (fun _ _ _ h => h) (Or.inl ⟨by rfl, ?_⟩) (by assumption) ?_
                  · intro W hSW; obtain ⟨L, N, hA⟩ := hSW.ex; obtain ⟨v1, v2⟩ := HX.out W _ _ hA; go_simp
                  simp only [Act.put, List.setIfInBounds_toArray, List.set_cons_zero, List.set_cons_succ]
                  refine wpAnyH_take (i := 4) (oi := ⟨some 110, _, _, _, _, _⟩) (v := (.int .i64 ((i : Nat) : Int))) rfl (by kernel_rfl) (by kernel_rfl) (by kernel_rfl) (fun _ _ _ h => h) (Or.inl ⟨by rfl, ?_⟩) (by assumption) ?_
                  · intro W hSW; go_simp
                  simp only [Act.put, List.setIfInBounds_toArray, List.set_cons_zero, List.set_cons_succ]
                  refine wpAnyH_take (i := 5) (oi := ⟨some 111, _, _, _, _, _⟩) (v := (.pointer (some ⟨g8, o8 + i, none⟩))) rfl (by kernel_rfl) (by kernel_rfl) (by kernel_rfl) (fun _ _ _ h => h) (Or.inl ⟨by rfl, ?_⟩) (by assumption) ?_
                  · intro W hSW; go_simp
                  simp only [Act.put, List.setIfInBounds_toArray, List.set_cons_zero, List.set_cons_succ]
                  refine wpAnyH_take (i := 6) (oi := ⟨some 112, _, _, _, _, _⟩) (v := (.slice (some ⟨g, 0, none⟩) en ec)) rfl (by kernel_rfl) (by kernel_rfl) (by kernel_rfl) (fun _ _ _ h => h) (Or.inl ⟨by rfl, ?_⟩) (by assumption) ?_
                  · intro W hSW; obtain ⟨L, N, hA⟩ := hSW.ex; obtain ⟨v1, v2⟩ := HX.out W _ _ hA; go_simp
                  simp only [Act.put, List.setIfInBounds_toArray, List.set_cons_zero, List.set_cons_succ]
                  refine wpAnyH_take (i := 7) (oi := ⟨some 113, _, _, _, _, _⟩) (v := (.int .i64 ((j : Nat) : Int))) rfl (by kernel_rfl) (by kernel_rfl) (by kernel_rfl) (fun _ _ _ h => h) (Or.inl ⟨by rfl, ?_⟩) (by assumption) ?_
                  · intro W hSW; go_simp
                  simp only [Act.put, List.setIfInBounds_toArray, List.set_cons_zero, List.set_cons_succ]
                  refine wpAnyH_take (i := 8) (oi := ⟨some 114, _, _, _, _, _⟩) (v := (.int .i64 ((i : Nat) : Int))) rfl (by kernel_rfl) (by kernel_rfl) (by kernel_rfl) (fun _ _ _ h => h) (Or.inl ⟨by rfl, ?_⟩) (by assumption) ?_
                  · intro W hSW; go_simp
                  simp only [Act.put, List.setIfInBounds_toArray, List.set_cons_zero, List.set_cons_succ]
                  refine wpAnyH_take (i := 9) (oi := ⟨some 115, _, _, _, _, _⟩) (v := (.int .i64 ((j : Nat) : Int))) rfl (by kernel_rfl) (by kernel_rfl) (by kernel_rfl) (fun _ _ _ h => h) (Or.inl ⟨by rfl, ?_⟩) (by assumption) ?_
                  · intro W hSW; go_simp
                  simp only [Act.put, List.setIfInBounds_toArray, List.set_cons_zero, List.set_cons_succ]
                  refine wpAnyH_ready (rs := [10]) (by kernel_rfl) (by simp) ?_
                  refine AllReadyH.cons rfl (fun KK hKK => ?_) AllReadyH.nil
                  go_simp
                  refine hcall.mono ?_
                  clear hcall
                  rintro _ w6 ⟨rfl, rfl⟩
                  try dsimp only
                  refine hKK.out _ _ hS (fun hHeld => ?_)
                  clear hKK KK
                  refine wpAnyH_take (i := 11) (oi := ⟨some 117, _, _, _, _, _⟩) (v := (.pointer (some ⟨g, j, none⟩))) rfl (by kernel_rfl) (by kernel_rfl) (by kernel_rfl) (fun _ _ _ h => h) (Or.inl ⟨by rfl, ?_⟩) (by assumption) ?_
                  · intro W hSW; go_simp
                  simp only [Act.put, List.setIfInBounds_toArray, List.set_cons_zero, List.set_cons_succ]
                  refine wpAnyH_ready (rs := [12]) (by kernel_rfl) (by simp) ?_
                  refine AllReadyH.cons rfl (fun KK hKK => ?_) AllReadyH.nil
                  go_simp
                  rw [← hwz]
                  clear hwz
                  refine hKK.out _ _ hSz (fun hHeld => ?_)
                  clear hKK KK
                  refine wpAnyH_done (by kernel_rfl) ?_ _
                  clear hHeld hS hSz
                  go_wp2_with fail
                  go_roundw
                  case rel => exact ⟨j + 1, by go_num, by omega, HF.out⟩
                  case measure => simp [intOf]; omega
                · obtain rfl : j = en := by omega
                  have HF : Hid (A3 w wr p who (i + 1) 0) := ⟨L, N, hA, hN, hL.next HE.out (Nat.le_refl _)⟩
                  clear hon hA hN hL aj
                  go_wp2_with fail
                  go_roundw
                  case rel => exact ⟨i + 1, by go_num, by omega, HF.out⟩
                  case measure => simp [intOf]; omega
            · obtain rfl : i = p.x.lf.length := by omega
              go_wp2_with fail
              clear c8
              go_loopw [8] (fun v wr => ∃ i : Nat, v = .int .i64 (i : Nat) ∧ i ≤ p.x.lf.length ∧ A3 w wr p who p.x.lf.length 0) (fun v _ => p.x.lf.length - (intOf v).toNat)
              case atStart => exact ⟨0, rfl, Nat.zero_le _, HA.out⟩
              case round =>
                clear HA hi
                obtain ⟨i, rfl, hi, ai⟩ := hrel
                have HA := hid ai
                have c8 : wr.cell? ⟨P, 8, none⟩ = some (.slice q8 p.x.lf.length kq8) := by obtain ⟨L, N, hA, _⟩ := ai.ex; exact HQ8.out wr _ _ hA
                clear ai
                by_cases hlt : i < p.x.lf.length
                · have hz : ((i : Nat) : Int) < ((p.x.lf.length : Nat) : Int) := by omega
                  obtain ⟨e, he⟩ : ∃ e, p.x.lf[i]? = some e := ⟨_, List.getElem?_eq_getElem hlt⟩
                  obtain ⟨⟨ep, en, ec⟩, eb⟩ := e
                  obtain ⟨g8, o8, k8, h8⟩ := Ap.fldU HH.out 8 (by decide) i (.slice ep en ec) (by simp [Sx.cof, he, Sl.v])
                  rw [HL8.out] at h8
                  have HX := hid h8
                  have HE := hid he
                  have hen : en ≤ 2000000 := HLE.out _ (List.mem_of_getElem? he)
                  clear h8 he
                  obtain ⟨d1, d2⟩ : wr.cell? ⟨P, 8, none⟩ = some (.slice (some ⟨g8, o8, none⟩) p.x.lf.length k8) ∧ wr.cell? ⟨g8, o8 + i, none⟩ = some (.slice ep en ec) := by obtain ⟨L, N, hA, _⟩ := HA.out.ex; exact HX.out wr _ _ hA
                  go_wp2_with fail
                  go_loopw [9] (fun v wz => ∃ j : Nat, v = .int .i64 (j : Nat) ∧ j ≤ en ∧ A3 w wz p who p.x.lf.length 0) (fun v _ => en - (intOf v).toNat)
                  case atStart => exact ⟨0, rfl, Nat.zero_le _, HA.out⟩
                  case round =>
                    clear c8 d1 d2
                    obtain ⟨j, rfl, hj, aj⟩ := hrel
                    have HJ := hid aj
                    obtain ⟨L, N, hA, hN, hL⟩ := aj.ex
                    obtain ⟨d1, d2⟩ := HX.out wr _ _ hA
                    have hon := hA.lf i _ HE.out
                    by_cases hjt : j < en
                    · have hjz : ((j : Nat) : Int) < ((en : Nat) : Int) := by omega
                      obtain ⟨g, hg⟩ := hon.at hjt
                      dsimp only at hg
                      subst hg
                      have hS : A3 w wr.drew p who p.x.lf.length 0 := ⟨L, N, hA.kept0 (Apart.refl [] wr).drew, hN, hL⟩
                      have HXJ : Hid (∀ W, A3 w W p who p.x.lf.length 0 → W.cell? ⟨P, 8, none⟩ = some (.slice (some ⟨g8, o8, none⟩) p.x.lf.length k8) ∧ W.cell? ⟨g8, o8 + i, none⟩ = some (.slice (some ⟨g, 0, none⟩) en ec) ∧ W.cell? ⟨g, j, none⟩ = some (.int .u8 (sgn i j))) := fun W a => by
                        obtain ⟨L, N, hA, hN, hL⟩ := a.ex
                        refine ⟨(HX.out W _ _ hA).1, (HX.out W _ _ hA).2, ?_⟩
                        have ho := (hA.lf i _ HE.out).o
                        have h1 := hL.full i hlt _ HE.out j hjt
                        rw [← h1]
                        dsimp only at ho; exact ho.cellAt j (by have := ho.1; dsimp only; omega)
                      have hcall := sign_ok i j (by omega) (by omega) wr.drew
                      clear hon hA hN hL aj
                      go_wp2_with fail
                      refine wp_region_held_drew (S := fun X => A3 w X p who p.x.lf.length 0) (by kernel_rfl) hS (fun hHeld => ?_)
                      refine wpAnyH_take (i := 0) (oi := ⟨some 139, _, _, _, _, _⟩) (v := (.pointer (some ⟨P, 0, none⟩))) rfl (by kernel_rfl) (by kernel_rfl) (by kernel_rfl) (fun _ _ _ h => h) (Or.inl ⟨by rfl, ?_⟩) (by assumption) ?_
                      · intro W hSW; go_simp
                      simp only [Act.put, List.setIfInBounds_toArray, List.set_cons_zero, List.set_cons_succ]
                      refine wpAnyH_take (i := 1) (oi := ⟨some 140, _, _, _, _, _⟩) (v := (.pointer (some ⟨P, 0, none⟩))) rfl (by kernel_rfl) (by kernel_rfl) (by kernel_rfl) (fun _ _ _ h => h) (Or.inl ⟨by rfl, ?_⟩) (by assumption) ?_
                      · intro W hSW; go_simp
                      simp only [Act.put, List.setIfInBounds_toArray, List.set_cons_zero, List.set_cons_succ]
                      refine wpAnyH_take (i := 2) (oi := ⟨some 141, _, _, _, _, _⟩) (v := (.pointer (some ⟨P, 8, none⟩))) rfl (by kernel_rfl) (by kernel_rfl) (by kernel_rfl) (fun _ _ _ h => h) (Or.inl ⟨by rfl, ?_⟩) (by assumption) ?_
                      · intro W hSW; go_simp
                      simp only [Act.put, List.setIfInBounds_toArray, List.set_cons_zero, List.set_cons_succ]
                      refine wpAnyH_take (i := 3) (oi := ⟨some 142, _, _, _, _, _⟩) (v := (.slice (some ⟨g8, o8, none⟩) p.x.lf.length k8)) rfl (by kernel_rfl) (by kernel_rfl) (by kernel_rfl) (fun _ _ _ h => h) (Or.inl ⟨by rfl, ?_⟩) (by assumption) ?_
                      · intro W hSW; obtain ⟨v1, v2, v3⟩ := HXJ.out W hSW; go_simp
                      simp only [Act.put, List.setIfInBounds_toArray, List.set_cons_zero, List.set_cons_succ]
                      refine wpAnyH_take (i := 4) (oi := ⟨some 143, _, _, _, _, _⟩) (v := (.int .i64 ((i : Nat) : Int))) rfl (by kernel_rfl) (by kernel_rfl) (by kernel_rfl) (fun _ _ _ h => h) (Or.inl ⟨by rfl, ?_⟩) (by assumption) ?_
                      · intro W hSW; go_simp
                      simp only [Act.put, List.setIfInBounds_toArray, List.set_cons_zero, List.set_cons_succ]
                      refine wpAnyH_take (i := 5) (oi := ⟨some 144, _, _, _, _, _⟩) (v := (.pointer (some ⟨g8, o8 + i, none⟩))) rfl (by kernel_rfl) (by kernel_rfl) (by kernel_rfl) (fun _ _ _ h => h) (Or.inl ⟨by rfl, ?_⟩) (by assumption) ?_
                      · intro W hSW; go_simp
                      simp only [Act.put, List.setIfInBounds_toArray, List.set_cons_zero, List.set_cons_succ]
                      refine wpAnyH_take (i := 6) (oi := ⟨some 145, _, _, _, _, _⟩) (v := (.slice (some ⟨g, 0, none⟩) en ec)) rfl (by kernel_rfl) (by kernel_rfl) (by kernel_rfl) (fun _ _ _ h => h) (Or.inl ⟨by rfl, ?_⟩) (by assumption) ?_
                      · intro W hSW; obtain ⟨v1, v2, v3⟩ := HXJ.out W hSW; go_simp
                      simp only [Act.put, List.setIfInBounds_toArray, List.set_cons_zero, List.set_cons_succ]
                      refine wpAnyH_take (i := 7) (oi := ⟨some 146, _, _, _, _, _⟩) (v := (.int .i64 ((j : Nat) : Int))) rfl (by kernel_rfl) (by kernel_rfl) (by kernel_rfl) (fun _ _ _ h => h) (Or.inl ⟨by rfl, ?_⟩) (by assumption) ?_
                      · intro W hSW; go_simp
                      simp only [Act.put, List.setIfInBounds_toArray, List.set_cons_zero, List.set_cons_succ]
                      refine wpAnyH_take (i := 8) (oi := ⟨some 147, _, _, _, _, _⟩) (v := (.pointer (some ⟨g, j, none⟩))) rfl (by kernel_rfl) (by kernel_rfl) (by kernel_rfl) (fun _ _ _ h => h) (Or.inl ⟨by rfl, ?_⟩) (by assumption) ?_
                      · intro W hSW; go_simp
                      simp only [Act.put, List.setIfInBounds_toArray, List.set_cons_zero, List.set_cons_succ]
                      refine wpAnyH_take (i := 9) (oi := ⟨some 148, _, _, _, _, _⟩) (v := (.int .u8 (sgn i j))) rfl (by kernel_rfl) (by kernel_rfl) (by kernel_rfl) (fun _ _ _ h => h) (Or.inl ⟨by rfl, ?_⟩) (by assumption) ?_
                      · intro W hSW; obtain ⟨v1, v2, v3⟩ := HXJ.out W hSW; go_simp
                      simp only [Act.put, List.setIfInBounds_toArray, List.set_cons_zero, List.set_cons_succ]
                      refine wpAnyH_take (i := 10) (oi := ⟨some 149, _, _, _, _, _⟩) (v := (.int .i64 ((i : Nat) : Int))) rfl (by kernel_rfl) (by kernel_rfl) (by kernel_rfl) (fun _ _ _ h => h) (Or.inl ⟨by rfl, ?_⟩) (by assumption) ?_
                      · intro W hSW; go_simp
                      simp only [Act.put, List.setIfInBounds_toArray, List.set_cons_zero, List.set_cons_succ]
                      refine wpAnyH_take (i := 11) (oi := ⟨some 150, _, _, _, _, _⟩) (v := (.int .i64 ((j : Nat) : Int))) rfl (by kernel_rfl) (by kernel_rfl) (by kernel_rfl) (fun _ _ _ h => h) (Or.inl ⟨by rfl, ?_⟩) (by assumption) ?_
                      · intro W hSW; go_simp
                      simp only [Act.put, List.setIfInBounds_toArray, List.set_cons_zero, List.set_cons_succ]
                      refine wpAnyH_ready (rs := [12]) (by kernel_rfl) (by simp) ?_
                      refine AllReadyH.cons rfl (fun KK hKK => ?_) AllReadyH.nil
                      go_simp
                      refine hcall.mono ?_
                      clear hcall
                      rintro _ w6 ⟨rfl, hw6⟩
                      rw [hw6]
                      clear hw6
                      try dsimp only
                      refine hKK.out _ _ hS (fun hHeld => ?_)
                      clear hKK KK
                      refine wpAnyH_take (i := 13) (oi := ⟨some 152, _, _, _, _, _⟩) (v := (.bool false)) rfl (by kernel_rfl) (by kernel_rfl) (by kernel_rfl) (fun _ _ _ h => h) (Or.inl ⟨by rfl, ?_⟩) (by assumption) ?_
                      · intro W hSW; go_simp
                      simp only [Act.put, List.setIfInBounds_toArray, List.set_cons_zero, List.set_cons_succ]
                      refine wpAnyH_done (by kernel_rfl) ?_ _
                      clear hHeld
                      go_wp2_with fail
                      go_roundw
                      case rel => exact ⟨j + 1, by go_num, by omega, hS⟩
                      case measure => simp [intOf]; omega
                    · obtain rfl : j = en := by omega
                      clear hon hA hN hL aj
                      go_wp2_with fail
                      go_roundw
                      case rel => exact ⟨i + 1, by go_num, by omega, HJ.out⟩
                      case measure => simp [intOf]; omega
                · obtain rfl : i = p.x.lf.length := by omega
                  go_wp2_with fail
                  clear c8
                  go_loopw [10] (fun v wr => ∃ i : Nat, v = .int .i64 (i : Nat) ∧ i ≤ p.x.nm.length ∧ A3 w wr p who p.x.lf.length 0) (fun v _ => p.x.nm.length - (intOf v).toNat)
                  case atStart => exact ⟨0, rfl, Nat.zero_le _, HA.out⟩
                  case round =>
                    clear HA hi
                    obtain ⟨i, rfl, hi, ai⟩ := hrel
                    have HA := hid ai
                    have c10 : wr.cell? ⟨P, 10, none⟩ = some (.slice q10 p.x.nm.length kq10) := by obtain ⟨L, N, hA, _⟩ := ai.ex; exact HQ10.out wr _ _ hA
                    clear ai
                    by_cases hlt : i < p.x.nm.length
                    · have hz : ((i : Nat) : Int) < ((p.x.nm.length : Nat) : Int) := by omega
                      obtain ⟨e, he⟩ : ∃ e, p.x.nm[i]? = some e := ⟨_, List.getElem?_eq_getElem hlt⟩
                      obtain ⟨⟨ep, en, ec⟩, eb, ⟨fp, fn, fc⟩⟩ := e
                      obtain ⟨g10, o10, k10, h10⟩ := Ap.fldU HH.out 10 (by decide) i (.slice ep en ec) (by simp [Sx.cof, he, Sl.v])
                      rw [HL10.out] at h10
                      have HX := hid h10
                      have HE := hid he
                      clear h10 he
                      obtain ⟨d1, d2⟩ : wr.cell? ⟨P, 10, none⟩ = some (.slice (some ⟨g10, o10, none⟩) p.x.nm.length k10) ∧ wr.cell? ⟨g10, o10 + i, none⟩ = some (.slice ep en ec) := by obtain ⟨L, N, hA, _⟩ := HA.out.ex; exact HX.out wr _ _ hA
                      go_wp2_with fail
                      go_loopw [11] (fun v wz => ∃ j : Nat, v = .int .i64 (j : Nat) ∧ j ≤ en ∧ A3 w wz p who p.x.lf.length 0) (fun v _ => en - (intOf v).toNat)
                      case atStart => exact ⟨0, rfl, Nat.zero_le _, HA.out⟩
                      case round =>
                        clear c10 d1 d2
                        obtain ⟨j, rfl, hj, aj⟩ := hrel
                        have HJ := hid aj
                        obtain ⟨L, N, hA, hN, hL⟩ := aj.ex
                        obtain ⟨d1, d2⟩ := HX.out wr _ _ hA
                        have hon := hA.nm i _ HE.out
                        have hnl := hon.nle
                        dsimp only at hnl
                        by_cases hjt : j < en
                        · have hjz : ((j : Nat) : Int) < ((en : Nat) : Int) := by omega
                          obtain ⟨g, hg⟩ := hon.at hjt
                          dsimp only at hg
                          subst hg
                          have d3 : wr.cell? ⟨g, j, none⟩ = some (.int .i64 (-1 - (i : Int))) := by
                            have ho := hon.o
                            have h1 := hN.full i hlt _ HE.out j hjt
                            rw [← h1]
                            dsimp only at ho; exact ho.cellAt j (by have := ho.1; dsimp only; omega)
                          clear hon hA hN hL aj
                          go_wp2_with fail
                          go_roundw
                          case rel => exact ⟨j + 1, by go_num, by omega, HJ.out⟩
                          case measure => simp [intOf]; omega
                        · obtain rfl : j = en := by omega
                          clear hon hA hN hL aj
                          go_wp2_with fail
                          go_roundw
                          case rel => exact ⟨i + 1, by go_num, by omega, HJ.out⟩
                          case measure => simp [intOf]; omega
                    · obtain rfl : i = p.x.nm.length := by omega
                      go_wp2
                      go_ret
                      obtain ⟨L, N, hA, _⟩ := HA.out.ex
                      exact ⟨rfl, hA.stp⟩
end Go.Proofs.Ytiakcfjbnlibfaa.nt
