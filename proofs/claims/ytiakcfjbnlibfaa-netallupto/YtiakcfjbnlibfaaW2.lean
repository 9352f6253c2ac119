import Derived.Test.YtiakcfjbnlibfaaW1
namespace Go.Proofs.Ytiakcfjbnlibfaa.nt
open Go.ChangeShapes Go.WideShapes Go.ChangeAt Go.RowKit
set_option linter.unusedVariables false
set_option linter.unusedSimpArgs false
theorem cellP {wa w w' : World} {P : Nat} {p : Px} {who : Nat → Option Nat} {l : Nat → List Value} (h : PQ wa w P p who l) (a : Apart [] w w') (f : Nat) (hf : f ∈ fs) (i : Nat) (x : Value) (hi : (l f)[i]? = some x) :
    ∃ g o cp, w'.cell? ⟨P, f, none⟩ = some (.slice (some ⟨g, o, none⟩) (l f).length cp) ∧ w'.cell? ⟨g, o + i, none⟩ = some x := by
  obtain ⟨q, cp, hc, _, hx⟩ := (h.kept0 a).sm.field f hf
  obtain ⟨g, o, rfl, hg⟩ := hx i x hi
  exact ⟨g, o, cp, hc, hg⟩
/-- a cell of a row of somebody's -/
theorem OB.cell {w w' : World} {who : Nat → Option Nat} {tag : Nat} {s : Sl} {us : List Value} {e : TypeId} (h : OB w who tag s us e) (a : Apart [] w w') {j : Nat} (hj : j < s.n) : ∃ g x, s.p = some ⟨g, 0, none⟩ ∧ us[j]? = some x ∧ w'.cell? ⟨g, j, none⟩ = some x := by
  have ho := own_apart h.o a (by simp)
  have hl : us.length = s.n * 1 := ho.1
  obtain ⟨g, hg⟩ : ∃ g, s.p = some ⟨g, 0, none⟩ := by
    obtain ⟨_, ⟨hv, hz⟩ | ⟨g, cap, cur, hv, _⟩⟩ := ho
    · omega
    · unfold Sl.v at hv; simp at hv; exact ⟨g, hv.1⟩
  have hv : s.v = .slice (some ⟨g, 0, none⟩) s.n s.c := by unfold Sl.v; rw [hg]
  rw [hv] at ho
  have hx : us[j]? = some us[j] := List.getElem?_eq_getElem (by omega)
  exact ⟨g, us[j], hg, hx, (ho.cellAt j (by omega)).trans hx⟩
theorem OB.nle {w : World} {who : Nat → Option Nat} {tag : Nat} {s : Sl} {us : List Value} {e : TypeId} (h : OB w who tag s us e) : s.n ≤ 9223372036854775807 := by
  obtain ⟨_, ⟨hv, hz⟩ | ⟨g, cap, cur, hv, _, _, hle, hmx, _⟩⟩ := h.o
  · omega
  · unfold maxLen at hmx; omega
theorem u8m (m : Nat) : IntKind.u8.wrap (m : Int) = ((m % 256 : Nat) : Int) := by
  simp [IntKind.wrap, IntKind.bits, IntKind.signed]
set_option maxHeartbeats 8000000 in
set_option maxRecDepth 100000 in
theorem stands_ok {wa w : World} {P : Nat} {p : Px} {who : Nat → Option Nat} (h : PQ wa w P p who p.x.cof) (hkm : ∀ e ∈ p.x.ki, e.2 ≤ 1000000) (hkb : p.x.kb.length ≤ 6) (hki : p.x.ki.length ≤ 6) : Calls Try.prog 26 #[.pointer (some ⟨P, 0, none⟩)] w fun r w' => r = .returned (.bool true) ∧ Apart [] w w' := by
  have HH := hid h
  clear h
  have L2 : (p.x.cof 2).length = p.x.kb.length := by simp [Sx.cof]
  have L3 : (p.x.cof 3).length = p.x.ki.length := by simp [Sx.cof]
  go_enter Try.func26, Try.ntmps26
  go_wp2_with fail
  go_loopw [3] (fun v wr => ∃ i : Nat, v = .int .i64 (i : Nat) ∧ i ≤ p.x.kb.length ∧ Apart [] w wr) (fun v _ => p.x.kb.length - (intOf v).toNat)
  case atStart => exact ⟨0, rfl, Nat.zero_le _, Apart.refl _ _⟩
  case round =>
    obtain ⟨i, rfl, hi, ai⟩ := hrel
    have HA := hid ai
    obtain ⟨p2, cp2, c2, _, _⟩ := (HH.out.kept0 ai).sm.field 2 (by decide)
    rw [L2] at c2
    clear ai
    by_cases hlt : i < p.x.kb.length
    · have hz : ((i : Nat) : Int) < ((p.x.kb.length : Nat) : Int) := by omega
      obtain ⟨e, he⟩ : ∃ e, p.x.kb[i]? = some e := ⟨_, List.getElem?_eq_getElem hlt⟩
      have ho := HH.out.an.kb e (List.mem_of_getElem? he)
      obtain ⟨⟨ep, en, ec⟩, em⟩ := e
      have HO := hid ho
      have hnl := ho.nle
      dsimp only at hnl
      have HX : Hid (∃ g2 o2 k2 g5 o5 k5, ∀ W : World, Apart [] w W → W.cell? ⟨P, 2, none⟩ = some (.slice (some ⟨g2, o2, none⟩) p.x.kb.length k2) ∧ W.cell? ⟨g2, o2 + i, none⟩ = some (.slice ep en ec) ∧ W.cell? ⟨P, 5, none⟩ = some (.slice (some ⟨g5, o5, none⟩) p.x.kb.length k5) ∧ W.cell? ⟨g5, o5 + i, none⟩ = some (.int .i64 (em : Int))) := by
        obtain ⟨g2, o2, k2, a1, a2⟩ := cellP HH.out (Apart.refl [] w) 2 (by decide) i (.slice ep en ec) (by simp [Sx.cof, he, Sl.v])
        obtain ⟨g5, o5, k5, a3, a4⟩ := cellP HH.out (Apart.refl [] w) 5 (by decide) i (.int .i64 (em : Int)) (by simp [Sx.cof, he])
        rw [L2] at a1
        rw [show (p.x.cof 5).length = p.x.kb.length from by simp [Sx.cof]] at a3
        exact ⟨g2, o2, k2, g5, o5, k5, fun W a => ⟨(a.cell HH.out.sm.lt (by simp)).trans a1, (a.cell (block_lt_of_cell a2) (by simp)).trans a2, (a.cell HH.out.sm.lt (by simp)).trans a3, (a.cell (block_lt_of_cell a4) (by simp)).trans a4⟩⟩
      obtain ⟨g2, o2, k2, g5, o5, k5, hX⟩ := HX.out
      have HXX := hid hX
      clear hX HX c2 ho he
      obtain ⟨d2, d2i, d5, d5i⟩ := HXX.out wr HA.out
      go_wp2_with fail
      go_loopw [4] (fun v wq => ∃ j : Nat, v = .int .i64 (j : Nat) ∧ j ≤ en ∧ Apart [] w wq) (fun v _ => en - (intOf v).toNat)
      case atStart => exact ⟨0, rfl, Nat.zero_le _, HA.out⟩
      case round =>
        obtain ⟨j, rfl, hj, aj⟩ := hrel
        have HAj := hid aj
        clear d2 d2i d5 d5i
        obtain ⟨d2, d2i, d5, d5i⟩ := HXX.out wr aj
        clear aj
        by_cases hjt : j < en
        · have hjz : ((j : Nat) : Int) < ((en : Nat) : Int) := by omega
          obtain ⟨g, x, hg, hx, _⟩ := HO.out.cell (Apart.refl [] w) hjt
          dsimp only at hg
          subst hg
          have HXJ : Hid (∀ W : World, Apart [] w W → W.cell? ⟨g, j, none⟩ = some (.int .u8 ((em % 256 : Nat) : Int))) := fun W a => by
            obtain ⟨g', x', hg', hx', hc'⟩ := HO.out.cell a hjt
            simp at hg'
            subst hg'
            rw [hc']
            have : x' = .int .u8 ((em % 256 : Nat) : Int) := by
              simp [List.getElem?_replicate, hjt] at hx'
              exact hx'.symm
            rw [this]
          have HA5 : Hid (Apart [] w wr.drew) := HAj.out.drew
          have hum := u8m em
          clear hx
          go_wp2_with fail
          refine wp_region_held_drew (S := fun X => Apart [] w X) (by kernel_rfl) HA5.out (fun hHeld => ?_)
          refine wpAnyH_take (i := 0) (oi := ⟨some 28, _, _, _, _, _⟩) (v := (.pointer (some ⟨P, 0, none⟩))) rfl (by kernel_rfl) (by kernel_rfl) (by kernel_rfl) (fun _ _ _ h => h) (Or.inl ⟨by rfl, ?_⟩) (by assumption) ?_
          · intro W hSW; go_simp
          simp only [Act.put, List.setIfInBounds_toArray, List.set_cons_zero, List.set_cons_succ]
          refine wpAnyH_take (i := 1) (oi := ⟨some 29, _, _, _, _, _⟩) (v := (.pointer (some ⟨P, 0, none⟩))) rfl (by kernel_rfl) (by kernel_rfl) (by kernel_rfl) (fun _ _ _ h => h) (Or.inl ⟨by rfl, ?_⟩) (by assumption) ?_
          · intro W hSW; go_simp
          simp only [Act.put, List.setIfInBounds_toArray, List.set_cons_zero, List.set_cons_succ]
          refine wpAnyH_take (i := 2) (oi := ⟨some 30, _, _, _, _, _⟩) (v := (.pointer (some ⟨P, 2, none⟩))) rfl (by kernel_rfl) (by kernel_rfl) (by kernel_rfl) (fun _ _ _ h => h) (Or.inl ⟨by rfl, ?_⟩) (by assumption) ?_
          · intro W hSW; go_simp
          simp only [Act.put, List.setIfInBounds_toArray, List.set_cons_zero, List.set_cons_succ]
          refine wpAnyH_take (i := 3) (oi := ⟨some 31, _, _, _, _, _⟩) (v := (.slice (some ⟨g2, o2, none⟩) p.x.kb.length k2)) rfl (by kernel_rfl) (by kernel_rfl) (by kernel_rfl) (fun _ _ _ h => h) (Or.inl ⟨by rfl, ?_⟩) (by assumption) ?_
          · intro W hSW; obtain ⟨q2, q2i, q5, q5i⟩ := HXX.out W hSW; have qj := HXJ.out W hSW; go_simp
          simp only [Act.put, List.setIfInBounds_toArray, List.set_cons_zero, List.set_cons_succ]
          refine wpAnyH_take (i := 4) (oi := ⟨some 32, _, _, _, _, _⟩) (v := (.int .i64 ((i : Nat) : Int))) rfl (by kernel_rfl) (by kernel_rfl) (by kernel_rfl) (fun _ _ _ h => h) (Or.inl ⟨by rfl, ?_⟩) (by assumption) ?_
          · intro W hSW; go_simp
          simp only [Act.put, List.setIfInBounds_toArray, List.set_cons_zero, List.set_cons_succ]
          refine wpAnyH_take (i := 5) (oi := ⟨some 33, _, _, _, _, _⟩) (v := (.pointer (some ⟨g2, o2 + i, none⟩))) rfl (by kernel_rfl) (by kernel_rfl) (by kernel_rfl) (fun _ _ _ h => h) (Or.inl ⟨by rfl, ?_⟩) (by assumption) ?_
          · intro W hSW; go_simp
          simp only [Act.put, List.setIfInBounds_toArray, List.set_cons_zero, List.set_cons_succ]
          refine wpAnyH_take (i := 6) (oi := ⟨some 34, _, _, _, _, _⟩) (v := (.slice (some ⟨g, 0, none⟩) en ec)) rfl (by kernel_rfl) (by kernel_rfl) (by kernel_rfl) (fun _ _ _ h => h) (Or.inl ⟨by rfl, ?_⟩) (by assumption) ?_
          · intro W hSW; obtain ⟨q2, q2i, q5, q5i⟩ := HXX.out W hSW; have qj := HXJ.out W hSW; go_simp
          simp only [Act.put, List.setIfInBounds_toArray, List.set_cons_zero, List.set_cons_succ]
          refine wpAnyH_take (i := 7) (oi := ⟨some 35, _, _, _, _, _⟩) (v := (.int .i64 ((j : Nat) : Int))) rfl (by kernel_rfl) (by kernel_rfl) (by kernel_rfl) (fun _ _ _ h => h) (Or.inl ⟨by rfl, ?_⟩) (by assumption) ?_
          · intro W hSW; go_simp
          simp only [Act.put, List.setIfInBounds_toArray, List.set_cons_zero, List.set_cons_succ]
          refine wpAnyH_take (i := 8) (oi := ⟨some 36, _, _, _, _, _⟩) (v := (.pointer (some ⟨g, j, none⟩))) rfl (by kernel_rfl) (by kernel_rfl) (by kernel_rfl) (fun _ _ _ h => h) (Or.inl ⟨by rfl, ?_⟩) (by assumption) ?_
          · intro W hSW; go_simp
          simp only [Act.put, List.setIfInBounds_toArray, List.set_cons_zero, List.set_cons_succ]
          refine wpAnyH_take (i := 9) (oi := ⟨some 37, _, _, _, _, _⟩) (v := (.int .u8 ((em % 256 : Nat) : Int))) rfl (by kernel_rfl) (by kernel_rfl) (by kernel_rfl) (fun _ _ _ h => h) (Or.inl ⟨by rfl, ?_⟩) (by assumption) ?_
          · intro W hSW; obtain ⟨q2, q2i, q5, q5i⟩ := HXX.out W hSW; have qj := HXJ.out W hSW; go_simp
          simp only [Act.put, List.setIfInBounds_toArray, List.set_cons_zero, List.set_cons_succ]
          refine wpAnyH_take (i := 10) (oi := ⟨some 38, _, _, _, _, _⟩) (v := (.pointer (some ⟨P, 0, none⟩))) rfl (by kernel_rfl) (by kernel_rfl) (by kernel_rfl) (fun _ _ _ h => h) (Or.inl ⟨by rfl, ?_⟩) (by assumption) ?_
          · intro W hSW; go_simp
          simp only [Act.put, List.setIfInBounds_toArray, List.set_cons_zero, List.set_cons_succ]
          refine wpAnyH_take (i := 11) (oi := ⟨some 39, _, _, _, _, _⟩) (v := (.pointer (some ⟨P, 0, none⟩))) rfl (by kernel_rfl) (by kernel_rfl) (by kernel_rfl) (fun _ _ _ h => h) (Or.inl ⟨by rfl, ?_⟩) (by assumption) ?_
          · intro W hSW; go_simp
          simp only [Act.put, List.setIfInBounds_toArray, List.set_cons_zero, List.set_cons_succ]
          refine wpAnyH_take (i := 12) (oi := ⟨some 40, _, _, _, _, _⟩) (v := (.pointer (some ⟨P, 5, none⟩))) rfl (by kernel_rfl) (by kernel_rfl) (by kernel_rfl) (fun _ _ _ h => h) (Or.inl ⟨by rfl, ?_⟩) (by assumption) ?_
          · intro W hSW; go_simp
          simp only [Act.put, List.setIfInBounds_toArray, List.set_cons_zero, List.set_cons_succ]
          refine wpAnyH_take (i := 13) (oi := ⟨some 41, _, _, _, _, _⟩) (v := (.pointer (some ⟨P, 5, none⟩))) rfl (by kernel_rfl) (by kernel_rfl) (by kernel_rfl) (fun _ _ _ h => h) (Or.inl ⟨by rfl, ?_⟩) (by assumption) ?_
          · intro W hSW; go_simp
          simp only [Act.put, List.setIfInBounds_toArray, List.set_cons_zero, List.set_cons_succ]
          refine wpAnyH_take (i := 14) (oi := ⟨some 42, _, _, _, _, _⟩) (v := (.slice (some ⟨g5, o5, none⟩) p.x.kb.length k5)) rfl (by kernel_rfl) (by kernel_rfl) (by kernel_rfl) (fun _ _ _ h => h) (Or.inl ⟨by rfl, ?_⟩) (by assumption) ?_
          · intro W hSW; obtain ⟨q2, q2i, q5, q5i⟩ := HXX.out W hSW; have qj := HXJ.out W hSW; go_simp
          simp only [Act.put, List.setIfInBounds_toArray, List.set_cons_zero, List.set_cons_succ]
          refine wpAnyH_take (i := 15) (oi := ⟨some 43, _, _, _, _, _⟩) (v := (.int .i64 ((i : Nat) : Int))) rfl (by kernel_rfl) (by kernel_rfl) (by kernel_rfl) (fun _ _ _ h => h) (Or.inl ⟨by rfl, ?_⟩) (by assumption) ?_
          · intro W hSW; go_simp
          simp only [Act.put, List.setIfInBounds_toArray, List.set_cons_zero, List.set_cons_succ]
          refine wpAnyH_take (i := 16) (oi := ⟨some 44, _, _, _, _, _⟩) (v := (.pointer (some ⟨g5, o5 + i, none⟩))) rfl (by kernel_rfl) (by kernel_rfl) (by kernel_rfl) (fun _ _ _ h => h) (Or.inl ⟨by rfl, ?_⟩) (by assumption) ?_
          · intro W hSW; go_simp
          simp only [Act.put, List.setIfInBounds_toArray, List.set_cons_zero, List.set_cons_succ]
          refine wpAnyH_take (i := 17) (oi := ⟨some 45, _, _, _, _, _⟩) (v := (.int .i64 (em : Int))) rfl (by kernel_rfl) (by kernel_rfl) (by kernel_rfl) (fun _ _ _ h => h) (Or.inl ⟨by rfl, ?_⟩) (by assumption) ?_
          · intro W hSW; obtain ⟨q2, q2i, q5, q5i⟩ := HXX.out W hSW; have qj := HXJ.out W hSW; go_simp
          simp only [Act.put, List.setIfInBounds_toArray, List.set_cons_zero, List.set_cons_succ]
          refine wpAnyH_take (i := 18) (oi := ⟨some 46, _, _, _, _, _⟩) (v := (.int .u8 ((em % 256 : Nat) : Int))) rfl (by kernel_rfl) (by kernel_rfl) (by kernel_rfl) (fun _ _ _ h => h) (Or.inl ⟨by rfl, ?_⟩) (by assumption) ?_
          · intro W hSW; go_simp
          simp only [Act.put, List.setIfInBounds_toArray, List.set_cons_zero, List.set_cons_succ]
          refine wpAnyH_take (i := 19) (oi := ⟨some 47, _, _, _, _, _⟩) (v := (.bool false)) rfl (by kernel_rfl) (by kernel_rfl) (by kernel_rfl) (fun _ _ _ h => h) (Or.inl ⟨by rfl, ?_⟩) (by assumption) ?_
          · intro W hSW; go_simp
          simp only [Act.put, List.setIfInBounds_toArray, List.set_cons_zero, List.set_cons_succ]
          refine wpAnyH_done (by kernel_rfl) ?_ _
          go_wp2_with fail
          go_roundw
          case rel => exact ⟨j + 1, by go_num, by omega, HA5.out⟩
          case measure => simp [intOf]; omega
        · obtain rfl : en = j := by omega
          go_wp2_with fail
          go_roundw
          case rel => exact ⟨i + 1, by go_num, by omega, HAj.out⟩
          case measure => simp [intOf]; omega
    · obtain rfl : i = p.x.kb.length := by omega
      have HA0 := hid HA.out
      go_wp2_with fail
      clear c2
      go_loopw [5] (fun v wr => ∃ i : Nat, v = .int .i64 (i : Nat) ∧ i ≤ p.x.ki.length ∧ Apart [] w wr) (fun v _ => p.x.ki.length - (intOf v).toNat)
      case atStart => exact ⟨0, rfl, Nat.zero_le _, HA0.out⟩
      case round =>
        obtain ⟨i, rfl, hi, ai⟩ := hrel
        have HA := hid ai
        obtain ⟨p2, cp2, c2, _, _⟩ := (HH.out.kept0 ai).sm.field 3 (by decide)
        rw [L3] at c2
        clear ai
        by_cases hlt : i < p.x.ki.length
        · have hz : ((i : Nat) : Int) < ((p.x.ki.length : Nat) : Int) := by omega
          obtain ⟨e, he⟩ : ∃ e, p.x.ki[i]? = some e := ⟨_, List.getElem?_eq_getElem hlt⟩
          have ho := HH.out.an.ki e (List.mem_of_getElem? he)
          have hem := hkm e (List.mem_of_getElem? he)
          obtain ⟨⟨ep, en, ec⟩, em⟩ := e
          have HO := hid ho
          have hnl := ho.nle
          dsimp only at hnl hem
          have HX : Hid (∃ g2 o2 k2 g5 o5 k5, ∀ W : World, Apart [] w W → W.cell? ⟨P, 3, none⟩ = some (.slice (some ⟨g2, o2, none⟩) p.x.ki.length k2) ∧ W.cell? ⟨g2, o2 + i, none⟩ = some (.slice ep en ec) ∧ W.cell? ⟨P, 6, none⟩ = some (.slice (some ⟨g5, o5, none⟩) p.x.ki.length k5) ∧ W.cell? ⟨g5, o5 + i, none⟩ = some (.int .i64 (em : Int))) := by
            obtain ⟨g2, o2, k2, a1, a2⟩ := cellP HH.out (Apart.refl [] w) 3 (by decide) i (.slice ep en ec) (by simp [Sx.cof, he, Sl.v])
            obtain ⟨g5, o5, k5, a3, a4⟩ := cellP HH.out (Apart.refl [] w) 6 (by decide) i (.int .i64 (em : Int)) (by simp [Sx.cof, he])
            rw [L3] at a1
            rw [show (p.x.cof 6).length = p.x.ki.length from by simp [Sx.cof]] at a3
            exact ⟨g2, o2, k2, g5, o5, k5, fun W a => ⟨(a.cell HH.out.sm.lt (by simp)).trans a1, (a.cell (block_lt_of_cell a2) (by simp)).trans a2, (a.cell HH.out.sm.lt (by simp)).trans a3, (a.cell (block_lt_of_cell a4) (by simp)).trans a4⟩⟩
          obtain ⟨g2, o2, k2, g5, o5, k5, hX⟩ := HX.out
          have HXX := hid hX
          clear hX HX c2 ho he
          obtain ⟨d2, d2i, d5, d5i⟩ := HXX.out wr HA.out
          go_wp2_with fail
          go_loopw [6] (fun v wq => ∃ j : Nat, v = .int .i64 (j : Nat) ∧ j ≤ en ∧ Apart [] w wq) (fun v _ => en - (intOf v).toNat)
          case atStart => exact ⟨0, rfl, Nat.zero_le _, HA.out⟩
          case round =>
            obtain ⟨j, rfl, hj, aj⟩ := hrel
            have HAj := hid aj
            clear d2 d2i d5 d5i
            obtain ⟨d2, d2i, d5, d5i⟩ := HXX.out wr aj
            clear aj
            by_cases hjt : j < en
            · have hjz : ((j : Nat) : Int) < ((en : Nat) : Int) := by omega
              obtain ⟨g, x, hg, hx, _⟩ := HO.out.cell (Apart.refl [] w) hjt
              dsimp only at hg
              subst hg
              have HXJ : Hid (∀ W : World, Apart [] w W → W.cell? ⟨g, j, none⟩ = some (.int .i64 (-(em : Int)))) := fun W a => by
                obtain ⟨g', x', hg', hx', hc'⟩ := HO.out.cell a hjt
                simp at hg'
                subst hg'
                rw [hc']
                have : x' = .int .i64 (-(em : Int)) := by
                  simp [List.getElem?_replicate, hjt] at hx'
                  exact hx'.symm
                rw [this]
              have HA5 : Hid (Apart [] w wr.drew) := HAj.out.drew
              clear hx
              go_wp2_with fail
              refine wp_region_held_drew (S := fun X => Apart [] w X) (by kernel_rfl) HA5.out (fun hHeld => ?_)
              refine wpAnyH_take (i := 0) (oi := ⟨some 69, _, _, _, _, _⟩) (v := (.pointer (some ⟨P, 0, none⟩))) rfl (by kernel_rfl) (by kernel_rfl) (by kernel_rfl) (fun _ _ _ h => h) (Or.inl ⟨by rfl, ?_⟩) (by assumption) ?_
              · intro W hSW; go_simp
              simp only [Act.put, List.setIfInBounds_toArray, List.set_cons_zero, List.set_cons_succ]
              refine wpAnyH_take (i := 1) (oi := ⟨some 70, _, _, _, _, _⟩) (v := (.pointer (some ⟨P, 0, none⟩))) rfl (by kernel_rfl) (by kernel_rfl) (by kernel_rfl) (fun _ _ _ h => h) (Or.inl ⟨by rfl, ?_⟩) (by assumption) ?_
              · intro W hSW; go_simp
              simp only [Act.put, List.setIfInBounds_toArray, List.set_cons_zero, List.set_cons_succ]
              refine wpAnyH_take (i := 2) (oi := ⟨some 71, _, _, _, _, _⟩) (v := (.pointer (some ⟨P, 3, none⟩))) rfl (by kernel_rfl) (by kernel_rfl) (by kernel_rfl) (fun _ _ _ h => h) (Or.inl ⟨by rfl, ?_⟩) (by assumption) ?_
              · intro W hSW; go_simp
              simp only [Act.put, List.setIfInBounds_toArray, List.set_cons_zero, List.set_cons_succ]
              refine wpAnyH_take (i := 3) (oi := ⟨some 72, _, _, _, _, _⟩) (v := (.slice (some ⟨g2, o2, none⟩) p.x.ki.length k2)) rfl (by kernel_rfl) (by kernel_rfl) (by kernel_rfl) (fun _ _ _ h => h) (Or.inl ⟨by rfl, ?_⟩) (by assumption) ?_
              · intro W hSW; obtain ⟨q2, q2i, q5, q5i⟩ := HXX.out W hSW; have qj := HXJ.out W hSW; go_simp
              simp only [Act.put, List.setIfInBounds_toArray, List.set_cons_zero, List.set_cons_succ]
              refine wpAnyH_take (i := 4) (oi := ⟨some 73, _, _, _, _, _⟩) (v := (.int .i64 ((i : Nat) : Int))) rfl (by kernel_rfl) (by kernel_rfl) (by kernel_rfl) (fun _ _ _ h => h) (Or.inl ⟨by rfl, ?_⟩) (by assumption) ?_
              · intro W hSW; go_simp
              simp only [Act.put, List.setIfInBounds_toArray, List.set_cons_zero, List.set_cons_succ]
              refine wpAnyH_take (i := 5) (oi := ⟨some 74, _, _, _, _, _⟩) (v := (.pointer (some ⟨g2, o2 + i, none⟩))) rfl (by kernel_rfl) (by kernel_rfl) (by kernel_rfl) (fun _ _ _ h => h) (Or.inl ⟨by rfl, ?_⟩) (by assumption) ?_
              · intro W hSW; go_simp
              simp only [Act.put, List.setIfInBounds_toArray, List.set_cons_zero, List.set_cons_succ]
              refine wpAnyH_take (i := 6) (oi := ⟨some 75, _, _, _, _, _⟩) (v := (.slice (some ⟨g, 0, none⟩) en ec)) rfl (by kernel_rfl) (by kernel_rfl) (by kernel_rfl) (fun _ _ _ h => h) (Or.inl ⟨by rfl, ?_⟩) (by assumption) ?_
              · intro W hSW; obtain ⟨q2, q2i, q5, q5i⟩ := HXX.out W hSW; have qj := HXJ.out W hSW; go_simp
              simp only [Act.put, List.setIfInBounds_toArray, List.set_cons_zero, List.set_cons_succ]
              refine wpAnyH_take (i := 7) (oi := ⟨some 76, _, _, _, _, _⟩) (v := (.int .i64 ((j : Nat) : Int))) rfl (by kernel_rfl) (by kernel_rfl) (by kernel_rfl) (fun _ _ _ h => h) (Or.inl ⟨by rfl, ?_⟩) (by assumption) ?_
              · intro W hSW; go_simp
              simp only [Act.put, List.setIfInBounds_toArray, List.set_cons_zero, List.set_cons_succ]
              refine wpAnyH_take (i := 8) (oi := ⟨some 77, _, _, _, _, _⟩) (v := (.pointer (some ⟨g, j, none⟩))) rfl (by kernel_rfl) (by kernel_rfl) (by kernel_rfl) (fun _ _ _ h => h) (Or.inl ⟨by rfl, ?_⟩) (by assumption) ?_
              · intro W hSW; go_simp
              simp only [Act.put, List.setIfInBounds_toArray, List.set_cons_zero, List.set_cons_succ]
              refine wpAnyH_take (i := 9) (oi := ⟨some 78, _, _, _, _, _⟩) (v := (.int .i64 (-(em : Int)))) rfl (by kernel_rfl) (by kernel_rfl) (by kernel_rfl) (fun _ _ _ h => h) (Or.inl ⟨by rfl, ?_⟩) (by assumption) ?_
              · intro W hSW; obtain ⟨q2, q2i, q5, q5i⟩ := HXX.out W hSW; have qj := HXJ.out W hSW; go_simp
              simp only [Act.put, List.setIfInBounds_toArray, List.set_cons_zero, List.set_cons_succ]
              refine wpAnyH_take (i := 10) (oi := ⟨some 79, _, _, _, _, _⟩) (v := (.pointer (some ⟨P, 0, none⟩))) rfl (by kernel_rfl) (by kernel_rfl) (by kernel_rfl) (fun _ _ _ h => h) (Or.inl ⟨by rfl, ?_⟩) (by assumption) ?_
              · intro W hSW; go_simp
              simp only [Act.put, List.setIfInBounds_toArray, List.set_cons_zero, List.set_cons_succ]
              refine wpAnyH_take (i := 11) (oi := ⟨some 80, _, _, _, _, _⟩) (v := (.pointer (some ⟨P, 0, none⟩))) rfl (by kernel_rfl) (by kernel_rfl) (by kernel_rfl) (fun _ _ _ h => h) (Or.inl ⟨by rfl, ?_⟩) (by assumption) ?_
              · intro W hSW; go_simp
              simp only [Act.put, List.setIfInBounds_toArray, List.set_cons_zero, List.set_cons_succ]
              refine wpAnyH_take (i := 12) (oi := ⟨some 81, _, _, _, _, _⟩) (v := (.pointer (some ⟨P, 5, none⟩))) rfl (by kernel_rfl) (by kernel_rfl) (by kernel_rfl) (fun _ _ _ h => h) (Or.inl ⟨by rfl, ?_⟩) (by assumption) ?_
              · intro W hSW; go_simp
              simp only [Act.put, List.setIfInBounds_toArray, List.set_cons_zero, List.set_cons_succ]
              refine wpAnyH_take (i := 13) (oi := ⟨some 82, _, _, _, _, _⟩) (v := (.pointer (some ⟨P, 6, none⟩))) rfl (by kernel_rfl) (by kernel_rfl) (by kernel_rfl) (fun _ _ _ h => h) (Or.inl ⟨by rfl, ?_⟩) (by assumption) ?_
              · intro W hSW; go_simp
              simp only [Act.put, List.setIfInBounds_toArray, List.set_cons_zero, List.set_cons_succ]
              refine wpAnyH_take (i := 14) (oi := ⟨some 83, _, _, _, _, _⟩) (v := (.slice (some ⟨g5, o5, none⟩) p.x.ki.length k5)) rfl (by kernel_rfl) (by kernel_rfl) (by kernel_rfl) (fun _ _ _ h => h) (Or.inl ⟨by rfl, ?_⟩) (by assumption) ?_
              · intro W hSW; obtain ⟨q2, q2i, q5, q5i⟩ := HXX.out W hSW; have qj := HXJ.out W hSW; go_simp
              simp only [Act.put, List.setIfInBounds_toArray, List.set_cons_zero, List.set_cons_succ]
              refine wpAnyH_take (i := 15) (oi := ⟨some 84, _, _, _, _, _⟩) (v := (.int .i64 ((i : Nat) : Int))) rfl (by kernel_rfl) (by kernel_rfl) (by kernel_rfl) (fun _ _ _ h => h) (Or.inl ⟨by rfl, ?_⟩) (by assumption) ?_
              · intro W hSW; go_simp
              simp only [Act.put, List.setIfInBounds_toArray, List.set_cons_zero, List.set_cons_succ]
              refine wpAnyH_take (i := 16) (oi := ⟨some 85, _, _, _, _, _⟩) (v := (.pointer (some ⟨g5, o5 + i, none⟩))) rfl (by kernel_rfl) (by kernel_rfl) (by kernel_rfl) (fun _ _ _ h => h) (Or.inl ⟨by rfl, ?_⟩) (by assumption) ?_
              · intro W hSW; go_simp
              simp only [Act.put, List.setIfInBounds_toArray, List.set_cons_zero, List.set_cons_succ]
              refine wpAnyH_take (i := 17) (oi := ⟨some 86, _, _, _, _, _⟩) (v := (.int .i64 (em : Int))) rfl (by kernel_rfl) (by kernel_rfl) (by kernel_rfl) (fun _ _ _ h => h) (Or.inl ⟨by rfl, ?_⟩) (by assumption) ?_
              · intro W hSW; obtain ⟨q2, q2i, q5, q5i⟩ := HXX.out W hSW; have qj := HXJ.out W hSW; go_simp
              simp only [Act.put, List.setIfInBounds_toArray, List.set_cons_zero, List.set_cons_succ]
              refine wpAnyH_take (i := 18) (oi := ⟨some 87, _, _, _, _, _⟩) (v := (.int .i64 (-(em : Int)))) rfl (by kernel_rfl) (by kernel_rfl) (by kernel_rfl) (fun _ _ _ h => h) (Or.inl ⟨by rfl, ?_⟩) (by assumption) ?_
              · intro W hSW; go_simp <;> (rw [IntKind.wrap_i64]; omega)
              simp only [Act.put, List.setIfInBounds_toArray, List.set_cons_zero, List.set_cons_succ]
              refine wpAnyH_take (i := 19) (oi := ⟨some 88, _, _, _, _, _⟩) (v := (.bool false)) rfl (by kernel_rfl) (by kernel_rfl) (by kernel_rfl) (fun _ _ _ h => h) (Or.inl ⟨by rfl, ?_⟩) (by assumption) ?_
              · intro W hSW; go_simp
              simp only [Act.put, List.setIfInBounds_toArray, List.set_cons_zero, List.set_cons_succ]
              refine wpAnyH_done (by kernel_rfl) ?_ _
              go_wp2_with fail
              go_roundw
              case rel => exact ⟨j + 1, by go_num, by omega, HA5.out⟩
              case measure => simp [intOf]; omega
            · obtain rfl : en = j := by omega
              go_wp2_with fail
              go_roundw
              case rel => exact ⟨i + 1, by go_num, by omega, HAj.out⟩
              case measure => simp [intOf]; omega
        · obtain rfl : i = p.x.ki.length := by omega
          go_wp2
          go_ret
          exact ⟨rfl, HA.out⟩
end Go.Proofs.Ytiakcfjbnlibfaa.nt
