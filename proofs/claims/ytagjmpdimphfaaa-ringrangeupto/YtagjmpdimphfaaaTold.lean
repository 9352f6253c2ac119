import Derived.Test.YtagjmpdimphfaaaAsm2
import Derived.Deep.CutRange
namespace Go.Proofs.Ytagjmpdimphfaaa.rg
open Go.ChangeShapes Go.WideShapes Go.ChangeAt Go.RowKit
set_option linter.unusedVariables false
set_option linter.unusedSimpArgs false
set_option maxHeartbeats 8000000 in
set_option maxRecDepth 100000 in
theorem told_ok {w : World} {S mark : Nat} {d : Sd} {who : Nat → Option Nat} (h : Sh w S mark d who) (hmk : mark ≤ 900) (p : Option Addr) (n cap : Nat) (zs : List Int) (ha : (An.mk p n cap zs).At w) (hfr : ∀ b, (An.mk p n cap zs).blk = some b → who b = none) (hn8 : n ≤ 8)
    (q : Option Addr) (c : Nat) (hq : Ir w q n zs) (e : Int) :
    Calls Try.prog 33 #[.pointer (some ⟨S, 0, none⟩), .slice p n cap, .int .i64 e, .slice q n c, .int .i64 e] w fun r w' => ToldPost w w' r S mark who (An.mk p n cap zs).blk := by
  have HS : Hid (Sh w S mark d who) := h
  have HCL : Hid (∀ f, f ∈ fs → (d.c f).length ≤ 1000) := h.cl hmk
  have HA0 : Hid ((An.mk p n cap zs).At w) := ha
  have HFR : Hid (∀ b, (An.mk p n cap zs).blk = some b → who b = none) := hfr
  have hir : Ir w p n zs := ha.ir
  clear h ha hfr
  go_enter Try.func33, Try.ntmps33
  go_wp2_with (go_at_call 11; refine (num_ok _ _).mono ?_; rintro e w' ⟨rfl, rfl⟩)
  refine (same_yes hir hq (by omega) (by omega)).mono ?_
  rintro r w1 ⟨rfl, a1⟩
  dsimp only
  have HH : Hid (Sh w1 S mark d who) := HS.out.kept0 a1
  have HA : Hid ((An.mk p n cap zs).At w1) := HA0.out.kept a1 (by simp)
  have hls4 := HH.out.pl.l4
  have hlm := HH.out.pl.lm
  obtain ⟨L, HL⟩ : ∃ L, Hid (L = d.ls.length) := ⟨_, rfl⟩
  rw [← HL.out] at hls4
  have hf0 : ∃ p0 cp0, Hid (∀ wr, Apart [] w1 wr → wr.cell? ⟨S, 0, none⟩ = some (.slice p0 L cp0) ∧ ∀ (i : Nat) (a : An), d.ls[i]? = some a → ∃ g o, p0 = some ⟨g, o, none⟩ ∧ wr.cell? ⟨g, o + i, none⟩ = some (.slice a.p a.n a.cap)) := by
    obtain ⟨p0, cp0, hc, _, hel⟩ := HH.out.sm.field 0 (by simp [fs])
    have hl0 : (d.c 0).length = L := by rw [HL.out]; simp [Sd.c]
    rw [hl0] at hc
    refine ⟨p0, cp0, fun wr aR => ⟨(aR.cell (p := ⟨S, 0, none⟩) HH.out.sm.lt (by simp)).trans hc, fun i a hi => ?_⟩⟩
    obtain ⟨g, o, hp, hx⟩ := hel i a.v (by simp [Sd.c, hi])
    exact ⟨g, o, hp, (aR.cell (p := ⟨g, o + i, none⟩) (block_lt_of_cell hx) (by simp)).trans hx⟩
  have hf1 : ∃ p1 cp1, Hid (∀ wr, Apart [] w1 wr → wr.cell? ⟨S, 1, none⟩ = some (.slice p1 L cp1) ∧ ∀ (i : Nat) (m : Int), d.mks[i]? = some m → ∃ g o, p1 = some ⟨g, o, none⟩ ∧ wr.cell? ⟨g, o + i, none⟩ = some (.int .i64 m)) := by
    obtain ⟨p0, cp0, hc, _, hel⟩ := HH.out.sm.field 1 (by simp [fs])
    have hl0 : (d.c 1).length = L := by rw [HL.out, hlm]; simp [Sd.c, flZ]
    rw [hl0] at hc
    refine ⟨p0, cp0, fun wr aR => ⟨(aR.cell (p := ⟨S, 1, none⟩) HH.out.sm.lt (by simp)).trans hc, fun i m hi => ?_⟩⟩
    obtain ⟨g, o, hp, hx⟩ := hel i (.int .i64 m) (by simp [Sd.c, flZ, hi])
    exact ⟨g, o, hp, (aR.cell (p := ⟨g, o + i, none⟩) (block_lt_of_cell hx) (by simp)).trans hx⟩
  have HLM : Hid (d.mks.length = L) := by show d.mks.length = L; rw [← hlm, HL.out]
  clear hq hir hlm HA0
  obtain ⟨p0, cp0, HF0⟩ := hf0
  obtain ⟨p1, cp1, HF1⟩ := hf1
  go_wp2_with fail
  go_loopw [11, 12] (fun ok v wr => ∃ i : Nat, i ≤ L ∧ v = .int .i64 i ∧ ok = .bool true ∧ Apart [] w1 wr) (fun _ v _ => L - (intOf v).toNat)
  case atStart => exact ⟨0, Nat.zero_le _, rfl, rfl, Apart.refl _ _⟩
  case round =>
    obtain ⟨i, hi, rfl, rfl, aR⟩ := hrel
    have cS0 := (HF0.out _ aR).1
    by_cases hlt : i < L
    · have hil : i < d.ls.length := by rw [← HL.out]; exact hlt
      have him : i < d.mks.length := by rw [HLM.out]; exact hlt
      obtain ⟨x, Hx⟩ : ∃ x, Hid (d.ls[i]? = some x) := ⟨_, List.getElem?_eq_getElem hil⟩
      obtain ⟨m, Hm⟩ : ∃ m, Hid (d.mks[i]? = some m) := ⟨_, List.getElem?_eq_getElem him⟩
      have Hz := HH.out.pl.mrk i x m Hx.out Hm.out
      obtain ⟨xAt, _, xn8⟩ := HH.out.als x (List.mem_of_getElem? Hx.out)
      obtain ⟨g, o, rfl, _⟩ := (HF0.out _ aR).2 i x Hx.out
      obtain ⟨g1, o1, rfl, _⟩ := (HF1.out _ aR).2 i m Hm.out
      have HZ : Hid (∀ z ∈ x.zs, z = m) := Hz
      clear Hz hil him
      go_wp2_with fail
      go_loopw [11, 13] (fun ok v w2 => ∃ j : Nat, j ≤ x.n ∧ v = .int .i64 j ∧ ok = .bool true ∧ Apart [] w1 w2) (fun _ v _ => x.n - (intOf v).toNat)
      case atStart => exact ⟨0, Nat.zero_le _, rfl, rfl, aR⟩
      case round =>
        clear cS0
        obtain ⟨j, hj, rfl, rfl, aR2⟩ := hrel
        obtain ⟨dS0, dE0⟩ := HF0.out _ aR2
        obtain ⟨dS1, dE1⟩ := HF1.out _ aR2
        obtain ⟨g', o', he, cE0⟩ := dE0 i x Hx.out
        simp only [Option.some.injEq, Addr.mk.injEq, and_true] at he
        obtain ⟨rfl, rfl⟩ := he
        obtain ⟨g', o', he, cE1⟩ := dE1 i m Hm.out
        simp only [Option.some.injEq, Addr.mk.injEq, and_true] at he
        obtain ⟨rfl, rfl⟩ := he
        clear dE0 dE1
        by_cases hjn : j < x.n
        · have hir := (xAt.kept aR2 (by simp)).ir
          obtain ⟨P, oo, hxp, hPP, hcc⟩ := hir.at' (by omega)
          have hPw : P < w1.heap.size := by
            rcases xAt with ⟨h1, _⟩ | ⟨P', o', h1, h2⟩
            · rw [h1] at hxp; cases hxp
            · rw [h1] at hxp; simp at hxp; rw [← hxp.1]; exact h2.lt
          have hzj : x.zs.getD j 0 = m := by
            have hjl : j < x.zs.length := by rw [hir.len]; exact hjn
            rw [List.getD_eq_getElem?_getD, List.getElem?_eq_getElem hjl]
            exact HZ.out _ (List.getElem_mem hjl)
          have r4 : ∀ X, Apart [] w1 X → X.cell? ⟨P, oo + j, none⟩ = some (.int .i64 m) := fun X aX => by
            have := (xAt.kept aX (by simp)).ir
            obtain ⟨P', o', hxp', _, hc'⟩ := this.at' (by omega)
            rw [hxp] at hxp'
            simp at hxp'
            have := hc' j hjn
            rw [hzj] at this
            rw [hxp'.1, hxp'.2]; exact this
          have r0 : ∀ X, Apart [] w1 X → X.cell? ⟨S, 0, none⟩ = some (.slice (some ⟨g, o, none⟩) L cp0) := fun X aX => (HF0.out X aX).1
          have r1 : ∀ X, Apart [] w1 X → X.cell? ⟨S, 1, none⟩ = some (.slice (some ⟨g1, o1, none⟩) L cp1) := fun X aX => (HF1.out X aX).1
          obtain ⟨xn, Hxn⟩ : ∃ xn, Hid (xn = x.n) := ⟨_, rfl⟩
          obtain ⟨xc, Hxc⟩ : ∃ xc, Hid (xc = x.cap) := ⟨_, rfl⟩
          have r2 : ∀ X, Apart [] w1 X → X.cell? ⟨g, o + i, none⟩ = some (.slice (some ⟨P, oo, none⟩) xn xc) := fun X aX => by
            obtain ⟨g', o', he, hx⟩ := (HF0.out X aX).2 i x Hx.out
            simp only [Option.some.injEq, Addr.mk.injEq, and_true] at he
            rw [← he.1, ← he.2, hxp] at hx
            rw [Hxn.out, Hxc.out]; exact hx
          have r3 : ∀ X, Apart [] w1 X → X.cell? ⟨g1, o1 + i, none⟩ = some (.int .i64 m) := fun X aX => by
            obtain ⟨g', o', he, hx⟩ := (HF1.out X aX).2 i m Hm.out
            simp only [Option.some.injEq, Addr.mk.injEq, and_true] at he
            rw [← he.1, ← he.2] at hx
            exact hx
          rw [hxp] at cE0
          rw [← Hxn.out, ← Hxc.out] at cE0
          have hjn' : j < xn := by rw [Hxn.out]; exact hjn
          have HJN : Hid (j < x.n) := hjn
          clear hcc hir hzj hjn dS1 cE1
          go_wp2_with fail
          have aD : Apart [] w1 wr.drew := aR2.drew
          refine wp_region_held_drew (S := fun X => Apart [] w1 X) (by kernel_rfl) aD (fun hHeld => ?_)
          refine wpAnyH_take (i := 0) (oi := ⟨some 47, _, _, _, _, _⟩) (v := (.bool true)) rfl (by kernel_rfl) (by kernel_rfl) (by kernel_rfl) (fun _ _ _ h => h) (Or.inl ⟨by rfl, ?_⟩) (by assumption) ?_
          · intro W hSW; go_simp
          simp only [Act.put, List.setIfInBounds_toArray, List.set_cons_zero, List.set_cons_succ]
          refine wpAnyH_take (i := 1) (oi := ⟨some 48, _, _, _, _, _⟩) (v := (.bool true)) rfl (by kernel_rfl) (by kernel_rfl) (by kernel_rfl) (fun _ _ _ h => h) (Or.inl ⟨by rfl, ?_⟩) (by assumption) ?_
          · intro W hSW; go_simp
          simp only [Act.put, List.setIfInBounds_toArray, List.set_cons_zero, List.set_cons_succ]
          refine wpAnyH_take (i := 2) (oi := ⟨some 49, _, _, _, _, _⟩) (v := (.pointer (some ⟨S, 0, none⟩))) rfl (by kernel_rfl) (by kernel_rfl) (by kernel_rfl) (fun _ _ _ h => h) (Or.inl ⟨by rfl, ?_⟩) (by assumption) ?_
          · intro W hSW; go_simp
          simp only [Act.put, List.setIfInBounds_toArray, List.set_cons_zero, List.set_cons_succ]
          refine wpAnyH_take (i := 3) (oi := ⟨some 50, _, _, _, _, _⟩) (v := (.pointer (some ⟨S, 0, none⟩))) rfl (by kernel_rfl) (by kernel_rfl) (by kernel_rfl) (fun _ _ _ h => h) (Or.inl ⟨by rfl, ?_⟩) (by assumption) ?_
          · intro W hSW; go_simp
          simp only [Act.put, List.setIfInBounds_toArray, List.set_cons_zero, List.set_cons_succ]
          refine wpAnyH_take (i := 4) (oi := ⟨some 51, _, _, _, _, _⟩) (v := (.pointer (some ⟨S, 0, none⟩))) rfl (by kernel_rfl) (by kernel_rfl) (by kernel_rfl) (fun _ _ _ h => h) (Or.inl ⟨by rfl, ?_⟩) (by assumption) ?_
          · intro W hSW; go_simp
          simp only [Act.put, List.setIfInBounds_toArray, List.set_cons_zero, List.set_cons_succ]
          refine wpAnyH_take (i := 5) (oi := ⟨some 52, _, _, _, _, _⟩) (v := (.slice (some ⟨g, o, none⟩) L cp0)) rfl (by kernel_rfl) (by kernel_rfl) (by kernel_rfl) (fun _ _ _ h => h) (Or.inl ⟨by rfl, ?_⟩) (by assumption) ?_
          · intro W hSW; go_simp
          simp only [Act.put, List.setIfInBounds_toArray, List.set_cons_zero, List.set_cons_succ]
          refine wpAnyH_take (i := 6) (oi := ⟨some 53, _, _, _, _, _⟩) (v := (.int .i64 (i : Nat))) rfl (by kernel_rfl) (by kernel_rfl) (by kernel_rfl) (fun _ _ _ h => h) (Or.inl ⟨by rfl, ?_⟩) (by assumption) ?_
          · intro W hSW; go_simp
          simp only [Act.put, List.setIfInBounds_toArray, List.set_cons_zero, List.set_cons_succ]
          refine wpAnyH_take (i := 7) (oi := ⟨some 54, _, _, _, _, _⟩) (v := (.pointer (some ⟨g, o + i, none⟩))) rfl (by kernel_rfl) (by kernel_rfl) (by kernel_rfl) (fun _ _ _ h => h) (Or.inl ⟨by rfl, ?_⟩) (by assumption) ?_
          · intro W hSW; go_simp
          simp only [Act.put, List.setIfInBounds_toArray, List.set_cons_zero, List.set_cons_succ]
          refine wpAnyH_take (i := 8) (oi := ⟨some 55, _, _, _, _, _⟩) (v := (.slice (some ⟨P, oo, none⟩) xn xc)) rfl (by kernel_rfl) (by kernel_rfl) (by kernel_rfl) (fun _ _ _ h => h) (Or.inl ⟨by rfl, ?_⟩) (by assumption) ?_
          · intro W hSW; go_simp
          simp only [Act.put, List.setIfInBounds_toArray, List.set_cons_zero, List.set_cons_succ]
          refine wpAnyH_take (i := 9) (oi := ⟨some 56, _, _, _, _, _⟩) (v := (.int .i64 (j : Nat))) rfl (by kernel_rfl) (by kernel_rfl) (by kernel_rfl) (fun _ _ _ h => h) (Or.inl ⟨by rfl, ?_⟩) (by assumption) ?_
          · intro W hSW; go_simp
          simp only [Act.put, List.setIfInBounds_toArray, List.set_cons_zero, List.set_cons_succ]
          refine wpAnyH_take (i := 10) (oi := ⟨some 57, _, _, _, _, _⟩) (v := (.pointer (some ⟨P, oo + j, none⟩))) rfl (by kernel_rfl) (by kernel_rfl) (by kernel_rfl) (fun _ _ _ h => h) (Or.inl ⟨by rfl, ?_⟩) (by assumption) ?_
          · intro W hSW; go_simp
          simp only [Act.put, List.setIfInBounds_toArray, List.set_cons_zero, List.set_cons_succ]
          refine wpAnyH_take (i := 11) (oi := ⟨some 58, _, _, _, _, _⟩) (v := (.int .i64 m)) rfl (by kernel_rfl) (by kernel_rfl) (by kernel_rfl) (fun _ _ _ h => h) (Or.inl ⟨by rfl, ?_⟩) (by assumption) ?_
          · intro W hSW; go_simp
          simp only [Act.put, List.setIfInBounds_toArray, List.set_cons_zero, List.set_cons_succ]
          refine wpAnyH_take (i := 12) (oi := ⟨some 59, _, _, _, _, _⟩) (v := (.pointer (some ⟨S, 0, none⟩))) rfl (by kernel_rfl) (by kernel_rfl) (by kernel_rfl) (fun _ _ _ h => h) (Or.inl ⟨by rfl, ?_⟩) (by assumption) ?_
          · intro W hSW; go_simp
          simp only [Act.put, List.setIfInBounds_toArray, List.set_cons_zero, List.set_cons_succ]
          refine wpAnyH_take (i := 13) (oi := ⟨some 60, _, _, _, _, _⟩) (v := (.pointer (some ⟨S, 0, none⟩))) rfl (by kernel_rfl) (by kernel_rfl) (by kernel_rfl) (fun _ _ _ h => h) (Or.inl ⟨by rfl, ?_⟩) (by assumption) ?_
          · intro W hSW; go_simp
          simp only [Act.put, List.setIfInBounds_toArray, List.set_cons_zero, List.set_cons_succ]
          refine wpAnyH_take (i := 14) (oi := ⟨some 61, _, _, _, _, _⟩) (v := (.pointer (some ⟨S, 1, none⟩))) rfl (by kernel_rfl) (by kernel_rfl) (by kernel_rfl) (fun _ _ _ h => h) (Or.inl ⟨by rfl, ?_⟩) (by assumption) ?_
          · intro W hSW; go_simp
          simp only [Act.put, List.setIfInBounds_toArray, List.set_cons_zero, List.set_cons_succ]
          refine wpAnyH_take (i := 15) (oi := ⟨some 62, _, _, _, _, _⟩) (v := (.slice (some ⟨g1, o1, none⟩) L cp1)) rfl (by kernel_rfl) (by kernel_rfl) (by kernel_rfl) (fun _ _ _ h => h) (Or.inl ⟨by rfl, ?_⟩) (by assumption) ?_
          · intro W hSW; go_simp
          simp only [Act.put, List.setIfInBounds_toArray, List.set_cons_zero, List.set_cons_succ]
          refine wpAnyH_take (i := 16) (oi := ⟨some 63, _, _, _, _, _⟩) (v := (.int .i64 (i : Nat))) rfl (by kernel_rfl) (by kernel_rfl) (by kernel_rfl) (fun _ _ _ h => h) (Or.inl ⟨by rfl, ?_⟩) (by assumption) ?_
          · intro W hSW; go_simp
          simp only [Act.put, List.setIfInBounds_toArray, List.set_cons_zero, List.set_cons_succ]
          refine wpAnyH_take (i := 17) (oi := ⟨some 64, _, _, _, _, _⟩) (v := (.pointer (some ⟨g1, o1 + i, none⟩))) rfl (by kernel_rfl) (by kernel_rfl) (by kernel_rfl) (fun _ _ _ h => h) (Or.inl ⟨by rfl, ?_⟩) (by assumption) ?_
          · intro W hSW; go_simp
          simp only [Act.put, List.setIfInBounds_toArray, List.set_cons_zero, List.set_cons_succ]
          refine wpAnyH_take (i := 18) (oi := ⟨some 65, _, _, _, _, _⟩) (v := (.int .i64 m)) rfl (by kernel_rfl) (by kernel_rfl) (by kernel_rfl) (fun _ _ _ h => h) (Or.inl ⟨by rfl, ?_⟩) (by assumption) ?_
          · intro W hSW; go_simp
          simp only [Act.put, List.setIfInBounds_toArray, List.set_cons_zero, List.set_cons_succ]
          refine wpAnyH_take (i := 19) (oi := ⟨some 66, _, _, _, _, _⟩) (v := (.bool true)) rfl (by kernel_rfl) (by kernel_rfl) (by kernel_rfl) (fun _ _ _ h => h) (Or.inl ⟨by rfl, ?_⟩) (by assumption) ?_
          · intro W hSW; go_simp
          simp only [Act.put, List.setIfInBounds_toArray, List.set_cons_zero, List.set_cons_succ]
          refine wpAnyH_take (i := 20) (oi := ⟨some 67, _, _, _, _, _⟩) (v := (.bool true)) rfl (by kernel_rfl) (by kernel_rfl) (by kernel_rfl) (fun _ _ _ h => h) (Or.inl ⟨by rfl, ?_⟩) (by assumption) ?_
          · intro W hSW; go_simp
          simp only [Act.put, List.setIfInBounds_toArray, List.set_cons_zero, List.set_cons_succ]
          refine wpAnyH_take (i := 21) (oi := ⟨some 11, _, _, _, _, _⟩) (v := (.bool true)) rfl (by kernel_rfl) (by kernel_rfl) (by kernel_rfl) (fun _ _ _ h => h) (Or.inl ⟨by rfl, ?_⟩) (by assumption) ?_
          · intro W hSW; go_simp
          simp only [Act.put, List.setIfInBounds_toArray, List.set_cons_zero, List.set_cons_succ]
          refine wpAnyH_done (by kernel_rfl) ?_ _
          go_wp2_with fail
          go_roundw
          case rel => exact ⟨j + 1, HJN.out, by simp, rfl, by assumption⟩
          case measure => have := HJN.out; simp only [intOf]; omega
        · have hje : j = x.n := by omega
          obtain ⟨xn, Hxn⟩ : ∃ xn, Hid (xn = x.n) := ⟨_, rfl⟩
          rw [← Hxn.out] at cE0
          rw [← Hxn.out] at hje
          subst hje
          clear dS1 cE1 hjn hj
          go_wp2_with fail
          go_roundw
          case rel => exact ⟨i + 1, by omega, by simp, rfl, aR2⟩
          case measure => simp only [intOf]; omega
    · have HW : Hid (Sh wr S mark d who) := HH.out.kept0 aR
      have HAr : Hid ((An.mk p n cap zs).At wr) := HA.out.kept aR (by simp)
      have HA1 : Hid (Apart [] _ wr) := a1.trans aR
      obtain ⟨m2, f2⟩ := HW.out.sm.mark2
      clear HH HA HF0 HF1 a1 aR HLM HL hls4
      obtain rfl : i = L := by omega
      have hSlt := HW.out.sm.lt
      by_cases hodd : (mark + 1) % 2 = 1
      · have hp : ((mark : Int) + 1).tmod 2 = 1 := by
          rw [show ((mark : Int) + 1) = ((mark + 1 : Nat) : Int) by omega, show (2 : Int) = ((2 : Nat) : Int) from rfl, ← Int.ofNat_tmod, hodd]; rfl
        have HM : Hid (Sm (wr.setCell ⟨S, 2, none⟩ (.int .i64 ((mark : Int) + 1))) S (mark + 1) d.c who) := by
          have := HW.out.sm.setMark (mark + 1)
          rw [show ((mark + 1 : Nat) : Int) = (mark : Int) + 1 by omega] at this
          exact this
        have a2 : Apart [S] wr (wr.setCell ⟨S, 2, none⟩ (.int .i64 ((mark : Int) + 1))) := (Apart.refl [S] wr).setCell (by simp) _
        have HA2 : Hid ((An.mk p n cap zs).At (wr.setCell ⟨S, 2, none⟩ (.int .i64 ((mark : Int) + 1)))) := HAr.out.kept a2 (fun b hb hm => by
          simp at hm; subst hm
          have := HFR.out b hb; rw [HW.out.sm.wS] at this; cases this)
        have hl3 : (d.c 3).length ≤ 1000 := HCL.out 3 (by simp [fs])
        have hl4 : (d.c 4).length ≤ 1000 := HCL.out 4 (by simp [fs])
        obtain ⟨p3, c3, e3, f3, _⟩ := HW.out.sm.field 3 (by simp [fs])
        have e3' : (wr.setCell ⟨S, 2, none⟩ (.int .i64 ((mark : Int) + 1))).cell? ⟨S, 3, none⟩ = some (.slice p3 (d.c 3).length c3) := by
          rw [World.cell?_setCell_other]
          · exact e3
          · intro hh; cases hh
        obtain ⟨p3', c3', w3, hrun3, ⟨y3, ey3⟩, fy3, who3, X3, sm3, up3, dn3, ap3, hx3⟩ := HM.out.app 3 (by simp [fs]) (.slice p n cap) rfl hl3 e3' 51
        have HE3 : Hid ((wr.setCell ⟨S, 2, none⟩ (.int .i64 ((mark : Int) + 1))).cell? ⟨S, 3, none⟩ = some (.slice p3 (d.c 3).length c3)) := e3'
        clear e3'
        obtain ⟨n3, Hn3⟩ : ∃ n3, Hid (n3 = (d.c 3).length) := ⟨_, rfl⟩
        have HSM3 : Hid (Sm (w3.setCell ⟨S, 3, none⟩ (.slice p3' (n3 + 1) c3')) S (mark + 1) (updC d.c 3 (d.c 3 ++ [.slice p n cap])) who3) := by rw [Hn3.out]; exact sm3
        have HUP3 : Hid (∀ k s, who k = some s → who3 k = some s) := up3
        have HDN3 : Hid (∀ k s, who3 k = some s → who k = some s ∨ ((wr.setCell ⟨S, 2, none⟩ (.int .i64 ((mark : Int) + 1))).heap.size ≤ k ∧ s = 3 + 1)) := dn3
        have HAP3 : Hid (Apart X3 (wr.setCell ⟨S, 2, none⟩ (.int .i64 ((mark : Int) + 1))) (w3.setCell ⟨S, 3, none⟩ (.slice p3' (n3 + 1) c3'))) := by rw [Hn3.out]; exact ap3
        have HX3 : Hid (∀ k ∈ X3, who k = some 0 ∨ who k = some (3 + 1)) := hx3
        rw [← Hn3.out] at e3 hrun3
        clear sm3 up3 dn3 ap3 hx3
        have hn3 : n3 ≤ 1000 := by rw [Hn3.out]; exact hl3
        have hws : (wr.setCell ⟨S, 2, none⟩ (.int .i64 ((mark : Int) + 1))).heap.size = wr.heap.size := by simp [World.setCell]
        rw [show sty 3 = 51 from rfl, show ety 3 = 28 from rfl, hws] at hrun3
        go_wp2_with (at_builtin; refine wpList_append3 rfl _ _ 51 rfl _ _ rfl rfl _ _ hrun3 ?_)
        have HA3 : Hid ((An.mk p n cap zs).At (w3.setCell ⟨S, 3, none⟩ (.slice p3' (n3 + 1) c3'))) := HA2.out.kept HAP3.out (fun b hb hm => by
          have h0 := HFR.out b hb
          rcases HX3.out b hm with h1 | h1 <;> rw [h0] at h1 <;> cases h1)
        have HAPr : Hid (Apart (S :: X3) wr (w3.setCell ⟨S, 3, none⟩ (.slice p3' (n3 + 1) c3'))) := (a2.mono (by simp)).trans (HAP3.out.mono (by simp +contextual))
        clear HAP3 a2 HA2 HM ey3 fy3 hrun3 e3 f3 HE3 m2 f2
        generalize w3.setCell ⟨S, 3, none⟩ (.slice p3' (n3 + 1) c3') = W3 at *
        have hc4 : updC d.c 3 (d.c 3 ++ [.slice p n cap]) 4 = d.c 4 := by simp [updC]
        obtain ⟨p5, c5, wA, hrunA, hA, aA, nA⟩ := copy_run (HA3.out.kept ((Apart.refl [] W3).drewN 1) (by simp)) (by omega) 28
        have a3A : Apart [] W3 wA := ((Apart.refl [] W3).drewN 1).trans aA
        have HSMA : Hid (Sm wA S (mark + 1) (updC d.c 3 (d.c 3 ++ [.slice p n cap])) who3) := HSM3.out.kept0 a3A
        obtain ⟨p4, c4, e4, f4, _⟩ := HSM3.out.field 4 (by simp [fs])
        rw [hc4] at e4
        have eA4 : wA.cell? ⟨S, 4, none⟩ = some (.slice p4 (d.c 4).length c4) := (a3A.cell (p := ⟨S, 4, none⟩) HSM3.out.lt (by simp)).trans e4
        obtain ⟨p4', c4', w5, hrun4, ⟨y4, ey4⟩, fy4, who5, X5, sm5, up5, dn5, ap5, hx5⟩ := HSMA.out.app 4 (by simp [fs]) (.slice p5 n c5) rfl (by rw [hc4]; exact hl4) (by rw [hc4]; exact eA4) 51
        rw [hc4] at hrun4 sm5 ap5
        obtain ⟨n4, Hn4⟩ : ∃ n4, Hid (n4 = (d.c 4).length) := ⟨_, rfl⟩
        have hn4 : n4 ≤ 1000 := by rw [Hn4.out]; exact hl4
        rw [← Hn4.out] at e4 eA4 hrun4 ap5
        have HSM5 : Hid (Sm (w5.setCell ⟨S, 4, none⟩ (.slice p4' (n4 + 1) c4')) S (mark + 1) (updC (updC d.c 3 (d.c 3 ++ [.slice p n cap])) 4 (d.c 4 ++ [.slice p5 n c5])) who5) := by rw [Hn4.out]; exact sm5
        have HUP5 : Hid (∀ k s, who3 k = some s → who5 k = some s) := up5
        have HDN5 : Hid (∀ k s, who5 k = some s → who3 k = some s ∨ (wA.heap.size ≤ k ∧ s = 4 + 1)) := dn5
        have HX5 : Hid (∀ k ∈ X5, who3 k = some 0 ∨ who3 k = some (4 + 1)) := hx5
        have HAP5 : Hid (Apart X5 wA (w5.setCell ⟨S, 4, none⟩ (.slice p4' (n4 + 1) c4'))) := ap5
        have HCP : Hid ((An.mk p5 n c5 zs).At wA) := hA
        have HNA : Hid (∀ b, (An.mk p5 n c5 zs).blk = some b → (W3.drewN 1).heap.size ≤ b) := nA
        have HA3A : Hid (Apart [] W3 wA) := a3A
        have hS3 := HSM3.out.lt
        have hSA := HSMA.out.lt
        have fA4 : wA.frozen? ⟨S, 4, none⟩ = false := by
          obtain ⟨v, G, hr, _⟩ := HSMA.out.ex
          exact frozen_of_row _ _ _ _ _ hr
        rw [show sty 4 = 51 from rfl, show ety 4 = 28 from rfl] at hrun4
        clear sm5 up5 dn5 hx5 ap5 hA nA a3A aA
        go_region_law (first | (refine step_append3 rfl (.const (.slice none 0 0)) (.tmp 96) 28 rfl _ _ rfl rfl _ _ hrunA ?_) | (refine step_append3 rfl (.tmp 95) (.tmp 98) 51 rfl _ _ rfl rfl _ _ hrun4 ?_))
        all_goals
          go_wp2_with fail
          go_ret
          have hsz : wr.heap.size ≤ W3.heap.size := HAPr.out.size
          have hsA : W3.heap.size ≤ wA.heap.size := HA3A.out.size
          have dn1 : ∀ k s, who3 k = some s → who k = some s ∨ wr.heap.size ≤ k := fun k s hk => by
            rcases HDN3.out k s hk with h1 | ⟨h1, _⟩
            · exact .inl h1
            · exact .inr (by omega)
          have blk : ∀ k, k < wr.heap.size → (∀ s, who k = some s → 6 ≤ s) → (w5.setCell ⟨S, 4, none⟩ (.slice p4' (n4 + 1) c4')).heap[k]? = wr.heap[k]? := by
            intro k hk hs
            have k1 : k ∉ S :: X3 := fun hm => by
              rcases List.mem_cons.1 hm with rfl | hm
              · have := hs 0 HW.out.sm.wS; omega
              · rcases HX3.out k hm with h1 | h1 <;> have := hs _ h1 <;> omega
            have k2 : k ∉ X5 := fun hm => by
              rcases HX5.out k hm with h1 | h1 <;> rcases dn1 k _ h1 with h2 | h2
              · have := hs _ h2; omega
              · omega
              · have := hs _ h2; omega
              · omega
            rw [HAP5.out.block k (by omega) k2, HA3A.out.block k (by omega) (by simp), HAPr.out.block k hk k1]
          have hex := asm_odd (WF := w5.setCell ⟨S, 4, none⟩ (.slice p4' (n4 + 1) c4')) HW.out (An.mk p n cap zs) (An.mk p5 n c5 zs) HSM5.out (fun k s hk => HUP5.out k s (HUP3.out k s hk))
            (fun k s hk => by
              rcases HDN5.out k s hk with h1 | ⟨h1, _⟩
              · exact dn1 k s h1
              · exact .inr (by omega))
            blk HAr.out HFR.out hn8
            (HCP.out.kept HAP5.out (fun b hb hm => by
              have h1 := HNA.out b hb
              rcases HX5.out b hm with h2 | h2 <;> have h3 := HSM3.out.own b _ h2 <;> exact absurd h3 (Nat.not_lt.2 h1)))
            (fun b hb => by
              have h1 : W3.heap.size ≤ b := HNA.out b hb
              refine ⟨by omega, ?_⟩
              cases hw : who5 b with
              | none => rfl
              | some s =>
                rcases HDN5.out b s hw with h2 | ⟨h2, _⟩
                · have := HSM3.out.own b s h2; omega
                · have := HCP.out.blk_lt hb; omega)
            hn8 rfl
          obtain ⟨d', who', hSh, hwho⟩ := hex
          have hs1 := HA1.out.size
          have hs5 := HAP5.out.size
          refine ⟨rfl, ⟨d', who', hSh, fun k s hk => ?_⟩, ⟨?_, ?_, ?_, by omega, fun k hk hK => ?_⟩⟩
          · rcases hwho k s hk with h1 | h1 | h1
            · exact .inl h1
            · exact .inr (.inl h1)
            · exact .inr (.inr (by omega))
          · rw [HAP5.out.os, HA3A.out.os, HAPr.out.os, HA1.out.os]
          · rw [HAP5.out.tape, HA3A.out.tape, HAPr.out.tape, HA1.out.tape]
          · rw [HAP5.out.output, HA3A.out.output, HAPr.out.output, HA1.out.output]
          · rw [blk k (by omega) (fun s hs => by rw [hK.1] at hs; cases hs), HA1.out.block k hk (by simp)]
      · obtain ⟨B0, rfl⟩ : ∃ B0 : World, B0 = wr := ⟨_, rfl⟩
        have hp : ((mark : Int) + 1).tmod 2 = 0 := by
          have hev : (mark + 1) % 2 = 0 := by omega
          rw [show ((mark : Int) + 1) = ((mark + 1 : Nat) : Int) by omega, show (2 : Int) = ((2 : Nat) : Int) from rfl, ← Int.ofNat_tmod, hev]; rfl
        have HM : Hid (Sm (B0.setCell ⟨S, 2, none⟩ (.int .i64 ((mark : Int) + 1))) S (mark + 1) d.c who) := by
          have := HW.out.sm.setMark (mark + 1)
          rw [show ((mark + 1 : Nat) : Int) = (mark : Int) + 1 by omega] at this
          exact this
        have a2 : Apart [S] B0 (B0.setCell ⟨S, 2, none⟩ (.int .i64 ((mark : Int) + 1))) := (Apart.refl [S] B0).setCell (by simp) _
        have HA2 : Hid ((An.mk p n cap zs).At (B0.setCell ⟨S, 2, none⟩ (.int .i64 ((mark : Int) + 1)))) := HAr.out.kept a2 (fun b hb hm => by
          simp at hm; subst hm
          have := HFR.out b hb; rw [HW.out.sm.wS] at this; cases this)
        have HAP2 : Hid (Apart [S] B0 (B0.setCell ⟨S, 2, none⟩ (.int .i64 ((mark : Int) + 1)))) := a2
        go_wp2_with fail
        clear a2 m2 f2 hp
        generalize B0.setCell ⟨S, 2, none⟩ (.int .i64 ((mark : Int) + 1)) = W2 at *
        have e2 : Hid (W2.cell? ⟨S, 2, none⟩ = some (.int .i64 ((mark : Int) + 1))) := by
          have := HM.out.mark2.1
          rw [show ((mark + 1 : Nat) : Int) = (mark : Int) + 1 by omega] at this
          exact this
        obtain ⟨M, HMM⟩ : ∃ M : Int, Hid (M = -1000 - ((mark : Int) + 1)) := ⟨_, rfl⟩
        have hM : -1000 - ((mark : Int) + 1) = M := HMM.out.symm
        have hwM : IntKind.i64.wrap M = M := by
          have := HMM.out
          simp [IntKind.wrap, IntKind.bits, IntKind.signed]; omega
        go_loopw [14] (fun v w3 => ∃ j : Nat, j ≤ n ∧ v = .int .i64 j ∧ Apart (An.mk p n cap zs).blk.toList W2 w3 ∧ ∃ ys, (An.mk p n cap ys).At w3 ∧ ∀ t, t < j → ys.getD t 0 = M) (fun v _ => n - (intOf v).toNat)
        case atStart => exact ⟨0, Nat.zero_le _, rfl, Apart.refl _ _, zs, HA2.out, fun t ht => absurd ht (Nat.not_lt_zero _)⟩
        case round =>
          obtain ⟨j, hj, rfl, aJ, ys, hY, hF⟩ := hrel
          have HF : Hid (∀ t, t < j → ys.getD t 0 = M) := hF
          have HY : Hid ((An.mk p n cap ys).At wr) := hY
          clear hF hY
          by_cases hjn : j < n
          · obtain ⟨P, oo, hpp, hPP, hcc⟩ := HY.out.ir.at' (show 0 < n by omega)
            simp only at hpp
            have hob : Ob wr P oo n cap ys := by
              rcases HY.out with ⟨h1, _⟩ | ⟨P', o', h1, h2⟩
              · simp only at h1; rw [h1] at hpp; cases hpp
              · simp only at h1 h2; rw [h1] at hpp; simp at hpp; obtain ⟨rfl, rfl⟩ := hpp; exact h2
            have HOB : Hid (Ob wr P oo n cap ys) := hob
            have cj := hcc j hjn
            have hle : n ≤ cap := hob.le
            have fj : wr.frozen? ⟨P, oo + j, none⟩ = false := by
              obtain ⟨cur, hr, _⟩ := hob.ex
              exact frozen_of_row _ _ _ _ _ hr
            have hbk : (An.mk p n cap zs).blk = some P := by simp [An.blk, hpp]
            have hSP : S ≠ P := fun e => by
              have := HFR.out P hbk; rw [← e, HW.out.sm.wS] at this; cases this
            have eJ : wr.cell? ⟨S, 2, none⟩ = some (.int .i64 ((mark : Int) + 1)) := (aJ.cell (p := ⟨S, 2, none⟩) HM.out.lt (by rw [hbk]; simpa using hSP)).trans e2.out
            have HAJ : Hid (Apart (An.mk p n cap zs).blk.toList W2 (wr.setCell ⟨P, oo + j, none⟩ (.int .i64 M))) := aJ.setCell (.inl (by rw [hbk]; simp)) _
            have hO2 : Hid (Ob (wr.setCell ⟨P, oo + j, none⟩ (.int .i64 M)) P oo n cap (ys.set j M)) := ob_set hob j hjn M
            have HPP : Hid (p = some ⟨P, oo, none⟩) := hpp
            have hYl : Hid (ys.length = n) := hob.len
            subst hpp
            clear hcc hob hbk aJ
            go_wp2_with fail
            go_roundw
            case rel =>
              refine ⟨j + 1, by omega, by simp, HAJ.out, ys.set j M, .inr ⟨P, oo, rfl, hO2.out⟩, fun t ht => ?_⟩
              by_cases htj : t = j
              · subst htj
                have := hYl.out
                rw [List.getD_eq_getElem?_getD, List.getElem?_set_self (by omega)]; rfl
              · have := HF.out t (by omega)
                rw [List.getD_eq_getElem?_getD] at this ⊢
                rw [List.getElem?_set_ne (Ne.symm htj)]; exact this
            case measure => simp only [intOf]; omega
          · obtain rfl : j = n := by omega
            have HAJ : Hid (Apart (An.mk p j cap zs).blk.toList W2 wr) := aJ
            clear aJ
            go_wp2_with fail
            have hmo : Mo wr wr p j cap ys (.slice p j cap) 0 := Mo.start HY.out
            go_loopw [15, 16] (fun x v w4 => ∃ k : Nat, k ≤ 16 ∧ v = .int .i64 k ∧ (∃ q2 c2, x = .slice q2 (j + k) c2) ∧ Mo wr w4 p j cap ys x k) (fun _ v _ => 16 - (intOf v).toNat)
            case atStart => exact ⟨0, Nat.zero_le _, rfl, ⟨p, cap, rfl⟩, hmo⟩
            case round =>
              clear hmo
              obtain ⟨k, hk, rfl, ⟨q2, cq, rfl⟩, MO⟩ := hrel
              by_cases hk16 : k < 16
              · obtain ⟨p', c', w', hveq, p2, c2, hrun, MO2⟩ := MO.step (by omega) hn8 28 (-8)
                simp only [Value.slice.injEq, true_and] at hveq
                obtain ⟨rfl, rfl⟩ := hveq
                have HMO2 : Hid (Mo _ w' p j cap ys (.slice p2 (j + k + 1) c2) (k + 1)) := MO2
                clear MO MO2
                go_wp2_with (at_builtin; refine wpList_append3 rfl _ _ 28 rfl _ _ rfl rfl _ _ hrun ?_)
                go_roundw
                case rel => exact ⟨k + 1, by omega, by simp, ⟨p2, c2, rfl⟩, HMO2.out⟩
                case measure => simp only [intOf]; omega
              · obtain rfl : k = 16 := by omega
                have HMO : Hid (Mo _ wr p j cap ys (.slice q2 (j + 16) cq) 16) := MO
                have HAF : Hid (Apart (An.mk p j cap zs).blk.toList W2 wr) := HAJ.out.trans MO.fr
                clear MO
                have hno : ∀ x ∈ (An.mk p j cap zs).blk.toList, who x = none := fun x hx => HFR.out x (by simpa using hx)
                have HSM : Hid (Sm wr S (mark + 1) d.c who) := HM.out.kept HAF.out hno
                have hl0 : (d.c 0).length ≤ 1000 := HCL.out 0 (by simp [fs])
                have hl1 : (d.c 1).length ≤ 1000 := HCL.out 1 (by simp [fs])
                have hlL : (d.c 0).length = (d.c 1).length := by have := HW.out.pl.lm; simp [Sd.c, flZ, this]
                have hlL4 : (d.c 0).length ≤ 4 := by have := HW.out.pl.l4; simpa [Sd.c] using this
                have HNO : Hid (∀ x ∈ (An.mk p j cap zs).blk.toList, who x = none) := hno
                clear hno
                obtain ⟨p0', c0', e0, f0, _⟩ := HSM.out.field 0 (by simp [fs])
                obtain ⟨p5, c5, w5, hrun5, ⟨y5, ey5⟩, fy5, who5, X5, sm5, up5, dn5, ap5, hx5⟩ := HSM.out.app 0 (by simp [fs]) (.slice p j cap) rfl hl0 e0 51
                obtain ⟨K, HK⟩ : ∃ K, Hid (K = (d.c 0).length) := ⟨_, rfl⟩
                have hK4 : K ≤ 4 := by rw [HK.out]; exact hlL4
                have HSM5 : Hid (Sm (w5.setCell ⟨S, 0, none⟩ (.slice p5 (K + 1) c5)) S (mark + 1) (updC d.c 0 (d.c 0 ++ [.slice p j cap])) who5) := by rw [HK.out]; exact sm5
                have HUP5 : Hid (∀ k s, who k = some s → who5 k = some s) := up5
                have HDN5 : Hid (∀ k s, who5 k = some s → who k = some s ∨ (wr.heap.size ≤ k ∧ s = 0 + 1)) := dn5
                have HX5 : Hid (∀ k ∈ X5, who k = some 0 ∨ who k = some (0 + 1)) := hx5
                have HAP5 : Hid (Apart X5 wr (w5.setCell ⟨S, 0, none⟩ (.slice p5 (K + 1) c5))) := by rw [HK.out]; exact ap5
                rw [← HK.out] at e0 hrun5
                clear sm5 up5 dn5 hx5 ap5
                rw [show sty 0 = 51 from rfl, show ety 0 = 28 from rfl] at hrun5
                go_wp2_with (at_builtin; refine wpList_append3 rfl _ _ 51 rfl _ _ rfl rfl _ _ hrun5 ?_)
                clear e0 f0 hrun5 ey5 fy5
                generalize w5.setCell ⟨S, 0, none⟩ (.slice p5 (K + 1) c5) = W5 at *
                have hc1 : updC d.c 0 (d.c 0 ++ [.slice p j cap]) 1 = d.c 1 := by simp [updC]
                have HSMD : Hid (Sm (W5.drewN 1) S (mark + 1) (updC d.c 0 (d.c 0 ++ [.slice p j cap])) who5) := HSM5.out.kept0 ((Apart.refl [] W5).drewN 1)
                obtain ⟨p1', c1', e1, f1, _⟩ := HSM5.out.field 1 (by simp [fs])
                have e2' : W5.cell? ⟨S, 2, none⟩ = some (.int .i64 ((mark : Int) + 1)) := by
                  have := HSM5.out.mark2.1
                  rw [show ((mark + 1 : Nat) : Int) = (mark : Int) + 1 by omega] at this
                  exact this
                rw [hc1, ← hlL, ← HK.out] at e1
                obtain ⟨p6, c6, w6, hrun6, ⟨y6, ey6⟩, fy6, who6, X6, sm6, up6, dn6, ap6, hx6⟩ := HSMD.out.app 1 (by simp [fs]) (.int .i64 M) rfl (by rw [hc1]; exact hl1) (by rw [hc1, ← hlL, ← HK.out]; exact e1) 28
                rw [hc1, ← hlL, ← HK.out] at hrun6
                have HSM6 : Hid (Sm (w6.setCell ⟨S, 1, none⟩ (.slice p6 (K + 1) c6)) S (mark + 1) (updC (updC d.c 0 (d.c 0 ++ [.slice p j cap])) 1 (d.c 1 ++ [.int .i64 M])) who6) := by
                  have := sm6
                  rw [hc1, ← hlL, ← HK.out] at this
                  exact this
                have HUP6 : Hid (∀ k s, who5 k = some s → who6 k = some s) := up6
                have HDN6 : Hid (∀ k s, who6 k = some s → who5 k = some s ∨ (W5.heap.size ≤ k ∧ s = 1 + 1)) := dn6
                have HX6 : Hid (∀ k ∈ X6, who5 k = some 0 ∨ who5 k = some (1 + 1)) := hx6
                have HAP6 : Hid (Apart X6 W5 (w6.setCell ⟨S, 1, none⟩ (.slice p6 (K + 1) c6))) := by
                  have := ap6
                  rw [hc1, ← hlL, ← HK.out] at this
                  exact ((Apart.refl X6 W5).drewN 1).trans this
                have hS5 := HSM5.out.lt
                clear sm6 up6 dn6 hx6 ap6 hc1
                rw [show sty 1 = 28 from rfl, show ety 1 = 3 from rfl] at hrun6
                go_region_law (first | (refine step_append3 rfl (.tmp 139) (.tmp 145) 28 rfl _ _ rfl rfl _ _ hrun6 ?_))
                all_goals
                  clear e1 f1 e2' hrun6 ey6 fy6 HSMD
                  generalize w6.setCell ⟨S, 1, none⟩ (.slice p6 (K + 1) c6) = W6 at *
                  have hq0 : (updC (updC d.c 0 (d.c 0 ++ [.slice p j cap])) 1 (d.c 1 ++ [.int .i64 M]) 0).length = K + 1 := by rw [HK.out]; simp [updC]
                  have hq1 : (updC (updC d.c 0 (d.c 0 ++ [.slice p j cap])) 1 (d.c 1 ++ [.int .i64 M]) 1).length = K + 1 := by rw [HK.out, hlL]; simp [updC]
                  have fz : ∀ f, W6.frozen? ⟨S, f, none⟩ = false := by
                    obtain ⟨v, G, hr, _⟩ := HSM6.out.ex
                    exact fun f => frozen_of_row _ _ _ _ _ hr
                  have hsz2 : wr.heap.size ≤ W5.heap.size := HAP5.out.size
                  have hsz6 : W5.heap.size ≤ W6.heap.size := HAP6.out.size
                  have hsw : W2.heap.size ≤ wr.heap.size := HAF.out.size
                  have hs20 := HAP2.out.size
                  have dn1 : Hid (∀ k s, who6 k = some s → who k = some s ∨ wr.heap.size ≤ k) := fun k s hk => by
                    rcases HDN6.out k s hk with h1 | ⟨h1, _⟩
                    · rcases HDN5.out k s h1 with h2 | ⟨h2, _⟩
                      · exact .inl h2
                      · exact .inr h2
                    · exact .inr (by omega)
                  have blk6 : Hid (∀ k, k < wr.heap.size → (∀ s, who k = some s → 6 ≤ s) → W6.heap[k]? = wr.heap[k]?) := fun k hk hs => by
                    have k1 : k ∉ X5 := fun hm => by
                      rcases HX5.out k hm with h1 | h1 <;> have := hs _ h1 <;> omega
                    have k2 : k ∉ X6 := fun hm => by
                      rcases HX6.out k hm with h1 | h1 <;> rcases HDN5.out k _ h1 with h2 | ⟨h2, _⟩
                      · have := hs _ h2; omega
                      · omega
                      · have := hs _ h2; omega
                      · omega
                    rw [HAP6.out.block k (by omega) k2, HAP5.out.block k hk k1]
                  have hYM : ∀ z ∈ ys, z = M := fun z hz => by
                    obtain ⟨t, ht, e⟩ := List.getElem_of_mem hz
                    have hl := HY.out.len
                    simp only at hl
                    have := HF.out t (by omega)
                    rw [List.getD_eq_getElem?_getD, List.getElem?_eq_getElem ht] at this
                    rw [← e]; exact this
                  have hS0 := HW.out.sm.wS
                  have HFIN : Hid (∀ WF, Apart [S] W6 WF → ∀ (c' : Nat → List Value) (ls' : List An) (mks' : List Int), ((ls' = d.ls ++ [An.mk p j cap ys] ∧ mks' = d.mks ++ [M] ∧ d.ls.length < 4) ∨ (ls' = (d.ls ++ [An.mk p j cap ys]).tail ∧ mks' = (d.mks ++ [M]).tail)) → c' 0 = ls'.map An.v → c' 1 = flZ mks' → c' 3 = d.c 3 → c' 4 = d.c 4 → Sm WF S (mark + 1) c' who6 → ToldPost w' WF (.returned (.bool true)) S mark who (An.mk p j cap zs).blk) := by
                    intro WF aS c' ls' mks' hls h0 h1 h3 h4 smF
                    have hbw : ∀ b, (An.mk p j cap zs).blk = some b → b < wr.heap.size := fun b hb => HMO.out.l.blk_lt (a := An.mk p j cap ys) hb
                    have s1 := HA1.out.size
                    have s2 := aS.size
                    have hSne : ∀ k, (∀ s, who k = some s → 6 ≤ s) → k ∉ [S] := fun k hs hm => by
                      simp at hm; subst hm
                      have := hs 0 hS0; omega
                    have hb0 : ∀ b, (An.mk p j cap zs).blk = some b → b < B0.heap.size := fun b hb => HAr.out.blk_lt hb
                    have blkF : ∀ k, k < wr.heap.size → (∀ s, who k = some s → 6 ≤ s) → WF.heap[k]? = wr.heap[k]? := fun k hk hs => by
                      rw [aS.block k (by omega) (hSne k hs), blk6.out k hk hs]
                    have blk0 : ∀ k, k < B0.heap.size → (∀ s, who k = some s → 6 ≤ s) → (An.mk p j cap zs).blk ≠ some k → WF.heap[k]? = B0.heap[k]? := fun k hk hs hne => by
                      rw [blkF k (Nat.lt_of_lt_of_le hk (Nat.le_trans hs20 hsw)) hs, HAF.out.block k (Nat.lt_of_lt_of_le hk hs20) (by simpa using hne)]
                      exact HAP2.out.block k hk (hSne k hs)
                    obtain ⟨d', who', hSh, hwho⟩ := asm_even (WF := WF) HW.out (An.mk p j cap ys) M c' ls' mks' hls h0 h1 h3 h4 smF (fun k s hk => HUP6.out k s (HUP5.out k s hk))
                      (fun k s hk => by
                        rcases dn1.out k s hk with h5 | h5
                        · exact .inl h5
                        · exact .inr (Nat.le_trans (Nat.le_trans hs20 hsw) h5))
                      (fun k hk ⟨s, hs, h6⟩ => blk0 k hk (fun s' hs' => by rw [hs] at hs'; cases hs'; exact h6) (fun hb => by have := HFR.out k hb; rw [this] at hs; cases hs))
                      hb0 (HMO.out.l.same (fun b hb => blkF b (hbw b hb) (fun s hs => by have := HFR.out b hb; rw [this] at hs; cases hs))) HFR.out hn8 hYM
                    refine ⟨rfl, ⟨d', who', hSh, fun k s hk => ?_⟩, ⟨?_, ?_, ?_, ?_, fun k hk hK => ?_⟩⟩
                    · rcases hwho k s hk with h5 | h5 | h5
                      · exact .inl h5
                      · exact .inr (.inl h5)
                      · exact .inr (.inr (Nat.le_trans s1 h5))
                    · rw [aS.os, HAP6.out.os, HAP5.out.os, HAF.out.os, HAP2.out.os, HA1.out.os]
                    · rw [aS.tape, HAP6.out.tape, HAP5.out.tape, HAF.out.tape, HAP2.out.tape, HA1.out.tape]
                    · rw [aS.output, HAP6.out.output, HAP5.out.output, HAF.out.output, HAP2.out.output, HA1.out.output]
                    · omega
                    · rw [blk0 k (Nat.lt_of_lt_of_le hk s1) (fun s hs => by rw [hK.1] at hs; cases hs) hK.2, HA1.out.block k hk (by simp)]
                  clear hYM hS0
                  by_cases hKK : K = 4
                  · subst hKK
                    obtain ⟨g0, o0, k0, ec0, hk0, sm7⟩ := HSM6.out.cut 0 (by simp [fs]) (by rw [hq0]; omega)
                    rw [hq0] at ec0 hk0 sm7
                    have hr1 : (updC (updC (updC d.c 0 (d.c 0 ++ [.slice p j cap])) 1 (d.c 1 ++ [.int .i64 M])) 0 (updC (updC d.c 0 (d.c 0 ++ [.slice p j cap])) 1 (d.c 1 ++ [.int .i64 M]) 0).tail 1).length = 4 + 1 := by rw [← hq1]; simp [updC]
                    obtain ⟨g1, o1, k1, ec1, hk1, sm8⟩ := sm7.cut 1 (by simp [fs]) (by rw [hr1]; omega)
                    rw [hr1] at ec1 hk1 sm8
                    have e1' : W6.cell? ⟨S, 1, none⟩ = some (.slice (some ⟨g1, o1, none⟩) 5 k1) := by
                      rw [World.cell?_setCell_other] at ec1
                      · exact ec1
                      · intro hh; cases hh
                    have HS8 : Hid (Sm ((W6.setCell ⟨S, 0, none⟩ (.slice (some ⟨g0, o0 + 1, none⟩) 4 (k0 - 1))).setCell ⟨S, 1, none⟩ (.slice (some ⟨g1, o1 + 1, none⟩) 4 (k1 - 1))) S (mark + 1) _ who6) := sm8
                    have f60 := fz 0
                    have f61 := fz 1
                    have hk01 : ¬ k0 = 1 := by omega
                    have hk11 : ¬ k1 = 1 := by omega
                    clear sm7 sm8 ec1 hr1 hq0 hq1 fz
                    go_wp2_with fail
                    go_ret
                    exact HFIN.out _ (((Apart.refl [S] W6).setCell (by simp) _).setCell (by simp) _) _ _ _ (.inr ⟨rfl, rfl⟩) (by simp [updC, Sd.c, An.v, List.map_tail]) (by simp [updC, Sd.c, flZ, List.map_tail]) (by simp [updC]) (by simp [updC]) HS8.out
                  · obtain ⟨q0, k0, ec0, _, _⟩ := HSM6.out.field 0 (by simp [fs])
                    rw [hq0] at ec0
                    have hlt4 : Hid (d.ls.length < 4) := by
                      show d.ls.length < 4
                      have h1 : (d.c 0).length = d.ls.length := by simp [Sd.c]
                      have h2 := HK.out
                      omega
                    clear hq0 hq1 fz
                    go_wp2_with fail
                    go_ret
                    exact HFIN.out _ (Apart.refl [S] W6) _ _ _ (.inl ⟨rfl, rfl, hlt4.out⟩) (by simp [updC, Sd.c, An.v]) (by simp [updC, Sd.c, flZ]) (by simp [updC]) (by simp [updC]) HSM6.out
end Go.Proofs.Ytagjmpdimphfaaa.rg
