import Derived.Test.YthfjkddninlbcaaScript
import Derived.Test.YthfjkddninlbcaaStep1
import Derived.Test.YthfjkddninlbcaaStep3
namespace Go.Proofs.Ythfjkddninlbcaa.hp
open Go.ChangeShapes Go.WideShapes Go.ChangeAt Go.RowKit
set_option linter.unusedVariables false
theorem heapRows_steps4 : StepOk (fun k => k = 1 ∨ (4 ≤ k ∧ k ≤ 4)) := by
  intro w0 w W S av A h gd t ht hA hn who kind a b ok
  rcases (show kind = 1 ∨ kind = 4 from by omega) with rfl | rfl
  · exact step1_ok h gd t ht hA hn who a b
  · exact step4_ok h gd t hA hn who a b
theorem heapRows_steps6 : StepOk (fun k => k = 1 ∨ (6 ≤ k ∧ k ≤ 6)) := by
  intro w0 w W S av A h gd t ht hA hn who kind a b ok
  rcases (show kind = 1 ∨ kind = 6 from by omega) with rfl | rfl
  · exact step1_ok h gd t ht hA hn who a b
  · exact step6_ok h gd t hA hn who a b
theorem IsScript.kept {w w' : World} {p : Option Addr} {N : Nat} {f : Nat → OpC} (h : IsScript w p N f) (b : Below w.heap.size w w') : IsScript w' p N f := by
  intro h0
  obtain ⟨P, o, rfl, hP, hc⟩ := h h0
  refine ⟨P, o, rfl, Nat.lt_of_lt_of_le hP b.size, fun i hi => ?_⟩
  obtain ⟨q0, q1, q2, q3⟩ := hc i hi
  exact ⟨(b.cell (p := ⟨P, o + i * 4, none⟩) hP).trans q0, (b.cell (p := ⟨P, o + i * 4 + 1, none⟩) hP).trans q1, (b.cell (p := ⟨P, o + i * 4 + 2, none⟩) hP).trans q2, (b.cell (p := ⟨P, o + i * 4 + 3, none⟩) hP).trans q3⟩
theorem heapRows_walk (w : World) (p : Option Addr) (N cap : Nat) (f : Nat → OpC) (hN : N ≤ 1100000) (hs : IsScript w p N f) :
    Calls Try.prog 8 #[.slice p N cap] w fun r w' => r = .returned (.bool true) ∧ Below w.heap.size w w' := by
  have hP := plays_ok w p N cap f hN hs 4 4 heapRows_steps4
  go_enter Try.func8, Try.ntmps8
  go_wp2_with fail
  refine hP.mono ?_
  rintro r w1 ⟨rfl, b1⟩
  have hP2 := plays_ok w1 p N cap f hN (hs.kept b1) 6 6 heapRows_steps6
  go_wp2_with fail
  refine hP2.mono ?_
  rintro r w2 ⟨rfl, b2⟩
  have bel : Below w.heap.size w w2 := b1.trans ⟨b2.os, b2.tape, b2.output, b2.size, fun k hk => b2.block k (Nat.lt_of_lt_of_le hk b1.size)⟩
  clear hP hP2 hs b1 b2
  go_wp2
  go_ret
  exact ⟨rfl, bel⟩
set_option maxRecDepth 100000 in
theorem heapRows_lifted (os : Os) (started : os.Started) (H : Type) (enc : TypeId × Value → H) (F : Stop.Interp) :
    ReturnsInHanded {} Try.checked os 8 .any ((Rows.OpenSpec.upto Rows.heapRowsSpec).pre6 enc Try.prog Try.f8 Rows.heapRowsUptoRow.domain false) (((Rows.OpenSpec.upto Rows.heapRowsSpec).at F).post enc Try.prog Try.f8 false true false false) := by
  refine returnsInHanded_of_cond (C := Try.checked) (s := Rows.OpenSpec.upto Rows.heapRowsSpec) (k := Rows.uptoSmall) rfl own started (by kernel_rfl) Try.func8
    (OpenSpec.witness (enc := enc) (C := Try.checked) (s := Rows.OpenSpec.upto Rows.heapRowsSpec) (k := Rows.uptoSmall) rfl false ⟨#[], #[.slice none 0 0], []⟩ 8 (by kernel_rfl) (by kernel_rfl) (by kernel_rfl)
      (x := ([.nil], [], [])) (by kernel_rfl) rfl (by kernel_rfl)) ?_
  intro W base args ds gs before hval0 hW _ hk _
  have hval : ∀ (j : Nat) t v, Try.f8.params[j]? = some t → args[j]? = some v → Value.okWide Try.prog W .any base t v := hval0
  have hW' := hW
  obtain ⟨p, q, hA0, hV, rfl, hfz, hnd⟩ := hW
  have hA : DataW.TrodAll enc Try.prog W 0 (fun _ => true) true Try.f8.params.toList args.toList ds p := hA0
  rw [Try.params8] at hA hval
  obtain ⟨v0, vs0, d0, ds0, p0, q0, hargs, rfl, rfl, h0, r0⟩ := trodAll_cons hA
  obtain ⟨rfl, rfl, rfl⟩ := trodAll_nil r0
  obtain rfl : args = #[v0] := by cases args; simp_all
  obtain ⟨rfl, rfl⟩ := trodVars_none hV
  obtain ⟨a0, len0, cap0, rfl⟩ := okWide_slice Try.underlying43 (hval 0 43 v0 rfl rfl)
  have k0 := h0
  have lt0 : ∀ x ∈ p0, x.block < W.heap.size := by obtain ⟨m, hm⟩ := k0; exact DataW.trod_lt m _ _ _ hm
  obtain ⟨fs, hp, hlen⟩ : ∃ fs, IsScript W a0 len0 fs ∧ len0 ≤ Rows.uptoBulk d0 := by obtain ⟨fuel, hf⟩ := h0; exact open_script hf
  clear hA0 hval0
  have hb : Rows.uptoBulkAll ([d0] ++ []) ≤ 1048576 := of_decide_eq_true hk
  rw [List.append_nil, all_cons, all_nil] at hb
  refine (heapRows_walk W a0 len0 cap0 fs (by omega) hp).mono fun e W' ⟨he, bel⟩ => ?_
  subst he
  exact ⟨_, rfl, _, _, _, [], _, [], hW', trodAll_mk1 (shut_bool Try.underlying4 _), (trodAll_cons_mk (Below.trod laidOut (by kernel_rfl) (of_decide_eq_true (by kernel_rfl)) k0 bel lt0) trodAll_mk0), rfl, bel.frame _, fun h => by cases h⟩
theorem heapRows_over : Rows.HeapRowsUptoSaid :=
  OpenClaim.holds_of_cond 8 Try.f8 rfl rfl rfl rfl rfl rfl rfl ⟨rfl, rfl, rfl, rfl, rfl⟩ rfl rfl rfl rfl rfl (by kernel_rfl) Try.func8 (by kernel_rfl)
    (of_decide_eq_true (by kernel_rfl)) (by unfold Func.isWrapper; first | (rw [if_pos (by decide +kernel)]; kernel_rfl) | (rw [if_neg (by decide +kernel)]; exact ⟨rfl, rfl⟩))
    (fun os started H enc _ F => heapRows_lifted os started H enc F)
end Go.Proofs.Ythfjkddninlbcaa.hp
namespace Go.Proofs.Ythfjkddninlbcaa
theorem heapRows_holds : Rows.HeapRowsUptoSaid := hp.heapRows_over
end Go.Proofs.Ythfjkddninlbcaa
