import Derived.Test.YtckkjdgeandhgaaCopy
namespace Go.Proofs.Ytckkjdgeandhgaa.dk
open Go.ChangeShapes Go.WideShapes Go.ChangeAt Go.RowKit
set_option linter.unusedVariables false
set_option maxRecDepth 10000 in
theorem copy_long1 (w : World) (s0 : Int) (p1 p2 : Option Addr) (len1 cap1 len2 cap2 : Nat) (hl1 : 200 < len1) :
    Calls Try.prog 5 #[.int .i64 s0, .slice p1 len1 cap1, .slice p2 len2 cap2] w fun r w' => r = .returned (.bool true) ∧ Below w.heap.size w w' := by
  have hl : (200 : Int) < (len1 : Int) := by omega
  go_enter Try.func5, Try.ntmps5
  go_wp2
  go_ret
  exact ⟨rfl, Below.refl _ _⟩
set_option maxRecDepth 10000 in
theorem copy_long2 (w : World) (s0 : Int) (p1 p2 : Option Addr) (len1 cap1 len2 cap2 : Nat) (hl1 : len1 ≤ 200) (hl2 : 200 < len2) :
    Calls Try.prog 5 #[.int .i64 s0, .slice p1 len1 cap1, .slice p2 len2 cap2] w fun r w' => r = .returned (.bool true) ∧ Below w.heap.size w w' := by
  have hl : ¬ ((200 : Int) < (len1 : Int)) := by omega
  have hl' : (200 : Int) < (len2 : Int) := by omega
  go_enter Try.func5, Try.ntmps5
  go_wp2
  go_ret
  exact ⟨rfl, Below.refl _ _⟩
set_option maxRecDepth 100000 in
theorem copy_lifted (os : Os) (started : os.Started) (H : Type) (enc : TypeId × Value → H) :
    ReturnsInHanded {} Try.checked os 5 .any (Rows.diskCopySpec.pre6 enc Try.prog Try.f5 Rows.diskCopyRow.domain false) (Rows.diskCopySpec.post enc Try.prog Try.f5 false true false false) := by
  refine returnsInHanded_of_change (C := Try.checked) own started (by kernel_rfl) Try.func5
    (ChangeSpec.witness6 (enc := enc) (C := Try.checked) false ⟨#[], #[.int .i64 0, .slice none 0 0, .slice none 0 0], []⟩ 8 (by kernel_rfl) (by kernel_rfl) (by kernel_rfl) (by kernel_rfl)) ?_
  intro W base args ds gs before hval0 hW hcnd _
  have hval : ∀ (j : Nat) t v, Try.f5.params[j]? = some t → args[j]? = some v → Value.okWide Try.prog W .any base t v := hval0
  have hW' := hW
  obtain ⟨p, q, hA0, hV, rfl, hfz, hnd⟩ := hW
  have hA : DataW.TrodAll enc Try.prog W 0 (fun _ => true) true Try.f5.params.toList args.toList ds p := hA0
  rw [Try.params5] at hA hval
  obtain ⟨v0, vs0, d0, ds0, p0, q0, hargs, rfl, rfl, h0, r0⟩ := trodAll_cons hA
  obtain ⟨v1, vs1, d1, ds1, p1, q1, rfl, rfl, rfl, h1, r1⟩ := trodAll_cons r0
  obtain ⟨v2, vs2, d2, ds2, p2, q2, rfl, rfl, rfl, h2, r2⟩ := trodAll_cons r1
  obtain ⟨rfl, rfl, rfl⟩ := trodAll_nil r2
  obtain rfl : args = #[v0, v1, v2] := by cases args; simp_all
  obtain ⟨rfl, rfl⟩ := trodVars_none hV
  obtain ⟨a0, rfl, rfl, rfl, w0⟩ := open_int Try.underlying3 (hval 0 3 v0 rfl rfl) h0
  obtain ⟨a1, len1, cap1, rfl⟩ := okWide_slice Try.underlying22 (hval 1 22 v1 rfl rfl)
  have k1 := h1
  have lt1 : ∀ x ∈ p1, x.block < W.heap.size := by obtain ⟨m, hm⟩ := k1; exact DataW.trod_lt m _ _ _ hm
  obtain ⟨fs, fb, hp1⟩ : ∃ fs fb, IsPuts W a1 len1 fs fb := by obtain ⟨fuel, hf⟩ := h1; exact open_puts hf
  obtain ⟨a2, len2, cap2, rfl⟩ := okWide_slice Try.underlying22 (hval 2 22 v2 rfl rfl)
  have k2 := h2
  have lt2 : ∀ x ∈ p2, x.block < W.heap.size := by obtain ⟨m, hm⟩ := k2; exact DataW.trod_lt m _ _ _ hm
  obtain ⟨gs, gb, hp2⟩ : ∃ fs fb, IsPuts W a2 len2 fs fb := by obtain ⟨fuel, hf⟩ := h2; exact open_puts hf
  clear hA0 hval0
  have walk : Calls Try.prog 5 #[.int .i64 a0, .slice a1 len1 cap1, .slice a2 len2 cap2] W fun r w' => r = .returned (.bool true) ∧ Below W.heap.size W w' := by
    by_cases hl : len1 ≤ 200
    · by_cases hl2 : len2 ≤ 200
      · exact copy_walk W a0 a1 a2 len1 cap1 len2 cap2 fs fb gs gb hl hl2 hp1 hp2
      · exact copy_long2 W a0 a1 a2 len1 cap1 len2 cap2 hl (by omega)
    · exact copy_long1 W a0 a1 a2 len1 cap1 len2 cap2 (by omega)
  refine walk.mono fun e W' ⟨he, bel⟩ => ?_
  subst he
  exact ⟨_, rfl, _, _, _, [], _, [], hW', trodAll_mk1 (shut_bool Try.underlying4 _), (trodAll_cons_mk (shut_int Try.underlying3 w0) (trodAll_cons_mk (Below.trod laidOut (by kernel_rfl) (of_decide_eq_true (by kernel_rfl)) k1 bel lt1) (trodAll_cons_mk (Below.trod laidOut (by kernel_rfl) (of_decide_eq_true (by kernel_rfl)) k2 bel lt2) trodAll_mk0))), rfl, bel.frame _, fun h => by cases h⟩
theorem copy_over : Rows.diskCopyRow.holds Try.pinned (OpenSpec.ofChange Rows.diskCopySpec) :=
  OpenClaim.holds_of_wide 5 Try.f5 rfl rfl rfl rfl rfl rfl rfl ⟨rfl, rfl, rfl, rfl, rfl⟩ rfl rfl rfl rfl rfl (by kernel_rfl) Try.func5 (by kernel_rfl)
    (of_decide_eq_true (by kernel_rfl)) (by unfold Func.isWrapper; first | (rw [if_pos (by decide +kernel)]; kernel_rfl) | (rw [if_neg (by decide +kernel)]; exact ⟨rfl, rfl⟩))
    (fun os started H enc _ => copy_lifted os started H enc)
end Go.Proofs.Ytckkjdgeandhgaa.dk
namespace Go.Proofs.Ytckkjdgeandhgaa
theorem diskCopy_holds : Rows.DiskCopySaid := dk.copy_over
end Go.Proofs.Ytckkjdgeandhgaa
