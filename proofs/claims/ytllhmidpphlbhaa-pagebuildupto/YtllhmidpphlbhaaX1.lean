import Derived.Test.YtllhmidpphlbhaaG37
namespace Go.Proofs.Ytllhmidpphlbhaa.ds
open Go.ChangeShapes Go.WideShapes Go.ChangeAt Go.RowKit Go.Sort
set_option linter.unusedVariables false
set_option linter.unusedSimpArgs false
set_option maxHeartbeats 4000000 in
set_option maxRecDepth 100000 in
theorem build_walk (w : World) (c : Ct) (ks : List Ck) (cs : List (Int × List S)) (es : List E) (rs : List Wr) (h : RCt w c ks cs es rs) : Calls Try.prog 3 #[.agg c.cs] w fun r w' => r = .returned (.bool true) ∧ Apart [] w w' := by
  obtain ⟨kd, gn, ow, s, t⟩ := c
  unfold Ct.cs
  dsimp only
  have HH := hid h
  clear h
  obtain ⟨A, HXA⟩ : ∃ A, Hid (A = w.heap.size) := ⟨_, rfl⟩
  obtain ⟨w1, hw1⟩ : ∃ V, V = w.alloc (.cells #[.int .i64 kd, .int .i64 gn, .int .i64 ow, .slice s.p s.n s.c, .slice t.p t.n t.c] 25) := ⟨_, rfl⟩
  have a1 : Apart [] w w1 := by rw [hw1]; exact (Apart.refl [] w).alloc _
  have hA1 : w1.heap[A]? = some (.cells #[.int .i64 kd, .int .i64 gn, .int .i64 ow, .slice s.p s.n s.c, .slice t.p t.n t.c] 25 (0, 0)) := by rw [hw1, HXA.out]; exact heap_alloc_new w _
  have z0 := crow hA1 0 _ rfl
  have z1 := crow hA1 1 _ rfl
  have z2 := crow hA1 2 _ rfl
  have z3 := crow hA1 3 _ rfl
  have z4 := crow hA1 4 _ rfl
  have HA := hid a1
  have HROW := hid hA1
  clear a1 hA1
  go_enter Try.func3, Try.ntmps3
  go_upto_region 1 with fail
  rw [← hw1, ← HXA.out]
  clear hw1
  go_wp2_with fail
  have h1 := HH.out.kept0 HA.out
  refine (fits_ok w1 kd gn ow s t ks cs es rs h1.hc h1.hcl h1.hw h1.hkl).mono ?_
  clear h1
  rintro _ w2 ⟨⟨b, rfl⟩, a2⟩
  have HA2 := hid (HA.out.trans a2)
  have HROW2 := hid (keep0 a2 HROW.out)
  clear a2 z0 z1 z2 z3 z4
  try dsimp only
  cases b with
  | false =>
    go_wp2_with fail
    go_ret
    exact ⟨rfl, HA2.out⟩
  | true =>
    go_wp2_with fail
    refine (alive_ok w2).mono ?_
    rintro _ w3 ⟨rfl, a3⟩
    have HA3 := hid (HA2.out.trans a3)
    have hA3 := keep0 a3 HROW2.out
    have z0 := crow hA3 0 _ rfl
    have z1 := crow hA3 1 _ rfl
    have z2 := crow hA3 2 _ rfl
    have z3 := crow hA3 3 _ rfl
    have z4 := crow hA3 4 _ rfl
    clear a3 hA3
    try dsimp only
    go_wp2_with fail
    have h1 := HH.out.kept0 HA3.out
    refine (builds_ok w3 kd gn ow s t ks cs es rs h1.hc h1.hcl h1.hw).mono ?_
    clear h1
    rintro _ w4 ⟨rfl, a4⟩
    have HA4 := hid (HA3.out.trans a4)
    clear a4 z0 z1 z2 z3 z4
    try dsimp only
    go_wp2_with fail
    go_ret
    exact ⟨rfl, HA4.out⟩
end Go.Proofs.Ytllhmidpphlbhaa.ds
namespace Go.Proofs.Ytllhmidpphlbhaa.ds
open Go.ChangeShapes Go.WideShapes Go.ChangeAt Go.RowKit Go.ChangeMaps Go.Deep
set_option linter.unusedVariables false
set_option linter.unusedSimpArgs false
set_option maxRecDepth 100000 in
theorem build_lifted (os : Os) (started : os.Started) (H : Type) (enc : TypeId × Value → H) (F : Stop.Interp) :
    ReturnsInHanded {} Try.checked os 3 .any ((Rows.OpenSpec.upto Rows.pageBuildSpec).pre6 enc Try.prog Try.f3 Rows.pageBuildUptoRow.domain false) (((Rows.OpenSpec.upto Rows.pageBuildSpec).at F).post enc Try.prog Try.f3 false true false false) := by
  refine returnsInHanded_of_cond (C := Try.checked) (s := (Rows.OpenSpec.upto Rows.pageBuildSpec)) (k := Rows.uptoSmall) rfl own started (by kernel_rfl) Try.func3
    (OpenSpec.witness (enc := enc) (C := Try.checked) (s := (Rows.OpenSpec.upto Rows.pageBuildSpec)) (k := Rows.uptoSmall) rfl false ⟨#[], #[.agg #[.int .i64 0, .int .i64 0, .int .i64 0, .slice none 0 0, .slice none 0 0]], []⟩ 8 (by kernel_rfl) (by kernel_rfl) (by kernel_rfl)
      (x := ([.agg [.lit (.int .i64 0), .lit (.int .i64 0), .lit (.int .i64 0), .nil, .nil]], [], [])) (by kernel_rfl) rfl (by kernel_rfl)) ?_
  intro W base args ds gs before hval0 hW _ hk _
  have hval : ∀ (j : Nat) t v, Try.f3.params[j]? = some t → args[j]? = some v → Value.okWide Try.prog W .any base t v := hval0
  have hW' := hW
  obtain ⟨p, q, hA0, hV, rfl, hfz, hnd⟩ := hW
  have hA : DataW.TrodAll enc Try.prog W 0 (fun _ => true) true Try.f3.params.toList args.toList ds p := hA0
  rw [Try.params3] at hA hval
  obtain ⟨v0, vs0, d0, ds0, p0, q0, hargs0, rfl, rfl, h0, r0⟩ := trodAll_cons hA
  obtain ⟨rfl, rfl, rfl⟩ := trodAll_nil r0
  obtain rfl : args = #[v0] := by cases args; simp_all
  obtain ⟨rfl, rfl⟩ := trodVars_none hV
  have k0 := h0
  have lt0 : ∀ x ∈ p0, x.block < W.heap.size := by obtain ⟨m, hm⟩ := k0; exact DataW.trod_lt m _ _ _ hm
  obtain ⟨cs0, rfl, hcs0⟩ := okWide_struct Try.underlying25 (hval 0 25 v0 rfl rfl)
  rw [c25] at hcs0
  obtain ⟨c, ks, cs, es, rs, rfl, hct⟩ : ∃ (c : Ct) (ks : List Ck) (cs : List (Int × List S)) (es : List E) (rs : List Wr), cs0 = c.cs ∧ RCt W c ks cs es rs := by
    obtain ⟨fuel, hf⟩ := h0
    refine open_content hcs0 hf ?_
    have hb : Rows.uptoBulkAll ([d0] ++ []) ≤ 1048576 := of_decide_eq_true hk
    rw [List.append_nil] at hb
    simp only [all_cons, all_nil] at hb
    show Rows.uptoBulk d0 ≤ 1048576
    omega
  clear hA0 hval0
  refine (build_walk W c ks cs es rs hct).mono fun e W' ⟨he, ap⟩ => ?_
  subst he
  have bel : Below W.heap.size W W' := ap.below (Nat.le_refl _) (by simp)
  exact ⟨_, rfl, _, _, _, [], _, [], hW', trodAll_mk1 (shut_bool Try.underlying4 _), (trodAll_cons_mk (Below.trod laidOut (by kernel_rfl) (of_decide_eq_true (by kernel_rfl)) k0 bel lt0) trodAll_mk0), rfl, bel.frame _, fun h => by cases h⟩
theorem build_over : Rows.PageBuildUptoSaid :=
  OpenClaim.holds_of_cond 3 Try.f3 rfl rfl rfl rfl rfl rfl rfl ⟨rfl, rfl, rfl, rfl, rfl⟩ rfl rfl rfl rfl rfl (by kernel_rfl) Try.func3 (by kernel_rfl)
    (of_decide_eq_true (by kernel_rfl)) (by unfold Func.isWrapper; first | (rw [if_pos (by decide +kernel)]; kernel_rfl) | (rw [if_neg (by decide +kernel)]; exact ⟨rfl, rfl⟩))
    (fun os started H enc _ F => build_lifted os started H enc F)
end Go.Proofs.Ytllhmidpphlbhaa.ds
namespace Go.Proofs.Ytllhmidpphlbhaa
theorem pageBuild_holds : Rows.PageBuildUptoSaid := ds.build_over
end Go.Proofs.Ytllhmidpphlbhaa
