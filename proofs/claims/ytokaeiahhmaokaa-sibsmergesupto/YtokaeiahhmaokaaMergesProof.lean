import Derived.Test.YtokaeiahhmaokaaC15
namespace Go.Proofs.Ytokaeiahhmaokaa.ds
open Go.ChangeShapes Go.WideShapes Go.ChangeAt Go.RowKit Go.ChangeMaps Go.Deep
set_option linter.unusedVariables false
set_option linter.unusedSimpArgs false
/-- a case that came in -/
theorem open_case {H : Type} {enc : TypeId × Value → H} {W : World} {fuel : Nat} {cs : Array Value} {x : DataW H × List MemPlace} (hsz : cs.size = 10) (h : DataW.trod enc Try.prog W 0 (fun _ => true) true fuel 31 cs.toList = some x) (hb : Rows.uptoBulk x.1 ≤ 1048576) :
    ∃ sp n sc B u ru lim gap F, cs = #[.slice sp n sc, .int .i64 u.n, .int .i64 u.c, .string u.k, .bool u.d, Sl.v u.v, Sl.v u.x, B, .int .i64 lim, .int .i64 gap] ∧ Sets W sp n F ∧ n ≤ 1048576 ∧ Reads W u ru ∧ B.oneCell' = true := by
  obtain ⟨l⟩ := cs
  simp only [List.size_toArray] at hsz
  match l, hsz with
  | [a0, a1, a2, a3, a4, a5, a6, a7, a8, a9], _ =>
    simp only at h
    obtain ⟨xs, k, hk, hxy, _, hxl, hf⟩ := DataW.trod_struct Try.underlying31 h
    match xs, hxl with
    | [y0, y1, y2, y3, y4], _ =>
      have g0 := hf 0 _ rfl
      have g1 := hf 1 _ rfl
      have g2 := hf 2 _ rfl
      have g3 := hf 3 _ rfl
      have g4 := hf 4 _ rfl
      simp [cells22, cells28, cells29, cells3] at g0 g1 g2 g3 g4
      have hD : x.1 = .agg [y0.1, y1.1, y2.1, y3.1, y4.1] := by rw [hxy]; rfl
      rw [hD] at hb
      have hall := Nat.le_trans (agg_many _) hb
      obtain ⟨sp, n, sc, F, rfl, hS, hn⟩ := open_sets g0 (Nat.le_trans (all_mem (by simp)) hall)
      obtain ⟨u, ru, rfl, rfl, rfl, rfl, rfl, rfl, hu⟩ := open_write g1 (Nat.le_trans (all_mem (by simp)) hall)
      obtain ⟨k3, q3, _, _⟩ := DataW.trod_int Try.underlying3 g3
      obtain ⟨k4, q4, _, _⟩ := DataW.trod_int Try.underlying3 g4
      simp only [List.cons.injEq, and_true] at q3 q4
      subst q3 q4
      have hB : a7.oneCell' = true := by
        rcases open_slice Try.underlying29 g2 with ⟨hcs, _⟩ | ⟨a, len, cap, m, n', D, Pl, hcs, _⟩
        · simp at hcs; subst hcs; rfl
        · simp at hcs; subst hcs; rfl
      exact ⟨sp, n, sc, a7, u, ru, k3, k4, F, rfl, hS, hn, hu, hB⟩
set_option maxRecDepth 100000 in
theorem merges_lifted (os : Os) (started : os.Started) (H : Type) (enc : TypeId × Value → H) (F : Stop.Interp) :
    ReturnsInHanded {} Try.checked os 3 .any ((Rows.OpenSpec.upto Rows.sibsMergesSpec).pre6 enc Try.prog Try.f3 Rows.sibsMergesUptoRow.domain false) (((Rows.OpenSpec.upto Rows.sibsMergesSpec).at F).post enc Try.prog Try.f3 false true false false) := by
  refine returnsInHanded_of_cond (C := Try.checked) (s := (Rows.OpenSpec.upto Rows.sibsMergesSpec)) (k := Rows.uptoSmall) rfl own started (by kernel_rfl) Try.func3
    (OpenSpec.witness (enc := enc) (C := Try.checked) (s := (Rows.OpenSpec.upto Rows.sibsMergesSpec)) (k := Rows.uptoSmall) rfl false ⟨#[], #[.agg #[.slice none 0 0, .int .i64 0, .int .i64 0, .string ByteArray.empty, .bool false, .slice none 0 0, .slice none 0 0, .slice none 0 0, .int .i64 0, .int .i64 0]], []⟩ 8 (by kernel_rfl) (by kernel_rfl) (by kernel_rfl)
      (x := ([.agg [.nil, .agg [.agg [.lit (.int .i64 0), .lit (.int .i64 0)], .lit (.string []), .lit (.bool false), .nil, .nil], .nil, .lit (.int .i64 0), .lit (.int .i64 0)]], [], [])) (by kernel_rfl) rfl (by kernel_rfl)) ?_
  intro W base args ds gs before hval0 hW _ hk _
  have hval : ∀ (j : Nat) t v, Try.f3.params[j]? = some t → args[j]? = some v → Value.okWide Try.prog W .any base t v := hval0
  have hW' := hW
  obtain ⟨p, q, hA0, hV, rfl, hfz, hnd⟩ := hW
  have hA : DataW.TrodAll enc Try.prog W 0 (fun _ => true) true Try.f3.params.toList args.toList ds p := hA0
  rw [Try.params3] at hA hval
  obtain ⟨v0, vs0, d0, ds0, p0, q0, hargs0, rfl, rfl, h0, r0⟩ := trodAll_cons hA
  obtain ⟨rfl, rfl, rfl⟩ := trodAll_nil r0
  obtain rfl : args = #[v0] := by cases args; simp_all
  obtain ⟨rfl, rfl⟩ := trodVars_none hV
  have k0 := h0
  have lt0 : ∀ x ∈ p0, x.block < W.heap.size := by obtain ⟨m, hm⟩ := k0; exact DataW.trod_lt m _ _ _ hm
  obtain ⟨cs, rfl, hcs⟩ := okWide_struct Try.underlying31 (hval 0 31 v0 rfl rfl)
  rw [cells31] at hcs
  obtain ⟨sp, n, sc, B, u, ru, lim, gap, F', rfl, hS, hn, hu, hB⟩ : ∃ sp n sc B u ru lim gap F, cs = #[.slice sp n sc, .int .i64 u.n, .int .i64 u.c, .string u.k, .bool u.d, Sl.v u.v, Sl.v u.x, B, .int .i64 lim, .int .i64 gap] ∧ Sets W sp n F ∧ n ≤ 1048576 ∧ Reads W u ru ∧ B.oneCell' = true := by
    obtain ⟨fuel, hf⟩ := h0
    refine open_case hcs hf ?_
    have hb : Rows.uptoBulkAll ([d0] ++ []) ≤ 1048576 := of_decide_eq_true hk
    rw [List.append_nil, all_cons, all_nil] at hb
    exact hb
  clear hA0 hval0
  refine (merges_walk W sp n sc B u ru lim gap F' hS (by omega) hu hB).mono fun e W' ⟨he, ap⟩ => ?_
  subst he
  have bel : Below W.heap.size W W' := ap.below (Nat.le_refl _) (by simp)
  exact ⟨_, rfl, _, _, _, [], _, [], hW', trodAll_mk1 (shut_bool Try.underlying4 _), (trodAll_cons_mk (Below.trod laidOut (by kernel_rfl) (of_decide_eq_true (by kernel_rfl)) k0 bel lt0) trodAll_mk0), rfl, bel.frame _, fun h => by cases h⟩
theorem merges_over : Rows.SibsMergesUptoSaid :=
  OpenClaim.holds_of_cond 3 Try.f3 rfl rfl rfl rfl rfl rfl rfl ⟨rfl, rfl, rfl, rfl, rfl⟩ rfl rfl rfl rfl rfl (by kernel_rfl) Try.func3 (by kernel_rfl)
    (of_decide_eq_true (by kernel_rfl)) (by unfold Func.isWrapper; first | (rw [if_pos (by decide +kernel)]; kernel_rfl) | (rw [if_neg (by decide +kernel)]; exact ⟨rfl, rfl⟩))
    (fun os started H enc _ F => merges_lifted os started H enc F)
end Go.Proofs.Ytokaeiahhmaokaa.ds
namespace Go.Proofs.Ytokaeiahhmaokaa
theorem sibsMerges_holds : Rows.SibsMergesUptoSaid := ds.merges_over
end Go.Proofs.Ytokaeiahhmaokaa
