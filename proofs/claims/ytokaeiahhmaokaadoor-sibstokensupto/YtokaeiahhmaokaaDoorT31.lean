import Derived.Test.YtokaeiahhmaokaaDoorT28
import Derived.Test.YtokaeiahhmaokaaDoorT30
namespace Go.Proofs.YtokaeiahhmaokaaDoor.ds
open Go.ChangeShapes Go.WideShapes Go.ChangeAt Go.RowKit Go.ChangeMaps Go.Deep
set_option linter.unusedVariables false
set_option linter.unusedSimpArgs false
set_option maxHeartbeats 4000000 in
set_option maxRecDepth 100000 in
theorem sibsTokens_walk (w : World) (T : Tab w) (sp : Option Addr) (n sc : Nat) (u : E) (ru : Wr) (lim gap : Int) (F : Nat → Sl × List E × List Wr) (hS : Sets w sp n F) (hn : n ≤ 1048576) (hT : totL F n ≤ 1048576) (hu : Reads w u ru) (bp : Option Addr) (m bc : Nat) (B : Nat → Sl × List S) (hB : Bss w bp m B) (hm : m ≤ 1048576) :
    Calls Tryd.prog 9 #[.agg #[.slice sp n sc, .int .i64 u.n, .int .i64 u.c, .string u.k, .bool u.d, u.v.v, u.x.v, .slice bp m bc, .int .i64 lim, .int .i64 gap]] w fun r w' => r = .returned (.bool true) ∧ Apart [] w w' := by
  obtain ⟨wB, hwB⟩ : ∃ wB, wB = w.alloc (caseO (.slice sp n sc) (.slice bp m bc) u lim gap) := ⟨_, rfl⟩
  have aB : Apart [] w wB := by rw [hwB]; exact (Apart.refl [] w).alloc _
  have bC := mergesO w (.slice sp n sc) (.slice bp m bc) u lim gap
  rw [← hwB] at bC
  have HBC := hid bC
  have HB := hid aB
  have hAb := able_ok wB
  have HP : Hid (∀ X, Apart [] wB X → Calls Tryd.prog 33 #[.agg #[.slice sp n sc, .int .i64 u.n, .int .i64 u.c, .string u.k, .bool u.d, u.v.v, u.x.v, .slice bp m bc, .int .i64 lim, .int .i64 gap]] X fun r w' => r = .returned (.bool true) ∧ Apart [] X w') := fun X a => by
    have ax := aB.trans a
    exact tokenLaw_ok X (T.kept0 ax) sp n sc u lim gap F (hS.kept0 ax) hn hT bp m bc B (hB.kept0 ax) hm
  unfold caseO Sl.v at hwB
  unfold Sl.v at HP ⊢
  clear bC aB hS hu T hB
  go_enter Tryd.func9, Tryd.ntmps9
  go_upto_region 1 with fail
  rw [← hwB]
  clear hwB
  go_wp2_with fail
  refine hAb.mono ?_
  clear hAb
  rintro _ w1 ⟨rfl, a1⟩
  have HA1 := hid a1
  obtain ⟨b0, b1, b2, b3, b4, b5, b6, b7, b8, b9⟩ := caseCells ((a1.block _ (lt_of_heap HBC.out) (by simp)).trans HBC.out)
  clear a1
  dsimp only
  go_wp2_with fail
  refine (HP.out _ HA1.out).mono ?_
  rintro _ w2 ⟨rfl, a2⟩
  have HA2 := hid a2
  clear a2 b0 b1 b2 b3 b4 b5 b6 b7 b8 b9
  dsimp only
  go_wp2
  go_ret
  exact ⟨rfl, HB.out.trans (HA1.out.trans HA2.out)⟩
set_option maxRecDepth 100000 in
theorem tokens_met (os : Os) : laidMet Tryd.prog Rows.sibsTokensUptoRow.laid ((laidWorld os).forCall (fun _ _ => 0) ⟨#[], #[.agg #[.slice none 0 0, .int .i64 0, .int .i64 0, .string ByteArray.empty, .bool false, .slice none 0 0, .slice none 0 0, .slice none 0 0, .int .i64 0, .int .i64 0]], []⟩).memory :=
  laidMet_of_run' 8 (by kernel_rfl) (by kernel_rfl)
set_option maxRecDepth 100000 in
theorem tokens_reads (os : Os) {H : Type} (enc : TypeId × Value → H) : ∃ places, DataW.whole enc Tryd.prog ((laidWorld os).forCall (fun _ _ => 0) ⟨#[], #[.agg #[.slice none 0 0, .int .i64 0, .int .i64 0, .string ByteArray.empty, .bool false, .slice none 0 0, .slice none 0 0, .slice none 0 0, .int .i64 0, .int .i64 0]], []⟩).memory Tryd.f9.params.toList Rows.sibsTokensSpec.vars false (#[.agg #[.slice none 0 0, .int .i64 0, .int .i64 0, .string ByteArray.empty, .bool false, .slice none 0 0, .slice none 0 0, .slice none 0 0, .int .i64 0, .int .i64 0]] : Array Value).toList 8 = some ([.agg [.nil, .agg [.agg [.lit (.int .i64 0), .lit (.int .i64 0)], .lit (.string []), .lit (.bool false), .nil, .nil], .nil, .lit (.int .i64 0), .lit (.int .i64 0)]], [], places) :=
  ⟨[], by kernel_rfl⟩
set_option maxRecDepth 100000 in
theorem tokens_lifted (os : Os) (started : os.Started) (H : Type) (enc : TypeId × Value → H) (F : Stop.Interp) :
    ReturnsInHanded {} Tryd.checked os 9 .any ((Rows.OpenSpec.upto Rows.sibsTokensSpec).preRow enc Tryd.prog Tryd.f9 Rows.sibsTokensUptoRow.domain false Rows.sibsTokensUptoRow.laid) (((Rows.OpenSpec.upto Rows.sibsTokensSpec).at F).post enc Tryd.prog Tryd.f9 false true false false) := by
  obtain ⟨places, hx⟩ := tokens_reads os enc
  refine returnsInHanded_of_row (C := Tryd.checked) (s := (Rows.OpenSpec.upto Rows.sibsTokensSpec)) own started (by kernel_rfl) Tryd.func9
    (witness_row_at (enc := enc) (C := Tryd.checked) false (laidWorld os) #[.agg #[.slice none 0 0, .int .i64 0, .int .i64 0, .string ByteArray.empty, .bool false, .slice none 0 0, .slice none 0 0, .slice none 0 0, .int .i64 0, .int .i64 0]] rfl (by kernel_rfl) (by kernel_rfl) (by kernel_rfl)
      (OpenSpec.preRow_of_cond 8 hx (by kernel_rfl) (fun k hk => by cases hk; kernel_rfl) (by kernel_rfl) (tokens_met os))) ?_
  intro W base args ds gs before hval0 hW _ hcond _ hL _ _
  have hval : ∀ (j : Nat) t v, Tryd.f9.params[j]? = some t → args[j]? = some v → Value.okWide Tryd.prog W .any base t v := hval0
  have hW' := hW
  obtain ⟨p, q, hA0, hV, rfl, hfz, hnd⟩ := hW
  have hA : DataW.TrodAll enc Tryd.prog W 0 (fun _ => true) true Tryd.f9.params.toList args.toList ds p := hA0
  rw [Tryd.params9] at hA hval
  obtain ⟨v0, vs0, d0, ds0, p0, q0, hargs0, rfl, rfl, h0, r0⟩ := trodAll_cons hA
  obtain ⟨rfl, rfl, rfl⟩ := trodAll_nil r0
  obtain rfl : args = #[v0] := by cases args; simp_all
  obtain ⟨rfl, rfl⟩ := trodVars_none hV
  have k0 := h0
  have lt0 : ∀ x ∈ p0, x.block < W.heap.size := by obtain ⟨m, hm⟩ := k0; exact DataW.trod_lt m _ _ _ hm
  obtain ⟨cs, rfl, hcs⟩ := okWide_struct Tryd.underlying31 (hval 0 31 v0 rfl rfl)
  rw [cells31] at hcs
  obtain ⟨sp, n, sc, u, ru, lim, gap, F', bp, m, bc, B, rfl, hS, hn, hT, hu, hB, hm⟩ : ∃ sp n sc u ru lim gap F bp m bc B, cs = #[.slice sp n sc, .int .i64 u.n, .int .i64 u.c, .string u.k, .bool u.d, Sl.v u.v, Sl.v u.x, .slice bp m bc, .int .i64 lim, .int .i64 gap] ∧ Sets W sp n F ∧ n ≤ 1048576 ∧ totL F n ≤ 1048576 ∧ Reads W u ru ∧ Bss W bp m B ∧ m ≤ 1048576 := by
    obtain ⟨fuel, hf⟩ := h0
    refine open_caseB hcs hf ?_
    have hb : Rows.uptoBulkAll ([d0] ++ []) ≤ 1048576 := of_decide_eq_true (hcond _ rfl)
    rw [List.append_nil, all_cons, all_nil] at hb
    exact hb
  clear hA0 hval0
  refine (sibsTokens_walk W (table hL) sp n sc u ru lim gap F' hS hn hT hu bp m bc B hB hm).mono fun e W' ⟨he, ap⟩ => ?_
  subst he
  have bel : Below W.heap.size W W' := ap.below (Nat.le_refl _) (by simp)
  exact ⟨_, rfl, _, _, _, [], _, [], hW', trodAll_mk1 (shut_bool Tryd.underlying4 _), (trodAll_cons_mk (Below.trod laidOut (by kernel_rfl) (of_decide_eq_true (by kernel_rfl)) k0 bel lt0) trodAll_mk0), rfl, bel.frame _, fun h => by cases h⟩
set_option maxRecDepth 100000 in
theorem tokens_said : Rows.SibsTokensUptoSaid :=
  OpenClaim.holds_of_cond 9 Tryd.f9 rfl rfl rfl rfl rfl rfl rfl ⟨rfl, rfl, rfl, rfl, rfl⟩ rfl rfl rfl rfl rfl (by kernel_rfl) Tryd.func9 (by kernel_rfl)
    (of_decide_eq_true (by kernel_rfl)) (by unfold Func.isWrapper; first | (rw [if_pos (by decide +kernel)]; kernel_rfl) | (rw [if_neg (by decide +kernel)]; exact ⟨rfl, rfl⟩))
    (fun os started H enc _ F => by rw [OpenClaim.pre_eq_preRow]; exact tokens_lifted os started H enc F)
set_option maxRecDepth 100000 in
theorem tokens_plain (f : FuncId) (fn : Func) (hf : Tryd.pinned.checked.prog.funcNamed "rookery/rookerylaw5.SibsTokens" = some f) (hfn : Tryd.pinned.checked.prog.funcs[f]? = some fn) :
    false = Tryd.pinned.checked.prog.looks [] ∧ ∀ (j : Nat) t, fn.params[j]? = some t → Tryd.pinned.checked.prog.wantsStandIn t = false := by
  obtain rfl : f = 9 := Option.some.inj ((show Tryd.prog.funcNamed "rookery/rookerylaw5.SibsTokens" = some 9 by kernel_rfl).symm.trans hf) |>.symm
  obtain rfl : fn = Tryd.f9 := (Option.some.inj (Tryd.func9.symm.trans hfn)).symm
  refine ⟨by kernel_rfl, fun j t ht => ?_⟩
  rw [Tryd.params9] at ht
  have w31 : Tryd.prog.wantsStandIn 31 = false := by kernel_rfl
  have hh := Array.mem_of_getElem? ht
  simp only [List.mem_toArray, List.mem_cons, List.not_mem_nil, or_false] at hh
  rcases hh with rfl <;> assumption
set_option maxRecDepth 100000 in
theorem tokens_card : Rows.SibsTokensUptoCardSaid :=
  Claim7.holds_tied_plain_at .later [] _ _ _ _ tokens_said (fun _ h => by cases h) (by kernel_rfl) (fun _ h => by cases h) sibsTokensUpto_row_tie rfl ⟨rfl, rfl⟩ (by kernel_rfl) rfl tokens_plain (by kernel_rfl)
end Go.Proofs.YtokaeiahhmaokaaDoor.ds
namespace Go.Proofs.YtokaeiahhmaokaaDoor
theorem sibsTokens_holds : Rows.SibsTokensUptoCardSaid := ds.tokens_card
end Go.Proofs.YtokaeiahhmaokaaDoor
