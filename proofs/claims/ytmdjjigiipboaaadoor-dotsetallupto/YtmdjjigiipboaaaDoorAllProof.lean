import Derived.Test.YtmdjjigiipboaaaDoorP24
import Derived.Test.YtmdjjigiipboaaaDoorP5
import Derived.Test.YtmdjjigiipboaaaDoorGone
import Derived.Test.YtmdjjigiipboaaaDoorOpenF
namespace Go.Proofs.YtmdjjigiipboaaaDoor.ds
open Go.ChangeShapes Go.WideShapes Go.ChangeAt Go.RowKit Go.Deep
set_option linter.unusedVariables false
theorem step18 : StepOk 1 8 := by
  intro w o T ok h1 h2
  by_cases e1 : o.kind ≤ 1
  · exact step1 w o T ok h1 e1
  · by_cases e2 : o.kind ≤ 2
    · exact step2 w o T ok (by omega) e2
    · by_cases e3 : o.kind ≤ 3
      · exact step3 w o T ok (by omega) e3
      · by_cases e4 : o.kind ≤ 4
        · exact step4 w o T ok (by omega) e4
        · by_cases e7 : o.kind ≤ 7
          · exact step567 w o T ok (by omega) e7
          · exact step8 w o T ok (by omega) h2
theorem all8_walk (w : World) (T : Tab w) (p : Option Addr) (N cap : Nat) (f : Nat → OpC) (h : Ops w p N f) (hN : N ≤ 9223372036854775807) :
    Calls Tryd.prog 14 #[.slice p N cap] w fun r w' => r = .returned (.bool true) ∧ Apart [] w w' := by
  go_enter Tryd.func14, Tryd.ntmps14
  go_wp2_with fail
  refine (upto_ok 1 8 step18 w T p N cap f h hN).mono ?_
  rintro r w1 ⟨rfl, a1⟩
  dsimp only
  go_wp2
  go_ret
  exact ⟨rfl, a1⟩
theorem all8_met (os : Os) : laidMet Tryd.prog Rows.dotsetAllUptoRow.laid ((laidWorld os).forCall (fun _ _ => 0) ⟨#[], #[.slice none 0 0], []⟩).memory :=
  laidMet_of_run' 8 (by kernel_rfl) (by kernel_rfl)
theorem all8_reads (os : Os) {H : Type} (enc : TypeId × Value → H) : ∃ places, DataW.whole enc Tryd.prog ((laidWorld os).forCall (fun _ _ => 0) ⟨#[], #[.slice none 0 0], []⟩).memory Tryd.f14.params.toList Rows.dotsetAllSpec.vars false #[Value.slice none 0 0].toList 8 = some ([.nil], [], places) :=
  ⟨[], by kernel_rfl⟩
set_option maxRecDepth 100000 in
theorem all8_lifted (os : Os) (started : os.Started) (H : Type) (enc : TypeId × Value → H) (F : Stop.Interp) :
    ReturnsInHanded {} Tryd.checked os 14 .any ((Rows.OpenSpec.upto Rows.dotsetAllSpec).preRow enc Tryd.prog Tryd.f14 Rows.dotsetAllUptoRow.domain false Rows.dotsetAllUptoRow.laid) (((Rows.OpenSpec.upto Rows.dotsetAllSpec).at F).post enc Tryd.prog Tryd.f14 false true false false) := by
  obtain ⟨places, hx⟩ := all8_reads os enc
  refine returnsInHanded_of_row (C := Tryd.checked) (s := (Rows.OpenSpec.upto Rows.dotsetAllSpec)) own started (by kernel_rfl) Tryd.func14
    (witness_row_at (enc := enc) (C := Tryd.checked) false (laidWorld os) #[.slice none 0 0] rfl (by kernel_rfl) (by kernel_rfl) (by kernel_rfl)
      (OpenSpec.preRow_of_cond 8 hx (by kernel_rfl) (fun k hk => by cases hk; kernel_rfl) (by kernel_rfl) (all8_met os))) ?_
  intro W base args ds gs before hval0 hW _ hcond _ hL _ _
  have hval : ∀ (j : Nat) t v, Tryd.f14.params[j]? = some t → args[j]? = some v → Value.okWide Tryd.prog W .any base t v := hval0
  have hW' := hW
  obtain ⟨p, q, hA0, hV, rfl, hfz, hnd⟩ := hW
  have hA : DataW.TrodAll enc Tryd.prog W 0 (fun _ => true) true Tryd.f14.params.toList args.toList ds p := hA0
  rw [Tryd.params14] at hA hval
  obtain ⟨v0, vs0, d0, ds0, p0, q0, hargs0, rfl, rfl, h0, r0⟩ := trodAll_cons hA
  obtain ⟨rfl, rfl, rfl⟩ := trodAll_nil r0
  obtain rfl : args = #[v0] := by cases args; simp_all
  obtain ⟨rfl, rfl⟩ := trodVars_none hV
  obtain ⟨a0, len0, cap0, rfl⟩ := okWide_slice Tryd.underlying42 (hval 0 42 v0 rfl rfl)
  have k0 := h0
  have lt0 : ∀ x ∈ p0, x.block < W.heap.size := by obtain ⟨m, hm⟩ := k0; exact DataW.trod_lt m _ _ _ hm
  obtain ⟨f0, l0, lim0⟩ : ∃ f, Ops W a0 len0 f ∧ len0 ≤ 9223372036854775807 := by
    obtain ⟨fuel, hf⟩ := h0
    refine open_ops hf ?_
    have hb : Rows.uptoBulkAll ([d0] ++ []) ≤ 1048576 := of_decide_eq_true (hcond _ rfl)
    rw [List.append_nil, all_cons, all_nil] at hb
    exact hb
  clear hA0 hval0
  refine (all8_walk W (table hL) a0 len0 cap0 f0 l0 lim0).mono fun e W' ⟨he, ap⟩ => ?_
  subst he
  have bel : Below W.heap.size W W' := ap.below (Nat.le_refl _) (by simp)
  exact ⟨_, rfl, _, _, _, [], _, [], hW', trodAll_mk1 (shut_bool Tryd.underlying4 _), (trodAll_cons_mk (Below.trod laidOut (by kernel_rfl) (of_decide_eq_true (by kernel_rfl)) k0 bel lt0) trodAll_mk0), rfl, bel.frame _, fun h => by cases h⟩
theorem all8_said : Rows.DotsetAllUptoSaid :=
  OpenClaim.holds_of_cond 14 Tryd.f14 rfl rfl rfl rfl rfl rfl rfl ⟨rfl, rfl, rfl, rfl, rfl⟩ rfl rfl rfl rfl rfl (by kernel_rfl) Tryd.func14 (by kernel_rfl)
    (of_decide_eq_true (by kernel_rfl)) (by unfold Func.isWrapper; first | (rw [if_pos (by decide +kernel)]; kernel_rfl) | (rw [if_neg (by decide +kernel)]; exact ⟨rfl, rfl⟩))
    (fun os started H enc _ F => by rw [OpenClaim.pre_eq_preRow]; exact all8_lifted os started H enc F)
theorem all8_plain (f : FuncId) (fn : Func) (hf : Tryd.pinned.checked.prog.funcNamed "rookery/rookerylaw3.DotsetAll" = some f) (hfn : Tryd.pinned.checked.prog.funcs[f]? = some fn) :
    false = Tryd.pinned.checked.prog.looks [] ∧ ∀ (j : Nat) t, fn.params[j]? = some t → Tryd.pinned.checked.prog.wantsStandIn t = false := by
  obtain rfl : f = 14 := Option.some.inj ((show Tryd.prog.funcNamed "rookery/rookerylaw3.DotsetAll" = some 14 by kernel_rfl).symm.trans hf) |>.symm
  obtain rfl : fn = Tryd.f14 := (Option.some.inj (Tryd.func14.symm.trans hfn)).symm
  refine ⟨by kernel_rfl, fun j t ht => ?_⟩
  rw [Tryd.params14] at ht
  have w42 : Tryd.prog.wantsStandIn 42 = false := by kernel_rfl
  have hh := Array.mem_of_getElem? ht
  simp only [List.mem_toArray, List.mem_cons, List.not_mem_nil, or_false] at hh
  rcases hh with rfl <;> assumption
theorem all8_card : Rows.DotsetAllUptoCardSaid :=
  Claim7.holds_tied_plain_at .later [] _ _ _ _ all8_said (fun _ h => by cases h) (by kernel_rfl) (fun _ h => by cases h) dotsetAllUpto_row_tie rfl ⟨rfl, rfl⟩ (by kernel_rfl) rfl all8_plain (by kernel_rfl)
end Go.Proofs.YtmdjjigiipboaaaDoor.ds
namespace Go.Proofs.YtmdjjigiipboaaaDoor
theorem dotsetAll_holds : Rows.DotsetAllUptoCardSaid := ds.all8_card
end Go.Proofs.YtmdjjigiipboaaaDoor
