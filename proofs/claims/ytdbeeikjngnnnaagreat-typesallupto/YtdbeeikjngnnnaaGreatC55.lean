import Derived.Test.YtdbeeikjngnnnaaGreatC53
import Derived.Test.YtdbeeikjngnnnaaGreatC54
namespace Go.Proofs.YtdbeeikjngnnnaaGreat.ty
open Go.ChangeShapes Go.WideShapes Go.ChangeAt Go.RowKit
set_option linter.unusedVariables false
set_option linter.unusedSimpArgs false
set_option maxRecDepth 100000
set_option maxHeartbeats 8000000
variable {wB w w' w2 : World} {T k : Nat} {p r : Nat → Nat} {v : Nat → Vl} {ts : Nat → List Tg} {H L : List Sl} {sH sL : Sl} {h : Nat → Prop}
theorem step10 (t : Tb wB w T k p r v ts H L sH sL h) {I J a b : Int} {on : Bool} {sl : Sl} {bs : List Nat} (gv : Gv w sl bs) (hcp : sl.n ≤ sl.c) : Calls Tryz.prog 11 #[.pointer (some ⟨T, 0, none⟩), .agg (opC 10 I J a b on sl)] w fun x w' => StP wB T k H L x w' := by
 obtain ⟨i, hi, hmask⟩ := mask3 I
 obtain ⟨j, hj, hmask2⟩ := mask3 J
 have HT := hid t
 have Hi := hid hi
 have Hj := hid hj
 have Hi4 : Hid (¬ (4 : Int) ≤ (i : Int)) := hid (by omega)
 have HGv := hid gv
 have Hcp := hid hcp
 clear gv hcp
 obtain ⟨A, HAe⟩ : ∃ A, Hid (A = w.heap.size) := ⟨_, hid rfl⟩
 obtain ⟨w1, Hw1⟩ : ∃ W, Hid (W = w.alloc (.cells (opC 10 I J a b on sl) 31)) := ⟨_, hid rfl⟩
 have HA1 : Hid (Apart [] w w1) := hid (zM Hw1.out)
 have HBA : Hid (w1.heap[A]? = some (.cells (opC 10 I J a b on sl) 31 (0, 0))) := hid (zN HAe.out Hw1.out)
 have HT1 := hid (HT.out.kept0 HA1.out)
 have za0 : w1.cell? ⟨A, 0, none⟩ = some (.int .i64 10) := zK HBA.out
 have za1 : w1.cell? ⟨A, 1, none⟩ = some (.int .i64 I) := zK HBA.out
 have za2 : w1.cell? ⟨A, 2, none⟩ = some (.int .i64 J) := zK HBA.out
 have za6 : w1.cell? ⟨A, 6, none⟩ = some (.slice sl.p sl.n sl.c) := zK HBA.out
 clear t hj hi
 go_enter Tryz.func11, Tryz.ntmps11
 go_upto_region 1 with fail
 rw [← HAe.out, ← Hw1.out]
 clear Hw1 HAe
 have HD := hid (resolves_ok HT1.out Hi.out J (HGv.out.kept0 HA1.out) Hcp.out)
 go_wp2_with (
  go_at_call 25
  refine HD.out.mono ?_
  rintro _ w2 ⟨rfl, hst⟩
  have HS := hid hst
  clear hst)
 go_ret
 exact ⟨rfl, HS.out⟩
theorem step_resolves (wB : World) (k : Nat) : StepOk wB k 10 10 := by
 intro w T p r v ts H L sH sL h o t ha gv hB hH hL hcp
 by_cases h10 : o.K = 10
 ·obtain ⟨K, I, J, a, b, on, sl, bs⟩ := o
  obtain rfl : K = 10 := h10
  exact step10 t gv hcp
 ·refine step_done wB k w T p r v ts H L sH sL h o t ?_ gv hB hH hL hcp
  unfold Alw at ha ⊢
  omega
theorem step_all (wB : World) (k : Nat) : StepOk wB k 1 10 := by
 intro w T p r v ts H L sH sL h o t ha gv hB hH hL hcp
 by_cases h10 : o.K = 10
 ·obtain ⟨K, I, J, a, b, on, sl, bs⟩ := o
  obtain rfl : K = 10 := h10
  exact step10 t gv hcp
 ·by_cases h6 : o.K = 6
  ·obtain ⟨K, I, J, a, b, on, sl, bs⟩ := o
   obtain rfl : K = 6 := h6
   exact step6 t
  ·refine step_reads wB k w T p r v ts H L sH sL h o t ?_ gv hB hH hL hcp
   unfold Alw at ha ⊢
   omega
theorem resolves_walk {w : World} (z : Int) {s : Sl} {os : List Opx} (hs : Sr w s os) (hn : os.length ≤ 1100000) : Calls Tryz.prog 6 #[.int .i64 z, .slice s.p s.n s.c] w fun x w' => x = .returned (.bool true) ∧ Apart [] w w' := by
 have HA := hid (plays_any z hs hn 10 10 (fun k _ _ w1 _ => step_resolves w1 k))
 clear hs hn
 go_enter Tryz.func6, Tryz.ntmps6
 go_wp2_with (go_at_call 8; refine HA.out.mono ?_; rintro _ w1 ⟨rfl, a1⟩; have HA1 := hid a1; clear a1)
 go_ret
 exact ⟨rfl, HA1.out⟩
theorem all_walk {w : World} (z : Int) {s : Sl} {os : List Opx} (hs : Sr w s os) (hn : os.length ≤ 1100000) : Calls Tryz.prog 7 #[.int .i64 z, .slice s.p s.n s.c] w fun x w' => x = .returned (.bool true) ∧ Apart [] w w' := by
 have HA := hid (plays_any z hs hn 1 10 (fun k _ _ w1 _ => step_all w1 k))
 clear hs hn
 go_enter Tryz.func7, Tryz.ntmps7
 go_wp2_with (go_at_call 8; refine HA.out.mono ?_; rintro _ w1 ⟨rfl, a1⟩; have HA1 := hid a1; clear a1)
 go_ret
 exact ⟨rfl, HA1.out⟩
end Go.Proofs.YtdbeeikjngnnnaaGreat.ty
namespace Go.Proofs.YtdbeeikjngnnnaaGreat.ty
open Go.ChangeShapes Go.WideShapes Go.ChangeAt Go.RowKit Go.ChangeMaps Go.Deep
set_option linter.unusedVariables false
set_option linter.unusedSimpArgs false
set_option maxRecDepth 100000
set_option maxHeartbeats 8000000
theorem all_lifted (os : Os) (started : os.Started) (H : Type) (enc : TypeId × Value → H) (F : Stop.Interp) :
  ReturnsInHanded {} Tryz.checked os 7 .any ((Rows.OpenSpec.upto Rows.typesAllSpec).pre6 enc Tryz.prog Tryz.f7 Rows.typesAllUptoRow.domain false) (((Rows.OpenSpec.upto Rows.typesAllSpec).at F).post enc Tryz.prog Tryz.f7 false true false false) := by
 refine returnsInHanded_of_cond (C := Tryz.checked) (s := (Rows.OpenSpec.upto Rows.typesAllSpec)) (k := Rows.uptoSmall) rfl own started (by kernel_rfl) Tryz.func7
  (OpenSpec.witness (enc := enc) (C := Tryz.checked) (s := (Rows.OpenSpec.upto Rows.typesAllSpec)) (k := Rows.uptoSmall) rfl false ⟨#[], #[.int .i64 0, .slice none 0 0], []⟩ 8 (by kernel_rfl) (by kernel_rfl) (by kernel_rfl)
   (x := ([.lit (.int .i64 0), .nil], [], [])) (by kernel_rfl) rfl (by kernel_rfl)) ?_
 intro W base args ds gs before hval0 hW _ hk _
 have hval : ∀ (j : Nat) t v, Tryz.f7.params[j]? = some t → args[j]? = some v → Value.okWide Tryz.prog W .any base t v := hval0
 have hW' := hW
 obtain ⟨p, q, hA0, hV, rfl, hfz, hnd⟩ := hW
 have hA : DataW.TrodAll enc Tryz.prog W 0 (fun _ => true) true Tryz.f7.params.toList args.toList ds p := hA0
 rw [Tryz.params7] at hA hval
 obtain ⟨v0, vs0, d0, ds0, p0, q0, hargs0, rfl, rfl, h0, r0⟩ := trodAll_cons hA
 obtain ⟨v1, vs1, d1, ds1, p1, q1, hargs1, rfl, rfl, h1, r1⟩ := trodAll_cons r0
 obtain ⟨rfl, rfl, rfl⟩ := trodAll_nil r1
 obtain rfl : args = #[v0, v1] := by cases args; simp_all
 obtain ⟨rfl, rfl⟩ := trodVars_none hV
 have k0 := h0
 have lt0 : ∀ x ∈ p0, x.block < W.heap.size := by obtain ⟨m, hm⟩ := k0; exact DataW.trod_lt m _ _ _ hm
 obtain ⟨z0, rfl, _, _, wf0⟩ := open_int Tryz.underlying3 (hval 0 3 v0 rfl rfl) h0
 have hz0 : -9223372036854775808 ≤ z0 ∧ z0 ≤ 9223372036854775807 := by
  simp [Lit.wf, IntKind.bits, IntKind.signed, IntKind.min, IntKind.max] at wf0
  omega
 have k1 := h1
 have lt1 : ∀ x ∈ p1, x.block < W.heap.size := by obtain ⟨m, hm⟩ := k1; exact DataW.trod_lt m _ _ _ hm
 obtain ⟨a1, len1, cap1, rfl⟩ := okWide_slice Tryz.underlying22 (hval 1 22 v1 rfl rfl)
 obtain ⟨s1, os1, hs1, sr1, hn1⟩ : ∃ (s : Sl) (os : List Opx), Value.slice a1 len1 cap1 = .slice s.p s.n s.c ∧ Sr W s os ∧ os.length ≤ 1100000 := by
  obtain ⟨fuel, hf⟩ := h1
  refine open_ops hf ?_
  have hb : Rows.uptoBulkAll ([d0, d1] ++ []) ≤ 1048576 := of_decide_eq_true hk
  rw [List.append_nil] at hb
  simp only [all_cons, all_nil] at hb
  show Rows.uptoBulk d1 ≤ 1048576
  omega
 simp only [Value.slice.injEq] at hs1
 obtain ⟨rfl, rfl, rfl⟩ := hs1

 clear hA0 hval0
 refine (all_walk (w := W) z0 sr1 hn1).mono fun e W' ⟨he, ap⟩ => ?_
 subst he
 have bel : Below W.heap.size W W' := ap.below (Nat.le_refl _) (by simp)
 exact ⟨_, rfl, _, _, _, [], _, [], hW', trodAll_mk1 (shut_bool Tryz.underlying4 _), (trodAll_cons_mk (Below.trod laidOut (by kernel_rfl) (of_decide_eq_true (by kernel_rfl)) k0 bel lt0) (trodAll_cons_mk (Below.trod laidOut (by kernel_rfl) (of_decide_eq_true (by kernel_rfl)) k1 bel lt1) trodAll_mk0)), rfl, bel.frame _, fun h => by cases h⟩
theorem all_over : Rows.TypesAllUptoSaid :=
 OpenClaim.holds_of_cond 7 Tryz.f7 rfl rfl rfl rfl rfl rfl rfl ⟨rfl, rfl, rfl, rfl, rfl⟩ rfl rfl rfl rfl rfl (by kernel_rfl) Tryz.func7 (by kernel_rfl)
  (of_decide_eq_true (by kernel_rfl)) (by unfold Func.isWrapper; first | (rw [if_pos (by decide +kernel)]; kernel_rfl) | (rw [if_neg (by decide +kernel)]; exact ⟨rfl, rfl⟩))
  (fun os started H enc _ F => all_lifted os started H enc F)
end Go.Proofs.YtdbeeikjngnnnaaGreat.ty
namespace Go.Proofs.YtdbeeikjngnnnaaGreat
theorem typesAll_holds : Rows.TypesAllUptoSaid := ty.all_over
end Go.Proofs.YtdbeeikjngnnnaaGreat
namespace Go.Proofs.YtdbeeikjngnnnaaGreat.ty
open Go.ChangeShapes Go.WideShapes Go.ChangeAt Go.RowKit Go.ChangeMaps Go.Deep
set_option linter.unusedVariables false
set_option linter.unusedSimpArgs false
set_option maxRecDepth 100000
set_option maxHeartbeats 8000000
theorem resolves_lifted (os : Os) (started : os.Started) (H : Type) (enc : TypeId × Value → H) (F : Stop.Interp) :
  ReturnsInHanded {} Tryz.checked os 6 .any ((Rows.OpenSpec.upto Rows.typesResolvesSpec).pre6 enc Tryz.prog Tryz.f6 Rows.typesResolvesUptoRow.domain false) (((Rows.OpenSpec.upto Rows.typesResolvesSpec).at F).post enc Tryz.prog Tryz.f6 false true false false) := by
 refine returnsInHanded_of_cond (C := Tryz.checked) (s := (Rows.OpenSpec.upto Rows.typesResolvesSpec)) (k := Rows.uptoSmall) rfl own started (by kernel_rfl) Tryz.func6
  (OpenSpec.witness (enc := enc) (C := Tryz.checked) (s := (Rows.OpenSpec.upto Rows.typesResolvesSpec)) (k := Rows.uptoSmall) rfl false ⟨#[], #[.int .i64 0, .slice none 0 0], []⟩ 8 (by kernel_rfl) (by kernel_rfl) (by kernel_rfl)
   (x := ([.lit (.int .i64 0), .nil], [], [])) (by kernel_rfl) rfl (by kernel_rfl)) ?_
 intro W base args ds gs before hval0 hW _ hk _
 have hval : ∀ (j : Nat) t v, Tryz.f6.params[j]? = some t → args[j]? = some v → Value.okWide Tryz.prog W .any base t v := hval0
 have hW' := hW
 obtain ⟨p, q, hA0, hV, rfl, hfz, hnd⟩ := hW
 have hA : DataW.TrodAll enc Tryz.prog W 0 (fun _ => true) true Tryz.f6.params.toList args.toList ds p := hA0
 rw [Tryz.params6] at hA hval
 obtain ⟨v0, vs0, d0, ds0, p0, q0, hargs0, rfl, rfl, h0, r0⟩ := trodAll_cons hA
 obtain ⟨v1, vs1, d1, ds1, p1, q1, hargs1, rfl, rfl, h1, r1⟩ := trodAll_cons r0
 obtain ⟨rfl, rfl, rfl⟩ := trodAll_nil r1
 obtain rfl : args = #[v0, v1] := by cases args; simp_all
 obtain ⟨rfl, rfl⟩ := trodVars_none hV
 have k0 := h0
 have lt0 : ∀ x ∈ p0, x.block < W.heap.size := by obtain ⟨m, hm⟩ := k0; exact DataW.trod_lt m _ _ _ hm
 obtain ⟨z0, rfl, _, _, wf0⟩ := open_int Tryz.underlying3 (hval 0 3 v0 rfl rfl) h0
 have hz0 : -9223372036854775808 ≤ z0 ∧ z0 ≤ 9223372036854775807 := by
  simp [Lit.wf, IntKind.bits, IntKind.signed, IntKind.min, IntKind.max] at wf0
  omega
 have k1 := h1
 have lt1 : ∀ x ∈ p1, x.block < W.heap.size := by obtain ⟨m, hm⟩ := k1; exact DataW.trod_lt m _ _ _ hm
 obtain ⟨a1, len1, cap1, rfl⟩ := okWide_slice Tryz.underlying22 (hval 1 22 v1 rfl rfl)
 obtain ⟨s1, os1, hs1, sr1, hn1⟩ : ∃ (s : Sl) (os : List Opx), Value.slice a1 len1 cap1 = .slice s.p s.n s.c ∧ Sr W s os ∧ os.length ≤ 1100000 := by
  obtain ⟨fuel, hf⟩ := h1
  refine open_ops hf ?_
  have hb : Rows.uptoBulkAll ([d0, d1] ++ []) ≤ 1048576 := of_decide_eq_true hk
  rw [List.append_nil] at hb
  simp only [all_cons, all_nil] at hb
  show Rows.uptoBulk d1 ≤ 1048576
  omega
 simp only [Value.slice.injEq] at hs1
 obtain ⟨rfl, rfl, rfl⟩ := hs1

 clear hA0 hval0
 refine (resolves_walk (w := W) z0 sr1 hn1).mono fun e W' ⟨he, ap⟩ => ?_
 subst he
 have bel : Below W.heap.size W W' := ap.below (Nat.le_refl _) (by simp)
 exact ⟨_, rfl, _, _, _, [], _, [], hW', trodAll_mk1 (shut_bool Tryz.underlying4 _), (trodAll_cons_mk (Below.trod laidOut (by kernel_rfl) (of_decide_eq_true (by kernel_rfl)) k0 bel lt0) (trodAll_cons_mk (Below.trod laidOut (by kernel_rfl) (of_decide_eq_true (by kernel_rfl)) k1 bel lt1) trodAll_mk0)), rfl, bel.frame _, fun h => by cases h⟩
theorem resolves_over : Rows.TypesResolvesUptoSaid :=
 OpenClaim.holds_of_cond 6 Tryz.f6 rfl rfl rfl rfl rfl rfl rfl ⟨rfl, rfl, rfl, rfl, rfl⟩ rfl rfl rfl rfl rfl (by kernel_rfl) Tryz.func6 (by kernel_rfl)
  (of_decide_eq_true (by kernel_rfl)) (by unfold Func.isWrapper; first | (rw [if_pos (by decide +kernel)]; kernel_rfl) | (rw [if_neg (by decide +kernel)]; exact ⟨rfl, rfl⟩))
  (fun os started H enc _ F => resolves_lifted os started H enc F)
end Go.Proofs.YtdbeeikjngnnnaaGreat.ty
namespace Go.Proofs.YtdbeeikjngnnnaaGreat
theorem typesResolves_holds : Rows.TypesResolvesUptoSaid := ty.resolves_over
end Go.Proofs.YtdbeeikjngnnnaaGreat
