import Derived.Test.YtdbeeikjngnnnaaGreatChecked
import Derived.WalkKit
import Derived.ProofKit
import Derived.OpenShut
import Derived.Deep.QuietTactic
import Derived.BigQuiet
import Derived.BigRegion
import Derived.Laws.CopyOwn
import Derived.Laws.IdiomCopy
import Derived.WalkSmall
import Derived.Laws.ResultCell
import Derived.Laws.AppendOwnNone
import Derived.Deep.RegionHeld
import Derived.Deep.DeepAppendRoom
import Derived.Great.BuildSlice
import Derived.Deep.CutBlock
import Derived.Deep.RegionLaw
import Derived.ArgAppend
import Derived.Laws.Strings
import Derived.Laws.StructEq
import Derived.Below
import Derived.Deep.MidRow
import Derived.Great.Ranges
import Derived.Deep.RegionHeld3
import Derived.Laws.NewBlocks
import Derived.OrdersHeld
import Derived.Stop.BytesEq
import Derived.Laws.BytesString
import Derived.Lib.ConvBytes
import Derived.Laws.BitsAllLaws
import Derived.WalkLawsBesides
import Derived.Lib.Bytealg
import Derived.Laws.Externs
import Derived.Lib.SliceRun
import Derived.Lib.AppendZerosOnto
import Derived.Lib.AppendStr
import Derived.Lib.SlBytesConst
import Derived.Sort.Walk0
import Derived.Laws.Cover1
import Derived.Lib.Strings
import Derived.Lib.MinMaxS
import GoSem.Claim
import GoSem.ClaimJoined
import GoSem.ClaimMapViews
import Derived.JoinedTies
import Derived.KernelRfl
import Derived.JoinedCond
import Derived.ShutString
import Derived.ChangeOld
import Derived.Carry
import Derived.ChangeSlices
import Derived.Deep.Slices
import Derived.Deep.DeepHandedRow
import Derived.RowKit
import Derived.ChangeShapes
import Derived.SizedLaws
import Derived.ChangeMaps5
import Derived.Sort.WalkA
import Derived.Test.YtdbeeikjngnnnaaGreatRows
import Derived.Test.YtdbeeikjngnnnaaGreatM14
import Derived.Test.YtdbeeikjngnnnaaGreatM15
import Derived.Test.YtdbeeikjngnnnaaGreatM16
namespace Go.Proofs.YtdbeeikjngnnnaaGreat.ty
open Go.ChangeShapes Go.WideShapes Go.ChangeAt Go.RowKit
set_option linter.unusedVariables false
set_option linter.unusedSimpArgs false
theorem Dv.stamp {w : World} {O : Nat} {r : Rv} {s : Sl} (h : Dv w O r s) : w.cell? ⟨O, 26, none⟩ = some (.int .i64 r.st) := h.rest (i := 1) rfl
theorem Dv.actor {w : World} {O : Nat} {r : Rv} {s : Sl} (h : Dv w O r s) : w.cell? ⟨O, 27, none⟩ = some (.int .i64 r.ac) := h.rest (i := 2) rfl
theorem Dv.text {w : World} {O : Nat} {r : Rv} {s : Sl} (h : Dv w O r s) : w.cell? ⟨O, 28, none⟩ = some (.string r.tx) := h.rest (i := 3) rfl
theorem ex_load60 {W : World} {eval : Operand → Value} {op : Oper} (x : Operand) (ho : op.op = .load 60 x) (b o : Nat) (cs : List Value) (hx : eval x = .pointer (some ⟨b, o, none⟩)) (hc : W.rangeAt b o cs) (hl : cs.length = 8) : (execOp eval op).run Tryz.prog W = .ok (.value (.agg cs.toArray)) W := by
  unfold execOp
  simp only [ho, hx, Instr.loadAt, Instr.sureAddr, Sem.run_bind, Sem.run_pure, Result.andThen_ok, run_loadVar_mid W b o 60 cs _ hc Tryz.underlying60 rfl (by rw [size60, hl])]
theorem Bf.one (w : World) (x : Nat) : Bf w (w.alloc (.cells #[.int .u8 (x : Int)] 5)) ⟨some ⟨w.heap.size, 0, none⟩, 1, 1⟩ [x] :=
  ⟨⟨⟨rfl, .inr ⟨w.heap.size, 1, _, rfl, Nat.zero_le _, heap_alloc_new w _, Nat.le_refl _, by unfold maxLen; omega, rfl, rfl⟩⟩, fun k hk => by simp [Sl.v, Value.ownBlock] at hk; rw [← hk]; exact Nat.le_refl _, (Apart.refl [] w).alloc _⟩, rfl⟩
theorem jl {l : List Int} {j : Nat} {v : Value} (hj : (rv l)[j]? = some v) : j < (rv l).length := by
  by_cases hc : j < (rv l).length
  · exact hc
  · rw [List.getElem?_eq_none (by omega)] at hj; cases hj
theorem bgU {W : World} {O : Nat} {r : Rv} {s : Sl} (hb : W.heap[O]? = some (.cells (dCells r s).toArray 63 (0, 0))) : W.rangeAt O 1 (rv r.u) := by
  intro j v hj
  have h1 := jl hj
  rw [cell_of_row _ _ _ _ _ _ hb, Nat.add_comm]
  unfold dCells
  rw [List.getElem?_toArray, List.getElem?_cons_succ, List.getElem?_append_left h1]
  exact hj
theorem bgD {W : World} {O : Nat} {r : Rv} {s : Sl} (hb : W.heap[O]? = some (.cells (dCells r s).toArray 63 (0, 0))) (lu : (rv r.u).length = 8) : W.rangeAt O 9 (rv r.d) := by
  intro j v hj
  have h1 := jl hj
  rw [cell_of_row _ _ _ _ _ _ hb, show 9 + j = (8 + j) + 1 by omega]
  unfold dCells
  rw [List.getElem?_toArray, List.getElem?_cons_succ, List.getElem?_append_right (by omega), lu, Nat.add_sub_cancel_left, List.getElem?_append_left h1]
  exact hj
def Sb (O : Nat) (r : Rv) (s : Sl) (W : World) : Prop := W.heap[O]? = some (.cells (dCells r s).toArray 63 (0, 0))
set_option maxHeartbeats 4000000 in
set_option maxRecDepth 100000 in
/-- a counter's form -/
theorem dform_cnt {w : World} {O : Nat} {r : Rv} {s : Sl} (h : Dv w O r s) (hk : r.k = 1) (hu : Wd r.u) (hd : Wd r.d) : Calls Tryz.prog 44 #[.pointer (some ⟨O, 0, none⟩)] w fun x w' => ∃ s', x = .returned (.slice s'.p s'.n s'.c) ∧ Bf w w' s' (1 :: rowB (ob r.u r.d) 6) := by
  have HB1 := hid (Bf.one w 1)
  obtain ⟨w1, Hw1⟩ : ∃ W, Hid (W = w.alloc (.cells #[.int .u8 1] 5)) := ⟨_, hid rfl⟩
  have e0 : (w.alloc (.cells #[.int .u8 ((1 : Nat) : Int)] 5)) = w1 := by rw [Hw1.out]; rfl
  rw [e0] at HB1
  clear e0
  have HD1 : Hid (Dv w1 O r s) := hid (h.kept0 (by rw [Hw1.out]; exact (Apart.refl [] w).alloc _))
  have zk : w.cell? ⟨O, 0, none⟩ = some (.int .i64 1) := by rw [h.kind, hk]; rfl
  have zk1 : w1.cell? ⟨O, 0, none⟩ = some (.int .i64 1) := by rw [HD1.out.kind, hk]; rfl
  have Hu := hid hu
  have Hd := hid hd
  have HR := hid (fun (W : World) => drow_ok (w := W) hu.sm hd.sm (size := 3) (by omega) true)
  have Hlu : Hid ((rv r.u).length = 8) := hid (by rw [rv_len]; exact h.lu)
  have Hld : Hid ((rv r.d).length = 8) := hid (by rw [rv_len]; exact h.ld)
  clear h hk hu hd
  obtain ⟨A, HA⟩ : ∃ A, Hid (A = w.heap.size) := ⟨_, hid rfl⟩
  rw [← HA.out] at HB1
  go_enter Tryz.func44, Tryz.ntmps44
  go_upto_region 2 with fail
  rw [← HA.out, ← Hw1.out]
  clear zk Hw1 HA
  go_upto_region 4 with fail
  have hAd : Sb O r s w1.drew := keep0 ((Apart.refl [] w1).drew) HD1.out.blk
  have HBd := hid (HB1.out.kept ((Apart.refl [] w1).drew))
  refine wp_region_held_drew (S := Sb O r s) (by kernel_rfl) hAd (fun hHeld => ?_)
  have HSd := hid hAd
  generalize w1.drew = wd at *
  clear hAd hHeld HB1
  refine tk 0 18 (.slice (some ⟨A, 0, none⟩) 1 1) rfl ?_ ?_
  · intro W hSW; go_simp
  simp only [Act.put, List.setIfInBounds_toArray, List.set_cons_zero, List.set_cons_succ]
  refine tk 1 19 (.pointer (some ⟨O, 0, none⟩)) rfl ?_ ?_
  · intro W hSW; go_simp
  simp only [Act.put, List.setIfInBounds_toArray, List.set_cons_zero, List.set_cons_succ]
  refine tk 2 20 (.pointer (some ⟨O, 0, none⟩)) rfl ?_ ?_
  · intro W hSW; go_simp
  simp only [Act.put, List.setIfInBounds_toArray, List.set_cons_zero, List.set_cons_succ]
  refine tk 3 21 (.pointer (some ⟨O, 1, none⟩)) rfl ?_ ?_
  · intro W hSW; go_simp
  simp only [Act.put, List.setIfInBounds_toArray, List.set_cons_zero, List.set_cons_succ]
  refine tk 4 22 (.agg (rv r.u).toArray) rfl ?_ ?_
  · intro W hSW; exact ex_load60 _ rfl O 1 _ rfl (bgU hSW) Hlu.out
  simp only [Act.put, List.setIfInBounds_toArray, List.set_cons_zero, List.set_cons_succ]
  refine tk 5 23 (.pointer (some ⟨O, 0, none⟩)) rfl ?_ ?_
  · intro W hSW; go_simp
  simp only [Act.put, List.setIfInBounds_toArray, List.set_cons_zero, List.set_cons_succ]
  refine tk 6 24 (.pointer (some ⟨O, 0, none⟩)) rfl ?_ ?_
  · intro W hSW; go_simp
  simp only [Act.put, List.setIfInBounds_toArray, List.set_cons_zero, List.set_cons_succ]
  refine tk 7 25 (.pointer (some ⟨O, 9, none⟩)) rfl ?_ ?_
  · intro W hSW; go_simp
  simp only [Act.put, List.setIfInBounds_toArray, List.set_cons_zero, List.set_cons_succ]
  refine tk 8 26 (.agg (rv r.d).toArray) rfl ?_ ?_
  · intro W hSW; exact ex_load60 _ rfl O 9 _ rfl (bgD hSW Hlu.out) Hld.out
  simp only [Act.put, List.setIfInBounds_toArray, List.set_cons_zero, List.set_cons_succ]
  refine wpAnyH_ready (rs := [9]) (by kernel_rfl) (by simp) ?_
  refine AllReadyH.cons rfl (fun KK hKK => ?_) AllReadyH.nil
  go_simp
  refine (HR.out wd).mono ?_
  rintro _ w3 ⟨s3, rfl, b3⟩
  obtain ⟨s4, w4, hrun, b4, t4⟩ := app_bs (HBd.out.kept b3.nw.ap) b3.nw.rd b3.len b3.nw.ok (by
    have h1 := nbD_len (inD r.u r.d) (nuD r.u r.d 3 true) (2 * 3) (nuD_len r.u r.d 3 true) 8
    unfold rowD
    simp only [List.length_cons, List.length_nil]
    omega)
  have HRR := hid hrun
  have HB4 := hid b4
  have HS3 := hid (keep0 b3.nw.ap HSd.out)
  have HS4 := hid (t4.block HS3.out (by simp))
  clear hrun b4 t4 b3
  refine hKK _ _ HS3.out (fun hHeld => ?_)
  clear hKK KK
  try simp only [Act.put, List.setIfInBounds_toArray, List.set_cons_zero, List.set_cons_succ]
  refine wpAnyH_ready (rs := [10]) (by kernel_rfl) (by simp) ?_
  refine AllReadyH.cons rfl (fun KK hKK => ?_) AllReadyH.nil
  refine step_app2 rfl _ _ 29 29 rfl _ _ rfl rfl (.slice s4.p s4.n s4.c) w4 HRR.out ?_
  refine hKK _ _ HS4.out (fun hHeld => ?_)
  clear hKK KK HRR
  try simp only [Act.put, List.setIfInBounds_toArray, List.set_cons_zero, List.set_cons_succ]
  refine tk 11 3 (.slice s4.p s4.n s4.c) rfl ?_ ?_
  · intro W hSW; go_simp
  simp only [Act.put, List.setIfInBounds_toArray, List.set_cons_zero, List.set_cons_succ]
  refine wpAnyH_done (by kernel_rfl) ?_ _
  go_wp2_with fail
  go_ret
  exact ⟨s4, rfl, by have h1 := HB4.out; rw [rowD_two Hu.out Hd.out] at h1; exact h1⟩
end Go.Proofs.YtdbeeikjngnnnaaGreat.ty
namespace Go.Proofs.YtdbeeikjngnnnaaGreat.ty
open Go.ChangeShapes Go.WideShapes Go.ChangeAt Go.RowKit
set_option linter.unusedVariables false
set_option linter.unusedSimpArgs false
theorem bgC {W : World} {O : Nat} {r : Rv} {s : Sl} (hb : W.heap[O]? = some (.cells (dCells r s).toArray 63 (0, 0))) (lu : (rv r.u).length = 8) (ld : (rv r.d).length = 8) : W.rangeAt O 17 (rv r.c) := by
  intro j v hj
  have h1 := jl hj
  rw [cell_of_row _ _ _ _ _ _ hb, show 17 + j = (8 + (8 + j)) + 1 by omega]
  unfold dCells
  rw [List.getElem?_toArray, List.getElem?_cons_succ, List.getElem?_append_right (by omega), lu, Nat.add_sub_cancel_left, List.getElem?_append_right (by omega), ld, Nat.add_sub_cancel_left, List.getElem?_append_left h1]
  exact hj
theorem rowD_len (u d : List Int) (size : Nat) (two : Bool) (hs : size ≤ 3) : (rowD u d size two).length ≤ 49 := by
  have h1 := nbD_len (inD u d) (nuD u d size two) (2 * size) (nuD_len u d size two) 8
  unfold rowD
  simp only [List.length_cons]
  omega
/-- tags in memory are kept when only bytes change -/
structure Dk (w : World) (O : Nat) (r : Rv) (s : Sl) : Prop where
  dv : Dv w O r s
  tag : 0 < r.ts.length → ∃ A o cur, s.p = some ⟨A, o, none⟩ ∧ w.heap[A]? = some (.cells cur 96 (0, 0))
theorem Dk.kept0 {w w' : World} {O : Nat} {r : Rv} {s : Sl} (h : Dk w O r s) (a : Apart [] w w') : Dk w' O r s :=
  ⟨h.dv.kept0 a, fun h0 => by obtain ⟨A, o, cur, h1, h3⟩ := h.tag h0; exact ⟨A, o, cur, h1, keep0 a h3⟩⟩
theorem Dk.tkg {tys : List Nat} {w w' : World} {O : Nat} {r : Rv} {s : Sl} (h : Dk w O r s) (k : TK tys w w') (h63 : 63 ∉ tys) (h96 : 96 ∉ tys) : Dk w' O r s := by
  refine ⟨⟨k.block h.dv.blk h63, ?_, h.dv.len, h.dv.ok, h.dv.lu, h.dv.ld, h.dv.lc⟩, fun h0 => ?_⟩
  · by_cases h0 : 0 < r.ts.length
    · obtain ⟨A, o, cur, h1, h3⟩ := h.tag h0
      obtain ⟨Z, a, hz⟩ := k
      refine h.dv.rd.kept a (fun P o' hp hm => ?_)
      rw [h1] at hp
      simp only [Option.some.injEq, Addr.mk.injEq] at hp
      obtain ⟨cu, t', ht, hh⟩ := hz P hm
      rw [← hp.1, h3] at hh
      simp only [Option.some.injEq, Obj.cells.injEq] at hh
      exact h96 (by rw [hh.2.1]; exact ht)
    · have e : r.ts = [] := List.length_eq_zero_iff.1 (by omega)
      rw [e]
      exact Rd.nil _ _
  · obtain ⟨A, o, cur, h1, h3⟩ := h.tag h0
    exact ⟨A, o, cur, h1, k.block h3 h96⟩
theorem Dk.tk {w w' : World} {O : Nat} {r : Rv} {s : Sl} (h : Dk w O r s) (k : TK [5] w w') : Dk w' O r s := h.tkg k (by decide) (by decide)
/-- other blocks written -/
theorem Dk.other {w w' : World} {O : Nat} {r : Rv} {s : Sl} {X : List Nat} (h : Dk w O r s) (a : Apart X w w') (hO : O ∉ X) (hX : ∀ k ∈ X, ∀ cur m, w.heap[k]? ≠ some (.cells cur 96 m)) : Dk w' O r s := by
  refine ⟨⟨(a.block _ (lt_of_heap h.dv.blk) hO).trans h.dv.blk, ?_, h.dv.len, h.dv.ok, h.dv.lu, h.dv.ld, h.dv.lc⟩, fun h0 => ?_⟩
  · by_cases h0 : 0 < r.ts.length
    · obtain ⟨A, o, cur, h1, h3⟩ := h.tag h0
      refine h.dv.rd.kept a (fun P o' hp hm => ?_)
      rw [h1] at hp
      simp only [Option.some.injEq, Addr.mk.injEq] at hp
      exact hX P hm cur (0, 0) (by rw [← hp.1]; exact h3)
    · have e : r.ts = [] := List.length_eq_zero_iff.1 (by omega)
      rw [e]
      exact Rd.nil _ _
  · obtain ⟨A, o, cur, h1, h3⟩ := h.tag h0
    exact ⟨A, o, cur, h1, (a.block _ (lt_of_heap h3) (fun hm => hX A hm cur (0, 0) h3)).trans h3⟩
set_option maxHeartbeats 4000000 in
set_option maxRecDepth 100000 in
/-- a flag's form -/
theorem dform_flg {w : World} {O : Nat} {r : Rv} {s : Sl} (h : Dk w O r s) (hk : r.k = 3) (hl : r.ts.length ≤ 1000000) (hc : Sm r.c) {b : List Int} (hb : Tr r.ts ⟨#[]⟩ b) : Calls Tryz.prog 44 #[.pointer (some ⟨O, 0, none⟩)] w fun x w' => ∃ s', x = .returned (.slice s'.p s'.n s'.c) ∧ Bf w w' s' (3 :: (rowB r.c 2 ++ rowB b 2)) := by
  have HB1 := hid (Bf.one w 3)
  obtain ⟨w1, Hw1⟩ : ∃ W, Hid (W = w.alloc (.cells #[.int .u8 3] 5)) := ⟨_, hid rfl⟩
  have e0 : (w.alloc (.cells #[.int .u8 ((3 : Nat) : Int)] 5)) = w1 := by rw [Hw1.out]; rfl
  rw [e0] at HB1
  clear e0
  have HD1 : Hid (Dk w1 O r s) := hid (h.kept0 (by rw [Hw1.out]; exact (Apart.refl [] w).alloc _))
  have zk : w.cell? ⟨O, 0, none⟩ = some (.int .i64 3) := by rw [h.dv.kind, hk]; rfl
  have zk1 : w1.cell? ⟨O, 0, none⟩ = some (.int .i64 3) := by rw [HD1.out.dv.kind, hk]; rfl
  have HR := hid (fun (W : World) => drow_ok (w := W) hc zr_sm (size := 2) (by omega) false)
  have HT := hid (fun (W : World) (hW : Dk W O r s) => tags_ok (w := W) hW.dv hl hb)
  have Hlu : Hid ((rv r.u).length = 8) := hid (by rw [rv_len]; exact h.dv.lu)
  have Hld : Hid ((rv r.d).length = 8) := hid (by rw [rv_len]; exact h.dv.ld)
  have Hlc : Hid ((rv r.c).length = 8) := hid (by rw [rv_len]; exact h.dv.lc)
  clear h hk hl hc hb
  obtain ⟨A, HA⟩ : ∃ A, Hid (A = w.heap.size) := ⟨_, hid rfl⟩
  rw [← HA.out] at HB1
  go_enter Tryz.func44, Tryz.ntmps44
  go_upto_region 2 with fail
  rw [← HA.out, ← Hw1.out]
  clear zk Hw1 HA
  go_upto_region 17 with (first
    | refine wpL_val rfl (.agg (rv r.c).toArray) (ex_load60 _ rfl O 17 _ rfl (bgC HD1.out.dv.blk Hlu.out Hld.out) Hlc.out) ?_
    | refine wpL_val rfl (.agg (rv zr).toArray) (ex_build60 rfl) ?_
    | (go_at_call 58
       refine (HR.out w1).mono ?_
       rintro _ w3 ⟨s3, rfl, b3⟩
       obtain ⟨s4, w4, hrun, b4, t4⟩ := app_bs (HB1.out.kept b3.nw.ap) b3.nw.rd b3.len b3.nw.ok (by have := rowD_len r.c zr 2 false (by omega); simp only [List.length_cons, List.length_nil]; omega)
       have HRR := hid hrun
       have HB4 := hid b4
       have HD4 := hid ((HD1.out.kept0 b3.nw.ap).tk t4)
       clear hrun b4 t4 b3)
    | (at_builtin; refine wpList_app2 rfl _ _ 29 29 rfl _ _ rfl rfl (.slice s4.p s4.n s4.c) w4 HRR.out ?_))
  clear HRR HB1 HD1
  go_wp2_with (first
    | (go_at_call 59
       refine (HT.out w4 HD4.out).mono ?_
       rintro _ w5 ⟨s5, rfl, b5⟩
       obtain ⟨s6, w6, hrun, b6, t6⟩ := app_bs (HB4.out.kept b5.nw.ap) b5.nw.rd b5.len b5.nw.ok (by have := rowD_len r.c zr 2 false (by omega); have := rowD_len b zr 2 false (by omega); rw [List.length_append]; simp only [List.length_cons, List.length_nil]; omega)
       have HRR := hid hrun
       have HB6 := hid b6
       clear hrun b6 t6 b5)
    | (at_builtin; refine wpList_app2 rfl _ _ 29 29 rfl _ _ rfl rfl (.slice s6.p s6.n s6.c) w6 HRR.out ?_))
  go_ret
  exact ⟨s6, rfl, by have h1 := HB6.out; rw [rowD_one, rowD_one, List.append_assoc] at h1; exact h1⟩
set_option maxHeartbeats 4000000 in
set_option maxRecDepth 100000 in
/-- a register's form -/
theorem dform_reg {w : World} {O : Nat} {r : Rv} {s : Sl} (h : Dv w O r s) (hk : r.k = 4) {n a : Nat} (hn : r.st = (n : Int)) (hn' : n ≤ 16777215) (ha : r.ac = (a : Int)) (ht : r.tx.size ≤ 1000) : Calls Tryz.prog 44 #[.pointer (some ⟨O, 0, none⟩)] w fun x w' => ∃ s', x = .returned (.slice s'.p s'.n s'.c) ∧ Bf w w' s' (4 :: (leB n 3 ++ (a % 256) :: bsk r.tx)) := by
  have HB1 := hid (Bf.one w 4)
  obtain ⟨w1, Hw1⟩ : ∃ W, Hid (W = w.alloc (.cells #[.int .u8 4] 5)) := ⟨_, hid rfl⟩
  have e0 : (w.alloc (.cells #[.int .u8 ((4 : Nat) : Int)] 5)) = w1 := by rw [Hw1.out]; rfl
  rw [e0] at HB1
  clear e0
  have HD1 : Hid (Dv w1 O r s) := hid (h.kept0 (by rw [Hw1.out]; exact (Apart.refl [] w).alloc _))
  have zk : w.cell? ⟨O, 0, none⟩ = some (.int .i64 4) := by rw [h.kind, hk]; rfl
  have zk1 : w1.cell? ⟨O, 0, none⟩ = some (.int .i64 4) := by rw [HD1.out.kind, hk]; rfl
  have z26 : w1.cell? ⟨O, 26, none⟩ = some (.int .i64 (n : Int)) := by rw [HD1.out.stamp, hn]
  have HL := hid (fun (W : World) => low_ok (w := W) (n := n) (size := 3) (by omega) (by omega))
  have Ha := hid ha
  have Ht := hid ht
  clear h hk hn hn' ha ht
  obtain ⟨A, HA⟩ : ∃ A, Hid (A = w.heap.size) := ⟨_, hid rfl⟩
  rw [← HA.out] at HB1
  go_enter Tryz.func44, Tryz.ntmps44
  go_upto_region 2 with fail
  rw [← HA.out, ← Hw1.out]
  clear zk Hw1 HA
  go_upto_region 20 with (first
    | (go_at_call 60
       refine (HL.out w1).mono ?_
       rintro _ w3 ⟨s3, rfl, b3⟩
       obtain ⟨s4, w4, hrun, b4, t4⟩ := app_bs (HB1.out.kept b3.nw.ap) b3.nw.rd b3.len b3.nw.ok (by rw [leB_len]; simp only [List.length_cons, List.length_nil]; omega)
       have HRR := hid hrun
       have HB4 := hid b4
       have HS4 := hid (t4.block (keep0 b3.nw.ap HD1.out.blk) (by simp))
       clear hrun b4 t4 b3)
    | (at_builtin; refine wpList_app2 rfl _ _ 29 29 rfl _ _ rfl rfl (.slice s4.p s4.n s4.c) w4 HRR.out ?_))
  have e26 : (dCells r s)[27]? = some (.int .i64 r.ac) := by
    have h1 := HD1.out.actor
    rw [cell_of_row _ _ _ _ _ _ HD1.out.blk, List.getElem?_toArray] at h1
    exact h1
  have e27 : (dCells r s)[28]? = some (.string r.tx) := by
    have h1 := HD1.out.text
    rw [cell_of_row _ _ _ _ _ _ HD1.out.blk, List.getElem?_toArray] at h1
    exact h1
  have E27 := hid e27
  have z27 : w4.cell? ⟨O, 27, none⟩ = some (.int .i64 (a : Int)) := by rw [cell_of_row _ _ _ _ _ _ HS4.out, List.getElem?_toArray, e26, Ha.out]
  obtain ⟨s5, w5, hrun, b5, t5⟩ := app_byte HB4.out (a % 256) (by simp [leB_len])
  have HR5 := hid hrun
  have HB5 := hid b5
  have z28 : w5.cell? ⟨O, 28, none⟩ = some (.string r.tx) := by rw [cell_of_row _ _ _ _ _ _ (t5.block HS4.out (by simp)), List.getElem?_toArray, e27]
  clear hrun b5 t5 HRR HB1 HD1 e26 e27 z26 zk1
  go_upto_region 21 with (refine wpList_append3 rfl _ _ 29 rfl _ _ rfl rfl (.slice s5.p s5.n s5.c) w5 HR5.out ?_)
  obtain ⟨s6, w6, hrun, b6, t6⟩ := app_str HB5.out r.tx (by have := Ht.out; simp [leB_len]; omega)
  have HR6 := hid hrun
  have HB6 := hid b6
  clear hrun b6 t6 HR5 z27
  go_wp2_with (at_builtin; refine wpList_app2 rfl _ _ 29 9 rfl _ _ rfl rfl (.slice s6.p s6.n s6.c) w6 HR6.out ?_)
  go_ret
  exact ⟨s6, rfl, by simpa using HB6.out⟩
end Go.Proofs.YtdbeeikjngnnnaaGreat.ty
namespace Go.Proofs.YtdbeeikjngnnnaaGreat.ty
open Go.ChangeShapes Go.WideShapes Go.ChangeAt Go.RowKit
set_option linter.unusedVariables false
set_option linter.unusedSimpArgs false
def sts (l : List ByteArray) : List Value := l.map Value.string
theorem sts_len (l : List ByteArray) : (sts l).length = l.length := by simp [sts]
theorem sts_app (a b : List ByteArray) : sts (a ++ b) = sts a ++ sts b := by simp [sts]
theorem sts_at (l : List ByteArray) (i : Nat) (h : i < l.length) : (sts l)[i]? = some (.string l[i]) := by simp [sts, h]
theorem sts_one {l : List ByteArray} : ∀ u ∈ sts l, u.oneCell' = true := by
  intro u hu
  simp only [sts, List.mem_map] at hu
  obtain ⟨x, _, rfl⟩ := hu
  rfl
theorem info9 : (Tryz.prog.info? 9).map (fun i => (i.zero, i.size, i.bytes)) = some (some (.string ⟨#[]⟩), 1, 16) := by kernel_rfl
/-- strings onto strings -/
theorem app_ss {w W : World} {s q : Sl} {us vs : List ByteArray} (h : Nw w W 9 1 s (sts us)) (hsn : s.n = us.length) (hq : Rd W q.p (sts vs)) (hql : q.n = vs.length) (hqo : q.ok) (hl : us.length + vs.length ≤ 1000000) :
    ∃ s' W', (Builtin.append_ #[65, 65] 65 #[.slice s.p s.n s.c, .slice q.p q.n q.c]).run Tryz.prog W = .ok (.slice s'.p s'.n s'.c) W' ∧ Nw w W' 9 1 s' (sts (us ++ vs)) ∧ s'.n = us.length + vs.length ∧ Apart s.v.ownBlock.toList W W' := by
  obtain ⟨i0, hi, hz0, hz1, hz2⟩ := info_of info9
  by_cases h0 : 0 < vs.length
  · obtain ⟨P', o', e2, hb, hc⟩ := hq (by rw [sts_len]; exact h0)
    have hcs : ∀ j u, (sts vs)[j]? = some u → W.cell? ((⟨P', o', none⟩ : Addr).add j) = some u := fun j u hj => by rw [Addr.add_lit]; exact hc j u hj
    obtain ⟨s', W', hrun, r1, r2, r3, _⟩ := run_appS 65 65 9 i0 _ 1 16 Tryz.underlying65 hi hz0 hz1 hz2 rfl (by decide) h ⟨P', o', none⟩ vs.length q.c (sts vs) h0 (by rw [sts_len, Nat.mul_one]) hcs sts_one (by unfold maxLen; omega) (by omega)
    refine ⟨s', W', ?_, by rw [sts_app]; exact r1, by rw [r2, hsn], r3⟩
    rw [e2, hql]
    exact hrun
  · obtain rfl : vs = [] := List.length_eq_zero_iff.1 (by omega)
    rw [List.append_nil]
    have hqn : q.n = 0 := hql
    obtain ⟨q1, q2, q3⟩ := q
    simp only at hqn
    subst hqn
    cases q1 with
    | none =>
      have := hqo rfl
      simp only at this
      obtain ⟨-, rfl⟩ := this
      exact ⟨s, W, run_append_owned_none (P := Tryz.prog) W 0 65 65 9 i0 1 Tryz.underlying65 hi s.v s.n (sts us) h.own, h, hsn, Apart.refl _ _⟩
    | some ad =>
      have h' := h
      obtain ⟨hxl, ⟨hv, hz⟩ | ⟨g, cap, cur, hv, hbb, hr, hle, hrest⟩⟩ := h.own
      · obtain ⟨p, n, c⟩ := s
        simp only [Sl.v, Value.slice.injEq] at hv
        obtain ⟨rfl, rfl, rfl⟩ := hv
        have hbs : us = [] := List.length_eq_zero_iff.1 hsn.symm
        subst hbs
        obtain ⟨s', w', hrun, r1, r2⟩ := run_appNil W 65 65 9 i0 _ 1 16 Tryz.underlying65 hi hz0 hz1 hz2 rfl (by decide) ⟨some ad, 0, q3⟩ [] (Rd.nil _ _) rfl (by simp) (by simp) (by simp) hqo
        exact ⟨s', w', hrun, ⟨r1.own, fun k hk => Nat.le_trans h'.ap.size (r1.new k hk), h'.ap.trans r1.ap⟩, r2, by simpa [Sl.v, Value.ownBlock] using r1.ap⟩
      · have how := h.own
        rw [hv] at how
        obtain ⟨w', hrun, r1, r2⟩ := run_append_own_spare (P := Tryz.prog) W 0 65 65 9 i0 1 Tryz.underlying65 hi hz1 g s.n cap (sts us) how ad 0 q3 [] rfl (by simp) (by simp) (by omega)
        rw [List.append_nil] at r1
        have ap := apart_grown r2
        refine ⟨s, w', ?_, ⟨by rw [hv]; exact r1, h.new, h.ap.trans' ap (fun y hy => ?_)⟩, hsn, ?_⟩
        · have hv2 : Value.slice s.p s.n s.c = .slice (some ⟨g, 0, none⟩) s.n cap := hv
          rw [hv2]; exact hrun
        · simp at hy; subst hy; exact .inr (h.new _ (by rw [hv]; rfl))
        · rw [hv]; exact ap
/-- how many are below -/
def bel (x : ByteArray) : List ByteArray → Nat
  | [] => 0
  | y :: r => if bl y x = true then bel x r + 1 else 0
theorem bel_le (x : ByteArray) : ∀ l, bel x l ≤ l.length
  | [] => Nat.le_refl _
  | y :: r => by have := bel_le x r; unfold bel; split <;> simp <;> omega
theorem bel_lt (x : ByteArray) : ∀ (l : List ByteArray) (i : Nat) (hi : i < l.length), i < bel x l → bl l[i] x = true
  | y :: r, 0, hi, h => by
    unfold bel at h
    by_cases hy : bl y x = true
    · simpa using hy
    · rw [if_neg hy] at h; omega
  | y :: r, i + 1, hi, h => by
    unfold bel at h
    by_cases hy : bl y x = true
    · rw [if_pos hy] at h
      simpa using bel_lt x r i (by simpa using hi) (by omega)
    · rw [if_neg hy] at h; omega
theorem bel_ge (x : ByteArray) : ∀ (l : List ByteArray) (hi : bel x l < l.length), bl (l[bel x l]'hi) x = false
  | [], hi => by simp at hi
  | y :: r, hi => by
    by_cases hy : bl y x = true
    · have e : bel x (y :: r) = bel x r + 1 := by rw [bel, if_pos hy]
      have hi2 : bel x r < r.length := by rw [e] at hi; simpa using hi
      have h1 := bel_ge x r hi2
      simp only [e, List.getElem_cons_succ]
      exact h1
    · have e : bel x (y :: r) = 0 := by rw [bel, if_neg hy]
      simp only [e, List.getElem_cons_zero]
      simpa using hy
/-- one more -/
def insS (x : ByteArray) (l : List ByteArray) : List ByteArray := if l[bel x l]? = some x then l else l.take (bel x l) ++ x :: l.drop (bel x l)
/-- the elements of tags -/
def elsT : List Tg → List ByteArray → List ByteArray
  | [], l => l
  | t :: r, l => elsT r (insS t.e l)
theorem insS_mem (x : ByteArray) (l : List ByteArray) (y : ByteArray) : y ∈ insS x l ↔ y = x ∨ y ∈ l := by
  unfold insS
  split
  · rename_i h
    have h1 := List.mem_of_getElem? h
    exact ⟨.inr, fun k => k.elim (fun e => e ▸ h1) id⟩
  · have e : y ∈ l ↔ y ∈ l.take (bel x l) ∨ y ∈ l.drop (bel x l) := by
      rw [← List.mem_append, List.take_append_drop]
    rw [List.mem_append, List.mem_cons, e]
    constructor
    · rintro (h | h | h)
      · exact .inr (.inl h)
      · exact .inl h
      · exact .inr (.inr h)
    · rintro (h | h | h)
      · exact .inr (.inl h)
      · exact .inl h
      · exact .inr (.inr h)
theorem elsT_mem : ∀ (ts : List Tg) (l : List ByteArray) (y : ByteArray), y ∈ elsT ts l ↔ y ∈ l ∨ ∃ t ∈ ts, t.e = y
  | [], l, y => by simp [elsT]
  | t :: r, l, y => by
    rw [elsT, elsT_mem r, insS_mem]
    simp only [List.mem_cons, exists_eq_or_imp]
    constructor
    · rintro ((h | h) | h)
      · exact .inr (.inl h.symm)
      · exact .inl h
      · exact .inr (.inr h)
    · rintro (h | h | h)
      · exact .inl (.inr h)
      · exact .inl (.inl h.symm)
      · exact .inr h
end Go.Proofs.YtdbeeikjngnnnaaGreat.ty
namespace Go.Proofs.YtdbeeikjngnnnaaGreat.ty
open Go.ChangeShapes Go.WideShapes Go.ChangeAt Go.RowKit
set_option linter.unusedVariables false
set_option linter.unusedSimpArgs false
theorem rv_all (a : List Int) : (rv a).toArray.all Value.oneCell' = true := all_oneCell_toArray (rv_one _)
theorem rg_all (s a : Int) (t : ByteArray) : (ty.rg s a t).all Value.oneCell' = true := by
  have := all_oneCell_toArray (cs := [Value.int .i64 s, .int .i64 a, .string t]) (by intro u hu; simp at hu; rcases hu with rfl | rfl | rfl <;> rfl)
  exact this
theorem Merge_cnt {w : World} {V O : Nat} {u d p q : List Int} (hV : Ho w V (.cnt u d)) (hO : Ho w O (.cnt p q)) (ok : Ok (.cnt u d)) (ok' : Ok (.cnt p q)) : Calls Tryz.prog 21 #[.pointer (some ⟨V, 0, none⟩), .pointer (some ⟨O, 0, none⟩)] w fun r w' => r = .returned (.int .i64 0) ∧ Ho w' V (.cnt (gr u p) (gr d q)) ∧ Apart [V] w w' := by
  refine (Merge_ok (P := fun es w' => es = (rv (gr u p ++ gr d q)).toArray) hV hO (fun wx _ => merged_11 (by simp [rv_len, ok.1.1, ok.2.1]) (rv_all _) (by simp [rv_len, ok'.1.1, ok'.2.1]) (rv_all _) (fun wy _ => (cmerged_ok ok.1.1 ok.2.1 ok'.1.1 ok'.2.1).mono ?_))).mono ?_
  · rintro _ w' ⟨rfl, a'⟩
    exact ⟨_, rfl, a', rfl⟩
  · rintro _ w' ⟨rfl, es, w2, hb, a1, a2, rfl⟩
    exact ⟨rfl, hb, (a1.mono (by simp)).trans a2⟩
theorem Merge_flg {w : World} {V O : Nat} {u d p q : List Int} (hV : Ho w V (.flg u d)) (hO : Ho w O (.flg p q)) (ok : Ok (.flg u d)) (ok' : Ok (.flg p q)) : Calls Tryz.prog 21 #[.pointer (some ⟨V, 0, none⟩), .pointer (some ⟨O, 0, none⟩)] w fun r w' => r = .returned (.int .i64 0) ∧ Ho w' V (.flg (gr u p) (mt d u q p)) ∧ Apart [V] w w' := by
  refine (Merge_ok (P := fun es w' => es = (rv (gr u p ++ mt d u q p)).toArray) hV hO (fun wx _ => merged_33 (by simp [rv_len, ok.1.1, ok.2.1]) (rv_all _) (by simp [rv_len, ok'.1.1, ok'.2.1]) (rv_all _) (fun wy _ => (fmerged_ok ok.1.1 ok.2.1 ok'.1.1 ok'.2.1).mono ?_))).mono ?_
  · rintro _ w' ⟨rfl, a'⟩
    exact ⟨_, rfl, a', rfl⟩
  · rintro _ w' ⟨rfl, es, w2, hb, a1, a2, rfl⟩
    exact ⟨rfl, hb, (a1.mono (by simp)).trans a2⟩
/-- the later one of two writings -/
def laterR (s a : Int) (t : ByteArray) (s2 a2 : Int) (t2 : ByteArray) : Vl := if orL [cmI s s2, cmI a a2, cmS t t2] < 0 then .rgs s2 a2 t2 else .rgs s a t
theorem Merge_rgs {w : World} {V O : Nat} {s a s2 a2 : Int} {t t2 : ByteArray} (hV : Ho w V (.rgs s a t)) (hO : Ho w O (.rgs s2 a2 t2)) : Calls Tryz.prog 21 #[.pointer (some ⟨V, 0, none⟩), .pointer (some ⟨O, 0, none⟩)] w fun r w' => r = .returned (.int .i64 0) ∧ Ho w' V (laterR s a t s2 a2 t2) ∧ Apart [V] w w' := by
  refine (Merge_ok (P := fun es w' => (later s a t s2 a2 t2 → es = ty.rg s2 a2 t2) ∧ (¬ later s a t s2 a2 t2 → es = ty.rg s a t)) hV hO (fun wx _ => merged_44 rfl (rg_all _ _ _) rfl (rg_all _ _ _) (fun wy _ => gmerged_ok.mono ?_))).mono ?_
  · rintro r w' ⟨h1, h2, a'⟩
    by_cases hL : later s a t s2 a2 t2
    · exact ⟨_, h1 hL, a', fun _ => rfl, fun h => absurd hL h⟩
    · exact ⟨_, h2 hL, a', fun h => absurd h hL, fun _ => rfl⟩
  · rintro _ w' ⟨rfl, es, w2, hb, b1, b2, h1, h2⟩
    refine ⟨rfl, ?_, (b1.mono (by simp)).trans b2⟩
    unfold laterR
    by_cases hL : later s a t s2 a2 t2
    · rw [if_pos (show orL [cmI s s2, cmI a a2, cmS t t2] < 0 from hL)]; rw [h1 hL] at hb; exact hb
    · rw [if_neg (show ¬ orL [cmI s s2, cmI a a2, cmS t t2] < 0 from hL)]; rw [h2 hL] at hb; exact hb
end Go.Proofs.YtdbeeikjngnnnaaGreat.ty
