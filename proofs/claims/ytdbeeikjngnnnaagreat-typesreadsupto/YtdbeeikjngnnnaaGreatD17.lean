import Derived.Test.YtdbeeikjngnnnaaGreatChecked
import Derived.WalkKit
import Derived.ProofKit
import Derived.OpenShut
import Derived.Deep.QuietTactic
import Derived.BigQuiet
import Derived.BigRegion
import Derived.Laws.CopyOwn
import Derived.Laws.IdiomCopy
import Derived.WalkSmall
import Derived.Laws.ResultCell
import Derived.Laws.AppendOwnNone
import Derived.Deep.RegionHeld
import Derived.Deep.DeepAppendRoom
import Derived.Great.BuildSlice
import Derived.Deep.CutBlock
import Derived.Deep.RegionLaw
import Derived.ArgAppend
import Derived.Laws.Strings
import Derived.Laws.StructEq
import Derived.Below
import Derived.Deep.MidRow
import Derived.Great.Ranges
import Derived.Deep.RegionHeld3
import Derived.Laws.NewBlocks
import Derived.OrdersHeld
import Derived.Stop.BytesEq
import Derived.Laws.BytesString
import Derived.Lib.ConvBytes
import Derived.Laws.BitsAllLaws
import Derived.WalkLawsBesides
import Derived.Lib.Bytealg
import Derived.Laws.Externs
import Derived.Lib.SliceRun
import Derived.Lib.AppendZerosOnto
import Derived.Lib.AppendStr
import Derived.Lib.SlBytesConst
import Derived.Sort.Walk0
import Derived.Laws.Cover1
import Derived.Lib.Strings
import Derived.Lib.MinMaxS
import GoSem.Claim
import GoSem.ClaimJoined
import GoSem.ClaimMapViews
import Derived.JoinedTies
import Derived.KernelRfl
import Derived.JoinedCond
import Derived.ShutString
import Derived.ChangeOld
import Derived.Carry
import Derived.ChangeSlices
import Derived.Deep.Slices
import Derived.Deep.DeepHandedRow
import Derived.RowKit
import Derived.ChangeShapes
import Derived.SizedLaws
import Derived.ChangeMaps5
import Derived.Sort.WalkA
import Derived.Test.YtdbeeikjngnnnaaGreatRows
import Derived.Test.YtdbeeikjngnnnaaGreatD11
import Derived.Test.YtdbeeikjngnnnaaGreatD15
import Derived.Test.YtdbeeikjngnnnaaGreatD16
namespace Go.Proofs.YtdbeeikjngnnnaaGreat.ty
open Go.ChangeShapes Go.WideShapes Go.ChangeAt Go.RowKit
set_option linter.unusedVariables false
set_option linter.unusedSimpArgs false
theorem Dv.stamp {w : World} {O : Nat} {r : Rv} {s : Sl} (h : Dv w O r s) : w.cell? ⟨O, 26, none⟩ = some (.int .i64 r.st) := h.rest (i := 1) rfl
theorem Dv.actor {w : World} {O : Nat} {r : Rv} {s : Sl} (h : Dv w O r s) : w.cell? ⟨O, 27, none⟩ = some (.int .i64 r.ac) := h.rest (i := 2) rfl
theorem Dv.text {w : World} {O : Nat} {r : Rv} {s : Sl} (h : Dv w O r s) : w.cell? ⟨O, 28, none⟩ = some (.string r.tx) := h.rest (i := 3) rfl
theorem ex_load60 {W : World} {eval : Operand → Value} {op : Oper} (x : Operand) (ho : op.op = .load 60 x) (b o : Nat) (cs : List Value) (hx : eval x = .pointer (some ⟨b, o, none⟩)) (hc : W.rangeAt b o cs) (hl : cs.length = 8) : (execOp eval op).run Tryz.prog W = .ok (.value (.agg cs.toArray)) W := by
  unfold execOp
  simp only [ho, hx, Instr.loadAt, Instr.sureAddr, Sem.run_bind, Sem.run_pure, Result.andThen_ok, run_loadVar_mid W b o 60 cs _ hc Tryz.underlying60 rfl (by rw [size60, hl])]
theorem Bf.one (w : World) (x : Nat) : Bf w (w.alloc (.cells #[.int .u8 (x : Int)] 5)) ⟨some ⟨w.heap.size, 0, none⟩, 1, 1⟩ [x] :=
  ⟨⟨⟨rfl, .inr ⟨w.heap.size, 1, _, rfl, Nat.zero_le _, heap_alloc_new w _, Nat.le_refl _, by unfold maxLen; omega, rfl, rfl⟩⟩, fun k hk => by simp [Sl.v, Value.ownBlock] at hk; rw [← hk]; exact Nat.le_refl _, (Apart.refl [] w).alloc _⟩, rfl⟩
theorem jl {l : List Int} {j : Nat} {v : Value} (hj : (rv l)[j]? = some v) : j < (rv l).length := by
  by_cases hc : j < (rv l).length
  · exact hc
  · rw [List.getElem?_eq_none (by omega)] at hj; cases hj
theorem bgU {W : World} {O : Nat} {r : Rv} {s : Sl} (hb : W.heap[O]? = some (.cells (dCells r s).toArray 63 (0, 0))) : W.rangeAt O 1 (rv r.u) := by
  intro j v hj
  have h1 := jl hj
  rw [cell_of_row _ _ _ _ _ _ hb, Nat.add_comm]
  unfold dCells
  rw [List.getElem?_toArray, List.getElem?_cons_succ, List.getElem?_append_left h1]
  exact hj
theorem bgD {W : World} {O : Nat} {r : Rv} {s : Sl} (hb : W.heap[O]? = some (.cells (dCells r s).toArray 63 (0, 0))) (lu : (rv r.u).length = 8) : W.rangeAt O 9 (rv r.d) := by
  intro j v hj
  have h1 := jl hj
  rw [cell_of_row _ _ _ _ _ _ hb, show 9 + j = (8 + j) + 1 by omega]
  unfold dCells
  rw [List.getElem?_toArray, List.getElem?_cons_succ, List.getElem?_append_right (by omega), lu, Nat.add_sub_cancel_left, List.getElem?_append_left h1]
  exact hj
def Sb (O : Nat) (r : Rv) (s : Sl) (W : World) : Prop := W.heap[O]? = some (.cells (dCells r s).toArray 63 (0, 0))
set_option maxHeartbeats 4000000 in
set_option maxRecDepth 100000 in
/-- a counter's form -/
theorem dform_cnt {w : World} {O : Nat} {r : Rv} {s : Sl} (h : Dv w O r s) (hk : r.k = 1) (hu : Wd r.u) (hd : Wd r.d) : Calls Tryz.prog 44 #[.pointer (some ⟨O, 0, none⟩)] w fun x w' => ∃ s', x = .returned (.slice s'.p s'.n s'.c) ∧ Bf w w' s' (1 :: rowB (ob r.u r.d) 6) := by
  have HB1 := hid (Bf.one w 1)
  obtain ⟨w1, Hw1⟩ : ∃ W, Hid (W = w.alloc (.cells #[.int .u8 1] 5)) := ⟨_, hid rfl⟩
  have e0 : (w.alloc (.cells #[.int .u8 ((1 : Nat) : Int)] 5)) = w1 := by rw [Hw1.out]; rfl
  rw [e0] at HB1
  clear e0
  have HD1 : Hid (Dv w1 O r s) := hid (h.kept0 (by rw [Hw1.out]; exact (Apart.refl [] w).alloc _))
  have zk : w.cell? ⟨O, 0, none⟩ = some (.int .i64 1) := by rw [h.kind, hk]; rfl
  have zk1 : w1.cell? ⟨O, 0, none⟩ = some (.int .i64 1) := by rw [HD1.out.kind, hk]; rfl
  have Hu := hid hu
  have Hd := hid hd
  have HR := hid (fun (W : World) => drow_ok (w := W) hu.sm hd.sm (size := 3) (by omega) true)
  have Hlu : Hid ((rv r.u).length = 8) := hid (by rw [rv_len]; exact h.lu)
  have Hld : Hid ((rv r.d).length = 8) := hid (by rw [rv_len]; exact h.ld)
  clear h hk hu hd
  obtain ⟨A, HA⟩ : ∃ A, Hid (A = w.heap.size) := ⟨_, hid rfl⟩
  rw [← HA.out] at HB1
  go_enter Tryz.func44, Tryz.ntmps44
  go_upto_region 2 with fail
  rw [← HA.out, ← Hw1.out]
  clear zk Hw1 HA
  go_upto_region 4 with fail
  have hAd : Sb O r s w1.drew := keep0 ((Apart.refl [] w1).drew) HD1.out.blk
  have HBd := hid (HB1.out.kept ((Apart.refl [] w1).drew))
  refine wp_region_held_drew (S := Sb O r s) (by kernel_rfl) hAd (fun hHeld => ?_)
  have HSd := hid hAd
  generalize w1.drew = wd at *
  clear hAd hHeld HB1
  refine tk 0 18 (.slice (some ⟨A, 0, none⟩) 1 1) rfl ?_ ?_
  · intro W hSW; go_simp
  simp only [Act.put, List.setIfInBounds_toArray, List.set_cons_zero, List.set_cons_succ]
  refine tk 1 19 (.pointer (some ⟨O, 0, none⟩)) rfl ?_ ?_
  · intro W hSW; go_simp
  simp only [Act.put, List.setIfInBounds_toArray, List.set_cons_zero, List.set_cons_succ]
  refine tk 2 20 (.pointer (some ⟨O, 0, none⟩)) rfl ?_ ?_
  · intro W hSW; go_simp
  simp only [Act.put, List.setIfInBounds_toArray, List.set_cons_zero, List.set_cons_succ]
  refine tk 3 21 (.pointer (some ⟨O, 1, none⟩)) rfl ?_ ?_
  · intro W hSW; go_simp
  simp only [Act.put, List.setIfInBounds_toArray, List.set_cons_zero, List.set_cons_succ]
  refine tk 4 22 (.agg (rv r.u).toArray) rfl ?_ ?_
  · intro W hSW; exact ex_load60 _ rfl O 1 _ rfl (bgU hSW) Hlu.out
  simp only [Act.put, List.setIfInBounds_toArray, List.set_cons_zero, List.set_cons_succ]
  refine tk 5 23 (.pointer (some ⟨O, 0, none⟩)) rfl ?_ ?_
  · intro W hSW; go_simp
  simp only [Act.put, List.setIfInBounds_toArray, List.set_cons_zero, List.set_cons_succ]
  refine tk 6 24 (.pointer (some ⟨O, 0, none⟩)) rfl ?_ ?_
  · intro W hSW; go_simp
  simp only [Act.put, List.setIfInBounds_toArray, List.set_cons_zero, List.set_cons_succ]
  refine tk 7 25 (.pointer (some ⟨O, 9, none⟩)) rfl ?_ ?_
  · intro W hSW; go_simp
  simp only [Act.put, List.setIfInBounds_toArray, List.set_cons_zero, List.set_cons_succ]
  refine tk 8 26 (.agg (rv r.d).toArray) rfl ?_ ?_
  · intro W hSW; exact ex_load60 _ rfl O 9 _ rfl (bgD hSW Hlu.out) Hld.out
  simp only [Act.put, List.setIfInBounds_toArray, List.set_cons_zero, List.set_cons_succ]
  refine wpAnyH_ready (rs := [9]) (by kernel_rfl) (by simp) ?_
  refine AllReadyH.cons rfl (fun KK hKK => ?_) AllReadyH.nil
  go_simp
  refine (HR.out wd).mono ?_
  rintro _ w3 ⟨s3, rfl, b3⟩
  obtain ⟨s4, w4, hrun, b4, t4⟩ := app_bs (HBd.out.kept b3.nw.ap) b3.nw.rd b3.len b3.nw.ok (by
    have h1 := nbD_len (inD r.u r.d) (nuD r.u r.d 3 true) (2 * 3) (nuD_len r.u r.d 3 true) 8
    unfold rowD
    simp only [List.length_cons, List.length_nil]
    omega)
  have HRR := hid hrun
  have HB4 := hid b4
  have HS3 := hid (keep0 b3.nw.ap HSd.out)
  have HS4 := hid (t4.block HS3.out (by simp))
  clear hrun b4 t4 b3
  refine hKK _ _ HS3.out (fun hHeld => ?_)
  clear hKK KK
  try simp only [Act.put, List.setIfInBounds_toArray, List.set_cons_zero, List.set_cons_succ]
  refine wpAnyH_ready (rs := [10]) (by kernel_rfl) (by simp) ?_
  refine AllReadyH.cons rfl (fun KK hKK => ?_) AllReadyH.nil
  refine step_app2 rfl _ _ 29 29 rfl _ _ rfl rfl (.slice s4.p s4.n s4.c) w4 HRR.out ?_
  refine hKK _ _ HS4.out (fun hHeld => ?_)
  clear hKK KK HRR
  try simp only [Act.put, List.setIfInBounds_toArray, List.set_cons_zero, List.set_cons_succ]
  refine tk 11 3 (.slice s4.p s4.n s4.c) rfl ?_ ?_
  · intro W hSW; go_simp
  simp only [Act.put, List.setIfInBounds_toArray, List.set_cons_zero, List.set_cons_succ]
  refine wpAnyH_done (by kernel_rfl) ?_ _
  go_wp2_with fail
  go_ret
  exact ⟨s4, rfl, by have h1 := HB4.out; rw [rowD_two Hu.out Hd.out] at h1; exact h1⟩
end Go.Proofs.YtdbeeikjngnnnaaGreat.ty
namespace Go.Proofs.YtdbeeikjngnnnaaGreat.ty
open Go.ChangeShapes Go.WideShapes Go.ChangeAt Go.RowKit
set_option linter.unusedVariables false
set_option linter.unusedSimpArgs false
/-- is the entry one that there may be? -/
def okX (c : List Int) (x : En) : Bool := isE x.e.size && (!(x.t == zr) && gr x.t c == c)
def okP (es : List En) (i : Nat) : Bool := match es[i]?, es[i - 1]? with
  | some x, some y => i == 0 || bl y.e x.e
  | _, _ => true
def okE (c : List Int) (es : List En) (i : Nat) : Bool := match es[i]? with
  | some x => okX c x && okP es i
  | none => true
def srR (c : List Int) (es : List En) : Bool := (List.range es.length).all (okE c es)
theorem bl_less (a b : ByteArray) : Op.bytesLess a.toList b.toList = bl a b := by
  rw [bytesLess_eq, Lib.toList_data, Lib.toList_data]
  rfl
theorem srR_false {c : List Int} {es : List En} {i : Nat} (hi : i < es.length) (h : okE c es i = false) : srR c es = false := by
  unfold srR
  rw [List.all_eq_false]
  exact ⟨i, List.mem_range.2 hi, by rw [h]; simp⟩
theorem srR_true {c : List Int} {es : List En} (h : ∀ i, i < es.length → okE c es i = true) : srR c es = true := by
  unfold srR
  rw [List.all_eq_true]
  exact fun i hi => h i (List.mem_range.1 hi)
set_option maxHeartbeats 4000000 in
set_option maxRecDepth 100000 in
theorem sright_ok {w : World} {c : List Int} {s : Sl} {es : List En} (hc : c.length = 8) (h : Es w s es) (hn : es.length ≤ 1000000) : Calls Tryz.prog 116 #[.agg (sv c s)] w fun r w' => r = .returned (.bool (srR c es)) ∧ Apart [] w w' := by
  have HE := hid h
  have Hc := hid hc
  have Hn := hid hn
  clear h hc hn
  have HA := hid (Apart.refl [] w)
  obtain ⟨rr, Hrr⟩ : ∃ r, Hid (r = srR c es) := ⟨_, hid rfl⟩
  rw [← Hrr.out]
  go_enter Tryz.func116, Tryz.ntmps116
  go_upto_region 1 with fail
  obtain ⟨X, HXX⟩ : ∃ X, Hid (X = w.heap.size) := ⟨_, rfl⟩
  obtain ⟨w1, hw1⟩ : ∃ W, W = w.alloc (.cells (sv c s) 104) := ⟨_, rfl⟩
  have HSw1 : Hid (Apart [] w w1) := by unfold Hid; rw [hw1]; exact (Apart.refl [] w).alloc _
  have HBX : Hid (w1.heap[X]? = some (.cells (sv c s) 104 (0, 0))) := by unfold Hid; rw [HXX.out, hw1]; exact heap_alloc_new w _
  rw [← hw1, ← HXX.out]
  clear hw1 HXX
  have z : w1.cell? ⟨X, 8, none⟩ = some (.slice s.p s.n s.c) := sv_cell Hc.out HBX.out
  obtain ⟨N, HN⟩ : ∃ N, Hid (N = es.length) := ⟨_, hid rfl⟩
  have hsn : s.n = N := by rw [HN.out]; exact HE.out.len
  have hN6 : N ≤ 1000000 := by rw [HN.out]; exact Hn.out
  rw [hsn] at z
  go_wp2_with fail
  clear z
  go_loopw [8] (fun v wt => ∃ i : Nat, v = .int .i64 (i : Nat) ∧ i ≤ N ∧ Hid (Apart [] w1 wt) ∧ Hid (∀ j, j < i → okE c es j = true)) (fun v _ => N - (intOf v).toNat)
  case atStart => exact ⟨0, rfl, Nat.zero_le _, hid (Apart.refl _ _), hid (fun j hj => absurd hj (by omega))⟩
  case round =>
    obtain ⟨i, rfl, hi, HS, HO⟩ := hrel
    generalize wr = wt at *
    by_cases hlt : i < N
    · have hlti : ((i : Nat) : Int) < ((N : Nat) : Int) := by omega
      have Hil : Hid (i < es.length) := hid (by rw [← HN.out]; exact hlt)
      obtain ⟨P, o, hp, hr, hP⟩ := (HE.out.kept0 (HSw1.out.trans HS.out)).at i Hil.out
      have HRg := hid hr
      have HX : Hid ((es[i]'Hil.out).vs.length = 9) := hid (En.vs_len (HE.out.row _ (List.getElem_mem _)))
      have Hxt : Hid ((es[i]'Hil.out).t.length = 8) := hid (HE.out.row _ (List.getElem_mem _))
      obtain ⟨y, Hy⟩ : ∃ y, Hid (y = es[i]'Hil.out) := ⟨_, hid rfl⟩
      have Hei : Hid (es[i]? = some y) := hid (by rw [List.getElem?_eq_getElem Hil.out, ← Hy.out])
      rw [← Hy.out] at HRg HX Hxt
      have Hsp := hid hp
      rw [hp]
      clear hr hP hp
      have HBXt := hid (keep0 HS.out HBX.out)
      go_upto_region 4 with (first
        | (refine wpL_val rfl (.agg y.vs.toArray) (ex_load106 _ rfl P (o + i * 9) _ rfl HRg.out HX.out) ?_)
        | (refine wpList_store_row rfl 141 _ _ rfl wt.heap.size y.vs.toArray rfl rfl 141 _ (heap_alloc_new wt _) (by rw [size106]; simp [HX.out]) (by simp [HX.out]) (all_oneCell_toArray (by intro u hu; exact evs_one (es := [y]) u (by simpa [evs] using hu))) ?_
           have HB5 := hid (put_new (w := wt) (z := zE) (cs := y.vs.toArray) (T := 141))
           have HS5 := hid (put_apart (w := wt) (z := zE) (cs := y.vs.toArray) (T := 141))
           obtain ⟨Z, HZ⟩ : ∃ X, X = wt.heap.size := ⟨_, rfl⟩
           unfold zE at HB5 HS5
           rw [← HZ] at HB5 HS5 ⊢
           generalize (wt.alloc (.cells #[.string ⟨#[]⟩, .int .i64 0, .int .i64 0, .int .i64 0, .int .i64 0, .int .i64 0, .int .i64 0, .int .i64 0, .int .i64 0] 141)).setRow Z y.vs.toArray = w5 at *
           clear HZ))
      have z5 : w5.cell? ⟨Z, 0, none⟩ = some (.string y.e) := by rw [cell_of_row _ _ _ _ _ _ HB5.out]; rfl
      have HBX5 := hid (keep0 HS5.out HBXt.out)
      have HCe := hid (fun wx => isElement_ok wx y.e.size)
      have HCw := hid (within_ok (w := w5) Hxt.out Hc.out)
      have hr1 := fun wx => run_eql_row wx Hxt.out (show zr.length = 8 from rfl)
      have hg1 := fun wx a b => gd_row wx .eql a b (rv y.t).toArray (rv zr).toArray
      have HA5 : Hid (Apart [] w w5) := hid ((HSw1.out.trans HS.out).trans HS5.out)
      cases hE : isE y.e.size
      · have HF : Hid (rr = false) := hid (by rw [Hrr.out]; exact srR_false Hil.out (by unfold okE; rw [Hei.out]; simp [okX, hE]))
        rw [hE] at HCe
        go_wp2_with (go_at_call 118; refine (HCe.out _).mono ?_; rintro _ _ ⟨rfl, rfl⟩)
        go_ret
        exact ⟨by rw [HF.out]; rfl, HA5.out⟩
      · rw [hE] at HCe
        cases hz : (y.t == zr)
        · cases hw : (gr y.t c == c)
          · have HF : Hid (rr = false) := hid (by rw [Hrr.out]; exact srR_false Hil.out (by unfold okE; rw [Hei.out]; simp [okX, hE, hz, hw]))
            rw [hw] at HCw
            rw [hz] at hr1
            go_wp2_with (first
              | (go_at_call 118; refine (HCe.out _).mono ?_; rintro _ _ ⟨rfl, rfl⟩)
              | refine wpL_valG rfl (.agg (rv y.t).toArray) (ex_load _ rfl Z 1 _ rfl (rgE HB5.out) (by rw [rv_len, Hxt.out])) ?_
              | refine wpL_valG rfl (.agg (rv zr).toArray) (ex_build86 rfl) ?_
              | refine wpL_valG rfl (.agg (rv c).toArray) (ex_load _ rfl X 0 _ rfl (sv_row HBX5.out) (by rw [rv_len, Hc.out])) ?_
              | (go_at_call 100; refine HCw.out.mono ?_; rintro _ w6 ⟨rfl, a6⟩; have HA6 := hid a6; clear a6))
            go_ret
            exact ⟨by rw [HF.out]; rfl, HA5.out.trans HA6.out⟩
          · rw [hw] at HCw
            rw [hz] at hr1
            have HokX : Hid (okX c y = true) := hid (by simp [okX, hE, hz, hw])
            go_upto_region 6 with (first
              | (go_at_call 118; refine (HCe.out _).mono ?_; rintro _ _ ⟨rfl, rfl⟩)
              | refine wpL_valG rfl (.agg (rv y.t).toArray) (ex_load _ rfl Z 1 _ rfl (rgE HB5.out) (by rw [rv_len, Hxt.out])) ?_
              | refine wpL_valG rfl (.agg (rv zr).toArray) (ex_build86 rfl) ?_
              | refine wpL_valG rfl (.agg (rv c).toArray) (ex_load _ rfl X 0 _ rfl (sv_row HBX5.out) (by rw [rv_len, Hc.out])) ?_
              | (go_at_call 100; refine HCw.out.mono ?_; rintro _ w6 ⟨rfl, a6⟩; have HA6 := hid a6; clear a6))
            have HBZ6 := hid (keep0 HA6.out HB5.out)
            have HBX6 := hid (keep0 HA6.out HBX5.out)
            have HA16 : Hid (Apart [] w1 w6) := hid ((HS.out.trans HS5.out).trans HA6.out)
            clear HB5 HBX5 HCe HCw hr1 hg1 z5
            by_cases hi0 : i = 0
            · subst hi0
              have hAd : Apart [] w6 w6.drew := (Apart.refl [] w6).drew
              refine wp_region_held_drew (S := fun W => Apart [] w6 W) (by kernel_rfl) hAd (fun hHeld => ?_)
              generalize w6.drew = wd at *
              clear hAd
              refine tk 0 32 (.int .i64 ((0 : Nat) : Int)) rfl ?_ ?_
              · intro W hSW; go_simp
              simp only [Act.put, List.setIfInBounds_toArray, List.set_cons_zero, List.set_cons_succ]
              refine tk 1 33 (.bool false) rfl ?_ ?_
              · intro W hSW; go_simp
              simp only [Act.put, List.setIfInBounds_toArray, List.set_cons_zero, List.set_cons_succ]
              refine tk 2 34 (.bool false) rfl ?_ ?_
              · intro W hSW; go_simp
              simp only [Act.put, List.setIfInBounds_toArray, List.set_cons_zero, List.set_cons_succ]
              refine tu 3 35 rfl ?_
              simp only [Act.put, List.setIfInBounds_toArray, List.set_cons_zero, List.set_cons_succ]
              refine tu 4 36 rfl ?_
              simp only [Act.put, List.setIfInBounds_toArray, List.set_cons_zero, List.set_cons_succ]
              refine tu 5 37 rfl ?_
              simp only [Act.put, List.setIfInBounds_toArray, List.set_cons_zero, List.set_cons_succ]
              refine tu 6 38 rfl ?_
              simp only [Act.put, List.setIfInBounds_toArray, List.set_cons_zero, List.set_cons_succ]
              refine tu 7 39 rfl ?_
              simp only [Act.put, List.setIfInBounds_toArray, List.set_cons_zero, List.set_cons_succ]
              refine tu 8 40 rfl ?_
              simp only [Act.put, List.setIfInBounds_toArray, List.set_cons_zero, List.set_cons_succ]
              refine tu 9 41 rfl ?_
              simp only [Act.put, List.setIfInBounds_toArray, List.set_cons_zero, List.set_cons_succ]
              refine tu 10 42 rfl ?_
              simp only [Act.put, List.setIfInBounds_toArray, List.set_cons_zero, List.set_cons_succ]
              refine tu 11 43 rfl ?_
              simp only [Act.put, List.setIfInBounds_toArray, List.set_cons_zero, List.set_cons_succ]
              refine tu 12 44 rfl ?_
              simp only [Act.put, List.setIfInBounds_toArray, List.set_cons_zero, List.set_cons_succ]
              refine tk 13 45 (.bool false) rfl ?_ ?_
              · intro W hSW; go_simp
              simp only [Act.put, List.setIfInBounds_toArray, List.set_cons_zero, List.set_cons_succ]
              refine wpAnyH_done (by kernel_rfl) ?_ _
              have HS7 := hid hHeld
              clear hHeld
              go_wp2_with fail
              refine ⟨⟨0 + 1, by go_num, by omega, hid (HA16.out.trans HS7.out), hid (fun j hj => ?_)⟩, by simp [intOf]; omega⟩
              obtain rfl : j = 0 := by omega
              unfold okE
              rw [Hei.out]
              simp only [HokX.out, Bool.true_and]
              unfold okP
              rw [Hei.out]
              cases es[0 - 1]? <;> simp
            · obtain ⟨m, Hm⟩ : ∃ m, Hid (i = m + 1) := ⟨i - 1, hid (by omega)⟩
              have hi1 : ((i : Nat) : Int) > 0 := by omega
              have hms : ((i : Nat) : Int) - 1 = ((m : Nat) : Int) := by have := Hm.out; omega
              have Hml : Hid (m < es.length) := hid (by have := Hm.out; have := Hil.out; omega)
              have hmN : ((m : Nat) : Int) < ((N : Nat) : Int) := by have := Hm.out; omega
              obtain ⟨P', o', hp', hr', hP'⟩ := (HE.out.kept0 (HSw1.out.trans HA16.out)).at m Hml.out
              obtain ⟨y', Hy'⟩ : ∃ y, Hid (y = es[m]'Hml.out) := ⟨_, hid rfl⟩
              have Hem : Hid (es[m]? = some y') := hid (by rw [List.getElem?_eq_getElem Hml.out, ← Hy'.out])
              rw [← Hy'.out] at hr'
              rw [Hsp.out] at hp'
              simp only [Option.some.injEq, Addr.mk.injEq, and_true] at hp'
              obtain ⟨rfl, rfl⟩ := hp'
              have Hz' : Hid (w6.cell? ⟨P, o + m * 9, none⟩ = some (.string y'.e)) := hid (by have := hr' 0 _ rfl; rwa [Nat.add_zero] at this)
              have HP' := hid hP'
              clear hr' hP'
              have HokP : Hid (okP es i = bl y'.e y.e) := hid (by unfold okP; rw [Hei.out, Hm.out, Nat.add_sub_cancel, Hem.out]; simp)
              cases hbl : bl y'.e y.e
              · have hbe : Op.bytesLess y'.e.toList y.e.toList = false := by rw [bl_less]; exact hbl
                have hAd : Apart [] w6 w6.drew := (Apart.refl [] w6).drew
                refine wp_region_held_drew (S := fun W => Apart [] w6 W) (by kernel_rfl) hAd (fun hHeld => ?_)
                generalize w6.drew = wd at *
                clear hAd
                refine tk 0 32 (.int .i64 (i : Nat)) rfl ?_ ?_
                · intro W hSW; go_simp
                simp only [Act.put, List.setIfInBounds_toArray, List.set_cons_zero, List.set_cons_succ]
                refine tk 1 33 (.bool true) rfl ?_ ?_
                · intro W hSW; go_simp; omega
                simp only [Act.put, List.setIfInBounds_toArray, List.set_cons_zero, List.set_cons_succ]
                refine tk 2 34 (.bool true) rfl ?_ ?_
                · intro W hSW; go_simp
                simp only [Act.put, List.setIfInBounds_toArray, List.set_cons_zero, List.set_cons_succ]
                refine tk 3 35 (.pointer (some ⟨X, 8, none⟩)) rfl ?_ ?_
                · intro W hSW; go_simp
                simp only [Act.put, List.setIfInBounds_toArray, List.set_cons_zero, List.set_cons_succ]
                refine tk 4 36 (.slice (some ⟨P, o, none⟩) N s.c) rfl ?_ ?_
                · intro W hSW; have z := sv_cell Hc.out (keep0 hSW HBX6.out); rw [Hsp.out, hsn] at z; go_simp
                simp only [Act.put, List.setIfInBounds_toArray, List.set_cons_zero, List.set_cons_succ]
                refine tk 5 37 (.int .i64 (i : Nat)) rfl ?_ ?_
                · intro W hSW; go_simp
                simp only [Act.put, List.setIfInBounds_toArray, List.set_cons_zero, List.set_cons_succ]
                refine tk 6 38 (.int .i64 (m : Nat)) rfl ?_ ?_
                · intro W hSW; go_simp; have e64 : IntKind.i64.wrap ((m : Nat) : Int) = ((m : Nat) : Int) := IntWalk.i64_in _ (by omega); exact e64
                simp only [Act.put, List.setIfInBounds_toArray, List.set_cons_zero, List.set_cons_succ]
                refine tk 7 39 (.pointer (some ⟨P, o + m * 9, none⟩)) rfl ?_ ?_
                · intro W hSW; go_simp
                simp only [Act.put, List.setIfInBounds_toArray, List.set_cons_zero, List.set_cons_succ]
                refine tk 8 40 (.pointer (some ⟨P, o + m * 9, none⟩)) rfl ?_ ?_
                · intro W hSW; go_simp
                simp only [Act.put, List.setIfInBounds_toArray, List.set_cons_zero, List.set_cons_succ]
                refine tk 9 41 (.string y'.e) rfl ?_ ?_
                · intro W hSW; have z := (hSW.cell (p := ⟨P, o + m * 9, none⟩) HP'.out (by simp)).trans Hz'.out; go_simp
                simp only [Act.put, List.setIfInBounds_toArray, List.set_cons_zero, List.set_cons_succ]
                refine tk 10 42 (.pointer (some ⟨Z, 0, none⟩)) rfl ?_ ?_
                · intro W hSW; go_simp
                simp only [Act.put, List.setIfInBounds_toArray, List.set_cons_zero, List.set_cons_succ]
                refine tk 11 43 (.string y.e) rfl ?_ ?_
                · intro W hSW; have z : W.cell? ⟨Z, 0, none⟩ = some (.string y.e) := (by rw [cell_of_row _ _ _ _ _ _ (keep0 hSW HBZ6.out)]; rfl); go_simp
                simp only [Act.put, List.setIfInBounds_toArray, List.set_cons_zero, List.set_cons_succ]
                refine tk 12 44 (.bool true) rfl ?_ ?_
                · intro W hSW; go_simp
                simp only [Act.put, List.setIfInBounds_toArray, List.set_cons_zero, List.set_cons_succ]
                refine tk 13 45 (.bool true) rfl ?_ ?_
                · intro W hSW; go_simp
                simp only [Act.put, List.setIfInBounds_toArray, List.set_cons_zero, List.set_cons_succ]
                refine wpAnyH_done (by kernel_rfl) ?_ _
                have HS7 := hid hHeld
                clear hHeld
                have HF : Hid (rr = false) := hid (by rw [Hrr.out]; exact srR_false Hil.out (by unfold okE; rw [Hei.out]; simp [HokP.out, hbl]))
                go_wp2_with fail
                go_ret
                exact ⟨by rw [HF.out]; rfl, (HA5.out.trans HA6.out).trans HS7.out⟩
              · have hbe : Op.bytesLess y'.e.toList y.e.toList = true := by rw [bl_less]; exact hbl
                have hAd : Apart [] w6 w6.drew := (Apart.refl [] w6).drew
                refine wp_region_held_drew (S := fun W => Apart [] w6 W) (by kernel_rfl) hAd (fun hHeld => ?_)
                generalize w6.drew = wd at *
                clear hAd
                refine tk 0 32 (.int .i64 (i : Nat)) rfl ?_ ?_
                · intro W hSW; go_simp
                simp only [Act.put, List.setIfInBounds_toArray, List.set_cons_zero, List.set_cons_succ]
                refine tk 1 33 (.bool true) rfl ?_ ?_
                · intro W hSW; go_simp; omega
                simp only [Act.put, List.setIfInBounds_toArray, List.set_cons_zero, List.set_cons_succ]
                refine tk 2 34 (.bool true) rfl ?_ ?_
                · intro W hSW; go_simp
                simp only [Act.put, List.setIfInBounds_toArray, List.set_cons_zero, List.set_cons_succ]
                refine tk 3 35 (.pointer (some ⟨X, 8, none⟩)) rfl ?_ ?_
                · intro W hSW; go_simp
                simp only [Act.put, List.setIfInBounds_toArray, List.set_cons_zero, List.set_cons_succ]
                refine tk 4 36 (.slice (some ⟨P, o, none⟩) N s.c) rfl ?_ ?_
                · intro W hSW; have z := sv_cell Hc.out (keep0 hSW HBX6.out); rw [Hsp.out, hsn] at z; go_simp
                simp only [Act.put, List.setIfInBounds_toArray, List.set_cons_zero, List.set_cons_succ]
                refine tk 5 37 (.int .i64 (i : Nat)) rfl ?_ ?_
                · intro W hSW; go_simp
                simp only [Act.put, List.setIfInBounds_toArray, List.set_cons_zero, List.set_cons_succ]
                refine tk 6 38 (.int .i64 (m : Nat)) rfl ?_ ?_
                · intro W hSW; go_simp; have e64 : IntKind.i64.wrap ((m : Nat) : Int) = ((m : Nat) : Int) := IntWalk.i64_in _ (by omega); exact e64
                simp only [Act.put, List.setIfInBounds_toArray, List.set_cons_zero, List.set_cons_succ]
                refine tk 7 39 (.pointer (some ⟨P, o + m * 9, none⟩)) rfl ?_ ?_
                · intro W hSW; go_simp
                simp only [Act.put, List.setIfInBounds_toArray, List.set_cons_zero, List.set_cons_succ]
                refine tk 8 40 (.pointer (some ⟨P, o + m * 9, none⟩)) rfl ?_ ?_
                · intro W hSW; go_simp
                simp only [Act.put, List.setIfInBounds_toArray, List.set_cons_zero, List.set_cons_succ]
                refine tk 9 41 (.string y'.e) rfl ?_ ?_
                · intro W hSW; have z := (hSW.cell (p := ⟨P, o + m * 9, none⟩) HP'.out (by simp)).trans Hz'.out; go_simp
                simp only [Act.put, List.setIfInBounds_toArray, List.set_cons_zero, List.set_cons_succ]
                refine tk 10 42 (.pointer (some ⟨Z, 0, none⟩)) rfl ?_ ?_
                · intro W hSW; go_simp
                simp only [Act.put, List.setIfInBounds_toArray, List.set_cons_zero, List.set_cons_succ]
                refine tk 11 43 (.string y.e) rfl ?_ ?_
                · intro W hSW; have z : W.cell? ⟨Z, 0, none⟩ = some (.string y.e) := (by rw [cell_of_row _ _ _ _ _ _ (keep0 hSW HBZ6.out)]; rfl); go_simp
                simp only [Act.put, List.setIfInBounds_toArray, List.set_cons_zero, List.set_cons_succ]
                refine tk 12 44 (.bool false) rfl ?_ ?_
                · intro W hSW; go_simp
                simp only [Act.put, List.setIfInBounds_toArray, List.set_cons_zero, List.set_cons_succ]
                refine tk 13 45 (.bool false) rfl ?_ ?_
                · intro W hSW; go_simp
                simp only [Act.put, List.setIfInBounds_toArray, List.set_cons_zero, List.set_cons_succ]
                refine wpAnyH_done (by kernel_rfl) ?_ _
                have HS7 := hid hHeld
                clear hHeld
                go_wp2_with fail
                refine ⟨⟨i + 1, by go_num, by omega, hid (HA16.out.trans HS7.out), hid (fun j hj => ?_)⟩, by simp [intOf]; omega⟩
                rcases Nat.lt_or_ge j i with h1 | h1
                · exact HO.out j h1
                · obtain rfl : j = i := by omega
                  unfold okE
                  rw [Hei.out]
                  simp [HokX.out, HokP.out, hbl]
        · have HF : Hid (rr = false) := hid (by rw [Hrr.out]; exact srR_false Hil.out (by unfold okE; rw [Hei.out]; simp [okX, hE, hz]))
          rw [hz] at hr1
          go_wp2_with (first
            | (go_at_call 118; refine (HCe.out _).mono ?_; rintro _ _ ⟨rfl, rfl⟩)
            | refine wpL_valG rfl (.agg (rv y.t).toArray) (ex_load _ rfl Z 1 _ rfl (rgE HB5.out) (by rw [rv_len, Hxt.out])) ?_
            | refine wpL_valG rfl (.agg (rv zr).toArray) (ex_build86 rfl) ?_)
          go_ret
          exact ⟨by rw [HF.out]; rfl, HA5.out⟩
    · have hlti : ¬ ((i : Nat) : Int) < ((N : Nat) : Int) := by omega
      obtain rfl : N = i := by omega
      have HF : Hid (rr = true) := hid (by rw [Hrr.out]; exact srR_true (fun j hj => HO.out j (by rw [HN.out]; exact hj)))
      go_wp2_with fail
      go_ret
      exact ⟨by rw [HF.out]; rfl, HSw1.out.trans HS.out⟩
end Go.Proofs.YtdbeeikjngnnnaaGreat.ty
