import Derived.Test.YtdbeeikjngnnnaaT15
import Derived.Test.YtdbeeikjngnnnaaT8
namespace Go.Proofs.Ytdbeeikjngnnnaa.ty
open Go.ChangeShapes Go.WideShapes Go.ChangeAt Go.RowKit
set_option linter.unusedVariables false
set_option linter.unusedSimpArgs false
theorem me_form1 (cs : Array Value) (w : World) : (method 247 88 (.agg cs) "rookery/types.form").run Try.prog w = .ok (77, .agg cs) w := by kernel_rfl
set_option maxRecDepth 100000 in
theorem Bytes1 {w : World} {V : Nat} {u d : List Int} (hV : Bd w V (.iface 88 (.agg (rv (u ++ d)).toArray))) (hu : Wd u) (hd : Wd d) : Calls Try.prog 10 #[.pointer (some ⟨V, 0, none⟩)] w fun r w' => ∃ s, r = .returned (.tuple #[.slice s.p s.n s.c, .int .i64 0]) ∧ Bf w w' s (1 :: rowB (ob u d) 6) := by
  have z : w.cell? ⟨V, 0, none⟩ = some (.iface 88 (.agg (rv (u ++ d)).toArray)) := by rw [cell_of_row _ _ _ _ _ _ hV]; rfl
  have hm := fun wx => me_form1 (rv (u ++ d)).toArray wx
  have HC := hid (cform_ok (w := w) hu hd)
  clear hV hu hd
  go_enter Try.func10, Try.ntmps10
  go_upto_region 2 with (go_at_call 77; refine HC.out.mono ?_; rintro _ w1 ⟨s, rfl, b1⟩; have HB := hid b1; clear b1)
  have hn : ¬ ((s.n : Nat) : Int) > 64 := by
    have h1 := HB.out.len
    have h2 := nb8_len (ob u d) 6 8
    rw [rowB, List.length_cons, List.length_cons] at h1
    omega
  go_wp2_with fail
  go_ret2
  exact ⟨s, rfl, HB.out⟩
set_option maxRecDepth 100000 in
theorem alike_yes {w : World} {s s' : Sl} {bs : List Nat} (h : Rd w s.p (byts bs)) (hl : bs.length = s.n) (ok : s.ok) (h' : Rd w s'.p (byts bs)) (hl' : bs.length = s'.n) (ok' : s'.ok) : Calls Try.prog 13 #[.slice s.p s.n s.c, .slice s'.p s'.n s'.c] w fun r w' => r = .returned (.bool true) ∧ w' = w := by
  have e1 := conv_bytes h hl ok
  have e2 := conv_bytes h' hl' ok'
  clear h hl ok h' hl' ok'
  go_enter Try.func13, Try.ntmps13
  go_wp2_with fail
  go_ret
  exact ⟨by first | rfl | simp, rfl⟩
theorem Wd.zr : Wd zr := ⟨rfl, by intro x hx; simp [ty.zr] at hx; omega⟩
def u5 : List Int := [5, 0, 0, 0, 0, 0, 0, 0]
theorem Wd.u5 : Wd u5 := ⟨rfl, by intro x hx; simp [ty.u5] at hx; omega⟩
set_option maxHeartbeats 4000000 in
set_option maxRecDepth 100000 in
theorem able_ok (w : World) : Calls Try.prog 7 #[] w fun r w' => r = .returned (.bool true) ∧ Apart [] w w' := by
  have HN := hid (new_ok w 1 (by omega) (by omega))
  obtain ⟨V, hVe⟩ : ∃ V, V = w.heap.size := ⟨_, rfl⟩
  obtain ⟨w1, hw1⟩ : ∃ W, W = w.alloc (.cells #[zb 1] 70) := ⟨_, rfl⟩
  have HV1 : Hid (Bd w1 V (.iface 88 (.agg (rv (zr ++ zr)).toArray))) := by unfold Hid; rw [hw1, hVe]; exact heap_alloc_new w _
  have HA1 : Hid (Apart [] w w1) := by unfold Hid; rw [hw1]; exact (Apart.refl [] w).alloc _
  have HL : Hid (w.heap.size ≤ V) := by unfold Hid; omega
  rw [← hw1, ← hVe] at HN
  clear hw1 hVe
  have HAdd : Hid (Calls Try.prog 15 #[.pointer (some ⟨V, 0, none⟩), .int .i64 0, .int .i64 5] w1 fun r w' => r = .returned (.int .i64 0) ∧ Bd w' V (.iface 88 (.agg (rv (u5 ++ zr)).toArray)) ∧ Apart [V] w1 w') :=
    hid (Add1_ok (.int .i64 0) (.int .i64 5) HV1.out (add_ok (w := w1) Wd.zr Wd.zr 0 (by omega) 5 (by omega) (by omega)))
  go_enter Try.func7, Try.ntmps7
  go_upto_region 2 with (go_at_call 9; refine HN.out.mono ?_; rintro _ _ ⟨rfl, rfl⟩)
  go_upto_region 4 with (first
    | (go_at_call 15; refine HAdd.out.mono ?_; rintro _ w2 ⟨rfl, v2, a2⟩; have HV2 := hid v2; have HA2 := hid a2; clear v2 a2; have HSum := hid (Sum1 HV2.out (sum_ok (w := w2) Wd.u5 Wd.zr)); have e5 : Hid (sumC u5 zr 8 = 5) := hid (by decide); rw [e5.out] at HSum)
    | (go_at_call 21; refine HSum.out.mono ?_; rintro _ w3 ⟨rfl, a3⟩; have HA3 := hid a3; clear a3))
  have HBy := hid (Bytes1 (w := w3) (keep0 HA3.out HV2.out) Wd.u5 Wd.zr)
  have e6 : (1 :: rowB (ob u5 zr) 6) = [1, 1, 5, 0, 0, 0, 0, 0] := by decide
  rw [e6] at HBy
  clear e6
  go_upto_region 5 with (go_at_call 10; refine HBy.out.mono ?_; rintro _ w4 ⟨s, rfl, b4⟩; have HB := hid b4; clear b4)
  obtain ⟨w5, hw5⟩ : ∃ W, W = w4.alloc (.cells #[.int .u8 1, .int .u8 1, .int .u8 5, .int .u8 0, .int .u8 0, .int .u8 0, .int .u8 0, .int .u8 0] 5) := ⟨_, rfl⟩
  have HA5 : Hid (Apart [] w4 w5) := by unfold Hid; rw [hw5]; exact (Apart.refl [] w4).alloc _
  have HR5 : Hid (Rd w5 (some ⟨w4.heap.size, 0, none⟩) (byts [1, 1, 5, 0, 0, 0, 0, 0])) := by
    unfold Hid
    intro _
    have hh : w5.heap[w4.heap.size]? = some (.cells (byts [1, 1, 5, 0, 0, 0, 0, 0]).toArray 5 (0, 0)) := by rw [hw5]; exact heap_alloc_new w4 _
    refine ⟨w4.heap.size, 0, rfl, lt_of_heap hh, fun j v hj => ?_⟩
    rw [Nat.zero_add, cell_of_row _ _ _ _ _ _ hh]
    simpa using hj
  have HAl := hid (alike_yes (w := w5) (s := s) (s' := ⟨some ⟨w4.heap.size, 0, none⟩, 8, 8⟩) (HB.out.nw.kept HA5.out).rd HB.out.len.symm HB.out.nw.ok HR5.out rfl (fun e => by cases e))
  have HFin : Hid (Apart [] w w5) := hid ((((HA1.out.trans' HA2.out (by intro y hy; simp at hy; rw [hy]; exact .inr HL.out)).trans HA3.out).trans HB.out.nw.ap).trans HA5.out)
  rw [hw5] at HAl HFin
  clear HA5 HR5 hw5
  go_wp2_with (go_at_call 13; refine HAl.out.mono ?_; rintro _ _ ⟨rfl, rfl⟩)
  go_wp2_with fail
  go_ret
  exact ⟨rfl, HFin.out⟩
end Go.Proofs.Ytdbeeikjngnnnaa.ty
