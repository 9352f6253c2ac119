import Derived.Test.YtdbeeikjngnnnaaGreatChecked
import Derived.WalkKit
import Derived.ProofKit
import Derived.OpenShut
import Derived.Deep.QuietTactic
import Derived.BigQuiet
import Derived.BigRegion
import Derived.Laws.CopyOwn
import Derived.Laws.IdiomCopy
import Derived.WalkSmall
import Derived.Laws.ResultCell
import Derived.Laws.AppendOwnNone
import Derived.Deep.RegionHeld
import Derived.Deep.DeepAppendRoom
import Derived.Great.BuildSlice
import Derived.Deep.CutBlock
import Derived.Deep.RegionLaw
import Derived.ArgAppend
import Derived.Laws.Strings
import Derived.Laws.StructEq
import Derived.Below
import Derived.Deep.MidRow
import Derived.Great.Ranges
import Derived.Deep.RegionHeld3
import Derived.Laws.NewBlocks
import Derived.OrdersHeld
import Derived.Stop.BytesEq
import Derived.Laws.BytesString
import Derived.Lib.ConvBytes
import Derived.Laws.BitsAllLaws
import Derived.WalkLawsBesides
import Derived.Lib.Bytealg
import Derived.Laws.Externs
import Derived.Lib.SliceRun
import Derived.Lib.AppendZerosOnto
import Derived.Lib.AppendStr
import Derived.Lib.SlBytesConst
import Derived.Sort.Walk0
import Derived.Laws.Cover1
import Derived.Lib.Strings
import Derived.Lib.MinMaxS
import GoSem.Claim
import GoSem.ClaimJoined
import GoSem.ClaimMapViews
import Derived.JoinedTies
import Derived.KernelRfl
import Derived.JoinedCond
import Derived.ShutString
import Derived.ChangeOld
import Derived.Carry
import Derived.ChangeSlices
import Derived.Deep.Slices
import Derived.Deep.DeepHandedRow
import Derived.RowKit
import Derived.ChangeShapes
import Derived.SizedLaws
import Derived.ChangeMaps5
import Derived.Sort.WalkA
import Derived.Test.YtdbeeikjngnnnaaGreatRows
import Derived.Test.YtdbeeikjngnnnaaGreatD5
import Derived.Test.YtdbeeikjngnnnaaGreatD6
namespace Go.Proofs.YtdbeeikjngnnnaaGreat.ty
open Go.ChangeShapes Go.WideShapes Go.ChangeAt Go.RowKit
set_option linter.unusedVariables false
set_option linter.unusedSimpArgs false
def strB (bs : List Nat) : ByteArray := (bs.map (fun (b : Nat) => (b : Int))).foldl (fun r n => r.push (UInt8.ofNat n.toNat)) ByteArray.empty
theorem conv_bytes {w : World} {s : Sl} {bs : List Nat} (h : Rd w s.p (byts bs)) (hl : bs.length = s.n) (ok : s.ok) : Sem.run Tryz.prog (convert 29 9 (.slice s.p s.n s.c)) w = .ok (.string (strB bs)) w := by
  rw [run_convert_bytes_string w 29 9 5 _ _ _ Tryz.underlying29 Tryz.underlying5 Tryz.underlying9]
  obtain ⟨p, n, c⟩ := s
  unfold Sl.ok at ok
  simp only at h hl ok ⊢
  have hbl : (byts bs).length = n := by simp [byts, hl]
  cases p with
  | none =>
    obtain ⟨rfl, rfl⟩ := ok rfl
    obtain rfl : bs = [] := List.eq_nil_of_length_eq_zero hl
    simp [Conv.bytesToString, strB]
  | some a =>
    refine run_bytesToString w _ _ _ (bs.map (fun (b : Nat) => (b : Int))) ?_
    have := run_loadCells_list (P := Tryz.prog) w a (byts bs) (fun j v hv => by
      obtain ⟨P, o, e, _, hc⟩ := h (by
        by_cases h0 : 0 < (byts bs).length
        · exact h0
        · rw [List.getElem?_eq_none (by omega)] at hv; cases hv)
      cases e
      rw [Addr.add_lit]; exact hc j v hv)
    rw [hbl] at this
    rw [this]
    simp [byts]
def bsk (k : ByteArray) : List Nat := k.toList.map UInt8.toNat
theorem bsk_len (k : ByteArray) : (bsk k).length = k.size := by
  rw [bsk, List.length_map, ByteArray.toList_eq, Array.length_toList]; rfl
/-- what can be read, in a block of a type -/
def RdT (w : World) (p : Option Addr) (t : Nat) (us : List Value) : Prop := 0 < us.length → ∃ P o, p = some ⟨P, o, none⟩ ∧ (∃ cur m, w.heap[P]? = some (.cells cur t m)) ∧ ∀ j u, us[j]? = some u → w.cell? ⟨P, o + j, none⟩ = some u
theorem RdT.nil (w : World) (p : Option Addr) (t : Nat) : RdT w p t [] := fun h => absurd h (by simp)
theorem RdT.rd {w : World} {p : Option Addr} {t : Nat} {us : List Value} (h : RdT w p t us) : Rd w p us := fun h0 => by
  obtain ⟨P, o, e, ⟨cur, m, hb⟩, hc⟩ := h h0
  exact ⟨P, o, e, lt_of_heap hb, hc⟩
theorem lt_of_heapM {w : World} {g : Nat} {cs : Array Value} {t : TypeId} {m : Nat × Nat} (h : w.heap[g]? = some (.cells cs t m)) : g < w.heap.size := by
  rcases Nat.lt_or_ge g w.heap.size with h1 | h1
  · exact h1
  · rw [Array.getElem?_eq_none h1] at h; cases h
theorem RdT.kept {w w' : World} {p : Option Addr} {t : Nat} {us : List Value} {X : List Nat} (h : RdT w p t us) (a : Apart X w w') (hX : ∀ k ∈ X, ∀ cur m, w.heap[k]? ≠ some (.cells cur t m)) : RdT w' p t us := fun h0 => by
  obtain ⟨P, o, e, ⟨cur, m, hb⟩, hc⟩ := h h0
  have hn : P ∉ X := fun hm => hX P hm cur m hb
  exact ⟨P, o, e, ⟨cur, m, (a.block P (lt_of_heap hb) hn).trans hb⟩, fun j u hj => (a.cell (lt_of_heap hb) hn).trans (hc j u hj)⟩
theorem conv_str (w : World) (s : ByteArray) : ∃ (sl : Sl) (w' : World), Sem.run Tryz.prog (convert 9 29 (.string s)) w = .ok (.slice sl.p sl.n sl.c) w' ∧ Apart [] w w' ∧ sl.ok ∧ RdT w' sl.p 5 (byts (bsk s)) ∧ (bsk s).length = sl.n := by
  refine ⟨⟨some ⟨w.heap.size, 0, none⟩, s.size, grownCap w s.size 0 5⟩, Go.Lib.bytesWorld w 5 s, Go.Lib.run_convert_string_bytes w 9 29 5 s Tryz.underlying9 Tryz.underlying29 Tryz.underlying5, ?_, (fun e => by cases e), ?_, bsk_len s⟩
  · exact ⟨by rfl, by rfl, by rfl, by rw [Go.Lib.bytesWorld_size]; omega, fun k hk _ => Go.Lib.bytesWorld_at_old w 5 s k hk⟩
  · intro h0
    refine ⟨w.heap.size, 0, rfl, ⟨_, _, Go.Lib.bytesWorld_at_new w 5 s⟩, fun j u hj => ?_⟩
    have hl := bsk_len s
    have hjl : j < (bsk s).length := by
      have := (List.getElem?_eq_some_iff.1 hj).1
      simpa [byts] using this
    rw [Nat.zero_add, Go.Lib.bytesWorld_cell w 5 s j (by omega)]
    have e1 : (bsk s)[j]? = some ((s.data.toList.getD j 0).toNat) := by
      have h2 : j < s.data.toList.length := by rw [Array.length_toList]; have : s.data.size = s.size := rfl; omega
      unfold bsk
      rw [ByteArray.toList_eq, List.getElem?_map, List.getD_eq_getElem?_getD, List.getElem?_eq_getElem h2]
      rfl
    rw [byts, List.getElem?_map, e1] at hj
    simp only [Option.map_some, Option.some.injEq] at hj
    rw [← hj]
/-- a register -/
def rg (s a : Int) (t : ByteArray) : Array Value := #[.int .i64 s, .int .i64 a, .string t]
set_option maxRecDepth 100000 in
theorem write_actor {w : World} {cs : Array Value} (a : Int) (b : Value) (ha : isA a = false) : Calls Tryz.prog 137 #[.agg cs, .int .i64 a, b] w fun r w' => r = .returned (.tuple #[.nilIface, .int .i64 191]) ∧ Apart [] w w' := by
  have hc := fun wx => isActor_ok wx a
  rw [ha] at hc
  clear ha
  have HC := hid hc
  clear hc
  go_enter Tryz.func137, Tryz.ntmps137
  go_wp2_with (go_at_call 106; refine (HC.out _).mono ?_; rintro _ _ ⟨rfl, rfl⟩)
  go_wp2_with fail
  go_ret2
  exact ⟨rfl, (Apart.refl _ _).alloc _⟩
set_option maxRecDepth 100000 in
theorem write_long {w : World} {cs : Array Value} (i : Nat) (hi : i < 8) (p : Option Addr) (n c : Nat) (hn : ((n : Nat) : Int) > 59) : Calls Tryz.prog 137 #[.agg cs, .int .i64 (i : Int), .slice p n c] w fun r w' => r = .returned (.tuple #[.nilIface, .int .i64 2]) ∧ Apart [] w w' := by
  have hc := fun wx => isActor_ok wx (i : Int)
  have ha : isA (i : Int) = true := by simp [isA]; omega
  rw [ha] at hc
  clear ha
  have HC := hid hc
  clear hc
  go_enter Tryz.func137, Tryz.ntmps137
  go_wp2_with (go_at_call 106; refine (HC.out _).mono ?_; rintro _ _ ⟨rfl, rfl⟩)
  go_wp2_with fail
  go_ret2
  exact ⟨rfl, (Apart.refl _ _).alloc _⟩
set_option maxRecDepth 100000 in
theorem write_full {w : World} {x : Int} {t : ByteArray} (i : Nat) (hi : i < 8) (p : Option Addr) (n c : Nat) (hn : ¬ ((n : Nat) : Int) > 59) : Calls Tryz.prog 137 #[.agg (rg 16777215 x t), .int .i64 (i : Int), .slice p n c] w fun r w' => r = .returned (.tuple #[.nilIface, .int .i64 92]) ∧ Apart [] w w' := by
  have hc := fun wx => isActor_ok wx (i : Int)
  have ha : isA (i : Int) = true := by simp [isA]; omega
  rw [ha] at hc
  clear ha
  have HC := hid hc
  clear hc
  have HA := hid (Apart.refl [] w)
  unfold rg
  go_enter Tryz.func137, Tryz.ntmps137
  go_upto_region 1 with fail
  obtain ⟨X, HXX⟩ : ∃ X, Hid (X = w.heap.size) := ⟨_, rfl⟩
  obtain ⟨w1, hw1⟩ : ∃ W, W = w.alloc (.cells #[.int .i64 16777215, .int .i64 x, .string t] 108) := ⟨_, rfl⟩
  have HSw1 : Hid (Apart [] w w1) := by unfold Hid; rw [hw1]; exact (Apart.refl [] w).alloc _
  have HBX : Hid (w1.heap[X]? = some (.cells #[.int .i64 16777215, .int .i64 x, .string t] 108 (0, 0))) := by unfold Hid; rw [HXX.out, hw1]; exact heap_alloc_new w _
  have HLX : Hid (w.heap.size ≤ X) := by unfold Hid; rw [HXX.out]; exact HA.out.size
  replace HA := hid (HA.out.trans HSw1.out)
  rw [← hw1, ← HXX.out]
  clear hw1 HXX
  have z : w1.cell? ⟨X, 0, none⟩ = some (.int .i64 16777215) := by rw [cell_of_row _ _ _ _ _ _ HBX.out]; rfl
  go_wp2_with (go_at_call 106; refine (HC.out _).mono ?_; rintro _ _ ⟨rfl, rfl⟩)
  go_wp2_with fail
  go_ret2
  exact ⟨rfl, HA.out⟩
set_option maxRecDepth 100000 in
theorem write_ok {w : World} {s x : Int} {t : ByteArray} (hs : 0 ≤ s) (hs' : s < 16777215) (i : Nat) (hi : i < 8) {sl : Sl} {bs : List Nat} (hb : Rd w sl.p (byts bs)) (hl : bs.length = sl.n) (ok : sl.ok) (hn : ¬ ((sl.n : Nat) : Int) > 59) : Calls Tryz.prog 137 #[.agg (rg s x t), .int .i64 (i : Int), .slice sl.p sl.n sl.c] w fun r w' => r = .returned (.tuple #[.iface 108 (.agg (rg (s + 1) (i : Int) (strB bs))), .int .i64 0]) ∧ Apart [] w w' := by
  have hc := fun wx => isActor_ok wx (i : Int)
  have ha : isA (i : Int) = true := by simp [isA]; omega
  rw [ha] at hc
  clear ha
  have HC := hid hc
  clear hc
  have HA := hid (Apart.refl [] w)
  have hne : (s == 16777215) = false := by simp only [beq_eq_false_iff_ne]; omega
  have hw : wrap64 (s + 1) = s + 1 := IntWalk.wrap64_in _ (by omega)
  have HR := hid hb
  have Hl := hid hl
  have Hok := hid ok
  clear hs hs' hb hl ok
  unfold rg
  go_enter Tryz.func137, Tryz.ntmps137
  go_upto_region 1 with fail
  obtain ⟨X, HXX⟩ : ∃ X, Hid (X = w.heap.size) := ⟨_, rfl⟩
  obtain ⟨w1, hw1⟩ : ∃ W, W = w.alloc (.cells #[.int .i64 s, .int .i64 x, .string t] 108) := ⟨_, rfl⟩
  have HSw1 : Hid (Apart [] w w1) := by unfold Hid; rw [hw1]; exact (Apart.refl [] w).alloc _
  have HBX : Hid (w1.heap[X]? = some (.cells #[.int .i64 s, .int .i64 x, .string t] 108 (0, 0))) := by unfold Hid; rw [HXX.out, hw1]; exact heap_alloc_new w _
  have HLX : Hid (w.heap.size ≤ X) := by unfold Hid; rw [HXX.out]; exact HA.out.size
  replace HA := hid (HA.out.trans HSw1.out)
  rw [← hw1, ← HXX.out]
  clear hw1 HXX
  have z : w1.cell? ⟨X, 0, none⟩ = some (.int .i64 s) := by rw [cell_of_row _ _ _ _ _ _ HBX.out]; rfl
  have hcv := conv_bytes (HR.out.kept0 HSw1.out) Hl.out Hok.out
  go_wp2_with (go_at_call 106; refine (HC.out _).mono ?_; rintro _ _ ⟨rfl, rfl⟩)
  go_wp2_with fail
  go_ret2
  exact ⟨rfl, HA.out⟩
end Go.Proofs.YtdbeeikjngnnnaaGreat.ty
namespace Go.Proofs.YtdbeeikjngnnnaaGreat.ty
open Go.ChangeShapes Go.WideShapes Go.ChangeAt Go.RowKit
set_option linter.unusedVariables false
set_option linter.unusedSimpArgs false
theorem me_form1 (cs : Array Value) (w : World) : (method 284 101 (.agg cs) "rookery/types.form").run Tryz.prog w = .ok (102, .agg cs) w := by kernel_rfl
set_option maxRecDepth 100000 in
theorem Bytes1 {w : World} {V : Nat} {u d : List Int} (hV : Bd w V (.iface 101 (.agg (rv (u ++ d)).toArray))) (hu : Wd u) (hd : Wd d) : Calls Tryz.prog 17 #[.pointer (some ⟨V, 0, none⟩)] w fun r w' => ∃ s, r = .returned (.tuple #[.slice s.p s.n s.c, .int .i64 0]) ∧ Bf w w' s (1 :: rowB (ob u d) 6) := by
  have z : w.cell? ⟨V, 0, none⟩ = some (.iface 101 (.agg (rv (u ++ d)).toArray)) := by rw [cell_of_row _ _ _ _ _ _ hV]; rfl
  have hm := fun wx => me_form1 (rv (u ++ d)).toArray wx
  have HC := hid (cform_ok (w := w) hu hd)
  clear hV hu hd
  go_enter Tryz.func17, Tryz.ntmps17
  go_upto_region 2 with (go_at_call 102; refine HC.out.mono ?_; rintro _ w1 ⟨s, rfl, b1⟩; have HB := hid b1; clear b1)
  have hn : ¬ ((s.n : Nat) : Int) > 64 := by
    have h1 := HB.out.len
    have h2 := nb8_len (ob u d) 6 8
    rw [rowB, List.length_cons, List.length_cons] at h1
    omega
  go_wp2_with fail
  go_ret2
  exact ⟨s, rfl, HB.out⟩
set_option maxRecDepth 100000 in
theorem alike_yes {w : World} {s s' : Sl} {bs : List Nat} (h : Rd w s.p (byts bs)) (hl : bs.length = s.n) (ok : s.ok) (h' : Rd w s'.p (byts bs)) (hl' : bs.length = s'.n) (ok' : s'.ok) : Calls Tryz.prog 18 #[.slice s.p s.n s.c, .slice s'.p s'.n s'.c] w fun r w' => r = .returned (.bool true) ∧ w' = w := by
  have e1 := conv_bytes h hl ok
  have e2 := conv_bytes h' hl' ok'
  clear h hl ok h' hl' ok'
  go_enter Tryz.func18, Tryz.ntmps18
  go_wp2_with fail
  go_ret
  exact ⟨by first | rfl | simp, rfl⟩
theorem Wd.zr : Wd zr := ⟨rfl, by intro x hx; simp [ty.zr] at hx; omega⟩
def u5 : List Int := [5, 0, 0, 0, 0, 0, 0, 0]
theorem Wd.u5 : Wd u5 := ⟨rfl, by intro x hx; simp [ty.u5] at hx; omega⟩
set_option maxHeartbeats 4000000 in
set_option maxRecDepth 100000 in
theorem able_ok (w : World) : Calls Tryz.prog 9 #[] w fun r w' => r = .returned (.bool true) ∧ Apart [] w w' := by
  have HN := hid (new_ok w 1 (by omega) (by omega))
  obtain ⟨V, hVe⟩ : ∃ V, V = w.heap.size := ⟨_, rfl⟩
  obtain ⟨w1, hw1⟩ : ∃ W, W = w.alloc (.cells #[zb 1] 71) := ⟨_, rfl⟩
  have HV1 : Hid (Bd w1 V (.iface 101 (.agg (rv (zr ++ zr)).toArray))) := by unfold Hid; rw [hw1, hVe]; exact heap_alloc_new w _
  have HA1 : Hid (Apart [] w w1) := by unfold Hid; rw [hw1]; exact (Apart.refl [] w).alloc _
  have HL : Hid (w.heap.size ≤ V) := by unfold Hid; omega
  rw [← hw1, ← hVe] at HN
  clear hw1 hVe
  have HAdd : Hid (Calls Tryz.prog 15 #[.pointer (some ⟨V, 0, none⟩), .int .i64 0, .int .i64 5] w1 fun r w' => r = .returned (.int .i64 0) ∧ Bd w' V (.iface 101 (.agg (rv (u5 ++ zr)).toArray)) ∧ Apart [V] w1 w') :=
    hid (Add1_ok (.int .i64 0) (.int .i64 5) HV1.out (add_ok (w := w1) Wd.zr Wd.zr 0 (by omega) 5 (by omega) (by omega)))
  go_enter Tryz.func9, Tryz.ntmps9
  go_upto_region 2 with (go_at_call 14; refine HN.out.mono ?_; rintro _ _ ⟨rfl, rfl⟩)
  go_upto_region 4 with (first
    | (go_at_call 15; refine HAdd.out.mono ?_; rintro _ w2 ⟨rfl, v2, a2⟩; have HV2 := hid v2; have HA2 := hid a2; clear v2 a2; have HSum := hid (Sum1 HV2.out (sum_ok (w := w2) Wd.u5 Wd.zr)); have e5 : Hid (sumC u5 zr 8 = 5) := hid (by decide); rw [e5.out] at HSum)
    | (go_at_call 16; refine HSum.out.mono ?_; rintro _ w3 ⟨rfl, a3⟩; have HA3 := hid a3; clear a3))
  have HBy := hid (Bytes1 (w := w3) (keep0 HA3.out HV2.out) Wd.u5 Wd.zr)
  have e6 : (1 :: rowB (ob u5 zr) 6) = [1, 1, 5, 0, 0, 0, 0, 0] := by decide
  rw [e6] at HBy
  clear e6
  go_upto_region 5 with (go_at_call 17; refine HBy.out.mono ?_; rintro _ w4 ⟨s, rfl, b4⟩; have HB := hid b4; clear b4)
  obtain ⟨w5, hw5⟩ : ∃ W, W = w4.alloc (.cells #[.int .u8 1, .int .u8 1, .int .u8 5, .int .u8 0, .int .u8 0, .int .u8 0, .int .u8 0, .int .u8 0] 5) := ⟨_, rfl⟩
  have HA5 : Hid (Apart [] w4 w5) := by unfold Hid; rw [hw5]; exact (Apart.refl [] w4).alloc _
  have HR5 : Hid (Rd w5 (some ⟨w4.heap.size, 0, none⟩) (byts [1, 1, 5, 0, 0, 0, 0, 0])) := by
    unfold Hid
    intro _
    have hh : w5.heap[w4.heap.size]? = some (.cells (byts [1, 1, 5, 0, 0, 0, 0, 0]).toArray 5 (0, 0)) := by rw [hw5]; exact heap_alloc_new w4 _
    refine ⟨w4.heap.size, 0, rfl, lt_of_heap hh, fun j v hj => ?_⟩
    rw [Nat.zero_add, cell_of_row _ _ _ _ _ _ hh]
    simpa using hj
  have HAl := hid (alike_yes (w := w5) (s := s) (s' := ⟨some ⟨w4.heap.size, 0, none⟩, 8, 8⟩) (HB.out.nw.kept HA5.out).rd HB.out.len.symm HB.out.nw.ok HR5.out rfl (fun e => by cases e))
  have HFin : Hid (Apart [] w w5) := hid ((((HA1.out.trans' HA2.out (by intro y hy; simp at hy; rw [hy]; exact .inr HL.out)).trans HA3.out).trans HB.out.nw.ap).trans HA5.out)
  rw [hw5] at HAl HFin
  clear HA5 HR5 hw5
  go_wp2_with (go_at_call 18; refine HAl.out.mono ?_; rintro _ _ ⟨rfl, rfl⟩)
  go_wp2_with fail
  go_ret
  exact ⟨rfl, HFin.out⟩
end Go.Proofs.YtdbeeikjngnnnaaGreat.ty
namespace Go.Proofs.YtdbeeikjngnnnaaGreat.ty
open Go.ChangeShapes Go.WideShapes Go.ChangeAt Go.RowKit
set_option linter.unusedVariables false
set_option linter.unusedSimpArgs false
/-- entries in memory -/
structure Es (w : World) (s : Sl) (es : List En) : Prop where
  rd : RdT w s.p 141 (evs es)
  len : s.n = es.length
  cap : s.n ≤ s.c
  ok : s.ok
  row : ∀ x ∈ es, x.t.length = 8
theorem evs_len : ∀ {es : List En}, (∀ x ∈ es, x.t.length = 8) → (evs es).length = es.length * 9
  | [], _ => rfl
  | x :: r, h => by
    have h1 := evs_len (es := r) (fun y hy => h y (List.mem_cons_of_mem _ hy))
    have h2 := h x (by simp)
    simp only [evs, En.vs, List.length_append, List.length_cons, rv_len, h1, h2]
    omega
theorem evs_app (a b : List En) : evs (a ++ b) = evs a ++ evs b := by
  induction a with
  | nil => rfl
  | cons x r ih => simp [evs, ih, List.append_assoc]
theorem En.vs_len {x : En} (h : x.t.length = 8) : x.vs.length = 9 := by simp [En.vs, rv_len, h]
theorem evs_split {es : List En} {i : Nat} (hi : i < es.length) : evs es = evs (es.take i) ++ (es[i].vs ++ evs (es.drop (i + 1))) := by
  rw [← show evs (es[i] :: es.drop (i + 1)) = es[i].vs ++ evs (es.drop (i + 1)) from rfl, ← evs_app, ← List.drop_eq_getElem_cons hi, List.take_append_drop]
theorem Es.at {w : World} {s : Sl} {es : List En} (h : Es w s es) (i : Nat) (hi : i < es.length) : ∃ P o, s.p = some ⟨P, o, none⟩ ∧ w.rangeAt P (o + i * 9) es[i].vs ∧ P < w.heap.size := by
  have hl := evs_len h.row
  obtain ⟨P, o, e, ⟨cur, m, hb⟩, hc⟩ := h.rd (by omega)
  refine ⟨P, o, e, fun j v hj => ?_, lt_of_heapM hb⟩
  have hx : es[i].vs.length = 9 := En.vs_len (h.row _ (List.getElem_mem hi))
  have hjl : j < 9 := by
    by_cases hc : j < 9
    · exact hc
    · rw [List.getElem?_eq_none (by omega)] at hj; cases hj
  have ht : (evs (es.take i)).length = i * 9 := by
    rw [evs_len (fun x hx => h.row x (List.mem_of_mem_take hx)), List.length_take]
    congr 1; omega
  rw [Nat.add_assoc]
  refine hc _ _ ?_
  rw [evs_split hi, List.getElem?_append_right (by omega), ht, List.getElem?_append_left (by omega)]
  rw [show i * 9 + j - i * 9 = j from by omega]
  exact hj
theorem Es.kept {w w' : World} {s : Sl} {es : List En} {X : List Nat} (h : Es w s es) (a : Apart X w w') (hX : ∀ k ∈ X, ∀ cur m, w.heap[k]? ≠ some (.cells cur 141 m)) : Es w' s es := ⟨h.rd.kept a hX, h.len, h.cap, h.ok, h.row⟩
theorem Es.kept0 {w w' : World} {s : Sl} {es : List En} (h : Es w s es) (a : Apart [] w w') : Es w' s es := h.kept a (by simp)
theorem Es.nil (w : World) : Es w ⟨none, 0, 0⟩ [] := ⟨RdT.nil _ _ _, rfl, Nat.le_refl _, fun _ => ⟨rfl, rfl⟩, by simp⟩
theorem ex_load106 {W : World} {eval : Operand → Value} {op : Oper} (x : Operand) (ho : op.op = .load 141 x) (b o : Nat) (cs : List Value) (hx : eval x = .pointer (some ⟨b, o, none⟩)) (hc : W.rangeAt b o cs) (hl : cs.length = 9) : (execOp eval op).run Tryz.prog W = .ok (.value (.agg cs.toArray)) W := by
  unfold execOp
  simp only [ho, hx, Instr.loadAt, Instr.sureAddr, Sem.run_bind, Sem.run_pure, Result.andThen_ok, run_loadVar_mid W b o 141 cs _ hc Tryz.underlying141 rfl (by rw [size106, hl])]
theorem ex_half {W : World} {eval : Operand → Value} {op : Oper} (x : Operand) (l h m : Nat) (ho : op.op = .binOp .shr 132 x (.const (.int .u64 1)) 132) (hx : eval x = .int .u64 ((l : Int) + (h : Int))) (hk : eval (.const (.int .u64 1)) = .int .u64 1) (hm : ((l : Int) + (h : Int)) / 2 = (m : Int)) : (execOp eval op).run Tryz.prog W = .ok (.value (.int .u64 (m : Int))) W := by
  unfold execOp
  simp only [ho, hx, hk]
  rw [← hm]
  go_simp
theorem wpL_valG {P : Program} {ops : Array Oper} {rest : List Oper} {o : Oper} {a : Act} {w : World} {Q : Exit → Act → World → Prop} (hw : Region.wanted o (yielded ops a.tmps) = true) (v : Value) (h : (execOp a.eval o).run P w = .ok (.value v) w) (hK : wpList P ops Q rest (a.put o.dst v) w) : wpList P ops Q (o :: rest) a w := by
  refine wpList_step fun K hK' => ?_
  rw [if_pos hw]
  unfold Oper.wp
  rw [h]
  exact hK' _ _ hK
/-- what the search has found out -/
structure Fo (es : List En) (x : ByteArray) (k : Nat) : Prop where
  le : k ≤ es.length
  lt : ∀ i (h : i < es.length), i < k → bl es[i].e x = true
  ge : ∀ i (h : i < es.length), k ≤ i → bl es[i].e x = false
def fnd (es : List En) (x : ByteArray) (k : Nat) : Bool := match es[k]? with
  | some y => cb y.e x == 0
  | none => false
theorem so_lt {es : List En} (h : So es) {i j : Nat} (hi : i < es.length) (hj : j < es.length) (hij : i < j) : bl es[i].e es[j].e = true := List.pairwise_iff_getElem.1 h i j hi hj hij
set_option maxHeartbeats 2000000 in
set_option maxRecDepth 100000 in
theorem search_ok {w : World} {s : Sl} {es : List En} (h : Es w s es) (hs : So es) (hn : es.length ≤ 1000000) (x : ByteArray) : Calls Tryz.prog 122 #[.slice s.p s.n s.c, .string x, .func (.func 123) #[] #[]] w fun r w' => ∃ k : Nat, r = .returned (.tuple #[.int .i64 (k : Int), .bool (fnd es x k)]) ∧ Fo es x k ∧ Apart [] w w' := by
  have HE := hid h
  have HS := hid hs
  have HC := hid cel_ok
  obtain ⟨N, HN⟩ : ∃ N, Hid (N = es.length) := ⟨_, hid rfl⟩
  have hNl : N ≤ 1000000 := by rw [HN.out]; exact hn
  have hsn : s.n = N := by rw [HN.out]; exact h.len
  rw [hsn]
  clear h hs hn hsn
  go_enter Tryz.func122, Tryz.ntmps122
  go_wp2_with fail
  go_loopw [9, 10] (fun a b wt => ∃ l h : Nat, a = .int .i64 (l : Nat) ∧ b = .int .i64 (h : Nat) ∧ l ≤ h ∧ h ≤ N ∧ Hid (Apart [] w wt) ∧ Hid (∀ i (hi : i < es.length), i < l → bl es[i].e x = true) ∧ Hid (∀ i (hi : i < es.length), h ≤ i → bl es[i].e x = false)) (fun a b _ => (intOf b).toNat - (intOf a).toNat)
  case atStart => exact ⟨0, N, rfl, rfl, Nat.zero_le _, Nat.le_refl _, hid (Apart.refl _ _), hid (fun i _ h => absurd h (by omega)), hid (fun i hi h => absurd h (by have := HN.out; omega))⟩
  case round =>
    obtain ⟨l, h, rfl, rfl, hlh, hhN, HA, HL, HG⟩ := hrel
    generalize wr = wt at *
    by_cases hlt : l < h
    · have hlti : ((l : Nat) : Int) < ((h : Nat) : Int) := by omega
      obtain ⟨m, hm⟩ : ∃ m, m = (l + h) / 2 := ⟨_, rfl⟩
      have Hml : Hid (m < es.length) := hid (by rw [← HN.out]; omega)
      obtain ⟨P, o, hp, hr, hP⟩ := (HE.out.kept0 HA.out).at m Hml.out
      have HR := hid hr
      have HX : Hid ((es[m]'Hml.out).vs.length = 9) := hid (En.vs_len (HE.out.row _ (List.getElem_mem _)))
      obtain ⟨y, Hy⟩ : ∃ y, Hid (y = es[m]'Hml.out) := ⟨_, hid rfl⟩
      rw [← Hy.out] at HR HX
      have hmm : ((l : Int) + (h : Int)) / 2 = (m : Int) := by omega
      have hmN : m < N := by omega
      have hlm : l ≤ m := by omega
      have hmh : m < h := by omega
      rw [hp]
      clear hr hP hp hm
      by_cases hb : cb y.e x < 0
      · have HBL : Hid (bl (es[m]'Hml.out).e x = true) := hid (by rw [← Hy.out]; exact (cb_lt _ _).1 hb)
        go_wp2_with (first | (refine wpL_val rfl (.int .u64 (m : Int)) (ex_half _ l h m rfl rfl rfl hmm) ?_) | (refine wpL_val rfl (.agg y.vs.toArray) (ex_load106 _ rfl P (o + m * 9) _ (by first | rfl | simp [hmm]) HR.out HX.out) ?_) | (go_at_call 123; refine (HC.out _ y x).mono ?_; rintro _ w2 ⟨rfl, a2⟩; have HA2 := hid (HA.out.trans a2); clear a2))
        refine ⟨⟨m + 1, h, by go_num, rfl, by omega, hhN, HA2, ?_, HG⟩, by simp [intOf]; omega⟩
        unfold Hid
        intro i hi hil
        rcases Nat.lt_or_ge i m with h1 | h1
        · exact bl_trans (so_lt HS.out hi Hml.out h1) HBL.out
        · obtain rfl : i = m := by omega
          exact HBL.out
      · have HBL : Hid (bl (es[m]'Hml.out).e x = false) := hid (by rw [← Hy.out]; exact Bool.eq_false_iff.2 (fun e => hb ((cb_lt _ _).2 e)))
        go_wp2_with (first | (refine wpL_val rfl (.int .u64 (m : Int)) (ex_half _ l h m rfl rfl rfl hmm) ?_) | (refine wpL_val rfl (.agg y.vs.toArray) (ex_load106 _ rfl P (o + m * 9) _ (by first | rfl | simp [hmm]) HR.out HX.out) ?_) | (go_at_call 123; refine (HC.out _ y x).mono ?_; rintro _ w2 ⟨rfl, a2⟩; have HA2 := hid (HA.out.trans a2); clear a2))
        refine ⟨⟨l, m, rfl, rfl, hlm, by omega, HA2, HL, ?_⟩, by simp [intOf]; omega⟩
        unfold Hid
        intro i hi hil
        rcases Nat.lt_or_ge m i with h1 | h1
        · cases hq : bl es[i].e x
          · rfl
          · have := bl_trans (so_lt HS.out Hml.out hi h1) hq
            rw [HBL.out] at this; cases this
        · obtain rfl : i = m := by omega
          exact HBL.out
    · have hlti : ¬ ((l : Nat) : Int) < ((h : Nat) : Int) := by omega
      obtain rfl : l = h := by omega
      have HF : Hid (Fo es x l) := hid ⟨by rw [← HN.out]; exact hhN, HL.out, HG.out⟩
      by_cases hlN : l < N
      · have hlNi : ((l : Nat) : Int) < ((N : Nat) : Int) := by omega
        have Hml : Hid (l < es.length) := hid (by rw [← HN.out]; exact hlN)
        obtain ⟨P, o, hp, hr, hP⟩ := (HE.out.kept0 HA.out).at l Hml.out
        have HR := hid hr
        have HX : Hid ((es[l]'Hml.out).vs.length = 9) := hid (En.vs_len (HE.out.row _ (List.getElem_mem _)))
        obtain ⟨y, Hy⟩ : ∃ y, Hid (y = es[l]'Hml.out) := ⟨_, hid rfl⟩
        rw [← Hy.out] at HR HX
        have HQ : Hid (fnd es x l = (cb y.e x == 0)) := hid (by unfold fnd; rw [List.getElem?_eq_getElem Hml.out, ← Hy.out])
        rw [hp]
        clear hr hP hp
        go_wp2_with (first | (refine wpL_valG rfl (.agg y.vs.toArray) (ex_load106 _ rfl P (o + l * 9) _ rfl HR.out HX.out) ?_) | (go_at_call 123; refine (HC.out _ y x).mono ?_; rintro _ w2 ⟨rfl, a2⟩; have HA2 := hid (HA.out.trans a2); clear a2))
        go_ret2
        exact ⟨l, by rw [HQ.out]; rfl, HF.out, HA2.out⟩
      · have hlNi : ¬ ((l : Nat) : Int) < ((N : Nat) : Int) := by omega
        have HQ : Hid (fnd es x l = false) := hid (by unfold fnd; rw [List.getElem?_eq_none (by rw [← HN.out]; omega)])
        go_wp2_with fail
        go_ret2
        exact ⟨l, by rw [HQ.out]; rfl, HF.out, HA.out⟩
end Go.Proofs.YtdbeeikjngnnnaaGreat.ty
namespace Go.Proofs.YtdbeeikjngnnnaaGreat.ty
open Go.ChangeShapes Go.WideShapes Go.ChangeAt Go.RowKit
set_option linter.unusedVariables false
set_option linter.unusedSimpArgs false
theorem RdT.tk {w w' : World} {p : Option Addr} {t : Nat} {us : List Value} {ts : List Nat} (h : RdT w p t us) (k : TK ts w w') (ht : t ∉ ts) : RdT w' p t us := by
  obtain ⟨Z, a, hz⟩ := k
  refine h.kept a (fun k hk cur m e => ?_)
  obtain ⟨cu, t', ht', hh⟩ := hz k hk
  rw [hh] at e
  simp only [Option.some.injEq, Obj.cells.injEq] at e
  exact ht (e.2.1 ▸ ht')
def svs (l : List Sl) : List Value := l.map fun b => Value.slice b.p b.n b.c
theorem info22 : (Tryz.prog.info? 29).map (fun i => (i.zero, i.size, i.bytes)) = some (some (.slice none 0 0), 1, 24) := by kernel_rfl
theorem app_elem {w W : World} {s : Sl} {l : List Sl} (h : Nw w W 29 1 s (svs l)) (b : Sl) (hl : s.n + 1 ≤ 1000000) :
    ∃ s' W', (Builtin.append_ #[46, 46] 46 #[.slice s.p s.n s.c, .slice (some ⟨W.heap.size, 0, none⟩) 1 1]).run Tryz.prog (W.alloc (Obj.cells #[.slice b.p b.n b.c] 29)) = .ok (.slice s'.p s'.n s'.c) W' ∧ Nw w W' 29 1 s' (svs (l ++ [b])) ∧ s'.n = s.n + 1 ∧ TK [29] W W' := by
  obtain ⟨i0, hif, hz0, hz1, hz2⟩ := info_of info22
  obtain ⟨s5, w5, hrun, hnw5, hs5, ap5, -⟩ := run_appM (s := s) 46 46 29 i0 _ 1 24 Tryz.underlying46 hif hz0 hz1 hz2 rfl (by decide) h 1 (svs [b]) (by decide) rfl (by intro u hu; simp [svs] at hu; subst hu; rfl) (by unfold maxLen; omega) (by omega)
  exact ⟨s5, w5, hrun, by unfold svs at *; rw [List.map_append]; exact hnw5, hs5, TK.own h ap5 (by simp)⟩
end Go.Proofs.YtdbeeikjngnnnaaGreat.ty
namespace Go.Proofs.YtdbeeikjngnnnaaGreat.ty
open Go.ChangeShapes Go.WideShapes Go.ChangeAt Go.RowKit
set_option linter.unusedVariables false
set_option linter.unusedSimpArgs false
theorem Es.first {w : World} {s : Sl} {x : En} {r : List En} (h : Es w s (x :: r)) : ∃ P o, s.p = some ⟨P, o, none⟩ ∧ w.rangeAt P o x.vs ∧ P < w.heap.size := by
  obtain ⟨P, o, h1, h2, h3⟩ := h.at 0 (by simp)
  rw [Nat.zero_mul, Nat.add_zero] at h2
  exact ⟨P, o, h1, h2, h3⟩
end Go.Proofs.YtdbeeikjngnnnaaGreat.ty
