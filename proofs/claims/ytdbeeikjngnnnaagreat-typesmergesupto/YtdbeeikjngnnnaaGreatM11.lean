import Derived.Test.YtdbeeikjngnnnaaGreatChecked
import Derived.WalkKit
import Derived.ProofKit
import Derived.OpenShut
import Derived.Deep.QuietTactic
import Derived.BigQuiet
import Derived.BigRegion
import Derived.Laws.CopyOwn
import Derived.Laws.IdiomCopy
import Derived.WalkSmall
import Derived.Laws.ResultCell
import Derived.Laws.AppendOwnNone
import Derived.Deep.RegionHeld
import Derived.Deep.DeepAppendRoom
import Derived.Great.BuildSlice
import Derived.Deep.CutBlock
import Derived.Deep.RegionLaw
import Derived.ArgAppend
import Derived.Laws.Strings
import Derived.Laws.StructEq
import Derived.Below
import Derived.Deep.MidRow
import Derived.Great.Ranges
import Derived.Deep.RegionHeld3
import Derived.Laws.NewBlocks
import Derived.OrdersHeld
import Derived.Stop.BytesEq
import Derived.Laws.BytesString
import Derived.Lib.ConvBytes
import Derived.Laws.BitsAllLaws
import Derived.WalkLawsBesides
import Derived.Lib.Bytealg
import Derived.Laws.Externs
import Derived.Lib.SliceRun
import Derived.Lib.AppendZerosOnto
import Derived.Lib.AppendStr
import Derived.Lib.SlBytesConst
import Derived.Sort.Walk0
import Derived.Laws.Cover1
import Derived.Lib.Strings
import Derived.Lib.MinMaxS
import GoSem.Claim
import GoSem.ClaimJoined
import GoSem.ClaimMapViews
import Derived.JoinedTies
import Derived.KernelRfl
import Derived.JoinedCond
import Derived.ShutString
import Derived.ChangeOld
import Derived.Carry
import Derived.ChangeSlices
import Derived.Deep.Slices
import Derived.Deep.DeepHandedRow
import Derived.RowKit
import Derived.ChangeShapes
import Derived.SizedLaws
import Derived.ChangeMaps5
import Derived.Sort.WalkA
import Derived.Test.YtdbeeikjngnnnaaGreatRows
import Derived.Test.YtdbeeikjngnnnaaGreatM8
import Derived.Test.YtdbeeikjngnnnaaGreatM10
namespace Go.Proofs.YtdbeeikjngnnnaaGreat.ty
open Go.ChangeShapes Go.WideShapes Go.ChangeAt Go.RowKit
set_option linter.unusedVariables false
set_option linter.unusedSimpArgs false
def strB (bs : List Nat) : ByteArray := (bs.map (fun (b : Nat) => (b : Int))).foldl (fun r n => r.push (UInt8.ofNat n.toNat)) ByteArray.empty
theorem conv_bytes {w : World} {s : Sl} {bs : List Nat} (h : Rd w s.p (byts bs)) (hl : bs.length = s.n) (ok : s.ok) : Sem.run Tryz.prog (convert 29 9 (.slice s.p s.n s.c)) w = .ok (.string (strB bs)) w := by
  rw [run_convert_bytes_string w 29 9 5 _ _ _ Tryz.underlying29 Tryz.underlying5 Tryz.underlying9]
  obtain ⟨p, n, c⟩ := s
  unfold Sl.ok at ok
  simp only at h hl ok ⊢
  have hbl : (byts bs).length = n := by simp [byts, hl]
  cases p with
  | none =>
    obtain ⟨rfl, rfl⟩ := ok rfl
    obtain rfl : bs = [] := List.eq_nil_of_length_eq_zero hl
    simp [Conv.bytesToString, strB]
  | some a =>
    refine run_bytesToString w _ _ _ (bs.map (fun (b : Nat) => (b : Int))) ?_
    have := run_loadCells_list (P := Tryz.prog) w a (byts bs) (fun j v hv => by
      obtain ⟨P, o, e, _, hc⟩ := h (by
        by_cases h0 : 0 < (byts bs).length
        · exact h0
        · rw [List.getElem?_eq_none (by omega)] at hv; cases hv)
      cases e
      rw [Addr.add_lit]; exact hc j v hv)
    rw [hbl] at this
    rw [this]
    simp [byts]
def bsk (k : ByteArray) : List Nat := k.toList.map UInt8.toNat
theorem bsk_len (k : ByteArray) : (bsk k).length = k.size := by
  rw [bsk, List.length_map, ByteArray.toList_eq, Array.length_toList]; rfl
/-- what can be read, in a block of a type -/
def RdT (w : World) (p : Option Addr) (t : Nat) (us : List Value) : Prop := 0 < us.length → ∃ P o, p = some ⟨P, o, none⟩ ∧ (∃ cur m, w.heap[P]? = some (.cells cur t m)) ∧ ∀ j u, us[j]? = some u → w.cell? ⟨P, o + j, none⟩ = some u
theorem RdT.nil (w : World) (p : Option Addr) (t : Nat) : RdT w p t [] := fun h => absurd h (by simp)
theorem RdT.rd {w : World} {p : Option Addr} {t : Nat} {us : List Value} (h : RdT w p t us) : Rd w p us := fun h0 => by
  obtain ⟨P, o, e, ⟨cur, m, hb⟩, hc⟩ := h h0
  exact ⟨P, o, e, lt_of_heap hb, hc⟩
theorem lt_of_heapM {w : World} {g : Nat} {cs : Array Value} {t : TypeId} {m : Nat × Nat} (h : w.heap[g]? = some (.cells cs t m)) : g < w.heap.size := by
  rcases Nat.lt_or_ge g w.heap.size with h1 | h1
  · exact h1
  · rw [Array.getElem?_eq_none h1] at h; cases h
theorem RdT.kept {w w' : World} {p : Option Addr} {t : Nat} {us : List Value} {X : List Nat} (h : RdT w p t us) (a : Apart X w w') (hX : ∀ k ∈ X, ∀ cur m, w.heap[k]? ≠ some (.cells cur t m)) : RdT w' p t us := fun h0 => by
  obtain ⟨P, o, e, ⟨cur, m, hb⟩, hc⟩ := h h0
  have hn : P ∉ X := fun hm => hX P hm cur m hb
  exact ⟨P, o, e, ⟨cur, m, (a.block P (lt_of_heap hb) hn).trans hb⟩, fun j u hj => (a.cell (lt_of_heap hb) hn).trans (hc j u hj)⟩
theorem conv_str (w : World) (s : ByteArray) : ∃ (sl : Sl) (w' : World), Sem.run Tryz.prog (convert 9 29 (.string s)) w = .ok (.slice sl.p sl.n sl.c) w' ∧ Apart [] w w' ∧ sl.ok ∧ RdT w' sl.p 5 (byts (bsk s)) ∧ (bsk s).length = sl.n := by
  refine ⟨⟨some ⟨w.heap.size, 0, none⟩, s.size, grownCap w s.size 0 5⟩, Go.Lib.bytesWorld w 5 s, Go.Lib.run_convert_string_bytes w 9 29 5 s Tryz.underlying9 Tryz.underlying29 Tryz.underlying5, ?_, (fun e => by cases e), ?_, bsk_len s⟩
  · exact ⟨by rfl, by rfl, by rfl, by rw [Go.Lib.bytesWorld_size]; omega, fun k hk _ => Go.Lib.bytesWorld_at_old w 5 s k hk⟩
  · intro h0
    refine ⟨w.heap.size, 0, rfl, ⟨_, _, Go.Lib.bytesWorld_at_new w 5 s⟩, fun j u hj => ?_⟩
    have hl := bsk_len s
    have hjl : j < (bsk s).length := by
      have := (List.getElem?_eq_some_iff.1 hj).1
      simpa [byts] using this
    rw [Nat.zero_add, Go.Lib.bytesWorld_cell w 5 s j (by omega)]
    have e1 : (bsk s)[j]? = some ((s.data.toList.getD j 0).toNat) := by
      have h2 : j < s.data.toList.length := by rw [Array.length_toList]; have : s.data.size = s.size := rfl; omega
      unfold bsk
      rw [ByteArray.toList_eq, List.getElem?_map, List.getD_eq_getElem?_getD, List.getElem?_eq_getElem h2]
      rfl
    rw [byts, List.getElem?_map, e1] at hj
    simp only [Option.map_some, Option.some.injEq] at hj
    rw [← hj]
/-- a register -/
def rg (s a : Int) (t : ByteArray) : Array Value := #[.int .i64 s, .int .i64 a, .string t]
set_option maxRecDepth 100000 in
theorem write_actor {w : World} {cs : Array Value} (a : Int) (b : Value) (ha : isA a = false) : Calls Tryz.prog 137 #[.agg cs, .int .i64 a, b] w fun r w' => r = .returned (.tuple #[.nilIface, .int .i64 191]) ∧ Apart [] w w' := by
  have hc := fun wx => isActor_ok wx a
  rw [ha] at hc
  clear ha
  have HC := hid hc
  clear hc
  go_enter Tryz.func137, Tryz.ntmps137
  go_wp2_with (go_at_call 106; refine (HC.out _).mono ?_; rintro _ _ ⟨rfl, rfl⟩)
  go_wp2_with fail
  go_ret2
  exact ⟨rfl, (Apart.refl _ _).alloc _⟩
set_option maxRecDepth 100000 in
theorem write_long {w : World} {cs : Array Value} (i : Nat) (hi : i < 8) (p : Option Addr) (n c : Nat) (hn : ((n : Nat) : Int) > 59) : Calls Tryz.prog 137 #[.agg cs, .int .i64 (i : Int), .slice p n c] w fun r w' => r = .returned (.tuple #[.nilIface, .int .i64 2]) ∧ Apart [] w w' := by
  have hc := fun wx => isActor_ok wx (i : Int)
  have ha : isA (i : Int) = true := by simp [isA]; omega
  rw [ha] at hc
  clear ha
  have HC := hid hc
  clear hc
  go_enter Tryz.func137, Tryz.ntmps137
  go_wp2_with (go_at_call 106; refine (HC.out _).mono ?_; rintro _ _ ⟨rfl, rfl⟩)
  go_wp2_with fail
  go_ret2
  exact ⟨rfl, (Apart.refl _ _).alloc _⟩
set_option maxRecDepth 100000 in
theorem write_full {w : World} {x : Int} {t : ByteArray} (i : Nat) (hi : i < 8) (p : Option Addr) (n c : Nat) (hn : ¬ ((n : Nat) : Int) > 59) : Calls Tryz.prog 137 #[.agg (rg 16777215 x t), .int .i64 (i : Int), .slice p n c] w fun r w' => r = .returned (.tuple #[.nilIface, .int .i64 92]) ∧ Apart [] w w' := by
  have hc := fun wx => isActor_ok wx (i : Int)
  have ha : isA (i : Int) = true := by simp [isA]; omega
  rw [ha] at hc
  clear ha
  have HC := hid hc
  clear hc
  have HA := hid (Apart.refl [] w)
  unfold rg
  go_enter Tryz.func137, Tryz.ntmps137
  go_upto_region 1 with fail
  obtain ⟨X, HXX⟩ : ∃ X, Hid (X = w.heap.size) := ⟨_, rfl⟩
  obtain ⟨w1, hw1⟩ : ∃ W, W = w.alloc (.cells #[.int .i64 16777215, .int .i64 x, .string t] 108) := ⟨_, rfl⟩
  have HSw1 : Hid (Apart [] w w1) := by unfold Hid; rw [hw1]; exact (Apart.refl [] w).alloc _
  have HBX : Hid (w1.heap[X]? = some (.cells #[.int .i64 16777215, .int .i64 x, .string t] 108 (0, 0))) := by unfold Hid; rw [HXX.out, hw1]; exact heap_alloc_new w _
  have HLX : Hid (w.heap.size ≤ X) := by unfold Hid; rw [HXX.out]; exact HA.out.size
  replace HA := hid (HA.out.trans HSw1.out)
  rw [← hw1, ← HXX.out]
  clear hw1 HXX
  have z : w1.cell? ⟨X, 0, none⟩ = some (.int .i64 16777215) := by rw [cell_of_row _ _ _ _ _ _ HBX.out]; rfl
  go_wp2_with (go_at_call 106; refine (HC.out _).mono ?_; rintro _ _ ⟨rfl, rfl⟩)
  go_wp2_with fail
  go_ret2
  exact ⟨rfl, HA.out⟩
set_option maxRecDepth 100000 in
theorem write_ok {w : World} {s x : Int} {t : ByteArray} (hs : 0 ≤ s) (hs' : s < 16777215) (i : Nat) (hi : i < 8) {sl : Sl} {bs : List Nat} (hb : Rd w sl.p (byts bs)) (hl : bs.length = sl.n) (ok : sl.ok) (hn : ¬ ((sl.n : Nat) : Int) > 59) : Calls Tryz.prog 137 #[.agg (rg s x t), .int .i64 (i : Int), .slice sl.p sl.n sl.c] w fun r w' => r = .returned (.tuple #[.iface 108 (.agg (rg (s + 1) (i : Int) (strB bs))), .int .i64 0]) ∧ Apart [] w w' := by
  have hc := fun wx => isActor_ok wx (i : Int)
  have ha : isA (i : Int) = true := by simp [isA]; omega
  rw [ha] at hc
  clear ha
  have HC := hid hc
  clear hc
  have HA := hid (Apart.refl [] w)
  have hne : (s == 16777215) = false := by simp only [beq_eq_false_iff_ne]; omega
  have hw : wrap64 (s + 1) = s + 1 := IntWalk.wrap64_in _ (by omega)
  have HR := hid hb
  have Hl := hid hl
  have Hok := hid ok
  clear hs hs' hb hl ok
  unfold rg
  go_enter Tryz.func137, Tryz.ntmps137
  go_upto_region 1 with fail
  obtain ⟨X, HXX⟩ : ∃ X, Hid (X = w.heap.size) := ⟨_, rfl⟩
  obtain ⟨w1, hw1⟩ : ∃ W, W = w.alloc (.cells #[.int .i64 s, .int .i64 x, .string t] 108) := ⟨_, rfl⟩
  have HSw1 : Hid (Apart [] w w1) := by unfold Hid; rw [hw1]; exact (Apart.refl [] w).alloc _
  have HBX : Hid (w1.heap[X]? = some (.cells #[.int .i64 s, .int .i64 x, .string t] 108 (0, 0))) := by unfold Hid; rw [HXX.out, hw1]; exact heap_alloc_new w _
  have HLX : Hid (w.heap.size ≤ X) := by unfold Hid; rw [HXX.out]; exact HA.out.size
  replace HA := hid (HA.out.trans HSw1.out)
  rw [← hw1, ← HXX.out]
  clear hw1 HXX
  have z : w1.cell? ⟨X, 0, none⟩ = some (.int .i64 s) := by rw [cell_of_row _ _ _ _ _ _ HBX.out]; rfl
  have hcv := conv_bytes (HR.out.kept0 HSw1.out) Hl.out Hok.out
  go_wp2_with (go_at_call 106; refine (HC.out _).mono ?_; rintro _ _ ⟨rfl, rfl⟩)
  go_wp2_with fail
  go_ret2
  exact ⟨rfl, HA.out⟩
end Go.Proofs.YtdbeeikjngnnnaaGreat.ty
namespace Go.Proofs.YtdbeeikjngnnnaaGreat.ty
open Go.ChangeShapes Go.WideShapes Go.ChangeAt Go.RowKit
set_option linter.unusedVariables false
set_option linter.unusedSimpArgs false
theorem me_form1 (cs : Array Value) (w : World) : (method 284 101 (.agg cs) "rookery/types.form").run Tryz.prog w = .ok (102, .agg cs) w := by kernel_rfl
set_option maxRecDepth 100000 in
theorem Bytes1 {w : World} {V : Nat} {u d : List Int} (hV : Bd w V (.iface 101 (.agg (rv (u ++ d)).toArray))) (hu : Wd u) (hd : Wd d) : Calls Tryz.prog 17 #[.pointer (some ⟨V, 0, none⟩)] w fun r w' => ∃ s, r = .returned (.tuple #[.slice s.p s.n s.c, .int .i64 0]) ∧ Bf w w' s (1 :: rowB (ob u d) 6) := by
  have z : w.cell? ⟨V, 0, none⟩ = some (.iface 101 (.agg (rv (u ++ d)).toArray)) := by rw [cell_of_row _ _ _ _ _ _ hV]; rfl
  have hm := fun wx => me_form1 (rv (u ++ d)).toArray wx
  have HC := hid (cform_ok (w := w) hu hd)
  clear hV hu hd
  go_enter Tryz.func17, Tryz.ntmps17
  go_upto_region 2 with (go_at_call 102; refine HC.out.mono ?_; rintro _ w1 ⟨s, rfl, b1⟩; have HB := hid b1; clear b1)
  have hn : ¬ ((s.n : Nat) : Int) > 64 := by
    have h1 := HB.out.len
    have h2 := nb8_len (ob u d) 6 8
    rw [rowB, List.length_cons, List.length_cons] at h1
    omega
  go_wp2_with fail
  go_ret2
  exact ⟨s, rfl, HB.out⟩
set_option maxRecDepth 100000 in
theorem alike_yes {w : World} {s s' : Sl} {bs : List Nat} (h : Rd w s.p (byts bs)) (hl : bs.length = s.n) (ok : s.ok) (h' : Rd w s'.p (byts bs)) (hl' : bs.length = s'.n) (ok' : s'.ok) : Calls Tryz.prog 18 #[.slice s.p s.n s.c, .slice s'.p s'.n s'.c] w fun r w' => r = .returned (.bool true) ∧ w' = w := by
  have e1 := conv_bytes h hl ok
  have e2 := conv_bytes h' hl' ok'
  clear h hl ok h' hl' ok'
  go_enter Tryz.func18, Tryz.ntmps18
  go_wp2_with fail
  go_ret
  exact ⟨by first | rfl | simp, rfl⟩
theorem Wd.zr : Wd zr := ⟨rfl, by intro x hx; simp [ty.zr] at hx; omega⟩
def u5 : List Int := [5, 0, 0, 0, 0, 0, 0, 0]
theorem Wd.u5 : Wd u5 := ⟨rfl, by intro x hx; simp [ty.u5] at hx; omega⟩
set_option maxHeartbeats 4000000 in
set_option maxRecDepth 100000 in
theorem able_ok (w : World) : Calls Tryz.prog 9 #[] w fun r w' => r = .returned (.bool true) ∧ Apart [] w w' := by
  have HN := hid (new_ok w 1 (by omega) (by omega))
  obtain ⟨V, hVe⟩ : ∃ V, V = w.heap.size := ⟨_, rfl⟩
  obtain ⟨w1, hw1⟩ : ∃ W, W = w.alloc (.cells #[zb 1] 71) := ⟨_, rfl⟩
  have HV1 : Hid (Bd w1 V (.iface 101 (.agg (rv (zr ++ zr)).toArray))) := by unfold Hid; rw [hw1, hVe]; exact heap_alloc_new w _
  have HA1 : Hid (Apart [] w w1) := by unfold Hid; rw [hw1]; exact (Apart.refl [] w).alloc _
  have HL : Hid (w.heap.size ≤ V) := by unfold Hid; omega
  rw [← hw1, ← hVe] at HN
  clear hw1 hVe
  have HAdd : Hid (Calls Tryz.prog 15 #[.pointer (some ⟨V, 0, none⟩), .int .i64 0, .int .i64 5] w1 fun r w' => r = .returned (.int .i64 0) ∧ Bd w' V (.iface 101 (.agg (rv (u5 ++ zr)).toArray)) ∧ Apart [V] w1 w') :=
    hid (Add1_ok (.int .i64 0) (.int .i64 5) HV1.out (add_ok (w := w1) Wd.zr Wd.zr 0 (by omega) 5 (by omega) (by omega)))
  go_enter Tryz.func9, Tryz.ntmps9
  go_upto_region 2 with (go_at_call 14; refine HN.out.mono ?_; rintro _ _ ⟨rfl, rfl⟩)
  go_upto_region 4 with (first
    | (go_at_call 15; refine HAdd.out.mono ?_; rintro _ w2 ⟨rfl, v2, a2⟩; have HV2 := hid v2; have HA2 := hid a2; clear v2 a2; have HSum := hid (Sum1 HV2.out (sum_ok (w := w2) Wd.u5 Wd.zr)); have e5 : Hid (sumC u5 zr 8 = 5) := hid (by decide); rw [e5.out] at HSum)
    | (go_at_call 16; refine HSum.out.mono ?_; rintro _ w3 ⟨rfl, a3⟩; have HA3 := hid a3; clear a3))
  have HBy := hid (Bytes1 (w := w3) (keep0 HA3.out HV2.out) Wd.u5 Wd.zr)
  have e6 : (1 :: rowB (ob u5 zr) 6) = [1, 1, 5, 0, 0, 0, 0, 0] := by decide
  rw [e6] at HBy
  clear e6
  go_upto_region 5 with (go_at_call 17; refine HBy.out.mono ?_; rintro _ w4 ⟨s, rfl, b4⟩; have HB := hid b4; clear b4)
  obtain ⟨w5, hw5⟩ : ∃ W, W = w4.alloc (.cells #[.int .u8 1, .int .u8 1, .int .u8 5, .int .u8 0, .int .u8 0, .int .u8 0, .int .u8 0, .int .u8 0] 5) := ⟨_, rfl⟩
  have HA5 : Hid (Apart [] w4 w5) := by unfold Hid; rw [hw5]; exact (Apart.refl [] w4).alloc _
  have HR5 : Hid (Rd w5 (some ⟨w4.heap.size, 0, none⟩) (byts [1, 1, 5, 0, 0, 0, 0, 0])) := by
    unfold Hid
    intro _
    have hh : w5.heap[w4.heap.size]? = some (.cells (byts [1, 1, 5, 0, 0, 0, 0, 0]).toArray 5 (0, 0)) := by rw [hw5]; exact heap_alloc_new w4 _
    refine ⟨w4.heap.size, 0, rfl, lt_of_heap hh, fun j v hj => ?_⟩
    rw [Nat.zero_add, cell_of_row _ _ _ _ _ _ hh]
    simpa using hj
  have HAl := hid (alike_yes (w := w5) (s := s) (s' := ⟨some ⟨w4.heap.size, 0, none⟩, 8, 8⟩) (HB.out.nw.kept HA5.out).rd HB.out.len.symm HB.out.nw.ok HR5.out rfl (fun e => by cases e))
  have HFin : Hid (Apart [] w w5) := hid ((((HA1.out.trans' HA2.out (by intro y hy; simp at hy; rw [hy]; exact .inr HL.out)).trans HA3.out).trans HB.out.nw.ap).trans HA5.out)
  rw [hw5] at HAl HFin
  clear HA5 HR5 hw5
  go_wp2_with (go_at_call 18; refine HAl.out.mono ?_; rintro _ _ ⟨rfl, rfl⟩)
  go_wp2_with fail
  go_ret
  exact ⟨rfl, HFin.out⟩
end Go.Proofs.YtdbeeikjngnnnaaGreat.ty
namespace Go.Proofs.YtdbeeikjngnnnaaGreat.ty
open Go.ChangeShapes Go.WideShapes Go.ChangeAt Go.RowKit
set_option linter.unusedVariables false
set_option linter.unusedSimpArgs false
/-- a row that tells tags' numbers -/
structure Tr (ts : List Tg) (e : ByteArray) (b : List Int) : Prop where
  len : b.length = 8
  at' : ∀ a, a < 8 → b.getD a 0 = (numT ts e a : Int)
  le : ∀ a, a < 8 → numT ts e a ≤ 65535
def fil (b : List Int) (i : Nat) : List Int := b.take i ++ zr.drop i
theorem fil_len {b : List Int} (h : b.length = 8) {i : Nat} (hi : i ≤ 8) : (fil b i).length = 8 := by
  unfold fil
  rw [List.length_append, List.length_take, List.length_drop, h]
  have : zr.length = 8 := rfl
  omega
theorem fil_zero (b : List Int) : fil b 0 = zr := by simp [fil]
theorem fil_end {b : List Int} (h : b.length = 8) : fil b 8 = b := by
  unfold fil
  rw [List.take_of_length_le (by omega), List.drop_eq_nil_of_le (by decide), List.append_nil]
theorem fil_step {b : List Int} (h : b.length = 8) {i : Nat} (hi : i < 8) : (fil b i).set i (b.getD i 0) = fil b (i + 1) := by
  unfold fil
  have hz : zr.length = 8 := rfl
  have e1 : zr.drop i = zr[i]'(by omega) :: zr.drop (i + 1) := List.drop_eq_getElem_cons (by omega)
  have hb : i < b.length := by omega
  rw [List.set_append_right _ _ (by rw [List.length_take]; omega), List.length_take, Nat.min_eq_left (by omega), Nat.sub_self, e1, List.set_cons_zero, List.take_succ_eq_append_getElem hb, List.append_assoc, List.singleton_append]
  rw [List.getD_eq_getElem?_getD, List.getElem?_eq_getElem hb]
  rfl
theorem Tr.sm {ts : List Tg} {e : ByteArray} {b : List Int} (h : Tr ts e b) : Sm b := ⟨h.len, fun i hi => by have h1 := h.at' i hi; have h2 := h.le i hi; omega⟩
theorem zr_sm : Sm zr := ⟨rfl, fun i hi => by
  obtain rfl | rfl | rfl | rfl | rfl | rfl | rfl | rfl : i = 0 ∨ i = 1 ∨ i = 2 ∨ i = 3 ∨ i = 4 ∨ i = 5 ∨ i = 6 ∨ i = 7 := by omega
  all_goals decide⟩
theorem size60 : (Tryz.prog.info? 60).map (·.size) = some 8 := by kernel_rfl
theorem build60 (W : World) : (Instr.build 60 #[]).run Tryz.prog W = .ok (.agg (rv zr).toArray) W := by kernel_rfl
theorem ex_build60 {W : World} {eval : Operand → Value} {op : Oper} (ho : op.op = .build 60 #[]) : (execOp eval op).run Tryz.prog W = .ok (.value (.agg (rv zr).toArray)) W := by
  unfold execOp
  have e1 : (#[] : Array (Nat × Operand)).map (fun (i, x) => (i, eval x)) = #[] := by simp
  simp only [ho, e1, Sem.run_bind, build60 W, Sem.run_pure, Result.andThen_ok]
set_option maxHeartbeats 2000000 in
set_option maxRecDepth 100000 in
/-- the document's tags -/
theorem tags_ok {w : World} {O : Nat} {r : Rv} {s : Sl} (h : Dv w O r s) (hl : r.ts.length ≤ 1000000) {e : ByteArray} {b : List Int} (hb : Tr r.ts e b) : Calls Tryz.prog 59 #[.pointer (some ⟨O, 0, none⟩), .string e] w fun x w' => ∃ s', x = .returned (.slice s'.p s'.n s'.c) ∧ Bf w w' s' (rowD b zr 2 false) := by
  have HD := hid h
  have Hl := hid hl
  have HB := hid hb
  clear h hl hb
  obtain ⟨X, HX⟩ : ∃ X, Hid (X = w.heap.size) := ⟨_, hid rfl⟩
  obtain ⟨w1, Hw1⟩ : ∃ W, Hid (W = w.alloc (.cells (rv zr).toArray 60)) := ⟨_, hid rfl⟩
  have HA1 : Hid (Apart [] w w1) := hid (by rw [Hw1.out]; exact (Apart.refl [] w).alloc _)
  have HBX : Hid (w1.heap[X]? = some (.cells (rv zr).toArray 60 (0, 0))) := hid (by rw [HX.out, Hw1.out]; exact heap_alloc_new w _)
  have HXw : Hid (w.heap.size ≤ X) := hid (by rw [HX.out]; exact Nat.le_refl _)
  go_enter Tryz.func59, Tryz.ntmps59
  go_upto_region 2 with fail
  have e0 : (w.alloc (.cells #[.int .i64 0, .int .i64 0, .int .i64 0, .int .i64 0, .int .i64 0, .int .i64 0, .int .i64 0, .int .i64 0] 60)) = w1 := by rw [Hw1.out]; rfl
  rw [← HX.out]
  rw [e0]
  clear e0 Hw1 HX
  have HT := hid (fun (W : World) (hW : Apart [] w W) (a : Nat) => dnum_ok (HD.out.kept0 hW) Hl.out e a)
  go_wp2_with fail
  go_loopw [6] (fun v6 wt => ∃ i : Nat, v6 = .int .i64 (i : Int) ∧ i ≤ 8 ∧ Hid (Apart [] w wt) ∧ Hid (wt.heap[X]? = some (.cells (rv (fil b i)).toArray 60 (0, 0)))) (fun v6 _ => 8 - natV v6)
  case atStart => exact ⟨0, rfl, by omega, HA1, hid (by rw [fil_zero]; exact HBX.out)⟩
  case round =>
    clear HA1 HBX
    obtain ⟨i, rfl, hi, HA, HBX⟩ := hrel
    generalize wr = wt at *
    by_cases hlt : i < 8
    · have hlti : ((i : Nat) : Int) < 8 := by omega
      have h8 : ¬ (8 : Int) ≤ (i : Int) := by omega
      obtain ⟨x, Hx⟩ : ∃ x : Int, Hid (x = b.getD i 0) := ⟨_, hid rfl⟩
      have Hxn : Hid ((numT r.ts e i : Int) = x) := hid (by rw [Hx.out]; exact (HB.out.at' i hlt).symm)
      obtain ⟨y, Hy⟩ : ∃ x : Int, Hid (x = (fil b i).getD i 0) := ⟨_, hid rfl⟩
      go_wp2_with (go_at_call 57; refine (HT.out wt HA.out i).mono ?_; rintro _ w3 ⟨rfl, a3⟩; have HBX3 := hid (keep0 a3 HBX.out); have HA3 := hid (HA.out.trans a3); clear a3; rw [Hxn.out]; have z3 : w3.cell? ⟨X, i, none⟩ = some (.int .i64 y) := (by rw [Hy.out]; exact rcell HBX3.out (fil_len HB.out.len hi) hlt); have f3 : w3.frozen? ⟨X, i, none⟩ = false := frozen_of_row _ _ _ _ _ HBX3.out)
      refine ⟨⟨i + 1, by go_num, by omega, hid (HA3.out.setCell (.inr HXw.out) _), hid ?_⟩, by simp [natV]; omega⟩
      have h1 := heap_setCell_same w3 X i _ 60 (.int .i64 x) HBX3.out
      rw [List.setIfInBounds_toArray, rv_set, Hx.out, fil_step HB.out.len hlt, ← Hx.out] at h1
      exact h1
    · have hlti : ¬ ((i : Nat) : Int) < 8 := by omega
      obtain rfl : i = 8 := by omega
      rw [fil_end HB.out.len] at HBX
      have HR := hid (fun (W : World) => drow_ok (w := W) HB.out.sm zr_sm (size := 2) (by omega) false)
      have hln : (rv b).toArray.size = 8 := by simp [rv_len, HB.out.len]
      go_wp2_with (first
        | refine wpList_load_row rfl 60 _ rfl X rfl 60 _ (0, 0) _ HBX.out Tryz.underlying60 rfl (by rw [size60]; simp [rv_len, HB.out.len]) ?_
        | refine wpL_val rfl (.agg (rv zr).toArray) (ex_build60 rfl) ?_
        | (go_at_call 58; refine (HR.out wt).mono ?_; rintro _ w3 ⟨s3, rfl, b3⟩; have HB3 := hid b3; clear b3))
      go_ret
      exact ⟨s3, rfl, ⟨⟨HB3.out.nw.own, fun k hk => Nat.le_trans HA.out.size (HB3.out.nw.new k hk), HA.out.trans HB3.out.nw.ap⟩, HB3.out.len⟩⟩
end Go.Proofs.YtdbeeikjngnnnaaGreat.ty
namespace Go.Proofs.YtdbeeikjngnnnaaGreat.ty
open Go.ChangeShapes Go.WideShapes Go.ChangeAt Go.RowKit
set_option linter.unusedVariables false
set_option linter.unusedSimpArgs false
theorem mkD_eq (u : List Int) (p : Nat → Bool) (hp : ∀ i, i < 8 → (p i = true ↔ 0 < u.getD i 0)) : ∀ i, i ≤ 8 → mkD p i = mk8 u i
  | 0, _ => rfl
  | i + 1, h => by
    have h1 := mkD_eq u p hp i (by omega)
    unfold mkD mk8
    by_cases hpi : p i = true
    · have h2 := (hp i (by omega)).1 hpi
      rw [if_pos hpi, if_pos h2, h1]
      have h3 := Nat.two_pow_add_eq_or_of_lt (mk8_lt u i) 1
      rw [Nat.mul_one] at h3
      rw [Nat.or_comm, ← h3, Nat.add_comm]
    · rw [if_neg hpi, if_neg (fun k => hpi ((hp i (by omega)).2 k)), h1]
theorem nbD_eq (u : List Int) (wd : Nat) (p : Nat → Bool) (f : Nat → List Nat) (hp : ∀ i, i < 8 → (p i = true ↔ 0 < u.getD i 0)) (hf : ∀ i, i < 8 → f i = leB (u.getD i 0).toNat wd) : ∀ i, i ≤ 8 → nbD p f i = nb8 u wd i
  | 0, _ => rfl
  | i + 1, h => by
    have h1 := nbD_eq u wd p f hp hf i (by omega)
    unfold nbD nb8
    by_cases hpi : p i = true
    · have h2 := (hp i (by omega)).1 hpi
      rw [if_pos hpi, if_pos h2, h1, hf i (by omega)]
    · rw [if_neg hpi, if_neg (fun k => hpi ((hp i (by omega)).2 k)), h1]
theorem zrD8 (i : Nat) (hi : i < 8) : zr.getD i 0 = 0 := by
  obtain rfl | rfl | rfl | rfl | rfl | rfl | rfl | rfl : i = 0 ∨ i = 1 ∨ i = 2 ∨ i = 3 ∨ i = 4 ∨ i = 5 ∨ i = 6 ∨ i = 7 := by omega
  all_goals rfl
/-- a row of one kind -/
theorem rowD_one (u : List Int) : rowD u zr 2 false = rowB u 2 := by
  have hp : ∀ i, i < 8 → (inD u zr i = true ↔ 0 < u.getD i 0) := fun i hi => by
    unfold inD
    rw [zrD8 i hi]
    simp
  unfold rowD rowB
  rw [mkD_eq u _ hp 8 (by omega), nbD_eq u 2 _ _ hp (fun i hi => by unfold nuD; rw [if_neg (by simp), List.append_nil]) 8 (by omega)]
theorem dob_at {a b : List Int} (ha : a.length = 8) (hb : b.length = 8) {i : Nat} (hi : i < 8) : (ob a b).getD i 0 = ors (a.getD i 0) (b.getD i 0) := by
  have e1 : a[i]? = some (a.getD i 0) := by simp [ha, hi]
  have e2 : b[i]? = some (b.getD i 0) := by simp [hb, hi]
  rw [List.getD_eq_getElem?_getD, ob, List.getElem?_zipWith, e1, e2]
  rfl
theorem dors_eq {x y : Nat} (hx : x ≤ 16777215) (hy : y ≤ 16777215) : ors (x : Int) (y : Int) = ((16777216 * y + x : Nat) : Int) := by
  unfold ors
  have h1 := Nat.two_pow_add_eq_or_of_lt (show x < 2 ^ 24 by omega) y
  have e1 : ((y : Int) * 16777216).toNat = 2 ^ 24 * y := by omega
  rw [e1, Int.toNat_natCast, Nat.or_comm, ← h1]
theorem leB_two {x y : Nat} (hx : x ≤ 16777215) (hy : y ≤ 16777215) : leB (16777216 * y + x) 6 = leB x 3 ++ leB y 3 := by
  simp only [leB, List.nil_append, List.cons_append]
  congr 1
  · omega
  · congr 1
    · omega
    · congr 1
      · omega
      · congr 1
        · omega
        · congr 1
          · omega
          · congr 1
            omega
/-- a row of both -/
theorem rowD_two {u d : List Int} (hu : Wd u) (hd : Wd d) : rowD u d 3 true = rowB (ob u d) 6 := by
  have key : ∀ i, i < 8 → ∃ x y : Nat, u.getD i 0 = (x : Int) ∧ d.getD i 0 = (y : Int) ∧ x ≤ 16777215 ∧ y ≤ 16777215 ∧ (ob u d).getD i 0 = ((16777216 * y + x : Nat) : Int) := fun i hi => by
    have h1 := hu.at i hi
    have h2 := hd.at i hi
    refine ⟨(u.getD i 0).toNat, (d.getD i 0).toNat, by omega, by omega, by omega, by omega, ?_⟩
    rw [dob_at hu.1 hd.1 hi]
    have e1 : u.getD i 0 = (((u.getD i 0).toNat : Nat) : Int) := by omega
    have e2 : d.getD i 0 = (((d.getD i 0).toNat : Nat) : Int) := by omega
    rw [e1, e2]
    simp only [Int.toNat_natCast]
    exact dors_eq (by omega) (by omega)
  have hp : ∀ i, i < 8 → (inD u d i = true ↔ 0 < (ob u d).getD i 0) := fun i hi => by
    obtain ⟨x, y, e1, e2, _, _, e3⟩ := key i hi
    unfold inD
    rw [e1, e2, e3]
    simp only [Bool.or_eq_true, decide_eq_true_eq]
    omega
  unfold rowD rowB
  rw [mkD_eq _ _ hp 8 (by omega), nbD_eq (ob u d) 6 _ _ hp (fun i hi => by
    obtain ⟨x, y, e1, e2, h1, h2, e3⟩ := key i hi
    unfold nuD
    rw [if_pos rfl, e1, e2, e3]
    simp only [Int.toNat_natCast]
    exact (leB_two h1 h2).symm) 8 (by omega)]
theorem Wd.sm {u : List Int} (h : Wd u) : Sm u := ⟨h.1, fun i hi => by have := h.at i hi; omega⟩
end Go.Proofs.YtdbeeikjngnnnaaGreat.ty
namespace Go.Proofs.YtdbeeikjngnnnaaGreat.ty
open Go.ChangeShapes Go.WideShapes Go.ChangeAt Go.RowKit
set_option linter.unusedVariables false
set_option linter.unusedSimpArgs false
theorem RdT.tk {w w' : World} {p : Option Addr} {t : Nat} {us : List Value} {ts : List Nat} (h : RdT w p t us) (k : TK ts w w') (ht : t ∉ ts) : RdT w' p t us := by
  obtain ⟨Z, a, hz⟩ := k
  refine h.kept a (fun k hk cur m e => ?_)
  obtain ⟨cu, t', ht', hh⟩ := hz k hk
  rw [hh] at e
  simp only [Option.some.injEq, Obj.cells.injEq] at e
  exact ht (e.2.1 ▸ ht')
def svs (l : List Sl) : List Value := l.map fun b => Value.slice b.p b.n b.c
theorem info22 : (Tryz.prog.info? 29).map (fun i => (i.zero, i.size, i.bytes)) = some (some (.slice none 0 0), 1, 24) := by kernel_rfl
theorem app_elem {w W : World} {s : Sl} {l : List Sl} (h : Nw w W 29 1 s (svs l)) (b : Sl) (hl : s.n + 1 ≤ 1000000) :
    ∃ s' W', (Builtin.append_ #[46, 46] 46 #[.slice s.p s.n s.c, .slice (some ⟨W.heap.size, 0, none⟩) 1 1]).run Tryz.prog (W.alloc (Obj.cells #[.slice b.p b.n b.c] 29)) = .ok (.slice s'.p s'.n s'.c) W' ∧ Nw w W' 29 1 s' (svs (l ++ [b])) ∧ s'.n = s.n + 1 ∧ TK [29] W W' := by
  obtain ⟨i0, hif, hz0, hz1, hz2⟩ := info_of info22
  obtain ⟨s5, w5, hrun, hnw5, hs5, ap5, -⟩ := run_appM (s := s) 46 46 29 i0 _ 1 24 Tryz.underlying46 hif hz0 hz1 hz2 rfl (by decide) h 1 (svs [b]) (by decide) rfl (by intro u hu; simp [svs] at hu; subst hu; rfl) (by unfold maxLen; omega) (by omega)
  exact ⟨s5, w5, hrun, by unfold svs at *; rw [List.map_append]; exact hnw5, hs5, TK.own h ap5 (by simp)⟩
end Go.Proofs.YtdbeeikjngnnnaaGreat.ty
namespace Go.Proofs.YtdbeeikjngnnnaaGreat.ty
open Go.ChangeShapes Go.WideShapes Go.ChangeAt Go.RowKit
set_option linter.unusedVariables false
set_option linter.unusedSimpArgs false
theorem strB_data (bs : List Nat) : (strB bs).data.toList = bs.map UInt8.ofNat := by
  unfold strB
  have : ∀ (l : List Int) (r : ByteArray), (l.foldl (fun r n => r.push (UInt8.ofNat n.toNat)) r).data.toList = r.data.toList ++ l.map (fun n => UInt8.ofNat n.toNat) := by
    intro l
    induction l with
    | nil => intro r; simp
    | cons a l ih => intro r; rw [List.foldl_cons, ih, ByteArray.data_push]; simp
  rw [this]
  simp [List.map_map, Function.comp_def]
end Go.Proofs.YtdbeeikjngnnnaaGreat.ty
