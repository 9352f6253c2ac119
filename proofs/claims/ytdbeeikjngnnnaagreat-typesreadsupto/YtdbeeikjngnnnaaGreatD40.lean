import Derived.Test.YtdbeeikjngnnnaaGreatChecked
import Derived.WalkKit
import Derived.ProofKit
import Derived.OpenShut
import Derived.Deep.QuietTactic
import Derived.BigQuiet
import Derived.BigRegion
import Derived.Laws.CopyOwn
import Derived.Laws.IdiomCopy
import Derived.WalkSmall
import Derived.Laws.ResultCell
import Derived.Laws.AppendOwnNone
import Derived.Deep.RegionHeld
import Derived.Deep.DeepAppendRoom
import Derived.Great.BuildSlice
import Derived.Deep.CutBlock
import Derived.Deep.RegionLaw
import Derived.ArgAppend
import Derived.Laws.Strings
import Derived.Laws.StructEq
import Derived.Below
import Derived.Deep.MidRow
import Derived.Great.Ranges
import Derived.Deep.RegionHeld3
import Derived.Laws.NewBlocks
import Derived.OrdersHeld
import Derived.Stop.BytesEq
import Derived.Laws.BytesString
import Derived.Lib.ConvBytes
import Derived.Laws.BitsAllLaws
import Derived.WalkLawsBesides
import Derived.Lib.Bytealg
import Derived.Laws.Externs
import Derived.Lib.SliceRun
import Derived.Lib.AppendZerosOnto
import Derived.Lib.AppendStr
import Derived.Lib.SlBytesConst
import Derived.Sort.Walk0
import Derived.Laws.Cover1
import Derived.Lib.Strings
import Derived.Lib.MinMaxS
import GoSem.Claim
import GoSem.ClaimJoined
import GoSem.ClaimMapViews
import Derived.JoinedTies
import Derived.KernelRfl
import Derived.JoinedCond
import Derived.ShutString
import Derived.ChangeOld
import Derived.Carry
import Derived.ChangeSlices
import Derived.Deep.Slices
import Derived.Deep.DeepHandedRow
import Derived.RowKit
import Derived.ChangeShapes
import Derived.SizedLaws
import Derived.ChangeMaps5
import Derived.Sort.WalkA
import Derived.Test.YtdbeeikjngnnnaaGreatRows
import Derived.Test.YtdbeeikjngnnnaaGreatD26
namespace Go.Proofs.YtdbeeikjngnnnaaGreat.ty
open Go.ChangeShapes Go.WideShapes Go.ChangeAt Go.RowKit
set_option linter.unusedVariables false
set_option linter.unusedSimpArgs false
/-- the table while it is being filled -/
structure Bg (wB w : World) (T k n : Nat) (p r : Nat → Nat) : Prop where
  blk : w.heap[T]? = some (.cells (tbG k (fun i => if i < n then ptV (p i) else .pointer none) (fun i => if i < n then ptV (r i) else .pointer none) ⟨none, 0, 0⟩ ⟨none, 0, 0⟩).toArray 49 (0, 0))
  tn : wB.heap.size ≤ T
  pn : ∀ i, i < n → wB.heap.size ≤ p i ∧ p i < w.heap.size
  rn : ∀ i, i < n → wB.heap.size ≤ r i ∧ r i < w.heap.size
  pd : ∀ i j, i < n → j < n → i ≠ j → p i ≠ p j
  rd : ∀ i j, i < n → j < n → i ≠ j → r i ≠ r j
  pv : ∀ i, i < n → Ho w (p i) (new0 k)
  rv : ∀ i, i < n → Dk w (r i) (rv0 k) ⟨none, 0, 0⟩
  ap : Apart [] wB w
theorem dk0 {w : World} {O k : Nat} (h : Dv w O (rv0 k) ⟨none, 0, 0⟩) : Dk w O (rv0 k) ⟨none, 0, 0⟩ := ⟨h, fun h0 => by simp [rv0] at h0⟩
theorem Bg.kept0 {wB w w' : World} {T k n : Nat} {p r : Nat → Nat} (b : Bg wB w T k n p r) (a : Apart [] w w') : Bg wB w' T k n p r := ⟨keep0 a b.blk, b.tn, fun i hi => ⟨(b.pn i hi).1, Nat.lt_of_lt_of_le (b.pn i hi).2 a.size⟩, fun i hi => ⟨(b.rn i hi).1, Nat.lt_of_lt_of_le (b.rn i hi).2 a.size⟩, b.pd, b.rd, fun i hi => (b.pv i hi).kept0 a, fun i hi => (b.rv i hi).kept0 a, b.ap.trans a⟩
theorem Bg.start (wB : World) (k : Nat) : Bg wB (wB.alloc (.cells (tbG k (fun _ => .pointer none) (fun _ => .pointer none) ⟨none, 0, 0⟩ ⟨none, 0, 0⟩).toArray 49)) wB.heap.size k 0 (fun _ => 0) (fun _ => 0) := ⟨heap_alloc_new wB _, Nat.le_refl _, fun i hi => by omega, fun i hi => by omega, fun i j hi => by omega, fun i j hi => by omega, fun i hi => by omega, fun i hi => by omega, (Apart.refl [] wB).alloc _⟩
theorem tbG_set (k : Nat) (P R : Nat → Value) (sH sL : Sl) {n : Nat} (hn : n < 4) (a b : Value) : ((tbG k P R sH sL).set (1 + n) a).set (5 + n) b = tbG k (fun i => if i = n then a else P i) (fun i => if i = n then b else R i) sH sL := by
  obtain rfl | rfl | rfl | rfl : n = 0 ∨ n = 1 ∨ n = 2 ∨ n = 3 := by omega
  all_goals rfl
/-- one more pair -/
theorem Bg.more {wB w w1 w2 : World} {T k n V O : Nat} {p r : Nat → Nat} (b : Bg wB w T k n p r) (hn : n < 4) (hV : w.heap.size ≤ V) (hO : w1.heap.size ≤ O) (a1 : Apart [] w w1) (a2 : Apart [] w1 w2) (pv : Ho w1 V (new0 k)) (rv : Dv w2 O (rv0 k) ⟨none, 0, 0⟩) : Bg wB ((w2.setCell ⟨T, 1 + n, none⟩ (ptV V)).setCell ⟨T, 5 + n, none⟩ (ptV O)) T k (n + 1) (fun i => if i = n then V else p i) (fun i => if i = n then O else r i) := by
  have a := a1.trans a2
  have b2 := b.kept0 a
  have hT := lt_of_heap b.blk
  have aT : Apart [T] w2 ((w2.setCell ⟨T, 1 + n, none⟩ (ptV V)).setCell ⟨T, 5 + n, none⟩ (ptV O)) := ((Apart.refl [T] w2).setCell (.inl (by simp)) _).setCell (.inl (by simp)) _
  have hb : ((w2.setCell ⟨T, 1 + n, none⟩ (ptV V)).setCell ⟨T, 5 + n, none⟩ (ptV O)).heap[T]? = some (.cells (tbG k (fun i => if i < n + 1 then ptV (if i = n then V else p i) else .pointer none) (fun i => if i < n + 1 then ptV (if i = n then O else r i) else .pointer none) ⟨none, 0, 0⟩ ⟨none, 0, 0⟩).toArray 49 (0, 0)) := by
    have h1 := heap_setCell_same w2 T (1 + n) _ 49 (ptV V) b2.blk
    have h2 := heap_setCell_same _ T (5 + n) _ 49 (ptV O) h1
    rw [h2, List.setIfInBounds_toArray, List.setIfInBounds_toArray, tbG_set _ _ _ _ _ hn]
    have e : ∀ (f : Nat → Nat) (x : Nat), (fun i => if i = n then ptV x else if i < n then ptV (f i) else Value.pointer none) = fun i => if i < n + 1 then ptV (if i = n then x else f i) else .pointer none := fun f x => by
      funext i
      by_cases c : i = n
      · rw [if_pos c, if_pos (by omega), if_pos c]
      · rw [if_neg c]
        by_cases d : i < n
        · rw [if_pos d, if_pos (by omega), if_neg c]
        · rw [if_neg d, if_neg (by omega)]
    rw [e p V, e r O]
  have hX : ∀ {ty : Nat}, ty ≠ 49 → ∀ q ∈ [T], ∀ cur m, w2.heap[q]? ≠ some (.cells cur ty m) := fun {ty} h q hq cur m e => by
    rw [List.mem_singleton.1 hq, b2.blk] at e
    simp only [Option.some.injEq, Obj.cells.injEq] at e
    exact h e.2.1.symm
  have hsz := aT.size
  have hsz1 := a1.size
  have hsz2 := a2.size
  have hV2 : V < w1.heap.size := by
    obtain ⟨b0, hb0⟩ := pv.bd
    exact lt_of_heap (show w1.heap[V]? = _ from hb0)
  have hO2 : O < w2.heap.size := lt_of_heap rv.blk
  have pvT : ∀ {V' : Nat}, Ho w2 V' (new0 k) → Ho ((w2.setCell ⟨T, 1 + n, none⟩ (ptV V)).setCell ⟨T, 5 + n, none⟩ (ptV O)) V' (new0 k) := fun {V'} h => h.keptX aT (fun hm => by
    obtain ⟨b0, hb0⟩ := h.bd
    have e : w2.heap[V']? = _ := hb0
    rw [List.mem_singleton.1 hm, b2.blk] at e
    simp at e) (hX (by decide))
  have rvT : ∀ {O' : Nat}, Dk w2 O' (rv0 k) ⟨none, 0, 0⟩ → Dk ((w2.setCell ⟨T, 1 + n, none⟩ (ptV V)).setCell ⟨T, 5 + n, none⟩ (ptV O)) O' (rv0 k) ⟨none, 0, 0⟩ := fun {O'} h => h.other aT (fun hm => by
    have e := h.dv.blk
    rw [List.mem_singleton.1 hm, b2.blk] at e
    simp at e) (hX (by decide))
  have hwB := b.ap.size
  refine ⟨hb, b.tn, fun i hi => ?_, fun i hi => ?_, fun i j hi hj hij => ?_, fun i j hi hj hij => ?_, fun i hi => ?_, fun i hi => ?_, b2.ap.trans' aT (fun y hy => by rw [List.mem_singleton.1 hy]; exact .inr b.tn)⟩
  · by_cases c : i = n
    · rw [if_pos c]; omega
    · rw [if_neg c]
      have := b.pn i (by omega)
      omega
  · by_cases c : i = n
    · rw [if_pos c]; omega
    · rw [if_neg c]
      have := b.rn i (by omega)
      omega
  · by_cases c : i = n
    · rw [if_pos c, if_neg (by omega)]
      have := b.pn j (by omega)
      omega
    · rw [if_neg c]
      by_cases d : j = n
      · rw [if_pos d]
        have := b.pn i (by omega)
        omega
      · rw [if_neg d]; exact b.pd i j (by omega) (by omega) hij
  · by_cases c : i = n
    · rw [if_pos c, if_neg (by omega)]
      have := b.rn j (by omega)
      omega
    · rw [if_neg c]
      by_cases d : j = n
      · rw [if_pos d]
        have := b.rn i (by omega)
        omega
      · rw [if_neg d]; exact b.rd i j (by omega) (by omega) hij
  · by_cases c : i = n
    · rw [if_pos c]; exact pvT (pv.kept0 a2)
    · rw [if_neg c]; exact pvT (b2.pv i (by omega))
  · by_cases c : i = n
    · rw [if_pos c]; exact rvT (dk0 rv)
    · rw [if_neg c]; exact rvT (b2.rv i (by omega))
theorem Bg.tb {wB w : World} {T k : Nat} {p r : Nat → Nat} (h1 : 1 ≤ k) (h4 : k ≤ 4) (b : Bg wB w T k 4 p r) : Tb wB w T k p r (fun _ => new0 k) (fun _ => []) [] [] ⟨none, 0, 0⟩ ⟨none, 0, 0⟩ (fun _ => False) := by
  refine ⟨b.blk, b.tn, fun i hi => (b.pn i hi).1, fun i hi => (b.rn i hi).1, b.pd, b.rd, b.pv, fun i hi => ⟨⟨none, 0, 0⟩, by rw [rvO_new h1 h4]; exact b.rv i hi⟩, fun i hi => Iv.new h1 h4, fun i hi => kd_new0 k h1 h4, fun i hi => Rl.new h1 h4, ⟨World.ownsRow_nil _ _ _ _, by simp [Sl.v, Value.ownBlock], b.ap⟩, rfl, ⟨World.ownsRow_nil _ _ _ _, by simp [Sl.v, Value.ownBlock], b.ap⟩, rfl, fun i x hx => by simp at hx, fun i x hx => by simp at hx, fun P hP => hP.elim, ⟨0, rfl⟩⟩
theorem build49 (k : Nat) (W : World) : (Instr.build 49 #[(0, .int .i64 (k : Int))]).run Tryz.prog W = .ok (.agg (tbG k (fun _ => .pointer none) (fun _ => .pointer none) ⟨none, 0, 0⟩ ⟨none, 0, 0⟩).toArray) W := by kernel_rfl
set_option maxHeartbeats 4000000 in
set_option maxRecDepth 100000 in
/-- begin -/
theorem begin_ok (w : World) (k : Nat) (h1 : 1 ≤ k) (h4 : k ≤ 4) : Calls Tryz.prog 10 #[.int .i64 (k : Int)] w fun x w' => ∃ T p r, x = .returned (.tuple #[.pointer (some ⟨T, 0, none⟩), .bool true]) ∧ Tb w w' T k p r (fun _ => new0 k) (fun _ => []) [] [] ⟨none, 0, 0⟩ ⟨none, 0, 0⟩ (fun _ => False) := by
  have H1 := hid h1
  have H4 := hid h4
  have hbd := build49 k w
  obtain ⟨T, HTe⟩ : ∃ T, Hid (T = w.heap.size) := ⟨_, hid rfl⟩
  obtain ⟨w1, Hw1⟩ : ∃ W, Hid (W = w.alloc (.cells (tbG k (fun _ => .pointer none) (fun _ => .pointer none) ⟨none, 0, 0⟩ ⟨none, 0, 0⟩).toArray 49)) := ⟨_, hid rfl⟩
  have HB0 : Hid (Bg w w1 T k 0 (fun _ => 0) (fun _ => 0)) := hid (by rw [HTe.out, Hw1.out]; exact Bg.start w k)
  clear h1 h4
  go_enter Tryz.func10, Tryz.ntmps10
  go_upto_region 3 with fail
  have e0 : w.alloc (.cells #[.int .i64 (k : Int), .pointer none, .pointer none, .pointer none, .pointer none, .pointer none, .pointer none, .pointer none, .pointer none, .slice none 0 0, .slice none 0 0] 49) = w1 := by rw [Hw1.out]; rfl
  rw [← HTe.out, e0]
  clear Hw1 HTe hbd e0
  go_loopw [5] (fun v5 wt => ∃ (n : Nat) (p r : Nat → Nat), v5 = .int .i64 (n : Int) ∧ n ≤ 4 ∧ Hid (Bg w wt T k n p r)) (fun v5 _ => 4 - natV v5)
  case atStart => exact ⟨0, _, _, rfl, by omega, HB0⟩
  case round =>
    clear HB0
    obtain ⟨n, p, r, rfl, hn, HB⟩ := hrel
    generalize wr = wt at *
    by_cases hlt : n < 4
    · have hlti : ((n : Nat) : Int) < 4 := by omega
      have h4' : ¬ (4 : Int) ≤ (n : Int) := by omega
      have HN := hid (new_ok wt k H1.out H4.out)
      obtain ⟨V, HVe⟩ : ∃ V, Hid (V = wt.heap.size) := ⟨_, hid rfl⟩
      obtain ⟨w2, Hw2⟩ : ∃ W, Hid (W = wt.alloc (.cells #[zb k] 71)) := ⟨_, hid rfl⟩
      have HV2 : Hid (Ho w2 V (new0 k)) := hid (by rw [HVe.out, Hw2.out]; exact Ho.new wt k H1.out H4.out)
      have HA2 : Hid (Apart [] wt w2) := hid (by rw [Hw2.out]; exact (Apart.refl [] wt).alloc _)
      have HVn : Hid (wt.heap.size ≤ V) := hid (by rw [HVe.out]; exact Nat.le_refl _)
      rw [← HVe.out, ← Hw2.out] at HN
      clear Hw2 HVe
      have HRn := hid (rnew_ok w2 k H1.out H4.out)
      go_upto_region 7 with (first
        | (go_at_call 14; refine HN.out.mono ?_; rintro _ wn ⟨rfl, hwn⟩; rw [hwn]; clear hwn)
        | (go_at_call 19
           refine HRn.out.mono ?_
           rintro _ w3 ⟨O, rfl, hO, d3, a3⟩
           have HO := hid hO
           have HD3 := hid d3
           have HA3 := hid a3
           clear hO d3 a3))
      have HBg := hid (HB.out.more hlt HVn.out HO.out HA2.out HA3.out HV2.out HD3.out)
      have HB3 := hid (HB.out.kept0 (HA2.out.trans HA3.out))
      have z1 : w3.cell? ⟨T, 1 + n, none⟩ = some (if n < n then ptV (p n) else .pointer none) := dcell HB3.out.blk (tb_p _ _ _ _ _ hlt)
      have f1 : w3.frozen? ⟨T, 1 + n, none⟩ = false := frozen_of_row _ _ _ _ _ HB3.out.blk
      have hb4 := heap_setCell_same w3 T (1 + n) _ 49 (ptV V) HB3.out.blk
      have HB4 := hid hb4
      clear hb4
      obtain ⟨x5, z5⟩ : ∃ x, (w3.setCell ⟨T, 1 + n, none⟩ (.pointer (some ⟨V, 0, none⟩))).cell? ⟨T, 5 + n, none⟩ = some x := by
        have e := cell_of_row _ _ (5 + n) _ _ _ HB4.out
        have e2 : (w3.setCell ⟨T, 1 + n, none⟩ (ptV V)).cell? ⟨T, 5 + n, none⟩ = some _ := e.trans (Array.getElem?_eq_getElem (by simp [tbG]; omega))
        exact ⟨_, e2⟩
      have f5 : (w3.setCell ⟨T, 1 + n, none⟩ (.pointer (some ⟨V, 0, none⟩))).frozen? ⟨T, 5 + n, none⟩ = false := frozen_of_row _ _ _ _ _ HB4.out
      go_wp2_with fail
      exact ⟨⟨n + 1, _, _, by go_num, by omega, HBg⟩, by simp [natV]; omega⟩
    · have hlti : ¬ ((n : Nat) : Int) < 4 := by omega
      obtain rfl : n = 4 := by omega
      go_wp2_with fail
      go_ret2
      exact ⟨T, rfl, p, r, HB.out.tb H1.out H4.out⟩
set_option maxRecDepth 100000 in
theorem begin_no (w : World) (k : Int) (hk : ¬ (1 ≤ k ∧ k ≤ 4)) : Calls Tryz.prog 10 #[.int .i64 k] w fun x w' => x = .returned (.tuple #[.pointer none, .bool true]) ∧ Apart [] w w' := by
  have HN := hid (fun W : World => new_none W k hk)
  have HR := hid (fun W : World => rnew_no W k hk)
  clear hk
  obtain ⟨w1, Hw1⟩ : ∃ W, Hid (W = w.alloc (.cells #[.int .i64 k, .pointer none, .pointer none, .pointer none, .pointer none, .pointer none, .pointer none, .pointer none, .pointer none, .slice none 0 0, .slice none 0 0] 49)) := ⟨_, hid rfl⟩
  have HA1 : Hid (Apart [] w w1) := hid (by rw [Hw1.out]; exact (Apart.refl [] w).alloc _)
  go_enter Tryz.func10, Tryz.ntmps10
  go_upto_region 3 with fail
  rw [← Hw1.out]
  clear Hw1
  go_loopw [5] (fun v5 wt => Hid (v5 = .int .i64 0) ∧ Hid (Apart [] w wt)) (fun v5 _ => 0)
  case atStart => exact ⟨hid rfl, HA1⟩
  case round =>
    obtain ⟨Hv, HA⟩ := hrel
    obtain rfl := Hv.out
    generalize wr = wt at *
    go_wp2_with (first
      | (go_at_call 14; refine (HN.out wt).mono ?_; rintro _ wn ⟨rfl, hwn⟩; rw [hwn]; clear hwn)
      | (go_at_call 19; refine (HR.out wt).mono ?_; rintro _ wn ⟨rfl, hwn⟩; rw [hwn]; clear hwn))
    go_ret2
    exact ⟨rfl, HA.out⟩
end Go.Proofs.YtdbeeikjngnnnaaGreat.ty
