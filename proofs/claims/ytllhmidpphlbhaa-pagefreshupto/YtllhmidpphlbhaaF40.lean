import Derived.Deep.RegionHeld
import Derived.OrdersHeld
import Derived.WalkKit
import Derived.ProofKit
import Derived.Lib.TrailingZeros
import Derived.Test.YtllhmidpphlbhaaChecked
import Derived.OpenShut
import Derived.Deep.QuietTactic
import Derived.BigQuiet
import Derived.BigRegion
import Derived.Laws.CopyOwn
import Derived.Laws.Bits64b
import Derived.Laws.MathBits
import Derived.Laws.ShiftsVarLaws
import Derived.WalkSmall
import Derived.Laws.ResultCell
import Derived.Lib.BitFns
import Derived.Laws.StructEq
import Derived.ArgAppend
import Derived.Deep.RegionLaw
import Derived.Deep.DeepAppendRoom
import Derived.Sort.WalkA
import Derived.Laws.Strings
import Derived.Deep.CutBlock
import Derived.Great.BuildSlice
import Derived.Laws.AppendOwnNone
import Derived.Lib.Overlaps
import Derived.Lib.AppendZerosOnto
import Derived.Laws.NewBlocks
import Derived.Laws.Externs
import Derived.Laws.IdiomCopy
import Derived.Laws.BytesString
import Derived.Deep.CutRange
import Derived.RangeFuncNested
import Derived.RangeFuncBound
import Derived.RangeFuncCalls
import Derived.RangeFuncLeaves
import Derived.Shelf.Abstract
import Derived.Shelf.RegionOpen
import Derived.OwnWalkIn
import Derived.TacticsInMore
import Derived.LoopNIn
import Derived.LoopIn
import GoSem.Claim
import GoSem.ClaimJoined
import GoSem.ClaimMapViews
import Derived.JoinedTies
import Derived.KernelRfl
import Derived.Deep.OwnRows
import Derived.Lib.LaidTab
import Derived.JoinedCond
import Derived.ShutString
import Derived.ChangeOld
import Derived.Below
import Derived.Carry
import Derived.ChangeSlices
import Derived.Deep.Slices
import Derived.Deep.DeepHandedRow
import Derived.RowKit
import Derived.ChangeShapes
import Derived.SizedLaws
import Derived.ChangeMaps5
import Derived.Lib.Walk
import Derived.Lib.SliceRun
import Derived.Lib.AppendStr
import Derived.Lib.ConvBytes
import Derived.Deep.RegionHeld3
import Derived.Deep.MidRow
import Derived.Laws.MakeOwn
import Derived.Lib.SlBytesConst
import Derived.Test.YtllhmidpphlbhaaRows
import Derived.Test.YtllhmidpphlbhaaF33
import Derived.Test.YtllhmidpphlbhaaF39
namespace Go.Proofs.Ytllhmidpphlbhaa.ds
open Go.ChangeShapes Go.WideShapes Go.ChangeAt Go.RowKit Go.Sort
set_option linter.unusedVariables false
set_option linter.unusedSimpArgs false
theorem tsl_rd {w : World} {P o : Nat} {B : List Nat} (h : Rd w (some ⟨P, o, none⟩) (byts B)) (hl : B.length = 2048) {b n : Nat} (hb : b + n ≤ 2048) : Rd w (some ⟨P, if n = 0 then o else o + b, none⟩) (byts ((B.drop b).take n)) ∧ ((B.drop b).take n).length = n := by
  have hlen : ((B.drop b).take n).length = n := by rw [List.length_take, List.length_drop]; omega
  refine ⟨fun h0 => ?_, hlen⟩
  rw [byts_len, hlen] at h0
  obtain ⟨P', o', e, hP, hc⟩ := h (by rw [byts_len]; omega)
  simp at e
  obtain ⟨rfl, rfl⟩ := e
  refine ⟨P, o + b, by rw [if_neg (by omega)], hP, fun j u hj => ?_⟩
  have := hc (b + j) u (by
    rw [byts, List.getElem?_map] at hj ⊢
    have hjn : j < n := by
      by_cases hq : j < n
      · exact hq
      · rw [List.getElem?_eq_none (by rw [hlen]; omega)] at hj; cases hj
    rw [List.getElem?_take_of_lt hjn, List.getElem?_drop] at hj
    exact hj)
  rw [Nat.add_assoc]
  exact this
theorem spanR_fit {B : List Nat} (h8 : ∀ b ∈ B, b < 256) (lo dn dc : Nat) (s : Ps) : (spanR B lo dn dc s).1.t < 2 ^ 64 := by
  unfold spanR
  dsimp only
  split
  · show (0 : Nat) < 2 ^ 64; decide
  · split
    · exact Nat.lt_of_lt_of_le (le_lt h8 8 _) (by decide)
    · show (0 : Nat) < 2 ^ 64; decide
theorem spansR_fit {B : List Nat} (h8 : ∀ b ∈ B, b < 256) (dn dc : Nat) : ∀ (m lo : Nat) (s : Ps), ∀ x ∈ (spansR B dn dc m lo s).1, x.t < 2 ^ 64
  | 0, _, _ => fun x hx => by simp [spansR] at hx
  | m + 1, lo, s => fun x hx => by
    unfold spansR at hx
    rcases List.mem_cons.1 hx with rfl | hx
    · exact spanR_fit h8 lo dn dc s
    · exact spansR_fit h8 dn dc m _ _ x hx
theorem writesR_mem {B : List Nat} (h8 : ∀ b ∈ B, b < 256) : ∀ (m an ac : Nat) (s : Ps), ∀ p ∈ (writesR B m an ac s).1, p.vb + p.vn ≤ s.at_ + 176 * m ∧ (∀ x ∈ p.xs, x.t < 2 ^ 64)
  | 0, _, _, _ => fun x hx => by simp [writesR] at hx
  | m + 1, an, ac, s => fun p hp => by
    unfold writesR at hp
    have hat := writeR_at B an ac s
    rcases List.mem_cons.1 hp with rfl | hp
    · refine ⟨?_, fun x hx => spansR_fit h8 _ _ _ _ _ x hx⟩
      omega
    · obtain ⟨h1, h2⟩ := writesR_mem h8 m _ _ _ p hp
      exact ⟨by omega, h2⟩
theorem argW_no {h : Ph} {z : Int} (ha : argW h z = false) : h.k ≠ 1 ∧ 0 ≤ z ∧ z ≤ (h.m : Int) - 1 := by
  unfold argW at ha
  simp only [Bool.or_eq_false_iff, decide_eq_false_iff_not, Bool.not_eq_false', decide_eq_true_eq] at ha
  exact ⟨ha.1, ha.2⟩
/-- a write that a view tells without an error -/
theorem vErr_0 {B : List Nat} {z : Int} (h8 : ∀ b ∈ B, b < 256) (h : vErr B z = 0) : (headR B ⟨0, false⟩).1.k ≠ 1 ∧ 0 ≤ z ∧ z ≤ ((headR B ⟨0, false⟩).1.m : Int) - 1 ∧ (writesR B (z.toNat + 1) 0 0 (headR B ⟨0, false⟩).2).2.bad = false ∧ (writesR B (z.toNat + 1) 0 0 (headR B ⟨0, false⟩).2).1.getLast? = some (vPw B z) ∧ (vPw B z).vb + (vPw B z).vn ≤ 2048 ∧ (∀ x ∈ (vPw B z).xs, x.t < 2 ^ 64) := by
  have h0 := h
  unfold vErr at h
  split at h
  · cases h
  · rename_i ha
    split at h
    · cases h
    · rename_i hb
      obtain ⟨k1, z0, z1⟩ := argW_no (by simpa using ha)
      obtain ⟨l, p, e1, -⟩ := writesR_ne B z.toNat 0 0 (headR B ⟨0, false⟩).2
      have e2 : vPw B z = p := by unfold vPw; rw [if_pos h0, e1, List.getLast?_concat]; rfl
      have hm := writesR_mem h8 (z.toNat + 1) 0 0 (headR B ⟨0, false⟩).2 p (by rw [e1]; simp)
      have hat := headR_at B ⟨0, false⟩
      have hm8 := hat.2.2.2.2.1 k1
      have hh := hat.2.1
      dsimp only at hh
      refine ⟨k1, z0, z1, by simpa using hb, by rw [e1, List.getLast?_concat, e2], ?_, by rw [e2]; exact hm.2⟩
      rw [e2]
      omega
end Go.Proofs.Ytllhmidpphlbhaa.ds
namespace Go.Proofs.Ytllhmidpphlbhaa.ds
open Go.ChangeShapes Go.WideShapes Go.ChangeAt Go.RowKit Go.Sort
set_option linter.unusedVariables false
set_option linter.unusedSimpArgs false

def argC (h : Ph) (z : Int) : Bool := decide (h.k ≠ 1) || !decide (0 ≤ z ∧ z ≤ (h.m : Int) - 1)
/-- a clock that a view tells -/
structure VcP (w : World) (B : List Nat) (z : Int) (e : Ending) (w' : World) : Prop where
  a : Apart [] w w'
  arg : argC (headR B ⟨0, false⟩).1 z = true → e = .returned (.tuple #[.agg #[.int .i64 0, .slice none 0 0], .int .i64 1])
  bad : argC (headR B ⟨0, false⟩).1 z = false → (clocksR B (z.toNat + 1) 0 (headR B ⟨0, false⟩).2).2.bad = true → e = .returned (.tuple #[.agg #[.int .i64 0, .slice none 0 0], .int .i64 70])
  ok : argC (headR B ⟨0, false⟩).1 z = false → (clocksR B (z.toNat + 1) 0 (headR B ⟨0, false⟩).2).2.bad = false → ∃ x : Sl, e = .returned (.tuple #[.agg #[.int .i64 ((lastC (clocksR B (z.toNat + 1) 0 (headR B ⟨0, false⟩).2).1).1 : Nat), .slice x.p x.n x.c], .int .i64 0]) ∧ Nw w w' 85 3 x (flat (lastC (clocksR B (z.toNat + 1) 0 (headR B ⟨0, false⟩).2).1).2)
theorem clocksR_mem {B : List Nat} (h8 : ∀ b ∈ B, b < 256) : ∀ (m lo : Nat) (s : Ps), ∀ p ∈ (clocksR B m lo s).1, ∀ x ∈ p.2, x.t < 2 ^ 64
  | 0, _, _ => fun x hx => by simp [clocksR] at hx
  | m + 1, lo, s => fun p hp x hx => by
    unfold clocksR at hp
    rcases List.mem_cons.1 hp with rfl | hp
    · exact spansR_fit h8 _ _ _ _ _ x hx
    · exact clocksR_mem h8 m _ _ p hp x hx
theorem lastC_fit {B : List Nat} (h8 : ∀ b ∈ B, b < 256) (m lo : Nat) (s : Ps) : ∀ x ∈ (lastC (clocksR B m lo s).1).2, x.t < 2 ^ 64 := by
  unfold lastC
  cases hg : (clocksR B m lo s).1.getLast? with
  | none => intro x hx; simp at hx
  | some p => exact clocksR_mem h8 m lo s p (List.mem_of_getLast? hg)
set_option maxHeartbeats 16000000 in
set_option maxRecDepth 100000 in
theorem vclock_ok {w : World} {s : Sl} {B : List Nat} {V : Nat} (h : Pb w s B) (hn : s.n = 2048) (hv : Vw w V s) (z : Int) : Calls Try.prog 32 #[.pointer (some ⟨V, 0, none⟩), .int .i64 z] w fun e w' => VcP w B z e w' := by
  obtain ⟨P, o, hp, hPl, hrd⟩ := h.reader hn
  obtain ⟨F, HXF⟩ : ∃ X, Hid (X = w.heap.size) := ⟨_, rfl⟩
  obtain ⟨w1, hw1⟩ : ∃ W, W = w.alloc (.cells #[.int .i64 0, .slice none 0 0] 61) := ⟨_, rfl⟩
  have a1 : Apart [] w w1 := by rw [hw1]; exact (Apart.refl [] w).alloc _
  have hF1 : w1.heap[F]? = some (.cells #[.int .i64 0, .slice none 0 0] 61 (0, 0)) := by rw [HXF.out, hw1]; exact heap_alloc_new w _
  obtain ⟨R, HXR⟩ : ∃ X, Hid (X = w1.heap.size) := ⟨_, rfl⟩
  obtain ⟨w2, hw2⟩ : ∃ W, W = w1.alloc (.cells #[.slice s.p s.n s.c, .int .i64 0, .bool false] 97) := ⟨_, rfl⟩
  have a2 : Apart [] w1 w2 := by rw [hw2]; exact (Apart.refl [] w1).alloc _
  have HR2 : Hid (PR w2 R P o s.c B ⟨0, false⟩) := hrd w2 R (a1.trans a2) (by rw [HXR.out]; exact a1.size) (by rw [HXR.out, hw2]; exact heap_alloc_new w1 _)
  have HF2 := hid (keep0 a2 hF1)
  have HRw : Hid (w.heap.size ≤ R) := by unfold Hid; rw [HXR.out]; exact a1.size
  have HFw : Hid (w.heap.size ≤ F) := by unfold Hid; rw [HXF.out]; exact Nat.le_refl _
  have HFR : Hid (F ≠ R) := by unfold Hid; have := lt_of_heap hF1; rw [HXR.out]; omega
  have HA2 := hid (a1.trans a2)
  have H8 := hid h.b8
  have zv : w1.cell? ⟨V, 0, none⟩ = some (.slice s.p s.n s.c) := by rw [cell_of_row _ _ _ _ _ _ (keep0 a1 hv)]; rfl
  have HC := hid (head_ok HR2.out (fun _ => by dsimp only; omega))
  clear h hrd hv hp hn hPl a1 a2 hF1
  go_enter Try.func32, Try.ntmps32
  go_upto_region 1 with fail
  rw [← hw1, ← HXF.out]
  clear hw1
  go_upto_region 2 with fail
  rw [← hw2, ← HXR.out]
  clear hw2 zv
  go_wp2_with fail
  refine HC.out.mono ?_
  rintro _ w3 ⟨rfl, r3, a3⟩
  have HR3 := hid r3
  have HF3 := hid (keepB a3 HF2.out HFR.out)
  have HA3 := hid (HA2.out.trans' a3 (by intro y hy; simp at hy; rw [hy]; exact .inr HRw.out))
  clear r3 a3 HC
  dsimp only
  obtain ⟨kp, kn, kc, hkv⟩ := keyV_sl P o (headR B ⟨0, false⟩).1
  obtain ⟨hd, Hhd⟩ : ∃ hd, Hid (hd = headR B ⟨0, false⟩) := ⟨_, rfl⟩
  rw [hdV_lit, hkv, ← Hhd.out]
  clear hkv
  obtain ⟨H, HXH⟩ : ∃ X, Hid (X = w3.heap.size) := ⟨_, rfl⟩
  obtain ⟨w4, hw4⟩ : ∃ W, W = w3.alloc (.cells #[.int .i64 (hd.1.k : Nat), .int .i64 (hd.1.g : Nat), .int .i64 (hd.1.o : Nat), .int .i64 (hd.1.m : Nat), .slice kp kn kc] 99) := ⟨_, rfl⟩
  have a4 : Apart [] w3 w4 := by rw [hw4]; exact (Apart.refl [] w3).alloc _
  have hH4 : w4.heap[H]? = some (.cells #[.int .i64 (hd.1.k : Nat), .int .i64 (hd.1.g : Nat), .int .i64 (hd.1.o : Nat), .int .i64 (hd.1.m : Nat), .slice kp kn kc] 99 (0, 0)) := by rw [HXH.out, hw4]; exact heap_alloc_new w3 _
  have hm16 : hd.1.m ≤ 16 := by rw [Hhd.out]; exact (headR_at B ⟨0, false⟩).2.2.2.1
  have HAT : Hid (hd.2.at_ ≤ 19) := by unfold Hid; rw [Hhd.out]; have := (headR_at B ⟨0, false⟩).2.1; dsimp only at this; omega
  have hwm : IntKind.i64.wrap (((hd.1.m : Nat) : Int) - 1) = ((hd.1.m : Nat) : Int) - 1 := by rw [IntKind.wrap_i64]; omega
  go_upto_region 3 with fail
  rw [← hw4, ← HXH.out]
  clear hw4
  have h0 := crow hH4 0 (.int .i64 (hd.1.k : Nat)) rfl
  have h3 := crow hH4 3 (.int .i64 (hd.1.m : Nat)) rfl
  rw [← Hhd.out] at HR3
  have HR4 := hid (HR3.out.kept0 a4)
  have HF4 := hid (keep0 a4 HF3.out)
  have HA4 := hid (HA3.out.trans a4)
  clear a4 hH4 HR3 HF3 HA3 HF2 HR2 HA2
  obtain ⟨ab, Hab⟩ : ∃ b, Hid (b = argC hd.1 z) := ⟨_, rfl⟩
  go_cut [26] from 16 to 26 (fun s26 wx => .bool ab = s26 ∧ Apart [] w4 wx)
  case first =>
    by_cases hk : hd.1.k = 1
    · have hki : (((hd.1.k : Nat) : Int) != 1) = false := by rw [hk]; rfl
      obtain ⟨v, hv⟩ := bool_of (0 ≤ z ∧ z ≤ ((hd.1.m : Nat) : Int) - 1)
      have HD : Hid (ab = !v) := by
        unfold Hid; rw [Hab.out]; unfold argC
        rw [decide_eq_false (by simpa using hk), Bool.false_or]
        congr 1
        rw [Bool.eq_iff_iff, decide_eq_true_eq]
        exact hv.symm
      have HV := hid hv
      clear hk hv
      go_wp2_with fail
      refine (within_ok w4 z 0 _ v HV.out).mono ?_
      rintro _ wn ⟨rfl, an⟩
      have HAN := hid an
      clear an
      try dsimp only
      go_wp2_with fail
      go_meet
      exact ⟨by first | (rw [HD.out]; done) | (rw [HD.out]; simp), HAN.out⟩
    · have hki : (((hd.1.k : Nat) : Int) != 1) = true := by rw [bne_iff_ne]; omega
      have HD : Hid (ab = true) := by unfold Hid; rw [Hab.out]; unfold argC; simp [hk]
      clear hk
      go_wp2_with fail
      go_meet
      exact ⟨by first | (rw [HD.out]; done) | (rw [HD.out]; simp), Apart.refl _ _⟩
  obtain ⟨rfl, a5⟩ := hcut
  have HR5 := hid (HR4.out.kept0 a5)
  have HF5 := hid (keep0 a5 HF4.out)
  have HA5 := hid (HA4.out.trans a5)
  clear a5 h0 h3 HR4 HF4 HA4
  generalize wc = w5 at *
  cases ab with
  | true =>
    obtain ⟨b0, b1⟩ := row2v HF5.out
    have p0 := frozen_of_row _ _ 0 _ _ HF5.out
    have p1 := frozen_of_row _ _ 1 _ _ HF5.out
    obtain ⟨we, hwe⟩ : ∃ V, V = (w5.setCell ⟨F, 0, none⟩ (.int .i64 0)).setCell ⟨F, 1, none⟩ (.slice none 0 0) := ⟨_, rfl⟩
    have ae : Apart [F] w5 we := by rw [hwe]; exact ((Apart.refl [F] _).setCell (.inl (by simp)) _).setCell (.inl (by simp)) _
    have HFe : Hid (we.heap[F]? = some (.cells #[.int .i64 0, .slice none 0 0] 61 (0, 0))) := by
      unfold Hid; rw [hwe]
      have := heap_setCell_same _ F 1 _ 61 (.slice none 0 0) (heap_setCell_same w5 F 0 _ 61 (.int .i64 0) HF5.out)
      simpa using this
    have HAe := hid (HA5.out.trans' ae (fun y hy => by simp at hy; exact .inr (by rw [hy]; exact HFw.out)))
    clear ae
    go_wp2_with fail
    rw [← hwe]
    obtain ⟨d0, d1⟩ := row2v HFe.out
    have HP : VcP w B z (.returned (.tuple #[.agg #[.int .i64 0, .slice none 0 0], .int .i64 1])) we := ⟨HAe.out, (fun _ => rfl), (fun h => by rw [← Hhd.out, ← Hab.out] at h; cases h), (fun h => by rw [← Hhd.out, ← Hab.out] at h; cases h)⟩
    refine bodyPost_ret (v := .tuple #[.agg #[.int .i64 0, .slice none 0 0], .int .i64 1]) ?_ rfl HP
    simp [results, Try.results32, go_sem, d0, d1]
  | false =>
    have hz : 0 ≤ z ∧ z ≤ ((hd.1.m : Nat) : Int) - 1 := by
      have := Hab.out.symm
      unfold argC at this
      simp only [Bool.or_eq_false_iff, decide_eq_false_iff_not, Bool.not_eq_false', decide_eq_true_eq] at this
      exact this.2
    obtain ⟨i, rfl⟩ := Int.eq_ofNat_of_zero_le hz.1
    have hwi : IntKind.i64.wrap (((i : Nat) : Int) + 1) = ((i + 1 : Nat) : Int) := by rw [IntKind.wrap_i64]; omega
    have HI16 : Hid (i + 1 ≤ 16) := by unfold Hid; omega
    clear hz
    go_wp2_with fail
    refine (clocks_ok HR5.out (i + 1) (by have := HI16.out; omega) (fun _ => by have := HI16.out; have := HAT.out; omega)).mono ?_
    rintro _ w6 ⟨⟨rfl, r6, a6⟩, hl8⟩
    have HR6 := hid r6
    have HA6 := hid (HA5.out.trans' a6 (by intro y hy; simp at hy; rw [hy]; exact .inr HRw.out))
    have HF6 := hid (keepB a6 HF5.out HFR.out)
    clear r6 a6
    have HFIT := hid (lastC_fit H8.out (i + 1) 0 hd.2)
    obtain ⟨cs, Hcs⟩ : ∃ x, Hid (x = clocksR B (i + 1) 0 hd.2) := ⟨_, rfl⟩
    rw [← Hcs.out] at HR6 hl8 HFIT ⊢
    obtain ⟨lc, Hlc⟩ : ∃ x, Hid (x = lastC cs.1) := ⟨_, rfl⟩
    have e1 : csL cs.1 = setL lc.2 lc.2.length := by rw [Hlc.out]; rfl
    rw [e1]
    clear e1
    rw [← Hlc.out] at hl8 HFIT ⊢
    have HL8 := hid hl8
    clear hl8
    try dsimp only
    obtain ⟨X, HXX⟩ : ∃ X, Hid (X = w6.heap.size) := ⟨_, rfl⟩
    obtain ⟨w7, hw7⟩ : ∃ W, W = w6.alloc (.cells #[.int .i64 0, .int .i64 0, .int .u64 0, .int .i64 0, .int .i64 0, .int .u64 0, .int .i64 0, .int .i64 0, .int .u64 0, .int .i64 0, .int .i64 0, .int .u64 0, .int .i64 0, .int .i64 0, .int .u64 0, .int .i64 0, .int .i64 0, .int .u64 0, .int .i64 0, .int .i64 0, .int .u64 0, .int .i64 0, .int .i64 0, .int .u64 0, .int .i64 0] 103) := ⟨_, rfl⟩
    have a7 : Apart [] w6 w7 := by rw [hw7]; exact (Apart.refl [] w6).alloc _
    have HX7 : Hid (w7.heap[X]? = some (.cells (setL [] 0).toArray 103 (0, 0))) := by unfold Hid; rw [HXX.out, hw7]; exact heap_alloc_new w6 _
    have HFX : Hid (F ≠ X) := by unfold Hid; have := lt_of_heap HF6.out; rw [HXX.out]; omega
    have HRX : Hid (R ≠ X) := by unfold Hid; have := lt_of_heap HR6.out.blk; rw [HXX.out]; omega
    have HXw : Hid (w.heap.size ≤ X) := by unfold Hid; rw [HXX.out]; exact HA6.out.size
    have HF7 := hid (keep0 a7 HF6.out)
    have HRb7 := hid (keep0 a7 HR6.out.blk)
    have HA7 := hid (HA6.out.trans a7)
    clear a7
    rename_i K1 hK1
    refine hK1 _ _ ?_
    clear hK1
    refine wpList_cutat 5 (fun a' w' => Hid (wpList _ _ _ (List.drop 5 _) a' w')) (fun T hT => ?_) (fun _ _ h => h)
    dsimp only [List.take, List.cons_append, List.nil_append, List.append]
    go_wp2_with fail
    refine hT _ _ ?_
    clear hT T
    unfold Hid
    dsimp only [List.drop]
    rw [← hw7, ← HXX.out]
    clear hw7
    refine wpList_store_mid rfl 103 (.tmp 9) (.tmp 33) rfl X 0 (setL lc.2 lc.2.length).toArray rfl rfl (there_of HX7.out _ _ (by rw [List.size_toArray, List.size_toArray, setL_len HL8.out, setL_len (by simp)]; omega)) (isz HL8.out) (setL_one _ _) ?_
    obtain ⟨w8, hw8⟩ : ∃ z, z = w7.setCells X 0 (setL lc.2 lc.2.length) := ⟨_, rfl⟩
    rw [show (setL lc.2 lc.2.length).toArray.toList = setL lc.2 lc.2.length from rfl, ← hw8]
    have b8 : Apart [X] w7 w8 := by rw [hw8]; exact apart_setCells _ _ _ (Apart.refl _ _) (.inl (by simp))
    have HX8 : Hid (w8.heap[X]? = some (.cells (setL lc.2 lc.2.length).toArray 103 (0, 0))) := by
      unfold Hid; rw [hw8]
      have := heap_setCells_same (setL lc.2 lc.2.length) 0 w7 _ HX7.out
      rw [spl_all (by rw [setL_len HL8.out, List.size_toArray, setL_len (by simp)])] at this
      exact this
    have HF8 := hid (keepB b8 HF7.out HFX.out)
    have hR8 := keepB b8 HRb7.out HRX.out
    have HA8 := hid (HA7.out.trans' b8 (by intro y hy; simp at hy; rw [hy]; exact .inr HXw.out))
    have r2 := crow hR8 2 (.bool cs.2.bad) rfl
    clear b8 hw8 hR8
    cases hbb : cs.2.bad with
    | true =>
      rw [hbb] at r2
      have HBB := hid hbb
      clear hbb
      obtain ⟨b0, b1⟩ := row2v HF8.out
      have p0 := frozen_of_row _ _ 0 _ _ HF8.out
      have p1 := frozen_of_row _ _ 1 _ _ HF8.out
      obtain ⟨we, hwe⟩ : ∃ V, V = (w8.setCell ⟨F, 0, none⟩ (.int .i64 0)).setCell ⟨F, 1, none⟩ (.slice none 0 0) := ⟨_, rfl⟩
      have ae : Apart [F] w8 we := by rw [hwe]; exact ((Apart.refl [F] _).setCell (.inl (by simp)) _).setCell (.inl (by simp)) _
      have HFe : Hid (we.heap[F]? = some (.cells #[.int .i64 0, .slice none 0 0] 61 (0, 0))) := by
        unfold Hid; rw [hwe]
        have := heap_setCell_same _ F 1 _ 61 (.slice none 0 0) (heap_setCell_same w8 F 0 _ 61 (.int .i64 0) HF8.out)
        simpa using this
      have HAe := hid (HA8.out.trans' ae (fun y hy => by simp at hy; exact .inr (by rw [hy]; exact HFw.out)))
      clear ae
      go_wp2_with fail
      rw [← hwe]
      obtain ⟨d0, d1⟩ := row2v HFe.out
      have HP : VcP w B ((i : Nat) : Int) (.returned (.tuple #[.agg #[.int .i64 0, .slice none 0 0], .int .i64 70])) we := ⟨HAe.out, (fun h => by rw [← Hhd.out, ← Hab.out] at h; cases h), (fun _ _ => rfl), (fun _ h => by rw [← Hhd.out, Int.toNat_natCast, ← Hcs.out, HBB.out] at h; cases h)⟩
      refine bodyPost_ret (v := .tuple #[.agg #[.int .i64 0, .slice none 0 0], .int .i64 70]) ?_ rfl HP
      simp [results, Try.results32, go_sem, d0, d1]
    | false =>
      rw [hbb] at r2
      have HBB := hid hbb
      clear hbb
      go_upto_region 8 with fail
      clear r2
      refine wp_region_list ?_
      dsimp only [Array.toList]
      refine wpList_cutat 1 (fun a' w' => Hid (wpList _ _ _ (List.drop 1 _) a' w')) (fun T hT => ?_) (fun _ _ h => h)
      dsimp only [List.take, List.cons_append, List.nil_append, List.append]
      go_wp2_with fail
      refine hT _ _ ?_
      clear hT T
      unfold Hid
      dsimp only [List.drop]
      refine wpList_load_mid rfl 103 (.tmp 9) rfl X 0 rfl (setL lc.2 lc.2.length) _ (range_of HX8.out) Try.underlying103 rfl (by rw [size103, setL_len HL8.out]) ?_
      go_wp2_with fail
      refine (list_ok w8 lc.2 HL8.out HFIT.out).mono ?_
      rintro _ w9 ⟨tx, rfl, hnx, -⟩
      have HF9 := hid (keep0 hnx.ap HF8.out)
      have HA9 := hid (HA8.out.trans hnx.ap)
      have HN9 := hid (hnx.from HA8.out)
      clear hnx
      try dsimp only
      obtain ⟨b0, b1⟩ := row2v HF9.out
      have p0 := frozen_of_row _ _ 0 _ _ HF9.out
      have p1 := frozen_of_row _ _ 1 _ _ HF9.out
      obtain ⟨we, hwe⟩ : ∃ V, V = (w9.setCell ⟨F, 0, none⟩ (.int .i64 (lc.1 : Nat))).setCell ⟨F, 1, none⟩ (.slice tx.p tx.n tx.c) := ⟨_, rfl⟩
      have ae : Apart [F] w9 we := by rw [hwe]; exact ((Apart.refl [F] _).setCell (.inl (by simp)) _).setCell (.inl (by simp)) _
      have HFe : Hid (we.heap[F]? = some (.cells #[.int .i64 (lc.1 : Nat), .slice tx.p tx.n tx.c] 61 (0, 0))) := by
        unfold Hid; rw [hwe]
        have := heap_setCell_same _ F 1 _ 61 (.slice tx.p tx.n tx.c) (heap_setCell_same w9 F 0 _ 61 (.int .i64 (lc.1 : Nat)) HF9.out)
        simpa using this
      have hap : Apart [] w we := HA9.out.trans' ae (fun y hy => by simp at hy; exact .inr (by rw [hy]; exact HFw.out))
      have tke : TK [61] w9 we := TK.one ae HF9.out (by simp)
      have HP : Hid (VcP w B ((i : Nat) : Int) (.returned (.tuple #[.agg #[.int .i64 (lc.1 : Nat), .slice tx.p tx.n tx.c], .int .i64 0])) we) := by
        refine ⟨hap, (fun h => by rw [← Hhd.out, ← Hab.out] at h; cases h), (fun _ h => ?_), (fun _ _ => ⟨tx, ?_, ?_⟩)⟩
        · rw [← Hhd.out, Int.toNat_natCast, ← Hcs.out, HBB.out] at h
          cases h
        · rw [← Hhd.out, Int.toNat_natCast, ← Hcs.out, ← Hlc.out]
        · rw [← Hhd.out, Int.toNat_natCast, ← Hcs.out, ← Hlc.out]
          exact tke.nw HN9.out hap (by decide)
      clear ae hap tke
      go_wp2_with fail
      rw [← hwe]
      obtain ⟨d0, d1⟩ := row2v HFe.out
      refine bodyPost_ret (v := .tuple #[.agg #[.int .i64 (lc.1 : Nat), .slice tx.p tx.n tx.c], .int .i64 0]) ?_ rfl HP.out
      simp [results, Try.results32, go_sem, d0, d1]
end Go.Proofs.Ytllhmidpphlbhaa.ds
