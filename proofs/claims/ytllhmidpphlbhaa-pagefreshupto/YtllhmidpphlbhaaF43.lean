import Derived.Deep.RegionHeld
import Derived.OrdersHeld
import Derived.WalkKit
import Derived.ProofKit
import Derived.Lib.TrailingZeros
import Derived.Test.YtllhmidpphlbhaaChecked
import Derived.OpenShut
import Derived.Deep.QuietTactic
import Derived.BigQuiet
import Derived.BigRegion
import Derived.Laws.CopyOwn
import Derived.Laws.Bits64b
import Derived.Laws.MathBits
import Derived.Laws.ShiftsVarLaws
import Derived.WalkSmall
import Derived.Laws.ResultCell
import Derived.Lib.BitFns
import Derived.Laws.StructEq
import Derived.ArgAppend
import Derived.Deep.RegionLaw
import Derived.Deep.DeepAppendRoom
import Derived.Sort.WalkA
import Derived.Laws.Strings
import Derived.Deep.CutBlock
import Derived.Great.BuildSlice
import Derived.Laws.AppendOwnNone
import Derived.Lib.Overlaps
import Derived.Lib.AppendZerosOnto
import Derived.Laws.NewBlocks
import Derived.Laws.Externs
import Derived.Laws.IdiomCopy
import Derived.Laws.BytesString
import Derived.Deep.CutRange
import Derived.RangeFuncNested
import Derived.RangeFuncBound
import Derived.RangeFuncCalls
import Derived.RangeFuncLeaves
import Derived.Shelf.Abstract
import Derived.Shelf.RegionOpen
import Derived.OwnWalkIn
import Derived.TacticsInMore
import Derived.LoopNIn
import Derived.LoopIn
import GoSem.Claim
import GoSem.ClaimJoined
import GoSem.ClaimMapViews
import Derived.JoinedTies
import Derived.KernelRfl
import Derived.Deep.OwnRows
import Derived.Lib.LaidTab
import Derived.JoinedCond
import Derived.ShutString
import Derived.ChangeOld
import Derived.Below
import Derived.Carry
import Derived.ChangeSlices
import Derived.Deep.Slices
import Derived.Deep.DeepHandedRow
import Derived.RowKit
import Derived.ChangeShapes
import Derived.SizedLaws
import Derived.ChangeMaps5
import Derived.Lib.Walk
import Derived.Lib.SliceRun
import Derived.Lib.AppendStr
import Derived.Lib.ConvBytes
import Derived.Deep.RegionHeld3
import Derived.Deep.MidRow
import Derived.Laws.MakeOwn
import Derived.Lib.SlBytesConst
import Derived.Test.YtllhmidpphlbhaaRows
import Derived.Test.YtllhmidpphlbhaaF41
import Derived.Test.YtllhmidpphlbhaaF42
namespace Go.Proofs.Ytllhmidpphlbhaa.ds
open Go.ChangeShapes Go.WideShapes Go.ChangeAt Go.RowKit Go.Sort
set_option linter.unusedVariables false
set_option linter.unusedSimpArgs false

/-- what told answers of a good page -/
structure ToP (w : World) (B : List Nat) (r : Ending) (w' : World) : Prop where
  a : Apart [] w w'
  ex : ∃ (c : Ct) (ks : List Ck) (es : List E), r = .returned (.tuple #[.agg c.cs, .bool true]) ∧ c.kd = ((headR B ⟨0, false⟩).1.k : Nat) ∧ c.gn = ((headR B ⟨0, false⟩).1.g : Nat) ∧ c.ow = ((headR B ⟨0, false⟩).1.o : Nat) ∧ (Nw w w' 61 2 c.s (flatK ks) ∧ CL w w' ks (csT B)) ∧ Nw w w' 50 6 c.t (flatE es) ∧ WL w w' es (rsT B) ∧ MkK w w' ks ∧ MkE w w' es
theorem Nw.none0 {w W : World} (a : Apart [] w W) (e size : Nat) : Nw w W e size slz [] := ⟨World.ownsRow_nil _ _ _ _, by simp [Sl.v, slz, Value.ownBlock], a⟩
set_option maxHeartbeats 16000000 in
set_option maxRecDepth 100000 in
theorem told_1 {w : World} {s : Sl} {B : List Nat} {V : Nat} (h : Pb w s B) (hn : s.n = 2048) (hv : Vw w V s) (hk : (headR B ⟨0, false⟩).1.k = 1) (hg : (endR B).bad = false) : Calls Try.prog 27 #[.pointer (some ⟨V, 0, none⟩)] w fun r w' => ToP w B r w' := by
  have HGD : Hid ((clocksR B (headR B ⟨0, false⟩).1.m 0 (headR B ⟨0, false⟩).2).2.bad = false) := by
    have := endR_ok1 hg
    unfold bodyR at this
    dsimp only at this
    rw [if_pos hk] at this
    exact this
  have HPB : Hid (∀ W, Apart [] w W → Pb W s B) := fun W a => h.kept0 a
  have HVW : Hid (∀ W, Apart [] w W → Vw W V s) := fun W a => keep0 a hv
  have HN := hid hn
  obtain ⟨k, HK⟩ : ∃ k, Hid (k = (headR B ⟨0, false⟩).1.k) := ⟨_, rfl⟩
  obtain ⟨g, HG⟩ : ∃ k, Hid (k = (headR B ⟨0, false⟩).1.g) := ⟨_, rfl⟩
  obtain ⟨o, HO⟩ : ∃ k, Hid (k = (headR B ⟨0, false⟩).1.o) := ⟨_, rfl⟩
  obtain ⟨m, HM⟩ : ∃ k, Hid (k = (headR B ⟨0, false⟩).1.m) := ⟨_, rfl⟩
  have HK1 : Hid (k = 1) := by unfold Hid; rw [HK.out]; exact hk
  have HC1 : Hid (∀ W, Apart [] w W → Calls Try.prog 29 #[.pointer (some ⟨V, 0, none⟩)] W fun e w' => e = .returned (.int .i64 (k : Nat)) ∧ Apart [] W w') := fun W a => by rw [HK.out]; exact vkind_ok (HPB.out W a) hn (HVW.out W a)
  have HC2 : Hid (∀ W, Apart [] w W → Calls Try.prog 30 #[.pointer (some ⟨V, 0, none⟩)] W fun e w' => e = .returned (.int .i64 (g : Nat)) ∧ Apart [] W w') := fun W a => by rw [HG.out]; exact vgen_ok (HPB.out W a) hn (HVW.out W a)
  have HC3 : Hid (∀ W, Apart [] w W → Calls Try.prog 31 #[.pointer (some ⟨V, 0, none⟩)] W fun e w' => e = .returned (.int .i64 (o : Nat)) ∧ Apart [] W w') := fun W a => by rw [HO.out]; exact vowner_ok (HPB.out W a) hn (HVW.out W a)
  have HC4 : Hid (∀ W, Apart [] w W → Calls Try.prog 20 #[.pointer (some ⟨V, 0, none⟩)] W fun e w' => e = .returned (.int .i64 (m : Nat)) ∧ Apart [] W w') := fun W a => by rw [HM.out]; exact vlen_ok (HPB.out W a) hn (HVW.out W a)
  have hm16 : m ≤ 16 := by rw [HM.out]; exact (headR_at B ⟨0, false⟩).2.2.2.1
  clear h hn hv hk hg
  obtain ⟨D, HXD⟩ : ∃ X, Hid (X = w.heap.size) := ⟨_, rfl⟩
  obtain ⟨w1, hw1⟩ : ∃ W, W = w.alloc (.cells #[.int .i64 0, .int .i64 0, .int .i64 0, .slice none 0 0, .slice none 0 0] 25) := ⟨_, rfl⟩
  have a1 : Apart [] w w1 := by rw [hw1]; exact (Apart.refl [] w).alloc _
  have HD1 : Hid (w1.heap[D]? = some (.cells #[.int .i64 0, .int .i64 0, .int .i64 0, .slice none 0 0, .slice none 0 0] 25 (0, 0))) := by unfold Hid; rw [HXD.out, hw1]; exact heap_alloc_new w _
  have HA1 := hid a1
  have HDw : Hid (w.heap.size ≤ D) := by unfold Hid; rw [HXD.out]; exact Nat.le_refl _
  clear a1
  go_enter Try.func27, Try.ntmps27
  go_upto_region 1 with fail
  rw [← hw1, ← HXD.out]
  clear hw1
  go_wp2_with fail
  refine (HC1.out w1 HA1.out).mono ?_
  rintro _ w2 ⟨rfl, a2⟩
  have HA2 := hid (HA1.out.trans a2)
  have HD2 := hid (keep0 a2 HD1.out)
  clear a2
  dsimp only
  go_wp2_with fail
  refine (HC2.out w2 HA2.out).mono ?_
  rintro _ w3 ⟨rfl, a3⟩
  have HA3 := hid (HA2.out.trans a3)
  have HD3 := hid (keep0 a3 HD2.out)
  clear a3
  dsimp only
  go_wp2_with fail
  refine (HC3.out w3 HA3.out).mono ?_
  rintro _ w4 ⟨rfl, a4⟩
  have HA4 := hid (HA3.out.trans a4)
  have HD4 := hid (keep0 a4 HD3.out)
  clear a4
  dsimp only
  obtain ⟨Y, HXY⟩ : ∃ X, Hid (X = w4.heap.size) := ⟨_, rfl⟩
  obtain ⟨w5, hw5⟩ : ∃ W, W = w4.alloc (.cells #[.int .i64 (k : Nat), .int .i64 (g : Nat), .int .i64 (o : Nat), .slice none 0 0, .slice none 0 0] 25) := ⟨_, rfl⟩
  have a5 : Apart [] w4 w5 := by rw [hw5]; exact (Apart.refl [] w4).alloc _
  have HY5 : Hid (w5.heap[Y]? = some (.cells (pgL k g o slz slz) 25 (0, 0))) := by unfold Hid; rw [HXY.out, hw5]; exact heap_alloc_new w4 _
  have HDY : Hid (D ≠ Y) := by unfold Hid; have := lt_of_heap HD4.out; rw [HXY.out]; omega
  have HYw : Hid (w.heap.size ≤ Y) := by unfold Hid; rw [HXY.out]; exact HA4.out.size
  have HA5 := hid (HA4.out.trans a5)
  have HD5 := hid (keep0 a5 HD4.out)
  clear a5 HC1 HC2 HC3
  go_upto_region 2 with fail
  rw [← hw5, ← HXY.out]
  clear hw5
  go_wp2_with fail
  refine (HC4.out w5 HA5.out).mono ?_
  rintro _ w6 ⟨rfl, a6⟩
  have HA6 := hid (HA5.out.trans a6)
  have HD6 := hid (keep0 a6 HD5.out)
  have HY6 := hid (keep0 a6 HY5.out)
  clear a6 HC4
  dsimp only
  have hm0 : ¬ ((m : Nat) : Int) < 0 := by omega
  have hm1 : ¬ ((m : Nat) : Int) > 16 := by omega
  go_wp2_with fail
  clear hm0 hm1
  go_loopw [6, 7, 8] (fun b _ _ wt => ∃ (i : Nat) (sk : Sl) (kk : List Ck), b = .int .i64 (i : Nat) ∧ i ≤ m ∧ TC w wt Y B k g o i sk kk ∧ wt.heap[D]? = some (.cells #[.int .i64 0, .int .i64 0, .int .i64 0, .slice none 0 0, .slice none 0 0] 25 (0, 0))) (fun b _ _ _ => m - (intOf b).toNat)
  case atStart => exact ⟨0, slz, [], rfl, Nat.zero_le _, ⟨HA6.out, HY6.out, Nw.none0 HA6.out _ _, rfl, ⟨rfl, fun j hj => by simp at hj⟩, MkK.nil HA6.out⟩, HD6.out⟩
  case round =>
    obtain ⟨i, sk, kk, rfl, hile, hI, hD⟩ := hrel
    have HI := hid hI
    have HD := hid hD
    clear hI hD
    by_cases hlt : i < m
    · have hlti : ((i : Nat) : Int) < (m : Int) := by omega
      have hkb : (((k : Nat) : Int) == 1) = true := by rw [HK1.out]; rfl
      have y0 := crow HI.out.y 0 (.int .i64 (k : Nat)) rfl
      obtain ⟨q1, q2, q3⟩ := csOf_at (B := B) (i := i) (by rw [← HK.out]; exact HK1.out) (by rw [← HM.out]; exact hlt) HGD.out
      have hcall := vclock_ok (HPB.out wr HI.out.ap) HN.out (HVW.out wr HI.out.ap) (i : Int)
      have HQ : Hid (∀ e w', VcP wr B (i : Int) e w' → ∃ x : Sl, e = .returned (.tuple #[.agg #[.int .i64 ((lastC (clocksR B (i + 1) 0 (headR B ⟨0, false⟩).2).1).1 : Nat), .slice x.p x.n x.c], .int .i64 0]) ∧ Nw wr w' 85 3 x (flat (lastC (clocksR B (i + 1) 0 (headR B ⟨0, false⟩).2).1).2)) := fun e w' hh => by
        have := hh.ok q1 (by rw [Int.toNat_natCast]; exact q2)
        rw [Int.toNat_natCast] at this
        exact this
      have HQ3 := hid q3
      have HCALL := hid hcall
      clear q1 q2 q3 hcall
      generalize lastC (clocksR B (i + 1) 0 (headR B ⟨0, false⟩).2).1 = lc at HQ HQ3
      go_wp2_with fail
      refine HCALL.out.mono ?_
      intro e wa hh
      obtain ⟨x, rfl, hx⟩ := HQ.out e wa hh
      have hI3 : wr.heap.size ≤ wr.heap.size := Nat.le_refl _
      clear hh HCALL HQ y0 hI3
      dsimp only
      obtain ⟨X, HX⟩ : ∃ X, Hid (X = wa.heap.size) := ⟨_, rfl⟩
      obtain ⟨wb, hwb⟩ : ∃ V, V = wa.alloc (.cells #[.int .i64 (lc.1 : Nat), .slice x.p x.n x.c] 61) := ⟨_, rfl⟩
      have ab : Apart [] wa wb := by rw [hwb]; exact (Apart.refl [] wa).alloc _
      have hX : wb.heap[X]? = some (.cells #[.int .i64 (lc.1 : Nat), .slice x.p x.n x.c] 61 (0, 0)) := by rw [hwb, HX.out]; exact heap_alloc_new wa _
      obtain ⟨x0, x1⟩ := row2v hX
      obtain ⟨s2, W2, hrun, hy4, hI2, hbox⟩ := HI.out.next (by omega) HYw.out (hx.ap.trans ab) HQ3.out (hx.kept ab)
      have hD2 := hbox D _ HDY.out (keep0 (hx.ap.trans ab) HD.out)
      have v3 := crow (keep0 (hx.ap.trans ab) HI.out.y) 3 (.slice sk.p sk.n sk.c) rfl
      have u3 := crow hy4 3 (.slice sk.p sk.n sk.c) rfl
      have g3 := frozen_of_row _ _ 3 _ _ hy4
      have HRUN := hid hrun
      have HI2 := hid hI2
      have HD2 := hid hD2
      clear hrun hI2 hD2 hbox hy4 hX hx ab
      go_upto_region 10 with fail
      rw [← hwb, ← HX.out]
      clear hwb
      go_wp2_with fail
      refine (lnum_ok wb _).mono ?_
      rintro _ wn ⟨rfl, hwn⟩
      rw [hwn]
      clear hwn wn
      try dsimp only
      go_wp2_with (at_builtin; refine wpList_app2 rfl (.tmp 46) (.tmp 48) 22 22 rfl _ _ rfl rfl _ _ HRUN.out ?_)
      go_roundw
      case rel => exact ⟨i + 1, s2, _, by go_num, by omega, HI2.out, HD2.out⟩
      case measure => simp [intOf]; omega
    · have hlti : ¬ ((i : Nat) : Int) < (m : Int) := by omega
      have hme : i = m := by omega
      have HME := hid hme
      clear hme
      have y0 := crow HI.out.y 0 (.int .i64 (k : Nat)) rfl
      have y1 := crow HI.out.y 1 (.int .i64 (g : Nat)) rfl
      have y2 := crow HI.out.y 2 (.int .i64 (o : Nat)) rfl
      have y3 := crow HI.out.y 3 (.slice sk.p sk.n sk.c) rfl
      have y4 := crow HI.out.y 4 (.slice none 0 0) rfl
      obtain ⟨b0, b1, b2, b3, b4⟩ := row5v HD.out
      have p0 := frozen_of_row _ _ 0 _ _ HD.out
      have p1 := frozen_of_row _ _ 1 _ _ HD.out
      have p2 := frozen_of_row _ _ 2 _ _ HD.out
      have p3 := frozen_of_row _ _ 3 _ _ HD.out
      have p4 := frozen_of_row _ _ 4 _ _ HD.out
      obtain ⟨hFe, ae⟩ := set5 (.int .i64 (k : Nat)) (.int .i64 (g : Nat)) (.int .i64 (o : Nat)) (.slice sk.p sk.n sk.c) (.slice none 0 0) HD.out
      obtain ⟨we, hwe⟩ : ∃ V, V = (((((wr.setCell ⟨D, 0, none⟩ (.int .i64 (k : Nat))).setCell ⟨D, 1, none⟩ (.int .i64 (g : Nat))).setCell ⟨D, 2, none⟩ (.int .i64 (o : Nat))).setCell ⟨D, 3, none⟩ (.slice sk.p sk.n sk.c)).setCell ⟨D, 4, none⟩ (.slice none 0 0)) := ⟨_, rfl⟩
      rw [← hwe] at hFe ae
      have HFe := hid hFe
      have HAe : Hid (Apart [] w we) := HI.out.ap.trans' ae (fun y hy => by simp at hy; exact .inr (by rw [hy]; exact HDw.out))
      have HTK : Hid (TK [25] wr we) := TK.one ae HD.out (by simp)
      clear hFe ae
      go_wp2_with fail
      rw [← hwe]
      obtain ⟨d0, d1, d2, d3, d4⟩ := row5v HFe.out
      have HP : ToP w B (.returned (.tuple #[.agg #[.int .i64 (k : Nat), .int .i64 (g : Nat), .int .i64 (o : Nat), .slice sk.p sk.n sk.c, .slice none 0 0], .bool true])) we := by
        have hme := HME.out
        refine ⟨HAe.out, ⟨(k : Nat), (g : Nat), (o : Nat), sk, slz⟩, kk, [], rfl, by rw [HK.out], by rw [HG.out], by rw [HO.out], ?_⟩
        refine ⟨⟨HTK.out.nw HI.out.l HAe.out (by decide), ?_⟩, Nw.none0 HAe.out _ _, ?_, HI.out.mm.grow HTK.out.size, MkE.nil HAe.out⟩
        · have e := HI.out.li.keep HTK.out HAe.out (by decide)
          rw [hme, HM.out, ← csOf_len, List.take_length] at e
          unfold csT
          rw [if_pos (by rw [← HK.out]; exact HK1.out)]
          exact e
        · unfold rsT
          rw [if_pos (by rw [← HK.out]; exact HK1.out)]
          exact ⟨rfl, fun j hj => by simp at hj⟩
      refine bodyPost_ret (v := .tuple #[.agg #[.int .i64 (k : Nat), .int .i64 (g : Nat), .int .i64 (o : Nat), .slice sk.p sk.n sk.c, .slice none 0 0], .bool true]) ?_ rfl HP
      simp [results, Try.results27, go_sem, d0, d1, d2, d3, d4]
set_option maxHeartbeats 16000000 in
set_option maxRecDepth 100000 in
theorem told_2 {w : World} {s : Sl} {B : List Nat} {V : Nat} (h : Pb w s B) (hn : s.n = 2048) (hv : Vw w V s) (hk : (headR B ⟨0, false⟩).1.k ≠ 1) (hg : (endR B).bad = false) : Calls Try.prog 27 #[.pointer (some ⟨V, 0, none⟩)] w fun r w' => ToP w B r w' := by
  have HGD : Hid ((writesR B (headR B ⟨0, false⟩).1.m 0 0 (headR B ⟨0, false⟩).2).2.bad = false) := by
    have := endR_ok1 hg
    unfold bodyR at this
    dsimp only at this
    rw [if_neg hk] at this
    exact this
  have HPB : Hid (∀ W, Apart [] w W → Pb W s B) := fun W a => h.kept0 a
  have HVW : Hid (∀ W, Apart [] w W → Vw W V s) := fun W a => keep0 a hv
  have HN := hid hn
  obtain ⟨k, HK⟩ : ∃ k, Hid (k = (headR B ⟨0, false⟩).1.k) := ⟨_, rfl⟩
  obtain ⟨g, HG⟩ : ∃ k, Hid (k = (headR B ⟨0, false⟩).1.g) := ⟨_, rfl⟩
  obtain ⟨o, HO⟩ : ∃ k, Hid (k = (headR B ⟨0, false⟩).1.o) := ⟨_, rfl⟩
  obtain ⟨m, HM⟩ : ∃ k, Hid (k = (headR B ⟨0, false⟩).1.m) := ⟨_, rfl⟩
  have HK1 : Hid (k ≠ 1) := by unfold Hid; rw [HK.out]; exact hk
  have HC1 : Hid (∀ W, Apart [] w W → Calls Try.prog 29 #[.pointer (some ⟨V, 0, none⟩)] W fun e w' => e = .returned (.int .i64 (k : Nat)) ∧ Apart [] W w') := fun W a => by rw [HK.out]; exact vkind_ok (HPB.out W a) hn (HVW.out W a)
  have HC2 : Hid (∀ W, Apart [] w W → Calls Try.prog 30 #[.pointer (some ⟨V, 0, none⟩)] W fun e w' => e = .returned (.int .i64 (g : Nat)) ∧ Apart [] W w') := fun W a => by rw [HG.out]; exact vgen_ok (HPB.out W a) hn (HVW.out W a)
  have HC3 : Hid (∀ W, Apart [] w W → Calls Try.prog 31 #[.pointer (some ⟨V, 0, none⟩)] W fun e w' => e = .returned (.int .i64 (o : Nat)) ∧ Apart [] W w') := fun W a => by rw [HO.out]; exact vowner_ok (HPB.out W a) hn (HVW.out W a)
  have HC4 : Hid (∀ W, Apart [] w W → Calls Try.prog 20 #[.pointer (some ⟨V, 0, none⟩)] W fun e w' => e = .returned (.int .i64 (m : Nat)) ∧ Apart [] W w') := fun W a => by rw [HM.out]; exact vlen_ok (HPB.out W a) hn (HVW.out W a)
  have hm16 : m ≤ 16 := by rw [HM.out]; exact (headR_at B ⟨0, false⟩).2.2.2.1
  clear h hn hv hk hg
  obtain ⟨D, HXD⟩ : ∃ X, Hid (X = w.heap.size) := ⟨_, rfl⟩
  obtain ⟨w1, hw1⟩ : ∃ W, W = w.alloc (.cells #[.int .i64 0, .int .i64 0, .int .i64 0, .slice none 0 0, .slice none 0 0] 25) := ⟨_, rfl⟩
  have a1 : Apart [] w w1 := by rw [hw1]; exact (Apart.refl [] w).alloc _
  have HD1 : Hid (w1.heap[D]? = some (.cells #[.int .i64 0, .int .i64 0, .int .i64 0, .slice none 0 0, .slice none 0 0] 25 (0, 0))) := by unfold Hid; rw [HXD.out, hw1]; exact heap_alloc_new w _
  have HA1 := hid a1
  have HDw : Hid (w.heap.size ≤ D) := by unfold Hid; rw [HXD.out]; exact Nat.le_refl _
  clear a1
  go_enter Try.func27, Try.ntmps27
  go_upto_region 1 with fail
  rw [← hw1, ← HXD.out]
  clear hw1
  go_wp2_with fail
  refine (HC1.out w1 HA1.out).mono ?_
  rintro _ w2 ⟨rfl, a2⟩
  have HA2 := hid (HA1.out.trans a2)
  have HD2 := hid (keep0 a2 HD1.out)
  clear a2
  dsimp only
  go_wp2_with fail
  refine (HC2.out w2 HA2.out).mono ?_
  rintro _ w3 ⟨rfl, a3⟩
  have HA3 := hid (HA2.out.trans a3)
  have HD3 := hid (keep0 a3 HD2.out)
  clear a3
  dsimp only
  go_wp2_with fail
  refine (HC3.out w3 HA3.out).mono ?_
  rintro _ w4 ⟨rfl, a4⟩
  have HA4 := hid (HA3.out.trans a4)
  have HD4 := hid (keep0 a4 HD3.out)
  clear a4
  dsimp only
  obtain ⟨Y, HXY⟩ : ∃ X, Hid (X = w4.heap.size) := ⟨_, rfl⟩
  obtain ⟨w5, hw5⟩ : ∃ W, W = w4.alloc (.cells #[.int .i64 (k : Nat), .int .i64 (g : Nat), .int .i64 (o : Nat), .slice none 0 0, .slice none 0 0] 25) := ⟨_, rfl⟩
  have a5 : Apart [] w4 w5 := by rw [hw5]; exact (Apart.refl [] w4).alloc _
  have HY5 : Hid (w5.heap[Y]? = some (.cells (pgL k g o slz slz) 25 (0, 0))) := by unfold Hid; rw [HXY.out, hw5]; exact heap_alloc_new w4 _
  have HDY : Hid (D ≠ Y) := by unfold Hid; have := lt_of_heap HD4.out; rw [HXY.out]; omega
  have HYw : Hid (w.heap.size ≤ Y) := by unfold Hid; rw [HXY.out]; exact HA4.out.size
  have HA5 := hid (HA4.out.trans a5)
  have HD5 := hid (keep0 a5 HD4.out)
  clear a5 HC1 HC2 HC3
  go_upto_region 2 with fail
  rw [← hw5, ← HXY.out]
  clear hw5
  go_wp2_with fail
  refine (HC4.out w5 HA5.out).mono ?_
  rintro _ w6 ⟨rfl, a6⟩
  have HA6 := hid (HA5.out.trans a6)
  have HD6 := hid (keep0 a6 HD5.out)
  have HY6 := hid (keep0 a6 HY5.out)
  clear a6 HC4
  dsimp only
  have hm0 : ¬ ((m : Nat) : Int) < 0 := by omega
  have hm1 : ¬ ((m : Nat) : Int) > 16 := by omega
  go_wp2_with fail
  clear hm0 hm1
  go_loopw [6, 9, 10] (fun b _ _ wt => ∃ (i : Nat) (sk : Sl) (kk : List E), b = .int .i64 (i : Nat) ∧ i ≤ m ∧ TW w wt Y B k g o i sk kk ∧ wt.heap[D]? = some (.cells #[.int .i64 0, .int .i64 0, .int .i64 0, .slice none 0 0, .slice none 0 0] 25 (0, 0))) (fun b _ _ _ => m - (intOf b).toNat)
  case atStart => exact ⟨0, slz, [], rfl, Nat.zero_le _, ⟨HA6.out, HY6.out, Nw.none0 HA6.out _ _, rfl, ⟨rfl, fun j hj => by simp at hj⟩, MkE.nil HA6.out⟩, HD6.out⟩
  case round =>
    obtain ⟨i, sk, kk, rfl, hile, hI, hD⟩ := hrel
    have HI := hid hI
    have HD := hid hD
    clear hI hD
    by_cases hlt : i < m
    · have hlti : ((i : Nat) : Int) < (m : Int) := by omega
      have hkb : (((k : Nat) : Int) == 1) = false := by rw [beq_eq_false_iff_ne]; have := HK1.out; omega
      have y0 := crow HI.out.y 0 (.int .i64 (k : Nat)) rfl
      obtain ⟨q1, q3⟩ := rsOf_at (B := B) (i := i) (by rw [← HK.out]; exact HK1.out) (by rw [← HM.out]; exact hlt) HGD.out
      have hcall := vwriteW_ok (HPB.out wr HI.out.ap) HN.out (HVW.out wr HI.out.ap) (i : Int)
      obtain ⟨ke, Hke⟩ : ∃ k, Hid (k = keyOf B) := ⟨_, rfl⟩
      have HQ : Hid (∀ e w', WvP wr B (i : Int) e w' → ∃ v x : Sl, e = .returned (.tuple #[.agg #[.int .i64 ((vPw B (i : Int)).n : Nat), .int .i64 ((vPw B (i : Int)).c : Nat), .string ke, .bool (vPw B (i : Int)).d, .slice v.p v.n v.c, .slice x.p x.n x.c], .int .i64 0]) ∧ Bf wr w' v ((B.drop (vPw B (i : Int)).vb).take (vPw B (i : Int)).vn) ∧ Nw wr w' 85 3 x (flat (vPw B (i : Int)).xs)) := fun e w' hh => by
        have := hh.ok q1
        rw [Hke.out]
        exact this
      rw [← Hke.out] at q3
      have HQ3 := hid q3
      have HCALL := hid hcall
      clear q1 q3 hcall
      unfold wfn at HQ3
      generalize vPw B (i : Int) = pw at HQ HQ3
      go_wp2_with fail
      refine HCALL.out.mono ?_
      intro e wa hh
      obtain ⟨v, x, rfl, hbv, hx⟩ := HQ.out e wa hh
      clear hh HCALL HQ y0
      obtain ⟨e1, He1⟩ : ∃ e : E, Hid (e = ⟨(pw.n : Nat), (pw.c : Nat), ke, pw.d, v, x⟩) := ⟨_, rfl⟩
      have q1 : ((pw.n : Nat) : Int) = e1.n := by rw [He1.out]
      have q2 : ((pw.c : Nat) : Int) = e1.c := by rw [He1.out]
      have q3 : ke = e1.k := by rw [He1.out]
      have q4 : pw.d = e1.d := by rw [He1.out]
      have q5 : (Value.slice v.p v.n v.c) = .slice e1.v.p e1.v.n e1.v.c := by rw [He1.out]
      have q6 : (Value.slice x.p x.n x.c) = .slice e1.x.p e1.x.n e1.x.c := by rw [He1.out]
      dsimp only
      rw [q5, q6, q1, q2, q3, q4]
      clear q1 q2 q3 q4 q5 q6
      obtain ⟨X, HX⟩ : ∃ X, Hid (X = wa.heap.size) := ⟨_, rfl⟩
      obtain ⟨wb, hwb⟩ : ∃ V, V = wa.alloc (.cells #[.int .i64 e1.n, .int .i64 e1.c, .string e1.k, .bool e1.d, .slice e1.v.p e1.v.n e1.v.c, .slice e1.x.p e1.x.n e1.x.c] 50) := ⟨_, rfl⟩
      have ab : Apart [] wa wb := by rw [hwb]; exact (Apart.refl [] wa).alloc _
      have hX : wb.heap[X]? = some (.cells #[.int .i64 e1.n, .int .i64 e1.c, .string e1.k, .bool e1.d, .slice e1.v.p e1.v.n e1.v.c, .slice e1.x.p e1.x.n e1.x.c] 50 (0, 0)) := by rw [hwb, HX.out]; exact heap_alloc_new wa _
      obtain ⟨x0, x1, x2, x3, x4, x5⟩ := rowv6 hX
      obtain ⟨s2, W2, hrun, hy4, hI2, hbox⟩ := HI.out.next (by omega) HYw.out (hx.ap.trans ab) e1 HQ3.out ⟨by rw [He1.out], by rw [He1.out], by rw [He1.out], by rw [He1.out]⟩ (by rw [He1.out]; exact hbv.kept ab) (by rw [He1.out]; exact hx.kept ab)
      have hD2 := hbox D _ HDY.out (keep0 (hx.ap.trans ab) HD.out)
      have v3 := crow (keep0 (hx.ap.trans ab) HI.out.y) 4 (.slice sk.p sk.n sk.c) rfl
      have u3 := crow hy4 4 (.slice sk.p sk.n sk.c) rfl
      have g3 := frozen_of_row _ _ 4 _ _ hy4
      have HRUN := hid hrun
      have HI2 := hid hI2
      have HD2 := hid hD2
      clear hrun hI2 hD2 hbox hy4 hX hx ab hbv
      go_upto_region 14 with fail
      rw [← hwb, ← HX.out]
      clear hwb
      go_wp2_with fail
      refine (lnum_ok wb _).mono ?_
      rintro _ wn ⟨rfl, hwn⟩
      rw [hwn]
      clear hwn wn
      try dsimp only
      go_wp2_with (at_builtin; refine wpList_app2 rfl (.tmp 62) (.tmp 64) 23 23 rfl _ _ rfl rfl _ _ HRUN.out ?_)
      go_roundw
      case rel => exact ⟨i + 1, s2, _, by go_num, by omega, HI2.out, HD2.out⟩
      case measure => simp [intOf]; omega
    · have hlti : ¬ ((i : Nat) : Int) < (m : Int) := by omega
      have hme : i = m := by omega
      have HME := hid hme
      clear hme
      have y0 := crow HI.out.y 0 (.int .i64 (k : Nat)) rfl
      have y1 := crow HI.out.y 1 (.int .i64 (g : Nat)) rfl
      have y2 := crow HI.out.y 2 (.int .i64 (o : Nat)) rfl
      have y3 := crow HI.out.y 3 (.slice none 0 0) rfl
      have y4 := crow HI.out.y 4 (.slice sk.p sk.n sk.c) rfl
      obtain ⟨b0, b1, b2, b3, b4⟩ := row5v HD.out
      have p0 := frozen_of_row _ _ 0 _ _ HD.out
      have p1 := frozen_of_row _ _ 1 _ _ HD.out
      have p2 := frozen_of_row _ _ 2 _ _ HD.out
      have p3 := frozen_of_row _ _ 3 _ _ HD.out
      have p4 := frozen_of_row _ _ 4 _ _ HD.out
      obtain ⟨hFe, ae⟩ := set5 (.int .i64 (k : Nat)) (.int .i64 (g : Nat)) (.int .i64 (o : Nat)) (.slice none 0 0) (.slice sk.p sk.n sk.c) HD.out
      obtain ⟨we, hwe⟩ : ∃ V, V = (((((wr.setCell ⟨D, 0, none⟩ (.int .i64 (k : Nat))).setCell ⟨D, 1, none⟩ (.int .i64 (g : Nat))).setCell ⟨D, 2, none⟩ (.int .i64 (o : Nat))).setCell ⟨D, 3, none⟩ (.slice none 0 0)).setCell ⟨D, 4, none⟩ (.slice sk.p sk.n sk.c)) := ⟨_, rfl⟩
      rw [← hwe] at hFe ae
      have HFe := hid hFe
      have HAe : Hid (Apart [] w we) := HI.out.ap.trans' ae (fun y hy => by simp at hy; exact .inr (by rw [hy]; exact HDw.out))
      have HTK : Hid (TK [25] wr we) := TK.one ae HD.out (by simp)
      clear hFe ae
      go_wp2_with fail
      rw [← hwe]
      obtain ⟨d0, d1, d2, d3, d4⟩ := row5v HFe.out
      have HP : ToP w B (.returned (.tuple #[.agg #[.int .i64 (k : Nat), .int .i64 (g : Nat), .int .i64 (o : Nat), .slice none 0 0, .slice sk.p sk.n sk.c], .bool true])) we := by
        have hme := HME.out
        refine ⟨HAe.out, ⟨(k : Nat), (g : Nat), (o : Nat), slz, sk⟩, [], kk, rfl, by rw [HK.out], by rw [HG.out], by rw [HO.out], ?_⟩
        refine ⟨⟨Nw.none0 HAe.out _ _, ?_⟩, HTK.out.nw HI.out.l HAe.out (by decide), ?_, MkK.nil HAe.out, HI.out.mm.grow HTK.out.size⟩
        · unfold csT
          rw [if_neg (by rw [← HK.out]; exact HK1.out)]
          exact ⟨rfl, fun j hj => by simp at hj⟩
        · have e := HI.out.li.keep HTK.out HAe.out (by decide) (by decide)
          rw [hme, HM.out, ← rsOf_len, List.take_length] at e
          unfold rsT
          rw [if_neg (by rw [← HK.out]; exact HK1.out)]
          exact e
      refine bodyPost_ret (v := .tuple #[.agg #[.int .i64 (k : Nat), .int .i64 (g : Nat), .int .i64 (o : Nat), .slice none 0 0, .slice sk.p sk.n sk.c], .bool true]) ?_ rfl HP
      simp [results, Try.results27, go_sem, d0, d1, d2, d3, d4]
theorem told_ok {w : World} {s : Sl} {B : List Nat} {V : Nat} (h : Pb w s B) (hn : s.n = 2048) (hv : Vw w V s) (hg : (endR B).bad = false) : Calls Try.prog 27 #[.pointer (some ⟨V, 0, none⟩)] w fun r w' => ToP w B r w' := by
  by_cases hk : (headR B ⟨0, false⟩).1.k = 1
  · exact told_1 h hn hv hk hg
  · exact told_2 h hn hv hk hg
end Go.Proofs.Ytllhmidpphlbhaa.ds
