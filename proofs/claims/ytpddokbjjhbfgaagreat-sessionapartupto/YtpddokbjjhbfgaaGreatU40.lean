import Derived.Test.YtpddokbjjhbfgaaGreatChecked
import Derived.WalkKit
import Derived.ProofKit
import Derived.Maps.OwnSet
import Derived.Maps.RangeWalk
import Derived.DeepKeys4
import Derived.MapViews
import Derived.StringKeys
import Derived.Lib.TrailingZeros
import Derived.OpenShut
import Derived.Deep.QuietTactic
import Derived.BigQuiet
import Derived.BigRegion
import Derived.Laws.CopyOwn
import Derived.Laws.Bits64b
import Derived.Laws.MathBits
import Derived.Laws.ShiftsVarLaws
import Derived.WalkSmall
import Derived.Laws.ResultCell
import Derived.Lib.BitFns
import Derived.Laws.StructEq
import Derived.Deep.RegionHeld
import Derived.ArgAppend
import Derived.Deep.RegionLaw
import Derived.Deep.DeepAppendRoom
import Derived.Sort.WalkA
import Derived.Laws.Strings
import Derived.Deep.CutBlock
import Derived.Great.BuildSlice
import Derived.Laws.BytesString
import Derived.Laws.AppendOwnNone
import Derived.Lib.Overlaps
import Derived.Lib.AppendZerosOnto
import Derived.Laws.NewBlocks
import Derived.Laws.Externs
import Derived.Laws.IdiomCopy
import Derived.RangeFuncNested
import Derived.RangeFuncBound
import Derived.RangeFuncCalls
import Derived.RangeFuncLeaves
import Derived.Shelf.Abstract
import Derived.Shelf.RegionOpen
import Derived.OwnWalkIn
import Derived.TacticsInMore
import Derived.LoopNIn
import Derived.LoopIn
import Derived.Deep.CutRange
import Derived.Deep.OwnRows
import Derived.Lib.Walk
import Derived.Lib.SliceRun
import GoSem.Claim
import GoSem.ClaimJoined
import GoSem.ClaimMapViews
import Derived.JoinedTies
import Derived.KernelRfl
import Derived.Lib.LaidTab
import Derived.JoinedCond
import Derived.ShutString
import Derived.ChangeOld
import Derived.Below
import Derived.Carry
import Derived.ChangeSlices
import Derived.Deep.Slices
import Derived.Deep.DeepHandedRow
import Derived.RowKit
import Derived.ChangeShapes
import Derived.SizedLaws
import Derived.ChangeMaps5
import Derived.OrdersHeld
import Derived.Lib.AppendStr
import Derived.Lib.ConvBytes
import Derived.Deep.RegionHeld3
import Derived.Deep.MidRow
import Derived.Laws.BitsAllLaws
import Derived.Sort.Grow
import Derived.Shelf.SlSortCmp.WholeK
import Derived.Shelf.Lay
import Derived.Ground.SlsfProg
import Derived.Sort.LotA
import Derived.Sort.MapsRangeIn
import Derived.RangeFuncSeq
import Derived.RangeFuncKeeps
import Derived.Maps.AppendAt
import Derived.OwnWalk
import Derived.Test.YtpddokbjjhbfgaaGreatRows
import Derived.Test.YtpddokbjjhbfgaaGreatU33
import Derived.Test.YtpddokbjjhbfgaaGreatU39
namespace Go.Proofs.YtpddokbjjhbfgaaGreat.ds
open Go.ChangeShapes Go.WideShapes Go.ChangeAt Go.RowKit Go.Sort
set_option linter.unusedVariables false
set_option linter.unusedSimpArgs false
/-- the document's session, just made -/
theorem RNewP.rs {w : World} {c : Cf} {nn rr pp j : Nat} {r : Ending} {w' : World} (h : RNewP w c nn rr j r w') (hcn : c.n = nn) (hcr : c.r = rr) (hcp : c.p = pp) (p1 : 1 ≤ pp) (pn : pp ≤ nn) : ∃ T : Ts, r = .returned (.tuple #[.pointer (some ⟨T.S, 0, none⟩), .int .i64 0]) ∧ Rs w' T c nn rr pp (likeL nn j nn) (fun _ => ([], 0)) 0 ∧ Apart [] w w' ∧ ∀ k, T.has k → w.heap.size ≤ k := by
  obtain ⟨S, R, s, h1, h2, h3, h4, h5, h6, h7, h8⟩ := h
  refine ⟨⟨S, R, s, slz, []⟩, h1, ⟨hcn, hcr, hcp, p1, pn, h2, h3, ⟨h7, by simp [slz, Sl.v, Value.ownBlock]⟩, h4.own, by simp [likeL, likeN], World.ownsRow_nil _ _ _ _, Nat.le_refl _, by simp, fun s _ => rfl⟩, h4.ap, fun k hk => ?_⟩
  rcases hk with e | e | e | e | ⟨x, hx, e⟩
  · rw [e]; exact h5
  · rw [e]; exact h6
  · exact h4.new k e
  · simp [slz, Sl.v, Value.ownBlock] at e
  · cases hx
theorem pref_ex {nn rr pp : Nat} (n1 : 1 ≤ nn) (n8 : nn ≤ 8) (m1 : 1 ≤ rr) (m16 : rr ≤ 16) (p1 : 1 ≤ pp) {lk : List Int} (lm : ∀ v : Int, v ∈ lk ↔ 0 ≤ v ∧ v < nn) (s : ByteArray) : ∃ y ∈ lk, y ∈ prefK nn rr pp s := by
  unfold prefK
  obtain ⟨q, hq⟩ : ∃ q, q = rg.hashN (rg.strN s) % rr := ⟨_, rfl⟩
  rw [← hq]
  have hqr : q < rr := by rw [hq]; exact Nat.mod_lt _ m1
  have hl := rg.ord_len nn (by omega) q (by omega)
  have hl0 : 0 < (rg.ord nn q).length := by omega
  have hlt := ord_below nn (by omega) q (by omega) _ (List.getElem_mem hl0)
  refine ⟨((rg.ord nn q)[0] : Nat), (lm _).2 ⟨by omega, by omega⟩, ?_⟩
  unfold rg.ints
  rw [List.mem_map]
  exact ⟨(rg.ord nn q)[0], by rw [List.mem_take_iff_getElem]; exact ⟨0, by omega, rfl⟩, rfl⟩
def kkey : ByteArray := { data := #[107, 101, 121] }
theorem kkey_key : keyR kkey = true ∧ kkey.size ≤ maxLen := ⟨by decide +kernel, by unfold kkey maxLen; decide⟩
set_option maxHeartbeats 8000000 in
set_option maxRecDepth 100000 in
/-- New that is refused, alike by both -/
theorem news_bad (w : World) (c : Cf) (first er : Int) (h1 : ∀ W, Calls Tryz.prog 11 #[.agg c.a, .int .i64 first] W fun r w' => r = .returned (.tuple #[.pointer none, .int .i64 er]) ∧ Apart [] W w') (h2 : ∀ W, Calls Tryz.prog 26 #[.agg c.a, .int .i64 first] W fun r w' => r = .returned (.tuple #[.pointer none, .int .i64 er]) ∧ Apart [] W w') : Calls Tryz.prog 5 #[.agg c.a, .int .i64 first] w fun r w' => r = .returned (.bool true) ∧ Apart [] w w' := by
  have HN := hid h1
  have HR := hid h2
  obtain ⟨C, HXC⟩ : ∃ X, Hid (X = w.heap.size) := ⟨_, hid rfl⟩
  obtain ⟨w1, hw1⟩ : ∃ V, V = w.alloc (.cells c.a 27) := ⟨_, rfl⟩
  have a1 : Apart [] w w1 := by rw [hw1]; exact (Apart.refl [] w).alloc _
  have hC1 : w1.heap[C]? = some (.cells c.a 27 (0, 0)) := by rw [hw1, HXC.out]; exact heap_alloc_new w _
  have HC1 := hid hC1
  have HA1 := hid a1
  clear a1 hC1 h1 h2
  unfold Cf.a at hw1 HC1 HN HR ⊢
  go_enter Tryz.func5, Tryz.ntmps5
  go_upto_region 1 with fail
  rw [← hw1, ← HXC.out]
  clear hw1 HXC
  go_wp2_with fail
  refine (alive_ok w1).mono ?_
  rintro _ w2 ⟨rfl, a2⟩
  have HC2 := hid (keep0 a2 HC1.out)
  have HA2 := hid (HA1.out.trans a2)
  clear a2
  have g0 := crow HC2.out 0 (.int .i64 c.n) rfl
  have g1 := crow HC2.out 1 (.int .i64 c.p) rfl
  have g2 := crow HC2.out 2 (.int .i64 c.r) rfl
  have g3 := crow HC2.out 3 (.int .i64 c.s) rfl
  have g4 := crow HC2.out 4 (.int .i64 c.g) rfl
  have g5 := crow HC2.out 5 (.int .i64 c.c) rfl
  have g6 := crow HC2.out 6 (.int .i64 c.k) rfl
  have g7 := crow HC2.out 7 (.int .i64 c.h) rfl
  have g8 := crow HC2.out 8 (.int .i64 c.b) rfl
  try dsimp only
  go_wp2_with fail
  refine (HN.out w2).mono ?_
  rintro _ w3 ⟨rfl, a3⟩
  have HC3 := hid (keep0 a3 HC2.out)
  have HA3 := hid (HA2.out.trans a3)
  clear a3 g0 g1 g2 g3 g4 g5 g6 g7 g8
  have g0 := crow HC3.out 0 (.int .i64 c.n) rfl
  have g1 := crow HC3.out 1 (.int .i64 c.p) rfl
  have g2 := crow HC3.out 2 (.int .i64 c.r) rfl
  have g3 := crow HC3.out 3 (.int .i64 c.s) rfl
  have g4 := crow HC3.out 4 (.int .i64 c.g) rfl
  have g5 := crow HC3.out 5 (.int .i64 c.c) rfl
  have g6 := crow HC3.out 6 (.int .i64 c.k) rfl
  have g7 := crow HC3.out 7 (.int .i64 c.h) rfl
  have g8 := crow HC3.out 8 (.int .i64 c.b) rfl
  try dsimp only
  go_wp2_with fail
  refine (HR.out w3).mono ?_
  rintro _ w4 ⟨rfl, a4⟩
  have HA4 := hid (HA3.out.trans a4)
  clear a4 g0 g1 g2 g3 g4 g5 g6 g7 g8
  have hee : (er == er) = true := by simp
  have hne : (er != er) = false := by simp
  try dsimp only
  go_wp2_with fail
  go_ret
  exact ⟨rfl, HA4.out⟩
set_option maxHeartbeats 8000000 in
set_option maxRecDepth 100000 in
theorem news_good (w : World) (c : Cf) (hc : CR c = true) (nn rr pp j : Nat) (hcn : c.n = nn) (hcr : c.r = rr) (hcp : c.p = pp) (hj : j < nn) (hB : 1 ≤ nn ∧ nn ≤ 8 ∧ 1 ≤ rr ∧ rr ≤ 16 ∧ 1 ≤ pp ∧ pp ≤ nn) : Calls Tryz.prog 5 #[.agg c.a, .int .i64 (j : Nat)] w fun r w' => r = .returned (.bool true) ∧ Apart [] w w' := by
  have HN : Hid (∀ W, Calls Tryz.prog 11 #[.agg c.a, .int .i64 (j : Nat)] W fun r w' => NewP W c nn rr pp j r w') := fun W => new_ok W c hc nn rr pp j hcn hcr hcp hj
  have HR : Hid (∀ W, Calls Tryz.prog 26 #[.agg c.a, .int .i64 (j : Nat)] W fun r w' => RNewP W c nn rr j r w') := fun W => rnew_ok W c hc nn rr pp j hcn hcr hcp hj
  have HEQ := hid (And.intro hcn (And.intro hcr hcp))
  have HB := hid hB
  obtain ⟨C, HXC⟩ : ∃ X, Hid (X = w.heap.size) := ⟨_, hid rfl⟩
  obtain ⟨w1, hw1⟩ : ∃ V, V = w.alloc (.cells c.a 27) := ⟨_, rfl⟩
  have a1 : Apart [] w w1 := by rw [hw1]; exact (Apart.refl [] w).alloc _
  have hC1 : w1.heap[C]? = some (.cells c.a 27 (0, 0)) := by rw [hw1, HXC.out]; exact heap_alloc_new w _
  have HC1 := hid hC1
  have HA1 := hid a1
  have HLM : Hid (∀ v : Int, v ∈ likeL nn j nn ↔ 0 ≤ v ∧ v < nn) := hid (fun v => likeL_mem (by omega) hj v)
  clear a1 hC1 hc hcn hcr hcp hj hB
  unfold Cf.a at hw1 HC1 HN HR ⊢
  go_enter Tryz.func5, Tryz.ntmps5
  go_upto_region 1 with fail
  rw [← hw1, ← HXC.out]
  clear hw1 HXC
  go_wp2_with fail
  refine (alive_ok w1).mono ?_
  rintro _ w2 ⟨rfl, a2⟩
  have HC2 := hid (keep0 a2 HC1.out)
  have HA2 := hid (HA1.out.trans a2)
  clear a2
  have g0 := crow HC2.out 0 (.int .i64 c.n) rfl
  have g1 := crow HC2.out 1 (.int .i64 c.p) rfl
  have g2 := crow HC2.out 2 (.int .i64 c.r) rfl
  have g3 := crow HC2.out 3 (.int .i64 c.s) rfl
  have g4 := crow HC2.out 4 (.int .i64 c.g) rfl
  have g5 := crow HC2.out 5 (.int .i64 c.c) rfl
  have g6 := crow HC2.out 6 (.int .i64 c.k) rfl
  have g7 := crow HC2.out 7 (.int .i64 c.h) rfl
  have g8 := crow HC2.out 8 (.int .i64 c.b) rfl
  try dsimp only
  go_wp2_with fail
  refine (HN.out w2).mono ?_
  rintro _ w3 ⟨G, rfl, hS, a3, -⟩
  have HC3 := hid (keep0 a3 HC2.out)
  have HA3 := hid (HA2.out.trans a3)
  have HS3 := hid hS
  clear a3 hS g0 g1 g2 g3 g4 g5 g6 g7 g8
  have g0 := crow HC3.out 0 (.int .i64 c.n) rfl
  have g1 := crow HC3.out 1 (.int .i64 c.p) rfl
  have g2 := crow HC3.out 2 (.int .i64 c.r) rfl
  have g3 := crow HC3.out 3 (.int .i64 c.s) rfl
  have g4 := crow HC3.out 4 (.int .i64 c.g) rfl
  have g5 := crow HC3.out 5 (.int .i64 c.c) rfl
  have g6 := crow HC3.out 6 (.int .i64 c.k) rfl
  have g7 := crow HC3.out 7 (.int .i64 c.h) rfl
  have g8 := crow HC3.out 8 (.int .i64 c.b) rfl
  try dsimp only
  go_wp2_with fail
  refine (HR.out w3).mono ?_
  intro r4 w4 hr4
  obtain ⟨T, rfl, hT, a4, -⟩ := hr4.rs HEQ.out.1 HEQ.out.2.1 HEQ.out.2.2 HB.out.2.2.2.2.1 HB.out.2.2.2.2.2
  have HA4 := hid (HA3.out.trans a4)
  have HS4 := hid (HS3.out.kept0 a4)
  have HT4 := hid hT
  clear a4 hT hr4 g0 g1 g2 g3 g4 g5 g6 g7 g8
  try dsimp only
  go_wp2_with fail
  refine (next_ok HS4.out HB.out.2.1 kkey kkey_key.2).mono ?_
  intro r5 w5 h5
  rw [kkey_key.1] at h5
  obtain ⟨v, rfl, hv⟩ := h5.2.1 rfl
  have a5 := h5.2.2
  have HV := hid hv
  have HA5 := hid (HA4.out.trans a5)
  have HS5 := hid (HS4.out.kept0 a5)
  have HT5 := hid (HT4.out.kept0 a5)
  clear a5 h5 hv
  try dsimp only
  go_wp2_with fail
  refine (rnext_ok HT5.out HB.out.2.1 kkey kkey_key.2 (pref_ex HB.out.1 HB.out.2.1 HB.out.2.2.1 HB.out.2.2.2.1 HB.out.2.2.2.2.1 HLM.out kkey)).mono ?_
  intro r6 w6 h6
  rw [kkey_key.1] at h6
  obtain ⟨v2, rfl, hv2⟩ := h6.2.1 rfl
  have a6 := h6.2.2
  rw [HV.out] at hv2
  simp at hv2
  subst hv2
  have HA6 := hid (HA5.out.trans a6)
  have HS6 := hid (HS5.out.kept0 a6)
  clear a6 h6
  have hee : (v == v) = true := by simp
  try dsimp only
  go_wp2_with fail
  refine (token_ok HS6.out (s := kkey) kkey_key.2).mono ?_
  rintro _ w7 ⟨rfl, hw7⟩
  rw [hw7]
  clear hw7 w7
  try dsimp only
  go_wp2_with fail
  refine (heads_ok HS6.out (by omega) (s := kkey) kkey_key.2).mono ?_
  rintro _ w8 ⟨s, rfl, hn⟩
  have hs0 : s.n = 0 := by have := hn.own.1; rw [flD_len] at this; simp at this; omega
  have HA8 := hid (HA6.out.trans hn.ap)
  clear hn
  rw [hs0]
  try dsimp only
  go_wp2_with fail
  go_ret
  exact ⟨rfl, HA8.out⟩
/-- SessionNews -/
theorem news_walk (w : World) (c : Cf) (first : Int) : Calls Tryz.prog 5 #[.agg c.a, .int .i64 first] w fun r w' => r = .returned (.bool true) ∧ Apart [] w w' := by
  by_cases hc : CR c = true
  · by_cases hf : first < 0 ∨ first ≥ c.n
    · exact news_bad w c first 4 (fun W => new_node W c hc first hf) (fun W => rnew_node W c hc first hf)
    · obtain ⟨nn, rr, pp, hcn, hcr, hcp, b1, b2, b3, b4, b5, b6⟩ := cfg_nat hc
      have := news_good w c hc nn rr pp first.toNat hcn hcr hcp (by omega) ⟨b1, b2, b3, b4, b5, b6⟩
      rw [Int.toNat_of_nonneg (by omega)] at this
      exact this
  · have hc2 : CR c = false := by simpa using hc
    exact news_bad w c first 1 (fun W => new_arg W c hc2 first) (fun W => rnew_arg W c hc2 first)
end Go.Proofs.YtpddokbjjhbfgaaGreat.ds
namespace Go.Proofs.YtpddokbjjhbfgaaGreat.ds
open Go.ChangeShapes Go.WideShapes Go.ChangeAt Go.RowKit Go.Sort
set_option linter.unusedVariables false
set_option linter.unusedSimpArgs false
set_option maxHeartbeats 4000000 in
set_option maxRecDepth 100000 in
/-- the document's Set -/
theorem dset_ok {w : World} (c : Cf) {p : Option Addr} {N cap : Nat} {xs : List S} (h : L w p N xs) : Calls Tryz.prog 115 #[.agg c.a, .slice p N cap] w fun r w' => r = .returned (.bool (setR c xs)) ∧ Apart [] w w' := by
  obtain ⟨X, HX⟩ : ∃ X, Hid (X = w.heap.size) := ⟨_, hid rfl⟩
  obtain ⟨w1, hw1⟩ : ∃ V, V = w.alloc (.cells c.a 27) := ⟨_, rfl⟩
  have a1 : Apart [] w w1 := by rw [hw1]; exact (Apart.refl [] w).alloc _
  have hb1 : w1.heap[X]? = some (.cells c.a 27 (0, 0)) := by rw [hw1, HX.out]; exact heap_alloc_new w _
  have HB1 := hid hb1
  have HL1 := hid (h.kept0 a1)
  have HLEN := hid h.len
  have hlim := h.lim
  have HA := hid a1
  obtain ⟨e, He⟩ : ∃ e, Hid (e = chk xs c.g) := ⟨_, hid rfl⟩
  have HCK : Hid (Calls Tryz.prog 127 #[.slice p N cap, .int .i64 c.g] w1 fun r w' => r = .returned (.int .i64 e) ∧ Apart [] w1 w') := hid (rchk_ok HL1.out e He.out)
  obtain ⟨ans, Hans⟩ : ∃ b, Hid (b = setR c xs) := ⟨_, hid rfl⟩
  rw [← Hans.out]
  have c4 := crow hb1 4 (.int .i64 c.g) rfl
  clear a1 hb1 h
  unfold Cf.a at hw1
  go_enter Tryz.func115, Tryz.ntmps115
  go_upto_region 1 with fail
  rw [← hw1, ← HX.out]
  clear hw1 HX
  go_wp2_with fail
  refine HCK.out.mono ?_
  rintro _ w2 ⟨rfl, a2⟩
  have HA2 := hid a2
  have HB2 := hid (keep0 a2 HB1.out)
  have HL2 := hid (HL1.out.kept0 a2)
  clear a2 c4 HCK
  try dsimp only
  by_cases h0 : e = 0
  · have hz : (e == 0) = true := by simp [h0]
    have hzn : (e != 0) = false := by simp [h0]
    have hok : OkL c.g xs ∧ 1 ≤ c.g ∧ c.g ≤ 64 := by
      have := He.out
      rw [h0] at this
      unfold chk at this
      split at this
      · rename_i hg
        split at this
        · rename_i hk; exact ⟨hk, hg⟩
        · omega
      · omega
    have HOK := hid hok
    have HAN : Hid (ans = !xs.any (outR c)) := hid (by rw [Hans.out]; unfold setR; rw [← He.out, h0]; simp)
    clear hok h0 He Hans
    go_wp2_with fail
    go_loopw [5] (fun a wt => ∃ i : Nat, a = .int .i64 (i : Nat) ∧ i ≤ N ∧ Hid (Apart [] w2 wt ∧ ∀ j, j < i → outR c (g xs j) = false)) (fun a _ => N - (intOf a).toNat)
    case atStart => exact ⟨0, rfl, Nat.zero_le _, hid ⟨Apart.refl _ _, fun j hj => by omega⟩⟩
    case round =>
      obtain ⟨i, rfl, hile, HI⟩ := hrel
      by_cases hlt : i < N
      · have hlti : ((i : Nat) : Int) < ((N : Nat) : Int) := by omega
        obtain ⟨P, o, hP, hPl, hc⟩ := HL2.out.sp (by rw [HLEN.out]; omega)
        have hci := hc i (by rw [HLEN.out]; exact hlt)
        obtain ⟨x, Hx⟩ : ∃ x, Hid (x = g xs i) := ⟨_, hid rfl⟩
        have hmem : x ∈ xs := by rw [Hx.out]; exact g_mem (by rw [HLEN.out]; exact hlt)
        have HXB : Hid ((0 ≤ x.b ∧ x.b ≤ 1048576) ∧ x.t < 2 ^ 64) := hid ⟨okl_b HOK.out.1 x hmem, HL2.out.fit x hmem⟩
        rw [← Hx.out] at hci
        have HCW : Hid (∀ W, Apart [] w2 W → (W.cell? ⟨P, o + i * 3, none⟩ = some (.int .i64 x.n) ∧ W.cell? ⟨P, o + i * 3 + 1, none⟩ = some (.int .i64 x.b) ∧ W.cell? ⟨P, o + i * 3 + 2, none⟩ = some (.int .u64 (x.t : Nat))) ∧ W.cell? ⟨X, 0, none⟩ = some (.int .i64 c.n) ∧ W.cell? ⟨X, 5, none⟩ = some (.int .i64 c.c)) := fun W a => ⟨⟨(a.cell hPl (by simp)).trans hci.1, (a.cell hPl (by simp)).trans hci.2.1, (a.cell hPl (by simp)).trans hci.2.2⟩, crow (keep0 a HB2.out) 0 _ rfl, crow (keep0 a HB2.out) 5 _ rfl⟩
        clear hc hci hmem hPl
        subst hP
        obtain ⟨q1, Hq1⟩ : ∃ b : Bool, Hid (b = decide (x.n ≥ c.n)) := ⟨_, hid rfl⟩
        obtain ⟨q2, Hq2⟩ : ∃ b : Bool, Hid (b = decide (top x > c.c)) := ⟨_, hid rfl⟩
        have HOU : Hid (outR c (g xs i) = (q1 || q2)) := hid (by rw [← Hx.out, Hq1.out, Hq2.out]; rfl)
        go_upto_region 6 with fail
        go_cut [34] from 17 to 34 (fun s34 wx => s34 = .bool (q1 || q2) ∧ Hid (Apart [] w2 wx))
        case first =>
          have hAd : Apart [] w2 wr.drew := HI.out.1.trans ((Apart.refl [] wr).drew)
          refine wp_region_held_drew (S := fun W => Apart [] w2 W) (by kernel_rfl) hAd (fun hHeld => ?_)
          generalize wr.drew = wd at *
          clear hAd
          refine tk 0 17 (.slice (some ⟨P, o, none⟩) N cap) rfl ?_ ?_
          · intro W hSW; go_simp
          simp only [Act.put, List.setIfInBounds_toArray, List.set_cons_zero, List.set_cons_succ]
          refine tk 1 18 (.int .i64 (i : Nat)) rfl ?_ ?_
          · intro W hSW; go_simp
          simp only [Act.put, List.setIfInBounds_toArray, List.set_cons_zero, List.set_cons_succ]
          refine tk 2 19 (.pointer (some ⟨P, o + i * 3, none⟩)) rfl ?_ ?_
          · intro W hSW; go_simp
          simp only [Act.put, List.setIfInBounds_toArray, List.set_cons_zero, List.set_cons_succ]
          refine tk 3 20 (.pointer (some ⟨P, o + i * 3, none⟩)) rfl ?_ ?_
          · intro W hSW; go_simp
          simp only [Act.put, List.setIfInBounds_toArray, List.set_cons_zero, List.set_cons_succ]
          refine tk 4 21 (.int .i64 x.n) rfl ?_ ?_
          · intro W hSW; obtain ⟨⟨u0, u1, u2⟩, u3, u4⟩ := HCW.out W hSW; go_simp
          simp only [Act.put, List.setIfInBounds_toArray, List.set_cons_zero, List.set_cons_succ]
          refine tk 5 22 (.pointer (some ⟨X, 0, none⟩)) rfl ?_ ?_
          · intro W hSW; go_simp
          simp only [Act.put, List.setIfInBounds_toArray, List.set_cons_zero, List.set_cons_succ]
          refine tk 6 23 (.int .i64 c.n) rfl ?_ ?_
          · intro W hSW; obtain ⟨⟨u0, u1, u2⟩, u3, u4⟩ := HCW.out W hSW; go_simp
          simp only [Act.put, List.setIfInBounds_toArray, List.set_cons_zero, List.set_cons_succ]
          refine tk 7 24 (.bool q1) rfl ?_ ?_
          · intro W hSW; rw [Hq1.out]; go_simp
          simp only [Act.put, List.setIfInBounds_toArray, List.set_cons_zero, List.set_cons_succ]
          refine tk 8 25 (.bool q1) rfl ?_ ?_
          · intro W hSW; go_simp
          simp only [Act.put, List.setIfInBounds_toArray, List.set_cons_zero, List.set_cons_succ]
          cases q1 with
          | true =>
            refine tu 9 26 rfl ?_
            simp only [Act.put, List.setIfInBounds_toArray, List.set_cons_zero, List.set_cons_succ]
            refine tu 10 27 rfl ?_
            simp only [Act.put, List.setIfInBounds_toArray, List.set_cons_zero, List.set_cons_succ]
            refine tu 11 28 rfl ?_
            simp only [Act.put, List.setIfInBounds_toArray, List.set_cons_zero, List.set_cons_succ]
            refine tu 12 29 rfl ?_
            simp only [Act.put, List.setIfInBounds_toArray, List.set_cons_zero, List.set_cons_succ]
            refine tu 14 31 rfl ?_
            simp only [Act.put, List.setIfInBounds_toArray, List.set_cons_zero, List.set_cons_succ]
            refine tu 15 32 rfl ?_
            simp only [Act.put, List.setIfInBounds_toArray, List.set_cons_zero, List.set_cons_succ]
            refine wpAnyH_pass 13 (o := ⟨some 30, _, _, _, _, _⟩) (by kernel_rfl) rfl (by kernel_rfl) (by assumption) ?_
            simp only [Act.put, List.setIfInBounds_toArray, List.set_cons_zero, List.set_cons_succ]
            refine tu 16 33 rfl ?_
            simp only [Act.put, List.setIfInBounds_toArray, List.set_cons_zero, List.set_cons_succ]
            refine tk 17 34 (.bool true) rfl ?_ ?_
            · intro W hSW; go_simp
            simp only [Act.put, List.setIfInBounds_toArray, List.set_cons_zero, List.set_cons_succ]
            refine wpAnyH_done (by kernel_rfl) ?_ _
            have HZ := hid hHeld
            clear hHeld
            go_wp2_with fail
            go_meet
            exact ⟨rfl, HZ⟩
          | false =>
            refine tk 9 26 (.slice (some ⟨P, o, none⟩) N cap) rfl ?_ ?_
            · intro W hSW; go_simp
            simp only [Act.put, List.setIfInBounds_toArray, List.set_cons_zero, List.set_cons_succ]
            refine tk 10 27 (.int .i64 (i : Nat)) rfl ?_ ?_
            · intro W hSW; go_simp
            simp only [Act.put, List.setIfInBounds_toArray, List.set_cons_zero, List.set_cons_succ]
            refine tk 11 28 (.pointer (some ⟨P, o + i * 3, none⟩)) rfl ?_ ?_
            · intro W hSW; go_simp
            simp only [Act.put, List.setIfInBounds_toArray, List.set_cons_zero, List.set_cons_succ]
            refine tk 12 29 (.agg #[.int .i64 x.n, .int .i64 x.b, .int .u64 (x.t : Nat)]) rfl ?_ ?_
            · intro W hSW; obtain ⟨⟨u0, u1, u2⟩, u3, u4⟩ := HCW.out W hSW; go_simp
            simp only [Act.put, List.setIfInBounds_toArray, List.set_cons_zero, List.set_cons_succ]
            refine tk 14 31 (.pointer (some ⟨X, 5, none⟩)) rfl ?_ ?_
            · intro W hSW; go_simp
            simp only [Act.put, List.setIfInBounds_toArray, List.set_cons_zero, List.set_cons_succ]
            refine tk 15 32 (.int .i64 c.c) rfl ?_ ?_
            · intro W hSW; obtain ⟨⟨u0, u1, u2⟩, u3, u4⟩ := HCW.out W hSW; go_simp
            simp only [Act.put, List.setIfInBounds_toArray, List.set_cons_zero, List.set_cons_succ]
            refine wpAnyH_ready (rs := [13]) (by kernel_rfl) (by simp) ?_
            refine AllReadyH.cons rfl (fun KK hKK => ?_) AllReadyH.nil
            go_simp
            refine (dtop_ok wd x HXB.out.1 HXB.out.2).mono ?_
            rintro _ wx1 ⟨rfl, aX⟩
            have hHx := hHeld.trans aX
            try dsimp only
            refine hKK.out _ _ hHx (fun hHeld => ?_)
            clear hKK KK
            try simp only [Act.put, List.setIfInBounds_toArray, List.set_cons_zero, List.set_cons_succ]
            refine tk 16 33 (.bool q2) rfl ?_ ?_
            · intro W hSW; rw [Hq2.out]; go_simp
            simp only [Act.put, List.setIfInBounds_toArray, List.set_cons_zero, List.set_cons_succ]
            refine tk 17 34 (.bool q2) rfl ?_ ?_
            · intro W hSW; go_simp
            simp only [Act.put, List.setIfInBounds_toArray, List.set_cons_zero, List.set_cons_succ]
            refine wpAnyH_done (by kernel_rfl) ?_ _
            have HZ := hid hHeld
            clear hHeld
            go_wp2_with fail
            go_meet
            exact ⟨by simp, HZ⟩
        obtain ⟨rfl, HC⟩ := hcut
        obtain ⟨q, Hq⟩ : ∃ q, Hid (q = (q1 || q2)) := ⟨_, hid rfl⟩
        rw [← Hq.out] at HOU ⊢
        cases q with
        | true =>
          have HF : Hid (ans = false) := by
            rw [HAN.out]
            have : xs.any (outR c) = true := List.any_eq_true.2 ⟨g xs i, g_mem (by rw [HLEN.out]; exact hlt), HOU.out⟩
            simp [this, Hid]
          have HZ := hid ((HA.out.trans HA2.out).trans HC.out)
          go_wp2_with fail
          go_ret
          exact ⟨by rw [HF.out]; rfl, HZ.out⟩
        | false =>
          have HE : Hid (Apart [] w2 wc ∧ ∀ j, j < i + 1 → outR c (g xs j) = false) := hid ⟨HC.out, fun j hj => by
            by_cases hji : j = i
            · subst hji; exact HOU.out
            · exact HI.out.2 j (by omega)⟩
          go_wp2_with fail
          go_roundw
          case rel => exact ⟨i + 1, by go_num, by omega, HE⟩
          case measure => simp [intOf]; omega
      · have hlti : ¬ ((i : Nat) : Int) < ((N : Nat) : Int) := by omega
        have HF : Hid (ans = true) := by
          rw [HAN.out]
          have : xs.any (outR c) = false := by
            rw [List.any_eq_false]
            intro y hy
            obtain ⟨m, hm, rfl⟩ := List.mem_iff_getElem.1 hy
            have := HI.out.2 m (by have := HLEN.out; omega)
            unfold g at this
            rw [List.getD_eq_getElem?_getD, List.getElem?_eq_getElem hm] at this
            simpa using this
          simp [this, Hid]
        have HZ := hid ((HA.out.trans HA2.out).trans HI.out.1)
        go_wp2_with fail
        go_ret
        exact ⟨by rw [HF.out]; rfl, HZ.out⟩
  · have hz : (e == 0) = false := by simp [h0]
    have hzn : (e != 0) = true := by simp [h0]
    have HF : Hid (ans = false) := hid (by rw [Hans.out]; unfold setR; rw [← He.out]; simp [h0])
    have HZ := hid (HA.out.trans HA2.out)
    go_wp2_with fail
    go_ret
    exact ⟨by rw [HF.out]; rfl, HZ.out⟩
end Go.Proofs.YtpddokbjjhbfgaaGreat.ds
