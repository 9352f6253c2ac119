import Derived.Deep.RegionHeld
import Derived.OrdersHeld
import Derived.WalkKit
import Derived.ProofKit
import Derived.Lib.TrailingZeros
import Derived.Test.YtllhmidpphlbhaaChecked
import Derived.OpenShut
import Derived.Deep.QuietTactic
import Derived.BigQuiet
import Derived.BigRegion
import Derived.Laws.CopyOwn
import Derived.Laws.Bits64b
import Derived.Laws.MathBits
import Derived.Laws.ShiftsVarLaws
import Derived.WalkSmall
import Derived.Laws.ResultCell
import Derived.Lib.BitFns
import Derived.Laws.StructEq
import Derived.ArgAppend
import Derived.Deep.RegionLaw
import Derived.Deep.DeepAppendRoom
import Derived.Sort.WalkA
import Derived.Laws.Strings
import Derived.Deep.CutBlock
import Derived.Great.BuildSlice
import Derived.Laws.AppendOwnNone
import Derived.Lib.Overlaps
import Derived.Lib.AppendZerosOnto
import Derived.Laws.NewBlocks
import Derived.Laws.Externs
import Derived.Laws.IdiomCopy
import Derived.Laws.BytesString
import Derived.Deep.CutRange
import Derived.RangeFuncNested
import Derived.RangeFuncBound
import Derived.RangeFuncCalls
import Derived.RangeFuncLeaves
import Derived.Shelf.Abstract
import Derived.Shelf.RegionOpen
import Derived.OwnWalkIn
import Derived.TacticsInMore
import Derived.LoopNIn
import Derived.LoopIn
import GoSem.Claim
import GoSem.ClaimJoined
import GoSem.ClaimMapViews
import Derived.JoinedTies
import Derived.KernelRfl
import Derived.Deep.OwnRows
import Derived.Lib.LaidTab
import Derived.JoinedCond
import Derived.ShutString
import Derived.ChangeOld
import Derived.Below
import Derived.Carry
import Derived.ChangeSlices
import Derived.Deep.Slices
import Derived.Deep.DeepHandedRow
import Derived.RowKit
import Derived.ChangeShapes
import Derived.SizedLaws
import Derived.ChangeMaps5
import Derived.Lib.Walk
import Derived.Lib.SliceRun
import Derived.Lib.AppendStr
import Derived.Lib.ConvBytes
import Derived.Deep.RegionHeld3
import Derived.Deep.MidRow
import Derived.Laws.MakeOwn
import Derived.Lib.SlBytesConst
import Derived.Test.YtllhmidpphlbhaaRows
import Derived.Test.YtllhmidpphlbhaaF16
namespace Go.Proofs.Ytllhmidpphlbhaa.ds
open Go.ChangeShapes Go.WideShapes Go.ChangeAt Go.RowKit Go.Sort
set_option linter.unusedVariables false
set_option linter.unusedSimpArgs false

/-- a clock in memory -/
structure Ck where
  r : Int
  s : Sl
def Ck.z : Ck := ⟨0, ⟨none, 0, 0⟩⟩
def Ck.cs (k : Ck) : List Value := [.int .i64 k.r, .slice k.s.p k.s.n k.s.c]
def flatK : List Ck → List Value
  | [] => []
  | k :: l => k.cs ++ flatK l
def gK (ks : List Ck) (j : Nat) : Ck := ks.getD j Ck.z
def gC (cs : List (Int × List S)) (j : Nat) : Int × List S := cs.getD j (0, [])
theorem flatK_len : ∀ (ks : List Ck), (flatK ks).length = ks.length * 2
  | [] => rfl
  | k :: l => by unfold flatK; rw [List.length_append, flatK_len l, List.length_cons]; show 2 + _ = _; omega
theorem flatK_get : ∀ (ks : List Ck) (j : Nat), j < ks.length → (flatK ks)[j * 2]? = some (.int .i64 (gK ks j).r) ∧ (flatK ks)[j * 2 + 1]? = some (.slice (gK ks j).s.p (gK ks j).s.n (gK ks j).s.c)
  | [], j, h => by simp at h
  | k :: l, 0, h => ⟨rfl, rfl⟩
  | k :: l, j + 1, h => by
    have := flatK_get l j (by simp at h; omega)
    unfold flatK
    rw [List.getElem?_append_right (by show 2 ≤ _; omega), List.getElem?_append_right (by show 2 ≤ _; omega)]
    rw [show (j + 1) * 2 - k.cs.length = j * 2 from by show (j + 1) * 2 - 2 = _; omega, show (j + 1) * 2 + 1 - k.cs.length = j * 2 + 1 from by show (j + 1) * 2 + 1 - 2 = _; omega]
    exact this
/-- a list of clocks that can be read -/
structure RCs (w : World) (s : Sl) (ks : List Ck) (cs : List (Int × List S)) : Prop where
  rd : Rd w s.p (flatK ks)
  kl : ks.length = s.n
  cl : cs.length = s.n
  each : ∀ j, j < s.n → (gK ks j).r = (gC cs j).1 ∧ L w (gK ks j).s.p (gK ks j).s.n (gC cs j).2 ∧ (gK ks j).s.ok
  lim : s.n ≤ 2000000
  ok : s.ok
theorem RCs.kept0 {w w' : World} {s : Sl} {ks : List Ck} {cs : List (Int × List S)} (h : RCs w s ks cs) (a : Apart [] w w') : RCs w' s ks cs := { h with rd := h.rd.kept0 a, each := fun j hj => ⟨(h.each j hj).1, (h.each j hj).2.1.kept0 a, (h.each j hj).2.2⟩ }
theorem RCs.cells {w : World} {s : Sl} {ks : List Ck} {cs : List (Int × List S)} (h : RCs w s ks cs) (i : Nat) (hi : i < s.n) : ∃ P o, s.p = some ⟨P, o, none⟩ ∧ P < w.heap.size ∧ w.cell? ⟨P, o + i * 2, none⟩ = some (.int .i64 (gK ks i).r) ∧ w.cell? ⟨P, o + i * 2 + 1, none⟩ = some (.slice (gK ks i).s.p (gK ks i).s.n (gK ks i).s.c) := by
  have hl := flatK_len ks
  have hk := h.kl
  obtain ⟨P, o, e, hP, hc⟩ := h.rd (by rw [hl, hk]; omega)
  obtain ⟨g0, g1⟩ := flatK_get ks i (by omega)
  exact ⟨P, o, e, hP, hc _ _ g0, by rw [Nat.add_assoc]; exact hc _ _ g1⟩
theorem dropC_g {cs : List (Int × List S)} {i : Nat} (hi : i < cs.length) : cs.drop i = gC cs i :: cs.drop (i + 1) := by
  rw [List.drop_eq_getElem_cons hi]
  unfold gC
  rw [List.getD_eq_getElem?_getD, List.getElem?_eq_getElem hi]; rfl
theorem eCls_cons (lo : Int) (c : Int × List S) (l : List (Int × List S)) : (¬ (lo ≤ c.1 ∧ c.1 ≤ 15) → eCls lo (c :: l) = 40) ∧ (lo ≤ c.1 ∧ c.1 ≤ 15 → ¬ OkL 64 c.2 → eCls lo (c :: l) = 30) ∧ (lo ≤ c.1 ∧ c.1 ≤ 15 → OkL 64 c.2 → eCls lo (c :: l) = eCls (c.1 + 1) l) := by
  rw [eCls]
  exact ⟨fun h => if_neg h, fun h k => by rw [if_pos h, if_neg k], fun h k => by rw [if_pos h, if_pos k]⟩
set_option maxHeartbeats 8000000 in
set_option maxRecDepth 100000 in
theorem lookC_ok {w : World} (gn : Int) (s : Sl) (ks : List Ck) (cs : List (Int × List S)) (h : RCs w s ks cs) : Calls Try.prog 88 #[.int .i64 gn, .slice s.p s.n s.c] w fun q w' => q = .returned (.int .i64 (eClocks gn cs)) ∧ Apart [] w w' := by
  have HC := hid h
  have hlim := h.lim
  have hcl := h.cl
  obtain ⟨v1, H1⟩ := bool_of (0 ≤ gn ∧ gn ≤ 281474976710655)
  replace H1 := hid H1
  clear h
  go_enter Try.func88, Try.ntmps88
  go_wp2_with fail
  refine (within_ok w gn 0 281474976710655 v1 H1.out).mono ?_
  rintro _ w1 ⟨rfl, a1⟩
  have HA1 := hid a1
  clear a1
  dsimp only
  cases v1 with
  | false =>
    have HE : Hid (eClocks gn cs = 1) := by unfold Hid eClocks; rw [if_neg (fun hh => by have := H1.out.2 hh; cases this)]
    go_wp2_with fail
    go_ret
    exact ⟨by rw [HE.out]; rfl, HA1.out⟩
  | true =>
    by_cases h16 : s.n ≤ 16
    · have h16i : ¬ ((s.n : Nat) : Int) > 16 := by omega
      have HE : Hid (eClocks gn cs = eCls 0 cs) := by unfold Hid eClocks; rw [if_pos (H1.out.1 rfl), if_pos (by omega)]
      go_wp2_with fail
      go_loopw [5, 7, 16] (fun a _ b wt => ∃ (i : Nat) (lo : Int), a = .int .i64 lo ∧ b = .int .i64 (i : Nat) ∧ i ≤ s.n ∧ Apart [] w wt ∧ eCls 0 cs = eCls lo (cs.drop i) ∧ 0 ≤ lo ∧ lo ≤ 16) (fun _ _ b _ => s.n - (intOf b).toNat)
      case atStart => exact ⟨0, 0, rfl, rfl, Nat.zero_le _, HA1.out, rfl, by omega, by omega⟩
      case round =>
        obtain ⟨i, lo, rfl, rfl, hi, ha, he, hlo⟩ := hrel
        have HA2 := hid ha
        have HE2 := hid he
        clear ha he
        by_cases hlt : i < s.n
        · have hlti : ((i : Nat) : Int) < (s.n : Int) := by omega
          have HCr := hid (HC.out.kept0 HA2.out)
          obtain ⟨P, o, hP, hPl, c0, c1⟩ := HCr.out.cells i hlt
          have HEA := hid (HCr.out.each i hlt)
          have HE3 := hid (eCls_cons lo (gC cs i) (cs.drop (i + 1)))
          rw [← dropC_g (by omega), ← HE2.out] at HE3
          generalize gK ks i = ck at *
          generalize gC cs i = cx at *
          obtain ⟨kr, kse⟩ := ck
          obtain ⟨cr, cset⟩ := cx
          dsimp only at HEA HE3 c0 c1
          have hkr : kr = cr := HEA.out.1
          subst hkr
          obtain ⟨X, HXX⟩ : ∃ X, Hid (X = wr.heap.size) := ⟨_, rfl⟩
          obtain ⟨w3, hw3⟩ : ∃ W, W = wr.alloc (.cells #[.int .i64 kr, .slice kse.p kse.n kse.c] 61) := ⟨_, rfl⟩
          have HX3 : Hid (w3.heap[X]? = some (.cells #[.int .i64 kr, .slice kse.p kse.n kse.c] 61 (0, 0))) := by unfold Hid; rw [HXX.out, hw3]; exact heap_alloc_new wr _
          have HS3 : Hid (Apart [] wr w3) := by unfold Hid; rw [hw3]; exact (Apart.refl [] wr).alloc _
          have HA3 := hid (HA2.out.trans HS3.out)
          have HLs := hid (HEA.out.2.1.kept0 HS3.out)
          generalize s.p = sp at *
          subst hP
          go_upto_region 9 with fail
          rw [← hw3, ← HXX.out]
          clear hw3 HXX c0 c1
          obtain ⟨x0, x1⟩ := row2v HX3.out
          go_wp2_with fail
          clear x0 x1
          obtain ⟨v2, H2⟩ := bool_of (lo ≤ kr ∧ kr ≤ 15)
          replace H2 := hid H2
          refine (within_ok w3 kr lo 15 v2 H2.out).mono ?_
          rintro _ w4 ⟨rfl, a4⟩
          have HA4 := hid (HA3.out.trans a4)
          have HX4 := hid (keep0 a4 HX3.out)
          have HL4 := hid (HLs.out.kept0 a4)
          clear a4
          dsimp only
          cases v2 with
          | false =>
            have HE4 : Hid (eClocks gn cs = 40) := by unfold Hid; rw [HE.out]; exact HE3.out.1 (fun hh => by have := H2.out.2 hh; cases this)
            go_wp2_with fail
            go_ret
            exact ⟨by rw [HE4.out]; rfl, HA4.out⟩
          | true =>
            have h2 := H2.out.1 rfl
            obtain ⟨x0, x1⟩ := row2v HX4.out
            go_wp2_with fail
            clear x0 x1
            obtain ⟨v3, H3⟩ := bool_of (OkL 64 cset)
            replace H3 := hid H3
            refine (isSet_page (cap := kse.c) HL4.out v3 H3.out).mono ?_
            rintro _ w5 ⟨rfl, a5⟩
            have HA5 := hid (HA4.out.trans a5)
            have HX5 := hid (keep0 a5 HX4.out)
            clear a5
            dsimp only
            cases v3 with
            | false =>
              have HE4 : Hid (eClocks gn cs = 30) := by unfold Hid; rw [HE.out]; exact HE3.out.2.1 h2 (fun hh => by have := H3.out.2 hh; cases this)
              go_wp2_with fail
              go_ret
              exact ⟨by rw [HE4.out]; rfl, HA5.out⟩
            | true =>
              have HE4 : Hid (eCls 0 cs = eCls (kr + 1) (cs.drop (i + 1))) := HE3.out.2.2 h2 (H3.out.1 rfl)
              have hwk : IntKind.i64.wrap (kr + 1) = kr + 1 := by rw [IntKind.wrap_i64]; omega
              obtain ⟨x0, x1⟩ := row2v HX5.out
              go_wp2_with fail
              go_roundw
              case rel => exact ⟨i + 1, kr + 1, rfl, by go_num, by omega, HA5.out, HE4.out, by omega, by omega⟩
              case measure => simp [intOf]; omega
        · have hlti : ¬ ((i : Nat) : Int) < (s.n : Int) := by omega
          have HE4 : Hid (eClocks gn cs = 0) := by unfold Hid; rw [HE.out, HE2.out, List.drop_eq_nil_of_le (by omega)]; rfl
          go_wp2_with fail
          go_ret
          exact ⟨by rw [HE4.out]; rfl, HA2.out⟩
    · have h16i : ((s.n : Nat) : Int) > 16 := by omega
      have HE : Hid (eClocks gn cs = 71) := by unfold Hid eClocks; rw [if_pos (H1.out.1 rfl), if_neg (by omega)]
      go_wp2_with fail
      go_ret
      exact ⟨by rw [HE.out]; rfl, HA1.out⟩
end Go.Proofs.Ytllhmidpphlbhaa.ds
namespace Go.Proofs.Ytllhmidpphlbhaa.ds
open Go.ChangeShapes Go.WideShapes Go.ChangeAt Go.RowKit Go.Sort
set_option linter.unusedVariables false
set_option linter.unusedSimpArgs false

theorem eCls_all : ∀ {cs : List (Int × List S)} {lo : Int}, 0 ≤ lo → eCls lo cs = 0 → ∀ c ∈ cs, 0 ≤ c.1 ∧ c.1 ≤ 15 ∧ OkL 64 c.2
  | [], lo, h0, h => by simp
  | c :: l, lo, h0, h => by
    obtain ⟨e1, e2, e3⟩ := eCls_cons lo c l
    have h1 : lo ≤ c.1 ∧ c.1 ≤ 15 := by
      by_cases k : lo ≤ c.1 ∧ c.1 ≤ 15
      · exact k
      · have := e1 k; omega
    have h2 : OkL 64 c.2 := by
      by_cases k : OkL 64 c.2
      · exact k
      · have := e2 h1 k; omega
    have h3 := e3 h1 h2
    rw [h] at h3
    have ih := eCls_all (cs := l) (lo := c.1 + 1) (by omega) h3.symm
    intro y hy
    rcases List.mem_cons.1 hy with rfl | hy
    · exact ⟨by omega, h1.2, h2⟩
    · exact ih y hy
theorem eClocks_all {g : Int} {cs : List (Int × List S)} (h : eClocks g cs = 0) : (0 ≤ g ∧ g ≤ 281474976710655) ∧ cs.length ≤ 16 ∧ ∀ c ∈ cs, 0 ≤ c.1 ∧ c.1 ≤ 15 ∧ OkL 64 c.2 := by
  unfold eClocks at h
  split at h
  · rename_i h1
    split at h
    · rename_i h2
      exact ⟨h1, h2, eCls_all (by omega) h⟩
    · omega
  · omega
theorem encCls_snoc : ∀ (l : List (Nat × List S)) (c : Nat × List S), encCls (l ++ [c]) = encCls l ++ encCl c
  | [], c => by simp [encCls]
  | y :: l, c => by
    show encCl y ++ encCls (l ++ [c]) = encCl y ++ encCls l ++ encCl c
    rw [encCls_snoc l c, List.append_assoc]
theorem takeC_g {cs : List (Int × List S)} {i : Nat} (hi : i < cs.length) : clOf (cs.take (i + 1)) = clOf (cs.take i) ++ [((gC cs i).1.toNat, (gC cs i).2)] := by
  unfold clOf
  rw [List.take_succ_eq_append_getElem hi, List.map_append]
  unfold gC
  rw [List.getD_eq_getElem?_getD, List.getElem?_eq_getElem hi]; rfl
theorem gC_mem {cs : List (Int × List S)} {i : Nat} (hi : i < cs.length) : gC cs i ∈ cs := by
  unfold gC
  rw [List.getD_eq_getElem?_getD, List.getElem?_eq_getElem hi]
  exact List.getElem_mem hi
theorem encCls_lim : ∀ {l : List (Nat × List S)}, (∀ c ∈ l, c.2.length ≤ 8) → (encCls l).length ≤ 106 * l.length
  | [], h => Nat.le_refl _
  | c :: l, h => by
    have h1 := encCls_lim (l := l) (fun y hy => h y (List.mem_cons_of_mem _ hy))
    have h2 := encSt_le (h c (by simp))
    unfold encCls encCl
    rw [List.length_append, List.length_append, encN_len, List.length_cons]; omega
set_option maxHeartbeats 8000000 in
set_option maxRecDepth 100000 in
theorem buildClocks_ok {w : World} (gn : Int) (s : Sl) (ks : List Ck) (cs : List (Int × List S)) (h : RCs w s ks cs) : Calls Try.prog 64 #[.int .i64 gn, .slice s.p s.n s.c] w fun q w' => BO w w' q (eClocks gn cs) (pcC gn cs) := by
  have HC := hid h
  have hcl := h.cl
  have hlim := h.lim
  have HLK := hid (lookC_ok gn s ks cs h)
  obtain ⟨er, Her⟩ : ∃ er, Hid (er = eClocks gn cs) := ⟨_, rfl⟩
  rw [← Her.out] at HLK
  clear h
  go_enter Try.func64, Try.ntmps64
  go_wp2_with fail
  refine HLK.out.mono ?_
  rintro _ w1 ⟨rfl, a1⟩
  have HA1 := hid a1
  clear a1 HLK
  dsimp only
  by_cases h0 : er = 0
  · have HS := hid (eClocks_all (by rw [← Her.out]; exact h0 : eClocks gn cs = 0))
    subst h0
    obtain ⟨g0, hg0⟩ := Int.eq_ofNat_of_zero_le HS.out.1.1
    subst hg0
    have hwg : IntKind.u64.wrap (g0 : Int) = (g0 : Int) := by rw [IntKind.wrap_u64]; have := HS.out.1.2; omega
    have hg64 : g0 < 18446744073709551616 := by have := HS.out.1.2; omega
    have hn16 : s.n ≤ 16 := by have := HS.out.2.1; omega
    have hw8 : IntKind.u8.wrap (s.n : Int) = (s.n : Int) := by rw [IntKind.wrap_u8]; omega
    go_wp2_with fail
    refine (begun_ok w1 1).mono ?_
    rintro _ w2 ⟨⟨rfl, b2, _⟩, a2⟩
    have HB2 : Hid (PB w w2 w1.heap.size [1]) := ⟨b2.blk, b2.len, HA1.out.size, HA1.out.trans a2⟩
    clear b2 a2
    obtain ⟨g, Hg⟩ : ∃ g, Hid (g = w1.heap.size) := ⟨_, rfl⟩
    rw [← Hg.out] at HB2 ⊢
    dsimp only
    obtain ⟨vs1, Hvs1⟩ : ∃ vs : List Nat, Hid (vs = [1]) := ⟨_, rfl⟩
    rw [← Hvs1.out] at HB2 ⊢
    go_wp2_with fail
    refine (anum_ok HB2.out g0 6 hg64 (by rw [Hvs1.out]; decide)).mono ?_
    rintro _ w3 ⟨rfl, b3, _⟩
    have HB3 := hid b3
    clear b3
    dsimp only
    have HL3 : Hid ((vs1 ++ encN 6 g0).length = 7) := by unfold Hid; rw [List.length_append, encN_len, Hvs1.out]; rfl
    generalize hvs3 : vs1 ++ encN 6 g0 = vs3 at *
    have Hvs3 := hid hvs3
    clear hvs3
    obtain ⟨W4, h4, h5, h6⟩ := HB3.out.app1 s.n (by have := HL3.out; omega)
    have HR4 := hid h4
    have HB4 := hid h5
    clear h4 h5 h6
    have HL4 : Hid ((vs3 ++ [s.n]).length = 8) := by unfold Hid; rw [List.length_append, HL3.out]; rfl
    generalize hvs4 : vs3 ++ [s.n] = vs4 at *
    have Hvs4 := hid hvs4
    clear hvs4
    go_wp2_with (at_builtin; refine wpList_app2 rfl (.tmp 20) (.tmp 24) 28 28 rfl _ _ rfl rfl _ _ HR4.out ?_)
    go_loopw [7, 9, 28] (fun a _ b wt => ∃ (i : Nat), a = .slice (some ⟨g, 0, none⟩) (vs4 ++ encCls (clOf (cs.take i))).length 2048 ∧ b = .int .i64 (i : Nat) ∧ i ≤ s.n ∧ PB w wt g (vs4 ++ encCls (clOf (cs.take i)))) (fun _ _ b _ => s.n - (intOf b).toNat)
    case atStart => exact ⟨0, by simp [encCls, clOf], rfl, Nat.zero_le _, by simpa [encCls, clOf] using HB4.out⟩
    case round =>
      obtain ⟨i, rfl, rfl, hi, hb⟩ := hrel
      have HB5 := hid hb
      clear hb
      by_cases hlt : i < s.n
      · have hlti : ((i : Nat) : Int) < (s.n : Int) := by omega
        have HCr := hid (HC.out.kept0 HB5.out.ap)
        obtain ⟨P, o, hP, hPl, c0, c1⟩ := HCr.out.cells i hlt
        have HEA := hid (HC.out.each i hlt)
        have HMM := hid (HS.out.2.2 (gC cs i) (gC_mem (by omega)))
        have HLE : Hid ((vs4 ++ encCls (clOf (cs.take i))).length + 106 ≤ 2048) := by
          unfold Hid
          have := encCls_lim (l := clOf (cs.take i)) (fun c hc => by
            unfold clOf at hc
            obtain ⟨y, hy, rfl⟩ := List.mem_map.1 hc
            exact (HS.out.2.2 y (List.mem_of_mem_take hy)).2.2.le8)
          unfold clOf at this
          rw [List.length_map, List.length_take] at this
          rw [List.length_append, HL4.out]
          unfold clOf
          omega
        have HES : Hid (vs4 ++ encCls (clOf (cs.take (i + 1))) = (vs4 ++ encCls (clOf (cs.take i))) ++ encCl ((gC cs i).1.toNat, (gC cs i).2)) := by unfold Hid; rw [takeC_g (by omega), encCls_snoc, List.append_assoc]
        generalize gK ks i = ck at *
        generalize gC cs i = cx at *
        obtain ⟨kr0, kse⟩ := ck
        obtain ⟨cr, cset⟩ := cx
        dsimp only at HEA HES HMM c0 c1
        have hkr : kr0 = cr := HEA.out.1
        subst hkr
        obtain ⟨kr, hkr⟩ := Int.eq_ofNat_of_zero_le HMM.out.1
        subst hkr
        have hwk : IntKind.u8.wrap (kr : Int) = (kr : Int) := by rw [IntKind.wrap_u8]; have := HMM.out.2.1; omega
        have HES2 : Hid (vs4 ++ encCls (clOf (cs.take (i + 1))) = (vs4 ++ encCls (clOf (cs.take i))) ++ [kr] ++ encSt cset) := by unfold Hid; rw [HES.out]; unfold encCl; dsimp only; rw [Int.toNat_natCast, encN1 (by have := HMM.out.2.1; omega)]; simp only [List.append_assoc]
        clear HES
        generalize vs4 ++ encCls (clOf (cs.take i)) = ws at *
        obtain ⟨X, HXX⟩ : ∃ X, Hid (X = wr.heap.size) := ⟨_, rfl⟩
        obtain ⟨w6, hw6⟩ : ∃ W, W = wr.alloc (.cells #[.int .i64 (kr : Int), .slice kse.p kse.n kse.c] 61) := ⟨_, rfl⟩
        have HX6 : Hid (w6.heap[X]? = some (.cells #[.int .i64 (kr : Int), .slice kse.p kse.n kse.c] 61 (0, 0))) := by unfold Hid; rw [HXX.out, hw6]; exact heap_alloc_new wr _
        have HS6 : Hid (Apart [] wr w6) := by unfold Hid; rw [hw6]; exact (Apart.refl [] wr).alloc _
        have HB6 := hid (HB5.out.kept0 HS6.out)
        have HXg : Hid (X ≠ g) := by unfold Hid; have := lt_of_heap HB5.out.blk; rw [HXX.out]; omega
        generalize s.p = sp at *
        subst hP
        go_upto_region 9 with fail
        rw [← hw6, ← HXX.out]
        clear hw6 HXX c0 c1
        · have HBd := hid (HB6.out.kept0 (Apart.refl [] w6).drew)
          have HXd : Hid (w6.drew.heap[X]? = some (.cells #[.int .i64 (kr : Int), .slice kse.p kse.n kse.c] 61 (0, 0))) := HX6.out
          refine wp_region_held_drew (S := fun W => W.heap[X]? = some (.cells #[.int .i64 (kr : Int), .slice kse.p kse.n kse.c] 61 (0, 0))) (by kernel_rfl) HXd.out (fun hHeld => ?_)
          generalize w6.drew = wd at *
          refine tk 0 32 (.slice (some ⟨g, 0, none⟩) ws.length 2048) rfl ?_ ?_
          · intro W hSW; go_simp
          simp only [Act.put, List.setIfInBounds_toArray, List.set_cons_zero, List.set_cons_succ]
          refine tk 1 33 (.pointer (some ⟨X, 0, none⟩)) rfl ?_ ?_
          · intro W hSW; go_simp
          simp only [Act.put, List.setIfInBounds_toArray, List.set_cons_zero, List.set_cons_succ]
          refine tk 2 34 (.int .i64 (kr : Int)) rfl ?_ ?_
          · intro W hSW; obtain ⟨x0, x1⟩ := row2v hSW; go_simp
          simp only [Act.put, List.setIfInBounds_toArray, List.set_cons_zero, List.set_cons_succ]
          refine tk 3 35 (.int .u8 (kr : Int)) rfl ?_ ?_
          · intro W hSW; go_simp
          simp only [Act.put, List.setIfInBounds_toArray, List.set_cons_zero, List.set_cons_succ]
          refine tk 6 38 (.pointer (some ⟨X, 1, none⟩)) rfl ?_ ?_
          · intro W hSW; go_simp
          simp only [Act.put, List.setIfInBounds_toArray, List.set_cons_zero, List.set_cons_succ]
          refine tk 7 39 (.slice kse.p kse.n kse.c) rfl ?_ ?_
          · intro W hSW; obtain ⟨x0, x1⟩ := row2v hSW; go_simp
          simp only [Act.put, List.setIfInBounds_toArray, List.set_cons_zero, List.set_cons_succ]
          refine wpAnyH_ready (rs := [4]) (by kernel_rfl) (by simp) ?_
          refine AllReadyH.cons rfl (fun KK hKK => ?_) AllReadyH.nil
          go_simp
          refine hKK.out _ _ (keep0 ((Apart.refl [] wd).alloc _) HXd.out) (fun hHeld => ?_)
          clear hKK KK
          try simp only [Act.put, List.setIfInBounds_toArray, List.set_cons_zero, List.set_cons_succ]
          obtain ⟨W7, h4, h5, h6⟩ := HBd.out.app1 kr (by have := HLE.out; omega)
          have HR7 := hid h4
          have HB7 := hid h5
          have HX7 := hid (keepB h6 HXd.out HXg.out)
          clear h4 h5 h6
          refine wpAnyH_ready (rs := [5]) (by kernel_rfl) (by simp) ?_
          refine AllReadyH.cons rfl (fun KK hKK => ?_) AllReadyH.nil
          refine step_app2 (o := ⟨some 37, _, _, _, _, _⟩) rfl (.tmp 32) (.tmp 36) 28 28 rfl _ _ rfl rfl _ _ HR7.out ?_
          refine hKK.out _ _ HX7.out (fun hHeld => ?_)
          clear hKK KK
          try simp only [Act.put, List.setIfInBounds_toArray, List.set_cons_zero, List.set_cons_succ]
          have HL7 : Hid ((ws ++ [kr]).length = ws.length + 1) := by unfold Hid; rw [List.length_append]; rfl
          generalize hws7 : ws ++ [kr] = ws7 at *
          have Hws7 := hid hws7
          clear hws7
          refine wpAnyH_ready (rs := [8]) (by kernel_rfl) (by simp) ?_
          refine AllReadyH.cons rfl (fun KK hKK => ?_) AllReadyH.nil
          go_simp
          refine (aset_ok (c := kse.c) HB7.out HEA.out.2.1 HMM.out.2.2 (by have := HLE.out; have := HL7.out; omega)).mono ?_
          rintro _ w8 ⟨rfl, b8, a8⟩
          have HB8 := hid b8
          have HX8 := hid (keepB a8 HX7.out HXg.out)
          clear b8 a8
          dsimp only
          refine hKK.out _ _ HX8.out (fun hHeld => ?_)
          clear hKK KK
          rw [← HES2.out] at HB8 ⊢
          generalize hws8 : vs4 ++ encCls (clOf (cs.take (i + 1))) = ws8 at *
          have Hws8 := hid hws8
          clear hws8
          refine tk 9 7 (.slice (some ⟨g, 0, none⟩) ws8.length 2048) rfl ?_ ?_
          · intro W hSW; go_simp
          simp only [Act.put, List.setIfInBounds_toArray, List.set_cons_zero, List.set_cons_succ]
          refine wpAnyH_done (by kernel_rfl) ?_ _
          clear hHeld
          go_wp2_with fail
          go_roundw
          case rel => exact ⟨i + 1, by rw [Hws8.out], by go_num, by omega, by rw [Hws8.out]; exact HB8.out⟩
          case measure => simp [intOf]; omega
      · have hlti : ¬ ((i : Nat) : Int) < (s.n : Int) := by omega
        have hiN : cs.take i = cs := List.take_of_length_le (by omega)
        rw [hiN] at HB5 ⊢
        obtain ⟨ws, Hws⟩ : ∃ ws, Hid (ws = vs4 ++ encCls (clOf cs)) := ⟨_, rfl⟩
        rw [← Hws.out] at HB5 ⊢
        go_wp2_with fail
        refine (whole_ok HB5.out).mono ?_
        rintro _ w7 ⟨rfl, hw7⟩
        rw [hw7]
        clear hw7
        dsimp only
        go_wp2_with fail
        go_ret2
        have HEN : Hid (encPc (pcC (g0 : Int) cs) = ws) := by
          unfold Hid
          rw [Hws.out, ← Hvs4.out, ← Hvs3.out, Hvs1.out]
          unfold pcC encPc
          dsimp only
          rw [Int.toNat_natCast, encN1 (by omega), show (clOf cs).length = s.n from by unfold clOf; rw [List.length_map, hcl], encN1 (by omega)]
          simp only [List.append_assoc]
        exact ⟨HB5.out.ap, fun h => absurd Her.out.symm h, fun _ => ⟨g, rfl, HB5.out.new, by rw [HEN.out]; exact HB5.out.blk⟩⟩
  · go_wp2_with fail
    go_ret2
    exact ⟨HA1.out, fun _ => by rw [← Her.out]; rfl, fun h => absurd (Her.out.trans h) h0⟩
end Go.Proofs.Ytllhmidpphlbhaa.ds
