import Derived.Test.YtdbeeikjngnnnaaGreatChecked
import Derived.WalkKit
import Derived.ProofKit
import Derived.OpenShut
import Derived.Deep.QuietTactic
import Derived.BigQuiet
import Derived.BigRegion
import Derived.Laws.CopyOwn
import Derived.Laws.IdiomCopy
import Derived.WalkSmall
import Derived.Laws.ResultCell
import Derived.Laws.AppendOwnNone
import Derived.Deep.RegionHeld
import Derived.Deep.DeepAppendRoom
import Derived.Great.BuildSlice
import Derived.Deep.CutBlock
import Derived.Deep.RegionLaw
import Derived.ArgAppend
import Derived.Laws.Strings
import Derived.Laws.StructEq
import Derived.Below
import Derived.Deep.MidRow
import Derived.Great.Ranges
import Derived.Deep.RegionHeld3
import Derived.Laws.NewBlocks
import Derived.OrdersHeld
import Derived.Stop.BytesEq
import Derived.Laws.BytesString
import Derived.Lib.ConvBytes
import Derived.Laws.BitsAllLaws
import Derived.WalkLawsBesides
import Derived.Lib.Bytealg
import Derived.Laws.Externs
import Derived.Lib.SliceRun
import Derived.Lib.AppendZerosOnto
import Derived.Lib.AppendStr
import Derived.Lib.SlBytesConst
import Derived.Sort.Walk0
import Derived.Laws.Cover1
import Derived.Lib.Strings
import Derived.Lib.MinMaxS
import GoSem.Claim
import GoSem.ClaimJoined
import GoSem.ClaimMapViews
import Derived.JoinedTies
import Derived.KernelRfl
import Derived.JoinedCond
import Derived.ShutString
import Derived.ChangeOld
import Derived.Carry
import Derived.ChangeSlices
import Derived.Deep.Slices
import Derived.Deep.DeepHandedRow
import Derived.RowKit
import Derived.ChangeShapes
import Derived.SizedLaws
import Derived.ChangeMaps5
import Derived.Sort.WalkA
import Derived.Test.YtdbeeikjngnnnaaGreatRows
import Derived.Test.YtdbeeikjngnnnaaGreatM22
import Derived.Test.YtdbeeikjngnnnaaGreatM23
namespace Go.Proofs.YtdbeeikjngnnnaaGreat.ty
open Go.ChangeShapes Go.WideShapes Go.ChangeAt Go.RowKit
set_option linter.unusedVariables false
set_option linter.unusedSimpArgs false
/-- Put -/
def putR (v : Vl) (a : Int) (bs : List Nat) : Int × Vl := match v with
  | Sum.inr (Sum.inl (c, es)) => if isA a = false then (191, v) else if isE bs.length = false then (1, v) else if c.getD a.toNat 0 = 65535 then (92, v) else if 64 < (setB (putC c a.toNat) (putE c es a.toNat (strB bs))).length then (71, v) else (0, .set (putC c a.toNat) (putE c es a.toNat (strB bs)))
  | _ => (190, v)
theorem Put_v {w : World} {V : Nat} {v : Vl} (hV : Ho w V v) (ok : Ok v) (a : Int) {sl : Sl} {bs : List Nat} (hb : Rd w sl.p (byts bs)) (hl : bs.length = sl.n) (okb : sl.ok) : Calls Tryz.prog 36 #[.pointer (some ⟨V, 0, none⟩), .int .i64 a, .slice sl.p sl.n sl.c] w fun r w' => r = .returned (.int .i64 (putR v a bs).1) ∧ Ho w' V (putR v a bs).2 ∧ Apart [V] w w' := by
  cases v using Vl.el with
  | set c es =>
    have hV' := hV
    obtain ⟨s, h1, h2⟩ := hV
    obtain ⟨okc, oks, okn, oke⟩ := ok
    have oke' : ∀ x ∈ es, x.e.size ≤ 1000 := fun x hx => Nat.le_trans (oke x hx).1 (by decide)
    cases ha : isA a
    · have e : putR (.set c es) a bs = (191, .set c es) := by simp [putR, ha]
      rw [e]
      refine (Put2_no _ _ (e := 191) (by decide) h1 (put_actor a _ ha)).mono ?_
      rintro _ w' ⟨rfl, a'⟩
      exact ⟨rfl, Ho.kept0 hV' a', a'.mono (by simp)⟩
    · obtain ⟨i, rfl, hi, hx⟩ := isA_i ha
      cases hE : isE bs.length
      · have e : putR (.set c es) i bs = (1, .set c es) := by simp [putR, ha, hE]
        rw [e]
        refine (Put2_no _ _ (e := 1) (by decide) h1 (put_arg i hi sl (by rw [← hl]; exact hE))).mono ?_
        rintro _ w' ⟨rfl, a'⟩
        exact ⟨rfl, Ho.kept0 hV' a', a'.mono (by simp)⟩
      · by_cases hf : c.getD i 0 = 65535
        · have e : putR (.set c es) i bs = (92, .set c es) := by simp only [putR, hx, ha, hE, if_pos hf]; simp
          rw [e]
          refine (Put2_no _ _ (e := 92) (by decide) h1 (put_full okc.1 h2 oks okn oke' hb hl okb i hi (by rw [← hl]; exact hE) hf)).mono ?_
          rintro _ w' ⟨rfl, a'⟩
          exact ⟨rfl, Ho.kept0 hV' a', a'.mono (by simp)⟩
        · have hr := okc.2 i
          by_cases hw : 64 < (setB (putC c i) (putE c es i (strB bs))).length
          · have e : putR (.set c es) i bs = (71, .set c es) := by simp only [putR, hx, ha, hE, if_neg hf, if_pos hw]; simp
            rw [e]
            refine (Put2_no _ _ (e := 71) (by decide) h1 (put_wide okc.1 h2 oks okn oke' hb hl okb i hi (by rw [← hl]; exact hE) hr.1 (by omega) hw)).mono ?_
            rintro _ w' ⟨rfl, a'⟩
            exact ⟨rfl, Ho.kept0 hV' a', a'.mono (by simp)⟩
          · have e : putR (.set c es) i bs = (0, .set (putC c i) (putE c es i (strB bs))) := by simp only [putR, hx, ha, hE, if_neg hf, if_neg hw]; simp
            rw [e]
            refine (Put2_p (Q := fun d w1 => ∃ s', d = sv (putC c i) s' ∧ Es w1 s' (putE c es i (strB bs))) _ _ h1 ((put_ok okc.1 h2 oks okn oke' hb hl okb i hi (by rw [← hl]; exact hE) hr.1 (by omega) (by omega)).mono ?_)).mono ?_
            · rintro _ w' ⟨s', rfl, a', e'⟩
              exact ⟨_, rfl, a', s', rfl, e'⟩
            · rintro _ w' ⟨rfl, d, w1, hb1, a1, a2, hb2, s', rfl, e'⟩
              exact ⟨rfl, ⟨s', hb1, e'.kept a2 (no106 hb2)⟩, (a1.mono (by simp)).trans a2⟩
  | cnt u d =>
    refine (Put1_no _ _ (e := 190) (by decide) hV (by simp [rv_len, ok.1.1, ok.2.1]) (o_put _ _ _)).mono ?_
    rintro _ w' ⟨rfl, a'⟩
    exact ⟨rfl, Ho.kept0 hV a', a'.mono (by simp)⟩
  | flg c g =>
    refine (Put3_no _ _ (e := 190) (by decide) hV (by simp [rv_len, ok.1.1, ok.2.1]) (o_put _ _ _)).mono ?_
    rintro _ w' ⟨rfl, a'⟩
    exact ⟨rfl, Ho.kept0 hV a', a'.mono (by simp)⟩
  | rgs s x t =>
    refine (Put4_no _ _ (e := 190) (by decide) hV rfl (o_put _ _ _)).mono ?_
    rintro _ w' ⟨rfl, a'⟩
    exact ⟨rfl, Ho.kept0 hV a', a'.mono (by simp)⟩
/-- Take -/
def takeR (v : Vl) (bs : List Nat) : Int × Vl := match v with
  | Sum.inr (Sum.inl (c, es)) => (0, .set c (lo es (strB bs) ++ hi es (strB bs)))
  | _ => (190, v)
theorem Take_v {w : World} {V : Nat} {v : Vl} (hV : Ho w V v) (ok : Ok v) {sl : Sl} {bs : List Nat} (hb : Rd w sl.p (byts bs)) (hl : bs.length = sl.n) (okb : sl.ok) : Calls Tryz.prog 37 #[.pointer (some ⟨V, 0, none⟩), .slice sl.p sl.n sl.c] w fun r w' => r = .returned (.int .i64 (takeR v bs).1) ∧ Ho w' V (takeR v bs).2 ∧ Apart [V] w w' := by
  cases v using Vl.el with
  | set c es =>
    obtain ⟨s, h1, h2⟩ := hV
    obtain ⟨okc, oks, okn, oke⟩ := ok
    refine (Take2_p (Q := fun d w1 => ∃ s', d = sv c s' ∧ Es w1 s' (lo es (strB bs) ++ hi es (strB bs))) _ h1 ((take_ok okc.1 h2 oks (by omega) hb hl okb).mono ?_)).mono ?_
    · rintro _ w' ⟨s', rfl, a', e'⟩
      exact ⟨_, rfl, a', s', rfl, e'⟩
    · rintro _ w' ⟨rfl, d, w1, hb1, a1, a2, hb2, s', rfl, e'⟩
      exact ⟨rfl, ⟨s', hb1, e'.kept a2 (no106 hb2)⟩, (a1.mono (by simp)).trans a2⟩
  | cnt u d =>
    refine (Take1_no _ (e := 190) (by decide) hV (by simp [rv_len, ok.1.1, ok.2.1]) (o_take _ _)).mono ?_
    rintro _ w' ⟨rfl, a'⟩
    exact ⟨rfl, Ho.kept0 hV a', a'.mono (by simp)⟩
  | flg c g =>
    refine (Take3_no _ (e := 190) (by decide) hV (by simp [rv_len, ok.1.1, ok.2.1]) (o_take _ _)).mono ?_
    rintro _ w' ⟨rfl, a'⟩
    exact ⟨rfl, Ho.kept0 hV a', a'.mono (by simp)⟩
  | rgs s x t =>
    refine (Take4_no _ (e := 190) (by decide) hV rfl (o_take _ _)).mono ?_
    rintro _ w' ⟨rfl, a'⟩
    exact ⟨rfl, Ho.kept0 hV a', a'.mono (by simp)⟩
/-- Switch -/
def switchR (v : Vl) (a : Int) (on : Bool) : Int × Vl := match v with
  | Sum.inr (Sum.inr (Sum.inl (c, g))) => if isA a = false then (191, v) else if on = false then (0, .flg c zr) else if c.getD a.toNat 0 = 65535 then (92, v) else (0, .flg (c.set a.toNat (c.getD a.toNat 0 + 1)) (zr.set a.toNat (c.getD a.toNat 0 + 1)))
  | _ => (190, v)
theorem Switch_v {w : World} {V : Nat} {v : Vl} (hV : Ho w V v) (ok : Ok v) (a : Int) (on : Bool) : Calls Tryz.prog 38 #[.pointer (some ⟨V, 0, none⟩), .int .i64 a, .bool on] w fun r w' => r = .returned (.int .i64 (switchR v a on).1) ∧ Ho w' V (switchR v a on).2 ∧ Apart [V] w w' := by
  cases v using Vl.el with
  | flg c g =>
    cases ha : isA a
    · have e : switchR (.flg c g) a on = (191, .flg c g) := by simp [switchR, ha]
      rw [e]
      refine (Switch3_no _ _ (e := 191) (by decide) hV (turn_actor a on ha)).mono ?_
      rintro _ w' ⟨rfl, a'⟩
      exact ⟨rfl, Ho.kept0 hV a', a'.mono (by simp)⟩
    · obtain ⟨i, rfl, hi, hx⟩ := isA_i ha
      cases on
      · have e : switchR (.flg c g) i false = (0, .flg c zr) := by simp [switchR, ha]
        rw [e]
        refine (Switch3_ok _ _ hV (turn_off ok.1.1 i hi)).mono ?_
        rintro _ w' ⟨rfl, h', a'⟩
        exact ⟨rfl, h', a'⟩
      · by_cases hf : c.getD i 0 = 65535
        · have e : switchR (.flg c g) i true = (92, .flg c g) := by simp only [switchR, hx, ha, if_pos hf]; simp
          rw [e]
          refine (Switch3_no _ _ (e := 92) (by decide) hV (turn_full ok.1.1 i hi hf)).mono ?_
          rintro _ w' ⟨rfl, a'⟩
          exact ⟨rfl, Ho.kept0 hV a', a'.mono (by simp)⟩
        · have e : switchR (.flg c g) i true = (0, .flg (c.set i (c.getD i 0 + 1)) (zr.set i (c.getD i 0 + 1))) := by simp only [switchR, hx, ha, if_neg hf]; simp
          have hr := ok.1.2 i
          rw [e]
          refine (Switch3_ok _ _ hV (turn_on ok.1.1 ok.2.1 i hi hr.1 (by omega))).mono ?_
          rintro _ w' ⟨rfl, h', a'⟩
          exact ⟨rfl, h', a'⟩
  | cnt u d =>
    refine (Switch1_no _ _ (e := 190) (by decide) hV (by simp [rv_len, ok.1.1, ok.2.1]) (o_turn _ _ _)).mono ?_
    rintro _ w' ⟨rfl, a'⟩
    exact ⟨rfl, Ho.kept0 hV a', a'.mono (by simp)⟩
  | set c es =>
    have hV' := hV
    obtain ⟨s, h1, h2⟩ := hV
    refine (Switch2_no _ _ (e := 190) (by decide) h1 (sv_size ok.1.1 s) (o_turn _ _ _)).mono ?_
    rintro _ w' ⟨rfl, a'⟩
    exact ⟨rfl, Ho.kept0 hV' a', a'.mono (by simp)⟩
  | rgs s x t =>
    refine (Switch4_no _ _ (e := 190) (by decide) hV rfl (o_turn _ _ _)).mono ?_
    rintro _ w' ⟨rfl, a'⟩
    exact ⟨rfl, Ho.kept0 hV a', a'.mono (by simp)⟩
/-- Write -/
def writeR (v : Vl) (a : Int) (bs : List Nat) : Int × Vl := match v with
  | Sum.inr (Sum.inr (Sum.inr (s, x, t))) => if isA a = false then (191, v) else if bs.length > 59 then (2, v) else if s = 16777215 then (92, v) else (0, .rgs (s + 1) a (strB bs))
  | _ => (190, v)
theorem Write_v {w : World} {V : Nat} {v : Vl} (hV : Ho w V v) (ok : Ok v) (a : Int) {sl : Sl} {bs : List Nat} (hb : Rd w sl.p (byts bs)) (hl : bs.length = sl.n) (okb : sl.ok) : Calls Tryz.prog 39 #[.pointer (some ⟨V, 0, none⟩), .int .i64 a, .slice sl.p sl.n sl.c] w fun r w' => r = .returned (.int .i64 (writeR v a bs).1) ∧ Ho w' V (writeR v a bs).2 ∧ Apart [V] w w' := by
  cases v using Vl.el with
  | rgs s x t =>
    cases ha : isA a
    · have e : writeR (.rgs s x t) a bs = (191, .rgs s x t) := by simp [writeR, ha]
      rw [e]
      refine (Write4_no _ _ (e := 191) (by decide) hV (write_actor a _ ha)).mono ?_
      rintro _ w' ⟨rfl, a'⟩
      exact ⟨rfl, Ho.kept0 hV a', a'.mono (by simp)⟩
    · obtain ⟨i, rfl, hi, hx⟩ := isA_i ha
      by_cases hL : bs.length > 59
      · have e : writeR (.rgs s x t) i bs = (2, .rgs s x t) := by simp [writeR, ha, hL]
        rw [e]
        refine (Write4_no _ _ (e := 2) (by decide) hV (write_long i hi _ _ _ (by omega))).mono ?_
        rintro _ w' ⟨rfl, a'⟩
        exact ⟨rfl, Ho.kept0 hV a', a'.mono (by simp)⟩
      · by_cases hf : s = 16777215
        · have e : writeR (.rgs s x t) i bs = (92, .rgs s x t) := by simp [writeR, ha, hL, hf]
          rw [e]
          subst hf
          refine (Write4_no _ _ (e := 92) (by decide) hV (write_full i hi _ _ _ (by omega))).mono ?_
          rintro _ w' ⟨rfl, a'⟩
          exact ⟨rfl, Ho.kept0 hV a', a'.mono (by simp)⟩
        · have e : writeR (.rgs s x t) i bs = (0, .rgs (s + 1) i (strB bs)) := by simp [writeR, ha, hL, hf]
          have h1 := ok.1
          have h2 := ok.2
          rw [e]
          refine (Write4_ok _ _ hV (write_ok ok.1 (by omega) i hi hb hl okb (by omega))).mono ?_
          rintro _ w' ⟨rfl, h', a'⟩
          exact ⟨rfl, h', a'⟩
  | cnt u d =>
    refine (Write1_no _ _ (e := 190) (by decide) hV (by simp [rv_len, ok.1.1, ok.2.1]) (o_write _ _ _)).mono ?_
    rintro _ w' ⟨rfl, a'⟩
    exact ⟨rfl, Ho.kept0 hV a', a'.mono (by simp)⟩
  | set c es =>
    have hV' := hV
    obtain ⟨s, h1, h2⟩ := hV
    refine (Write2_no _ _ (e := 190) (by decide) h1 (sv_size ok.1.1 s) (o_write _ _ _)).mono ?_
    rintro _ w' ⟨rfl, a'⟩
    exact ⟨rfl, Ho.kept0 hV' a', a'.mono (by simp)⟩
  | flg c g =>
    refine (Write3_no _ _ (e := 190) (by decide) hV (by simp [rv_len, ok.1.1, ok.2.1]) (o_write _ _ _)).mono ?_
    rintro _ w' ⟨rfl, a'⟩
    exact ⟨rfl, Ho.kept0 hV a', a'.mono (by simp)⟩
/-- Sum -/
def sumR (v : Vl) : Int := match v with
  | Sum.inl (u, d) => sumC u d 8
  | _ => 0
theorem Sum_v {w : World} {V : Nat} {v : Vl} (hV : Ho w V v) (ok : Ok v) : Calls Tryz.prog 16 #[.pointer (some ⟨V, 0, none⟩)] w fun r w' => r = .returned (.int .i64 (sumR v)) ∧ Apart [] w w' := by
  cases v using Vl.el with
  | cnt u d => exact Sum1 hV (sum_ok ok.1 ok.2)
  | set c es =>
    obtain ⟨s, h1, h2⟩ := hV
    refine (Sum2 h1 (sv_size ok.1.1 s) (o_sum _)).mono ?_
    rintro _ w' ⟨rfl, a'⟩
    exact ⟨rfl, a'⟩
  | flg c g =>
    refine (Sum3 hV (by simp [rv_len, ok.1.1, ok.2.1]) (o_sum _)).mono ?_
    rintro _ w' ⟨rfl, a'⟩
    exact ⟨rfl, a'⟩
  | rgs s x t =>
    refine (Sum4 hV rfl (o_sum _)).mono ?_
    rintro _ w' ⟨rfl, a'⟩
    exact ⟨rfl, a'⟩
/-- On -/
def onR (v : Vl) : Bool := match v with
  | Sum.inr (Sum.inr (Sum.inl (c, g))) => g != zr
  | _ => false
theorem On_v {w : World} {V : Nat} {v : Vl} (hV : Ho w V v) (ok : Ok v) : Calls Tryz.prog 29 #[.pointer (some ⟨V, 0, none⟩)] w fun r w' => r = .returned (.bool (onR v)) ∧ Apart [] w w' := by
  cases v using Vl.el with
  | flg c g => exact On3 hV (on_ok ok.1.1 ok.2.1)
  | cnt u d =>
    refine (On1 hV (by simp [rv_len, ok.1.1, ok.2.1]) (o_on _)).mono ?_
    rintro _ w' ⟨rfl, a'⟩
    exact ⟨rfl, a'⟩
  | set c es =>
    obtain ⟨s, h1, h2⟩ := hV
    refine (On2 h1 (sv_size ok.1.1 s) (o_on _)).mono ?_
    rintro _ w' ⟨rfl, a'⟩
    exact ⟨rfl, a'⟩
  | rgs s x t =>
    refine (On4 hV rfl (o_on _)).mono ?_
    rintro _ w' ⟨rfl, a'⟩
    exact ⟨rfl, a'⟩
/-- Text -/
def textR (v : Vl) : List Nat := match v with
  | Sum.inr (Sum.inr (Sum.inr (s, a, t))) => bsk t
  | _ => []
/-- Elements -/
def elsR (v : Vl) : List En := match v with
  | Sum.inr (Sum.inl (c, es)) => es
  | _ => []
end Go.Proofs.YtdbeeikjngnnnaaGreat.ty
namespace Go.Proofs.YtdbeeikjngnnnaaGreat.ty
open Go.ChangeShapes Go.WideShapes Go.ChangeAt Go.RowKit
set_option linter.unusedVariables false
set_option linter.unusedSimpArgs false
theorem cmI_neg (a b : Int) : cmI a b < 0 ↔ a < b := by
  unfold cmI
  by_cases h : a < b
  · simp [h]
  · by_cases k : a > b <;> simp [h, k]
theorem cmI_zero (a b : Int) : cmI a b = 0 ↔ a = b := by
  unfold cmI
  by_cases h : a < b
  · simp [h]; omega
  · by_cases k : a > b
    · simp [h, k]; omega
    · simp [h, k]; omega
theorem cmS_neg (a b : ByteArray) : cmS a b < 0 ↔ bl a b = true := by
  unfold cmS
  rw [bl_less]
  cases bl a b
  · simp only [Bool.false_eq_true, if_false, iff_false]
    split <;> decide
  · simp
/-- the order of what was written -/
def Lt3 (x y : Int × Int × ByteArray) : Prop := x.1 < y.1 ∨ (x.1 = y.1 ∧ (x.2.1 < y.2.1 ∨ (x.2.1 = y.2.1 ∧ bl x.2.2 y.2.2 = true)))
theorem later_iff (s a : Int) (t : ByteArray) (s2 a2 : Int) (t2 : ByteArray) : orL [cmI s s2, cmI a a2, cmS t t2] < 0 ↔ Lt3 (s, a, t) (s2, a2, t2) := by
  unfold Lt3
  simp only [orL]
  by_cases h1 : cmI s s2 = 0
  · have e1 := (cmI_zero s s2).1 h1
    simp only [h1, ne_eq, not_true, if_false]
    by_cases h2 : cmI a a2 = 0
    · have e2 := (cmI_zero a a2).1 h2
      simp only [h2, ne_eq, not_true, if_false]
      subst e1; subst e2
      by_cases h3 : cmS t t2 = 0
      · simp only [h3, ne_eq, not_true, if_false]
        have h4 := cmS_neg t t2
        rw [h3] at h4
        simp only [Int.lt_irrefl, false_iff] at h4
        simp [h4]
      · simp only [h3, ne_eq, not_false_eq_true, if_true]
        rw [cmS_neg]
        simp
    · simp only [h2, ne_eq, not_false_eq_true, if_true]
      rw [cmI_neg]
      have : a ≠ a2 := fun e => h2 ((cmI_zero a a2).2 e)
      subst e1
      simp [this]
  · simp only [h1, ne_eq, not_false_eq_true, if_true]
    rw [cmI_neg]
    have : s ≠ s2 := fun e => h1 ((cmI_zero s s2).2 e)
    simp [this]
theorem Lt3.trans {x y z : Int × Int × ByteArray} (h : Lt3 x y) (k : Lt3 y z) : Lt3 x z := by
  rcases h with h | ⟨h, h' | ⟨h', h''⟩⟩ <;> rcases k with k | ⟨k, k' | ⟨k', k''⟩⟩
  · exact .inl (by omega)
  · exact .inl (by omega)
  · exact .inl (by omega)
  · exact .inl (by omega)
  · exact .inr ⟨by omega, .inl (by omega)⟩
  · exact .inr ⟨by omega, .inl (by omega)⟩
  · exact .inl (by omega)
  · exact .inr ⟨by omega, .inl (by omega)⟩
  · exact .inr ⟨by omega, .inr ⟨by omega, bl_trans h'' k''⟩⟩
theorem Lt3.irrefl (x : Int × Int × ByteArray) : ¬ Lt3 x x := by
  rintro (h | ⟨-, h | ⟨-, h⟩⟩)
  · omega
  · omega
  · rw [bl_irrefl] at h; cases h
theorem laterR_yes {x y : Int × Int × ByteArray} (h : Lt3 x y) : laterR x.1 x.2.1 x.2.2 y.1 y.2.1 y.2.2 = .rgs y.1 y.2.1 y.2.2 := by
  unfold laterR
  rw [if_pos ((later_iff _ _ _ _ _ _).2 h)]
theorem laterR_no {x y : Int × Int × ByteArray} (h : ¬ Lt3 x y) : laterR x.1 x.2.1 x.2.2 y.1 y.2.1 y.2.2 = .rgs x.1 x.2.1 x.2.2 := by
  unfold laterR
  rw [if_neg (fun k => h ((later_iff _ _ _ _ _ _).1 k))]
def mgV (v o : Vl) : Vl := match v, o with
  | Sum.inl (u, d), Sum.inl (p, q) => .cnt (gr u p) (gr d q)
  | Sum.inr (Sum.inl (c, es)), Sum.inr (Sum.inl (d, fs)) => .set (gr c d) (mgE c d es fs)
  | Sum.inr (Sum.inr (Sum.inl (u, d))), Sum.inr (Sum.inr (Sum.inl (p, q))) => .flg (gr u p) (mt d u q p)
  | Sum.inr (Sum.inr (Sum.inr (s, a, t))), Sum.inr (Sum.inr (Sum.inr (s2, a2, t2))) => laterR s a t s2 a2 t2
  | _, _ => v
theorem mgV_yes {x y : Int × Int × ByteArray} (h : Lt3 x y) : mgV (.rgs x.1 x.2.1 x.2.2) (.rgs y.1 y.2.1 y.2.2) = .rgs y.1 y.2.1 y.2.2 := laterR_yes h
theorem mgV_no {x y : Int × Int × ByteArray} (h : ¬ Lt3 x y) : mgV (.rgs x.1 x.2.1 x.2.2) (.rgs y.1 y.2.1 y.2.2) = .rgs x.1 x.2.1 x.2.2 := laterR_no h
/-- as a value may be -/
def Gd (v : Vl) : Prop := match v with
  | Sum.inl (u, d) => Wd u ∧ Wd d
  | Sum.inr (Sum.inl (c, es)) => Gs c es ∧ Cn c ∧ ∀ x ∈ es, x.e.size ≤ 8
  | Sum.inr (Sum.inr (Sum.inl (c, g))) => Cn c ∧ Wi g c
  | Sum.inr (Sum.inr (Sum.inr (s, a, t))) => (0 ≤ s ∧ s ≤ 16777215) ∧ (0 ≤ a ∧ t.size ≤ 59) ∧ (s = 0 → a = 0 ∧ t = ⟨#[]⟩)
theorem Cn.ge {c : List Int} (h : Cn c) : ∀ i, i < 8 → 0 ≤ c.getD i 0 := fun i _ => (h.2 i).1
theorem Wi.cn {a c : List Int} (h : Wi a c) (k : Cn c) : Cn a := ⟨h.1, fun i => by
  rcases Nat.lt_or_ge i 8 with hi | hi
  · have h1 := h.2.2 i hi
    have h2 := k.2 i
    omega
  · rw [List.getD_eq_getElem?_getD, List.getElem?_eq_none (by have := h.1; omega)]
    simp⟩
theorem Cn.gr {a b : List Int} (h : Cn a) (k : Cn b) : Cn (gr a b) := ⟨gr_len h.1 k.1, fun i => by
  rcases Nat.lt_or_ge i 8 with hi | hi
  · have h1 := h.2 i
    have h2 := k.2 i
    rw [gr_at h.1 k.1 i hi]
    omega
  · rw [List.getD_eq_getElem?_getD, List.getElem?_eq_none (by have := gr_len h.1 k.1; omega)]
    simp⟩
theorem Wd.gr {a b : List Int} (h : Wd a) (k : Wd b) : Wd (gr a b) := ⟨gr_len h.1 k.1, fun x hx => by
  obtain ⟨i, hi, e⟩ := List.mem_iff_getElem.1 hx
  have hl := gr_len h.1 k.1
  have h1 := h.at i (by omega)
  have h2 := k.at i (by omega)
  have h3 := gr_at h.1 k.1 i (by omega)
  rw [List.getD_eq_getElem?_getD, List.getElem?_eq_getElem hi] at h3
  simp only [Option.getD_some] at h3
  rw [← e, h3]
  omega⟩
theorem Wd.ge {a : List Int} (h : Wd a) : ∀ i, i < 8 → 0 ≤ a.getD i 0 := fun i hi => (h.at i hi).1
theorem mgV_kd (v o : Vl) : (mgV v o).kd = v.kd := by
  cases v using Vl.el with
  | cnt u d => cases o using Vl.el <;> rfl
  | set c es => cases o using Vl.el <;> rfl
  | flg c g => cases o using Vl.el <;> rfl
  | rgs s a t =>
    cases o using Vl.el with
    | cnt u d => rfl
    | set c es => rfl
    | flg c g => rfl
    | rgs s2 a2 t2 =>
      by_cases h : Lt3 (s, a, t) (s2, a2, t2)
      · rw [show mgV (.rgs s a t) (.rgs s2 a2 t2) = _ from mgV_yes h]; rfl
      · rw [show mgV (.rgs s a t) (.rgs s2 a2 t2) = _ from mgV_no h]
/-- two values of one type, by their type -/
theorem Vl.two {motive : Vl → Vl → Prop} (cnt : ∀ u d p q, motive (.cnt u d) (.cnt p q)) (set : ∀ c es d fs, motive (.set c es) (.set d fs)) (flg : ∀ c g d f, motive (.flg c g) (.flg d f)) (rgs : ∀ x y : Int × Int × ByteArray, motive (.rgs x.1 x.2.1 x.2.2) (.rgs y.1 y.2.1 y.2.2)) (v o : Vl) (h : v.kd = o.kd) : motive v o := by
  rcases v with ⟨u, d⟩ | ⟨c, es⟩ | ⟨c, g⟩ | x <;> rcases o with ⟨p, q⟩ | ⟨e, fs⟩ | ⟨e, f⟩ | y
  case inl.inl => exact cnt u d p q
  case inr.inl.inr.inl => exact set c es e fs
  case inr.inr.inl.inr.inr.inl => exact flg c g e f
  case inr.inr.inr.inr.inr.inr => exact rgs x y
  all_goals (exact absurd h (by simp [Vl.kd]))
theorem mgV_gd {v o : Vl} (h : Gd v) (k : Gd o) (e : v.kd = o.kd) : Gd (mgV v o) := by
  revert h k
  refine Vl.two (motive := fun v o => Gd v → Gd o → Gd (mgV v o)) ?_ ?_ ?_ ?_ v o e
  · exact fun u d p q h k => ⟨h.1.gr k.1, h.2.gr k.2⟩
  · exact fun c es d fs h k => ⟨mgE_gs h.1 k.1, h.2.1.gr k.2.1, mgE_size h.2.2 k.2.2⟩
  · exact fun c g d f h k => ⟨h.1.gr k.1, mt_wi h.2 k.2⟩
  · intro x y h k
    by_cases hl : Lt3 x y
    · rw [mgV_yes hl]; exact k
    · rw [mgV_no hl]; exact h
theorem kd_new0 (k : Nat) (h1 : 1 ≤ k) (h4 : k ≤ 4) : (new0 k).kd = k := by
  obtain rfl | rfl | rfl | rfl : k = 1 ∨ k = 2 ∨ k = 3 ∨ k = 4 := by omega
  · rfl
  · rfl
  · rfl
  · rfl
theorem new0_gd (k : Nat) : Gd (new0 k) := by
  unfold new0
  split
  · exact ⟨Wd.zr, Wd.zr⟩
  split
  · exact ⟨Gs.new, Cn.zr, by simp⟩
  split
  · exact ⟨Cn.zr, Wi.zr rfl (Cn.zr.ge)⟩
  · exact ⟨⟨by omega, by omega⟩, ⟨by omega, by decide⟩, fun _ => ⟨rfl, rfl⟩⟩
/-- three values of one type -/
theorem Vl.three {motive : Vl → Vl → Vl → Prop} (cnt : ∀ u d p q r s, motive (.cnt u d) (.cnt p q) (.cnt r s)) (set : ∀ c es d fs f gs, motive (.set c es) (.set d fs) (.set f gs)) (flg : ∀ c g d f e h, motive (.flg c g) (.flg d f) (.flg e h)) (rgs : ∀ x y z : Int × Int × ByteArray, motive (.rgs x.1 x.2.1 x.2.2) (.rgs y.1 y.2.1 y.2.2) (.rgs z.1 z.2.1 z.2.2)) (v o u : Vl) (h : v.kd = o.kd) (k : o.kd = u.kd) : motive v o u := by
  revert k
  refine Vl.two (motive := fun v o => o.kd = u.kd → motive v o u) ?_ ?_ ?_ ?_ v o h
  · intro a b c d k
    rcases u with ⟨p, q⟩ | ⟨e, fs⟩ | ⟨e, f⟩ | y
    · exact cnt _ _ _ _ _ _
    all_goals (exact absurd k (by simp [Vl.kd]))
  · intro a b c d k
    rcases u with ⟨p, q⟩ | ⟨e, fs⟩ | ⟨e, f⟩ | y
    case inr.inl => exact set _ _ _ _ _ _
    all_goals (exact absurd k (by simp [Vl.kd]))
  · intro a b c d k
    rcases u with ⟨p, q⟩ | ⟨e, fs⟩ | ⟨e, f⟩ | y
    case inr.inr.inl => exact flg _ _ _ _ _ _
    all_goals (exact absurd k (by simp [Vl.kd]))
  · intro a b k
    rcases u with ⟨p, q⟩ | ⟨e, fs⟩ | ⟨e, f⟩ | y
    case inr.inr.inr => exact rgs _ _ y
    all_goals (exact absurd k (by simp [Vl.kd]))
theorem Gd.ok {v : Vl} (h : Gd v) (hl : (elsR v).length ≤ 200) : Ok v := by
  cases v using Vl.el with
  | cnt u d => exact h
  | set c es => exact ⟨h.2.1, h.1.so, hl, fun x hx => ⟨h.2.2 x hx, (h.1.wi x hx).cn h.2.1⟩⟩
  | flg c g => exact ⟨h.1, h.2.cn h.1⟩
  | rgs s a t => exact h.1
theorem Gd.okF {v : Vl} (h : Gd v) (hl : (elsR v).length ≤ 200) : OkF v := by
  cases v using Vl.el with
  | cnt u d => exact h
  | set c es => exact ⟨h.1.len, by simp only [elsR] at hl; omega, fun x hx => by have := h.2.2 x hx; omega⟩
  | flg c g => exact ⟨h.1.1, h.2.1⟩
  | rgs s a t => exact ⟨h.1.1, h.2.1.1, by have := h.2.1.2; omega⟩
end Go.Proofs.YtdbeeikjngnnnaaGreat.ty
namespace Go.Proofs.YtdbeeikjngnnnaaGreat.ty
open Go.ChangeShapes Go.WideShapes Go.ChangeAt Go.RowKit
set_option linter.unusedVariables false
set_option linter.unusedSimpArgs false
theorem strB_bsk (t : ByteArray) : strB (bsk t) = t := by
  refine ba_inj ?_
  rw [strB_data]
  unfold bsk
  rw [ByteArray.toList_eq, List.map_map]
  have : (UInt8.ofNat ∘ UInt8.toNat) = id := by funext x; simp
  rw [this, List.map_id]
/-- as a value may be that can be told -/
def Gt (v : Vl) : Prop := Gd v ∧ ∀ s a t, v = .rgs s a t → a ≤ 7
end Go.Proofs.YtdbeeikjngnnnaaGreat.ty
