import Derived.Test.YtdbeeikjngnnnaaGreatChecked
import Derived.WalkKit
import Derived.ProofKit
import Derived.OpenShut
import Derived.Deep.QuietTactic
import Derived.BigQuiet
import Derived.BigRegion
import Derived.Laws.CopyOwn
import Derived.Laws.IdiomCopy
import Derived.WalkSmall
import Derived.Laws.ResultCell
import Derived.Laws.AppendOwnNone
import Derived.Deep.RegionHeld
import Derived.Deep.DeepAppendRoom
import Derived.Great.BuildSlice
import Derived.Deep.CutBlock
import Derived.Deep.RegionLaw
import Derived.ArgAppend
import Derived.Laws.Strings
import Derived.Laws.StructEq
import Derived.Below
import Derived.Deep.MidRow
import Derived.Great.Ranges
import Derived.Deep.RegionHeld3
import Derived.Laws.NewBlocks
import Derived.OrdersHeld
import Derived.Stop.BytesEq
import Derived.Laws.BytesString
import Derived.Lib.ConvBytes
import Derived.Laws.BitsAllLaws
import Derived.WalkLawsBesides
import Derived.Lib.Bytealg
import Derived.Laws.Externs
import Derived.Lib.SliceRun
import Derived.Lib.AppendZerosOnto
import Derived.Lib.AppendStr
import Derived.Lib.SlBytesConst
import Derived.Sort.Walk0
import Derived.Laws.Cover1
import Derived.Lib.Strings
import Derived.Lib.MinMaxS
import GoSem.Claim
import GoSem.ClaimJoined
import GoSem.ClaimMapViews
import Derived.JoinedTies
import Derived.KernelRfl
import Derived.JoinedCond
import Derived.ShutString
import Derived.ChangeOld
import Derived.Carry
import Derived.ChangeSlices
import Derived.Deep.Slices
import Derived.Deep.DeepHandedRow
import Derived.RowKit
import Derived.ChangeShapes
import Derived.SizedLaws
import Derived.ChangeMaps5
import Derived.Sort.WalkA
import Derived.Test.YtdbeeikjngnnnaaGreatRows
import Derived.Test.YtdbeeikjngnnnaaGreatD11
namespace Go.Proofs.YtdbeeikjngnnnaaGreat.ty
open Go.ChangeShapes Go.WideShapes Go.ChangeAt Go.RowKit
set_option linter.unusedVariables false
set_option linter.unusedSimpArgs false
/-- Put -/
def putR (v : Vl) (a : Int) (bs : List Nat) : Int × Vl := match v with
  | Sum.inr (Sum.inl (c, es)) => if isA a = false then (191, v) else if isE bs.length = false then (1, v) else if c.getD a.toNat 0 = 65535 then (92, v) else if 64 < (setB (putC c a.toNat) (putE c es a.toNat (strB bs))).length then (71, v) else (0, .set (putC c a.toNat) (putE c es a.toNat (strB bs)))
  | _ => (190, v)
theorem Put_v {w : World} {V : Nat} {v : Vl} (hV : Ho w V v) (ok : Ok v) (a : Int) {sl : Sl} {bs : List Nat} (hb : Rd w sl.p (byts bs)) (hl : bs.length = sl.n) (okb : sl.ok) : Calls Tryz.prog 36 #[.pointer (some ⟨V, 0, none⟩), .int .i64 a, .slice sl.p sl.n sl.c] w fun r w' => r = .returned (.int .i64 (putR v a bs).1) ∧ Ho w' V (putR v a bs).2 ∧ Apart [V] w w' := by
  cases v using Vl.el with
  | set c es =>
    have hV' := hV
    obtain ⟨s, h1, h2⟩ := hV
    obtain ⟨okc, oks, okn, oke⟩ := ok
    have oke' : ∀ x ∈ es, x.e.size ≤ 1000 := fun x hx => Nat.le_trans (oke x hx).1 (by decide)
    cases ha : isA a
    · have e : putR (.set c es) a bs = (191, .set c es) := by simp [putR, ha]
      rw [e]
      refine (Put2_no _ _ (e := 191) (by decide) h1 (put_actor a _ ha)).mono ?_
      rintro _ w' ⟨rfl, a'⟩
      exact ⟨rfl, Ho.kept0 hV' a', a'.mono (by simp)⟩
    · obtain ⟨i, rfl, hi, hx⟩ := isA_i ha
      cases hE : isE bs.length
      · have e : putR (.set c es) i bs = (1, .set c es) := by simp [putR, ha, hE]
        rw [e]
        refine (Put2_no _ _ (e := 1) (by decide) h1 (put_arg i hi sl (by rw [← hl]; exact hE))).mono ?_
        rintro _ w' ⟨rfl, a'⟩
        exact ⟨rfl, Ho.kept0 hV' a', a'.mono (by simp)⟩
      · by_cases hf : c.getD i 0 = 65535
        · have e : putR (.set c es) i bs = (92, .set c es) := by simp only [putR, hx, ha, hE, if_pos hf]; simp
          rw [e]
          refine (Put2_no _ _ (e := 92) (by decide) h1 (put_full okc.1 h2 oks okn oke' hb hl okb i hi (by rw [← hl]; exact hE) hf)).mono ?_
          rintro _ w' ⟨rfl, a'⟩
          exact ⟨rfl, Ho.kept0 hV' a', a'.mono (by simp)⟩
        · have hr := okc.2 i
          by_cases hw : 64 < (setB (putC c i) (putE c es i (strB bs))).length
          · have e : putR (.set c es) i bs = (71, .set c es) := by simp only [putR, hx, ha, hE, if_neg hf, if_pos hw]; simp
            rw [e]
            refine (Put2_no _ _ (e := 71) (by decide) h1 (put_wide okc.1 h2 oks okn oke' hb hl okb i hi (by rw [← hl]; exact hE) hr.1 (by omega) hw)).mono ?_
            rintro _ w' ⟨rfl, a'⟩
            exact ⟨rfl, Ho.kept0 hV' a', a'.mono (by simp)⟩
          · have e : putR (.set c es) i bs = (0, .set (putC c i) (putE c es i (strB bs))) := by simp only [putR, hx, ha, hE, if_neg hf, if_neg hw]; simp
            rw [e]
            refine (Put2_p (Q := fun d w1 => ∃ s', d = sv (putC c i) s' ∧ Es w1 s' (putE c es i (strB bs))) _ _ h1 ((put_ok okc.1 h2 oks okn oke' hb hl okb i hi (by rw [← hl]; exact hE) hr.1 (by omega) (by omega)).mono ?_)).mono ?_
            · rintro _ w' ⟨s', rfl, a', e'⟩
              exact ⟨_, rfl, a', s', rfl, e'⟩
            · rintro _ w' ⟨rfl, d, w1, hb1, a1, a2, hb2, s', rfl, e'⟩
              exact ⟨rfl, ⟨s', hb1, e'.kept a2 (no106 hb2)⟩, (a1.mono (by simp)).trans a2⟩
  | cnt u d =>
    refine (Put1_no _ _ (e := 190) (by decide) hV (by simp [rv_len, ok.1.1, ok.2.1]) (o_put _ _ _)).mono ?_
    rintro _ w' ⟨rfl, a'⟩
    exact ⟨rfl, Ho.kept0 hV a', a'.mono (by simp)⟩
  | flg c g =>
    refine (Put3_no _ _ (e := 190) (by decide) hV (by simp [rv_len, ok.1.1, ok.2.1]) (o_put _ _ _)).mono ?_
    rintro _ w' ⟨rfl, a'⟩
    exact ⟨rfl, Ho.kept0 hV a', a'.mono (by simp)⟩
  | rgs s x t =>
    refine (Put4_no _ _ (e := 190) (by decide) hV rfl (o_put _ _ _)).mono ?_
    rintro _ w' ⟨rfl, a'⟩
    exact ⟨rfl, Ho.kept0 hV a', a'.mono (by simp)⟩
/-- Take -/
def takeR (v : Vl) (bs : List Nat) : Int × Vl := match v with
  | Sum.inr (Sum.inl (c, es)) => (0, .set c (lo es (strB bs) ++ hi es (strB bs)))
  | _ => (190, v)
theorem Take_v {w : World} {V : Nat} {v : Vl} (hV : Ho w V v) (ok : Ok v) {sl : Sl} {bs : List Nat} (hb : Rd w sl.p (byts bs)) (hl : bs.length = sl.n) (okb : sl.ok) : Calls Tryz.prog 37 #[.pointer (some ⟨V, 0, none⟩), .slice sl.p sl.n sl.c] w fun r w' => r = .returned (.int .i64 (takeR v bs).1) ∧ Ho w' V (takeR v bs).2 ∧ Apart [V] w w' := by
  cases v using Vl.el with
  | set c es =>
    obtain ⟨s, h1, h2⟩ := hV
    obtain ⟨okc, oks, okn, oke⟩ := ok
    refine (Take2_p (Q := fun d w1 => ∃ s', d = sv c s' ∧ Es w1 s' (lo es (strB bs) ++ hi es (strB bs))) _ h1 ((take_ok okc.1 h2 oks (by omega) hb hl okb).mono ?_)).mono ?_
    · rintro _ w' ⟨s', rfl, a', e'⟩
      exact ⟨_, rfl, a', s', rfl, e'⟩
    · rintro _ w' ⟨rfl, d, w1, hb1, a1, a2, hb2, s', rfl, e'⟩
      exact ⟨rfl, ⟨s', hb1, e'.kept a2 (no106 hb2)⟩, (a1.mono (by simp)).trans a2⟩
  | cnt u d =>
    refine (Take1_no _ (e := 190) (by decide) hV (by simp [rv_len, ok.1.1, ok.2.1]) (o_take _ _)).mono ?_
    rintro _ w' ⟨rfl, a'⟩
    exact ⟨rfl, Ho.kept0 hV a', a'.mono (by simp)⟩
  | flg c g =>
    refine (Take3_no _ (e := 190) (by decide) hV (by simp [rv_len, ok.1.1, ok.2.1]) (o_take _ _)).mono ?_
    rintro _ w' ⟨rfl, a'⟩
    exact ⟨rfl, Ho.kept0 hV a', a'.mono (by simp)⟩
  | rgs s x t =>
    refine (Take4_no _ (e := 190) (by decide) hV rfl (o_take _ _)).mono ?_
    rintro _ w' ⟨rfl, a'⟩
    exact ⟨rfl, Ho.kept0 hV a', a'.mono (by simp)⟩
/-- Switch -/
def switchR (v : Vl) (a : Int) (on : Bool) : Int × Vl := match v with
  | Sum.inr (Sum.inr (Sum.inl (c, g))) => if isA a = false then (191, v) else if on = false then (0, .flg c zr) else if c.getD a.toNat 0 = 65535 then (92, v) else (0, .flg (c.set a.toNat (c.getD a.toNat 0 + 1)) (zr.set a.toNat (c.getD a.toNat 0 + 1)))
  | _ => (190, v)
theorem Switch_v {w : World} {V : Nat} {v : Vl} (hV : Ho w V v) (ok : Ok v) (a : Int) (on : Bool) : Calls Tryz.prog 38 #[.pointer (some ⟨V, 0, none⟩), .int .i64 a, .bool on] w fun r w' => r = .returned (.int .i64 (switchR v a on).1) ∧ Ho w' V (switchR v a on).2 ∧ Apart [V] w w' := by
  cases v using Vl.el with
  | flg c g =>
    cases ha : isA a
    · have e : switchR (.flg c g) a on = (191, .flg c g) := by simp [switchR, ha]
      rw [e]
      refine (Switch3_no _ _ (e := 191) (by decide) hV (turn_actor a on ha)).mono ?_
      rintro _ w' ⟨rfl, a'⟩
      exact ⟨rfl, Ho.kept0 hV a', a'.mono (by simp)⟩
    · obtain ⟨i, rfl, hi, hx⟩ := isA_i ha
      cases on
      · have e : switchR (.flg c g) i false = (0, .flg c zr) := by simp [switchR, ha]
        rw [e]
        refine (Switch3_ok _ _ hV (turn_off ok.1.1 i hi)).mono ?_
        rintro _ w' ⟨rfl, h', a'⟩
        exact ⟨rfl, h', a'⟩
      · by_cases hf : c.getD i 0 = 65535
        · have e : switchR (.flg c g) i true = (92, .flg c g) := by simp only [switchR, hx, ha, if_pos hf]; simp
          rw [e]
          refine (Switch3_no _ _ (e := 92) (by decide) hV (turn_full ok.1.1 i hi hf)).mono ?_
          rintro _ w' ⟨rfl, a'⟩
          exact ⟨rfl, Ho.kept0 hV a', a'.mono (by simp)⟩
        · have e : switchR (.flg c g) i true = (0, .flg (c.set i (c.getD i 0 + 1)) (zr.set i (c.getD i 0 + 1))) := by simp only [switchR, hx, ha, if_neg hf]; simp
          have hr := ok.1.2 i
          rw [e]
          refine (Switch3_ok _ _ hV (turn_on ok.1.1 ok.2.1 i hi hr.1 (by omega))).mono ?_
          rintro _ w' ⟨rfl, h', a'⟩
          exact ⟨rfl, h', a'⟩
  | cnt u d =>
    refine (Switch1_no _ _ (e := 190) (by decide) hV (by simp [rv_len, ok.1.1, ok.2.1]) (o_turn _ _ _)).mono ?_
    rintro _ w' ⟨rfl, a'⟩
    exact ⟨rfl, Ho.kept0 hV a', a'.mono (by simp)⟩
  | set c es =>
    have hV' := hV
    obtain ⟨s, h1, h2⟩ := hV
    refine (Switch2_no _ _ (e := 190) (by decide) h1 (sv_size ok.1.1 s) (o_turn _ _ _)).mono ?_
    rintro _ w' ⟨rfl, a'⟩
    exact ⟨rfl, Ho.kept0 hV' a', a'.mono (by simp)⟩
  | rgs s x t =>
    refine (Switch4_no _ _ (e := 190) (by decide) hV rfl (o_turn _ _ _)).mono ?_
    rintro _ w' ⟨rfl, a'⟩
    exact ⟨rfl, Ho.kept0 hV a', a'.mono (by simp)⟩
/-- Write -/
def writeR (v : Vl) (a : Int) (bs : List Nat) : Int × Vl := match v with
  | Sum.inr (Sum.inr (Sum.inr (s, x, t))) => if isA a = false then (191, v) else if bs.length > 59 then (2, v) else if s = 16777215 then (92, v) else (0, .rgs (s + 1) a (strB bs))
  | _ => (190, v)
theorem Write_v {w : World} {V : Nat} {v : Vl} (hV : Ho w V v) (ok : Ok v) (a : Int) {sl : Sl} {bs : List Nat} (hb : Rd w sl.p (byts bs)) (hl : bs.length = sl.n) (okb : sl.ok) : Calls Tryz.prog 39 #[.pointer (some ⟨V, 0, none⟩), .int .i64 a, .slice sl.p sl.n sl.c] w fun r w' => r = .returned (.int .i64 (writeR v a bs).1) ∧ Ho w' V (writeR v a bs).2 ∧ Apart [V] w w' := by
  cases v using Vl.el with
  | rgs s x t =>
    cases ha : isA a
    · have e : writeR (.rgs s x t) a bs = (191, .rgs s x t) := by simp [writeR, ha]
      rw [e]
      refine (Write4_no _ _ (e := 191) (by decide) hV (write_actor a _ ha)).mono ?_
      rintro _ w' ⟨rfl, a'⟩
      exact ⟨rfl, Ho.kept0 hV a', a'.mono (by simp)⟩
    · obtain ⟨i, rfl, hi, hx⟩ := isA_i ha
      by_cases hL : bs.length > 59
      · have e : writeR (.rgs s x t) i bs = (2, .rgs s x t) := by simp [writeR, ha, hL]
        rw [e]
        refine (Write4_no _ _ (e := 2) (by decide) hV (write_long i hi _ _ _ (by omega))).mono ?_
        rintro _ w' ⟨rfl, a'⟩
        exact ⟨rfl, Ho.kept0 hV a', a'.mono (by simp)⟩
      · by_cases hf : s = 16777215
        · have e : writeR (.rgs s x t) i bs = (92, .rgs s x t) := by simp [writeR, ha, hL, hf]
          rw [e]
          subst hf
          refine (Write4_no _ _ (e := 92) (by decide) hV (write_full i hi _ _ _ (by omega))).mono ?_
          rintro _ w' ⟨rfl, a'⟩
          exact ⟨rfl, Ho.kept0 hV a', a'.mono (by simp)⟩
        · have e : writeR (.rgs s x t) i bs = (0, .rgs (s + 1) i (strB bs)) := by simp [writeR, ha, hL, hf]
          have h1 := ok.1
          have h2 := ok.2
          rw [e]
          refine (Write4_ok _ _ hV (write_ok ok.1 (by omega) i hi hb hl okb (by omega))).mono ?_
          rintro _ w' ⟨rfl, h', a'⟩
          exact ⟨rfl, h', a'⟩
  | cnt u d =>
    refine (Write1_no _ _ (e := 190) (by decide) hV (by simp [rv_len, ok.1.1, ok.2.1]) (o_write _ _ _)).mono ?_
    rintro _ w' ⟨rfl, a'⟩
    exact ⟨rfl, Ho.kept0 hV a', a'.mono (by simp)⟩
  | set c es =>
    have hV' := hV
    obtain ⟨s, h1, h2⟩ := hV
    refine (Write2_no _ _ (e := 190) (by decide) h1 (sv_size ok.1.1 s) (o_write _ _ _)).mono ?_
    rintro _ w' ⟨rfl, a'⟩
    exact ⟨rfl, Ho.kept0 hV' a', a'.mono (by simp)⟩
  | flg c g =>
    refine (Write3_no _ _ (e := 190) (by decide) hV (by simp [rv_len, ok.1.1, ok.2.1]) (o_write _ _ _)).mono ?_
    rintro _ w' ⟨rfl, a'⟩
    exact ⟨rfl, Ho.kept0 hV a', a'.mono (by simp)⟩
/-- Sum -/
def sumR (v : Vl) : Int := match v with
  | Sum.inl (u, d) => sumC u d 8
  | _ => 0
theorem Sum_v {w : World} {V : Nat} {v : Vl} (hV : Ho w V v) (ok : Ok v) : Calls Tryz.prog 16 #[.pointer (some ⟨V, 0, none⟩)] w fun r w' => r = .returned (.int .i64 (sumR v)) ∧ Apart [] w w' := by
  cases v using Vl.el with
  | cnt u d => exact Sum1 hV (sum_ok ok.1 ok.2)
  | set c es =>
    obtain ⟨s, h1, h2⟩ := hV
    refine (Sum2 h1 (sv_size ok.1.1 s) (o_sum _)).mono ?_
    rintro _ w' ⟨rfl, a'⟩
    exact ⟨rfl, a'⟩
  | flg c g =>
    refine (Sum3 hV (by simp [rv_len, ok.1.1, ok.2.1]) (o_sum _)).mono ?_
    rintro _ w' ⟨rfl, a'⟩
    exact ⟨rfl, a'⟩
  | rgs s x t =>
    refine (Sum4 hV rfl (o_sum _)).mono ?_
    rintro _ w' ⟨rfl, a'⟩
    exact ⟨rfl, a'⟩
/-- On -/
def onR (v : Vl) : Bool := match v with
  | Sum.inr (Sum.inr (Sum.inl (c, g))) => g != zr
  | _ => false
theorem On_v {w : World} {V : Nat} {v : Vl} (hV : Ho w V v) (ok : Ok v) : Calls Tryz.prog 29 #[.pointer (some ⟨V, 0, none⟩)] w fun r w' => r = .returned (.bool (onR v)) ∧ Apart [] w w' := by
  cases v using Vl.el with
  | flg c g => exact On3 hV (on_ok ok.1.1 ok.2.1)
  | cnt u d =>
    refine (On1 hV (by simp [rv_len, ok.1.1, ok.2.1]) (o_on _)).mono ?_
    rintro _ w' ⟨rfl, a'⟩
    exact ⟨rfl, a'⟩
  | set c es =>
    obtain ⟨s, h1, h2⟩ := hV
    refine (On2 h1 (sv_size ok.1.1 s) (o_on _)).mono ?_
    rintro _ w' ⟨rfl, a'⟩
    exact ⟨rfl, a'⟩
  | rgs s x t =>
    refine (On4 hV rfl (o_on _)).mono ?_
    rintro _ w' ⟨rfl, a'⟩
    exact ⟨rfl, a'⟩
/-- Text -/
def textR (v : Vl) : List Nat := match v with
  | Sum.inr (Sum.inr (Sum.inr (s, a, t))) => bsk t
  | _ => []
/-- Elements -/
def elsR (v : Vl) : List En := match v with
  | Sum.inr (Sum.inl (c, es)) => es
  | _ => []
end Go.Proofs.YtdbeeikjngnnnaaGreat.ty
