import Derived.Test.YtdbeeikjngnnnaaG18
namespace Go.Proofs.Ytdbeeikjngnnnaa.ty
open Go.ChangeShapes Go.WideShapes Go.ChangeAt Go.RowKit
set_option linter.unusedVariables false
set_option linter.unusedSimpArgs false
/-- Put -/
def putR (v : Vl) (a : Int) (bs : List Nat) : Int × Vl := match v with
  | Sum.inr (Sum.inl (c, es)) => if isA a = false then (191, v) else if isE bs.length = false then (1, v) else if c.getD a.toNat 0 = 65535 then (92, v) else if 64 < (setB (putC c a.toNat) (putE c es a.toNat (strB bs))).length then (71, v) else (0, .set (putC c a.toNat) (putE c es a.toNat (strB bs)))
  | _ => (190, v)
theorem Put_v {w : World} {V : Nat} {v : Vl} (hV : Ho w V v) (ok : Ok v) (a : Int) {sl : Sl} {bs : List Nat} (hb : Rd w sl.p (byts bs)) (hl : bs.length = sl.n) (okb : sl.ok) : Calls Try.prog 17 #[.pointer (some ⟨V, 0, none⟩), .int .i64 a, .slice sl.p sl.n sl.c] w fun r w' => r = .returned (.int .i64 (putR v a bs).1) ∧ Ho w' V (putR v a bs).2 ∧ Apart [V] w w' := by
  cases v using Vl.el with
  | set c es =>
    have hV' := hV
    obtain ⟨s, h1, h2⟩ := hV
    obtain ⟨okc, oks, okn, oke⟩ := ok
    have oke' : ∀ x ∈ es, x.e.size ≤ 1000 := fun x hx => Nat.le_trans (oke x hx).1 (by decide)
    cases ha : isA a
    · have e : putR (.set c es) a bs = (191, .set c es) := by simp [putR, ha]
      rw [e]
      refine (Put2_no _ _ (e := 191) (by decide) h1 (put_actor a _ ha)).mono ?_
      rintro _ w' ⟨rfl, a'⟩
      exact ⟨rfl, Ho.kept0 hV' a', a'.mono (by simp)⟩
    · obtain ⟨i, rfl, hi, hx⟩ := isA_i ha
      cases hE : isE bs.length
      · have e : putR (.set c es) i bs = (1, .set c es) := by simp [putR, ha, hE]
        rw [e]
        refine (Put2_no _ _ (e := 1) (by decide) h1 (put_arg i hi sl (by rw [← hl]; exact hE))).mono ?_
        rintro _ w' ⟨rfl, a'⟩
        exact ⟨rfl, Ho.kept0 hV' a', a'.mono (by simp)⟩
      · by_cases hf : c.getD i 0 = 65535
        · have e : putR (.set c es) i bs = (92, .set c es) := by simp only [putR, hx, ha, hE, if_pos hf]; simp
          rw [e]
          refine (Put2_no _ _ (e := 92) (by decide) h1 (put_full okc.1 h2 oks okn oke' hb hl okb i hi (by rw [← hl]; exact hE) hf)).mono ?_
          rintro _ w' ⟨rfl, a'⟩
          exact ⟨rfl, Ho.kept0 hV' a', a'.mono (by simp)⟩
        · have hr := okc.2 i
          by_cases hw : 64 < (setB (putC c i) (putE c es i (strB bs))).length
          · have e : putR (.set c es) i bs = (71, .set c es) := by simp only [putR, hx, ha, hE, if_neg hf, if_pos hw]; simp
            rw [e]
            refine (Put2_no _ _ (e := 71) (by decide) h1 (put_wide okc.1 h2 oks okn oke' hb hl okb i hi (by rw [← hl]; exact hE) hr.1 (by omega) hw)).mono ?_
            rintro _ w' ⟨rfl, a'⟩
            exact ⟨rfl, Ho.kept0 hV' a', a'.mono (by simp)⟩
          · have e : putR (.set c es) i bs = (0, .set (putC c i) (putE c es i (strB bs))) := by simp only [putR, hx, ha, hE, if_neg hf, if_neg hw]; simp
            rw [e]
            refine (Put2_p (Q := fun d w1 => ∃ s', d = sv (putC c i) s' ∧ Es w1 s' (putE c es i (strB bs))) _ _ h1 ((put_ok okc.1 h2 oks okn oke' hb hl okb i hi (by rw [← hl]; exact hE) hr.1 (by omega) (by omega)).mono ?_)).mono ?_
            · rintro _ w' ⟨s', rfl, a', e'⟩
              exact ⟨_, rfl, a', s', rfl, e'⟩
            · rintro _ w' ⟨rfl, d, w1, hb1, a1, a2, hb2, s', rfl, e'⟩
              exact ⟨rfl, ⟨s', hb1, e'.kept a2 (no106 hb2)⟩, (a1.mono (by simp)).trans a2⟩
  | cnt u d =>
    refine (Put1_no _ _ (e := 190) (by decide) hV (by simp [rv_len, ok.1.1, ok.2.1]) (o_put _ _ _)).mono ?_
    rintro _ w' ⟨rfl, a'⟩
    exact ⟨rfl, Ho.kept0 hV a', a'.mono (by simp)⟩
  | flg c g =>
    refine (Put3_no _ _ (e := 190) (by decide) hV (by simp [rv_len, ok.1.1, ok.2.1]) (o_put _ _ _)).mono ?_
    rintro _ w' ⟨rfl, a'⟩
    exact ⟨rfl, Ho.kept0 hV a', a'.mono (by simp)⟩
  | rgs s x t =>
    refine (Put4_no _ _ (e := 190) (by decide) hV rfl (o_put _ _ _)).mono ?_
    rintro _ w' ⟨rfl, a'⟩
    exact ⟨rfl, Ho.kept0 hV a', a'.mono (by simp)⟩
/-- Take -/
def takeR (v : Vl) (bs : List Nat) : Int × Vl := match v with
  | Sum.inr (Sum.inl (c, es)) => (0, .set c (lo es (strB bs) ++ hi es (strB bs)))
  | _ => (190, v)
theorem Take_v {w : World} {V : Nat} {v : Vl} (hV : Ho w V v) (ok : Ok v) {sl : Sl} {bs : List Nat} (hb : Rd w sl.p (byts bs)) (hl : bs.length = sl.n) (okb : sl.ok) : Calls Try.prog 20 #[.pointer (some ⟨V, 0, none⟩), .slice sl.p sl.n sl.c] w fun r w' => r = .returned (.int .i64 (takeR v bs).1) ∧ Ho w' V (takeR v bs).2 ∧ Apart [V] w w' := by
  cases v using Vl.el with
  | set c es =>
    obtain ⟨s, h1, h2⟩ := hV
    obtain ⟨okc, oks, okn, oke⟩ := ok
    refine (Take2_p (Q := fun d w1 => ∃ s', d = sv c s' ∧ Es w1 s' (lo es (strB bs) ++ hi es (strB bs))) _ h1 ((take_ok okc.1 h2 oks (by omega) hb hl okb).mono ?_)).mono ?_
    · rintro _ w' ⟨s', rfl, a', e'⟩
      exact ⟨_, rfl, a', s', rfl, e'⟩
    · rintro _ w' ⟨rfl, d, w1, hb1, a1, a2, hb2, s', rfl, e'⟩
      exact ⟨rfl, ⟨s', hb1, e'.kept a2 (no106 hb2)⟩, (a1.mono (by simp)).trans a2⟩
  | cnt u d =>
    refine (Take1_no _ (e := 190) (by decide) hV (by simp [rv_len, ok.1.1, ok.2.1]) (o_take _ _)).mono ?_
    rintro _ w' ⟨rfl, a'⟩
    exact ⟨rfl, Ho.kept0 hV a', a'.mono (by simp)⟩
  | flg c g =>
    refine (Take3_no _ (e := 190) (by decide) hV (by simp [rv_len, ok.1.1, ok.2.1]) (o_take _ _)).mono ?_
    rintro _ w' ⟨rfl, a'⟩
    exact ⟨rfl, Ho.kept0 hV a', a'.mono (by simp)⟩
  | rgs s x t =>
    refine (Take4_no _ (e := 190) (by decide) hV rfl (o_take _ _)).mono ?_
    rintro _ w' ⟨rfl, a'⟩
    exact ⟨rfl, Ho.kept0 hV a', a'.mono (by simp)⟩
/-- Switch -/
def switchR (v : Vl) (a : Int) (on : Bool) : Int × Vl := match v with
  | Sum.inr (Sum.inr (Sum.inl (c, g))) => if isA a = false then (191, v) else if on = false then (0, .flg c zr) else if c.getD a.toNat 0 = 65535 then (92, v) else (0, .flg (c.set a.toNat (c.getD a.toNat 0 + 1)) (zr.set a.toNat (c.getD a.toNat 0 + 1)))
  | _ => (190, v)
theorem Switch_v {w : World} {V : Nat} {v : Vl} (hV : Ho w V v) (ok : Ok v) (a : Int) (on : Bool) : Calls Try.prog 18 #[.pointer (some ⟨V, 0, none⟩), .int .i64 a, .bool on] w fun r w' => r = .returned (.int .i64 (switchR v a on).1) ∧ Ho w' V (switchR v a on).2 ∧ Apart [V] w w' := by
  cases v using Vl.el with
  | flg c g =>
    cases ha : isA a
    · have e : switchR (.flg c g) a on = (191, .flg c g) := by simp [switchR, ha]
      rw [e]
      refine (Switch3_no _ _ (e := 191) (by decide) hV (turn_actor a on ha)).mono ?_
      rintro _ w' ⟨rfl, a'⟩
      exact ⟨rfl, Ho.kept0 hV a', a'.mono (by simp)⟩
    · obtain ⟨i, rfl, hi, hx⟩ := isA_i ha
      cases on
      · have e : switchR (.flg c g) i false = (0, .flg c zr) := by simp [switchR, ha]
        rw [e]
        refine (Switch3_ok _ _ hV (turn_off ok.1.1 i hi)).mono ?_
        rintro _ w' ⟨rfl, h', a'⟩
        exact ⟨rfl, h', a'⟩
      · by_cases hf : c.getD i 0 = 65535
        · have e : switchR (.flg c g) i true = (92, .flg c g) := by simp only [switchR, hx, ha, if_pos hf]; simp
          rw [e]
          refine (Switch3_no _ _ (e := 92) (by decide) hV (turn_full ok.1.1 i hi hf)).mono ?_
          rintro _ w' ⟨rfl, a'⟩
          exact ⟨rfl, Ho.kept0 hV a', a'.mono (by simp)⟩
        · have e : switchR (.flg c g) i true = (0, .flg (c.set i (c.getD i 0 + 1)) (zr.set i (c.getD i 0 + 1))) := by simp only [switchR, hx, ha, if_neg hf]; simp
          have hr := ok.1.2 i
          rw [e]
          refine (Switch3_ok _ _ hV (turn_on ok.1.1 ok.2.1 i hi hr.1 (by omega))).mono ?_
          rintro _ w' ⟨rfl, h', a'⟩
          exact ⟨rfl, h', a'⟩
  | cnt u d =>
    refine (Switch1_no _ _ (e := 190) (by decide) hV (by simp [rv_len, ok.1.1, ok.2.1]) (o_turn _ _ _)).mono ?_
    rintro _ w' ⟨rfl, a'⟩
    exact ⟨rfl, Ho.kept0 hV a', a'.mono (by simp)⟩
  | set c es =>
    have hV' := hV
    obtain ⟨s, h1, h2⟩ := hV
    refine (Switch2_no _ _ (e := 190) (by decide) h1 (sv_size ok.1.1 s) (o_turn _ _ _)).mono ?_
    rintro _ w' ⟨rfl, a'⟩
    exact ⟨rfl, Ho.kept0 hV' a', a'.mono (by simp)⟩
  | rgs s x t =>
    refine (Switch4_no _ _ (e := 190) (by decide) hV rfl (o_turn _ _ _)).mono ?_
    rintro _ w' ⟨rfl, a'⟩
    exact ⟨rfl, Ho.kept0 hV a', a'.mono (by simp)⟩
/-- Write -/
def writeR (v : Vl) (a : Int) (bs : List Nat) : Int × Vl := match v with
  | Sum.inr (Sum.inr (Sum.inr (s, x, t))) => if isA a = false then (191, v) else if bs.length > 59 then (2, v) else if s = 16777215 then (92, v) else (0, .rgs (s + 1) a (strB bs))
  | _ => (190, v)
theorem Write_v {w : World} {V : Nat} {v : Vl} (hV : Ho w V v) (ok : Ok v) (a : Int) {sl : Sl} {bs : List Nat} (hb : Rd w sl.p (byts bs)) (hl : bs.length = sl.n) (okb : sl.ok) : Calls Try.prog 19 #[.pointer (some ⟨V, 0, none⟩), .int .i64 a, .slice sl.p sl.n sl.c] w fun r w' => r = .returned (.int .i64 (writeR v a bs).1) ∧ Ho w' V (writeR v a bs).2 ∧ Apart [V] w w' := by
  cases v using Vl.el with
  | rgs s x t =>
    cases ha : isA a
    · have e : writeR (.rgs s x t) a bs = (191, .rgs s x t) := by simp [writeR, ha]
      rw [e]
      refine (Write4_no _ _ (e := 191) (by decide) hV (write_actor a _ ha)).mono ?_
      rintro _ w' ⟨rfl, a'⟩
      exact ⟨rfl, Ho.kept0 hV a', a'.mono (by simp)⟩
    · obtain ⟨i, rfl, hi, hx⟩ := isA_i ha
      by_cases hL : bs.length > 59
      · have e : writeR (.rgs s x t) i bs = (2, .rgs s x t) := by simp [writeR, ha, hL]
        rw [e]
        refine (Write4_no _ _ (e := 2) (by decide) hV (write_long i hi _ _ _ (by omega))).mono ?_
        rintro _ w' ⟨rfl, a'⟩
        exact ⟨rfl, Ho.kept0 hV a', a'.mono (by simp)⟩
      · by_cases hf : s = 16777215
        · have e : writeR (.rgs s x t) i bs = (92, .rgs s x t) := by simp [writeR, ha, hL, hf]
          rw [e]
          subst hf
          refine (Write4_no _ _ (e := 92) (by decide) hV (write_full i hi _ _ _ (by omega))).mono ?_
          rintro _ w' ⟨rfl, a'⟩
          exact ⟨rfl, Ho.kept0 hV a', a'.mono (by simp)⟩
        · have e : writeR (.rgs s x t) i bs = (0, .rgs (s + 1) i (strB bs)) := by simp [writeR, ha, hL, hf]
          have h1 := ok.1
          have h2 := ok.2
          rw [e]
          refine (Write4_ok _ _ hV (write_ok ok.1 (by omega) i hi hb hl okb (by omega))).mono ?_
          rintro _ w' ⟨rfl, h', a'⟩
          exact ⟨rfl, h', a'⟩
  | cnt u d =>
    refine (Write1_no _ _ (e := 190) (by decide) hV (by simp [rv_len, ok.1.1, ok.2.1]) (o_write _ _ _)).mono ?_
    rintro _ w' ⟨rfl, a'⟩
    exact ⟨rfl, Ho.kept0 hV a', a'.mono (by simp)⟩
  | set c es =>
    have hV' := hV
    obtain ⟨s, h1, h2⟩ := hV
    refine (Write2_no _ _ (e := 190) (by decide) h1 (sv_size ok.1.1 s) (o_write _ _ _)).mono ?_
    rintro _ w' ⟨rfl, a'⟩
    exact ⟨rfl, Ho.kept0 hV' a', a'.mono (by simp)⟩
  | flg c g =>
    refine (Write3_no _ _ (e := 190) (by decide) hV (by simp [rv_len, ok.1.1, ok.2.1]) (o_write _ _ _)).mono ?_
    rintro _ w' ⟨rfl, a'⟩
    exact ⟨rfl, Ho.kept0 hV a', a'.mono (by simp)⟩
/-- Sum -/
def sumR (v : Vl) : Int := match v with
  | Sum.inl (u, d) => sumC u d 8
  | _ => 0
theorem Sum_v {w : World} {V : Nat} {v : Vl} (hV : Ho w V v) (ok : Ok v) : Calls Try.prog 21 #[.pointer (some ⟨V, 0, none⟩)] w fun r w' => r = .returned (.int .i64 (sumR v)) ∧ Apart [] w w' := by
  cases v using Vl.el with
  | cnt u d => exact Sum1 hV (sum_ok ok.1 ok.2)
  | set c es =>
    obtain ⟨s, h1, h2⟩ := hV
    refine (Sum2 h1 (sv_size ok.1.1 s) (o_sum _)).mono ?_
    rintro _ w' ⟨rfl, a'⟩
    exact ⟨rfl, a'⟩
  | flg c g =>
    refine (Sum3 hV (by simp [rv_len, ok.1.1, ok.2.1]) (o_sum _)).mono ?_
    rintro _ w' ⟨rfl, a'⟩
    exact ⟨rfl, a'⟩
  | rgs s x t =>
    refine (Sum4 hV rfl (o_sum _)).mono ?_
    rintro _ w' ⟨rfl, a'⟩
    exact ⟨rfl, a'⟩
/-- On -/
def onR (v : Vl) : Bool := match v with
  | Sum.inr (Sum.inr (Sum.inl (c, g))) => g != zr
  | _ => false
theorem On_v {w : World} {V : Nat} {v : Vl} (hV : Ho w V v) (ok : Ok v) : Calls Try.prog 23 #[.pointer (some ⟨V, 0, none⟩)] w fun r w' => r = .returned (.bool (onR v)) ∧ Apart [] w w' := by
  cases v using Vl.el with
  | flg c g => exact On3 hV (on_ok ok.1.1 ok.2.1)
  | cnt u d =>
    refine (On1 hV (by simp [rv_len, ok.1.1, ok.2.1]) (o_on _)).mono ?_
    rintro _ w' ⟨rfl, a'⟩
    exact ⟨rfl, a'⟩
  | set c es =>
    obtain ⟨s, h1, h2⟩ := hV
    refine (On2 h1 (sv_size ok.1.1 s) (o_on _)).mono ?_
    rintro _ w' ⟨rfl, a'⟩
    exact ⟨rfl, a'⟩
  | rgs s x t =>
    refine (On4 hV rfl (o_on _)).mono ?_
    rintro _ w' ⟨rfl, a'⟩
    exact ⟨rfl, a'⟩
/-- Text -/
def textR (v : Vl) : List Nat := match v with
  | Sum.inr (Sum.inr (Sum.inr (s, a, t))) => bsk t
  | _ => []
theorem Text_v {w : World} {V : Nat} {v : Vl} (hV : Ho w V v) (ok : Ok v) : Calls Try.prog 24 #[.pointer (some ⟨V, 0, none⟩)] w fun r w' => ∃ sl : Sl, r = .returned (.slice sl.p sl.n sl.c) ∧ Apart [] w w' ∧ sl.ok ∧ RdT w' sl.p 5 (byts (textR v)) ∧ (textR v).length = sl.n := by
  cases v using Vl.el with
  | rgs s a t =>
    refine (Text4_p (Q := fun x w' => ∃ sl : Sl, x = .slice sl.p sl.n sl.c ∧ Apart [] w w' ∧ sl.ok ∧ RdT w' sl.p 5 (byts (bsk t)) ∧ (bsk t).length = sl.n) hV (text_ok.mono ?_)).mono ?_
    · rintro _ w' ⟨sl, rfl, h⟩
      exact ⟨_, rfl, sl, rfl, h⟩
    · rintro _ w' ⟨_, rfl, sl, rfl, h⟩
      exact ⟨sl, rfl, h⟩
  | cnt u d =>
    refine (Text1 hV (by simp [rv_len, ok.1.1, ok.2.1]) (o_text _)).mono ?_
    rintro _ w' ⟨rfl, a'⟩
    exact ⟨⟨none, 0, 0⟩, rfl, a', fun _ => ⟨rfl, rfl⟩, RdT.nil _ _ _, rfl⟩
  | set c es =>
    obtain ⟨s, h1, h2⟩ := hV
    refine (Text2 h1 (sv_size ok.1.1 s) (o_text _)).mono ?_
    rintro _ w' ⟨rfl, a'⟩
    exact ⟨⟨none, 0, 0⟩, rfl, a', fun _ => ⟨rfl, rfl⟩, RdT.nil _ _ _, rfl⟩
  | flg c g =>
    refine (Text3 hV (by simp [rv_len, ok.1.1, ok.2.1]) (o_text _)).mono ?_
    rintro _ w' ⟨rfl, a'⟩
    exact ⟨⟨none, 0, 0⟩, rfl, a', fun _ => ⟨rfl, rfl⟩, RdT.nil _ _ _, rfl⟩
/-- Elements -/
def elsR (v : Vl) : List En := match v with
  | Sum.inr (Sum.inl (c, es)) => es
  | _ => []
theorem Elements_v {w : World} {V : Nat} {v : Vl} (hV : Ho w V v) (ok : Ok v) : Calls Try.prog 22 #[.pointer (some ⟨V, 0, none⟩)] w fun r w' => ∃ s', r = .returned (.slice s'.p s'.n s'.c) ∧ ∃ l, Nw w w' 22 1 s' (svs l) ∧ s'.n = (elsR v).length ∧ Els w' l (elsR v) := by
  cases v using Vl.el with
  | set c es =>
    obtain ⟨s, h1, h2⟩ := hV
    obtain ⟨okc, oks, okn, oke⟩ := ok
    refine (Elements2_p (Q := fun x w' => ∃ s', x = .slice s'.p s'.n s'.c ∧ ∃ l, Nw w w' 22 1 s' (svs l) ∧ s'.n = es.length ∧ Els w' l es) h1 ((elements_ok okc.1 h2 (by omega)).mono ?_)).mono ?_
    · rintro _ w' ⟨sl, rfl, h⟩
      exact ⟨_, rfl, sl, rfl, h⟩
    · rintro _ w' ⟨_, rfl, sl, rfl, h⟩
      exact ⟨sl, rfl, h⟩
  | cnt u d =>
    refine (Elements1 hV (by simp [rv_len, ok.1.1, ok.2.1]) (o_elements _)).mono ?_
    rintro _ w' ⟨rfl, a'⟩
    exact ⟨⟨none, 0, 0⟩, rfl, [], ⟨World.ownsRow_nil _ _ _ _, by simp [Sl.v, Value.ownBlock], a'⟩, rfl, rfl, by simp⟩
  | flg c g =>
    refine (Elements3 hV (by simp [rv_len, ok.1.1, ok.2.1]) (o_elements _)).mono ?_
    rintro _ w' ⟨rfl, a'⟩
    exact ⟨⟨none, 0, 0⟩, rfl, [], ⟨World.ownsRow_nil _ _ _ _, by simp [Sl.v, Value.ownBlock], a'⟩, rfl, rfl, by simp⟩
  | rgs s x t =>
    refine (Elements4 hV rfl (o_elements _)).mono ?_
    rintro _ w' ⟨rfl, a'⟩
    exact ⟨⟨none, 0, 0⟩, rfl, [], ⟨World.ownsRow_nil _ _ _ _, by simp [Sl.v, Value.ownBlock], a'⟩, rfl, rfl, by simp⟩
end Go.Proofs.Ytdbeeikjngnnnaa.ty
namespace Go.Proofs.Ytdbeeikjngnnnaa.ty
open Go.ChangeShapes Go.WideShapes Go.ChangeAt Go.RowKit
set_option linter.unusedVariables false
set_option linter.unusedSimpArgs false
theorem rv_all (a : List Int) : (rv a).toArray.all Value.oneCell' = true := all_oneCell_toArray (rv_one _)
theorem rg_all (s a : Int) (t : ByteArray) : (ty.rg s a t).all Value.oneCell' = true := by
  have := all_oneCell_toArray (cs := [Value.int .i64 s, .int .i64 a, .string t]) (by intro u hu; simp at hu; rcases hu with rfl | rfl | rfl <;> rfl)
  exact this
theorem Merge_diff {w : World} {V O : Nat} {v o : Vl} (hV : Ho w V v) (hO : Ho w O o) (ok : Ok v) (hk : v.kd ≠ o.kd) : Calls Try.prog 14 #[.pointer (some ⟨V, 0, none⟩), .pointer (some ⟨O, 0, none⟩)] w fun r w' => r = .returned (.int .i64 190) ∧ Apart [] w w' := by
  cases v using Vl.el with
  | cnt u d =>
    cases o using Vl.el with
    | cnt p q => exact absurd rfl hk
    | set e fs =>
      obtain ⟨sb, hO, -⟩ := hO
      exact Merge_no (by decide) hV hO (fun wx _ => merged_12 (by simp [rv_len, ok.1.1, ok.2.1]) (rv_all _))
    | flg e f =>
      exact Merge_no (by decide) hV hO (fun wx _ => merged_13 (by simp [rv_len, ok.1.1, ok.2.1]) (rv_all _))
    | rgs y z t2 =>
      exact Merge_no (by decide) hV hO (fun wx _ => merged_14 (by simp [rv_len, ok.1.1, ok.2.1]) (rv_all _))
  | set c es =>
    obtain ⟨sa, hV, -⟩ := hV
    cases o using Vl.el with
    | cnt p q =>
      exact Merge_no (by decide) hV hO (fun wx _ => merged_21 (sv_size ok.1.1 _) (sv_one _ _))
    | set e fs => exact absurd rfl hk
    | flg e f =>
      exact Merge_no (by decide) hV hO (fun wx _ => merged_23 (sv_size ok.1.1 _) (sv_one _ _))
    | rgs y z t2 =>
      exact Merge_no (by decide) hV hO (fun wx _ => merged_24 (sv_size ok.1.1 _) (sv_one _ _))
  | flg c g =>
    cases o using Vl.el with
    | cnt p q =>
      exact Merge_no (by decide) hV hO (fun wx _ => merged_31 (by simp [rv_len, ok.1.1, ok.2.1]) (rv_all _))
    | set e fs =>
      obtain ⟨sb, hO, -⟩ := hO
      exact Merge_no (by decide) hV hO (fun wx _ => merged_32 (by simp [rv_len, ok.1.1, ok.2.1]) (rv_all _))
    | flg e f => exact absurd rfl hk
    | rgs y z t2 =>
      exact Merge_no (by decide) hV hO (fun wx _ => merged_34 (by simp [rv_len, ok.1.1, ok.2.1]) (rv_all _))
  | rgs s x t =>
    cases o using Vl.el with
    | cnt p q =>
      exact Merge_no (by decide) hV hO (fun wx _ => merged_41 rfl (rg_all _ _ _))
    | set e fs =>
      obtain ⟨sb, hO, -⟩ := hO
      exact Merge_no (by decide) hV hO (fun wx _ => merged_42 rfl (rg_all _ _ _))
    | flg e f =>
      exact Merge_no (by decide) hV hO (fun wx _ => merged_43 rfl (rg_all _ _ _))
    | rgs y z t2 => exact absurd rfl hk
theorem Merge_cnt {w : World} {V O : Nat} {u d p q : List Int} (hV : Ho w V (.cnt u d)) (hO : Ho w O (.cnt p q)) (ok : Ok (.cnt u d)) (ok' : Ok (.cnt p q)) : Calls Try.prog 14 #[.pointer (some ⟨V, 0, none⟩), .pointer (some ⟨O, 0, none⟩)] w fun r w' => r = .returned (.int .i64 0) ∧ Ho w' V (.cnt (gr u p) (gr d q)) ∧ Apart [V] w w' := by
  refine (Merge_ok (P := fun es w' => es = (rv (gr u p ++ gr d q)).toArray) hV hO (fun wx _ => merged_11 (by simp [rv_len, ok.1.1, ok.2.1]) (rv_all _) (by simp [rv_len, ok'.1.1, ok'.2.1]) (rv_all _) (fun wy _ => (cmerged_ok ok.1.1 ok.2.1 ok'.1.1 ok'.2.1).mono ?_))).mono ?_
  · rintro _ w' ⟨rfl, a'⟩
    exact ⟨_, rfl, a', rfl⟩
  · rintro _ w' ⟨rfl, es, w2, hb, a1, a2, rfl⟩
    exact ⟨rfl, hb, (a1.mono (by simp)).trans a2⟩
theorem Merge_flg {w : World} {V O : Nat} {u d p q : List Int} (hV : Ho w V (.flg u d)) (hO : Ho w O (.flg p q)) (ok : Ok (.flg u d)) (ok' : Ok (.flg p q)) : Calls Try.prog 14 #[.pointer (some ⟨V, 0, none⟩), .pointer (some ⟨O, 0, none⟩)] w fun r w' => r = .returned (.int .i64 0) ∧ Ho w' V (.flg (gr u p) (mt d u q p)) ∧ Apart [V] w w' := by
  refine (Merge_ok (P := fun es w' => es = (rv (gr u p ++ mt d u q p)).toArray) hV hO (fun wx _ => merged_33 (by simp [rv_len, ok.1.1, ok.2.1]) (rv_all _) (by simp [rv_len, ok'.1.1, ok'.2.1]) (rv_all _) (fun wy _ => (fmerged_ok ok.1.1 ok.2.1 ok'.1.1 ok'.2.1).mono ?_))).mono ?_
  · rintro _ w' ⟨rfl, a'⟩
    exact ⟨_, rfl, a', rfl⟩
  · rintro _ w' ⟨rfl, es, w2, hb, a1, a2, rfl⟩
    exact ⟨rfl, hb, (a1.mono (by simp)).trans a2⟩
/-- the later one of two writings -/
def laterR (s a : Int) (t : ByteArray) (s2 a2 : Int) (t2 : ByteArray) : Vl := if orL [cmI s s2, cmI a a2, cmS t t2] < 0 then .rgs s2 a2 t2 else .rgs s a t
theorem Merge_rgs {w : World} {V O : Nat} {s a s2 a2 : Int} {t t2 : ByteArray} (hV : Ho w V (.rgs s a t)) (hO : Ho w O (.rgs s2 a2 t2)) : Calls Try.prog 14 #[.pointer (some ⟨V, 0, none⟩), .pointer (some ⟨O, 0, none⟩)] w fun r w' => r = .returned (.int .i64 0) ∧ Ho w' V (laterR s a t s2 a2 t2) ∧ Apart [V] w w' := by
  refine (Merge_ok (P := fun es w' => (later s a t s2 a2 t2 → es = ty.rg s2 a2 t2) ∧ (¬ later s a t s2 a2 t2 → es = ty.rg s a t)) hV hO (fun wx _ => merged_44 rfl (rg_all _ _ _) rfl (rg_all _ _ _) (fun wy _ => gmerged_ok.mono ?_))).mono ?_
  · rintro r w' ⟨h1, h2, a'⟩
    by_cases hL : later s a t s2 a2 t2
    · exact ⟨_, h1 hL, a', fun _ => rfl, fun h => absurd hL h⟩
    · exact ⟨_, h2 hL, a', fun h => absurd h hL, fun _ => rfl⟩
  · rintro _ w' ⟨rfl, es, w2, hb, b1, b2, h1, h2⟩
    refine ⟨rfl, ?_, (b1.mono (by simp)).trans b2⟩
    unfold laterR
    by_cases hL : later s a t s2 a2 t2
    · rw [if_pos (show orL [cmI s s2, cmI a a2, cmS t t2] < 0 from hL)]; rw [h1 hL] at hb; exact hb
    · rw [if_neg (show ¬ orL [cmI s s2, cmI a a2, cmS t t2] < 0 from hL)]; rw [h2 hL] at hb; exact hb
/-- two new ones of one type -/
theorem Merge_new {w : World} {V O : Nat} (k : Nat) (h1 : 1 ≤ k) (h4 : k ≤ 4) (hV : Ho w V (new0 k)) (hO : Ho w O (new0 k)) : Calls Try.prog 14 #[.pointer (some ⟨V, 0, none⟩), .pointer (some ⟨O, 0, none⟩)] w fun r w' => r = .returned (.int .i64 0) ∧ Ho w' V (new0 k) ∧ Apart [V] w w' := by
  have ok := new0_ok k
  obtain rfl | rfl | rfl | rfl : k = 1 ∨ k = 2 ∨ k = 3 ∨ k = 4 := by omega
  · exact (Merge_cnt hV hO ok ok).mono (fun r w' h => h)
  · obtain ⟨sa, hV, ea⟩ := hV
    obtain ⟨sb, hO, eb⟩ := hO
    have hgr : gr zr zr = zr := by decide
    refine (Merge_ok (P := fun es w' => es = sv zr ⟨none, 0, 0⟩) hV hO (fun wx _ => merged_22 (sv_size rfl _) (sv_one _ _) (sv_size rfl _) (sv_one _ _) (fun wy _ => (smerged0 (c := zr) (d := zr) rfl rfl ea.len eb.len).mono ?_))).mono ?_
    · rintro _ w' ⟨rfl, a'⟩
      exact ⟨_, rfl, a', by rw [hgr]⟩
    · rintro _ w' ⟨rfl, es, w2, hb, a1, a2, rfl⟩
      exact ⟨rfl, ⟨_, hb, Es.nil _⟩, (a1.mono (by simp)).trans a2⟩
  · refine (Merge_flg hV hO ok ok).mono (fun r w' h => ?_)
    have hgr : gr zr zr = zr := by decide
    have hmt : mt zr zr zr zr = zr := by decide
    rw [hgr, hmt] at h
    exact h
  · refine (Merge_rgs hV hO).mono (fun r w' h => ?_)
    have hL : ¬ later 0 0 ⟨#[]⟩ 0 0 ⟨#[]⟩ := by
      unfold later
      have e1 : cmS ⟨#[]⟩ ⟨#[]⟩ = 0 := by unfold cmS; simp [Op.bytesLess]
      rw [e1]
      decide
    unfold laterR at h
    rw [if_neg (show ¬ orL [cmI 0 0, cmI 0 0, cmS ⟨#[]⟩ ⟨#[]⟩] < 0 from hL)] at h
    exact h
end Go.Proofs.Ytdbeeikjngnnnaa.ty
