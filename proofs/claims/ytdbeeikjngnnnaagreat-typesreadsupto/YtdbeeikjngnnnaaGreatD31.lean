import Derived.Test.YtdbeeikjngnnnaaGreatChecked
import Derived.WalkKit
import Derived.ProofKit
import Derived.OpenShut
import Derived.Deep.QuietTactic
import Derived.BigQuiet
import Derived.BigRegion
import Derived.Laws.CopyOwn
import Derived.Laws.IdiomCopy
import Derived.WalkSmall
import Derived.Laws.ResultCell
import Derived.Laws.AppendOwnNone
import Derived.Deep.RegionHeld
import Derived.Deep.DeepAppendRoom
import Derived.Great.BuildSlice
import Derived.Deep.CutBlock
import Derived.Deep.RegionLaw
import Derived.ArgAppend
import Derived.Laws.Strings
import Derived.Laws.StructEq
import Derived.Below
import Derived.Deep.MidRow
import Derived.Great.Ranges
import Derived.Deep.RegionHeld3
import Derived.Laws.NewBlocks
import Derived.OrdersHeld
import Derived.Stop.BytesEq
import Derived.Laws.BytesString
import Derived.Lib.ConvBytes
import Derived.Laws.BitsAllLaws
import Derived.WalkLawsBesides
import Derived.Lib.Bytealg
import Derived.Laws.Externs
import Derived.Lib.SliceRun
import Derived.Lib.AppendZerosOnto
import Derived.Lib.AppendStr
import Derived.Lib.SlBytesConst
import Derived.Sort.Walk0
import Derived.Laws.Cover1
import Derived.Lib.Strings
import Derived.Lib.MinMaxS
import GoSem.Claim
import GoSem.ClaimJoined
import GoSem.ClaimMapViews
import Derived.JoinedTies
import Derived.KernelRfl
import Derived.JoinedCond
import Derived.ShutString
import Derived.ChangeOld
import Derived.Carry
import Derived.ChangeSlices
import Derived.Deep.Slices
import Derived.Deep.DeepHandedRow
import Derived.RowKit
import Derived.ChangeShapes
import Derived.SizedLaws
import Derived.ChangeMaps5
import Derived.Sort.WalkA
import Derived.Test.YtdbeeikjngnnnaaGreatRows
import Derived.Test.YtdbeeikjngnnnaaGreatD24
import Derived.Test.YtdbeeikjngnnnaaGreatD30
namespace Go.Proofs.YtdbeeikjngnnnaaGreat.ty
open Go.ChangeShapes Go.WideShapes Go.ChangeAt Go.RowKit
set_option linter.unusedVariables false
set_option linter.unusedSimpArgs false
structure Rs where
  u : List Int
  d : List Int
  at_ : Nat
  bad : Bool
def rwS (bs : List Nat) (mask size : Nat) (two : Bool) (s : Rs) (i : Nat) : Rs :=
  if mask / 2 ^ i % 2 = 1 then
    (if two = true then ⟨s.u ++ [(dnum bs s.at_ size : Int)], s.d ++ [(dnum bs (dat bs s.at_ size) size : Int)], dat bs (dat bs s.at_ size) size, (s.bad || dbad bs s.at_ size) || dbad bs (dat bs s.at_ size) size⟩
    else ⟨s.u ++ [(dnum bs s.at_ size : Int)], s.d ++ [0], dat bs s.at_ size, s.bad || dbad bs s.at_ size⟩)
  else ⟨s.u ++ [0], s.d ++ [0], s.at_, s.bad⟩
def rwD (bs : List Nat) (mask size : Nat) (two : Bool) (a : Nat) (b : Bool) : Nat → Rs
  | 0 => ⟨[], [], a, b⟩
  | i + 1 => rwS bs mask size two (rwD bs mask size two a b i) i
theorem rwD_len (bs : List Nat) (mask size : Nat) (two : Bool) (a : Nat) (b : Bool) : ∀ i, (rwD bs mask size two a b i).u.length = i ∧ (rwD bs mask size two a b i).d.length = i
  | 0 => ⟨rfl, rfl⟩
  | i + 1 => by
    have h := rwD_len bs mask size two a b i
    unfold rwD rwS
    split
    · split <;> simp [h.1, h.2]
    · simp [h.1, h.2]
theorem rwD_at (bs : List Nat) (mask size : Nat) (two : Bool) (a : Nat) (b : Bool) (ha : a ≤ bs.length) : ∀ i, (rwD bs mask size two a b i).at_ ≤ bs.length
  | 0 => ha
  | i + 1 => by
    have h := rwD_at bs mask size two a b ha i
    unfold rwD rwS
    split
    · split
      · exact dat_le _ _ _
      · exact dat_le _ _ _
    · exact h
theorem rwD_bd {bs : List Nat} (h8 : U8 bs) (mask : Nat) {size : Nat} (hs : size ≤ 3) (two : Bool) (a : Nat) (b : Bool) : ∀ i, (∀ x ∈ (rwD bs mask size two a b i).u, 0 ≤ x ∧ x ≤ 16777215) ∧ (∀ x ∈ (rwD bs mask size two a b i).d, 0 ≤ x ∧ x ≤ 16777215)
  | 0 => ⟨by simp [rwD], by simp [rwD]⟩
  | i + 1 => by
    obtain ⟨h1, h2⟩ := rwD_bd h8 mask hs two a b i
    have hn : ∀ q, 0 ≤ (dnum bs q size : Int) ∧ (dnum bs q size : Int) ≤ 16777215 := fun q => by
      have e1 := dnum_lt h8 q size
      have e2 : 2 ^ (8 * size) ≤ 2 ^ 24 := Nat.pow_le_pow_right (by omega) (by omega)
      omega
    have ap : ∀ {l : List Int} {z : Int}, (∀ x ∈ l, 0 ≤ x ∧ x ≤ 16777215) → (0 ≤ z ∧ z ≤ 16777215) → ∀ x ∈ l ++ [z], 0 ≤ x ∧ x ≤ 16777215 := fun {l z} hl hz x hx => by
      rcases List.mem_append.1 hx with hx | hx
      · exact hl x hx
      · rw [List.mem_singleton.1 hx]; exact hz
    unfold rwD rwS
    split
    · split
      · exact ⟨ap h1 (hn _), ap h2 (hn _)⟩
      · exact ⟨ap h1 (hn _), ap h2 (by omega)⟩
    · exact ⟨ap h1 (by omega), ap h2 (by omega)⟩
theorem bor_false {a b : Bool} (h : (a || b) = false) : a = false ∧ b = false := by
  cases a <;> cases b <;> simp_all
theorem dfit {bs : List Nat} {a k : Nat} (h : dbad bs a k = false) : a + k ≤ bs.length ∧ dnum bs a k = leV ((bs.drop a).take k) ∧ dat bs a k = a + k ∧ (bs.drop a).drop k = bs.drop (a + k) := by
  have h1 : a + k ≤ bs.length := by unfold dbad at h; have := of_decide_eq_false h; omega
  refine ⟨h1, by unfold dnum; rw [if_pos h1], by unfold dat; rw [if_pos h1], by rw [List.drop_drop]⟩
/-- not bad: it is what the program reads -/
theorem rwD_one {bs : List Nat} {mask size a : Nat} {b : Bool} : ∀ i, (rwD bs mask size false a b i).bad = false → rwI mask size i (bs.drop a) = ((rwD bs mask size false a b i).u, bs.drop (rwD bs mask size false a b i).at_)
  | 0, _ => rfl
  | i + 1, h => by
    unfold rwD rwS at h ⊢
    unfold rwI
    by_cases hb : mask / 2 ^ i % 2 = 1
    · rw [if_pos hb] at h ⊢
      rw [if_pos hb]
      simp only [Bool.false_eq_true, if_false] at h ⊢
      obtain ⟨h1, h2⟩ := bor_false h
      obtain ⟨f1, f2, f3, f4⟩ := dfit h2
      rw [rwD_one i h1, f2, f3, f4]
    · rw [if_neg hb] at h ⊢
      rw [if_neg hb, rwD_one i h]
theorem leV_app (x y : List Nat) : leV (x ++ y) = leV x + leV y * 2 ^ (8 * x.length) := by
  induction x with
  | nil => simp [leV]
  | cons z r ih =>
    rw [List.cons_append, leV, ih, leV, List.length_cons, Nat.mul_succ, Nat.pow_add]
    have : (2 : Nat) ^ 8 = 256 := by decide
    rw [this, Nat.mul_add, Nat.add_assoc]
    congr 2
    rw [Nat.mul_left_comm, Nat.mul_comm 256]
theorem leV_six {l : List Nat} (h : 6 ≤ l.length) : leV (l.take 6) = leV (l.take 3) + leV ((l.drop 3).take 3) * 16777216 := by
  have e : l.take 6 = l.take 3 ++ (l.drop 3).take 3 := by rw [← List.take_add]
  rw [e, leV_app, List.length_take, Nat.min_eq_left (by omega)]
theorem rwD_two {bs : List Nat} (h8 : U8 bs) {mask a : Nat} {b : Bool} : ∀ i, (rwD bs mask 3 true a b i).bad = false → (rwI mask 6 i (bs.drop a)).2 = bs.drop (rwD bs mask 3 true a b i).at_ ∧ cuR (rwI mask 6 i (bs.drop a)).1 = (rwD bs mask 3 true a b i).u ∧ cdR (rwI mask 6 i (bs.drop a)).1 = (rwD bs mask 3 true a b i).d
  | 0, _ => ⟨rfl, rfl, rfl⟩
  | i + 1, h => by
    unfold rwD rwS at h ⊢
    unfold rwI
    by_cases hb : mask / 2 ^ i % 2 = 1
    · rw [if_pos hb] at h ⊢
      rw [if_pos hb]
      simp only [if_true] at h ⊢
      obtain ⟨h1, h3⟩ := bor_false h
      obtain ⟨h1, h2⟩ := bor_false h1
      obtain ⟨e1, e2, e3⟩ := rwD_two h8 i h1
      obtain ⟨f1, f2, f3, f4⟩ := dfit h2
      rw [f3] at h3 ⊢
      obtain ⟨g1, g2, g3, g4⟩ := dfit h3
      have hl6 : 6 ≤ (bs.drop (rwD bs mask 3 true a b i).at_).length := by rw [List.length_drop]; omega
      have hx : leV ((bs.drop (rwD bs mask 3 true a b i).at_).take 6) = dnum bs (rwD bs mask 3 true a b i).at_ 3 + dnum bs ((rwD bs mask 3 true a b i).at_ + 3) 3 * 16777216 := by
        rw [leV_six hl6, f4, f2, g2]
      have b1 : dnum bs (rwD bs mask 3 true a b i).at_ 3 < 16777216 := dnum_lt h8 _ 3
      refine ⟨?_, ?_, ?_⟩
      · rw [e1, g3, List.drop_drop]
      · rw [e1, hx, ← e2]
        unfold cuR
        rw [List.map_append]
        congr 1
        simp only [List.map_cons, List.map_nil, List.cons.injEq, and_true]
        omega
      · rw [e1, hx, ← e3]
        unfold cdR
        rw [List.map_append]
        congr 1
        simp only [List.map_cons, List.map_nil, List.cons.injEq, and_true]
        omega
    · rw [if_neg hb] at h ⊢
      rw [if_neg hb]
      obtain ⟨e1, e2, e3⟩ := rwD_two h8 i h
      refine ⟨e1, ?_, ?_⟩
      · rw [← e2]; unfold cuR; rw [List.map_append]; rfl
      · rw [← e3]; unfold cdR; rw [List.map_append]; rfl
/-- the parts of a row -/
theorem nb8_pre (r : List Int) (wd : Nat) : ∀ {i n : Nat}, i ≤ n → ∃ q, nb8 r wd n = nb8 r wd i ++ q := by
  intro i n h
  induction n with
  | zero =>
    obtain rfl : i = 0 := by omega
    exact ⟨[], by simp⟩
  | succ n ih =>
    by_cases e : i = n + 1
    · subst e
      exact ⟨[], by simp⟩
    · obtain ⟨q, hq⟩ := ih (by omega)
      rw [nb8]
      split
      · exact ⟨q ++ leB (r.getD n 0).toNat wd, by rw [hq, List.append_assoc]⟩
      · exact ⟨q, hq⟩
theorem mk8_div (r : List Int) {i : Nat} (hi : i < 8) : mk8 r 8 / 2 ^ i % 2 = 1 ↔ 0 < r.getD i 0 := by
  have h := mk8_bit r i 8
  rw [Nat.testBit_eq_decide_div_mod_eq] at h
  have h2 := decide_eq_decide.1 h
  rw [h2]
  constructor
  · exact fun k => k.2
  · exact fun k => ⟨hi, k⟩
/-- room for the next number of a row -/
theorem row_room {wd : Nat} {r : List Int} (h : Rw wd r) {us tl : List Nat} (e : us = nb8 r wd 8 ++ tl) {i : Nat} (hi : i < 8) (hb : mk8 r 8 / 2 ^ i % 2 = 1) : wd ≤ (rwI (mk8 r 8) wd i us).2.length := by
  have hp := (mk8_div r hi).1 hb
  obtain ⟨q, hq⟩ := nb8_pre r wd (show i + 1 ≤ 8 by omega)
  have h1 : nb8 r wd (i + 1) = nb8 r wd i ++ leB (r.getD i 0).toNat wd := by rw [nb8, if_pos hp]
  rw [e, hq, h1, List.append_assoc, List.append_assoc, rwI_back h i _ (by omega), List.length_append, leB_len]
  omega
theorem rwD_good1 {bs : List Nat} {wd a : Nat} {r : List Int} (h : Rw wd r) {tl : List Nat} (e : bs.drop a = nb8 r wd 8 ++ tl) : ∀ i, i ≤ 8 → (rwD bs (mk8 r 8) wd false a false i).bad = false
  | 0, _ => rfl
  | i + 1, hi => by
    have ih := rwD_good1 h e i (by omega)
    unfold rwD rwS
    by_cases hb : mk8 r 8 / 2 ^ i % 2 = 1
    · rw [if_pos hb]
      simp only [Bool.false_eq_true, if_false]
      have h1 := row_room h e (by omega) hb
      rw [rwD_one i ih] at h1
      simp only [List.length_drop] at h1
      rw [ih]
      unfold dbad
      rw [decide_eq_false (by
        by_cases hw : wd = 0
        · have := rwD_at bs (mk8 r 8) wd false a false (by
            by_cases c : a ≤ bs.length
            · exact c
            · exfalso
              rw [List.drop_eq_nil_of_le (by omega)] at e
              have hl := congrArg List.length e
              rw [hw] at h1
              have hp := (mk8_div r (by omega : i < 8)).1 hb
              subst hw
              have hz := h.lt i (by omega)
              have h20 : (2 : Int) ^ (8 * 0) = 1 := by decide
              omega) i
          omega
        · omega)]
      rfl
    · rw [if_neg hb]; exact ih
theorem rwD_good2 {bs : List Nat} (h8 : U8 bs) {a : Nat} {r : List Int} (h : Rw 6 r) {tl : List Nat} (e : bs.drop a = nb8 r 6 8 ++ tl) : ∀ i, i ≤ 8 → (rwD bs (mk8 r 8) 3 true a false i).bad = false
  | 0, _ => rfl
  | i + 1, hi => by
    have ih := rwD_good2 h8 h e i (by omega)
    unfold rwD rwS
    by_cases hb : mk8 r 8 / 2 ^ i % 2 = 1
    · rw [if_pos hb]
      simp only [if_true]
      have h1 := row_room h e (by omega) hb
      rw [(rwD_two h8 i ih).1] at h1
      simp only [List.length_drop] at h1
      rw [ih]
      have d1 : dbad bs (rwD bs (mk8 r 8) 3 true a false i).at_ 3 = false := by unfold dbad; rw [decide_eq_false (by omega)]
      have d2 := dfit d1
      rw [d2.2.2.1, d1]
      unfold dbad
      rw [decide_eq_false (by omega)]
      rfl
    · rw [if_neg hb]; exact ih
/-- a whole row -/
def rowDD (bs : List Nat) (a : Nat) (b : Bool) (size : Nat) (two : Bool) : Rs := rwD bs (dnum bs a 1) size two (dat bs a 1) (b || dbad bs a 1) 8
theorem rwD_mono {bs : List Nat} {mask size : Nat} {two : Bool} {a : Nat} {b : Bool} : ∀ i, (rwD bs mask size two a b i).bad = false → b = false
  | 0, h => h
  | i + 1, h => by
    unfold rwD rwS at h
    split at h
    · split at h
      · exact rwD_mono i (bor_false (bor_false h).1).1
      · exact rwD_mono i (bor_false h).1
    · exact rwD_mono i h
theorem rowDD_one {bs : List Nat} {a : Nat} {b : Bool} {size : Nat} (h : (rowDD bs a b size false).bad = false) : b = false ∧ rowR (bs.drop a) size = ((rowDD bs a b size false).u, bs.drop (rowDD bs a b size false).at_) := by
  obtain ⟨h1, h2⟩ := bor_false (rwD_mono 8 h)
  refine ⟨h1, ?_⟩
  have h3 := rwD_one 8 h
  obtain ⟨f1, f2, f3, f4⟩ := dfit h2
  unfold rowR
  rw [f4, ← f2, ← f3]
  exact h3
theorem rowDD_two {bs : List Nat} (h8 : U8 bs) {a : Nat} {b : Bool} (h : (rowDD bs a b 3 true).bad = false) : b = false ∧ (rowR (bs.drop a) 6).2 = bs.drop (rowDD bs a b 3 true).at_ ∧ cuR (rowR (bs.drop a) 6).1 = (rowDD bs a b 3 true).u ∧ cdR (rowR (bs.drop a) 6).1 = (rowDD bs a b 3 true).d := by
  obtain ⟨h1, h2⟩ := bor_false (rwD_mono 8 h)
  refine ⟨h1, ?_⟩
  have h3 := rwD_two h8 8 h
  obtain ⟨f1, f2, f3, f4⟩ := dfit h2
  unfold rowR
  rw [f4, ← f2, ← f3]
  exact h3
theorem drop_head {bs : List Nat} {a x : Nat} {l : List Nat} (e : bs.drop a = x :: l) : dbad bs a 1 = false ∧ dnum bs a 1 = x ∧ bs.drop (dat bs a 1) = l := by
  have hl : a + 1 ≤ bs.length := by
    have := congrArg List.length e
    rw [List.length_drop, List.length_cons] at this
    omega
  have d : dbad bs a 1 = false := by unfold dbad; exact decide_eq_false (by omega)
  obtain ⟨f1, f2, f3, f4⟩ := dfit d
  refine ⟨d, ?_, ?_⟩
  · rw [f2, e]; simp [leV]
  · rw [f3, ← f4, e]; rfl
theorem rowDD_good1 {bs : List Nat} {wd a : Nat} {r : List Int} (h : Rw wd r) {tl : List Nat} (e : bs.drop a = rowB r wd ++ tl) : (rowDD bs a false wd false).bad = false ∧ (rowDD bs a false wd false).u = r ∧ bs.drop (rowDD bs a false wd false).at_ = tl := by
  obtain ⟨d1, d2, d3⟩ := drop_head (show bs.drop a = mk8 r 8 :: (nb8 r wd 8 ++ tl) from e)
  have hb : (rowDD bs a false wd false).bad = false := by
    unfold rowDD
    rw [d1, d2]
    exact rwD_good1 h d3 8 (Nat.le_refl _)
  have h2 := (rowDD_one hb).2
  rw [e, rowR_back h] at h2
  exact ⟨hb, (congrArg Prod.fst h2).symm, (congrArg Prod.snd h2).symm⟩
theorem rowDD_good2 {bs : List Nat} (h8 : U8 bs) {a : Nat} {r : List Int} (h : Rw 6 r) {tl : List Nat} (e : bs.drop a = rowB r 6 ++ tl) : (rowDD bs a false 3 true).bad = false ∧ bs.drop (rowDD bs a false 3 true).at_ = tl := by
  obtain ⟨d1, d2, d3⟩ := drop_head (show bs.drop a = mk8 r 8 :: (nb8 r 6 8 ++ tl) from e)
  have hb : (rowDD bs a false 3 true).bad = false := by
    unfold rowDD
    rw [d1, d2]
    exact rwD_good2 h8 h d3 8 (Nat.le_refl _)
  have h2 := (rowDD_two h8 hb).2.1
  rw [e, rowR_back h] at h2
  exact ⟨hb, h2.symm⟩
end Go.Proofs.YtdbeeikjngnnnaaGreat.ty
