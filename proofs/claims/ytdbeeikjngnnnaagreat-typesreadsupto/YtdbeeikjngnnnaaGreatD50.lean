import Derived.Test.YtdbeeikjngnnnaaGreatChecked
import Derived.WalkKit
import Derived.ProofKit
import Derived.OpenShut
import Derived.Deep.QuietTactic
import Derived.BigQuiet
import Derived.BigRegion
import Derived.Laws.CopyOwn
import Derived.Laws.IdiomCopy
import Derived.WalkSmall
import Derived.Laws.ResultCell
import Derived.Laws.AppendOwnNone
import Derived.Deep.RegionHeld
import Derived.Deep.DeepAppendRoom
import Derived.Great.BuildSlice
import Derived.Deep.CutBlock
import Derived.Deep.RegionLaw
import Derived.ArgAppend
import Derived.Laws.Strings
import Derived.Laws.StructEq
import Derived.Below
import Derived.Deep.MidRow
import Derived.Great.Ranges
import Derived.Deep.RegionHeld3
import Derived.Laws.NewBlocks
import Derived.OrdersHeld
import Derived.Stop.BytesEq
import Derived.Laws.BytesString
import Derived.Lib.ConvBytes
import Derived.Laws.BitsAllLaws
import Derived.WalkLawsBesides
import Derived.Lib.Bytealg
import Derived.Laws.Externs
import Derived.Lib.SliceRun
import Derived.Lib.AppendZerosOnto
import Derived.Lib.AppendStr
import Derived.Lib.SlBytesConst
import Derived.Sort.Walk0
import Derived.Laws.Cover1
import Derived.Lib.Strings
import Derived.Lib.MinMaxS
import GoSem.Claim
import GoSem.ClaimJoined
import GoSem.ClaimMapViews
import Derived.JoinedTies
import Derived.KernelRfl
import Derived.JoinedCond
import Derived.ShutString
import Derived.ChangeOld
import Derived.Carry
import Derived.ChangeSlices
import Derived.Deep.Slices
import Derived.Deep.DeepHandedRow
import Derived.RowKit
import Derived.ChangeShapes
import Derived.SizedLaws
import Derived.ChangeMaps5
import Derived.Sort.WalkA
import Derived.Test.YtdbeeikjngnnnaaGreatRows
import Derived.Test.YtdbeeikjngnnnaaGreatD49
namespace Go.Proofs.YtdbeeikjngnnnaaGreat.ty
open Go.ChangeShapes Go.WideShapes Go.ChangeAt Go.RowKit
set_option linter.unusedVariables false
set_option linter.unusedSimpArgs false
def flatT : List En → List Tg
  | [] => []
  | x :: r => tagL x.e x.t 8 ++ flatT r
theorem flatT_app (a b : List En) : flatT (a ++ b) = flatT a ++ flatT b := by
  induction a with
  | nil => rfl
  | cons x r ih => simp [flatT, ih, List.append_assoc]
theorem flatT_mem : ∀ {es : List En} {t : Tg}, t ∈ flatT es → ∃ x ∈ es, t ∈ tagL x.e x.t 8
  | [], t, h => by simp [flatT] at h
  | x :: r, t, h => by
    rcases List.mem_append.1 h with h | h
    · exact ⟨x, by simp, h⟩
    · obtain ⟨y, hy, h2⟩ := flatT_mem h
      exact ⟨y, List.mem_cons_of_mem _ hy, h2⟩
theorem flat_ts : ∀ {es : List En}, So es → (∀ x ∈ es, x.t.length = 8) → (∀ x ∈ es, ∀ i, i < 8 → 0 ≤ x.t.getD i 0) → Ts (flatT es) (tg es)
  | [], _, _, _ => Ts.nil
  | x :: r, hs, hl, h0 => by
    obtain ⟨s1, s2⟩ := List.pairwise_cons.1 hs
    have ih := flat_ts s2 (fun y hy => hl y (List.mem_cons_of_mem _ hy)) (fun y hy => h0 y (List.mem_cons_of_mem _ hy))
    have hx := tagL_ts (hl x (by simp)) (h0 x (by simp)) x.e
    have hne : ∀ t ∈ flatT r, t.e ≠ x.e := fun t ht e => by
      obtain ⟨y, hy, h2⟩ := flatT_mem ht
      have := s1 y hy
      rw [← (tagL_mem h2).1, e, bl_irrefl] at this
      cases this
    refine ⟨⟨fun t ht => ?_, List.pairwise_append.2 ⟨hx.og.one, ih.og.one, fun s hs t ht => ?_⟩⟩, fun e => ?_, fun e a ha => ?_⟩
    · rcases List.mem_append.1 ht with ht | ht
      · exact hx.og.ok t ht
      · exact ih.og.ok t ht
    · rintro ⟨k, -⟩
      exact hne t ht (k.symm.trans (tagL_mem hs).1)
    · unfold tg
      split
      · exact hl x (by simp)
      · exact ih.len e
    · show (tg (x :: r) e).getD a 0 = (numT (tagL x.e x.t 8 ++ flatT r) e a : Int)
      rw [numT_app]
      unfold tg
      by_cases he : x.e = e
      · rw [if_pos he]
        have h1 := hx.eq e a ha
        rw [if_pos he.symm] at h1
        rw [h1]
        by_cases c : ∃ t ∈ tagL x.e x.t 8, t.e = e ∧ t.a = a
        · rw [if_pos c]
        · rw [if_neg c]
          have z1 : numT (tagL x.e x.t 8) e a = 0 := by
            rcases numT_or (tagL x.e x.t 8) e a with ⟨z, -⟩ | ⟨t, ht, z1, z2, -⟩
            · exact z
            · exact absurd ⟨t, ht, z1, z2⟩ c
          have z2 : numT (flatT r) e a = 0 := by
            rcases numT_or (flatT r) e a with ⟨z, -⟩ | ⟨t, ht, z1, z2, -⟩
            · exact z
            · exact absurd (z1.trans he.symm) (hne t ht)
          rw [z1, z2]
      · rw [if_neg he, if_neg, ih.eq e a ha]
        rintro ⟨t, ht, k, -⟩
        exact he ((tagL_mem ht).1.symm.trans k)
/-- the row that tags tell of an element -/
def rowT (ts : List Tg) (e : ByteArray) : List Int := (List.range 8).map fun a => (numT ts e a : Int)
theorem rowT_len (ts : List Tg) (e : ByteArray) : (rowT ts e).length = 8 := by simp [rowT]
theorem rowT_at (ts : List Tg) (e : ByteArray) {a : Nat} (ha : a < 8) : (rowT ts e).getD a 0 = (numT ts e a : Int) := by
  rw [List.getD_eq_getElem?_getD, rowT, List.getElem?_map, List.getElem?_range ha]; rfl
def canE (ts : List Tg) : List En := (elsT ts []).map fun e => ⟨e, rowT ts e⟩
theorem canE_els (ts : List Tg) : elsT ts [] = (canE ts).map fun x => x.e := by
  unfold canE
  rw [List.map_map]
  simp [Function.comp_def]
theorem canE_mem {ts : List Tg} {x : En} (h : x ∈ canE ts) : x.t = rowT ts x.e ∧ ∃ t ∈ ts, t.e = x.e := by
  unfold canE at h
  obtain ⟨e, he, rfl⟩ := List.mem_map.1 h
  refine ⟨rfl, ?_⟩
  rcases (elsT_mem ts [] e).1 he with h1 | h1
  · simp at h1
  · exact h1
theorem canE_len (ts : List Tg) : (canE ts).length ≤ ts.length := by
  unfold canE
  rw [List.length_map]
  have := elsT_len ts []
  simpa using this
/-- what is known of entries that were read and are not bad -/
structure Eg (c : List Int) (es : List En) : Prop where
  sz : ∀ x ∈ es, 1 ≤ x.e.size ∧ x.e.size ≤ 8
  cn : ∀ x ∈ es, Cn x.t
  ov : ∀ x ∈ es, overB c x.t 8 = false
theorem Eg.tag {c : List Int} {es : List En} (h : Eg c es) {t : Tg} (ht : t ∈ flatT es) : 1 ≤ t.e.size ∧ t.e.size ≤ 8 ∧ t.a < 8 ∧ 0 < t.n ∧ (t.n : Int) ≤ c.getD t.a 0 ∧ t.n ≤ 65535 := by
  obtain ⟨x, hx, h2⟩ := flatT_mem ht
  obtain ⟨e1, e2, e3, e4⟩ := tagL_mem h2
  have s := h.sz x hx
  have o := overB_le (h.ov x hx) t.a e2
  have n := (h.cn x hx).2 t.a
  rw [e1]
  exact ⟨s.1, s.2, e2, by omega, by omega, by omega⟩
theorem Eg.tr {c : List Int} {es : List En} (h : Eg c es) (e : ByteArray) : Tr (flatT es) e (rowT (flatT es) e) := ⟨rowT_len _ _, fun a ha => rowT_at _ _ ha, fun a ha => by
  rcases numT_or (flatT es) e a with ⟨z, -⟩ | ⟨t, ht, z1, z2, z3⟩
  · rw [z]; omega
  · rw [z3]; exact (h.tag ht).2.2.2.2.2⟩
theorem Eg.gs {c : List Int} {es : List En} (h : Eg c es) (hc : Cn c) : Gs c (canE (flatT es)) ∧ ∀ x ∈ canE (flatT es), 1 ≤ x.e.size ∧ x.e.size ≤ 8 := by
  refine ⟨⟨?_, fun x hx => ?_, fun x hx => ?_, hc.1, fun i hi => (hc.2 i).1⟩, fun x hx => ?_⟩
  · have := elsT_so (flatT es) (l := []) List.Pairwise.nil
    unfold So canE
    rw [List.pairwise_map]
    exact this
  · obtain ⟨e1, t, ht, e2⟩ := canE_mem hx
    intro hz
    have h1 := rowT_at (flatT es) x.e (h.tag ht).2.2.1
    rw [← e1, hz, zrD] at h1
    rcases numT_or (flatT es) x.e t.a with ⟨-, z⟩ | ⟨s, hs, s1, s2, s3⟩
    · exact z t ht ⟨e2, rfl⟩
    · have := (h.tag hs).2.2.2.1
      omega
  · obtain ⟨e1, -⟩ := canE_mem hx
    rw [e1]
    refine ⟨rowT_len _ _, hc.1, fun i hi => ?_⟩
    rw [rowT_at _ _ hi]
    rcases numT_or (flatT es) x.e i with ⟨z, -⟩ | ⟨s, hs, s1, s2, s3⟩
    · rw [z]; have := (hc.2 i).1; omega
    · rw [s3, ← s2]; have := (h.tag hs).2.2.2.2.1; omega
  · obtain ⟨-, t, ht, e2⟩ := canE_mem hx
    rw [← e2]
    have := h.tag ht
    exact ⟨this.1, this.2.1⟩
theorem sr_size {c : List Int} {es : List En} (h : srR c es = true) : ∀ x ∈ es, 1 ≤ x.e.size := by
  intro x hx
  obtain ⟨i, hi, rfl⟩ := List.getElem_of_mem hx
  unfold srR at h
  have h1 := List.all_eq_true.1 h i (List.mem_range.2 hi)
  unfold okE at h1
  rw [List.getElem?_eq_getElem hi] at h1
  simp only [Bool.and_eq_true] at h1
  have h2 := h1.1
  unfold okX at h2
  simp only [Bool.and_eq_true] at h2
  exact ((isE_iff _).1 h2.1).1
/-- a set that may be read: its entries -/
theorem rdOk_set {bs : List Nat} (h8 : U8 bs) (hl : bs.length ≤ 64) (c : rdOk 2 bs = true) {cc : List Int} {es : List En} (e : readV 2 bs = .set cc es) : Gs cc es ∧ Cn cc ∧ (∀ x ∈ es, 1 ≤ x.e.size ∧ x.e.size ≤ 8) ∧ bs = setB cc es ∧ es.length ≤ 12 := by
  obtain ⟨c1, c2⟩ := rdOk_form c
  have gd := (readV_gd (k := 2) (by omega) (by omega) h8 hl c).1
  rw [e] at c1 c2 gd
  obtain ⟨g1, g2, g3⟩ : Gs cc es ∧ Cn cc ∧ ∀ x ∈ es, x.e.size ≤ 8 := gd
  have s1 := sr_size (show srR cc es = true from c1)
  refine ⟨g1, g2, fun x hx => ⟨s1 x hx, g3 x hx⟩, c2.symm, few_of g1 g2 s1 ?_⟩
  have : setB cc es = bs := c2
  rw [this]; exact hl
theorem Gs.row0 {c : List Int} {es : List En} (h : Gs c es) {x : En} (hx : x ∈ es) : ∀ i, i < 8 → 0 ≤ x.t.getD i 0 := fun i hi => ((h.wi x hx).2.2 i hi).1
theorem Gs.flat {c : List Int} {es : List En} (h : Gs c es) : Ts (flatT es) (ty.tg es) := flat_ts h.so (fun x hx => (h.wi x hx).1) (fun x hx => h.row0 hx)
/-- of entries that may be, the tags tell the entries -/
theorem Gs.can {c : List Int} {es : List En} (h : Gs c es) : canE (flatT es) = es := by
  have h1 := h.flat
  have h2 := els_eq h1 h.so h.nz (fun x hx => (h.wi x hx).1)
  unfold canE
  rw [h2, List.map_map]
  conv => rhs; rw [← List.map_id es]
  refine List.map_congr_left fun x hx => ?_
  have h3 : rowT (flatT es) x.e = x.t := by
    refine row_ext (rowT_len _ _) (h.wi x hx).1 fun i hi => ?_
    rw [rowT_at _ _ hi, ← h1.eq x.e i hi, tg_mem h.so hx]
  show (⟨x.e, rowT (flatT es) x.e⟩ : En) = x
  rw [h3]
theorem set_yes {bs : List Nat} (h8 : U8 bs) (hl : bs.length ≤ 64) {c : List Int} {es : List En} (e : readV 2 bs = .set c es) (hg : Eg c es) (hc : Cn c) (hf : setB c (canE (flatT es)) = bs) : rdOk 2 bs = true ∧ readV 2 bs = .set c (canE (flatT es)) ∧ Rl (.set c (canE (flatT es))) (flatT es) := by
  obtain ⟨g, hs⟩ := hg.gs hc
  have few := few_of g hc (fun x hx => (hs x hx).1) (by rw [hf]; exact hl)
  have gt : Gt (.set c (canE (flatT es))) := ⟨⟨g, hc, fun x hx => (hs x hx).2⟩, fun s a t q => by cases q⟩
  have hb : readV 2 bs = .set c (canE (flatT es)) := by
    have h1 := readV_back gt (show (canE (flatT es)).length ≤ 200 by omega)
    have h2 : formV (.set c (canE (flatT es))) = bs := hf
    rw [h2] at h1
    exact h1
  have hr := rightV_gd gt (fun x hx => (hs x hx).1)
  have he : canE (flatT es) = es := by
    have h1 := hb.symm.trans e
    exact (Prod.mk.inj (Sum.inl.inj (Sum.inr.inj h1))).2
  refine ⟨?_, hb, ?_⟩
  · unfold rdOk
    rw [hb, hr]
    have h2 : formV (.set c (canE (flatT es))) = bs := hf
    rw [h2]
    simp
  · rw [he] at g few ⊢
    exact ⟨g.flat, Fw.of g.flat few⟩
theorem set_no {bs : List Nat} (h8 : U8 bs) (hl : bs.length ≤ 64) {c : List Int} {es : List En} (e : readV 2 bs = .set c es) (hf : setB c (canE (flatT es)) ≠ bs) : rdOk 2 bs = false := by
  cases q : rdOk 2 bs
  · rfl
  · obtain ⟨g1, -, -, g4, -⟩ := rdOk_set h8 hl q e
    rw [g1.can] at hf
    exact absurd g4.symm hf
theorem readV_two {bs : List Nat} {u : List Int} {q : Nat} (h : rowR (bs.drop 1) 2 = (u, bs.drop q)) (hb : dbad bs q 1 = false) : readV 2 bs = .set u (esI (dnum bs q 1) (bs.drop (dat bs q 1))).1 := by
  obtain ⟨f1, f2, f3, f4⟩ := dfit hb
  show Vl.set (rowR (bs.drop 1) 2).1 (esI (leV ((rowR (bs.drop 1) 2).2.take 1)) ((rowR (bs.drop 1) 2).2.drop 1)).1 = _
  rw [h, ← f2, f4, ← f3]
/-- one more entry -/
theorem esI_more {bs us : List Nat} {j q k : Nat} {es : List En} {u : List Int} {q2 : Nat} (h : esI j us = (es, bs.drop q)) (hb : dbad bs q 1 = false) (hk : dnum bs q 1 = k) (hr : rowR (bs.drop (dat bs q 1 + k)) 2 = (u, bs.drop q2)) : esI (j + 1) us = (es ++ [⟨strB ((bs.drop (dat bs q 1)).take k), u⟩], bs.drop q2) := by
  obtain ⟨f1, f2, f3, f4⟩ := dfit hb
  rw [esI, h]
  simp only
  rw [← f2, hk, f4, ← f3, List.drop_drop, hr]
theorem rwD_ge (bs : List Nat) (mask size : Nat) (two : Bool) (a : Nat) (b : Bool) (ha : a ≤ bs.length) : ∀ i, a ≤ (rwD bs mask size two a b i).at_
  | 0 => Nat.le_refl _
  | i + 1 => by
    have h := rwD_ge bs mask size two a b ha i
    have h2 := rwD_at bs mask size two a b ha i
    have hd : ∀ q, q ≤ bs.length → q ≤ dat bs q size := fun q hq => by unfold dat; split <;> omega
    unfold rwD rwS
    split
    · split
      · exact Nat.le_trans (Nat.le_trans h (hd _ h2)) (hd _ (dat_le _ _ _))
      · exact Nat.le_trans h (hd _ h2)
    · exact h
theorem rowDD_ge (bs : List Nat) (a : Nat) (b : Bool) (size : Nat) (two : Bool) (ha : a ≤ bs.length) : a ≤ (rowDD bs a b size two).at_ := by
  refine Nat.le_trans ?_ (rwD_ge bs _ size two _ _ (dat_le _ _ _) 8)
  unfold dat; split <;> omega
end Go.Proofs.YtdbeeikjngnnnaaGreat.ty
