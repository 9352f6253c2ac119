import Derived.Test.YtdbeeikjngnnnaaGreatChecked
import Derived.WalkKit
import Derived.ProofKit
import Derived.OpenShut
import Derived.Deep.QuietTactic
import Derived.BigQuiet
import Derived.BigRegion
import Derived.Laws.CopyOwn
import Derived.Laws.IdiomCopy
import Derived.WalkSmall
import Derived.Laws.ResultCell
import Derived.Laws.AppendOwnNone
import Derived.Deep.RegionHeld
import Derived.Deep.DeepAppendRoom
import Derived.Great.BuildSlice
import Derived.Deep.CutBlock
import Derived.Deep.RegionLaw
import Derived.ArgAppend
import Derived.Laws.Strings
import Derived.Laws.StructEq
import Derived.Below
import Derived.Deep.MidRow
import Derived.Great.Ranges
import Derived.Deep.RegionHeld3
import Derived.Laws.NewBlocks
import Derived.OrdersHeld
import Derived.Stop.BytesEq
import Derived.Laws.BytesString
import Derived.Lib.ConvBytes
import Derived.Laws.BitsAllLaws
import Derived.WalkLawsBesides
import Derived.Lib.Bytealg
import Derived.Laws.Externs
import Derived.Lib.SliceRun
import Derived.Lib.AppendZerosOnto
import Derived.Lib.AppendStr
import Derived.Lib.SlBytesConst
import Derived.Sort.Walk0
import Derived.Laws.Cover1
import Derived.Lib.Strings
import Derived.Lib.MinMaxS
import GoSem.Claim
import GoSem.ClaimJoined
import GoSem.ClaimMapViews
import Derived.JoinedTies
import Derived.KernelRfl
import Derived.JoinedCond
import Derived.ShutString
import Derived.ChangeOld
import Derived.Carry
import Derived.ChangeSlices
import Derived.Deep.Slices
import Derived.Deep.DeepHandedRow
import Derived.RowKit
import Derived.ChangeShapes
import Derived.SizedLaws
import Derived.ChangeMaps5
import Derived.Sort.WalkA
import Derived.Test.YtdbeeikjngnnnaaGreatRows
import Derived.Test.YtdbeeikjngnnnaaGreatM19
import Derived.Test.YtdbeeikjngnnnaaGreatM24
namespace Go.Proofs.YtdbeeikjngnnnaaGreat.ty
open Go.ChangeShapes Go.WideShapes Go.ChangeAt Go.RowKit
set_option linter.unusedVariables false
set_option linter.unusedSimpArgs false
/-- the tags tell these rows -/
structure Ts (ts : List Tg) (T : ByteArray → List Int) : Prop where
  og : To ts
  len : ∀ e, (T e).length = 8
  eq : ∀ e a, a < 8 → (T e).getD a 0 = (numT ts e a : Int)
theorem Ts.nil : Ts [] (fun _ => zr) := ⟨⟨by simp, List.Pairwise.nil⟩, fun _ => rfl, fun e a _ => by rw [zrD]; rfl⟩
/-- take -/
def takeT (ts : List Tg) (e : ByteArray) : List Tg := ts.filter fun t => !decide (t.e = e)
theorem Ts.take {ts : List Tg} {T : ByteArray → List Int} (h : Ts ts T) (e : ByteArray) : Ts (takeT ts e) (fun x => if x = e then zr else T x) := by
  refine ⟨h.og.sub _, fun x => ?_, fun x a ha => ?_⟩
  · split
    · rfl
    · exact h.len x
  · rcases numT_filter h.og (fun t => !decide (t.e = e)) x a with ⟨h1, h2⟩ | ⟨t, ht, h1, h2, h3, h4⟩
    · unfold takeT
      rw [h1]
      by_cases hx : x = e
      · rw [if_pos hx, zrD]; rfl
      · rw [if_neg hx, h.eq x a ha]
        rcases numT_or ts x a with ⟨h5, -⟩ | ⟨t, ht, h6, h7, -⟩
        · rw [h5]
        · have := h2 t ht h6 h7
          simp only [Bool.not_eq_false', decide_eq_true_eq] at this
          exact absurd (h6.symm.trans this) hx
    · unfold takeT
      rw [h4]
      simp only [Bool.not_eq_true', decide_eq_false_iff_not] at h3
      have hx : ¬ x = e := fun k => h3 (h1.trans k)
      rw [if_neg hx, h.eq x a ha, ← h1, ← h2, numT_mem h.og ht]
/-- put, behind a take -/
theorem Ts.put {ts : List Tg} {T : ByteArray → List Int} (h : Ts ts T) {e : ByteArray} (he : T e = zr) {a n : Nat} (ha : a < 8) (hn : 0 < n) : Ts (ts ++ [⟨e, a, n⟩]) (fun x => if x = e then zr.set a (n : Int) else T x) := by
  have hno : ∀ t ∈ ts, t.e ≠ e := fun t ht k => by
    have h1 := numT_mem h.og ht
    have h2 := h.eq t.e t.a (h.og.ok t ht).1
    rw [k, he, zrD] at h2
    have h3 := (h.og.ok t ht).2
    rw [k] at h1
    omega
  refine ⟨⟨fun t ht => ?_, List.pairwise_append.2 ⟨h.og.one, List.pairwise_singleton _ _, fun s hs t ht => ?_⟩⟩, fun x => ?_, fun x i hi => ?_⟩
  · rcases List.mem_append.1 ht with ht | ht
    · exact h.og.ok t ht
    · rw [List.mem_singleton] at ht; rw [ht]; exact ⟨ha, hn⟩
  · rw [List.mem_singleton] at ht
    rw [ht]
    exact fun k => hno s hs k.1
  · split
    · rw [List.length_set]; rfl
    · exact h.len x
  · rw [numT_app]
    by_cases hx : x = e
    · subst hx
      rw [if_pos rfl, if_neg (fun ⟨t, ht, k, _⟩ => hno t ht k)]
      rw [List.getD_eq_getElem?_getD, List.getElem?_set]
      unfold numT
      by_cases hia : a = i
      · subst hia
        rw [if_pos rfl, if_pos (show a < zr.length from ha), if_pos (show isT x a ⟨x, a, n⟩ = true from isT_iff.2 ⟨rfl, rfl⟩)]; rfl
      · rw [if_neg hia, if_neg (fun k => hia (isT_iff.1 k).2)]
        have := zrD i
        rw [List.getD_eq_getElem?_getD] at this
        rw [this]; rfl
    · rw [if_neg hx, h.eq x i hi]
      by_cases hex : ∃ t ∈ ts, t.e = x ∧ t.a = i
      · rw [if_pos hex]
      · rw [if_neg hex]
        rcases numT_or ts x i with ⟨h5, -⟩ | ⟨t, ht, h6, h7, -⟩
        · rw [h5]
          unfold numT
          rw [if_neg (fun k => hx (isT_iff.1 k).1.symm)]; rfl
        · exact absurd ⟨t, ht, h6, h7⟩ hex
/-- does a tag stay beside another value? -/
def stayB (oc : List Int) (ots : List Tg) (t : Tg) : Bool := decide (oc.getD t.a 0 < (t.n : Int)) || numT ots t.e t.a == t.n
def stay1 (ts : List Tg) (oc : List Int) (ots : List Tg) : List Tg := ts.filter (stayB oc ots)
def stay2 (ts : List Tg) (oc : List Int) (ots xs : List Tg) : List Tg := ts.filter fun t => stayB oc ots t && !(numT xs t.e t.a == t.n)
def mergeT (ts : List Tg) (c : List Int) (os : List Tg) (d : List Int) : List Tg := stay1 ts d os ++ stay2 os c ts (stay1 ts d os)
theorem Ts.merge {ts os : List Tg} {T O : ByteArray → List Int} {c d : List Int} (h : Ts ts T) (k : Ts os O) (hc : ∀ e, Wi (T e) c) (hd : ∀ e, Wi (O e) d) : Ts (mergeT ts c os d) (fun e => mt (T e) c (O e) d) := by
  have hx := h.og.sub (stayB d os)
  have hnum : ∀ e a, (numT (stay1 ts d os) e a = 0 ∧ ∀ t ∈ ts, t.e = e → t.a = a → stayB d os t = false) ∨ ∃ t ∈ ts, t.e = e ∧ t.a = a ∧ stayB d os t = true ∧ numT (stay1 ts d os) e a = t.n := fun e a => numT_filter h.og (stayB d os) e a
  have hst : ∀ {A : List Tg} {TA : ByteArray → List Int} (hA : Ts A TA) {ob : List Tg} {TO : ByteArray → List Int} (hO : Ts ob TO) {oc : List Int} {t : Tg}, t ∈ A → (stayB oc ob t = true → st ((TA t.e).getD t.a 0) ((TO t.e).getD t.a 0) (oc.getD t.a 0) = (t.n : Int)) ∧ (stayB oc ob t = false → st ((TA t.e).getD t.a 0) ((TO t.e).getD t.a 0) (oc.getD t.a 0) = 0) := by
    intro A TA hA ob TO hO oc t ht
    have h1 := hA.og.ok t ht
    rw [hA.eq _ _ h1.1, hO.eq _ _ h1.1, numT_mem hA.og ht]
    unfold stayB st
    constructor
    · intro hs
      simp only [Bool.or_eq_true, decide_eq_true_eq, beq_iff_eq] at hs
      rcases hs with hs | hs
      · rw [if_pos (.inr hs)]
      · rw [if_pos (.inl (by rw [hs]))]
    · intro hs
      simp only [Bool.or_eq_false_iff, decide_eq_false_iff_not, beq_eq_false_iff_ne] at hs
      rw [if_neg]
      rintro (hk | hk)
      · exact hs.2 (by omega)
      · exact hs.1 hk
  have hzero : ∀ {x y z : Int}, x = 0 → 0 ≤ z → st x y z = 0 := by
    intro x y z h0 hz
    unfold st
    subst h0
    split <;> rfl
  refine ⟨⟨fun t ht => ?_, List.pairwise_append.2 ⟨hx.one, k.og.one.filter _, fun s hs t ht => ?_⟩⟩, fun e => mt_len _ _ _ _, fun e a ha => ?_⟩
  · rcases List.mem_append.1 ht with ht | ht
    · exact hx.ok t ht
    · exact k.og.ok t (List.mem_filter.1 ht).1
  · rintro ⟨k1, k2⟩
    obtain ⟨hs1, hs2⟩ := List.mem_filter.1 hs
    obtain ⟨ht1, ht2⟩ := List.mem_filter.1 ht
    simp only [Bool.and_eq_true, Bool.not_eq_true', beq_eq_false_iff_ne] at ht2
    have e1 := numT_mem hx hs
    rw [k1, k2] at e1
    have e1' : numT (stay1 ts d os) t.e t.a = s.n := e1
    have hne : s.n ≠ t.n := fun q => ht2.2 (e1'.trans q)
    have e2 := numT_mem h.og hs1
    have e3 := numT_mem k.og ht1
    have b1 := (hc s.e).2.2 s.a (h.og.ok s hs1).1
    have b2 := (hd t.e).2.2 t.a (k.og.ok t ht1).1
    rw [h.eq _ _ (h.og.ok s hs1).1, e2] at b1
    rw [k.eq _ _ (k.og.ok t ht1).1, e3] at b2
    unfold stayB at hs2 ht2
    simp only [Bool.or_eq_true, decide_eq_true_eq, beq_iff_eq] at hs2 ht2
    rw [k1, k2] at hs2 e2
    rw [k2] at b1
    rw [e3] at hs2
    rw [e2] at ht2
    omega
  · rw [mt_at _ _ _ _ a ha]
    unfold mergeT
    rw [numT_app]
    by_cases hex : ∃ t ∈ stay1 ts d os, t.e = e ∧ t.a = a
    · rw [if_pos hex]
      obtain ⟨t, ht, rfl, rfl⟩ := hex
      obtain ⟨ht1, ht2⟩ := List.mem_filter.1 ht
      have e1 : numT (stay1 ts d os) t.e t.a = t.n := numT_mem hx ht
      rw [e1, (hst h k ht1).1 ht2]
      have hb := k.eq t.e t.a ha
      rcases numT_or os t.e t.a with ⟨h5, -⟩ | ⟨u, hu, h6, h7, h8⟩
      · rw [hb, h5]
        have hcg := (hc t.e).2.2 t.a ha
        rw [hzero (by simp) (by omega)]
        omega
      · cases hsu : stayB c ts u
        · have := (hst k h hu).2 hsu
          rw [h6, h7] at this
          rw [this]; omega
        · have h9 := (hst k h hu).1 hsu
          rw [h6, h7] at h9
          rw [h9]
          -- both stay: they are the same
          have e2 := numT_mem h.og ht1
          have e3 := numT_mem k.og hu
          have b1 := (hc t.e).2.2 t.a ha
          have b2 := (hd t.e).2.2 t.a ha
          rw [h.eq _ _ ha, e2] at b1
          rw [hb, h8] at b2
          unfold stayB at ht2 hsu
          simp only [Bool.or_eq_true, decide_eq_true_eq, beq_iff_eq] at ht2 hsu
          rw [h6, h7] at hsu e3
          rw [e2] at hsu
          rw [e3] at ht2
          omega
    · rw [if_neg hex]
      have hv : st ((T e).getD a 0) ((O e).getD a 0) (d.getD a 0) = 0 := by
        rcases numT_or ts e a with ⟨h5, -⟩ | ⟨t, ht, rfl, rfl, h8⟩
        · have := (hd e).2.2 a ha
          exact hzero (by rw [h.eq e a ha, h5]; rfl) (by omega)
        · cases hs : stayB d os t
          · exact (hst h k ht).2 hs
          · exact absurd ⟨t, List.mem_filter.2 ⟨ht, hs⟩, rfl, rfl⟩ hex
      rw [hv]
      rcases numT_filter k.og (fun t => stayB c ts t && !(numT (stay1 ts d os) t.e t.a == t.n)) e a with ⟨h1, h2⟩ | ⟨u, hu, rfl, rfl, h3, h4⟩
      · have h1' : numT (stay2 os c ts (stay1 ts d os)) e a = 0 := h1
        rw [h1']
        have ho : st ((O e).getD a 0) ((T e).getD a 0) (c.getD a 0) = 0 := by
          rcases numT_or os e a with ⟨h5, -⟩ | ⟨u, hu, rfl, rfl, h8⟩
          · have := (hc e).2.2 a ha
            exact hzero (by rw [k.eq e a ha, h5]; rfl) (by omega)
          · have h9 := h2 u hu rfl rfl
            have h10 : numT (stay1 ts d os) u.e u.a = 0 := by
              rcases numT_or (stay1 ts d os) u.e u.a with ⟨q, -⟩ | ⟨q, hq, q1, q2, -⟩
              · exact q
              · exact absurd ⟨q, hq, q1, q2⟩ hex
            have h11 := (k.og.ok u hu).2
            rw [h10] at h9
            have h12 : stayB c ts u = false := by
              cases hq : stayB c ts u
              · rfl
              · rw [hq] at h9
                simp at h9
                omega
            exact (hst k h hu).2 h12
        rw [ho]; rfl
      · have h4' : numT (stay2 os c ts (stay1 ts d os)) u.e u.a = u.n := h4
        rw [h4']
        simp only [Bool.and_eq_true] at h3
        rw [(hst k h hu).1 h3.1]
        omega
end Go.Proofs.YtdbeeikjngnnnaaGreat.ty
namespace Go.Proofs.YtdbeeikjngnnnaaGreat.ty
open Go.ChangeShapes Go.WideShapes Go.ChangeAt Go.RowKit
set_option linter.unusedVariables false
set_option linter.unusedSimpArgs false
theorem inj_le {α β : Type} (f : α → β) : ∀ (l : List α) (m : List β), l.Pairwise (fun x y => f x ≠ f y) → (∀ x ∈ l, f x ∈ m) → l.length ≤ m.length
  | [], m, _, _ => Nat.zero_le _
  | x :: r, m, h, k => by
    obtain ⟨h1, h2⟩ := List.pairwise_cons.1 h
    obtain ⟨a, b, e⟩ := List.append_of_mem (k x (by simp))
    have := inj_le f r (a ++ b) h2 (fun y hy => by
      have h3 := k y (List.mem_cons_of_mem _ hy)
      have h4 := h1 y hy
      rw [e] at h3
      simp only [List.mem_append, List.mem_cons] at h3 ⊢
      rcases h3 with h3 | h3 | h3
      · exact .inl h3
      · exact absurd h3.symm h4
      · exact .inr h3)
    rw [e]
    simp only [List.length_append, List.length_cons] at this ⊢
    omega
def cntA (ts : List Tg) (a : Nat) : Nat := (ts.filter fun t => t.a == a).length
def Fw (ts : List Tg) : Prop := ∀ a, a < 8 → cntA ts a ≤ 12
theorem cnt_step (ts : List Tg) (n : Nat) : (ts.filter fun t => decide (t.a < n + 1)).length = (ts.filter fun t => decide (t.a < n)).length + cntA ts n := by
  unfold cntA
  induction ts with
  | nil => rfl
  | cons t r ih =>
    simp only [List.filter_cons]
    by_cases h1 : t.a < n
    · rw [if_pos (by simp; omega), if_pos (by simp; omega), if_neg (by simp; omega)]
      simp only [List.length_cons]; omega
    · by_cases h2 : t.a = n
      · rw [if_pos (by simp; omega), if_neg (by simp; omega), if_pos (by simp; omega)]
        simp only [List.length_cons]; omega
      · rw [if_neg (by simp; omega), if_neg (by simp; omega), if_neg (by simp; omega)]
        exact ih
theorem Fw.len {ts : List Tg} (h : Fw ts) (o : To ts) : ts.length ≤ 96 := by
  have key : ∀ n, n ≤ 8 → (ts.filter fun t => decide (t.a < n)).length ≤ n * 12 := by
    intro n
    induction n with
    | zero => intro _; simp
    | succ n ih =>
      intro hn
      rw [cnt_step]
      have := h n (by omega)
      have := ih (by omega)
      omega
  have h8 := key 8 (by omega)
  have e : (ts.filter fun t => decide (t.a < 8)) = ts := List.filter_eq_self.2 fun t ht => by simpa using (o.ok t ht).1
  rw [e] at h8
  omega
theorem Fw.nil : Fw [] := fun a _ => by simp [cntA]
theorem Fw.sub {ts : List Tg} (h : Fw ts) (p : Tg → Bool) : Fw (ts.filter p) := fun a ha => by
  refine Nat.le_trans ?_ (h a ha)
  unfold cntA
  have e : List.filter (fun t : Tg => t.a == a) (List.filter p ts) = List.filter p (List.filter (fun t : Tg => t.a == a) ts) := by
    rw [List.filter_filter, List.filter_filter]
    congr 1
    funext t
    exact Bool.and_comm _ _
  rw [e]
  exact List.length_filter_le _ _
theorem one_e {ts : List Tg} (o : To ts) (a : Nat) : (ts.filter fun t => t.a == a).Pairwise fun x y => x.e ≠ y.e := by
  have h1 := o.one.filter fun t => t.a == a
  refine List.Pairwise.imp_of_mem ?_ h1
  intro x y hx hy h e
  have h2 := (List.mem_filter.1 hx).2
  have h3 := (List.mem_filter.1 hy).2
  simp only [beq_iff_eq] at h2 h3
  exact h ⟨e, h2.trans h3.symm⟩
theorem Fw.merge {ts os : List Tg} {T O : ByteArray → List Int} {c d : List Int} (h : Ts ts T) (k : Ts os O) (hc : ∀ e, Wi (T e) c) (hd : ∀ e, Wi (O e) d) (f : Fw ts) (g : Fw os) : Fw (mergeT ts c os d) := by
  intro a ha
  have hm := (h.merge k hc hd).og
  have h1 := one_e hm a
  have h2 : (∀ t ∈ mergeT ts c os d, t.a = a → ∃ u ∈ ts, u.e = t.e ∧ u.a = a) ∨ (∀ t ∈ mergeT ts c os d, t.a = a → ∃ u ∈ os, u.e = t.e ∧ u.a = a) := by
    have key : ∀ {A B : List Tg} {TA TB : ByteArray → List Int} {p q : List Int}, Ts A TA → Ts B TB → (∀ e, Wi (TB e) q) → q.getD a 0 ≤ p.getD a 0 → ∀ t ∈ B, t.a = a → stayB p A t = true → ∃ u ∈ A, u.e = t.e ∧ u.a = a := by
      intro A B TA TB p q hA hB hq hle t ht hta hst
      unfold stayB at hst
      simp only [Bool.or_eq_true, decide_eq_true_eq, beq_iff_eq] at hst
      have e1 := numT_mem hB.og ht
      have e2 := hB.eq t.e t.a (by omega)
      have e3 := (hq t.e).2.2 a ha
      have e4 := (hB.og.ok t ht).2
      rw [hta] at hst e1 e2
      rw [e1] at e2
      rcases hst with hst | hst
      · omega
      · rcases numT_or A t.e a with ⟨z, -⟩ | ⟨u, hu, u1, u2, -⟩
        · omega
        · exact ⟨u, hu, u1, u2⟩
    by_cases hle : d.getD a 0 ≤ c.getD a 0
    · refine .inl fun t ht hta => ?_
      rcases List.mem_append.1 ht with ht | ht
      · exact ⟨t, (List.mem_filter.1 ht).1, rfl, hta⟩
      · obtain ⟨ht1, ht2⟩ := List.mem_filter.1 ht
        simp only [Bool.and_eq_true] at ht2
        exact key h k hd hle t ht1 hta ht2.1
    · refine .inr fun t ht hta => ?_
      rcases List.mem_append.1 ht with ht | ht
      · obtain ⟨ht1, ht2⟩ := List.mem_filter.1 ht
        exact key k h hc (by omega) t ht1 hta ht2
      · exact ⟨t, (List.mem_filter.1 ht).1, rfl, hta⟩
  rcases h2 with h2 | h2
  · refine Nat.le_trans ?_ (f a ha)
    have := inj_le (fun t : Tg => t.e) _ ((ts.filter fun t => t.a == a).map fun t => t.e) h1 (fun t ht => by
      obtain ⟨t1, t2⟩ := List.mem_filter.1 ht
      obtain ⟨u, hu, u1, u2⟩ := h2 t t1 (by simpa using t2)
      exact List.mem_map.2 ⟨u, List.mem_filter.2 ⟨hu, by simpa using u2⟩, u1⟩)
    rw [List.length_map] at this
    exact this
  · refine Nat.le_trans ?_ (g a ha)
    have := inj_le (fun t : Tg => t.e) _ ((os.filter fun t => t.a == a).map fun t => t.e) h1 (fun t ht => by
      obtain ⟨t1, t2⟩ := List.mem_filter.1 ht
      obtain ⟨u, hu, u1, u2⟩ := h2 t t1 (by simpa using t2)
      exact List.mem_map.2 ⟨u, List.mem_filter.2 ⟨hu, by simpa using u2⟩, u1⟩)
    rw [List.length_map] at this
    exact this
theorem mem_tg {ts : List Tg} {es : List En} (h : Ts ts (tg es)) {t : Tg} (ht : t ∈ ts) : ∃ x ∈ es, x.e = t.e := by
  have h1 := h.og.ok t ht
  have h2 := h.eq t.e t.a h1.1
  rw [numT_mem h.og ht] at h2
  rcases tg_or es t.e with e | ⟨x, hx, e, -⟩
  · rw [e, zrD] at h2; omega
  · exact ⟨x, hx, e⟩
theorem Fw.of {ts : List Tg} {es : List En} (h : Ts ts (tg es)) (hl : es.length ≤ 12) : Fw ts := fun a ha => by
  have := inj_le (fun t : Tg => t.e) _ (es.map fun x => x.e) (one_e h.og a) (fun t ht => by
    obtain ⟨x, hx, e⟩ := mem_tg h (List.mem_filter.1 ht).1
    exact List.mem_map.2 ⟨x, hx, e⟩)
  rw [List.length_map] at this
  unfold cntA
  omega
theorem tg_some {ts : List Tg} {es : List En} (h : Ts ts (tg es)) (hs : So es) (hz : ∀ x ∈ es, x.t ≠ zr) (hl : ∀ x ∈ es, x.t.length = 8) {x : En} (hx : x ∈ es) : ∃ t ∈ ts, t.e = x.e := by
  have h0 : ∃ i, i < 8 ∧ x.t.getD i 0 ≠ 0 := by
    refine Classical.byContradiction fun k => hz x hx (row_ext (hl x hx) rfl fun i hi => ?_)
    rw [zrD]
    exact Classical.byContradiction fun q => k ⟨i, hi, q⟩
  obtain ⟨i, hi, hne⟩ := h0
  have h1 := h.eq x.e i hi
  rw [tg_mem hs hx] at h1
  rcases numT_or ts x.e i with ⟨z, -⟩ | ⟨t, ht, e, -⟩
  · rw [z] at h1; exact absurd h1 hne
  · exact ⟨t, ht, e⟩
theorem insS_so {x : ByteArray} {l : List ByteArray} (h : l.Pairwise fun a b => bl a b = true) : (insS x l).Pairwise fun a b => bl a b = true := by
  unfold insS
  split
  · exact h
  · rename_i hn
    have hlo : ∀ y ∈ l.take (bel x l), bl y x = true := fun y hy => by
      obtain ⟨i, hi, e⟩ := List.mem_iff_getElem.1 hy
      rw [List.length_take] at hi
      rw [← e, List.getElem_take]
      exact bel_lt x l i (by omega) (by omega)
    have hhi : ∀ y ∈ l.drop (bel x l), bl x y = true := fun y hy => by
      obtain ⟨i, hi, e⟩ := List.mem_iff_getElem.1 hy
      rw [List.length_drop] at hi
      rw [List.getElem_drop] at e
      have hb : bel x l < l.length := by omega
      have h1 := bel_ge x l hb
      rw [List.getElem?_eq_getElem hb] at hn
      have h2 : bl x (l[bel x l]'hb) = true := by
        cases q : bl x (l[bel x l]'hb)
        · exact absurd (congrArg some (bl_total h1 q)) hn
        · rfl
      by_cases hi0 : i = 0
      · subst hi0; rw [← e]; simpa using h2
      · have h3 := List.pairwise_iff_getElem.1 h (bel x l) (bel x l + i) hb (by omega) (by omega)
        rw [← e]
        exact bl_trans h2 h3
    refine List.pairwise_append.2 ⟨h.sublist (List.take_sublist _ _), List.pairwise_cons.2 ⟨hhi, h.sublist (List.drop_sublist _ _)⟩, fun y hy z hz => ?_⟩
    rcases List.mem_cons.1 hz with rfl | hz
    · exact hlo y hy
    · exact bl_trans (hlo y hy) (hhi z hz)
theorem elsT_so : ∀ (ts : List Tg) {l : List ByteArray}, (l.Pairwise fun a b => bl a b = true) → (elsT ts l).Pairwise fun a b => bl a b = true
  | [], l, h => h
  | t :: r, l, h => by rw [elsT]; exact elsT_so r (insS_so h)
theorem elsT_len : ∀ (ts : List Tg) (l : List ByteArray), (elsT ts l).length ≤ ts.length + l.length
  | [], l => by simp [elsT]
  | t :: r, l => by
    rw [elsT]
    have := elsT_len r (insS t.e l)
    have := insS_len t.e l
    simp only [List.length_cons]
    omega
theorem so_ext : ∀ {a b : List ByteArray}, (a.Pairwise fun x y => bl x y = true) → (b.Pairwise fun x y => bl x y = true) → (∀ x, x ∈ a ↔ x ∈ b) → a = b
  | [], [], _, _, _ => rfl
  | [], y :: b, _, _, h => by have := (h y).2 (by simp); simp at this
  | x :: a, [], _, _, h => by have := (h x).1 (by simp); simp at this
  | x :: a, y :: b, h1, h2, h => by
    obtain ⟨p1, p2⟩ := List.pairwise_cons.1 h1
    obtain ⟨q1, q2⟩ := List.pairwise_cons.1 h2
    have e : x = y := by
      rcases List.mem_cons.1 ((h x).1 (by simp)) with e | hx
      · exact e
      · rcases List.mem_cons.1 ((h y).2 (by simp)) with e | hy
        · exact e.symm
        · have k1 := q1 x hx
          have k2 := p1 y hy
          have := bl_trans k1 k2
          rw [bl_irrefl] at this; cases this
    subst e
    rw [so_ext p2 q2 fun z => ?_]
    constructor
    · intro hz
      rcases List.mem_cons.1 ((h z).1 (List.mem_cons_of_mem _ hz)) with e | hz2
      · subst e; have := p1 z hz; rw [bl_irrefl] at this; cases this
      · exact hz2
    · intro hz
      rcases List.mem_cons.1 ((h z).2 (List.mem_cons_of_mem _ hz)) with e | hz2
      · subst e; have := q1 z hz; rw [bl_irrefl] at this; cases this
      · exact hz2
theorem els_eq {ts : List Tg} {es : List En} (h : Ts ts (tg es)) (hs : So es) (hz : ∀ x ∈ es, x.t ≠ zr) (hl : ∀ x ∈ es, x.t.length = 8) : elsT ts [] = es.map fun x => x.e := by
  refine so_ext (elsT_so ts List.Pairwise.nil) (List.pairwise_map.2 hs) fun y => ?_
  rw [elsT_mem]
  simp only [List.not_mem_nil, false_or, List.mem_map]
  constructor
  · rintro ⟨t, ht, rfl⟩
    exact mem_tg h ht
  · rintro ⟨x, hx, rfl⟩
    exact tg_some h hs hz hl hx
structure Iv (v : Vl) : Prop where
  gt : Gt v
  sz : ∀ x ∈ elsR v, 1 ≤ x.e.size
def flT (g : List Int) (e : ByteArray) : List Int := if e = ⟨#[]⟩ then g else zr
def Rl (v : Vl) (ts : List Tg) : Prop := match v with
  | Sum.inl _ => ts = []
  | Sum.inr (Sum.inl (c, es)) => Ts ts (tg es) ∧ Fw ts
  | Sum.inr (Sum.inr (Sum.inl (c, g))) => Ts ts (flT g) ∧ Fw ts
  | Sum.inr (Sum.inr (Sum.inr _)) => ts = []
def rvO (v : Vl) (ts : List Tg) : Rv := match v with
  | Sum.inl (u, d) => ⟨1, u, d, zr, ts, 0, 0, ⟨#[]⟩⟩
  | Sum.inr (Sum.inl (c, es)) => ⟨2, zr, zr, c, ts, 0, 0, ⟨#[]⟩⟩
  | Sum.inr (Sum.inr (Sum.inl (c, g))) => ⟨3, zr, zr, c, ts, 0, 0, ⟨#[]⟩⟩
  | Sum.inr (Sum.inr (Sum.inr (s, a, t))) => ⟨4, zr, zr, zr, ts, s, a, t⟩
theorem rvO_k (v : Vl) (ts : List Tg) : (rvO v ts).k = v.kd := by cases v using Vl.el <;> rfl
theorem rvO_ts (v : Vl) (ts : List Tg) : (rvO v ts).ts = ts := by cases v using Vl.el <;> rfl
theorem Rl.len {v : Vl} {ts : List Tg} (h : Rl v ts) : ts.length ≤ 96 := by
  cases v using Vl.el with
  | cnt u d => rw [show ts = [] from h]; simp
  | set c es => exact h.2.len h.1.og
  | flg c g => exact h.2.len h.1.og
  | rgs s a t => rw [show ts = [] from h]; simp
theorem Rl.els {v : Vl} {ts : List Tg} (h : Rl v ts) (hv : Gd v) : (elsR v).length ≤ 96 := by
  cases v using Vl.el with
  | cnt u d => simp [elsR]
  | set c es =>
    have h1 := els_eq h.1 hv.1.so hv.1.nz (fun x hx => (hv.1.wi x hx).1)
    have h2 := elsT_len ts []
    have h3 := h.2.len h.1.og
    rw [h1, List.length_map] at h2
    show es.length ≤ 96
    simp only [List.length_nil] at h2
    omega
  | flg c g => simp [elsR]
  | rgs s a t => simp [elsR]
theorem Rl.ok {v : Vl} {ts : List Tg} (h : Rl v ts) (hv : Gd v) : Ok v := hv.ok (by have := h.els hv; omega)
theorem Rl.okF {v : Vl} {ts : List Tg} (h : Rl v ts) (hv : Gd v) : OkF v := hv.okF (by have := h.els hv; omega)
end Go.Proofs.YtdbeeikjngnnnaaGreat.ty
