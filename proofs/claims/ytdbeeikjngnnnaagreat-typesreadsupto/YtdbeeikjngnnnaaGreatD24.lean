import Derived.Test.YtdbeeikjngnnnaaGreatChecked
import Derived.WalkKit
import Derived.ProofKit
import Derived.OpenShut
import Derived.Deep.QuietTactic
import Derived.BigQuiet
import Derived.BigRegion
import Derived.Laws.CopyOwn
import Derived.Laws.IdiomCopy
import Derived.WalkSmall
import Derived.Laws.ResultCell
import Derived.Laws.AppendOwnNone
import Derived.Deep.RegionHeld
import Derived.Deep.DeepAppendRoom
import Derived.Great.BuildSlice
import Derived.Deep.CutBlock
import Derived.Deep.RegionLaw
import Derived.ArgAppend
import Derived.Laws.Strings
import Derived.Laws.StructEq
import Derived.Below
import Derived.Deep.MidRow
import Derived.Great.Ranges
import Derived.Deep.RegionHeld3
import Derived.Laws.NewBlocks
import Derived.OrdersHeld
import Derived.Stop.BytesEq
import Derived.Laws.BytesString
import Derived.Lib.ConvBytes
import Derived.Laws.BitsAllLaws
import Derived.WalkLawsBesides
import Derived.Lib.Bytealg
import Derived.Laws.Externs
import Derived.Lib.SliceRun
import Derived.Lib.AppendZerosOnto
import Derived.Lib.AppendStr
import Derived.Lib.SlBytesConst
import Derived.Sort.Walk0
import Derived.Laws.Cover1
import Derived.Lib.Strings
import Derived.Lib.MinMaxS
import GoSem.Claim
import GoSem.ClaimJoined
import GoSem.ClaimMapViews
import Derived.JoinedTies
import Derived.KernelRfl
import Derived.JoinedCond
import Derived.ShutString
import Derived.ChangeOld
import Derived.Carry
import Derived.ChangeSlices
import Derived.Deep.Slices
import Derived.Deep.DeepHandedRow
import Derived.RowKit
import Derived.ChangeShapes
import Derived.SizedLaws
import Derived.ChangeMaps5
import Derived.Sort.WalkA
import Derived.Test.YtdbeeikjngnnnaaGreatRows
import Derived.Test.YtdbeeikjngnnnaaGreatD22
import Derived.Test.YtdbeeikjngnnnaaGreatD23
namespace Go.Proofs.YtdbeeikjngnnnaaGreat.ty
open Go.ChangeShapes Go.WideShapes Go.ChangeAt Go.RowKit
set_option linter.unusedVariables false
set_option linter.unusedSimpArgs false
theorem leV_leB (n : Nat) : ∀ k, leV (leB n k) = n % 2 ^ (8 * k)
  | 0 => by simp [leB, leV, Nat.mod_one]
  | k + 1 => by
    rw [leB, leV_snoc, leV_leB n k, leB_len, Nat.mul_succ, Nat.pow_add, Nat.mod_mul, Nat.mul_comm (2 ^ (8 * k)) (n / 2 ^ (8 * k) % 2 ^ 8)]
theorem mk8_bit (r : List Int) (i : Nat) : ∀ n, (mk8 r n).testBit i = decide (i < n ∧ 0 < r.getD i 0)
  | 0 => by simp [mk8]
  | n + 1 => by
    unfold mk8
    split
    · rename_i h
      rw [Nat.testBit_or, mk8_bit r i n, Nat.testBit_two_pow]
      by_cases e : n = i
      · subst e
        have : decide (n < n + 1 ∧ 0 < r.getD n 0) = true := by rw [decide_eq_true_eq]; exact ⟨by omega, h⟩
        rw [this]; simp
      · have : (i < n + 1) = (i < n) := by simp only [eq_iff_iff]; omega
        simp [e, this]
    · rename_i h
      rw [mk8_bit r i n]
      by_cases e : n = i
      · subst e
        have : decide (n < n + 1 ∧ 0 < r.getD n 0) = false := by rw [decide_eq_false_iff_not]; exact fun k => h k.2
        rw [this]; simp
      · have : (i < n + 1) = (i < n) := by simp only [eq_iff_iff]; omega
        simp [this]
/-- a row that can be told in so many bytes a number -/
structure Rw (wd : Nat) (r : List Int) : Prop where
  len : r.length = 8
  ge : ∀ i, i < 8 → 0 ≤ r.getD i 0
  lt : ∀ i, i < 8 → r.getD i 0 < 2 ^ (8 * wd)
theorem rwI_back {wd : Nat} {r : List Int} (h : Rw wd r) : ∀ (i : Nat) (tl : List Nat), i ≤ 8 → rwI (mk8 r 8) wd i (nb8 r wd i ++ tl) = (r.take i, tl)
  | 0, tl, _ => by simp [rwI, nb8]
  | i + 1, tl, hi => by
    have hb := mk8_bit r i 8
    rw [Nat.testBit_eq_decide_div_mod_eq] at hb
    have hlt : i < r.length := by rw [h.len]; omega
    have e0 : r.getD i 0 = r[i] := by rw [List.getD_eq_getElem?_getD, List.getElem?_eq_getElem hlt]; rfl
    have ht : r.take (i + 1) = r.take i ++ [r.getD i 0] := by
      rw [List.take_add_one, List.getElem?_eq_getElem hlt, e0]; rfl
    have h0 := h.ge i (by omega)
    have h1 := h.lt i (by omega)
    by_cases hp : 0 < r.getD i 0
    · have hbit : mk8 r 8 / 2 ^ i % 2 = 1 := by
        have : decide (i < 8 ∧ 0 < r.getD i 0) = true := by simp only [decide_eq_true_eq]; exact ⟨by omega, hp⟩
        rw [this] at hb
        exact of_decide_eq_true hb
      have hn : nb8 r wd (i + 1) = nb8 r wd i ++ leB (r.getD i 0).toNat wd := by rw [nb8, if_pos hp]
      have ih := rwI_back h i (leB (r.getD i 0).toNat wd ++ tl) (by omega)
      rw [hn, List.append_assoc, rwI, if_pos hbit, ih, ht]
      simp only
      have hl := leB_len (r.getD i 0).toNat wd
      rw [List.take_append_of_le_length (by omega), List.take_of_length_le (l := leB (r.getD i 0).toNat wd) (by omega), leV_leB, List.drop_append_of_le_length (by omega), List.drop_of_length_le (by omega), List.nil_append]
      have e2 : (((r.getD i 0).toNat % 2 ^ (8 * wd) : Nat) : Int) = r.getD i 0 := by
        rw [Nat.mod_eq_of_lt]
        · omega
        · have : (((r.getD i 0).toNat : Nat) : Int) < ((2 ^ (8 * wd) : Nat) : Int) := by
            rw [Int.toNat_of_nonneg h0, Int.natCast_pow]; exact h1
          exact Int.ofNat_lt.1 this
      rw [e2]
    · have hbit : ¬ mk8 r 8 / 2 ^ i % 2 = 1 := by
        have : decide (i < 8 ∧ 0 < r.getD i 0) = false := by simp only [decide_eq_false_iff_not]; exact fun k => hp k.2
        rw [this] at hb
        exact of_decide_eq_false hb
      have hn : nb8 r wd (i + 1) = nb8 r wd i := by rw [nb8, if_neg hp]
      have e2 : r.getD i 0 = 0 := by omega
      rw [hn, rwI, if_neg hbit, rwI_back h i tl (by omega), ht, e2]
theorem rowR_back {wd : Nat} {r : List Int} (h : Rw wd r) (tl : List Nat) : rowR (rowB r wd ++ tl) wd = (r, tl) := by
  unfold rowR rowB
  have e1 : ((mk8 r 8 :: nb8 r wd 8 ++ tl).take 1) = [mk8 r 8] := by simp
  have e2 : ((mk8 r 8 :: nb8 r wd 8 ++ tl).drop 1) = nb8 r wd 8 ++ tl := by simp
  rw [e1, e2]
  have e3 : leV [mk8 r 8] = mk8 r 8 := by simp [leV]
  rw [e3, rwI_back h 8 tl (by omega), List.take_of_length_le (by rw [h.len]; omega)]
theorem Cn.rw2 {r : List Int} (h : Cn r) : Rw 2 r := ⟨h.1, fun i _ => (h.2 i).1, fun i _ => by
  have := (h.2 i).2
  have e : (2 : Int) ^ (8 * 2) = 65536 := by decide
  rw [e]; omega⟩
theorem or_add24 (x y : Nat) (hx : x < 16777216) : x ||| (y * 16777216) = x + y * 16777216 := by
  have e : y * 16777216 = y <<< 24 := by rw [Nat.shiftLeft_eq]
  rw [Nat.or_comm, e, ← Nat.shiftLeft_add_eq_or_of_lt (by rw [show (2 : Nat) ^ 24 = 16777216 by decide]; exact hx), Nat.add_comm]
theorem ors_eq {x y : Int} (hx : 0 ≤ x) (hx2 : x ≤ 16777215) (hy : 0 ≤ y) : ors x y = x + y * 16777216 := by
  obtain ⟨a, rfl⟩ := Int.eq_ofNat_of_zero_le hx
  obtain ⟨b, rfl⟩ := Int.eq_ofNat_of_zero_le hy
  unfold ors
  have e : ((b : Int) * 16777216).toNat = b * 16777216 := by omega
  rw [Int.toNat_natCast, e, or_add24 a b (by omega)]
  omega
theorem ob_at {u d : List Int} (hu : Wd u) (hd : Wd d) (i : Nat) (hi : i < 8) : (ob u d).getD i 0 = u.getD i 0 + d.getD i 0 * 16777216 := by
  have h1 := hu.at i hi
  have h2 := hd.at i hi
  rw [← ors_eq h1.1 h1.2 h2.1]
  unfold ob
  rw [List.getD_eq_getElem?_getD, List.getElem?_zipWith, List.getD_eq_getElem?_getD, List.getD_eq_getElem?_getD, List.getElem?_eq_getElem (by rw [hu.1]; exact hi), List.getElem?_eq_getElem (by rw [hd.1]; exact hi)]
  rfl
theorem Wd.rw6 {u d : List Int} (hu : Wd u) (hd : Wd d) : Rw 6 (ob u d) := ⟨ob_len hu.1 hd.1, fun i hi => by
  have h1 := hu.at i hi
  have h2 := hd.at i hi
  rw [ob_at hu hd i hi]; omega, fun i hi => by
  have h1 := hu.at i hi
  have h2 := hd.at i hi
  have e : (2 : Int) ^ (8 * 6) = 281474976710656 := by decide
  rw [ob_at hu hd i hi, e]; omega⟩
theorem cu_ob {u d : List Int} (hu : Wd u) (hd : Wd d) : cuR (ob u d) = u := by
  refine row_ext (by simp [cuR, ob_len hu.1 hd.1]) hu.1 fun i hi => ?_
  have h1 := hu.at i hi
  have h2 := hd.at i hi
  rw [cuR, getD_map (by rw [ob_len hu.1 hd.1]; exact hi), ob_at hu hd i hi]
  omega
theorem cd_ob {u d : List Int} (hu : Wd u) (hd : Wd d) : cdR (ob u d) = d := by
  refine row_ext (by simp [cdR, ob_len hu.1 hd.1]) hd.1 fun i hi => ?_
  have h1 := hu.at i hi
  have h2 := hd.at i hi
  rw [cdR, getD_map (by rw [ob_len hu.1 hd.1]; exact hi), ob_at hu hd i hi]
  omega
theorem strB_bsk (t : ByteArray) : strB (bsk t) = t := by
  refine ba_inj ?_
  rw [strB_data]
  unfold bsk
  rw [ByteArray.toList_eq, List.map_map]
  have : (UInt8.ofNat ∘ UInt8.toNat) = id := by funext x; simp
  rw [this, List.map_id]
theorem snoc_of {α : Type} {l : List α} {n : Nat} (h : l.length = n + 1) : ∃ m x, l = m ++ [x] ∧ m.length = n := by
  have hne : l ≠ [] := by intro e; rw [e] at h; simp at h
  exact ⟨l.dropLast, l.getLast hne, (List.dropLast_concat_getLast hne).symm, by simp; omega⟩
theorem esI_backN : ∀ (n : Nat) (es : List En) (tl : List Nat), es.length = n → (∀ x ∈ es, x.e.size ≤ 8 ∧ Cn x.t) → esI es.length (esB es ++ tl) = (es, tl) := by
  intro n
  induction n with
  | zero =>
    intro es tl hn _
    obtain rfl := List.eq_nil_of_length_eq_zero hn
    simp [esI, esB]
  | succ n ihn =>
    intro es0 tl hn h
    obtain ⟨es, x, rfl, hes⟩ := snoc_of hn
    have ih := fun tl => ihn es tl hes
    have hx := h x (by simp)
    have h1 : x.e.size % 256 = x.e.size := Nat.mod_eq_of_lt (by omega)
    have ih2 := ih (enB x ++ tl) (fun y hy => h y (by simp [hy]))
    have e1 : esB (es ++ [x]) ++ tl = esB es ++ (enB x ++ tl) := by rw [esB_app]; simp [esB]
    rw [e1, List.length_append, List.length_singleton, esI, ih2]
    simp only
    have e2 : (enB x ++ tl).take 1 = [x.e.size] := by unfold enB; rw [h1]; simp
    have e3 : (enB x ++ tl).drop 1 = bsk x.e ++ (rowB x.t 2 ++ tl) := by unfold enB; simp
    have e4 : leV [x.e.size] = x.e.size := by simp [leV]
    have hl := bsk_len x.e
    rw [e2, e3, e4, List.take_append_of_le_length (by omega), List.take_of_length_le (by omega), List.drop_append_of_le_length (by omega), List.drop_of_length_le (by omega), List.nil_append, rowR_back hx.2.rw2, strB_bsk]
theorem esI_back (es : List En) (tl : List Nat) (h : ∀ x ∈ es, x.e.size ≤ 8 ∧ Cn x.t) : esI es.length (esB es ++ tl) = (es, tl) := esI_backN _ es tl rfl h
/-- as a value may be that can be told -/
def Gt (v : Vl) : Prop := Gd v ∧ ∀ s a t, v = .rgs s a t → a ≤ 7
theorem readV_back {v : Vl} (h : Gt v) (hl : (elsR v).length ≤ 200) : readV v.kd (formV v) = v := by
  cases v using Vl.el with
  | cnt u d =>
    obtain ⟨hu, hd⟩ := h.1
    show Vl.cnt (cuR (rowR ((1 :: rowB (ob u d) 6).drop 1) 6).1) (cdR (rowR ((1 :: rowB (ob u d) 6).drop 1) 6).1) = _
    have e : (1 :: rowB (ob u d) 6).drop 1 = rowB (ob u d) 6 ++ [] := by simp
    rw [e, rowR_back (hu.rw6 hd), cu_ob hu hd, cd_ob hu hd]
  | set c es =>
    obtain ⟨hg, hc, hs⟩ := h.1
    have hE : ∀ x ∈ es, x.e.size ≤ 8 ∧ Cn x.t := fun x hx => ⟨hs x hx, (hg.wi x hx).cn hc⟩
    have hl2 : es.length ≤ 200 := hl
    show Vl.set (rowR ((setB c es).drop 1) 2).1 (esI (leV ((rowR ((setB c es).drop 1) 2).2.take 1)) ((rowR ((setB c es).drop 1) 2).2.drop 1)).1 = _
    have e : (setB c es).drop 1 = rowB c 2 ++ (es.length :: (esB es ++ [])) := by
      unfold setB; rw [Nat.mod_eq_of_lt (show es.length < 256 by omega)]; simp
    rw [e, rowR_back hc.rw2]
    have e2 : (es.length :: (esB es ++ [])).take 1 = [es.length] := rfl
    have e3 : (es.length :: (esB es ++ [])).drop 1 = esB es ++ [] := rfl
    have e4 : leV [es.length] = es.length := by simp [leV]
    simp only
    rw [e2, e3, e4, esI_back es [] hE]
  | flg c g =>
    obtain ⟨hc, hw⟩ := h.1
    show Vl.flg (rowR ((3 :: (rowB c 2 ++ rowB g 2)).drop 1) 2).1 (rowR (rowR ((3 :: (rowB c 2 ++ rowB g 2)).drop 1) 2).2 2).1 = _
    have e : (3 :: (rowB c 2 ++ rowB g 2)).drop 1 = rowB c 2 ++ (rowB g 2 ++ []) := by simp
    rw [e, rowR_back hc.rw2]
    simp only
    rw [rowR_back (hw.cn hc).rw2]
  | rgs s a t =>
    obtain ⟨⟨h0, h1⟩, ⟨h2, h3⟩, -⟩ := h.1
    have h4 := h.2 s a t rfl
    obtain ⟨n, rfl⟩ := Int.eq_ofNat_of_zero_le h0
    obtain ⟨b, rfl⟩ := Int.eq_ofNat_of_zero_le h2
    have hr : regR (formV (.rgs (n : Int) (b : Int) t)) = (n, b, bsk t) := by
      show regR (4 :: (leB (n : Int).toNat 3 ++ ((b : Int).toNat % 256) :: bsk t)) = _
      rw [Int.toNat_natCast, Int.toNat_natCast, Nat.mod_eq_of_lt (show b < 256 by omega)]
      have e : (4 :: (leB n 3 ++ b :: bsk t)).drop 1 = leB n 3 ++ (b :: bsk t) := rfl
      have hl := leB_len n 3
      have hb := bsk_len t
      unfold regR
      rw [e, List.take_append_of_le_length (by omega), List.take_of_length_le (by omega), List.drop_append_of_le_length (by omega), List.drop_of_length_le (by omega), List.nil_append, leV_leB]
      have e2 : (b :: bsk t).take 1 = [b] := rfl
      have e3 : (b :: bsk t).drop 1 = bsk t := rfl
      have e5 : leV [b] = b := by simp [leV]
      rw [e2, e3, e5, List.take_of_length_le (by omega), Nat.mod_eq_of_lt (by rw [show (2 : Nat) ^ (8 * 3) = 16777216 by decide]; omega)]
    show Vl.rgs (((regR (formV (.rgs (n : Int) (b : Int) t))).1 : Nat) : Int) (((regR (formV (.rgs (n : Int) (b : Int) t))).2.1 : Nat) : Int) (strB (regR (formV (.rgs (n : Int) (b : Int) t))).2.2) = _
    rw [hr, strB_bsk]
theorem gr_within {a c : List Int} (h : Wi a c) : gr a c = c := by
  refine row_ext (gr_len h.1 h.2.1) h.2.1 fun i hi => ?_
  have := h.2.2 i hi
  rw [gr_at h.1 h.2.1 i hi]; omega
theorem rightV_gd {v : Vl} (h : Gt v) (hs : ∀ x ∈ elsR v, 1 ≤ x.e.size) : rightV v = true := by
  cases v using Vl.el with
  | cnt u d => rfl
  | set c es =>
    obtain ⟨hg, hc, h8⟩ := h.1
    show srR c es = true
    unfold srR
    rw [List.all_eq_true]
    intro i hi
    rw [List.mem_range] at hi
    have hm : es[i] ∈ es := List.getElem_mem hi
    unfold okE okP
    rw [List.getElem?_eq_getElem hi, List.getElem?_eq_getElem (show i - 1 < es.length by omega)]
    have h1 : okX c es[i] = true := by
      unfold okX isE
      simp only [Bool.and_eq_true, decide_eq_true_eq, Bool.not_eq_true', beq_eq_false_iff_ne, beq_iff_eq]
      exact ⟨⟨hs _ hm, h8 _ hm⟩, hg.nz _ hm, gr_within (hg.wi _ hm)⟩
    simp only [h1, Bool.true_and, Bool.or_eq_true, beq_iff_eq]
    rcases Nat.eq_zero_or_pos i with h0 | h0
    · exact .inl h0
    · exact .inr (so_lt hg.so (by omega) hi (by omega))
  | flg c g =>
    show (gr g c == c) = true
    rw [gr_within h.1.2]; simp
  | rgs s a t =>
    obtain ⟨⟨h0, h1⟩, ⟨h2, h3⟩, h5⟩ := h.1
    have h4 := h.2 s a t rfl
    show rtR s a t = true
    unfold rtR
    simp only [Bool.and_eq_true, Bool.or_eq_true, decide_eq_true_eq]
    refine ⟨by unfold isA; simp; omega, ?_⟩
    by_cases e : s = 0
    · obtain ⟨e1, e2⟩ := h5 e
      exact .inr ⟨⟨e, e1⟩, by rw [e2]; rw [ByteArray.toList_eq]⟩
    · exact .inl (by omega)
end Go.Proofs.YtdbeeikjngnnnaaGreat.ty
namespace Go.Proofs.YtdbeeikjngnnnaaGreat.ty
open Go.ChangeShapes Go.WideShapes Go.ChangeAt Go.RowKit
set_option linter.unusedVariables false
set_option linter.unusedSimpArgs false
theorem inj_le {α β : Type} (f : α → β) : ∀ (l : List α) (m : List β), l.Pairwise (fun x y => f x ≠ f y) → (∀ x ∈ l, f x ∈ m) → l.length ≤ m.length
  | [], m, _, _ => Nat.zero_le _
  | x :: r, m, h, k => by
    obtain ⟨h1, h2⟩ := List.pairwise_cons.1 h
    obtain ⟨a, b, e⟩ := List.append_of_mem (k x (by simp))
    have := inj_le f r (a ++ b) h2 (fun y hy => by
      have h3 := k y (List.mem_cons_of_mem _ hy)
      have h4 := h1 y hy
      rw [e] at h3
      simp only [List.mem_append, List.mem_cons] at h3 ⊢
      rcases h3 with h3 | h3 | h3
      · exact .inl h3
      · exact absurd h3.symm h4
      · exact .inr h3)
    rw [e]
    simp only [List.length_append, List.length_cons] at this ⊢
    omega
def cntA (ts : List Tg) (a : Nat) : Nat := (ts.filter fun t => t.a == a).length
def Fw (ts : List Tg) : Prop := ∀ a, a < 8 → cntA ts a ≤ 12
theorem cnt_step (ts : List Tg) (n : Nat) : (ts.filter fun t => decide (t.a < n + 1)).length = (ts.filter fun t => decide (t.a < n)).length + cntA ts n := by
  unfold cntA
  induction ts with
  | nil => rfl
  | cons t r ih =>
    simp only [List.filter_cons]
    by_cases h1 : t.a < n
    · rw [if_pos (by simp; omega), if_pos (by simp; omega), if_neg (by simp; omega)]
      simp only [List.length_cons]; omega
    · by_cases h2 : t.a = n
      · rw [if_pos (by simp; omega), if_neg (by simp; omega), if_pos (by simp; omega)]
        simp only [List.length_cons]; omega
      · rw [if_neg (by simp; omega), if_neg (by simp; omega), if_neg (by simp; omega)]
        exact ih
theorem Fw.len {ts : List Tg} (h : Fw ts) (o : To ts) : ts.length ≤ 96 := by
  have key : ∀ n, n ≤ 8 → (ts.filter fun t => decide (t.a < n)).length ≤ n * 12 := by
    intro n
    induction n with
    | zero => intro _; simp
    | succ n ih =>
      intro hn
      rw [cnt_step]
      have := h n (by omega)
      have := ih (by omega)
      omega
  have h8 := key 8 (by omega)
  have e : (ts.filter fun t => decide (t.a < 8)) = ts := List.filter_eq_self.2 fun t ht => by simpa using (o.ok t ht).1
  rw [e] at h8
  omega
theorem Fw.nil : Fw [] := fun a _ => by simp [cntA]
theorem Fw.sub {ts : List Tg} (h : Fw ts) (p : Tg → Bool) : Fw (ts.filter p) := fun a ha => by
  refine Nat.le_trans ?_ (h a ha)
  unfold cntA
  have e : List.filter (fun t : Tg => t.a == a) (List.filter p ts) = List.filter p (List.filter (fun t : Tg => t.a == a) ts) := by
    rw [List.filter_filter, List.filter_filter]
    congr 1
    funext t
    exact Bool.and_comm _ _
  rw [e]
  exact List.length_filter_le _ _
theorem one_e {ts : List Tg} (o : To ts) (a : Nat) : (ts.filter fun t => t.a == a).Pairwise fun x y => x.e ≠ y.e := by
  have h1 := o.one.filter fun t => t.a == a
  refine List.Pairwise.imp_of_mem ?_ h1
  intro x y hx hy h e
  have h2 := (List.mem_filter.1 hx).2
  have h3 := (List.mem_filter.1 hy).2
  simp only [beq_iff_eq] at h2 h3
  exact h ⟨e, h2.trans h3.symm⟩
theorem mem_tg {ts : List Tg} {es : List En} (h : Ts ts (tg es)) {t : Tg} (ht : t ∈ ts) : ∃ x ∈ es, x.e = t.e := by
  have h1 := h.og.ok t ht
  have h2 := h.eq t.e t.a h1.1
  rw [numT_mem h.og ht] at h2
  rcases tg_or es t.e with e | ⟨x, hx, e, -⟩
  · rw [e, zrD] at h2; omega
  · exact ⟨x, hx, e⟩
theorem Fw.of {ts : List Tg} {es : List En} (h : Ts ts (tg es)) (hl : es.length ≤ 12) : Fw ts := fun a ha => by
  have := inj_le (fun t : Tg => t.e) _ (es.map fun x => x.e) (one_e h.og a) (fun t ht => by
    obtain ⟨x, hx, e⟩ := mem_tg h (List.mem_filter.1 ht).1
    exact List.mem_map.2 ⟨x, hx, e⟩)
  rw [List.length_map] at this
  unfold cntA
  omega
theorem tg_some {ts : List Tg} {es : List En} (h : Ts ts (tg es)) (hs : So es) (hz : ∀ x ∈ es, x.t ≠ zr) (hl : ∀ x ∈ es, x.t.length = 8) {x : En} (hx : x ∈ es) : ∃ t ∈ ts, t.e = x.e := by
  have h0 : ∃ i, i < 8 ∧ x.t.getD i 0 ≠ 0 := by
    refine Classical.byContradiction fun k => hz x hx (row_ext (hl x hx) rfl fun i hi => ?_)
    rw [zrD]
    exact Classical.byContradiction fun q => k ⟨i, hi, q⟩
  obtain ⟨i, hi, hne⟩ := h0
  have h1 := h.eq x.e i hi
  rw [tg_mem hs hx] at h1
  rcases numT_or ts x.e i with ⟨z, -⟩ | ⟨t, ht, e, -⟩
  · rw [z] at h1; exact absurd h1 hne
  · exact ⟨t, ht, e⟩
theorem insS_so {x : ByteArray} {l : List ByteArray} (h : l.Pairwise fun a b => bl a b = true) : (insS x l).Pairwise fun a b => bl a b = true := by
  unfold insS
  split
  · exact h
  · rename_i hn
    have hlo : ∀ y ∈ l.take (bel x l), bl y x = true := fun y hy => by
      obtain ⟨i, hi, e⟩ := List.mem_iff_getElem.1 hy
      rw [List.length_take] at hi
      rw [← e, List.getElem_take]
      exact bel_lt x l i (by omega) (by omega)
    have hhi : ∀ y ∈ l.drop (bel x l), bl x y = true := fun y hy => by
      obtain ⟨i, hi, e⟩ := List.mem_iff_getElem.1 hy
      rw [List.length_drop] at hi
      rw [List.getElem_drop] at e
      have hb : bel x l < l.length := by omega
      have h1 := bel_ge x l hb
      rw [List.getElem?_eq_getElem hb] at hn
      have h2 : bl x (l[bel x l]'hb) = true := by
        cases q : bl x (l[bel x l]'hb)
        · exact absurd (congrArg some (bl_total h1 q)) hn
        · rfl
      by_cases hi0 : i = 0
      · subst hi0; rw [← e]; simpa using h2
      · have h3 := List.pairwise_iff_getElem.1 h (bel x l) (bel x l + i) hb (by omega) (by omega)
        rw [← e]
        exact bl_trans h2 h3
    refine List.pairwise_append.2 ⟨h.sublist (List.take_sublist _ _), List.pairwise_cons.2 ⟨hhi, h.sublist (List.drop_sublist _ _)⟩, fun y hy z hz => ?_⟩
    rcases List.mem_cons.1 hz with rfl | hz
    · exact hlo y hy
    · exact bl_trans (hlo y hy) (hhi z hz)
theorem elsT_so : ∀ (ts : List Tg) {l : List ByteArray}, (l.Pairwise fun a b => bl a b = true) → (elsT ts l).Pairwise fun a b => bl a b = true
  | [], l, h => h
  | t :: r, l, h => by rw [elsT]; exact elsT_so r (insS_so h)
theorem elsT_len : ∀ (ts : List Tg) (l : List ByteArray), (elsT ts l).length ≤ ts.length + l.length
  | [], l => by simp [elsT]
  | t :: r, l => by
    rw [elsT]
    have := elsT_len r (insS t.e l)
    have := insS_len t.e l
    simp only [List.length_cons]
    omega
theorem so_ext : ∀ {a b : List ByteArray}, (a.Pairwise fun x y => bl x y = true) → (b.Pairwise fun x y => bl x y = true) → (∀ x, x ∈ a ↔ x ∈ b) → a = b
  | [], [], _, _, _ => rfl
  | [], y :: b, _, _, h => by have := (h y).2 (by simp); simp at this
  | x :: a, [], _, _, h => by have := (h x).1 (by simp); simp at this
  | x :: a, y :: b, h1, h2, h => by
    obtain ⟨p1, p2⟩ := List.pairwise_cons.1 h1
    obtain ⟨q1, q2⟩ := List.pairwise_cons.1 h2
    have e : x = y := by
      rcases List.mem_cons.1 ((h x).1 (by simp)) with e | hx
      · exact e
      · rcases List.mem_cons.1 ((h y).2 (by simp)) with e | hy
        · exact e.symm
        · have k1 := q1 x hx
          have k2 := p1 y hy
          have := bl_trans k1 k2
          rw [bl_irrefl] at this; cases this
    subst e
    rw [so_ext p2 q2 fun z => ?_]
    constructor
    · intro hz
      rcases List.mem_cons.1 ((h z).1 (List.mem_cons_of_mem _ hz)) with e | hz2
      · subst e; have := p1 z hz; rw [bl_irrefl] at this; cases this
      · exact hz2
    · intro hz
      rcases List.mem_cons.1 ((h z).2 (List.mem_cons_of_mem _ hz)) with e | hz2
      · subst e; have := q1 z hz; rw [bl_irrefl] at this; cases this
      · exact hz2
theorem els_eq {ts : List Tg} {es : List En} (h : Ts ts (tg es)) (hs : So es) (hz : ∀ x ∈ es, x.t ≠ zr) (hl : ∀ x ∈ es, x.t.length = 8) : elsT ts [] = es.map fun x => x.e := by
  refine so_ext (elsT_so ts List.Pairwise.nil) (List.pairwise_map.2 hs) fun y => ?_
  rw [elsT_mem]
  simp only [List.not_mem_nil, false_or, List.mem_map]
  constructor
  · rintro ⟨t, ht, rfl⟩
    exact mem_tg h ht
  · rintro ⟨x, hx, rfl⟩
    exact tg_some h hs hz hl hx
structure Iv (v : Vl) : Prop where
  gt : Gt v
  sz : ∀ x ∈ elsR v, 1 ≤ x.e.size
def flT (g : List Int) (e : ByteArray) : List Int := if e = ⟨#[]⟩ then g else zr
def Rl (v : Vl) (ts : List Tg) : Prop := match v with
  | Sum.inl _ => ts = []
  | Sum.inr (Sum.inl (c, es)) => Ts ts (tg es) ∧ Fw ts
  | Sum.inr (Sum.inr (Sum.inl (c, g))) => Ts ts (flT g) ∧ Fw ts
  | Sum.inr (Sum.inr (Sum.inr _)) => ts = []
def rvO (v : Vl) (ts : List Tg) : Rv := match v with
  | Sum.inl (u, d) => ⟨1, u, d, zr, ts, 0, 0, ⟨#[]⟩⟩
  | Sum.inr (Sum.inl (c, es)) => ⟨2, zr, zr, c, ts, 0, 0, ⟨#[]⟩⟩
  | Sum.inr (Sum.inr (Sum.inl (c, g))) => ⟨3, zr, zr, c, ts, 0, 0, ⟨#[]⟩⟩
  | Sum.inr (Sum.inr (Sum.inr (s, a, t))) => ⟨4, zr, zr, zr, ts, s, a, t⟩
theorem rvO_k (v : Vl) (ts : List Tg) : (rvO v ts).k = v.kd := by cases v using Vl.el <;> rfl
theorem Rl.len {v : Vl} {ts : List Tg} (h : Rl v ts) : ts.length ≤ 96 := by
  cases v using Vl.el with
  | cnt u d => rw [show ts = [] from h]; simp
  | set c es => exact h.2.len h.1.og
  | flg c g => exact h.2.len h.1.og
  | rgs s a t => rw [show ts = [] from h]; simp
theorem Rl.els {v : Vl} {ts : List Tg} (h : Rl v ts) (hv : Gd v) : (elsR v).length ≤ 96 := by
  cases v using Vl.el with
  | cnt u d => simp [elsR]
  | set c es =>
    have h1 := els_eq h.1 hv.1.so hv.1.nz (fun x hx => (hv.1.wi x hx).1)
    have h2 := elsT_len ts []
    have h3 := h.2.len h.1.og
    rw [h1, List.length_map] at h2
    show es.length ≤ 96
    simp only [List.length_nil] at h2
    omega
  | flg c g => simp [elsR]
  | rgs s a t => simp [elsR]
theorem Rl.ok {v : Vl} {ts : List Tg} (h : Rl v ts) (hv : Gd v) : Ok v := hv.ok (by have := h.els hv; omega)
theorem Rl.okF {v : Vl} {ts : List Tg} (h : Rl v ts) (hv : Gd v) : OkF v := hv.okF (by have := h.els hv; omega)
end Go.Proofs.YtdbeeikjngnnnaaGreat.ty
namespace Go.Proofs.YtdbeeikjngnnnaaGreat.ty
open Go.ChangeShapes Go.WideShapes Go.ChangeAt Go.RowKit
set_option linter.unusedVariables false
set_option linter.unusedSimpArgs false
theorem Ts.congr {ts : List Tg} {T O : ByteArray → List Int} (h : Ts ts T) (e : ∀ x, T x = O x) : Ts ts O := by
  have : T = O := funext e
  rw [← this]; exact h
theorem flT_wi {c g : List Int} (h : Wi g c) (hc : Cn c) (e : ByteArray) : Wi (flT g e) c := by
  unfold flT
  split
  · exact h
  · exact Wi.zr hc.1 hc.ge
theorem Iv.new {k : Nat} (h1 : 1 ≤ k) (h4 : k ≤ 4) : Iv (new0 k) := by
  refine ⟨⟨new0_gd k, fun s a t e => ?_⟩, fun x hx => ?_⟩
  · obtain rfl | rfl | rfl | rfl : k = 1 ∨ k = 2 ∨ k = 3 ∨ k = 4 := by omega
    all_goals cases e
    decide
  · obtain rfl | rfl | rfl | rfl : k = 1 ∨ k = 2 ∨ k = 3 ∨ k = 4 := by omega
    all_goals simp [new0, elsR] at hx
theorem Rl.new {k : Nat} (h1 : 1 ≤ k) (h4 : k ≤ 4) : Rl (new0 k) [] := by
  obtain rfl | rfl | rfl | rfl : k = 1 ∨ k = 2 ∨ k = 3 ∨ k = 4 := by omega
  · rfl
  · exact ⟨Ts.nil.congr fun _ => rfl, Fw.nil⟩
  · exact ⟨Ts.nil.congr fun x => by unfold flT; split <;> rfl, Fw.nil⟩
  · rfl
theorem rvO_new {k : Nat} (h1 : 1 ≤ k) (h4 : k ≤ 4) : rvO (new0 k) [] = rv0 k := by
  obtain rfl | rfl | rfl | rfl : k = 1 ∨ k = 2 ∨ k = 3 ∨ k = 4 := by omega
  all_goals rfl
theorem Rl.on {v : Vl} {ts : List Tg} (h : Rl v ts) (iv : Iv v) : ronR (rvO v ts) = onR v := by
  cases v using Vl.el with
  | cnt u d => rfl
  | set c es => rfl
  | rgs s a t => rfl
  | flg c g =>
    obtain ⟨⟨hc, hw⟩, -⟩ := iv.gt
    show (3 == 3 && decide (0 < ts.length)) = (g != zr)
    rw [show ((3 : Nat) == 3) = true from rfl, Bool.true_and]
    by_cases hg : g = zr
    · have : ts = [] := by
        cases ts with
        | nil => rfl
        | cons t r =>
          have h1 := h.1.og.ok t (by simp)
          have h2 := h.1.eq t.e t.a h1.1
          rw [numT_mem h.1.og (by simp)] at h2
          unfold flT at h2
          rw [hg] at h2
          split at h2
          all_goals rw [zrD] at h2; omega
      rw [this, hg]; decide
    · have h0 : ∃ i, i < 8 ∧ g.getD i 0 ≠ 0 := by
        refine Classical.byContradiction fun k => hg (row_ext hw.1 rfl fun i hi => ?_)
        rw [zrD]
        exact Classical.byContradiction fun q => k ⟨i, hi, q⟩
      obtain ⟨i, hi, hne⟩ := h0
      have h1 := h.1.eq ⟨#[]⟩ i hi
      unfold flT at h1
      rw [if_pos rfl] at h1
      have h2 : 0 < ts.length := by
        rcases numT_or ts ⟨#[]⟩ i with ⟨z, -⟩ | ⟨t, ht, -⟩
        · rw [z] at h1; exact absurd h1 hne
        · exact List.length_pos_of_mem ht
      have h3 : (g != zr) = true := by simpa using hg
      rw [h3, decide_eq_true h2]
theorem Rl.tr {ts : List Tg} {T : ByteArray → List Int} (h : Ts ts T) {c : List Int} (hc : Cn c) (e : ByteArray) (w : Wi (T e) c) : Tr ts e (T e) := ⟨h.len e, fun a ha => h.eq e a ha, fun a ha => by
  have h1 := h.eq e a ha
  have h2 := w.2.2 a ha
  have h3 := hc.2 a
  omega⟩
end Go.Proofs.YtdbeeikjngnnnaaGreat.ty
