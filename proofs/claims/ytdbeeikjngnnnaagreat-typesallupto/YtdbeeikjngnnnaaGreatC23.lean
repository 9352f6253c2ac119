import Derived.Test.YtdbeeikjngnnnaaGreatC20
namespace Go.Proofs.YtdbeeikjngnnnaaGreat.ty
open Go.ChangeShapes Go.WideShapes Go.ChangeAt Go.RowKit
set_option linter.unusedVariables false
set_option linter.unusedSimpArgs false
set_option maxRecDepth 100000
set_option maxHeartbeats 8000000
/-! ### what is told is read as it was -/
theorem leV_leB (n : Nat) : ∀ k, leV (leB n k) = n % 2 ^ (8 * k)
 | 0 => by simp [leB, leV, Nat.mod_one]
 | k + 1 => by
  rw [leB, leV_snoc, leV_leB n k, leB_len, Nat.mul_succ, Nat.pow_add, Nat.mod_mul, Nat.mul_comm (2 ^ (8 * k)) (n / 2 ^ (8 * k) % 2 ^ 8)]
theorem mk8_bit (r : List Int) (i : Nat) : ∀ n, (mk8 r n).testBit i = decide (i < n ∧ 0 < r.getD i 0)
 | 0 => by simp [mk8]
 | n + 1 => by
  unfold mk8
  split
  ·rename_i h
   rw [Nat.testBit_or, mk8_bit r i n, Nat.testBit_two_pow]
   by_cases e : n = i
   ·subst e
    have : decide (n < n + 1 ∧ 0 < r.getD n 0) = true := by rw [decide_eq_true_eq]; exact ⟨by omega, h⟩
    rw [this]; simp
   ·have : (i < n + 1) = (i < n) := by simp only [eq_iff_iff]; omega
    simp [e, this]
  ·rename_i h
   rw [mk8_bit r i n]
   by_cases e : n = i
   ·subst e
    have : decide (n < n + 1 ∧ 0 < r.getD n 0) = false := by rw [decide_eq_false_iff_not]; exact fun k => h k.2
    rw [this]; simp
   ·have : (i < n + 1) = (i < n) := by simp only [eq_iff_iff]; omega
    simp [this]
structure Rw (wd : Nat) (r : List Int) : Prop where
 len : r.length = 8
 ge : ∀ i, i < 8 → 0 ≤ r.getD i 0
 lt : ∀ i, i < 8 → r.getD i 0 < 2 ^ (8 * wd)
theorem rwI_back {wd : Nat} {r : List Int} (h : Rw wd r) : ∀ (i : Nat) (tl : List Nat), i ≤ 8 → rwI (mk8 r 8) wd i (nb8 r wd i ++ tl) = (r.take i, tl)
 | 0, tl, _ => by simp [rwI, nb8]
 | i + 1, tl, hi => by
  have hb := mk8_bit r i 8
  rw [Nat.testBit_eq_decide_div_mod_eq] at hb
  have hlt : i < r.length := by rw [h.len]; omega
  have e0 : r.getD i 0 = r[i] := by rw [List.getD_eq_getElem?_getD, List.getElem?_eq_getElem hlt]; rfl
  have ht : r.take (i + 1) = r.take i ++ [r.getD i 0] := by
   rw [List.take_add_one, List.getElem?_eq_getElem hlt, e0]; rfl
  have h0 := h.ge i (by omega)
  have h1 := h.lt i (by omega)
  by_cases hp : 0 < r.getD i 0
  ·have hbit : mk8 r 8 / 2 ^ i % 2 = 1 := by
    have : decide (i < 8 ∧ 0 < r.getD i 0) = true := by simp only [decide_eq_true_eq]; exact ⟨by omega, hp⟩
    rw [this] at hb
    exact of_decide_eq_true hb
   have hn : nb8 r wd (i + 1) = nb8 r wd i ++ leB (r.getD i 0).toNat wd := by rw [nb8, if_pos hp]
   have ih := rwI_back h i (leB (r.getD i 0).toNat wd ++ tl) (by omega)
   rw [hn, List.append_assoc, rwI, if_pos hbit, ih, ht]
   simp only
   have hl := leB_len (r.getD i 0).toNat wd
   rw [List.take_append_of_le_length (by omega), List.take_of_length_le (l := leB (r.getD i 0).toNat wd) (by omega), leV_leB, List.drop_append_of_le_length (by omega), List.drop_of_length_le (by omega), List.nil_append]
   have e2 : (((r.getD i 0).toNat % 2 ^ (8 * wd) : Nat) : Int) = r.getD i 0 := by
    rw [Nat.mod_eq_of_lt]
    ·omega
    ·have : (((r.getD i 0).toNat : Nat) : Int) < ((2 ^ (8 * wd) : Nat) : Int) := by
      rw [Int.toNat_of_nonneg h0, Int.natCast_pow]; exact h1
     exact Int.ofNat_lt.1 this
   rw [e2]
  ·have hbit : ¬ mk8 r 8 / 2 ^ i % 2 = 1 := by
    have : decide (i < 8 ∧ 0 < r.getD i 0) = false := by simp only [decide_eq_false_iff_not]; exact fun k => hp k.2
    rw [this] at hb
    exact of_decide_eq_false hb
   have hn : nb8 r wd (i + 1) = nb8 r wd i := by rw [nb8, if_neg hp]
   have e2 : r.getD i 0 = 0 := by omega
   rw [hn, rwI, if_neg hbit, rwI_back h i tl (by omega), ht, e2]
theorem rowR_back {wd : Nat} {r : List Int} (h : Rw wd r) (tl : List Nat) : rowR (rowB r wd ++ tl) wd = (r, tl) := by
 unfold rowR rowB
 have e1 : ((mk8 r 8 :: nb8 r wd 8 ++ tl).take 1) = [mk8 r 8] := by simp
 have e2 : ((mk8 r 8 :: nb8 r wd 8 ++ tl).drop 1) = nb8 r wd 8 ++ tl := by simp
 rw [e1, e2]
 have e3 : leV [mk8 r 8] = mk8 r 8 := by simp [leV]
 rw [e3, rwI_back h 8 tl (by omega), List.take_of_length_le (by rw [h.len]; omega)]
theorem Cn.rw2 {r : List Int} (h : Cn r) : Rw 2 r := ⟨h.1, fun i _ => (h.2 i).1, fun i _ => by
 have := (h.2 i).2
 have e : (2 : Int) ^ (8 * 2) = 65536 := by decide
 rw [e]; omega⟩
theorem or_add24 (x y : Nat) (hx : x < 16777216) : x ||| (y * 16777216) = x + y * 16777216 := by
 have e : y * 16777216 = y <<< 24 := by rw [Nat.shiftLeft_eq]
 rw [Nat.or_comm, e, ← Nat.shiftLeft_add_eq_or_of_lt (by rw [show (2 : Nat) ^ 24 = 16777216 by decide]; exact hx), Nat.add_comm]
theorem ors_eq {x y : Int} (hx : 0 ≤ x) (hx2 : x ≤ 16777215) (hy : 0 ≤ y) : ors x y = x + y * 16777216 := by
 obtain ⟨a, rfl⟩ := Int.eq_ofNat_of_zero_le hx
 obtain ⟨b, rfl⟩ := Int.eq_ofNat_of_zero_le hy
 unfold ors
 have e : ((b : Int) * 16777216).toNat = b * 16777216 := by omega
 rw [Int.toNat_natCast, e, or_add24 a b (by omega)]
 omega
theorem ob_at {u d : List Int} (hu : Wd u) (hd : Wd d) (i : Nat) (hi : i < 8) : (ob u d).getD i 0 = u.getD i 0 + d.getD i 0 * 16777216 := by
 have h1 := hu.at i hi
 have h2 := hd.at i hi
 rw [← ors_eq h1.1 h1.2 h2.1]
 unfold ob
 rw [List.getD_eq_getElem?_getD, List.getElem?_zipWith, List.getD_eq_getElem?_getD, List.getD_eq_getElem?_getD, List.getElem?_eq_getElem (by rw [hu.1]; exact hi), List.getElem?_eq_getElem (by rw [hd.1]; exact hi)]
 rfl
theorem Wd.rw6 {u d : List Int} (hu : Wd u) (hd : Wd d) : Rw 6 (ob u d) := ⟨ob_len hu.1 hd.1, fun i hi => by
 have h1 := hu.at i hi
 have h2 := hd.at i hi
 rw [ob_at hu hd i hi]; omega, fun i hi => by
 have h1 := hu.at i hi
 have h2 := hd.at i hi
 have e : (2 : Int) ^ (8 * 6) = 281474976710656 := by decide
 rw [ob_at hu hd i hi, e]; omega⟩
theorem cu_ob {u d : List Int} (hu : Wd u) (hd : Wd d) : cuR (ob u d) = u := by
 refine row_ext (by simp [cuR, ob_len hu.1 hd.1]) hu.1 fun i hi => ?_
 have h1 := hu.at i hi
 have h2 := hd.at i hi
 rw [cuR, getD_map (by rw [ob_len hu.1 hd.1]; exact hi), ob_at hu hd i hi]
 omega
theorem cd_ob {u d : List Int} (hu : Wd u) (hd : Wd d) : cdR (ob u d) = d := by
 refine row_ext (by simp [cdR, ob_len hu.1 hd.1]) hd.1 fun i hi => ?_
 have h1 := hu.at i hi
 have h2 := hd.at i hi
 rw [cdR, getD_map (by rw [ob_len hu.1 hd.1]; exact hi), ob_at hu hd i hi]
 omega
theorem strB_bsk (t : ByteArray) : strB (bsk t) = t := by
 refine ba_inj ?_
 rw [strB_data]
 unfold bsk
 rw [ByteArray.toList_eq, List.map_map]
 have : (UInt8.ofNat ∘ UInt8.toNat) = id := by funext x; simp
 rw [this, List.map_id]
theorem snoc_of {α : Type} {l : List α} {n : Nat} (h : l.length = n + 1) : ∃ m x, l = m ++ [x] ∧ m.length = n := by
 have hne : l ≠ [] := by intro e; rw [e] at h; simp at h
 exact ⟨l.dropLast, l.getLast hne, (List.dropLast_concat_getLast hne).symm, by simp; omega⟩
theorem esI_backN : ∀ (n : Nat) (es : List En) (tl : List Nat), es.length = n → (∀ x ∈ es, x.e.size ≤ 8 ∧ Cn x.t) → esI es.length (esB es ++ tl) = (es, tl) := by
 intro n
 induction n with
 | zero =>
  intro es tl hn _
  obtain rfl := List.eq_nil_of_length_eq_zero hn
  simp [esI, esB]
 | succ n ihn =>
  intro es0 tl hn h
  obtain ⟨es, x, rfl, hes⟩ := snoc_of hn
  have ih := fun tl => ihn es tl hes
  have hx := h x (by simp)
  have h1 : x.e.size % 256 = x.e.size := Nat.mod_eq_of_lt (by omega)
  have ih2 := ih (enB x ++ tl) (fun y hy => h y (by simp [hy]))
  have e1 : esB (es ++ [x]) ++ tl = esB es ++ (enB x ++ tl) := by rw [esB_app]; simp [esB]
  rw [e1, List.length_append, List.length_singleton, esI, ih2]
  simp only
  have e2 : (enB x ++ tl).take 1 = [x.e.size] := by unfold enB; rw [h1]; simp
  have e3 : (enB x ++ tl).drop 1 = bsk x.e ++ (rowB x.t 2 ++ tl) := by unfold enB; simp
  have e4 : leV [x.e.size] = x.e.size := by simp [leV]
  have hl := bsk_len x.e
  rw [e2, e3, e4, List.take_append_of_le_length (by omega), List.take_of_length_le (by omega), List.drop_append_of_le_length (by omega), List.drop_of_length_le (by omega), List.nil_append, rowR_back hx.2.rw2, strB_bsk]
theorem esI_back (es : List En) (tl : List Nat) (h : ∀ x ∈ es, x.e.size ≤ 8 ∧ Cn x.t) : esI es.length (esB es ++ tl) = (es, tl) := esI_backN _ es tl rfl h
def Gt (v : Vl) : Prop := Gd v ∧ ∀ s a t, v = .rgs s a t → a ≤ 7
theorem readV_back {v : Vl} (h : Gt v) (hl : (elsR v).length ≤ 200) : readV v.kd (formV v) = v := by
 cases v using Vl.el with
 | cnt u d =>
  obtain ⟨hu, hd⟩ := h.1
  show Vl.cnt (cuR (rowR ((1 :: rowB (ob u d) 6).drop 1) 6).1) (cdR (rowR ((1 :: rowB (ob u d) 6).drop 1) 6).1) = _
  have e : (1 :: rowB (ob u d) 6).drop 1 = rowB (ob u d) 6 ++ [] := by simp
  rw [e, rowR_back (hu.rw6 hd), cu_ob hu hd, cd_ob hu hd]
 | set c es =>
  obtain ⟨hg, hc, hs⟩ := h.1
  have hE : ∀ x ∈ es, x.e.size ≤ 8 ∧ Cn x.t := fun x hx => ⟨hs x hx, (hg.wi x hx).cn hc⟩
  have hl2 : es.length ≤ 200 := hl
  show Vl.set (rowR ((setB c es).drop 1) 2).1 (esI (leV ((rowR ((setB c es).drop 1) 2).2.take 1)) ((rowR ((setB c es).drop 1) 2).2.drop 1)).1 = _
  have e : (setB c es).drop 1 = rowB c 2 ++ (es.length :: (esB es ++ [])) := by
   unfold setB; rw [Nat.mod_eq_of_lt (show es.length < 256 by omega)]; simp
  rw [e, rowR_back hc.rw2]
  have e2 : (es.length :: (esB es ++ [])).take 1 = [es.length] := rfl
  have e3 : (es.length :: (esB es ++ [])).drop 1 = esB es ++ [] := rfl
  have e4 : leV [es.length] = es.length := by simp [leV]
  simp only
  rw [e2, e3, e4, esI_back es [] hE]
 | flg c g =>
  obtain ⟨hc, hw⟩ := h.1
  show Vl.flg (rowR ((3 :: (rowB c 2 ++ rowB g 2)).drop 1) 2).1 (rowR (rowR ((3 :: (rowB c 2 ++ rowB g 2)).drop 1) 2).2 2).1 = _
  have e : (3 :: (rowB c 2 ++ rowB g 2)).drop 1 = rowB c 2 ++ (rowB g 2 ++ []) := by simp
  rw [e, rowR_back hc.rw2]
  simp only
  rw [rowR_back (hw.cn hc).rw2]
 | rgs s a t =>
  obtain ⟨⟨h0, h1⟩, ⟨h2, h3⟩, -⟩ := h.1
  have h4 := h.2 s a t rfl
  obtain ⟨n, rfl⟩ := Int.eq_ofNat_of_zero_le h0
  obtain ⟨b, rfl⟩ := Int.eq_ofNat_of_zero_le h2
  have hr : regR (formV (.rgs (n : Int) (b : Int) t)) = (n, b, bsk t) := by
   show regR (4 :: (leB (n : Int).toNat 3 ++ ((b : Int).toNat % 256) :: bsk t)) = _
   rw [Int.toNat_natCast, Int.toNat_natCast, Nat.mod_eq_of_lt (show b < 256 by omega)]
   have e : (4 :: (leB n 3 ++ b :: bsk t)).drop 1 = leB n 3 ++ (b :: bsk t) := rfl
   have hl := leB_len n 3
   have hb := bsk_len t
   unfold regR
   rw [e, List.take_append_of_le_length (by omega), List.take_of_length_le (by omega), List.drop_append_of_le_length (by omega), List.drop_of_length_le (by omega), List.nil_append, leV_leB]
   have e2 : (b :: bsk t).take 1 = [b] := rfl
   have e3 : (b :: bsk t).drop 1 = bsk t := rfl
   have e5 : leV [b] = b := by simp [leV]
   rw [e2, e3, e5, List.take_of_length_le (by omega), Nat.mod_eq_of_lt (by rw [show (2 : Nat) ^ (8 * 3) = 16777216 by decide]; omega)]
  show Vl.rgs (((regR (formV (.rgs (n : Int) (b : Int) t))).1 : Nat) : Int) (((regR (formV (.rgs (n : Int) (b : Int) t))).2.1 : Nat) : Int) (strB (regR (formV (.rgs (n : Int) (b : Int) t))).2.2) = _
  rw [hr, strB_bsk]
theorem gr_within {a c : List Int} (h : Wi a c) : gr a c = c := by
 refine row_ext (gr_len h.1 h.2.1) h.2.1 fun i hi => ?_
 have := h.2.2 i hi
 rw [gr_at h.1 h.2.1 i hi]; omega
theorem rightV_gd {v : Vl} (h : Gt v) (hs : ∀ x ∈ elsR v, 1 ≤ x.e.size) : rightV v = true := by
 cases v using Vl.el with
 | cnt u d => rfl
 | set c es =>
  obtain ⟨hg, hc, h8⟩ := h.1
  show srR c es = true
  unfold srR
  rw [List.all_eq_true]
  intro i hi
  rw [List.mem_range] at hi
  have hm : es[i] ∈ es := List.getElem_mem hi
  unfold okE okP
  rw [List.getElem?_eq_getElem hi, List.getElem?_eq_getElem (show i - 1 < es.length by omega)]
  have h1 : okX c es[i] = true := by
   unfold okX isE
   simp only [Bool.and_eq_true, decide_eq_true_eq, Bool.not_eq_true', beq_eq_false_iff_ne, beq_iff_eq]
   exact ⟨⟨hs _ hm, h8 _ hm⟩, hg.nz _ hm, gr_within (hg.wi _ hm)⟩
  simp only [h1, Bool.true_and, Bool.or_eq_true, beq_iff_eq]
  rcases Nat.eq_zero_or_pos i with h0 | h0
  ·exact .inl h0
  ·exact .inr (so_lt hg.so (by omega) hi (by omega))
 | flg c g =>
  show (gr g c == c) = true
  rw [gr_within h.1.2]; simp
 | rgs s a t =>
  obtain ⟨⟨h0, h1⟩, ⟨h2, h3⟩, h5⟩ := h.1
  have h4 := h.2 s a t rfl
  show rtR s a t = true
  unfold rtR
  simp only [Bool.and_eq_true, Bool.or_eq_true, decide_eq_true_eq]
  refine ⟨by unfold isA; simp; omega, ?_⟩
  by_cases e : s = 0
  ·obtain ⟨e1, e2⟩ := h5 e
   exact .inr ⟨⟨e, e1⟩, by rw [e2]; rw [ByteArray.toList_eq]⟩
  ·exact .inl (by omega)
end Go.Proofs.YtdbeeikjngnnnaaGreat.ty
