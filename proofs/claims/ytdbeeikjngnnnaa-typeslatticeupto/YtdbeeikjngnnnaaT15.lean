import Derived.Test.YtdbeeikjngnnnaaT14
namespace Go.Proofs.Ytdbeeikjngnnnaa.ty
open Go.ChangeShapes Go.WideShapes Go.ChangeAt Go.RowKit
set_option linter.unusedVariables false
set_option linter.unusedSimpArgs false
theorem i64_or_nat (a b : Nat) (ha : a < 2 ^ 63) (hb : b < 2 ^ 63) : bits .or .i64 (a : Int) (b : Int) = ((a ||| b : Nat) : Int) := by
  have hx : a ||| b < 2 ^ 63 := Nat.or_lt_two_pow ha hb
  show IntKind.i64.wrap ((BitVec.ofInt 64 (a : Int) ||| BitVec.ofInt 64 (b : Int)).toNat : Int) = _
  rw [BitVec.toNat_or, ofInt_u64 a (by omega), ofInt_u64 b (by omega), IntWalk.i64_left]
  exact IntWalk.wrap64_in _ (by omega)
/-- up and down as one number -/
def ors (x y : Int) : Int := ((x.toNat ||| (y * 16777216).toNat : Nat) : Int)
def ob (a b : List Int) : List Int := List.zipWith ors a b
theorem ob_len {a b : List Int} (ha : a.length = 8) (hb : b.length = 8) : (ob a b).length = 8 := by simp [ob, ha, hb]
def obI (a b : List Int) (i : Nat) : List Int := (ob a b).take i ++ a.drop i
theorem obI_zero (a b : List Int) : obI a b 0 = a := by simp [obI]
theorem obI_len {a b : List Int} (ha : a.length = 8) (hb : b.length = 8) (i : Nat) (hi : i ≤ 8) : (obI a b i).length = 8 := by simp [obI, ob_len ha hb, ha]; omega
theorem obI_at {a b : List Int} (ha : a.length = 8) (hb : b.length = 8) (i : Nat) (hi : i < 8) : (obI a b i).getD i 0 = a.getD i 0 := by
  have h1 := ob_len ha hb
  rw [List.getD_eq_getElem?_getD, List.getD_eq_getElem?_getD, obI, List.getElem?_append_right (by simp; omega)]
  simp [h1, Nat.min_eq_left (Nat.le_of_lt hi)]
theorem obI_end {a b : List Int} (ha : a.length = 8) (hb : b.length = 8) : obI a b 8 = ob a b := by
  rw [obI, List.take_of_length_le (by rw [ob_len ha hb]; omega), List.drop_eq_nil_of_le (by omega), List.append_nil]
theorem obI_step {a b : List Int} (ha : a.length = 8) (hb : b.length = 8) (i : Nat) (hi : i < 8) : (obI a b i).set i (ors (a.getD i 0) (b.getD i 0)) = obI a b (i + 1) := by
  have h1 := ob_len ha hb
  apply List.ext_getElem?
  intro j
  rw [List.getElem?_set]
  by_cases hj : j = i
  · subst hj
    have hl := obI_len ha hb j (by omega)
    simp [hl, hi]
    rw [obI, List.getElem?_append_left (by simp; omega), List.getElem?_take_of_lt (by omega), ob, List.getElem?_zipWith]
    have e1 : a[j]? = some (a.getD j 0) := by simp [ha, hi]
    have e2 : b[j]? = some (b.getD j 0) := by simp [hb, hi]
    rw [e1, e2]
    simp
  · rw [if_neg (by omega)]
    unfold obI
    by_cases hlt : j < i
    · rw [List.getElem?_append_left (by simp; omega), List.getElem?_append_left (by simp; omega), List.getElem?_take_of_lt hlt, List.getElem?_take_of_lt (by omega)]
    · rw [List.getElem?_append_right (by simp; omega), List.getElem?_append_right (by simp; omega)]
      simp [h1, Nat.min_eq_left (Nat.le_of_lt hi), Nat.min_eq_left (show i + 1 ≤ 8 from hi)]
      congr 1
      omega
set_option maxHeartbeats 4000000 in
set_option maxRecDepth 100000 in
theorem cform_ok {w : World} {u d : List Int} (hu : Wd u) (hd : Wd d) : Calls Try.prog 77 #[.agg (rv (u ++ d)).toArray] w fun r w' => ∃ s', r = .returned (.slice s'.p s'.n s'.c) ∧ Bf w w' s' (1 :: rowB (ob u d) 6) := by
  have Hu := hid hu
  have Hd := hid hd
  clear hu hd
  have HA := hid (Apart.refl [] w)
  go_enter Try.func77, Try.ntmps77
  go_upto_region 1 with fail
  obtain ⟨X, HXX⟩ : ∃ X, Hid (X = w.heap.size) := ⟨_, rfl⟩
  obtain ⟨w1, hw1⟩ : ∃ W, W = w.alloc (.cells (rv (u ++ d)).toArray 88) := ⟨_, rfl⟩
  have HSw1 : Hid (Apart [] w w1) := by unfold Hid; rw [hw1]; exact (Apart.refl [] w).alloc _
  have HBX : Hid (w1.heap[X]? = some (.cells (rv (u ++ d)).toArray 88 (0, 0))) := by unfold Hid; rw [HXX.out, hw1]; exact heap_alloc_new w _
  have HLX : Hid (w.heap.size ≤ X) := by unfold Hid; rw [HXX.out]; exact HA.out.size
  replace HA := hid (HA.out.trans HSw1.out)
  rw [← hw1, ← HXX.out]
  clear hw1 HXX
  go_wp2_with (first
    | refine wpL_val rfl (.agg (rv u).toArray) (ex_load _ rfl X 0 _ rfl (rg0 HBX.out) (by rw [rv_len, Hu.out.1])) ?_
    | (refine wpList_store_row rfl 86 _ _ rfl w1.heap.size (rv u).toArray rfl rfl 86 _ (heap_alloc_new w1 _) (by rw [size86]; simp [rv_len, Hu.out.1]) (by simp [rv_len, Hu.out.1]) (all_oneCell_toArray (rv_one _)) ?_
       have HB2 := hid (put_new (w := w1) (z := #[.int .i64 0, .int .i64 0, .int .i64 0, .int .i64 0, .int .i64 0, .int .i64 0, .int .i64 0, .int .i64 0]) (cs := (rv u).toArray) (T := 86))
       have HS2 := hid (put_apart (w := w1) (z := #[.int .i64 0, .int .i64 0, .int .i64 0, .int .i64 0, .int .i64 0, .int .i64 0, .int .i64 0, .int .i64 0]) (cs := (rv u).toArray) (T := 86))
       have HLY : Hid (w.heap.size ≤ w1.heap.size) := hid HA.out.size
       obtain ⟨Y, HY⟩ : ∃ X, X = w1.heap.size := ⟨_, rfl⟩
       rw [← HY] at HB2 HS2 HLY ⊢
       generalize (w1.alloc (.cells #[.int .i64 0, .int .i64 0, .int .i64 0, .int .i64 0, .int .i64 0, .int .i64 0, .int .i64 0, .int .i64 0] 86)).setRow Y (rv u).toArray = w2 at *
       clear HY)
    | refine wpL_val rfl (.agg (rv d).toArray) (ex_load _ rfl X 8 _ rfl (rg8 Hu.out.1 (keep0 HS2.out HBX.out)) (by rw [rv_len, Hd.out.1])) ?_)
  replace HA := hid (HA.out.trans HS2.out)
  replace HB2 : Hid (w2.heap[Y]? = some (.cells (rv (obI u d 0)).toArray 86 (0, 0))) := by rw [obI_zero]; exact HB2
  clear HBX
  go_loopw [10] (fun v wt => ∃ i : Nat, v = .int .i64 (i : Nat) ∧ i ≤ 8 ∧ Hid (Apart [] w wt) ∧ Hid (wt.heap[Y]? = some (.cells (rv (obI u d i)).toArray 86 (0, 0)))) (fun v _ => 8 - (intOf v).toNat)
  case atStart => exact ⟨0, rfl, Nat.zero_le _, HA, HB2⟩
  case round =>
    clear HA HB2
    obtain ⟨i, rfl, hi, HA, HBX⟩ := hrel
    generalize wr = wt at *
    by_cases hlt : i < 8
    · have hlti : ((i : Nat) : Int) < 8 := by omega
      have hlt0 : (0 : Int) ≤ ((i : Nat) : Int) ∧ ((i : Nat) : Int) < 8 := by omega
      have hri := fun (wx : World) => run_idx (b := d) i Hd.out.1 hlt wx
      have zx : wt.cell? ⟨Y, i, none⟩ = some (.int .i64 (u.getD i 0)) := by
        rw [← obI_at Hu.out.1 Hd.out.1 i hlt]
        exact cellR HBX.out i (by rw [obI_len Hu.out.1 Hd.out.1 i hi]; exact hlt)
      have fx := frozen_of_row _ _ i _ _ HBX.out
      obtain ⟨xa, Hxa⟩ : ∃ z : Int, Hid (z = u.getD i 0) := ⟨_, hid rfl⟩
      obtain ⟨xb, Hxb⟩ : ∃ z : Int, Hid (z = d.getD i 0) := ⟨_, hid rfl⟩
      rw [← Hxa.out] at zx
      rw [← Hxb.out] at hri
      have h1 := Hu.out.at i hlt
      have h2 := Hd.out.at i hlt
      rw [← Hxa.out] at h1
      rw [← Hxb.out] at h2
      have Hor : Hid (bits .or .i64 xa (wrap64 (xb * 16777216)) = ors (u.getD i 0) (d.getD i 0)) := by
        unfold Hid
        rw [← Hxa.out, ← Hxb.out, IntWalk.wrap64_in _ (by omega)]
        obtain ⟨A, hA⟩ := Int.eq_ofNat_of_zero_le h1.1
        obtain ⟨B, hB⟩ := Int.eq_ofNat_of_zero_le (show 0 ≤ xb * 16777216 by omega)
        rw [ors, hB, hA]
        exact i64_or_nat A B (by omega) (by omega)
      clear h1 h2
      go_wp2_with fail
      rw [Hor.out]
      refine ⟨⟨i + 1, by go_num, by omega, ?_, ?_⟩, by simp [intOf]; omega⟩
      · exact hid (HA.out.setCell (.inr HLY.out) _)
      · unfold Hid
        rw [heap_setCell_same wt Y i _ 86 _ HBX.out, ← obI_step Hu.out.1 Hd.out.1 i hlt, ← rv_set]
        simp
    · have hlti : ¬ ((i : Nat) : Int) < 8 := by omega
      obtain rfl : i = 8 := by omega
      rw [obI_end Hu.out.1 Hd.out.1] at HBX
      have Hol := hid (ob_len Hu.out.1 Hd.out.1)
      obtain ⟨g, Hg⟩ : ∃ g, Hid (g = ob u d) := ⟨_, hid rfl⟩
      rw [← Hg.out] at HBX Hol
      have HB1 : Hid (Bf w (wt.alloc (.cells #[.int .u8 1] 5)) ⟨some ⟨wt.heap.size, 0, none⟩, 1, 1⟩ [1]) := by
        unfold Hid
        refine ⟨⟨⟨rfl, .inr ⟨wt.heap.size, 1, _, rfl, Nat.zero_le _, heap_alloc_new wt _, Nat.le_refl _, by unfold maxLen; omega, rfl, rfl⟩⟩, fun k hk => by simp [Sl.v, Value.ownBlock] at hk; rw [← hk]; exact HA.out.size, HA.out.alloc _⟩, rfl⟩
      have HC := hid (appRow HB1.out (by simp) Hol.out (width := 6) (by omega))
      have HBX5 : Hid ((wt.alloc (.cells #[.int .u8 1] 5)).heap[Y]? = some (.cells (rv g).toArray 86 (0, 0))) := hid (keep0 ((Apart.refl [] wt).alloc _) HBX.out)
      go_wp2_with (first
        | refine wpList_load_row rfl 86 _ rfl Y rfl 86 _ (0, 0) _ HBX5.out Try.underlying86 rfl (by rw [size86]; simp [rv_len, Hol.out]) ?_
        | (go_at_call 82; refine HC.out.mono ?_; rintro _ w6 ⟨s4, rfl, b6, t6⟩; have H6 := hid b6; clear b6 t6))
      go_ret
      exact ⟨s4, rfl, by rw [← Hg.out]; exact H6.out⟩
end Go.Proofs.Ytdbeeikjngnnnaa.ty
