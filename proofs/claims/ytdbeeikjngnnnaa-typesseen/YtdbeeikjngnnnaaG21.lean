import Derived.Test.YtdbeeikjngnnnaaG20
namespace Go.Proofs.Ytdbeeikjngnnnaa.ty
open Go.ChangeShapes Go.WideShapes Go.ChangeAt Go.RowKit
set_option linter.unusedVariables false
set_option linter.unusedSimpArgs false
theorem i64_and_nat (a b : Nat) (ha : a < 2 ^ 63) (hb : b < 2 ^ 63) : bits .and .i64 (a : Int) (b : Int) = ((a &&& b : Nat) : Int) := by
  have hx : a &&& b < 2 ^ 63 := Nat.and_lt_two_pow a hb
  show IntKind.i64.wrap ((BitVec.ofInt 64 (a : Int) &&& BitVec.ofInt 64 (b : Int)).toNat : Int) = _
  rw [BitVec.toNat_and, ofInt_u64 a (by omega), ofInt_u64 b (by omega), IntWalk.i64_left]
  exact IntWalk.wrap64_in _ (by omega)
/-- a row that is read: the numbers of the first i actors, and what is left -/
def rwI (mask wd : Nat) : Nat → List Nat → List Int × List Nat
  | 0, us => ([], us)
  | i + 1, us => if mask / 2 ^ i % 2 = 1 then ((rwI mask wd i us).1 ++ [((leV ((rwI mask wd i us).2.take wd) : Nat) : Int)], (rwI mask wd i us).2.drop wd) else ((rwI mask wd i us).1 ++ [0], (rwI mask wd i us).2)
def rowR (us : List Nat) (wd : Nat) : List Int × List Nat := rwI (leV (us.take 1)) wd 8 (us.drop 1)
theorem rwI_len (mask wd : Nat) (us : List Nat) : ∀ i, (rwI mask wd i us).1.length = i
  | 0 => rfl
  | i + 1 => by
    unfold rwI
    split <;> simp [rwI_len mask wd us i]
theorem rwI_left (mask wd : Nat) (us : List Nat) : ∀ i, (rwI mask wd i us).2.length ≤ us.length
  | 0 => Nat.le_refl _
  | i + 1 => by
    have h := rwI_left mask wd us i
    unfold rwI
    split
    · simp only [List.length_drop]; omega
    · exact h
def pad8 (l : List Int) : List Int := l ++ List.replicate (8 - l.length) 0
theorem pad8_len {l : List Int} (h : l.length ≤ 8) : (pad8 l).length = 8 := by simp [pad8]; omega
theorem pad8_zero {l : List Int} (h : l.length < 8) : pad8 (l ++ [0]) = pad8 l := by
  unfold pad8
  rw [List.append_assoc, List.length_append]
  congr 1
  rw [show 8 - l.length = (8 - (l.length + [(0 : Int)].length)) + 1 from by simp; omega, List.replicate_succ]
  rfl
theorem pad8_set {l : List Int} (h : l.length < 8) (v : Int) : (pad8 l).set l.length v = pad8 (l ++ [v]) := by
  unfold pad8
  rw [List.set_append_right _ _ (Nat.le_refl _), Nat.sub_self, List.append_assoc, List.length_append]
  congr 1
  rw [show 8 - l.length = (8 - (l.length + [v].length)) + 1 from by simp; omega, List.replicate_succ]
  rfl
theorem pad8_end {l : List Int} (h : l.length = 8) : pad8 l = l := by simp [pad8, h]
set_option maxHeartbeats 2000000 in
set_option maxRecDepth 100000 in
theorem row_ok {wB w : World} {R : Nat} {s : Sl} {us : List Nat} (h : Rr wB w R s us) (hl : us.length ≤ 1000000) (wd : Nat) (hw : wd ≤ 6) : Calls Try.prog 84 #[.pointer (some ⟨R, 0, none⟩), .int .i64 (wd : Int)] w fun r w' => r = .returned (.agg (rv (rowR us wd).1).toArray) ∧ (∃ b, Rr wB w' R b (rowR us wd).2) ∧ Apart [R] w w' := by
  have HWB : Hid (wB.heap.size ≤ w.heap.size) := hid h.ap.size
  have HR := hid h
  have Hl := hid hl
  have Hw := hid hw
  clear h hl
  obtain ⟨g, Hg⟩ : ∃ g, Hid (g = (rowR us wd).1) := ⟨_, hid rfl⟩
  obtain ⟨vs, Hvs⟩ : ∃ g, Hid (g = (rowR us wd).2) := ⟨_, hid rfl⟩
  rw [← Hg.out, ← Hvs.out]
  obtain ⟨mk, Hmk⟩ : ∃ m, Hid (m = leV (us.take 1)) := ⟨_, hid rfl⟩
  have hmk : mk < 256 := by
    rw [Hmk.out]
    have h1 := leV_lt (l := us.take 1) (fun x hx => HR.out.u8 x (List.mem_of_mem_take hx))
    have h2 : (us.take 1).length ≤ 1 := by rw [List.length_take]; omega
    have h3 : 2 ^ (8 * (us.take 1).length) ≤ 2 ^ 8 := Nat.pow_le_pow_right (by omega) (by omega)
    omega
  go_enter Try.func84, Try.ntmps84
  go_upto_region 2 with fail
  obtain ⟨Z, HXZ⟩ : ∃ X, Hid (X = w.heap.size) := ⟨_, rfl⟩
  obtain ⟨w1, hw1⟩ : ∃ W, W = w.alloc (.cells #[.int .i64 0, .int .i64 0, .int .i64 0, .int .i64 0, .int .i64 0, .int .i64 0, .int .i64 0, .int .i64 0] 86) := ⟨_, rfl⟩
  obtain ⟨X, HXX⟩ : ∃ X, Hid (X = w1.heap.size) := ⟨_, rfl⟩
  obtain ⟨w2, hw2⟩ : ∃ W, W = w1.alloc (.cells #[.int .i64 0, .int .i64 0, .int .i64 0, .int .i64 0, .int .i64 0, .int .i64 0, .int .i64 0, .int .i64 0] 86) := ⟨_, rfl⟩
  have HS1 : Hid (Apart [] w w1) := by unfold Hid; rw [hw1]; exact (Apart.refl [] w).alloc _
  have HS2 : Hid (Apart [] w1 w2) := by unfold Hid; rw [hw2]; exact (Apart.refl [] w1).alloc _
  have HBZ : Hid (w2.heap[Z]? = some (.cells (rv (pad8 [])).toArray 86 (0, 0))) := by unfold Hid; refine keep0 HS2.out ?_; rw [HXZ.out, hw1]; exact heap_alloc_new w _
  have HBX : Hid (w2.heap[X]? = some (.cells (rv (pad8 [])).toArray 86 (0, 0))) := by unfold Hid; rw [HXX.out, hw2]; exact heap_alloc_new w1 _
  have hRlt := lt_of_heap HR.out.blk
  have heX : Z + 1 = X := by rw [HXX.out, hw1, HXZ.out]; exact (Array.size_push _).symm
  have HN : Hid (X ≠ R ∧ Z ≠ R ∧ X ≠ Z ∧ w.heap.size ≤ X ∧ w.heap.size ≤ Z) := hid (by have := HXZ.out; omega)
  have HA : Hid (Apart [R] w w2) := hid ((HS1.out.trans HS2.out).mono (by simp))
  replace HR := hid (HR.out.kept0 (HS1.out.trans HS2.out))
  rw [← hw1, ← HXZ.out, heX, ← hw2]
  clear hw1 hw2 HXZ HXX heX HS1 HS2 hRlt
  have HC := hid (number_ok HR.out Hl.out 1 (by omega))
  rw [← Hmk.out] at HC
  go_wp2_with (go_at_call 65; refine HC.out.mono ?_; rintro _ w3 ⟨rfl, ⟨b3, r3⟩, a3⟩; have HR3 := hid r3; have HS3 := hid a3; clear r3 a3)
  replace HBX := hid (keepB HS3.out HBX.out HN.out.1)
  replace HBZ := hid (keepB HS3.out HBZ.out HN.out.2.1)
  replace HA := hid (HA.out.trans HS3.out)
  clear HC HR HS3
  go_loopw [10] (fun v wt => ∃ i : Nat, v = .int .i64 (i : Nat) ∧ i ≤ 8 ∧ Hid (∃ b, Rr wB wt R b (rwI mk wd i (us.drop 1)).2) ∧ Hid (wt.heap[X]? = some (.cells (rv (pad8 (rwI mk wd i (us.drop 1)).1)).toArray 86 (0, 0))) ∧ Hid (wt.heap[Z]? = some (.cells (rv (pad8 [])).toArray 86 (0, 0))) ∧ Hid (Apart [R] w wt)) (fun v _ => 8 - (intOf v).toNat)
  case atStart => exact ⟨0, rfl, Nat.zero_le _, hid ⟨b3, HR3.out⟩, HBX, HBZ, HA⟩
  case round =>
    clear HR3 HBX HBZ HA
    obtain ⟨i, rfl, hi, HR, HBX, HBZ, HA⟩ := hrel
    generalize wr = wt at *
    by_cases hlt : i < 8
    · have hlti : ((i : Nat) : Int) < 8 := by omega
      have hlt0 : (0 : Int) ≤ ((i : Nat) : Int) ∧ ((i : Nat) : Int) < 8 := by omega
      have Hand : Hid (bits .and .i64 ((mk : Int) / 2 ^ i) 1 = ((mk / 2 ^ i % 2 : Nat) : Int)) := hid (by
        have e : ((mk : Int) / 2 ^ i) = ((mk / 2 ^ i : Nat) : Int) := by rw [Int.natCast_ediv, Int.natCast_pow]; rfl
        have hle : mk / 2 ^ i ≤ mk := Nat.div_le_self _ _
        have := i64_and_nat (mk / 2 ^ i) 1 (by omega) (by omega)
        rw [Nat.and_one_is_mod] at this
        rw [e]
        exact this)
      obtain ⟨t, Ht⟩ : ∃ t, Hid (t = mk / 2 ^ i % 2) := ⟨_, hid rfl⟩
      have ht2 : t < 2 := by rw [Ht.out]; omega
      rw [← Ht.out] at Hand
      have hand := Hand.out
      by_cases hb : t = 1
      · have Hst : Hid (rwI mk wd (i + 1) (us.drop 1) = ((rwI mk wd i (us.drop 1)).1 ++ [((leV ((rwI mk wd i (us.drop 1)).2.take wd) : Nat) : Int)], (rwI mk wd i (us.drop 1)).2.drop wd)) := hid (by rw [rwI, if_pos (by rw [← Ht.out]; exact hb)])
        obtain ⟨b, hr⟩ := HR.out
        have HRb := hid hr
        clear hr HR
        have HC := hid (number_ok HRb.out (by have h1 := rwI_left mk wd (us.drop 1) i; have h2 := Hl.out; rw [List.length_drop] at h1; omega) wd Hw.out)
        subst hb
        obtain ⟨l, Hll⟩ : ∃ l, Hid (l = (rwI mk wd i (us.drop 1)).1) := ⟨_, hid rfl⟩
        have Hil : Hid (l.length = i) := hid (by rw [Hll.out]; exact rwI_len _ _ _ _)
        rw [← Hll.out] at HBX
        obtain ⟨y, Hy⟩ : ∃ y, Hid (y = leV ((rwI mk wd i (us.drop 1)).2.take wd)) := ⟨_, hid rfl⟩
        rw [← Hy.out] at HC
        rw [← Hll.out, ← Hy.out] at Hst
        go_wp2_with (go_at_call 65; refine HC.out.mono ?_; rintro _ w4 ⟨rfl, ⟨b4, r4⟩, a4⟩; have HR4 := hid r4; have HS4 := hid a4; clear r4 a4; have HBX4 := hid (keepB HS4.out HBX.out HN.out.1); have HBZ4 := hid (keepB HS4.out HBZ.out HN.out.2.1); have zx := cellR HBX4.out i (by rw [pad8_len (by rw [Hil.out]; omega)]; exact hlt); have fx := frozen_of_row _ _ i _ _ HBX4.out)
        have HAs : Hid (Apart [X] w4 (w4.setCell ⟨X, i, none⟩ (.int .i64 (y : Int)))) := hid ((Apart.refl [X] w4).setCell (p := ⟨X, i, none⟩) (.inl (by simp)) _)
        refine ⟨⟨i + 1, by go_num, by omega, ?_, ?_, ?_, ?_⟩, by simp [intOf]; omega⟩
        · refine hid ⟨b4, ?_⟩
          rw [Hst.out]
          have h4 := HR4.out
          exact ⟨keepB HAs.out h4.blk HN.out.1.symm, h4.new, h4.ap.setCell (p := ⟨X, i, none⟩) (.inr (by have h1 := HN.out.2.2.2.1; have h2 := HRb.out.ap.size; have h3 := HWB.out; exact Nat.le_trans h3 h1)) _, h4.rd, h4.len, h4.cap, h4.ok, h4.u8⟩
        · unfold Hid
          rw [Hst.out, heap_setCell_same w4 X i _ 86 _ HBX4.out, ← pad8_set (by rw [Hil.out]; exact hlt), Hil.out, ← rv_set]
          simp
        · exact hid (keepB HAs.out HBZ4.out HN.out.2.2.1.symm)
        · exact hid ((HA.out.trans HS4.out).setCell (p := ⟨X, i, none⟩) (.inr HN.out.2.2.2.1) _)
      · have Hst : Hid (rwI mk wd (i + 1) (us.drop 1) = ((rwI mk wd i (us.drop 1)).1 ++ [0], (rwI mk wd i (us.drop 1)).2)) := hid (by rw [rwI, if_neg (by rw [← Ht.out]; exact hb)])
        have h0 : t = 0 := by omega
        subst h0
        go_wp2_with fail
        refine ⟨⟨i + 1, by go_num, by omega, ?_, ?_, HBZ, HA⟩, by simp [intOf]; omega⟩
        · rw [Hst.out]; exact HR
        · rw [Hst.out]
          dsimp only
          rw [pad8_zero (by rw [rwI_len]; exact hlt)]
          exact HBX
    · have hlti : ¬ ((i : Nat) : Int) < 8 := by omega
      obtain rfl : i = 8 := by omega
      have Hgl : Hid (g.length = 8) := hid (by rw [Hg.out]; exact rwI_len _ _ _ _)
      have HBX5 : Hid (wt.heap[X]? = some (.cells (rv g).toArray 86 (0, 0))) := hid (by
        have h1 := HBX.out
        rw [pad8_end (rwI_len _ _ _ _)] at h1
        rw [Hg.out, rowR, ← Hmk.out]
        exact h1)
      go_wp2_with (first
        | refine wpList_load_row rfl 86 _ rfl X rfl 86 _ (0, 0) _ HBX5.out Try.underlying86 rfl (by rw [size86]; simp [rv_len, Hgl.out]) ?_
        | refine wpList_store_row rfl 86 _ _ rfl Z (rv g).toArray rfl rfl 86 _ HBZ.out (by rw [size86]; simp [rv_len, Hgl.out]) (by simp [rv_len, Hgl.out, pad8]) (all_oneCell_toArray (rv_one _)) ?_)
      refine bodyPost_ret (results_cell_row rfl _ _ Z 86 (rv g).toArray _ _ rfl (setRow_heap _ _ _ _ _ _ HBZ.out) Try.underlying86 rfl (by rw [size86]; simp [rv_len, Hgl.out])) rfl ?_
      obtain ⟨b, hr⟩ := HR.out
      have asr := apart_setRow wt Z (rv g).toArray
      refine ⟨rfl, ⟨b, ?_⟩, HA.out.trans' asr (by intro y hy; simp at hy; rw [hy]; exact .inr HN.out.2.2.2.2)⟩
      rw [Hvs.out, rowR, ← Hmk.out]
      exact ⟨keepB asr hr.blk HN.out.2.1.symm, hr.new, hr.ap.trans' asr (by intro y hy; simp at hy; rw [hy]; exact .inr (Nat.le_trans HWB.out HN.out.2.2.2.2)), hr.rd, hr.len, hr.cap, hr.ok, hr.u8⟩
end Go.Proofs.Ytdbeeikjngnnnaa.ty
namespace Go.Proofs.Ytdbeeikjngnnnaa.ty
open Go.ChangeShapes Go.WideShapes Go.ChangeAt Go.RowKit
set_option linter.unusedVariables false
set_option linter.unusedSimpArgs false
theorem Rr.apR {wB w : World} {R : Nat} {s : Sl} {us : List Nat} (h : Rr wB w R s us) : Apart [] wB w := h.ap
set_option maxHeartbeats 1000000 in
set_option maxRecDepth 100000 in
theorem fform_ok {w : World} {c g : List Int} (hc : c.length = 8) (hg : g.length = 8) : Calls Try.prog 102 #[.agg (rv (c ++ g)).toArray] w fun r w' => ∃ s', r = .returned (.slice s'.p s'.n s'.c) ∧ Bf w w' s' (3 :: (rowB c 2 ++ rowB g 2)) := by
  have Hc := hid hc
  have Hg := hid hg
  clear hc hg
  have HA := hid (Apart.refl [] w)
  go_enter Try.func102, Try.ntmps102
  go_upto_region 1 with fail
  obtain ⟨X, HXX⟩ : ∃ X, Hid (X = w.heap.size) := ⟨_, rfl⟩
  obtain ⟨w1, hw1⟩ : ∃ W, W = w.alloc (.cells (rv (c ++ g)).toArray 93) := ⟨_, rfl⟩
  have HSw1 : Hid (Apart [] w w1) := by unfold Hid; rw [hw1]; exact (Apart.refl [] w).alloc _
  have HBX : Hid (w1.heap[X]? = some (.cells (rv (c ++ g)).toArray 93 (0, 0))) := by unfold Hid; rw [HXX.out, hw1]; exact heap_alloc_new w _
  have HLX : Hid (w.heap.size ≤ X) := by unfold Hid; rw [HXX.out]; exact Nat.le_refl _
  replace HA := hid (HA.out.trans HSw1.out)
  rw [← hw1, ← HXX.out]
  clear hw1 HXX
  have HB1 : Hid (Bf w (w1.alloc (.cells #[.int .u8 3] 5)) ⟨some ⟨w1.heap.size, 0, none⟩, 1, 1⟩ [3]) := by
    unfold Hid
    refine ⟨⟨⟨rfl, .inr ⟨w1.heap.size, 1, _, rfl, Nat.zero_le _, heap_alloc_new w1 _, Nat.le_refl _, by unfold maxLen; omega, rfl, rfl⟩⟩, fun k hk => by simp [Sl.v, Value.ownBlock] at hk; rw [← hk]; exact HA.out.size, HA.out.alloc _⟩, rfl⟩
  have HC := hid (appRow HB1.out (by simp) Hc.out (width := 2) (by omega))
  have HBX2 : Hid ((w1.alloc (.cells #[.int .u8 3] 5)).heap[X]? = some (.cells (rv (c ++ g)).toArray 93 (0, 0))) := hid (keep0 ((Apart.refl [] w1).alloc _) HBX.out)
  go_upto_region 2 with (first
    | refine wpL_val rfl (.agg (rv c).toArray) (ex_load _ rfl X 0 _ rfl (rg0 HBX2.out) (by rw [rv_len, Hc.out])) ?_
    | (go_at_call 82; refine HC.out.mono ?_; rintro _ w2 ⟨s2, rfl, b2, t2⟩; have HB2 := hid b2; have HT2 := hid t2; clear b2 t2; clear HC))
  have HBX3 := hid (HT2.out.block HBX2.out (by simp))
  have HC2 := hid (appRow HB2.out (by have := rowB_len c; simp only [List.cons_append, List.nil_append, List.length_cons]; omega) Hg.out (width := 2) (by omega))
  clear HB1 HBX HBX2 HT2
  go_wp2_with (first
    | refine wpL_val rfl (.agg (rv g).toArray) (ex_load _ rfl X 8 _ rfl (rg8 Hc.out HBX3.out) (by rw [rv_len, Hg.out])) ?_
    | (go_at_call 82; refine HC2.out.mono ?_; rintro _ w3 ⟨s3, rfl, b3, t3⟩; have HB3 := hid b3; clear b3 t3))
  go_ret
  exact ⟨s3, rfl, by simpa using HB3.out⟩
set_option maxHeartbeats 1000000 in
set_option maxRecDepth 100000 in
theorem gform_ok {w : World} {n a : Nat} {t : ByteArray} (ht : t.size ≤ 1000) : Calls Try.prog 107 #[.agg (ty.rg (n : Int) (a : Int) t)] w fun r w' => ∃ s', r = .returned (.slice s'.p s'.n s'.c) ∧ Bf w w' s' (4 :: (leB n 3 ++ (a % 256) :: bsk t)) := by
  have Ht := hid ht
  clear ht
  unfold ty.rg
  have HA := hid (Apart.refl [] w)
  go_enter Try.func107, Try.ntmps107
  go_upto_region 1 with fail
  obtain ⟨X, HXX⟩ : ∃ X, Hid (X = w.heap.size) := ⟨_, rfl⟩
  obtain ⟨w1, hw1⟩ : ∃ W, W = w.alloc (.cells #[.int .i64 (n : Int), .int .i64 (a : Int), .string t] 95) := ⟨_, rfl⟩
  have HSw1 : Hid (Apart [] w w1) := by unfold Hid; rw [hw1]; exact (Apart.refl [] w).alloc _
  have HBX : Hid (w1.heap[X]? = some (.cells #[.int .i64 (n : Int), .int .i64 (a : Int), .string t] 95 (0, 0))) := by unfold Hid; rw [HXX.out, hw1]; exact heap_alloc_new w _
  have HLX : Hid (w.heap.size ≤ X) := by unfold Hid; rw [HXX.out]; exact Nat.le_refl _
  replace HA := hid (HA.out.trans HSw1.out)
  rw [← hw1, ← HXX.out]
  clear hw1 HXX
  have HB1 : Hid (Bf w (w1.alloc (.cells #[.int .u8 4] 5)) ⟨some ⟨w1.heap.size, 0, none⟩, 1, 1⟩ [4]) := by
    unfold Hid
    refine ⟨⟨⟨rfl, .inr ⟨w1.heap.size, 1, _, rfl, Nat.zero_le _, heap_alloc_new w1 _, Nat.le_refl _, by unfold maxLen; omega, rfl, rfl⟩⟩, fun k hk => by simp [Sl.v, Value.ownBlock] at hk; rw [← hk]; exact HA.out.size, HA.out.alloc _⟩, rfl⟩
  have HC := hid (appN HB1.out (by simp) (n := n) (width := 3) (by omega))
  have HBX2 : Hid ((w1.alloc (.cells #[.int .u8 4] 5)).heap[X]? = some (.cells #[.int .i64 (n : Int), .int .i64 (a : Int), .string t] 95 (0, 0))) := hid (keep0 ((Apart.refl [] w1).alloc _) HBX.out)
  have z0 : (w1.alloc (.cells #[.int .u8 4] 5)).cell? ⟨X, 0, none⟩ = some (.int .i64 (n : Int)) := by rw [cell_of_row _ _ _ _ _ _ HBX2.out]; rfl
  go_upto_region 2 with (go_at_call 85; refine HC.out.mono ?_; rintro _ w2 ⟨s2, rfl, b2, t2⟩; have HB2 := hid b2; have HT2 := hid t2; clear b2 t2; clear HC)
  have HBX3 := hid (HT2.out.block HBX2.out (by simp))
  have z1 : w2.cell? ⟨X, 1, none⟩ = some (.int .i64 (a : Int)) := by rw [cell_of_row _ _ _ _ _ _ HBX3.out]; rfl
  obtain ⟨s3, w3, hrun, b3, t3⟩ := app_byte HB2.out (a % 256) (by simp [leB_len])
  have HR := hid hrun
  have HB3 := hid b3
  have HBX4 := hid (t3.block HBX3.out (by simp))
  clear hrun b3 t3 HB1 HBX HBX2 HT2 z0 HB2
  go_upto_region 3 with (refine wpList_append3 rfl _ _ 22 rfl _ _ rfl rfl (.slice s3.p s3.n s3.c) w3 HR.out ?_)
  have z2 : w3.cell? ⟨X, 2, none⟩ = some (.string t) := by rw [cell_of_row _ _ _ _ _ _ HBX4.out]; rfl
  obtain ⟨s4, w4, hrun, b4, t4⟩ := app_str HB3.out t (by have := Ht.out; simp [leB_len]; omega)
  have HR4 := hid hrun
  have HB4 := hid b4
  clear hrun b4 t4 HR z1 HBX3
  go_wp2_with (at_builtin; refine wpList_app2 rfl _ _ 22 9 rfl _ _ rfl rfl (.slice s4.p s4.n s4.c) w4 HR4.out ?_)
  go_ret
  exact ⟨s4, rfl, by simpa using HB4.out⟩
set_option maxHeartbeats 1000000 in
set_option maxRecDepth 100000 in
theorem fread_ok {wB w : World} {R : Nat} {s : Sl} {us : List Nat} (h : Rr wB w R s us) (hl : us.length ≤ 1000000) : Calls Try.prog 104 #[.agg (rv (zr ++ zr)).toArray, .pointer (some ⟨R, 0, none⟩)] w fun r w' => r = .returned (.iface 93 (.agg (rv ((rowR (us.drop 1) 2).1 ++ (rowR (rowR (us.drop 1) 2).2 2).1)).toArray)) ∧ Apart [R] w w' := by
  have HWB : Hid (wB.heap.size ≤ w.heap.size) := hid h.ap.size
  have HR := hid h
  have Hl := hid hl
  have hRl := lt_of_heap h.blk
  clear h hl
  obtain ⟨r1, Hr1⟩ : ∃ r, Hid (r = rowR (us.drop 1) 2) := ⟨_, hid rfl⟩
  rw [← Hr1.out]
  obtain ⟨r2, Hr2⟩ : ∃ r, Hid (r = rowR r1.2 2) := ⟨_, hid rfl⟩
  rw [← Hr2.out]
  have H1l : Hid (r1.1.length = 8) := hid (by rw [Hr1.out]; exact rwI_len _ _ _ _)
  have H2l : Hid (r2.1.length = 8) := hid (by rw [Hr2.out]; exact rwI_len _ _ _ _)
  have Hln : Hid (r1.2.length ≤ 1000000) := hid (by rw [Hr1.out]; have h1 := rwI_left (leV ((us.drop 1).take 1)) 2 ((us.drop 1).drop 1) 8; have h2 := Hl.out; simp only [List.length_drop] at h1; exact Nat.le_trans h1 (by omega))
  go_enter Try.func104, Try.ntmps104
  go_upto_region 1 with fail
  obtain ⟨X, HXX⟩ : ∃ X, Hid (X = w.heap.size) := ⟨_, rfl⟩
  obtain ⟨w1, hw1⟩ : ∃ W, W = w.alloc (.cells (rv (zr ++ zr)).toArray 93) := ⟨_, rfl⟩
  have HSw1 : Hid (Apart [] w w1) := by unfold Hid; rw [hw1]; exact (Apart.refl [] w).alloc _
  have HBX : Hid (w1.heap[X]? = some (.cells (rv (zr ++ zr)).toArray 93 (0, 0))) := by unfold Hid; rw [HXX.out, hw1]; exact heap_alloc_new w _
  have HLX : Hid (w.heap.size ≤ X) := by unfold Hid; rw [HXX.out]; exact Nat.le_refl _
  have HN : Hid (X ≠ R) := hid (by have := HLX.out; omega)
  rw [← hw1, ← HXX.out]
  clear hw1 HXX hRl
  have HC := hid (next_ok (HR.out.kept0 HSw1.out) Hl.out 1 (by omega))
  go_upto_region 2 with (go_at_call 83; refine HC.out.mono ?_; rintro _ w2 ⟨a2, rfl, p2, b2, q2, s2⟩; have HR2 := hid q2; have HS2 := hid s2; clear p2 q2 s2 HC)
  have HBX2 := hid (keepB HS2.out HBX.out HN.out)
  have HC := hid (row_ok HR2.out (by have := Hl.out; rw [List.length_drop]; omega) 2 (by omega))
  rw [← Hr1.out] at HC
  clear HBX HR
  go_upto_region 3 with (first
    | (go_at_call 84; refine HC.out.mono ?_; rintro _ w3 ⟨rfl, ⟨b3, q3⟩, s3⟩; have HR3 := hid q3; have HS3 := hid s3; have HBX3 := hid (keepB HS3.out HBX2.out HN.out); clear q3 s3 HC)
    | (refine wpList_store_mid rfl 86 _ _ rfl X 0 (rv r1.1).toArray rfl rfl (there_of HBX3.out 0 _ (by simp [rv_len, H1l.out, zr])) (by rw [size86]; simp [rv_len, H1l.out]) (all_oneCell_toArray (rv_one _)) ?_
       simp only [List.toList_toArray]
       have HBX4 := hid (set0_row (u := zr) rfl H1l.out HBX3.out)
       have HS4 := hid (apart_setCells w3 X (rv r1.1) 0)
       generalize w3.setCells X 0 (rv r1.1) = w4 at *
       clear HBX3))
  have HR4 : Hid (Rr wB w4 R b3 r1.2) := hid (by
    have h3 := HR3.out
    have h5 : wB.heap.size ≤ X := Nat.le_trans HWB.out HLX.out
    exact ⟨keepB HS4.out h3.blk HN.out.symm, h3.new, h3.ap.trans' HS4.out (by intro y hy; simp at hy; rw [hy]; exact .inr h5), h3.rd, h3.len, h3.cap, h3.ok, h3.u8⟩)
  have HC := hid (row_ok HR4.out Hln.out 2 (by omega))
  rw [← Hr2.out] at HC
  clear HR3 HBX2
  go_wp2_with (first
    | (go_at_call 84; refine HC.out.mono ?_; rintro _ w5 ⟨rfl, ⟨b5, q5⟩, s5⟩; have HS5 := hid s5; have HBX5 := hid (keepB HS5.out HBX4.out HN.out); clear q5 s5 HC)
    | (refine wpList_store_mid rfl 86 _ _ rfl X 8 (rv r2.1).toArray rfl rfl (there_of HBX5.out 8 _ (by simp [rv_len, H1l.out, H2l.out, zr])) (by rw [size86]; simp [rv_len, H2l.out]) (all_oneCell_toArray (rv_one _)) ?_
       simp only [List.toList_toArray]
       have HBX6 := hid (set8_row H1l.out (d := zr) rfl H2l.out HBX5.out)
       have HS6 := hid (apart_setCells w5 X (rv r2.1) 8)
       generalize w5.setCells X 8 (rv r2.1) = w6 at *
       clear HBX5)
    | refine wpList_load_row rfl 93 _ rfl X rfl 93 _ (0, 0) _ HBX6.out Try.underlying93 rfl (by rw [size93]; simp [rv_len, H1l.out, H2l.out]) ?_)
  go_ret
  refine ⟨rfl, ?_⟩
  have hX : ∀ y ∈ [X], y ∈ [R] ∨ w.heap.size ≤ y := by intro y hy; simp at hy; rw [hy]; exact .inr HLX.out
  exact ((((HSw1.out.mono (by simp)).trans HS2.out).trans HS3.out).trans' HS4.out hX |>.trans HS5.out).trans' HS6.out hX
end Go.Proofs.Ytdbeeikjngnnnaa.ty
