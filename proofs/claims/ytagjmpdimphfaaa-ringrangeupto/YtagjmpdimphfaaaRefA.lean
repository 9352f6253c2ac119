import Derived.Test.YtagjmpdimphfaaaSame
namespace Go.Proofs.Ytagjmpdimphfaaa.rg
open Go.ChangeShapes Go.WideShapes Go.ChangeAt Go.RowKit Go.Sort
set_option linter.unusedVariables false
set_option linter.unusedSimpArgs false
theorem i64_xor_nat (a b : Nat) (ha : a < 4294967296) (hb : b < 4294967296) : bits .xor .i64 (a : Int) (b : Int) = ((a ^^^ b : Nat) : Int) := by
  have hx : a ^^^ b < 4294967296 := xor_lt ha hb
  show IntKind.i64.wrap ((BitVec.ofInt 64 (a : Int) ^^^ BitVec.ofInt 64 (b : Int)).toNat : Int) = _
  rw [BitVec.toNat_xor, ofInt_u64 a (by omega), ofInt_u64 b (by omega)]
  simp [IntKind.wrap, IntKind.bits, IntKind.signed]
  omega
theorem times_eq (a : Nat) (ha : a < 4294967296) : ((a % 65536 * 2246822519 % 4294967296) + (a / 65536 * 2246822519 % 65536 * 65536)) % 4294967296 = a * 2246822519 % 4294967296 := by
  omega
theorem times_ok (a : Nat) (ha : a < 4294967296) (z : Nat) (Hz : Hid (z = a * 2246822519 % 4294967296)) (w : World) : Calls Try.prog 51 #[.int .i64 a, .int .i64 2246822519] w fun r w' => r = .returned (.int .i64 z) ∧ w' = w := by
  have e1 : ((a : Int)).tmod 65536 = ((a % 65536 : Nat) : Int) := by rw [show (65536 : Int) = ((65536 : Nat) : Int) from rfl, Int.ofNat_tmod]
  have e2 : ((a : Int)).tdiv 65536 = ((a / 65536 : Nat) : Int) := by rw [show (65536 : Int) = ((65536 : Nat) : Int) from rfl, Int.ofNat_tdiv]
  obtain ⟨x, Hx⟩ : ∃ x, Hid (x = a % 65536) := ⟨_, rfl⟩
  obtain ⟨y, Hy⟩ : ∃ y, Hid (y = a / 65536) := ⟨_, rfl⟩
  have hx : x < 65536 := by rw [Hx.out]; omega
  have hy : y < 65536 := by rw [Hy.out]; omega
  rw [← Hx.out] at e1
  rw [← Hy.out] at e2
  have e3 : ((x : Int) * 2246822519).tmod 4294967296 = ((x * 2246822519 % 4294967296 : Nat) : Int) := by rw [show ((x : Int) * 2246822519) = ((x * 2246822519 : Nat) : Int) by omega, show (4294967296 : Int) = ((4294967296 : Nat) : Int) from rfl, Int.ofNat_tmod]
  have e4 : ((y : Int) * 2246822519).tmod 65536 = ((y * 2246822519 % 65536 : Nat) : Int) := by rw [show ((y : Int) * 2246822519) = ((y * 2246822519 : Nat) : Int) by omega, show (65536 : Int) = ((65536 : Nat) : Int) from rfl, Int.ofNat_tmod]
  obtain ⟨p, Hp⟩ : ∃ p, Hid (p = x * 2246822519 % 4294967296) := ⟨_, rfl⟩
  obtain ⟨q, Hq⟩ : ∃ q, Hid (q = y * 2246822519 % 65536) := ⟨_, rfl⟩
  have hp : p < 4294967296 := by rw [Hp.out]; omega
  have hq : q < 65536 := by rw [Hq.out]; omega
  rw [← Hp.out] at e3
  rw [← Hq.out] at e4
  have e5 : ((p : Int) + (q : Int) * 65536).tmod 4294967296 = (((p + q * 65536) % 4294967296 : Nat) : Int) := by rw [show ((p : Int) + (q : Int) * 65536) = ((p + q * 65536 : Nat) : Int) by omega, show (4294967296 : Int) = ((4294967296 : Nat) : Int) from rfl, Int.ofNat_tmod]
  have ef : (p + q * 65536) % 4294967296 = a * 2246822519 % 4294967296 := by rw [Hp.out, Hq.out, Hx.out, Hy.out]; exact times_eq a ha
  rw [ef] at e5
  rw [← Hz.out] at e5
  clear ef
  go_enter Try.func51, Try.ntmps51
  go_wp2_with fail
  go_ret
  exact ⟨rfl, rfl⟩
set_option maxHeartbeats 1000000 in
set_option maxRecDepth 100000 in
theorem refHash_ok {p : Option Addr} {N cap : Nat} {bs : List Nat} {w : World} (h : By w p N bs) (hN : N ≤ 9223372036854775807) : Calls Try.prog 42 #[.slice p N cap] w fun r w' => r = .returned (.int .i64 (hashN bs : Nat)) ∧ w' = w := by
  go_enter Try.func42, Try.ntmps42
  go_wp2_with fail
  go_loopw [3, 4] (fun x v wr => ∃ i : Nat, i ≤ N ∧ v = .int .i64 i ∧ wr = w ∧ x = .int .i64 (foldH (bs.take i) : Nat)) (fun _ v _ => N - (intOf v).toNat)
  case atStart => exact ⟨0, Nat.zero_le _, rfl, rfl, rfl⟩
  case round =>
    obtain ⟨i, hi, rfl, rfl, rfl⟩ := hrel
    by_cases hlt : i < N
    · have HI : Hid (i < bs.length) := by show i < bs.length; rw [h.len]; exact hlt
      obtain ⟨P, o, rfl, hP, hc⟩ := h.at' (by have := HI.out; omega)
      have c0 := hc i HI.out
      have hx : bs.getD i 0 < 256 := h.lt _ (by rw [List.getD_eq_getElem?_getD, List.getElem?_eq_getElem HI.out]; exact List.getElem_mem HI.out)
      have hy := foldH_lt (bs.take i)
      have HS : Hid (foldH (bs.take (i + 1)) = stepH (foldH (bs.take i)) (bs.getD i 0)) := foldH_succ bs i HI.out
      obtain ⟨x, HX⟩ : ∃ x, Hid (x = bs.getD i 0) := ⟨_, rfl⟩
      rw [← HX.out] at c0 hx HS
      obtain ⟨y, HY⟩ : ∃ y, Hid (y = foldH (bs.take i)) := ⟨_, rfl⟩
      rw [← HY.out] at hy HS ⊢
      clear hc
      have e0 := i64_xor_nat y x hy (by omega)
      have hxl : y ^^^ x < 4294967296 := xor_lt hy (by omega)
      have HST : Hid (stepH y x = (y ^^^ x) * 16777619 % 4294967296) := rfl
      obtain ⟨t, HT⟩ : ∃ t, Hid (t = y ^^^ x) := ⟨_, rfl⟩
      rw [← HT.out] at e0 hxl HST
      have e1 : ((t : Int) * 16777619).tmod 4294967296 = ((t * 16777619 % 4294967296 : Nat) : Int) := by rw [show ((t : Int) * 16777619) = ((t * 16777619 : Nat) : Int) by omega, show (4294967296 : Int) = ((4294967296 : Nat) : Int) from rfl, Int.ofNat_tmod]
      obtain ⟨u, HU⟩ : ∃ u, Hid (u = t * 16777619 % 4294967296) := ⟨_, rfl⟩
      rw [← HU.out] at e1 HST
      go_wp2_with fail
      go_roundw
      case rel => exact ⟨i + 1, by omega, by simp, trivial, by rw [HS.out, HST.out]⟩
      case measure => simp only [intOf]; omega
    · obtain rfl : i = N := by omega
      have hb : bs.take i = bs := by rw [← h.len]; exact List.take_length
      rw [hb]
      have hy := foldH_lt bs
      have HE : Hid (hashN bs = lastH (foldH bs) ^^^ (lastH (foldH bs) >>> 13)) := rfl
      obtain ⟨y, HY⟩ : ∃ y, Hid (y = foldH bs) := ⟨_, rfl⟩
      rw [← HY.out] at hy HE ⊢
      have d1 : ((y : Int)).tdiv 32768 = ((y / 32768 : Nat) : Int) := by rw [show (32768 : Int) = ((32768 : Nat) : Int) from rfl, Int.ofNat_tdiv]
      have x1 := i64_xor_nat y (y / 32768) hy (by omega)
      have hl : y ^^^ (y / 32768) < 4294967296 := xor_lt hy (by omega)
      have HL : Hid (lastH y = (y ^^^ (y / 32768)) * 2246822519 % 4294967296) := by
        show lastH y = _
        unfold lastH
        rw [Nat.shiftRight_eq_div_pow, show (2 ^ 15 : Nat) = 32768 from rfl]
      have hz := lastH_lt y
      obtain ⟨z, HZ⟩ : ∃ z, Hid (z = lastH y) := ⟨_, rfl⟩
      rw [← HZ.out] at hz HE HL
      obtain ⟨a, HA⟩ : ∃ a, Hid (a = y ^^^ (y / 32768)) := ⟨_, rfl⟩
      rw [← HA.out] at x1 hl HL
      obtain ⟨b, HB⟩ : ∃ b, Hid (b = y / 32768) := ⟨_, rfl⟩
      have hb32 : b < 4294967296 := by rw [HB.out]; omega
      rw [← HB.out] at d1 x1
      clear h
      go_wp2_with fail
      refine (times_ok a hl z HL _).mono ?_
      rintro e w1 ⟨rfl, rfl⟩
      dsimp only
      have d2 : ((z : Int)).tdiv 8192 = ((z / 8192 : Nat) : Int) := by rw [show (8192 : Int) = ((8192 : Nat) : Int) from rfl, Int.ofNat_tdiv]
      have x2 := i64_xor_nat z (z / 8192) hz (by omega)
      have HE2 : Hid (hashN bs = z ^^^ (z / 8192)) := by
        show hashN bs = _
        rw [HE.out, Nat.shiftRight_eq_div_pow, show (2 ^ 13 : Nat) = 8192 from rfl]
      obtain ⟨c, HC⟩ : ∃ c, Hid (c = z / 8192) := ⟨_, rfl⟩
      have hc32 : c < 4294967296 := by rw [HC.out]; omega
      rw [← HC.out] at d2 x2 HE2
      go_wp2_with fail
      go_ret
      refine ⟨?_, rfl⟩
      rw [HE2.out]; rfl
theorem point_ok (i k : Nat) (hi : i < 256) (hk : k < 256) (w : World) : Calls Try.prog 52 #[.int .i64 i, .int .i64 k] w fun r w' => r = .returned (.int .i64 (hashN [i, k] : Nat)) ∧ Apart [] w w' := by
  go_enter Try.func52, Try.ntmps52
  go_wp2_with fail
  refine (refHash_ok (byte2 i k (by omega) (by omega) (by simp) (by simp) (by simp)) (by omega)).mono ?_
  rintro e w1 ⟨rfl, rfl⟩
  dsimp only
  go_wp2_with fail
  go_ret
  exact ⟨rfl, (Apart.refl _ _).alloc _⟩
/-- the lesser of two -/
def lessr (b d : Nat) : Nat := if d < b then d else b
def distN (pl i k : Nat) : Nat := (hashN [i, k] + 4294967296 - pl) % 4294967296
theorem distN_lt (pl i k : Nat) : distN pl i k < 4294967296 := by unfold distN; omega
/-- the nearest of the first k points -/
def awayK (pl i k : Nat) : Nat := (List.range k).foldl (fun b k => lessr b (distN pl i k)) 4294967296
theorem foldl_range (f : Nat → Nat → Nat) (z k : Nat) : (List.range (k + 1)).foldl f z = f ((List.range k).foldl f z) k := by
  rw [List.range_succ, List.foldl_append, List.foldl_cons, List.foldl_nil]
theorem awayK_succ (pl i k : Nat) : awayK pl i (k + 1) = lessr (awayK pl i k) (distN pl i k) := foldl_range (fun b k => lessr b (distN pl i k)) 4294967296 k
theorem awayK_le (pl i : Nat) : ∀ k, awayK pl i k ≤ 4294967296
  | 0 => Nat.le_refl _
  | k + 1 => by
    rw [awayK_succ]
    have := awayK_le pl i k
    have := distN_lt pl i k
    unfold lessr
    split <;> omega
theorem awayN_eq (pl i : Nat) : awayN pl i = awayK pl i 4 := rfl
set_option maxHeartbeats 1000000 in
set_option maxRecDepth 100000 in
theorem away_ok (pl i : Nat) (hp : pl < 4294967296) (hi : i < 256) (w : World) : Calls Try.prog 44 #[.int .i64 pl, .int .i64 i] w fun r w' => r = .returned (.int .i64 (awayN pl i : Nat)) ∧ Apart [] w w' := by
  go_enter Try.func44, Try.ntmps44
  go_wp2_with fail
  go_loopw [5, 6] (fun x v wr => ∃ k : Nat, k ≤ 4 ∧ v = .int .i64 k ∧ Apart [] w wr ∧ x = .int .i64 (awayK pl i k : Nat)) (fun _ v _ => 4 - (intOf v).toNat)
  case atStart => exact ⟨0, Nat.zero_le _, rfl, Apart.refl _ _, rfl⟩
  case round =>
    obtain ⟨k, hk, rfl, aR, rfl⟩ := hrel
    by_cases hlt : k < 4
    · go_wp2_with fail
      refine (point_ok i k hi (by omega) _).mono ?_
      rintro e w1 ⟨rfl, a1⟩
      dsimp only
      have HS : Hid (awayK pl i (k + 1) = lessr (awayK pl i k) ((hashN [i, k] + 4294967296 - pl) % 4294967296)) := awayK_succ pl i k
      have hl := awayK_le pl i k
      have hh := hashN_lt [i, k]
      obtain ⟨h, Hh⟩ : ∃ h, Hid (h = hashN [i, k]) := ⟨_, rfl⟩
      rw [← Hh.out] at HS hh ⊢
      obtain ⟨b, Hb⟩ : ∃ b, Hid (b = awayK pl i k) := ⟨_, rfl⟩
      rw [← Hb.out] at HS hl ⊢
      have e1 : ((h : Int) - (pl : Int) + 4294967296).tmod 4294967296 = (((h + 4294967296 - pl) % 4294967296 : Nat) : Int) := by rw [show ((h : Int) - (pl : Int) + 4294967296) = ((h + 4294967296 - pl : Nat) : Int) by omega, show (4294967296 : Int) = ((4294967296 : Nat) : Int) from rfl, Int.ofNat_tmod]
      have hd : (h + 4294967296 - pl) % 4294967296 < 4294967296 := by omega
      obtain ⟨d, Hd⟩ : ∃ d, Hid (d = (h + 4294967296 - pl) % 4294967296) := ⟨_, rfl⟩
      rw [← Hd.out] at e1 HS hd
      by_cases hdb : d < b
      · go_wp2_with fail
        go_roundw
        case rel => exact ⟨k + 1, by omega, by simp, aR.trans a1, by rw [HS.out]; unfold lessr; rw [if_pos hdb]⟩
        case measure => simp only [intOf]; omega
      · go_wp2_with fail
        go_roundw
        case rel => exact ⟨k + 1, by omega, by simp, aR.trans a1, by rw [HS.out]; unfold lessr; rw [if_neg hdb]⟩
        case measure => simp only [intOf]; omega
    · obtain rfl : k = 4 := by omega
      go_wp2_with fail
      go_ret
      exact ⟨by rw [awayN_eq]; rfl, aR⟩
end Go.Proofs.Ytagjmpdimphfaaa.rg
