import Derived.Test.YtagjmpdimphfaaaMem
import Derived.Laws.BitsAllLaws
namespace Go.Proofs.Ytagjmpdimphfaaa.rg
open Go.ChangeShapes Go.WideShapes Go.ChangeAt Go.RowKit
set_option linter.unusedVariables false
theorem xor_lt {a b : Nat} (ha : a < 4294967296) (hb : b < 4294967296) : a ^^^ b < 4294967296 := by
  have h : (4294967296 : Nat) = 2 ^ 32 := by decide
  rw [h] at *
  exact Nat.xor_lt_two_pow ha hb
theorem stepH_lt (h x : Nat) : stepH h x < 4294967296 := by unfold stepH; omega
theorem foldl_lt : ∀ (bs : List Nat) (h : Nat), h < 4294967296 → bs.foldl stepH h < 4294967296
  | [], h, hh => hh
  | x :: r, h, _ => foldl_lt r _ (stepH_lt h x)
theorem foldH_lt (bs : List Nat) : foldH bs < 4294967296 := by unfold foldH; exact foldl_lt bs _ (by omega)
theorem foldl_take (f : Nat → Nat → Nat) (h : Nat) (bs : List Nat) (i : Nat) (hi : i < bs.length) : (bs.take (i + 1)).foldl f h = f ((bs.take i).foldl f h) (bs.getD i 0) := by
  rw [List.take_succ_eq_append_getElem hi, List.foldl_append, List.foldl_cons, List.foldl_nil, List.getD_eq_getElem?_getD, List.getElem?_eq_getElem hi, Option.getD_some]
theorem foldH_succ (bs : List Nat) (i : Nat) (hi : i < bs.length) : foldH (bs.take (i + 1)) = stepH (foldH (bs.take i)) (bs.getD i 0) := foldl_take stepH 2166136261 bs i hi
theorem lastH_lt (h : Nat) : lastH h < 4294967296 := by unfold lastH; omega
theorem hashN_lt (bs : List Nat) : hashN bs < 4294967296 := by
  unfold hashN endH
  have h := lastH_lt (foldH bs)
  refine xor_lt h ?_
  rw [Nat.shiftRight_eq_div_pow]; omega
theorem step_int (y x : Nat) (hy : y < 4294967296) (hx : x < 256) : bits .xor .u32 (y : Int) (x : Int) * 16777619 % 4294967296 = (stepH y x : Nat) := by
  rw [u32_xor_nat y x hy (by omega)]
  unfold stepH
  omega
theorem last_int (y : Nat) (hy : y < 4294967296) : bits .xor .u32 (y : Int) ((y : Int) / 32768) * 2246822519 % 4294967296 = (lastH y : Nat) := by
  rw [show ((y : Int) / 32768) = ((y / 32768 : Nat) : Int) by omega, u32_xor_nat y _ hy (by omega)]
  unfold lastH
  rw [Nat.shiftRight_eq_div_pow, show (2 ^ 15 : Nat) = 32768 from rfl]
  omega
theorem end_int (y : Nat) (hy : y < 4294967296) : bits .xor .u32 (y : Int) ((y : Int) / 8192) = (y ^^^ (y >>> 13) : Nat) := by
  rw [show ((y : Int) / 8192) = ((y / 8192 : Nat) : Int) by omega, u32_xor_nat y _ hy (by omega), Nat.shiftRight_eq_div_pow]
set_option maxHeartbeats 1000000 in
set_option maxRecDepth 100000 in
theorem hash_ok {p : Option Addr} {N cap : Nat} {bs : List Nat} {w : World} (h : By w p N bs) (hN : N ≤ 9223372036854775807) : Calls Try.prog 27 #[.slice p N cap] w fun r w' => r = .returned (.int .u32 (hashN bs : Nat)) ∧ w' = w := by
  go_enter Try.func27, Try.ntmps27
  go_wp2_with fail
  go_loopw [3, 8] (fun x v wr => ∃ i : Nat, i ≤ N ∧ v = .int .i64 i ∧ wr = w ∧ x = .int .u32 (foldH (bs.take i) : Nat)) (fun _ v _ => N - (intOf v).toNat)
  case atStart => exact ⟨0, Nat.zero_le _, rfl, rfl, rfl⟩
  case round =>
    obtain ⟨i, hi, rfl, rfl, rfl⟩ := hrel
    by_cases hlt : i < N
    · have HI : Hid (i < bs.length) := by show i < bs.length; rw [h.len]; exact hlt
      obtain ⟨P, o, rfl, hP, hc⟩ := h.at' (by have := HI.out; omega)
      have c0 := hc i HI.out
      have hx : bs.getD i 0 < 256 := h.lt _ (by rw [List.getD_eq_getElem?_getD, List.getElem?_eq_getElem HI.out]; exact List.getElem_mem HI.out)
      have hy := foldH_lt (bs.take i)
      have HS : Hid (foldH (bs.take (i + 1)) = stepH (foldH (bs.take i)) (bs.getD i 0)) := foldH_succ bs i HI.out
      obtain ⟨x, HX⟩ : ∃ x, Hid (x = bs.getD i 0) := ⟨_, rfl⟩
      rw [← HX.out] at c0 hx HS
      obtain ⟨y, HY⟩ : ∃ y, Hid (y = foldH (bs.take i)) := ⟨_, rfl⟩
      rw [← HY.out] at hy HS ⊢
      clear hc
      go_wp2_with fail
      go_roundw
      case rel => exact ⟨i + 1, by omega, by simp, trivial, by rw [HS.out, step_int y x hy hx]⟩
      case measure => simp only [intOf]; omega
    · obtain rfl : i = N := by omega
      have hb : bs.take i = bs := by rw [← h.len]; exact List.take_length
      rw [hb]
      have hy := foldH_lt bs
      have HE : Hid (hashN bs = lastH (foldH bs) ^^^ (lastH (foldH bs) >>> 13)) := rfl
      obtain ⟨y, HY⟩ : ∃ y, Hid (y = foldH bs) := ⟨_, rfl⟩
      rw [← HY.out] at hy HE ⊢
      have e1 := last_int y hy
      have hl := lastH_lt y
      have e2 := end_int (lastH y) hl
      clear h
      go_wp2_with fail
      go_ret
      refine ⟨?_, rfl⟩
      rw [HE.out]; rfl
end Go.Proofs.Ytagjmpdimphfaaa.rg
