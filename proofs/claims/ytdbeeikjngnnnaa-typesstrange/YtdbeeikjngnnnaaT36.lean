import Derived.Test.YtdbeeikjngnnnaaT32
import Derived.Test.YtdbeeikjngnnnaaT33
import Derived.Test.YtdbeeikjngnnnaaT34
import Derived.Test.YtdbeeikjngnnnaaT35
namespace Go.Proofs.Ytdbeeikjngnnnaa.ty
open Go.ChangeShapes Go.WideShapes Go.ChangeAt Go.RowKit
set_option linter.unusedVariables false
set_option linter.unusedSimpArgs false
theorem strange_in {w : World} (k o : Nat) (k1 : 1 ≤ k) (k4 : k ≤ 4) (o1 : 1 ≤ o) (o4 : o ≤ 4) (a : Int) : Calls Try.prog 4 #[.int .i64 (k : Int), .int .i64 (o : Int), .int .i64 a] w fun r w' => r = .returned (.bool true) ∧ Apart [] w w' := by
  by_cases ha : a < 0
  · by_cases he : o = k
    · subst he
      obtain rfl | rfl | rfl | rfl : o = 1 ∨ o = 2 ∨ o = 3 ∨ o = 4 := by omega
      · exact st1el a ha
      · exact st2el a ha
      · exact st3el a ha
      · exact st4el a ha
    · obtain rfl | rfl | rfl | rfl : k = 1 ∨ k = 2 ∨ k = 3 ∨ k = 4 := by omega
      · exact st1nl a ha o o1 o4 he
      · exact st2nl a ha o o1 o4 he
      · exact st3nl a ha o o1 o4 he
      · exact st4nl a ha o o1 o4 he
  · by_cases hb : 7 < a
    · by_cases he : o = k
      · subst he
        obtain rfl | rfl | rfl | rfl : o = 1 ∨ o = 2 ∨ o = 3 ∨ o = 4 := by omega
        · exact st1eh a hb
        · exact st2eh a hb
        · exact st3eh a hb
        · exact st4eh a hb
      · obtain rfl | rfl | rfl | rfl : k = 1 ∨ k = 2 ∨ k = 3 ∨ k = 4 := by omega
        · exact st1nh a hb o o1 o4 he
        · exact st2nh a hb o o1 o4 he
        · exact st3nh a hb o o1 o4 he
        · exact st4nh a hb o o1 o4 he
    · obtain ⟨i, rfl⟩ := Int.eq_ofNat_of_zero_le (show 0 ≤ a by omega)
      have hi : i < 8 := by omega
      by_cases he : o = k
      · subst he
        obtain rfl | rfl | rfl | rfl : o = 1 ∨ o = 2 ∨ o = 3 ∨ o = 4 := by omega
        · exact st1eg i hi
        · exact st2eg i hi
        · exact st3eg i hi
        · exact st4eg i hi
      · obtain rfl | rfl | rfl | rfl : k = 1 ∨ k = 2 ∨ k = 3 ∨ k = 4 := by omega
        · exact st1ng i hi o o1 o4 he
        · exact st2ng i hi o o1 o4 he
        · exact st3ng i hi o o1 o4 he
        · exact st4ng i hi o o1 o4 he
/-- what New answers, whatever it is asked -/
theorem new_any (w : World) (k : Int) : ∃ p e w1, (Apart [] w w1) ∧ (Calls Try.prog 9 #[.int .i64 k] w fun r w' => r = .returned (.tuple #[.pointer p, .int .i64 e]) ∧ w' = w1) ∧ ((1 ≤ k ∧ k ≤ 4 ∧ e = 0 ∧ ∃ V, p = some ⟨V, 0, none⟩) ∨ (¬ (1 ≤ k ∧ k ≤ 4) ∧ e = 1 ∧ p = none)) := by
  by_cases h : 1 ≤ k ∧ k ≤ 4
  · obtain ⟨n, rfl⟩ := Int.eq_ofNat_of_zero_le (show 0 ≤ k by omega)
    exact ⟨_, _, _, (Apart.refl [] w).alloc _, new_ok w n (by omega) (by omega), .inl ⟨h.1, h.2, rfl, _, rfl⟩⟩
  · exact ⟨_, _, _, Apart.refl [] w, new_none w k h, .inr ⟨h, rfl, rfl⟩⟩
set_option maxHeartbeats 4000000 in
set_option maxRecDepth 100000 in
theorem strange_nilw {w : World} (k o a : Int) (hk : 1 ≤ k ∧ k ≤ 4) (ho : ¬ (1 ≤ o ∧ o ≤ 4)) : Calls Try.prog 4 #[.int .i64 k, .int .i64 o, .int .i64 a] w fun r w' => r = .returned (.bool true) ∧ Apart [] w w' := by
  have k1 : k ≥ 1 := hk.1
  have k4 : k ≤ 4 := hk.2
  obtain ⟨p, e, w1, a1, c1, ⟨-, -, rfl, V, rfl⟩ | ⟨h, -, -⟩⟩ := new_any w k
  · have HC1 := hid c1
    have HA1 := hid a1
    clear a1 c1 hk
    have HC2 := hid (new_none w1 o ho)
    clear ho
    have HAb := hid (able_ok w1)
    go_enter Try.func4, Try.ntmps4
    go_wp2_with (first
      | (go_at_call 9; refine HC1.out.mono ?_; rintro _ _ ⟨rfl, rfl⟩; clear HC1)
      | (go_at_call 9; refine HC2.out.mono ?_; rintro _ _ ⟨rfl, rfl⟩; clear HC2)
      | (go_at_call 7; refine HAb.out.mono ?_; rintro _ w3 ⟨rfl, a3⟩; have HA3 := hid a3; clear a3))
    go_ret
    exact ⟨rfl, HA1.out.trans HA3.out⟩
  · exact absurd hk h
set_option maxHeartbeats 4000000 in
set_option maxRecDepth 100000 in
theorem strange_nilv {w : World} (k o a : Int) (hk : ¬ (1 ≤ k ∧ k ≤ 4)) : Calls Try.prog 4 #[.int .i64 k, .int .i64 o, .int .i64 a] w fun r w' => r = .returned (.bool true) ∧ Apart [] w w' := by
  have HC1 := hid (new_none w k hk)
  obtain ⟨p, e, w1, a1, c1, hcase⟩ := new_any w o
  have HC2 := hid c1
  have HA1 := hid a1
  have HAb := hid (able_ok w1)
  clear a1 c1
  have hsplit : ¬ k ≥ 1 ∨ (k ≥ 1 ∧ ¬ k ≤ 4) := by omega
  clear hk
  obtain ⟨-, -, rfl, V, rfl⟩ | ⟨-, rfl, rfl⟩ := hcase
  · obtain h | ⟨h, h'⟩ := hsplit
    · go_enter Try.func4, Try.ntmps4
      go_wp2_with (first
        | (go_at_call 9; refine HC1.out.mono ?_; rintro _ _ ⟨rfl, rfl⟩; clear HC1)
        | (go_at_call 9; refine HC2.out.mono ?_; rintro _ _ ⟨rfl, rfl⟩; clear HC2)
        | (go_at_call 7; refine HAb.out.mono ?_; rintro _ w3 ⟨rfl, a3⟩; have HA3 := hid a3; clear a3))
      go_ret
      exact ⟨rfl, HA1.out.trans HA3.out⟩
    · have hd4 : decide (k ≤ 4) = false := by simp; omega
      go_enter Try.func4, Try.ntmps4
      go_wp2_with (first
        | (go_at_call 9; refine HC1.out.mono ?_; rintro _ _ ⟨rfl, rfl⟩; clear HC1)
        | (go_at_call 9; refine HC2.out.mono ?_; rintro _ _ ⟨rfl, rfl⟩; clear HC2)
        | (go_at_call 7; refine HAb.out.mono ?_; rintro _ w3 ⟨rfl, a3⟩; have HA3 := hid a3; clear a3))
      go_ret
      exact ⟨rfl, HA1.out.trans HA3.out⟩
  · obtain h | ⟨h, h'⟩ := hsplit
    · go_enter Try.func4, Try.ntmps4
      go_wp2_with (first
        | (go_at_call 9; refine HC1.out.mono ?_; rintro _ _ ⟨rfl, rfl⟩; clear HC1)
        | (go_at_call 9; refine HC2.out.mono ?_; rintro _ _ ⟨rfl, rfl⟩; clear HC2)
        | (go_at_call 7; refine HAb.out.mono ?_; rintro _ w3 ⟨rfl, a3⟩; have HA3 := hid a3; clear a3))
      go_ret
      exact ⟨rfl, HA1.out.trans HA3.out⟩
    · have hd4 : decide (k ≤ 4) = false := by simp; omega
      go_enter Try.func4, Try.ntmps4
      go_wp2_with (first
        | (go_at_call 9; refine HC1.out.mono ?_; rintro _ _ ⟨rfl, rfl⟩; clear HC1)
        | (go_at_call 9; refine HC2.out.mono ?_; rintro _ _ ⟨rfl, rfl⟩; clear HC2)
        | (go_at_call 7; refine HAb.out.mono ?_; rintro _ w3 ⟨rfl, a3⟩; have HA3 := hid a3; clear a3))
      go_ret
      exact ⟨rfl, HA1.out.trans HA3.out⟩
theorem strange_walk {w : World} (k o a : Int) : Calls Try.prog 4 #[.int .i64 k, .int .i64 o, .int .i64 a] w fun r w' => r = .returned (.bool true) ∧ Apart [] w w' := by
  by_cases hk : 1 ≤ k ∧ k ≤ 4
  · by_cases ho : 1 ≤ o ∧ o ≤ 4
    · obtain ⟨n, rfl⟩ := Int.eq_ofNat_of_zero_le (show 0 ≤ k by omega)
      obtain ⟨m, rfl⟩ := Int.eq_ofNat_of_zero_le (show 0 ≤ o by omega)
      exact strange_in n m (by omega) (by omega) (by omega) (by omega) a
    · exact strange_nilw k o a hk ho
  · exact strange_nilv k o a hk
end Go.Proofs.Ytdbeeikjngnnnaa.ty
