import Derived.Test.YthmloakkefiicaaOps
namespace Go.Proofs.Ythmloakkefiicaa.dk
open Go.ChangeShapes Go.WideShapes Go.ChangeAt Go.RowKit Go.Deep
def sumL (f : Nat → OpD) (k : Nat) : Nat := ((List.range k).map fun i => (f i).l).sum
theorem sumL_succ (f : Nat → OpD) (k : Nat) : sumL f (k + 1) = sumL f k + (f k).l := by simp [sumL, List.range_succ]
theorem sumL_le (f : Nat → OpD) (B : Nat) : ∀ k, (∀ i, i < k → (f i).l ≤ B) → sumL f k ≤ k * B := by
  intro k
  induction k with
  | zero => intro _; simp [sumL]
  | succ k ih =>
    intro h
    rw [sumL_succ, Nat.succ_mul]
    have := ih (fun i hi => h i (by omega))
    have := h k (by omega)
    omega
set_option maxHeartbeats 400000 in
theorem fits_short (w : World) (sp : Option Addr) (len cap : Nat) (f : Nat → OpD) (ho : IsOps w sp len f) (hl : len ≤ 300) (hb : ∀ i, i < len → (f i).l ≤ 140737488355328) :
    Calls Try.prog 29 #[.slice sp len cap] w fun r w' => r = .returned (.bool (decide (sumL f len ≤ 4194304))) ∧ w' = w := by
  have hl3 : (len : Int) ≤ 300 := by omega
  go_enter Try.func29, Try.ntmps29
  go_wp2
  go_loop [3, 4] (fun n i => ∃ k : Nat, k ≤ len ∧ i = .int .i64 k ∧ n = .int .i64 (sumL f k)) (fun _ i => len - (intOf i).toNat)
  case atStart => exact ⟨0, Nat.zero_le _, rfl, rfl⟩
  case round =>
    obtain ⟨k, hk, rfl, rfl⟩ := hrel
    have hsk := sumL_le f 140737488355328 k (fun i hi => hb i (by omega))
    by_cases hlt : k < len
    · obtain ⟨P, o, rfl, hP, hat⟩ := ho (by omega)
      have c4 := (hat k hlt).c4
      have hbk := hb k hlt
      have hsu := sumL_succ f k
      have HSU : Hid (sumL f (k + 1) = sumL f k + (f k).l) := hsu
      have b1 : (0 : Int) ≤ (sumL f k : Int) := by omega
      have b2 : (sumL f k : Int) ≤ 42221246506598400 := by omega
      have b3 : ((f k).l : Int) ≤ 140737488355328 := by omega
      clear hsu hat hb ho hsk
      go_wp2
      go_round
      case rel => exact ⟨k + 1, by omega, by go_num, by rw [HSU.out]; go_num⟩
      case measure => simp [intOf]; omega
    · have e : k = len := by omega
      subst e
      by_cases hd : sumL f k ≤ 4194304
      · have hd' : (sumL f k : Int) ≤ 4194304 := by omega
        have HD : Hid (sumL f k ≤ 4194304) := hd
        clear hsk hb ho hd
        go_wp2
        go_ret
        exact ⟨by simp [HD.out], rfl⟩
      · have hd' : ¬ ((sumL f k : Int) ≤ 4194304) := by omega
        have HD : Hid (¬ sumL f k ≤ 4194304) := hd
        clear hsk hb ho hd
        go_wp2
        go_ret
        exact ⟨by simp [HD.out], rfl⟩
set_option maxHeartbeats 400000 in
theorem fits_long (w : World) (sp : Option Addr) (len cap : Nat) (f : Nat → OpD) (ho : IsOps w sp len f) (hl : 300 < len) (hm : len ≤ 140737488355328) :
    Calls Try.prog 29 #[.slice sp len cap] w fun r w' => r = .returned (.bool false) ∧ w' = w := by
  have hl3 : ¬ ((len : Int) ≤ 300) := by omega
  obtain ⟨P, o, rfl, hP, hat⟩ := ho (by omega)
  go_enter Try.func29, Try.ntmps29
  go_wp2
  go_loop [3, 4] (fun n i => ∃ k : Nat, k ≤ len ∧ i = .int .i64 k ∧ ∃ z, n = .int .i64 z) (fun _ i => len - (intOf i).toNat)
  case atStart => exact ⟨0, Nat.zero_le _, rfl, _, rfl⟩
  case round =>
    obtain ⟨k, hk, rfl, z, rfl⟩ := hrel
    by_cases hlt : k < len
    · have c4 := (hat k hlt).c4
      clear hat
      go_wp2
      go_round
      case rel => exact ⟨k + 1, by omega, by go_num, _, rfl⟩
      case measure => simp [intOf]; omega
    · clear hat
      go_wp2
      go_ret
      exact ⟨rfl, rfl⟩
end Go.Proofs.Ythmloakkefiicaa.dk
