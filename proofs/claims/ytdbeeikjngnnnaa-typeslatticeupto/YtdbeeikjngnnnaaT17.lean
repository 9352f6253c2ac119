import Derived.Test.YtdbeeikjngnnnaaT16
import Derived.WalkLawsBesides
namespace Go.Proofs.Ytdbeeikjngnnnaa.ty
open Go.ChangeShapes Go.WideShapes Go.ChangeAt Go.RowKit
set_option linter.unusedVariables false
set_option linter.unusedSimpArgs false
set_option maxRecDepth 100000 in
theorem nanI (w : World) (a : Int) : Calls Try.prog 47 #[.int .i64 a] w fun r w' => r = .returned (.bool false) ∧ w' = w := by
  go_enter Try.func47, Try.ntmps47
  go_wp2_with fail
  go_ret
  exact ⟨by first | rfl | simp, rfl⟩
set_option maxRecDepth 100000 in
theorem nanS (w : World) (a : ByteArray) : Calls Try.prog 48 #[.string a] w fun r w' => r = .returned (.bool false) ∧ w' = w := by
  go_enter Try.func48, Try.ntmps48
  go_wp2_with fail
  go_ret
  exact ⟨by first | rfl | simp, rfl⟩
def cmI (a b : Int) : Int := if a < b then -1 else if a > b then 1 else 0
set_option maxRecDepth 100000 in
theorem cmpI (w : World) (a b : Int) : Calls Try.prog 44 #[.int .i64 a, .int .i64 b] w fun r w' => r = .returned (.int .i64 (cmI a b)) ∧ w' = w := by
  have HN := hid nanI
  by_cases h1 : a < b
  · have e : cmI a b = -1 := by simp [cmI, h1]
    rw [e]
    go_enter Try.func44, Try.ntmps44
    go_wp2_with (go_at_call 47; refine (HN.out _ _).mono ?_; rintro _ _ ⟨rfl, rfl⟩)
    go_ret
    exact ⟨rfl, rfl⟩
  · by_cases h2 : a > b
    · have e : cmI a b = 1 := by simp [cmI, h1, h2]
      rw [e]
      go_enter Try.func44, Try.ntmps44
      go_wp2_with (go_at_call 47; refine (HN.out _ _).mono ?_; rintro _ _ ⟨rfl, rfl⟩)
      go_ret
      exact ⟨rfl, rfl⟩
    · have e : cmI a b = 0 := by simp [cmI, h1]; omega
      rw [e]
      go_enter Try.func44, Try.ntmps44
      go_wp2_with (go_at_call 47; refine (HN.out _ _).mono ?_; rintro _ _ ⟨rfl, rfl⟩)
      go_ret
      exact ⟨rfl, rfl⟩
def cmS (a b : ByteArray) : Int := if Op.bytesLess a.toList b.toList then -1 else if a.toList == b.toList then 0 else 1
set_option maxRecDepth 100000 in
theorem cmpS (w : World) (a b : ByteArray) : Calls Try.prog 45 #[.string a, .string b] w fun r w' => r = .returned (.int .i64 (cmS a b)) ∧ w' = w := by
  have HN := hid nanS
  cases h1 : Op.bytesLess a.toList b.toList
  · cases h2 : (a.toList == b.toList)
    · have e : cmS a b = 1 := by simp only [cmS, h1, h2]; rfl
      rw [e]
      go_enter Try.func45, Try.ntmps45
      go_wp2_with (go_at_call 48; refine (HN.out _ _).mono ?_; rintro _ _ ⟨rfl, rfl⟩)
      go_ret
      exact ⟨rfl, rfl⟩
    · have e : cmS a b = 0 := by simp only [cmS, h1, h2]; rfl
      rw [e]
      go_enter Try.func45, Try.ntmps45
      go_wp2_with (go_at_call 48; refine (HN.out _ _).mono ?_; rintro _ _ ⟨rfl, rfl⟩)
      go_ret
      exact ⟨rfl, rfl⟩
  · have e : cmS a b = -1 := by simp only [cmS, h1]; rfl
    rw [e]
    go_enter Try.func45, Try.ntmps45
    go_wp2_with (go_at_call 48; refine (HN.out _ _).mono ?_; rintro _ _ ⟨rfl, rfl⟩)
    go_ret
    exact ⟨rfl, rfl⟩
/-- the first that is not 0 -/
def orL : List Int → Int
  | [] => 0
  | x :: r => if x ≠ 0 then x else orL r
theorem orL_drop {xs : List Int} {i : Nat} (hi : i < xs.length) : orL (xs.drop i) = if xs.getD i 0 ≠ 0 then xs.getD i 0 else orL (xs.drop (i + 1)) := by
  rw [List.drop_eq_getElem_cons hi, orL]
  simp [hi]
set_option maxRecDepth 100000 in
theorem or_ok {w : World} {P o n c : Nat} {xs : List Int} (hl : xs.length = n) (hn : n ≤ 1000) (hr : ∀ j u, (rv xs)[j]? = some u → w.cell? ⟨P, o + j, none⟩ = some u) : Calls Try.prog 43 #[.slice (some ⟨P, o, none⟩) n c] w fun r w' => r = .returned (.int .i64 (orL xs)) ∧ w' = w := by
  have HR := hid hr
  have Hl := hid hl
  clear hr hl
  obtain ⟨rr, Hrr⟩ : ∃ z : Int, Hid (z = orL xs) := ⟨_, hid rfl⟩
  rw [← Hrr.out]
  go_enter Try.func43, Try.ntmps43
  go_wp2_with fail
  go_loopw [8] (fun v wt => ∃ i : Nat, v = .int .i64 (i : Nat) ∧ i ≤ n ∧ wt = w ∧ Hid (rr = orL (xs.drop i))) (fun v _ => n - (intOf v).toNat)
  case atStart => exact ⟨0, rfl, Nat.zero_le _, rfl, Hrr⟩
  case round =>
    obtain ⟨i, rfl, hi, rfl, HI⟩ := hrel
    by_cases hlt : i < n
    · have hlti : ((i : Nat) : Int) < ((n : Nat) : Int) := by omega
      have z := HR.out i _ (rv_at xs i (by rw [Hl.out]; exact hlt))
      have hd := orL_drop (xs := xs) (i := i) (by rw [Hl.out]; exact hlt)
      obtain ⟨x, Hx⟩ : ∃ z : Int, Hid (z = xs.getD i 0) := ⟨_, hid rfl⟩
      rw [← Hx.out] at z hd
      have HD := hid hd
      clear hd
      by_cases he : x = 0
      · subst he
        have HI2 : Hid (rr = orL (xs.drop (i + 1))) := by unfold Hid; rw [HI.out, HD.out]; simp
        go_wp2_with fail
        go_roundw
        case rel => exact ⟨i + 1, by go_num, by omega, by first | rfl | trivial, HI2⟩
        case measure => simp [intOf]; omega
      · have hb : (x != 0) = true := by simp [he]
        have HI2 : Hid (rr = x) := by unfold Hid; rw [HI.out, HD.out, if_pos he]
        clear he
        go_wp2_with fail
        go_ret
        exact ⟨by first | rfl | (rw [HI2.out]; rfl), rfl⟩
    · have hlti : ¬ ((i : Nat) : Int) < ((n : Nat) : Int) := by omega
      have HI2 : Hid (rr = 0) := by unfold Hid; rw [HI.out, List.drop_eq_nil_of_le (by rw [Hl.out]; omega)]; rfl
      go_wp2_with fail
      go_ret
      exact ⟨by first | rfl | (rw [HI2.out]; rfl), rfl⟩
end Go.Proofs.Ytdbeeikjngnnnaa.ty
