import Derived.Test.YtdggkofihppcmaaDoorWinW
import Derived.Test.YtdggkofihppcmaaDoorUniW
namespace Go.Proofs.YtdggkofihppcmaaDoor.ds
open Go.ChangeShapes Go.WideShapes Go.ChangeAt Go.RowKit
set_option linter.unusedVariables false
theorem gath_len (F : Nat → S) : ∀ k, (gath F k).length ≤ k
  | 0 => Nat.le_refl _
  | k + 1 => by
    have := gath_len F k
    simp only [gath, List.length_append]
    split <;> simp <;> omega
theorem OkL.len {gp : Int} {s : List S} (h : OkL gp s) (h0 : 0 ≤ gp) (hg : gp ≤ 64) : s.length ≤ 8 := by
  have := gath_len (fun k => ofn s k) 8
  rwa [gath_ofn h h0 hg] at this
theorem nd_le (p : Nat → Bool) : ∀ M, nd p M ≤ M
  | 0 => Nat.le_refl _
  | M + 1 => by have := nd_le p M; have : (p M).toNat ≤ 1 := Bool.toNat_le _; simp only [nd]; omega
theorem cnt_le {gp : Int} {x : S} (h : Ok gp x) : cnt x ≤ 1048640 := by
  have := h.bM; have := nd_le x.t.testBit 64
  unfold cnt; omega
theorem take_g {xs : List S} {i : Nat} (hi : i < xs.length) : xs.take (i + 1) = xs.take i ++ [g xs i] := by
  rw [List.take_succ_eq_append_getElem hi]
  unfold g
  rw [List.getD_eq_getElem?_getD, List.getElem?_eq_getElem hi]; rfl
set_option maxHeartbeats 2000000 in
set_option maxRecDepth 100000 in
theorem count_ok {p : Option Addr} {N cap : Nat} {xs : List S} {w : World} (h : L w p N xs) : Calls Tryd.prog 19 #[.slice p N cap] w fun r w' => r = .returned (.int .i64 (tot (norm xs))) ∧ Apart [] w w' := by
  have ka := norm_ok xs
  go_enter Tryd.func19, Tryd.ntmps19
  go_wp2_with fail
  refine (asSet_ok h).mono ?_
  rintro r w2 ⟨⟨p', N', ca', rfl, la, a2⟩⟩
  dsimp only
  obtain ⟨A, HA⟩ : ∃ A, Hid (norm xs = A) := ⟨_, rfl⟩
  rw [HA.out] at ka la
  have hN8 : N' ≤ 8 := by have := ka.len (by decide) (by decide); have := la.len; omega
  clear h
  go_wp2_with fail
  go_loopw [3, 9] (fun x v wr => ∃ i : Nat, i ≤ N' ∧ v = .int .i64 i ∧ Apart [] w2 wr ∧ x = .int .i64 (tot (A.take i)) ∧ tot (A.take i) ≤ i * 1048640) (fun _ v _ => N' - (intOf v).toNat)
  case atStart => exact ⟨0, Nat.zero_le _, rfl, Apart.refl _ _, rfl, Nat.zero_le _⟩
  case round =>
    obtain ⟨i, hi, rfl, aR, rfl, hb⟩ := hrel
    by_cases hlt : i < N'
    · have HI : Hid (i < A.length) := by show i < A.length; rw [la.len]; omega
      obtain ⟨P, o, rfl, hP, hc⟩ := (la.kept0 aR).sp (by rw [la.len]; omega)
      obtain ⟨c0, c1, c2⟩ := hc i HI.out
      obtain ⟨⟨xn, xb, xt⟩, HX⟩ : ∃ x, Hid (x = g A i) := ⟨_, rfl⟩
      have kx := ka.ok _ (g_mem HI.out)
      have HT : Hid (tot (A.take (i + 1)) = tot (A.take i) + cnt (g A i)) := by
        show tot (A.take (i + 1)) = tot (A.take i) + cnt (g A i)
        rw [take_g HI.out, tot_append]; simp [tot]
      rw [← HX.out] at c0 c1 c2 kx HT
      simp only at c0 c1 c2
      have sx := kx.small (by decide)
      have hct := cnt_le kx
      have HC : Hid (cnt ⟨xn, xb, xt⟩ = xb.toNat + nd xt.testBit 64) := rfl
      have hx0 := kx.b0
      have hxM := kx.bM
      have hnd := nd_le xt.testBit 64
      simp only at hx0 hxM
      clear hc kx
      obtain ⟨t, Ht⟩ : ∃ t, Hid (t = tot (A.take i)) := ⟨_, rfl⟩
      rw [← Ht.out] at hb HT ⊢
      obtain ⟨c, Hc⟩ : ∃ c, Hid (c = nd xt.testBit 64) := ⟨_, rfl⟩
      have hones := fun w => ones64 xt sx.2.2 w
      rw [← Hc.out] at hnd HC
      simp only [← Hc.out] at hones
      have hw1 : IntKind.i64.wrap (xb + (c : Int)) = xb + (c : Int) := by rw [IntKind.wrap_i64]; omega
      have hw2 : IntKind.i64.wrap ((t : Int) + (xb + (c : Int))) = (t : Int) + (xb + (c : Int)) := by rw [IntKind.wrap_i64]; omega
      go_wp2_with fail
      have aX : Apart [] wr (wr.alloc (.cells #[.int .i64 xn, .int .i64 xb, .int .u64 xt] 52)) := (Apart.refl _ _).alloc _
      go_quiet (first | (go_at_call 44; exact Calls.quiet_of_same (hones _)))
      go_wp2
      go_roundw
      case rel =>
        refine ⟨i + 1, by omega, rfl, (aR.trans aX).drewN _, ?_, ?_⟩
        · rw [HT.out, HC.out]
          congr 1
          push_cast
          omega
        · rw [HT.out]; omega
      case measure => simp [intOf]; omega
    · go_wp2
      go_ret
      refine ⟨?_, a2.trans aR⟩
      rw [HA.out]
      obtain rfl : i = N' := by omega
      have : A.take i = A := List.take_of_length_le (by rw [la.len]; omega)
      rw [this]; rfl
end Go.Proofs.YtdggkofihppcmaaDoor.ds
