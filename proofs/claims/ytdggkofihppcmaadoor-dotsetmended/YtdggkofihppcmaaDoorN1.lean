import Derived.Test.YtdggkofihppcmaaDoorR3
namespace Go.Proofs.YtdggkofihppcmaaDoor.ds
open Go.ChangeShapes Go.WideShapes Go.ChangeAt Go.RowKit
set_option linter.unusedVariables false
set_option linter.unusedSimpArgs false
theorem rset_ok {p : Option Addr} {N cap : Nat} {xs : List S} {w : World} (h : L w p N xs) : Calls Tryd.prog 57 #[.slice p N cap] w fun r w' => AsPost w w' r xs := by
  by_cases k : OkL 64 xs
  · go_enter Tryd.func57, Tryd.ntmps57
    go_wp2_with (go_at_call 40; refine (right_yes h (by decide) k).mono ?_; rintro r w1 ⟨rfl, a1⟩)
    go_ret
    exact ⟨p, N, cap, rfl, by rw [norm_of k]; exact h.kept0 a1, a1⟩
  · go_enter Tryd.func57, Tryd.ntmps57
    go_wp2_with (go_at_call 40; refine (right_no h (by decide) k).mono ?_; rintro r w1 ⟨rfl, a1⟩)
    go_ret
    exact ⟨none, 0, 0, rfl, by rw [norm_no k]; exact L.nil _ _, a1⟩
set_option maxHeartbeats 8000000 in
set_option maxRecDepth 100000 in
theorem rcount_ok {p : Option Addr} {N cap : Nat} {xs : List S} {w : World} (h : L w p N xs) : Calls Tryd.prog 36 #[.slice p N cap] w fun r w' => r = .returned (.int .i64 (tot (norm xs))) ∧ Apart [] w w' := by
  have ka := norm_ok xs
  go_enter Tryd.func36, Tryd.ntmps36
  go_wp2_with fail
  refine (rset_ok h).mono ?_
  rintro r w2 ⟨⟨p', N', ca', rfl, la, a2⟩⟩
  dsimp only
  obtain ⟨A, HA⟩ : ∃ A, Hid (norm xs = A) := ⟨_, rfl⟩
  rw [HA.out] at ka la
  have hN8 : N' ≤ 8 := by have := ka.len (by decide) (by decide); have := la.len; omega
  clear h
  go_wp2_with fail
  go_loopw [3, 4] (fun x v wr => ∃ i : Nat, i ≤ N' ∧ v = .int .i64 i ∧ Apart [] w2 wr ∧ x = .int .i64 (tot (A.take i)) ∧ tot (A.take i) ≤ i * 1048640) (fun _ v _ => N' - (intOf v).toNat)
  case atStart => exact ⟨0, Nat.zero_le _, rfl, Apart.refl _ _, rfl, Nat.zero_le _⟩
  case round =>
    obtain ⟨i, hi, rfl, aR, rfl, hb⟩ := hrel
    by_cases hlt : i < N'
    · have HI : Hid (i < A.length) := by show i < A.length; rw [la.len]; omega
      obtain ⟨P, o, rfl, hP, hc⟩ := (la.kept0 aR).sp (by rw [la.len]; omega)
      obtain ⟨c0, c1, c2⟩ := hc i HI.out
      obtain ⟨⟨xn, xb, xt⟩, HX⟩ : ∃ x, Hid (x = g A i) := ⟨_, rfl⟩
      have kx := ka.ok _ (g_mem HI.out)
      have HT : Hid (tot (A.take (i + 1)) = tot (A.take i) + cnt (g A i)) := by
        show tot (A.take (i + 1)) = tot (A.take i) + cnt (g A i)
        rw [take_g HI.out, tot_append]; simp [tot]
      rw [← HX.out] at c0 c1 c2 kx HT
      simp only at c0 c1 c2
      have sx := (kx.small (by decide)).2.2
      have hct := cnt_le kx
      have HC : Hid (cnt ⟨xn, xb, xt⟩ = xb.toNat + nd xt.testBit 64) := rfl
      have hx0 := kx.b0
      have hxM := kx.bM
      simp only at hx0 hxM sx
      clear hc kx
      obtain ⟨t, Ht⟩ : ∃ t, Hid (t = tot (A.take i)) := ⟨_, rfl⟩
      rw [← Ht.out] at hb HT ⊢
      have hw1 : IntKind.i64.wrap ((t : Int) + xb) = (t : Int) + xb := by rw [IntKind.wrap_i64]; omega
      go_wp2_with fail
      go_loopw [3, 5] (fun x v wz => ∃ j : Nat, j ≤ 64 ∧ v = .int .i64 j ∧ Apart [] wr wz ∧ x = .int .i64 ((t : Int) + xb + (nd xt.testBit j : Nat))) (fun _ v _ => 64 - (intOf v).toNat)
      case atStart => exact ⟨0, by omega, rfl, Apart.refl _ _, by simp [nd]⟩
      case round =>
        obtain ⟨j, hj, rfl, aZ, rfl⟩ := hrel
        have hnd := nd_le xt.testBit j
        by_cases hj64 : j < 64
        · have hj64i : (j : Int) < 64 := by omega
          have e0 := (aZ.cell (p := ⟨P, o + i * 3, none⟩) hP (by simp)).trans c0
          have e1 := (aZ.cell (p := ⟨P, o + i * 3 + 1, none⟩) hP (by simp)).trans c1
          have e2 := (aZ.cell (p := ⟨P, o + i * 3 + 2, none⟩) hP (by simp)).trans c2
          have hbc := fun w => bit_ok xn xb xt j w sx hj64
          have HN : Hid (nd xt.testBit (j + 1) = nd xt.testBit j + (xt.testBit j).toNat) := rfl
          obtain ⟨m, Hm⟩ : ∃ m, Hid (m = nd xt.testBit j) := ⟨_, rfl⟩
          rw [← Hm.out] at hnd HN ⊢
          obtain ⟨v, HV⟩ : ∃ v, Hid (v = xt.testBit j) := ⟨_, rfl⟩
          simp only [← HV.out] at hbc
          rw [← HV.out] at HN
          have hw2 : IntKind.i64.wrap ((t : Int) + xb + (m : Int) + 1) = (t : Int) + xb + (m : Int) + 1 := by rw [IntKind.wrap_i64]; omega
          cases v
          · go_wp2_with (go_at_call 58; refine (hbc _).mono ?_; rintro r w5 ⟨rfl, a5⟩)
            go_roundw
            case rel => exact ⟨j + 1, by omega, rfl, aZ.trans a5, by rw [HN.out]; rfl⟩
            case measure => simp [intOf]; omega
          · go_wp2_with (go_at_call 58; refine (hbc _).mono ?_; rintro r w5 ⟨rfl, a5⟩)
            go_roundw
            case rel => exact ⟨j + 1, by omega, rfl, aZ.trans a5, by rw [HN.out]; simp; omega⟩
            case measure => simp [intOf]; omega
        · obtain rfl : j = 64 := by omega
          go_wp2
          go_roundw
          case rel =>
            refine ⟨i + 1, by omega, rfl, aR.trans aZ, ?_, ?_⟩
            · rw [HT.out, HC.out]
              congr 1
              push_cast
              omega
            · rw [HT.out]; omega
          case measure => simp [intOf]; omega
    · go_wp2
      go_ret
      refine ⟨?_, a2.trans aR⟩
      rw [HA.out]
      obtain rfl : i = N' := by omega
      have : A.take i = A := List.take_of_length_le (by rw [la.len]; omega)
      rw [this]; rfl
/-- the bases, one behind the other -/
def basl (xs : List S) : List S := xs.flatMap fun x => if 0 < x.b then [⟨x.n, x.b, 0⟩] else []
theorem basl_gath {F : Nat → S} (hn : ∀ k : Nat, (F k).n = k) (hb : ∀ k : Nat, 0 ≤ (F k).b) : ∀ k, basl (gath F k) = gath (fun j => ⟨j, (F j).b, 0⟩) k
  | 0 => rfl
  | k + 1 => by
    have ih := basl_gath hn hb k
    simp only [gath]
    have happ : ∀ a b, basl (a ++ b) = basl a ++ basl b := fun a b => by simp [basl]
    rw [happ, ih]
    congr 1
    by_cases h0 : F k = none0 k
    · rw [if_pos h0, h0]
      simp [basl, none0]
    · rw [if_neg h0]
      by_cases h1 : 0 < (F k).b
      · have : ¬ ((⟨k, (F k).b, 0⟩ : S) = none0 k) := fun e => by
          simp only [none0, S.mk.injEq] at e; omega
        rw [if_neg this]
        simp [basl, h1, hn k]
      · have hz : (F k).b = 0 := by have := hb k; omega
        have : ((⟨k, (F k).b, 0⟩ : S) = none0 k) := by rw [hz]; rfl
        rw [if_pos this]
        simp [basl, hz]
theorem basl_eq {xs : List S} (k : OkL 64 xs) : basl xs = bas xs := by
  have h1 := basl_gath (F := fun j => ofn xs j) (fun j => ofn_n xs j) (fun j => (k.wf (by decide) (by decide) j).b0) 8
  rw [gath_ofn k (by decide) (by decide)] at h1
  exact h1
theorem basl_take {xs : List S} {i : Nat} (hi : i < xs.length) : basl (xs.take (i + 1)) = basl (xs.take i) ++ (if 0 < (g xs i).b then [⟨(g xs i).n, (g xs i).b, 0⟩] else []) := by
  rw [take_g hi]; simp [basl]
theorem step_append_run {w : World} {ops : Array Oper} {o : Oper} {a : Act} {K : Act → World → Prop} {Q : Exit → Act → World → Prop} {X : Prop} (hgd : o.guard = none) (s x : Operand) (t : TypeId)
    (ho : o.op = .call { callee := .builtin .append, args := #[s, x], argTypes := #[t, t] }) (v u : Value) (hs : a.eval s = v) (hx : a.eval x = u) (v' : Value) (w' : World)
    (hrun : (Builtin.append_ #[t, t] o.type #[v, u]).run Tryd.prog w = .ok v' w') (hK : K (a.put o.dst v') w') : if Region.wanted o (yielded ops a.tmps) = true then Oper.wp Tryd.prog o a w K Q else X := by
  have hw : Region.wanted o (yielded ops a.tmps) = true := by simp [Region.wanted, hgd]
  rw [if_pos hw]
  unfold Oper.wp
  simp [execOp, ho, resolve, invoke, builtin, hs, hx, hrun, Result.andThen]
  exact hK
end Go.Proofs.YtdggkofihppcmaaDoor.ds
