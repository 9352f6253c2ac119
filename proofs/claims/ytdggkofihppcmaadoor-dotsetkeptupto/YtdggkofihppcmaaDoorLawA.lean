import Derived.Test.YtdggkofihppcmaaDoorCntW
namespace Go.Proofs.YtdggkofihppcmaaDoor.ds
open Go.ChangeShapes Go.WideShapes Go.ChangeAt Go.RowKit
set_option linter.unusedVariables false
theorem list_eq_g {xs ys : List S} (hl : xs.length = ys.length) (h : ∀ i, i < xs.length → g xs i = g ys i) : xs = ys := by
  apply List.ext_getElem hl
  intro i h1 h2
  have := h i h1
  unfold g at this
  rwa [List.getD_eq_getElem?_getD, List.getElem?_eq_getElem h1, List.getD_eq_getElem?_getD, List.getElem?_eq_getElem h2] at this
set_option maxHeartbeats 2000000 in
set_option maxRecDepth 100000 in
theorem same_ok {p q : Option Addr} {N cap M cb : Nat} {xs ys : List S} {w : World} (h : L w p N xs) (h2 : L w q M ys) : Calls Tryd.prog 18 #[.slice p N cap, .slice q M cb] w fun r w' => Tells r (xs = ys) ∧ Apart [] w w' := by
  have hlim := h.lim
  have hlim2 := h2.lim
  by_cases hNM : N = M
  · subst hNM
    go_enter Tryd.func18, Tryd.ntmps18
    go_wp2_with fail
    go_loopw [5] (fun v wr => ∃ i : Nat, i ≤ N ∧ v = .int .i64 i ∧ Apart [] w wr ∧ (∀ j, j < i → g xs j = g ys j)) (fun v _ => N - (intOf v).toNat)
    case atStart => exact ⟨0, Nat.zero_le _, rfl, Apart.refl _ _, fun j hj => absurd hj (by omega)⟩
    case round =>
      obtain ⟨i, hi, rfl, aR, hno⟩ := hrel
      by_cases hlt : i < N
      · obtain ⟨P, o, rfl, hP, hc⟩ := (h.kept0 aR).sp (by rw [h.len]; omega)
        obtain ⟨P2, o2, rfl, hP2, hd⟩ := (h2.kept0 aR).sp (by rw [h2.len]; omega)
        obtain ⟨c0, c1, c2⟩ := hc i (by rw [h.len]; omega)
        obtain ⟨d0, d1, d2⟩ := hd i (by rw [h2.len]; omega)
        obtain ⟨⟨xn, xb, xt⟩, HX⟩ : ∃ x, Hid (x = g xs i) := ⟨_, rfl⟩
        obtain ⟨⟨yn, yb, yt⟩, HY⟩ : ∃ x, Hid (x = g ys i) := ⟨_, rfl⟩
        rw [← HX.out] at c0 c1 c2
        rw [← HY.out] at d0 d1 d2
        simp only at c0 c1 c2 d0 d1 d2
        clear hc hd
        go_wp2_with fail
        by_cases e1 : xn = yn
        · subst e1
          by_cases e2 : xb = yb
          · subst e2
            by_cases e3 : xt = yt
            · subst e3
              go_quiet (fail)
              go_wp2
              go_roundw
              case rel => exact ⟨i + 1, by omega, rfl, aR.drewN _, fun j hj => by
                by_cases hji : j = i
                · subst hji; rw [← HX.out, ← HY.out]
                · exact hno j (by omega)⟩
              case measure => simp [intOf]; omega
            · have HE : Hid (xt ≠ yt) := e3
              have hb : ((xt : Int) != (yt : Int)) = true := by simp; omega
              go_quiet (fail)
              go_wp2
              go_ret
              refine ⟨.no fun e => HE.out ?_, aR.drewN _⟩
              subst e
              have := HX.out.trans HY.out.symm
              simp at this; exact this
          · have HE : Hid (xb ≠ yb) := e2
            have hb : (xb != yb) = true := by simp; exact e2
            go_quiet (fail)
            go_wp2
            go_ret
            refine ⟨.no fun e => HE.out ?_, aR.drewN _⟩
            subst e
            have := HX.out.trans HY.out.symm
            simp at this; exact this.1
        · have HE : Hid (xn ≠ yn) := e1
          have hb : (xn != yn) = true := by simp; exact e1
          go_quiet (fail)
          go_wp2
          go_ret
          refine ⟨.no fun e => HE.out ?_, aR.drewN _⟩
          subst e
          have := HX.out.trans HY.out.symm
          simp at this; exact this.1
      · go_wp2
        go_ret
        refine ⟨.yes (list_eq_g (by rw [h.len, h2.len]) fun j hj => hno j (by have := h.len; omega)), aR⟩
  · have hb : ((N : Int) != (M : Int)) = true := by simp; omega
    have HE : Hid (N ≠ M) := hNM
    go_enter Tryd.func18, Tryd.ntmps18
    go_wp2
    go_ret
    exact ⟨.no fun e => HE.out (by rw [← h.len, ← h2.len, e]), Apart.refl _ _⟩
structure CPost (w w' : World) (r : Ending) (N : Nat) (xs : List S) : Prop where
  ex : ∃ p cap, r = .returned (.slice p N cap) ∧ Own w w' p N cap xs
set_option maxHeartbeats 2000000 in
set_option maxRecDepth 100000 in
theorem copied_ok {p : Option Addr} {N cap : Nat} {xs : List S} {w : World} (h : L w p N xs) (hN : N ≤ 4398046511104) : Calls Tryd.prog 23 #[.slice p N cap] w fun r w' => CPost w w' r N xs := by
  go_enter Tryd.func23, Tryd.ntmps23
  go_wp2_with fail
  go_loopw [3, 4] (fun s v wr => ∃ i : Nat, i ≤ N ∧ v = .int .i64 i ∧ ∃ p' cap', s = .slice p' i cap' ∧ Own w wr p' i cap' (xs.take i)) (fun _ v _ => N - (intOf v).toNat)
  case atStart => exact ⟨0, Nat.zero_le _, rfl, none, 0, rfl, rfl, World.ownsRow_nil _ _ _ _, fun b hb => by simp [Value.ownBlock] at hb, Apart.refl _ _⟩
  case round =>
    obtain ⟨i, hi, rfl, p', cap', rfl, own⟩ := hrel
    by_cases hlt : i < N
    · have HI : Hid (i < xs.length) := by show i < xs.length; rw [h.len]; omega
      obtain ⟨P, o, rfl, hP, hc⟩ := (h.kept0 own.ap).sp (by rw [h.len]; omega)
      obtain ⟨c0, c1, c2⟩ := hc i HI.out
      obtain ⟨⟨xn, xb, xt⟩, HX⟩ : ∃ x, Hid (x = g xs i) := ⟨_, rfl⟩
      rw [← HX.out] at c0 c1 c2
      simp only at c0 c1 c2
      clear hc
      have own3 := own.kept ((Apart.refl [] wr).alloc (.cells #[.int .i64 xn, .int .i64 xb, .int .u64 xt] 52))
      obtain ⟨p4, cap4, w4, hrun, own4⟩ := own_append own3 (by omega) 22 ⟨wr.heap.size, 0, none⟩ ⟨xn, xb, xt⟩ (by simp [Addr.add]) (by simp [Addr.add]) (by simp [Addr.add])
      go_wp2_with (at_builtin; refine wpList_append3 rfl (.tmp 11) (.tmp 16) 22 rfl _ _ rfl rfl _ _ hrun ?_)
      go_roundw
      case rel => exact ⟨i + 1, by omega, rfl, p4, cap4, rfl, by rw [take_g HI.out, ← HX.out]; exact own4⟩
      case measure => simp [intOf]; omega
    · obtain rfl : i = N := by omega
      go_wp2
      go_ret
      refine ⟨p', cap', rfl, ?_⟩
      have : xs.take i = xs := List.take_of_length_le (by rw [h.len]; omega)
      rwa [this] at own
set_option maxHeartbeats 1000000 in
theorem bit_ok (n b : Int) (t i : Nat) (w : World) (ht : t < 2 ^ 64) (hi : i < 64) : Calls Tryd.prog 58 #[.agg #[.int .i64 n, .int .i64 b, .int .u64 t], .int .i64 i] w fun r w' => r = .returned (.bool (t.testBit i)) ∧ Apart [] w w' := by
  have hsh := run_shr t (i : Int) (by omega) ht
  have h64 : (i : Int) < 64 := by omega
  go_enter Tryd.func58, Tryd.ntmps58
  go_wp2
  go_ret
  refine ⟨?_, (Apart.refl _ _).alloc _⟩
  show Ending.returned (Value.bool (((t : Int) / 2 ^ i).tmod 2 == 1)) = _
  have e : (t : Int) / 2 ^ i = ((t / 2 ^ i : Nat) : Int) := by simp
  rw [e, Nat.testBit_eq_decide_div_mod_eq]
  generalize t / 2 ^ i = y
  have e2 : (y : Int).tmod 2 = ((y % 2 : Nat) : Int) := rfl
  rw [e2]
  refine congrArg Ending.returned (congrArg Value.bool ?_)
  by_cases h : y % 2 = 1
  · rw [h]; rfl
  · rw [decide_eq_false h]; simp; omega
end Go.Proofs.YtdggkofihppcmaaDoor.ds
