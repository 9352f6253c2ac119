import Derived.Test.YtopmhacnopfifaaAhead
import Derived.WalkMore
namespace Go.Proofs.Ytopmhacnopfifaa.hp
open Go.ChangeShapes Go.WideShapes Go.ChangeAt Go.RowKit
set_option linter.unusedVariables false
section
variable {F : Value} {C : List (Nat × Int)} {R : E → E → Bool → Prop}
theorem swap_atN {w : World} {H : Nat} {es : List E} {n G cap N : Nat} (h : At w H F C (.slice (some ⟨G, 0, none⟩) N cap) es n) (hN : es.length = N) (i j : Nat) (hi : i < N) (hj : j < N) :
    Calls Try.prog 64 #[.pointer (some ⟨H, 0, none⟩), .int .i64 i, .int .i64 j] w fun r w' => r = .returned (.tuple #[]) ∧ At w' H F C (.slice (some ⟨G, 0, none⟩) N cap) (sw es i j) n ∧ Apart [G] w w' := by
  subst hN; exact swap_at h i j hi hj
/-- an order that ahead's answers keep to -/
def Fits (R : E → E → Bool → Prop) (A : E → E → Bool) : Prop := Ord A ∧ ∀ x y b, R x y b → b = A x y
structure RiseInv (R : E → E → Bool → Prop) (F : Value) (C : List (Nat × Int)) (w wr : World) (H G N cap n : Nat) (es cs : List E) (i k : Nat) : Prop where
  hk : k < N
  hN : cs.length = N
  at_ : At wr H F C (.slice (some ⟨G, 0, none⟩) N cap) cs n
  perm : cs.Perm es
  ri : ∀ A, Fits R A → RI A es i → RI A cs k
  ap : Apart [G] w wr
structure RisePost (R : E → E → Bool → Prop) (F : Value) (C : List (Nat × Int)) (w wr : World) (H G N cap n : Nat) (es : List E) (i : Nat) : Prop where
  ex : ∃ cs : List E, cs.length = N ∧ At wr H F C (.slice (some ⟨G, 0, none⟩) N cap) cs n ∧ cs.Perm es ∧ (∀ A, Fits R A → RI A es i → Hp A cs) ∧ Apart [G] w wr
set_option maxHeartbeats 1000000 in
theorem rise_at (K : Kind F C R) (w : World) (H : Nat) (es : List E) (n G cap N : Nat) (h : At w H F C (.slice (some ⟨G, 0, none⟩) N cap) es n) (hN : es.length = N) (i : Nat) (hi : i < N) :
    Calls Try.prog 63 #[.pointer (some ⟨H, 0, none⟩), .int .i64 i] w fun r w' => r = .returned (.tuple #[]) ∧ RisePost R F C w w' H G N cap n es i := by
  have hl : N ≤ 4000000 := by have := h.hl; omega
  have inv0 : RiseInv R F C w w H G N cap n es es i i := ⟨hi, hN, h, List.Perm.refl _, fun A _ r => r, Apart.refl _ _⟩
  clear h
  have HN : Hid (es.length = N) := hN
  clear hN
  go_enter Try.func63, Try.ntmps63
  go_wp2
  go_step3
  go_wp2
  go_step3
  go_wp2
  go_loopw [1] (fun v wr => ∃ k : Nat, v = .int .i64 k ∧ ∃ cs, RiseInv R F C w wr H G N cap n es cs i k) (fun v _ => (intOf v).toNat)
  case atStart => exact ⟨i, rfl, _, inv0⟩
  case round =>
    clear inv0
    obtain ⟨k, rfl, cs, inv⟩ := hrel
    by_cases hk0 : k = 0
    · subst hk0
      go_wp2
      try rw [Exit.noGoto_normal]
      go_end0
      exact ⟨rfl, ⟨cs, inv.hN, inv.at_, inv.perm, fun A f r => (inv.ri A f r).done (.inl rfl), inv.ap⟩⟩
    · have hk1 : 0 < k := by omega
      have hkN := inv.hk
      obtain ⟨p, hp⟩ : ∃ p : Nat, p = (k - 1) / 2 := ⟨_, rfl⟩
      have hq : ((k : Int) - 1).tdiv 2 = (p : Int) := by rw [Int.tdiv_eq_ediv_of_nonneg (by omega)]; omega
      have HP : Hid (p = (k - 1) / 2) := hp
      have hpk : p < k := by omega
      clear hp hk0
      go_wp2_with fail
      refine (K.ahead wr H _ cs n k p inv.at_ (by rw [inv.hN]; exact hkN) (by rw [inv.hN]; omega)).mono ?_
      rintro r w1 ⟨b, rfl, hb, a1⟩
      have at1 := inv.at_.kept0 a1
      have ap1 : Apart [G] w w1 := inv.ap.trans (a1.mono (by simp))
      cases b
      · go_wp2
        try rw [Exit.noGoto_normal]
        go_end0
        exact ⟨rfl, ⟨cs, inv.hN, at1, inv.perm, fun A f r => (inv.ri A f r).done (.inr (by rw [← HP.out]; exact (f.2 _ _ _ hb).symm)), ap1⟩⟩
      · go_wp2_with fail
        refine (swap_atN at1 inv.hN k p hkN (by omega)).mono ?_
        rintro r w2 ⟨rfl, at2, a2⟩
        have inv2 : RiseInv R F C w w2 H G N cap n es (sw cs k p) i p := ⟨by omega, by rw [sw_length]; exact inv.hN, at2, (sw_perm cs k p (by rw [inv.hN]; exact hkN) (by rw [inv.hN]; omega)).trans inv.perm, fun A f r => by
          have h1 := (inv.ri A f r).step f.1 hk1 (by rw [inv.hN]; exact hkN) (by rw [← HP.out]; exact (f.2 _ _ _ hb).symm)
          rw [← HP.out] at h1; exact h1, ap1.trans a2⟩
        clear inv at1 at2 hb a1 a2 ap1
        go_wp2
        go_roundw
        case rel => exact ⟨p, rfl, _, inv2⟩
        case measure => simp [intOf]; omega
end
end Go.Proofs.Ytopmhacnopfifaa.hp
