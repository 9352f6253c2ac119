import Derived.Test.YtopmhacnopfifaaQRise
namespace Go.Proofs.Ytopmhacnopfifaa.tm
open Go.ChangeShapes Go.WideShapes Go.ChangeAt Go.RowKit
set_option linter.unusedVariables false
section
variable {F : Value} {C : List (Nat × Int)} {R : E → E → Bool → Prop}
structure SinkInv (R : E → E → Bool → Prop) (F : Value) (C : List (Nat × Int)) (w wr : World) (H G N cap n : Nat) (es cs : List E) (i k : Nat) : Prop where
  hk : k < N
  hN : cs.length = N
  at_ : At wr H F C (.slice (some ⟨G, 0, none⟩) N cap) cs n
  perm : cs.Perm es
  si : ∀ A, Fits R A → SI A es i true → (k = i ∧ SI A cs k true) ∨ SI A cs k false
  ap : Apart [G] w wr
structure SinkPost (R : E → E → Bool → Prop) (F : Value) (C : List (Nat × Int)) (w wr : World) (H G N cap n : Nat) (es : List E) (i : Nat) : Prop where
  ex : ∃ cs : List E, cs.length = N ∧ At wr H F C (.slice (some ⟨G, 0, none⟩) N cap) cs n ∧ cs.Perm es ∧ (∀ A, Fits R A → SI A es i true → RI A cs i) ∧ Apart [G] w wr
theorem SinkInv.done {w wr w1 : World} {H G N cap n : Nat} {es cs : List E} {i k : Nat} (h : SinkInv R F C w wr H G N cap n es cs i k) (a1 : Apart [] wr w1) (hb : ∀ A, Fits R A → ∀ q, 0 < q → q < N → (q - 1) / 2 = k → A (g cs q) (g cs k) = false) : SinkPost R F C w w1 H G N cap n es i :=
  ⟨cs, h.hN, h.at_.kept0 a1, h.perm, fun A f s => by
    have hb' : ∀ q, 0 < q → q < cs.length → (q - 1) / 2 = k → A (g cs q) (g cs k) = false := fun q q0 ql qp => hb A f q q0 (by rw [← h.hN]; exact ql) qp
    rcases h.si A f s with ⟨e, h1⟩ | h1
    · rw [← e]; exact h1.done hb'
    · exact RI.of_hp f.1 (h1.done' hb') i, h.ap.trans (a1.mono (by simp))⟩
theorem SinkInv.step {w wr w1 w2 : World} {H G N cap n : Nat} {es cs : List E} {i k c : Nat} (h : SinkInv R F C w wr H G N cap n es cs i k) (a1 : Apart [] wr w1) (a2 : Apart [G] w1 w2) (hc : c < N) (hck : 0 < c ∧ (c - 1) / 2 = k) (at2 : At w2 H F C (.slice (some ⟨G, 0, none⟩) N cap) (sw cs k c) n)
    (ha : ∀ A, Fits R A → A (g cs c) (g cs k) = true) (hb : ∀ A, Fits R A → ∀ q, 0 < q → q < N → (q - 1) / 2 = k → A (g cs q) (g cs c) = false) : SinkInv R F C w w2 H G N cap n es (sw cs k c) i c :=
  ⟨hc, by rw [sw_length]; exact h.hN, at2, (sw_perm cs k c (by rw [h.hN]; exact h.hk) (by rw [h.hN]; exact hc)).trans h.perm, fun A f s => by
    have hb' : ∀ q, 0 < q → q < cs.length → (q - 1) / 2 = k → A (g cs q) (g cs c) = false := fun q q0 ql qp => hb A f q q0 (by rw [← h.hN]; exact ql) qp
    right
    rcases h.si A f s with ⟨e, h1⟩ | h1
    · exact h1.step f.1 (by rw [h.hN]; exact hc) hck (ha A f) hb'
    · exact h1.step f.1 (by rw [h.hN]; exact hc) hck (ha A f) hb', (h.ap.trans (a1.mono (by simp))).trans a2⟩
set_option maxHeartbeats 2000000 in
theorem sink_at (K : Kind F C R) (w : World) (H : Nat) (es : List E) (n G cap N : Nat) (h : At w H F C (.slice (some ⟨G, 0, none⟩) N cap) es n) (hN : es.length = N) (i : Nat) (hi : i < N) :
    Calls Try.prog 67 #[.pointer (some ⟨H, 0, none⟩), .int .i64 i] w fun r w' => r = .returned (.tuple #[]) ∧ SinkPost R F C w w' H G N cap n es i := by
  have hl : N ≤ 4000000 := by have := h.hl; omega
  have inv0 : SinkInv R F C w w H G N cap n es es i i := ⟨hi, hN, h, List.Perm.refl _, fun A _ r => .inl ⟨rfl, r⟩, Apart.refl _ _⟩
  clear h
  have HN : Hid (es.length = N) := hN
  clear hN
  go_enter Try.func67, Try.ntmps67
  go_wp2
  go_step3
  go_wp2
  go_step3
  go_wp2
  go_loopw [1] (fun v wr => ∃ k : Nat, v = .int .i64 k ∧ ∃ cs, SinkInv R F C w wr H G N cap n es cs i k) (fun v _ => N - (intOf v).toNat)
  case atStart => exact ⟨i, rfl, _, inv0⟩
  case round =>
    clear inv0
    obtain ⟨k, rfl, cs, inv⟩ := hrel
    have hkN := inv.hk
    have c1 := inv.at_.c1
    have E1 : ((2 * k + 1 : Nat) : Int) = 2 * (k : Int) + 1 := by omega
    have E2 : ((2 * k + 2 : Nat) : Int) = 2 * (k : Int) + 1 + 1 := by omega
    have HE1 : Hid (((2 * k + 1 : Nat) : Int) = 2 * (k : Int) + 1) := E1
    have HE2 : Hid (((2 * k + 2 : Nat) : Int) = 2 * (k : Int) + 1 + 1) := E2
    clear E1 E2
    have hch : ∀ q, 0 < q → (q - 1) / 2 = k → q = 2 * k + 1 ∨ q = 2 * k + 2 := by intro q h0 h; omega
    have HCH : Hid (∀ q, 0 < q → (q - 1) / 2 = k → q = 2 * k + 1 ∨ q = 2 * k + 2) := hch
    clear hch
    by_cases h1 : 2 * k + 1 < N
    · by_cases h2 : 2 * k + 2 < N
      · have hA := K.ahead wr H _ cs n (2 * k + 2) (2 * k + 1) inv.at_ (by rw [inv.hN]; exact h2) (by rw [inv.hN]; exact h1)
        rw [HE1.out, HE2.out] at hA
        go_wp2_with fail
        refine hA.mono ?_
        clear hA
        rintro r w1 ⟨b, rfl, hb, a1⟩
        have at1 := inv.at_.kept0 a1
        cases b
        · have hA := K.ahead w1 H _ cs n (2 * k + 1) k at1 (by rw [inv.hN]; exact h1) (by rw [inv.hN]; exact hkN)
          rw [HE1.out] at hA
          have HB : ∀ A, Fits R A → ∀ q, 0 < q → q < N → (q - 1) / 2 = k → A (g cs q) (g cs (2 * k + 1)) = false := by
            intro A f q q0 ql qp
            rcases HCH.out q q0 qp with e | e
            · rw [e]; exact f.1.irr _
            · rw [e]; exact (f.2 _ _ _ hb).symm
          go_wp2_with fail
          refine hA.mono ?_
          clear hA
          rintro r w2 ⟨b2, rfl, hb2, a2⟩
          cases b2
          · have hpost : SinkPost R F C w w2 H G N cap n es i := inv.done (a1.trans a2) (fun A f q q0 ql qp => f.1.nt _ _ _ (HB A f q q0 ql qp) (f.2 _ _ _ hb2).symm)
            clear inv at1 hb hb2 a1 a2 HB
            go_wp2
            try rw [Exit.noGoto_normal]
            go_end0
            exact ⟨rfl, hpost⟩
          · have hS := swap_atN (at1.kept0 a2) inv.hN k (2 * k + 1) hkN h1
            rw [HE1.out] at hS
            go_wp2_with fail
            refine hS.mono ?_
            clear hS
            rintro r w3 ⟨rfl, at3, a3⟩
            have inv2 := inv.step (a1.trans a2) a3 h1 ⟨by omega, by omega⟩ at3 (fun A f => (f.2 _ _ _ hb2).symm) HB
            clear inv at1 hb hb2 a1 a2 a3 at3 HB
            go_wp2
            go_roundw
            case rel => exact ⟨2 * k + 1, by rw [HE1.out], _, inv2⟩
            case measure => simp [intOf]; omega
        · have hA := K.ahead w1 H _ cs n (2 * k + 2) k at1 (by rw [inv.hN]; exact h2) (by rw [inv.hN]; exact hkN)
          rw [HE2.out] at hA
          have HB : ∀ A, Fits R A → ∀ q, 0 < q → q < N → (q - 1) / 2 = k → A (g cs q) (g cs (2 * k + 2)) = false := by
            intro A f q q0 ql qp
            rcases HCH.out q q0 qp with e | e
            · rw [e]; exact f.1.asym _ _ (f.2 _ _ _ hb).symm
            · rw [e]; exact f.1.irr _
          go_wp2_with fail
          refine hA.mono ?_
          clear hA
          rintro r w2 ⟨b2, rfl, hb2, a2⟩
          cases b2
          · have hpost : SinkPost R F C w w2 H G N cap n es i := inv.done (a1.trans a2) (fun A f q q0 ql qp => f.1.nt _ _ _ (HB A f q q0 ql qp) (f.2 _ _ _ hb2).symm)
            clear inv at1 hb hb2 a1 a2 HB
            go_wp2
            try rw [Exit.noGoto_normal]
            go_end0
            exact ⟨rfl, hpost⟩
          · have hS := swap_atN (at1.kept0 a2) inv.hN k (2 * k + 2) hkN h2
            rw [HE2.out] at hS
            go_wp2_with fail
            refine hS.mono ?_
            clear hS
            rintro r w3 ⟨rfl, at3, a3⟩
            have inv2 := inv.step (a1.trans a2) a3 h2 ⟨by omega, by omega⟩ at3 (fun A f => (f.2 _ _ _ hb2).symm) HB
            clear inv at1 hb hb2 a1 a2 a3 at3 HB
            go_wp2
            go_roundw
            case rel => exact ⟨2 * k + 2, by rw [HE2.out], _, inv2⟩
            case measure => simp [intOf]; omega
      · have hA := K.ahead wr H _ cs n (2 * k + 1) k inv.at_ (by rw [inv.hN]; exact h1) (by rw [inv.hN]; exact hkN)
        rw [HE1.out] at hA
        have HB : ∀ A, Fits R A → ∀ q, 0 < q → q < N → (q - 1) / 2 = k → A (g cs q) (g cs (2 * k + 1)) = false := by
          intro A f q q0 ql qp
          rcases HCH.out q q0 qp with e | e
          · rw [e]; exact f.1.irr _
          · omega
        go_wp2_with fail
        refine hA.mono ?_
        clear hA
        rintro r w2 ⟨b2, rfl, hb2, a2⟩
        cases b2
        · have hpost : SinkPost R F C w w2 H G N cap n es i := inv.done a2 (fun A f q q0 ql qp => f.1.nt _ _ _ (HB A f q q0 ql qp) (f.2 _ _ _ hb2).symm)
          clear inv hb2 a2 HB
          go_wp2
          try rw [Exit.noGoto_normal]
          go_end0
          exact ⟨rfl, hpost⟩
        · have hS := swap_atN (inv.at_.kept0 a2) inv.hN k (2 * k + 1) hkN h1
          rw [HE1.out] at hS
          go_wp2_with fail
          refine hS.mono ?_
          clear hS
          rintro r w3 ⟨rfl, at3, a3⟩
          have inv2 := inv.step a2 a3 h1 ⟨by omega, by omega⟩ at3 (fun A f => (f.2 _ _ _ hb2).symm) HB
          clear inv hb2 a2 a3 at3 HB
          go_wp2
          go_roundw
          case rel => exact ⟨2 * k + 1, by rw [HE1.out], _, inv2⟩
          case measure => simp [intOf]; omega
    · have hpost : SinkPost R F C w wr H G N cap n es i := inv.done (Apart.refl _ _) (fun A f q q0 ql qp => by rcases HCH.out q q0 qp with e | e <;> omega)
      clear inv
      go_wp2
      try rw [Exit.noGoto_normal]
      go_end0
      exact ⟨rfl, hpost⟩
end
end Go.Proofs.Ytopmhacnopfifaa.tm
