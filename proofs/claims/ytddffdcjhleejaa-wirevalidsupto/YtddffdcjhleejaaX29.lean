import Derived.Test.YtddffdcjhleejaaX28
import Derived.Test.YtddffdcjhleejaaX1
import Derived.Test.YtddffdcjhleejaaV23
import Derived.Test.YtddffdcjhleejaaX3
import Derived.Test.YtddffdcjhleejaaX15
namespace Go.Proofs.Ytddffdcjhleejaa.ds
open Go.ChangeShapes Go.WideShapes Go.ChangeAt Go.RowKit Go.Sort
set_option linter.unusedVariables false
set_option linter.unusedSimpArgs false
theorem flag192 (k : Nat) (h : 1 ≤ k ∧ k ≤ 11) : decide (fldK k &&& 192 ≠ 0) = (hasF k 64 || hasF k 128) := by
  have h : k = 1 ∨ k = 2 ∨ k = 3 ∨ k = 4 ∨ k = 5 ∨ k = 6 ∨ k = 7 ∨ k = 8 ∨ k = 9 ∨ k = 10 ∨ k = 11 := by omega
  rcases h with rfl | rfl | rfl | rfl | rfl | rfl | rfl | rfl | rfl | rfl | rfl <;> decide
theorem flagK (k : Nat) (h : 1 ≤ k ∧ k ≤ 11) (h5 : ¬ (k = 5 ∨ k = 7)) (hw : wrK k ≠ 0) : hasF k 8 = false := by
  have h : k = 1 ∨ k = 2 ∨ k = 3 ∨ k = 4 ∨ k = 5 ∨ k = 6 ∨ k = 7 ∨ k = 8 ∨ k = 9 ∨ k = 10 ∨ k = 11 := by omega
  rcases h with rfl | rfl | rfl | rfl | rfl | rfl | rfl | rfl | rfl | rfl | rfl <;> first | decide | (exact absurd (by decide) hw) | (exact absurd (by decide) h5)
theorem key0 {k : ByteArray} : k.size = 0 ↔ k = ⟨#[]⟩ := by
  constructor
  · intro h
    cases k with | mk d =>
    have : d.size = 0 := h
    rw [Array.size_eq_zero_iff] at this
    rw [this]
  · rintro rfl; rfl
theorem VI_iff {m : MI} {xs : List S} {rs : List Wr} (k : Nat) (hk : m.kind = (k : Nat)) (h11 : 1 ≤ k ∧ k ≤ 11) (hl : rs.length = m.ws.n) : VI m xs rs ↔ (silP m (hasF k 1) (hasF k 2) (hasF k 4) (hasF k 8) (hasF k 16) (hasF k 32) (decide (fldK k &&& 192 ≠ 0)) ∧ numsP m ∧ lisP k m xs rs (hasF k 8) (hasF k 16) (hasF k 64)) := by
  have hkn : m.kind.toNat = k := by rw [hk]; rfl
  have hno := hasF_not k
  have h192 := flag192 k h11
  have hFK := flagK k h11
  have hwr : wrK k = if hasF k 128 = true then 2 else if hasF k 64 = true then 1 else 0 := rfl
  have hmo : moK k = if wrK k = 0 then 0 else mostK k := rfl
  constructor
  · rintro ⟨hk', ⟨hf, ht⟩, ⟨hc, ho, hr⟩, ⟨hky1, hky2⟩, ⟨hd1, hd2⟩, ⟨hs1, hs2, hs3⟩, ⟨hw1, hw2⟩, hl1, hl2⟩
    rw [hkn] at hc ho hr hky1 hd1 hd2 hs2 hw1 hw2 hl1
    unfold up at hc ho hr
    refine ⟨⟨⟨⟨⟨⟨⟨?_, ?_⟩, ?_⟩, ?_⟩, ?_⟩, ?_⟩, ?_⟩, ⟨?_, ?_, ?_, ?_, ?_⟩, ⟨⟨⟨⟨⟨⟨?_, ?_⟩, ?_⟩, ?_⟩, ?_⟩, ?_⟩, ?_⟩⟩
    · rcases hc.2 with h | h
      · exact .inl h.1
      · exact .inr h
    · rcases ho.2 with h | h
      · exact .inl h.1
      · exact .inr h
    · rcases hr.2 with h | h
      · exact .inl h.1
      · exact .inr h
    · by_cases h : hasF k 8 = true
      · exact .inl h
      · refine .inr (key0.1 ?_)
        have : ¬ 1 ≤ m.key.size := fun h1 => h (hky1.2 h1)
        omega
    · by_cases h : hasF k 16 = true
      · exact .inl h
      · exact .inr (hd2 (by simpa using h))
    · by_cases h : hasF k 32 = true
      · exact .inl h
      · exact .inr (hs2 (by simpa using h))
    · rw [h192]
      by_cases h6 : hasF k 64 = true
      · left; simp [h6]
      · by_cases h7 : hasF k 128 = true
        · left; simp [h7]
        · right; exact hw2 (by rw [hwr, if_neg h7, if_neg h6])
    · omega
    · omega
    · rcases hc.2 with h | h <;> omega
    · rcases ho.2 with h | h <;> omega
    · rcases hr.2 with h | h <;> omega
    · by_cases h : hasF k 8 = true
      · exact .inr ⟨hky1.1 h, hky2⟩
      · exact .inl (by simpa using h)
    · by_cases h : hasF k 16 = true
      · exact .inr (hd1.1 h)
      · exact .inl (by simpa using h)
    · by_cases h : hasF k 64 = true
      · right
        refine hw1 ?_
        rw [hwr, if_neg (fun h1 => hno ⟨h, h1⟩), if_pos h]
      · exact .inl (by simpa using h)
    · rw [hl] at hl1
      rw [hmo] at hl1
      split at hl1 <;> omega
    · exact hs1
    · by_cases h : k = 5
      · exact .inr (hs3 (by rw [hk, h]; rfl))
      · exact .inl h
    · by_cases h : m.kind = 5 ∨ m.kind = 7
      · rw [if_pos h] at hl2; exact hl2
      · rw [if_neg h] at hl2
        by_cases hw : wrK k = 0
        · have : rs = [] := List.length_eq_zero_iff.1 (by rw [hl]; exact hw2 hw)
          rw [this]; trivial
        · have h8 := hFK (by omega) hw
          have : m.key = ⟨#[]⟩ := key0.1 (by
            have : ¬ 1 ≤ m.key.size := fun h1 => (by rw [hky1.2 h1] at h8; cases h8)
            omega)
          rw [this]; exact hl2
  · rintro ⟨⟨⟨⟨⟨⟨⟨a1, a2⟩, a3⟩, a4⟩, a5⟩, a6⟩, a7⟩, ⟨n1, n2, n3, n4, n5⟩, ⟨⟨⟨⟨⟨⟨b1, b2⟩, b3⟩, b4⟩, b5⟩, b6⟩, b7⟩⟩
    rw [h192] at a7
    have hw0 : wrK k = 0 → m.ws.n = 0 := fun h => by
      rcases a7 with h1 | h1
      · exfalso
        rw [hwr] at h
        by_cases h7 : hasF k 128 = true
        · rw [if_pos h7] at h; omega
        · rw [if_neg h7] at h
          by_cases h6 : hasF k 64 = true
          · rw [if_pos h6] at h; omega
          · simp [h6, h7] at h1
      · exact h1
    refine ⟨by rw [hk]; omega, ⟨by omega, by omega⟩, ?_, ?_, ?_, ?_, ?_, ?_, ?_⟩
    · rw [hkn]
      unfold up
      refine ⟨⟨by omega, ?_⟩, ⟨by omega, ?_⟩, ⟨by omega, ?_⟩⟩
      · rcases a1 with h | h
        · exact .inl ⟨h, by omega⟩
        · exact .inr h
      · rcases a2 with h | h
        · exact .inl ⟨h, by omega⟩
        · exact .inr h
      · rcases a3 with h | h
        · exact .inl ⟨h, by omega⟩
        · exact .inr h
    · rw [hkn]
      refine ⟨⟨fun h => ?_, fun h => ?_⟩, ?_⟩
      · rcases b1 with h1 | h1
        · rw [h] at h1; cases h1
        · exact h1.1
      · rcases a4 with h1 | h1
        · exact h1
        · have := key0.2 h1; omega
      · rcases b1 with h1 | h1
        · rcases a4 with h2 | h2
          · rw [h1] at h2; cases h2
          · have := key0.2 h2; omega
        · exact h1.2
    · rw [hkn]
      refine ⟨⟨fun h => ?_, fun h => ?_⟩, fun h => ?_⟩
      · rcases b2 with h1 | h1
        · rw [h] at h1; cases h1
        · exact h1
      · rcases a5 with h1 | h1
        · exact h1
        · exfalso
          unfold IsDot at h
          omega
      · rcases a5 with h1 | h1
        · rw [h] at h1; cases h1
        · exact h1
    · rw [hkn]
      refine ⟨b5, fun h => ?_, fun h => ?_⟩
      · rcases a6 with h1 | h1
        · rw [h] at h1; cases h1
        · exact h1
      · rcases b6 with h1 | h1
        · exact absurd (by omega) h1
        · exact h1
    · rw [hkn]
      refine ⟨fun h => ?_, hw0⟩
      rcases b3 with h1 | h1
      · exfalso
        rw [hwr] at h
        by_cases h7 : hasF k 128 = true
        · rw [if_pos h7] at h; omega
        · rw [if_neg h7, if_neg (by rw [h1]; simp)] at h; omega
      · exact h1
    · rw [hkn, hl, hmo]
      split
      · rw [hw0 (by assumption)]; omega
      · exact b4
    · by_cases h : m.kind = 5 ∨ m.kind = 7
      · rw [if_pos h]; exact b7
      · rw [if_neg h]
        by_cases hw : wrK k = 0
        · have : rs = [] := List.length_eq_zero_iff.1 (by rw [hl]; exact hw0 hw)
          rw [this]; trivial
        · have h8 := hFK (by omega) hw
          have : m.key = ⟨#[]⟩ := by
            rcases a4 with h1 | h1
            · rw [h8] at h1; cases h1
            · exact h1
          rw [← this]; exact b7
set_option maxHeartbeats 8000000 in
set_option maxRecDepth 100000 in
theorem validI_ok (w : World) (m : MI) (xs : List S) (es : List E) (rs : List Wr) (hm : RMI w m xs es rs) (v : Bool) (hv : v = true ↔ VI m xs rs) : Calls Try.prog 33 #[.agg #[.int .i64 m.kind, .int .i64 m.frm, .int .i64 m.dst, .int .i64 m.call, .int .i64 m.rng, .int .i64 m.own, .string m.key, .int .i64 m.dn, .int .i64 m.dc, .slice m.set.p m.set.n m.set.c, .slice m.ws.p m.ws.n m.ws.c]] w fun r w' => r = .returned (.bool v) ∧ Apart [] w w' := by
  by_cases hk : 1 ≤ m.kind ∧ m.kind ≤ 11
  · obtain ⟨k, hkk⟩ := Int.eq_ofNat_of_zero_le (show 0 ≤ m.kind by omega)
    have h11 : 1 ≤ k ∧ k ≤ 11 := by omega
    rw [VI_iff k hkk h11 hm.ws.rl] at hv
    obtain ⟨fk, Hfk⟩ : ∃ fk, Hid (fk = fldK k) := ⟨_, rfl⟩
    have hfl : fk < 256 := by rw [Hfk.out]; exact fldK_lt k
    have hf0 : ¬ ((fk : Nat) : Int) = 0 := by
      have := fldK_pos h11
      rw [← Hfk.out] at this
      omega
    have hfb : (((fk : Nat) : Int) != 0) = true := by simpa using hf0
    have HFB := hid hfb
    have HF : Hid (∀ W, Calls Try.prog 68 #[.int .i64 (k : Nat)] W fun r w' => r = .returned (.int .u64 (fk : Int)) ∧ w' = W) := fun W => by rw [Hfk.out]; exact fieldsOf_ok k W
    obtain ⟨v1, h1⟩ := bool_of' (silP m (hasF k 1) (hasF k 2) (hasF k 4) (hasF k 8) (hasF k 16) (hasF k 32) (decide (fldK k &&& 192 ≠ 0)))
    obtain ⟨v2, h2⟩ := bool_of' (numsP m)
    obtain ⟨v3, h3⟩ := bool_of' (lisP k m xs rs (hasF k 8) (hasF k 16) (hasF k 64))
    have HV : Hid (v = (v1 && (v2 && v3))) := by
      unfold Hid
      have : (v = true) ↔ ((v1 && (v2 && v3)) = true) := by
        rw [hv, ← h1, ← h2, ← h3]
        simp
      cases v <;> cases hh : (v1 && (v2 && v3)) <;> simp_all
    have HC1 : Hid (∀ W, Calls Try.prog 69 #[.agg #[.int .i64 (k : Nat), .int .i64 m.frm, .int .i64 m.dst, .int .i64 m.call, .int .i64 m.rng, .int .i64 m.own, .string m.key, .int .i64 m.dn, .int .i64 m.dc, .slice m.set.p m.set.n m.set.c, .slice m.ws.p m.ws.n m.ws.c], .int .u64 (fk : Nat)] W fun r w' => r = .returned (.bool v1) ∧ Apart [] W w') := fun W => (by
      have := silentI_ok W m fk hfl (hasF k 1) (hasF k 2) (hasF k 4) (hasF k 8) (hasF k 16) (hasF k 32) (decide (fldK k &&& 192 ≠ 0)) (by rw [Hfk.out]; rfl) (by rw [Hfk.out]; rfl) (by rw [Hfk.out]; rfl) (by rw [Hfk.out]; rfl) (by rw [Hfk.out]; rfl) (by rw [Hfk.out]; rfl) (by rw [Hfk.out]) v1 h1
      rw [hkk] at this
      exact this)
    have HC2 : Hid (∀ W, Calls Try.prog 70 #[.agg #[.int .i64 (k : Nat), .int .i64 m.frm, .int .i64 m.dst, .int .i64 m.call, .int .i64 m.rng, .int .i64 m.own, .string m.key, .int .i64 m.dn, .int .i64 m.dc, .slice m.set.p m.set.n m.set.c, .slice m.ws.p m.ws.n m.ws.c]] W fun r w' => r = .returned (.bool v2) ∧ Apart [] W w') := fun W => (by
      have := numbersI_ok W m v2 h2
      rw [hkk] at this
      exact this)
    have HC3 : Hid (∀ W, Apart [] w W → Calls Try.prog 71 #[.agg #[.int .i64 (k : Nat), .int .i64 m.frm, .int .i64 m.dst, .int .i64 m.call, .int .i64 m.rng, .int .i64 m.own, .string m.key, .int .i64 m.dn, .int .i64 m.dc, .slice m.set.p m.set.n m.set.c, .slice m.ws.p m.ws.n m.ws.c], .int .u64 (fk : Nat)] W fun r w' => r = .returned (.bool v3) ∧ Apart [] W w') := fun W a => listsI_ok W k m xs es rs (hm.kept0 a) fk hfl (hasF k 8) (hasF k 16) (hasF k 64) (by rw [Hfk.out]; rfl) (by rw [Hfk.out]; rfl) (by rw [Hfk.out]; rfl) v3 h3
    rw [hkk]
    obtain ⟨X, HX⟩ : ∃ X, Hid (X = w.heap.size) := ⟨_, rfl⟩
    obtain ⟨w1, hw1⟩ : ∃ w1, w1 = w.alloc (.cells #[.int .i64 (k : Nat), .int .i64 m.frm, .int .i64 m.dst, .int .i64 m.call, .int .i64 m.rng, .int .i64 m.own, .string m.key, .int .i64 m.dn, .int .i64 m.dc, .slice m.set.p m.set.n m.set.c, .slice m.ws.p m.ws.n m.ws.c] 29) := ⟨_, rfl⟩
    have HA1 : Hid (Apart [] w w1) := by unfold Hid; rw [hw1]; exact (Apart.refl [] w).alloc _
    have HX1 : Hid (w1.heap[X]? = some (.cells #[.int .i64 (k : Nat), .int .i64 m.frm, .int .i64 m.dst, .int .i64 m.call, .int .i64 m.rng, .int .i64 m.own, .string m.key, .int .i64 m.dn, .int .i64 m.dc, .slice m.set.p m.set.n m.set.c, .slice m.ws.p m.ws.n m.ws.c] 29 (0, 0))) := by unfold Hid; rw [HX.out, hw1]; exact heap_alloc_new w _
    clear hm hv h1 h2 h3 hk hkk h11 hf0
    obtain ⟨⟨c0, c1, c2, c3, c4, c5⟩, c6, c7, c8, c9, c10⟩ := row11 HX1.out
    go_enter Try.func33, Try.ntmps33
    go_upto_region 1 with fail
    rw [← hw1, ← HX.out]
    clear hw1
    go_wp2_with fail
    refine (HF.out w1).mono ?_
    rintro _ wn ⟨rfl, hwn⟩
    rw [hwn]
    clear hwn wn
    try dsimp only
    go_wp2_with fail
    clear c0 c1 c2 c3 c4 c5 c6 c7 c8 c9 c10
    refine (HC1.out w1).mono ?_
    rintro _ w2 ⟨rfl, ha2⟩
    have HX2 := hid ((ha2.block _ (lt_of_heap HX1.out) (by simp)).trans HX1.out)
    have HA2 : Hid (Apart [] w w2) := HA1.out.trans ha2
    clear ha2
    try dsimp only
    cases v1 with
    | false =>
      have hv : v = false := by rw [HV.out]; rfl
      subst hv
      go_wp2_with fail
      go_ret
      exact ⟨by first | rfl | (simp only [HFB.out]; rfl), HA2.out⟩
    | true =>
      obtain ⟨⟨c0, c1, c2, c3, c4, c5⟩, c6, c7, c8, c9, c10⟩ := row11 HX2.out
      go_wp2_with fail
      clear c0 c1 c2 c3 c4 c5 c6 c7 c8 c9 c10
      refine (HC2.out w2).mono ?_
      rintro _ w3 ⟨rfl, ha3⟩
      have HX3 := hid ((ha3.block _ (lt_of_heap HX2.out) (by simp)).trans HX2.out)
      have HA3 : Hid (Apart [] w w3) := HA2.out.trans ha3
      clear ha3
      try dsimp only
      cases v2 with
      | false =>
        have hv : v = false := by rw [HV.out]; rfl
        subst hv
        go_wp2_with fail
        go_ret
        exact ⟨by first | rfl | (simp only [HFB.out]; rfl), HA3.out⟩
      | true =>
        obtain ⟨⟨c0, c1, c2, c3, c4, c5⟩, c6, c7, c8, c9, c10⟩ := row11 HX3.out
        go_wp2_with fail
        clear c0 c1 c2 c3 c4 c5 c6 c7 c8 c9 c10
        refine (HC3.out w3 HA3.out).mono ?_
        rintro _ w4 ⟨rfl, ha4⟩
        have HA4 : Hid (Apart [] w w4) := HA3.out.trans ha4
        clear ha4
        try dsimp only
        have hv : v = v3 := by rw [HV.out]; rfl
        subst hv
        go_wp2_with fail
        go_ret
        exact ⟨by first | rfl | (simp only [HFB.out]; rfl), HA4.out⟩
  · have hvf : v = false := by
      cases hvv : v with
      | false => rfl
      | true => exact absurd (hv.1 hvv).kind hk
    subst hvf
    have HF := hid (fun W => fieldsI_0 m.kind hk W)
    obtain ⟨X, HX⟩ : ∃ X, Hid (X = w.heap.size) := ⟨_, rfl⟩
    obtain ⟨w1, hw1⟩ : ∃ w1, w1 = w.alloc (.cells #[.int .i64 m.kind, .int .i64 m.frm, .int .i64 m.dst, .int .i64 m.call, .int .i64 m.rng, .int .i64 m.own, .string m.key, .int .i64 m.dn, .int .i64 m.dc, .slice m.set.p m.set.n m.set.c, .slice m.ws.p m.ws.n m.ws.c] 29) := ⟨_, rfl⟩
    have HA1 : Hid (Apart [] w w1) := by unfold Hid; rw [hw1]; exact (Apart.refl [] w).alloc _
    have HX1 : Hid (w1.heap[X]? = some (.cells #[.int .i64 m.kind, .int .i64 m.frm, .int .i64 m.dst, .int .i64 m.call, .int .i64 m.rng, .int .i64 m.own, .string m.key, .int .i64 m.dn, .int .i64 m.dc, .slice m.set.p m.set.n m.set.c, .slice m.ws.p m.ws.n m.ws.c] 29 (0, 0))) := by unfold Hid; rw [HX.out, hw1]; exact heap_alloc_new w _
    clear hm hv hk
    obtain ⟨⟨c0, c1, c2, c3, c4, c5⟩, c6, c7, c8, c9, c10⟩ := row11 HX1.out
    go_enter Try.func33, Try.ntmps33
    go_upto_region 1 with fail
    rw [← hw1, ← HX.out]
    clear hw1
    go_wp2_with fail
    refine (HF.out w1).mono ?_
    rintro _ wn ⟨rfl, hwn⟩
    rw [hwn]
    clear hwn wn
    try dsimp only
    go_wp2_with fail
    go_ret
    exact ⟨rfl, HA1.out⟩
end Go.Proofs.Ytddffdcjhleejaa.ds
namespace Go.Proofs.Ytddffdcjhleejaa.ds
open Go.ChangeShapes Go.WideShapes Go.ChangeAt Go.RowKit Go.Sort
set_option linter.unusedVariables false
set_option linter.unusedSimpArgs false
theorem encO_true (l : List Nat) : encO true l = l := rfl
set_option maxHeartbeats 4000000 in
set_option maxRecDepth 100000 in
theorem encodeI_ok (w : World) (m : MI) (xs : List S) (es : List E) (rs : List Wr) (hm : RMI w m xs es rs) (v : Bool) (hv : v = true ↔ VI m xs rs) (mm : MM) (g : Mg) (hg : v = true → m.cs = mm.cs ∧ VMg g ∧ RM w mm g es) : Calls Try.prog 17 #[.agg #[.int .i64 m.kind, .int .i64 m.frm, .int .i64 m.dst, .int .i64 m.call, .int .i64 m.rng, .int .i64 m.own, .string m.key, .int .i64 m.dn, .int .i64 m.dc, .slice m.set.p m.set.n m.set.c, .slice m.ws.p m.ws.n m.ws.c]] w fun r w' => PutP w v 61 (encM g) r w' := by
  cases v with
  | true =>
    obtain ⟨h1, h2, h3⟩ := hg rfl
    have e : (Value.agg #[.int .i64 m.kind, .int .i64 m.frm, .int .i64 m.dst, .int .i64 m.call, .int .i64 m.rng, .int .i64 m.own, .string m.key, .int .i64 m.dn, .int .i64 m.dc, .slice m.set.p m.set.n m.set.c, .slice m.ws.p m.ws.n m.ws.c]) = .agg mm.cs := congrArg Value.agg h1
    rw [e]
    refine (encode_yes w mm g es h3 h2).mono ?_
    rintro r w' ⟨s, hr, hb⟩
    exact ⟨hb.nw.ap, fun _ => ⟨s, hr, hb⟩, fun h => (by simp at h)⟩
  | false =>
    obtain ⟨X, HX⟩ : ∃ X, Hid (X = w.heap.size) := ⟨_, rfl⟩
    obtain ⟨w1, hw1⟩ : ∃ w1, w1 = w.alloc (.cells #[.int .i64 m.kind, .int .i64 m.frm, .int .i64 m.dst, .int .i64 m.call, .int .i64 m.rng, .int .i64 m.own, .string m.key, .int .i64 m.dn, .int .i64 m.dc, .slice m.set.p m.set.n m.set.c, .slice m.ws.p m.ws.n m.ws.c] 29) := ⟨_, rfl⟩
    have HA1 : Hid (Apart [] w w1) := by unfold Hid; rw [hw1]; exact (Apart.refl [] w).alloc _
    have HX1 : Hid (w1.heap[X]? = some (.cells #[.int .i64 m.kind, .int .i64 m.frm, .int .i64 m.dst, .int .i64 m.call, .int .i64 m.rng, .int .i64 m.own, .string m.key, .int .i64 m.dn, .int .i64 m.dc, .slice m.set.p m.set.n m.set.c, .slice m.ws.p m.ws.n m.ws.c] 29 (0, 0))) := by unfold Hid; rw [HX.out, hw1]; exact heap_alloc_new w _
    have HC := hid (validI_ok w1 m xs es rs (hm.kept0 HA1.out) false hv)
    clear hm hv hg
    obtain ⟨⟨c0, c1, c2, c3, c4, c5⟩, c6, c7, c8, c9, c10⟩ := row11 HX1.out
    go_enter Try.func17, Try.ntmps17
    go_upto_region 1 with fail
    rw [← hw1, ← HX.out]
    clear hw1
    go_wp2_with fail
    refine HC.out.mono ?_
    rintro _ w2 ⟨rfl, ha2⟩
    have HA2 : Hid (Apart [] w w2) := HA1.out.trans ha2
    clear ha2
    try dsimp only
    go_wp2_with fail
    go_ret2
    exact ⟨HA2.out, fun h => (by simp at h), fun _ => rfl⟩
set_option maxHeartbeats 16000000 in
set_option maxRecDepth 100000 in
theorem rencode_yes (w : World) (mm : MM) (g : Mg) (es : List E) (hm : RM w mm g es) (hv : VMg g) (hvv : ∀ W, Apart [] w W → Calls Try.prog 30 #[.agg #[.int .i64 (mm.kind : Nat), .int .i64 (mm.frm : Nat), .int .i64 (mm.dst : Nat), .int .i64 (mm.call : Nat), .int .i64 (mm.rng : Nat), .int .i64 (mm.own : Nat), .string mm.key, .int .i64 (mm.dn : Nat), .int .i64 (mm.dc : Nat), .slice mm.set.p mm.set.n mm.set.c, .slice mm.ws.p mm.ws.n mm.ws.c]] W fun r w' => r = .returned (.bool true) ∧ Apart [] W w') : Calls Try.prog 35 #[.agg #[.int .i64 (mm.kind : Nat), .int .i64 (mm.frm : Nat), .int .i64 (mm.dst : Nat), .int .i64 (mm.call : Nat), .int .i64 (mm.rng : Nat), .int .i64 (mm.own : Nat), .string mm.key, .int .i64 (mm.dn : Nat), .int .i64 (mm.dc : Nat), .slice mm.set.p mm.set.n mm.set.c, .slice mm.ws.p mm.ws.n mm.ws.c]] w fun r w' => EncP w (encM g) r w' := by
  have HVV := hid hvv
  have HM := hid hm
  have HG := hid hv
  have hkk := hv.kind
  rw [← hm.kind] at hkk
  obtain ⟨n4, n5, n6⟩ := hv.nums
  rw [← hm.call] at n4
  rw [← hm.own] at n5
  rw [← hm.rng] at n6
  have hfr := hv.frm
  rw [← hm.frm] at hfr
  have hds := hv.dst
  rw [← hm.dst] at hds
  have hdd : mm.dn ≤ 7 ∧ mm.dc ≤ 1048576 := by
    have := hv.dot
    rw [hm.dn, hm.dc]
    split at this
    · omega
    · simp only [Prod.mk.injEq] at this; omega
  have hks : mm.key.size ≤ 16 := by
    rw [hm.key]
    have h1 := hv.key
    have h2 : (strB g.key).size = g.key.length := by rw [← bsk_len, bsk_strB hm.k8]
    rw [h2]
    split at h1
    · omega
    · rw [h1]; simp
  have HKB : Hid (bsk mm.key = g.key) := by unfold Hid; rw [hm.key]; exact bsk_strB hm.k8
  have HSL := hid hm.set.len
  have HLN := hid (encM_le hv)
  obtain ⟨b1, Hb1⟩ : ∃ b, Hid (b = hasF mm.kind 1) := ⟨_, rfl⟩
  obtain ⟨b2, Hb2⟩ : ∃ b, Hid (b = hasF mm.kind 2) := ⟨_, rfl⟩
  obtain ⟨b4, Hb4⟩ : ∃ b, Hid (b = hasF mm.kind 4) := ⟨_, rfl⟩
  obtain ⟨b8, Hb8⟩ : ∃ b, Hid (b = hasF mm.kind 8) := ⟨_, rfl⟩
  obtain ⟨b16, Hb16⟩ : ∃ b, Hid (b = hasF mm.kind 16) := ⟨_, rfl⟩
  obtain ⟨b32, Hb32⟩ : ∃ b, Hid (b = hasF mm.kind 32) := ⟨_, rfl⟩
  obtain ⟨wk, Hwk⟩ : ∃ n, Hid (n = wrK mm.kind) := ⟨_, rfl⟩
  obtain ⟨mo, Hmo⟩ : ∃ n, Hid (n = moK mm.kind) := ⟨_, rfl⟩
  have HFA : Hid (∀ W, Calls Try.prog 62 #[.int .i64 (mm.kind : Nat)] W fun r w' => r = .returned (.tuple #[.agg #[.bool b1, .bool b2, .bool b4, .bool b8, .bool b16, .bool b32, .int .i64 (wk : Nat), .int .i64 (mo : Nat)], .bool true]) ∧ Apart [] W w') := fun W => (by
    have := fieldsR_ok (mm.kind : Nat) ⟨by omega, by omega⟩ W
    rw [Int.toNat_natCast] at this
    rw [Hb1.out, Hb2.out, Hb4.out, Hb8.out, Hb16.out, Hb32.out, Hwk.out, Hmo.out]
    exact this)
  have HWK : Hid ((((wk : Nat) : Int) == 2) = hasF mm.kind 128) := by
    unfold Hid
    rw [Hwk.out]
    unfold wrK
    by_cases h7 : hasF mm.kind 128 = true
    · rw [if_pos h7, h7]; rfl
    · rw [if_neg h7]
      have h7' : hasF mm.kind 128 = false := by simpa using h7
      rw [h7']
      split <;> rfl
  obtain ⟨b128, Hb128⟩ : ∃ b, Hid (b = hasF mm.kind 128) := ⟨_, rfl⟩
  rw [← Hb128.out] at HWK
  have HRW := hid hm.ws
  have hwl := hm.ws.lim
  have HFULL : Hid (encM g = ((((((((((enc mm.kind ++ enc mm.frm) ++ enc mm.dst) ++ encO b1 (enc mm.call)) ++ encO b2 (enc mm.own)) ++ encO b4 (enc mm.rng)) ++ encO b8 (encT (bsk mm.key))) ++ encO b16 (enc mm.dn ++ enc mm.dc)) ++ encO b32 (encSet g.set)) ++ encO b128 (enc mm.ws.n)) ++ g.ws.flatMap encW)) := by
    unfold Hid encM
    rw [Hb1.out, Hb2.out, Hb4.out, Hb8.out, Hb16.out, Hb32.out, Hb128.out, HKB.out, ← hm.kind, ← hm.frm, ← hm.dst, ← hm.call, ← hm.own, ← hm.rng, ← hm.dn, ← hm.dc, hm.ws.rl]
    simp only [List.append_assoc]
  have HSET : Hid (b32 = true → ∃ p c, Value.slice mm.set.p mm.set.n mm.set.c = .slice p g.set.length c ∧ L w p g.set.length g.set ∧ g.set.length ≤ 1000 ∧ (∀ x ∈ g.set, (0 ≤ x.n ∧ x.n < 9223372036854775808) ∧ (0 ≤ x.b ∧ x.b < 9223372036854775808))) := fun h => (by
    have h1 := hv.set
    rw [← hm.kind, ← Hb32.out, if_pos h] at h1
    refine ⟨mm.set.p, mm.set.c, by rw [hm.set.len], by rw [hm.set.len]; exact hm.set, by have := h1.1.le8; omega, fun x hx => ?_⟩
    have ho := h1.1.ok x hx
    have a1 := ho.n0
    have a2 := ho.n8
    have a3 := ho.b0
    have a4 := ho.bM
    exact ⟨⟨by omega, by omega⟩, ⟨by omega, by omega⟩⟩)
  have HGOOD : Hid (∀ j, j < mm.ws.n → GoodW (gR g.ws j)) := fun j hj => (by
    have h1 := (hv.wsok).1.snd j (by rw [hm.ws.rl]; exact hj)
    exact h1.1)
  obtain ⟨X, HX⟩ : ∃ X, Hid (X = w.heap.size) := ⟨_, rfl⟩
  obtain ⟨w1, hw1⟩ : ∃ w1, w1 = w.alloc (.cells #[.int .i64 (mm.kind : Nat), .int .i64 (mm.frm : Nat), .int .i64 (mm.dst : Nat), .int .i64 (mm.call : Nat), .int .i64 (mm.rng : Nat), .int .i64 (mm.own : Nat), .string mm.key, .int .i64 (mm.dn : Nat), .int .i64 (mm.dc : Nat), .slice mm.set.p mm.set.n mm.set.c, .slice mm.ws.p mm.ws.n mm.ws.c] 29) := ⟨_, rfl⟩
  have HA1 : Hid (Apart [] w w1) := by unfold Hid; rw [hw1]; exact (Apart.refl [] w).alloc _
  have HX1 : Hid (w1.heap[X]? = some (.cells #[.int .i64 (mm.kind : Nat), .int .i64 (mm.frm : Nat), .int .i64 (mm.dst : Nat), .int .i64 (mm.call : Nat), .int .i64 (mm.rng : Nat), .int .i64 (mm.own : Nat), .string mm.key, .int .i64 (mm.dn : Nat), .int .i64 (mm.dc : Nat), .slice mm.set.p mm.set.n mm.set.c, .slice mm.ws.p mm.ws.n mm.ws.c] 29 (0, 0))) := by unfold Hid; rw [HX.out, hw1]; exact heap_alloc_new w _
  clear hvv hm hv
  obtain ⟨⟨c0, c1, c2, c3, c4, c5⟩, c6, c7, c8, c9, c10⟩ := row11 HX1.out
  go_enter Try.func35, Try.ntmps35
  go_upto_region 1 with fail
  rw [← hw1, ← HX.out]
  clear hw1
  go_wp2_with fail
  clear c0 c1 c2 c3 c4 c5 c6 c7 c8 c9 c10
  refine (HVV.out w1 HA1.out).mono ?_
  rintro _ w2 ⟨rfl, ha2⟩
  have HA2 : Hid (Apart [] w w2) := HA1.out.trans ha2
  have HX2 := hid ((ha2.block _ (lt_of_heap HX1.out) (by simp)).trans HX1.out)
  clear ha2
  try dsimp only
  obtain ⟨⟨c0, c1, c2, c3, c4, c5⟩, c6, c7, c8, c9, c10⟩ := row11 HX2.out
  go_wp2_with fail
  clear c0 c1 c2 c3 c4 c5 c6 c7 c8 c9 c10
  refine (HFA.out w2).mono ?_
  rintro _ w3 ⟨rfl, ha3⟩
  have HA3 : Hid (Apart [] w w3) := HA2.out.trans ha3
  have HX3 := hid ((ha3.block _ (lt_of_heap HX2.out) (by simp)).trans HX2.out)
  clear ha3
  try dsimp only
  obtain ⟨H, HHn⟩ : ∃ H, Hid (H = w3.heap.size) := ⟨_, rfl⟩
  obtain ⟨w4, hw4⟩ : ∃ w4, w4 = w3.alloc (.cells #[.bool b1, .bool b2, .bool b4, .bool b8, .bool b16, .bool b32, .int .i64 (wk : Nat), .int .i64 (mo : Nat)] 110) := ⟨_, rfl⟩
  have HA34 : Hid (Apart [] w3 w4) := by unfold Hid; rw [hw4]; exact (Apart.refl [] w3).alloc _
  have HHa : Hid (w4.heap[H]? = some (.cells #[.bool b1, .bool b2, .bool b4, .bool b8, .bool b16, .bool b32, .int .i64 (wk : Nat), .int .i64 (mo : Nat)] 110 (0, 0))) := by unfold Hid; rw [HHn.out, hw4]; exact heap_alloc_new w3 _
  have HXa := hid ((HA34.out.block _ (lt_of_heap HX3.out) (by simp)).trans HX3.out)
  have HA4 : Hid (Apart [] w w4) := HA3.out.trans HA34.out
  have HBa : Hid (Bf w w4 ⟨none, 0, 0⟩ []) := Bf.nil HA4.out
  have HLT : Hid (∀ a b c : List Nat, encM g = (a ++ b) ++ c → a.length + b.length ≤ 1099511627776) := fun a b c e => (by
    have h1 := HLN.out
    rw [e] at h1
    simp only [List.length_append] at h1
    omega)
  obtain ⟨⟨c0, c1, c2, c3, c4, c5⟩, c6, c7, c8, c9, c10⟩ := row11 HXa.out
  go_upto_region 5 with fail
  rw [← hw4, ← HHn.out]
  clear hw4
  go_wp2_with fail
  clear c0 c1 c2 c3 c4 c5 c6 c7 c8 c9 c10
  refine (wnum_ok HBa.out mm.kind (by omega) (by have := HLT.out [] (enc mm.kind) ((enc mm.frm ++ (enc mm.dst ++ (encO b1 (enc mm.call) ++ (encO b2 (enc mm.own) ++ (encO b4 (enc mm.rng) ++ (encO b8 (encT (bsk mm.key)) ++ (encO b16 (enc mm.dn ++ enc mm.dc) ++ (encO b32 (encSet g.set) ++ (encO b128 (enc mm.ws.n) ++ g.ws.flatMap encW)))))))))) (by rw [HFULL.out]; simp only [List.append_assoc, List.nil_append]); exact this)).mono ?_
  rintro _ w5 ⟨s5, rfl, hb, hgw⟩
  have HX5 := hid (hgw.block HBa.out HXa.out (by decide))
  have HH5 := hid (hgw.block HBa.out HHa.out (by decide))
  have HB5 := hid hb
  clear hb hgw
  try dsimp only
  replace HBa := HB5
  replace HXa := HX5
  replace HHa := HH5
  obtain ⟨⟨c0, c1, c2, c3, c4, c5⟩, c6, c7, c8, c9, c10⟩ := row11 HXa.out
  have HBt : Hid (Bf w w5 s5 (enc mm.kind)) := by have := HBa.out; unfold Hid; simpa using this
  replace HBa := HBt
  go_wp2_with fail
  clear c0 c1 c2 c3 c4 c5 c6 c7 c8 c9 c10
  refine (wnum_ok HBa.out mm.frm (by omega) (HLT.out _ _ ((enc mm.dst ++ (encO b1 (enc mm.call) ++ (encO b2 (enc mm.own) ++ (encO b4 (enc mm.rng) ++ (encO b8 (encT (bsk mm.key)) ++ (encO b16 (enc mm.dn ++ enc mm.dc) ++ (encO b32 (encSet g.set) ++ (encO b128 (enc mm.ws.n) ++ g.ws.flatMap encW))))))))) (by rw [HFULL.out]; simp only [encO_true, List.append_assoc, List.nil_append]))).mono ?_
  rintro _ w6 ⟨s6, rfl, hb, hgw⟩
  have HX6 := hid (hgw.block HBa.out HXa.out (by decide))
  have HH6 := hid (hgw.block HBa.out HHa.out (by decide))
  have HB6 := hid hb
  clear hb hgw
  try dsimp only
  replace HBa := HB6
  replace HXa := HX6
  replace HHa := HH6
  obtain ⟨⟨c0, c1, c2, c3, c4, c5⟩, c6, c7, c8, c9, c10⟩ := row11 HXa.out
  go_wp2_with fail
  clear c0 c1 c2 c3 c4 c5 c6 c7 c8 c9 c10
  refine (wnum_ok HBa.out mm.dst (by omega) (HLT.out _ _ ((encO b1 (enc mm.call) ++ (encO b2 (enc mm.own) ++ (encO b4 (enc mm.rng) ++ (encO b8 (encT (bsk mm.key)) ++ (encO b16 (enc mm.dn ++ enc mm.dc) ++ (encO b32 (encSet g.set) ++ (encO b128 (enc mm.ws.n) ++ g.ws.flatMap encW)))))))) (by rw [HFULL.out]; simp only [encO_true, List.append_assoc, List.nil_append]))).mono ?_
  rintro _ w7 ⟨s7, rfl, hb, hgw⟩
  have HX7 := hid (hgw.block HBa.out HXa.out (by decide))
  have HH7 := hid (hgw.block HBa.out HHa.out (by decide))
  have HB7 := hid hb
  clear hb hgw
  try dsimp only
  replace HBa := HB7
  replace HXa := HX7
  replace HHa := HH7
  obtain ⟨⟨c0, c1, c2, c3, c4, c5⟩, c6, c7, c8, c9, c10⟩ := row11 HXa.out
  obtain ⟨h0, h1, h2, h3, h4, h5, h6, h7⟩ := row8v HHa.out
  go_upto_if 31 with fail
  clear h0 h1 h2 h3 h4 h5 h6 h7
  go_cut [7] from 32 to 35 (fun tv wx => ∃ sx : Sl, tv = .slice sx.p sx.n sx.c ∧ Bf w wx sx ((((enc mm.kind ++ enc mm.frm) ++ enc mm.dst) ++ encO b1 (enc mm.call))) ∧ wx.heap[X]? = some (.cells #[.int .i64 (mm.kind : Nat), .int .i64 (mm.frm : Nat), .int .i64 (mm.dst : Nat), .int .i64 (mm.call : Nat), .int .i64 (mm.rng : Nat), .int .i64 (mm.own : Nat), .string mm.key, .int .i64 (mm.dn : Nat), .int .i64 (mm.dc : Nat), .slice mm.set.p mm.set.n mm.set.c, .slice mm.ws.p mm.ws.n mm.ws.c] 29 (0, 0)) ∧ wx.heap[H]? = some (.cells #[.bool b1, .bool b2, .bool b4, .bool b8, .bool b16, .bool b32, .int .i64 (wk : Nat), .int .i64 (mo : Nat)] 110 (0, 0)))
  case first =>
    cases b1 with
    | false =>
      have HBn : Hid (Bf w w7 s7 ((((enc mm.kind ++ enc mm.frm) ++ enc mm.dst) ++ encO false (enc mm.call)))) := by have := HBa.out; unfold Hid; simpa [encO] using this
      go_wp2_with fail
      go_meet
      exact ⟨s7, rfl, HBn.out, HXa.out, HHa.out⟩
    | true =>
      go_wp2_with fail
      clear c0 c1 c2 c3 c4 c5 c6 c7 c8 c9 c10
      refine (wnum_ok HBa.out mm.call (by omega) (HLT.out _ _ ((encO b2 (enc mm.own) ++ (encO b4 (enc mm.rng) ++ (encO b8 (encT (bsk mm.key)) ++ (encO b16 (enc mm.dn ++ enc mm.dc) ++ (encO b32 (encSet g.set) ++ (encO b128 (enc mm.ws.n) ++ g.ws.flatMap encW))))))) (by rw [HFULL.out]; simp only [encO_true, List.append_assoc, List.nil_append]))).mono ?_
      rintro _ v1 ⟨t1, rfl, hb, hgw⟩
      have HXv := hid (hgw.block HBa.out HXa.out (by decide))
      have HHv := hid (hgw.block HBa.out HHa.out (by decide))
      have HBv := hid hb
      clear hb hgw
      try dsimp only
      go_wp2_with fail
      go_meet
      exact ⟨t1, rfl, by have := HBv.out; simpa [encO] using this, HXv.out, HHv.out⟩
  generalize wc = w8 at *
  obtain ⟨s8, rfl, hb, hx, hh⟩ := hcut
  replace HBa := hid hb
  replace HXa := hid hx
  replace HHa := hid hh
  clear hb hx hh
  clear c0 c1 c2 c3 c4 c5 c6 c7 c8 c9 c10
  obtain ⟨⟨c0, c1, c2, c3, c4, c5⟩, c6, c7, c8, c9, c10⟩ := row11 HXa.out
  obtain ⟨h0, h1, h2, h3, h4, h5, h6, h7⟩ := row8v HHa.out
  go_upto_if 37 with fail
  clear h0 h1 h2 h3 h4 h5 h6 h7
  go_cut [7] from 38 to 41 (fun tv wx => ∃ sx : Sl, tv = .slice sx.p sx.n sx.c ∧ Bf w wx sx (((((enc mm.kind ++ enc mm.frm) ++ enc mm.dst) ++ encO b1 (enc mm.call)) ++ encO b2 (enc mm.own))) ∧ wx.heap[X]? = some (.cells #[.int .i64 (mm.kind : Nat), .int .i64 (mm.frm : Nat), .int .i64 (mm.dst : Nat), .int .i64 (mm.call : Nat), .int .i64 (mm.rng : Nat), .int .i64 (mm.own : Nat), .string mm.key, .int .i64 (mm.dn : Nat), .int .i64 (mm.dc : Nat), .slice mm.set.p mm.set.n mm.set.c, .slice mm.ws.p mm.ws.n mm.ws.c] 29 (0, 0)) ∧ wx.heap[H]? = some (.cells #[.bool b1, .bool b2, .bool b4, .bool b8, .bool b16, .bool b32, .int .i64 (wk : Nat), .int .i64 (mo : Nat)] 110 (0, 0)))
  case first =>
    cases b2 with
    | false =>
      have HBn : Hid (Bf w w8 s8 (((((enc mm.kind ++ enc mm.frm) ++ enc mm.dst) ++ encO b1 (enc mm.call)) ++ encO false (enc mm.own)))) := by have := HBa.out; unfold Hid; simpa [encO] using this
      go_wp2_with fail
      go_meet
      exact ⟨s8, rfl, HBn.out, HXa.out, HHa.out⟩
    | true =>
      go_wp2_with fail
      clear c0 c1 c2 c3 c4 c5 c6 c7 c8 c9 c10
      refine (wnum_ok HBa.out mm.own (by omega) (HLT.out _ _ ((encO b4 (enc mm.rng) ++ (encO b8 (encT (bsk mm.key)) ++ (encO b16 (enc mm.dn ++ enc mm.dc) ++ (encO b32 (encSet g.set) ++ (encO b128 (enc mm.ws.n) ++ g.ws.flatMap encW)))))) (by rw [HFULL.out]; simp only [encO_true, List.append_assoc, List.nil_append]))).mono ?_
      rintro _ v1 ⟨t1, rfl, hb, hgw⟩
      have HXv := hid (hgw.block HBa.out HXa.out (by decide))
      have HHv := hid (hgw.block HBa.out HHa.out (by decide))
      have HBv := hid hb
      clear hb hgw
      try dsimp only
      go_wp2_with fail
      go_meet
      exact ⟨t1, rfl, by have := HBv.out; simpa [encO] using this, HXv.out, HHv.out⟩
  generalize wc = w9 at *
  obtain ⟨s9, rfl, hb, hx, hh⟩ := hcut
  replace HBa := hid hb
  replace HXa := hid hx
  replace HHa := hid hh
  clear hb hx hh
  clear c0 c1 c2 c3 c4 c5 c6 c7 c8 c9 c10
  obtain ⟨⟨c0, c1, c2, c3, c4, c5⟩, c6, c7, c8, c9, c10⟩ := row11 HXa.out
  obtain ⟨h0, h1, h2, h3, h4, h5, h6, h7⟩ := row8v HHa.out
  go_upto_if 43 with fail
  clear h0 h1 h2 h3 h4 h5 h6 h7
  go_cut [7] from 44 to 47 (fun tv wx => ∃ sx : Sl, tv = .slice sx.p sx.n sx.c ∧ Bf w wx sx ((((((enc mm.kind ++ enc mm.frm) ++ enc mm.dst) ++ encO b1 (enc mm.call)) ++ encO b2 (enc mm.own)) ++ encO b4 (enc mm.rng))) ∧ wx.heap[X]? = some (.cells #[.int .i64 (mm.kind : Nat), .int .i64 (mm.frm : Nat), .int .i64 (mm.dst : Nat), .int .i64 (mm.call : Nat), .int .i64 (mm.rng : Nat), .int .i64 (mm.own : Nat), .string mm.key, .int .i64 (mm.dn : Nat), .int .i64 (mm.dc : Nat), .slice mm.set.p mm.set.n mm.set.c, .slice mm.ws.p mm.ws.n mm.ws.c] 29 (0, 0)) ∧ wx.heap[H]? = some (.cells #[.bool b1, .bool b2, .bool b4, .bool b8, .bool b16, .bool b32, .int .i64 (wk : Nat), .int .i64 (mo : Nat)] 110 (0, 0)))
  case first =>
    cases b4 with
    | false =>
      have HBn : Hid (Bf w w9 s9 ((((((enc mm.kind ++ enc mm.frm) ++ enc mm.dst) ++ encO b1 (enc mm.call)) ++ encO b2 (enc mm.own)) ++ encO false (enc mm.rng)))) := by have := HBa.out; unfold Hid; simpa [encO] using this
      go_wp2_with fail
      go_meet
      exact ⟨s9, rfl, HBn.out, HXa.out, HHa.out⟩
    | true =>
      go_wp2_with fail
      clear c0 c1 c2 c3 c4 c5 c6 c7 c8 c9 c10
      refine (wnum_ok HBa.out mm.rng (by omega) (HLT.out _ _ ((encO b8 (encT (bsk mm.key)) ++ (encO b16 (enc mm.dn ++ enc mm.dc) ++ (encO b32 (encSet g.set) ++ (encO b128 (enc mm.ws.n) ++ g.ws.flatMap encW))))) (by rw [HFULL.out]; simp only [encO_true, List.append_assoc, List.nil_append]))).mono ?_
      rintro _ v1 ⟨t1, rfl, hb, hgw⟩
      have HXv := hid (hgw.block HBa.out HXa.out (by decide))
      have HHv := hid (hgw.block HBa.out HHa.out (by decide))
      have HBv := hid hb
      clear hb hgw
      try dsimp only
      go_wp2_with fail
      go_meet
      exact ⟨t1, rfl, by have := HBv.out; simpa [encO] using this, HXv.out, HHv.out⟩
  generalize wc = w10 at *
  obtain ⟨s10, rfl, hb, hx, hh⟩ := hcut
  replace HBa := hid hb
  replace HXa := hid hx
  replace HHa := hid hh
  clear hb hx hh
  clear c0 c1 c2 c3 c4 c5 c6 c7 c8 c9 c10
  obtain ⟨⟨c0, c1, c2, c3, c4, c5⟩, c6, c7, c8, c9, c10⟩ := row11 HXa.out
  obtain ⟨h0, h1, h2, h3, h4, h5, h6, h7⟩ := row8v HHa.out
  go_upto_if 49 with fail
  clear h0 h1 h2 h3 h4 h5 h6 h7
  go_cut [7] from 50 to 53 (fun tv wx => ∃ sx : Sl, tv = .slice sx.p sx.n sx.c ∧ Bf w wx sx (((((((enc mm.kind ++ enc mm.frm) ++ enc mm.dst) ++ encO b1 (enc mm.call)) ++ encO b2 (enc mm.own)) ++ encO b4 (enc mm.rng)) ++ encO b8 (encT (bsk mm.key)))) ∧ wx.heap[X]? = some (.cells #[.int .i64 (mm.kind : Nat), .int .i64 (mm.frm : Nat), .int .i64 (mm.dst : Nat), .int .i64 (mm.call : Nat), .int .i64 (mm.rng : Nat), .int .i64 (mm.own : Nat), .string mm.key, .int .i64 (mm.dn : Nat), .int .i64 (mm.dc : Nat), .slice mm.set.p mm.set.n mm.set.c, .slice mm.ws.p mm.ws.n mm.ws.c] 29 (0, 0)) ∧ wx.heap[H]? = some (.cells #[.bool b1, .bool b2, .bool b4, .bool b8, .bool b16, .bool b32, .int .i64 (wk : Nat), .int .i64 (mo : Nat)] 110 (0, 0)))
  case first =>
    cases b8 with
    | false =>
      have HBn : Hid (Bf w w10 s10 (((((((enc mm.kind ++ enc mm.frm) ++ enc mm.dst) ++ encO b1 (enc mm.call)) ++ encO b2 (enc mm.own)) ++ encO b4 (enc mm.rng)) ++ encO false (encT (bsk mm.key))))) := by have := HBa.out; unfold Hid; simpa [encO] using this
      go_wp2_with fail
      go_meet
      exact ⟨s10, rfl, HBn.out, HXa.out, HHa.out⟩
    | true =>
      go_wp2_with fail
      clear c0 c1 c2 c3 c4 c5 c6 c7 c8 c9 c10
      refine (wtext_ok HBa.out mm.key (by omega) (HLT.out _ _ ((encO b16 (enc mm.dn ++ enc mm.dc) ++ (encO b32 (encSet g.set) ++ (encO b128 (enc mm.ws.n) ++ g.ws.flatMap encW)))) (by rw [HFULL.out]; simp only [encO_true, List.append_assoc, List.nil_append]))).mono ?_
      rintro _ v1 ⟨t1, rfl, hb, hgw⟩
      have HXv := hid (hgw.block HBa.out HXa.out (by decide))
      have HHv := hid (hgw.block HBa.out HHa.out (by decide))
      have HBv := hid hb
      clear hb hgw
      try dsimp only
      go_wp2_with fail
      go_meet
      exact ⟨t1, rfl, by have := HBv.out; simpa [encO] using this, HXv.out, HHv.out⟩
  generalize wc = w11 at *
  obtain ⟨s11, rfl, hb, hx, hh⟩ := hcut
  replace HBa := hid hb
  replace HXa := hid hx
  replace HHa := hid hh
  clear hb hx hh
  clear c0 c1 c2 c3 c4 c5 c6 c7 c8 c9 c10
  obtain ⟨⟨c0, c1, c2, c3, c4, c5⟩, c6, c7, c8, c9, c10⟩ := row11 HXa.out
  obtain ⟨h0, h1, h2, h3, h4, h5, h6, h7⟩ := row8v HHa.out
  go_upto_if 55 with fail
  clear h0 h1 h2 h3 h4 h5 h6 h7
  go_cut [7] from 56 to 65 (fun tv wx => ∃ sx : Sl, tv = .slice sx.p sx.n sx.c ∧ Bf w wx sx ((((((((enc mm.kind ++ enc mm.frm) ++ enc mm.dst) ++ encO b1 (enc mm.call)) ++ encO b2 (enc mm.own)) ++ encO b4 (enc mm.rng)) ++ encO b8 (encT (bsk mm.key))) ++ encO b16 (enc mm.dn ++ enc mm.dc))) ∧ wx.heap[X]? = some (.cells #[.int .i64 (mm.kind : Nat), .int .i64 (mm.frm : Nat), .int .i64 (mm.dst : Nat), .int .i64 (mm.call : Nat), .int .i64 (mm.rng : Nat), .int .i64 (mm.own : Nat), .string mm.key, .int .i64 (mm.dn : Nat), .int .i64 (mm.dc : Nat), .slice mm.set.p mm.set.n mm.set.c, .slice mm.ws.p mm.ws.n mm.ws.c] 29 (0, 0)) ∧ wx.heap[H]? = some (.cells #[.bool b1, .bool b2, .bool b4, .bool b8, .bool b16, .bool b32, .int .i64 (wk : Nat), .int .i64 (mo : Nat)] 110 (0, 0)))
  case first =>
    cases b16 with
    | false =>
      have HBn : Hid (Bf w w11 s11 ((((((((enc mm.kind ++ enc mm.frm) ++ enc mm.dst) ++ encO b1 (enc mm.call)) ++ encO b2 (enc mm.own)) ++ encO b4 (enc mm.rng)) ++ encO b8 (encT (bsk mm.key))) ++ encO false (enc mm.dn ++ enc mm.dc)))) := by have := HBa.out; unfold Hid; simpa [encO] using this
      go_wp2_with fail
      go_meet
      exact ⟨s11, rfl, HBn.out, HXa.out, HHa.out⟩
    | true =>
      go_wp2_with fail
      clear c0 c1 c2 c3 c4 c5 c6 c7 c8 c9 c10
      refine (wnum_ok HBa.out mm.dn (by omega) (HLT.out _ _ (enc mm.dc ++ (encO b32 (encSet g.set) ++ (encO b128 (enc mm.ws.n) ++ g.ws.flatMap encW))) (by rw [HFULL.out]; simp only [encO_true, List.append_assoc]))).mono ?_
      rintro _ v1 ⟨t1, rfl, hb, hgw⟩
      have HXv := hid (hgw.block HBa.out HXa.out (by decide))
      have HHv := hid (hgw.block HBa.out HHa.out (by decide))
      have HBv := hid hb
      clear hb hgw
      try dsimp only
      obtain ⟨⟨c0, c1, c2, c3, c4, c5⟩, c6, c7, c8, c9, c10⟩ := row11 HXv.out
      go_wp2_with fail
      clear c0 c1 c2 c3 c4 c5 c6 c7 c8 c9 c10
      refine (wnum_ok HBv.out mm.dc (by omega) (HLT.out _ _ ((encO b32 (encSet g.set) ++ (encO b128 (enc mm.ws.n) ++ g.ws.flatMap encW))) (by rw [HFULL.out]; simp only [encO_true, List.append_assoc]))).mono ?_
      rintro _ v2 ⟨t2, rfl, hb, hgw⟩
      have HXu := hid (hgw.block HBv.out HXv.out (by decide))
      have HHu := hid (hgw.block HBv.out HHv.out (by decide))
      have HBu := hid hb
      clear hb hgw
      try dsimp only
      go_wp2_with fail
      go_meet
      exact ⟨t2, rfl, by have := HBu.out; simpa [encO] using this, HXu.out, HHu.out⟩
  generalize wc = w12 at *
  obtain ⟨s12, rfl, hb, hx, hh⟩ := hcut
  replace HBa := hid hb
  replace HXa := hid hx
  replace HHa := hid hh
  clear hb hx hh
  clear c0 c1 c2 c3 c4 c5 c6 c7 c8 c9 c10
  obtain ⟨⟨c0, c1, c2, c3, c4, c5⟩, c6, c7, c8, c9, c10⟩ := row11 HXa.out
  obtain ⟨h0, h1, h2, h3, h4, h5, h6, h7⟩ := row8v HHa.out
  go_upto_if 67 with fail
  clear h0 h1 h2 h3 h4 h5 h6 h7
  go_cut [7] from 68 to 71 (fun tv wx => ∃ sx : Sl, tv = .slice sx.p sx.n sx.c ∧ Bf w wx sx (((((((((enc mm.kind ++ enc mm.frm) ++ enc mm.dst) ++ encO b1 (enc mm.call)) ++ encO b2 (enc mm.own)) ++ encO b4 (enc mm.rng)) ++ encO b8 (encT (bsk mm.key))) ++ encO b16 (enc mm.dn ++ enc mm.dc)) ++ encO b32 (encSet g.set))) ∧ wx.heap[X]? = some (.cells #[.int .i64 (mm.kind : Nat), .int .i64 (mm.frm : Nat), .int .i64 (mm.dst : Nat), .int .i64 (mm.call : Nat), .int .i64 (mm.rng : Nat), .int .i64 (mm.own : Nat), .string mm.key, .int .i64 (mm.dn : Nat), .int .i64 (mm.dc : Nat), .slice mm.set.p mm.set.n mm.set.c, .slice mm.ws.p mm.ws.n mm.ws.c] 29 (0, 0)) ∧ wx.heap[H]? = some (.cells #[.bool b1, .bool b2, .bool b4, .bool b8, .bool b16, .bool b32, .int .i64 (wk : Nat), .int .i64 (mo : Nat)] 110 (0, 0)))
  case first =>
    cases b32 with
    | false =>
      have HBn : Hid (Bf w w12 s12 (((((((((enc mm.kind ++ enc mm.frm) ++ enc mm.dst) ++ encO b1 (enc mm.call)) ++ encO b2 (enc mm.own)) ++ encO b4 (enc mm.rng)) ++ encO b8 (encT (bsk mm.key))) ++ encO b16 (enc mm.dn ++ enc mm.dc)) ++ encO false (encSet g.set)))) := by have := HBa.out; unfold Hid; simpa [encO] using this
      go_wp2_with fail
      go_meet
      exact ⟨s12, rfl, HBn.out, HXa.out, HHa.out⟩
    | true =>
      obtain ⟨sp, sc, hse, hsl, hs1000, hspos⟩ := HSET.out (by simp)
      have HSE := hid hse
      have HSLL := hid hsl
      have HSPOS := hid hspos
      have hc := wset_ok (c := sc) HBa.out g.set HSLL.out (by omega) HSPOS.out (HLT.out _ _ ((encO b128 (enc mm.ws.n) ++ g.ws.flatMap encW)) (by rw [HFULL.out]; simp only [encO_true, List.append_assoc, List.nil_append]))
      rw [← HSE.out] at hc
      have HCS := hid hc
      clear hse hsl hspos hc
      go_wp2_with fail
      clear c0 c1 c2 c3 c4 c5 c6 c7 c8 c9 c10
      refine HCS.out.mono ?_
      rintro _ v1 ⟨t1, rfl, hb, hgw⟩
      have HXv := hid (hgw.block HBa.out HXa.out (by decide))
      have HHv := hid (hgw.block HBa.out HHa.out (by decide))
      have HBv := hid hb
      clear hb hgw
      try dsimp only
      go_wp2_with fail
      go_meet
      exact ⟨t1, rfl, by have := HBv.out; simpa [encO] using this, HXv.out, HHv.out⟩
  generalize wc = w13 at *
  obtain ⟨s13, rfl, hb, hx, hh⟩ := hcut
  replace HBa := hid hb
  replace HXa := hid hx
  replace HHa := hid hh
  clear hb hx hh
  clear c0 c1 c2 c3 c4 c5 c6 c7 c8 c9 c10
  obtain ⟨⟨c0, c1, c2, c3, c4, c5⟩, c6, c7, c8, c9, c10⟩ := row11 HXa.out
  obtain ⟨h0, h1, h2, h3, h4, h5, h6, h7⟩ := row8v HHa.out
  go_upto_if 74 with fail
  rw [HWK.out]
  clear h0 h1 h2 h3 h4 h5 h6 h7
  go_cut [7] from 75 to 79 (fun tv wx => ∃ sx : Sl, tv = .slice sx.p sx.n sx.c ∧ Bf w wx sx ((((((((((enc mm.kind ++ enc mm.frm) ++ enc mm.dst) ++ encO b1 (enc mm.call)) ++ encO b2 (enc mm.own)) ++ encO b4 (enc mm.rng)) ++ encO b8 (encT (bsk mm.key))) ++ encO b16 (enc mm.dn ++ enc mm.dc)) ++ encO b32 (encSet g.set)) ++ encO b128 (enc mm.ws.n))) ∧ wx.heap[X]? = some (.cells #[.int .i64 (mm.kind : Nat), .int .i64 (mm.frm : Nat), .int .i64 (mm.dst : Nat), .int .i64 (mm.call : Nat), .int .i64 (mm.rng : Nat), .int .i64 (mm.own : Nat), .string mm.key, .int .i64 (mm.dn : Nat), .int .i64 (mm.dc : Nat), .slice mm.set.p mm.set.n mm.set.c, .slice mm.ws.p mm.ws.n mm.ws.c] 29 (0, 0)))
  case first =>
    cases b128 with
    | false =>
      have HBn : Hid (Bf w w13 s13 ((((((((((enc mm.kind ++ enc mm.frm) ++ enc mm.dst) ++ encO b1 (enc mm.call)) ++ encO b2 (enc mm.own)) ++ encO b4 (enc mm.rng)) ++ encO b8 (encT (bsk mm.key))) ++ encO b16 (enc mm.dn ++ enc mm.dc)) ++ encO b32 (encSet g.set)) ++ encO false (enc mm.ws.n)))) := by have := HBa.out; unfold Hid; simpa [encO] using this
      go_wp2_with fail
      go_meet
      exact ⟨s13, rfl, HBn.out, HXa.out⟩
    | true =>
      go_wp2_with fail
      clear c0 c1 c2 c3 c4 c5 c6 c7 c8 c9 c10
      refine (wnum_ok HBa.out mm.ws.n (by omega) (HLT.out _ _ (g.ws.flatMap encW) (by rw [HFULL.out]; simp only [encO_true, List.append_assoc, List.nil_append]))).mono ?_
      rintro _ v1 ⟨t1, rfl, hb, hgw⟩
      have HXv := hid (hgw.block HBa.out HXa.out (by decide))
      have HBv := hid hb
      clear hb hgw
      try dsimp only
      go_wp2_with fail
      go_meet
      exact ⟨t1, rfl, by have := HBv.out; simpa [encO] using this, HXv.out⟩
  generalize wc = w14 at *
  obtain ⟨s14, rfl, hb, hx⟩ := hcut
  replace HBa := hid hb
  replace HXa := hid hx
  clear hb hx HHa
  clear c0 c1 c2 c3 c4 c5 c6 c7 c8 c9 c10
  go_wp2_with fail
  go_loopw [7, 8] (fun a b wt => ∃ (i : Nat) (sx : Sl), a = .slice sx.p sx.n sx.c ∧ b = .int .i64 (i : Nat) ∧ i ≤ mm.ws.n ∧ Bf w wt sx ((((((((((enc mm.kind ++ enc mm.frm) ++ enc mm.dst) ++ encO b1 (enc mm.call)) ++ encO b2 (enc mm.own)) ++ encO b4 (enc mm.rng)) ++ encO b8 (encT (bsk mm.key))) ++ encO b16 (enc mm.dn ++ enc mm.dc)) ++ encO b32 (encSet g.set)) ++ encO b128 (enc mm.ws.n)) ++ (g.ws.take i).flatMap encW) ∧ wt.heap[X]? = some (.cells #[.int .i64 (mm.kind : Nat), .int .i64 (mm.frm : Nat), .int .i64 (mm.dst : Nat), .int .i64 (mm.call : Nat), .int .i64 (mm.rng : Nat), .int .i64 (mm.own : Nat), .string mm.key, .int .i64 (mm.dn : Nat), .int .i64 (mm.dc : Nat), .slice mm.set.p mm.set.n mm.set.c, .slice mm.ws.p mm.ws.n mm.ws.c] 29 (0, 0))) (fun _ b _ => mm.ws.n - (intOf b).toNat)
  case atStart => exact ⟨0, s14, rfl, rfl, Nat.zero_le _, by have := HBa.out; simpa using this, HXa.out⟩
  case round =>
    obtain ⟨i, sx, rfl, rfl, hi, hb, hx⟩ := hrel
    have HBr := hid hb
    have HXr := hid hx
    clear hb hx
    obtain ⟨⟨c0, c1, c2, c3, c4, c5⟩, c6, c7, c8, c9, c10⟩ := row11 HXr.out
    by_cases hlt : i < mm.ws.n
    · have hlti : ((i : Nat) : Int) < (mm.ws.n : Int) := by omega
      obtain ⟨PP, o, hPp, hPl, d0, d1, d2, d3, d4, d5⟩ := (HRW.out.kept0 HBr.out.nw.ap).cells i hlt
      obtain ⟨e, He⟩ : ∃ e, Hid (e = gE es i) := ⟨_, rfl⟩
      rw [← He.out] at d0 d1 d2 d3 d4 d5
      have HRD : Hid (Reads w e (gR g.ws i)) := by unfold Hid; rw [He.out]; exact HRW.out.each i hlt
      have HTK : Hid (g.ws.take (i + 1) = g.ws.take i ++ [gR g.ws i]) := by
        have hi2 : i < g.ws.length := by rw [HRW.out.rl]; exact hlt
        unfold Hid
        rw [List.take_add_one, List.getElem?_eq_getElem hi2, gR_eq _ _ hi2]; rfl
      have HLE : Hid (((((((((((enc mm.kind ++ enc mm.frm) ++ enc mm.dst) ++ encO b1 (enc mm.call)) ++ encO b2 (enc mm.own)) ++ encO b4 (enc mm.rng)) ++ encO b8 (encT (bsk mm.key))) ++ encO b16 (enc mm.dn ++ enc mm.dc)) ++ encO b32 (encSet g.set)) ++ encO b128 (enc mm.ws.n)) ++ (g.ws.take i).flatMap encW).length + (encW (gR g.ws i)).length ≤ 1099511627776) := HLT.out _ _ ((g.ws.drop (i + 1)).flatMap encW) (by
        rw [HFULL.out]
        have h1 : g.ws.flatMap encW = (g.ws.take (i + 1)).flatMap encW ++ (g.ws.drop (i + 1)).flatMap encW := by rw [← List.flatMap_append, List.take_append_drop]
        rw [h1, HTK.out]
        simp only [List.flatMap_append, List.flatMap_cons, List.flatMap_nil, List.append_nil, List.append_assoc])
      rw [hPp] at c10
      have HC := hid (wwrite_ok HBr.out e (gR g.ws i) HRD.out (HGOOD.out i hlt) HLE.out)
      unfold aggE at HC
      go_wp2_with fail
      clear c0 c1 c2 c3 c4 c5 c6 c7 c8 c9 c10
      clear d0 d1 d2 d3 d4 d5
      refine HC.out.mono ?_
      rintro _ v1 ⟨t1, rfl, hb, hgw⟩
      have HXv := hid (hgw.block HBr.out HXr.out (by decide))
      have HBv := hid hb
      clear hb hgw
      try dsimp only
      go_wp2_with fail
      go_roundw
      case rel => exact ⟨i + 1, t1, rfl, by go_num, by omega, by have := HBv.out; rw [HTK.out]; simpa [List.flatMap_append] using this, HXv.out⟩
      case measure => simp [intOf]; omega
    · have hlti : ¬ ((i : Nat) : Int) < (mm.ws.n : Int) := by omega
      have HFIN : Hid (Bf w wr sx (encM g)) := by
        unfold Hid
        rw [HFULL.out]
        have := HBr.out
        rw [List.take_of_length_le (by rw [HRW.out.rl]; omega)] at this
        exact this
      go_wp2_with fail
      go_ret2
      exact ⟨sx, rfl, HFIN.out⟩
theorem rencode_ok (w : World) (m : MI) (xs : List S) (es : List E) (rs : List Wr) (hm : RMI w m xs es rs) (v : Bool) (hv : v = true ↔ VI m xs rs) (mm : MM) (g : Mg) (hg : v = true → m.cs = mm.cs ∧ VMg g ∧ RM w mm g es) : Calls Try.prog 35 #[.agg #[.int .i64 m.kind, .int .i64 m.frm, .int .i64 m.dst, .int .i64 m.call, .int .i64 m.rng, .int .i64 m.own, .string m.key, .int .i64 m.dn, .int .i64 m.dc, .slice m.set.p m.set.n m.set.c, .slice m.ws.p m.ws.n m.ws.c]] w fun r w' => PutP w v 61 (encM g) r w' := by
  cases v with
  | true =>
    obtain ⟨h1, h2, h3⟩ := hg rfl
    have e : (Value.agg #[.int .i64 m.kind, .int .i64 m.frm, .int .i64 m.dst, .int .i64 m.call, .int .i64 m.rng, .int .i64 m.own, .string m.key, .int .i64 m.dn, .int .i64 m.dc, .slice m.set.p m.set.n m.set.c, .slice m.ws.p m.ws.n m.ws.c]) = .agg mm.cs := congrArg Value.agg h1
    have HV : ∀ W, Apart [] w W → Calls Try.prog 30 #[.agg #[.int .i64 (mm.kind : Nat), .int .i64 (mm.frm : Nat), .int .i64 (mm.dst : Nat), .int .i64 (mm.call : Nat), .int .i64 (mm.rng : Nat), .int .i64 (mm.own : Nat), .string mm.key, .int .i64 (mm.dn : Nat), .int .i64 (mm.dc : Nat), .slice mm.set.p mm.set.n mm.set.c, .slice mm.ws.p mm.ws.n mm.ws.c]] W fun r w' => r = .returned (.bool true) ∧ Apart [] W w' := fun W a => (by
      have := rvalidM_ok W m xs es rs (hm.kept0 a) true hv
      rw [e] at this
      exact this)
    rw [e]
    refine (rencode_yes w mm g es h3 h2 HV).mono ?_
    rintro r w' ⟨s, hr, hb⟩
    exact ⟨hb.nw.ap, fun _ => ⟨s, hr, hb⟩, fun h => (by simp at h)⟩
  | false =>
    obtain ⟨X, HX⟩ : ∃ X, Hid (X = w.heap.size) := ⟨_, rfl⟩
    obtain ⟨w1, hw1⟩ : ∃ w1, w1 = w.alloc (.cells #[.int .i64 m.kind, .int .i64 m.frm, .int .i64 m.dst, .int .i64 m.call, .int .i64 m.rng, .int .i64 m.own, .string m.key, .int .i64 m.dn, .int .i64 m.dc, .slice m.set.p m.set.n m.set.c, .slice m.ws.p m.ws.n m.ws.c] 29) := ⟨_, rfl⟩
    have HA1 : Hid (Apart [] w w1) := by unfold Hid; rw [hw1]; exact (Apart.refl [] w).alloc _
    have HX1 : Hid (w1.heap[X]? = some (.cells #[.int .i64 m.kind, .int .i64 m.frm, .int .i64 m.dst, .int .i64 m.call, .int .i64 m.rng, .int .i64 m.own, .string m.key, .int .i64 m.dn, .int .i64 m.dc, .slice m.set.p m.set.n m.set.c, .slice m.ws.p m.ws.n m.ws.c] 29 (0, 0))) := by unfold Hid; rw [HX.out, hw1]; exact heap_alloc_new w _
    have HC := hid (rvalidM_ok w1 m xs es rs (hm.kept0 HA1.out) false hv)
    clear hm hv hg
    obtain ⟨⟨c0, c1, c2, c3, c4, c5⟩, c6, c7, c8, c9, c10⟩ := row11 HX1.out
    go_enter Try.func35, Try.ntmps35
    go_upto_region 1 with fail
    rw [← hw1, ← HX.out]
    clear hw1
    go_wp2_with fail
    refine HC.out.mono ?_
    rintro _ w2 ⟨rfl, ha2⟩
    have HA2 : Hid (Apart [] w w2) := HA1.out.trans ha2
    clear ha2
    try dsimp only
    go_wp2_with fail
    go_ret2
    exact ⟨HA2.out, fun h => (by simp at h), fun _ => rfl⟩
end Go.Proofs.Ytddffdcjhleejaa.ds
