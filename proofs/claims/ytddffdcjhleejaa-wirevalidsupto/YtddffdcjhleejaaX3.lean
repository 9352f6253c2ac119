import Derived.Test.YtddffdcjhleejaaX2
import Derived.Test.YtddffdcjhleejaaX1
namespace Go.Proofs.Ytddffdcjhleejaa.ds
open Go.ChangeShapes Go.WideShapes Go.ChangeAt Go.RowKit Go.Sort
set_option linter.unusedVariables false
set_option linter.unusedSimpArgs false
theorem byteArray_nil {k : ByteArray} (h : ¬ 1 ≤ k.size) : k = ⟨#[]⟩ := by
  apply toList_inj
  have : (bsk k).length = 0 := by rw [bsk_len]; omega
  have h2 : k.toList.length = 0 := by simpa [bsk] using this
  rw [List.eq_nil_of_length_eq_zero h2]
  simp [ByteArray.toList_eq]
/-- a message that came in, and is one -/
theorem VI.mg {w : World} {m : MI} {xs : List S} {es : List E} {rs : List Wr} (h : VI m xs rs) (hm : RMI w m xs es rs) : ∃ (mm : MM) (g : Mg), m.cs = mm.cs ∧ VMg g ∧ RM w mm g es ∧ g.set = xs ∧ g.ws = rs := by
  obtain ⟨hk, ⟨⟨f0, f1⟩, t0, t1⟩, ⟨u1, u2, u3⟩, ⟨k1, k2⟩, ⟨d1, d2⟩, ⟨s1, s2, s3⟩, ⟨n1, n2⟩, l1, l2⟩ := h
  obtain ⟨kind, frm, dst, call, rng, own, key, dn, dc, set, ws⟩ := m
  simp only at hk f0 f1 t0 t1 u1 u2 u3 k1 k2 d1 d2 s1 s2 s3 n1 n2 l1 l2
  have hd0 : 0 ≤ dn ∧ 0 ≤ dc := by
    cases h16 : hasF kind.toNat 16 with
    | true => obtain ⟨⟨a, _⟩, b, _⟩ := d1.1 h16; exact ⟨a, by omega⟩
    | false => obtain ⟨a, b⟩ := d2 h16; omega
  obtain ⟨c0, c1⟩ := u1
  obtain ⟨o0, o1⟩ := u2
  obtain ⟨r0, r1⟩ := u3
  have hrl := hm.ws.rl
  have hxl := hm.set.len
  simp only at hrl hxl
  refine ⟨⟨kind.toNat, frm.toNat, dst.toNat, call.toNat, rng.toNat, own.toNat, key, dn.toNat, dc.toNat, set, ws⟩, ⟨kind.toNat, frm.toNat, dst.toNat, call.toNat, rng.toNat, own.toNat, bsk key, dn.toNat, dc.toNat, xs, rs⟩, ?_, ⟨?_, ?_, ?_, ?_, ?_, ?_, ?_, ?_, ?_, ?_⟩, ⟨rfl, rfl, rfl, rfl, rfl, rfl, (strB_bsk key).symm, bsk_lt key, rfl, rfl, hm.set, hm.ws, hm.so⟩, rfl, rfl⟩
  · unfold MI.cs MM.cs
    simp only
    rw [Int.toNat_of_nonneg (by omega : 0 ≤ kind), Int.toNat_of_nonneg f0, Int.toNat_of_nonneg t0, Int.toNat_of_nonneg c0, Int.toNat_of_nonneg r0, Int.toNat_of_nonneg o0, Int.toNat_of_nonneg hd0.1, Int.toNat_of_nonneg hd0.2]
  · simp only; omega
  · simp only; omega
  · simp only; omega
  · simp only
    split
    · rcases c1 with ⟨_, c1⟩ | c1 <;> omega
    · rename_i hh; rcases c1 with ⟨hb, c1⟩ | c1
      · exact absurd hb hh
      · omega
  · simp only
    split
    · rcases o1 with ⟨_, o1⟩ | o1 <;> omega
    · rename_i hh; rcases o1 with ⟨hb, o1⟩ | o1
      · exact absurd hb hh
      · omega
  · simp only
    split
    · rcases r1 with ⟨_, r1⟩ | r1 <;> omega
    · rename_i hh; rcases r1 with ⟨hb, r1⟩ | r1
      · exact absurd hb hh
      · omega
  · simp only
    rw [bsk_len]
    split
    · rename_i hh; exact ⟨k1.1 hh, k2⟩
    · rename_i hh
      have : ¬ 1 ≤ key.size := fun h => hh (k1.2 h)
      rw [byteArray_nil this]; exact List.eq_nil_of_length_eq_zero (by rw [bsk_len]; rfl)
  · simp only
    split
    · rename_i hh; obtain ⟨⟨a, b⟩, c, d⟩ := d1.1 hh; omega
    · rename_i hh
      obtain ⟨a, b⟩ := d2 (by simpa using hh)
      simp [a, b]
  · simp only
    split
    · exact ⟨s1, fun h => s3 (by omega)⟩
    · rename_i hh
      have := s2 (by simpa using hh)
      exact List.eq_nil_of_length_eq_zero (by omega)
  · simp only
    rw [strB_bsk]
    have hno := hasF_not kind.toNat
    by_cases h128 : hasF kind.toNat 128 = true
    · rw [if_pos h128]
      have hwr : wrK kind.toNat = 2 := by unfold wrK; rw [if_pos h128]
      refine ⟨by unfold moK at l1; rw [hwr] at l1; simpa using l1, ?_⟩
      by_cases h57 : kind = 5 ∨ kind = 7
      · rw [if_pos h57] at l2; exact l2
      · rw [if_neg h57] at l2
        have h8 : hasF kind.toNat 8 = false := by
          have hkk : kind.toNat = 1 ∨ kind.toNat = 2 ∨ kind.toNat = 3 ∨ kind.toNat = 4 ∨ kind.toNat = 6 ∨ kind.toNat = 8 ∨ kind.toNat = 9 ∨ kind.toNat = 10 ∨ kind.toNat = 11 := by omega
          rcases hkk with e | e | e | e | e | e | e | e | e <;> rw [e] at h128 ⊢ <;> revert h128 <;> decide
        have : key = ⟨#[]⟩ := byteArray_nil (fun h => by have := k1.2 h; rw [h8] at this; cases this)
        rw [this]; exact l2
    · rw [if_neg h128]
      by_cases h64 : hasF kind.toNat 64 = true
      · rw [if_pos h64]
        have hwr : wrK kind.toNat = 1 := by unfold wrK; rw [if_neg h128, if_pos h64]
        have hl : rs.length = 1 := by rw [hrl]; exact n1 hwr
        match rs, hl with
        | [r], _ => exact ⟨r, rfl, l2.1.1⟩
      · rw [if_neg h64]
        have hwr : wrK kind.toNat = 0 := by unfold wrK; rw [if_neg h128, if_neg h64]
        exact List.eq_nil_of_length_eq_zero (by rw [hrl]; exact n2 hwr)
/-- the copy of such a message -/
theorem TwP.rm {w w' : World} {m : MI} {xs : List S} {es : List E} {rs : List Wr} {mm : MM} {g : Mg} {a : Ending} (h : TwP w m xs rs a w') (hm : RM w mm g es) (e1 : m.cs = mm.cs) (hx : g.set = xs) (hw : g.ws = rs) : ∃ (m2 : MM) (es2 : List E), a = .returned (.agg m2.cs) ∧ RM w' m2 g es2 ∧ Apart [] w w' := by
  obtain ⟨s0, wl, el, es2, ps, ha, hT⟩ := h
  obtain ⟨kind, frm, dst, call, rng, own, key, dn, dc, set, ws⟩ := m
  obtain ⟨k', f', t', c', r', o', ky', n', d', st', ws'⟩ := mm
  simp only [MI.cs, MM.cs, Array.mk.injEq, List.cons.injEq, Value.int.injEq, true_and, and_true] at e1
  obtain ⟨e0, e1, e2, e3, e4, e5, e6, e7, e8, e9, e10⟩ := e1
  refine ⟨⟨k', f', t', c', r', o', ky', n', d', ⟨s0.p, xs.length, s0.c⟩, ⟨wl.p, rs.length, wl.c⟩⟩, es2, ?_, ?_, hT.fs.nw.ap⟩
  · rw [ha]
    simp only [MI.cs, MM.cs, e0, e1, e2, e3, e4, e5, e6, e7, e8]
  · have hR := hT.rmi ⟨0, 0, 0, 0, 0, 0, ⟨#[]⟩, 0, 0, ⟨s0.p, xs.length, s0.c⟩, ⟨wl.p, rs.length, wl.c⟩⟩ rfl rfl
    exact ⟨hm.kind, hm.frm, hm.dst, hm.call, hm.rng, hm.own, hm.key, hm.k8, hm.dn, hm.dc, by rw [hx]; exact hR.set, by rw [hw]; exact hR.ws, hR.so⟩
end Go.Proofs.Ytddffdcjhleejaa.ds
