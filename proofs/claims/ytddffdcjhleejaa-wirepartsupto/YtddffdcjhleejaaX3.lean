import Derived.Test.YtddffdcjhleejaaX2
import Derived.Test.YtddffdcjhleejaaX1
namespace Go.Proofs.Ytddffdcjhleejaa.ds
open Go.ChangeShapes Go.WideShapes Go.ChangeAt Go.RowKit Go.Sort
set_option linter.unusedVariables false
set_option linter.unusedSimpArgs false
theorem byteArray_nil {k : ByteArray} (h : ¬ 1 ≤ k.size) : k = ⟨#[]⟩ := by
  apply toList_inj
  have : (bsk k).length = 0 := by rw [bsk_len]; omega
  have h2 : k.toList.length = 0 := by simpa [bsk] using this
  rw [List.eq_nil_of_length_eq_zero h2]
  simp [ByteArray.toList_eq]
/-- a message that came in, and is one -/
theorem VI.mg {w : World} {m : MI} {xs : List S} {es : List E} {rs : List Wr} (h : VI m xs rs) (hm : RMI w m xs es rs) : ∃ (mm : MM) (g : Mg), m.cs = mm.cs ∧ VMg g ∧ RM w mm g es ∧ g.set = xs ∧ g.ws = rs := by
  obtain ⟨hk, ⟨⟨f0, f1⟩, t0, t1⟩, ⟨u1, u2, u3⟩, ⟨k1, k2⟩, ⟨d1, d2⟩, ⟨s1, s2, s3⟩, ⟨n1, n2⟩, l1, l2⟩ := h
  obtain ⟨kind, frm, dst, call, rng, own, key, dn, dc, set, ws⟩ := m
  simp only at hk f0 f1 t0 t1 u1 u2 u3 k1 k2 d1 d2 s1 s2 s3 n1 n2 l1 l2
  have hd0 : 0 ≤ dn ∧ 0 ≤ dc := by
    cases h16 : hasF kind.toNat 16 with
    | true => obtain ⟨⟨a, _⟩, b, _⟩ := d1.1 h16; exact ⟨a, by omega⟩
    | false => obtain ⟨a, b⟩ := d2 h16; omega
  obtain ⟨c0, c1⟩ := u1
  obtain ⟨o0, o1⟩ := u2
  obtain ⟨r0, r1⟩ := u3
  have hrl := hm.ws.rl
  have hxl := hm.set.len
  simp only at hrl hxl
  refine ⟨⟨kind.toNat, frm.toNat, dst.toNat, call.toNat, rng.toNat, own.toNat, key, dn.toNat, dc.toNat, set, ws⟩, ⟨kind.toNat, frm.toNat, dst.toNat, call.toNat, rng.toNat, own.toNat, bsk key, dn.toNat, dc.toNat, xs, rs⟩, ?_, ⟨?_, ?_, ?_, ?_, ?_, ?_, ?_, ?_, ?_, ?_⟩, ⟨rfl, rfl, rfl, rfl, rfl, rfl, (strB_bsk key).symm, bsk_lt key, rfl, rfl, hm.set, hm.ws, hm.so⟩, rfl, rfl⟩
  · unfold MI.cs MM.cs
    simp only
    rw [Int.toNat_of_nonneg (by omega : 0 ≤ kind), Int.toNat_of_nonneg f0, Int.toNat_of_nonneg t0, Int.toNat_of_nonneg c0, Int.toNat_of_nonneg r0, Int.toNat_of_nonneg o0, Int.toNat_of_nonneg hd0.1, Int.toNat_of_nonneg hd0.2]
  · simp only; omega
  · simp only; omega
  · simp only; omega
  · simp only
    split
    · rcases c1 with ⟨_, c1⟩ | c1 <;> omega
    · rename_i hh; rcases c1 with ⟨hb, c1⟩ | c1
      · exact absurd hb hh
      · omega
  · simp only
    split
    · rcases o1 with ⟨_, o1⟩ | o1 <;> omega
    · rename_i hh; rcases o1 with ⟨hb, o1⟩ | o1
      · exact absurd hb hh
      · omega
  · simp only
    split
    · rcases r1 with ⟨_, r1⟩ | r1 <;> omega
    · rename_i hh; rcases r1 with ⟨hb, r1⟩ | r1
      · exact absurd hb hh
      · omega
  · simp only
    rw [bsk_len]
    split
    · rename_i hh; exact ⟨k1.1 hh, k2⟩
    · rename_i hh
      have : ¬ 1 ≤ key.size := fun h => hh (k1.2 h)
      rw [byteArray_nil this]; exact List.eq_nil_of_length_eq_zero (by rw [bsk_len]; rfl)
  · simp only
    split
    · rename_i hh; obtain ⟨⟨a, b⟩, c, d⟩ := d1.1 hh; omega
    · rename_i hh
      obtain ⟨a, b⟩ := d2 (by simpa using hh)
      simp [a, b]
  · simp only
    split
    · exact ⟨s1, fun h => s3 (by omega)⟩
    · rename_i hh
      have := s2 (by simpa using hh)
      exact List.eq_nil_of_length_eq_zero (by omega)
  · simp only
    rw [strB_bsk]
    have hno := hasF_not kind.toNat
    by_cases h128 : hasF kind.toNat 128 = true
    · rw [if_pos h128]
      have hwr : wrK kind.toNat = 2 := by unfold wrK; rw [if_pos h128]
      refine ⟨by unfold moK at l1; rw [hwr] at l1; simpa using l1, ?_⟩
      by_cases h57 : kind = 5 ∨ kind = 7
      · rw [if_pos h57] at l2; exact l2
      · rw [if_neg h57] at l2
        have h8 : hasF kind.toNat 8 = false := by
          have hkk : kind.toNat = 1 ∨ kind.toNat = 2 ∨ kind.toNat = 3 ∨ kind.toNat = 4 ∨ kind.toNat = 6 ∨ kind.toNat = 8 ∨ kind.toNat = 9 ∨ kind.toNat = 10 ∨ kind.toNat = 11 := by omega
          rcases hkk with e | e | e | e | e | e | e | e | e <;> rw [e] at h128 ⊢ <;> revert h128 <;> decide
        have : key = ⟨#[]⟩ := byteArray_nil (fun h => by have := k1.2 h; rw [h8] at this; cases this)
        rw [this]; exact l2
    · rw [if_neg h128]
      by_cases h64 : hasF kind.toNat 64 = true
      · rw [if_pos h64]
        have hwr : wrK kind.toNat = 1 := by unfold wrK; rw [if_neg h128, if_pos h64]
        have hl : rs.length = 1 := by rw [hrl]; exact n1 hwr
        match rs, hl with
        | [r], _ => exact ⟨r, rfl, l2.1.1⟩
      · rw [if_neg h64]
        have hwr : wrK kind.toNat = 0 := by unfold wrK; rw [if_neg h128, if_neg h64]
        exact List.eq_nil_of_length_eq_zero (by rw [hrl]; exact n2 hwr)
/-- the copy of such a message -/
theorem TwP.rm {w w' : World} {m : MI} {xs : List S} {es : List E} {rs : List Wr} {mm : MM} {g : Mg} {a : Ending} (h : TwP w m xs rs a w') (hm : RM w mm g es) (e1 : m.cs = mm.cs) (hx : g.set = xs) (hw : g.ws = rs) : ∃ (m2 : MM) (es2 : List E), a = .returned (.agg m2.cs) ∧ RM w' m2 g es2 ∧ Apart [] w w' := by
  obtain ⟨s0, wl, el, es2, ps, ha, hT⟩ := h
  obtain ⟨kind, frm, dst, call, rng, own, key, dn, dc, set, ws⟩ := m
  obtain ⟨k', f', t', c', r', o', ky', n', d', st', ws'⟩ := mm
  simp only [MI.cs, MM.cs, Array.mk.injEq, List.cons.injEq, Value.int.injEq, true_and, and_true] at e1
  obtain ⟨e0, e1, e2, e3, e4, e5, e6, e7, e8, e9, e10⟩ := e1
  refine ⟨⟨k', f', t', c', r', o', ky', n', d', ⟨s0.p, xs.length, s0.c⟩, ⟨wl.p, rs.length, wl.c⟩⟩, es2, ?_, ?_, hT.fs.nw.ap⟩
  · rw [ha]
    simp only [MI.cs, MM.cs, e0, e1, e2, e3, e4, e5, e6, e7, e8]
  · have hR := hT.rmi ⟨0, 0, 0, 0, 0, 0, ⟨#[]⟩, 0, 0, ⟨s0.p, xs.length, s0.c⟩, ⟨wl.p, rs.length, wl.c⟩⟩ rfl rfl
    exact ⟨hm.kind, hm.frm, hm.dst, hm.call, hm.rng, hm.own, hm.key, hm.k8, hm.dn, hm.dc, by rw [hx]; exact hR.set, by rw [hw]; exact hR.ws, hR.so⟩
end Go.Proofs.Ytddffdcjhleejaa.ds
namespace Go.Proofs.Ytddffdcjhleejaa.ds
open Go.ChangeShapes Go.WideShapes Go.ChangeAt Go.RowKit Go.Sort
set_option linter.unusedVariables false
set_option linter.unusedSimpArgs false
theorem dec_enc {g : Mg} (hg : VMg g) (h8 : ∀ b ∈ encM g, b < 256) : rmsg (encM g) 0 = .ok (g, (encM g).length) := (rmsg_iff h8 0 g _).2 ⟨hg, St.whole, rfl⟩
theorem encM_pos (g : Mg) : 1 ≤ (encM g).length := by
  unfold encM
  have := enc_pos g.kind
  simp only [List.length_append]
  omega
set_option maxHeartbeats 16000000 in
set_option maxRecDepth 100000 in
theorem back_walk (w : World) (m : MI) (xs : List S) (es : List E) (rs : List Wr) (hm : RMI w m xs es rs) : Calls Try.prog 8 #[.agg m.cs] w fun r w' => r = .returned (.bool true) ∧ Apart [] w w' := by
  by_cases hV : VI m xs rs
  · obtain ⟨mm, g, e1, hg, hr, hgx, hgw⟩ := hV.mg hm
    have HCv : Hid (∀ W, Apart [] w W → Calls Try.prog 30 #[.agg #[.int .i64 (mm.kind : Nat), .int .i64 (mm.frm : Nat), .int .i64 (mm.dst : Nat), .int .i64 (mm.call : Nat), .int .i64 (mm.rng : Nat), .int .i64 (mm.own : Nat), .string mm.key, .int .i64 (mm.dn : Nat), .int .i64 (mm.dc : Nat), .slice mm.set.p mm.set.n mm.set.c, .slice mm.ws.p mm.ws.n mm.ws.c]] W fun r w' => r = .returned (.bool true) ∧ Apart [] W w') := fun W a => by
      have := rvalidM_ok W m xs es rs (hm.kept0 a) true (by simp [hV])
      have e2 : (#[.int .i64 m.kind, .int .i64 m.frm, .int .i64 m.dst, .int .i64 m.call, .int .i64 m.rng, .int .i64 m.own, .string m.key, .int .i64 m.dn, .int .i64 m.dc, .slice m.set.p m.set.n m.set.c, .slice m.ws.p m.ws.n m.ws.c] : Array Value) = #[.int .i64 (mm.kind : Nat), .int .i64 (mm.frm : Nat), .int .i64 (mm.dst : Nat), .int .i64 (mm.call : Nat), .int .i64 (mm.rng : Nat), .int .i64 (mm.own : Nat), .string mm.key, .int .i64 (mm.dn : Nat), .int .i64 (mm.dc : Nat), .slice mm.set.p mm.set.n mm.set.c, .slice mm.ws.p mm.ws.n mm.ws.c] := e1
      rw [e2] at this
      exact this
    have HCt : Hid (∀ W, Apart [] w W → Calls Try.prog 31 #[.agg #[.int .i64 (mm.kind : Nat), .int .i64 (mm.frm : Nat), .int .i64 (mm.dst : Nat), .int .i64 (mm.call : Nat), .int .i64 (mm.rng : Nat), .int .i64 (mm.own : Nat), .string mm.key, .int .i64 (mm.dn : Nat), .int .i64 (mm.dc : Nat), .slice mm.set.p mm.set.n mm.set.c, .slice mm.ws.p mm.ws.n mm.ws.c]] W fun a w' => ∃ (m2 : MM) (es2 : List E), a = .returned (.agg m2.cs) ∧ RM w' m2 g es2 ∧ Apart [] W w') := fun W a => by
      have h0 := twins_ok W m xs es rs (hm.kept0 a)
      rw [e1] at h0
      refine h0.mono ?_
      intro aa w' hp
      exact hp.rm (hr.kept0 a) e1 hgx hgw
    rw [e1]
    have HRM := hid hr
    have HG := hid hg
    clear hr hg hm hV e1 hgx hgw
    unfold MM.cs
    obtain ⟨w1, hw1⟩ : ∃ w1, w1 = w.alloc (.cells #[.int .i64 (mm.kind : Nat), .int .i64 (mm.frm : Nat), .int .i64 (mm.dst : Nat), .int .i64 (mm.call : Nat), .int .i64 (mm.rng : Nat), .int .i64 (mm.own : Nat), .string mm.key, .int .i64 (mm.dn : Nat), .int .i64 (mm.dc : Nat), .slice mm.set.p mm.set.n mm.set.c, .slice mm.ws.p mm.ws.n mm.ws.c] 29) := ⟨_, rfl⟩
    have HX1 : Hid (w1.heap[w.heap.size]? = some (.cells mm.cs 29 (0, 0))) := by unfold Hid; rw [hw1]; exact heap_alloc_new w _
    have HA1 : Hid (Apart [] w w1) := by unfold Hid; rw [hw1]; exact (Apart.refl [] w).alloc _
    obtain ⟨X, HXX⟩ : ∃ X, Hid (X = w.heap.size) := ⟨_, rfl⟩
    rw [← HXX.out] at HX1
    go_enter Try.func8, Try.ntmps8
    go_upto_region 1 with fail
    rw [← hw1, ← HXX.out]
    clear hw1
    go_wp2_with fail
    refine (alive_ok w1).mono ?_
    rintro _ w2 ⟨rfl, ha2⟩
    have HX2 : Hid (w2.heap[X]? = some (.cells mm.cs 29 (0, 0))) := (ha2.block _ (lt_of_heap HX1.out) (by simp)).trans HX1.out
    have HA2 : Hid (Apart [] w w2) := HA1.out.trans ha2
    clear ha2
    obtain ⟨⟨z0, z1, z2, z3, z4, z5⟩, z6, z7, z8, z9, z10⟩ := mrow11 HX2.out
    try dsimp only
    go_wp2_with fail
    refine (HCv.out w2 HA2.out).mono ?_
    rintro _ w3 ⟨rfl, ha3⟩
    have HX3 : Hid (w3.heap[X]? = some (.cells mm.cs 29 (0, 0))) := (ha3.block _ (lt_of_heap HX2.out) (by simp)).trans HX2.out
    have HA3 : Hid (Apart [] w w3) := HA2.out.trans ha3
    clear ha3 z0 z1 z2 z3 z4 z5 z6 z7 z8 z9 z10
    obtain ⟨⟨z0, z1, z2, z3, z4, z5⟩, z6, z7, z8, z9, z10⟩ := mrow11 HX3.out
    try dsimp only
    go_wp2_with fail
    refine (HCt.out w3 HA3.out).mono ?_
    rintro _ w4 ⟨m2, es2, rfl, hr4, ha4⟩
    have HX4 : Hid (w4.heap[X]? = some (.cells mm.cs 29 (0, 0))) := (ha4.block _ (lt_of_heap HX3.out) (by simp)).trans HX3.out
    have HA4 : Hid (Apart [] w w4) := HA3.out.trans ha4
    have HR4 := hid hr4
    clear ha4 hr4 z0 z1 z2 z3 z4 z5 z6 z7 z8 z9 z10
    unfold MM.cs
    try dsimp only
    go_wp2_with fail
    refine (encode_yes w4 m2 g es2 HR4.out HG.out).mono ?_
    rintro _ w5 ⟨s5, rfl, hb5⟩
    have HB5 := hid hb5
    have HS5 := hid hb5.nw.ap
    have HX5 : Hid (w5.heap[X]? = some (.cells mm.cs 29 (0, 0))) := (hb5.nw.ap.block _ (lt_of_heap HX4.out) (by simp)).trans HX4.out
    have HA5 : Hid (Apart [] w w5) := HA4.out.trans hb5.nw.ap
    have H8 : Hid (∀ b ∈ encM g, b < 256) := HRM.out.bytes
    have HRD : Hid (rmsg (encM g) 0 = .ok (g, (encM g).length)) := dec_enc HG.out H8.out
    have HL5 : Hid ((encM g).length ≤ 200000 ∧ 1 ≤ (encM g).length ∧ s5.n = (encM g).length) := ⟨encM_le HG.out, encM_pos g, hb5.len⟩
    clear hb5
    try dsimp only
    go_wp2_with fail
    refine (decode_ok (HB5.out.dat H8.out (by have := HL5.out.1; omega))).mono ?_
    rintro e w6 hp
    obtain ⟨v, he, hv⟩ := hp.ok g _ HRD.out
    obtain ⟨m3, es3, hvm, hm3⟩ := hv.rm HG.out HRM.out.k8
    subst he hvm
    have HM6 := hid hm3
    have HX6 : Hid (w6.heap[X]? = some (.cells mm.cs 29 (0, 0))) := (hp.ap.block _ (lt_of_heap HX5.out) (by simp)).trans HX5.out
    have HA6 : Hid (Apart [] w w6) := HA5.out.trans hp.ap
    clear hp hv hm3
    unfold MM.cs
    try dsimp only
    obtain ⟨w7, hw7⟩ : ∃ w7, w7 = w6.alloc (.cells #[.int .i64 (m3.kind : Nat), .int .i64 (m3.frm : Nat), .int .i64 (m3.dst : Nat), .int .i64 (m3.call : Nat), .int .i64 (m3.rng : Nat), .int .i64 (m3.own : Nat), .string m3.key, .int .i64 (m3.dn : Nat), .int .i64 (m3.dc : Nat), .slice m3.set.p m3.set.n m3.set.c, .slice m3.ws.p m3.ws.n m3.ws.c] 29) := ⟨_, rfl⟩
    have HS7 : Hid (Apart [] w6 w7) := by unfold Hid; rw [hw7]; exact (Apart.refl [] w6).alloc _
    have HY7 : Hid (w7.heap[w6.heap.size]? = some (.cells m3.cs 29 (0, 0))) := by unfold Hid; rw [hw7]; exact heap_alloc_new w6 _
    have HX7 : Hid (w7.heap[X]? = some (.cells mm.cs 29 (0, 0))) := (HS7.out.block _ (lt_of_heap HX6.out) (by simp)).trans HX6.out
    have HA7 : Hid (Apart [] w w7) := HA6.out.trans HS7.out
    obtain ⟨Y, HYY⟩ : ∃ Y, Hid (Y = w6.heap.size) := ⟨_, rfl⟩
    rw [← HYY.out] at HY7
    obtain ⟨⟨z0, z1, z2, z3, z4, z5⟩, z6, z7, z8, z9, z10⟩ := mrow11 HX7.out
    obtain ⟨⟨y0, y1, y2, y3, y4, y5⟩, y6, y7, y8, y9, y10⟩ := mrow11 HY7.out
    have HCm : Hid (Calls Try.prog 16 #[.agg #[.int .i64 (m3.kind : Nat), .int .i64 (m3.frm : Nat), .int .i64 (m3.dst : Nat), .int .i64 (m3.call : Nat), .int .i64 (m3.rng : Nat), .int .i64 (m3.own : Nat), .string m3.key, .int .i64 (m3.dn : Nat), .int .i64 (m3.dc : Nat), .slice m3.set.p m3.set.n m3.set.c, .slice m3.ws.p m3.ws.n m3.ws.c], .agg #[.int .i64 (mm.kind : Nat), .int .i64 (mm.frm : Nat), .int .i64 (mm.dst : Nat), .int .i64 (mm.call : Nat), .int .i64 (mm.rng : Nat), .int .i64 (mm.own : Nat), .string mm.key, .int .i64 (mm.dn : Nat), .int .i64 (mm.dc : Nat), .slice mm.set.p mm.set.n mm.set.c, .slice mm.ws.p mm.ws.n mm.ws.c]] w7 fun r w' => r = .returned (.bool true) ∧ Apart [] w7 w') := sameMsg_ok m3 mm g g es3 es (HM6.out.kept0 HS7.out) (HRM.out.kept0 HA7.out) true (by simp)
    go_upto_region 7 with fail
    rw [← hw7, ← HYY.out]
    clear hw7
    go_wp2_with fail
    refine HCm.out.mono ?_
    rintro _ w8 ⟨rfl, ha8⟩
    have HY8 : Hid (w8.heap[Y]? = some (.cells m3.cs 29 (0, 0))) := (ha8.block _ (lt_of_heap HY7.out) (by simp)).trans HY7.out
    have HA8 : Hid (Apart [] w w8) := HA7.out.trans ha8
    have HM8 := hid (HM6.out.kept0 (HS7.out.trans ha8))
    clear ha8 z0 z1 z2 z3 z4 z5 z6 z7 z8 z9 z10 y0 y1 y2 y3 y4 y5 y6 y7 y8 y9 y10
    obtain ⟨⟨y0, y1, y2, y3, y4, y5⟩, y6, y7, y8, y9, y10⟩ := mrow11 HY8.out
    have HCv2 : Hid (Calls Try.prog 33 #[.agg #[.int .i64 (m3.kind : Nat), .int .i64 (m3.frm : Nat), .int .i64 (m3.dst : Nat), .int .i64 (m3.call : Nat), .int .i64 (m3.rng : Nat), .int .i64 (m3.own : Nat), .string m3.key, .int .i64 (m3.dn : Nat), .int .i64 (m3.dc : Nat), .slice m3.set.p m3.set.n m3.set.c, .slice m3.ws.p m3.ws.n m3.ws.c]] w8 fun r w' => r = .returned (.bool true) ∧ Apart [] w8 w') := valid_yes w8 m3 g es3 HM8.out HG.out
    try dsimp only
    go_wp2_with fail
    refine HCv2.out.mono ?_
    rintro _ w9 ⟨rfl, ha9⟩
    have HA9 : Hid (Apart [] w w9) := HA8.out.trans ha9
    clear ha9 y0 y1 y2 y3 y4 y5 y6 y7 y8 y9 y10
    try dsimp only
    go_wp2_with fail
    go_ret
    exact ⟨rfl, HA9.out⟩
  · have HCv : Hid (∀ W, Apart [] w W → Calls Try.prog 30 #[.agg #[.int .i64 m.kind, .int .i64 m.frm, .int .i64 m.dst, .int .i64 m.call, .int .i64 m.rng, .int .i64 m.own, .string m.key, .int .i64 m.dn, .int .i64 m.dc, .slice m.set.p m.set.n m.set.c, .slice m.ws.p m.ws.n m.ws.c]] W fun r w' => r = .returned (.bool false) ∧ Apart [] W w') := fun W a => rvalidM_ok W m xs es rs (hm.kept0 a) false (by simp [hV])
    clear hV hm
    unfold MI.cs
    obtain ⟨w1, hw1⟩ : ∃ w1, w1 = w.alloc (.cells #[.int .i64 m.kind, .int .i64 m.frm, .int .i64 m.dst, .int .i64 m.call, .int .i64 m.rng, .int .i64 m.own, .string m.key, .int .i64 m.dn, .int .i64 m.dc, .slice m.set.p m.set.n m.set.c, .slice m.ws.p m.ws.n m.ws.c] 29) := ⟨_, rfl⟩
    have HX1 : Hid (w1.heap[w.heap.size]? = some (.cells m.cs 29 (0, 0))) := by unfold Hid; rw [hw1]; exact heap_alloc_new w _
    have HA1 : Hid (Apart [] w w1) := by unfold Hid; rw [hw1]; exact (Apart.refl [] w).alloc _
    obtain ⟨X, HXX⟩ : ∃ X, Hid (X = w.heap.size) := ⟨_, rfl⟩
    rw [← HXX.out] at HX1
    go_enter Try.func8, Try.ntmps8
    go_upto_region 1 with fail
    rw [← hw1, ← HXX.out]
    clear hw1
    go_wp2_with fail
    refine (alive_ok w1).mono ?_
    rintro _ w2 ⟨rfl, ha2⟩
    have HX2 : Hid (w2.heap[X]? = some (.cells m.cs 29 (0, 0))) := (ha2.block _ (lt_of_heap HX1.out) (by simp)).trans HX1.out
    have HA2 : Hid (Apart [] w w2) := HA1.out.trans ha2
    clear ha2
    obtain ⟨⟨z0, z1, z2, z3, z4, z5⟩, z6, z7, z8, z9, z10⟩ := irow11 HX2.out
    try dsimp only
    go_wp2_with fail
    refine (HCv.out w2 HA2.out).mono ?_
    rintro _ w3 ⟨rfl, ha3⟩
    have HA3 : Hid (Apart [] w w3) := HA2.out.trans ha3
    clear ha3 z0 z1 z2 z3 z4 z5 z6 z7 z8 z9 z10
    try dsimp only
    go_wp2_with fail
    go_ret
    exact ⟨rfl, HA3.out⟩
end Go.Proofs.Ytddffdcjhleejaa.ds
