import Derived.Test.YtddffdcjhleejaaX3
namespace Go.Proofs.Ytddffdcjhleejaa.ds
open Go.ChangeShapes Go.WideShapes Go.ChangeAt Go.RowKit Go.Sort
set_option linter.unusedVariables false
set_option linter.unusedSimpArgs false
/-- one byte of one's own is written over -/
theorem Bf.set {wB w : World} {s : Sl} {l : List Nat} (h : Bf wB w s l) (K : Nat) (hK : K < l.length) (x : Nat) : ∃ gB, s.p = some ⟨gB, 0, none⟩ ∧ w.cell? ⟨gB, K, none⟩ = some (.int .u8 ((l.getD K 0 : Nat) : Int)) ∧ w.frozen? ⟨gB, K, none⟩ = false ∧ wB.heap.size ≤ gB ∧ (∃ cur, w.heap[gB]? = some (.cells cur 5 (0, 0))) ∧ Bf wB (w.setCell ⟨gB, K, none⟩ (.int .u8 (x : Int))) s (l.set K x) := by
  have hlen := h.len
  obtain ⟨hl, ⟨hv, hz⟩ | ⟨gB, cap, cur, hv, hb, hr, hle, hm, hs, ht⟩⟩ := h.nw.own
  · omega
  have hv' := hv
  unfold Sl.v at hv'
  simp at hv'
  obtain ⟨hp, hc⟩ := hv'
  have hnew := h.nw.new gB (by rw [hv]; rfl)
  have hcell : w.cell? ⟨gB, K, none⟩ = some (.int .u8 ((l.getD K 0 : Nat) : Int)) := by
    obtain ⟨P, o, e, hP, hcc⟩ := h.nw.rd (by simp [byts]; omega)
    rw [hp] at e
    simp at e
    obtain ⟨rfl, rfl⟩ := e
    have := hcc K (.int .u8 ((l.getD K 0 : Nat) : Int)) (by rw [byts, List.getElem?_map, List.getElem?_eq_getElem hK, List.getD_eq_getElem?_getD, List.getElem?_eq_getElem hK]; rfl)
    simpa using this
  refine ⟨gB, hp, hcell, frozen_of_row _ _ K _ _ hr, hnew, ⟨cur, hr⟩, ⟨⟨⟨by simpa [byts] using hl, .inr ⟨gB, cap, _, hv, hb, heap_setCell_same w gB K _ 5 _ hr, hle, hm, by simpa using hs, ?_⟩⟩, h.nw.new, h.nw.ap.setCell (.inr hnew) _⟩, by simpa using hlen⟩⟩
  rw [Array.toList_setIfInBounds, List.take_set, ht]
  simp [byts, List.map_set]
/-- the beginning of bytes of one's own is one's own -/
theorem Bf.shrink {wB w : World} {s : Sl} {l r : List Nat} (h : Bf wB w s (l ++ r)) (hr : r ≠ []) : Bf wB w ⟨s.p, l.length, s.c⟩ l := by
  have hlen := h.len
  have hrl : 0 < r.length := List.length_pos_iff.2 hr
  rw [List.length_append] at hlen
  obtain ⟨hl, ⟨hv, hz⟩ | ⟨gB, cap, cur, hv, hb, hrow, hle, hm, hs, ht⟩⟩ := h.nw.own
  · omega
  have hv' := hv
  unfold Sl.v at hv'
  simp at hv'
  obtain ⟨hp, hc⟩ := hv'
  refine ⟨⟨⟨by simp [byts], .inr ⟨gB, cap, cur, ?_, hb, hrow, by simp only; omega, hm, hs, ?_⟩⟩, fun k hk => ?_, h.nw.ap⟩, rfl⟩
  · unfold Sl.v; simp only; rw [hp, hc]
  · have := congrArg (List.take l.length) ht
    rw [List.take_take] at this
    simp only [Nat.mul_one] at this ⊢
    rw [Nat.min_eq_left (by omega)] at this
    rw [this, byts_app, List.take_left' (by simp [byts])]
  · refine h.nw.new k ?_
    unfold Sl.v at hk ⊢
    simp only at hk
    rw [hp] at hk ⊢
    exact hk
set_option maxHeartbeats 16000000 in
set_option maxRecDepth 100000 in
theorem turned_walk (w : World) (m : MI) (xs : List S) (es : List E) (rs : List Wr) (hm : RMI w m xs es rs) (z : Int) (hz : -9223372036854775808 ≤ z ∧ z ≤ 9223372036854775807) (tb : Nat) (htb : tb < 256) : Calls Try.prog 9 #[.agg m.cs, .int .i64 z, .int .u8 (tb : Nat)] w fun r w' => r = .returned (.bool true) ∧ Apart [] w w' := by
  by_cases hV : VI m xs rs
  · obtain ⟨mm, g, e1, hg, hr, hgx, hgw⟩ := hV.mg hm
    have HCv : Hid (∀ W, Apart [] w W → Calls Try.prog 30 #[.agg #[.int .i64 (mm.kind : Nat), .int .i64 (mm.frm : Nat), .int .i64 (mm.dst : Nat), .int .i64 (mm.call : Nat), .int .i64 (mm.rng : Nat), .int .i64 (mm.own : Nat), .string mm.key, .int .i64 (mm.dn : Nat), .int .i64 (mm.dc : Nat), .slice mm.set.p mm.set.n mm.set.c, .slice mm.ws.p mm.ws.n mm.ws.c]] W fun r w' => r = .returned (.bool true) ∧ Apart [] W w') := fun W a => by
      have := rvalidM_ok W m xs es rs (hm.kept0 a) true (by simp [hV])
      have e2 : (#[.int .i64 m.kind, .int .i64 m.frm, .int .i64 m.dst, .int .i64 m.call, .int .i64 m.rng, .int .i64 m.own, .string m.key, .int .i64 m.dn, .int .i64 m.dc, .slice m.set.p m.set.n m.set.c, .slice m.ws.p m.ws.n m.ws.c] : Array Value) = #[.int .i64 (mm.kind : Nat), .int .i64 (mm.frm : Nat), .int .i64 (mm.dst : Nat), .int .i64 (mm.call : Nat), .int .i64 (mm.rng : Nat), .int .i64 (mm.own : Nat), .string mm.key, .int .i64 (mm.dn : Nat), .int .i64 (mm.dc : Nat), .slice mm.set.p mm.set.n mm.set.c, .slice mm.ws.p mm.ws.n mm.ws.c] := e1
      rw [e2] at this
      exact this
    have HCt : Hid (∀ W, Apart [] w W → Calls Try.prog 31 #[.agg #[.int .i64 (mm.kind : Nat), .int .i64 (mm.frm : Nat), .int .i64 (mm.dst : Nat), .int .i64 (mm.call : Nat), .int .i64 (mm.rng : Nat), .int .i64 (mm.own : Nat), .string mm.key, .int .i64 (mm.dn : Nat), .int .i64 (mm.dc : Nat), .slice mm.set.p mm.set.n mm.set.c, .slice mm.ws.p mm.ws.n mm.ws.c]] W fun a w' => ∃ (m2 : MM) (es2 : List E), a = .returned (.agg m2.cs) ∧ RM w' m2 g es2 ∧ Apart [] W w') := fun W a => by
      have h0 := twins_ok W m xs es rs (hm.kept0 a)
      rw [e1] at h0
      refine h0.mono ?_
      intro aa w' hp
      exact hp.rm (hr.kept0 a) e1 hgx hgw
    rw [e1]
    have HRM := hid hr
    have HG := hid hg
    clear hr hg hm hV e1 hgx hgw
    unfold MM.cs
    obtain ⟨w1, hw1⟩ : ∃ w1, w1 = w.alloc (.cells #[.int .i64 (mm.kind : Nat), .int .i64 (mm.frm : Nat), .int .i64 (mm.dst : Nat), .int .i64 (mm.call : Nat), .int .i64 (mm.rng : Nat), .int .i64 (mm.own : Nat), .string mm.key, .int .i64 (mm.dn : Nat), .int .i64 (mm.dc : Nat), .slice mm.set.p mm.set.n mm.set.c, .slice mm.ws.p mm.ws.n mm.ws.c] 29) := ⟨_, rfl⟩
    have HX1 : Hid (w1.heap[w.heap.size]? = some (.cells mm.cs 29 (0, 0))) := by unfold Hid; rw [hw1]; exact heap_alloc_new w _
    have HA1 : Hid (Apart [] w w1) := by unfold Hid; rw [hw1]; exact (Apart.refl [] w).alloc _
    obtain ⟨X, HXX⟩ : ∃ X, Hid (X = w.heap.size) := ⟨_, rfl⟩
    rw [← HXX.out] at HX1
    go_enter Try.func9, Try.ntmps9
    go_upto_region 1 with fail
    rw [← hw1, ← HXX.out]
    clear hw1
    go_wp2_with fail
    refine (alive_ok w1).mono ?_
    rintro _ w2 ⟨rfl, ha2⟩
    have HX2 : Hid (w2.heap[X]? = some (.cells mm.cs 29 (0, 0))) := (ha2.block _ (lt_of_heap HX1.out) (by simp)).trans HX1.out
    have HA2 : Hid (Apart [] w w2) := HA1.out.trans ha2
    clear ha2
    obtain ⟨⟨z0, z1, z2, z3, z4, z5⟩, z6, z7, z8, z9, z10⟩ := mrow11 HX2.out
    try dsimp only
    go_wp2_with fail
    refine (HCv.out w2 HA2.out).mono ?_
    rintro _ w3 ⟨rfl, ha3⟩
    have HX3 : Hid (w3.heap[X]? = some (.cells mm.cs 29 (0, 0))) := (ha3.block _ (lt_of_heap HX2.out) (by simp)).trans HX2.out
    have HA3 : Hid (Apart [] w w3) := HA2.out.trans ha3
    clear ha3 z0 z1 z2 z3 z4 z5 z6 z7 z8 z9 z10
    obtain ⟨⟨z0, z1, z2, z3, z4, z5⟩, z6, z7, z8, z9, z10⟩ := mrow11 HX3.out
    try dsimp only
    go_wp2_with fail
    refine (HCt.out w3 HA3.out).mono ?_
    rintro _ w4 ⟨m2, es2, rfl, hr4, ha4⟩
    have HX4 : Hid (w4.heap[X]? = some (.cells mm.cs 29 (0, 0))) := (ha4.block _ (lt_of_heap HX3.out) (by simp)).trans HX3.out
    have HA4 : Hid (Apart [] w w4) := HA3.out.trans ha4
    have HR4 := hid hr4
    clear ha4 hr4 z0 z1 z2 z3 z4 z5 z6 z7 z8 z9 z10
    unfold MM.cs
    try dsimp only
    go_wp2_with fail
    refine (encode_yes w4 m2 g es2 HR4.out HG.out).mono ?_
    rintro _ w5 ⟨s5, rfl, hb5⟩
    have HB5 := hid hb5
    have HS5 := hid hb5.nw.ap
    have HX5 : Hid (w5.heap[X]? = some (.cells mm.cs 29 (0, 0))) := (hb5.nw.ap.block _ (lt_of_heap HX4.out) (by simp)).trans HX4.out
    have HA5 : Hid (Apart [] w w5) := HA4.out.trans hb5.nw.ap
    have H8 : Hid (∀ b ∈ encM g, b < 256) := HRM.out.bytes
    have HRD : Hid (rmsg (encM g) 0 = .ok (g, (encM g).length)) := dec_enc HG.out H8.out
    have HL5 : Hid ((encM g).length ≤ 200000 ∧ 1 ≤ (encM g).length ∧ s5.n = (encM g).length) := ⟨encM_le HG.out, encM_pos g, hb5.len⟩
    clear hb5
    try dsimp only
    have hnn : ¬ ((s5.n : Nat) : Int) = 0 := by have := HL5.out; omega
    have hnb : (((s5.n : Nat) : Int) == 0) = false := by simp; have := HL5.out; omega
    go_upto_if 38 with fail
    go_cut [1] from 39 to 41 (fun a wx => ∃ A : Nat, .int .i64 (A : Nat) = a ∧ A ≤ 9223372036854775807 ∧ wx = w5)
    case first =>
      by_cases h0 : z < 0
      · go_wp2_with fail
        go_meet
        exact ⟨(-(z + 1)).toNat, by rw [Int.toNat_of_nonneg (by omega)], by omega, rfl⟩
      · go_wp2_with fail
        go_meet
        exact ⟨z.toNat, by rw [Int.toNat_of_nonneg (by omega)], by omega, rfl⟩
    obtain ⟨A, rfl, hA, hww⟩ := hcut
    rw [hww]
    clear hww
    go_upto_region 11 with fail
    obtain ⟨l, Hl⟩ : ∃ l, Hid (l = encM g) := ⟨_, rfl⟩
    rw [← Hl.out] at HB5 H8 HRD HL5
    obtain ⟨K, hK, hKl⟩ : ∃ K : Nat, (A : Int) % (s5.n : Int) = (K : Int) ∧ K < s5.n := ⟨A % s5.n, by omega, Nat.mod_lt _ (by have := HL5.out; omega)⟩
    rw [hK]
    have HSN := hid HL5.out.2.2
    obtain ⟨gB, hp, hcell, hfroz, hnew, hrow, hB6⟩ := HB5.out.set K (by rw [← HSN.out]; exact hKl) tb
    obtain ⟨cur0, hrow⟩ := hrow
    obtain ⟨sp, sn, sc⟩ := s5
    simp only at hp hKl HSN hK hnn hnb
    subst hp
    have hKi : ((K : Nat) : Int) < (sn : Int) := by omega
    have hK0 : (0 : Int) ≤ ((K : Nat) : Int) := by omega
    obtain ⟨d, Hd⟩ : ∃ d, Hid (d = l.getD K 0) := ⟨_, rfl⟩
    rw [← Hd.out] at hcell
    have HB6 := hid hB6
    have HROW := hid hrow
    have HNEW := hid hnew
    clear hK hB6 hnn hnb hrow hnew
    by_cases he : d = tb
    · rw [he] at hcell
      clear he
      go_wp2_with fail
      go_ret
      exact ⟨rfl, HA5.out⟩
    · have hei : ¬ ((d : Nat) : Int) = (tb : Int) := by omega
      have heb : (((d : Nat) : Int) == (tb : Int)) = false := by simp; omega
      have heb2 : (d == tb) = false := by simp [he]
      have HNE : Hid (l.set K tb ≠ l) := fun h => he (by
        rw [Hd.out, ← h, List.getD_eq_getElem?_getD, List.getElem?_set_self (by rw [← HSN.out]; exact hKl)]
        rfl)
      have H8b : Hid (∀ b ∈ l.set K tb, b < 256) := fun b hb => by
        rcases List.mem_or_eq_of_mem_set hb with hb | hb
        · exact H8.out b hb
        · rw [hb]; exact htb
      obtain ⟨w6, hw6⟩ : ∃ w6, w6 = w5.setCell ⟨gB, K, none⟩ (.int .u8 (tb : Nat)) := ⟨_, rfl⟩
      rw [← hw6] at HB6
      have aG : Apart [gB] w5 w6 := by rw [hw6]; exact (Apart.refl [gB] w5).setCell (.inl (by simp)) _
      have HXG : Hid (X ≠ gB) := fun h => by
        have := HX5.out
        rw [h, HROW.out] at this
        simp at this
      have HX6 : Hid (w6.heap[X]? = some (.cells mm.cs 29 (0, 0))) := (aG.block _ (lt_of_heap HX5.out) (by simp; exact HXG.out)).trans HX5.out
      have HA6 : Hid (Apart [] w w6) := HA5.out.trans' aG (by intro y hy; simp at hy; rw [hy]; exact .inr (Nat.le_trans HA4.out.size HNEW.out))
      clear aG
      go_upto_region 14 with fail
      rw [← hw6]
      clear hw6 hcell hfroz
      go_wp2_with fail
      refine (decode_ok (HB6.out.dat H8b.out (by rw [List.length_set]; have := HL5.out.1; omega))).mono ?_
      rintro e w7 hp
      have HX7 : Hid (w7.heap[X]? = some (.cells mm.cs 29 (0, 0))) := (hp.ap.block _ (lt_of_heap HX6.out) (by simp)).trans HX6.out
      have HA7 : Hid (Apart [] w w7) := HA6.out.trans hp.ap
      cases hr : rmsg (l.set K tb) 0 with
      | error x =>
        have he2 := hp.no x hr
        subst he2
        clear hp hr
        have hz : MM.z.cs = #[.int .i64 0, .int .i64 0, .int .i64 0, .int .i64 0, .int .i64 0, .int .i64 0, .string ⟨#[]⟩, .int .i64 0, .int .i64 0, .slice none 0 0, .slice none 0 0] := rfl
        rw [hz]
        clear hz
        try dsimp only
        obtain ⟨w8, hw8⟩ : ∃ w8, w8 = w7.alloc (.cells #[.int .i64 0, .int .i64 0, .int .i64 0, .int .i64 0, .int .i64 0, .int .i64 0, .string ⟨#[]⟩, .int .i64 0, .int .i64 0, .slice none 0 0, .slice none 0 0] 29) := ⟨_, rfl⟩
        have HA8 : Hid (Apart [] w w8) := by unfold Hid; rw [hw8]; exact HA7.out.alloc _
        go_upto_region 15 with fail
        rw [← hw8]
        clear hw8
        go_wp2_with fail
        go_ret
        exact ⟨rfl, HA8.out⟩
      | ok t =>
        obtain ⟨g2, q2⟩ := t
        obtain ⟨v, he2, hv⟩ := hp.ok g2 q2 hr
        obtain ⟨hg2, hst, hq⟩ := (rmsg_iff H8b.out 0 g2 q2).1 hr
        rw [hq] at hst
        have HEQ : Hid (encM g2 = l.set K tb) := hst.eq
        obtain ⟨m3, es3, hvm, hm3⟩ := hv.rm hg2 (hg2.key8 H8b.out hst)
        have HGN : Hid (g2 ≠ g) := fun h => HNE.out (by rw [← HEQ.out, h, ← Hl.out])
        subst he2 hvm
        have HM7 := hid hm3
        have HG2 := hid hg2
        clear hp hr hv hm3 hg2 hst hq
        unfold MM.cs
        try dsimp only
        obtain ⟨w8, hw8⟩ : ∃ w8, w8 = w7.alloc (.cells #[.int .i64 (m3.kind : Nat), .int .i64 (m3.frm : Nat), .int .i64 (m3.dst : Nat), .int .i64 (m3.call : Nat), .int .i64 (m3.rng : Nat), .int .i64 (m3.own : Nat), .string m3.key, .int .i64 (m3.dn : Nat), .int .i64 (m3.dc : Nat), .slice m3.set.p m3.set.n m3.set.c, .slice m3.ws.p m3.ws.n m3.ws.c] 29) := ⟨_, rfl⟩
        have HS8 : Hid (Apart [] w7 w8) := by unfold Hid; rw [hw8]; exact (Apart.refl [] w7).alloc _
        have HY8 : Hid (w8.heap[w7.heap.size]? = some (.cells m3.cs 29 (0, 0))) := by unfold Hid; rw [hw8]; exact heap_alloc_new w7 _
        have HX8 : Hid (w8.heap[X]? = some (.cells mm.cs 29 (0, 0))) := (HS8.out.block _ (lt_of_heap HX7.out) (by simp)).trans HX7.out
        have HA8 : Hid (Apart [] w w8) := HA7.out.trans HS8.out
        obtain ⟨Y, HYY⟩ : ∃ Y, Hid (Y = w7.heap.size) := ⟨_, rfl⟩
        rw [← HYY.out] at HY8
        obtain ⟨⟨z0, z1, z2, z3, z4, z5⟩, z6, z7, z8, z9, z10⟩ := mrow11 HX8.out
        obtain ⟨⟨y0, y1, y2, y3, y4, y5⟩, y6, y7, y8, y9, y10⟩ := mrow11 HY8.out
        have HCm : Hid (Calls Try.prog 16 #[.agg #[.int .i64 (m3.kind : Nat), .int .i64 (m3.frm : Nat), .int .i64 (m3.dst : Nat), .int .i64 (m3.call : Nat), .int .i64 (m3.rng : Nat), .int .i64 (m3.own : Nat), .string m3.key, .int .i64 (m3.dn : Nat), .int .i64 (m3.dc : Nat), .slice m3.set.p m3.set.n m3.set.c, .slice m3.ws.p m3.ws.n m3.ws.c], .agg #[.int .i64 (mm.kind : Nat), .int .i64 (mm.frm : Nat), .int .i64 (mm.dst : Nat), .int .i64 (mm.call : Nat), .int .i64 (mm.rng : Nat), .int .i64 (mm.own : Nat), .string mm.key, .int .i64 (mm.dn : Nat), .int .i64 (mm.dc : Nat), .slice mm.set.p mm.set.n mm.set.c, .slice mm.ws.p mm.ws.n mm.ws.c]] w8 fun r w' => r = .returned (.bool false) ∧ Apart [] w8 w') := sameMsg_ok m3 mm g2 g es3 es (HM7.out.kept0 HS8.out) (HRM.out.kept0 HA8.out) false (by simp; exact HGN.out)
        go_upto_region 15 with fail
        rw [← hw8, ← HYY.out]
        clear hw8
        go_wp2_with fail
        refine HCm.out.mono ?_
        rintro _ w9 ⟨rfl, ha9⟩
        have HY9 : Hid (w9.heap[Y]? = some (.cells m3.cs 29 (0, 0))) := (ha9.block _ (lt_of_heap HY8.out) (by simp)).trans HY8.out
        have HA9 : Hid (Apart [] w w9) := HA8.out.trans ha9
        have HM9 := hid (HM7.out.kept0 (HS8.out.trans ha9))
        clear ha9 z0 z1 z2 z3 z4 z5 z6 z7 z8 z9 z10 y0 y1 y2 y3 y4 y5 y6 y7 y8 y9 y10
        obtain ⟨⟨y0, y1, y2, y3, y4, y5⟩, y6, y7, y8, y9, y10⟩ := mrow11 HY9.out
        have HCv2 : Hid (Calls Try.prog 33 #[.agg #[.int .i64 (m3.kind : Nat), .int .i64 (m3.frm : Nat), .int .i64 (m3.dst : Nat), .int .i64 (m3.call : Nat), .int .i64 (m3.rng : Nat), .int .i64 (m3.own : Nat), .string m3.key, .int .i64 (m3.dn : Nat), .int .i64 (m3.dc : Nat), .slice m3.set.p m3.set.n m3.set.c, .slice m3.ws.p m3.ws.n m3.ws.c]] w9 fun r w' => r = .returned (.bool true) ∧ Apart [] w9 w') := valid_yes w9 m3 g2 es3 HM9.out HG2.out
        try dsimp only
        go_wp2_with fail
        refine HCv2.out.mono ?_
        rintro _ w10 ⟨rfl, ha10⟩
        have HA10 : Hid (Apart [] w w10) := HA9.out.trans ha10
        clear ha10 y0 y1 y2 y3 y4 y5 y6 y7 y8 y9 y10
        try dsimp only
        go_wp2_with fail
        go_ret
        exact ⟨rfl, HA10.out⟩
  · have HCv : Hid (∀ W, Apart [] w W → Calls Try.prog 30 #[.agg #[.int .i64 m.kind, .int .i64 m.frm, .int .i64 m.dst, .int .i64 m.call, .int .i64 m.rng, .int .i64 m.own, .string m.key, .int .i64 m.dn, .int .i64 m.dc, .slice m.set.p m.set.n m.set.c, .slice m.ws.p m.ws.n m.ws.c]] W fun r w' => r = .returned (.bool false) ∧ Apart [] W w') := fun W a => rvalidM_ok W m xs es rs (hm.kept0 a) false (by simp [hV])
    clear hV hm
    unfold MI.cs
    obtain ⟨w1, hw1⟩ : ∃ w1, w1 = w.alloc (.cells #[.int .i64 m.kind, .int .i64 m.frm, .int .i64 m.dst, .int .i64 m.call, .int .i64 m.rng, .int .i64 m.own, .string m.key, .int .i64 m.dn, .int .i64 m.dc, .slice m.set.p m.set.n m.set.c, .slice m.ws.p m.ws.n m.ws.c] 29) := ⟨_, rfl⟩
    have HX1 : Hid (w1.heap[w.heap.size]? = some (.cells m.cs 29 (0, 0))) := by unfold Hid; rw [hw1]; exact heap_alloc_new w _
    have HA1 : Hid (Apart [] w w1) := by unfold Hid; rw [hw1]; exact (Apart.refl [] w).alloc _
    obtain ⟨X, HXX⟩ : ∃ X, Hid (X = w.heap.size) := ⟨_, rfl⟩
    rw [← HXX.out] at HX1
    go_enter Try.func9, Try.ntmps9
    go_upto_region 1 with fail
    rw [← hw1, ← HXX.out]
    clear hw1
    go_wp2_with fail
    refine (alive_ok w1).mono ?_
    rintro _ w2 ⟨rfl, ha2⟩
    have HX2 : Hid (w2.heap[X]? = some (.cells m.cs 29 (0, 0))) := (ha2.block _ (lt_of_heap HX1.out) (by simp)).trans HX1.out
    have HA2 : Hid (Apart [] w w2) := HA1.out.trans ha2
    clear ha2
    obtain ⟨⟨z0, z1, z2, z3, z4, z5⟩, z6, z7, z8, z9, z10⟩ := irow11 HX2.out
    try dsimp only
    go_wp2_with fail
    refine (HCv.out w2 HA2.out).mono ?_
    rintro _ w3 ⟨rfl, ha3⟩
    have HA3 : Hid (Apart [] w w3) := HA2.out.trans ha3
    clear ha3 z0 z1 z2 z3 z4 z5 z6 z7 z8 z9 z10
    try dsimp only
    go_wp2_with fail
    go_ret
    exact ⟨rfl, HA3.out⟩
end Go.Proofs.Ytddffdcjhleejaa.ds
