import Derived.Test.YtddffdcjhleejaaGreatG40
import Derived.Test.YtddffdcjhleejaaGreatG51
import Derived.Test.YtddffdcjhleejaaGreatG34
namespace Go.Proofs.YtddffdcjhleejaaGreat.ds
open Go.ChangeShapes Go.WideShapes Go.ChangeAt Go.RowKit Go.Sort
set_option linter.unusedVariables false
set_option linter.unusedSimpArgs false
theorem rmsg_key8 {B : List Nat} (hB : ∀ b ∈ B, b < 256) {q q' : Nat} {a : Mg} (h : rmsg B q = .ok (a, q')) : ∀ b ∈ a.key, b < 256 := by
  rw [rmsg_link] at h
  cases hD : rmD B q with
  | error y => rw [hD] at h; cases h
  | ok tt =>
    obtain ⟨g, q2⟩ := tt
    rw [hD, rb_ok] at h
    have hg : g = a := by
      by_cases h1 : q2 = B.length
      · rw [if_pos h1] at h; cases h; rfl
      · rw [if_neg h1] at h; cases h
    subst hg
    rw [rmD_link] at hD
    cases h3 : hd3 B q with
    | error y => rw [h3] at hD; cases hD
    | ok tt =>
      obtain ⟨a3, q3⟩ := tt
      rw [h3, rb_ok] at hD
      unfold rmX at hD
      cases hx : x10 B a3.1.1.2 q3 with
      | error y => rw [hx] at hD; cases hD
      | ok tt =>
        obtain ⟨a10, q10⟩ := tt
        rw [hx, rb_ok] at hD
        cases hw : rwritesA B (keyX a3.1.1.2 a10.1.1.1.1.2) a10.2 0 0 q10 with
        | error y => rw [hw] at hD; cases hD
        | ok tt =>
          obtain ⟨ws, q11⟩ := tt
          rw [hw, rb_ok] at hD
          cases hD
          obtain ⟨q9, e9⟩ := oxn_prev hx
          obtain ⟨q8, e8⟩ := oxs_prev e9
          obtain ⟨q7, e7⟩ := oxn_prev e8
          obtain ⟨q7', e7'⟩ := oxn_prev e7
          show ∀ b ∈ a10.1.1.1.1.2, b < 256
          unfold x7 at e7'
          cases hf : hasF a3.1.1.2 8 with
          | false =>
            rw [hf] at e7'
            rw [(ox_val e7').1]
            simp
          | true =>
            rw [hf] at e7'
            obtain ⟨q0, _, h1⟩ := tx_prev e7'
            exact (rtext_b8 hB h1).1
theorem zrm (w : World) : RM w MM.z ⟨0, 0, 0, 0, 0, 0, [], 0, 0, [], []⟩ [] :=
  ⟨rfl, rfl, rfl, rfl, rfl, rfl, rfl, by simp, rfl, rfl, L.nil _ _, ⟨Rd.nil _ _, rfl, rfl, fun j hj => absurd hj (Nat.not_lt_zero j), by decide, fun _ => ⟨rfl, rfl⟩⟩, fun _ => ⟨rfl, rfl⟩⟩
set_option maxHeartbeats 16000000 in
set_option maxRecDepth 100000 in
theorem decodes_walk (w : World) (b : Sl) (bs : List Nat) (hb : RBs w b bs) (hbc : b.n ≤ b.c) (hbl : b.n ≤ 9223372036854775807) : Calls Tryz.prog 6 #[.slice b.p b.n b.c] w fun r w' => r = .returned (.bool true) ∧ Apart [] w w' := by
  have HB := hid hb
  have HBL := hid hb.len
  have H8M : Hid (∀ y ∈ bs ++ [165, 90], y < 256) := fun y hy => by
    rcases List.mem_append.1 hy with h | h
    · exact hb.b8 y h
    · simp at h; omega
  clear hb
  by_cases hbig : b.n ≤ 200000
  · have hbi : ¬ ((b.n : Nat) : Int) > 200000 := by omega
    have HC0 := hid (alive_ok w)
    go_enter Tryz.func6, Tryz.ntmps6
    go_wp2_with fail
    refine HC0.out.mono ?_
    rintro _ w1 ⟨rfl, ha1⟩
    have HA1 := hid ha1
    clear ha1 HC0
    have HB1 := hid (HB.out.kept0 HA1.out)
    try dsimp only
    go_wp2_with fail
    refine (bytes_ok HB1.out (by rw [HBL.out]; omega)).mono ?_
    rintro _ w2 ⟨cc, rfl, hb2⟩
    have HBF := hid hb2
    obtain ⟨hcap, gg, hgp⟩ := slice_cap hb2 (by simp)
    have HD2 : Hid (Dat w2 cc.p b.n cc.c bs) := by
      unfold Hid
      have := hb2.pre HB.out.b8 (by rw [HBL.out]; omega) (by simp)
      rw [HBL.out] at this
      exact this
    have hcap2 : b.n ≤ cc.c := by rw [← HBL.out]; exact hcap
    have HA2 : Hid (Apart [] w w2) := HA1.out.trans hb2.nw.ap
    clear hb2 hcap
    obtain ⟨cp, cn, ccc⟩ := cc
    simp only at hgp hcap2 HD2 ⊢
    subst hgp
    have hcap3 : ((b.n : Nat) : Int) ≤ (ccc : Int) := by omega
    try dsimp only
    have HC3 := hid (decode_ok HD2.out)
    have HC5' := hid (fun W (a : Apart [] w W) => rdecode_ok (w := W) (HB.out.kept0 a) (by omega) hbc)
    go_wp2_with fail
    refine HC3.out.mono ?_
    rintro e3 w3 hp3
    have HS3 := hid hp3.ap
    cases hr : rmsg bs 0 with
    | error x =>
      have he3 := hp3.no x hr
      subst he3
      have HRR := hid hr
      clear hp3 hr
      have HC5 : Hid (∀ W, Apart [] w W → Calls Tryz.prog 19 #[.slice b.p b.n b.c] W fun e w' => Apart [] W w' ∧ e = .returned (.tuple #[.agg #[.int .i64 0, .int .i64 0, .int .i64 0, .int .i64 0, .int .i64 0, .int .i64 0, .string ⟨#[]⟩, .int .i64 0, .int .i64 0, .slice none 0 0, .slice none 0 0], .int .i64 (x : Nat), .int .i64 60])) := fun W a => (HC5'.out W a).mono (fun e w' hp => ⟨hp.ap, hp.no x HRR.out⟩)
      unfold MM.cs MM.z
      try dsimp only
      obtain ⟨w4, hw4⟩ : ∃ w4, w4 = w3.alloc (.cells #[.int .i64 0, .int .i64 0, .int .i64 0, .int .i64 0, .int .i64 0, .int .i64 0, .string ⟨#[]⟩, .int .i64 0, .int .i64 0, .slice none 0 0, .slice none 0 0] 29) := ⟨_, rfl⟩
      obtain ⟨U, HU⟩ : ∃ U, Hid (U = w3.heap.size) := ⟨_, rfl⟩
      have HAw4 : Hid (Apart [] w3 w4) := by unfold Hid; rw [hw4]; exact (Apart.refl [] w3).alloc _
      have HBw4 : Hid (w4.heap[U]? = some (.cells #[.int .i64 0, .int .i64 0, .int .i64 0, .int .i64 0, .int .i64 0, .int .i64 0, .string ⟨#[]⟩, .int .i64 0, .int .i64 0, .slice none 0 0, .slice none 0 0] 29 (0, 0))) := by unfold Hid; rw [HU.out, hw4]; exact heap_alloc_new w3 _
      go_wp2_with fail
      try rw [← hw4]
      try rw [← HU.out]
      clear hw4
      refine (HC5.out w4 (HA2.out.trans (HS3.out.trans HAw4.out))).mono ?_
      rintro _ w5 ⟨ha5, rfl⟩
      have HA5 := hid ha5
      clear ha5
      try dsimp only
      obtain ⟨w6, hw6⟩ : ∃ w6, w6 = w5.alloc (.cells #[.int .i64 0, .int .i64 0, .int .i64 0, .int .i64 0, .int .i64 0, .int .i64 0, .string ⟨#[]⟩, .int .i64 0, .int .i64 0, .slice none 0 0, .slice none 0 0] 29) := ⟨_, rfl⟩
      obtain ⟨V, HV⟩ : ∃ V, Hid (V = w5.heap.size) := ⟨_, rfl⟩
      have HAw6 : Hid (Apart [] w5 w6) := by unfold Hid; rw [hw6]; exact (Apart.refl [] w5).alloc _
      have HBw6 : Hid (w6.heap[V]? = some (.cells #[.int .i64 0, .int .i64 0, .int .i64 0, .int .i64 0, .int .i64 0, .int .i64 0, .string ⟨#[]⟩, .int .i64 0, .int .i64 0, .slice none 0 0, .slice none 0 0] 29 (0, 0))) := by unfold Hid; rw [HV.out, hw6]; exact heap_alloc_new w5 _
      have HCS : Hid (Calls Tryz.prog 20 #[.agg #[.int .i64 0, .int .i64 0, .int .i64 0, .int .i64 0, .int .i64 0, .int .i64 0, .string ⟨#[]⟩, .int .i64 0, .int .i64 0, .slice none 0 0, .slice none 0 0], .agg #[.int .i64 0, .int .i64 0, .int .i64 0, .int .i64 0, .int .i64 0, .int .i64 0, .string ⟨#[]⟩, .int .i64 0, .int .i64 0, .slice none 0 0, .slice none 0 0]] w6 fun r w' => r = .returned (.bool true) ∧ Apart [] w6 w') := sameMsg_ok MM.z MM.z _ _ _ _ (zrm w6) (zrm w6) true (by simp)
      have HU11 : Hid (w6.heap[U]? = some (.cells #[.int .i64 0, .int .i64 0, .int .i64 0, .int .i64 0, .int .i64 0, .int .i64 0, .string ⟨#[]⟩, .int .i64 0, .int .i64 0, .slice none 0 0, .slice none 0 0] 29 (0, 0))) := ((HA5.out.trans HAw6.out).block _ (lt_of_heap HBw4.out) (by simp)).trans HBw4.out
      have HS6 : Hid (Apart [] w2 w6) := HS3.out.trans (HAw4.out.trans (HA5.out.trans HAw6.out))
      obtain ⟨⟨g0, g1, g2, g3, g4, g5⟩, g6, g7, g8, g9, g10⟩ := row11 HU11.out
      obtain ⟨⟨h0, h1, h2, h3, h4, h5⟩, h6, h7, h8, h9, h10⟩ := row11 HBw6.out
      rw [hw6] at g0 g1 g2 g3 g4 g5 g6 g7 g8 g9 g10 h0 h1 h2 h3 h4 h5 h6 h7 h8 h9 h10
      rw [HV.out] at h0 h1 h2 h3 h4 h5 h6 h7 h8 h9 h10
      go_wp2_with fail
      rw [← hw6]
      clear hw6 g0 g1 g2 g3 g4 g5 g6 g7 g8 g9 g10 h0 h1 h2 h3 h4 h5 h6 h7 h8 h9 h10
      refine HCS.out.mono ?_
      rintro _ w7 ⟨rfl, ha7⟩
      have HS7 : Hid (Apart [] w2 w7) := HS6.out.trans ha7
      clear ha7
      have HB7 := hid (HB.out.kept0 (HA2.out.trans HS7.out))
      try dsimp only
      go_wp2_with fail
      refine (bytes_ok HB7.out (by rw [HBL.out]; omega)).mono ?_
      rintro _ w8 ⟨c8, rfl, hb8⟩
      have HB8 := hid hb8
      have HS8 : Hid (Apart [] w2 w8) := HS7.out.trans hb8.nw.ap
      clear hb8
      have HCB : Hid (Calls Tryz.prog 13 #[.slice (some ⟨gg, 0, none⟩) cn ccc, .slice c8.p c8.n c8.c] w8 fun r w' => r = .returned (.bool true) ∧ w' = w8) := sameBytes_ok ((HBF.out.kept HS8.out).rbs H8M.out) (HB8.out.rbs H8M.out) true (by simp)
      try dsimp only
      go_wp2_with fail
      refine HCB.out.mono ?_
      rintro _ wn ⟨rfl, hwn⟩
      rw [hwn]
      clear hwn wn
      try dsimp only
      go_wp2_with fail
      go_ret
      exact ⟨rfl, HA2.out.trans HS8.out⟩
    | ok tt =>
      obtain ⟨a, q2⟩ := tt
      obtain ⟨v3, he3, hv3⟩ := hp3.ok a q2 hr
      subst he3
      have hvm := (rmsg_iff HB.out.b8 _ _ _).1 hr
      obtain ⟨m3, es3, rfl, hrm3⟩ := hv3.rm hvm.1 (rmsg_key8 HB.out.b8 hr)
      have HRM3 := hid hrm3
      have HRR := hid hr
      clear hp3 hr hv3 hrm3 hvm
      have HC5 : Hid (∀ W, Apart [] w W → Calls Tryz.prog 19 #[.slice b.p b.n b.c] W fun e w' => Apart [] W w' ∧ ∃ (m5 : MM) (es5 : List E), e = .returned (.tuple #[.agg #[.int .i64 (m5.kind : Nat), .int .i64 (m5.frm : Nat), .int .i64 (m5.dst : Nat), .int .i64 (m5.call : Nat), .int .i64 (m5.rng : Nat), .int .i64 (m5.own : Nat), .string m5.key, .int .i64 (m5.dn : Nat), .int .i64 (m5.dc : Nat), .slice m5.set.p m5.set.n m5.set.c, .slice m5.ws.p m5.ws.n m5.ws.c], .int .i64 0, .int .i64 0]) ∧ RM w' m5 a es5) := fun W aa => (HC5'.out W aa).mono (fun e w' hp => ⟨hp.ap, (by
        obtain ⟨v5, he5, m5, es5, hv5, hr5⟩ := hp.ok a q2 HRR.out
        exact ⟨m5, es5, by rw [he5, hv5]; rfl, hr5⟩)⟩)
      unfold MM.cs
      try dsimp only
      obtain ⟨w4, hw4⟩ : ∃ w4, w4 = w3.alloc (.cells #[.int .i64 (m3.kind : Nat), .int .i64 (m3.frm : Nat), .int .i64 (m3.dst : Nat), .int .i64 (m3.call : Nat), .int .i64 (m3.rng : Nat), .int .i64 (m3.own : Nat), .string m3.key, .int .i64 (m3.dn : Nat), .int .i64 (m3.dc : Nat), .slice m3.set.p m3.set.n m3.set.c, .slice m3.ws.p m3.ws.n m3.ws.c] 29) := ⟨_, rfl⟩
      obtain ⟨U, HU⟩ : ∃ U, Hid (U = w3.heap.size) := ⟨_, rfl⟩
      have HAw4 : Hid (Apart [] w3 w4) := by unfold Hid; rw [hw4]; exact (Apart.refl [] w3).alloc _
      have HBw4 : Hid (w4.heap[U]? = some (.cells #[.int .i64 (m3.kind : Nat), .int .i64 (m3.frm : Nat), .int .i64 (m3.dst : Nat), .int .i64 (m3.call : Nat), .int .i64 (m3.rng : Nat), .int .i64 (m3.own : Nat), .string m3.key, .int .i64 (m3.dn : Nat), .int .i64 (m3.dc : Nat), .slice m3.set.p m3.set.n m3.set.c, .slice m3.ws.p m3.ws.n m3.ws.c] 29 (0, 0))) := by unfold Hid; rw [HU.out, hw4]; exact heap_alloc_new w3 _
      go_wp2_with fail
      try rw [← hw4]
      try rw [← HU.out]
      clear hw4
      refine (HC5.out w4 (HA2.out.trans (HS3.out.trans HAw4.out))).mono ?_
      rintro _ w5 ⟨ha5, m5, es5, rfl, hrm5⟩
      have HA5 := hid ha5
      have HRM5 := hid hrm5
      clear ha5 hrm5
      try dsimp only
      obtain ⟨w6, hw6⟩ : ∃ w6, w6 = w5.alloc (.cells #[.int .i64 (m5.kind : Nat), .int .i64 (m5.frm : Nat), .int .i64 (m5.dst : Nat), .int .i64 (m5.call : Nat), .int .i64 (m5.rng : Nat), .int .i64 (m5.own : Nat), .string m5.key, .int .i64 (m5.dn : Nat), .int .i64 (m5.dc : Nat), .slice m5.set.p m5.set.n m5.set.c, .slice m5.ws.p m5.ws.n m5.ws.c] 29) := ⟨_, rfl⟩
      obtain ⟨V, HV⟩ : ∃ V, Hid (V = w5.heap.size) := ⟨_, rfl⟩
      have HAw6 : Hid (Apart [] w5 w6) := by unfold Hid; rw [hw6]; exact (Apart.refl [] w5).alloc _
      have HBw6 : Hid (w6.heap[V]? = some (.cells #[.int .i64 (m5.kind : Nat), .int .i64 (m5.frm : Nat), .int .i64 (m5.dst : Nat), .int .i64 (m5.call : Nat), .int .i64 (m5.rng : Nat), .int .i64 (m5.own : Nat), .string m5.key, .int .i64 (m5.dn : Nat), .int .i64 (m5.dc : Nat), .slice m5.set.p m5.set.n m5.set.c, .slice m5.ws.p m5.ws.n m5.ws.c] 29 (0, 0))) := by unfold Hid; rw [HV.out, hw6]; exact heap_alloc_new w5 _
      have HCS : Hid (Calls Tryz.prog 20 #[.agg #[.int .i64 (m3.kind : Nat), .int .i64 (m3.frm : Nat), .int .i64 (m3.dst : Nat), .int .i64 (m3.call : Nat), .int .i64 (m3.rng : Nat), .int .i64 (m3.own : Nat), .string m3.key, .int .i64 (m3.dn : Nat), .int .i64 (m3.dc : Nat), .slice m3.set.p m3.set.n m3.set.c, .slice m3.ws.p m3.ws.n m3.ws.c], .agg #[.int .i64 (m5.kind : Nat), .int .i64 (m5.frm : Nat), .int .i64 (m5.dst : Nat), .int .i64 (m5.call : Nat), .int .i64 (m5.rng : Nat), .int .i64 (m5.own : Nat), .string m5.key, .int .i64 (m5.dn : Nat), .int .i64 (m5.dc : Nat), .slice m5.set.p m5.set.n m5.set.c, .slice m5.ws.p m5.ws.n m5.ws.c]] w6 fun r w' => r = .returned (.bool true) ∧ Apart [] w6 w') := sameMsg_ok m3 m5 a a es3 es5 (HRM3.out.kept0 (HAw4.out.trans (HA5.out.trans HAw6.out))) (HRM5.out.kept0 HAw6.out) true (by simp)
      have HU11 : Hid (w6.heap[U]? = some (.cells #[.int .i64 (m3.kind : Nat), .int .i64 (m3.frm : Nat), .int .i64 (m3.dst : Nat), .int .i64 (m3.call : Nat), .int .i64 (m3.rng : Nat), .int .i64 (m3.own : Nat), .string m3.key, .int .i64 (m3.dn : Nat), .int .i64 (m3.dc : Nat), .slice m3.set.p m3.set.n m3.set.c, .slice m3.ws.p m3.ws.n m3.ws.c] 29 (0, 0))) := ((HA5.out.trans HAw6.out).block _ (lt_of_heap HBw4.out) (by simp)).trans HBw4.out
      have HS6 : Hid (Apart [] w2 w6) := HS3.out.trans (HAw4.out.trans (HA5.out.trans HAw6.out))
      obtain ⟨⟨g0, g1, g2, g3, g4, g5⟩, g6, g7, g8, g9, g10⟩ := row11 HU11.out
      obtain ⟨⟨h0, h1, h2, h3, h4, h5⟩, h6, h7, h8, h9, h10⟩ := row11 HBw6.out
      rw [hw6] at g0 g1 g2 g3 g4 g5 g6 g7 g8 g9 g10 h0 h1 h2 h3 h4 h5 h6 h7 h8 h9 h10
      rw [HV.out] at h0 h1 h2 h3 h4 h5 h6 h7 h8 h9 h10
      go_wp2_with fail
      rw [← hw6]
      clear hw6 g0 g1 g2 g3 g4 g5 g6 g7 g8 g9 g10 h0 h1 h2 h3 h4 h5 h6 h7 h8 h9 h10
      refine HCS.out.mono ?_
      rintro _ w7 ⟨rfl, ha7⟩
      have HS7 : Hid (Apart [] w2 w7) := HS6.out.trans ha7
      clear ha7
      have HB7 := hid (HB.out.kept0 (HA2.out.trans HS7.out))
      try dsimp only
      go_wp2_with fail
      refine (bytes_ok HB7.out (by rw [HBL.out]; omega)).mono ?_
      rintro _ w8 ⟨c8, rfl, hb8⟩
      have HB8 := hid hb8
      have HS8 : Hid (Apart [] w2 w8) := HS7.out.trans hb8.nw.ap
      clear hb8
      have HCB : Hid (Calls Tryz.prog 13 #[.slice (some ⟨gg, 0, none⟩) cn ccc, .slice c8.p c8.n c8.c] w8 fun r w' => r = .returned (.bool true) ∧ w' = w8) := sameBytes_ok ((HBF.out.kept HS8.out).rbs H8M.out) (HB8.out.rbs H8M.out) true (by simp)
      try dsimp only
      go_wp2_with fail
      refine HCB.out.mono ?_
      rintro _ wn ⟨rfl, hwn⟩
      rw [hwn]
      clear hwn wn
      try dsimp only
      go_wp2_with fail
      go_ret
      exact ⟨rfl, HA2.out.trans HS8.out⟩
  · have hbi : ((b.n : Nat) : Int) > 200000 := by omega
    go_enter Tryz.func6, Tryz.ntmps6
    go_wp2_with fail
    go_ret
    exact ⟨rfl, Apart.refl _ _⟩
end Go.Proofs.YtddffdcjhleejaaGreat.ds
