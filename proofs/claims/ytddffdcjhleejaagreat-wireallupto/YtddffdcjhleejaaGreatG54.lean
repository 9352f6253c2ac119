import Derived.Test.YtddffdcjhleejaaGreatG40
import Derived.Test.YtddffdcjhleejaaGreatG38
import Derived.Test.YtddffdcjhleejaaGreatG48
namespace Go.Proofs.YtddffdcjhleejaaGreat.ds
open Go.ChangeShapes Go.WideShapes Go.ChangeAt Go.RowKit Go.Sort
set_option linter.unusedVariables false
set_option linter.unusedSimpArgs false
theorem zreads (w : World) : Reads w (⟨0, 0, ⟨#[]⟩, false, ⟨none, 0, 0⟩, ⟨none, 0, 0⟩⟩ : E) ⟨0, 0, ⟨#[]⟩, false, [], []⟩ :=
  ⟨rfl, rfl, rfl, rfl, Rd.nil _ _, rfl, by decide, by simp, L.nil _ _, by decide, fun _ => ⟨rfl, rfl⟩, fun _ => ⟨rfl, rfl⟩⟩
set_option maxHeartbeats 16000000 in
set_option maxRecDepth 100000 in
theorem writes_walk (w : World) (e : E) (r : Wr) (hr : Reads w e r) (b : Sl) (bs : List Nat) (hb : RBs w b bs) (hbc : b.n ≤ b.c) (hbl : b.n ≤ 9223372036854775807) (z : Int) (hz64 : -9223372036854775808 ≤ z ∧ z ≤ 9223372036854775807) : Calls Tryz.prog 8 #[.agg #[.int .i64 e.n, .int .i64 e.c, .string e.k, .bool e.d, .slice e.v.p e.v.n e.v.c, .slice e.x.p e.x.n e.x.c], .slice b.p b.n b.c, .int .i64 z] w fun r w' => r = .returned (.bool true) ∧ Apart [] w w' := by
  have HR := hid hr
  have HB := hid hb
  have HBL := hid hb.len
  have H8M : Hid (∀ y ∈ bs ++ [165, 90], y < 256) := fun y hy => by
    rcases List.mem_append.1 hy with h | h
    · exact hb.b8 y h
    · simp at h; omega
  obtain ⟨M, HM⟩ : ∃ M, Hid (M = w.heap.size) := ⟨_, rfl⟩
  obtain ⟨w0, hw0⟩ : ∃ w0, w0 = w.alloc (.cells #[.int .i64 e.n, .int .i64 e.c, .string e.k, .bool e.d, .slice e.v.p e.v.n e.v.c, .slice e.x.p e.x.n e.x.c] 37) := ⟨_, rfl⟩
  have HA0 : Hid (Apart [] w w0) := by unfold Hid; rw [hw0]; exact (Apart.refl [] w).alloc _
  have HM0 : Hid (w0.heap[M]? = some (.cells #[.int .i64 e.n, .int .i64 e.c, .string e.k, .bool e.d, .slice e.v.p e.v.n e.v.c, .slice e.x.p e.x.n e.x.c] 37 (0, 0))) := by unfold Hid; rw [HM.out, hw0]; exact heap_alloc_new w _
  clear hr hb
  by_cases hbig : b.n ≤ 200000
  · have hbi : ¬ ((b.n : Nat) : Int) > 200000 := by omega
    have HC0 := hid (alive_ok w0)
    go_enter Tryz.func8, Tryz.ntmps8
    go_wp2_with fail
    rw [← hw0]
    try rw [← HM.out]
    clear hw0
    refine HC0.out.mono ?_
    rintro _ w1 ⟨rfl, ha1⟩
    have HA1 : Hid (Apart [] w w1) := HA0.out.trans ha1
    have HM1 := hid ((ha1.block _ (lt_of_heap HM0.out) (by simp)).trans HM0.out)
    clear ha1 HC0
    have HC2 := hid (lendW_ok w1 e r (HR.out.kept0 HA1.out))
    obtain ⟨g0, g1, g2, g3, g4, g5⟩ := row6 HM1.out
    try dsimp only
    go_wp2_with fail
    clear g0 g1 g2 g3 g4 g5
    refine HC2.out.mono ?_
    rintro _ w2 ⟨f, sv, sx, rfl, hL⟩
    have HL := hid hL
    have HA12 := hid hL.bv.nw.ap
    clear hL HC2
    try dsimp only
    obtain ⟨w3, hw3⟩ : ∃ w3, w3 = (w2.alloc (.cells #[.int .i64 f.n, .int .i64 f.c, .string f.k, .bool f.d, .slice f.v.p f.v.n f.v.c, .slice f.x.p f.x.n f.x.c] 37)).alloc (.cells #[.slice sv.p sv.n sv.c, .slice sx.p sx.n sx.c] 70) := ⟨_, rfl⟩
    obtain ⟨G, HG⟩ : ∃ G, Hid (G = w2.heap.size) := ⟨_, rfl⟩
    obtain ⟨K, HK⟩ : ∃ K, Hid (K = w2.heap.size + 1) := ⟨_, rfl⟩
    have HA23 : Hid (Apart [] w2 w3) := by unfold Hid; rw [hw3]; exact ((Apart.refl [] w2).alloc _).alloc _
    have HG3 : Hid (w3.heap[G]? = some (.cells #[.int .i64 f.n, .int .i64 f.c, .string f.k, .bool f.d, .slice f.v.p f.v.n f.v.c, .slice f.x.p f.x.n f.x.c] 37 (0, 0))) := by
      unfold Hid
      rw [hw3, HG.out]
      exact (((Apart.refl [] (w2.alloc (.cells #[.int .i64 f.n, .int .i64 f.c, .string f.k, .bool f.d, .slice f.v.p f.v.n f.v.c, .slice f.x.p f.x.n f.x.c] 37))).alloc _).block _ (by simp) (by simp)).trans (heap_alloc_new w2 _)
    have HK3 : Hid (w3.heap[K]? = some (.cells #[.slice sv.p sv.n sv.c, .slice sx.p sx.n sx.c] 70 (0, 0))) := by
      unfold Hid
      rw [hw3, HK.out]
      have := heap_alloc_new (w2.alloc (.cells #[.int .i64 f.n, .int .i64 f.c, .string f.k, .bool f.d, .slice f.v.p f.v.n f.v.c, .slice f.x.p f.x.n f.x.c] 37)) (.cells #[.slice sv.p sv.n sv.c, .slice sx.p sx.n sx.c] 70)
      simpa using this
    have HM3 := hid (((HA12.out.trans HA23.out).block _ (lt_of_heap HM1.out) (by simp)).trans HM1.out)
    have HA3 : Hid (Apart [] w w3) := HA1.out.trans (HA12.out.trans HA23.out)
    have HL3 := hid (HL.out.keepT HA23.out (HA12.out.trans HA23.out) (by simp))
    obtain ⟨v, hv⟩ := bool_of' (GoodW r)
    have HVB := hid hv
    clear hv
    have HC3 := hid (putWrite_ok w3 f r HL3.out.reads v HVB.out)
    try dsimp only
    go_upto_region 5 with fail
    rw [← hw3, ← HK.out, ← HG.out]
    clear hw3
    cases v with
    | true =>
      obtain ⟨g0, g1, g2, g3, g4, g5⟩ := row6 HG3.out
      go_wp2_with fail
      try rw [← hw3]
      try rw [← HG.out]
      try rw [← HK.out]
      refine HC3.out.mono ?_
      rintro e3 w4 hp3
      obtain ⟨t3, he3, hb3⟩ := hp3.yes rfl
      have HA4 := hid hp3.ap
      have HB3 := hid hb3
      subst he3
      clear hp3 hb3
      have HC4 := hid (rputWrite_ok w4 e r (HR.out.kept0 (HA3.out.trans HA4.out)) true (by have := HVB.out; simpa using this))
      clear g0 g1 g2 g3 g4 g5
      have HM4 := hid ((HA4.out.block _ (lt_of_heap HM3.out) (by simp)).trans HM3.out)
      have HK4 := hid ((HA4.out.block _ (lt_of_heap HK3.out) (by simp)).trans HK3.out)
      obtain ⟨g0, g1, g2, g3, g4, g5⟩ := row6 HM4.out
      try dsimp only
      go_wp2_with fail
      clear g0 g1 g2 g3 g4 g5
      refine HC4.out.mono ?_
      rintro e4 w5 hp4
      obtain ⟨t4, he4, hb4⟩ := hp4.yes rfl
      have HA5 := hid hp4.ap
      have HB4 := hid hb4
      subst he4
      clear hp4 hb4
      have HSB : Hid (Calls Tryz.prog 13 #[.slice t3.p t3.n t3.c, .slice t4.p t4.n t4.c] w5 fun r w' => r = .returned (.bool true) ∧ w' = w5) := sameBytes_ok ((HB3.out.kept HA5.out).rbs (encW_256 HR.out.vb)) (HB4.out.rbs (encW_256 HR.out.vb)) true (by simp)
      have HA05 : Hid (Apart [] w w5) := HA3.out.trans (HA4.out.trans HA5.out)
      have HM5 := hid ((HA5.out.block _ (lt_of_heap HM4.out) (by simp)).trans HM4.out)
      have HK5 := hid ((HA5.out.block _ (lt_of_heap HK4.out) (by simp)).trans HK4.out)
      have HC6 : Hid (Calls Tryz.prog 28 #[.agg #[.slice sv.p sv.n sv.c, .slice sx.p sx.n sx.c], .agg #[.int .i64 e.n, .int .i64 e.c, .string e.k, .bool e.d, .slice e.v.p e.v.n e.v.c, .slice e.x.p e.x.n e.x.c]] w5 fun a w' => a = .returned (.bool true) ∧ Apart [] w5 w') := whole_ok sv sx e r (HR.out.kept0 HA05.out) (HL3.out.bv.kept (HA4.out.trans HA5.out)) (HL3.out.bx.kept (HA4.out.trans HA5.out))
      try dsimp only
      go_wp2_with fail
      refine HSB.out.mono ?_
      rintro _ wn ⟨rfl, hwn⟩
      rw [hwn]
      clear hwn wn
      try dsimp only
      obtain ⟨g0, g1, g2, g3, g4, g5⟩ := row6 HM5.out
      obtain ⟨h0, h1⟩ := rowv2 HK5.out
      go_wp2_with fail
      clear g0 g1 g2 g3 g4 g5 h0 h1
      refine HC6.out.mono ?_
      rintro _ w6 ⟨rfl, ha6⟩
      have HA6 : Hid (Apart [] w w6) := HA05.out.trans ha6
      clear ha6
      have HB6 := hid (HB.out.kept0 HA6.out)
      try dsimp only
      go_wp2_with fail
      refine (bytes_ok HB6.out (by rw [HBL.out]; omega)).mono ?_
      rintro _ w7 ⟨cc, rfl, hb7⟩
      have HB7 := hid hb7
      obtain ⟨hcap, gg, hgp⟩ := slice_cap hb7 (by simp)
      have HD7 : Hid (Dat w7 cc.p b.n cc.c bs) := by
        unfold Hid
        have := hb7.pre HB.out.b8 (by rw [HBL.out]; omega) (by simp)
        rw [HBL.out] at this
        exact this
      have hcap2 : b.n ≤ cc.c := by rw [← HBL.out]; exact hcap
      have HA7 : Hid (Apart [] w w7) := HA6.out.trans hb7.nw.ap
      clear hb7 hcap
      obtain ⟨cp, cn, ccc⟩ := cc
      simp only at hgp hcap2 HD7 ⊢
      subst hgp
      have hcap3 : ((b.n : Nat) : Int) ≤ (ccc : Int) := by omega
      try dsimp only
      by_cases hz : z < 0 ∨ ((b.n : Nat) : Int) < z
      · have HC8 := hid (getWrite_bad w7 (some ⟨gg, 0, none⟩) b.n ccc z (by omega) hz)
        have HC9 := hid (fun W => rgetWrite_bad W b.p b.n b.c z hz)
        clear hz
        go_wp2_with fail
        refine HC8.out.mono ?_
        rintro _ w8 ⟨ha8, rfl⟩
        have HS8 := hid ha8
        clear ha8
        unfold zE
        try dsimp only
        obtain ⟨w9, hw9⟩ : ∃ w9, w9 = w8.alloc (.cells #[.int .i64 0, .int .i64 0, .string ⟨#[]⟩, .bool false, .slice none 0 0, .slice none 0 0] 37) := ⟨_, rfl⟩
        obtain ⟨U, HU⟩ : ∃ U, Hid (U = w8.heap.size) := ⟨_, rfl⟩
        have HS81 : Hid (Apart [] w8 w9) := by unfold Hid; rw [hw9]; exact (Apart.refl [] w8).alloc _
        have HU9 : Hid (w9.heap[U]? = some (.cells #[.int .i64 0, .int .i64 0, .string ⟨#[]⟩, .bool false, .slice none 0 0, .slice none 0 0] 37 (0, 0))) := by unfold Hid; rw [HU.out, hw9]; exact heap_alloc_new w8 _
        go_wp2_with fail
        try rw [← hw9]
        try rw [← HU.out]
        clear hw9
        refine (HC9.out w9).mono ?_
        rintro _ w10 ⟨ha10, rfl⟩
        unfold zE
        have HA910 := hid ha10
        have HS10 : Hid (Apart [] w7 w10) := (HS8.out.trans HS81.out).trans ha10
        clear ha10
        try dsimp only
        obtain ⟨w11, hw11⟩ : ∃ w11, w11 = w10.alloc (.cells #[.int .i64 0, .int .i64 0, .string ⟨#[]⟩, .bool false, .slice none 0 0, .slice none 0 0] 37) := ⟨_, rfl⟩
        obtain ⟨V, HVV⟩ : ∃ V, Hid (V = w10.heap.size) := ⟨_, rfl⟩
        have HA1011 : Hid (Apart [] w10 w11) := by unfold Hid; rw [hw11]; exact (Apart.refl [] w10).alloc _
        have HV11 : Hid (w11.heap[V]? = some (.cells #[.int .i64 0, .int .i64 0, .string ⟨#[]⟩, .bool false, .slice none 0 0, .slice none 0 0] 37 (0, 0))) := by unfold Hid; rw [HVV.out, hw11]; exact heap_alloc_new w10 _
        have HU11 : Hid (w11.heap[U]? = some (.cells #[.int .i64 0, .int .i64 0, .string ⟨#[]⟩, .bool false, .slice none 0 0, .slice none 0 0] 37 (0, 0))) := ((HA910.out.trans HA1011.out).block _ (lt_of_heap HU9.out) (by simp)).trans HU9.out
        have HS11 : Hid (Apart [] w7 w11) := HS10.out.trans HA1011.out
        have HCS : Hid (Calls Tryz.prog 31 #[.agg #[.int .i64 0, .int .i64 0, .string ⟨#[]⟩, .bool false, .slice none 0 0, .slice none 0 0], .agg #[.int .i64 0, .int .i64 0, .string ⟨#[]⟩, .bool false, .slice none 0 0, .slice none 0 0]] w11 fun r w' => r = .returned (.bool true) ∧ Apart [] w11 w') := sameWrite_ok (⟨0, 0, ⟨#[]⟩, false, ⟨none, 0, 0⟩, ⟨none, 0, 0⟩⟩ : E) (⟨0, 0, ⟨#[]⟩, false, ⟨none, 0, 0⟩, ⟨none, 0, 0⟩⟩ : E) ⟨0, 0, ⟨#[]⟩, false, [], []⟩ ⟨0, 0, ⟨#[]⟩, false, [], []⟩ (zreads _) (zreads _) true (by simp)
        obtain ⟨g0, g1, g2, g3, g4, g5⟩ := row6 HU11.out
        obtain ⟨h0, h1, h2, h3, h4, h5⟩ := row6 HV11.out
        rw [hw11] at g0 g1 g2 g3 g4 g5 h0 h1 h2 h3 h4 h5
        rw [HVV.out] at h0 h1 h2 h3 h4 h5
        go_wp2_with fail
        rw [← hw11]
        clear hw11 g0 g1 g2 g3 g4 g5 h0 h1 h2 h3 h4 h5
        refine HCS.out.mono ?_
        rintro _ w12 ⟨rfl, ha12⟩
        have HS12 : Hid (Apart [] w7 w12) := HS11.out.trans ha12
        clear ha12
        have HB12 := hid (HB.out.kept0 (HA7.out.trans HS12.out))
        try dsimp only
        go_wp2_with fail
        refine (bytes_ok HB12.out (by rw [HBL.out]; omega)).mono ?_
        rintro _ w13 ⟨c13, rfl, hb13⟩
        have HB13 := hid hb13
        have HS13 : Hid (Apart [] w7 w13) := HS12.out.trans hb13.nw.ap
        clear hb13
        have HCB : Hid (Calls Tryz.prog 13 #[.slice (some ⟨gg, 0, none⟩) cn ccc, .slice c13.p c13.n c13.c] w13 fun r w' => r = .returned (.bool true) ∧ w' = w13) := sameBytes_ok ((HB7.out.kept HS13.out).rbs H8M.out) (HB13.out.rbs H8M.out) true (by simp)
        try dsimp only
        go_wp2_with fail
        refine HCB.out.mono ?_
        rintro _ wn ⟨rfl, hwn⟩
        rw [hwn]
        clear hwn wn
        try dsimp only
        go_wp2_with fail
        go_ret
        exact ⟨rfl, HA7.out.trans HS13.out⟩
      · obtain ⟨q, rfl⟩ := Int.eq_ofNat_of_zero_le (show 0 ≤ z by omega)
        have hq : q ≤ b.n := by omega
        have HC8 := hid (getWrite_ok HD7.out q hq)
        have HC9' := hid (fun W (a : Apart [] w W) => rgetWrite_ok (w := W) (HB.out.kept0 a) (by omega) hbc q hq)
        clear hz
        go_wp2_with fail
        refine HC8.out.mono ?_
        rintro e8 w8 hp8
        have HS8 := hid hp8.ap
        cases hr : rlone bs q with
        | error x =>
          have he8 := hp8.no x hr
          subst he8
          have HRR := hid hr
          clear hp8 hr
          have HC9 : Hid (∀ W, Apart [] w W → Calls Tryz.prog 30 #[.slice b.p b.n b.c, .int .i64 (q : Nat)] W fun e w' => Apart [] W w' ∧ e = .returned (.tuple #[.agg #[.int .i64 0, .int .i64 0, .string ⟨#[]⟩, .bool false, .slice none 0 0, .slice none 0 0], .int .i64 (x : Nat), .int .i64 60])) := fun W a => (HC9'.out W a).mono (fun e w' hp => ⟨hp.ap, hp.no x HRR.out⟩)
          unfold zE
          try dsimp only
          obtain ⟨w9, hw9⟩ : ∃ w9, w9 = w8.alloc (.cells #[.int .i64 0, .int .i64 0, .string ⟨#[]⟩, .bool false, .slice none 0 0, .slice none 0 0] 37) := ⟨_, rfl⟩
          obtain ⟨U, HU⟩ : ∃ U, Hid (U = w8.heap.size) := ⟨_, rfl⟩
          have HS81 : Hid (Apart [] w8 w9) := by unfold Hid; rw [hw9]; exact (Apart.refl [] w8).alloc _
          have HU9 : Hid (w9.heap[U]? = some (.cells #[.int .i64 0, .int .i64 0, .string ⟨#[]⟩, .bool false, .slice none 0 0, .slice none 0 0] 37 (0, 0))) := by unfold Hid; rw [HU.out, hw9]; exact heap_alloc_new w8 _
          go_wp2_with fail
          try rw [← hw9]
          try rw [← HU.out]
          clear hw9
          refine (HC9.out w9 (HA7.out.trans (HS8.out.trans HS81.out))).mono ?_
          rintro _ w10 ⟨ha10, rfl⟩
          have HA910 := hid ha10
          have HS10 : Hid (Apart [] w7 w10) := (HS8.out.trans HS81.out).trans ha10
          clear ha10
          try dsimp only
          obtain ⟨w11, hw11⟩ : ∃ w11, w11 = w10.alloc (.cells #[.int .i64 0, .int .i64 0, .string ⟨#[]⟩, .bool false, .slice none 0 0, .slice none 0 0] 37) := ⟨_, rfl⟩
          obtain ⟨V, HVV⟩ : ∃ V, Hid (V = w10.heap.size) := ⟨_, rfl⟩
          have HA1011 : Hid (Apart [] w10 w11) := by unfold Hid; rw [hw11]; exact (Apart.refl [] w10).alloc _
          have HV11 : Hid (w11.heap[V]? = some (.cells #[.int .i64 0, .int .i64 0, .string ⟨#[]⟩, .bool false, .slice none 0 0, .slice none 0 0] 37 (0, 0))) := by unfold Hid; rw [HVV.out, hw11]; exact heap_alloc_new w10 _
          have HU11 : Hid (w11.heap[U]? = some (.cells #[.int .i64 0, .int .i64 0, .string ⟨#[]⟩, .bool false, .slice none 0 0, .slice none 0 0] 37 (0, 0))) := ((HA910.out.trans HA1011.out).block _ (lt_of_heap HU9.out) (by simp)).trans HU9.out
          have HS11 : Hid (Apart [] w7 w11) := HS10.out.trans HA1011.out
          have HCS : Hid (Calls Tryz.prog 31 #[.agg #[.int .i64 0, .int .i64 0, .string ⟨#[]⟩, .bool false, .slice none 0 0, .slice none 0 0], .agg #[.int .i64 0, .int .i64 0, .string ⟨#[]⟩, .bool false, .slice none 0 0, .slice none 0 0]] w11 fun r w' => r = .returned (.bool true) ∧ Apart [] w11 w') := sameWrite_ok (⟨0, 0, ⟨#[]⟩, false, ⟨none, 0, 0⟩, ⟨none, 0, 0⟩⟩ : E) (⟨0, 0, ⟨#[]⟩, false, ⟨none, 0, 0⟩, ⟨none, 0, 0⟩⟩ : E) ⟨0, 0, ⟨#[]⟩, false, [], []⟩ ⟨0, 0, ⟨#[]⟩, false, [], []⟩ (zreads _) (zreads _) true (by simp)
          obtain ⟨g0, g1, g2, g3, g4, g5⟩ := row6 HU11.out
          obtain ⟨h0, h1, h2, h3, h4, h5⟩ := row6 HV11.out
          rw [hw11] at g0 g1 g2 g3 g4 g5 h0 h1 h2 h3 h4 h5
          rw [HVV.out] at h0 h1 h2 h3 h4 h5
          go_wp2_with fail
          rw [← hw11]
          clear hw11 g0 g1 g2 g3 g4 g5 h0 h1 h2 h3 h4 h5
          refine HCS.out.mono ?_
          rintro _ w12 ⟨rfl, ha12⟩
          have HS12 : Hid (Apart [] w7 w12) := HS11.out.trans ha12
          clear ha12
          have HB12 := hid (HB.out.kept0 (HA7.out.trans HS12.out))
          try dsimp only
          go_wp2_with fail
          refine (bytes_ok HB12.out (by rw [HBL.out]; omega)).mono ?_
          rintro _ w13 ⟨c13, rfl, hb13⟩
          have HB13 := hid hb13
          have HS13 : Hid (Apart [] w7 w13) := HS12.out.trans hb13.nw.ap
          clear hb13
          have HCB : Hid (Calls Tryz.prog 13 #[.slice (some ⟨gg, 0, none⟩) cn ccc, .slice c13.p c13.n c13.c] w13 fun r w' => r = .returned (.bool true) ∧ w' = w13) := sameBytes_ok ((HB7.out.kept HS13.out).rbs H8M.out) (HB13.out.rbs H8M.out) true (by simp)
          try dsimp only
          go_wp2_with fail
          refine HCB.out.mono ?_
          rintro _ wn ⟨rfl, hwn⟩
          rw [hwn]
          clear hwn wn
          try dsimp only
          go_wp2_with fail
          go_ret
          exact ⟨rfl, HA7.out.trans HS13.out⟩
        | ok tt =>
          obtain ⟨a, q2⟩ := tt
          obtain ⟨v8, he8, hv8⟩ := hp8.ok a q2 hr
          subst he8
          obtain ⟨f8, rfl, hf8⟩ := hv8
          have HV8 := hid hf8.reads
          have HRR := hid hr
          clear hp8 hr hf8
          have HC9 : Hid (∀ W, Apart [] w W → Calls Tryz.prog 30 #[.slice b.p b.n b.c, .int .i64 (q : Nat)] W fun e w' => Apart [] W w' ∧ ∃ f9 : E, e = .returned (.tuple #[.agg #[.int .i64 f9.n, .int .i64 f9.c, .string f9.k, .bool f9.d, .slice f9.v.p f9.v.n f9.v.c, .slice f9.x.p f9.x.n f9.x.c], .int .i64 (q2 : Nat), .int .i64 0]) ∧ Reads w' f9 a) := fun W aa => (HC9'.out W aa).mono (fun e w' hp => ⟨hp.ap, (by
            obtain ⟨v9, he9, f9, hv9, hw9⟩ := hp.ok a q2 HRR.out
            exact ⟨f9, by rw [he9, hv9]; rfl, hw9.reads⟩)⟩)
          unfold aggE
          try dsimp only
          obtain ⟨w9, hw9⟩ : ∃ w9, w9 = w8.alloc (.cells #[.int .i64 f8.n, .int .i64 f8.c, .string f8.k, .bool f8.d, .slice f8.v.p f8.v.n f8.v.c, .slice f8.x.p f8.x.n f8.x.c] 37) := ⟨_, rfl⟩
          obtain ⟨U, HU⟩ : ∃ U, Hid (U = w8.heap.size) := ⟨_, rfl⟩
          have HS81 : Hid (Apart [] w8 w9) := by unfold Hid; rw [hw9]; exact (Apart.refl [] w8).alloc _
          have HU9 : Hid (w9.heap[U]? = some (.cells #[.int .i64 f8.n, .int .i64 f8.c, .string f8.k, .bool f8.d, .slice f8.v.p f8.v.n f8.v.c, .slice f8.x.p f8.x.n f8.x.c] 37 (0, 0))) := by unfold Hid; rw [HU.out, hw9]; exact heap_alloc_new w8 _
          go_wp2_with fail
          try rw [← hw9]
          try rw [← HU.out]
          clear hw9
          refine (HC9.out w9 (HA7.out.trans (HS8.out.trans HS81.out))).mono ?_
          rintro _ w10 ⟨ha10, f9, rfl, hv9⟩
          have HV9 := hid hv9
          clear hv9
          have HA910 := hid ha10
          have HS10 : Hid (Apart [] w7 w10) := (HS8.out.trans HS81.out).trans ha10
          clear ha10
          try dsimp only
          obtain ⟨w11, hw11⟩ : ∃ w11, w11 = w10.alloc (.cells #[.int .i64 f9.n, .int .i64 f9.c, .string f9.k, .bool f9.d, .slice f9.v.p f9.v.n f9.v.c, .slice f9.x.p f9.x.n f9.x.c] 37) := ⟨_, rfl⟩
          obtain ⟨V, HVV⟩ : ∃ V, Hid (V = w10.heap.size) := ⟨_, rfl⟩
          have HA1011 : Hid (Apart [] w10 w11) := by unfold Hid; rw [hw11]; exact (Apart.refl [] w10).alloc _
          have HV11 : Hid (w11.heap[V]? = some (.cells #[.int .i64 f9.n, .int .i64 f9.c, .string f9.k, .bool f9.d, .slice f9.v.p f9.v.n f9.v.c, .slice f9.x.p f9.x.n f9.x.c] 37 (0, 0))) := by unfold Hid; rw [HVV.out, hw11]; exact heap_alloc_new w10 _
          have HU11 : Hid (w11.heap[U]? = some (.cells #[.int .i64 f8.n, .int .i64 f8.c, .string f8.k, .bool f8.d, .slice f8.v.p f8.v.n f8.v.c, .slice f8.x.p f8.x.n f8.x.c] 37 (0, 0))) := ((HA910.out.trans HA1011.out).block _ (lt_of_heap HU9.out) (by simp)).trans HU9.out
          have HS11 : Hid (Apart [] w7 w11) := HS10.out.trans HA1011.out
          have HCS : Hid (Calls Tryz.prog 31 #[.agg #[.int .i64 f8.n, .int .i64 f8.c, .string f8.k, .bool f8.d, .slice f8.v.p f8.v.n f8.v.c, .slice f8.x.p f8.x.n f8.x.c], .agg #[.int .i64 f9.n, .int .i64 f9.c, .string f9.k, .bool f9.d, .slice f9.v.p f9.v.n f9.v.c, .slice f9.x.p f9.x.n f9.x.c]] w11 fun r w' => r = .returned (.bool true) ∧ Apart [] w11 w') := sameWrite_ok f8 f9 a a (HV8.out.kept0 (HS81.out.trans (HA910.out.trans HA1011.out))) (HV9.out.kept0 HA1011.out) true (by simp)
          obtain ⟨g0, g1, g2, g3, g4, g5⟩ := row6 HU11.out
          obtain ⟨h0, h1, h2, h3, h4, h5⟩ := row6 HV11.out
          rw [hw11] at g0 g1 g2 g3 g4 g5 h0 h1 h2 h3 h4 h5
          rw [HVV.out] at h0 h1 h2 h3 h4 h5
          go_wp2_with fail
          rw [← hw11]
          clear hw11 g0 g1 g2 g3 g4 g5 h0 h1 h2 h3 h4 h5
          refine HCS.out.mono ?_
          rintro _ w12 ⟨rfl, ha12⟩
          have HS12 : Hid (Apart [] w7 w12) := HS11.out.trans ha12
          clear ha12
          have HB12 := hid (HB.out.kept0 (HA7.out.trans HS12.out))
          try dsimp only
          go_wp2_with fail
          refine (bytes_ok HB12.out (by rw [HBL.out]; omega)).mono ?_
          rintro _ w13 ⟨c13, rfl, hb13⟩
          have HB13 := hid hb13
          have HS13 : Hid (Apart [] w7 w13) := HS12.out.trans hb13.nw.ap
          clear hb13
          have HCB : Hid (Calls Tryz.prog 13 #[.slice (some ⟨gg, 0, none⟩) cn ccc, .slice c13.p c13.n c13.c] w13 fun r w' => r = .returned (.bool true) ∧ w' = w13) := sameBytes_ok ((HB7.out.kept HS13.out).rbs H8M.out) (HB13.out.rbs H8M.out) true (by simp)
          try dsimp only
          go_wp2_with fail
          refine HCB.out.mono ?_
          rintro _ wn ⟨rfl, hwn⟩
          rw [hwn]
          clear hwn wn
          try dsimp only
          go_wp2_with fail
          go_ret
          exact ⟨rfl, HA7.out.trans HS13.out⟩
    | false =>
      obtain ⟨g0, g1, g2, g3, g4, g5⟩ := row6 HG3.out
      go_wp2_with fail
      try rw [← hw3]
      try rw [← HG.out]
      try rw [← HK.out]
      refine HC3.out.mono ?_
      rintro e3 w4 hp3
      have he3 := hp3.no rfl
      have HA4 := hid hp3.ap
      subst he3
      clear hp3
      have HC4 := hid (rputWrite_ok w4 e r (HR.out.kept0 (HA3.out.trans HA4.out)) false (by have := HVB.out; simpa using this))
      clear g0 g1 g2 g3 g4 g5
      have HM4 := hid ((HA4.out.block _ (lt_of_heap HM3.out) (by simp)).trans HM3.out)
      have HK4 := hid ((HA4.out.block _ (lt_of_heap HK3.out) (by simp)).trans HK3.out)
      obtain ⟨g0, g1, g2, g3, g4, g5⟩ := row6 HM4.out
      try dsimp only
      go_wp2_with fail
      clear g0 g1 g2 g3 g4 g5
      refine HC4.out.mono ?_
      rintro e4 w5 hp4
      have he4 := hp4.no rfl
      have HA5 := hid hp4.ap
      subst he4
      clear hp4
      have HSB : Hid (Calls Tryz.prog 13 #[.slice none 0 0, .slice none 0 0] w5 fun r w' => r = .returned (.bool true) ∧ w' = w5) := sameBytes_ok (s := ⟨none, 0, 0⟩) (t := ⟨none, 0, 0⟩) (a := []) (b := []) ⟨Rd.nil _ _, rfl, by simp, fun _ => ⟨rfl, rfl⟩⟩ ⟨Rd.nil _ _, rfl, by simp, fun _ => ⟨rfl, rfl⟩⟩ true (by simp)
      have HA05 : Hid (Apart [] w w5) := HA3.out.trans (HA4.out.trans HA5.out)
      have HM5 := hid ((HA5.out.block _ (lt_of_heap HM4.out) (by simp)).trans HM4.out)
      have HK5 := hid ((HA5.out.block _ (lt_of_heap HK4.out) (by simp)).trans HK4.out)
      have HC6 : Hid (Calls Tryz.prog 28 #[.agg #[.slice sv.p sv.n sv.c, .slice sx.p sx.n sx.c], .agg #[.int .i64 e.n, .int .i64 e.c, .string e.k, .bool e.d, .slice e.v.p e.v.n e.v.c, .slice e.x.p e.x.n e.x.c]] w5 fun a w' => a = .returned (.bool true) ∧ Apart [] w5 w') := whole_ok sv sx e r (HR.out.kept0 HA05.out) (HL3.out.bv.kept (HA4.out.trans HA5.out)) (HL3.out.bx.kept (HA4.out.trans HA5.out))
      try dsimp only
      go_wp2_with fail
      refine HSB.out.mono ?_
      rintro _ wn ⟨rfl, hwn⟩
      rw [hwn]
      clear hwn wn
      try dsimp only
      obtain ⟨g0, g1, g2, g3, g4, g5⟩ := row6 HM5.out
      obtain ⟨h0, h1⟩ := rowv2 HK5.out
      go_wp2_with fail
      clear g0 g1 g2 g3 g4 g5 h0 h1
      refine HC6.out.mono ?_
      rintro _ w6 ⟨rfl, ha6⟩
      have HA6 : Hid (Apart [] w w6) := HA05.out.trans ha6
      clear ha6
      have HB6 := hid (HB.out.kept0 HA6.out)
      try dsimp only
      go_wp2_with fail
      refine (bytes_ok HB6.out (by rw [HBL.out]; omega)).mono ?_
      rintro _ w7 ⟨cc, rfl, hb7⟩
      have HB7 := hid hb7
      obtain ⟨hcap, gg, hgp⟩ := slice_cap hb7 (by simp)
      have HD7 : Hid (Dat w7 cc.p b.n cc.c bs) := by
        unfold Hid
        have := hb7.pre HB.out.b8 (by rw [HBL.out]; omega) (by simp)
        rw [HBL.out] at this
        exact this
      have hcap2 : b.n ≤ cc.c := by rw [← HBL.out]; exact hcap
      have HA7 : Hid (Apart [] w w7) := HA6.out.trans hb7.nw.ap
      clear hb7 hcap
      obtain ⟨cp, cn, ccc⟩ := cc
      simp only at hgp hcap2 HD7 ⊢
      subst hgp
      have hcap3 : ((b.n : Nat) : Int) ≤ (ccc : Int) := by omega
      try dsimp only
      by_cases hz : z < 0 ∨ ((b.n : Nat) : Int) < z
      · have HC8 := hid (getWrite_bad w7 (some ⟨gg, 0, none⟩) b.n ccc z (by omega) hz)
        have HC9 := hid (fun W => rgetWrite_bad W b.p b.n b.c z hz)
        clear hz
        go_wp2_with fail
        refine HC8.out.mono ?_
        rintro _ w8 ⟨ha8, rfl⟩
        have HS8 := hid ha8
        clear ha8
        unfold zE
        try dsimp only
        obtain ⟨w9, hw9⟩ : ∃ w9, w9 = w8.alloc (.cells #[.int .i64 0, .int .i64 0, .string ⟨#[]⟩, .bool false, .slice none 0 0, .slice none 0 0] 37) := ⟨_, rfl⟩
        obtain ⟨U, HU⟩ : ∃ U, Hid (U = w8.heap.size) := ⟨_, rfl⟩
        have HS81 : Hid (Apart [] w8 w9) := by unfold Hid; rw [hw9]; exact (Apart.refl [] w8).alloc _
        have HU9 : Hid (w9.heap[U]? = some (.cells #[.int .i64 0, .int .i64 0, .string ⟨#[]⟩, .bool false, .slice none 0 0, .slice none 0 0] 37 (0, 0))) := by unfold Hid; rw [HU.out, hw9]; exact heap_alloc_new w8 _
        go_wp2_with fail
        try rw [← hw9]
        try rw [← HU.out]
        clear hw9
        refine (HC9.out w9).mono ?_
        rintro _ w10 ⟨ha10, rfl⟩
        unfold zE
        have HA910 := hid ha10
        have HS10 : Hid (Apart [] w7 w10) := (HS8.out.trans HS81.out).trans ha10
        clear ha10
        try dsimp only
        obtain ⟨w11, hw11⟩ : ∃ w11, w11 = w10.alloc (.cells #[.int .i64 0, .int .i64 0, .string ⟨#[]⟩, .bool false, .slice none 0 0, .slice none 0 0] 37) := ⟨_, rfl⟩
        obtain ⟨V, HVV⟩ : ∃ V, Hid (V = w10.heap.size) := ⟨_, rfl⟩
        have HA1011 : Hid (Apart [] w10 w11) := by unfold Hid; rw [hw11]; exact (Apart.refl [] w10).alloc _
        have HV11 : Hid (w11.heap[V]? = some (.cells #[.int .i64 0, .int .i64 0, .string ⟨#[]⟩, .bool false, .slice none 0 0, .slice none 0 0] 37 (0, 0))) := by unfold Hid; rw [HVV.out, hw11]; exact heap_alloc_new w10 _
        have HU11 : Hid (w11.heap[U]? = some (.cells #[.int .i64 0, .int .i64 0, .string ⟨#[]⟩, .bool false, .slice none 0 0, .slice none 0 0] 37 (0, 0))) := ((HA910.out.trans HA1011.out).block _ (lt_of_heap HU9.out) (by simp)).trans HU9.out
        have HS11 : Hid (Apart [] w7 w11) := HS10.out.trans HA1011.out
        have HCS : Hid (Calls Tryz.prog 31 #[.agg #[.int .i64 0, .int .i64 0, .string ⟨#[]⟩, .bool false, .slice none 0 0, .slice none 0 0], .agg #[.int .i64 0, .int .i64 0, .string ⟨#[]⟩, .bool false, .slice none 0 0, .slice none 0 0]] w11 fun r w' => r = .returned (.bool true) ∧ Apart [] w11 w') := sameWrite_ok (⟨0, 0, ⟨#[]⟩, false, ⟨none, 0, 0⟩, ⟨none, 0, 0⟩⟩ : E) (⟨0, 0, ⟨#[]⟩, false, ⟨none, 0, 0⟩, ⟨none, 0, 0⟩⟩ : E) ⟨0, 0, ⟨#[]⟩, false, [], []⟩ ⟨0, 0, ⟨#[]⟩, false, [], []⟩ (zreads _) (zreads _) true (by simp)
        obtain ⟨g0, g1, g2, g3, g4, g5⟩ := row6 HU11.out
        obtain ⟨h0, h1, h2, h3, h4, h5⟩ := row6 HV11.out
        rw [hw11] at g0 g1 g2 g3 g4 g5 h0 h1 h2 h3 h4 h5
        rw [HVV.out] at h0 h1 h2 h3 h4 h5
        go_wp2_with fail
        rw [← hw11]
        clear hw11 g0 g1 g2 g3 g4 g5 h0 h1 h2 h3 h4 h5
        refine HCS.out.mono ?_
        rintro _ w12 ⟨rfl, ha12⟩
        have HS12 : Hid (Apart [] w7 w12) := HS11.out.trans ha12
        clear ha12
        have HB12 := hid (HB.out.kept0 (HA7.out.trans HS12.out))
        try dsimp only
        go_wp2_with fail
        refine (bytes_ok HB12.out (by rw [HBL.out]; omega)).mono ?_
        rintro _ w13 ⟨c13, rfl, hb13⟩
        have HB13 := hid hb13
        have HS13 : Hid (Apart [] w7 w13) := HS12.out.trans hb13.nw.ap
        clear hb13
        have HCB : Hid (Calls Tryz.prog 13 #[.slice (some ⟨gg, 0, none⟩) cn ccc, .slice c13.p c13.n c13.c] w13 fun r w' => r = .returned (.bool true) ∧ w' = w13) := sameBytes_ok ((HB7.out.kept HS13.out).rbs H8M.out) (HB13.out.rbs H8M.out) true (by simp)
        try dsimp only
        go_wp2_with fail
        refine HCB.out.mono ?_
        rintro _ wn ⟨rfl, hwn⟩
        rw [hwn]
        clear hwn wn
        try dsimp only
        go_wp2_with fail
        go_ret
        exact ⟨rfl, HA7.out.trans HS13.out⟩
      · obtain ⟨q, rfl⟩ := Int.eq_ofNat_of_zero_le (show 0 ≤ z by omega)
        have hq : q ≤ b.n := by omega
        have HC8 := hid (getWrite_ok HD7.out q hq)
        have HC9' := hid (fun W (a : Apart [] w W) => rgetWrite_ok (w := W) (HB.out.kept0 a) (by omega) hbc q hq)
        clear hz
        go_wp2_with fail
        refine HC8.out.mono ?_
        rintro e8 w8 hp8
        have HS8 := hid hp8.ap
        cases hr : rlone bs q with
        | error x =>
          have he8 := hp8.no x hr
          subst he8
          have HRR := hid hr
          clear hp8 hr
          have HC9 : Hid (∀ W, Apart [] w W → Calls Tryz.prog 30 #[.slice b.p b.n b.c, .int .i64 (q : Nat)] W fun e w' => Apart [] W w' ∧ e = .returned (.tuple #[.agg #[.int .i64 0, .int .i64 0, .string ⟨#[]⟩, .bool false, .slice none 0 0, .slice none 0 0], .int .i64 (x : Nat), .int .i64 60])) := fun W a => (HC9'.out W a).mono (fun e w' hp => ⟨hp.ap, hp.no x HRR.out⟩)
          unfold zE
          try dsimp only
          obtain ⟨w9, hw9⟩ : ∃ w9, w9 = w8.alloc (.cells #[.int .i64 0, .int .i64 0, .string ⟨#[]⟩, .bool false, .slice none 0 0, .slice none 0 0] 37) := ⟨_, rfl⟩
          obtain ⟨U, HU⟩ : ∃ U, Hid (U = w8.heap.size) := ⟨_, rfl⟩
          have HS81 : Hid (Apart [] w8 w9) := by unfold Hid; rw [hw9]; exact (Apart.refl [] w8).alloc _
          have HU9 : Hid (w9.heap[U]? = some (.cells #[.int .i64 0, .int .i64 0, .string ⟨#[]⟩, .bool false, .slice none 0 0, .slice none 0 0] 37 (0, 0))) := by unfold Hid; rw [HU.out, hw9]; exact heap_alloc_new w8 _
          go_wp2_with fail
          try rw [← hw9]
          try rw [← HU.out]
          clear hw9
          refine (HC9.out w9 (HA7.out.trans (HS8.out.trans HS81.out))).mono ?_
          rintro _ w10 ⟨ha10, rfl⟩
          have HA910 := hid ha10
          have HS10 : Hid (Apart [] w7 w10) := (HS8.out.trans HS81.out).trans ha10
          clear ha10
          try dsimp only
          obtain ⟨w11, hw11⟩ : ∃ w11, w11 = w10.alloc (.cells #[.int .i64 0, .int .i64 0, .string ⟨#[]⟩, .bool false, .slice none 0 0, .slice none 0 0] 37) := ⟨_, rfl⟩
          obtain ⟨V, HVV⟩ : ∃ V, Hid (V = w10.heap.size) := ⟨_, rfl⟩
          have HA1011 : Hid (Apart [] w10 w11) := by unfold Hid; rw [hw11]; exact (Apart.refl [] w10).alloc _
          have HV11 : Hid (w11.heap[V]? = some (.cells #[.int .i64 0, .int .i64 0, .string ⟨#[]⟩, .bool false, .slice none 0 0, .slice none 0 0] 37 (0, 0))) := by unfold Hid; rw [HVV.out, hw11]; exact heap_alloc_new w10 _
          have HU11 : Hid (w11.heap[U]? = some (.cells #[.int .i64 0, .int .i64 0, .string ⟨#[]⟩, .bool false, .slice none 0 0, .slice none 0 0] 37 (0, 0))) := ((HA910.out.trans HA1011.out).block _ (lt_of_heap HU9.out) (by simp)).trans HU9.out
          have HS11 : Hid (Apart [] w7 w11) := HS10.out.trans HA1011.out
          have HCS : Hid (Calls Tryz.prog 31 #[.agg #[.int .i64 0, .int .i64 0, .string ⟨#[]⟩, .bool false, .slice none 0 0, .slice none 0 0], .agg #[.int .i64 0, .int .i64 0, .string ⟨#[]⟩, .bool false, .slice none 0 0, .slice none 0 0]] w11 fun r w' => r = .returned (.bool true) ∧ Apart [] w11 w') := sameWrite_ok (⟨0, 0, ⟨#[]⟩, false, ⟨none, 0, 0⟩, ⟨none, 0, 0⟩⟩ : E) (⟨0, 0, ⟨#[]⟩, false, ⟨none, 0, 0⟩, ⟨none, 0, 0⟩⟩ : E) ⟨0, 0, ⟨#[]⟩, false, [], []⟩ ⟨0, 0, ⟨#[]⟩, false, [], []⟩ (zreads _) (zreads _) true (by simp)
          obtain ⟨g0, g1, g2, g3, g4, g5⟩ := row6 HU11.out
          obtain ⟨h0, h1, h2, h3, h4, h5⟩ := row6 HV11.out
          rw [hw11] at g0 g1 g2 g3 g4 g5 h0 h1 h2 h3 h4 h5
          rw [HVV.out] at h0 h1 h2 h3 h4 h5
          go_wp2_with fail
          rw [← hw11]
          clear hw11 g0 g1 g2 g3 g4 g5 h0 h1 h2 h3 h4 h5
          refine HCS.out.mono ?_
          rintro _ w12 ⟨rfl, ha12⟩
          have HS12 : Hid (Apart [] w7 w12) := HS11.out.trans ha12
          clear ha12
          have HB12 := hid (HB.out.kept0 (HA7.out.trans HS12.out))
          try dsimp only
          go_wp2_with fail
          refine (bytes_ok HB12.out (by rw [HBL.out]; omega)).mono ?_
          rintro _ w13 ⟨c13, rfl, hb13⟩
          have HB13 := hid hb13
          have HS13 : Hid (Apart [] w7 w13) := HS12.out.trans hb13.nw.ap
          clear hb13
          have HCB : Hid (Calls Tryz.prog 13 #[.slice (some ⟨gg, 0, none⟩) cn ccc, .slice c13.p c13.n c13.c] w13 fun r w' => r = .returned (.bool true) ∧ w' = w13) := sameBytes_ok ((HB7.out.kept HS13.out).rbs H8M.out) (HB13.out.rbs H8M.out) true (by simp)
          try dsimp only
          go_wp2_with fail
          refine HCB.out.mono ?_
          rintro _ wn ⟨rfl, hwn⟩
          rw [hwn]
          clear hwn wn
          try dsimp only
          go_wp2_with fail
          go_ret
          exact ⟨rfl, HA7.out.trans HS13.out⟩
        | ok tt =>
          obtain ⟨a, q2⟩ := tt
          obtain ⟨v8, he8, hv8⟩ := hp8.ok a q2 hr
          subst he8
          obtain ⟨f8, rfl, hf8⟩ := hv8
          have HV8 := hid hf8.reads
          have HRR := hid hr
          clear hp8 hr hf8
          have HC9 : Hid (∀ W, Apart [] w W → Calls Tryz.prog 30 #[.slice b.p b.n b.c, .int .i64 (q : Nat)] W fun e w' => Apart [] W w' ∧ ∃ f9 : E, e = .returned (.tuple #[.agg #[.int .i64 f9.n, .int .i64 f9.c, .string f9.k, .bool f9.d, .slice f9.v.p f9.v.n f9.v.c, .slice f9.x.p f9.x.n f9.x.c], .int .i64 (q2 : Nat), .int .i64 0]) ∧ Reads w' f9 a) := fun W aa => (HC9'.out W aa).mono (fun e w' hp => ⟨hp.ap, (by
            obtain ⟨v9, he9, f9, hv9, hw9⟩ := hp.ok a q2 HRR.out
            exact ⟨f9, by rw [he9, hv9]; rfl, hw9.reads⟩)⟩)
          unfold aggE
          try dsimp only
          obtain ⟨w9, hw9⟩ : ∃ w9, w9 = w8.alloc (.cells #[.int .i64 f8.n, .int .i64 f8.c, .string f8.k, .bool f8.d, .slice f8.v.p f8.v.n f8.v.c, .slice f8.x.p f8.x.n f8.x.c] 37) := ⟨_, rfl⟩
          obtain ⟨U, HU⟩ : ∃ U, Hid (U = w8.heap.size) := ⟨_, rfl⟩
          have HS81 : Hid (Apart [] w8 w9) := by unfold Hid; rw [hw9]; exact (Apart.refl [] w8).alloc _
          have HU9 : Hid (w9.heap[U]? = some (.cells #[.int .i64 f8.n, .int .i64 f8.c, .string f8.k, .bool f8.d, .slice f8.v.p f8.v.n f8.v.c, .slice f8.x.p f8.x.n f8.x.c] 37 (0, 0))) := by unfold Hid; rw [HU.out, hw9]; exact heap_alloc_new w8 _
          go_wp2_with fail
          try rw [← hw9]
          try rw [← HU.out]
          clear hw9
          refine (HC9.out w9 (HA7.out.trans (HS8.out.trans HS81.out))).mono ?_
          rintro _ w10 ⟨ha10, f9, rfl, hv9⟩
          have HV9 := hid hv9
          clear hv9
          have HA910 := hid ha10
          have HS10 : Hid (Apart [] w7 w10) := (HS8.out.trans HS81.out).trans ha10
          clear ha10
          try dsimp only
          obtain ⟨w11, hw11⟩ : ∃ w11, w11 = w10.alloc (.cells #[.int .i64 f9.n, .int .i64 f9.c, .string f9.k, .bool f9.d, .slice f9.v.p f9.v.n f9.v.c, .slice f9.x.p f9.x.n f9.x.c] 37) := ⟨_, rfl⟩
          obtain ⟨V, HVV⟩ : ∃ V, Hid (V = w10.heap.size) := ⟨_, rfl⟩
          have HA1011 : Hid (Apart [] w10 w11) := by unfold Hid; rw [hw11]; exact (Apart.refl [] w10).alloc _
          have HV11 : Hid (w11.heap[V]? = some (.cells #[.int .i64 f9.n, .int .i64 f9.c, .string f9.k, .bool f9.d, .slice f9.v.p f9.v.n f9.v.c, .slice f9.x.p f9.x.n f9.x.c] 37 (0, 0))) := by unfold Hid; rw [HVV.out, hw11]; exact heap_alloc_new w10 _
          have HU11 : Hid (w11.heap[U]? = some (.cells #[.int .i64 f8.n, .int .i64 f8.c, .string f8.k, .bool f8.d, .slice f8.v.p f8.v.n f8.v.c, .slice f8.x.p f8.x.n f8.x.c] 37 (0, 0))) := ((HA910.out.trans HA1011.out).block _ (lt_of_heap HU9.out) (by simp)).trans HU9.out
          have HS11 : Hid (Apart [] w7 w11) := HS10.out.trans HA1011.out
          have HCS : Hid (Calls Tryz.prog 31 #[.agg #[.int .i64 f8.n, .int .i64 f8.c, .string f8.k, .bool f8.d, .slice f8.v.p f8.v.n f8.v.c, .slice f8.x.p f8.x.n f8.x.c], .agg #[.int .i64 f9.n, .int .i64 f9.c, .string f9.k, .bool f9.d, .slice f9.v.p f9.v.n f9.v.c, .slice f9.x.p f9.x.n f9.x.c]] w11 fun r w' => r = .returned (.bool true) ∧ Apart [] w11 w') := sameWrite_ok f8 f9 a a (HV8.out.kept0 (HS81.out.trans (HA910.out.trans HA1011.out))) (HV9.out.kept0 HA1011.out) true (by simp)
          obtain ⟨g0, g1, g2, g3, g4, g5⟩ := row6 HU11.out
          obtain ⟨h0, h1, h2, h3, h4, h5⟩ := row6 HV11.out
          rw [hw11] at g0 g1 g2 g3 g4 g5 h0 h1 h2 h3 h4 h5
          rw [HVV.out] at h0 h1 h2 h3 h4 h5
          go_wp2_with fail
          rw [← hw11]
          clear hw11 g0 g1 g2 g3 g4 g5 h0 h1 h2 h3 h4 h5
          refine HCS.out.mono ?_
          rintro _ w12 ⟨rfl, ha12⟩
          have HS12 : Hid (Apart [] w7 w12) := HS11.out.trans ha12
          clear ha12
          have HB12 := hid (HB.out.kept0 (HA7.out.trans HS12.out))
          try dsimp only
          go_wp2_with fail
          refine (bytes_ok HB12.out (by rw [HBL.out]; omega)).mono ?_
          rintro _ w13 ⟨c13, rfl, hb13⟩
          have HB13 := hid hb13
          have HS13 : Hid (Apart [] w7 w13) := HS12.out.trans hb13.nw.ap
          clear hb13
          have HCB : Hid (Calls Tryz.prog 13 #[.slice (some ⟨gg, 0, none⟩) cn ccc, .slice c13.p c13.n c13.c] w13 fun r w' => r = .returned (.bool true) ∧ w' = w13) := sameBytes_ok ((HB7.out.kept HS13.out).rbs H8M.out) (HB13.out.rbs H8M.out) true (by simp)
          try dsimp only
          go_wp2_with fail
          refine HCB.out.mono ?_
          rintro _ wn ⟨rfl, hwn⟩
          rw [hwn]
          clear hwn wn
          try dsimp only
          go_wp2_with fail
          go_ret
          exact ⟨rfl, HA7.out.trans HS13.out⟩
  · have hbi : ((b.n : Nat) : Int) > 200000 := by omega
    go_enter Tryz.func8, Tryz.ntmps8
    go_wp2_with fail
    rw [← hw0]
    go_ret
    exact ⟨rfl, HA0.out⟩
end Go.Proofs.YtddffdcjhleejaaGreat.ds
