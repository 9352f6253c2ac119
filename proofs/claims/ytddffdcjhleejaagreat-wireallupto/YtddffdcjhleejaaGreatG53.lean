import Derived.Test.YtddffdcjhleejaaGreatG40
import Derived.Test.YtddffdcjhleejaaGreatG46
namespace Go.Proofs.YtddffdcjhleejaaGreat.ds
open Go.ChangeShapes Go.WideShapes Go.ChangeAt Go.RowKit Go.Sort
set_option linter.unusedVariables false
set_option linter.unusedSimpArgs false
theorem vset_l {wB w : World} {l : List S} {s : Sl} (h : VSet wB l (.slice s.p s.n s.c) w) (hl : l.length ≤ 2000001) : L w s.p s.n l := by
  obtain ⟨t, e, h1, h2, h3⟩ := h
  simp only [Value.slice.injEq] at e
  obtain ⟨e1, e2, e3⟩ := e
  rw [e1, e2]
  exact ⟨Sp.of_rd h1.rd, h2.symm, by omega, h3⟩
theorem rset_len {B : List Nat} (hB : ∀ b ∈ B, b < 256) {q q' : Nat} {l : List S} (h : rset B q = .ok (l, q')) : l.length ≤ 8 := ((rset_iff hB _ _ _).1 h).1.le8
set_option maxHeartbeats 16000000 in
set_option maxRecDepth 100000 in
theorem sets_walk (w : World) (s : Sl) (xs : List S) (hx : L w s.p s.n xs) (hsl : s.n ≤ 2000000) (b : Sl) (bs : List Nat) (hb : RBs w b bs) (hbc : b.n ≤ b.c) (hbl : b.n ≤ 9223372036854775807) (z : Int) (hz64 : -9223372036854775808 ≤ z ∧ z ≤ 9223372036854775807) : Calls Tryz.prog 7 #[.slice s.p s.n s.c, .slice b.p b.n b.c, .int .i64 z] w fun r w' => r = .returned (.bool true) ∧ Apart [] w w' := by
  have HX := hid hx
  have HB := hid hb
  have HBL := hid hb.len
  have HXL : Hid (xs.length ≤ 2000000) := by unfold Hid; rw [hx.len]; exact hsl
  have HXN := hid hx.len
  have H8M : Hid (∀ y ∈ bs ++ [165, 90], y < 256) := fun y hy => by
    rcases List.mem_append.1 hy with h | h
    · exact hb.b8 y h
    · simp at h; omega
  clear hx hb
  by_cases hbig : b.n ≤ 200000
  · have hbi : ¬ ((b.n : Nat) : Int) > 200000 := by omega
    have HC0 := hid (alive_ok w)
    go_enter Tryz.func7, Tryz.ntmps7
    go_wp2_with fail
    refine HC0.out.mono ?_
    rintro _ w1 ⟨rfl, ha1⟩
    have HA1 := hid ha1
    clear ha1 HC0
    have HC2 := hid (spansL_ok (c := s.c) (HX.out.kept0 HA1.out) hsl)
    try dsimp only
    go_wp2_with fail
    refine HC2.out.mono ?_
    rintro _ w2 ⟨t, rfl, hs2⟩
    have HS2 := hid hs2
    have HA2 : Hid (Apart [] w w2) := HA1.out.trans hs2.nw.ap
    have HX2 := hid (HX.out.kept0 HA2.out)
    have HL2 := hid (hs2.l (by rw [List.length_append]; simp; have := HXL.out; omega))
    have HP2 : Hid (L w2 t.p s.n xs) := by unfold Hid; rw [← HXN.out]; exact hs2.lpre (by have := HXL.out; omega)
    obtain ⟨hcx, gt, hgt⟩ := hs2.cap
    rw [HXN.out] at hcx
    clear hs2 HC2
    obtain ⟨tp, tn, tc⟩ := t
    simp only at hgt hcx HL2 HP2 ⊢
    subst hgt
    have hcxi : ((s.n : Nat) : Int) ≤ (tc : Int) := by omega
    obtain ⟨v, hv⟩ := bool_of' (OkL 64 xs)
    have HVB := hid hv
    clear hv
    have HC3 := hid (putSet_ok w2 (some ⟨gt, 0, none⟩) s.n tc xs HP2.out v HVB.out)
    try dsimp only
    cases v with
    | true =>
      go_wp2_with fail
      refine HC3.out.mono ?_
      rintro e3 w3 hp3
      obtain ⟨t3, he3, hb3⟩ := hp3.yes rfl
      have HA3 := hid hp3.ap
      have HB3 := hid hb3
      subst he3
      clear hp3 hb3
      have HC4 := hid (rputSet_ok w3 s.p s.n s.c xs (HX2.out.kept0 HA3.out) true (by have := HVB.out; simpa using this))
      try dsimp only
      go_wp2_with fail
      refine HC4.out.mono ?_
      rintro e4 w4 hp4
      obtain ⟨t4, he4, hb4⟩ := hp4.yes rfl
      have HA4 := hid hp4.ap
      have HB4 := hid hb4
      subst he4
      clear hp4 hb4
      have HSB : Hid (Calls Tryz.prog 13 #[.slice t3.p t3.n t3.c, .slice t4.p t4.n t4.c] w4 fun r w' => r = .returned (.bool true) ∧ w' = w4) := sameBytes_ok ((HB3.out.kept HA4.out).rbs (encSet_256 _)) (HB4.out.rbs (encSet_256 _)) true (by simp)
      have HA04 : Hid (Apart [] w w4) := HA2.out.trans (HA3.out.trans HA4.out)
      have HC5 := hid (spansL_ok (c := s.c) (HX.out.kept0 HA04.out) (by omega))
      try dsimp only
      go_wp2_with fail
      refine HSB.out.mono ?_
      rintro _ wn ⟨rfl, hwn⟩
      rw [hwn]
      clear hwn wn
      try dsimp only
      go_wp2_with fail
      refine HC5.out.mono ?_
      rintro _ w5 ⟨t5, rfl, hs5⟩
      have HS5 := hid hs5
      have HA5 := hid hs5.nw.ap
      clear hs5
      have HC6 : Hid (Calls Tryz.prog 23 #[.slice (some ⟨gt, 0, none⟩) tn tc, .slice t5.p t5.n t5.c] w5 fun r w' => r = .returned (.bool true) ∧ Apart [] w5 w') := sameSet_ok (HL2.out.kept0 ((HA3.out.trans HA4.out).trans HA5.out)) (HS5.out.l (by rw [List.length_append]; simp; have := HXL.out; omega)) true (by simp)
      try dsimp only
      go_wp2_with fail
      refine HC6.out.mono ?_
      rintro _ w6 ⟨rfl, ha6⟩
      have HA6 : Hid (Apart [] w w6) := (HA04.out.trans HA5.out).trans ha6
      clear ha6
      have HB6 := hid (HB.out.kept0 HA6.out)
      try dsimp only
      go_wp2_with fail
      refine (bytes_ok HB6.out (by rw [HBL.out]; omega)).mono ?_
      rintro _ w7 ⟨cc, rfl, hb7⟩
      have HB7 := hid hb7
      obtain ⟨hcap, gg, hgp⟩ := slice_cap hb7 (by simp)
      have HD7 : Hid (Dat w7 cc.p b.n cc.c bs) := by
        unfold Hid
        have := hb7.pre HB.out.b8 (by rw [HBL.out]; omega) (by simp)
        rw [HBL.out] at this
        exact this
      have hcap2 : b.n ≤ cc.c := by rw [← HBL.out]; exact hcap
      have HA7 : Hid (Apart [] w w7) := HA6.out.trans hb7.nw.ap
      clear hb7 hcap
      obtain ⟨cp, cn, ccc⟩ := cc
      simp only at hgp hcap2 HD7 ⊢
      subst hgp
      have hcap3 : ((b.n : Nat) : Int) ≤ (ccc : Int) := by omega
      try dsimp only
      by_cases hz : z < 0 ∨ ((b.n : Nat) : Int) < z
      · have HC8 := hid (getSet_bad w7 (some ⟨gg, 0, none⟩) b.n ccc z (by omega) hz)
        have HC9 := hid (fun W => rgetSet_bad W b.p b.n b.c z hz)
        clear hz
        go_wp2_with fail
        refine HC8.out.mono ?_
        rintro _ w8 ⟨ha8, rfl⟩
        have HS8 := hid ha8
        clear ha8
        try dsimp only
        go_wp2_with fail
        refine (HC9.out w8).mono ?_
        rintro _ w9 ⟨ha9, rfl⟩
        have HS9 : Hid (Apart [] w7 w9) := HS8.out.trans ha9
        clear ha9
        have HCS : Hid (Calls Tryz.prog 23 #[.slice none 0 0, .slice none 0 0] w9 fun r w' => r = .returned (.bool true) ∧ Apart [] w9 w') := sameSet_ok (L.nil _ _) (L.nil _ _) true (by simp)
        try dsimp only
        go_wp2_with fail
        refine HCS.out.mono ?_
        rintro _ w10 ⟨rfl, ha10⟩
        have HS10 : Hid (Apart [] w7 w10) := HS9.out.trans ha10
        clear ha10
        have HB10 := hid (HB.out.kept0 (HA7.out.trans HS10.out))
        try dsimp only
        go_wp2_with fail
        refine (bytes_ok HB10.out (by rw [HBL.out]; omega)).mono ?_
        rintro _ w11 ⟨c11, rfl, hb11⟩
        have HB11 := hid hb11
        have HS11 : Hid (Apart [] w7 w11) := HS10.out.trans hb11.nw.ap
        clear hb11
        have HCB : Hid (Calls Tryz.prog 13 #[.slice (some ⟨gg, 0, none⟩) cn ccc, .slice c11.p c11.n c11.c] w11 fun r w' => r = .returned (.bool true) ∧ w' = w11) := sameBytes_ok ((HB7.out.kept HS11.out).rbs H8M.out) (HB11.out.rbs H8M.out) true (by simp)
        try dsimp only
        go_wp2_with fail
        refine HCB.out.mono ?_
        rintro _ wn ⟨rfl, hwn⟩
        rw [hwn]
        clear hwn wn
        try dsimp only
        go_wp2_with fail
        go_ret
        exact ⟨rfl, HA7.out.trans HS11.out⟩
      · obtain ⟨q, rfl⟩ := Int.eq_ofNat_of_zero_le (show 0 ≤ z by omega)
        have hq : q ≤ b.n := by omega
        have HC8 := hid (getSet_ok HD7.out q hq)
        have HC9 := hid (fun W (a : Apart [] w W) => rgetSet_ok (w := W) (HB.out.kept0 a) (by omega) hbc q hq)
        clear hz
        go_wp2_with fail
        refine HC8.out.mono ?_
        rintro e8 w8 hp8
        have HS8 := hid hp8.ap
        cases hr : rset bs q with
        | error x =>
          have he8 := hp8.no x hr
          subst he8
          have HRR := hid hr
          clear hp8 hr
          try dsimp only
          go_wp2_with fail
          refine (HC9.out w8 (HA7.out.trans HS8.out)).mono ?_
          rintro e9 w9 hp9
          have HS9 : Hid (Apart [] w7 w9) := HS8.out.trans hp9.ap
          have he9 := hp9.no x HRR.out
          subst he9
          clear hp9
          have HCS : Hid (Calls Tryz.prog 23 #[.slice none 0 0, .slice none 0 0] w9 fun r w' => r = .returned (.bool true) ∧ Apart [] w9 w') := sameSet_ok (L.nil _ _) (L.nil _ _) true (by simp)
          try dsimp only
          go_wp2_with fail
          refine HCS.out.mono ?_
          rintro _ w10 ⟨rfl, ha10⟩
          have HS10 : Hid (Apart [] w7 w10) := HS9.out.trans ha10
          clear ha10
          have HB10 := hid (HB.out.kept0 (HA7.out.trans HS10.out))
          try dsimp only
          go_wp2_with fail
          refine (bytes_ok HB10.out (by rw [HBL.out]; omega)).mono ?_
          rintro _ w11 ⟨c11, rfl, hb11⟩
          have HB11 := hid hb11
          have HS11 : Hid (Apart [] w7 w11) := HS10.out.trans hb11.nw.ap
          clear hb11
          have HCB : Hid (Calls Tryz.prog 13 #[.slice (some ⟨gg, 0, none⟩) cn ccc, .slice c11.p c11.n c11.c] w11 fun r w' => r = .returned (.bool true) ∧ w' = w11) := sameBytes_ok ((HB7.out.kept HS11.out).rbs H8M.out) (HB11.out.rbs H8M.out) true (by simp)
          try dsimp only
          go_wp2_with fail
          refine HCB.out.mono ?_
          rintro _ wn ⟨rfl, hwn⟩
          rw [hwn]
          clear hwn wn
          try dsimp only
          go_wp2_with fail
          go_ret
          exact ⟨rfl, HA7.out.trans HS11.out⟩
        | ok tt =>
          obtain ⟨l, q2⟩ := tt
          obtain ⟨v8, he8, hv8⟩ := hp8.ok l q2 hr
          have hll := rset_len HB.out.b8 hr
          subst he8
          obtain ⟨s8, rfl, hv8'⟩ := hv8
          have HV8 : Hid (VSet w7 l (.slice s8.p s8.n s8.c) w8) := ⟨s8, rfl, hv8'⟩
          have HRR := hid hr
          clear hp8 hr hv8'
          try dsimp only
          go_wp2_with fail
          refine (HC9.out w8 (HA7.out.trans HS8.out)).mono ?_
          rintro e9 w9 hp9
          have HS9 : Hid (Apart [] w7 w9) := HS8.out.trans hp9.ap
          obtain ⟨v9, he9, hv9⟩ := hp9.ok l q2 HRR.out
          have HA89 := hid hp9.ap
          subst he9
          obtain ⟨s9, rfl, hv9'⟩ := hv9
          have HV9 : Hid (VSet w8 l (.slice s9.p s9.n s9.c) w9) := ⟨s9, rfl, hv9'⟩
          clear hp9 hv9'
          have HCS : Hid (Calls Tryz.prog 23 #[.slice s8.p s8.n s8.c, .slice s9.p s9.n s9.c] w9 fun r w' => r = .returned (.bool true) ∧ Apart [] w9 w') := sameSet_ok ((vset_l HV8.out (by omega)).kept0 HA89.out) (vset_l HV9.out (by omega)) true (by simp)
          try dsimp only
          go_wp2_with fail
          refine HCS.out.mono ?_
          rintro _ w10 ⟨rfl, ha10⟩
          have HS10 : Hid (Apart [] w7 w10) := HS9.out.trans ha10
          clear ha10
          have HB10 := hid (HB.out.kept0 (HA7.out.trans HS10.out))
          try dsimp only
          go_wp2_with fail
          refine (bytes_ok HB10.out (by rw [HBL.out]; omega)).mono ?_
          rintro _ w11 ⟨c11, rfl, hb11⟩
          have HB11 := hid hb11
          have HS11 : Hid (Apart [] w7 w11) := HS10.out.trans hb11.nw.ap
          clear hb11
          have HCB : Hid (Calls Tryz.prog 13 #[.slice (some ⟨gg, 0, none⟩) cn ccc, .slice c11.p c11.n c11.c] w11 fun r w' => r = .returned (.bool true) ∧ w' = w11) := sameBytes_ok ((HB7.out.kept HS11.out).rbs H8M.out) (HB11.out.rbs H8M.out) true (by simp)
          try dsimp only
          go_wp2_with fail
          refine HCB.out.mono ?_
          rintro _ wn ⟨rfl, hwn⟩
          rw [hwn]
          clear hwn wn
          try dsimp only
          go_wp2_with fail
          go_ret
          exact ⟨rfl, HA7.out.trans HS11.out⟩
    | false =>
      go_wp2_with fail
      refine HC3.out.mono ?_
      rintro e3 w3 hp3
      have he3 := hp3.no rfl
      have HA3 := hid hp3.ap
      subst he3
      clear hp3
      have HC4 := hid (rputSet_ok w3 s.p s.n s.c xs (HX2.out.kept0 HA3.out) false (by have := HVB.out; simpa using this))
      try dsimp only
      go_wp2_with fail
      refine HC4.out.mono ?_
      rintro e4 w4 hp4
      have he4 := hp4.no rfl
      have HA4 := hid hp4.ap
      subst he4
      clear hp4
      have HSB : Hid (Calls Tryz.prog 13 #[.slice none 0 0, .slice none 0 0] w4 fun r w' => r = .returned (.bool true) ∧ w' = w4) := sameBytes_ok (s := ⟨none, 0, 0⟩) (t := ⟨none, 0, 0⟩) (a := []) (b := []) ⟨Rd.nil _ _, rfl, by simp, fun _ => ⟨rfl, rfl⟩⟩ ⟨Rd.nil _ _, rfl, by simp, fun _ => ⟨rfl, rfl⟩⟩ true (by simp)
      have HA04 : Hid (Apart [] w w4) := HA2.out.trans (HA3.out.trans HA4.out)
      have HC5 := hid (spansL_ok (c := s.c) (HX.out.kept0 HA04.out) (by omega))
      try dsimp only
      go_wp2_with fail
      refine HSB.out.mono ?_
      rintro _ wn ⟨rfl, hwn⟩
      rw [hwn]
      clear hwn wn
      try dsimp only
      go_wp2_with fail
      refine HC5.out.mono ?_
      rintro _ w5 ⟨t5, rfl, hs5⟩
      have HS5 := hid hs5
      have HA5 := hid hs5.nw.ap
      clear hs5
      have HC6 : Hid (Calls Tryz.prog 23 #[.slice (some ⟨gt, 0, none⟩) tn tc, .slice t5.p t5.n t5.c] w5 fun r w' => r = .returned (.bool true) ∧ Apart [] w5 w') := sameSet_ok (HL2.out.kept0 ((HA3.out.trans HA4.out).trans HA5.out)) (HS5.out.l (by rw [List.length_append]; simp; have := HXL.out; omega)) true (by simp)
      try dsimp only
      go_wp2_with fail
      refine HC6.out.mono ?_
      rintro _ w6 ⟨rfl, ha6⟩
      have HA6 : Hid (Apart [] w w6) := (HA04.out.trans HA5.out).trans ha6
      clear ha6
      have HB6 := hid (HB.out.kept0 HA6.out)
      try dsimp only
      go_wp2_with fail
      refine (bytes_ok HB6.out (by rw [HBL.out]; omega)).mono ?_
      rintro _ w7 ⟨cc, rfl, hb7⟩
      have HB7 := hid hb7
      obtain ⟨hcap, gg, hgp⟩ := slice_cap hb7 (by simp)
      have HD7 : Hid (Dat w7 cc.p b.n cc.c bs) := by
        unfold Hid
        have := hb7.pre HB.out.b8 (by rw [HBL.out]; omega) (by simp)
        rw [HBL.out] at this
        exact this
      have hcap2 : b.n ≤ cc.c := by rw [← HBL.out]; exact hcap
      have HA7 : Hid (Apart [] w w7) := HA6.out.trans hb7.nw.ap
      clear hb7 hcap
      obtain ⟨cp, cn, ccc⟩ := cc
      simp only at hgp hcap2 HD7 ⊢
      subst hgp
      have hcap3 : ((b.n : Nat) : Int) ≤ (ccc : Int) := by omega
      try dsimp only
      by_cases hz : z < 0 ∨ ((b.n : Nat) : Int) < z
      · have HC8 := hid (getSet_bad w7 (some ⟨gg, 0, none⟩) b.n ccc z (by omega) hz)
        have HC9 := hid (fun W => rgetSet_bad W b.p b.n b.c z hz)
        clear hz
        go_wp2_with fail
        refine HC8.out.mono ?_
        rintro _ w8 ⟨ha8, rfl⟩
        have HS8 := hid ha8
        clear ha8
        try dsimp only
        go_wp2_with fail
        refine (HC9.out w8).mono ?_
        rintro _ w9 ⟨ha9, rfl⟩
        have HS9 : Hid (Apart [] w7 w9) := HS8.out.trans ha9
        clear ha9
        have HCS : Hid (Calls Tryz.prog 23 #[.slice none 0 0, .slice none 0 0] w9 fun r w' => r = .returned (.bool true) ∧ Apart [] w9 w') := sameSet_ok (L.nil _ _) (L.nil _ _) true (by simp)
        try dsimp only
        go_wp2_with fail
        refine HCS.out.mono ?_
        rintro _ w10 ⟨rfl, ha10⟩
        have HS10 : Hid (Apart [] w7 w10) := HS9.out.trans ha10
        clear ha10
        have HB10 := hid (HB.out.kept0 (HA7.out.trans HS10.out))
        try dsimp only
        go_wp2_with fail
        refine (bytes_ok HB10.out (by rw [HBL.out]; omega)).mono ?_
        rintro _ w11 ⟨c11, rfl, hb11⟩
        have HB11 := hid hb11
        have HS11 : Hid (Apart [] w7 w11) := HS10.out.trans hb11.nw.ap
        clear hb11
        have HCB : Hid (Calls Tryz.prog 13 #[.slice (some ⟨gg, 0, none⟩) cn ccc, .slice c11.p c11.n c11.c] w11 fun r w' => r = .returned (.bool true) ∧ w' = w11) := sameBytes_ok ((HB7.out.kept HS11.out).rbs H8M.out) (HB11.out.rbs H8M.out) true (by simp)
        try dsimp only
        go_wp2_with fail
        refine HCB.out.mono ?_
        rintro _ wn ⟨rfl, hwn⟩
        rw [hwn]
        clear hwn wn
        try dsimp only
        go_wp2_with fail
        go_ret
        exact ⟨rfl, HA7.out.trans HS11.out⟩
      · obtain ⟨q, rfl⟩ := Int.eq_ofNat_of_zero_le (show 0 ≤ z by omega)
        have hq : q ≤ b.n := by omega
        have HC8 := hid (getSet_ok HD7.out q hq)
        have HC9 := hid (fun W (a : Apart [] w W) => rgetSet_ok (w := W) (HB.out.kept0 a) (by omega) hbc q hq)
        clear hz
        go_wp2_with fail
        refine HC8.out.mono ?_
        rintro e8 w8 hp8
        have HS8 := hid hp8.ap
        cases hr : rset bs q with
        | error x =>
          have he8 := hp8.no x hr
          subst he8
          have HRR := hid hr
          clear hp8 hr
          try dsimp only
          go_wp2_with fail
          refine (HC9.out w8 (HA7.out.trans HS8.out)).mono ?_
          rintro e9 w9 hp9
          have HS9 : Hid (Apart [] w7 w9) := HS8.out.trans hp9.ap
          have he9 := hp9.no x HRR.out
          subst he9
          clear hp9
          have HCS : Hid (Calls Tryz.prog 23 #[.slice none 0 0, .slice none 0 0] w9 fun r w' => r = .returned (.bool true) ∧ Apart [] w9 w') := sameSet_ok (L.nil _ _) (L.nil _ _) true (by simp)
          try dsimp only
          go_wp2_with fail
          refine HCS.out.mono ?_
          rintro _ w10 ⟨rfl, ha10⟩
          have HS10 : Hid (Apart [] w7 w10) := HS9.out.trans ha10
          clear ha10
          have HB10 := hid (HB.out.kept0 (HA7.out.trans HS10.out))
          try dsimp only
          go_wp2_with fail
          refine (bytes_ok HB10.out (by rw [HBL.out]; omega)).mono ?_
          rintro _ w11 ⟨c11, rfl, hb11⟩
          have HB11 := hid hb11
          have HS11 : Hid (Apart [] w7 w11) := HS10.out.trans hb11.nw.ap
          clear hb11
          have HCB : Hid (Calls Tryz.prog 13 #[.slice (some ⟨gg, 0, none⟩) cn ccc, .slice c11.p c11.n c11.c] w11 fun r w' => r = .returned (.bool true) ∧ w' = w11) := sameBytes_ok ((HB7.out.kept HS11.out).rbs H8M.out) (HB11.out.rbs H8M.out) true (by simp)
          try dsimp only
          go_wp2_with fail
          refine HCB.out.mono ?_
          rintro _ wn ⟨rfl, hwn⟩
          rw [hwn]
          clear hwn wn
          try dsimp only
          go_wp2_with fail
          go_ret
          exact ⟨rfl, HA7.out.trans HS11.out⟩
        | ok tt =>
          obtain ⟨l, q2⟩ := tt
          obtain ⟨v8, he8, hv8⟩ := hp8.ok l q2 hr
          have hll := rset_len HB.out.b8 hr
          subst he8
          obtain ⟨s8, rfl, hv8'⟩ := hv8
          have HV8 : Hid (VSet w7 l (.slice s8.p s8.n s8.c) w8) := ⟨s8, rfl, hv8'⟩
          have HRR := hid hr
          clear hp8 hr hv8'
          try dsimp only
          go_wp2_with fail
          refine (HC9.out w8 (HA7.out.trans HS8.out)).mono ?_
          rintro e9 w9 hp9
          have HS9 : Hid (Apart [] w7 w9) := HS8.out.trans hp9.ap
          obtain ⟨v9, he9, hv9⟩ := hp9.ok l q2 HRR.out
          have HA89 := hid hp9.ap
          subst he9
          obtain ⟨s9, rfl, hv9'⟩ := hv9
          have HV9 : Hid (VSet w8 l (.slice s9.p s9.n s9.c) w9) := ⟨s9, rfl, hv9'⟩
          clear hp9 hv9'
          have HCS : Hid (Calls Tryz.prog 23 #[.slice s8.p s8.n s8.c, .slice s9.p s9.n s9.c] w9 fun r w' => r = .returned (.bool true) ∧ Apart [] w9 w') := sameSet_ok ((vset_l HV8.out (by omega)).kept0 HA89.out) (vset_l HV9.out (by omega)) true (by simp)
          try dsimp only
          go_wp2_with fail
          refine HCS.out.mono ?_
          rintro _ w10 ⟨rfl, ha10⟩
          have HS10 : Hid (Apart [] w7 w10) := HS9.out.trans ha10
          clear ha10
          have HB10 := hid (HB.out.kept0 (HA7.out.trans HS10.out))
          try dsimp only
          go_wp2_with fail
          refine (bytes_ok HB10.out (by rw [HBL.out]; omega)).mono ?_
          rintro _ w11 ⟨c11, rfl, hb11⟩
          have HB11 := hid hb11
          have HS11 : Hid (Apart [] w7 w11) := HS10.out.trans hb11.nw.ap
          clear hb11
          have HCB : Hid (Calls Tryz.prog 13 #[.slice (some ⟨gg, 0, none⟩) cn ccc, .slice c11.p c11.n c11.c] w11 fun r w' => r = .returned (.bool true) ∧ w' = w11) := sameBytes_ok ((HB7.out.kept HS11.out).rbs H8M.out) (HB11.out.rbs H8M.out) true (by simp)
          try dsimp only
          go_wp2_with fail
          refine HCB.out.mono ?_
          rintro _ wn ⟨rfl, hwn⟩
          rw [hwn]
          clear hwn wn
          try dsimp only
          go_wp2_with fail
          go_ret
          exact ⟨rfl, HA7.out.trans HS11.out⟩
  · have hbi : ((b.n : Nat) : Int) > 200000 := by omega
    go_enter Tryz.func7, Tryz.ntmps7
    go_wp2_with fail
    go_ret
    exact ⟨rfl, Apart.refl _ _⟩
end Go.Proofs.YtddffdcjhleejaaGreat.ds
