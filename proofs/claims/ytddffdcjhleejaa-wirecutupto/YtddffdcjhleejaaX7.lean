import Derived.Test.YtddffdcjhleejaaX5
namespace Go.Proofs.Ytddffdcjhleejaa.ds
open Go.ChangeShapes Go.WideShapes Go.ChangeAt Go.RowKit Go.Sort
set_option linter.unusedVariables false
set_option linter.unusedSimpArgs false
set_option maxHeartbeats 16000000 in
set_option maxRecDepth 100000 in
theorem cut_walk (w : World) (m : MI) (xs : List S) (es : List E) (rs : List Wr) (hm : RMI w m xs es rs) (z : Int) (hz : -9223372036854775808 ≤ z ∧ z ≤ 9223372036854775807) (mo : Sl) (bs : List Nat) (hmo : RBs w mo bs) (hml : mo.n ≤ 1000000000) : Calls Try.prog 6 #[.agg m.cs, .int .i64 z, .slice mo.p mo.n mo.c] w fun r w' => r = .returned (.bool true) ∧ Apart [] w w' := by
  by_cases hV : VI m xs rs
  · obtain ⟨mm, g, e1, hg, hr, hgx, hgw⟩ := hV.mg hm
    have HCv : Hid (∀ W, Apart [] w W → Calls Try.prog 30 #[.agg #[.int .i64 (mm.kind : Nat), .int .i64 (mm.frm : Nat), .int .i64 (mm.dst : Nat), .int .i64 (mm.call : Nat), .int .i64 (mm.rng : Nat), .int .i64 (mm.own : Nat), .string mm.key, .int .i64 (mm.dn : Nat), .int .i64 (mm.dc : Nat), .slice mm.set.p mm.set.n mm.set.c, .slice mm.ws.p mm.ws.n mm.ws.c]] W fun r w' => r = .returned (.bool true) ∧ Apart [] W w') := fun W a => by
      have := rvalidM_ok W m xs es rs (hm.kept0 a) true (by simp [hV])
      have e2 : (#[.int .i64 m.kind, .int .i64 m.frm, .int .i64 m.dst, .int .i64 m.call, .int .i64 m.rng, .int .i64 m.own, .string m.key, .int .i64 m.dn, .int .i64 m.dc, .slice m.set.p m.set.n m.set.c, .slice m.ws.p m.ws.n m.ws.c] : Array Value) = #[.int .i64 (mm.kind : Nat), .int .i64 (mm.frm : Nat), .int .i64 (mm.dst : Nat), .int .i64 (mm.call : Nat), .int .i64 (mm.rng : Nat), .int .i64 (mm.own : Nat), .string mm.key, .int .i64 (mm.dn : Nat), .int .i64 (mm.dc : Nat), .slice mm.set.p mm.set.n mm.set.c, .slice mm.ws.p mm.ws.n mm.ws.c] := e1
      rw [e2] at this
      exact this
    have HCt : Hid (∀ W, Apart [] w W → Calls Try.prog 31 #[.agg #[.int .i64 (mm.kind : Nat), .int .i64 (mm.frm : Nat), .int .i64 (mm.dst : Nat), .int .i64 (mm.call : Nat), .int .i64 (mm.rng : Nat), .int .i64 (mm.own : Nat), .string mm.key, .int .i64 (mm.dn : Nat), .int .i64 (mm.dc : Nat), .slice mm.set.p mm.set.n mm.set.c, .slice mm.ws.p mm.ws.n mm.ws.c]] W fun a w' => ∃ (m2 : MM) (es2 : List E), a = .returned (.agg m2.cs) ∧ RM w' m2 g es2 ∧ Apart [] W w') := fun W a => by
      have h0 := twins_ok W m xs es rs (hm.kept0 a)
      rw [e1] at h0
      refine h0.mono ?_
      intro aa w' hp
      exact hp.rm (hr.kept0 a) e1 hgx hgw
    rw [e1]
    have HRM := hid hr
    have HG := hid hg
    clear hr hg hm hV e1 hgx hgw
    unfold MM.cs
    obtain ⟨w1, hw1⟩ : ∃ w1, w1 = w.alloc (.cells #[.int .i64 (mm.kind : Nat), .int .i64 (mm.frm : Nat), .int .i64 (mm.dst : Nat), .int .i64 (mm.call : Nat), .int .i64 (mm.rng : Nat), .int .i64 (mm.own : Nat), .string mm.key, .int .i64 (mm.dn : Nat), .int .i64 (mm.dc : Nat), .slice mm.set.p mm.set.n mm.set.c, .slice mm.ws.p mm.ws.n mm.ws.c] 29) := ⟨_, rfl⟩
    have HX1 : Hid (w1.heap[w.heap.size]? = some (.cells mm.cs 29 (0, 0))) := by unfold Hid; rw [hw1]; exact heap_alloc_new w _
    have HA1 : Hid (Apart [] w w1) := by unfold Hid; rw [hw1]; exact (Apart.refl [] w).alloc _
    obtain ⟨X, HXX⟩ : ∃ X, Hid (X = w.heap.size) := ⟨_, rfl⟩
    rw [← HXX.out] at HX1
    go_enter Try.func6, Try.ntmps6
    go_upto_region 1 with fail
    rw [← hw1, ← HXX.out]
    clear hw1
    go_wp2_with fail
    refine (alive_ok w1).mono ?_
    rintro _ w2 ⟨rfl, ha2⟩
    have HX2 : Hid (w2.heap[X]? = some (.cells mm.cs 29 (0, 0))) := (ha2.block _ (lt_of_heap HX1.out) (by simp)).trans HX1.out
    have HA2 : Hid (Apart [] w w2) := HA1.out.trans ha2
    clear ha2
    obtain ⟨⟨z0, z1, z2, z3, z4, z5⟩, z6, z7, z8, z9, z10⟩ := mrow11 HX2.out
    try dsimp only
    go_wp2_with fail
    refine (HCv.out w2 HA2.out).mono ?_
    rintro _ w3 ⟨rfl, ha3⟩
    have HX3 : Hid (w3.heap[X]? = some (.cells mm.cs 29 (0, 0))) := (ha3.block _ (lt_of_heap HX2.out) (by simp)).trans HX2.out
    have HA3 : Hid (Apart [] w w3) := HA2.out.trans ha3
    clear ha3 z0 z1 z2 z3 z4 z5 z6 z7 z8 z9 z10
    obtain ⟨⟨z0, z1, z2, z3, z4, z5⟩, z6, z7, z8, z9, z10⟩ := mrow11 HX3.out
    try dsimp only
    go_wp2_with fail
    refine (HCt.out w3 HA3.out).mono ?_
    rintro _ w4 ⟨m2, es2, rfl, hr4, ha4⟩
    have HX4 : Hid (w4.heap[X]? = some (.cells mm.cs 29 (0, 0))) := (ha4.block _ (lt_of_heap HX3.out) (by simp)).trans HX3.out
    have HA4 : Hid (Apart [] w w4) := HA3.out.trans ha4
    have HR4 := hid hr4
    clear ha4 hr4 z0 z1 z2 z3 z4 z5 z6 z7 z8 z9 z10
    unfold MM.cs
    try dsimp only
    go_wp2_with fail
    refine (encode_yes w4 m2 g es2 HR4.out HG.out).mono ?_
    rintro _ w5 ⟨s5, rfl, hb5⟩
    have HB5 := hid hb5
    have HS5 := hid hb5.nw.ap
    have HX5 : Hid (w5.heap[X]? = some (.cells mm.cs 29 (0, 0))) := (hb5.nw.ap.block _ (lt_of_heap HX4.out) (by simp)).trans HX4.out
    have HA5 : Hid (Apart [] w w5) := HA4.out.trans hb5.nw.ap
    have H8 : Hid (∀ b ∈ encM g, b < 256) := HRM.out.bytes
    have HRD : Hid (rmsg (encM g) 0 = .ok (g, (encM g).length)) := dec_enc HG.out H8.out
    have HL5 : Hid ((encM g).length ≤ 200000 ∧ 1 ≤ (encM g).length ∧ s5.n = (encM g).length) := ⟨encM_le HG.out, encM_pos g, hb5.len⟩
    clear hb5
    try dsimp only
    have HMO := hid hmo
    clear hmo
    have hnn : ¬ ((s5.n : Nat) : Int) = 0 := by have := HL5.out; omega
    have hnb : (((s5.n : Nat) : Int) == 0) = false := by simp; have := HL5.out; omega
    go_upto_if 40 with fail
    go_cut [1] from 41 to 43 (fun a wx => ∃ A : Nat, .int .i64 (A : Nat) = a ∧ A ≤ 9223372036854775807 ∧ wx = w5)
    case first =>
      by_cases h0 : z < 0
      · go_wp2_with fail
        go_meet
        exact ⟨(-(z + 1)).toNat, by rw [Int.toNat_of_nonneg (by omega)], by omega, rfl⟩
      · go_wp2_with fail
        go_meet
        exact ⟨z.toNat, by rw [Int.toNat_of_nonneg (by omega)], by omega, rfl⟩
    obtain ⟨A, rfl, hA, hww⟩ := hcut
    rw [hww]
    clear hww
    go_upto_region 11 with fail
    obtain ⟨l, Hl⟩ : ∃ l, Hid (l = encM g) := ⟨_, rfl⟩
    have HLm : Hid (encM g = l) := Hl.out.symm
    rw [← Hl.out] at HB5 H8 HRD HL5
    obtain ⟨K, hK, hKl⟩ : ∃ K : Nat, (A : Int) % (s5.n : Int) = (K : Int) ∧ K < s5.n := ⟨A % s5.n, by omega, Nat.mod_lt _ (by have := HL5.out; omega)⟩
    rw [hK]
    have HSN := hid HL5.out.2.2
    have hKL : K < l.length := by rw [← HSN.out]; exact hKl
    have hdn : l.drop K ≠ [] := fun h => by have := congrArg List.length h; simp at this; omega
    have hB5' : Bf w4 w5 s5 (l.take K ++ l.drop K) := by rw [List.take_append_drop]; exact HB5.out
    obtain ⟨hcap, gB, hp⟩ := slice_cap hB5' hdn
    have hlk : (l.take K).length = K := by simp; omega
    have HDt : Hid (Dat w5 s5.p K s5.c (l.take K)) := by
      unfold Hid
      have := hB5'.pre (fun b hb => H8.out b (List.mem_of_mem_take hb)) (by rw [hlk]; have := HL5.out.1; omega) hdn
      rw [hlk] at this
      exact this
    have HCU : Hid (rmsg (l.take K) 0 = .error K) := rmsg_cut H8.out HG.out HLm.out K hKL
    rw [hlk] at hcap
    obtain ⟨sp, sn, sc⟩ := s5
    simp only at hp hKl HSN hK hnn hnb hcap HDt
    subst hp
    have hcapi : ((K : Nat) : Int) ≤ (sc : Int) := by omega
    have hK0 : (0 : Int) ≤ ((K : Nat) : Int) := by omega
    have HKL := hid hKL
    clear hK hnn hnb hcap hB5' hdn hlk hKL
    go_wp2_with fail
    refine (decode_ok HDt.out).mono ?_
    rintro e w6 hp
    have he2 := hp.no K HCU.out
    subst he2
    have HS6 := hid hp.ap
    have HA6 : Hid (Apart [] w w6) := HA5.out.trans hp.ap
    clear hp
    have hz0 : MM.z.cs = #[.int .i64 0, .int .i64 0, .int .i64 0, .int .i64 0, .int .i64 0, .int .i64 0, .string ⟨#[]⟩, .int .i64 0, .int .i64 0, .slice none 0 0, .slice none 0 0] := rfl
    rw [hz0]
    clear hz0
    try dsimp only
    obtain ⟨w7, hw7⟩ : ∃ w7, w7 = w6.alloc (.cells #[.int .i64 0, .int .i64 0, .int .i64 0, .int .i64 0, .int .i64 0, .int .i64 0, .string ⟨#[]⟩, .int .i64 0, .int .i64 0, .slice none 0 0, .slice none 0 0] 29) := ⟨_, rfl⟩
    have HS7 : Hid (Apart [] w6 w7) := by unfold Hid; rw [hw7]; exact (Apart.refl [] w6).alloc _
    have HA7 : Hid (Apart [] w w7) := HA6.out.trans HS7.out
    go_upto_region 12 with fail
    rw [← hw7]
    clear hw7
    have HB7 := hid (HB5.out.kept (HS6.out.trans HS7.out))
    have HCb := hid (bytes_ok (HB7.out.rbs H8.out) (by have := HL5.out.1; omega))
    go_wp2_with fail
    refine HCb.out.mono ?_
    rintro _ w8 ⟨t8, rfl, hb8⟩
    have HA8 : Hid (Apart [] w w8) := HA7.out.trans hb8.nw.ap
    have HB8 : Hid (Bf w7 w8 ⟨t8.p, l.length, t8.c⟩ l) := hb8.shrink (by simp)
    obtain ⟨hcap8, gC, hp8⟩ := slice_cap hb8 (by simp)
    obtain ⟨tp, tn, tc⟩ := t8
    simp only at hp8 hcap8 HB8
    subst hp8
    rw [← HSN.out] at hcap8
    have hcap8i : ((sn : Nat) : Int) ≤ (tc : Int) := by omega
    have HBL : Hid (Bf w7 w8 ⟨some ⟨gC, 0, none⟩, sn, tc⟩ l) := by unfold Hid; rw [HSN.out]; exact HB8.out
    have hsn : sn ≤ 200000 := by have h1 := HL5.out.1; have h2 := HSN.out; omega
    clear hb8 hcap8
    try dsimp only
    go_wp2_with fail
    go_loopw [14, 15] (fun a b wt => ∃ (i : Nat) (t : Sl), a = .slice t.p t.n t.c ∧ b = .int .i64 (i : Nat) ∧ i ≤ mo.n ∧ i ≤ 40 ∧ Bf w7 wt t (l ++ bs.take i)) (fun _ b _ => 41 - (intOf b).toNat)
    case atStart => exact ⟨0, ⟨some ⟨gC, 0, none⟩, sn, tc⟩, rfl, rfl, Nat.zero_le _, by omega, by simpa using HBL.out⟩
    case round =>
      obtain ⟨i, t, rfl, rfl, hi, hi40, hb⟩ := hrel
      have HB := hid hb
      clear hb
      by_cases hlt : i < mo.n ∧ i < 40
      · obtain ⟨hlt, h40⟩ := hlt
        have hlti : ((i : Nat) : Int) < (mo.n : Int) := by omega
        have h40i : ((i : Nat) : Int) < 40 := by omega
        have h40d : decide (i < 40) = true := decide_eq_true h40
        have hltd : decide (i < mo.n) = true := decide_eq_true hlt
        obtain ⟨P, o, hP, hPl, hc⟩ := (HMO.out.kept0 (HA7.out.trans HB.out.nw.ap)).byte i hlt
        obtain ⟨d, Hd⟩ : ∃ d, Hid (d = bs.getD i 0) := ⟨_, rfl⟩
        rw [← Hd.out] at hc
        obtain ⟨s2, w9, hrun, hb9, hg9⟩ := app_byte HB.out d (by simp; have := HL5.out.1; omega)
        have HRUN := hid hrun
        have HB9 : Hid (Bf w7 w9 s2 (l ++ bs.take (i + 1))) := by unfold Hid; rw [take_snoc (by rw [HMO.out.len]; exact hlt), ← Hd.out, ← List.append_assoc]; exact hb9
        clear hrun hb9 hg9
        generalize mo.p = mp at *
        subst hP
        go_wp2_with (at_builtin; refine wpList_app2 rfl (.tmp 78) (.tmp 83) 22 22 rfl _ _ rfl rfl _ _ HRUN.out ?_)
        go_roundw
        case rel => exact ⟨i + 1, s2, rfl, by go_num, by omega, by omega, HB9.out⟩
        case measure => simp [intOf]; omega
      · have HLO : Hid (∀ b ∈ l ++ bs.take i, b < 256) := app_256 H8.out (fun b hb => HMO.out.b8 b (List.mem_of_mem_take hb))
        have HTN : Hid (t.n = l.length + i) := by unfold Hid; rw [HB.out.len, List.length_append, List.length_take, HMO.out.len]; omega
        have HCd := hid (decode_ok (HB.out.dat HLO.out (by rw [List.length_append, List.length_take]; have := HL5.out.1; omega)))
        have HAr : Hid (Apart [] w wr) := HA7.out.trans HB.out.nw.ap
        by_cases hm0 : i < mo.n
        · have h40 : ¬ i < 40 := fun h => hlt ⟨hm0, h⟩
          have hlti : ((i : Nat) : Int) < (mo.n : Int) := by omega
          have h40i : ¬ ((i : Nat) : Int) < 40 := by omega
          have h40d : decide (i < 40) = false := decide_eq_false h40
          have hltd : decide (i < mo.n) = true := decide_eq_true hm0
          have hne0 : Hid (bs.take i ≠ []) := fun h => by have := congrArg List.length h; rw [List.length_take, HMO.out.len] at this; simp at this; omega
          have HER : Hid (rmsg (l ++ bs.take i) 0 = .error l.length) := rmsg_long HLO.out HG.out HLm.out hne0.out
          have htn : ¬ ((t.n : Nat) : Int) = (sn : Int) := by have h1 := HTN.out; have h2 := HSN.out; omega
          go_wp2_with fail
          refine HCd.out.mono ?_
          rintro e w9 hp
          have he2 := hp.no _ HER.out
          rw [← HSN.out] at he2
          subst he2
          have HA9 : Hid (Apart [] w w9) := HAr.out.trans hp.ap
          clear hp
          have hz0 : MM.z.cs = #[.int .i64 0, .int .i64 0, .int .i64 0, .int .i64 0, .int .i64 0, .int .i64 0, .string ⟨#[]⟩, .int .i64 0, .int .i64 0, .slice none 0 0, .slice none 0 0] := rfl
          rw [hz0]
          clear hz0
          try dsimp only
          go_wp2_with fail
          go_ret
          exact ⟨rfl, HA9.out⟩
        · have hlti : ¬ ((i : Nat) : Int) < (mo.n : Int) := by omega
          have hltd : decide (i < mo.n) = false := decide_eq_false hm0
          by_cases hi0 : i = 0
          · have HOK : Hid (rmsg (l ++ bs.take i) 0 = .ok (g, l.length)) := by
              unfold Hid
              rw [hi0, List.take_zero, List.append_nil]
              exact HRD.out
            have htn : ((t.n : Nat) : Int) = (sn : Int) := by have h1 := HTN.out; have h2 := HSN.out; omega
            have HTE := hid htn
            clear htn hi0
            go_wp2_with fail
            refine HCd.out.mono ?_
            rintro e w9 hp
            obtain ⟨v, he2, hv⟩ := hp.ok g _ HOK.out
            obtain ⟨m3, es3, hvm, hm3⟩ := hv.rm HG.out HRM.out.k8
            subst he2 hvm
            have HA9 : Hid (Apart [] w w9) := HAr.out.trans hp.ap
            clear hp hv hm3
            have htn := HTE.out
            unfold MM.cs
            try dsimp only
            go_wp2_with fail
            go_ret
            exact ⟨rfl, HA9.out⟩
          · have hne0 : Hid (bs.take i ≠ []) := fun h => by have := congrArg List.length h; rw [List.length_take, HMO.out.len] at this; simp at this; omega
            have HER : Hid (rmsg (l ++ bs.take i) 0 = .error l.length) := rmsg_long HLO.out HG.out HLm.out hne0.out
            have htn : ¬ ((t.n : Nat) : Int) = (sn : Int) := by have h1 := HTN.out; have h2 := HSN.out; omega
            go_wp2_with fail
            refine HCd.out.mono ?_
            rintro e w9 hp
            have he2 := hp.no _ HER.out
            rw [← HSN.out] at he2
            subst he2
            have HA9 : Hid (Apart [] w w9) := HAr.out.trans hp.ap
            clear hp
            have hz0 : MM.z.cs = #[.int .i64 0, .int .i64 0, .int .i64 0, .int .i64 0, .int .i64 0, .int .i64 0, .string ⟨#[]⟩, .int .i64 0, .int .i64 0, .slice none 0 0, .slice none 0 0] := rfl
            rw [hz0]
            clear hz0
            try dsimp only
            go_wp2_with fail
            go_ret
            exact ⟨rfl, HA9.out⟩
  · have HCv : Hid (∀ W, Apart [] w W → Calls Try.prog 30 #[.agg #[.int .i64 m.kind, .int .i64 m.frm, .int .i64 m.dst, .int .i64 m.call, .int .i64 m.rng, .int .i64 m.own, .string m.key, .int .i64 m.dn, .int .i64 m.dc, .slice m.set.p m.set.n m.set.c, .slice m.ws.p m.ws.n m.ws.c]] W fun r w' => r = .returned (.bool false) ∧ Apart [] W w') := fun W a => rvalidM_ok W m xs es rs (hm.kept0 a) false (by simp [hV])
    clear hV hm
    unfold MI.cs
    obtain ⟨w1, hw1⟩ : ∃ w1, w1 = w.alloc (.cells #[.int .i64 m.kind, .int .i64 m.frm, .int .i64 m.dst, .int .i64 m.call, .int .i64 m.rng, .int .i64 m.own, .string m.key, .int .i64 m.dn, .int .i64 m.dc, .slice m.set.p m.set.n m.set.c, .slice m.ws.p m.ws.n m.ws.c] 29) := ⟨_, rfl⟩
    have HX1 : Hid (w1.heap[w.heap.size]? = some (.cells m.cs 29 (0, 0))) := by unfold Hid; rw [hw1]; exact heap_alloc_new w _
    have HA1 : Hid (Apart [] w w1) := by unfold Hid; rw [hw1]; exact (Apart.refl [] w).alloc _
    obtain ⟨X, HXX⟩ : ∃ X, Hid (X = w.heap.size) := ⟨_, rfl⟩
    rw [← HXX.out] at HX1
    go_enter Try.func6, Try.ntmps6
    go_upto_region 1 with fail
    rw [← hw1, ← HXX.out]
    clear hw1
    go_wp2_with fail
    refine (alive_ok w1).mono ?_
    rintro _ w2 ⟨rfl, ha2⟩
    have HX2 : Hid (w2.heap[X]? = some (.cells m.cs 29 (0, 0))) := (ha2.block _ (lt_of_heap HX1.out) (by simp)).trans HX1.out
    have HA2 : Hid (Apart [] w w2) := HA1.out.trans ha2
    clear ha2
    obtain ⟨⟨z0, z1, z2, z3, z4, z5⟩, z6, z7, z8, z9, z10⟩ := irow11 HX2.out
    try dsimp only
    go_wp2_with fail
    refine (HCv.out w2 HA2.out).mono ?_
    rintro _ w3 ⟨rfl, ha3⟩
    have HA3 : Hid (Apart [] w w3) := HA2.out.trans ha3
    clear ha3 z0 z1 z2 z3 z4 z5 z6 z7 z8 z9 z10
    try dsimp only
    go_wp2_with fail
    go_ret
    exact ⟨rfl, HA3.out⟩
end Go.Proofs.Ytddffdcjhleejaa.ds
