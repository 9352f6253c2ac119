import Derived.Test.YtpddokbjjhbfgaaGreatX2
namespace Go.Proofs.YtpddokbjjhbfgaaGreat.ds
open Go.ChangeShapes Go.WideShapes Go.ChangeAt Go.RowKit Go.Sort
set_option linter.unusedVariables false
set_option linter.unusedSimpArgs false
/-- what the document's Got leaves -/
def RGotP (w : World) (T : Ts) (c : Cf) (nn rr pp : Nat) (lk : List Int) (f : ByteArray → Sg) (N : Nat) (call : Int) (key : ByteArray) (es : List E) (er : Int) (r : Ending) (w' : World) : Prop :=
  r = .returned (.int .i64 er) ∧ (er ≠ 0 → Apart [] w w') ∧ (er = 0 → ∃ T', Rs w' T' c nn rr pp lk (updF f key (es.map dotE, call)) (N + es.length + 1) ∧ Tp w w' T T')
theorem below_cf (a b : Dt) : belowD a b = decide (rg.dt.cfP a b < 0) := by rw [rg.dt.cfP_lt]; rfl
set_option maxHeartbeats 16000000 in
set_option maxRecDepth 100000 in
theorem rgot_ok {w : World} {T : Ts} {c : Cf} {nn rr pp : Nat} {lk : List Int} {f : ByteArray → Sg} {N : Nat} (h : Rs w T c nn rr pp lk f N) (hc : CR c = true) (hN : N ≤ 1500000) (call : Int) {key : ByteArray} (hk : key.size ≤ maxLen) {p : Option Addr} {n cap : Nat} {es : List E} {X : Nat → List S} (hw : Ws w p n es X) (hvn : ∀ i, i < n → (gE es i).v.n ≤ 9223372036854775807) (hn : n ≤ 1500000) (hNn : N + n ≤ 1900000) {tp : Option Addr} {tn tc : Nat} {tok : List S} (ht : L w tp tn tok) :
    Calls Tryz.prog 95 #[.pointer (some ⟨T.S, 0, none⟩), .int .i64 call, .string key, .slice tp tn tc, .slice p n cap] w fun r w' => RGotP w T c nn rr pp lk f N call key es (gotE call (keyR key) (setR c tok) (areR c key tok es X) ((f key).1.all (hz tok))) r w' := by
  have HS := hid h
  have HKS := hid hk
  have HW := hid hw
  have HT := hid ht
  have HVN := hid hvn
  have HCR := hid hc
  have hlen := hw.len
  have HLEN := hid hlen
  have hksz : key.size ≤ 9223372036854775807 := by unfold maxLen at hk; omega
  obtain ⟨b1, Hb1⟩ : ∃ b : Bool, Hid (b = keyR key) := ⟨_, hid rfl⟩
  obtain ⟨b2, Hb2⟩ : ∃ b : Bool, Hid (b = setR c tok) := ⟨_, hid rfl⟩
  obtain ⟨b3, Hb3⟩ : ∃ b : Bool, Hid (b = areR c key tok es X) := ⟨_, hid rfl⟩
  obtain ⟨b4, Hb4⟩ : ∃ b : Bool, Hid (b = (f key).1.all (hz tok)) := ⟨_, hid rfl⟩
  rw [← Hb1.out, ← Hb2.out, ← Hb3.out, ← Hb4.out]
  have HST : Hid (Calls Tryz.prog 115 #[.agg #[.int .i64 c.n, .int .i64 c.p, .int .i64 c.r, .int .i64 c.s, .int .i64 c.g, .int .i64 c.c, .int .i64 c.k, .int .i64 c.h, .int .i64 c.b], .slice tp tn tc] w fun r w' => r = .returned (.bool b2) ∧ Apart [] w w') := hid (by rw [Hb2.out]; exact dset_ok c ht)
  have HCW : Hid (∀ W, Apart [] w W → W.cell? ⟨T.S, 0, none⟩ = some (.int .i64 c.n) ∧ W.cell? ⟨T.S, 1, none⟩ = some (.int .i64 c.p) ∧ W.cell? ⟨T.S, 2, none⟩ = some (.int .i64 c.r) ∧ W.cell? ⟨T.S, 3, none⟩ = some (.int .i64 c.s) ∧ W.cell? ⟨T.S, 4, none⟩ = some (.int .i64 c.g) ∧ W.cell? ⟨T.S, 5, none⟩ = some (.int .i64 c.c) ∧ W.cell? ⟨T.S, 6, none⟩ = some (.int .i64 c.k) ∧ W.cell? ⟨T.S, 7, none⟩ = some (.int .i64 c.h) ∧ W.cell? ⟨T.S, 8, none⟩ = some (.int .i64 c.b)) := fun W a => by
    have q := keep0 a HS.out.blk
    exact ⟨crow q 0 _ rfl, crow q 1 _ rfl, crow q 2 _ rfl, crow q 3 _ rfl, crow q 4 _ rfl, crow q 5 _ rfl, crow q 6 _ rfl, crow q 7 _ rfl, crow q 8 _ rfl⟩
  clear h hw ht hk hc hvn hlen
  by_cases k1 : call < 1
  · have he : gotE call b1 b2 b3 b4 = 1 := by unfold gotE; rw [if_pos (.inl k1)]
    rw [he]
    clear he
    go_enter Tryz.func95, Tryz.ntmps95
    go_wp2_with fail
    go_ret
    exact ⟨rfl, fun _ => Apart.refl _ _, fun hh => (by cases hh)⟩
  by_cases k2 : call > 4096
  · have he : gotE call b1 b2 b3 b4 = 1 := by unfold gotE; rw [if_pos (.inr k2)]
    rw [he]
    clear he
    go_enter Tryz.func95, Tryz.ntmps95
    go_wp2_with fail
    go_ret
    exact ⟨rfl, fun _ => Apart.refl _ _, fun hh => (by cases hh)⟩
  have HG1 : Hid (gotE call b1 b2 b3 b4 = if b1 = false then 50 else if b2 = false then 30 else if b3 = false then 52 else if b4 = false then 150 else 0) := hid (by unfold gotE; rw [if_neg (by omega)])
  by_cases k3 : ((key.size : Nat) : Int) < 1
  · have he : gotE call b1 b2 b3 b4 = 50 := by
      rw [HG1.out, if_pos]
      rw [Hb1.out]
      unfold keyR
      exact decide_eq_false (by omega)
    rw [he]
    clear he HG1
    go_enter Tryz.func95, Tryz.ntmps95
    go_wp2_with fail
    go_ret
    exact ⟨rfl, fun _ => Apart.refl _ _, fun hh => (by cases hh)⟩
  by_cases k4 : ((key.size : Nat) : Int) > 16
  · have he : gotE call b1 b2 b3 b4 = 50 := by
      rw [HG1.out, if_pos]
      rw [Hb1.out]
      unfold keyR
      exact decide_eq_false (by omega)
    rw [he]
    clear he HG1
    go_enter Tryz.func95, Tryz.ntmps95
    go_wp2_with fail
    go_ret
    exact ⟨rfl, fun _ => Apart.refl _ _, fun hh => (by cases hh)⟩
  have HG2 : Hid (gotE call b1 b2 b3 b4 = if b2 = false then 30 else if b3 = false then 52 else if b4 = false then 150 else 0) := hid (by
    rw [HG1.out, if_neg]
    rw [Hb1.out]
    unfold keyR
    rw [decide_eq_true (by omega)]
    simp)
  obtain ⟨er, Her⟩ : ∃ er : Int, Hid (er = if b2 = false then 30 else if b3 = false then 52 else if b4 = false then 150 else 0) := ⟨_, hid rfl⟩
  rw [HG2.out, ← Her.out]
  clear HG1 HG2
  obtain ⟨t0, t1, t2, t3, t4, t5, t6, t7, t8⟩ := HCW.out w (Apart.refl _ _)
  go_enter Tryz.func95, Tryz.ntmps95
  go_wp2_with fail
  refine HST.out.mono ?_
  rintro _ w1 ⟨rfl, a1⟩
  have HA1 := hid a1
  clear a1 t0 t1 t2 t3 t4 t5 t6 t7 t8 HST
  try dsimp only
  cases b2 with
  | false =>
    have HR30 : Hid (RGotP w T c nn rr pp lk f N call key es er (.returned (.int .i64 30)) w1) := by
      rw [Her.out]
      exact hid ⟨rfl, fun _ => HA1.out, fun hh => (by cases hh)⟩
    go_wp2_with fail
    go_ret
    exact HR30.out
  | true =>
    replace Her : Hid (er = if b3 = false then 52 else if b4 = false then 150 else 0) := by unfold Hid; rw [Her.out]; simp
    go_wp2_with fail
    go_loopw [12, 13] (fun a b wt => ∃ (i : Nat) (s : Sl), a = .slice s.p s.n s.c ∧ b = .int .i64 (i : Nat) ∧ i ≤ n ∧ Hid (Nw w wt 34 2 s (flD ((es.take i).map dotE)) ∧ ∀ j, j < i → okI c key tok es X j = true)) (fun _ b _ => n - (intOf b).toNat)
    case atStart => exact ⟨0, slz, rfl, rfl, Nat.zero_le _, hid ⟨Nw.none0 HA1.out _ _, fun j hj => absurd hj (Nat.not_lt_zero _)⟩⟩
    case round =>
      obtain ⟨i, s, rfl, rfl, hile, HI⟩ := hrel
      generalize wr = w2 at *
      by_cases hlt : i < n
      · have hlti : ((i : Nat) : Int) < (n : Int) := by omega
        have HA2 := hid HI.out.1.ap
        obtain ⟨P, o, hP, hPl, hcell⟩ := ecells HW.out.rd (show i < es.length by rw [HLEN.out]; exact hlt)
        have HPC : Hid (∀ W, Apart [] w W → 0 < i → W.cell? ⟨P, o + (i - 1) * 6, none⟩ = some (.int .i64 (gE es (i - 1)).n) ∧ W.cell? ⟨P, o + (i - 1) * 6 + 1, none⟩ = some (.int .i64 (gE es (i - 1)).c)) := fun W a h0 => by
          obtain ⟨P', o', hP', -, hc'⟩ := ecells HW.out.rd (show i - 1 < es.length by rw [HLEN.out]; omega)
          rw [hP] at hP'
          simp at hP'
          obtain ⟨rfl, rfl⟩ := hP'
          exact ⟨(hc' W a).1, (hc' W a).2.1⟩
        obtain ⟨x, Hx⟩ : ∃ x, Hid (x = gE es i) := ⟨_, hid rfl⟩
        obtain ⟨y, Hy⟩ : ∃ y, Hid (y = gE es (i - 1)) := ⟨_, hid rfl⟩
        rw [← Hx.out] at hcell
        rw [← Hy.out] at HPC
        obtain ⟨c0, c1, c2, c3, c4, c5⟩ := hcell w2 HA2.out
        subst hP
        obtain ⟨Y, HY⟩ : ∃ Y, Hid (Y = w2.heap.size) := ⟨_, hid rfl⟩
        obtain ⟨w4, hw4⟩ : ∃ V, V = w2.alloc (.cells #[.int .i64 x.n, .int .i64 x.c, .string x.k, .bool x.d, .slice x.v.p x.v.n x.v.c, .slice x.x.p x.x.n x.x.c] 38) := ⟨_, rfl⟩
        have a4 : Apart [] w2 w4 := by rw [hw4]; exact (Apart.refl [] w2).alloc _
        have hb4 : w4.heap[Y]? = some (.cells #[.int .i64 x.n, .int .i64 x.c, .string x.k, .bool x.d, .slice x.v.p x.v.n x.v.c, .slice x.x.p x.x.n x.x.c] 38 (0, 0)) := by rw [hw4, HY.out]; exact heap_alloc_new w2 _
        have HA4 := hid (HA2.out.trans a4)
        have HN4 := hid (HI.out.1.kept a4)
        have HYC : Hid (∀ W, Apart [] w4 W → W.cell? ⟨Y, 0, none⟩ = some (.int .i64 x.n) ∧ W.cell? ⟨Y, 1, none⟩ = some (.int .i64 x.c) ∧ W.cell? ⟨Y, 2, none⟩ = some (.string x.k) ∧ W.cell? ⟨Y, 3, none⟩ = some (.bool x.d) ∧ W.cell? ⟨Y, 4, none⟩ = some (.slice x.v.p x.v.n x.v.c) ∧ W.cell? ⟨Y, 5, none⟩ = some (.slice x.x.p x.x.n x.x.c)) := fun W a => by
          have q := keep0 a hb4
          exact ⟨crow q 0 _ rfl, crow q 1 _ rfl, crow q 2 _ rfl, crow q 3 _ rfl, crow q 4 _ rfl, crow q 5 _ rfl⟩
        obtain ⟨d1, Hd1⟩ : ∃ b : Bool, Hid (b = wrR c x (X i)) := ⟨_, hid rfl⟩
        obtain ⟨d2, Hd2⟩ : ∃ b : Bool, Hid (b = keq x.k key) := ⟨_, hid rfl⟩
        obtain ⟨d3, Hd3⟩ : ∃ b : Bool, Hid (b = hz tok (dotE x)) := ⟨_, hid rfl⟩
        obtain ⟨d4, Hd4⟩ : ∃ b : Bool, Hid (b = belowD (dotE y) (dotE x)) := ⟨_, hid rfl⟩
        obtain ⟨ok, Hok⟩ : ∃ b : Bool, Hid (b = okI c key tok es X i) := ⟨_, hid rfl⟩
        have HOK : Hid (ok = (d1 && d2 && d3 && (decide (i = 0) || d4))) := by unfold Hid; rw [Hok.out]; unfold okI; rw [Hd1.out, Hd2.out, Hd3.out, Hd4.out, Hx.out, Hy.out, below_cf]
        have HWR : Hid (∀ W, Apart [] w W → Calls Tryz.prog 89 #[.agg #[.int .i64 c.n, .int .i64 c.p, .int .i64 c.r, .int .i64 c.s, .int .i64 c.g, .int .i64 c.c, .int .i64 c.k, .int .i64 c.h, .int .i64 c.b], .agg #[.int .i64 x.n, .int .i64 x.c, .string x.k, .bool x.d, .slice x.v.p x.v.n x.v.c, .slice x.x.p x.x.n x.x.c]] W fun r w' => r = .returned (.bool d1) ∧ Apart [] W w') := fun W a => by
          have hcx := HW.out.ctx i hlt
          have hks := HW.out.key i hlt
          have hvs := HVN.out i hlt
          rw [← Hx.out] at hcx hks hvs
          rw [Hd1.out]
          exact dright_ok HCR.out x (hcx.kept0 a) (by unfold maxLen at hks; omega) hvs
        have HHS : Hid (∀ W, Apart [] w W → Calls Tryz.prog 91 #[.slice tp tn tc, .agg #[.int .i64 x.n, .int .i64 x.c]] W fun r w' => r = .returned (.bool d3) ∧ Apart [] W w') := fun W a => rhas_ok x.n x.c (HT.out.kept0 a) d3 Hd3.out
        have HBL : Hid (∀ W, Calls Tryz.prog 92 #[.agg #[.int .i64 y.n, .int .i64 y.c], .agg #[.int .i64 x.n, .int .i64 x.c]] W fun r w' => r = .returned (.bool d4) ∧ Apart [] W w') := fun W => by rw [Hd4.out]; exact below_ok W (dotE y) (dotE x)
        have HKE : Hid ((x.k.toList == key.toList) = d2) := by unfold Hid; rw [Hd2.out]; rfl
        clear a4 hcell hb4
        go_upto_region 13 with fail
        rw [← hw4, ← HY.out]
        clear hw4 c0 c1 c2 c3 c4 c5
        go_cut [15] from 50 to 55 (fun s15 wx => s15 = .bool d1 ∧ Hid (Apart [] w4 wx))
        case first =>
          have hAd : Apart [] w4 w4.drew := (Apart.refl [] w4).drew
          refine wp_region_held_drew (S := fun W => Apart [] w4 W) (by kernel_rfl) hAd (fun hHeld => ?_)
          generalize w4.drew = wd at *
          clear hAd
          refine tk 0 50 (.pointer (some ⟨T.S, 0, none⟩)) rfl ?_ ?_
          · intro W hSW; go_simp
          simp only [Act.put, List.setIfInBounds_toArray, List.set_cons_zero, List.set_cons_succ]
          refine tk 1 51 (.pointer (some ⟨T.S, 0, none⟩)) rfl ?_ ?_
          · intro W hSW; go_simp
          simp only [Act.put, List.setIfInBounds_toArray, List.set_cons_zero, List.set_cons_succ]
          refine tk 2 52 (.pointer (some ⟨T.S, 0, none⟩)) rfl ?_ ?_
          · intro W hSW; go_simp
          simp only [Act.put, List.setIfInBounds_toArray, List.set_cons_zero, List.set_cons_succ]
          refine tk 3 53 (.agg #[.int .i64 c.n, .int .i64 c.p, .int .i64 c.r, .int .i64 c.s, .int .i64 c.g, .int .i64 c.c, .int .i64 c.k, .int .i64 c.h, .int .i64 c.b]) rfl ?_ ?_
          · intro W hSW; obtain ⟨t0, t1, t2, t3, t4, t5, t6, t7, t8⟩ := HCW.out W (HA4.out.trans hSW); go_simp
          simp only [Act.put, List.setIfInBounds_toArray, List.set_cons_zero, List.set_cons_succ]
          refine tk 4 54 (.agg #[.int .i64 x.n, .int .i64 x.c, .string x.k, .bool x.d, .slice x.v.p x.v.n x.v.c, .slice x.x.p x.x.n x.x.c]) rfl ?_ ?_
          · intro W hSW; obtain ⟨u0, u1, u2, u3, u4, u5⟩ := HYC.out W hSW; go_simp
          simp only [Act.put, List.setIfInBounds_toArray, List.set_cons_zero, List.set_cons_succ]
          refine wpAnyH_ready (rs := [5]) (by kernel_rfl) (by simp) ?_
          refine AllReadyH.cons rfl (fun KK hKK => ?_) AllReadyH.nil
          go_simp
          refine (HWR.out wd (HA4.out.trans hHeld)).mono ?_
          rintro _ wx1 ⟨rfl, aX⟩
          have hHx := hHeld.trans aX
          try dsimp only
          refine hKK.out _ _ hHx (fun hHeld => ?_)
          clear hKK KK
          try simp only [Act.put, List.setIfInBounds_toArray, List.set_cons_zero, List.set_cons_succ]
          refine tk 6 15 (.bool d1) rfl ?_ ?_
          · intro W hSW; go_simp
          simp only [Act.put, List.setIfInBounds_toArray, List.set_cons_zero, List.set_cons_succ]
          refine wpAnyH_done (by kernel_rfl) ?_ _
          have HZ := hid hHeld
          clear hHeld
          go_wp2_with fail
          go_meet
          exact ⟨rfl, HZ⟩
        obtain ⟨rfl, HC⟩ := hcut
        generalize wc = w5 at *
        go_upto_region 14 with fail
        go_cut [86] from 56 to 86 (fun s86 wx => s86 = .bool (!ok) ∧ Hid (Apart [] w4 wx))
        case first =>
          have hAd : Apart [] w4 w5.drew := HC.out.trans ((Apart.refl [] w5).drew)
          refine wp_region_held_drew (S := fun W => Apart [] w4 W) (by kernel_rfl) hAd (fun hHeld => ?_)
          generalize w5.drew = wd at *
          clear hAd
          refine tk 0 56 (.bool d1) rfl ?_ ?_
          · intro W hSW; go_simp
          simp only [Act.put, List.setIfInBounds_toArray, List.set_cons_zero, List.set_cons_succ]
          cases d1 with
          | false =>
            refine tk 1 57 (.bool true) rfl ?_ ?_
            · intro W hSW; go_simp
            simp only [Act.put, List.setIfInBounds_toArray, List.set_cons_zero, List.set_cons_succ]
            refine tk 2 58 (.bool true) rfl ?_ ?_
            · intro W hSW; go_simp
            simp only [Act.put, List.setIfInBounds_toArray, List.set_cons_zero, List.set_cons_succ]
            refine tu 3 59 rfl ?_
            simp only [Act.put, List.setIfInBounds_toArray, List.set_cons_zero, List.set_cons_succ]
            refine tu 4 60 rfl ?_
            simp only [Act.put, List.setIfInBounds_toArray, List.set_cons_zero, List.set_cons_succ]
            refine tu 5 61 rfl ?_
            simp only [Act.put, List.setIfInBounds_toArray, List.set_cons_zero, List.set_cons_succ]
            refine tu 6 62 rfl ?_
            simp only [Act.put, List.setIfInBounds_toArray, List.set_cons_zero, List.set_cons_succ]
            refine tk 7 63 (.bool true) rfl ?_ ?_
            · intro W hSW; go_simp
            simp only [Act.put, List.setIfInBounds_toArray, List.set_cons_zero, List.set_cons_succ]
            refine tk 8 64 (.bool true) rfl ?_ ?_
            · intro W hSW; go_simp
            simp only [Act.put, List.setIfInBounds_toArray, List.set_cons_zero, List.set_cons_succ]
            refine tu 9 65 rfl ?_
            simp only [Act.put, List.setIfInBounds_toArray, List.set_cons_zero, List.set_cons_succ]
            refine tu 10 66 rfl ?_
            simp only [Act.put, List.setIfInBounds_toArray, List.set_cons_zero, List.set_cons_succ]
            refine tu 11 67 rfl ?_
            simp only [Act.put, List.setIfInBounds_toArray, List.set_cons_zero, List.set_cons_succ]
            refine wpAnyH_pass 12 (o := ⟨some 68, _, _, _, _, _⟩) (by kernel_rfl) rfl (by kernel_rfl) (by assumption) ?_
            simp only [Act.put, List.setIfInBounds_toArray, List.set_cons_zero, List.set_cons_succ]
            refine tu 13 69 rfl ?_
            simp only [Act.put, List.setIfInBounds_toArray, List.set_cons_zero, List.set_cons_succ]
            refine tk 14 70 (.bool true) rfl ?_ ?_
            · intro W hSW; go_simp
            simp only [Act.put, List.setIfInBounds_toArray, List.set_cons_zero, List.set_cons_succ]
            refine tk 15 71 (.bool true) rfl ?_ ?_
            · intro W hSW; go_simp
            simp only [Act.put, List.setIfInBounds_toArray, List.set_cons_zero, List.set_cons_succ]
            refine tu 16 72 rfl ?_
            simp only [Act.put, List.setIfInBounds_toArray, List.set_cons_zero, List.set_cons_succ]
            refine tu 17 73 rfl ?_
            simp only [Act.put, List.setIfInBounds_toArray, List.set_cons_zero, List.set_cons_succ]
            refine tu 18 74 rfl ?_
            simp only [Act.put, List.setIfInBounds_toArray, List.set_cons_zero, List.set_cons_succ]
            refine tu 19 75 rfl ?_
            simp only [Act.put, List.setIfInBounds_toArray, List.set_cons_zero, List.set_cons_succ]
            refine tu 20 76 rfl ?_
            simp only [Act.put, List.setIfInBounds_toArray, List.set_cons_zero, List.set_cons_succ]
            refine tu 21 77 rfl ?_
            simp only [Act.put, List.setIfInBounds_toArray, List.set_cons_zero, List.set_cons_succ]
            refine tu 22 78 rfl ?_
            simp only [Act.put, List.setIfInBounds_toArray, List.set_cons_zero, List.set_cons_succ]
            refine tu 23 79 rfl ?_
            simp only [Act.put, List.setIfInBounds_toArray, List.set_cons_zero, List.set_cons_succ]
            refine tu 24 80 rfl ?_
            simp only [Act.put, List.setIfInBounds_toArray, List.set_cons_zero, List.set_cons_succ]
            refine tu 25 81 rfl ?_
            simp only [Act.put, List.setIfInBounds_toArray, List.set_cons_zero, List.set_cons_succ]
            refine tu 26 82 rfl ?_
            simp only [Act.put, List.setIfInBounds_toArray, List.set_cons_zero, List.set_cons_succ]
            refine wpAnyH_pass 27 (o := ⟨some 83, _, _, _, _, _⟩) (by kernel_rfl) rfl (by kernel_rfl) (by assumption) ?_
            simp only [Act.put, List.setIfInBounds_toArray, List.set_cons_zero, List.set_cons_succ]
            refine tu 28 84 rfl ?_
            simp only [Act.put, List.setIfInBounds_toArray, List.set_cons_zero, List.set_cons_succ]
            refine tu 29 85 rfl ?_
            simp only [Act.put, List.setIfInBounds_toArray, List.set_cons_zero, List.set_cons_succ]
            refine tk 30 86 (.bool true) rfl ?_ ?_
            · intro W hSW; go_simp
            simp only [Act.put, List.setIfInBounds_toArray, List.set_cons_zero, List.set_cons_succ]
            refine wpAnyH_done (by kernel_rfl) ?_ _
            have HZ := hid hHeld
            clear hHeld
            go_wp2_with fail
            go_meet
            exact ⟨by rw [HOK.out]; simp, HZ⟩
          | true =>
            refine tk 1 57 (.bool false) rfl ?_ ?_
            · intro W hSW; go_simp
            simp only [Act.put, List.setIfInBounds_toArray, List.set_cons_zero, List.set_cons_succ]
            refine tk 2 58 (.bool false) rfl ?_ ?_
            · intro W hSW; go_simp
            simp only [Act.put, List.setIfInBounds_toArray, List.set_cons_zero, List.set_cons_succ]
            refine tk 3 59 (.pointer (some ⟨Y, 2, none⟩)) rfl ?_ ?_
            · intro W hSW; go_simp
            simp only [Act.put, List.setIfInBounds_toArray, List.set_cons_zero, List.set_cons_succ]
            refine tk 4 60 (.string x.k) rfl ?_ ?_
            · intro W hSW; obtain ⟨u0, u1, u2, u3, u4, u5⟩ := HYC.out W hSW; go_simp
            simp only [Act.put, List.setIfInBounds_toArray, List.set_cons_zero, List.set_cons_succ]
            refine tk 5 61 (.string key) rfl ?_ ?_
            · intro W hSW; go_simp
            simp only [Act.put, List.setIfInBounds_toArray, List.set_cons_zero, List.set_cons_succ]
            refine tk 6 62 (.bool (!d2)) rfl ?_ ?_
            · intro W hSW; have hke := HKE.out; go_simp
            simp only [Act.put, List.setIfInBounds_toArray, List.set_cons_zero, List.set_cons_succ]
            refine tk 7 63 (.bool (!d2)) rfl ?_ ?_
            · intro W hSW; go_simp
            simp only [Act.put, List.setIfInBounds_toArray, List.set_cons_zero, List.set_cons_succ]
            cases d2 with
            | false =>
              refine tk 8 64 (.bool true) rfl ?_ ?_
              · intro W hSW; go_simp
              simp only [Act.put, List.setIfInBounds_toArray, List.set_cons_zero, List.set_cons_succ]
              refine tu 9 65 rfl ?_
              simp only [Act.put, List.setIfInBounds_toArray, List.set_cons_zero, List.set_cons_succ]
              refine tu 10 66 rfl ?_
              simp only [Act.put, List.setIfInBounds_toArray, List.set_cons_zero, List.set_cons_succ]
              refine tu 11 67 rfl ?_
              simp only [Act.put, List.setIfInBounds_toArray, List.set_cons_zero, List.set_cons_succ]
              refine wpAnyH_pass 12 (o := ⟨some 68, _, _, _, _, _⟩) (by kernel_rfl) rfl (by kernel_rfl) (by assumption) ?_
              simp only [Act.put, List.setIfInBounds_toArray, List.set_cons_zero, List.set_cons_succ]
              refine tu 13 69 rfl ?_
              simp only [Act.put, List.setIfInBounds_toArray, List.set_cons_zero, List.set_cons_succ]
              refine tk 14 70 (.bool true) rfl ?_ ?_
              · intro W hSW; go_simp
              simp only [Act.put, List.setIfInBounds_toArray, List.set_cons_zero, List.set_cons_succ]
              refine tk 15 71 (.bool true) rfl ?_ ?_
              · intro W hSW; go_simp
              simp only [Act.put, List.setIfInBounds_toArray, List.set_cons_zero, List.set_cons_succ]
              refine tu 16 72 rfl ?_
              simp only [Act.put, List.setIfInBounds_toArray, List.set_cons_zero, List.set_cons_succ]
              refine tu 17 73 rfl ?_
              simp only [Act.put, List.setIfInBounds_toArray, List.set_cons_zero, List.set_cons_succ]
              refine tu 18 74 rfl ?_
              simp only [Act.put, List.setIfInBounds_toArray, List.set_cons_zero, List.set_cons_succ]
              refine tu 19 75 rfl ?_
              simp only [Act.put, List.setIfInBounds_toArray, List.set_cons_zero, List.set_cons_succ]
              refine tu 20 76 rfl ?_
              simp only [Act.put, List.setIfInBounds_toArray, List.set_cons_zero, List.set_cons_succ]
              refine tu 21 77 rfl ?_
              simp only [Act.put, List.setIfInBounds_toArray, List.set_cons_zero, List.set_cons_succ]
              refine tu 22 78 rfl ?_
              simp only [Act.put, List.setIfInBounds_toArray, List.set_cons_zero, List.set_cons_succ]
              refine tu 23 79 rfl ?_
              simp only [Act.put, List.setIfInBounds_toArray, List.set_cons_zero, List.set_cons_succ]
              refine tu 24 80 rfl ?_
              simp only [Act.put, List.setIfInBounds_toArray, List.set_cons_zero, List.set_cons_succ]
              refine tu 25 81 rfl ?_
              simp only [Act.put, List.setIfInBounds_toArray, List.set_cons_zero, List.set_cons_succ]
              refine tu 26 82 rfl ?_
              simp only [Act.put, List.setIfInBounds_toArray, List.set_cons_zero, List.set_cons_succ]
              refine wpAnyH_pass 27 (o := ⟨some 83, _, _, _, _, _⟩) (by kernel_rfl) rfl (by kernel_rfl) (by assumption) ?_
              simp only [Act.put, List.setIfInBounds_toArray, List.set_cons_zero, List.set_cons_succ]
              refine tu 28 84 rfl ?_
              simp only [Act.put, List.setIfInBounds_toArray, List.set_cons_zero, List.set_cons_succ]
              refine tu 29 85 rfl ?_
              simp only [Act.put, List.setIfInBounds_toArray, List.set_cons_zero, List.set_cons_succ]
              refine tk 30 86 (.bool true) rfl ?_ ?_
              · intro W hSW; go_simp
              simp only [Act.put, List.setIfInBounds_toArray, List.set_cons_zero, List.set_cons_succ]
              refine wpAnyH_done (by kernel_rfl) ?_ _
              have HZ := hid hHeld
              clear hHeld
              go_wp2_with fail
              go_meet
              exact ⟨by rw [HOK.out]; simp, HZ⟩
            | true =>
              refine tk 8 64 (.bool false) rfl ?_ ?_
              · intro W hSW; go_simp
              simp only [Act.put, List.setIfInBounds_toArray, List.set_cons_zero, List.set_cons_succ]
              refine tk 9 65 (.slice tp tn tc) rfl ?_ ?_
              · intro W hSW; go_simp
              simp only [Act.put, List.setIfInBounds_toArray, List.set_cons_zero, List.set_cons_succ]
              refine tk 10 66 (.pointer (some ⟨Y, 0, none⟩)) rfl ?_ ?_
              · intro W hSW; go_simp
              simp only [Act.put, List.setIfInBounds_toArray, List.set_cons_zero, List.set_cons_succ]
              refine tk 11 67 (.agg #[.int .i64 x.n, .int .i64 x.c]) rfl ?_ ?_
              · intro W hSW; obtain ⟨u0, u1, u2, u3, u4, u5⟩ := HYC.out W hSW; go_simp
              simp only [Act.put, List.setIfInBounds_toArray, List.set_cons_zero, List.set_cons_succ]
              refine wpAnyH_ready (rs := [12]) (by kernel_rfl) (by simp) ?_
              refine AllReadyH.cons rfl (fun KK hKK => ?_) AllReadyH.nil
              go_simp
              refine (HHS.out wd (HA4.out.trans hHeld)).mono ?_
              rintro _ wx1 ⟨rfl, aX⟩
              have hHx := hHeld.trans aX
              try dsimp only
              refine hKK.out _ _ hHx (fun hHeld => ?_)
              clear hKK KK
              try simp only [Act.put, List.setIfInBounds_toArray, List.set_cons_zero, List.set_cons_succ]
              refine tk 13 69 (.bool (!d3)) rfl ?_ ?_
              · intro W hSW; go_simp
              simp only [Act.put, List.setIfInBounds_toArray, List.set_cons_zero, List.set_cons_succ]
              refine tk 14 70 (.bool (!d3)) rfl ?_ ?_
              · intro W hSW; go_simp
              simp only [Act.put, List.setIfInBounds_toArray, List.set_cons_zero, List.set_cons_succ]
              cases d3 with
              | false =>
                refine tk 15 71 (.bool true) rfl ?_ ?_
                · intro W hSW; go_simp
                simp only [Act.put, List.setIfInBounds_toArray, List.set_cons_zero, List.set_cons_succ]
                refine tu 16 72 rfl ?_
                simp only [Act.put, List.setIfInBounds_toArray, List.set_cons_zero, List.set_cons_succ]
                refine tu 17 73 rfl ?_
                simp only [Act.put, List.setIfInBounds_toArray, List.set_cons_zero, List.set_cons_succ]
                refine tu 18 74 rfl ?_
                simp only [Act.put, List.setIfInBounds_toArray, List.set_cons_zero, List.set_cons_succ]
                refine tu 19 75 rfl ?_
                simp only [Act.put, List.setIfInBounds_toArray, List.set_cons_zero, List.set_cons_succ]
                refine tu 20 76 rfl ?_
                simp only [Act.put, List.setIfInBounds_toArray, List.set_cons_zero, List.set_cons_succ]
                refine tu 21 77 rfl ?_
                simp only [Act.put, List.setIfInBounds_toArray, List.set_cons_zero, List.set_cons_succ]
                refine tu 22 78 rfl ?_
                simp only [Act.put, List.setIfInBounds_toArray, List.set_cons_zero, List.set_cons_succ]
                refine tu 23 79 rfl ?_
                simp only [Act.put, List.setIfInBounds_toArray, List.set_cons_zero, List.set_cons_succ]
                refine tu 24 80 rfl ?_
                simp only [Act.put, List.setIfInBounds_toArray, List.set_cons_zero, List.set_cons_succ]
                refine tu 25 81 rfl ?_
                simp only [Act.put, List.setIfInBounds_toArray, List.set_cons_zero, List.set_cons_succ]
                refine tu 26 82 rfl ?_
                simp only [Act.put, List.setIfInBounds_toArray, List.set_cons_zero, List.set_cons_succ]
                refine wpAnyH_pass 27 (o := ⟨some 83, _, _, _, _, _⟩) (by kernel_rfl) rfl (by kernel_rfl) (by assumption) ?_
                simp only [Act.put, List.setIfInBounds_toArray, List.set_cons_zero, List.set_cons_succ]
                refine tu 28 84 rfl ?_
                simp only [Act.put, List.setIfInBounds_toArray, List.set_cons_zero, List.set_cons_succ]
                refine tu 29 85 rfl ?_
                simp only [Act.put, List.setIfInBounds_toArray, List.set_cons_zero, List.set_cons_succ]
                refine tk 30 86 (.bool true) rfl ?_ ?_
                · intro W hSW; go_simp
                simp only [Act.put, List.setIfInBounds_toArray, List.set_cons_zero, List.set_cons_succ]
                refine wpAnyH_done (by kernel_rfl) ?_ _
                have HZ := hid hHeld
                clear hHeld
                go_wp2_with fail
                go_meet
                exact ⟨by rw [HOK.out]; simp, HZ⟩
              | true =>
                refine tk 15 71 (.bool false) rfl ?_ ?_
                · intro W hSW; go_simp
                simp only [Act.put, List.setIfInBounds_toArray, List.set_cons_zero, List.set_cons_succ]
                refine tk 16 72 (.int .i64 (i : Nat)) rfl ?_ ?_
                · intro W hSW; go_simp
                simp only [Act.put, List.setIfInBounds_toArray, List.set_cons_zero, List.set_cons_succ]
                by_cases hi0 : 0 < i
                · have hgi : ((i : Nat) : Int) > 0 := by omega
                  have hdi : decide (i = 0) = false := decide_eq_false (by omega)
                  rw [hdi] at HOK
                  clear hdi
                  have hsub : ((i : Nat) : Int) - 1 = ((i - 1 : Nat) : Int) := by omega
                  refine tk 17 73 (.bool true) rfl ?_ ?_
                  · intro W hSW; go_simp
                  simp only [Act.put, List.setIfInBounds_toArray, List.set_cons_zero, List.set_cons_succ]
                  refine tk 18 74 (.bool true) rfl ?_ ?_
                  · intro W hSW; go_simp
                  simp only [Act.put, List.setIfInBounds_toArray, List.set_cons_zero, List.set_cons_succ]
                  refine tk 19 75 (.slice (some ⟨P, o, none⟩) n cap) rfl ?_ ?_
                  · intro W hSW; go_simp
                  simp only [Act.put, List.setIfInBounds_toArray, List.set_cons_zero, List.set_cons_succ]
                  refine tk 20 76 (.int .i64 (i : Nat)) rfl ?_ ?_
                  · intro W hSW; go_simp
                  simp only [Act.put, List.setIfInBounds_toArray, List.set_cons_zero, List.set_cons_succ]
                  refine tk 21 77 (.int .i64 ((i - 1 : Nat) : Int)) rfl ?_ ?_
                  · intro W hSW; rw [← hsub]; go_simp; rw [IntKind.wrap_i64]; omega
                  simp only [Act.put, List.setIfInBounds_toArray, List.set_cons_zero, List.set_cons_succ]
                  clear hsub
                  have him : i - 1 < n := by omega
                  have himi : (((i - 1 : Nat) : Nat) : Int) < (n : Int) := by omega
                  refine tk 22 78 (.pointer (some ⟨P, o + (i - 1) * 6, none⟩)) rfl ?_ ?_
                  · intro W hSW; go_simp
                  simp only [Act.put, List.setIfInBounds_toArray, List.set_cons_zero, List.set_cons_succ]
                  refine tk 23 79 (.pointer (some ⟨P, o + (i - 1) * 6, none⟩)) rfl ?_ ?_
                  · intro W hSW; go_simp
                  simp only [Act.put, List.setIfInBounds_toArray, List.set_cons_zero, List.set_cons_succ]
                  refine tk 24 80 (.agg #[.int .i64 y.n, .int .i64 y.c]) rfl ?_ ?_
                  · intro W hSW; obtain ⟨v0, v1⟩ := HPC.out W (HA4.out.trans hSW) hi0; go_simp
                  simp only [Act.put, List.setIfInBounds_toArray, List.set_cons_zero, List.set_cons_succ]
                  refine tk 25 81 (.pointer (some ⟨Y, 0, none⟩)) rfl ?_ ?_
                  · intro W hSW; go_simp
                  simp only [Act.put, List.setIfInBounds_toArray, List.set_cons_zero, List.set_cons_succ]
                  refine tk 26 82 (.agg #[.int .i64 x.n, .int .i64 x.c]) rfl ?_ ?_
                  · intro W hSW; obtain ⟨u0, u1, u2, u3, u4, u5⟩ := HYC.out W hSW; go_simp
                  simp only [Act.put, List.setIfInBounds_toArray, List.set_cons_zero, List.set_cons_succ]
                  refine wpAnyH_ready (rs := [27]) (by kernel_rfl) (by simp) ?_
                  refine AllReadyH.cons rfl (fun KK hKK => ?_) AllReadyH.nil
                  go_simp
                  refine (HBL.out _).mono ?_
                  rintro _ wx2 ⟨rfl, aY⟩
                  have hHy := hHeld.trans aY
                  try dsimp only
                  refine hKK.out _ _ hHy (fun hHeld => ?_)
                  clear hKK KK
                  try simp only [Act.put, List.setIfInBounds_toArray, List.set_cons_zero, List.set_cons_succ]
                  refine tk 28 84 (.bool (!d4)) rfl ?_ ?_
                  · intro W hSW; go_simp
                  simp only [Act.put, List.setIfInBounds_toArray, List.set_cons_zero, List.set_cons_succ]
                  refine tk 29 85 (.bool (!d4)) rfl ?_ ?_
                  · intro W hSW; go_simp
                  simp only [Act.put, List.setIfInBounds_toArray, List.set_cons_zero, List.set_cons_succ]
                  refine tk 30 86 (.bool (!d4)) rfl ?_ ?_
                  · intro W hSW; go_simp
                  simp only [Act.put, List.setIfInBounds_toArray, List.set_cons_zero, List.set_cons_succ]
                  refine wpAnyH_done (by kernel_rfl) ?_ _
                  have HZ := hid hHeld
                  clear hHeld
                  go_wp2_with fail
                  go_meet
                  exact ⟨by rw [HOK.out]; simp, HZ⟩
                · have hgi : ¬ ((i : Nat) : Int) > 0 := by omega
                  have hdi : decide (i = 0) = true := decide_eq_true (by omega)
                  rw [hdi] at HOK
                  clear hdi
                  refine tk 17 73 (.bool false) rfl ?_ ?_
                  · intro W hSW; go_simp
                  simp only [Act.put, List.setIfInBounds_toArray, List.set_cons_zero, List.set_cons_succ]
                  refine tk 18 74 (.bool false) rfl ?_ ?_
                  · intro W hSW; go_simp
                  simp only [Act.put, List.setIfInBounds_toArray, List.set_cons_zero, List.set_cons_succ]
                  refine tu 19 75 rfl ?_
                  simp only [Act.put, List.setIfInBounds_toArray, List.set_cons_zero, List.set_cons_succ]
                  refine tu 20 76 rfl ?_
                  simp only [Act.put, List.setIfInBounds_toArray, List.set_cons_zero, List.set_cons_succ]
                  refine tu 21 77 rfl ?_
                  simp only [Act.put, List.setIfInBounds_toArray, List.set_cons_zero, List.set_cons_succ]
                  refine tu 22 78 rfl ?_
                  simp only [Act.put, List.setIfInBounds_toArray, List.set_cons_zero, List.set_cons_succ]
                  refine tu 23 79 rfl ?_
                  simp only [Act.put, List.setIfInBounds_toArray, List.set_cons_zero, List.set_cons_succ]
                  refine tu 24 80 rfl ?_
                  simp only [Act.put, List.setIfInBounds_toArray, List.set_cons_zero, List.set_cons_succ]
                  refine tu 25 81 rfl ?_
                  simp only [Act.put, List.setIfInBounds_toArray, List.set_cons_zero, List.set_cons_succ]
                  refine tu 26 82 rfl ?_
                  simp only [Act.put, List.setIfInBounds_toArray, List.set_cons_zero, List.set_cons_succ]
                  refine wpAnyH_pass 27 (o := ⟨some 83, _, _, _, _, _⟩) (by kernel_rfl) rfl (by kernel_rfl) (by assumption) ?_
                  simp only [Act.put, List.setIfInBounds_toArray, List.set_cons_zero, List.set_cons_succ]
                  refine tu 28 84 rfl ?_
                  simp only [Act.put, List.setIfInBounds_toArray, List.set_cons_zero, List.set_cons_succ]
                  refine tk 29 85 (.bool false) rfl ?_ ?_
                  · intro W hSW; go_simp
                  simp only [Act.put, List.setIfInBounds_toArray, List.set_cons_zero, List.set_cons_succ]
                  refine tk 30 86 (.bool false) rfl ?_ ?_
                  · intro W hSW; go_simp
                  simp only [Act.put, List.setIfInBounds_toArray, List.set_cons_zero, List.set_cons_succ]
                  refine wpAnyH_done (by kernel_rfl) ?_ _
                  have HZ := hid hHeld
                  clear hHeld
                  go_wp2_with fail
                  go_meet
                  exact ⟨by rw [HOK.out]; simp, HZ⟩
        obtain ⟨rfl, HC2⟩ := hcut
        generalize wc = w6 at *
        clear HC
        cases ok with
        | false =>
          have HE : Hid (er = 52) := by
            have hno : areR c key tok es X = false := areR_no (by rw [HLEN.out]; exact hlt) Hok.out.symm
            unfold Hid
            rw [Her.out, Hb3.out, hno]
            rfl
          have HZ := hid (HA4.out.trans HC2.out)
          have hr52 : RGotP w T c nn rr pp lk f N call key es er (.returned (.int .i64 52)) w6 := by
            rw [HE.out]
            exact ⟨rfl, fun _ => HZ.out, fun hh => (by cases hh)⟩
          have HR52 := hid hr52
          clear hr52
          go_wp2_with fail
          go_ret
          exact HR52.out
        | true =>
          have HN6 := hid (HN4.out.kept HC2.out)
          have hil : i < es.length := by rw [HLEN.out]; exact hlt
          obtain ⟨s2, w7, hrun, hn7, ha7⟩ := appD HN6.out (dotE x) (by simp; omega)
          have HRUN := hid hrun
          have HE : Hid (Nw w w7 34 2 s2 (flD ((es.take (i + 1)).map dotE)) ∧ ∀ j, j < i + 1 → okI c key tok es X j = true) := by
            have e1 : (es.take (i + 1)).map dotE = (es.take i).map dotE ++ [dotE x] := by
              rw [List.take_add_one, List.getElem?_eq_getElem hil, List.map_append, Hx.out]
              unfold gE
              rw [List.getD_eq_getElem?_getD, List.getElem?_eq_getElem hil]
              rfl
            rw [e1]
            exact hid ⟨hn7, fun j hj => by
              by_cases hji : j = i
              · subst hji; exact Hok.out.symm
              · exact HI.out.2 j (by omega)⟩
          obtain ⟨u0, u1, u2, u3, u4, u5⟩ := HYC.out w6 HC2.out
          clear hrun hn7 ha7 u2 u3 u4 u5
          go_wp2_with (at_builtin; refine wpList_app2 rfl (.tmp 87) (.tmp 90) 50 50 rfl _ _ rfl rfl _ _ HRUN.out ?_)
          go_roundw
          case rel => exact ⟨i + 1, s2, rfl, by go_num, by omega, HE⟩
          case measure => simp [intOf]; omega
      · have hlti : ¬ ((i : Nat) : Int) < (n : Int) := by omega
        have HF : Hid (Nw w w2 34 2 s (flD (es.map dotE))) := by
          have := HI.out.1
          rw [List.take_of_length_le (by rw [HLEN.out]; omega)] at this
          exact hid this
        have HB3 : Hid (b3 = true) := by
          rw [Hb3.out]
          unfold Hid areR
          rw [List.all_eq_true]
          intro j hj
          have hj2 := List.mem_range.1 hj
          exact HI.out.2 j (by have := HLEN.out; omega)
        have HER : Hid (er = if b4 = false then 150 else 0) := by unfold Hid; rw [Her.out, HB3.out]; simp
        have HA2 := hid HF.out.ap
        have HS2 := hid (HS.out.kept0 HA2.out)
        obtain ⟨z, Hz⟩ : ∃ z, Hid (z = f key) := ⟨_, hid rfl⟩
        rw [← Hz.out] at Hb4
        have HOF : Hid (Calls Tryz.prog 90 #[.pointer (some ⟨T.S, 0, none⟩), .string key] w2 fun r w' => OfP w2 T key z r w') := by rw [Hz.out]; exact hid (of_ok HS2.out (by omega) HKS.out)
        have HZL : Hid (z.1.length ≤ N) := by
          have := HS2.out.fe key HKS.out
          rw [Hz.out, ← this]
          unfold lookSn
          cases hh : T.g.find? (fun x => keq x.k key) with
          | none => exact hid (Nat.zero_le _)
          | some x => exact hid ((HS2.out.hd x (List.mem_of_find?_eq_some hh)).2)
        clear HI
        go_wp2_with fail
        refine HOF.out.mono ?_
        rintro _ w3 ⟨s0, rfl, a3, ho3, hh3⟩
        have hn0 : s0.n = z.1.length := by have := ho3.1; rw [flD_len] at this; omega
        obtain ⟨Y, HYY⟩ : ∃ X, Hid (X = w3.heap.size) := ⟨_, hid rfl⟩
        obtain ⟨w4, hw4⟩ : ∃ V, V = w3.alloc (.cells #[.string key, .slice s0.p s0.n s0.c, .int .i64 z.2] 151) := ⟨_, rfl⟩
        have a4 : Apart [] w3 w4 := by rw [hw4]; exact (Apart.refl [] w3).alloc _
        have hY4 : w4.heap[Y]? = some (.cells #[.string key, .slice s0.p s0.n s0.c, .int .i64 z.2] 151 (0, 0)) := by rw [hw4, HYY.out]; exact heap_alloc_new w3 _
        have HRD : Hid (Rd w4 s0.p (flD z.1)) := hid ((Rd.own (show w3.ownsRow 0 34 2 (.slice s0.p s0.n s0.c) s0.n _ from ho3)).kept0 a4)
        have HA34 := hid (a3.trans a4)
        have HA4 := hid (HA2.out.trans HA34.out)
        have HF4 := hid (HF.out.kept HA34.out)
        have HY4 := hid hY4
        have HN0 := hid hn0
        have hsn : s0.n ≤ N := by rw [hn0]; exact HZL.out
        have HT4 := hid (HT.out.kept0 HA4.out)
        clear a3 a4 ho3 hh3 hY4 hn0 HOF
        try dsimp only
        go_upto_region 18 with fail
        rw [← hw4, ← HYY.out]
        clear hw4 HYY
        go_wp2_with fail
        go_loopw [17] (fun a wt => ∃ i : Nat, a = .int .i64 (i : Nat) ∧ i ≤ s0.n ∧ Hid (Apart [] w4 wt ∧ ∀ j, j < i → hz tok (z.1.getD j (0, 0)) = true)) (fun a _ => s0.n - (intOf a).toNat)
        case atStart => exact ⟨0, rfl, Nat.zero_le _, hid ⟨Apart.refl _ _, fun j hj => by omega⟩⟩
        case round =>
          obtain ⟨i, rfl, hile2, HI⟩ := hrel
          generalize wr = w5 at *
          have HY5 := hid (keep0 HI.out.1 HY4.out)
          have q1 := crow HY5.out 1 (.slice s0.p s0.n s0.c) rfl
          by_cases hlt2 : i < s0.n
          · have hlti2 : ((i : Nat) : Int) < ((s0.n : Nat) : Int) := by omega
            obtain ⟨P, o, hP, hPc⟩ := Rd_dot HRD.out (i := i) (by rw [← HN0.out]; exact hlt2)
            obtain ⟨d, Hd⟩ : ∃ d : Dt, Hid (d = z.1.getD i (0, 0)) := ⟨_, hid rfl⟩
            rw [← Hd.out] at hPc
            obtain ⟨c0, c1⟩ := hPc w5 HI.out.1
            rw [hP] at q1
            obtain ⟨hb, Hhb⟩ : ∃ b, Hid (b = hz tok d) := ⟨_, hid rfl⟩
            have HT5 := hid (HT4.out.kept0 HI.out.1)
            clear hPc hP
            go_wp2_with fail
            refine (rhas_ok d.1 d.2 HT5.out hb Hhb.out).mono ?_
            rintro _ w6 ⟨rfl, a6⟩
            have HA6 := hid (HI.out.1.trans a6)
            clear a6 c0 c1 q1
            try dsimp only
            cases hb with
            | false =>
              have HE : Hid (er = 150) := by
                have hno : z.1.all (hz tok) = false := by
                  have hil : i < z.1.length := by rw [← HN0.out]; exact hlt2
                  rw [List.all_eq_false]
                  refine ⟨d, ?_, by rw [← Hhb.out]; simp⟩
                  rw [Hd.out, List.getD_eq_getElem?_getD, List.getElem?_eq_getElem hil]
                  exact List.getElem_mem hil
                unfold Hid
                rw [HER.out, Hb4.out, hno]
                rfl
              have HR150 : Hid (RGotP w T c nn rr pp lk f N call key es er (.returned (.int .i64 150)) w6) := by
                rw [HE.out]
                exact hid ⟨rfl, fun _ => HA4.out.trans HA6.out, fun hh => (by cases hh)⟩
              go_wp2_with fail
              go_ret
              exact HR150.out
            | true =>
              have HE : Hid (Apart [] w4 w6 ∧ ∀ j, j < i + 1 → hz tok (z.1.getD j (0, 0)) = true) := hid ⟨HA6.out, fun j hj => by
                by_cases hji : j = i
                · subst hji; rw [← Hd.out]; exact Hhb.out.symm
                · exact HI.out.2 j (by omega)⟩
              go_wp2_with fail
              go_roundw
              case rel => exact ⟨i + 1, by go_num, by omega, HE⟩
              case measure => simp [intOf]; omega
          · have hlti2 : ¬ ((i : Nat) : Int) < ((s0.n : Nat) : Int) := by omega
            have HE : Hid (er = 0) := by
              have hyes : z.1.all (hz tok) = true := by
                rw [List.all_eq_true]
                intro d hd
                obtain ⟨m, hm, rfl⟩ := List.mem_iff_getElem.1 hd
                have := HI.out.2 m (by have := HN0.out; omega)
                rw [List.getD_eq_getElem?_getD, List.getElem?_eq_getElem hm] at this
                exact this
              unfold Hid
              rw [HER.out, Hb4.out, hyes]
              rfl
            have HA5 := hid (HA4.out.trans HI.out.1)
            have HS5 := hid ((HS.out.kept0 HA5.out).mono (show N ≤ N + n by omega))
            have HF5 := hid (HF4.out.kept HI.out.1)
            have HPT := hid (rput_ok HS5.out (by omega) ⟨key, s, es.map dotE, call⟩ HKS.out HF5.out.own (by simp; have := HLEN.out; omega))
            clear HI
            go_wp2_with fail
            refine HPT.out.mono ?_
            rintro _ w8 ⟨rfl, T', hT', hS', hap', hnew'⟩
            have HR0 : Hid (RGotP w T c nn rr pp lk f N call key es er (.returned (.int .i64 0)) w8) := by
              rw [HE.out]
              refine hid ⟨rfl, fun hh => absurd rfl hh, fun _ => ⟨T', by rw [HLEN.out]; exact hT', hS', (HA5.out.mono (by simp)).trans hap', fun j hj => ?_⟩⟩
              rcases hnew' j hj with h | h | h
              · exact .inl h
              · exact .inr (Nat.le_trans HA5.out.size h)
              · exact .inr (HF5.out.new j h)
            clear hT' hS' hap' hnew' q1
            try dsimp only
            go_wp2_with fail
            go_ret
            exact HR0.out
end Go.Proofs.YtpddokbjjhbfgaaGreat.ds
