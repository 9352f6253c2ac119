import Derived.Test.YtddffdcjhleejaaGreatG23
namespace Go.Proofs.YtddffdcjhleejaaGreat.ds
open Go.ChangeShapes Go.WideShapes Go.ChangeAt Go.RowKit Go.Sort
set_option linter.unusedVariables false
set_option linter.unusedSimpArgs false
/-- is it a message? -/
structure VI (m : MI) (xs : List S) (rs : List Wr) : Prop where
  kind : 1 ≤ m.kind ∧ m.kind ≤ 11
  ends : (0 ≤ m.frm ∧ m.frm < 8) ∧ 0 ≤ m.dst ∧ m.dst < 8
  nums : up m.call (hasF m.kind.toNat 1) 4096 ∧ up m.own (hasF m.kind.toNat 2) 7 ∧ up m.rng (hasF m.kind.toNat 4) 15
  key : (hasF m.kind.toNat 8 = true ↔ 1 ≤ m.key.size) ∧ m.key.size ≤ 16
  dot : (hasF m.kind.toNat 16 = true ↔ IsDot m.dn m.dc) ∧ (hasF m.kind.toNat 16 = false → m.dn = 0 ∧ m.dc = 0)
  set : OkL 64 xs ∧ (hasF m.kind.toNat 32 = false → m.set.n = 0) ∧ (m.kind = 5 → ∀ x ∈ xs, x.t = 0)
  few : (wrK m.kind.toNat = 1 → m.ws.n = 1) ∧ (wrK m.kind.toNat = 0 → m.ws.n = 0)
  ws : rs.length ≤ moK m.kind.toNat ∧ WsOk (if m.kind = 5 ∨ m.kind = 7 then m.key else ⟨#[]⟩) 0 0 rs
theorem irow11 {w : World} {X : Nat} {m : MI} (h : w.heap[X]? = some (.cells m.cs 29 (0, 0))) : (w.cell? ⟨X, 0, none⟩ = some (.int .i64 m.kind) ∧ w.cell? ⟨X, 1, none⟩ = some (.int .i64 m.frm) ∧ w.cell? ⟨X, 2, none⟩ = some (.int .i64 m.dst) ∧ w.cell? ⟨X, 3, none⟩ = some (.int .i64 m.call) ∧ w.cell? ⟨X, 4, none⟩ = some (.int .i64 m.rng) ∧ w.cell? ⟨X, 5, none⟩ = some (.int .i64 m.own)) ∧ w.cell? ⟨X, 6, none⟩ = some (.string m.key) ∧ w.cell? ⟨X, 7, none⟩ = some (.int .i64 m.dn) ∧ w.cell? ⟨X, 8, none⟩ = some (.int .i64 m.dc) ∧ w.cell? ⟨X, 9, none⟩ = some (.slice m.set.p m.set.n m.set.c) ∧ w.cell? ⟨X, 10, none⟩ = some (.slice m.ws.p m.ws.n m.ws.c) := by
  refine ⟨⟨?_, ?_, ?_, ?_, ?_, ?_⟩, ?_, ?_, ?_, ?_, ?_⟩ <;> (rw [cell_of_row _ _ _ _ _ _ h]; rfl)
set_option maxHeartbeats 4000000 in
set_option maxRecDepth 100000 in
theorem rvalidM_ok (w : World) (m : MI) (xs : List S) (es : List E) (rs : List Wr) (hm : RMI w m xs es rs) (v : Bool) (hv : v = true ↔ VI m xs rs) : Calls Tryz.prog 43 #[.agg #[.int .i64 m.kind, .int .i64 m.frm, .int .i64 m.dst, .int .i64 m.call, .int .i64 m.rng, .int .i64 m.own, .string m.key, .int .i64 m.dn, .int .i64 m.dc, .slice m.set.p m.set.n m.set.c, .slice m.ws.p m.ws.n m.ws.c]] w fun r w' => r = .returned (.bool v) ∧ Apart [] w w' := by
  obtain ⟨mkind, mfrm, mdst, mcall, mrng, mown, mkey, mdn, mdc, mset, mws⟩ := m
  simp only
  obtain ⟨bset, hbset⟩ := bool_of' (OkL 64 xs)
  obtain ⟨bdot, Hbdot⟩ : ∃ b, Hid (b = isd mdn mdc) := ⟨_, rfl⟩
  have HCs : Hid (∀ W, Apart [] w W → Calls Tryz.prog 52 #[.slice mset.p mset.n mset.c, .int .i64 64] W fun r w' => r = .returned (.bool bset) ∧ Apart [] W w') := fun W a => by
    cases bset with
    | true => exact right_yes (hm.set.kept0 a) (by omega) (hbset.1 rfl)
    | false => exact right_no (hm.set.kept0 a) (by omega) (fun h => by have := hbset.2 h; cases this)
  have HCd : Hid (∀ W, Calls Tryz.prog 81 #[.agg #[.int .i64 mdn, .int .i64 mdc]] W fun r w' => r = .returned (.bool bdot) ∧ Apart [] W w') := fun W => by rw [Hbdot.out]; exact rdot_ok _ _ W
  have HD : Hid (bdot = true ↔ IsDot mdn mdc) := by unfold Hid; rw [Hbdot.out]; exact isd_iff _ _
  have HM := hid hm
  have HV := hid hv
  have HBS := hid hbset
  have hsl := hm.sl
  have hwl := hm.ws.lim
  clear hm hv hbset
  obtain ⟨w1, hw1⟩ : ∃ w1, w1 = w.alloc (.cells #[.int .i64 mkind, .int .i64 mfrm, .int .i64 mdst, .int .i64 mcall, .int .i64 mrng, .int .i64 mown, .string mkey, .int .i64 mdn, .int .i64 mdc, .slice mset.p mset.n mset.c, .slice mws.p mws.n mws.c] 29) := ⟨_, rfl⟩
  have HX1 : Hid (w1.heap[w.heap.size]? = some (.cells (MI.cs ⟨mkind, mfrm, mdst, mcall, mrng, mown, mkey, mdn, mdc, mset, mws⟩) 29 (0, 0))) := by unfold Hid; rw [hw1]; exact heap_alloc_new w _
  have HA1 : Hid (Apart [] w w1) := by unfold Hid; rw [hw1]; exact (Apart.refl [] w).alloc _
  obtain ⟨X, HXX⟩ : ∃ X, Hid (X = w.heap.size) := ⟨_, rfl⟩
  rw [← HXX.out] at HX1
  obtain ⟨⟨z0, z1, z2, z3, z4, z5⟩, z6, z7, z8, z9, z10⟩ := irow11 HX1.out
  simp only at z0 z1 z2 z3 z4 z5 z6 z7 z8 z9 z10
  go_enter Tryz.func43, Tryz.ntmps43
  go_upto_region 1 with fail
  rw [← hw1, ← HXX.out]
  clear hw1
  by_cases hk : 1 ≤ mkind ∧ mkind ≤ 11
  · have hCf := fieldsR_ok mkind hk
    unfold hasV at hCf
    obtain ⟨kn, Hkn⟩ : ∃ kn, Hid (kn = mkind.toNat) := ⟨_, rfl⟩
    rw [← Hkn.out] at hCf
    have HVV : Hid (v = true ↔ VI ⟨mkind, mfrm, mdst, mcall, mrng, mown, mkey, mdn, mdc, mset, mws⟩ xs rs) := HV.out
    obtain ⟨b1, Hb1⟩ : ∃ b, Hid (b = hasF kn 1) := ⟨_, rfl⟩
    obtain ⟨b2, Hb2⟩ : ∃ b, Hid (b = hasF kn 2) := ⟨_, rfl⟩
    obtain ⟨b4, Hb4⟩ : ∃ b, Hid (b = hasF kn 4) := ⟨_, rfl⟩
    obtain ⟨b8, Hb8⟩ : ∃ b, Hid (b = hasF kn 8) := ⟨_, rfl⟩
    obtain ⟨b16, Hb16⟩ : ∃ b, Hid (b = hasF kn 16) := ⟨_, rfl⟩
    obtain ⟨b32, Hb32⟩ : ∃ b, Hid (b = hasF kn 32) := ⟨_, rfl⟩
    obtain ⟨wr0, Hwr0⟩ : ∃ x, Hid (x = wrK kn) := ⟨_, rfl⟩
    obtain ⟨mo, Hmo⟩ : ∃ x, Hid (x = moK kn) := ⟨_, rfl⟩
    rw [← Hb1.out, ← Hb2.out, ← Hb4.out, ← Hb8.out, ← Hb16.out, ← Hb32.out, ← Hwr0.out, ← Hmo.out] at hCf
    have HCf := hid hCf
    -- what is asked, in these letters
    have HQ : Hid (v = true ↔ ((0 ≤ mfrm ∧ mfrm < 8) ∧ 0 ≤ mdst ∧ mdst < 8) ∧ (up mcall b1 4096 ∧ up mown b2 7 ∧ up mrng b4 15) ∧ (((b8 = true ↔ 1 ≤ mkey.size) ∧ mkey.size ≤ 16) ∧ (b16 = true ↔ bdot = true) ∧ (b16 = false → mdn = 0 ∧ mdc = 0)) ∧ (bset = true ∧ (b32 = false → mset.n = 0) ∧ (mkind = 5 → ∀ x ∈ xs, x.t = 0)) ∧ ((wr0 = 1 → mws.n = 1) ∧ (wr0 = 0 → mws.n = 0)) ∧ (rs.length ≤ mo ∧ WsOk (if mkind = 5 ∨ mkind = 7 then mkey else ⟨#[]⟩) 0 0 rs)) := by
      unfold Hid
      rw [HVV.out, HD.out, HBS.out, Hb1.out, Hb2.out, Hb4.out, Hb8.out, Hb16.out, Hb32.out, Hwr0.out, Hmo.out, Hkn.out]
      constructor
      · intro h; exact ⟨h.ends, h.nums, ⟨h.key, h.dot⟩, h.set, h.few, h.ws⟩
      · rintro ⟨a, b, ⟨c, d⟩, e, f, g⟩; exact ⟨hk, a, b, c, d, e, f, g⟩
    have HK := hid hk
    clear hCf hk
    go_wp2_with fail
    refine (HCf.out w1).mono ?_
    rintro _ w2 ⟨rfl, ha2⟩
    have HX2 : Hid (w2.heap[X]? = some (.cells (MI.cs ⟨mkind, mfrm, mdst, mcall, mrng, mown, mkey, mdn, mdc, mset, mws⟩) 29 (0, 0))) := (ha2.block _ (lt_of_heap HX1.out) (by simp)).trans HX1.out
    have HA2 : Hid (Apart [] w w2) := HA1.out.trans ha2
    clear ha2 z0 z1 z2 z3 z4 z5 z6 z7 z8 z9 z10
    try dsimp only
    obtain ⟨w3, hw3⟩ : ∃ w3, w3 = w2.alloc (.cells #[.bool b1, .bool b2, .bool b4, .bool b8, .bool b16, .bool b32, .int .i64 (wr0 : Nat), .int .i64 (mo : Nat)] 93) := ⟨_, rfl⟩
    have HY3 : Hid (w3.heap[w2.heap.size]? = some (.cells #[.bool b1, .bool b2, .bool b4, .bool b8, .bool b16, .bool b32, .int .i64 (wr0 : Nat), .int .i64 (mo : Nat)] 93 (0, 0))) := by unfold Hid; rw [hw3]; exact heap_alloc_new w2 _
    have HS3 : Hid (Apart [] w2 w3) := by unfold Hid; rw [hw3]; exact (Apart.refl [] w2).alloc _
    have HX3 : Hid (w3.heap[X]? = some (.cells (MI.cs ⟨mkind, mfrm, mdst, mcall, mrng, mown, mkey, mdn, mdc, mset, mws⟩) 29 (0, 0))) := (HS3.out.block _ (lt_of_heap HX2.out) (by simp)).trans HX2.out
    have HA3 : Hid (Apart [] w w3) := HA2.out.trans HS3.out
    obtain ⟨Y, HYY⟩ : ∃ Y, Hid (Y = w2.heap.size) := ⟨_, rfl⟩
    rw [← HYY.out] at HY3
    obtain ⟨⟨z0, z1, z2, z3, z4, z5⟩, z6, z7, z8, z9, z10⟩ := irow11 HX3.out
    simp only at z0 z1 z2 z3 z4 z5 z6 z7 z8 z9 z10
    go_upto_region 2 with fail
    rw [← hw3, ← HYY.out]
    clear hw3
    go_wp2_with fail
    refine (HCs.out w3 HA3.out).mono ?_
    rintro _ w4 ⟨rfl, ha4⟩
    have HX4 : Hid (w4.heap[X]? = some (.cells (MI.cs ⟨mkind, mfrm, mdst, mcall, mrng, mown, mkey, mdn, mdc, mset, mws⟩) 29 (0, 0))) := (ha4.block _ (lt_of_heap HX3.out) (by simp)).trans HX3.out
    have HY4 : Hid (w4.heap[Y]? = some (.cells #[.bool b1, .bool b2, .bool b4, .bool b8, .bool b16, .bool b32, .int .i64 (wr0 : Nat), .int .i64 (mo : Nat)] 93 (0, 0))) := (ha4.block _ (lt_of_heap HY3.out) (by simp)).trans HY3.out
    have HA4 : Hid (Apart [] w w4) := HA3.out.trans ha4
    clear ha4 z0 z1 z2 z3 z4 z5 z6 z7 z8 z9 z10
    obtain ⟨⟨z0, z1, z2, z3, z4, z5⟩, z6, z7, z8, z9, z10⟩ := irow11 HX4.out
    simp only at z0 z1 z2 z3 z4 z5 z6 z7 z8 z9 z10
    try dsimp only
    go_wp2_with fail
    refine (HCd.out w4).mono ?_
    rintro _ w5 ⟨rfl, ha5⟩
    have HX5 : Hid (w5.heap[X]? = some (.cells (MI.cs ⟨mkind, mfrm, mdst, mcall, mrng, mown, mkey, mdn, mdc, mset, mws⟩) 29 (0, 0))) := (ha5.block _ (lt_of_heap HX4.out) (by simp)).trans HX4.out
    have HY5 : Hid (w5.heap[Y]? = some (.cells #[.bool b1, .bool b2, .bool b4, .bool b8, .bool b16, .bool b32, .int .i64 (wr0 : Nat), .int .i64 (mo : Nat)] 93 (0, 0))) := (ha5.block _ (lt_of_heap HY4.out) (by simp)).trans HY4.out
    have HA5 : Hid (Apart [] w w5) := HA4.out.trans ha5
    clear ha5 z0 z1 z2 z3 z4 z5 z6 z7 z8 z9 z10
    obtain ⟨⟨z0, z1, z2, z3, z4, z5⟩, z6, z7, z8, z9, z10⟩ := irow11 HX5.out
    simp only at z0 z1 z2 z3 z4 z5 z6 z7 z8 z9 z10
    obtain ⟨y0, y1, y2, y3, y4, y5, y6, y7⟩ := row8v HY5.out
    try dsimp only
    go_upto_region 4 with fail
    go_cut [41] from 20 to 41 (fun s wx => ∃ x : Bool, .bool x = s ∧ (x = false ↔ (0 ≤ mfrm ∧ mfrm < 8) ∧ 0 ≤ mdst ∧ mdst < 8) ∧ wx = w5)
    case first =>
      by_cases a0 : mfrm < 0
      · have hI : (true = false ↔ (0 ≤ mfrm ∧ mfrm < 8) ∧ 0 ≤ mdst ∧ mdst < 8) := ⟨fun h => (by cases h), fun h => (by omega)⟩
        have HI := hid hI
        clear hI
        go_wp2_with fail
        go_meet
        exact ⟨true, rfl, by first | exact HI.out | simpa using HI.out, rfl⟩
      · skip
        by_cases a1 : mfrm ≥ 8
        · have hI : (true = false ↔ (0 ≤ mfrm ∧ mfrm < 8) ∧ 0 ≤ mdst ∧ mdst < 8) := ⟨fun h => (by cases h), fun h => (by omega)⟩
          have HI := hid hI
          clear hI
          go_wp2_with fail
          go_meet
          exact ⟨true, rfl, by first | exact HI.out | simpa using HI.out, rfl⟩
        · skip
          by_cases a2 : mdst < 0
          · have hI : (true = false ↔ (0 ≤ mfrm ∧ mfrm < 8) ∧ 0 ≤ mdst ∧ mdst < 8) := ⟨fun h => (by cases h), fun h => (by omega)⟩
            have HI := hid hI
            clear hI
            go_wp2_with fail
            go_meet
            exact ⟨true, rfl, by first | exact HI.out | simpa using HI.out, rfl⟩
          · skip
            by_cases a3 : mdst ≥ 8
            · have hI : (true = false ↔ (0 ≤ mfrm ∧ mfrm < 8) ∧ 0 ≤ mdst ∧ mdst < 8) := ⟨fun h => (by cases h), fun h => (by omega)⟩
              have HI := hid hI
              clear hI
              go_wp2_with fail
              go_meet
              exact ⟨true, rfl, by first | exact HI.out | simpa using HI.out, rfl⟩
            · skip
              have HI : Hid (false = false ↔ (0 ≤ mfrm ∧ mfrm < 8) ∧ 0 ≤ mdst ∧ mdst < 8) := ⟨fun _ => (by omega), fun _ => rfl⟩
              go_wp2_with fail
              go_meet
              exact ⟨false, rfl, by first | exact HI.out | simpa using HI.out, rfl⟩
    obtain ⟨x, rfl, hx, hwx⟩ := hcut
    rw [hwx]
    clear hwx
    cases x with
    | true =>
      have Hvv : Hid (v = false) := bool_f' HQ.out (fun h => by have := hx.2 h.1; cases this)
      clear hx
      go_wp2_with fail
      go_ret
      exact ⟨by rw [Hvv.out]; rfl, HA5.out⟩
    | false =>
      have H4 := hid (hx.1 rfl)
      clear hx
      obtain ⟨u1, hu1⟩ := bool_of' (up mcall b1 4096)
      have HCu1 : Hid (∀ W, Calls Tryz.prog 82 #[.int .i64 mcall, .bool b1, .int .i64 4096] W fun r w' => r = .returned (.bool u1) ∧ w' = W) := fun W => upto_ok mcall b1 4096 u1 hu1 W
      obtain ⟨u2, hu2⟩ := bool_of' (up mown b2 7)
      have HCu2 : Hid (∀ W, Calls Tryz.prog 82 #[.int .i64 mown, .bool b2, .int .i64 7] W fun r w' => r = .returned (.bool u2) ∧ w' = W) := fun W => upto_ok mown b2 7 u2 hu2 W
      obtain ⟨u3, hu3⟩ := bool_of' (up mrng b4 15)
      have HCu3 : Hid (∀ W, Calls Tryz.prog 82 #[.int .i64 mrng, .bool b4, .int .i64 15] W fun r w' => r = .returned (.bool u3) ∧ w' = W) := fun W => upto_ok mrng b4 15 u3 hu3 W
      have HU1 := hid hu1
      have HU2 := hid hu2
      have HU3 := hid hu3
      clear hu1 hu2 hu3
      go_upto_region 6 with fail
      go_cut [63] from 42 to 63 (fun s wx => ∃ x : Bool, .bool x = s ∧ (x = false ↔ up mcall b1 4096 ∧ up mown b2 7 ∧ up mrng b4 15) ∧ wx = w5)
      case first =>
        go_wp2_with fail
        refine (HCu1.out w5).mono ?_
        rintro _ wn ⟨rfl, hwn⟩
        rw [hwn]
        clear hwn wn
        try dsimp only
        cases u1 with
        | false =>
          have HI : Hid (true = false ↔ up mcall b1 4096 ∧ up mown b2 7 ∧ up mrng b4 15) := ⟨fun h => (by cases h), fun h => by have := HU1.out.2 h.1; cases this⟩
          go_wp2_with fail
          go_meet
          exact ⟨true, rfl, by first | exact HI.out | simpa using HI.out, rfl⟩
        | true =>
          go_wp2_with fail
          refine (HCu2.out w5).mono ?_
          rintro _ wn ⟨rfl, hwn⟩
          rw [hwn]
          clear hwn wn
          try dsimp only
          cases u2 with
          | false =>
            have HI : Hid (true = false ↔ up mcall b1 4096 ∧ up mown b2 7 ∧ up mrng b4 15) := ⟨fun h => (by cases h), fun h => by have := HU2.out.2 h.2.1; cases this⟩
            go_wp2_with fail
            go_meet
            exact ⟨true, rfl, by first | exact HI.out | simpa using HI.out, rfl⟩
          | true =>
            go_wp2_with fail
            refine (HCu3.out w5).mono ?_
            rintro _ wn ⟨rfl, hwn⟩
            rw [hwn]
            clear hwn wn
            try dsimp only
            have HI : Hid ((!u3) = false ↔ up mcall b1 4096 ∧ up mown b2 7 ∧ up mrng b4 15) := by
              unfold Hid
              rw [Bool.not_eq_false', HU3.out]
              exact ⟨fun h => ⟨HU1.out.1 (by trivial), HU2.out.1 (by trivial), h⟩, fun h => h.2.2⟩
            go_wp2_with fail
            go_meet
            exact ⟨(!u3), rfl, by first | exact HI.out | simpa using HI.out, rfl⟩
      obtain ⟨x, rfl, hx, hwx⟩ := hcut
      rw [hwx]
      clear hwx
      cases x with
      | true =>
        have Hvv : Hid (v = false) := bool_f' HQ.out (fun h => by have := hx.2 h.2.1; cases this)
        clear hx
        go_wp2_with fail
        go_ret
        exact ⟨by rw [Hvv.out]; rfl, HA5.out⟩
      | false =>
        have H6 := hid (hx.1 rfl)
        clear hx
        have hsz : (0 : Int) ≤ (mkey.size : Int) := by omega
        go_upto_region 8 with fail
        go_cut [99] from 64 to 99 (fun s wx => ∃ x : Bool, .bool x = s ∧ (x = false ↔ ((b8 = true ↔ 1 ≤ mkey.size) ∧ mkey.size ≤ 16) ∧ (b16 = true ↔ bdot = true) ∧ (b16 = false → mdn = 0 ∧ mdc = 0)) ∧ wx = w5)
        case first =>
          by_cases k1 : 1 ≤ mkey.size
          · have k1i : ((mkey.size : Nat) : Int) ≥ 1 := by omega
            cases b8 with
            | false =>
              have HI : Hid (true = false ↔ ((false = true ↔ 1 ≤ mkey.size) ∧ mkey.size ≤ 16) ∧ (b16 = true ↔ bdot = true) ∧ (b16 = false → mdn = 0 ∧ mdc = 0)) := ⟨fun h => (by cases h), fun h => by have := h.1.1.2 k1; cases this⟩
              go_wp2_with fail
              go_meet
              exact ⟨true, rfl, by first | exact HI.out | simpa using HI.out, rfl⟩
            | true =>
              by_cases k2 : mkey.size ≤ 16
              · have k2i : ¬ ((mkey.size : Nat) : Int) > 16 := by omega
                have HKY : Hid ((true = true ↔ 1 ≤ mkey.size) ∧ mkey.size ≤ 16) := ⟨⟨fun _ => k1, fun _ => rfl⟩, k2⟩
                cases b16 with
                | true =>
                  cases bdot with
                  | false =>
                    have HI : Hid (true = false ↔ ((true = true ↔ 1 ≤ mkey.size) ∧ mkey.size ≤ 16) ∧ (true = true ↔ false = true) ∧ (true = false → mdn = 0 ∧ mdc = 0)) := ⟨fun h => (by cases h), fun h => by have := h.2.1.1 rfl; cases this⟩
                    go_wp2_with fail
                    go_meet
                    exact ⟨true, rfl, by first | exact HI.out | simpa using HI.out, rfl⟩
                  | true =>
                    have HI : Hid (false = false ↔ ((true = true ↔ 1 ≤ mkey.size) ∧ mkey.size ≤ 16) ∧ (true = true ↔ true = true) ∧ (true = false → mdn = 0 ∧ mdc = 0)) := ⟨fun _ => ⟨HKY.out, ⟨fun _ => rfl, fun _ => rfl⟩, fun h => (by cases h)⟩, fun _ => rfl⟩
                    go_wp2_with fail
                    go_meet
                    exact ⟨false, rfl, by first | exact HI.out | simpa using HI.out, rfl⟩
                | false =>
                  cases bdot with
                  | true =>
                    have HI : Hid (true = false ↔ ((true = true ↔ 1 ≤ mkey.size) ∧ mkey.size ≤ 16) ∧ (false = true ↔ true = true) ∧ (false = false → mdn = 0 ∧ mdc = 0)) := ⟨fun h => (by cases h), fun h => by have := h.2.1.2 rfl; cases this⟩
                    go_wp2_with fail
                    go_meet
                    exact ⟨true, rfl, by first | exact HI.out | simpa using HI.out, rfl⟩
                  | false =>
                    by_cases d0 : mdn = 0
                    · subst d0
                      by_cases d1 : mdc = 0
                      · subst d1
                        have HI : Hid (false = false ↔ ((true = true ↔ 1 ≤ mkey.size) ∧ mkey.size ≤ 16) ∧ (false = true ↔ false = true) ∧ (false = false → (0 : Int) = 0 ∧ (0 : Int) = 0)) := ⟨fun _ => ⟨HKY.out, ⟨fun h => h, fun h => h⟩, fun _ => ⟨rfl, rfl⟩⟩, fun _ => rfl⟩
                        go_wp2_with fail
                        go_meet
                        exact ⟨false, rfl, by first | exact HI.out | simpa using HI.out, rfl⟩
                      · have d1b : (mdc != 0) = true := by simp [d1]
                        have HI : Hid (true = false ↔ ((true = true ↔ 1 ≤ mkey.size) ∧ mkey.size ≤ 16) ∧ (false = true ↔ false = true) ∧ (false = false → (0 : Int) = 0 ∧ mdc = 0)) := ⟨fun h => (by cases h), fun h => absurd (h.2.2 rfl).2 d1⟩
                        go_wp2_with fail
                        go_meet
                        exact ⟨true, rfl, by first | exact HI.out | simpa using HI.out, rfl⟩
                    · skip
                      have HI : Hid (true = false ↔ ((true = true ↔ 1 ≤ mkey.size) ∧ mkey.size ≤ 16) ∧ (false = true ↔ false = true) ∧ (false = false → mdn = 0 ∧ mdc = 0)) := ⟨fun h => (by cases h), fun h => absurd (h.2.2 rfl).1 d0⟩
                      go_wp2_with fail
                      go_meet
                      exact ⟨true, rfl, by first | exact HI.out | simpa using HI.out, rfl⟩
              · have k2i : ((mkey.size : Nat) : Int) > 16 := by omega
                have HI : Hid (true = false ↔ ((true = true ↔ 1 ≤ mkey.size) ∧ mkey.size ≤ 16) ∧ (b16 = true ↔ bdot = true) ∧ (b16 = false → mdn = 0 ∧ mdc = 0)) := ⟨fun h => (by cases h), fun h => absurd h.1.2 k2⟩
                go_wp2_with fail
                go_meet
                exact ⟨true, rfl, by first | exact HI.out | simpa using HI.out, rfl⟩
          · have k1i : ¬ ((mkey.size : Nat) : Int) ≥ 1 := by omega
            cases b8 with
            | true =>
              have HI : Hid (true = false ↔ ((true = true ↔ 1 ≤ mkey.size) ∧ mkey.size ≤ 16) ∧ (b16 = true ↔ bdot = true) ∧ (b16 = false → mdn = 0 ∧ mdc = 0)) := ⟨fun h => (by cases h), fun h => absurd (h.1.1.1 rfl) k1⟩
              go_wp2_with fail
              go_meet
              exact ⟨true, rfl, by first | exact HI.out | simpa using HI.out, rfl⟩
            | false =>
              by_cases k2 : mkey.size ≤ 16
              · have k2i : ¬ ((mkey.size : Nat) : Int) > 16 := by omega
                have HKY : Hid ((false = true ↔ 1 ≤ mkey.size) ∧ mkey.size ≤ 16) := ⟨⟨fun h => (by cases h), fun h => absurd h k1⟩, k2⟩
                cases b16 with
                | true =>
                  cases bdot with
                  | false =>
                    have HI : Hid (true = false ↔ ((false = true ↔ 1 ≤ mkey.size) ∧ mkey.size ≤ 16) ∧ (true = true ↔ false = true) ∧ (true = false → mdn = 0 ∧ mdc = 0)) := ⟨fun h => (by cases h), fun h => by have := h.2.1.1 rfl; cases this⟩
                    go_wp2_with fail
                    go_meet
                    exact ⟨true, rfl, by first | exact HI.out | simpa using HI.out, rfl⟩
                  | true =>
                    have HI : Hid (false = false ↔ ((false = true ↔ 1 ≤ mkey.size) ∧ mkey.size ≤ 16) ∧ (true = true ↔ true = true) ∧ (true = false → mdn = 0 ∧ mdc = 0)) := ⟨fun _ => ⟨HKY.out, ⟨fun _ => rfl, fun _ => rfl⟩, fun h => (by cases h)⟩, fun _ => rfl⟩
                    go_wp2_with fail
                    go_meet
                    exact ⟨false, rfl, by first | exact HI.out | simpa using HI.out, rfl⟩
                | false =>
                  cases bdot with
                  | true =>
                    have HI : Hid (true = false ↔ ((false = true ↔ 1 ≤ mkey.size) ∧ mkey.size ≤ 16) ∧ (false = true ↔ true = true) ∧ (false = false → mdn = 0 ∧ mdc = 0)) := ⟨fun h => (by cases h), fun h => by have := h.2.1.2 rfl; cases this⟩
                    go_wp2_with fail
                    go_meet
                    exact ⟨true, rfl, by first | exact HI.out | simpa using HI.out, rfl⟩
                  | false =>
                    by_cases d0 : mdn = 0
                    · subst d0
                      by_cases d1 : mdc = 0
                      · subst d1
                        have HI : Hid (false = false ↔ ((false = true ↔ 1 ≤ mkey.size) ∧ mkey.size ≤ 16) ∧ (false = true ↔ false = true) ∧ (false = false → (0 : Int) = 0 ∧ (0 : Int) = 0)) := ⟨fun _ => ⟨HKY.out, ⟨fun h => h, fun h => h⟩, fun _ => ⟨rfl, rfl⟩⟩, fun _ => rfl⟩
                        go_wp2_with fail
                        go_meet
                        exact ⟨false, rfl, by first | exact HI.out | simpa using HI.out, rfl⟩
                      · have d1b : (mdc != 0) = true := by simp [d1]
                        have HI : Hid (true = false ↔ ((false = true ↔ 1 ≤ mkey.size) ∧ mkey.size ≤ 16) ∧ (false = true ↔ false = true) ∧ (false = false → (0 : Int) = 0 ∧ mdc = 0)) := ⟨fun h => (by cases h), fun h => absurd (h.2.2 rfl).2 d1⟩
                        go_wp2_with fail
                        go_meet
                        exact ⟨true, rfl, by first | exact HI.out | simpa using HI.out, rfl⟩
                    · skip
                      have HI : Hid (true = false ↔ ((false = true ↔ 1 ≤ mkey.size) ∧ mkey.size ≤ 16) ∧ (false = true ↔ false = true) ∧ (false = false → mdn = 0 ∧ mdc = 0)) := ⟨fun h => (by cases h), fun h => absurd (h.2.2 rfl).1 d0⟩
                      go_wp2_with fail
                      go_meet
                      exact ⟨true, rfl, by first | exact HI.out | simpa using HI.out, rfl⟩
              · exfalso; omega
        obtain ⟨x, rfl, hx, hwx⟩ := hcut
        rw [hwx]
        clear hwx hsz
        cases x with
        | true =>
          have Hvv : Hid (v = false) := bool_f' HQ.out (fun h => by have := hx.2 h.2.2.1; cases this)
          clear hx
          go_wp2_with fail
          go_ret
          exact ⟨by rw [Hvv.out]; rfl, HA5.out⟩
        | false =>
          have H8 := hid (hx.1 rfl)
          clear hx
          obtain ⟨bb, hbb⟩ := bool_of' (∀ x ∈ xs, x.t = 0)
          have HCb : Hid (∀ W, Apart [] w W → Calls Tryz.prog 83 #[.slice mset.p mset.n mset.c] W fun r w' => r = .returned (.bool bb) ∧ Apart [] W w') := fun W a => bare_ok (HM.out.set.kept0 a) bb hbb
          have HBB := hid hbb
          clear hbb
          go_upto_region 10 with fail
          go_cut [123] from 100 to 123 (fun s wx => ∃ x : Bool, .bool x = s ∧ (x = false ↔ bset = true ∧ (b32 = false → mset.n = 0) ∧ (mkind = 5 → ∀ x ∈ xs, x.t = 0)) ∧ Apart [] w5 wx)
          case first =>
            cases bset with
            | false =>
              have HI : Hid (true = false ↔ false = true ∧ (b32 = false → mset.n = 0) ∧ (mkind = 5 → ∀ x ∈ xs, x.t = 0)) := ⟨fun h => (by cases h), fun h => (by cases h.1)⟩
              go_wp2_with fail
              go_meet
              exact ⟨true, rfl, by first | exact HI.out | simpa using HI.out, Apart.refl _ _⟩
            | true =>
              cases b32 with
              | true =>
                by_cases k5 : mkind = 5
                · subst k5
                  go_wp2_with fail
                  refine (HCb.out w5 HA5.out).mono ?_
                  rintro _ w6 ⟨rfl, ha6⟩
                  have HS6 := hid ha6
                  clear ha6
                  try dsimp only
                  have HI : Hid ((!bb) = false ↔ true = true ∧ (true = false → mset.n = 0) ∧ ((5 : Int) = 5 → ∀ x ∈ xs, x.t = 0)) := by
                    unfold Hid
                    rw [Bool.not_eq_false', HBB.out]
                    exact ⟨fun h => ⟨rfl, fun h => (by cases h), fun _ => h⟩, fun h => h.2.2 rfl⟩
                  go_wp2_with fail
                  go_meet
                  exact ⟨(!bb), rfl, by first | exact HI.out | simpa using HI.out, HS6.out⟩
                · have k5b : (mkind == 5) = false := by simp [k5]
                  have HI : Hid (false = false ↔ true = true ∧ (true = false → mset.n = 0) ∧ (mkind = 5 → ∀ x ∈ xs, x.t = 0)) := ⟨fun _ => ⟨rfl, fun h => (by cases h), fun h => absurd h k5⟩, fun _ => rfl⟩
                  go_wp2_with fail
                  go_meet
                  exact ⟨false, rfl, by first | exact HI.out | simpa using HI.out, Apart.refl _ _⟩
              | false =>
                by_cases s0 : mset.n = 0
                · have HS0 := hid s0
                  have s0i : ¬ ((mset.n : Nat) : Int) > 0 := by omega
                  have s0d : decide (0 < mset.n) = false := decide_eq_false (by omega)
                  clear s0
                  by_cases k5 : mkind = 5
                  · subst k5
                    go_wp2_with fail
                    refine (HCb.out w5 HA5.out).mono ?_
                    rintro _ w6 ⟨rfl, ha6⟩
                    have HS6 := hid ha6
                    clear ha6
                    try dsimp only
                    have HI : Hid ((!bb) = false ↔ true = true ∧ (false = false → mset.n = 0) ∧ ((5 : Int) = 5 → ∀ x ∈ xs, x.t = 0)) := by
                      unfold Hid
                      rw [Bool.not_eq_false', HBB.out]
                      exact ⟨fun h => ⟨rfl, fun _ => HS0.out, fun _ => h⟩, fun h => h.2.2 rfl⟩
                    go_wp2_with fail
                    go_meet
                    exact ⟨(!bb), rfl, by first | exact HI.out | simpa using HI.out, HS6.out⟩
                  · have k5b : (mkind == 5) = false := by simp [k5]
                    have HI : Hid (false = false ↔ true = true ∧ (false = false → mset.n = 0) ∧ (mkind = 5 → ∀ x ∈ xs, x.t = 0)) := ⟨fun _ => ⟨rfl, fun _ => HS0.out, fun h => absurd h k5⟩, fun _ => rfl⟩
                    go_wp2_with fail
                    go_meet
                    exact ⟨false, rfl, by first | exact HI.out | simpa using HI.out, Apart.refl _ _⟩
                · have s0i : ((mset.n : Nat) : Int) > 0 := by omega
                  have s0d : decide (0 < mset.n) = true := decide_eq_true (by omega)
                  have HI : Hid (true = false ↔ true = true ∧ (false = false → mset.n = 0) ∧ (mkind = 5 → ∀ x ∈ xs, x.t = 0)) := ⟨fun h => (by cases h), fun h => absurd (h.2.1 rfl) s0⟩
                  go_wp2_with fail
                  go_meet
                  exact ⟨true, rfl, by first | exact HI.out | simpa using HI.out, Apart.refl _ _⟩
          obtain ⟨x, rfl, hx, hwx⟩ := hcut
          have HX7 : Hid (wc.heap[X]? = some (.cells (MI.cs ⟨mkind, mfrm, mdst, mcall, mrng, mown, mkey, mdn, mdc, mset, mws⟩) 29 (0, 0))) := (hwx.block _ (lt_of_heap HX5.out) (by simp)).trans HX5.out
          have HY7 : Hid (wc.heap[Y]? = some (.cells #[.bool b1, .bool b2, .bool b4, .bool b8, .bool b16, .bool b32, .int .i64 (wr0 : Nat), .int .i64 (mo : Nat)] 93 (0, 0))) := (hwx.block _ (lt_of_heap HY5.out) (by simp)).trans HY5.out
          have HA7 : Hid (Apart [] w wc) := HA5.out.trans hwx
          clear hwx z0 z1 z2 z3 z4 z5 z6 z7 z8 z9 z10 y0 y1 y2 y3 y4 y5 y6 y7
          generalize wc = w7 at *
          obtain ⟨⟨z0, z1, z2, z3, z4, z5⟩, z6, z7, z8, z9, z10⟩ := irow11 HX7.out
          simp only at z0 z1 z2 z3 z4 z5 z6 z7 z8 z9 z10
          obtain ⟨y0, y1, y2, y3, y4, y5, y6, y7⟩ := row8v HY7.out
          cases x with
          | true =>
            have Hvv : Hid (v = false) := bool_f' HQ.out (fun h => by have := hx.2 h.2.2.2.1; cases this)
            clear hx
            go_wp2_with fail
            go_ret
            exact ⟨by rw [Hvv.out]; rfl, HA7.out⟩
          | false =>
            have H10 := hid (hx.1 rfl)
            clear hx
            go_upto_region 12 with fail
            go_cut [143] from 124 to 143 (fun s wx => ∃ x : Bool, .bool x = s ∧ (x = false ↔ (wr0 = 1 → mws.n = 1) ∧ (wr0 = 0 → mws.n = 0)) ∧ wx = w7)
            case first =>
              by_cases r1 : wr0 = 1
              · subst r1
                by_cases n1 : mws.n = 1
                · have HN1 := hid n1
                  have n1i : ((mws.n : Nat) : Int) = 1 := by omega
                  clear n1
                  have HI : Hid (false = false ↔ (1 = 1 → mws.n = 1) ∧ (1 = 0 → mws.n = 0)) := ⟨fun _ => ⟨fun _ => HN1.out, fun h => absurd h (by omega)⟩, fun _ => rfl⟩
                  go_wp2_with fail
                  go_meet
                  exact ⟨false, rfl, by first | exact HI.out | simpa using HI.out, rfl⟩
                · have n1i : ¬ ((mws.n : Nat) : Int) = 1 := by omega
                  have HI : Hid (true = false ↔ (1 = 1 → mws.n = 1) ∧ (1 = 0 → mws.n = 0)) := ⟨fun h => (by cases h), fun h => absurd (h.1 rfl) n1⟩
                  go_wp2_with fail
                  go_meet
                  exact ⟨true, rfl, by first | exact HI.out | simpa using HI.out, rfl⟩
              · have r1i : ¬ ((wr0 : Nat) : Int) = 1 := by omega
                by_cases r0 : wr0 = 0
                · subst r0
                  clear r1i
                  by_cases n0 : mws.n = 0
                  · have HN0 := hid n0
                    have n0i : ¬ ((mws.n : Nat) : Int) > 0 := by omega
                    have n0d : decide (0 < mws.n) = false := decide_eq_false (by omega)
                    clear n0
                    have HI : Hid (false = false ↔ (0 = 1 → mws.n = 1) ∧ (0 = 0 → mws.n = 0)) := ⟨fun _ => ⟨fun h => absurd h r1, fun _ => HN0.out⟩, fun _ => rfl⟩
                    go_wp2_with fail
                    go_meet
                    exact ⟨false, rfl, by first | exact HI.out | simpa using HI.out, rfl⟩
                  · have n0i : ((mws.n : Nat) : Int) > 0 := by omega
                    have n0d : decide (0 < mws.n) = true := decide_eq_true (by omega)
                    have HI : Hid (true = false ↔ (0 = 1 → mws.n = 1) ∧ (0 = 0 → mws.n = 0)) := ⟨fun h => (by cases h), fun h => absurd (h.2 rfl) n0⟩
                    go_wp2_with fail
                    go_meet
                    exact ⟨true, rfl, by first | exact HI.out | simpa using HI.out, rfl⟩
                · have r0i : ¬ ((wr0 : Nat) : Int) = 0 := by omega
                  have HI : Hid (false = false ↔ (wr0 = 1 → mws.n = 1) ∧ (wr0 = 0 → mws.n = 0)) := ⟨fun _ => ⟨fun h => absurd h r1, fun h => absurd h r0⟩, fun _ => rfl⟩
                  go_wp2_with fail
                  go_meet
                  exact ⟨false, rfl, by first | exact HI.out | simpa using HI.out, rfl⟩
            obtain ⟨x, rfl, hx, hwx⟩ := hcut
            rw [hwx]
            clear hwx
            cases x with
            | true =>
              have Hvv : Hid (v = false) := bool_f' HQ.out (fun h => by have := hx.2 h.2.2.2.2.1; cases this)
              clear hx
              go_wp2_with fail
              go_ret
              exact ⟨by rw [Hvv.out]; rfl, HA7.out⟩
            | false =>
              have H12 := hid (hx.1 rfl)
              clear hx
              obtain ⟨vl, hvl⟩ := bool_of' (rs.length ≤ mo ∧ WsOk (if mkind = 5 ∨ mkind = 7 then mkey else ⟨#[]⟩) 0 0 rs)
              have HVL := hid hvl
              have hCl := fun (W : World) (a : Apart [] w W) => rlist_ok (HM.out.ws.kept0 a) mo _ vl hvl
              clear hvl
              by_cases k57 : mkind = 5 ∨ mkind = 7
              · rw [if_pos k57] at hCl
                have HCl : Hid (∀ W, Apart [] w W → Calls Tryz.prog 84 #[.slice mws.p mws.n mws.c, .int .i64 (mo : Nat), .string mkey] W fun r w' => r = .returned (.bool vl) ∧ Apart [] W w') := hCl
                clear hCl
                rcases k57 with k5 | k7
                · subst k5
                  have Hvv : Hid (v = vl) := by
                    unfold Hid
                    rw [Bool.eq_iff_iff, HQ.out, HVL.out]
                    exact ⟨fun h => h.2.2.2.2.2, fun h => ⟨H4.out, H6.out, H8.out, H10.out, H12.out, h⟩⟩
                  go_wp2_with fail
                  refine (HCl.out w7 HA7.out).mono ?_
                  rintro _ w8 ⟨rfl, ha8⟩
                  have HA8 : Hid (Apart [] w w8) := HA7.out.trans ha8
                  clear ha8 z0 z1 z2 z3 z4 z5 z6 z7 z8 z9 z10 y0 y1 y2 y3 y4 y5 y6 y7
                  try dsimp only
                  go_wp2_with fail
                  go_ret
                  have hvv := Hvv.out
                  clear Hvv HQ HVV HV HVL
                  subst hvv
                  exact ⟨rfl, HA8.out⟩
                · subst k7
                  have Hvv : Hid (v = vl) := by
                    unfold Hid
                    rw [Bool.eq_iff_iff, HQ.out, HVL.out]
                    exact ⟨fun h => h.2.2.2.2.2, fun h => ⟨H4.out, H6.out, H8.out, H10.out, H12.out, h⟩⟩
                  go_wp2_with fail
                  refine (HCl.out w7 HA7.out).mono ?_
                  rintro _ w8 ⟨rfl, ha8⟩
                  have HA8 : Hid (Apart [] w w8) := HA7.out.trans ha8
                  clear ha8 z0 z1 z2 z3 z4 z5 z6 z7 z8 z9 z10 y0 y1 y2 y3 y4 y5 y6 y7
                  try dsimp only
                  go_wp2_with fail
                  go_ret
                  have hvv := Hvv.out
                  clear Hvv HQ HVV HV HVL
                  subst hvv
                  exact ⟨rfl, HA8.out⟩
              · rw [if_neg k57] at hCl
                have HCl : Hid (∀ W, Apart [] w W → Calls Tryz.prog 84 #[.slice mws.p mws.n mws.c, .int .i64 (mo : Nat), .string ⟨#[]⟩] W fun r w' => r = .returned (.bool vl) ∧ Apart [] W w') := hCl
                have k5 : ¬ mkind = 5 := fun h => k57 (.inl h)
                have k7 : ¬ mkind = 7 := fun h => k57 (.inr h)
                have k5b : (mkind == 5) = false := by simp [k5]
                have k7b : (mkind == 7) = false := by simp [k7]
                clear hCl k57
                have Hvv : Hid (v = vl) := by
                  unfold Hid
                  rw [Bool.eq_iff_iff, HQ.out, HVL.out]
                  exact ⟨fun h => h.2.2.2.2.2, fun h => ⟨H4.out, H6.out, H8.out, H10.out, H12.out, h⟩⟩
                go_wp2_with fail
                refine (HCl.out w7 HA7.out).mono ?_
                rintro _ w8 ⟨rfl, ha8⟩
                have HA8 : Hid (Apart [] w w8) := HA7.out.trans ha8
                clear ha8 z0 z1 z2 z3 z4 z5 z6 z7 z8 z9 z10 y0 y1 y2 y3 y4 y5 y6 y7
                try dsimp only
                go_wp2_with fail
                go_ret
                have hvv := Hvv.out
                clear Hvv HQ HVV HV HVL
                subst hvv
                exact ⟨rfl, HA8.out⟩
  · have HCf : Hid (∀ W, Calls Tryz.prog 44 #[.int .i64 mkind] W fun r w' => r = .returned (.tuple #[.agg #[.bool false, .bool false, .bool false, .bool false, .bool false, .bool false, .int .i64 0, .int .i64 0], .bool false]) ∧ Apart [] W w') := fieldsR_0 mkind hk
    have Hvv : Hid (v = false) := bool_f' HV.out (fun h => hk h.kind)
    clear hk
    go_wp2_with fail
    refine (HCf.out w1).mono ?_
    rintro _ w2 ⟨rfl, ha2⟩
    have HX2 : Hid (w2.heap[X]? = some (.cells (MI.cs ⟨mkind, mfrm, mdst, mcall, mrng, mown, mkey, mdn, mdc, mset, mws⟩) 29 (0, 0))) := (ha2.block _ (lt_of_heap HX1.out) (by simp)).trans HX1.out
    have HA2 : Hid (Apart [] w w2) := HA1.out.trans ha2
    clear ha2 z0 z1 z2 z3 z4 z5 z6 z7 z8 z9 z10
    try dsimp only
    obtain ⟨w3, hw3⟩ : ∃ w3, w3 = w2.alloc (.cells #[.bool false, .bool false, .bool false, .bool false, .bool false, .bool false, .int .i64 0, .int .i64 0] 93) := ⟨_, rfl⟩
    have HS3 : Hid (Apart [] w2 w3) := by unfold Hid; rw [hw3]; exact (Apart.refl [] w2).alloc _
    have HX3 : Hid (w3.heap[X]? = some (.cells (MI.cs ⟨mkind, mfrm, mdst, mcall, mrng, mown, mkey, mdn, mdc, mset, mws⟩) 29 (0, 0))) := (HS3.out.block _ (lt_of_heap HX2.out) (by simp)).trans HX2.out
    have HA3 : Hid (Apart [] w w3) := HA2.out.trans HS3.out
    obtain ⟨⟨z0, z1, z2, z3, z4, z5⟩, z6, z7, z8, z9, z10⟩ := irow11 HX3.out
    simp only at z0 z1 z2 z3 z4 z5 z6 z7 z8 z9 z10
    go_upto_region 2 with fail
    rw [← hw3]
    clear hw3
    go_wp2_with fail
    refine (HCs.out w3 HA3.out).mono ?_
    rintro _ w4 ⟨rfl, ha4⟩
    have HX4 : Hid (w4.heap[X]? = some (.cells (MI.cs ⟨mkind, mfrm, mdst, mcall, mrng, mown, mkey, mdn, mdc, mset, mws⟩) 29 (0, 0))) := (ha4.block _ (lt_of_heap HX3.out) (by simp)).trans HX3.out
    have HA4 : Hid (Apart [] w w4) := HA3.out.trans ha4
    clear ha4 z0 z1 z2 z3 z4 z5 z6 z7 z8 z9 z10
    obtain ⟨⟨z0, z1, z2, z3, z4, z5⟩, z6, z7, z8, z9, z10⟩ := irow11 HX4.out
    simp only at z0 z1 z2 z3 z4 z5 z6 z7 z8 z9 z10
    try dsimp only
    go_wp2_with fail
    refine (HCd.out w4).mono ?_
    rintro _ w5 ⟨rfl, ha5⟩
    have HA5 : Hid (Apart [] w w5) := HA4.out.trans ha5
    clear ha5 z0 z1 z2 z3 z4 z5 z6 z7 z8 z9 z10
    try dsimp only
    go_wp2_with fail
    go_ret
    exact ⟨by rw [Hvv.out]; rfl, HA5.out⟩
end Go.Proofs.YtddffdcjhleejaaGreat.ds
