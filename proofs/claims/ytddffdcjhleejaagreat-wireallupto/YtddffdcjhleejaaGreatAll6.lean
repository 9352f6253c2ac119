import Derived.Test.YtddffdcjhleejaaGreatG40
import Derived.Test.YtddffdcjhleejaaGreatG42
import Derived.Test.YtddffdcjhleejaaGreatG52
import Derived.Test.YtddffdcjhleejaaGreatG53
import Derived.Test.YtddffdcjhleejaaGreatG54
import Derived.Test.YtddffdcjhleejaaGreatG55
namespace Go.Proofs.YtddffdcjhleejaaGreat.ds
open Go.ChangeShapes Go.WideShapes Go.ChangeAt Go.RowKit Go.ChangeMaps Go.Deep
set_option linter.unusedVariables false
set_option linter.unusedSimpArgs false
theorem c29 : Tryz.prog.cellsOf 29 = 11 := by kernel_rfl
/-- an operation that came in, at its place -/
def OpAt (W : World) (P q : Nat) : Prop := ∃ (k z : Int) (m : MI) (b : Sl) (xs : List S) (es : List E) (rs : List Wr) (bs : List Nat), (∀ i u, ([.int .i64 k, .int .i64 z, .int .i64 m.kind, .int .i64 m.frm, .int .i64 m.dst, .int .i64 m.call, .int .i64 m.rng, .int .i64 m.own, .string m.key, .int .i64 m.dn, .int .i64 m.dc, .slice m.set.p m.set.n m.set.c, .slice m.ws.p m.ws.n m.ws.c, .slice b.p b.n b.c] : List Value)[i]? = some u → W.cell? ⟨P, q + i, none⟩ = some u) ∧ RMI W m xs es rs ∧ RBs W b bs ∧ b.n ≤ b.c ∧ b.n ≤ 1048576 ∧ (-9223372036854775808 ≤ z ∧ z ≤ 9223372036854775807)
/-- a list of operations that came in -/
def ROps (W : World) (s : Sl) : Prop := s.n ≤ 1048576 ∧ (0 < s.n → ∃ P o, s.p = some ⟨P, o, none⟩ ∧ P < W.heap.size ∧ ∀ i, i < s.n → OpAt W P (o + i * 14))
theorem c32 : Tryz.prog.cellsOf 32 = 14 := by kernel_rfl
set_option maxRecDepth 100000 in
theorem open_ops {H : Type} {enc : TypeId × Value → H} {W : World} {fuel : Nat} {v : Value} {x : DataW H × List MemPlace} (h : DataW.trod enc Tryz.prog W 0 (fun _ => true) true fuel 22 [v] = some x) (hb : Rows.uptoBulk x.1 ≤ 1048576) :
    ∃ s : Sl, v = s.v ∧ ROps W s := by
  rcases open_slice Tryz.underlying22 h with ⟨hcs, _⟩ | ⟨a, len, cap, m, n, D, Pl, hcs, _, hl, hm, hmeq, hx, hall⟩
  · simp at hcs
    exact ⟨⟨none, 0, 0⟩, hcs, by decide, fun h => absurd h (by simp)⟩
  · simp only [if_true] at hmeq
    subst hmeq
    simp at hcs
    rw [hx] at hb
    have hball := Nat.le_trans (slice_many ((List.range len).map D) ((List.range (m - len)).map fun j => D (len + j))) hb
    have hlim : len ≤ 1048576 := by
      have h2 := many ((List.range len).map D)
      simp only [List.length_map, List.length_range] at h2
      omega
    refine ⟨⟨some a, len, m⟩, hcs, hlim, fun h0 => ?_⟩
    have h0' : 0 < len := h0
    obtain ⟨P, o, spot⟩ := a
    have hspot : spot = none := by
      obtain ⟨cs', h1, h2⟩ := hall 0 (by omega)
      rw [c32] at h1
      obtain ⟨_, hlen, hcell⟩ := World.cells?_some h1
      have hc := hcell 0 (by omega)
      rw [List.getElem?_eq_getElem (by omega)] at hc
      have := World.cell?_spot hc
      simpa [Addr.add] using this
    subst hspot
    have each : ∀ i, i < len → OpAt W P (o + i * 14) := by
      intro i hi
      obtain ⟨cs', h1, h2⟩ := hall i (by omega)
      have hDi : Rows.uptoBulk (D i) ≤ 1048576 := Nat.le_trans (all_mem (List.mem_map.2 ⟨i, List.mem_range.2 hi, rfl⟩)) hball
      rw [c32, Addr.add_lit] at h1
      obtain ⟨_, hlen, hcell⟩ := World.cells?_some h1
      match cs', hlen with
      | [v0, v1, a0, a1, a2, a3, a4, a5, a6, a7, a8, a9, a10, v13], _ =>
        obtain ⟨ys, k, hk, hxy, _, hxl, hf⟩ := DataW.trod_struct Tryz.underlying32 h2
        match ys, hxl with
        | [y0, y1, y2, y3], _ =>
          have g0 := hf 0 _ rfl
          have g1 := hf 1 _ rfl
          have g2 := hf 2 _ rfl
          have g3 := hf 3 _ rfl
          simp [c3, c29, c22] at g0 g1 g2 g3
          have hD : D i = .agg [y0.1, y1.1, y2.1, y3.1] := by
            have := congrArg Prod.fst hxy
            simpa using this
          rw [hD] at hDi
          have hal := Nat.le_trans (agg_many _) hDi
          obtain ⟨k0, q0, _, w0⟩ := DataW.trod_int Tryz.underlying3 g0
          obtain ⟨k1, q1, _, w1⟩ := DataW.trod_int Tryz.underlying3 g1
          obtain ⟨mm, xs, es, rs, hmc, hmi⟩ := open_msg (cs := #[a0, a1, a2, a3, a4, a5, a6, a7, a8, a9, a10]) rfl g2 (Nat.le_trans (all_mem (by simp)) hal)
          obtain ⟨b, bs, hbv, hrd, hbl, hbn, hb8, hbo⟩ := open_bytes g3 (Nat.le_trans (all_mem (by simp)) hal)
          have hz : -9223372036854775808 ≤ k1 ∧ k1 ≤ 9223372036854775807 := by
            simp [Lit.wf, IntKind.bits, IntKind.signed, IntKind.min, IntKind.max] at w1
            omega
          have hbcap : b.n ≤ b.c := by
            rw [hbv] at g3
            unfold Sl.v at g3
            exact open_cap g3
          simp only [List.cons.injEq, and_true] at q0 q1
          have hmc' : a0 = .int .i64 mm.kind ∧ a1 = .int .i64 mm.frm ∧ a2 = .int .i64 mm.dst ∧ a3 = .int .i64 mm.call ∧ a4 = .int .i64 mm.rng ∧ a5 = .int .i64 mm.own ∧ a6 = .string mm.key ∧ a7 = .int .i64 mm.dn ∧ a8 = .int .i64 mm.dc ∧ a9 = .slice mm.set.p mm.set.n mm.set.c ∧ a10 = .slice mm.ws.p mm.ws.n mm.ws.c := by
            unfold MI.cs at hmc
            simpa using hmc
          obtain ⟨rfl, rfl, rfl, rfl, rfl, rfl, rfl, rfl, rfl, rfl, rfl⟩ := hmc'
          subst q0 q1 hbv
          refine ⟨k0, k1, mm, b, xs, es, rs, bs, fun j u hj => ?_, hmi, ⟨hrd, hbl, hb8, hbo⟩, hbcap, hbn, hz⟩
          have hj14 : j < 14 := by
            by_cases hq : j < 14
            · exact hq
            · rw [List.getElem?_eq_none (by show 14 ≤ j; omega)] at hj; cases hj
          have := hcell j hj14
          rw [Addr.add_lit] at this
          rw [this]
          exact hj
    refine ⟨P, o, rfl, ?_, each⟩
    obtain ⟨_, _, _, _, _, _, _, _, hc, _⟩ := each 0 h0'
    exact block_lt_of_cell (hc 0 _ rfl)
end Go.Proofs.YtddffdcjhleejaaGreat.ds
namespace Go.Proofs.YtddffdcjhleejaaGreat.ds
open Go.ChangeShapes Go.WideShapes Go.ChangeAt Go.RowKit Go.Sort
set_option linter.unusedVariables false
set_option linter.unusedSimpArgs false
theorem row14 {w : World} {g t : Nat} {a0 a1 a2 a3 a4 a5 a6 a7 a8 a9 a10 a11 a12 a13 : Value} (h : w.heap[g]? = some (.cells #[a0, a1, a2, a3, a4, a5, a6, a7, a8, a9, a10, a11, a12, a13] t (0, 0))) : w.cell? ⟨g, 0, none⟩ = some a0 ∧ w.cell? ⟨g, 1, none⟩ = some a1 ∧ w.cell? ⟨g, 2, none⟩ = some a2 ∧ w.cell? ⟨g, 3, none⟩ = some a3 ∧ w.cell? ⟨g, 4, none⟩ = some a4 ∧ w.cell? ⟨g, 5, none⟩ = some a5 ∧ w.cell? ⟨g, 6, none⟩ = some a6 ∧ w.cell? ⟨g, 7, none⟩ = some a7 ∧ w.cell? ⟨g, 8, none⟩ = some a8 ∧ w.cell? ⟨g, 9, none⟩ = some a9 ∧ w.cell? ⟨g, 10, none⟩ = some a10 ∧ w.cell? ⟨g, 11, none⟩ = some a11 ∧ w.cell? ⟨g, 12, none⟩ = some a12 ∧ w.cell? ⟨g, 13, none⟩ = some a13 :=
  ⟨crow h 0 _ rfl, crow h 1 _ rfl, crow h 2 _ rfl, crow h 3 _ rfl, crow h 4 _ rfl, crow h 5 _ rfl, crow h 6 _ rfl, crow h 7 _ rfl, crow h 8 _ rfl, crow h 9 _ rfl, crow h 10 _ rfl, crow h 11 _ rfl, crow h 12 _ rfl, crow h 13 _ rfl⟩
theorem OpAt.kept {w w' : World} {P q : Nat} (h : OpAt w P q) (a : Apart [] w w') (hP : P < w.heap.size) : OpAt w' P q := by
  obtain ⟨k, z, m, b, xs, es, rs, bs, h1, h2, h4, h5⟩ := h
  exact ⟨k, z, m, b, xs, es, rs, bs, fun i u hi => (a.cell hP (by simp)).trans (h1 i u hi), h2.kept0 a, h4.kept0 a, h5⟩
set_option maxHeartbeats 16000000 in
set_option maxRecDepth 100000 in
theorem all_walk (w : World) (s : Sl) (h : ROps w s) : Calls Tryz.prog 3 #[.slice s.p s.n s.c] w fun r w' => r = .returned (.bool true) ∧ Apart [] w w' := by
  have HO := hid h
  have hlim := h.1
  have HC0 := hid (alive_ok w)
  clear h
  obtain ⟨sp, sn, sc⟩ := s
  simp only at hlim HO ⊢
  go_enter Tryz.func3, Tryz.ntmps3
  go_wp2_with fail
  refine HC0.out.mono ?_
  rintro _ w1 ⟨rfl, ha1⟩
  have HA1 := hid ha1
  clear ha1 HC0
  try dsimp only
  go_wp2_with fail
  go_loopw [3, 4, 5, 6, 23, 28, 33, 43] (fun a b _ _ _ _ _ _ wt => ∃ i : Nat, a = .bool true ∧ b = .int .i64 (i : Nat) ∧ i ≤ sn ∧ Apart [] w wt) (fun _ b _ _ _ _ _ _ _ => sn - (intOf b).toNat)
  case atStart => exact ⟨0, rfl, rfl, Nat.zero_le _, HA1.out⟩
  case round =>
    obtain ⟨i, rfl, rfl, hi, hap⟩ := hrel
    have HAr := hid hap
    clear hap
    by_cases hlt : i < sn
    · have hlti : ((i : Nat) : Int) < (sn : Int) := by omega
      obtain ⟨P, o, hp, hPl, hop⟩ := HO.out.2 (show 0 < sn by omega)
      have hp' : sp = some ⟨P, o, none⟩ := hp
      subst hp'
      obtain ⟨k, z, m, b, xs, es, rs, bs, hc, hm, hb, hbc, hbn, hz⟩ := (hop i hlt).kept HAr.out hPl
      have HM := hid hm
      have HB := hid hb
      clear hm hb hp hop
      have d0 : wr.cell? ⟨P, o + i * 14, none⟩ = some (.int .i64 k) := by simpa using hc 0 _ rfl
      have d1 : wr.cell? ⟨P, o + i * 14 + 1, none⟩ = some (.int .i64 z) := hc 1 _ rfl
      have d2 : wr.cell? ⟨P, o + i * 14 + 2, none⟩ = some (.int .i64 m.kind) := hc 2 _ rfl
      have d3 : wr.cell? ⟨P, o + i * 14 + 3, none⟩ = some (.int .i64 m.frm) := hc 3 _ rfl
      have d4 : wr.cell? ⟨P, o + i * 14 + 4, none⟩ = some (.int .i64 m.dst) := hc 4 _ rfl
      have d5 : wr.cell? ⟨P, o + i * 14 + 5, none⟩ = some (.int .i64 m.call) := hc 5 _ rfl
      have d6 : wr.cell? ⟨P, o + i * 14 + 6, none⟩ = some (.int .i64 m.rng) := hc 6 _ rfl
      have d7 : wr.cell? ⟨P, o + i * 14 + 7, none⟩ = some (.int .i64 m.own) := hc 7 _ rfl
      have d8 : wr.cell? ⟨P, o + i * 14 + 8, none⟩ = some (.string m.key) := hc 8 _ rfl
      have d9 : wr.cell? ⟨P, o + i * 14 + 9, none⟩ = some (.int .i64 m.dn) := hc 9 _ rfl
      have d10 : wr.cell? ⟨P, o + i * 14 + 10, none⟩ = some (.int .i64 m.dc) := hc 10 _ rfl
      have d11 : wr.cell? ⟨P, o + i * 14 + 11, none⟩ = some (.slice m.set.p m.set.n m.set.c) := hc 11 _ rfl
      have d12 : wr.cell? ⟨P, o + i * 14 + 12, none⟩ = some (.slice m.ws.p m.ws.n m.ws.c) := hc 12 _ rfl
      have d13 : wr.cell? ⟨P, o + i * 14 + 13, none⟩ = some (.slice b.p b.n b.c) := hc 13 _ rfl
      clear hc
      obtain ⟨U, HU⟩ : ∃ U, Hid (U = wr.heap.size) := ⟨_, rfl⟩
      obtain ⟨w2, hw2⟩ : ∃ w2, w2 = wr.alloc (.cells #[.int .i64 k, .int .i64 z, .int .i64 m.kind, .int .i64 m.frm, .int .i64 m.dst, .int .i64 m.call, .int .i64 m.rng, .int .i64 m.own, .string m.key, .int .i64 m.dn, .int .i64 m.dc, .slice m.set.p m.set.n m.set.c, .slice m.ws.p m.ws.n m.ws.c, .slice b.p b.n b.c] 32) := ⟨_, rfl⟩
      have HA2 : Hid (Apart [] wr w2) := by unfold Hid; rw [hw2]; exact (Apart.refl [] wr).alloc _
      have HU2 : Hid (w2.heap[U]? = some (.cells #[.int .i64 k, .int .i64 z, .int .i64 m.kind, .int .i64 m.frm, .int .i64 m.dst, .int .i64 m.call, .int .i64 m.rng, .int .i64 m.own, .string m.key, .int .i64 m.dn, .int .i64 m.dc, .slice m.set.p m.set.n m.set.c, .slice m.ws.p m.ws.n m.ws.c, .slice b.p b.n b.c] 32 (0, 0))) := by unfold Hid; rw [HU.out, hw2]; exact heap_alloc_new wr _
      have HA02 : Hid (Apart [] w w2) := HAr.out.trans HA2.out
      have HM2 := hid (HM.out.kept0 HA2.out)
      have HB2 := hid (HB.out.kept0 HA2.out)
      go_upto_region 6 with fail
      rw [← hw2, ← HU.out]
      clear hw2 d0 d1 d2 d3 d4 d5 d6 d7 d8 d9 d10 d11 d12 d13
      by_cases h1 : k = 1
      · subst h1
        have HC := hid (valids_walk w2 m xs es rs HM2.out)
        obtain ⟨c0, c1, c2, c3, c4, c5, c6, c7, c8, c9, c10, c11, c12, c13⟩ := row14 HU2.out
        go_wp2_with fail
        clear c0 c1 c2 c3 c4 c5 c6 c7 c8 c9 c10 c11 c12 c13
        refine HC.out.mono ?_
        rintro _ w3 ⟨rfl, ha3⟩
        have HA3 : Hid (Apart [] w w3) := HA02.out.trans ha3
        clear ha3
        try dsimp only
        go_wp2_with fail
        go_roundw
        case rel => exact ⟨i + 1, rfl, by go_num, by omega, HA3.out⟩
        case measure => simp [intOf]; omega
      · by_cases h2 : k = 2
        · subst h2
          have HC := hid (decodes_walk w2 b bs HB2.out hbc (by omega))
          obtain ⟨c0, c1, c2, c3, c4, c5, c6, c7, c8, c9, c10, c11, c12, c13⟩ := row14 HU2.out
          go_wp2_with fail
          clear c0 c1 c2 c3 c4 c5 c6 c7 c8 c9 c10 c11 c12 c13
          refine HC.out.mono ?_
          rintro _ w3 ⟨rfl, ha3⟩
          have HA3 : Hid (Apart [] w w3) := HA02.out.trans ha3
          clear ha3
          try dsimp only
          go_wp2_with fail
          go_roundw
          case rel => exact ⟨i + 1, rfl, by go_num, by omega, HA3.out⟩
          case measure => simp [intOf]; omega
        · by_cases h3 : k = 3
          · subst h3
            have HC := hid (sets_walk w2 m.set xs HM2.out.set HM2.out.sl b bs HB2.out hbc (by omega) z hz)
            obtain ⟨c0, c1, c2, c3, c4, c5, c6, c7, c8, c9, c10, c11, c12, c13⟩ := row14 HU2.out
            go_wp2_with fail
            clear c0 c1 c2 c3 c4 c5 c6 c7 c8 c9 c10 c11 c12 c13
            refine HC.out.mono ?_
            rintro _ w3 ⟨rfl, ha3⟩
            have HA3 : Hid (Apart [] w w3) := HA02.out.trans ha3
            clear ha3
            try dsimp only
            go_wp2_with fail
            go_roundw
            case rel => exact ⟨i + 1, rfl, by go_num, by omega, HA3.out⟩
            case measure => simp [intOf]; omega
          · by_cases h4 : k = 4
            · subst h4
              obtain ⟨w4, hw4⟩ : ∃ w4, w4 = w2.alloc (.cells #[.int .i64 0, .int .i64 0, .string ⟨#[]⟩, .bool false, .slice none 0 0, .slice none 0 0] 37) := ⟨_, rfl⟩
              obtain ⟨V, HVn⟩ : ∃ V, Hid (V = w2.heap.size) := ⟨_, rfl⟩
              have HA4 : Hid (Apart [] w2 w4) := by unfold Hid; rw [hw4]; exact (Apart.refl [] w2).alloc _
              have HV4 : Hid (w4.heap[V]? = some (.cells #[.int .i64 0, .int .i64 0, .string ⟨#[]⟩, .bool false, .slice none 0 0, .slice none 0 0] 37 (0, 0))) := by unfold Hid; rw [HVn.out, hw4]; exact heap_alloc_new w2 _
              have HU4 := hid ((HA4.out.block _ (lt_of_heap HU2.out) (by simp)).trans HU2.out)
              obtain ⟨c0, c1, c2, c3, c4, c5, c6, c7, c8, c9, c10, c11, c12, c13⟩ := row14 HU2.out
              go_upto_region 15 with fail
              rw [← hw4, ← HVn.out]
              clear hw4
              clear c0 c1 c2 c3 c4 c5 c6 c7 c8 c9 c10 c11 c12 c13
              obtain ⟨c0, c1, c2, c3, c4, c5, c6, c7, c8, c9, c10, c11, c12, c13⟩ := row14 HU4.out
              by_cases hw : 0 < m.ws.n
              · obtain ⟨PX, ox, hpx, hPXl, n0, n1, n2, n3, n4, n5⟩ := (HM2.out.kept0 HA4.out).ws.cells 0 hw
                obtain ⟨e, He⟩ : ∃ e, Hid (e = gE es 0) := ⟨_, rfl⟩
                have HRD : Hid (Reads w2 e (gR rs 0)) := by unfold Hid; rw [He.out]; exact HM2.out.ws.each 0 hw
                rw [← He.out] at n0 n1 n2 n3 n4 n5
                simp only [Nat.zero_mul, Nat.add_zero] at n0 n1 n2 n3 n4 n5
                have hwi : ((m.ws.n : Nat) : Int) > 0 := by omega
                rw [hpx] at c12
                obtain ⟨w5, Hww5⟩ : ∃ w5, Hid (w5 = ((((((w4.setCell ⟨V, 0, none⟩ (.int .i64 e.n)).setCell ⟨V, 1, none⟩ (.int .i64 e.c)).setCell ⟨V, 2, none⟩ (.string e.k)).setCell ⟨V, 3, none⟩ (.bool e.d)).setCell ⟨V, 4, none⟩ (.slice e.v.p e.v.n e.v.c)).setCell ⟨V, 5, none⟩ (.slice e.x.p e.x.n e.x.c))) := ⟨_, rfl⟩
                have HGw5 : Hid (w5.heap[V]? = some (.cells #[.int .i64 e.n, .int .i64 e.c, .string e.k, .bool e.d, .slice e.v.p e.v.n e.v.c, .slice e.x.p e.x.n e.x.c] 37 (0, 0))) := by
                  unfold Hid
                  rw [Hww5.out]
                  have q0 := heap_setCell_same w4 V 0 _ 37 (.int .i64 e.n) HV4.out
                  have q1 := heap_setCell_same _ V 1 _ 37 (.int .i64 e.c) q0
                  have q2 := heap_setCell_same _ V 2 _ 37 (.string e.k) q1
                  have q3 := heap_setCell_same _ V 3 _ 37 (.bool e.d) q2
                  have q4 := heap_setCell_same _ V 4 _ 37 (.slice e.v.p e.v.n e.v.c) q3
                  have q5 := heap_setCell_same _ V 5 _ 37 (.slice e.x.p e.x.n e.x.c) q4
                  simpa using q5
                have HSw5 : Hid (Apart [V] w4 w5) := by unfold Hid; rw [Hww5.out]; exact ((((((Apart.refl _ _).setCell (.inl (by simp)) _).setCell (.inl (by simp)) _).setCell (.inl (by simp)) _).setCell (.inl (by simp)) _).setCell (.inl (by simp)) _).setCell (.inl (by simp)) _
                obtain ⟨g0, g1, g2, g3, g4, g5⟩ := row6 HV4.out
                have y0 := frozen_of_row _ _ 0 _ _ HV4.out
                have y1 := frozen_of_row _ _ 1 _ _ HV4.out
                have y2 := frozen_of_row _ _ 2 _ _ HV4.out
                have y3 := frozen_of_row _ _ 3 _ _ HV4.out
                have y4 := frozen_of_row _ _ 4 _ _ HV4.out
                have y5 := frozen_of_row _ _ 5 _ _ HV4.out
                have HA25 : Hid (Apart [] w2 w5) := HA4.out.trans' HSw5.out (by intro y hy; simp at hy; rw [hy, HVn.out]; exact .inr (Nat.le_refl _))
                have HA5 : Hid (Apart [] w w5) := HA02.out.trans HA25.out
                have HC := hid (writes_walk w5 e (gR rs 0) (HRD.out.kept0 HA25.out) b bs (HB2.out.kept0 HA25.out) hbc (by omega) z hz)
                go_upto_region 17 with fail
                rw [← Hww5.out]
                clear n0 n1 n2 n3 n4 n5 g0 g1 g2 g3 g4 g5 y0 y1 y2 y3 y4 y5
                clear c0 c1 c2 c3 c4 c5 c6 c7 c8 c9 c10 c11 c12 c13
                obtain ⟨k0, k1, k2, k3, k4, k5⟩ := row6 HGw5.out
                obtain ⟨c0, c1, c2, c3, c4, c5, c6, c7, c8, c9, c10, c11, c12, c13⟩ := row14 ((HA25.out.block _ (lt_of_heap HU2.out) (by simp)).trans HU2.out)
                go_wp2_with fail
                clear c0 c1 c2 c3 c4 c5 c6 c7 c8 c9 c10 c11 c12 c13
                clear k0 k1 k2 k3 k4 k5
                refine HC.out.mono ?_
                rintro _ w3 ⟨rfl, ha3⟩
                have HA3 : Hid (Apart [] w w3) := HA5.out.trans ha3
                clear ha3
                try dsimp only
                go_wp2_with fail
                go_roundw
                case rel => exact ⟨i + 1, rfl, by go_num, by omega, HA3.out⟩
                case measure => simp [intOf]; omega
              · have HC := hid (writes_walk w4 (⟨0, 0, ⟨#[]⟩, false, ⟨none, 0, 0⟩, ⟨none, 0, 0⟩⟩ : E) ⟨0, 0, ⟨#[]⟩, false, [], []⟩ (zreads _) b bs (HB2.out.kept0 HA4.out) hbc (by omega) z hz)
                have hwi : ¬ ((m.ws.n : Nat) : Int) > 0 := by omega
                obtain ⟨k0, k1, k2, k3, k4, k5⟩ := row6 HV4.out
                go_wp2_with fail
                clear c0 c1 c2 c3 c4 c5 c6 c7 c8 c9 c10 c11 c12 c13
                clear k0 k1 k2 k3 k4 k5
                refine HC.out.mono ?_
                rintro _ w3 ⟨rfl, ha3⟩
                have HA3 : Hid (Apart [] w w3) := HA02.out.trans (HA4.out.trans ha3)
                clear ha3
                try dsimp only
                go_wp2_with fail
                go_roundw
                case rel => exact ⟨i + 1, rfl, by go_num, by omega, HA3.out⟩
                case measure => simp [intOf]; omega
            · obtain ⟨c0, c1, c2, c3, c4, c5, c6, c7, c8, c9, c10, c11, c12, c13⟩ := row14 HU2.out
              go_wp2_with fail
              go_roundw
              case rel => exact ⟨i + 1, rfl, by go_num, by omega, HA02.out⟩
              case measure => simp [intOf]; omega
    · have hlti : ¬ ((i : Nat) : Int) < (sn : Int) := by omega
      go_wp2_with fail
      go_ret
      exact ⟨rfl, HAr.out⟩
end Go.Proofs.YtddffdcjhleejaaGreat.ds
