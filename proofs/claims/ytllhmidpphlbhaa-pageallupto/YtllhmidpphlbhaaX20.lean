import Derived.Test.YtllhmidpphlbhaaX16
import Derived.Test.YtllhmidpphlbhaaX19
import Derived.Test.YtllhmidpphlbhaaX17
namespace Go.Proofs.Ytllhmidpphlbhaa.ds
open Go.ChangeShapes Go.WideShapes Go.ChangeAt Go.RowKit Go.Deep Go.Sort
set_option linter.unusedVariables false
set_option linter.unusedSimpArgs false
set_option maxRecDepth 100000
/-- a call's cells -/
def CaL (k z : Int) (y : Nat) (c : Ct) (b : Sl) : List Value := [.int .i64 k, .int .i64 z, .int .u8 (y : Nat), .int .i64 c.kd, .int .i64 c.gn, .int .i64 c.ow, .slice c.s.p c.s.n c.s.c, .slice c.t.p c.t.n c.t.c, .slice b.p b.n b.c]
/-- a call that came in, at its place -/
def CaAt (W : World) (P q : Nat) : Prop := ∃ (k z : Int) (y : Nat) (c : Ct) (b : Sl) (ks : List Ck) (cs : List (Int × List S)) (es : List E) (rs : List Wr) (bs : List Nat), (∀ i u, (CaL k z y c b)[i]? = some u → W.cell? ⟨P, q + i, none⟩ = some u) ∧ RCt W c ks cs es rs ∧ RBs W b bs ∧ b.n ≤ 1048576 ∧ y < 256
/-- a list of calls that came in -/
def RCas (W : World) (s : Sl) : Prop := 0 < s.n → ∃ P o, s.p = some ⟨P, o, none⟩ ∧ P < W.heap.size ∧ ∀ i, i < s.n → CaAt W P (o + i * 9)
theorem c79 : Try.prog.cellsOf 79 = 9 := by kernel_rfl
theorem open_calls {H : Type} {enc : TypeId × Value → H} {W : World} {fuel : Nat} {v : Value} {x : DataW H × List MemPlace} (h : DataW.trod enc Try.prog W 0 (fun _ => true) true fuel 77 [v] = some x) (hb : Rows.uptoBulk x.1 ≤ 1048576) :
    ∃ s : Sl, v = s.v ∧ RCas W s := by
  rcases open_slice Try.underlying77 h with ⟨hcs, _⟩ | ⟨a, len, cap, m, n, D, Pl, hcs, _, hl, hm, hmeq, hx, hall⟩
  · simp at hcs
    exact ⟨⟨none, 0, 0⟩, hcs, fun h => absurd h (by simp)⟩
  · simp only [if_true] at hmeq
    subst hmeq
    simp at hcs
    rw [hx] at hb
    have hball := Nat.le_trans (slice_many ((List.range len).map D) ((List.range (m - len)).map fun j => D (len + j))) hb
    refine ⟨⟨some a, len, m⟩, hcs, fun h0 => ?_⟩
    have h0' : 0 < len := h0
    obtain ⟨P, o, spot⟩ := a
    have hspot : spot = none := by
      obtain ⟨cs', h1, h2⟩ := hall 0 (by omega)
      rw [c79] at h1
      obtain ⟨_, hlen, hcell⟩ := World.cells?_some h1
      have hc := hcell 0 (by omega)
      rw [List.getElem?_eq_getElem (by omega)] at hc
      have := World.cell?_spot hc
      simpa [Addr.add] using this
    subst hspot
    have each : ∀ i, i < len → CaAt W P (o + i * 9) := by
      intro i hi
      obtain ⟨cs', h1, h2⟩ := hall i (by omega)
      have hDi : Rows.uptoBulk (D i) ≤ 1048576 := Nat.le_trans (all_mem (List.mem_map.2 ⟨i, List.mem_range.2 hi, rfl⟩)) hball
      rw [c79, Addr.add_lit] at h1
      obtain ⟨_, hlen, hcell⟩ := World.cells?_some h1
      match cs', hlen with
      | [v0, v1, v2, a0, a1, a2, a3, a4, v8], _ =>
        obtain ⟨ys, k, hk, hxy, _, hxl, hf⟩ := DataW.trod_struct Try.underlying79 h2
        match ys, hxl with
        | [y0, y1, y2, y3, y4], _ =>
          have g0 := hf 0 _ rfl
          have g1 := hf 1 _ rfl
          have g2 := hf 2 _ rfl
          have g3 := hf 3 _ rfl
          have g4 := hf 4 _ rfl
          simp [c3, c5, c25, c28] at g0 g1 g2 g3 g4
          have hD : D i = .agg [y0.1, y1.1, y2.1, y3.1, y4.1] := by
            have := congrArg Prod.fst hxy
            simpa using this
          rw [hD] at hDi
          have hal := Nat.le_trans (agg_many _) hDi
          obtain ⟨k0, q0, _, w0⟩ := DataW.trod_int Try.underlying3 g0
          obtain ⟨k1, q1, _, w1⟩ := DataW.trod_int Try.underlying3 g1
          obtain ⟨k2, q2, _, w2⟩ := DataW.trod_int Try.underlying5 g2
          obtain ⟨c, ks, ds, es, rs, hmc, hmi⟩ := open_content (cs := #[a0, a1, a2, a3, a4]) rfl g3 (Nat.le_trans (all_mem (by simp)) hal)
          obtain ⟨b, bs, hbv, hrd, hbl, hbn, hb8, hbo⟩ := open_bytes g4 (Nat.le_trans (all_mem (by simp)) hal)
          have hy : 0 ≤ k2 ∧ k2 < 256 := by
            have h1 : IntKind.u8.min = 0 := by decide
            have h2 : IntKind.u8.max = 255 := by decide
            simp [Lit.wf] at w2
            omega
          obtain ⟨y, rfl⟩ := Int.eq_ofNat_of_zero_le hy.1
          simp only [List.cons.injEq, and_true] at q0 q1 q2
          have hmc' : a0 = .int .i64 c.kd ∧ a1 = .int .i64 c.gn ∧ a2 = .int .i64 c.ow ∧ a3 = .slice c.s.p c.s.n c.s.c ∧ a4 = .slice c.t.p c.t.n c.t.c := by
            unfold Ct.cs at hmc
            simpa using hmc
          obtain ⟨rfl, rfl, rfl, rfl, rfl⟩ := hmc'
          subst q0 q1 q2 hbv
          refine ⟨k0, k1, y, c, b, ks, ds, es, rs, bs, fun j u hj => ?_, hmi, ⟨hrd, hbl, hb8, hbo⟩, hbn, by omega⟩
          have hj14 : j < 9 := by
            by_cases hq : j < 9
            · exact hq
            · rw [List.getElem?_eq_none (by show 9 ≤ j; omega)] at hj; cases hj
          have := hcell j hj14
          rw [Addr.add_lit] at this
          rw [this]
          exact hj
    refine ⟨P, o, rfl, ?_, each⟩
    obtain ⟨_, _, _, _, _, _, _, _, _, _, hc, _⟩ := each 0 h0'
    exact block_lt_of_cell (hc 0 _ rfl)
end Go.Proofs.Ytllhmidpphlbhaa.ds
namespace Go.Proofs.Ytllhmidpphlbhaa.ds
open Go.ChangeShapes Go.WideShapes Go.ChangeAt Go.RowKit Go.Sort
set_option linter.unusedVariables false
set_option linter.unusedSimpArgs false

theorem row9v {w : World} {g : Nat} {t : TypeId} {a0 a1 a2 a3 a4 a5 a6 a7 a8 : Value} (h : w.heap[g]? = some (.cells #[a0, a1, a2, a3, a4, a5, a6, a7, a8] t (0, 0))) : w.cell? ⟨g, 0, none⟩ = some a0 ∧ w.cell? ⟨g, 1, none⟩ = some a1 ∧ w.cell? ⟨g, 2, none⟩ = some a2 ∧ w.cell? ⟨g, 3, none⟩ = some a3 ∧ w.cell? ⟨g, 4, none⟩ = some a4 ∧ w.cell? ⟨g, 5, none⟩ = some a5 ∧ w.cell? ⟨g, 6, none⟩ = some a6 ∧ w.cell? ⟨g, 7, none⟩ = some a7 ∧ w.cell? ⟨g, 8, none⟩ = some a8 := by
  refine ⟨?_, ?_, ?_, ?_, ?_, ?_, ?_, ?_, ?_⟩ <;> (rw [cell_of_row _ _ _ _ _ _ h]; rfl)
set_option maxHeartbeats 32000000 in
set_option maxRecDepth 100000 in
theorem all_walk (w : World) (u : Sl) (hu : RCas w u) : Calls Try.prog 12 #[.slice u.p u.n u.c] w fun r w' => r = .returned (.bool true) ∧ Apart [] w w' := by
  have HU := hid hu
  clear hu
  by_cases hbig : u.n > 60
  · have hbi : ((u.n : Nat) : Int) > 60 := by omega
    go_enter Try.func12, Try.ntmps12
    go_wp2_with fail
    go_ret
    exact ⟨rfl, Apart.refl _ _⟩
  · have hbi : ¬ ((u.n : Nat) : Int) > 60 := by omega
    go_enter Try.func12, Try.ntmps12
    go_wp2_with fail
    refine (alive_ok w).mono ?_
    rintro _ w1 ⟨rfl, a1⟩
    have HA1 := hid a1
    clear a1
    try dsimp only
    go_wp2_with fail
    go_loopw [4, 5, 6, 7, 8] (fun b _ _ _ _ wt => ∃ (i : Nat), b = .int .i64 (i : Nat) ∧ i ≤ u.n ∧ Apart [] w wt) (fun b _ _ _ _ _ => u.n - (intOf b).toNat)
    case atStart => exact ⟨0, rfl, Nat.zero_le _, HA1.out⟩
    case round =>
      obtain ⟨i, rfl, hile, hI⟩ := hrel
      have HAP := hid hI
      clear hI HA1
      by_cases hlt : i < u.n
      · have hlti : ((i : Nat) : Int) < (u.n : Int) := by omega
        obtain ⟨P, o, hP, hPl, hat⟩ := HU.out (by omega)
        obtain ⟨k, z, y, c, b, ks, cs, es, rs, bs, hcell, hct, hrb, hbn, hy⟩ := hat i hlt
        have hcell' : ∀ j v, (CaL k z y c b)[j]? = some v → wr.cell? ⟨P, o + i * 9 + j, none⟩ = some v := fun j v hj => by rw [HAP.out.cell (p := ⟨P, o + i * 9 + j, none⟩) hPl (by simp)]; exact hcell j v hj
        have d0 : wr.cell? ⟨P, o + i * 9, none⟩ = some (.int .i64 k) := hcell' 0 _ rfl
        have d1 := hcell' 1 (.int .i64 z) rfl
        have d2 := hcell' 2 (.int .u8 (y : Nat)) rfl
        have d3 := hcell' 3 (.int .i64 c.kd) rfl
        have d4 := hcell' 4 (.int .i64 c.gn) rfl
        have d5 := hcell' 5 (.int .i64 c.ow) rfl
        have d6 := hcell' 6 (.slice c.s.p c.s.n c.s.c) rfl
        have d7 := hcell' 7 (.slice c.t.p c.t.n c.t.c) rfl
        have d8 := hcell' 8 (.slice b.p b.n b.c) rfl
        have HCT := hid hct
        have HRB := hid hrb
        clear hcell hcell' hct hrb hat
        obtain ⟨X, HX⟩ : ∃ X, Hid (X = wr.heap.size) := ⟨_, rfl⟩
        obtain ⟨w2, hw2⟩ : ∃ V, V = wr.alloc (.cells #[.int .i64 k, .int .i64 z, .int .u8 (y : Nat), .int .i64 c.kd, .int .i64 c.gn, .int .i64 c.ow, .slice c.s.p c.s.n c.s.c, .slice c.t.p c.t.n c.t.c, .slice b.p b.n b.c] 79) := ⟨_, rfl⟩
        have a2 : Apart [] wr w2 := by rw [hw2]; exact (Apart.refl [] wr).alloc _
        have HX2 : Hid (w2.heap[X]? = some (.cells #[.int .i64 k, .int .i64 z, .int .u8 (y : Nat), .int .i64 c.kd, .int .i64 c.gn, .int .i64 c.ow, .slice c.s.p c.s.n c.s.c, .slice c.t.p c.t.n c.t.c, .slice b.p b.n b.c] 79 (0, 0))) := by unfold Hid; rw [hw2, HX.out]; exact heap_alloc_new wr _
        have HA2 := hid (HAP.out.trans a2)
        clear a2
        obtain ⟨up, un, uc⟩ := u
        dsimp only at hP hlti hile hlt hbi hbig
        subst hP
        go_upto_region 10 with fail
        rw [← hw2, ← HX.out]
        clear hw2 d0 d1 d2 d3 d4 d5 d6 d7 d8
        obtain ⟨d0, d1, d2, d3, d4, d5, d6, d7, d8⟩ := row9v HX2.out
        go_wp2_with fail
        have h1 := HCT.out.kept0 HA2.out
        refine (fits_ok w2 c.kd c.gn c.ow c.s c.t ks cs es rs h1.hc h1.hcl h1.hw h1.hkl).mono ?_
        clear h1
        rintro _ w3 ⟨⟨bb, rfl⟩, a3⟩
        have HA3 := hid (HA2.out.trans a3)
        have HX3 := hid (keep0 a3 HX2.out)
        clear a3 d0 d1 d2 d3 d4 d5 d6 d7 d8 HX2
        obtain ⟨d0, d1, d2, d3, d4, d5, d6, d7, d8⟩ := row9v HX3.out
        try dsimp only
        cases bb with
        | false =>
          go_wp2_with fail
          go_ret
          exact ⟨rfl, HA3.out⟩
        | true =>
          by_cases hb6 : b.n > 65536
          · have hb6i : ((b.n : Nat) : Int) > 65536 := by omega
            go_wp2_with fail
            go_ret
            exact ⟨rfl, HA3.out⟩
          · have hb6i : ¬ ((b.n : Nat) : Int) > 65536 := by omega
            cases k1 : (k == 1) with
            | true =>
              go_wp2_with fail
              have h1 := HCT.out.kept0 HA3.out
              refine (builds_ok w3 c.kd c.gn c.ow c.s c.t ks cs es rs h1.hc h1.hcl h1.hw).mono ?_
              clear h1
              rintro _ w4 ⟨rfl, a4⟩
              have HA4 := hid (HA3.out.trans a4)
              clear a4
              try dsimp only
              go_wp2_with fail
              go_roundw
              case rel => exact ⟨i + 1, by go_num, by omega, HA4.out⟩
              case measure => simp [intOf]; omega
            | false =>
              cases k2 : (k == 2) with
              | true =>
                go_wp2_with fail
                refine (checked_ok w3 b bs (HRB.out.rd.kept0 HA3.out) HRB.out.len HRB.out.b8 HRB.out.ok (by omega)).mono ?_
                rintro _ w4 ⟨rfl, a4⟩
                have HA4 := hid (HA3.out.trans a4)
                clear a4
                try dsimp only
                go_wp2_with fail
                go_roundw
                case rel => exact ⟨i + 1, by go_num, by omega, HA4.out⟩
                case measure => simp [intOf]; omega
              | false =>
                cases k3 : (k == 3) with
                | true =>
                  go_wp2_with fail
                  refine (opened_ok w3 b bs (HRB.out.rd.kept0 HA3.out) HRB.out.len HRB.out.b8 HRB.out.ok (by omega)).mono ?_
                  rintro _ w4 ⟨rfl, a4⟩
                  have HA4 := hid (HA3.out.trans a4)
                  clear a4
                  try dsimp only
                  go_wp2_with fail
                  go_roundw
                  case rel => exact ⟨i + 1, by go_num, by omega, HA4.out⟩
                  case measure => simp [intOf]; omega
                | false =>
                  cases k4 : (k == 4) with
                  | true =>
                    go_wp2_with fail
                    have h1 := HCT.out.kept0 HA3.out
                    refine (wanted_ok w3 c.kd c.gn c.ow c.s c.t ks cs es rs h1.hc h1.hw).mono ?_
                    clear h1
                    intro q w4 hwo
                    obtain ⟨a4, sq, hq, hq0, hq1⟩ := hwo
                    have hl8 : L8 (pad (encPc (cP c.kd c.gn c.ow cs rs))) := cP_8 HCT.out.hw
                    have hpl : cE c.kd c.gn c.ow cs rs = 0 → (pad (encPc (cP c.kd c.gn c.ow cs rs))).length = 2048 := fun he => (cP_len he).2
                    generalize cE c.kd c.gn c.ow cs rs = er at hq hq0 hq1 hpl
                    obtain ⟨l, hbf, hll, h8l⟩ : ∃ l, Bf w3 w4 sq l ∧ l.length ≤ 2048 ∧ L8 l := by
                      by_cases he : er = 0
                      · exact ⟨_, hq1 he, by rw [hpl he]; omega, hl8⟩
                      · rw [hq0 he]
                        exact ⟨[], Bf.nil a4, by simp, fun x hx => by simp at hx⟩
                    subst hq
                    have HBF := hid hbf
                    have H8 := hid h8l
                    have HLL := hid hll
                    have HA4 := hid (HA3.out.trans a4)
                    have HX4 := hid (keep0 a4 HX3.out)
                    clear a4 hq0 hq1 hl8 hpl hbf hll h8l d0 d1 d2 d3 d4 d5 d6 d7 d8 HX3
                    obtain ⟨d0, d1, d2, d3, d4, d5, d6, d7, d8⟩ := row9v HX4.out
                    try dsimp only
                    go_upto_region 22 with fail
                    obtain ⟨ab, Hab⟩ : ∃ x : Bool, Hid (x = decide (0 ≤ z ∧ z < (sq.n : Int))) := ⟨_, rfl⟩
                    go_cut [69] from 60 to 69 (fun s69 wx => .bool ab = s69 ∧ wx = w4)
                    case first =>
                      by_cases hz0 : z ≥ 0
                      · by_cases hz1 : z < (sq.n : Int)
                        · have HD : Hid (ab = true) := by unfold Hid; rw [Hab.out]; exact decide_eq_true (by omega)
                          go_wp2_with fail
                          go_meet
                          exact ⟨by rw [HD.out], rfl⟩
                        · have HD : Hid (ab = false) := by unfold Hid; rw [Hab.out]; exact decide_eq_false (by omega)
                          go_wp2_with fail
                          go_meet
                          exact ⟨by rw [HD.out], rfl⟩
                      · have HD : Hid (ab = false) := by unfold Hid; rw [Hab.out]; exact decide_eq_false (by omega)
                        go_wp2_with fail
                        go_meet
                        exact ⟨by rw [HD.out], rfl⟩
                    obtain ⟨rfl, hwc⟩ := hcut
                    rw [hwc]
                    clear hwc wc
                    cases ab with
                    | true =>
                      have hz := of_decide_eq_true Hab.out.symm
                      obtain ⟨a, rfl⟩ := Int.eq_ofNat_of_zero_le hz.1
                      have hal : a < l.length := by have := HBF.out.len; omega
                      obtain ⟨g, hp, x0, x1, hgw, hbf2⟩ := HBF.out.set a hal y
                      have h82 : L8 (l.set a y) := fun x hx => by
                        rcases List.mem_or_eq_of_mem_set hx with hx | hx
                        · exact H8.out x hx
                        · rw [hx]; exact hy
                      have hzi := hz.2
                      obtain ⟨w5, hw5⟩ : ∃ V, V = w4.setCell ⟨g, a, none⟩ (.int .u8 (y : Int)) := ⟨_, rfl⟩
                      rw [← hw5] at hbf2
                      have HBF2 := hid hbf2
                      have H82 := hid h82
                      clear hz hal hbf2 h82 hgw
                      obtain ⟨sp, sn, sc⟩ := sq
                      dsimp only at hp hzi
                      subst hp
                      go_upto_region 24 with fail
                      rw [← hw5]
                      clear hw5 x0 x1 d0 d1 d2 d3 d4 d5 d6 d7 d8
                      have HA5 := hid (HA3.out.trans HBF2.out.nw.ap)
                      go_wp2_with fail
                      refine (checked_ok w5 ⟨some ⟨g, 0, none⟩, sn, sc⟩ (l.set a y) HBF2.out.nw.rd HBF2.out.len.symm H82.out HBF2.out.nw.ok (by have h1 := HBF2.out.len; have h2 := HLL.out; rw [List.length_set] at h1; dsimp only at h1; show sn ≤ 1100000; omega)).mono ?_
                      rintro _ w6 ⟨rfl, a6⟩
                      have HA6 := hid (HA5.out.trans a6)
                      have HRD6 := hid (HBF2.out.nw.rd.kept0 a6)
                      clear a6
                      try dsimp only
                      go_wp2_with fail
                      refine (opened_ok w6 ⟨some ⟨g, 0, none⟩, sn, sc⟩ (l.set a y) HRD6.out HBF2.out.len.symm H82.out HBF2.out.nw.ok (by have h1 := HBF2.out.len; have h2 := HLL.out; rw [List.length_set] at h1; dsimp only at h1; show sn ≤ 1100000; omega)).mono ?_
                      rintro _ w7 ⟨rfl, a7⟩
                      have HA7 := hid (HA6.out.trans a7)
                      clear a7
                      try dsimp only
                      go_wp2_with fail
                      go_roundw
                      case rel => exact ⟨i + 1, by go_num, by omega, HA7.out⟩
                      case measure => simp [intOf]; omega
                    | false =>
                      go_upto_region 24 with fail
                      clear d0 d1 d2 d3 d4 d5 d6 d7 d8
                      go_wp2_with fail
                      refine (checked_ok w4 sq l HBF.out.nw.rd HBF.out.len.symm H8.out HBF.out.nw.ok (by have h1 := HBF.out.len; have h2 := HLL.out; omega)).mono ?_
                      rintro _ w6 ⟨rfl, a6⟩
                      have HA6 := hid (HA4.out.trans a6)
                      have HRD6 := hid (HBF.out.nw.rd.kept0 a6)
                      clear a6
                      try dsimp only
                      go_wp2_with fail
                      refine (opened_ok w6 sq l HRD6.out HBF.out.len.symm H8.out HBF.out.nw.ok (by have h1 := HBF.out.len; have h2 := HLL.out; omega)).mono ?_
                      rintro _ w7 ⟨rfl, a7⟩
                      have HA7 := hid (HA6.out.trans a7)
                      clear a7
                      try dsimp only
                      go_wp2_with fail
                      go_roundw
                      case rel => exact ⟨i + 1, by go_num, by omega, HA7.out⟩
                      case measure => simp [intOf]; omega
                  | false =>
                    have HA4 := HA3
                    go_wp2_with fail
                    go_roundw
                    case rel => exact ⟨i + 1, by go_num, by omega, HA4.out⟩
                    case measure => simp [intOf]; omega
      · have hlti : ¬ ((i : Nat) : Int) < (u.n : Int) := by omega
        go_wp2_with fail
        go_ret
        exact ⟨rfl, HAP.out⟩
end Go.Proofs.Ytllhmidpphlbhaa.ds
namespace Go.Proofs.Ytllhmidpphlbhaa.ds
open Go.ChangeShapes Go.WideShapes Go.ChangeAt Go.RowKit Go.ChangeMaps Go.Deep
set_option linter.unusedVariables false
set_option linter.unusedSimpArgs false
set_option maxRecDepth 100000 in
theorem allp_lifted (os : Os) (started : os.Started) (H : Type) (enc : TypeId × Value → H) (F : Stop.Interp) :
    ReturnsInHanded {} Try.checked os 12 .any ((Rows.OpenSpec.upto Rows.pageAllSpec).pre6 enc Try.prog Try.f12 Rows.pageAllUptoRow.domain false) (((Rows.OpenSpec.upto Rows.pageAllSpec).at F).post enc Try.prog Try.f12 false true false false) := by
  refine returnsInHanded_of_cond (C := Try.checked) (s := (Rows.OpenSpec.upto Rows.pageAllSpec)) (k := Rows.uptoSmall) rfl own started (by kernel_rfl) Try.func12
    (OpenSpec.witness (enc := enc) (C := Try.checked) (s := (Rows.OpenSpec.upto Rows.pageAllSpec)) (k := Rows.uptoSmall) rfl false ⟨#[], #[.slice none 0 0], []⟩ 8 (by kernel_rfl) (by kernel_rfl) (by kernel_rfl)
      (x := ([.nil], [], [])) (by kernel_rfl) rfl (by kernel_rfl)) ?_
  intro W base args ds gs before hval0 hW _ hk _
  have hval : ∀ (j : Nat) t v, Try.f12.params[j]? = some t → args[j]? = some v → Value.okWide Try.prog W .any base t v := hval0
  have hW' := hW
  obtain ⟨p, q, hA0, hV, rfl, hfz, hnd⟩ := hW
  have hA : DataW.TrodAll enc Try.prog W 0 (fun _ => true) true Try.f12.params.toList args.toList ds p := hA0
  rw [Try.params12] at hA hval
  obtain ⟨v0, vs0, d0, ds0, p0, q0, hargs0, rfl, rfl, h0, r0⟩ := trodAll_cons hA
  obtain ⟨rfl, rfl, rfl⟩ := trodAll_nil r0
  obtain rfl : args = #[v0] := by cases args; simp_all
  obtain ⟨rfl, rfl⟩ := trodVars_none hV
  have k0 := h0
  have lt0 : ∀ x ∈ p0, x.block < W.heap.size := by obtain ⟨m, hm⟩ := k0; exact DataW.trod_lt m _ _ _ hm
  obtain ⟨a0, len0, cap0, rfl⟩ := okWide_slice Try.underlying77 (hval 0 77 v0 rfl rfl)
  obtain ⟨u, hu0, hu⟩ : ∃ s : Sl, Value.slice a0 len0 cap0 = s.v ∧ RCas W s := by
    obtain ⟨fuel, hf⟩ := h0
    refine open_calls hf ?_
    have hb : Rows.uptoBulkAll ([d0] ++ []) ≤ 1048576 := of_decide_eq_true hk
    rw [List.append_nil] at hb
    simp only [all_cons, all_nil] at hb
    show Rows.uptoBulk d0 ≤ 1048576
    omega
  unfold Sl.v at hu0
  simp only [Value.slice.injEq] at hu0
  obtain ⟨rfl, rfl, rfl⟩ := hu0

  clear hA0 hval0
  refine (all_walk W u hu).mono fun e W' ⟨he, ap⟩ => ?_
  subst he
  have bel : Below W.heap.size W W' := ap.below (Nat.le_refl _) (by simp)
  exact ⟨_, rfl, _, _, _, [], _, [], hW', trodAll_mk1 (shut_bool Try.underlying4 _), (trodAll_cons_mk (Below.trod laidOut (by kernel_rfl) (of_decide_eq_true (by kernel_rfl)) k0 bel lt0) trodAll_mk0), rfl, bel.frame _, fun h => by cases h⟩
theorem allp_over : Rows.PageAllUptoSaid :=
  OpenClaim.holds_of_cond 12 Try.f12 rfl rfl rfl rfl rfl rfl rfl ⟨rfl, rfl, rfl, rfl, rfl⟩ rfl rfl rfl rfl rfl (by kernel_rfl) Try.func12 (by kernel_rfl)
    (of_decide_eq_true (by kernel_rfl)) (by unfold Func.isWrapper; first | (rw [if_pos (by decide +kernel)]; kernel_rfl) | (rw [if_neg (by decide +kernel)]; exact ⟨rfl, rfl⟩))
    (fun os started H enc _ F => allp_lifted os started H enc F)
end Go.Proofs.Ytllhmidpphlbhaa.ds
namespace Go.Proofs.Ytllhmidpphlbhaa
theorem pageAll_holds : Rows.PageAllUptoSaid := ds.allp_over
end Go.Proofs.Ytllhmidpphlbhaa
