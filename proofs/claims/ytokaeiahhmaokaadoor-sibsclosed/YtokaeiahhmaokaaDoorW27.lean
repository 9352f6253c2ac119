import Derived.Test.YtokaeiahhmaokaaDoorW14
import Derived.Test.YtokaeiahhmaokaaDoorW26
import Derived.Test.YtokaeiahhmaokaaDoorW22
import Derived.Test.YtokaeiahhmaokaaDoorW19
import Derived.Test.YtokaeiahhmaokaaDoorW23
import Derived.Test.YtokaeiahhmaokaaDoorW21
import Derived.Deep.CutRange
namespace Go.Proofs.YtokaeiahhmaokaaDoor.ds
open Go.ChangeShapes Go.WideShapes Go.ChangeAt Go.RowKit Go.Deep Go.Sort
set_option linter.unusedVariables false
set_option linter.unusedSimpArgs false
set_option maxRecDepth 100000
theorem cells89 : Tryd.prog.cellsOf 89 = 5 := by kernel_rfl
/-- events that can be read -/
structure EvL (w : World) (p : Option Addr) (N : Nat) (f : Nat → Ev) : Prop where
  rd : 0 < N → ∃ P o, p = some ⟨P, o, none⟩ ∧ P < w.heap.size ∧ ∀ i, i < N → w.cell? ⟨P, o + i * 5, none⟩ = some (.int .i64 (f i).a) ∧ w.cell? ⟨P, o + i * 5 + 1, none⟩ = some (.int .i64 (f i).n) ∧ w.cell? ⟨P, o + i * 5 + 2, none⟩ = some (.int .i64 (f i).k) ∧ w.cell? ⟨P, o + i * 5 + 3, none⟩ = some (.int .i64 (f i).q) ∧ w.cell? ⟨P, o + i * 5 + 4, none⟩ = some (.int .i64 (f i).f)
  ok : ∀ i, i < N → (f i).ok
/-- a []Event that came in -/
theorem open_events {H : Type} {enc : TypeId × Value → H} {W : World} {fuel : Nat} {v : Value} {x : DataW H × List MemPlace} (h : DataW.trod enc Tryd.prog W 0 (fun _ => true) true fuel 34 [v] = some x) :
    ∃ (s : Sl) (f : Nat → Ev), v = s.v ∧ EvL W s.p s.n f ∧ s.n ≤ Rows.uptoBulk x.1 := by
  rcases open_slice Tryd.underlying34 h with ⟨hcs, _⟩ | ⟨a, len, cap, m, n, D, Pl, hcs, _, hl, hm, hmeq, hx, hall⟩
  · simp at hcs
    exact ⟨⟨none, 0, 0⟩, fun _ => ⟨0, 0, 0, 0, 0⟩, hcs, ⟨fun h0 => absurd h0 (by simp), fun i hi => absurd hi (by simp)⟩, by show 0 ≤ _; omega⟩
  · simp only [if_true] at hmeq
    subst hmeq
    simp at hcs
    have hlim : len ≤ Rows.uptoBulk x.1 := by
      have h1 := slice_many ((List.range len).map D) ((List.range (m - len)).map fun j => D (len + j))
      have h2 := many ((List.range len).map D)
      rw [hx]
      simp only [List.length_map, List.length_range] at h2 ⊢
      omega
    refine ⟨⟨some a, len, m⟩, ?_⟩
    by_cases h0 : 0 < len
    · obtain ⟨P, o, spot⟩ := a
      have hspot : spot = none := by
        obtain ⟨cs', h1, h2⟩ := hall 0 (by omega)
        rw [cells89] at h1
        obtain ⟨_, hlen, hcell⟩ := World.cells?_some h1
        have hc := hcell 0 (by omega)
        rw [List.getElem?_eq_getElem (by omega)] at hc
        have := World.cell?_spot hc
        simpa [Addr.add] using this
      subst hspot
      have each : ∀ i, i < len → ∃ d : Ev, (W.cell? ⟨P, o + i * 5, none⟩ = some (.int .i64 d.a) ∧ W.cell? ⟨P, o + i * 5 + 1, none⟩ = some (.int .i64 d.n) ∧ W.cell? ⟨P, o + i * 5 + 2, none⟩ = some (.int .i64 d.k) ∧ W.cell? ⟨P, o + i * 5 + 3, none⟩ = some (.int .i64 d.q) ∧ W.cell? ⟨P, o + i * 5 + 4, none⟩ = some (.int .i64 d.f)) ∧ d.ok := by
        intro i hi
        obtain ⟨cs', h1, h2⟩ := hall i (by omega)
        rw [cells89, Addr.add_lit] at h1
        obtain ⟨_, hlen, hcell⟩ := World.cells?_some h1
        obtain ⟨xs, k, hk, hxy, _, hxl, hf⟩ := DataW.trod_struct Tryd.underlying89 h2
        match xs, hxl, cs', hlen with
        | [y0, y1, y2, y3, y4], _, [v0, v1, v2, v3, v4], _ =>
          have g0 := hf 0 _ rfl
          have g1 := hf 1 _ rfl
          have g2 := hf 2 _ rfl
          have g3 := hf 3 _ rfl
          have g4 := hf 4 _ rfl
          simp [cells3] at g0 g1 g2 g3 g4
          obtain ⟨k0, q0, _, w0⟩ := DataW.trod_int Tryd.underlying3 g0
          obtain ⟨k1, q1, _, w1⟩ := DataW.trod_int Tryd.underlying3 g1
          obtain ⟨k2, q2, _, w2⟩ := DataW.trod_int Tryd.underlying3 g2
          obtain ⟨k3, q3, _, w3⟩ := DataW.trod_int Tryd.underlying3 g3
          obtain ⟨k4, q4, _, w4⟩ := DataW.trod_int Tryd.underlying3 g4
          simp only [List.cons.injEq, and_true] at q0 q1 q2 q3 q4
          subst q0 q1 q2 q3 q4
          have e0 := hcell 0 (by omega)
          have e1 := hcell 1 (by omega)
          have e2 := hcell 2 (by omega)
          have e3 := hcell 3 (by omega)
          have e4 := hcell 4 (by omega)
          simp only [Addr.add_lit] at e0 e1 e2 e3 e4
          have r : ∀ k : Int, (Lit.int .i64 k).wf = true → i64 k := fun k hk => by
            simp [Lit.wf, IntKind.bits, IntKind.signed, IntKind.min, IntKind.max] at hk
            unfold i64
            omega
          exact ⟨⟨k0, k1, k2, k3, k4⟩, ⟨by simpa using e0, by simpa using e1, by simpa using e2, by simpa using e3, by simpa using e4⟩, ⟨r _ w0, r _ w1, r _ w2, r _ w3, r _ w4⟩⟩
      obtain ⟨f, hf⟩ := @choose_lt Ev ⟨⟨0, 0, 0, 0, 0⟩⟩ _ _ each
      exact ⟨f, hcs, ⟨fun _ => ⟨P, o, rfl, block_lt_of_cell (hf 0 h0).1.1, fun i hi => (hf i hi).1⟩, fun i hi => (hf i hi).2⟩, hlim⟩
    · obtain rfl : len = 0 := by omega
      exact ⟨fun _ => ⟨0, 0, 0, 0, 0⟩, hcs, ⟨fun h0 => absurd h0 (by simp), fun i hi => absurd hi (by simp)⟩, by show 0 ≤ _; omega⟩
/-- numbers that can be read -/
structure IsI (w : World) (p : Option Addr) (N : Nat) (f : Nat → Int) : Prop where
  rd : 0 < N → ∃ P o, p = some ⟨P, o, none⟩ ∧ P < w.heap.size ∧ ∀ i, i < N → w.cell? ⟨P, o + i, none⟩ = some (.int .i64 (f i))
  ok : ∀ i, i < N → i64 (f i)
theorem open_is {H : Type} {enc : TypeId × Value → H} {W : World} {fuel : Nat} {v : Value} {x : DataW H × List MemPlace} (h : DataW.trod enc Tryd.prog W 0 (fun _ => true) true fuel 52 [v] = some x) :
    ∃ (s : Sl) (f : Nat → Int), v = s.v ∧ IsI W s.p s.n f ∧ s.n ≤ Rows.uptoBulk x.1 := by
  rcases open_ints Tryd.underlying52 Tryd.underlying3 cells3 h with ⟨hcs, _⟩ | ⟨a, l, c, zs, hcs, _, hl, hm, hz, hx, hcell, hwz⟩
  · simp at hcs
    exact ⟨⟨none, 0, 0⟩, fun _ => 0, hcs, ⟨fun h0 => absurd h0 (by simp), fun i hi => absurd hi (by simp)⟩, by show 0 ≤ _; omega⟩
  · simp at hcs
    simp only [if_true] at hz
    have hll : l ≤ Rows.uptoBulk x.1 := by
      have h1 := slice_many (lits .i64 (zs.take l) : List (DataW H)) (lits .i64 (zs.drop l))
      have h2 := many (lits .i64 (zs.take l) : List (DataW H))
      have h3 : (lits .i64 (zs.take l) : List (DataW H)).length = l := by simp [lits]; omega
      rw [hx]
      simp only
      omega
    refine ⟨⟨some a, l, c⟩, fun i => zs.getD i 0, hcs, ⟨fun h0 => ?_, fun i hi => ?_⟩, hll⟩
    · obtain ⟨g, o, spot⟩ := a
      simp only at h0
      have hc := hcell 0 (by omega)
      have hspot : spot = none := by simpa [Addr.add] using World.cell?_spot hc
      subst hspot
      refine ⟨g, o, rfl, ?_, fun j hj => ?_⟩
      · rw [Addr.add_lit] at hc
        exact block_lt_of_cell hc
      · simp only at hj
        have hc2 := hcell j (by omega)
        rw [Addr.add_lit] at hc2
        exact hc2
    · simp only at hi
      have hil : i < zs.length := by omega
      have := hwz (zs.getD i 0) (by rw [List.getD_eq_getElem?_getD, List.getElem?_eq_getElem hil]; exact List.getElem_mem _)
      generalize zs.getD i 0 = z at this ⊢
      simp [Lit.wf, IntKind.bits, IntKind.signed, IntKind.min, IntKind.max] at this
      unfold i64
      omega
end Go.Proofs.YtokaeiahhmaokaaDoor.ds
namespace Go.Proofs.YtokaeiahhmaokaaDoor.ds
open Go.ChangeShapes Go.WideShapes Go.ChangeAt Go.RowKit Go.Sort
set_option linter.unusedVariables false
set_option linter.unusedSimpArgs false
set_option maxHeartbeats 2000000
set_option maxRecDepth 100000
theorem insertion_nil (W : World) : Calls Tryd.prog 128 #[.slice none 0 0, .int .i64 0, .int .i64 0, .func (.func 59) #[] #[]] W fun r W' => (∃ v, r = .returned v) ∧ Apart [] W W' := by
  go_enter Tryd.func128, Tryd.ntmps128
  go_wp2_with fail
  go_loopw [8] (fun v wr => v = .int .i64 1 ∧ wr = W) (fun _ _ => 0)
  case atStart => exact ⟨by first | rfl | simp, rfl⟩
  case round =>
    obtain ⟨rfl, rfl⟩ := hrel
    go_wp2_with fail
    go_end0
    exact ⟨⟨_, rfl⟩, Apart.refl _ _⟩
theorem stable_nil (W : World) : Calls Tryd.prog 116 #[.slice none 0 0, .int .i64 0, .func (.func 59) #[] #[]] W fun r W' => (∃ v, r = .returned v) ∧ Apart [] W W' := by
  have hC := insertion_nil
  go_enter Tryd.func116, Tryd.ntmps116
  go_wp2_with fail
  go_loopw [7, 8] (fun u v wr => u = .int .i64 0 ∧ v = .int .i64 20 ∧ wr = W) (fun _ _ _ => 0)
  case atStart => exact ⟨rfl, rfl, rfl⟩
  case round =>
    obtain ⟨rfl, rfl, rfl⟩ := hrel
    go_wp2_with fail
    refine (hC _).mono ?_
    rintro _ w1 ⟨⟨v, rfl⟩, a1⟩
    have HA := hid a1
    clear a1
    dsimp only
    go_wp2_with fail
    go_loopw [6] (fun u wr => u = .int .i64 20 ∧ wr = w1) (fun _ _ => 0)
    case atStart => exact ⟨rfl, rfl⟩
    case round =>
      obtain ⟨rfl, rfl⟩ := hrel
      go_wp2_with fail
      go_end0
      exact ⟨⟨_, rfl⟩, HA.out⟩
theorem sort_nil (W : World) : Calls Tryd.prog 94 #[.slice none 0 0, .func (.func 59) #[] #[]] W fun r W' => (∃ v, r = .returned v) ∧ Apart [] W W' := by
  have hC := stable_nil W
  go_enter Tryd.func94, Tryd.ntmps94
  go_wp2_with fail
  refine hC.mono ?_
  rintro _ w1 ⟨⟨v, rfl⟩, a1⟩
  have HA := hid a1
  clear a1 hC
  dsimp only
  go_wp2_with fail
  go_end0
  exact ⟨⟨_, rfl⟩, HA.out⟩
theorem compact_nil (W : World) : Calls Tryd.prog 95 #[.slice none 0 0, .func (.func 96) #[] #[]] W fun r W' => r = .returned (.slice none 0 0) ∧ Apart [] W W' := by
  go_enter Tryd.func95, Tryd.ntmps95
  go_wp2_with fail
  go_ret
  exact ⟨rfl, Apart.refl _ _⟩
theorem byDots_nil (W : World) : Calls Tryd.prog 56 #[.slice none 0 0] W fun r W' => r = .returned (.slice none 0 0) ∧ Apart [] W W' := by
  have hC := sort_nil W
  have hD := compact_nil
  go_enter Tryd.func56, Tryd.ntmps56
  go_wp2_with fail
  refine hC.mono ?_
  clear hC
  rintro _ w1 ⟨⟨v, rfl⟩, a1⟩
  have HA := hid a1
  clear a1
  dsimp only
  go_wp2_with fail
  refine (hD _).mono ?_
  clear hD
  rintro _ w2 ⟨rfl, a2⟩
  have HA2 := hid (HA.out.trans a2)
  clear a2
  dsimp only
  go_wp2_with fail
  go_ret
  exact ⟨rfl, HA2.out⟩
theorem byDots_any {w W : World} {s : Sl} {ls : List E} (h : OwnE w W s ls) (hN : s.n ≤ 1500000) : Calls Tryd.prog 56 #[s.v] W fun r W' => ∃ s' : Sl, r = .returned s'.v ∧ OwnE w W' s' (eachE ls) := by
  have hl := h.len
  obtain ⟨_, ⟨hv, hz⟩ | ⟨g, cap, cur, hv, _⟩⟩ := h.nw.own
  · have he : ls = [] := List.length_eq_zero_iff.1 (by rw [hl]; exact hz)
    subst he
    rw [hv]
    refine (byDots_nil W).mono ?_
    rintro _ w1 ⟨rfl, a1⟩
    exact ⟨⟨none, 0, 0⟩, rfl, OwnE.nil _ _ (h.nw.ap.trans a1)⟩
  · obtain ⟨sp, sn, sc⟩ := s
    unfold Sl.v at hv ⊢
    simp only [Value.slice.injEq] at hv
    obtain ⟨rfl, _, rfl⟩ := hv
    simp only at hN
    refine (byDots_ok h hN).mono ?_
    rintro _ w1 ⟨n, rfl, ho, _⟩
    exact ⟨⟨some ⟨g, 0, none⟩, n, _⟩, rfl, ho⟩
end Go.Proofs.YtokaeiahhmaokaaDoor.ds
namespace Go.Proofs.YtokaeiahhmaokaaDoor.ds
open Go.ChangeShapes Go.WideShapes Go.ChangeAt Go.RowKit Go.Sort
set_option linter.unusedVariables false
set_option linter.unusedSimpArgs false
/-- a token with a write more, or none -/
structure SnP (w w' : World) (r : Ending) (gap : Int) (T : List S) (x : Wr) : Prop where
  ex : ∃ q n c b, r = .returned (.tuple #[.slice q n c, .bool b]) ∧ Apart [] w w' ∧ ((b = true ∧ TkC gap T x ∧ TS w w' q n c (addl (uni T x.xs) x.n x.c)) ∨ (b = false ∧ ¬ TkC gap T x))
set_option maxHeartbeats 4000000 in
set_option maxRecDepth 100000 in
theorem seen_ok {w : World} (TB : Tab w) {p : Option Addr} {N cap : Nat} {T : List S} (h : L w p N T) (e : E) (x : Wr) (hx : Reads w e x) (gap : Int) : Calls Tryd.prog 64 #[.slice p N cap, e.agg, .int .i64 gap] w fun r w' => SnP w w' r gap T x := by
  obtain ⟨wb, hwb⟩ : ∃ wb, wb = w.alloc (boxE e) := ⟨_, rfl⟩
  have a0 : Apart [] w wb := by rw [hwb]; exact (Apart.refl [] w).alloc _
  have q1 : wb.heap[w.heap.size]? = some (boxE e) := by rw [hwb]; exact heap_alloc_new w _
  unfold boxE at q1 hwb
  obtain ⟨t0, t1, t2, t3, t4, t5⟩ := row6 q1
  have hU := union_c (cap := cap) (cb := e.x.c) gap (TB.kept0 a0) (h.kept0 a0) (hx.x.kept0 a0)
  have HA := hid a0
  have HQ := hid q1
  have HT := hid TB
  have hn := hx.n
  have hc := hx.c
  rw [hn] at t0
  rw [hc] at t1
  have HN := hid hn
  have HC := hid hc
  unfold E.agg
  unfold Sl.v at hwb t4 t5 ⊢
  clear a0 q1 TB h hx hn hc
  go_enter Tryd.func64, Tryd.ntmps64
  go_upto_region 1 with fail
  rw [← hwb]
  clear hwb
  go_wp2_with fail
  refine hU.mono ?_
  clear hU
  rintro _ w1 hh
  obtain ⟨q, n, c, er, rfl, a1, hcase⟩ := hh.ex
  clear hh
  obtain ⟨s0, s1, s2, s3, s4, s5⟩ := row6 ((a1.block _ (lt_of_heap HQ.out) (by simp)).trans HQ.out)
  rw [HN.out] at s0
  rw [HC.out] at s1
  have HA1 := hid (HA.out.trans a1)
  have HCS := hid hcase
  clear a1 hcase t0 t1 t2 t3 t4 t5 s2 s3 s4 s5
  dsimp only
  by_cases he : er = 0
  · obtain ⟨hu, ho, hn8⟩ : UnC gap T x.xs ∧ Own wb w1 q n c (uni T x.xs) ∧ n ≤ 8 := by
      rcases HCS.out with h | h
      · exact h.2
      · exact absurd he h.1
    subst he
    have hAd := add_c (cap := c) gap x.n x.c (HT.out.kept0 HA1.out) (ho.L (by omega) (uni_fit hu))
    have HU := hid hu
    clear HCS hu ho hn8
    go_wp2_with fail
    refine hAd.mono ?_
    clear hAd
    rintro _ w2 hh
    obtain ⟨q2, n2, c2, er2, rfl, a2, hcase⟩ := hh.ex
    clear hh s0 s1
    have HA2 := hid (HA1.out.trans a2)
    have HCS := hid hcase
    clear a2 hcase
    dsimp only
    by_cases he2 : er2 = 0
    · have HF : Hid (SnP w w2 (.returned (.tuple #[.slice q2 n2 c2, .bool true])) gap T x) := by
        rcases HCS.out with h | h
        · exact ⟨q2, n2, c2, true, rfl, HA2.out, .inl ⟨rfl, ⟨HU.out, h.2.1⟩, ⟨Own.from HA1.out h.2.2.1, h.2.2.2, addl_fit h.2.1⟩⟩⟩
        · exact absurd he2 h.1
      subst he2
      go_wp2_with fail
      go_ret2
      exact HF.out
    · have HF : Hid (SnP w w2 (.returned (.tuple #[.slice q2 n2 c2, .bool false])) gap T x) := by
        rcases HCS.out with h | h
        · exact absurd h.1 he2
        · exact ⟨q2, n2, c2, false, rfl, HA2.out, .inr ⟨rfl, fun k => h.2 k.2⟩⟩
      have he3 : (er2 == 0) = false := by simp; exact he2
      go_wp2_with fail
      go_ret2
      exact HF.out
  · have HF : Hid (SnP w w1 (.returned (.tuple #[.slice none 0 0, .bool false])) gap T x) := by
      rcases HCS.out with h | h
      · exact absurd h.1 he
      · exact ⟨none, 0, 0, false, rfl, HA1.out, .inr ⟨rfl, fun k => h.2 k.1⟩⟩
    go_wp2_with fail
    go_ret2
    exact HF.out
/-- the unions of several lists, in memory of the call's own -/
structure KU3 (w wr : World) (u : Value) (acc : List S) : Prop where
  ex : ∃ q n c, u = .slice q n c ∧ TS w wr q n c acc
set_option maxHeartbeats 8000000 in
set_option maxRecDepth 100000 in
theorem unions_own {w : World} {p : Option Addr} {N cap : Nat} {ss : List Sl} {xss : List (List S)} (gap : Int) (T : Tab w) (h : LX w p N ss xss) (hN : N ≤ 1100000) : Calls Tryd.prog 63 #[.int .i64 gap, .slice p N cap] w fun r w' => ∃ u, r = .returned u ∧ KU3 w w' u (unis gap xss) := by
  have HH := hid h
  have HT := hid T
  clear h T
  go_enter Tryd.func63, Tryd.ntmps63
  go_wp2_with fail
  go_loopw [5, 12] (fun u v wr => ∃ i : Nat, v = .int .i64 (i : Nat) ∧ i ≤ N ∧ KU3 w wr u (unis gap (xss.take i))) (fun _ v _ => N - (intOf v).toNat)
  case atStart => exact ⟨0, rfl, Nat.zero_le _, none, 0, 0, rfl, TS.nil _ _ (Apart.refl _ _)⟩
  case round =>
    obtain ⟨i, rfl, hi, hk⟩ := hrel
    obtain ⟨q, n, c, rfl, hts⟩ := hk.ex
    have HTS := hid hts
    have HA := hid hts.own.ap
    clear hk hts
    by_cases hlt : i < N
    · have hX := HH.out.kept0 HA.out
      obtain ⟨P, o, hp, hP, hc⟩ := hX.rd (by rw [List.length_map, hX.len]; omega)
      have c0 := hc i (gS ss i).v (by rw [List.getElem?_map]; unfold gS; rw [List.getD_eq_getElem?_getD, List.getElem?_eq_getElem (by rw [hX.len]; exact hlt)]; rfl)
      have hU := union_c (cap := c) (cb := (gS ss i).c) gap (HT.out.kept0 HA.out) HTS.out.L (hX.l i hlt)
      have HSN := hid (unis_snoc gap xss i (by rw [hX.lx]; exact hlt))
      unfold Sl.v at c0
      generalize gS ss i = s at *
      generalize xss.getD i [] = ys at *
      generalize unis gap (xss.take i) = acc at *
      subst hp
      clear hX hc HH HT
      go_wp2_with fail
      refine hU.mono ?_
      clear hU
      rintro _ w1 hh
      obtain ⟨q1, n1, c1, e1, rfl, a1, hcase⟩ := hh.ex
      clear hh
      have HA1 := hid a1
      have HC := hid hcase
      clear a1 hcase
      dsimp only
      by_cases he : e1 = 0
      · have HK : Hid (KU3 w w1 (.slice q1 n1 c1) (unis gap (xss.take (i + 1)))) := by
          rw [HSN.out]
          rcases HC.out with h | h
          · rw [knowG_of h.2.1]
            exact ⟨q1, n1, c1, rfl, ⟨Own.from HA.out h.2.2.1, h.2.2.2, uni_fit h.2.1⟩⟩
          · exact absurd he h.1
        subst he
        go_wp2_with fail
        go_roundw
        case rel => exact ⟨i + 1, by go_num, by omega, HK.out⟩
        case measure => simp [intOf]; omega
      · have HK : Hid (KU3 w w1 (.slice q n c) (unis gap (xss.take (i + 1)))) := by
          rw [HSN.out]
          rcases HC.out with h | h
          · exact absurd h.1 he
          · rw [knowG_not h.2]; exact ⟨q, n, c, rfl, HTS.out.kept0 HA1.out⟩
        go_wp2_with fail
        go_roundw
        case rel => exact ⟨i + 1, by go_num, by omega, HK.out⟩
        case measure => simp [intOf]; omega
    · obtain rfl : i = N := by omega
      have HK : Hid (KU3 w wr (.slice q n c) (unis gap xss)) := ⟨q, n, c, rfl, by have := HTS.out; rwa [List.take_of_length_le (by rw [HH.out.lx]; omega)] at this⟩
      go_wp2
      go_ret
      exact ⟨_, rfl, HK.out⟩
end Go.Proofs.YtokaeiahhmaokaaDoor.ds
namespace Go.Proofs.YtokaeiahhmaokaaDoor.ds
open Go.ChangeShapes Go.WideShapes Go.ChangeAt Go.RowKit Go.Sort
set_option linter.unusedVariables false
set_option linter.unusedSimpArgs false
structure TkPost (w w' : World) (r : Ending) (T : List S) (O : List Wr) : Prop where
  ex : ∃ q n c s es, r = .returned (.tuple #[.slice q n c, Sl.v s]) ∧ TS w w' q n c T ∧ s.n = O.length ∧ es.length = O.length ∧ Nw w w' 28 6 s (flatE es) ∧ ∀ j, j < O.length → Fresh w w' (gE es j) (gR O j)
set_option maxHeartbeats 8000000 in
set_option maxRecDepth 100000 in
theorem token_ok (w : World) (TB : Tab w) (p : Option Addr) (n cc : Nat) (F : Nat → Sl × List E × List Wr) (h : Sets w p n F) (hn : n ≤ 1048576) (hT : totL F n ≤ 1048576) (R : E → Wr) (hR : Rdg w R (catL F n)) (hcl : (catL F n).length = totL F n) (bp : Option Addr) (m bc : Nat) (ss : List Sl) (xss : List (List S)) (hX : LX w bp m ss xss) (hm : m ≤ 1048576) (gap : Int) :
    Calls Tryd.prog 27 #[.slice p n cc, .slice bp m bc, .int .i64 gap] w fun r w' => TkPost w w' r (tokT gap xss ((catL F n).map R)) (tokO gap xss ((catL F n).map R)) := by
  have hU := unions_own (cap := bc) gap TB hX (by omega)
  have HS := hid h
  have HR := hid hR
  have HT := hid TB
  have HTL := hid hT
  obtain ⟨L2, HL2⟩ : ∃ L2, Hid (L2 = eachE (catL F n)) := ⟨_, rfl⟩
  obtain ⟨T0, HT0⟩ : ∃ T0, Hid (T0 = unis gap xss) := ⟨_, rfl⟩
  rw [← HT0.out] at hU
  have HL2l : Hid (L2.length ≤ 1048576) := by
    unfold Hid
    rw [HL2.out]
    have := each_len _ (catL F n) rfl
    omega
  have HRL : Hid (Rdg w R L2) := hR.sub (fun e he => by rw [HL2.out] at he; exact eachE_sub _ e he)
  have HEW : Hid (eachW ((catL F n).map R) = L2.map R) := by
    unfold Hid
    rw [HL2.out, eachE_map hR]
  have HFT : Hid (tokT gap xss ((catL F n).map R) = tkT gap T0 (L2.map R) L2.length) := by
    unfold Hid tokT
    rw [HEW.out, ← HT0.out, List.length_map]
  have HFO : Hid (tokO gap xss ((catL F n).map R) = tkO gap T0 (L2.map R) L2.length) := by
    unfold Hid tokO
    rw [HEW.out, ← HT0.out, List.length_map]
  rw [HFT.out, HFO.out]
  have HC : Hid (∀ X, Apart [] w X → Calls Tryd.prog 52 #[.slice p n cc] X fun r w' => ∃ s : Sl, r = .returned s.v ∧ s.n = totL F n ∧ OwnE X w' s (catL F n)) := fun X a => concat_ok X p n cc F (HS.out.kept0 a) hn (by have := HTL.out; omega)
  clear h hR hX TB hT hm hcl HFT HFO HEW HS
  go_enter Tryd.func27, Tryd.ntmps27
  go_wp2_with fail
  refine hU.mono ?_
  clear hU
  rintro _ w1 ⟨u, rfl, hk⟩
  obtain ⟨q, nq, cq, rfl, hts⟩ := hk.ex
  have HTS := hid hts
  have HA1 := hid hts.own.ap
  clear hk hts
  dsimp only
  go_wp2_with fail
  refine (HC.out w1 HA1.out).mono ?_
  rintro _ w2 ⟨s, rfl, hsn, ho⟩
  have hB := byDots_any ho (by have := HTL.out; omega)
  have HA2 := hid ho.nw.ap
  rw [← HL2.out] at hB
  clear ho hsn
  dsimp only
  go_wp2_with fail
  refine hB.mono ?_
  clear hB
  rintro _ w3 ⟨s3, rfl, ho3⟩
  have HO3 := hid ho3
  have HA3 := hid ho3.nw.ap
  have HL3 := hid ho3.len
  have hs3 : s3.n ≤ 1048576 := by have := HL2l.out; have := ho3.len; omega
  have HTS3 := hid (HTS.out.kept0 ho3.nw.ap)
  clear ho3 HTS HA2 HC
  obtain ⟨sp, N, sc⟩ := s3
  simp only at hs3
  unfold Sl.v
  dsimp only
  go_wp2_with fail
  go_loopw [8, 9, 21] (fun a o v wr => ∃ (i : Nat) (q : Option Addr) (n c : Nat) (so : Sl), a = .slice q n c ∧ o = so.v ∧ v = .int .i64 (i : Nat) ∧ i ≤ N ∧ TS w wr q n c (tkT gap T0 (L2.map R) i) ∧ OwnE w3 wr so (tkE gap T0 (L2.map R) L2 i)) (fun _ _ v _ => N - (intOf v).toNat)
  case atStart => exact ⟨0, q, nq, cq, ⟨none, 0, 0⟩, rfl, rfl, rfl, Nat.zero_le _, HTS3.out, OwnE.nil _ _ (Apart.refl _ _)⟩
  case round =>
    obtain ⟨i, q, nq, cq, so, rfl, rfl, rfl, hi, hts, hso⟩ := hrel
    have HTS := hid hts
    have HSO := hid hso
    have HAW := hid (HA1.out.trans (HA3.out.trans hso.nw.ap))
    clear hts hso HTS3
    by_cases hlt : i < N
    · have hin : ((i : Nat) : Int) < (N : Int) := by omega
      obtain ⟨P, o, hp, _, hc⟩ := ((HO3.out.kept HSO.out.nw.ap).LE (by show N ≤ 2000000; omega)).at (by show 0 < N; omega)
      obtain ⟨k0, k1, k2, k3, k4, k5⟩ := hc i hlt
      simp only at hp
      subst hp
      have HRx : Hid (Reads wr (gE L2 i) (gR (L2.map R) i)) := (HRL.out.kept0 HAW.out).at i (by have : L2.length = N := HL3.out; omega)
      have HSN : Hid (∀ s' : Sl, s'.n = s'.n) := fun _ => rfl
      have hso2 : so.n ≤ 2000000 := by
        have h1 := HSO.out.len
        have h2 := tkE_len gap T0 (L2.map R) L2 i
        omega
      obtain ⟨x, Hx⟩ : ∃ x, Hid (x = gE L2 i) := ⟨_, rfl⟩
      obtain ⟨rx, Hrx⟩ : ∃ rx, Hid (rx = gR (L2.map R) i) := ⟨_, rfl⟩
      rw [← Hx.out] at k0 k1 k2 k3 k4 k5 HRx
      rw [← Hrx.out] at HRx
      obtain ⟨wb, hwb⟩ : ∃ wb, wb = wr.alloc (boxE x) := ⟨_, rfl⟩
      have HAB : Hid (Apart [] wr wb) := by unfold Hid; rw [hwb]; exact (Apart.refl [] wr).alloc _
      have HQ : Hid (wb.heap[wr.heap.size]? = some (boxE x)) := by unfold Hid; rw [hwb]; exact heap_alloc_new wr _
      have hS := seen_ok (cap := cq) (HT.out.kept0 (HAW.out.trans HAB.out)) (HTS.out.kept0 HAB.out).L x rx (HRx.out.kept0 HAB.out) gap
      obtain ⟨t0, t1, t2, t3, t4, t5⟩ := row6 (show wb.heap[wr.heap.size]? = _ from HQ.out)
      unfold boxE at hwb
      unfold Sl.v at k4 k5 t4 t5 hwb
      unfold E.agg Sl.v at hS
      unfold Sl.v
      obtain ⟨TT, HTT⟩ : ∃ TT, Hid (TT = tkT gap T0 (L2.map R) i) := ⟨_, rfl⟩
      rw [← HTT.out] at hS HTS
      clear hc
      go_upto_region 6 with fail
      rw [← hwb]
      clear hwb k0 k1 k2 k3 k4 k5
      go_wp2_with fail
      refine hS.mono ?_
      clear hS
      rintro _ w5 hh
      obtain ⟨q5, n5, c5, b5, rfl, a5, hcase⟩ := hh.ex
      clear hh
      have HA5 := hid (HAB.out.trans a5)
      have HCS := hid hcase
      obtain ⟨t0, t1, t2, t3, t4, t5⟩ := row6 ((a5.block _ (lt_of_heap HQ.out) (by simp)).trans HQ.out)
      clear a5 hcase
      dsimp only
      cases b5
      case true =>
        have HK : Hid (TS w w5 q5 n5 c5 (tkT gap T0 (L2.map R) (i + 1)) ∧ OwnE w3 w5 so (tkE gap T0 (L2.map R) L2 (i + 1))) := by
          rcases HCS.out with h | h
          · have hc := h.2.1
            rw [HTT.out, Hrx.out] at hc
            rw [tkT_yes hc, tkE_yes hc, ← HTT.out, ← Hrx.out]
            exact ⟨h.2.2.from (HAW.out.trans HAB.out), HSO.out.kept HA5.out⟩
          · exact absurd h.1 (by simp)
        clear t0 t1 t2 t3 t4 t5
        go_wp2_with fail
        go_roundw
        case rel => exact ⟨i + 1, q5, n5, c5, so, rfl, rfl, by go_num, by omega, HK.out.1, HK.out.2⟩
        case measure => simp [intOf]; omega
      case false =>
        have hnc : ¬ TkC gap (tkT gap T0 (L2.map R) i) (gR (L2.map R) i) := by
          rcases HCS.out with h | h
          · exact absurd h.1 (by simp)
          · have hc := h.2
            rw [HTT.out, Hrx.out] at hc
            exact hc
        obtain ⟨s6, w6, hrun, ho6, hn6, ap6⟩ := run_appE (HSO.out.kept HA5.out) hso2 x 39
        have HK : Hid (TS w w6 q nq cq (tkT gap T0 (L2.map R) (i + 1)) ∧ OwnE w3 w6 s6 (tkE gap T0 (L2.map R) L2 (i + 1))) := by
          rw [tkT_no hnc, tkE_no hnc, ← HTT.out, ← Hx.out]
          exact ⟨(HTS.out.kept0 HA5.out).keptW (HSO.out.kept HA5.out).nw ap6 (HA1.out.trans (HA3.out.trans ho6.nw.ap)), ho6⟩
        clear ho6 hn6 ap6 hnc
        unfold Sl.v at hrun t4 t5
        unfold boxE at hrun
        have HRUN : Hid ((Builtin.append_ #[39, 39] 39 #[.slice so.p so.n so.c, .slice (some ⟨w5.heap.size, 0, none⟩) 1 1]).run Tryd.prog (w5.alloc (Obj.cells #[Value.int IntKind.i64 x.n, Value.int IntKind.i64 x.c, Value.string x.k, Value.bool x.d, Value.slice x.v.p x.v.n x.v.c, Value.slice x.x.p x.x.n x.x.c] 28)) = .ok (.slice s6.p s6.n s6.c) w6) := hrun
        clear hrun
        go_wp2_with (at_builtin; refine wpList_app2 rfl (.tmp 34) (.tmp 36) 39 39 rfl _ _ rfl rfl _ _ HRUN.out ?_)
        go_roundw
        case rel => exact ⟨i + 1, q, nq, cq, s6, rfl, rfl, by go_num, by omega, HK.out.1, HK.out.2⟩
        case measure => simp [intOf]; omega
    · obtain rfl : N = i := by omega
      have HLN : Hid (L2.length = N) := HL3.out
      have hLN := HLN.out
      obtain ⟨O, HO⟩ : ∃ O, Hid (O = tkO gap T0 (L2.map R) N) := ⟨_, rfl⟩
      have HM : Hid ((tkE gap T0 (L2.map R) L2 N).map R = O) := by
        unfold Hid
        rw [HO.out, tkE_map gap T0 R L2 N (by omega)]
      have HSB : Hid (∀ e ∈ tkE gap T0 (L2.map R) L2 N, e ∈ L2) := tkE_sub gap T0 _ L2 N (by omega)
      have hso2 : so.n ≤ 2000000 := by
        have h1 := HSO.out.len
        have h2 := tkE_len gap T0 (L2.map R) L2 N
        omega
      have hnn : so.n = O.length := by rw [← HM.out, List.length_map, HSO.out.len]
      have hcp := copies_ok wr so O.length _ O hnn HSO.out.nw.ok (by rw [← hnn]; exact HSO.out.LE hso2) (fun j hj => by
        rw [← HM.out]
        exact ((HRL.out.sub HSB.out).kept0 HAW.out).at j (by rw [HSO.out.len, hnn]; exact hj))
      have HNN := hid hnn
      clear hnn hLN hso2
      unfold Sl.v at hcp ⊢
      go_wp2_with fail
      refine hcp.mono ?_
      clear hcp
      rintro r w6 hpost
      obtain ⟨s6, es6, rfl, q1, q2, q3, q4⟩ := hpost.ex
      have HF : Hid (TkPost w w6 (.returned (.tuple #[.slice q nq cq, Sl.v s6])) (tkT gap T0 (L2.map R) L2.length) (tkO gap T0 (L2.map R) L2.length)) := by
        rw [HLN.out, ← HO.out]
        exact ⟨q, nq, cq, s6, es6, rfl, HTS.out.kept0 q3.ap, q1, q2, q3.from HAW.out, fun j hj => (q4 j hj).from HAW.out⟩
      clear hpost q1 q2 q3 q4
      unfold Sl.v at HF ⊢
      dsimp only
      go_wp2_with fail
      go_ret2
      exact HF.out
end Go.Proofs.YtokaeiahhmaokaaDoor.ds
namespace Go.Proofs.YtokaeiahhmaokaaDoor.ds
open Go.ChangeShapes Go.WideShapes Go.ChangeAt Go.RowKit Go.Sort
set_option linter.unusedVariables false
set_option linter.unusedSimpArgs false
/-- both Tokens, as the writes read -/
theorem token_R (w : World) (T : Tab w) (p : Option Addr) (n cc : Nat) (F : Nat → Sl × List E × List Wr) (h : Sets w p n F) (hI : ∀ i, i < n → In w (F i).1 (F i).2.1 (F i).2.2) (hn : n ≤ 1048576) (hT : totL F n ≤ 1048576) (bp : Option Addr) (m bc : Nat) (ss : List Sl) (xss : List (List S)) (hX : LX w bp m ss xss) (hm : m ≤ 1048576) (gap : Int) :
    Calls Tryd.prog 27 #[.slice p n cc, .slice bp m bc, .int .i64 gap] w fun r w' => TkPost w w' r (tokT gap xss (catR F n)) (tokO gap xss (catR F n)) := by
  obtain ⟨h1, h2, h3⟩ := catL_reads n hI
  have := token_ok w T p n cc F h hn hT (Rof w) h1 h3 bp m bc ss xss hX hm gap
  rw [h2] at this
  exact this
end Go.Proofs.YtokaeiahhmaokaaDoor.ds
