import Derived.Test.YtokaeiahhmaokaaDoorA20
import Derived.Test.YtokaeiahhmaokaaDoorRows
import Derived.Test.YtokaeiahhmaokaaDoorCards
import Derived.Test.YtokaeiahhmaokaaDoorTie
import Derived.Lib.LaidTab
import Derived.JoinedCond
import Derived.ShutString
import Derived.ChangeOld
import Derived.Below
import Derived.Carry
import Derived.ChangeSlices
import Derived.Deep.Slices
import Derived.Deep.DeepHandedRow
import Derived.RowKit
import Derived.ChangeShapes
import Derived.SizedLaws
import Derived.ChangeMaps5
namespace Go.Proofs.YtokaeiahhmaokaaDoor.ds
open Go.ChangeShapes Go.WideShapes Go.ChangeAt Go.RowKit Go.Deep Go.Sort
set_option linter.unusedVariables false
set_option linter.unusedSimpArgs false
set_option maxRecDepth 100000
theorem own : ownKnob Tryd.prog.godebug = none := by kernel_rfl
theorem laidOut : laidOutB Tryd.prog = true := by kernel_rfl
theorem cells3 : Tryd.prog.cellsOf 3 = 1 := by kernel_rfl
theorem cells4 : Tryd.prog.cellsOf 4 = 1 := by kernel_rfl
theorem cells9 : Tryd.prog.cellsOf 9 = 1 := by kernel_rfl
theorem cells5 : Tryd.prog.cellsOf 5 = 1 := by kernel_rfl
theorem cells36 : Tryd.prog.cellsOf 78 = 1 := by kernel_rfl
theorem cells38 : Tryd.prog.cellsOf 80 = 3 := by kernel_rfl
theorem cells28 : Tryd.prog.cellsOf 28 = 6 := by kernel_rfl
theorem cells24 : Tryd.prog.cellsOf 24 = 2 := by kernel_rfl
theorem cells25 : Tryd.prog.cellsOf 25 = 1 := by kernel_rfl
theorem cells26 : Tryd.prog.cellsOf 26 = 1 := by kernel_rfl
theorem cells34 : Tryd.prog.cellsOf 39 = 1 := by kernel_rfl
theorem cells22 : Tryd.prog.cellsOf 22 = 1 := by kernel_rfl
theorem cells29 : Tryd.prog.cellsOf 29 = 1 := by kernel_rfl
theorem cells31 : Tryd.prog.cellsOf 31 = 10 := by kernel_rfl
theorem weigh {H : Type} (d : DataW H) : 0 < Rows.uptoBulk d := by
  cases d
  case lit l => cases l <;> (unfold Rows.uptoBulk; omega)
  all_goals (unfold Rows.uptoBulk; omega)
theorem many {H : Type} : ∀ l : List (DataW H), l.length ≤ Rows.uptoBulkAll l
  | [] => Nat.zero_le _
  | d :: l => by have h1 := weigh d; have h2 := many l; rw [Rows.uptoBulkAll, List.length_cons]; omega
theorem all_cons {H : Type} (d : DataW H) (l : List (DataW H)) : Rows.uptoBulkAll (d :: l) = Rows.uptoBulk d + Rows.uptoBulkAll l := by rw [Rows.uptoBulkAll]
theorem all_nil {H : Type} : Rows.uptoBulkAll ([] : List (DataW H)) = 0 := by rw [Rows.uptoBulkAll]
theorem all_mem {H : Type} {d : DataW H} : ∀ {l : List (DataW H)}, d ∈ l → Rows.uptoBulk d ≤ Rows.uptoBulkAll l
  | e :: l, h => by
    rw [all_cons]
    rcases List.mem_cons.1 h with rfl | h
    · omega
    · have := all_mem h; omega
theorem slice_many {H : Type} (a b : List (DataW H)) : Rows.uptoBulkAll a ≤ Rows.uptoBulk (.slice a b) := by
  rw [Rows.uptoBulk]; omega
theorem agg_many {H : Type} (a : List (DataW H)) : Rows.uptoBulkAll a ≤ Rows.uptoBulk (.agg a) := by
  rw [Rows.uptoBulk]; omega
/-- a []byte that came in -/
theorem open_bytes {H : Type} {enc : TypeId × Value → H} {W : World} {fuel : Nat} {v : Value} {x : DataW H × List MemPlace} (h : DataW.trod enc Tryd.prog W 0 (fun _ => true) true fuel 25 [v] = some x) (hb : Rows.uptoBulk x.1 ≤ 1048576) :
    ∃ (s : Sl) (bs : List Nat), v = s.v ∧ Rd W s.p (byts bs) ∧ bs.length = s.n ∧ s.n ≤ 1048576 ∧ (∀ b ∈ bs, b < 256) ∧ s.ok := by
  rcases open_ints Tryd.underlying25 Tryd.underlying5 cells5 h with ⟨hcs, _⟩ | ⟨a, l, c, zs, hcs, _, hl, hm, hz, hx, hcell, hwz⟩
  · simp at hcs
    exact ⟨⟨none, 0, 0⟩, [], hcs, Rd.nil _ _, rfl, by decide, by simp, fun _ => ⟨rfl, rfl⟩⟩
  · simp at hcs
    simp only [if_true] at hz
    have hll : l ≤ 1048576 := by
      have h1 := slice_many (lits .u8 (zs.take l) : List (DataW H)) (lits .u8 (zs.drop l))
      have h2 := many (lits .u8 (zs.take l) : List (DataW H))
      have h3 : (lits .u8 (zs.take l) : List (DataW H)).length = l := by simp [lits]; omega
      rw [hx] at hb
      simp only at hb
      omega
    have hpos : ∀ z ∈ zs, 0 ≤ z ∧ z < 256 := fun z hz => by
      have := hwz z hz
      simp [Lit.wf, IntKind.bits, IntKind.signed, IntKind.min, IntKind.max] at this
      omega
    refine ⟨⟨some a, l, c⟩, (zs.take l).map Int.toNat, hcs, fun h0 => ?_, by simp; omega, hll, fun b hb => ?_, fun e => by cases e⟩
    · obtain ⟨g, o, spot⟩ := a
      simp [byts] at h0
      have hc := hcell 0 (by omega)
      have hspot : spot = none := by simpa [Addr.add] using World.cell?_spot hc
      subst hspot
      refine ⟨g, o, rfl, ?_, fun j u hj => ?_⟩
      · rw [Addr.add_lit] at hc
        exact block_lt_of_cell hc
      · simp only [byts, List.getElem?_map, Option.map_eq_some_iff] at hj
        obtain ⟨b, ⟨z, hz1, rfl⟩, rfl⟩ := hj
        have hjl : j < zs.length := by
          by_cases hq : j < l
          · omega
          · rw [List.getElem?_take, if_neg hq] at hz1; cases hz1
        have hc2 := hcell j hjl
        rw [Addr.add_lit] at hc2
        rw [hc2]
        rw [List.getElem?_take] at hz1
        split at hz1
        · rw [List.getD_eq_getElem?_getD, hz1]
          have := (hpos z (List.mem_of_getElem? hz1)).1
          simp
          omega
        · cases hz1
    · rw [List.mem_map] at hb
      obtain ⟨z, hz1, rfl⟩ := hb
      have := hpos z (List.mem_of_mem_take hz1)
      omega
/-- a []api.Span that came in -/
theorem open_spans {H : Type} {enc : TypeId × Value → H} {W : World} {fuel : Nat} {v : Value} {x : DataW H × List MemPlace} (h : DataW.trod enc Tryd.prog W 0 (fun _ => true) true fuel 26 [v] = some x) (hb : Rows.uptoBulk x.1 ≤ 1048576) :
    ∃ (s : Sl) (xs : List S), v = s.v ∧ L W s.p s.n xs ∧ s.n ≤ 1048576 ∧ s.ok := by
  rcases open_slice Tryd.underlying26 h with ⟨hcs, _⟩ | ⟨a, len, cap, m, n, D, Pl, hcs, _, hl, hm, hmeq, hx, hall⟩
  · simp at hcs
    exact ⟨⟨none, 0, 0⟩, [], hcs, L.nil _ _, by decide, fun _ => ⟨rfl, rfl⟩⟩
  · simp only [if_true] at hmeq
    subst hmeq
    simp at hcs
    have hlim : len ≤ 1048576 := by
      have h1 := slice_many ((List.range len).map D) ((List.range (m - len)).map fun j => D (len + j))
      have h2 := many ((List.range len).map D)
      rw [hx] at hb
      simp only [List.length_map, List.length_range] at h2 hb
      omega
    refine ⟨⟨some a, len, m⟩, ?_⟩
    by_cases h0 : 0 < len
    · obtain ⟨P, o, spot⟩ := a
      have hspot : spot = none := by
        obtain ⟨cs', h1, h2⟩ := hall 0 (by omega)
        rw [cells38] at h1
        obtain ⟨_, hlen, hcell⟩ := World.cells?_some h1
        have hc := hcell 0 (by omega)
        rw [List.getElem?_eq_getElem (by omega)] at hc
        have := World.cell?_spot hc
        simpa [Addr.add] using this
      subst hspot
      have each : ∀ i, i < len → ∃ d : S, (W.cell? ⟨P, o + i * 3, none⟩ = some (.int .i64 d.n) ∧ W.cell? ⟨P, o + i * 3 + 1, none⟩ = some (.int .i64 d.b) ∧ W.cell? ⟨P, o + i * 3 + 2, none⟩ = some (.int .u64 (d.t : Int))) ∧ d.t < 2 ^ 64 := by
        intro i hi
        obtain ⟨cs', h1, h2⟩ := hall i (by omega)
        rw [cells38, Addr.add_lit] at h1
        obtain ⟨_, hlen, hcell⟩ := World.cells?_some h1
        obtain ⟨xs, k, hk, hxy, _, hxl, hf⟩ := DataW.trod_struct Tryd.underlying80 h2
        match xs, hxl, cs', hlen with
        | [y0, y1, y2], _, [v0, v1, v2], _ =>
          have g0 := hf 0 _ rfl
          have g1 := hf 1 _ rfl
          have g2 := hf 2 _ rfl
          simp [cells3, cells36] at g0 g1 g2
          obtain ⟨k0, q0, _, _⟩ := DataW.trod_int Tryd.underlying3 g0
          obtain ⟨k1, q1, _, _⟩ := DataW.trod_int Tryd.underlying3 g1
          obtain ⟨k2, q2, _, wf2⟩ := DataW.trod_int Tryd.underlying78 g2
          simp only [List.cons.injEq, and_true] at q0 q1 q2
          subst q0 q1 q2
          have e0 := hcell 0 (by omega)
          have e1 := hcell 1 (by omega)
          have e2 := hcell 2 (by omega)
          simp only [Addr.add_lit] at e0 e1 e2
          have hr : 0 ≤ k2 ∧ k2 < 18446744073709551616 := by
            simp [Lit.wf, IntKind.bits, IntKind.signed, IntKind.min, IntKind.max] at wf2
            omega
          obtain ⟨K, rfl⟩ := Int.eq_ofNat_of_zero_le hr.1
          exact ⟨⟨k0, k1, K⟩, ⟨by simpa using e0, by simpa using e1, by simpa using e2⟩, by show K < 2 ^ 64; omega⟩
      obtain ⟨f, hf⟩ := @choose_lt S ⟨⟨0, 0, 0⟩⟩ _ _ each
      have hg : ∀ i, i < len → g ((List.range len).map f) i = f i := by
        intro i hi
        unfold g
        rw [List.getD_eq_getElem?_getD, List.getElem?_map, List.getElem?_range hi]; rfl
      refine ⟨(List.range len).map f, hcs, ⟨fun _ => ⟨P, o, rfl, block_lt_of_cell (hf 0 h0).1.1, fun i hi => ?_⟩, by simp, by show len ≤ _; omega, fun x hx => ?_⟩, hlim, fun e => by cases e⟩
      · simp at hi
        rw [hg i hi]; exact (hf i hi).1
      · simp at hx
        obtain ⟨i, hi, rfl⟩ := hx
        exact (hf i hi).2
    · obtain rfl : len = 0 := by omega
      exact ⟨[], hcs, L.nil _ _, by show 0 ≤ _; omega, fun e => by cases e⟩
/-- a write that came in -/
theorem open_write {H : Type} {enc : TypeId × Value → H} {W : World} {fuel : Nat} {v0 v1 v2 v3 v4 v5 : Value} {x : DataW H × List MemPlace} (h : DataW.trod enc Tryd.prog W 0 (fun _ => true) true fuel 28 [v0, v1, v2, v3, v4, v5] = some x) (hb : Rows.uptoBulk x.1 ≤ 1048576) :
    ∃ (e : E) (r : Wr), v0 = .int .i64 e.n ∧ v1 = .int .i64 e.c ∧ v2 = .string e.k ∧ v3 = .bool e.d ∧ v4 = e.v.v ∧ v5 = e.x.v ∧ Reads W e r := by
  obtain ⟨xs, k, hk, hxy, _, hxl, hf⟩ := DataW.trod_struct Tryd.underlying28 h
  match xs, hxl with
  | [y0, y1, y2, y3, y4], _ =>
    have g0 := hf 0 _ rfl
    have g1 := hf 1 _ rfl
    have g2 := hf 2 _ rfl
    have g3 := hf 3 _ rfl
    have g4 := hf 4 _ rfl
    simp [cells24, cells9, cells4, cells25, cells26] at g0 g1 g2 g3 g4
    obtain ⟨zs, kz, _, _, _, hzl, hz⟩ := DataW.trod_struct Tryd.underlying24 g0
    match zs, hzl with
    | [z0, z1], _ =>
      have e0 := hz 0 _ rfl
      have e1 := hz 1 _ rfl
      simp [cells3] at e0 e1
      obtain ⟨k0, q0, _, _⟩ := DataW.trod_int Tryd.underlying3 e0
      obtain ⟨k1, q1, _, _⟩ := DataW.trod_int Tryd.underlying3 e1
      obtain ⟨sk, q2, _⟩ := DataW.trod_string Tryd.underlying9 g1
      obtain ⟨bd, q3, _⟩ := DataW.trod_bool Tryd.underlying4 g2
      have hD : x.1 = .agg [y0.1, y1.1, y2.1, y3.1, y4.1] := by rw [hxy]; rfl
      rw [hD] at hb
      have hall := Nat.le_trans (agg_many _) hb
      obtain ⟨sv, bs, rfl, v1', v2', v3', v4', v5'⟩ := open_bytes g3 (Nat.le_trans (all_mem (by simp)) hall)
      obtain ⟨sx, ys, rfl, x1', x2', x3'⟩ := open_spans g4 (Nat.le_trans (all_mem (by simp)) hall)
      simp only [List.cons.injEq, and_true] at q0 q1 q2 q3
      subst q0 q1 q2 q3
      exact ⟨⟨k0, k1, sk, bd, sv, sx⟩, ⟨k0, k1, sk, bd, bs, ys⟩, rfl, rfl, rfl, rfl, rfl, rfl, ⟨rfl, rfl, rfl, rfl, v1', v2', by show sv.n ≤ _; omega, v4', x1', by show sx.n ≤ _; omega, v5', x3'⟩⟩
theorem cells144 : Tryd.prog.cellsOf 144 = 64 := by kernel_rfl
theorem gTab : Tryd.prog.globalNamed "math/bits.deBruijn64tab" = some 0 := by kernel_rfl
theorem gTabType : (Tryd.prog.globals[0]?).map (·.type) = some 144 := by kernel_rfl
def tabInts : List Int := [0, 1, 56, 2, 57, 49, 28, 3, 61, 58, 42, 50, 38, 29, 17, 4, 62, 47, 59, 36, 45, 43, 51, 22, 53, 39, 33, 30, 24, 18, 12, 5, 63, 55, 48, 27, 60, 41, 37, 16, 46, 35, 44, 21, 52, 32, 23, 11, 54, 26, 40, 15, 34, 20, 31, 10, 25, 14, 19, 9, 13, 8, 7, 6]
theorem tabInts_at : ∀ j : Fin 64, tabInts.getD j.val 0 = (Lib.deBruijn64tab.getD j.val 0 : Nat) := by decide +kernel
theorem table {W : World} (h : laidMetH Tryd.prog [("math/bits.deBruijn64tab", Rows.laid_math_bits_deBruijn64tab)] W) : Tab W := by
  have h1 : Lib.TabIs Tryd.prog W "math/bits.deBruijn64tab" .u8 tabInts := Lib.tabIs_of_head (rest := []) gTab gTabType Tryd.underlying144 Tryd.underlying5 cells5 cells144 h
  refine ⟨fun j hj => ?_⟩
  have := h1.cell gTab j hj
  rw [this, tabInts_at ⟨j, hj⟩]
/-- a world for the witness -/
noncomputable def laidWorld (os : Os) : World :=
  { World.holding Tryd.prog os ⟨#[], #[], []⟩ with heap := (World.holding Tryd.prog os ⟨#[], #[], []⟩).heap.modify 0 fun
      | .cells _ t frozen => .cells (tabInts.map fun z => Value.int .u8 z).toArray t frozen
      | o => o }
end Go.Proofs.YtokaeiahhmaokaaDoor.ds
namespace Go.Proofs.YtokaeiahhmaokaaDoor.ds
open Go.ChangeShapes Go.WideShapes Go.ChangeAt Go.RowKit Go.Deep Go.Sort
set_option linter.unusedVariables false
set_option linter.unusedSimpArgs false
set_option maxRecDepth 100000
theorem rd_flatE {W : World} {P : Nat} : ∀ (es : List E) (o : Nat), (∀ i, i < es.length → ∀ j v, (E.cs (gE es i))[j]? = some v → W.cell? ⟨P, o + i * 6 + j, none⟩ = some v) → ∀ j v, (flatE es)[j]? = some v → W.cell? ⟨P, o + j, none⟩ = some v
  | [], o, _ => fun j v hj => by simp [flatE] at hj
  | e :: l, o, h => fun j v hj => by
    have e1 : flatE (e :: l) = E.cs e ++ flatE l := rfl
    have el : (E.cs e).length = 6 := rfl
    rw [e1] at hj
    by_cases hj6 : j < 6
    · rw [List.getElem?_append_left (by omega)] at hj
      have := h 0 (by simp) j v hj
      simpa using this
    · rw [List.getElem?_append_right (by omega), el] at hj
      have := rd_flatE l (o + 6) (fun i hi k u hk => by
        have := h (i + 1) (by simpa using hi) k u hk
        rwa [show o + (i + 1) * 6 + k = o + 6 + i * 6 + k from by omega] at this) (j - 6) v hj
      rwa [show o + 6 + (j - 6) = o + j from by omega] at this
theorem gE_range (len : Nat) (f : Nat → E) (i : Nat) (hi : i < len) : gE ((List.range len).map f) i = f i := by
  unfold gE
  rw [List.getD_eq_getElem?_getD, List.getElem?_map, List.getElem?_range hi]; rfl
theorem gR_range (len : Nat) (f : Nat → Wr) (i : Nat) (hi : i < len) : gR ((List.range len).map f) i = f i := by
  unfold gR
  rw [List.getD_eq_getElem?_getD, List.getElem?_map, List.getElem?_range hi]; rfl
/-- a []api.Write that came in -/
theorem open_list {H : Type} {enc : TypeId × Value → H} {W : World} {fuel : Nat} {v : Value} {x : DataW H × List MemPlace} (h : DataW.trod enc Tryd.prog W 0 (fun _ => true) true fuel 39 [v] = some x) (hb : Rows.uptoBulk x.1 ≤ 1048576) :
    ∃ (s : Sl) (es : List E) (rs : List Wr), v = s.v ∧ In W s es rs := by
  rcases open_slice Tryd.underlying39 h with ⟨hcs, _⟩ | ⟨a, len, cap, m, n, D, Pl, hcs, _, hl, hm, hmeq, hx, hall⟩
  · simp at hcs
    exact ⟨⟨none, 0, 0⟩, [], [], hcs, ⟨LE.nil _ _, by decide, rfl, fun j hj => absurd hj (by simp), fun _ => ⟨rfl, rfl⟩⟩⟩
  · simp only [if_true] at hmeq
    subst hmeq
    simp at hcs
    rw [hx] at hb
    have hball := Nat.le_trans (slice_many ((List.range len).map D) ((List.range (m - len)).map fun j => D (len + j))) hb
    have hlim : len ≤ 1048576 := by
      have h2 := many ((List.range len).map D)
      simp only [List.length_map, List.length_range] at h2
      omega
    by_cases h0 : 0 < len
    · obtain ⟨P, o, spot⟩ := a
      have hspot : spot = none := by
        obtain ⟨cs', h1, h2⟩ := hall 0 (by omega)
        rw [cells28] at h1
        obtain ⟨_, hlen, hcell⟩ := World.cells?_some h1
        have hc := hcell 0 (by omega)
        rw [List.getElem?_eq_getElem (by omega)] at hc
        have := World.cell?_spot hc
        simpa [Addr.add] using this
      subst hspot
      have each : ∀ i, i < len → ∃ d : E × Wr, (∀ j u, (E.cs d.1)[j]? = some u → W.cell? ⟨P, o + i * 6 + j, none⟩ = some u) ∧ Reads W d.1 d.2 := by
        intro i hi
        obtain ⟨cs', h1, h2⟩ := hall i (by omega)
        have hDi : Rows.uptoBulk (D i) ≤ 1048576 := Nat.le_trans (all_mem (List.mem_map.2 ⟨i, List.mem_range.2 hi, rfl⟩)) hball
        rw [cells28, Addr.add_lit] at h1
        obtain ⟨_, hlen, hcell⟩ := World.cells?_some h1
        match cs', hlen with
        | [v0, v1, v2, v3, v4, v5], _ =>
          obtain ⟨e, r, rfl, rfl, rfl, rfl, rfl, rfl, hr⟩ := open_write h2 hDi
          refine ⟨(e, r), fun j u hj => ?_, hr⟩
          have hj6 : j < 6 := by
            by_cases hq : j < 6
            · exact hq
            · rw [List.getElem?_eq_none (by show 6 ≤ j; omega)] at hj; cases hj
          have := hcell j hj6
          rw [Addr.add_lit] at this
          rw [this]
          exact hj
      obtain ⟨f, hf⟩ := @choose_lt (E × Wr) ⟨(E.z, Wr.z)⟩ _ _ each
      refine ⟨⟨some ⟨P, o, none⟩, len, m⟩, (List.range len).map (fun i => (f i).1), (List.range len).map (fun i => (f i).2), hcs, ⟨⟨fun _ => ⟨P, o, rfl, ?_, rd_flatE _ o (fun i hi => ?_)⟩, by simp, by show len ≤ _; omega⟩, hlim, by simp, fun j hj => ?_, fun e => by cases e⟩⟩
      · have := (hf 0 h0).1 0 _ rfl
        exact block_lt_of_cell this
      · simp at hi
        rw [gE_range len _ i hi]
        exact (hf i hi).1
      · have hj' : j < len := hj
        rw [gE_range len _ j hj', gR_range len _ j hj']
        exact (hf j hj').2
    · obtain rfl : len = 0 := by omega
      exact ⟨⟨some a, 0, m⟩, [], [], hcs, ⟨LE.nil _ _, by show 0 ≤ _; omega, rfl, fun j hj => absurd hj (by simp), fun e => by cases e⟩⟩
/-- a [][]api.Write that came in -/
theorem open_sets {H : Type} {enc : TypeId × Value → H} {W : World} {fuel : Nat} {v : Value} {x : DataW H × List MemPlace} (h : DataW.trod enc Tryd.prog W 0 (fun _ => true) true fuel 22 [v] = some x) (hb : Rows.uptoBulk x.1 ≤ 1048576) :
    ∃ p n c F, v = .slice p n c ∧ Sets W p n F ∧ n ≤ 1048576 := by
  rcases open_slice Tryd.underlying22 h with ⟨hcs, _⟩ | ⟨a, len, cap, m, n, D, Pl, hcs, _, hl, hm, hmeq, hx, hall⟩
  · simp at hcs
    exact ⟨none, 0, 0, fun _ => (⟨none, 0, 0⟩, [], []), hcs, fun h => absurd h (by omega), by decide⟩
  · simp only [if_true] at hmeq
    subst hmeq
    simp at hcs
    rw [hx] at hb
    have hball := Nat.le_trans (slice_many ((List.range len).map D) ((List.range (m - len)).map fun j => D (len + j))) hb
    have hlim : len ≤ 1048576 := by
      have h2 := many ((List.range len).map D)
      simp only [List.length_map, List.length_range] at h2
      omega
    by_cases h0 : 0 < len
    · obtain ⟨P, o, spot⟩ := a
      have hspot : spot = none := by
        obtain ⟨cs', h1, h2⟩ := hall 0 (by omega)
        rw [cells34] at h1
        obtain ⟨_, hlen, hcell⟩ := World.cells?_some h1
        have hc := hcell 0 (by omega)
        rw [List.getElem?_eq_getElem (by omega)] at hc
        have := World.cell?_spot hc
        simpa [Addr.add] using this
      subst hspot
      have each : ∀ i, i < len → ∃ d : Sl × List E × List Wr, W.cell? ⟨P, o + i, none⟩ = some d.1.v ∧ In W d.1 d.2.1 d.2.2 := by
        intro i hi
        obtain ⟨cs', h1, h2⟩ := hall i (by omega)
        have hDi : Rows.uptoBulk (D i) ≤ 1048576 := Nat.le_trans (all_mem (List.mem_map.2 ⟨i, List.mem_range.2 hi, rfl⟩)) hball
        rw [cells34, Addr.add_lit, Nat.mul_one] at h1
        obtain ⟨_, hlen, hcell⟩ := World.cells?_some h1
        match cs', hlen with
        | [v0], _ =>
          obtain ⟨s, es, rs, rfl, hin⟩ := open_list h2 hDi
          have := hcell 0 (by omega)
          rw [Addr.add_lit] at this
          exact ⟨(s, es, rs), by simpa using this, hin⟩
      obtain ⟨f, hf⟩ := @choose_lt (Sl × List E × List Wr) ⟨(⟨none, 0, 0⟩, [], [])⟩ _ _ each
      exact ⟨some ⟨P, o, none⟩, len, m, f, hcs, fun _ => ⟨P, o, rfl, block_lt_of_cell (hf 0 h0).1, hf⟩, hlim⟩
    · obtain rfl : len = 0 := by omega
      exact ⟨some a, 0, m, fun _ => (⟨none, 0, 0⟩, [], []), hcs, fun h => absurd h (by omega), by omega⟩
end Go.Proofs.YtokaeiahhmaokaaDoor.ds
