import Derived.Test.YtokaeiahhmaokaaGreatDoorV23
import Derived.Test.YtokaeiahhmaokaaGreatDoorRows
import Derived.Test.YtokaeiahhmaokaaGreatDoorCards
import Derived.Test.YtokaeiahhmaokaaGreatDoorTie
import Derived.Lib.LaidTab
import Derived.JoinedCond
import Derived.ShutString
import Derived.ChangeOld
import Derived.Below
import Derived.Carry
import Derived.ChangeSlices
import Derived.Deep.Slices
import Derived.Deep.DeepHandedRow
import Derived.RowKit
import Derived.ChangeShapes
import Derived.SizedLaws
import Derived.ChangeMaps5
import Derived.Test.YtokaeiahhmaokaaGreatDoorV20
namespace Go.Proofs.YtokaeiahhmaokaaGreatDoor.ds
open Go.ChangeShapes Go.WideShapes Go.ChangeAt Go.RowKit Go.Deep Go.Sort
set_option linter.unusedVariables false
set_option linter.unusedSimpArgs false
set_option maxRecDepth 100000
theorem own : ownKnob Tryz.prog.godebug = none := by kernel_rfl
theorem laidOut : laidOutB Tryz.prog = true := by kernel_rfl
theorem cells3 : Tryz.prog.cellsOf 3 = 1 := by kernel_rfl
theorem cells4 : Tryz.prog.cellsOf 4 = 1 := by kernel_rfl
theorem cells9 : Tryz.prog.cellsOf 9 = 1 := by kernel_rfl
theorem cells5 : Tryz.prog.cellsOf 5 = 1 := by kernel_rfl
theorem cells36 : Tryz.prog.cellsOf 45 = 1 := by kernel_rfl
theorem cells38 : Tryz.prog.cellsOf 47 = 3 := by kernel_rfl
theorem cells28 : Tryz.prog.cellsOf 28 = 6 := by kernel_rfl
theorem cells24 : Tryz.prog.cellsOf 24 = 2 := by kernel_rfl
theorem cells25 : Tryz.prog.cellsOf 25 = 1 := by kernel_rfl
theorem cells26 : Tryz.prog.cellsOf 26 = 1 := by kernel_rfl
theorem cells34 : Tryz.prog.cellsOf 35 = 1 := by kernel_rfl
theorem cells22 : Tryz.prog.cellsOf 22 = 1 := by kernel_rfl
theorem cells29 : Tryz.prog.cellsOf 29 = 1 := by kernel_rfl
theorem cells31 : Tryz.prog.cellsOf 31 = 10 := by kernel_rfl
theorem weigh {H : Type} (d : DataW H) : 0 < Rows.uptoBulk d := by
  cases d
  case lit l => cases l <;> (unfold Rows.uptoBulk; omega)
  all_goals (unfold Rows.uptoBulk; omega)
theorem many {H : Type} : ∀ l : List (DataW H), l.length ≤ Rows.uptoBulkAll l
  | [] => Nat.zero_le _
  | d :: l => by have h1 := weigh d; have h2 := many l; rw [Rows.uptoBulkAll, List.length_cons]; omega
theorem all_cons {H : Type} (d : DataW H) (l : List (DataW H)) : Rows.uptoBulkAll (d :: l) = Rows.uptoBulk d + Rows.uptoBulkAll l := by rw [Rows.uptoBulkAll]
theorem all_nil {H : Type} : Rows.uptoBulkAll ([] : List (DataW H)) = 0 := by rw [Rows.uptoBulkAll]
theorem all_mem {H : Type} {d : DataW H} : ∀ {l : List (DataW H)}, d ∈ l → Rows.uptoBulk d ≤ Rows.uptoBulkAll l
  | e :: l, h => by
    rw [all_cons]
    rcases List.mem_cons.1 h with rfl | h
    · omega
    · have := all_mem h; omega
theorem slice_many {H : Type} (a b : List (DataW H)) : Rows.uptoBulkAll a ≤ Rows.uptoBulk (.slice a b) := by
  rw [Rows.uptoBulk]; omega
theorem agg_many {H : Type} (a : List (DataW H)) : Rows.uptoBulkAll a ≤ Rows.uptoBulk (.agg a) := by
  rw [Rows.uptoBulk]; omega
/-- a []byte that came in -/
theorem open_bytes {H : Type} {enc : TypeId × Value → H} {W : World} {fuel : Nat} {v : Value} {x : DataW H × List MemPlace} (h : DataW.trod enc Tryz.prog W 0 (fun _ => true) true fuel 25 [v] = some x) (hb : Rows.uptoBulk x.1 ≤ 1048576) :
    ∃ (s : Sl) (bs : List Nat), v = s.v ∧ Rd W s.p (byts bs) ∧ bs.length = s.n ∧ s.n ≤ 1048576 ∧ (∀ b ∈ bs, b < 256) ∧ s.ok := by
  rcases open_ints Tryz.underlying25 Tryz.underlying5 cells5 h with ⟨hcs, _⟩ | ⟨a, l, c, zs, hcs, _, hl, hm, hz, hx, hcell, hwz⟩
  · simp at hcs
    exact ⟨⟨none, 0, 0⟩, [], hcs, Rd.nil _ _, rfl, by decide, by simp, fun _ => ⟨rfl, rfl⟩⟩
  · simp at hcs
    simp only [if_true] at hz
    have hll : l ≤ 1048576 := by
      have h1 := slice_many (lits .u8 (zs.take l) : List (DataW H)) (lits .u8 (zs.drop l))
      have h2 := many (lits .u8 (zs.take l) : List (DataW H))
      have h3 : (lits .u8 (zs.take l) : List (DataW H)).length = l := by simp [lits]; omega
      rw [hx] at hb
      simp only at hb
      omega
    have hpos : ∀ z ∈ zs, 0 ≤ z ∧ z < 256 := fun z hz => by
      have := hwz z hz
      simp [Lit.wf, IntKind.bits, IntKind.signed, IntKind.min, IntKind.max] at this
      omega
    refine ⟨⟨some a, l, c⟩, (zs.take l).map Int.toNat, hcs, fun h0 => ?_, by simp; omega, hll, fun b hb => ?_, fun e => by cases e⟩
    · obtain ⟨g, o, spot⟩ := a
      simp [byts] at h0
      have hc := hcell 0 (by omega)
      have hspot : spot = none := by simpa [Addr.add] using World.cell?_spot hc
      subst hspot
      refine ⟨g, o, rfl, ?_, fun j u hj => ?_⟩
      · rw [Addr.add_lit] at hc
        exact block_lt_of_cell hc
      · simp only [byts, List.getElem?_map, Option.map_eq_some_iff] at hj
        obtain ⟨b, ⟨z, hz1, rfl⟩, rfl⟩ := hj
        have hjl : j < zs.length := by
          by_cases hq : j < l
          · omega
          · rw [List.getElem?_take, if_neg hq] at hz1; cases hz1
        have hc2 := hcell j hjl
        rw [Addr.add_lit] at hc2
        rw [hc2]
        rw [List.getElem?_take] at hz1
        split at hz1
        · rw [List.getD_eq_getElem?_getD, hz1]
          have := (hpos z (List.mem_of_getElem? hz1)).1
          simp
          omega
        · cases hz1
    · rw [List.mem_map] at hb
      obtain ⟨z, hz1, rfl⟩ := hb
      have := hpos z (List.mem_of_mem_take hz1)
      omega
/-- a []api.Span that came in -/
theorem open_spans {H : Type} {enc : TypeId × Value → H} {W : World} {fuel : Nat} {v : Value} {x : DataW H × List MemPlace} (h : DataW.trod enc Tryz.prog W 0 (fun _ => true) true fuel 26 [v] = some x) (hb : Rows.uptoBulk x.1 ≤ 1048576) :
    ∃ (s : Sl) (xs : List S), v = s.v ∧ L W s.p s.n xs ∧ s.n ≤ 1048576 ∧ s.ok := by
  rcases open_slice Tryz.underlying26 h with ⟨hcs, _⟩ | ⟨a, len, cap, m, n, D, Pl, hcs, _, hl, hm, hmeq, hx, hall⟩
  · simp at hcs
    exact ⟨⟨none, 0, 0⟩, [], hcs, L.nil _ _, by decide, fun _ => ⟨rfl, rfl⟩⟩
  · simp only [if_true] at hmeq
    subst hmeq
    simp at hcs
    have hlim : len ≤ 1048576 := by
      have h1 := slice_many ((List.range len).map D) ((List.range (m - len)).map fun j => D (len + j))
      have h2 := many ((List.range len).map D)
      rw [hx] at hb
      simp only [List.length_map, List.length_range] at h2 hb
      omega
    refine ⟨⟨some a, len, m⟩, ?_⟩
    by_cases h0 : 0 < len
    · obtain ⟨P, o, spot⟩ := a
      have hspot : spot = none := by
        obtain ⟨cs', h1, h2⟩ := hall 0 (by omega)
        rw [cells38] at h1
        obtain ⟨_, hlen, hcell⟩ := World.cells?_some h1
        have hc := hcell 0 (by omega)
        rw [List.getElem?_eq_getElem (by omega)] at hc
        have := World.cell?_spot hc
        simpa [Addr.add] using this
      subst hspot
      have each : ∀ i, i < len → ∃ d : S, (W.cell? ⟨P, o + i * 3, none⟩ = some (.int .i64 d.n) ∧ W.cell? ⟨P, o + i * 3 + 1, none⟩ = some (.int .i64 d.b) ∧ W.cell? ⟨P, o + i * 3 + 2, none⟩ = some (.int .u64 (d.t : Int))) ∧ d.t < 2 ^ 64 := by
        intro i hi
        obtain ⟨cs', h1, h2⟩ := hall i (by omega)
        rw [cells38, Addr.add_lit] at h1
        obtain ⟨_, hlen, hcell⟩ := World.cells?_some h1
        obtain ⟨xs, k, hk, hxy, _, hxl, hf⟩ := DataW.trod_struct Tryz.underlying47 h2
        match xs, hxl, cs', hlen with
        | [y0, y1, y2], _, [v0, v1, v2], _ =>
          have g0 := hf 0 _ rfl
          have g1 := hf 1 _ rfl
          have g2 := hf 2 _ rfl
          simp [cells3, cells36] at g0 g1 g2
          obtain ⟨k0, q0, _, _⟩ := DataW.trod_int Tryz.underlying3 g0
          obtain ⟨k1, q1, _, _⟩ := DataW.trod_int Tryz.underlying3 g1
          obtain ⟨k2, q2, _, wf2⟩ := DataW.trod_int Tryz.underlying45 g2
          simp only [List.cons.injEq, and_true] at q0 q1 q2
          subst q0 q1 q2
          have e0 := hcell 0 (by omega)
          have e1 := hcell 1 (by omega)
          have e2 := hcell 2 (by omega)
          simp only [Addr.add_lit] at e0 e1 e2
          have hr : 0 ≤ k2 ∧ k2 < 18446744073709551616 := by
            simp [Lit.wf, IntKind.bits, IntKind.signed, IntKind.min, IntKind.max] at wf2
            omega
          obtain ⟨K, rfl⟩ := Int.eq_ofNat_of_zero_le hr.1
          exact ⟨⟨k0, k1, K⟩, ⟨by simpa using e0, by simpa using e1, by simpa using e2⟩, by show K < 2 ^ 64; omega⟩
      obtain ⟨f, hf⟩ := @choose_lt S ⟨⟨0, 0, 0⟩⟩ _ _ each
      have hg : ∀ i, i < len → g ((List.range len).map f) i = f i := by
        intro i hi
        unfold g
        rw [List.getD_eq_getElem?_getD, List.getElem?_map, List.getElem?_range hi]; rfl
      refine ⟨(List.range len).map f, hcs, ⟨fun _ => ⟨P, o, rfl, block_lt_of_cell (hf 0 h0).1.1, fun i hi => ?_⟩, by simp, by show len ≤ _; omega, fun x hx => ?_⟩, hlim, fun e => by cases e⟩
      · simp at hi
        rw [hg i hi]; exact (hf i hi).1
      · simp at hx
        obtain ⟨i, hi, rfl⟩ := hx
        exact (hf i hi).2
    · obtain rfl : len = 0 := by omega
      exact ⟨[], hcs, L.nil _ _, by show 0 ≤ _; omega, fun e => by cases e⟩
/-- a write that came in -/
theorem open_write {H : Type} {enc : TypeId × Value → H} {W : World} {fuel : Nat} {v0 v1 v2 v3 v4 v5 : Value} {x : DataW H × List MemPlace} (h : DataW.trod enc Tryz.prog W 0 (fun _ => true) true fuel 28 [v0, v1, v2, v3, v4, v5] = some x) (hb : Rows.uptoBulk x.1 ≤ 1048576) :
    ∃ (e : E) (r : Wr), v0 = .int .i64 e.n ∧ v1 = .int .i64 e.c ∧ v2 = .string e.k ∧ v3 = .bool e.d ∧ v4 = e.v.v ∧ v5 = e.x.v ∧ Reads W e r := by
  obtain ⟨xs, k, hk, hxy, _, hxl, hf⟩ := DataW.trod_struct Tryz.underlying28 h
  match xs, hxl with
  | [y0, y1, y2, y3, y4], _ =>
    have g0 := hf 0 _ rfl
    have g1 := hf 1 _ rfl
    have g2 := hf 2 _ rfl
    have g3 := hf 3 _ rfl
    have g4 := hf 4 _ rfl
    simp [cells24, cells9, cells4, cells25, cells26] at g0 g1 g2 g3 g4
    obtain ⟨zs, kz, _, _, _, hzl, hz⟩ := DataW.trod_struct Tryz.underlying24 g0
    match zs, hzl with
    | [z0, z1], _ =>
      have e0 := hz 0 _ rfl
      have e1 := hz 1 _ rfl
      simp [cells3] at e0 e1
      obtain ⟨k0, q0, _, _⟩ := DataW.trod_int Tryz.underlying3 e0
      obtain ⟨k1, q1, _, _⟩ := DataW.trod_int Tryz.underlying3 e1
      obtain ⟨sk, q2, _⟩ := DataW.trod_string Tryz.underlying9 g1
      obtain ⟨bd, q3, _⟩ := DataW.trod_bool Tryz.underlying4 g2
      have hD : x.1 = .agg [y0.1, y1.1, y2.1, y3.1, y4.1] := by rw [hxy]; rfl
      rw [hD] at hb
      have hall := Nat.le_trans (agg_many _) hb
      obtain ⟨sv, bs, rfl, v1', v2', v3', v4', v5'⟩ := open_bytes g3 (Nat.le_trans (all_mem (by simp)) hall)
      obtain ⟨sx, ys, rfl, x1', x2', x3'⟩ := open_spans g4 (Nat.le_trans (all_mem (by simp)) hall)
      simp only [List.cons.injEq, and_true] at q0 q1 q2 q3
      subst q0 q1 q2 q3
      exact ⟨⟨k0, k1, sk, bd, sv, sx⟩, ⟨k0, k1, sk, bd, bs, ys⟩, rfl, rfl, rfl, rfl, rfl, rfl, ⟨rfl, rfl, rfl, rfl, v1', v2', by show sv.n ≤ _; omega, v4', x1', by show sx.n ≤ _; omega, v5', x3'⟩⟩
theorem cells144 : Tryz.prog.cellsOf 116 = 64 := by kernel_rfl
theorem gTab : Tryz.prog.globalNamed "math/bits.deBruijn64tab" = some 0 := by kernel_rfl
theorem gTabType : (Tryz.prog.globals[0]?).map (·.type) = some 116 := by kernel_rfl
def tabInts : List Int := [0, 1, 56, 2, 57, 49, 28, 3, 61, 58, 42, 50, 38, 29, 17, 4, 62, 47, 59, 36, 45, 43, 51, 22, 53, 39, 33, 30, 24, 18, 12, 5, 63, 55, 48, 27, 60, 41, 37, 16, 46, 35, 44, 21, 52, 32, 23, 11, 54, 26, 40, 15, 34, 20, 31, 10, 25, 14, 19, 9, 13, 8, 7, 6]
theorem tabInts_at : ∀ j : Fin 64, tabInts.getD j.val 0 = (Lib.deBruijn64tab.getD j.val 0 : Nat) := by decide +kernel
theorem table {W : World} (h : laidMetH Tryz.prog [("math/bits.deBruijn64tab", Rows.laid_math_bits_deBruijn64tab)] W) : Tab W := by
  have h1 : Lib.TabIs Tryz.prog W "math/bits.deBruijn64tab" .u8 tabInts := Lib.tabIs_of_head (rest := []) gTab gTabType Tryz.underlying116 Tryz.underlying5 cells5 cells144 h
  refine ⟨fun j hj => ?_⟩
  have := h1.cell gTab j hj
  rw [this, tabInts_at ⟨j, hj⟩]
/-- a world for the witness -/
noncomputable def laidWorld (os : Os) : World :=
  { World.holding Tryz.prog os ⟨#[], #[], []⟩ with heap := (World.holding Tryz.prog os ⟨#[], #[], []⟩).heap.modify 0 fun
      | .cells _ t frozen => .cells (tabInts.map fun z => Value.int .u8 z).toArray t frozen
      | o => o }
end Go.Proofs.YtokaeiahhmaokaaGreatDoor.ds
namespace Go.Proofs.YtokaeiahhmaokaaGreatDoor.ds
open Go.ChangeShapes Go.WideShapes Go.ChangeAt Go.RowKit Go.Deep Go.Sort
set_option linter.unusedVariables false
set_option linter.unusedSimpArgs false
set_option maxRecDepth 100000
theorem rd_flatE {W : World} {P : Nat} : ∀ (es : List E) (o : Nat), (∀ i, i < es.length → ∀ j v, (E.cs (gE es i))[j]? = some v → W.cell? ⟨P, o + i * 6 + j, none⟩ = some v) → ∀ j v, (flatE es)[j]? = some v → W.cell? ⟨P, o + j, none⟩ = some v
  | [], o, _ => fun j v hj => by simp [flatE] at hj
  | e :: l, o, h => fun j v hj => by
    have e1 : flatE (e :: l) = E.cs e ++ flatE l := rfl
    have el : (E.cs e).length = 6 := rfl
    rw [e1] at hj
    by_cases hj6 : j < 6
    · rw [List.getElem?_append_left (by omega)] at hj
      have := h 0 (by simp) j v hj
      simpa using this
    · rw [List.getElem?_append_right (by omega), el] at hj
      have := rd_flatE l (o + 6) (fun i hi k u hk => by
        have := h (i + 1) (by simpa using hi) k u hk
        rwa [show o + (i + 1) * 6 + k = o + 6 + i * 6 + k from by omega] at this) (j - 6) v hj
      rwa [show o + 6 + (j - 6) = o + j from by omega] at this
theorem gE_range (len : Nat) (f : Nat → E) (i : Nat) (hi : i < len) : gE ((List.range len).map f) i = f i := by
  unfold gE
  rw [List.getD_eq_getElem?_getD, List.getElem?_map, List.getElem?_range hi]; rfl
theorem gR_range (len : Nat) (f : Nat → Wr) (i : Nat) (hi : i < len) : gR ((List.range len).map f) i = f i := by
  unfold gR
  rw [List.getD_eq_getElem?_getD, List.getElem?_map, List.getElem?_range hi]; rfl
/-- a []api.Write that came in -/
theorem open_list {H : Type} {enc : TypeId × Value → H} {W : World} {fuel : Nat} {v : Value} {x : DataW H × List MemPlace} (h : DataW.trod enc Tryz.prog W 0 (fun _ => true) true fuel 35 [v] = some x) (hb : Rows.uptoBulk x.1 ≤ 1048576) :
    ∃ (s : Sl) (es : List E) (rs : List Wr), v = s.v ∧ In W s es rs := by
  rcases open_slice Tryz.underlying35 h with ⟨hcs, _⟩ | ⟨a, len, cap, m, n, D, Pl, hcs, _, hl, hm, hmeq, hx, hall⟩
  · simp at hcs
    exact ⟨⟨none, 0, 0⟩, [], [], hcs, ⟨LE.nil _ _, by decide, rfl, fun j hj => absurd hj (by simp), fun _ => ⟨rfl, rfl⟩⟩⟩
  · simp only [if_true] at hmeq
    subst hmeq
    simp at hcs
    rw [hx] at hb
    have hball := Nat.le_trans (slice_many ((List.range len).map D) ((List.range (m - len)).map fun j => D (len + j))) hb
    have hlim : len ≤ 1048576 := by
      have h2 := many ((List.range len).map D)
      simp only [List.length_map, List.length_range] at h2
      omega
    by_cases h0 : 0 < len
    · obtain ⟨P, o, spot⟩ := a
      have hspot : spot = none := by
        obtain ⟨cs', h1, h2⟩ := hall 0 (by omega)
        rw [cells28] at h1
        obtain ⟨_, hlen, hcell⟩ := World.cells?_some h1
        have hc := hcell 0 (by omega)
        rw [List.getElem?_eq_getElem (by omega)] at hc
        have := World.cell?_spot hc
        simpa [Addr.add] using this
      subst hspot
      have each : ∀ i, i < len → ∃ d : E × Wr, (∀ j u, (E.cs d.1)[j]? = some u → W.cell? ⟨P, o + i * 6 + j, none⟩ = some u) ∧ Reads W d.1 d.2 := by
        intro i hi
        obtain ⟨cs', h1, h2⟩ := hall i (by omega)
        have hDi : Rows.uptoBulk (D i) ≤ 1048576 := Nat.le_trans (all_mem (List.mem_map.2 ⟨i, List.mem_range.2 hi, rfl⟩)) hball
        rw [cells28, Addr.add_lit] at h1
        obtain ⟨_, hlen, hcell⟩ := World.cells?_some h1
        match cs', hlen with
        | [v0, v1, v2, v3, v4, v5], _ =>
          obtain ⟨e, r, rfl, rfl, rfl, rfl, rfl, rfl, hr⟩ := open_write h2 hDi
          refine ⟨(e, r), fun j u hj => ?_, hr⟩
          have hj6 : j < 6 := by
            by_cases hq : j < 6
            · exact hq
            · rw [List.getElem?_eq_none (by show 6 ≤ j; omega)] at hj; cases hj
          have := hcell j hj6
          rw [Addr.add_lit] at this
          rw [this]
          exact hj
      obtain ⟨f, hf⟩ := @choose_lt (E × Wr) ⟨(E.z, Wr.z)⟩ _ _ each
      refine ⟨⟨some ⟨P, o, none⟩, len, m⟩, (List.range len).map (fun i => (f i).1), (List.range len).map (fun i => (f i).2), hcs, ⟨⟨fun _ => ⟨P, o, rfl, ?_, rd_flatE _ o (fun i hi => ?_)⟩, by simp, by show len ≤ _; omega⟩, hlim, by simp, fun j hj => ?_, fun e => by cases e⟩⟩
      · have := (hf 0 h0).1 0 _ rfl
        exact block_lt_of_cell this
      · simp at hi
        rw [gE_range len _ i hi]
        exact (hf i hi).1
      · have hj' : j < len := hj
        rw [gE_range len _ j hj', gR_range len _ j hj']
        exact (hf j hj').2
    · obtain rfl : len = 0 := by omega
      exact ⟨⟨some a, 0, m⟩, [], [], hcs, ⟨LE.nil _ _, by show 0 ≤ _; omega, rfl, fun j hj => absurd hj (by simp), fun e => by cases e⟩⟩
end Go.Proofs.YtokaeiahhmaokaaGreatDoor.ds
namespace Go.Proofs.YtokaeiahhmaokaaGreatDoor.ds
set_option linter.unusedVariables false
set_option linter.unusedSimpArgs false
/-- ahead by its dot -/
def dl (a b : E) : Prop := a.n < b.n ∨ (a.n = b.n ∧ a.c < b.c)
theorem cf_neg (a b : E) : cfE a b < 0 ↔ dl a b := by
  unfold cfE cmpI dl
  by_cases h1 : a.n < b.n
  · simp [h1]
  · by_cases h2 : b.n < a.n
    · have h3 : ¬ a.n = b.n := by omega
      simp [h1, h2, h3]
    · have h3 : a.n = b.n := by omega
      by_cases h4 : a.c < b.c
      · simp [h3, h4]
      · by_cases h5 : b.c < a.c
        · simp [h3, h4, h5]
        · simp [h3, h4, h5]
/-- writes with the numbers of their places at the beginning -/
abbrev TF := Nat → E × Nat
/-- the order of a stable sort -/
def lt2 (x y : E × Nat) : Prop := dl x.1 y.1 ∨ (x.1.n = y.1.n ∧ x.1.c = y.1.c ∧ x.2 < y.2)
theorem lt2_trans {x y z : E × Nat} (h : lt2 x y) (k : lt2 y z) : lt2 x z := by unfold lt2 dl at *; omega
theorem lt2_of {x y : E × Nat} (h : ¬ dl y.1 x.1) (t : x.2 < y.2) : lt2 x y := by unfold lt2 dl at *; omega
def Srt (a b : Nat) (D : TF) : Prop := ∀ i j, a ≤ i → i < j → j < b → lt2 (D i) (D j)
def Tg (a m b : Nat) (D : TF) : Prop := ∀ i j, a ≤ i → i < m → m ≤ j → j < b → (D i).2 < (D j).2
/-- a change of places between a and b -/
def Pm (a b : Nat) (D D' : TF) : Prop := ∃ σ τ : Nat → Nat, (∀ k, σ (τ k) = k) ∧ (∀ k, τ (σ k) = k) ∧ (∀ k, ¬ (a ≤ k ∧ k < b) → σ k = k) ∧ ∀ k, D' k = D (σ k)
theorem Pm.refl (a b : Nat) (D : TF) : Pm a b D D := ⟨id, id, fun _ => rfl, fun _ => rfl, fun _ _ => rfl, fun _ => rfl⟩
theorem Pm.trans {a b : Nat} {D D' D'' : TF} (h : Pm a b D D') (k : Pm a b D' D'') : Pm a b D D'' := by
  obtain ⟨σ, τ, h1, h2, h3, h4⟩ := h
  obtain ⟨σ', τ', k1, k2, k3, k4⟩ := k
  exact ⟨fun i => σ (σ' i), fun i => τ' (τ i), fun i => by dsimp only; rw [k1, h1], fun i => by dsimp only; rw [h2, k2], fun i hi => by dsimp only; rw [k3 i hi, h3 i hi], fun i => by dsimp only; rw [k4, h4]⟩
theorem Pm.mono {a b a' b' : Nat} {D D' : TF} (h : Pm a b D D') (ha : a' ≤ a) (hb : b ≤ b') : Pm a' b' D D' := by
  obtain ⟨σ, τ, h1, h2, h3, h4⟩ := h
  exact ⟨σ, τ, h1, h2, fun k hk => h3 k (fun hh => hk ⟨by omega, by omega⟩), h4⟩
theorem Pm.out {a b : Nat} {D D' : TF} (h : Pm a b D D') (k : Nat) (hk : k < a ∨ b ≤ k) : D' k = D k := by
  obtain ⟨σ, τ, h1, h2, h3, h4⟩ := h
  rw [h4, h3 k (by omega)]
theorem Pm.inn {a b : Nat} {D D' : TF} (h : Pm a b D D') (k : Nat) (h1 : a ≤ k) (h2 : k < b) : ∃ j, a ≤ j ∧ j < b ∧ D' k = D j := by
  obtain ⟨σ, τ, s1, s2, s3, s4⟩ := h
  refine ⟨σ k, ?_⟩
  by_cases hc : a ≤ σ k ∧ σ k < b
  · exact ⟨hc.1, hc.2, s4 k⟩
  · have e := s3 (σ k) hc
    have e2 : τ (σ (σ k)) = τ (σ k) := by rw [e]
    rw [s2, s2] at e2
    rw [e2] at hc
    exact absurd ⟨h1, h2⟩ hc
/-- two change places -/
def swp (D : TF) (i j : Nat) : TF := fun k => if k = i then D j else if k = j then D i else D k
theorem swp_pm (D : TF) (a b i j : Nat) (hi : a ≤ i ∧ i < b) (hj : a ≤ j ∧ j < b) : Pm a b D (swp D i j) := by
  refine ⟨fun k => if k = i then j else if k = j then i else k, fun k => if k = i then j else if k = j then i else k, fun k => ?_, fun k => ?_, fun k hk => ?_, fun k => ?_⟩
  · dsimp only
    by_cases h1 : k = i
    · subst h1; simp
    · by_cases h2 : k = j
      · subst h2; simp [h1]
      · simp [h1, h2]
  · dsimp only
    by_cases h1 : k = i
    · subst h1; simp
    · by_cases h2 : k = j
      · subst h2; simp [h1]
      · simp [h1, h2]
  · dsimp only
    rw [if_neg (by omega), if_neg (by omega)]
  · unfold swp
    dsimp only
    by_cases h1 : k = i
    · rw [if_pos h1, if_pos h1]
    · rw [if_neg h1, if_neg h1]
      by_cases h2 : k = j
      · rw [if_pos h2, if_pos h2]
      · rw [if_neg h2, if_neg h2]
/-- swapRange -/
def swR (D : TF) (a b n : Nat) : TF := fun k => if a ≤ k ∧ k < a + n then D (k - a + b) else if b ≤ k ∧ k < b + n then D (k - b + a) else D k
theorem swR_zero (D : TF) (a b : Nat) : swR D a b 0 = D := by
  funext k; unfold swR; rw [if_neg (by omega), if_neg (by omega)]
theorem swR_succ (D : TF) (a b n : Nat) (h : a + (n + 1) ≤ b) : swp (swR D a b n) (a + n) (b + n) = swR D a b (n + 1) := by
  funext k
  unfold swp
  by_cases h1 : k = a + n
  · subst h1
    rw [if_pos rfl]
    unfold swR
    rw [if_neg (by omega), if_neg (by omega), if_pos (by omega)]
    congr 1; omega
  · rw [if_neg h1]
    by_cases h2 : k = b + n
    · subst h2
      rw [if_pos rfl]
      have e1 : swR D a b n (a + n) = D (a + n) := by unfold swR; rw [if_neg (by omega), if_neg (by omega)]
      have e2 : swR D a b (n + 1) (b + n) = D (b + n - b + a) := by unfold swR; rw [if_neg (by omega), if_pos (by omega)]
      rw [e1, e2]
      congr 1; omega
    · rw [if_neg h2]
      unfold swR
      by_cases h3 : a ≤ k ∧ k < a + n
      · rw [if_pos h3, if_pos (show a ≤ k ∧ k < a + (n + 1) by omega)]
      · rw [if_neg h3, if_neg (show ¬ (a ≤ k ∧ k < a + (n + 1)) by omega)]
        by_cases h4 : b ≤ k ∧ k < b + n
        · rw [if_pos h4, if_pos (show b ≤ k ∧ k < b + (n + 1) by omega)]
        · rw [if_neg h4, if_neg (show ¬ (b ≤ k ∧ k < b + (n + 1)) by omega)]
/-- a rotation: what stands from a to m and what stands from m to b change places -/
def rot (D : TF) (a m b : Nat) : TF := fun k => if k < a then D k else if k < a + (b - m) then D (k - a + m) else if k < b then D (k - (b - m)) else D k
theorem rot_big (D : TF) (m i j : Nat) (him : i ≤ m) (h : j < i) : rot (swR D (m - i) m j) (m - (i - j)) m (m + j) = rot D (m - i) m (m + j) := by
  funext k
  unfold rot
  have e1 : m - (i - j) = m - i + j := by omega
  have e2 : m + j - m = j := by omega
  rw [e1, e2]
  by_cases h1 : k < m - i
  · rw [if_pos (by omega), if_pos h1]
    unfold swR; rw [if_neg (by omega), if_neg (by omega)]
  · by_cases h2 : k < m - i + j
    · rw [if_pos h2, if_neg h1, if_pos h2]
      unfold swR; rw [if_pos (by omega)]
    · rw [if_neg h2, if_neg h1, if_neg h2]
      by_cases h3 : k < m - i + j + j
      · rw [if_pos h3]
        unfold swR
        by_cases h4 : m ≤ k - (m - i + j) + m ∧ k - (m - i + j) + m < m + j
        · rw [if_neg (by omega), if_pos h4, if_pos (by omega)]
          congr 1; omega
        · omega
      · rw [if_neg h3]
        by_cases h4 : k < m + j
        · rw [if_pos h4, if_pos h4]
          unfold swR; rw [if_neg (by omega), if_neg (by omega)]
        · rw [if_neg h4, if_neg h4]
          unfold swR; rw [if_neg (by omega), if_neg (by omega)]
theorem rot_small (D : TF) (m i j : Nat) (him : i ≤ m) (h : i < j) : rot (swR D (m - i) (m + j - i) i) (m - i) m (m + (j - i)) = rot D (m - i) m (m + j) := by
  funext k
  unfold rot
  have e1 : m + (j - i) - m = j - i := by omega
  have e2 : m + j - m = j := by omega
  rw [e1, e2]
  by_cases h1 : k < m - i
  · rw [if_pos h1, if_pos h1]
    unfold swR; rw [if_neg (by omega), if_neg (by omega)]
  · rw [if_neg h1, if_neg h1]
    by_cases h2 : k < m - i + (j - i)
    · rw [if_pos h2, if_pos (by omega)]
      unfold swR; rw [if_neg (by omega), if_neg (by omega)]
    · rw [if_neg h2]
      by_cases h3 : k < m + (j - i)
      · rw [if_pos h3, if_pos (by omega)]
        unfold swR; rw [if_pos (by omega)]
        congr 1; omega
      · rw [if_neg h3]
        by_cases h4 : k < m + j
        · rw [if_neg (by omega), if_pos h4]
          unfold swR; rw [if_neg (by omega), if_pos (by omega)]
          congr 1; omega
        · rw [if_neg (by omega), if_neg h4]
          unfold swR; rw [if_neg (by omega), if_neg (by omega)]
theorem rot_same (D : TF) (m i : Nat) (him : i ≤ m) : swR D (m - i) m i = rot D (m - i) m (m + i) := by
  funext k
  unfold rot swR
  have e2 : m + i - m = i := by omega
  rw [e2]
  by_cases h1 : k < m - i
  · rw [if_neg (by omega), if_neg (by omega), if_pos h1]
  · rw [if_neg h1]
    by_cases h2 : k < m - i + i
    · rw [if_pos (by omega), if_pos h2]
    · rw [if_neg (by omega), if_neg h2]
      by_cases h3 : k < m + i
      · rw [if_pos (by omega), if_pos h3]
        congr 1; omega
      · rw [if_neg (by omega), if_neg h3]
end Go.Proofs.YtokaeiahhmaokaaGreatDoor.ds
namespace Go.Proofs.YtokaeiahhmaokaaGreatDoor.ds
set_option linter.unusedVariables false
set_option linter.unusedSimpArgs false
theorem srt_join {a mid b : Nat} {D : TF} (h1 : Srt a mid D) (h2 : Srt mid b D) (hx : ∀ i j, a ≤ i → i < mid → mid ≤ j → j < b → lt2 (D i) (D j)) : Srt a b D := by
  intro i j hi hij hj
  by_cases hjm : j < mid
  · exact h1 i j hi hij hjm
  · by_cases him : i < mid
    · exact hx i j hi him (by omega) hj
    · exact h2 i j (by omega) hij hj
theorem rot_s (D : TF) (m e : Nat) (h : m ≤ e) : rot D m m e = D := by
  funext k; unfold rot
  by_cases h1 : k < m
  · rw [if_pos h1]
  · rw [if_neg h1]
    by_cases h2 : k < m + (e - m)
    · rw [if_pos h2]; congr 1; omega
    · rw [if_neg h2, if_neg (by omega)]
theorem rot_e (D : TF) (s m : Nat) (h : s ≤ m) : rot D s m m = D := by
  funext k; unfold rot
  by_cases h1 : k < s
  · rw [if_pos h1]
  · rw [if_neg h1, if_neg (by omega)]
    by_cases h2 : k < m
    · rw [if_pos h2]; congr 1; omega
    · rw [if_neg h2]
/-- the four parts behind a rotation -/
theorem rot1 {D : TF} {s m e k : Nat} (h : k < s) : rot D s m e k = D k := by unfold rot; rw [if_pos h]
theorem rot2 {D : TF} {s m e k : Nat} (h : s ≤ k) (h2 : k < s + (e - m)) : rot D s m e k = D (k - s + m) := by unfold rot; rw [if_neg (by omega), if_pos h2]
theorem rot3 {D : TF} {s m e k : Nat} (hs : s ≤ m) (h : s + (e - m) ≤ k) (h2 : k < e) : rot D s m e k = D (k - (e - m)) := by unfold rot; rw [if_neg (by omega), if_neg (by omega), if_pos h2]
theorem rot4 {D : TF} {s m e k : Nat} (hs : s ≤ m) (hm : m ≤ e) (h : e ≤ k) : rot D s m e k = D k := by unfold rot; rw [if_neg (by omega), if_neg (by omega), if_neg (by omega)]
/-- what symMerge has found -/
structure Sym (a m b mid s e : Nat) (D : TF) : Prop where
  am : a ≤ m
  mb : m ≤ b
  sl : Srt a m D
  sr : Srt m b D
  tg : Tg a m b D
  asx : a ≤ s
  sm : s ≤ m
  me : m ≤ e
  eb : e ≤ b
  md : s + (e - m) = mid
  lo : a < s → e < b → ¬ dl (D e).1 (D (s - 1)).1
  hi : s < m → m < e → dl (D (e - 1)).1 (D s).1
theorem Sym.lr1 {a m b mid s e : Nat} {D : TF} (h : Sym a m b mid s e D) (i j : Nat) (hi : a ≤ i) (his : i < s) (hj : e ≤ j) (hjb : j < b) : lt2 (D i) (D j) := by
  obtain ⟨am, mb, sl, sr, tg, asx, sm, me, eb, md, lo, _⟩ := h
  have h1 : lt2 (D (s - 1)) (D e) := lt2_of (lo (by omega) (by omega)) (tg _ _ (by omega) (by omega) (by omega) (by omega))
  have h2 : lt2 (D (s - 1)) (D j) := by
    by_cases hej : e = j
    · rw [← hej]; exact h1
    · exact lt2_trans h1 (sr e j (by omega) (by omega) hjb)
  by_cases hii : i = s - 1
  · rw [hii]; exact h2
  · exact lt2_trans (sl i (s - 1) hi (by omega) (by omega)) h2
theorem Sym.rl {a m b mid s e : Nat} {D : TF} (h : Sym a m b mid s e D) (i j : Nat) (hi : m ≤ i) (hie : i < e) (hj : s ≤ j) (hjm : j < m) : lt2 (D i) (D j) := by
  obtain ⟨am, mb, sl, sr, tg, asx, sm, me, eb, md, _, hh⟩ := h
  have h1 : lt2 (D (e - 1)) (D s) := .inl (hh (by omega) (by omega))
  have h2 : lt2 (D i) (D s) := by
    by_cases hii : i = e - 1
    · rw [hii]; exact h1
    · exact lt2_trans (sr i (e - 1) hi (by omega) (by omega)) h1
  by_cases hjs : j = s
  · rw [hjs]; exact h2
  · exact lt2_trans h2 (sl s j (by omega) (by omega) hjm)
theorem Sym.cross {a m b mid s e : Nat} {D : TF} (h : Sym a m b mid s e D) (i j : Nat) (hi : a ≤ i) (him : i < mid) (hj : mid ≤ j) (hjb : j < b) : lt2 (rot D s m e i) (rot D s m e j) := by
  have h' := h
  obtain ⟨am, mb, sl, sr, tg, asx, sm, me, eb, md, _, _⟩ := h'
  by_cases h1 : i < s
  · rw [rot1 h1]
    by_cases h2 : j < e
    · rw [rot3 sm (by omega) h2]
      exact sl _ _ hi (by omega) (by omega)
    · rw [rot4 sm me (by omega)]
      exact h.lr1 i j hi h1 (by omega) hjb
  · rw [rot2 (by omega) (by omega)]
    by_cases h2 : j < e
    · rw [rot3 sm (by omega) h2]
      exact h.rl _ _ (by omega) (by omega) (by omega) (by omega)
    · rw [rot4 sm me (by omega)]
      exact sr _ _ (by omega) (by omega) hjb
theorem Sym.s1 {a m b mid s e : Nat} {D : TF} (h : Sym a m b mid s e D) : Srt a s (rot D s m e) := fun i j hi hij hj => by
  rw [rot1 (by omega), rot1 hj]; exact h.sl i j hi hij (by have := h.sm; omega)
theorem Sym.s2 {a m b mid s e : Nat} {D : TF} (h : Sym a m b mid s e D) : Srt s mid (rot D s m e) := fun i j hi hij hj => by
  have := h.md; have := h.eb; have := h.me
  rw [rot2 hi (by omega), rot2 (by omega) (by omega)]
  exact h.sr _ _ (by omega) (by omega) (by omega)
theorem Sym.t1 {a m b mid s e : Nat} {D : TF} (h : Sym a m b mid s e D) : Tg a s mid (rot D s m e) := fun i j hi his hj hjm => by
  have := h.md; have := h.eb; have := h.me; have := h.sm
  rw [rot1 his, rot2 hj (by omega)]
  exact h.tg _ _ hi (by omega) (by omega) (by omega)
theorem Sym.s3 {a m b mid s e : Nat} {D : TF} (h : Sym a m b mid s e D) : Srt mid e (rot D s m e) := fun i j hi hij hj => by
  have := h.md; have := h.eb; have := h.me; have := h.sm; have := h.asx
  rw [rot3 h.sm (by omega) (by omega), rot3 h.sm (by omega) hj]
  exact h.sl _ _ (by omega) (by omega) (by omega)
theorem Sym.s4 {a m b mid s e : Nat} {D : TF} (h : Sym a m b mid s e D) : Srt e b (rot D s m e) := fun i j hi hij hj => by
  have := h.me
  rw [rot4 h.sm h.me hi, rot4 h.sm h.me (by omega)]
  exact h.sr _ _ (by omega) hij hj
theorem Sym.t2 {a m b mid s e : Nat} {D : TF} (h : Sym a m b mid s e D) : Tg mid e b (rot D s m e) := fun i j hi hie hj hjb => by
  have := h.md; have := h.eb; have := h.me; have := h.sm; have := h.asx
  rw [rot3 h.sm (by omega) hie, rot4 h.sm h.me hj]
  exact h.tg _ _ (by omega) (by omega) (by omega) hjb
/-- both halves merged -/
theorem Sym.fin {a m b mid s e : Nat} {D D3 D4 : TF} (h : Sym a m b mid s e D) (p3 : Pm a mid (rot D s m e) D3) (h3 : Srt a mid D3) (p4 : Pm mid b D3 D4) (h4 : Srt mid b D4) : Srt a b D4 := by
  refine srt_join (mid := mid) (fun i j hi hij hj => ?_) h4 (fun i j hi him hj hjb => ?_)
  · rw [p4.out i (by omega), p4.out j (by omega)]; exact h3 i j hi hij hj
  · rw [p4.out i (by omega)]
    obtain ⟨i', a1, a2, e1⟩ := p3.inn i hi him
    obtain ⟨j', b1, b2, e2⟩ := p4.inn j hj hjb
    rw [e1, e2, p3.out j' (by omega)]
    exact h.cross i' j' a1 a2 b1 b2
theorem srt_tr {a b : Nat} {D : TF} (h : b ≤ a + 1) : Srt a b D := fun i j hi hij hj => by omega
/-- one is put into what stands behind it: from a up to i -/
def insR (D : TF) (a i : Nat) : TF := fun k => if k < a then D k else if k < i then D (k + 1) else if k = i then D a else D k
theorem insR_zero (D : TF) (a : Nat) : insR D a a = D := by
  funext k; unfold insR
  by_cases h1 : k < a
  · rw [if_pos h1]
  · rw [if_neg h1, if_neg h1]
    by_cases h2 : k = a
    · rw [if_pos h2, h2]
    · rw [if_neg h2]
theorem insR_succ (D : TF) (a i : Nat) (h : a ≤ i) : swp (insR D a i) i (i + 1) = insR D a (i + 1) := by
  funext k; unfold swp
  by_cases h1 : k = i
  · subst h1
    rw [if_pos rfl]
    unfold insR
    rw [if_neg (by omega), if_neg (by omega), if_neg (by omega), if_neg (by omega), if_pos (by omega)]
  · rw [if_neg h1]
    by_cases h2 : k = i + 1
    · subst h2
      rw [if_pos rfl]
      unfold insR
      rw [if_neg (by omega), if_neg (by omega), if_pos rfl, if_neg (by omega), if_neg (by omega), if_pos rfl]
    · rw [if_neg h2]
      unfold insR
      by_cases h3 : k < a
      · rw [if_pos h3, if_pos h3]
      · rw [if_neg h3, if_neg h3]
        by_cases h4 : k < i
        · rw [if_pos h4, if_pos (show k < i + 1 by omega)]
        · rw [if_neg h4, if_neg h1, if_neg (show ¬ k < i + 1 by omega), if_neg h2]
theorem insR_pm (D : TF) (a b : Nat) : ∀ k, a + k < b → Pm a b D (insR D a (a + k))
  | 0, _ => by rw [Nat.add_zero, insR_zero]; exact Pm.refl _ _ _
  | k + 1, h => by
    rw [← Nat.add_assoc, ← insR_succ D a (a + k) (by omega)]
    exact (insR_pm D a b k (by omega)).trans (swp_pm _ a b _ _ (by omega) (by omega))
theorem insR_srt {D : TF} {a b i : Nat} (hs : Srt (a + 1) b D) (hi : a + 1 ≤ i) (hib : i ≤ b) (tg : Tg a (a + 1) b D) (h1 : ∀ k, a + 1 ≤ k → k < i → dl (D k).1 (D a).1) (h2 : ∀ k, i ≤ k → k < b → ¬ dl (D k).1 (D a).1) : Srt a b (insR D a (i - 1)) := by
  intro x y hx hxy hy
  have hA : ∀ k, a + 1 ≤ k → k < i → lt2 (D k) (D a) := fun k u v => .inl (h1 k u v)
  have hB : ∀ k, i ≤ k → k < b → lt2 (D a) (D k) := fun k u v => lt2_of (h2 k u v) (tg a k (by omega) (by omega) (by omega) v)
  unfold insR
  rw [if_neg (show ¬ x < a by omega), if_neg (show ¬ y < a by omega)]
  by_cases x1 : x < i - 1
  · rw [if_pos x1]
    by_cases y1 : y < i - 1
    · rw [if_pos y1]; exact hs _ _ (by omega) (by omega) (by omega)
    · rw [if_neg y1]
      by_cases y2 : y = i - 1
      · rw [if_pos y2]; exact hA _ (by omega) (by omega)
      · rw [if_neg y2]; exact hs _ _ (by omega) (by omega) hy
  · rw [if_neg x1, if_neg (by omega : ¬ y < i - 1), if_neg (by omega : ¬ y = i - 1)]
    by_cases x2 : x = i - 1
    · rw [if_pos x2]; exact hB _ (by omega) hy
    · rw [if_neg x2]; exact hs _ _ (by omega) hxy hy
/-- one is put into what stands ahead of it: from m down to i -/
def insL (D : TF) (m i : Nat) : TF := fun k => if k < i then D k else if k = i then D m else if k ≤ m then D (k - 1) else D k
theorem insL_zero (D : TF) (m : Nat) : insL D m m = D := by
  funext k; unfold insL
  by_cases h1 : k < m
  · rw [if_pos h1]
  · rw [if_neg h1]
    by_cases h2 : k = m
    · rw [if_pos h2, h2]
    · rw [if_neg h2, if_neg (by omega)]
theorem insL_pred (D : TF) (m i : Nat) (h : i < m) : swp (insL D m (i + 1)) (i + 1) i = insL D m i := by
  funext k; unfold swp
  by_cases h1 : k = i + 1
  · subst h1
    rw [if_pos rfl]
    unfold insL
    rw [if_pos (by omega), if_neg (by omega), if_neg (by omega), if_pos (by omega)]
    congr 1
  · rw [if_neg h1]
    by_cases h2 : k = i
    · subst h2
      rw [if_pos rfl]
      unfold insL
      rw [if_neg (by omega), if_pos rfl, if_neg (by omega), if_pos rfl]
    · rw [if_neg h2]
      unfold insL
      by_cases h3 : k < i
      · rw [if_pos h3, if_pos (by omega)]
      · rw [if_neg h3, if_neg (by omega), if_neg h1, if_neg h2]
theorem insL_pm (D : TF) (a m b : Nat) (hm : m < b) : ∀ k, k ≤ m → a + k ≤ m → Pm a b D (insL D m (m - k))
  | 0, _, _ => by rw [Nat.sub_zero, insL_zero]; exact Pm.refl _ _ _
  | k + 1, h, h2 => by
    have e : m - k = m - (k + 1) + 1 := by omega
    have := insL_pm D a m b hm k (by omega) (by omega)
    rw [e] at this
    rw [← insL_pred D m (m - (k + 1)) (by omega)]
    exact this.trans (swp_pm _ a b _ _ (by omega) (by omega))
theorem insL_srt {D : TF} {a m i : Nat} (hs : Srt a m D) (hi : a ≤ i) (him : i ≤ m) (tg : Tg a m (m + 1) D) (h1 : ∀ k, a ≤ k → k < i → ¬ dl (D m).1 (D k).1) (h2 : ∀ k, i ≤ k → k < m → dl (D m).1 (D k).1) : Srt a (m + 1) (insL D m i) := by
  intro x y hx hxy hy
  have hA : ∀ k, a ≤ k → k < i → lt2 (D k) (D m) := fun k u v => lt2_of (h1 k u v) (tg k m u (by omega) (by omega) (by omega))
  have hB : ∀ k, i ≤ k → k < m → lt2 (D m) (D k) := fun k u v => .inl (h2 k u v)
  unfold insL
  by_cases x1 : x < i
  · rw [if_pos x1]
    by_cases y1 : y < i
    · rw [if_pos y1]; exact hs _ _ hx hxy (by omega)
    · rw [if_neg y1]
      by_cases y2 : y = i
      · rw [if_pos y2]; exact hA _ hx x1
      · rw [if_neg y2, if_pos (by omega)]; exact hs _ _ hx (by omega) (by omega)
  · rw [if_neg x1, if_neg (by omega : ¬ y < i), if_neg (by omega : ¬ y = i), if_pos (by omega : y ≤ m)]
    by_cases x2 : x = i
    · rw [if_pos x2]; exact hB _ (by omega) (by omega)
    · rw [if_neg x2, if_pos (by omega : x ≤ m)]; exact hs _ _ (by omega) (by omega) (by omega)
end Go.Proofs.YtokaeiahhmaokaaGreatDoor.ds
