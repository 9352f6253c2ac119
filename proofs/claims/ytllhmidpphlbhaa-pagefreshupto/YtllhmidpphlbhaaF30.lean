import Derived.Deep.RegionHeld
import Derived.OrdersHeld
import Derived.WalkKit
import Derived.ProofKit
import Derived.Lib.TrailingZeros
import Derived.Test.YtllhmidpphlbhaaChecked
import Derived.OpenShut
import Derived.Deep.QuietTactic
import Derived.BigQuiet
import Derived.BigRegion
import Derived.Laws.CopyOwn
import Derived.Laws.Bits64b
import Derived.Laws.MathBits
import Derived.Laws.ShiftsVarLaws
import Derived.WalkSmall
import Derived.Laws.ResultCell
import Derived.Lib.BitFns
import Derived.Laws.StructEq
import Derived.ArgAppend
import Derived.Deep.RegionLaw
import Derived.Deep.DeepAppendRoom
import Derived.Sort.WalkA
import Derived.Laws.Strings
import Derived.Deep.CutBlock
import Derived.Great.BuildSlice
import Derived.Laws.AppendOwnNone
import Derived.Lib.Overlaps
import Derived.Lib.AppendZerosOnto
import Derived.Laws.NewBlocks
import Derived.Laws.Externs
import Derived.Laws.IdiomCopy
import Derived.Laws.BytesString
import Derived.Deep.CutRange
import Derived.RangeFuncNested
import Derived.RangeFuncBound
import Derived.RangeFuncCalls
import Derived.RangeFuncLeaves
import Derived.Shelf.Abstract
import Derived.Shelf.RegionOpen
import Derived.OwnWalkIn
import Derived.TacticsInMore
import Derived.LoopNIn
import Derived.LoopIn
import GoSem.Claim
import GoSem.ClaimJoined
import GoSem.ClaimMapViews
import Derived.JoinedTies
import Derived.KernelRfl
import Derived.Deep.OwnRows
import Derived.Lib.LaidTab
import Derived.JoinedCond
import Derived.ShutString
import Derived.ChangeOld
import Derived.Below
import Derived.Carry
import Derived.ChangeSlices
import Derived.Deep.Slices
import Derived.Deep.DeepHandedRow
import Derived.RowKit
import Derived.ChangeShapes
import Derived.SizedLaws
import Derived.ChangeMaps5
import Derived.Lib.Walk
import Derived.Lib.SliceRun
import Derived.Lib.AppendStr
import Derived.Lib.ConvBytes
import Derived.Deep.RegionHeld3
import Derived.Deep.MidRow
import Derived.Laws.MakeOwn
import Derived.Lib.SlBytesConst
import Derived.Test.YtllhmidpphlbhaaRows
import Derived.Test.YtllhmidpphlbhaaF18
import Derived.Test.YtllhmidpphlbhaaF21
namespace Go.Proofs.Ytllhmidpphlbhaa.ds
open Go.ChangeShapes Go.WideShapes Go.ChangeAt Go.RowKit Go.Deep Go.Sort
set_option linter.unusedVariables false
set_option linter.unusedSimpArgs false
set_option maxRecDepth 100000
theorem laidOut : laidOutB Try.prog = true := by kernel_rfl
theorem Apart.below {X : List Nat} {w w' : World} (h : Apart X w w') {B : Nat} (hB : B ≤ w.heap.size) (hx : ∀ x ∈ X, B ≤ x) : Below B w w' :=
  ⟨h.os, h.tape, h.output, h.size, fun k hk => h.block k (by omega) (fun m => by have := hx k m; omega)⟩
theorem c3 : Try.prog.cellsOf 3 = 1 := by kernel_rfl
theorem c4 : Try.prog.cellsOf 4 = 1 := by kernel_rfl
theorem c9 : Try.prog.cellsOf 9 = 1 := by kernel_rfl
theorem c5 : Try.prog.cellsOf 5 = 1 := by kernel_rfl
theorem c83 : Try.prog.cellsOf 83 = 1 := by kernel_rfl
theorem c85 : Try.prog.cellsOf 85 = 3 := by kernel_rfl
theorem c50 : Try.prog.cellsOf 50 = 6 := by kernel_rfl
theorem c47 : Try.prog.cellsOf 47 = 2 := by kernel_rfl
theorem c28 : Try.prog.cellsOf 28 = 1 := by kernel_rfl
theorem c48 : Try.prog.cellsOf 48 = 1 := by kernel_rfl
theorem c23 : Try.prog.cellsOf 23 = 1 := by kernel_rfl
theorem weigh {H : Type} (d : DataW H) : 0 < Rows.uptoBulk d := by
  cases d
  case lit l => cases l <;> (unfold Rows.uptoBulk; omega)
  all_goals (unfold Rows.uptoBulk; omega)
theorem many {H : Type} : ∀ l : List (DataW H), l.length ≤ Rows.uptoBulkAll l
  | [] => Nat.zero_le _
  | d :: l => by have h1 := weigh d; have h2 := many l; rw [Rows.uptoBulkAll, List.length_cons]; omega
theorem all_cons {H : Type} (d : DataW H) (l : List (DataW H)) : Rows.uptoBulkAll (d :: l) = Rows.uptoBulk d + Rows.uptoBulkAll l := by rw [Rows.uptoBulkAll]
theorem all_nil {H : Type} : Rows.uptoBulkAll ([] : List (DataW H)) = 0 := by rw [Rows.uptoBulkAll]
theorem all_mem {H : Type} {d : DataW H} : ∀ {l : List (DataW H)}, d ∈ l → Rows.uptoBulk d ≤ Rows.uptoBulkAll l
  | e :: l, h => by
    rw [all_cons]
    rcases List.mem_cons.1 h with rfl | h
    · omega
    · have := all_mem h; omega
theorem slice_many {H : Type} (a b : List (DataW H)) : Rows.uptoBulkAll a ≤ Rows.uptoBulk (.slice a b) := by
  rw [Rows.uptoBulk]; omega
theorem agg_many {H : Type} (a : List (DataW H)) : Rows.uptoBulkAll a ≤ Rows.uptoBulk (.agg a) := by
  rw [Rows.uptoBulk]; omega
/-- a []byte that came in -/
theorem open_bytes {H : Type} {enc : TypeId × Value → H} {W : World} {fuel : Nat} {v : Value} {x : DataW H × List MemPlace} (h : DataW.trod enc Try.prog W 0 (fun _ => true) true fuel 28 [v] = some x) (hb : Rows.uptoBulk x.1 ≤ 1048576) :
    ∃ (s : Sl) (bs : List Nat), v = s.v ∧ Rd W s.p (byts bs) ∧ bs.length = s.n ∧ s.n ≤ 1048576 ∧ (∀ b ∈ bs, b < 256) ∧ s.ok := by
  rcases open_ints Try.underlying28 Try.underlying5 c5 h with ⟨hcs, _⟩ | ⟨a, l, c, zs, hcs, _, hl, hm, hz, hx, hcell, hwz⟩
  · simp at hcs
    exact ⟨⟨none, 0, 0⟩, [], hcs, Rd.nil _ _, rfl, by decide, by simp, fun _ => ⟨rfl, rfl⟩⟩
  · simp at hcs
    simp only [if_true] at hz
    have hll : l ≤ 1048576 := by
      have h1 := slice_many (lits .u8 (zs.take l) : List (DataW H)) (lits .u8 (zs.drop l))
      have h2 := many (lits .u8 (zs.take l) : List (DataW H))
      have h3 : (lits .u8 (zs.take l) : List (DataW H)).length = l := by simp [lits]; omega
      rw [hx] at hb
      simp only at hb
      omega
    have hpos : ∀ z ∈ zs, 0 ≤ z ∧ z < 256 := fun z hz => by
      have := hwz z hz
      simp [Lit.wf, IntKind.bits, IntKind.signed, IntKind.min, IntKind.max] at this
      omega
    refine ⟨⟨some a, l, c⟩, (zs.take l).map Int.toNat, hcs, fun h0 => ?_, by simp; omega, hll, fun b hb => ?_, fun e => by cases e⟩
    · obtain ⟨g, o, spot⟩ := a
      simp [byts] at h0
      have hc := hcell 0 (by omega)
      have hspot : spot = none := by simpa [Addr.add] using World.cell?_spot hc
      subst hspot
      refine ⟨g, o, rfl, ?_, fun j u hj => ?_⟩
      · rw [Addr.add_lit] at hc
        exact block_lt_of_cell hc
      · simp only [byts, List.getElem?_map, Option.map_eq_some_iff] at hj
        obtain ⟨b, ⟨z, hz1, rfl⟩, rfl⟩ := hj
        have hjl : j < zs.length := by
          by_cases hq : j < l
          · omega
          · rw [List.getElem?_take, if_neg hq] at hz1; cases hz1
        have hc2 := hcell j hjl
        rw [Addr.add_lit] at hc2
        rw [hc2]
        rw [List.getElem?_take] at hz1
        split at hz1
        · rw [List.getD_eq_getElem?_getD, hz1]
          have := (hpos z (List.mem_of_getElem? hz1)).1
          simp
          omega
        · cases hz1
    · rw [List.mem_map] at hb
      obtain ⟨z, hz1, rfl⟩ := hb
      have := hpos z (List.mem_of_mem_take hz1)
      omega
/-- a []api.Span that came in -/
theorem open_spans {H : Type} {enc : TypeId × Value → H} {W : World} {fuel : Nat} {v : Value} {x : DataW H × List MemPlace} (h : DataW.trod enc Try.prog W 0 (fun _ => true) true fuel 48 [v] = some x) (hb : Rows.uptoBulk x.1 ≤ 1048576) :
    ∃ (s : Sl) (xs : List S), v = s.v ∧ L W s.p s.n xs ∧ s.n ≤ 1048576 ∧ s.ok := by
  rcases open_slice Try.underlying48 h with ⟨hcs, _⟩ | ⟨a, len, cap, m, n, D, Pl, hcs, _, hl, hm, hmeq, hx, hall⟩
  · simp at hcs
    exact ⟨⟨none, 0, 0⟩, [], hcs, L.nil _ _, by decide, fun _ => ⟨rfl, rfl⟩⟩
  · simp only [if_true] at hmeq
    subst hmeq
    simp at hcs
    have hlim : len ≤ 1048576 := by
      have h1 := slice_many ((List.range len).map D) ((List.range (m - len)).map fun j => D (len + j))
      have h2 := many ((List.range len).map D)
      rw [hx] at hb
      simp only [List.length_map, List.length_range] at h2 hb
      omega
    refine ⟨⟨some a, len, m⟩, ?_⟩
    by_cases h0 : 0 < len
    · obtain ⟨P, o, spot⟩ := a
      have hspot : spot = none := by
        obtain ⟨cs', h1, h2⟩ := hall 0 (by omega)
        rw [c85] at h1
        obtain ⟨_, hlen, hcell⟩ := World.cells?_some h1
        have hc := hcell 0 (by omega)
        rw [List.getElem?_eq_getElem (by omega)] at hc
        have := World.cell?_spot hc
        simpa [Addr.add] using this
      subst hspot
      have each : ∀ i, i < len → ∃ d : S, (W.cell? ⟨P, o + i * 3, none⟩ = some (.int .i64 d.n) ∧ W.cell? ⟨P, o + i * 3 + 1, none⟩ = some (.int .i64 d.b) ∧ W.cell? ⟨P, o + i * 3 + 2, none⟩ = some (.int .u64 (d.t : Int))) ∧ d.t < 2 ^ 64 := by
        intro i hi
        obtain ⟨cs', h1, h2⟩ := hall i (by omega)
        rw [c85, Addr.add_lit] at h1
        obtain ⟨_, hlen, hcell⟩ := World.cells?_some h1
        obtain ⟨xs, k, hk, hxy, _, hxl, hf⟩ := DataW.trod_struct Try.underlying85 h2
        match xs, hxl, cs', hlen with
        | [y0, y1, y2], _, [v0, v1, v2], _ =>
          have g0 := hf 0 _ rfl
          have g1 := hf 1 _ rfl
          have g2 := hf 2 _ rfl
          simp [c3, c83] at g0 g1 g2
          obtain ⟨k0, q0, _, _⟩ := DataW.trod_int Try.underlying3 g0
          obtain ⟨k1, q1, _, _⟩ := DataW.trod_int Try.underlying3 g1
          obtain ⟨k2, q2, _, wf2⟩ := DataW.trod_int Try.underlying83 g2
          simp only [List.cons.injEq, and_true] at q0 q1 q2
          subst q0 q1 q2
          have e0 := hcell 0 (by omega)
          have e1 := hcell 1 (by omega)
          have e2 := hcell 2 (by omega)
          simp only [Addr.add_lit] at e0 e1 e2
          have hr : 0 ≤ k2 ∧ k2 < 18446744073709551616 := by
            simp [Lit.wf, IntKind.bits, IntKind.signed, IntKind.min, IntKind.max] at wf2
            omega
          obtain ⟨K, rfl⟩ := Int.eq_ofNat_of_zero_le hr.1
          exact ⟨⟨k0, k1, K⟩, ⟨by simpa using e0, by simpa using e1, by simpa using e2⟩, by show K < 2 ^ 64; omega⟩
      obtain ⟨f, hf⟩ := @choose_lt S ⟨⟨0, 0, 0⟩⟩ _ _ each
      have hg : ∀ i, i < len → g ((List.range len).map f) i = f i := by
        intro i hi
        unfold g
        rw [List.getD_eq_getElem?_getD, List.getElem?_map, List.getElem?_range hi]; rfl
      refine ⟨(List.range len).map f, hcs, ⟨fun _ => ⟨P, o, rfl, block_lt_of_cell (hf 0 h0).1.1, fun i hi => ?_⟩, by simp, by show len ≤ _; omega, fun x hx => ?_⟩, hlim, fun e => by cases e⟩
      · simp at hi
        rw [hg i hi]; exact (hf i hi).1
      · simp at hx
        obtain ⟨i, hi, rfl⟩ := hx
        exact (hf i hi).2
    · obtain rfl : len = 0 := by omega
      exact ⟨[], hcs, L.nil _ _, by show 0 ≤ _; omega, fun e => by cases e⟩
/-- a write that came in -/
theorem open_write {H : Type} {enc : TypeId × Value → H} {W : World} {fuel : Nat} {v0 v1 v2 v3 v4 v5 : Value} {x : DataW H × List MemPlace} (h : DataW.trod enc Try.prog W 0 (fun _ => true) true fuel 50 [v0, v1, v2, v3, v4, v5] = some x) (hb : Rows.uptoBulk x.1 ≤ 1048576) :
    ∃ (e : E) (r : Wr), v0 = .int .i64 e.n ∧ v1 = .int .i64 e.c ∧ v2 = .string e.k ∧ v3 = .bool e.d ∧ v4 = e.v.v ∧ v5 = e.x.v ∧ Reads W e r ∧ r.k.size ≤ 1048576 := by
  obtain ⟨xs, k, hk, hxy, _, hxl, hf⟩ := DataW.trod_struct Try.underlying50 h
  match xs, hxl with
  | [y0, y1, y2, y3, y4], _ =>
    have g0 := hf 0 _ rfl
    have g1 := hf 1 _ rfl
    have g2 := hf 2 _ rfl
    have g3 := hf 3 _ rfl
    have g4 := hf 4 _ rfl
    simp [c47, c9, c4, c28, c48] at g0 g1 g2 g3 g4
    obtain ⟨zs, kz, _, _, _, hzl, hz⟩ := DataW.trod_struct Try.underlying47 g0
    match zs, hzl with
    | [z0, z1], _ =>
      have e0 := hz 0 _ rfl
      have e1 := hz 1 _ rfl
      simp [c3] at e0 e1
      obtain ⟨k0, q0, _, _⟩ := DataW.trod_int Try.underlying3 e0
      obtain ⟨k1, q1, _, _⟩ := DataW.trod_int Try.underlying3 e1
      obtain ⟨sk, q2, q2', _⟩ := DataW.trod_string Try.underlying9 g1
      obtain ⟨bd, q3, _⟩ := DataW.trod_bool Try.underlying4 g2
      have hD : x.1 = .agg [y0.1, y1.1, y2.1, y3.1, y4.1] := by rw [hxy]; rfl
      rw [hD] at hb
      have hall := Nat.le_trans (agg_many _) hb
      obtain ⟨sv, bs, rfl, v1', v2', v3', v4', v5'⟩ := open_bytes g3 (Nat.le_trans (all_mem (by simp)) hall)
      obtain ⟨sx, ys, rfl, x1', x2', x3'⟩ := open_spans g4 (Nat.le_trans (all_mem (by simp)) hall)
      have hks : sk.size ≤ 1048576 := by
        have h1 : Rows.uptoBulk y1.1 ≤ 1048576 := Nat.le_trans (all_mem (by simp)) hall
        rw [q2'] at h1
        simp only [Rows.uptoBulk] at h1
        have h2 : sk.data.toList.length = sk.size := by rw [Array.length_toList]; rfl
        omega
      simp only [List.cons.injEq, and_true] at q0 q1 q2 q3
      subst q0 q1 q2 q3
      exact ⟨⟨k0, k1, sk, bd, sv, sx⟩, ⟨k0, k1, sk, bd, bs, ys⟩, rfl, rfl, rfl, rfl, rfl, rfl, ⟨rfl, rfl, rfl, rfl, v1', v2', by show sv.n ≤ _; omega, v4', x1', by show sx.n ≤ _; omega, v5', x3'⟩, hks⟩
theorem rd_flatE {W : World} {P : Nat} : ∀ (es : List E) (o : Nat), (∀ i, i < es.length → ∀ j v, (E.cs (gE es i))[j]? = some v → W.cell? ⟨P, o + i * 6 + j, none⟩ = some v) → ∀ j v, (flatE es)[j]? = some v → W.cell? ⟨P, o + j, none⟩ = some v
  | [], o, _ => fun j v hj => by simp [flatE] at hj
  | e :: l, o, h => fun j v hj => by
    have e1 : flatE (e :: l) = E.cs e ++ flatE l := rfl
    have el : (E.cs e).length = 6 := rfl
    rw [e1] at hj
    by_cases hj6 : j < 6
    · rw [List.getElem?_append_left (by omega)] at hj
      have := h 0 (by simp) j v hj
      simpa using this
    · rw [List.getElem?_append_right (by omega), el] at hj
      have := rd_flatE l (o + 6) (fun i hi k u hk => by
        have := h (i + 1) (by simpa using hi) k u hk
        rwa [show o + (i + 1) * 6 + k = o + 6 + i * 6 + k from by omega] at this) (j - 6) v hj
      rwa [show o + 6 + (j - 6) = o + j from by omega] at this
theorem gE_range (len : Nat) (f : Nat → E) (i : Nat) (hi : i < len) : gE ((List.range len).map f) i = f i := by
  unfold gE
  rw [List.getD_eq_getElem?_getD, List.getElem?_map, List.getElem?_range hi]; rfl
theorem gR_range (len : Nat) (f : Nat → Wr) (i : Nat) (hi : i < len) : gR ((List.range len).map f) i = f i := by
  unfold gR
  rw [List.getD_eq_getElem?_getD, List.getElem?_map, List.getElem?_range hi]; rfl
/-- a []api.Write that came in -/
theorem open_list {H : Type} {enc : TypeId × Value → H} {W : World} {fuel : Nat} {v : Value} {x : DataW H × List MemPlace} (h : DataW.trod enc Try.prog W 0 (fun _ => true) true fuel 23 [v] = some x) (hb : Rows.uptoBulk x.1 ≤ 1048576) :
    ∃ (s : Sl) (es : List E) (rs : List Wr), v = s.v ∧ RWs W s es rs ∧ ∀ j, j < s.n → (gR rs j).k.size ≤ 1048576 := by
  rcases open_slice Try.underlying23 h with ⟨hcs, _⟩ | ⟨a, len, cap, m, n, D, Pl, hcs, _, hl, hm, hmeq, hx, hall⟩
  · simp at hcs
    exact ⟨⟨none, 0, 0⟩, [], [], hcs, ⟨Rd.nil _ _, rfl, rfl, fun j hj => absurd hj (by simp), by decide, fun _ => ⟨rfl, rfl⟩⟩, fun j hj => absurd hj (by simp)⟩
  · simp only [if_true] at hmeq
    subst hmeq
    simp at hcs
    rw [hx] at hb
    have hball := Nat.le_trans (slice_many ((List.range len).map D) ((List.range (m - len)).map fun j => D (len + j))) hb
    have hlim : len ≤ 1048576 := by
      have h2 := many ((List.range len).map D)
      simp only [List.length_map, List.length_range] at h2
      omega
    by_cases h0 : 0 < len
    · obtain ⟨P, o, spot⟩ := a
      have hspot : spot = none := by
        obtain ⟨cs', h1, h2⟩ := hall 0 (by omega)
        rw [c50] at h1
        obtain ⟨_, hlen, hcell⟩ := World.cells?_some h1
        have hc := hcell 0 (by omega)
        rw [List.getElem?_eq_getElem (by omega)] at hc
        have := World.cell?_spot hc
        simpa [Addr.add] using this
      subst hspot
      have each : ∀ i, i < len → ∃ d : E × Wr, (∀ j u, (E.cs d.1)[j]? = some u → W.cell? ⟨P, o + i * 6 + j, none⟩ = some u) ∧ Reads W d.1 d.2 ∧ d.2.k.size ≤ 1048576 := by
        intro i hi
        obtain ⟨cs', h1, h2⟩ := hall i (by omega)
        have hDi : Rows.uptoBulk (D i) ≤ 1048576 := Nat.le_trans (all_mem (List.mem_map.2 ⟨i, List.mem_range.2 hi, rfl⟩)) hball
        rw [c50, Addr.add_lit] at h1
        obtain ⟨_, hlen, hcell⟩ := World.cells?_some h1
        match cs', hlen with
        | [v0, v1, v2, v3, v4, v5], _ =>
          obtain ⟨e, r, rfl, rfl, rfl, rfl, rfl, rfl, hr⟩ := open_write h2 hDi
          refine ⟨(e, r), fun j u hj => ?_, hr⟩
          have hj6 : j < 6 := by
            by_cases hq : j < 6
            · exact hq
            · rw [List.getElem?_eq_none (by show 6 ≤ j; omega)] at hj; cases hj
          have := hcell j hj6
          rw [Addr.add_lit] at this
          rw [this]
          exact hj
      obtain ⟨f, hf⟩ := @choose_lt (E × Wr) ⟨(E.z, Wr.z)⟩ _ _ each
      refine ⟨⟨some ⟨P, o, none⟩, len, m⟩, (List.range len).map (fun i => (f i).1), (List.range len).map (fun i => (f i).2), hcs, ⟨fun _ => ⟨P, o, rfl, ?_, rd_flatE _ o (fun i hi => ?_)⟩, by simp, by simp, fun j hj => ?_, by show len ≤ _; omega, fun e => by cases e⟩, fun j hj => ?_⟩
      · have := (hf 0 h0).1 0 _ rfl
        exact block_lt_of_cell this
      · simp at hi
        rw [gE_range len _ i hi]
        exact (hf i hi).1
      · have hj' : j < len := hj
        rw [gE_range len _ j hj', gR_range len _ j hj']
        exact (hf j hj').2.1
      · have hj' : j < len := hj
        rw [gR_range len _ j hj']
        exact (hf j hj').2.2
    · obtain rfl : len = 0 := by omega
      exact ⟨⟨some a, 0, m⟩, [], [], hcs, ⟨Rd.nil _ _, rfl, rfl, fun j hj => absurd hj (by simp), by show 0 ≤ _; omega, fun e => by cases e⟩, fun j hj => absurd hj (by simp)⟩

theorem c61 : Try.prog.cellsOf 61 = 2 := by kernel_rfl
theorem c22 : Try.prog.cellsOf 22 = 1 := by kernel_rfl
theorem c25 : Try.prog.cellsOf 25 = 5 := by kernel_rfl
theorem rd_flatK {W : World} {P : Nat} : ∀ (es : List Ck) (o : Nat), (∀ i, i < es.length → ∀ j v, (Ck.cs (gK es i))[j]? = some v → W.cell? ⟨P, o + i * 2 + j, none⟩ = some v) → ∀ j v, (flatK es)[j]? = some v → W.cell? ⟨P, o + j, none⟩ = some v
  | [], o, _ => fun j v hj => by simp [flatK] at hj
  | e :: l, o, h => fun j v hj => by
    have e1 : flatK (e :: l) = Ck.cs e ++ flatK l := rfl
    have el : (Ck.cs e).length = 2 := rfl
    rw [e1] at hj
    by_cases hj6 : j < 2
    · rw [List.getElem?_append_left (by omega)] at hj
      have := h 0 (by simp) j v hj
      simpa using this
    · rw [List.getElem?_append_right (by omega), el] at hj
      have := rd_flatK l (o + 2) (fun i hi k u hk => by
        have := h (i + 1) (by simpa using hi) k u hk
        rwa [show o + (i + 1) * 2 + k = o + 2 + i * 2 + k from by omega] at this) (j - 2) v hj
      rwa [show o + 2 + (j - 2) = o + j from by omega] at this
theorem gK_range (len : Nat) (f : Nat → Ck) (i : Nat) (hi : i < len) : gK ((List.range len).map f) i = f i := by
  unfold gK
  rw [List.getD_eq_getElem?_getD, List.getElem?_map, List.getElem?_range hi]; rfl
theorem gC_range (len : Nat) (f : Nat → Int × List S) (i : Nat) (hi : i < len) : gC ((List.range len).map f) i = f i := by
  unfold gC
  rw [List.getD_eq_getElem?_getD, List.getElem?_map, List.getElem?_range hi]; rfl
/-- a []api.Clock that came in -/
theorem open_clocks {H : Type} {enc : TypeId × Value → H} {W : World} {fuel : Nat} {v : Value} {x : DataW H × List MemPlace} (h : DataW.trod enc Try.prog W 0 (fun _ => true) true fuel 22 [v] = some x) (hb : Rows.uptoBulk x.1 ≤ 1048576) :
    ∃ (s : Sl) (ks : List Ck) (cs : List (Int × List S)), v = s.v ∧ RCs W s ks cs ∧ ∀ j, j < s.n → (gC cs j).2.length ≤ 1048576 := by
  rcases open_slice Try.underlying22 h with ⟨hcs, _⟩ | ⟨a, len, cap, m, n, D, Pl, hcs, _, hl, hm, hmeq, hx, hall⟩
  · simp at hcs
    exact ⟨⟨none, 0, 0⟩, [], [], hcs, ⟨Rd.nil _ _, rfl, rfl, fun j hj => absurd hj (by simp), by decide, fun _ => ⟨rfl, rfl⟩⟩, fun j hj => absurd hj (by simp)⟩
  · simp only [if_true] at hmeq
    subst hmeq
    simp at hcs
    rw [hx] at hb
    have hball := Nat.le_trans (slice_many ((List.range len).map D) ((List.range (m - len)).map fun j => D (len + j))) hb
    have hlim : len ≤ 1048576 := by
      have h2 := many ((List.range len).map D)
      simp only [List.length_map, List.length_range] at h2
      omega
    by_cases h0 : 0 < len
    · obtain ⟨P, o, spot⟩ := a
      have hspot : spot = none := by
        obtain ⟨cs', h1, h2⟩ := hall 0 (by omega)
        rw [c61] at h1
        obtain ⟨_, hlen, hcell⟩ := World.cells?_some h1
        have hc := hcell 0 (by omega)
        rw [List.getElem?_eq_getElem (by omega)] at hc
        have := World.cell?_spot hc
        simpa [Addr.add] using this
      subst hspot
      have each : ∀ i, i < len → ∃ d : Ck × (Int × List S), (∀ j u, (Ck.cs d.1)[j]? = some u → W.cell? ⟨P, o + i * 2 + j, none⟩ = some u) ∧ (d.1.r = d.2.1 ∧ L W d.1.s.p d.1.s.n d.2.2 ∧ d.1.s.ok) ∧ d.2.2.length ≤ 1048576 := by
        intro i hi
        obtain ⟨cs', h1, h2⟩ := hall i (by omega)
        have hDi : Rows.uptoBulk (D i) ≤ 1048576 := Nat.le_trans (all_mem (List.mem_map.2 ⟨i, List.mem_range.2 hi, rfl⟩)) hball
        rw [c61, Addr.add_lit] at h1
        obtain ⟨_, hlen, hcell⟩ := World.cells?_some h1
        obtain ⟨xs, k, hk, hxy, _, hxl, hf⟩ := DataW.trod_struct Try.underlying61 h2
        match xs, hxl, cs', hlen with
        | [y0, y1], _, [v0, v1], _ =>
          have g0 := hf 0 _ rfl
          have g1 := hf 1 _ rfl
          simp [c3, c48] at g0 g1
          obtain ⟨k0, q0, _, _⟩ := DataW.trod_int Try.underlying3 g0
          have hD : D i = .agg [y0.1, y1.1] := congrArg Prod.fst hxy
          rw [hD] at hDi
          have hall2 := Nat.le_trans (agg_many _) hDi
          obtain ⟨sx, ys, rfl, x1, x2, x3⟩ := open_spans g1 (Nat.le_trans (all_mem (by simp)) hall2)
          simp only [List.cons.injEq, and_true] at q0
          subst q0
          refine ⟨(⟨k0, sx⟩, (k0, ys)), fun j u hj => ?_, ⟨rfl, x1, x3⟩, by have := x1.len; show ys.length ≤ _; omega⟩
          have hj6 : j < 2 := by
            by_cases hq : j < 2
            · exact hq
            · rw [List.getElem?_eq_none (by show 2 ≤ j; omega)] at hj; cases hj
          have := hcell j hj6
          rw [Addr.add_lit] at this
          rw [this]
          exact hj
      obtain ⟨f, hf⟩ := @choose_lt (Ck × (Int × List S)) ⟨(Ck.z, (0, []))⟩ _ _ each
      refine ⟨⟨some ⟨P, o, none⟩, len, m⟩, (List.range len).map (fun i => (f i).1), (List.range len).map (fun i => (f i).2), hcs, ⟨fun _ => ⟨P, o, rfl, ?_, rd_flatK _ o (fun i hi => ?_)⟩, by simp, by simp, fun j hj => ?_, by show len ≤ _; omega, fun e => by cases e⟩, fun j hj => ?_⟩
      · have := (hf 0 h0).1 0 _ rfl
        exact block_lt_of_cell this
      · simp at hi
        rw [gK_range len _ i hi]
        exact (hf i hi).1
      · have hj' : j < len := hj
        rw [gK_range len _ j hj', gC_range len _ j hj']
        exact (hf j hj').2.1
      · have hj' : j < len := hj
        rw [gC_range len _ j hj']
        exact (hf j hj').2.2
    · obtain rfl : len = 0 := by omega
      exact ⟨⟨some a, 0, m⟩, [], [], hcs, ⟨Rd.nil _ _, rfl, rfl, fun j hj => absurd hj (by simp), by show 0 ≤ _; omega, fun e => by cases e⟩, fun j hj => absurd hj (by simp)⟩
/-- a content, as it lies in memory -/
structure Ct where
  kd : Int
  gn : Int
  ow : Int
  s : Sl
  t : Sl
def Ct.cs (c : Ct) : Array Value := #[.int .i64 c.kd, .int .i64 c.gn, .int .i64 c.ow, .slice c.s.p c.s.n c.s.c, .slice c.t.p c.t.n c.t.c]
/-- .. and its lists can be read -/
structure RCt (w : World) (c : Ct) (ks : List Ck) (cs : List (Int × List S)) (es : List E) (rs : List Wr) : Prop where
  hc : RCs w c.s ks cs
  hcl : ∀ j, j < c.s.n → (gC cs j).2.length ≤ 2000000
  hw : RWs w c.t es rs
  hkl : ∀ j, j < c.t.n → (gR rs j).k.size ≤ 2000000
theorem RCt.kept0 {w w' : World} {c : Ct} {ks : List Ck} {cs : List (Int × List S)} {es : List E} {rs : List Wr} (h : RCt w c ks cs es rs) (a : Apart [] w w') : RCt w' c ks cs es rs := { h with hc := h.hc.kept0 a, hw := h.hw.kept0 a }
theorem open_content {H : Type} {enc : TypeId × Value → H} {W : World} {fuel : Nat} {cs : Array Value} {x : DataW H × List MemPlace} (hsz : cs.size = 5) (h : DataW.trod enc Try.prog W 0 (fun _ => true) true fuel 25 cs.toList = some x) (hb : Rows.uptoBulk x.1 ≤ 1048576) :
    ∃ (c : Ct) (ks : List Ck) (ds : List (Int × List S)) (es : List E) (rs : List Wr), cs = c.cs ∧ RCt W c ks ds es rs := by
  obtain ⟨l⟩ := cs
  simp only [List.size_toArray] at hsz
  match l, hsz with
  | [a0, a1, a2, a3, a4], _ =>
    simp only at h
    obtain ⟨xs, k, hk, hxy, _, hxl, hf⟩ := DataW.trod_struct Try.underlying25 h
    match xs, hxl with
    | [y0, y1, y2, y3, y4], _ =>
      have g0 := hf 0 _ rfl
      have g1 := hf 1 _ rfl
      have g2 := hf 2 _ rfl
      have g3 := hf 3 _ rfl
      have g4 := hf 4 _ rfl
      simp [c3, c22, c23] at g0 g1 g2 g3 g4
      have hD : x.1 = .agg [y0.1, y1.1, y2.1, y3.1, y4.1] := by rw [hxy]; rfl
      rw [hD] at hb
      have hall := Nat.le_trans (agg_many _) hb
      obtain ⟨k0, q0, _, _⟩ := DataW.trod_int Try.underlying3 g0
      obtain ⟨k1, q1, _, _⟩ := DataW.trod_int Try.underlying3 g1
      obtain ⟨k2, q2, _, _⟩ := DataW.trod_int Try.underlying3 g2
      obtain ⟨sc, ks, ds, rfl, hc, hcl⟩ := open_clocks g3 (Nat.le_trans (all_mem (by simp)) hall)
      obtain ⟨sw, es, rs, rfl, hw, hkl⟩ := open_list g4 (Nat.le_trans (all_mem (by simp)) hall)
      simp only [List.cons.injEq, and_true] at q0 q1 q2
      subst q0 q1 q2
      exact ⟨⟨k0, k1, k2, sc, sw⟩, ks, ds, es, rs, rfl, hc, fun j hj => by have := hcl j hj; omega, hw, fun j hj => by have := hkl j hj; omega⟩
end Go.Proofs.Ytllhmidpphlbhaa.ds
