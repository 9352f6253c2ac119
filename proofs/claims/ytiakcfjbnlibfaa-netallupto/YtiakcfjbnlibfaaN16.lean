import Derived.Test.YtiakcfjbnlibfaaN14
import Derived.Test.YtiakcfjbnlibfaaRows
import Derived.JoinedCond
import Derived.ShutString
import Derived.ChangeOld
import Derived.Below
import Derived.Carry
import Derived.ChangeSlices
import Derived.Deep.Slices
import Derived.Deep.DeepHandedRow
import Derived.RowKit
import Derived.ChangeShapes
import Derived.SizedLaws
import Derived.ChangeMaps5
namespace Go.Proofs.Ytiakcfjbnlibfaa.nt
open Go.ChangeShapes Go.WideShapes Go.ChangeAt Go.RowKit Go.Deep
set_option linter.unusedVariables false
set_option linter.unusedSimpArgs false
theorem own : ownKnob Try.prog.godebug = none := by kernel_rfl
theorem laidOut : laidOutB Try.prog = true := by kernel_rfl
theorem cells3 : Try.prog.cellsOf 3 = 1 := by kernel_rfl
theorem cells5 : Try.prog.cellsOf 5 = 1 := by kernel_rfl
theorem cells28 : Try.prog.cellsOf 28 = 1 := by kernel_rfl
theorem cells30 : Try.prog.cellsOf 30 = 3 := by kernel_rfl
theorem cells22 : Try.prog.cellsOf 22 = 1 := by kernel_rfl
theorem weigh {H : Type} (d : DataW H) : 0 < Rows.uptoBulk d := by
  cases d
  case lit l => cases l <;> (unfold Rows.uptoBulk; omega)
  all_goals (unfold Rows.uptoBulk; omega)
theorem many {H : Type} : ∀ l : List (DataW H), l.length ≤ Rows.uptoBulkAll l
  | [] => Nat.zero_le _
  | d :: l => by have h1 := weigh d; have h2 := many l; rw [Rows.uptoBulkAll, List.length_cons]; omega
theorem all_cons {H : Type} (d : DataW H) (l : List (DataW H)) : Rows.uptoBulkAll (d :: l) = Rows.uptoBulk d + Rows.uptoBulkAll l := by rw [Rows.uptoBulkAll]
theorem all_nil {H : Type} : Rows.uptoBulkAll ([] : List (DataW H)) = 0 := by rw [Rows.uptoBulkAll]
theorem all_mem {H : Type} {d : DataW H} : ∀ {l : List (DataW H)}, d ∈ l → Rows.uptoBulk d ≤ Rows.uptoBulkAll l
  | e :: l, h => by
    rw [all_cons]
    rcases List.mem_cons.1 h with rfl | h
    · omega
    · have := all_mem h; omega
theorem slice_many {H : Type} (a b : List (DataW H)) : Rows.uptoBulkAll a ≤ Rows.uptoBulk (.slice a b) := by
  rw [Rows.uptoBulk]; omega
theorem agg_many {H : Type} (a : List (DataW H)) : Rows.uptoBulkAll a ≤ Rows.uptoBulk (.agg a) := by
  rw [Rows.uptoBulk]; omega
/-- a []byte that came in -/
theorem open_bytes {H : Type} {enc : TypeId × Value → H} {W : World} {fuel : Nat} {v : Value} {x : DataW H × List MemPlace} (h : DataW.trod enc Try.prog W 0 (fun _ => true) true fuel 28 [v] = some x) (hb : Rows.uptoBulk x.1 ≤ 1048576) :
    ∃ (s : Sl) (bs : List Nat), v = s.v ∧ Rd W s.p (byts bs) ∧ bs.length = s.n ∧ s.n ≤ 1048576 ∧ (∀ b ∈ bs, b < 256) ∧ s.ok := by
  rcases open_ints Try.underlying28 Try.underlying5 cells5 h with ⟨hcs, _⟩ | ⟨a, l, c, zs, hcs, _, hl, hm, hz, hx, hcell, hwz⟩
  · simp at hcs
    exact ⟨⟨none, 0, 0⟩, [], hcs, Rd.nil _ _, rfl, by decide, by simp, fun _ => ⟨rfl, rfl⟩⟩
  · simp at hcs
    simp only [if_true] at hz
    have hll : l ≤ 1048576 := by
      have h1 := slice_many (lits .u8 (zs.take l) : List (DataW H)) (lits .u8 (zs.drop l))
      have h2 := many (lits .u8 (zs.take l) : List (DataW H))
      have h3 : (lits .u8 (zs.take l) : List (DataW H)).length = l := by simp [lits]; omega
      rw [hx] at hb
      simp only at hb
      omega
    have hpos : ∀ z ∈ zs, 0 ≤ z ∧ z < 256 := fun z hz => by
      have := hwz z hz
      simp [Lit.wf, IntKind.bits, IntKind.signed, IntKind.min, IntKind.max] at this
      omega
    refine ⟨⟨some a, l, c⟩, (zs.take l).map Int.toNat, hcs, fun h0 => ?_, by simp; omega, hll, fun b hb => ?_, fun e => by cases e⟩
    · obtain ⟨g, o, spot⟩ := a
      simp [byts] at h0
      have hc := hcell 0 (by omega)
      have hspot : spot = none := by simpa [Addr.add] using World.cell?_spot hc
      subst hspot
      refine ⟨g, o, rfl, ?_, fun j u hj => ?_⟩
      · rw [Addr.add_lit] at hc
        exact block_lt_of_cell hc
      · simp only [byts, List.getElem?_map, Option.map_eq_some_iff] at hj
        obtain ⟨b, ⟨z, hz1, rfl⟩, rfl⟩ := hj
        have hjl : j < zs.length := by
          by_cases hq : j < l
          · omega
          · rw [List.getElem?_take, if_neg hq] at hz1; cases hz1
        have hc2 := hcell j hjl
        rw [Addr.add_lit] at hc2
        rw [hc2]
        rw [List.getElem?_take] at hz1
        split at hz1
        · rw [List.getD_eq_getElem?_getD, hz1]
          have := (hpos z (List.mem_of_getElem? hz1)).1
          simp
          omega
        · cases hz1
    · rw [List.mem_map] at hb
      obtain ⟨z, hz1, rfl⟩ := hb
      have := hpos z (List.mem_of_mem_take hz1)
      omega
/-- a letter that came in -/
theorem open_letter {H : Type} {enc : TypeId × Value → H} {W : World} {fuel : Nat} {v0 v1 v2 : Value} {x : DataW H × List MemPlace} (h : DataW.trod enc Try.prog W 0 (fun _ => true) true fuel 30 [v0, v1, v2] = some x) (hb : Rows.uptoBulk x.1 ≤ 1048576) :
    ∃ (e : LM) (r : Tx), v0 = .int .i64 e.f ∧ v1 = .int .i64 e.t ∧ v2 = e.d.v ∧ ReadsL W e r := by
  obtain ⟨xs, k, hk, hxy, _, hxl, hf⟩ := DataW.trod_struct Try.underlying30 h
  match xs, hxl with
  | [y0, y1, y2], _ =>
    have g0 := hf 0 _ rfl
    have g1 := hf 1 _ rfl
    have g2 := hf 2 _ rfl
    simp [cells3, cells28] at g0 g1 g2
    obtain ⟨k0, q0, _, _⟩ := DataW.trod_int Try.underlying3 g0
    obtain ⟨k1, q1, _, _⟩ := DataW.trod_int Try.underlying3 g1
    have hD : x.1 = .agg [y0.1, y1.1, y2.1] := by rw [hxy]; rfl
    rw [hD] at hb
    have hall := Nat.le_trans (agg_many _) hb
    obtain ⟨sv, bs, rfl, v1', v2', v3', v4', v5'⟩ := open_bytes g2 (Nat.le_trans (all_mem (by simp)) hall)
    simp only [List.cons.injEq, and_true] at q0 q1
    subst q0 q1
    exact ⟨⟨k0, k1, sv⟩, ⟨k0, k1, bs⟩, rfl, rfl, rfl, ⟨rfl, rfl, v1', v2', by show sv.n ≤ _; omega, v4', v5'⟩⟩
theorem rd_flatL {W : World} {P : Nat} : ∀ (es : List LM) (o : Nat), (∀ i, i < es.length → ∀ j v, (LM.cs (gL es i))[j]? = some v → W.cell? ⟨P, o + i * 3 + j, none⟩ = some v) → ∀ j v, (flatL es)[j]? = some v → W.cell? ⟨P, o + j, none⟩ = some v
  | [], o, _ => fun j v hj => by simp [flatL] at hj
  | e :: l, o, h => fun j v hj => by
    have e1 : flatL (e :: l) = LM.cs e ++ flatL l := rfl
    have el : (LM.cs e).length = 3 := rfl
    rw [e1] at hj
    by_cases hj6 : j < 3
    · rw [List.getElem?_append_left (by omega)] at hj
      have := h 0 (by simp) j v hj
      simpa using this
    · rw [List.getElem?_append_right (by omega), el] at hj
      have := rd_flatL l (o + 3) (fun i hi k u hk => by
        have := h (i + 1) (by simpa using hi) k u hk
        rwa [show o + (i + 1) * 3 + k = o + 3 + i * 3 + k from by omega] at this) (j - 3) v hj
      rwa [show o + 3 + (j - 3) = o + j from by omega] at this
theorem gL_range (len : Nat) (f : Nat → LM) (i : Nat) (hi : i < len) : gL ((List.range len).map f) i = f i := by
  unfold gL
  rw [List.getD_eq_getElem?_getD, List.getElem?_map, List.getElem?_range hi]; rfl
theorem gT_range (len : Nat) (f : Nat → Tx) (i : Nat) (hi : i < len) : gT ((List.range len).map f) i = f i := by
  unfold gT
  rw [List.getD_eq_getElem?_getD, List.getElem?_map, List.getElem?_range hi]; rfl
/-- a []api.Letter that came in -/
theorem open_letters {H : Type} {enc : TypeId × Value → H} {W : World} {fuel : Nat} {v : Value} {x : DataW H × List MemPlace} (h : DataW.trod enc Try.prog W 0 (fun _ => true) true fuel 22 [v] = some x) (hb : Rows.uptoBulk x.1 ≤ 1048576) :
    ∃ (s : Sl) (es : List LM) (rs : List Tx), v = s.v ∧ InL W s es rs ∧ s.n ≤ 1048576 := by
  rcases open_slice Try.underlying22 h with ⟨hcs, _⟩ | ⟨a, len, cap, m, n, D, Pl, hcs, _, hl, hm, hmeq, hx, hall⟩
  · simp at hcs
    exact ⟨⟨none, 0, 0⟩, [], [], hcs, ⟨Rd.nil _ _, rfl, rfl, fun _ => ⟨rfl, rfl⟩, fun j hj => absurd hj (by simp)⟩, by decide⟩
  · simp only [if_true] at hmeq
    subst hmeq
    simp at hcs
    rw [hx] at hb
    have hball := Nat.le_trans (slice_many ((List.range len).map D) ((List.range (m - len)).map fun j => D (len + j))) hb
    have hlim : len ≤ 1048576 := by
      have h2 := many ((List.range len).map D)
      simp only [List.length_map, List.length_range] at h2
      omega
    by_cases h0 : 0 < len
    · obtain ⟨P, o, spot⟩ := a
      have hspot : spot = none := by
        obtain ⟨cs', h1, h2⟩ := hall 0 (by omega)
        rw [cells30] at h1
        obtain ⟨_, hlen, hcell⟩ := World.cells?_some h1
        have hc := hcell 0 (by omega)
        rw [List.getElem?_eq_getElem (by omega)] at hc
        have := World.cell?_spot hc
        simpa [Addr.add] using this
      subst hspot
      have each : ∀ i, i < len → ∃ d : LM × Tx, (∀ j u, (LM.cs d.1)[j]? = some u → W.cell? ⟨P, o + i * 3 + j, none⟩ = some u) ∧ ReadsL W d.1 d.2 := by
        intro i hi
        obtain ⟨cs', h1, h2⟩ := hall i (by omega)
        have hDi : Rows.uptoBulk (D i) ≤ 1048576 := Nat.le_trans (all_mem (List.mem_map.2 ⟨i, List.mem_range.2 hi, rfl⟩)) hball
        rw [cells30, Addr.add_lit] at h1
        obtain ⟨_, hlen, hcell⟩ := World.cells?_some h1
        match cs', hlen with
        | [v0, v1, v2], _ =>
          obtain ⟨e, r, rfl, rfl, rfl, hr⟩ := open_letter h2 hDi
          refine ⟨(e, r), fun j u hj => ?_, hr⟩
          have hj6 : j < 3 := by
            by_cases hq : j < 3
            · exact hq
            · rw [List.getElem?_eq_none (by show 3 ≤ j; omega)] at hj; cases hj
          have := hcell j hj6
          rw [Addr.add_lit] at this
          rw [this]
          exact hj
      obtain ⟨f, hf⟩ := @choose_lt (LM × Tx) ⟨(LM.z, Tx.z)⟩ _ _ each
      refine ⟨⟨some ⟨P, o, none⟩, len, m⟩, (List.range len).map (fun i => (f i).1), (List.range len).map (fun i => (f i).2), hcs, ⟨fun _ => ⟨P, o, rfl, ?_, rd_flatL _ o (fun i hi => ?_)⟩, by simp, by simp, (fun e => by cases e), fun j hj => ?_⟩, hlim⟩
      · have := (hf 0 h0).1 0 _ rfl
        exact block_lt_of_cell this
      · simp at hi
        rw [gL_range len _ i hi]
        exact (hf i hi).1
      · have hj' : j < len := hj
        rw [gL_range len _ j hj', gT_range len _ j hj']
        exact (hf j hj').2
    · obtain rfl : len = 0 := by omega
      exact ⟨⟨some a, 0, m⟩, [], [], hcs, ⟨Rd.nil _ _, rfl, rfl, (fun e => by cases e), fun j hj => absurd hj (by simp)⟩, by show 0 ≤ _; omega⟩
end Go.Proofs.Ytiakcfjbnlibfaa.nt
