import Derived.Test.YtpddokbjjhbfgaaGreatX9
import Derived.Test.YtpddokbjjhbfgaaGreatU21
import Derived.Test.YtpddokbjjhbfgaaGreatRows
import Derived.Lib.LaidTab
import Derived.JoinedCond
import Derived.ShutString
import Derived.ChangeOld
import Derived.Below
import Derived.Carry
import Derived.ChangeSlices
import Derived.Deep.Slices
import Derived.Deep.DeepHandedRow
import Derived.RowKit
import Derived.ChangeShapes
import Derived.SizedLaws
import Derived.ChangeMaps5
namespace Go.Proofs.YtpddokbjjhbfgaaGreat.ds
open Go.ChangeShapes Go.WideShapes Go.ChangeAt Go.RowKit Go.Deep Go.Sort
set_option linter.unusedVariables false
set_option linter.unusedSimpArgs false
set_option maxRecDepth 100000
theorem c4 : Tryz.prog.cellsOf 4 = 1 := by kernel_rfl
theorem c9 : Tryz.prog.cellsOf 9 = 1 := by kernel_rfl
theorem c5 : Tryz.prog.cellsOf 5 = 1 := by kernel_rfl
theorem c92 : Tryz.prog.cellsOf 92 = 1 := by kernel_rfl
theorem c94 : Tryz.prog.cellsOf 94 = 3 := by kernel_rfl
theorem c38 : Tryz.prog.cellsOf 38 = 6 := by kernel_rfl
theorem c34 : Tryz.prog.cellsOf 34 = 2 := by kernel_rfl
theorem c35 : Tryz.prog.cellsOf 35 = 1 := by kernel_rfl
theorem c36 : Tryz.prog.cellsOf 36 = 1 := by kernel_rfl
theorem c39 : Tryz.prog.cellsOf 39 = 1 := by kernel_rfl
theorem c41 : Tryz.prog.cellsOf 41 = 12 := by kernel_rfl
theorem weigh {H : Type} (d : DataW H) : 0 < Rows.uptoBulk d := by
  cases d
  case lit l => cases l <;> (unfold Rows.uptoBulk; omega)
  all_goals (unfold Rows.uptoBulk; omega)
theorem many {H : Type} : ∀ l : List (DataW H), l.length ≤ Rows.uptoBulkAll l
  | [] => Nat.zero_le _
  | d :: l => by have h1 := weigh d; have h2 := many l; rw [Rows.uptoBulkAll, List.length_cons]; omega
theorem all_cons {H : Type} (d : DataW H) (l : List (DataW H)) : Rows.uptoBulkAll (d :: l) = Rows.uptoBulk d + Rows.uptoBulkAll l := by rw [Rows.uptoBulkAll]
theorem all_nil {H : Type} : Rows.uptoBulkAll ([] : List (DataW H)) = 0 := by rw [Rows.uptoBulkAll]
theorem all_mem {H : Type} {d : DataW H} : ∀ {l : List (DataW H)}, d ∈ l → Rows.uptoBulk d ≤ Rows.uptoBulkAll l
  | e :: l, h => by
    rw [all_cons]
    rcases List.mem_cons.1 h with rfl | h
    · omega
    · have := all_mem h; omega
theorem slice_many {H : Type} (a b : List (DataW H)) : Rows.uptoBulkAll a ≤ Rows.uptoBulk (.slice a b) := by
  rw [Rows.uptoBulk]; omega
theorem agg_many {H : Type} (a : List (DataW H)) : Rows.uptoBulkAll a ≤ Rows.uptoBulk (.agg a) := by
  rw [Rows.uptoBulk]; omega
/-- a []byte that came in -/
theorem open_bytes {H : Type} {enc : TypeId × Value → H} {W : World} {fuel : Nat} {v : Value} {x : DataW H × List MemPlace} (h : DataW.trod enc Tryz.prog W 0 (fun _ => true) true fuel 35 [v] = some x) (hb : Rows.uptoBulk x.1 ≤ 1048576) :
    ∃ (s : Sl) (bs : List Nat), v = s.v ∧ Rd W s.p (byts bs) ∧ bs.length = s.n ∧ s.n ≤ 1048576 ∧ (∀ b ∈ bs, b < 256) ∧ s.ok := by
  rcases open_ints Tryz.underlying35 Tryz.underlying5 c5 h with ⟨hcs, _⟩ | ⟨a, l, c, zs, hcs, _, hl, hm, hz, hx, hcell, hwz⟩
  · simp at hcs
    exact ⟨⟨none, 0, 0⟩, [], hcs, Rd.nil _ _, rfl, by decide, by simp, fun _ => ⟨rfl, rfl⟩⟩
  · simp at hcs
    simp only [if_true] at hz
    have hll : l ≤ 1048576 := by
      have h1 := slice_many (lits .u8 (zs.take l) : List (DataW H)) (lits .u8 (zs.drop l))
      have h2 := many (lits .u8 (zs.take l) : List (DataW H))
      have h3 : (lits .u8 (zs.take l) : List (DataW H)).length = l := by simp [lits]; omega
      rw [hx] at hb
      simp only at hb
      omega
    have hpos : ∀ z ∈ zs, 0 ≤ z ∧ z < 256 := fun z hz => by
      have := hwz z hz
      simp [Lit.wf, IntKind.bits, IntKind.signed, IntKind.min, IntKind.max] at this
      omega
    refine ⟨⟨some a, l, c⟩, (zs.take l).map Int.toNat, hcs, fun h0 => ?_, by simp; omega, hll, fun b hb => ?_, fun e => by cases e⟩
    · obtain ⟨g, o, spot⟩ := a
      simp [byts] at h0
      have hc := hcell 0 (by omega)
      have hspot : spot = none := by simpa [Addr.add] using World.cell?_spot hc
      subst hspot
      refine ⟨g, o, rfl, ?_, fun j u hj => ?_⟩
      · rw [Addr.add_lit] at hc
        exact block_lt_of_cell hc
      · simp only [byts, List.getElem?_map, Option.map_eq_some_iff] at hj
        obtain ⟨b, ⟨z, hz1, rfl⟩, rfl⟩ := hj
        have hjl : j < zs.length := by
          by_cases hq : j < l
          · omega
          · rw [List.getElem?_take, if_neg hq] at hz1; cases hz1
        have hc2 := hcell j hjl
        rw [Addr.add_lit] at hc2
        rw [hc2]
        rw [List.getElem?_take] at hz1
        split at hz1
        · rw [List.getD_eq_getElem?_getD, hz1]
          have := (hpos z (List.mem_of_getElem? hz1)).1
          simp
          omega
        · cases hz1
    · rw [List.mem_map] at hb
      obtain ⟨z, hz1, rfl⟩ := hb
      have := hpos z (List.mem_of_mem_take hz1)
      omega
/-- a []api.Span that came in -/
theorem open_spans {H : Type} {enc : TypeId × Value → H} {W : World} {fuel : Nat} {v : Value} {x : DataW H × List MemPlace} (h : DataW.trod enc Tryz.prog W 0 (fun _ => true) true fuel 36 [v] = some x) (hb : Rows.uptoBulk x.1 ≤ 1048576) :
    ∃ (s : Sl) (xs : List S), v = s.v ∧ L W s.p s.n xs ∧ s.n ≤ 1048576 ∧ s.ok := by
  rcases open_slice Tryz.underlying36 h with ⟨hcs, _⟩ | ⟨a, len, cap, m, n, D, Pl, hcs, _, hl, hm, hmeq, hx, hall⟩
  · simp at hcs
    exact ⟨⟨none, 0, 0⟩, [], hcs, L.nil _ _, by decide, fun _ => ⟨rfl, rfl⟩⟩
  · simp only [if_true] at hmeq
    subst hmeq
    simp at hcs
    have hlim : len ≤ 1048576 := by
      have h1 := slice_many ((List.range len).map D) ((List.range (m - len)).map fun j => D (len + j))
      have h2 := many ((List.range len).map D)
      rw [hx] at hb
      simp only [List.length_map, List.length_range] at h2 hb
      omega
    refine ⟨⟨some a, len, m⟩, ?_⟩
    by_cases h0 : 0 < len
    · obtain ⟨P, o, spot⟩ := a
      have hspot : spot = none := by
        obtain ⟨cs', h1, h2⟩ := hall 0 (by omega)
        rw [c94] at h1
        obtain ⟨_, hlen, hcell⟩ := World.cells?_some h1
        have hc := hcell 0 (by omega)
        rw [List.getElem?_eq_getElem (by omega)] at hc
        have := World.cell?_spot hc
        simpa [Addr.add] using this
      subst hspot
      have each : ∀ i, i < len → ∃ d : S, (W.cell? ⟨P, o + i * 3, none⟩ = some (.int .i64 d.n) ∧ W.cell? ⟨P, o + i * 3 + 1, none⟩ = some (.int .i64 d.b) ∧ W.cell? ⟨P, o + i * 3 + 2, none⟩ = some (.int .u64 (d.t : Int))) ∧ d.t < 2 ^ 64 := by
        intro i hi
        obtain ⟨cs', h1, h2⟩ := hall i (by omega)
        rw [c94, Addr.add_lit] at h1
        obtain ⟨_, hlen, hcell⟩ := World.cells?_some h1
        obtain ⟨xs, k, hk, hxy, _, hxl, hf⟩ := DataW.trod_struct Tryz.underlying94 h2
        match xs, hxl, cs', hlen with
        | [y0, y1, y2], _, [v0, v1, v2], _ =>
          have g0 := hf 0 _ rfl
          have g1 := hf 1 _ rfl
          have g2 := hf 2 _ rfl
          simp [c3, c92] at g0 g1 g2
          obtain ⟨k0, q0, _, _⟩ := DataW.trod_int Tryz.underlying3 g0
          obtain ⟨k1, q1, _, _⟩ := DataW.trod_int Tryz.underlying3 g1
          obtain ⟨k2, q2, _, wf2⟩ := DataW.trod_int Tryz.underlying92 g2
          simp only [List.cons.injEq, and_true] at q0 q1 q2
          subst q0 q1 q2
          have e0 := hcell 0 (by omega)
          have e1 := hcell 1 (by omega)
          have e2 := hcell 2 (by omega)
          simp only [Addr.add_lit] at e0 e1 e2
          have hr : 0 ≤ k2 ∧ k2 < 18446744073709551616 := by
            simp [Lit.wf, IntKind.bits, IntKind.signed, IntKind.min, IntKind.max] at wf2
            omega
          obtain ⟨K, rfl⟩ := Int.eq_ofNat_of_zero_le hr.1
          exact ⟨⟨k0, k1, K⟩, ⟨by simpa using e0, by simpa using e1, by simpa using e2⟩, by show K < 2 ^ 64; omega⟩
      obtain ⟨f, hf⟩ := @choose_lt S ⟨⟨0, 0, 0⟩⟩ _ _ each
      have hg : ∀ i, i < len → g ((List.range len).map f) i = f i := by
        intro i hi
        unfold g
        rw [List.getD_eq_getElem?_getD, List.getElem?_map, List.getElem?_range hi]; rfl
      refine ⟨(List.range len).map f, hcs, ⟨fun _ => ⟨P, o, rfl, block_lt_of_cell (hf 0 h0).1.1, fun i hi => ?_⟩, by simp, by show len ≤ _; omega, fun x hx => ?_⟩, hlim, fun e => by cases e⟩
      · simp at hi
        rw [hg i hi]; exact (hf i hi).1
      · simp at hx
        obtain ⟨i, hi, rfl⟩ := hx
        exact (hf i hi).2
    · obtain rfl : len = 0 := by omega
      exact ⟨[], hcs, L.nil _ _, by show 0 ≤ _; omega, fun e => by cases e⟩
/-- a write that came in -/
theorem open_write {H : Type} {enc : TypeId × Value → H} {W : World} {fuel : Nat} {v0 v1 v2 v3 v4 v5 : Value} {x : DataW H × List MemPlace} (h : DataW.trod enc Tryz.prog W 0 (fun _ => true) true fuel 38 [v0, v1, v2, v3, v4, v5] = some x) (hb : Rows.uptoBulk x.1 ≤ 1048576) :
    ∃ (e : E) (r : Wr), v0 = .int .i64 e.n ∧ v1 = .int .i64 e.c ∧ v2 = .string e.k ∧ v3 = .bool e.d ∧ v4 = e.v.v ∧ v5 = e.x.v ∧ Reads W e r ∧ e.k.size ≤ maxLen ∧ Dok (dotE e) := by
  obtain ⟨xs, k, hk, hxy, _, hxl, hf⟩ := DataW.trod_struct Tryz.underlying38 h
  match xs, hxl with
  | [y0, y1, y2, y3, y4], _ =>
    have g0 := hf 0 _ rfl
    have g1 := hf 1 _ rfl
    have g2 := hf 2 _ rfl
    have g3 := hf 3 _ rfl
    have g4 := hf 4 _ rfl
    simp [c34, c9, c4, c35, c36] at g0 g1 g2 g3 g4
    obtain ⟨zs, kz, _, _, _, hzl, hz⟩ := DataW.trod_struct Tryz.underlying34 g0
    match zs, hzl with
    | [z0, z1], _ =>
      have e0 := hz 0 _ rfl
      have e1 := hz 1 _ rfl
      simp [c3] at e0 e1
      obtain ⟨k0, q0, _, wf0⟩ := DataW.trod_int Tryz.underlying3 e0
      obtain ⟨k1, q1, _, wf1⟩ := DataW.trod_int Tryz.underlying3 e1
      obtain ⟨sk, q2, hsk⟩ := DataW.trod_string Tryz.underlying9 g1
      obtain ⟨bd, q3, _⟩ := DataW.trod_bool Tryz.underlying4 g2
      have hD : x.1 = .agg [y0.1, y1.1, y2.1, y3.1, y4.1] := by rw [hxy]; rfl
      rw [hD] at hb
      have hall := Nat.le_trans (agg_many _) hb
      obtain ⟨sv, bs, rfl, v1', v2', v3', v4', v5'⟩ := open_bytes g3 (Nat.le_trans (all_mem (by simp)) hall)
      obtain ⟨sx, ys, rfl, x1', x2', x3'⟩ := open_spans g4 (Nat.le_trans (all_mem (by simp)) hall)
      simp only [List.cons.injEq, and_true] at q0 q1 q2 q3
      subst q0 q1 q2 q3
      exact ⟨⟨k0, k1, sk, bd, sv, sx⟩, ⟨k0, k1, sk, bd, bs, ys⟩, rfl, rfl, rfl, rfl, rfl, rfl, ⟨rfl, rfl, rfl, rfl, v1', v2', by show sv.n ≤ _; omega, v4', x1', by show sx.n ≤ _; omega, v5', x3'⟩, hsk.2, in64_wf wf0, in64_wf wf1⟩
theorem rd_flatE {W : World} {P : Nat} : ∀ (es : List E) (o : Nat), (∀ i, i < es.length → ∀ j v, (E.cs (gE es i))[j]? = some v → W.cell? ⟨P, o + i * 6 + j, none⟩ = some v) → ∀ j v, (flatE es)[j]? = some v → W.cell? ⟨P, o + j, none⟩ = some v
  | [], o, _ => fun j v hj => by simp [flatE] at hj
  | e :: l, o, h => fun j v hj => by
    have e1 : flatE (e :: l) = E.cs e ++ flatE l := rfl
    have el : (E.cs e).length = 6 := rfl
    rw [e1] at hj
    by_cases hj6 : j < 6
    · rw [List.getElem?_append_left (by omega)] at hj
      have := h 0 (by simp) j v hj
      simpa using this
    · rw [List.getElem?_append_right (by omega), el] at hj
      have := rd_flatE l (o + 6) (fun i hi k u hk => by
        have := h (i + 1) (by simpa using hi) k u hk
        rwa [show o + (i + 1) * 6 + k = o + 6 + i * 6 + k from by omega] at this) (j - 6) v hj
      rwa [show o + 6 + (j - 6) = o + j from by omega] at this
theorem gE_range (len : Nat) (f : Nat → E) (i : Nat) (hi : i < len) : gE ((List.range len).map f) i = f i := by
  unfold gE
  rw [List.getD_eq_getElem?_getD, List.getElem?_map, List.getElem?_range hi]; rfl
theorem gR_range (len : Nat) (f : Nat → Wr) (i : Nat) (hi : i < len) : gR ((List.range len).map f) i = f i := by
  unfold gR
  rw [List.getD_eq_getElem?_getD, List.getElem?_map, List.getElem?_range hi]; rfl
/-- a []api.Write that came in -/
theorem open_list {H : Type} {enc : TypeId × Value → H} {W : World} {fuel : Nat} {v : Value} {x : DataW H × List MemPlace} (h : DataW.trod enc Tryz.prog W 0 (fun _ => true) true fuel 39 [v] = some x) (hb : Rows.uptoBulk x.1 ≤ 1048576) :
    ∃ (s : Sl) (es : List E) (rs : Nat → Wr), v = s.v ∧ Rd W s.p (flatE es) ∧ es.length = s.n ∧ s.n ≤ 1048576 ∧ s.n ≤ Rows.uptoBulk x.1 ∧ ∀ i, i < s.n → Reads W (gE es i) (rs i) ∧ (gE es i).k.size ≤ maxLen ∧ Dok (dotE (gE es i)) := by
  rcases open_slice Tryz.underlying39 h with ⟨hcs, _⟩ | ⟨a, len, cap, m, n, D, Pl, hcs, _, hl, hm, hmeq, hx, hall⟩
  · simp at hcs
    exact ⟨⟨none, 0, 0⟩, [], fun _ => Wr.z, hcs, Rd.nil _ _, rfl, by decide, Nat.zero_le _, fun j hj => absurd hj (by simp)⟩
  · simp only [if_true] at hmeq
    subst hmeq
    simp at hcs
    have hbx := hb
    rw [hx] at hb
    have hball := Nat.le_trans (slice_many ((List.range len).map D) ((List.range (m - len)).map fun j => D (len + j))) hb
    have hlb : len ≤ Rows.uptoBulk x.1 := by
      rw [hx]
      have h1 := slice_many ((List.range len).map D) ((List.range (m - len)).map fun j => D (len + j))
      have h2 := many ((List.range len).map D)
      simp only [List.length_map, List.length_range] at h2
      exact Nat.le_trans h2 h1
    have hlim : len ≤ 1048576 := by
      have h2 := many ((List.range len).map D)
      simp only [List.length_map, List.length_range] at h2
      omega
    by_cases h0 : 0 < len
    · obtain ⟨P, o, spot⟩ := a
      have hspot : spot = none := by
        obtain ⟨cs', h1, h2⟩ := hall 0 (by omega)
        rw [c38] at h1
        obtain ⟨_, hlen, hcell⟩ := World.cells?_some h1
        have hc := hcell 0 (by omega)
        rw [List.getElem?_eq_getElem (by omega)] at hc
        have := World.cell?_spot hc
        simpa [Addr.add] using this
      subst hspot
      have each : ∀ i, i < len → ∃ d : E × Wr, (∀ j u, (E.cs d.1)[j]? = some u → W.cell? ⟨P, o + i * 6 + j, none⟩ = some u) ∧ Reads W d.1 d.2 ∧ d.1.k.size ≤ maxLen ∧ Dok (dotE d.1) := by
        intro i hi
        obtain ⟨cs', h1, h2⟩ := hall i (by omega)
        have hDi : Rows.uptoBulk (D i) ≤ 1048576 := Nat.le_trans (all_mem (List.mem_map.2 ⟨i, List.mem_range.2 hi, rfl⟩)) hball
        rw [c38, Addr.add_lit] at h1
        obtain ⟨_, hlen, hcell⟩ := World.cells?_some h1
        match cs', hlen with
        | [v0, v1, v2, v3, v4, v5], _ =>
          obtain ⟨e, r, rfl, rfl, rfl, rfl, rfl, rfl, hr⟩ := open_write h2 hDi
          refine ⟨(e, r), fun j u hj => ?_, hr⟩
          have hj6 : j < 6 := by
            by_cases hq : j < 6
            · exact hq
            · rw [List.getElem?_eq_none (by show 6 ≤ j; omega)] at hj; cases hj
          have := hcell j hj6
          rw [Addr.add_lit] at this
          rw [this]
          exact hj
      obtain ⟨f, hf⟩ := @choose_lt (E × Wr) ⟨(E.z, Wr.z)⟩ _ _ each
      refine ⟨⟨some ⟨P, o, none⟩, len, m⟩, (List.range len).map (fun i => (f i).1), fun i => (f i).2, hcs, fun _ => ⟨P, o, rfl, ?_, rd_flatE _ o (fun i hi => ?_)⟩, by simp, hlim, hlb, fun j hj => ?_⟩
      · have := (hf 0 h0).1 0 _ rfl
        exact block_lt_of_cell this
      · simp at hi
        rw [gE_range len _ i hi]
        exact (hf i hi).1
      · have hj' : j < len := hj
        rw [gE_range len _ j hj']
        exact (hf j hj').2
    · obtain rfl : len = 0 := by omega
      exact ⟨⟨some a, 0, m⟩, [], fun _ => Wr.z, hcs, Rd.nil _ _, rfl, by show 0 ≤ _; omega, Nat.zero_le _, fun j hj => absurd hj (by simp)⟩

theorem all_app {H : Type} : ∀ (a b : List (DataW H)), Rows.uptoBulkAll (a ++ b) = Rows.uptoBulkAll a + Rows.uptoBulkAll b
  | [], b => by rw [all_nil, List.nil_append, Nat.zero_add]
  | x :: l, b => by rw [List.cons_append, all_cons, all_cons, all_app l b]; omega
theorem open_ops {H : Type} {enc : TypeId × Value → H} {W : World} {fuel : Nat} {v : Value} {x : DataW H × List MemPlace} (h : DataW.trod enc Tryz.prog W 0 (fun _ => true) true fuel 24 [v] = some x) (hb : Rows.uptoBulk x.1 ≤ 1048576) :
    ∃ (p : Option Addr) (n cap : Nat) (os : Nat → Opd), v = .slice p n cap ∧ ROps W p n os := by
  rcases open_slice Tryz.underlying24 h with ⟨hcs, _⟩ | ⟨a, len, cap, m, n, D, Pl, hcs, _, hl, hm, hmeq, hx, hall⟩
  · simp at hcs
    exact ⟨none, 0, 0, fun _ => ⟨0, 0, 0, ⟨#[]⟩, E.z, Wr.z, slz, [], slz, [], fun _ => Wr.z⟩, hcs, fun h => absurd h (by omega), fun i hi => absurd hi (by omega), fun i hi _ => by rw [show i = 0 by omega]; exact Nat.zero_le _, by omega⟩
  · simp only [if_true] at hmeq
    subst hmeq
    simp at hcs
    rw [hx] at hb
    have hball := Nat.le_trans (slice_many ((List.range len).map D) ((List.range (m - len)).map fun j => D (len + j))) hb
    have hlim : len ≤ 1048576 := by
      have h2 := many ((List.range len).map D)
      simp only [List.length_map, List.length_range] at h2
      omega
    by_cases h0 : 0 < len
    · obtain ⟨P, o, spot⟩ := a
      have hspot : spot = none := by
        obtain ⟨cs', h1, h2⟩ := hall 0 (by omega)
        rw [c41] at h1
        obtain ⟨_, hlen, hcell⟩ := World.cells?_some h1
        have hc := hcell 0 (by omega)
        rw [List.getElem?_eq_getElem (by omega)] at hc
        have := World.cell?_spot hc
        simpa [Addr.add] using this
      subst hspot
      have each : ∀ i, i < len → ∃ d : Opd, (∀ j u, d.c[j]? = some u → W.cell? ⟨P, o + i * 12 + j, none⟩ = some u) ∧ OpAt W d ∧ d.ws.n + 1 ≤ Rows.uptoBulk (D i) := by
        intro i hi
        obtain ⟨cs', h1, h2⟩ := hall i (by omega)
        have hDi : Rows.uptoBulk (D i) ≤ 1048576 := Nat.le_trans (all_mem (List.mem_map.2 ⟨i, List.mem_range.2 hi, rfl⟩)) hball
        rw [c41, Addr.add_lit] at h1
        obtain ⟨_, hlen, hcell⟩ := World.cells?_some h1
        match cs', hlen with
        | [v0, v1, v2, v3, a0, a1, a2, a3, a4, a5, v10, v11], _ =>
          obtain ⟨ys, k, hk, hxy, _, hxl, hf⟩ := DataW.trod_struct Tryz.underlying41 h2
          match ys, hxl with
          | [y0, y1, y2, y3, y4, y5, y6], _ =>
            have g0 := hf 0 _ rfl
            have g1 := hf 1 _ rfl
            have g2 := hf 2 _ rfl
            have g3 := hf 3 _ rfl
            have g4 := hf 4 _ rfl
            have g5 := hf 5 _ rfl
            have g6 := hf 6 _ rfl
            simp [c3, c9, c38, c36, c39] at g0 g1 g2 g3 g4 g5 g6
            have hD : D i = .agg [y0.1, y1.1, y2.1, y3.1, y4.1, y5.1, y6.1] := by
              have := congrArg Prod.fst hxy
              simpa using this
            have hDi' := hDi
            rw [hD] at hDi
            have hal := Nat.le_trans (agg_many _) hDi
            obtain ⟨k0, q0, _, wf0⟩ := DataW.trod_int Tryz.underlying3 g0
            obtain ⟨k1, q1, _, wf1⟩ := DataW.trod_int Tryz.underlying3 g1
            obtain ⟨k2, q2, _, wf2⟩ := DataW.trod_int Tryz.underlying3 g2
            obtain ⟨sk, q3, hsk⟩ := DataW.trod_string Tryz.underlying9 g3
            obtain ⟨e, r, rfl, rfl, rfl, rfl, rfl, rfl, hr, hek, hed⟩ := open_write g4 (Nat.le_trans (all_mem (by simp)) hal)
            obtain ⟨st, toks, rfl, ht1, ht2, ht3⟩ := open_spans g5 (Nat.le_trans (all_mem (by simp)) hal)
            obtain ⟨sw, es, rs, rfl, hw1, hw2, hw3, hw4, hw5⟩ := open_list g6 (Nat.le_trans (all_mem (by simp)) hal)
            simp only [List.cons.injEq, and_true] at q0 q1 q2 q3
            subst q0 q1 q2 q3
            refine ⟨⟨k0, k1, k2, sk, e, r, st, toks, sw, es, rs⟩, fun j u hj => ?_, ⟨hsk.2, hr, hek, hed, ht1, by show st.n ≤ _; omega, hw1, hw2, by show sw.n ≤ _; omega, hw5⟩, ?_⟩
            · have hj12 : j < 12 := by
                by_cases hq : j < 12
                · exact hq
                · rw [Array.getElem?_eq_none (by show 12 ≤ j; omega)] at hj; cases hj
              have := hcell j hj12
              rw [Addr.add_lit] at this
              rw [this]
              simpa [Opd.c, Sl.v] using hj
            · show sw.n + 1 ≤ Rows.uptoBulk (D i)
              rw [hD]
              have h1 := agg_many [y0.1, y1.1, y2.1, y3.1, y4.1, y5.1, y6.1]
              simp only [all_cons, all_nil] at h1
              have h2 := weigh y0.1
              omega
      obtain ⟨f, hf⟩ := @choose_lt Opd ⟨⟨0, 0, 0, ⟨#[]⟩, E.z, Wr.z, slz, [], slz, [], fun _ => Wr.z⟩⟩ _ _ each
      refine ⟨some ⟨P, o, none⟩, len, m, f, hcs, fun _ => ⟨P, o, rfl, ?_, fun i hi => (hf i hi).1⟩, fun i hi => (hf i hi).2.1, fun i hi h200 => ?_, by omega⟩
      · have := (hf 0 h0).1 0 _ rfl
        exact block_lt_of_cell this
      · have key : ∀ i, i ≤ len → sumN f i ≤ Rows.uptoBulkAll ((List.range i).map D) := fun i => by
          induction i with
          | zero => intro _; exact Nat.zero_le _
          | succ i ih =>
            intro hi
            rw [List.range_succ, List.map_append, all_app, List.map_cons, List.map_nil, all_cons, all_nil]
            have h1 := ih (by omega)
            have h2 := (hf i (by omega)).2.2
            show sumN f i + (f i).ws.n + 1 ≤ _
            omega
        have h1 := key i hi
        have h2 : (List.range len).map D = (List.range i).map D ++ ((List.range len).map D).drop i := by
          have e1 := (List.take_append_drop i ((List.range len).map D)).symm
          rw [← List.map_take, List.take_range, Nat.min_eq_left hi] at e1
          exact e1
        rw [h2, all_app] at hball
        omega
    · obtain rfl : len = 0 := by omega
      exact ⟨some a, 0, m, fun _ => ⟨0, 0, 0, ⟨#[]⟩, E.z, Wr.z, slz, [], slz, [], fun _ => Wr.z⟩, hcs, fun h => absurd h (by omega), fun i hi => absurd hi (by omega), fun i hi _ => by rw [show i = 0 by omega]; exact Nat.zero_le _, by omega⟩
end Go.Proofs.YtpddokbjjhbfgaaGreat.ds
