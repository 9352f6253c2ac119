import Derived.Test.YtagjmpdimphfaaaOpen
import Derived.Test.YtagjmpdimphfaaaUpTo
import Derived.JoinedCond
import Derived.ShutString
import Derived.ChangeOld
import Derived.Below
import Derived.Carry
import Derived.ChangeSlices
import Derived.Deep.Slices
import Derived.Deep.DeepHandedRow
namespace Go.Proofs.Ytagjmpdimphfaaa.rg
open Go.ChangeShapes Go.WideShapes Go.ChangeAt Go.RowKit Go.ChangeMaps Go.Deep
set_option linter.unusedVariables false
theorem cells3 : Try.prog.cellsOf 3 = 1 := by kernel_rfl
theorem cells9 : Try.prog.cellsOf 9 = 1 := by kernel_rfl
theorem cells41 : Try.prog.cellsOf 41 = 5 := by kernel_rfl
theorem weigh {H : Type} (d : DataW H) : 0 < Rows.uptoBulk d := by
  cases d
  case lit l => cases l <;> (unfold Rows.uptoBulk; omega)
  all_goals (unfold Rows.uptoBulk; omega)
theorem many {H : Type} : ∀ l : List (DataW H), l.length ≤ Rows.uptoBulkAll l
  | [] => Nat.zero_le _
  | d :: l => by have h1 := weigh d; have h2 := many l; rw [Rows.uptoBulkAll, List.length_cons]; omega
theorem all_cons {H : Type} (d : DataW H) (l : List (DataW H)) : Rows.uptoBulkAll (d :: l) = Rows.uptoBulk d + Rows.uptoBulkAll l := by rw [Rows.uptoBulkAll]
theorem all_nil {H : Type} : Rows.uptoBulkAll ([] : List (DataW H)) = 0 := by rw [Rows.uptoBulkAll]
theorem all_mem {H : Type} {d : DataW H} : ∀ {l : List (DataW H)}, d ∈ l → Rows.uptoBulk d ≤ Rows.uptoBulkAll l
  | e :: l, h => by
    rw [all_cons]
    rcases List.mem_cons.1 h with rfl | h
    · omega
    · have := all_mem h; omega
theorem slice_many {H : Type} (a b : List (DataW H)) : Rows.uptoBulkAll a ≤ Rows.uptoBulk (.slice a b) := by
  rw [Rows.uptoBulk]; omega
theorem agg_many {H : Type} (a : List (DataW H)) : Rows.uptoBulkAll a ≤ Rows.uptoBulk (.agg a) := by
  rw [Rows.uptoBulk]; omega
theorem str_many {H : Type} (s : List UInt8) : s.length ≤ Rows.uptoBulk (.lit (.string s) : DataW H) := by
  rw [Rows.uptoBulk]; omega
theorem pick_lt {α : Type} [Inhabited α] {n : Nat} {p : Nat → α → Prop} (h : ∀ i, i < n → ∃ a, p i a) : ∃ f : Nat → α, ∀ i, i < n → p i (f i) := by
  classical
  refine ⟨fun i => if hi : i < n then (h i hi).choose else default, fun i hi => ?_⟩
  simp only [hi, dif_pos]
  exact (h i hi).choose_spec
instance : Inhabited Aq := ⟨⟨0, 0, 0, 0, ByteArray.empty⟩⟩
/-- an ask in memory -/
structure AqAt (w : World) (P o : Nat) (q : Aq) : Prop where
  c0 : w.cell? ⟨P, o, none⟩ = some (.int .i64 q.k)
  c1 : w.cell? ⟨P, o + 1, none⟩ = some (.int .i64 q.wh)
  c2 : w.cell? ⟨P, o + 2, none⟩ = some (.int .i64 q.a)
  c3 : w.cell? ⟨P, o + 3, none⟩ = some (.int .i64 q.b)
  c4 : w.cell? ⟨P, o + 4, none⟩ = some (.string q.key)
set_option maxRecDepth 100000 in
theorem open_asks {H : Type} {enc : TypeId × Value → H} {W : World} {fuel : Nat} {p : Option Addr} {len cap : Nat} {x : DataW H × List MemPlace} (h : DataW.trod enc Try.prog W 0 (fun _ => true) true fuel 39 [.slice p len cap] = some x) (hb : Rows.uptoBulk x.1 ≤ 1048576) : ∃ f, Aks W p len f ∧ len ≤ 1048576 := by
  rcases open_slice Try.underlying39 h with ⟨hcs, _⟩ | ⟨a, len', cap', m, n, D, Pl, hcs, _, hl, hm, hmeq, hx, hall⟩
  · simp only [List.cons.injEq, Value.slice.injEq, and_true] at hcs
    obtain ⟨rfl, rfl, rfl⟩ := hcs
    exact ⟨fun _ => default, ⟨fun h => absurd h (by omega), fun i hi => absurd hi (Nat.not_lt_zero _)⟩, by omega⟩
  · simp only [if_true] at hmeq
    subst hmeq
    simp only [List.cons.injEq, Value.slice.injEq, and_true] at hcs
    obtain ⟨rfl, rfl, rfl⟩ := hcs
    have hlim : len ≤ 1048576 := by
      subst hx
      refine Nat.le_trans ?_ hb
      refine Nat.le_trans ?_ (slice_many _ _)
      refine Nat.le_trans ?_ (many _)
      simp
    by_cases h0 : 0 < len
    · obtain ⟨P, o, spot⟩ := a
      have hspot : spot = none := by
        obtain ⟨cs', h1, h2⟩ := hall 0 (by omega)
        rw [cells41] at h1
        obtain ⟨_, hlen, hcell⟩ := World.cells?_some h1
        have hc := hcell 0 (by omega)
        rw [List.getElem?_eq_getElem (by omega)] at hc
        have := World.cell?_spot hc
        simpa [Addr.add] using this
      subst hspot
      have each : ∀ i, i < len → ∃ q : Aq, AqAt W P (o + i * 5) q ∧ q.key.size ≤ 1048576 := by
        intro i hi
        obtain ⟨cs', h1, h2⟩ := hall i (by omega)
        have hDi : Rows.uptoBulk (D i) ≤ 1048576 := by
          subst hx
          refine Nat.le_trans ?_ hb
          refine Nat.le_trans ?_ (slice_many _ _)
          exact all_mem (List.mem_map.2 ⟨i, List.mem_range.2 hi, rfl⟩)
        rw [cells41, Addr.add_lit] at h1
        obtain ⟨_, hlen, hcell⟩ := World.cells?_some h1
        obtain ⟨xs, k, hk, hxy, _, hxl, hf⟩ := DataW.trod_struct Try.underlying41 h2
        match xs, hxl, cs', hlen with
        | [y0, y1, y2, y3, y4], _, [v0, v1, v2, v3, v4], _ =>
          have g0 := hf 0 _ rfl
          have g1 := hf 1 _ rfl
          have g2 := hf 2 _ rfl
          have g3 := hf 3 _ rfl
          have g4 := hf 4 _ rfl
          simp [cells3, cells9] at g0 g1 g2 g3 g4
          obtain ⟨k0, q0, _, _⟩ := DataW.trod_int Try.underlying3 g0
          obtain ⟨k1, q1, _, _⟩ := DataW.trod_int Try.underlying3 g1
          obtain ⟨k2, q2, _, _⟩ := DataW.trod_int Try.underlying3 g2
          obtain ⟨k3, q3, _, _⟩ := DataW.trod_int Try.underlying3 g3
          obtain ⟨s4, q4, e4, _⟩ := DataW.trod_string Try.underlying9 g4
          simp only [List.cons.injEq, and_true] at q0 q1 q2 q3 q4
          subst q0 q1 q2 q3 q4
          have hD : D i = .agg [y0.1, y1.1, y2.1, y3.1, y4.1] := by
            have := hxy
            simp at this
            exact this.1
          rw [hD] at hDi
          have hall2 := Nat.le_trans (agg_many _) hDi
          have mb : Rows.uptoBulk y4.1 ≤ 1048576 := Nat.le_trans (all_mem (by simp)) hall2
          rw [e4] at mb
          have ms := Nat.le_trans (str_many (H := H) s4.data.toList) mb
          have f0 := hcell 0 (by omega)
          have f1 := hcell 1 (by omega)
          have f2 := hcell 2 (by omega)
          have f3 := hcell 3 (by omega)
          have f4 := hcell 4 (by omega)
          simp only [Addr.add_lit] at f0 f1 f2 f3 f4
          exact ⟨⟨k0, k1, k2, k3, s4⟩, ⟨by simpa using f0, by simpa using f1, by simpa using f2, by simpa using f3, by simpa using f4⟩, by simpa using ms⟩
      obtain ⟨f, hf⟩ := pick_lt each
      exact ⟨f, ⟨fun _ => ⟨P, o, rfl, block_lt_of_cell (hf 0 h0).1.c0, fun i hi => ⟨(hf i hi).1.c0, (hf i hi).1.c1, (hf i hi).1.c2, (hf i hi).1.c3, (hf i hi).1.c4⟩⟩, fun i hi => (hf i hi).2⟩, hlim⟩
    · exact ⟨fun _ => default, ⟨fun h => absurd h h0, fun i hi => absurd hi (by omega)⟩, hlim⟩
end Go.Proofs.Ytagjmpdimphfaaa.rg
