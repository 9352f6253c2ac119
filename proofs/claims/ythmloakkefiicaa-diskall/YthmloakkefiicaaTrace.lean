import Derived.Test.YthmloakkefiicaaFrom
namespace Go.Proofs.Ythmloakkefiicaa.dk
open Go.ChangeShapes Go.WideShapes Go.ChangeAt Go.RowKit
def i64s (l : List Int) : List Value := l.map (Value.int .i64)
theorem info3 : (Try.prog.info? 3).map (fun i => (i.zero, i.size, i.bytes)) = some (some (.int .i64 0), 1, 8) := by kernel_rfl
theorem made1i (n : Nat) : madeCells #[Value.int .i64 0] n = (i64s (rep n 0)).toArray := by
  apply Array.ext
  · simp [madeCells, i64s, rep]
  · intro i h1 h2
    simp [madeCells, i64s, rep, Nat.mod_one]
theorem make_ints (w : World) (n : Nat) (h2 : n ≤ 64) : Sem.run Try.prog (Instr.makeSlice 44 (Value.int .i64 n) (Value.int .i64 n)) w = .ok (.slice (some ⟨w.heap.size, 0, none⟩) n n) (w.alloc (.cells (i64s (rep n 0)).toArray 3)) := by
  obtain ⟨i, hi, hz0, hz1, hz2⟩ := info_parts info3
  have := run_make (P := Try.prog) w 44 3 i _ Try.underlying44 hi hz0 .i64 .i64 n n (by omega) (by omega) (by rw [hz2]; omega) (by omega)
  rw [this, hz1]
  simp only [Int.toNat_natCast, Nat.mul_one]
  rw [show (Value.int IntKind.i64 0).cells = #[Value.int .i64 0] from rfl, made1i]
/-- The trace, the oldest first. -/
def Dk.kept (d : Dk) : Nat := min d.writes 64
def Dk.trace (d : Dk) : List Int := (List.range d.kept).map fun i => d.tr.getD ((d.writes - d.kept + i) % 64) 0
def Dk.part (d : Dk) (k : Nat) : List Int := (List.range d.kept).map fun i => if i < k then d.tr.getD ((d.writes - d.kept + i) % 64) 0 else 0
theorem part_zero (d : Dk) : d.part 0 = rep d.kept 0 := by
  apply List.ext_getElem
  · simp [Dk.part, rep]
  · intro i h1 h2; simp [Dk.part, rep]
theorem part_full (d : Dk) : d.part d.kept = d.trace := by
  apply List.ext_getElem
  · simp [Dk.part, Dk.trace]
  · intro i h1 h2; simp [Dk.part] at h1; simp [Dk.part, Dk.trace, h1]
theorem part_next (d : Dk) (k : Nat) : (i64s (d.part k)).toArray.setIfInBounds k (.int .i64 (d.tr.getD ((d.writes - d.kept + k) % 64) 0)) = (i64s (d.part (k + 1))).toArray := by
  apply Array.ext
  · simp [Dk.part, i64s]
  · intro i h1 h2
    simp [Dk.part, i64s] at h1 h2
    rw [Array.getElem_setIfInBounds (by simpa [Dk.part, i64s] using h1)]
    by_cases e : k = i
    · subst e; simp [Dk.part, i64s]
    · simp only [e, if_false]
      simp only [Dk.part, i64s, List.getElem_toArray, List.getElem_map, List.getElem_range]
      by_cases h : i < k
      · simp [h, show i < k + 1 by omega]
      · simp [h, show ¬ i < k + 1 by omega]
set_option maxHeartbeats 400000 in
theorem trace_long {w : World} {D S : Nat} {d : Dk} (h : DiskAt w D S d) (V : Nat) (hV : d.writes = V + 64) (hc : 0 < V) :
    Calls Try.prog 24 #[.pointer (some ⟨D, 0, none⟩)] w fun r w' => ∃ g, r = .returned (.slice (some ⟨g, 0, none⟩) 64 64) ∧ w'.heap[g]? = some (.cells (i64s d.trace).toArray 3 (0, 0)) ∧ w.heap.size ≤ g ∧ Apart [] w w' := by
  have hrun : Sem.run Try.prog (Instr.makeSlice 44 (Value.int .i64 64) (Value.int .i64 64)) w = _ := make_ints w 64 (by decide)
  have hw : V ≤ 1000000 := by have := h.hw; omega
  have k5 : w.cell? ⟨D, 5, none⟩ = some (.int .i64 ((V : Int) + 64)) := by rw [h.c5, hV]; simp
  have hD := lt_of_heap h.hd
  have hK : d.kept = 64 := by unfold Dk.kept; omega
  have HK : Hid (d.kept = 64) := hK
  have HV : Hid (d.writes = V + 64) := hV
  have e0 : i64s (rep 64 0) = i64s (d.part 0) := by rw [part_zero, hK]
  rw [e0] at hrun
  clear e0 hK hV
  go_enter Try.func24, Try.ntmps24
  go_wp2
  go_loopw [15] (fun i wr => ∃ k : Nat, k ≤ 64 ∧ i = .int .i64 k ∧ wr.heap[w.heap.size]? = some (.cells (i64s (d.part k)).toArray 3 (0, 0)) ∧ Apart [] w wr) (fun i _ => 64 - (intOf i).toNat)
  case atStart => exact ⟨0, Nat.zero_le _, rfl, heap_alloc_new _ _, (Apart.refl _ _).alloc _⟩
  case round =>
    clear hrun
    obtain ⟨k, hk, rfl, hb, ha⟩ := hrel
    have k5r := (ha.cell (p := ⟨D, 5, none⟩) hD (by simp)).trans k5
    have ktr := (ha.cell (p := ⟨D, 6 + (V + k) % 64, none⟩) hD (by simp)).trans (h.ct _ (Nat.mod_lt _ (by decide)))
    have HB : Hid (wr.heap[w.heap.size]? = some (.cells (i64s (d.part k)).toArray 3 (0, 0))) := hb
    by_cases hlt : k < 64
    · have hl : (d.part k).length = 64 := by simp [Dk.part, HK.out]
      have kg : wr.cell? ⟨w.heap.size, k, none⟩ = some (.int .i64 ((d.part k).getD k 0)) := by
        rw [cell_of_row _ _ _ _ _ _ hb]; simp [i64s, hl, hlt]
      have kf := frozen_of_row wr w.heap.size k _ _ hb
      have hb2 : (wr.setCell ⟨w.heap.size, k, none⟩ (.int .i64 (d.tr.getD ((V + k) % 64) 0))).drew.heap[w.heap.size]? = some (.cells (i64s (d.part (k + 1))).toArray 3 (0, 0)) := by
        have e : (V + k) % 64 = (d.writes - d.kept + k) % 64 := by rw [HK.out, HV.out]; congr 1
        show (wr.setCell ⟨w.heap.size, k, none⟩ _).heap[w.heap.size]? = _
        rw [heap_setCell_same _ _ _ _ _ _ hb, e, part_next]
      have ha2 : Apart [] w (wr.setCell ⟨w.heap.size, k, none⟩ (.int .i64 (d.tr.getD ((V + k) % 64) 0))).drew := by
        refine ⟨ha.os, ha.tape, ha.output, by simpa [World.setCell] using ha.size, fun i hi hx => ?_⟩
        show (wr.setCell ⟨w.heap.size, k, none⟩ _).heap[i]? = _
        rw [heap_setCell_other _ _ _ _ (by show i ≠ w.heap.size; omega)]; exact ha.block i hi hx
      have HB2 : Hid ((wr.setCell ⟨w.heap.size, k, none⟩ (.int .i64 (d.tr.getD ((V + k) % 64) 0))).drew.heap[w.heap.size]? = some (.cells (i64s (d.part (k + 1))).toArray 3 (0, 0))) := hb2
      clear hb hl hb2
      obtain ⟨tv, htv⟩ : ∃ tv, tv = d.tr.getD ((V + k) % 64) 0 := ⟨_, rfl⟩
      rw [← htv] at ktr HB2 ha2
      clear htv
      go_wp2_with fail
      go_region
      go_wp2
      go_roundw
      case rel => exact ⟨k + 1, by omega, by go_num, HB2.out, ha2⟩
      case measure => simp [intOf]; omega
    · have e : k = 64 := by omega
      have E : Hid (k = 64) := e
      clear e
      go_wp2
      go_ret
      have hbb := HB.out
      rw [E.out, ← HK.out, part_full] at hbb
      exact ⟨w.heap.size, rfl, hbb, Nat.le_refl _, ha⟩
set_option maxHeartbeats 400000 in
theorem trace_short {w : World} {D S : Nat} {d : Dk} (h : DiskAt w D S d) (V : Nat) (hV : d.writes = V) (hc : V ≤ 64) :
    Calls Try.prog 24 #[.pointer (some ⟨D, 0, none⟩)] w fun r w' => ∃ g, r = .returned (.slice (some ⟨g, 0, none⟩) V V) ∧ w'.heap[g]? = some (.cells (i64s d.trace).toArray 3 (0, 0)) ∧ w.heap.size ≤ g ∧ Apart [] w w' := by
  have hrun := make_ints w V hc
  have k5 : w.cell? ⟨D, 5, none⟩ = some (.int .i64 (V : Int)) := by rw [h.c5, hV]
  have hD := lt_of_heap h.hd
  have hK : d.kept = V := by unfold Dk.kept; omega
  have HK : Hid (d.kept = V) := hK
  have HV : Hid (d.writes = V) := hV
  have hc' : ¬ ((64 : Int) < (V : Int)) := by omega
  have e0 : i64s (rep V 0) = i64s (d.part 0) := by rw [part_zero, hK]
  rw [e0] at hrun
  clear e0 hK hV
  go_enter Try.func24, Try.ntmps24
  go_wp2
  go_loopw [15] (fun i wr => ∃ k : Nat, k ≤ V ∧ i = .int .i64 k ∧ wr.heap[w.heap.size]? = some (.cells (i64s (d.part k)).toArray 3 (0, 0)) ∧ Apart [] w wr) (fun i _ => V - (intOf i).toNat)
  case atStart => exact ⟨0, Nat.zero_le _, rfl, heap_alloc_new _ _, (Apart.refl _ _).alloc _⟩
  case round =>
    clear hrun
    obtain ⟨k, hk, rfl, hb, ha⟩ := hrel
    have k5r := (ha.cell (p := ⟨D, 5, none⟩) hD (by simp)).trans k5
    have ktr := (ha.cell (p := ⟨D, 6 + k % 64, none⟩) hD (by simp)).trans (h.ct _ (Nat.mod_lt _ (by decide)))
    have HB : Hid (wr.heap[w.heap.size]? = some (.cells (i64s (d.part k)).toArray 3 (0, 0))) := hb
    by_cases hlt : k < V
    · have hl : (d.part k).length = V := by simp [Dk.part, HK.out]
      have kg : wr.cell? ⟨w.heap.size, k, none⟩ = some (.int .i64 ((d.part k).getD k 0)) := by
        rw [cell_of_row _ _ _ _ _ _ hb]; simp [i64s, hl, hlt]
      have kf := frozen_of_row wr w.heap.size k _ _ hb
      have hb2 : (wr.setCell ⟨w.heap.size, k, none⟩ (.int .i64 (d.tr.getD (k % 64) 0))).drew.heap[w.heap.size]? = some (.cells (i64s (d.part (k + 1))).toArray 3 (0, 0)) := by
        have e : k % 64 = (d.writes - d.kept + k) % 64 := by rw [HK.out, HV.out]; congr 1; omega
        show (wr.setCell ⟨w.heap.size, k, none⟩ _).heap[w.heap.size]? = _
        rw [heap_setCell_same _ _ _ _ _ _ hb, e, part_next]
      have ha2 : Apart [] w (wr.setCell ⟨w.heap.size, k, none⟩ (.int .i64 (d.tr.getD (k % 64) 0))).drew := by
        refine ⟨ha.os, ha.tape, ha.output, by simpa [World.setCell] using ha.size, fun i hi hx => ?_⟩
        show (wr.setCell ⟨w.heap.size, k, none⟩ _).heap[i]? = _
        rw [heap_setCell_other _ _ _ _ (by show i ≠ w.heap.size; omega)]; exact ha.block i hi hx
      have HB2 : Hid ((wr.setCell ⟨w.heap.size, k, none⟩ (.int .i64 (d.tr.getD (k % 64) 0))).drew.heap[w.heap.size]? = some (.cells (i64s (d.part (k + 1))).toArray 3 (0, 0))) := hb2
      clear hb hl hb2
      obtain ⟨tv, htv⟩ : ∃ tv, tv = d.tr.getD (k % 64) 0 := ⟨_, rfl⟩
      rw [← htv] at ktr HB2 ha2
      clear htv
      go_wp2_with fail
      go_region
      go_wp2
      go_roundw
      case rel => exact ⟨k + 1, by omega, by go_num, HB2.out, ha2⟩
      case measure => simp [intOf]; omega
    · have e : k = V := by omega
      subst e
      go_wp2
      go_ret
      have hbb := HB.out
      rw [← HK.out, part_full] at hbb
      exact ⟨w.heap.size, rfl, hbb, Nat.le_refl _, ha⟩
end Go.Proofs.Ythmloakkefiicaa.dk
