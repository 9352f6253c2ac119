import Derived.Test.YthmloakkefiicaaDiskR
namespace Go.Proofs.Ythmloakkefiicaa.dk
open Go.ChangeShapes Go.WideShapes Go.ChangeAt Go.RowKit
theorem read_off {w : World} {D S : Nat} {d : Dk} (h : DiskAt w D S d) (s : Int) (ho : d.on = false) :
    Calls Try.prog 17 #[.pointer (some ⟨D, 0, none⟩), .int .i64 s] w fun r w' => r = .returned (.tuple #[.slice none 0 0, .int .i64 3]) ∧ w' = w := by
  have hc := reach_any w D S d.n d.on s h.c0 h.c1
  rw [show reachE d.on d.n s = 3 from by simp [reachE, ho]] at hc
  go_enter Try.func17, Try.ntmps17
  go_wp2_with fail
  refine hc.mono ?_
  rintro r w' ⟨rfl, rfl⟩
  go_wp2
  go_ret2
  exact ⟨rfl, rfl⟩
theorem read_sector {w : World} {D S : Nat} {d : Dk} (h : DiskAt w D S d) (s : Int) (ho : d.on = true) (hs : s < 0 ∨ (d.n : Int) ≤ s) :
    Calls Try.prog 17 #[.pointer (some ⟨D, 0, none⟩), .int .i64 s] w fun r w' => r = .returned (.tuple #[.slice none 0 0, .int .i64 10]) ∧ w' = w := by
  have hc := reach_any w D S d.n d.on s h.c0 h.c1
  rw [show reachE d.on d.n s = 10 from by simp [reachE, ho, hs]] at hc
  clear hs
  go_enter Try.func17, Try.ntmps17
  go_wp2_with fail
  refine hc.mono ?_
  rintro r w' ⟨rfl, rfl⟩
  go_wp2
  go_ret2
  exact ⟨rfl, rfl⟩
theorem sectors_any {w : World} {D S : Nat} {d : Dk} (h : DiskAt w D S d) :
    Calls Try.prog 26 #[.pointer (some ⟨D, 0, none⟩)] w fun r w' => r = .returned (.int .i64 d.n) ∧ w' = w := by
  have h0 := h.c0
  go_enter Try.func26, Try.ntmps26
  go_wp2
  go_ret
  exact ⟨rfl, rfl⟩
set_option maxHeartbeats 400000 in
theorem reads_eq {w : World} {D S : Nat} {d : Dk} (h : DiskAt w D S d) (m : Nat) (ho : d.on = true) (hs1 : m < d.n) (v : Value) (g c : Nat) (hb : Bytes w v g c (d.sec m)) :
    Calls Try.prog 20 #[.pointer (some ⟨D, 0, none⟩), .int .i64 m, v] w fun r w' => r = .returned (.bool true) ∧ Apart [] w w' := by
  go_enter Try.func20, Try.ntmps20
  go_wp2_with fail
  refine (read_good h m ho hs1).mono ?_
  rintro r w1 ⟨v1, g1, c1, rfl, hb1, hg1, a1⟩
  go_wp2_with fail
  refine (num_any _ _).mono ?_
  rintro r w2 ⟨rfl, rfl⟩
  go_wp2_with fail
  refine (same_eq _ _ _ _ _ _ _ _ hb1 (hb.kept a1 (by simp))).mono ?_
  rintro r w3 ⟨rfl, rfl⟩
  go_wp2
  go_ret
  exact ⟨rfl, a1⟩

def Dk.armedBy (d : Dk) (a t : Int) : Dk := if d.on then { d with armed := decide (0 ≤ a), after := a, torn := min (max t 0) 512 } else d
theorem arm_off {w : World} {D S : Nat} {d : Dk} (h : DiskAt w D S d) (a t : Int) (ho : d.on = false) :
    Calls Try.prog 23 #[.pointer (some ⟨D, 0, none⟩), .int .i64 a, .int .i64 t] w fun r w' => r = .returned (.tuple #[]) ∧ w' = w := by
  have h1 := h.c1
  rw [ho] at h1
  go_enter Try.func23, Try.ntmps23
  go_wp2
  exact bodyPost_ret (v := .tuple #[]) (by simp [results, Try.results23, go_sem]) rfl ⟨rfl, rfl⟩
theorem arm_walk {w : World} {D S : Nat} {d : Dk} (h : DiskAt w D S d) (a t : Int) (ho : d.on = true) :
    Calls Try.prog 23 #[.pointer (some ⟨D, 0, none⟩), .int .i64 a, .int .i64 t] w fun r w' => r = .returned (.tuple #[]) ∧ w' = ((w.setCell ⟨D, 2, none⟩ (.bool (decide (0 ≤ a)))).setCell ⟨D, 3, none⟩ (.int .i64 a)).setCell ⟨D, 4, none⟩ (.int .i64 (if t < 0 then 0 else if 512 < t then 512 else t)) := by
  have h1 := h.c1
  rw [ho] at h1
  have h2 := h.c2
  have h3 := h.c3
  have h4 := h.c4
  have f2 := h.fr 2
  have f3 := h.fr 3
  have f4 := h.fr 4
  clear ho
  by_cases c1 : t < 0
  · rw [if_pos c1]
    go_enter Try.func23, Try.ntmps23
    go_wp2
    go_end0
    exact ⟨rfl, rfl⟩
  · rw [if_neg c1]
    by_cases c2 : 512 < t
    · rw [if_pos c2]
      go_enter Try.func23, Try.ntmps23
      go_wp2
      go_end0
      exact ⟨rfl, rfl⟩
    · rw [if_neg c2]
      go_enter Try.func23, Try.ntmps23
      go_wp2
      go_end0
      exact ⟨rfl, rfl⟩
theorem arm_on {w : World} {D S : Nat} {d : Dk} (h : DiskAt w D S d) (a t : Int) (ho : d.on = true) :
    Calls Try.prog 23 #[.pointer (some ⟨D, 0, none⟩), .int .i64 a, .int .i64 t] w fun r w' => r = .returned (.tuple #[]) ∧ DiskAt w' D S { d with armed := decide (0 ≤ a), after := a, torn := min (max t 0) 512 } ∧ Apart [D] w w' := by
  refine (arm_walk h a t ho).mono ?_
  rintro r w' ⟨rfl, rfl⟩
  have e : (if t < 0 then (0 : Int) else if 512 < t then 512 else t) = min (max t 0) 512 := by
    split
    · omega
    · split <;> omega
  rw [e]
  exact ⟨rfl, ((h.put2 _).put3 _).put4 _, (((Apart.refl _ _).setCell (by simp) _).setCell (by simp) _).setCell (by simp) _⟩

/-! Image -/
def Dk.img (d : Dk) (k : Nat) : List Int := d.mem.take (k * 512) ++ rep (d.n * 512 - k * 512) 0
theorem img_length {w : World} {D S : Nat} {d : Dk} (h : DiskAt w D S d) (k : Nat) (hk : k ≤ d.n) : (d.img k).length = d.n * 512 := by
  have := h.lmem
  simp [Dk.img, rep]; omega
theorem img_next {w : World} {D S : Nat} {d : Dk} (h : DiskAt w D S d) (k : Nat) (hk : k < d.n) : splice (d.img k) (k * 512) (d.sec k) = d.img (k + 1) := by
  have hl := h.lmem
  have e1 : (d.img k).take (k * 512) = d.mem.take (k * 512) := by
    rw [Dk.img, List.take_append_of_le_length (by simp; omega), List.take_take, Nat.min_self]
  have e2 : (d.img k).drop (k * 512 + 512) = rep (d.n * 512 - (k + 1) * 512) 0 := by
    rw [Dk.img, List.drop_append, List.drop_eq_nil_of_le (by simp; omega)]
    simp [rep]; omega
  unfold splice
  rw [e1, sec_length h k hk, e2, ← List.append_assoc]
  congr 1
  rw [show (k + 1) * 512 = k * 512 + 512 from by omega, List.take_add]
  rfl
theorem img_copy {w wr : World} {D S : Nat} {d : Dk} (h : DiskAt w D S d) (a : Apart [] w wr) (B k : Nat) (hk : k < d.n) (hb : wr.heap[B]? = some (.cells (u8s (d.img k)).toArray 5 (0, 0))) :
    Sem.run Try.prog (Builtin.copy_ #[30, 30] 3 #[Value.slice (some ⟨B, k * 512, none⟩) (d.n * 512 - k * 512) (d.n * 512 - k * 512), Value.slice (some ⟨S, k * 512, none⟩) 512 512]) wr.drew =
      .ok (goInt 512) (wr.drew.setRow B (u8s (d.img (k + 1))).toArray) := by
  have hl := sec_length h k hk
  have hi := img_length h k (by omega)
  have hcp := run_copy_row Try.prog wr.drew 30 30 3 5 B (k * 512) (d.n * 512 - k * 512) (d.n * 512 - k * 512) ⟨S, k * 512, none⟩ 512 512 (u8s (d.img k)).toArray 5 (u8s (d.sec k)) Try.underlying30 (by kernel_rfl) hb (by rw [u8s_length, hl]; exact (Nat.min_eq_left (by omega)).symm) (fun j v hv => by
      obtain ⟨hj, rfl⟩ := u8s_at _ j v hv
      rw [Addr.add_lit, sec_at _ _ _ (by omega)]
      exact (a.cell (p := ⟨S, k * 512 + j, none⟩) (lt_of_heap h.hs) (by simp)).trans (h.ms _ (by omega))) (by rw [List.size_toArray, u8s_length, u8s_length, hl, hi]; omega) (u8s_one _)
  rw [hcp, u8s_length, hl, ← img_next h k hk, ← splice_u8s, u8s_length, hl, List.append_assoc]
  rfl
set_option maxHeartbeats 400000 in
theorem image_any {w : World} {D S : Nat} {d : Dk} (h : DiskAt w D S d) (hn1 : 1 ≤ d.n) :
    Calls Try.prog 22 #[.pointer (some ⟨D, 0, none⟩)] w fun r w' => ∃ v g cap, r = .returned v ∧ Bytes w' v g cap d.mem ∧ w.heap.size ≤ g ∧ Apart [] w w' := by
  have hrun := make_bytes w (d.n * 512) (by have := h.hn; omega)
  rw [show ((d.n * 512 : Nat) : Int) = (d.n : Int) * 512 from by omega] at hrun
  have hn := h.hn
  have k0 := h.c0
  have hD := lt_of_heap h.hd
  have e0 : u8s (rep (d.n * 512) 0) = u8s (d.img 0) := by simp [Dk.img]
  rw [e0] at hrun
  clear e0
  go_enter Try.func22, Try.ntmps22
  go_wp2
  go_loopw [17] (fun i wr => ∃ k : Nat, k ≤ d.n ∧ i = .int .i64 k ∧ wr.heap[w.heap.size]? = some (.cells (u8s (d.img k)).toArray 5 (0, 0)) ∧ Apart [] w wr) (fun i _ => d.n - (intOf i).toNat)
  case atStart => exact ⟨0, Nat.zero_le _, rfl, heap_alloc_new _ _, (Apart.refl _ _).alloc _⟩
  case round =>
    obtain ⟨k, hk, rfl, hb, ha⟩ := hrel
    have k0r := (ha.cell (p := ⟨D, 0, none⟩) hD (by simp)).trans k0
    have HB : Hid (wr.heap[w.heap.size]? = some (.cells (u8s (d.img k)).toArray 5 (0, 0))) := hb
    clear hrun hb
    by_cases hlt : k < d.n
    · have hcp := img_copy h ha w.heap.size k hlt HB.out
      have hne : ¬ (d.n * 512 = k * 512) := by omega
      go_wp2_with fail
      go_region
      have hb2 : (wr.drew.setRow w.heap.size (u8s (d.img (k + 1))).toArray).heap[w.heap.size]? = some (.cells (u8s (d.img (k + 1))).toArray 5 (0, 0)) := setRow_heap _ _ _ _ _ _ HB.out
      have ha2 : Apart [] w (wr.drew.setRow w.heap.size (u8s (d.img (k + 1))).toArray) := by
        refine ⟨ha.os, ha.tape, ha.output, by simpa using ha.size, fun i hi hx => ?_⟩
        rw [setRow_other _ _ _ _ (by omega)]
        exact ha.block i hi hx
      generalize wr.drew.setRow w.heap.size (u8s (d.img (k + 1))).toArray = W at *
      go_wp2
      go_roundw
      case rel => exact ⟨k + 1, by omega, by go_num, hb2, ha2⟩
      case measure => simp [intOf]; omega
    · have e : k = d.n := by omega
      have E : Hid (k = d.n) := e
      clear e
      go_wp2
      go_ret
      have hi : d.img k = d.mem := by
        have := h.lmem
        rw [E.out, Dk.img, List.take_of_length_le (by omega)]; simp [rep]
      refine ⟨_, w.heap.size, d.n * 512, rfl, ⟨by rw [h.lmem, Nat.mul_comm]; rfl, fun j hj => ?_, by rw [h.lmem]; omega, ⟨_, HB.out, by rw [List.size_toArray, u8s_length, hi, h.lmem, Nat.mul_comm]⟩, by rw [h.lmem]; omega⟩, Nat.le_refl _, ha⟩
      rw [cell_of_row _ _ _ _ _ _ HB.out, hi]; simp [u8s, hj]
end Go.Proofs.Ythmloakkefiicaa.dk
