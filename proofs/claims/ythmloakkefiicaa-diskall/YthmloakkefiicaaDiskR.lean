import Derived.Test.YthmloakkefiicaaDiskN
import Derived.Deep.WholeRow
namespace Go.Proofs.Ythmloakkefiicaa.dk
open Go.ChangeShapes Go.WideShapes Go.ChangeAt Go.RowKit
theorem made1 (n : Nat) : madeCells #[Value.int .u8 0] n = (u8s (List.replicate n 0)).toArray := by
  apply Array.ext
  · simp [madeCells, u8s]
  · intro i h1 h2
    simp [madeCells, u8s, Nat.mod_one]
theorem make_bytes (w : World) (n : Nat) (h2 : n ≤ 4194304) : Sem.run Try.prog (Instr.makeSlice 30 (Value.int .i64 n) (Value.int .i64 n)) w = .ok (.slice (some ⟨w.heap.size, 0, none⟩) n n) (w.alloc (.cells (u8s (rep n 0)).toArray 5)) := by
  obtain ⟨i, hi, hz0, hz1, hz2⟩ := info_parts info5
  have := run_make (P := Try.prog) w 30 5 i _ Try.underlying30 hi hz0 .i64 .i64 n n (by omega) (by omega) (by rw [hz2]; omega) (by omega)
  rw [this, hz1]
  simp only [Int.toNat_natCast, Nat.mul_one]
  rw [show (Value.int IntKind.u8 0).cells = #[Value.int .u8 0] from rfl, made1]; rfl
theorem rep_length (n : Nat) (b : Int) : (rep n b).length = n := by simp [rep]
def Dk.sec (d : Dk) (m : Nat) : List Int := (d.mem.drop (m * 512)).take 512
theorem sec_length {w : World} {D S : Nat} {d : Dk} (h : DiskAt w D S d) (m : Nat) (hs1 : m < d.n) : (d.sec m).length = 512 := by
  have := h.lmem
  simp [Dk.sec]; omega
theorem sec_at (d : Dk) (m j : Nat) (hj : j < 512) : (d.sec m).getD j 0 = d.mem.getD (m * 512 + j) 0 := by
  simp [Dk.sec, List.getD_eq_getElem?_getD, List.getElem?_take_of_lt hj, List.getElem?_drop]
theorem read_copy {w : World} {D S : Nat} {d : Dk} (h : DiskAt w D S d) (m : Nat) (hs1 : m < d.n) (L : List Value) (hL : L = u8s (rep 512 0)) :
    Sem.run Try.prog (Builtin.copy_ #[30, 30] 3 #[Value.slice (some ⟨w.heap.size, 0, none⟩) 512 512, Value.slice (some ⟨S, m * 512, none⟩) 512 512]) (w.alloc (.cells L.toArray 5)) =
      .ok (goInt 512) ((w.alloc (.cells L.toArray 5)).setRow w.heap.size (u8s (d.sec m)).toArray) := by
  subst hL
  have hl := sec_length h m hs1
  have hcp := run_copy_row Try.prog (w.alloc (.cells (u8s (rep 512 0)).toArray 5)) 30 30 3 5 w.heap.size 0 512 512 ⟨S, m * 512, none⟩ 512 512 (u8s (rep 512 0)).toArray 5 (u8s (d.sec m)) Try.underlying30 (by kernel_rfl) (heap_alloc_new _ _) (by rw [u8s_length, hl]; rfl) (fun j v hv => by
      obtain ⟨hj, rfl⟩ := u8s_at _ j v hv
      rw [Addr.add_lit, World.cell?_alloc_past _ _ _ (lt_of_heap h.hs), h.ms _ (by omega), sec_at _ _ _ (by omega)]) (by rw [u8s_length, hl, Nat.zero_add, List.size_toArray, u8s_length, rep_length]; exact Nat.le_refl _) (u8s_one _)
  rw [hcp, u8s_length, hl, Nat.zero_add, List.take_zero, List.nil_append, List.drop_of_length_le (by rw [u8s_length, rep_length]; exact Nat.le_refl _), List.append_nil]
  rfl
set_option maxHeartbeats 400000 in
set_option maxRecDepth 10000 in
theorem read_good {w : World} {D S : Nat} {d : Dk} (h : DiskAt w D S d) (m : Nat) (ho : d.on = true) (hs1 : m < d.n) :
    Calls Try.prog 17 #[.pointer (some ⟨D, 0, none⟩), .int .i64 m] w fun r w' => ∃ v g cap, r = .returned (.tuple #[v, .int .i64 0]) ∧ Bytes w' v g cap (d.sec m) ∧ w.heap.size ≤ g ∧ Apart [] w w' := by
  have hc := reach_any w D S d.n d.on m h.c0 h.c1
  rw [show reachE d.on d.n m = 0 from by simp [reachE, ho]; omega] at hc
  have hrun : Sem.run Try.prog (Instr.makeSlice 30 (Value.int .i64 512) (Value.int .i64 512)) w = _ := make_bytes w 512 (by decide)
  obtain ⟨L, hL⟩ : ∃ L, L = u8s (rep 512 0) := ⟨_, rfl⟩
  rw [← hL] at hrun
  have HL : Hid (L = u8s (rep 512 0)) := hL
  clear hL
  have hcp := read_copy h m hs1 L HL.out
  obtain ⟨M, hM⟩ : ∃ M, M = u8s (d.sec m) := ⟨_, rfl⟩
  rw [← hM] at hcp
  have HM : Hid (M = u8s (d.sec m)) := hM
  clear hM
  have hn := h.hn
  have k0 := h.c0
  have hD := lt_of_heap h.hd
  go_enter Try.func17, Try.ntmps17
  go_wp2_with fail
  refine hc.mono ?_
  rintro r w' ⟨rfl, rfl⟩
  clear hc
  go_wp2
  go_ret2
  have e : (w'.alloc (.cells L.toArray 5)).setRow w'.heap.size M.toArray = w'.alloc (.cells M.toArray 5) := World.setRow_alloc_new _ _ _ _
  refine ⟨_, w'.heap.size, 512, rfl, ⟨by rw [sec_length h m hs1]; rfl, fun j hj => ?_, by rw [sec_length h m hs1]; decide, ?_, by rw [sec_length h m hs1]; exact Nat.le_refl _⟩, Nat.le_refl _, ?_⟩
  · rw [e, World.cell?_alloc_new, HM.out]; simp [u8s, hj]
  · rw [e]; exact ⟨_, heap_alloc_new _ _, by rw [HM.out, List.size_toArray, u8s_length, sec_length h m hs1]⟩
  · rw [e]; exact (Apart.refl _ _).alloc _
def strOf (l : List Int) : ByteArray := l.foldl (fun r n => r.push (UInt8.ofNat n.toNat)) ByteArray.empty
theorem conv_run {w : World} {v : Value} {g c : Nat} {b : List Int} (h : Bytes w v g c b) : Sem.run Try.prog (convert 30 9 v) w = .ok (.string (strOf b)) w := by
  obtain ⟨rfl, q, p, _, _⟩ := h
  rw [run_convert_bytes_string w 30 9 5 _ _ _ Try.underlying30 Try.underlying5 Try.underlying9]
  refine run_bytesToString w _ _ _ b ?_
  have := run_loadCells_list (P := Try.prog) w ⟨g, 0, none⟩ (u8s b) (fun j v hv => by
    obtain ⟨hj, rfl⟩ := u8s_at b j v hv
    rw [Addr.add_lit, Nat.zero_add]; exact q j hj)
  rw [u8s_length] at this
  exact this
theorem same_eq (w : World) (v1 v2 : Value) (g1 c1 g2 c2 : Nat) (b : List Int) (h1 : Bytes w v1 g1 c1 b) (h2 : Bytes w v2 g2 c2 b) : Calls Try.prog 28 #[v1, v2] w fun r w' => r = .returned (.bool true) ∧ w' = w := by
  have e1 := conv_run h1
  have e2 := conv_run h2
  generalize strOf b = s at e1 e2
  go_enter Try.func28, Try.ntmps28
  go_wp2
  go_ret
  exact ⟨rfl, rfl⟩
end Go.Proofs.Ythmloakkefiicaa.dk
