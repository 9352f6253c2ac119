import Derived.Test.YthmloakkefiicaaDiskX
import Derived.Laws.Bits128
namespace Go.Proofs.Ythmloakkefiicaa.dk
open Go.ChangeShapes Go.WideShapes Go.ChangeAt Go.RowKit

theorem new_bad (w : World) (s : Int) (hs : s < 1 ∨ 4096 < s) :
    Calls Try.prog 11 #[.int .i64 s] w fun r w' => r = .returned (.tuple #[.pointer none, .int .i64 1]) ∧ w' = w := by
  rcases hs with hs | hs
  · go_enter Try.func11, Try.ntmps11
    go_wp2
    go_ret2
    exact ⟨rfl, rfl⟩
  · go_enter Try.func11, Try.ntmps11
    go_wp2
    go_ret2
    exact ⟨rfl, rfl⟩

theorem info75 : (Try.prog.info? 75).map (fun i => (i.zero, i.size, i.bytes)) = some (some (.agg (Array.replicate 512 (.int .u8 0))), 512, 512) := by kernel_rfl
theorem made512 (n : Nat) : madeCells (Array.replicate 512 (Value.int .u8 0)) n = (u8s (List.replicate n 0)).toArray := by
  apply Array.ext
  · simp [madeCells, u8s]
  · intro i h1 h2
    simp [madeCells, u8s, Nat.mod_lt]
def Dk.fresh (n : Nat) (m : List Int) : Dk := { n := n, on := true, armed := false, after := 0, torn := 0, writes := 0, tr := List.replicate 64 0, mem := m }
theorem make_run (w : World) (n : Nat) (h2 : n ≤ 4096) : Sem.run Try.prog (Instr.makeSlice 69 (Value.int .i64 n) (Value.int .i64 n)) w = .ok (.slice (some ⟨w.heap.size, 0, none⟩) n n) (w.alloc (.cells (u8s (List.replicate (n * 512) 0)).toArray 75)) := by
  obtain ⟨i, hi, hz0, hz1, hz2⟩ := info_parts info75
  have := run_make (P := Try.prog) w 69 75 i _ Try.underlying69 hi hz0 .i64 .i64 n n (by omega) (by omega) (by rw [hz2]; omega) (by omega)
  rw [this, hz1]
  simp only [Int.toNat_natCast]
  rw [show (Value.agg (Array.replicate 512 (Value.int .u8 0))).cells = Array.replicate 512 (Value.int .u8 0) from rfl, made512]
def Z70 : Array Value := (.slice none 0 0 :: .bool false :: .bool false :: .int .i64 0 :: .int .i64 0 :: .int .i64 0 :: (List.replicate 64 (0 : Int)).map (Value.int .i64)).toArray
theorem zero72 (W : World) : Sem.run Try.prog (zeroValue 72) W = .ok (.agg Z70) W := by
  have h : (Try.prog.info? 72).bind (·.zero) = some (.agg Z70) := by kernel_rfl
  obtain ⟨i, hi, hz⟩ := Option.bind_eq_some_iff.1 h
  simp [zeroValue, typeInfo, hi, hz]
theorem Z70_size : Z70.size = 70 := by kernel_rfl
theorem Z70_ne : ¬ (Z70 = #[]) := fun h => by have := congrArg Array.size h; rw [Z70_size] at this; simp at this
set_option maxHeartbeats 400000 in
set_option maxRecDepth 10000 in
theorem new_good (w : World) (n : Nat) (h1 : 1 ≤ n) (h2 : n ≤ 4096) :
    Calls Try.prog 11 #[.int .i64 n] w fun r w' => r = .returned (.tuple #[.pointer (some ⟨w.heap.size + 1, 0, none⟩), .int .i64 0]) ∧
      DiskAt w' (w.heap.size + 1) w.heap.size (Dk.fresh n (List.replicate (n * 512) 0)) ∧ Apart [] w w' := by
  have hrun := make_run w n h2
  have k1 : ¬ ((n : Int) < 1) := by omega
  have k2 : ¬ ((4096 : Int) < n) := by omega
  have hL : ∃ L, L = u8s (List.replicate (n * 512) 0) := ⟨_, rfl⟩
  obtain ⟨L, hL⟩ := hL
  rw [← hL] at hrun
  have HL : Hid (L = u8s (List.replicate (n * 512) 0)) := hL
  clear hL
  have hz := zero72
  have hz1 := Z70_size
  have hz2 := Z70_ne
  go_enter Try.func11, Try.ntmps11
  go_wp2
  go_ret2
  refine ⟨rfl, ⟨?_, ?_, by omega, rfl, by simp [Dk.fresh]; omega, h2, by simp [Dk.fresh]⟩, ((Apart.refl _ _).alloc _).alloc _⟩
  · rw [heap_alloc2_new]; rfl
  · rw [heap_alloc2_old, HL.out]; rfl
theorem bits63 (n : Int) : bits .and .i64 n 63 = n % 64 := by
  have h63 : (BitVec.ofInt 64 63).toNat = 2 ^ 6 - 1 := by decide
  have key : (BitVec.ofInt 64 n &&& BitVec.ofInt 64 63).toNat = (n % ((2 ^ 64 : Nat) : Int)).toNat % 2 ^ 6 := by
    rw [BitVec.toNat_and, BitVec.toNat_ofInt, h63, Nat.and_two_pow_sub_one_eq_mod]
  show IntKind.i64.wrap ((BitVec.ofInt 64 n &&& BitVec.ofInt 64 63).toNat : Nat) = n % 64
  rw [key, IntKind.wrap_i64]
  omega
theorem count_any (w : World) (s : Int) : Calls Try.prog 10 #[.int .i64 s] w fun r w' => r = .returned (.int .i64 (1 + s % 64)) ∧ w' = w := by
  have hb := bits63 s
  have h0 : 0 ≤ s % 64 := by omega
  have h1 : s % 64 ≤ 63 := by omega
  go_enter Try.func10, Try.ntmps10
  go_wp2
  go_ret
  exact ⟨rfl, rfl⟩
def slotI (s n : Int) : Int := s % n
theorem emod_of {s r q n : Int} (h : s = r + n * q) (h0 : 0 ≤ r) (h1 : r < n) : s % n = r := by
  subst h; rw [Int.add_mul_emod_self_left, Int.emod_eq_of_lt h0 h1]
theorem ret_int {k : IntKind} {a b : Int} (h : a = b) : Ending.returned (.int k a) = .returned (.int k b) := by rw [h]
theorem slot_any (w : World) (s n : Int) (hn : 0 < n) (hn2 : n ≤ 1000000) : Calls Try.prog 14 #[.int .i64 s, .int .i64 n] w fun r w' => r = .returned (.int .i64 (slotI s n)) ∧ w' = w := by
  have ht : s.tmod n + n * s.tdiv n = s := Int.tmod_add_mul_tdiv s n
  have a1 : s.tmod n < n := by
    have := Int.tmod_lt_of_pos s hn; omega
  have a2 : -n < s.tmod n := by
    by_cases h0 : 0 ≤ s
    · have := Int.tmod_nonneg n h0; omega
    · have e := Int.neg_tmod s n
      have := Int.tmod_lt_of_pos (-s) hn
      omega
  have e1 : s.tmod n < 0 → s.tmod n + n = slotI s n := fun hc =>
    (emod_of (q := s.tdiv n - 1) (by rw [Int.mul_sub]; omega) (by omega) (by omega)).symm
  have e2 : ¬ s.tmod n < 0 → s.tmod n = slotI s n := fun hc =>
    (emod_of (q := s.tdiv n) (by omega) (by omega) (by omega)).symm
  clear ht
  by_cases hc : s.tmod n < 0
  · have E : Hid (s.tmod n + n = slotI s n) := e1 hc
    clear e1 e2
    go_enter Try.func14, Try.ntmps14
    go_wp2
    go_ret
    exact ⟨ret_int E.out, rfl⟩
  · have E : Hid (s.tmod n = slotI s n) := e2 hc
    clear e1 e2
    go_enter Try.func14, Try.ntmps14
    go_wp2
    go_ret
    exact ⟨ret_int E.out, rfl⟩

/-! bytes of the caller's own -/
structure Bytes (w : World) (v : Value) (g cap : Nat) (bs : List Int) : Prop where
  val : v = .slice (some ⟨g, 0, none⟩) bs.length cap
  cells : ∀ j, j < bs.length → w.cell? ⟨g, j, none⟩ = some (.int .u8 (bs.getD j 0))
  pos : 0 < bs.length
  row : ∃ arr, w.heap[g]? = some (.cells arr 5 (0, 0)) ∧ arr.size = cap
  le : bs.length ≤ cap
theorem Bytes.lt {w : World} {v : Value} {g cap : Nat} {bs : List Int} (h : Bytes w v g cap bs) : g < w.heap.size := block_lt_of_cell (h.cells 0 h.pos)
theorem Bytes.kept {w w' : World} {v : Value} {g cap : Nat} {bs : List Int} {X : List Nat} (h : Bytes w v g cap bs) (a : Apart X w w') (hg : g ∉ X) : Bytes w' v g cap bs :=
  { h with
    cells := fun j hj => (a.cell (p := ⟨g, j, none⟩) h.lt hg).trans (h.cells j hj)
    row := by obtain ⟨arr, e, hs⟩ := h.row; exact ⟨arr, (a.block g h.lt hg).trans e, hs⟩ }
theorem info5 : (Try.prog.info? 5).map (fun i => (i.zero, i.size, i.bytes)) = some (some (.int .u8 0), 1, 1) := by kernel_rfl
theorem own_bytes {w : World} {base : Nat} {v : Value} {bs : List Int} (h : w.ownsRow base 5 1 v bs.length (u8s bs)) (hp : 0 < bs.length) : ∃ g cap, Bytes w v g cap bs ∧ base ≤ g := by
  have h0 := h
  obtain ⟨hl, ⟨_, hz⟩ | ⟨g, cap, cur, rfl, hb, hr, hle, _, hcs, _⟩⟩ := h
  · omega
  · refine ⟨g, cap, ⟨rfl, fun j hj => ?_, hp, ⟨_, hr, by omega⟩, hle⟩, hb⟩
    rw [h0.cellAt j (by omega)]
    simp [u8s, hj]
def rep (n : Nat) (b : Int) : List Int := List.replicate n b
theorem rep_snoc (k : Nat) (b : Int) : u8s (rep k b) ++ [Value.int .u8 b] = u8s (rep (k + 1) b) := by
  simp [u8s, rep, List.replicate_succ']
theorem apart_of_below {w w' : World} (h : Below w.heap.size w w') : Apart [] w w' := ⟨h.os, h.tape, h.output, h.size, fun i hi _ => h.block i hi⟩
set_option maxHeartbeats 400000 in
set_option maxRecDepth 100000 in
theorem full_any (w : World) (b : Int) : Calls Try.prog 13 #[.int .u8 b] w fun r w' => ∃ v g cap, r = .returned v ∧ Bytes w' v g cap (rep 512 b) ∧ w.heap.size ≤ g ∧ Apart [] w w' := by
  obtain ⟨i0, hi, hz0, hz1, hz2⟩ := info_parts info5
  go_enter Try.func13, Try.ntmps13
  go_wp2
  go_loopw [3, 4] (fun v i wr => ∃ k : Nat, k ≤ 512 ∧ i = .int .i64 k ∧ wr.ownsRow w.heap.size 5 1 v k (u8s (rep k b)) ∧ Below w.heap.size w wr) (fun _ i _ => 512 - (intOf i).toNat)
  case atStart => exact ⟨0, Nat.zero_le _, rfl, World.ownsRow_nil _ _ _ _, Below.refl _ _⟩
  case round =>
    obtain ⟨k, hk, rfl, hown, hnx⟩ := hrel
    by_cases hlt : k < 512
    · go_wp2_with (at_builtin; refine wpList_append_own _ rfl _ _ 30 rfl w.heap.size 5 i0 (.int .u8 0) 1 1 Try.underlying30 hi hz0 hz1 hz2 rfl (by decide) _ _ _ rfl (hown.alloc _) ⟨wr.heap.size, 0, none⟩ 1 1 [.int .u8 b] rfl rfl ?c1 ?c2 ?c3 ?c4 ?c5 ?_)
      case c1 =>
        intro j u hj
        match j, hj with
        | 0, hj => simp at hj; subst hj; simp [Addr.add]
      case c2 => intro u hu; simp at hu; subst hu; rfl
      case c3 => unfold maxLen; omega
      case c4 => omega
      case c5 => have := hnx.size; simp; omega
      · intro v' w1 hown' hgrow _
        have hb1 : Below w.heap.size w w1 := (hnx.alloc hnx.size _).grown hgrow (by have := hnx.size; simp; omega) (fun k hk => (hown.lt k hk).1)
        rw [rep_snoc] at hown'
        clear hgrow hown hnx
        go_wp2
        go_roundw
        case rel => exact ⟨k + 1, by omega, by go_num, hown', hb1⟩
        case measure => simp [intOf]; omega
    · have e : k = 512 := by omega
      have E : Hid (k = 512) := e
      clear e
      go_wp2
      go_ret
      obtain ⟨g, cap, hb, hg⟩ := own_bytes (bs := rep 512 b) (by rw [← E.out]; simpa [rep] using hown) (by simp [rep])
      exact ⟨_, g, cap, rfl, hb, hg, ⟨hnx.os, hnx.tape, hnx.output, hnx.size, fun i hi _ => hnx.block i hi⟩⟩
end Go.Proofs.Ythmloakkefiicaa.dk
