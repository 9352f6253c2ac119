import Derived.Test.YthfjkddninlbcaaWorld2
import Derived.Laws.Bits128
namespace Go.Proofs.Ythfjkddninlbcaa.hp
open Go.ChangeShapes Go.WideShapes Go.ChangeAt Go.RowKit
set_option linter.unusedVariables false
theorem item_none (w : World) (W : Nat) (m : Int) : Calls Try.prog 31 #[.pointer (some ⟨W, 0, none⟩), .agg #[.int .i64 0, .int .i64 0], .bool false, .int .i64 m, .bool false] w fun r w' => r = .returned (.bool true) ∧ Apart [] w w' := by
  go_enter Try.func31, Try.ntmps31
  go_wp2
  go_ret
  exact ⟨rfl, (Apart.refl _ _).alloc _⟩
set_option maxHeartbeats 1000000 in
set_option maxRecDepth 100000 in
theorem item_some (w : World) (W G N c k : Nat) (a b : Int) (hW : w.cell? ⟨W, 4, none⟩ = some (.slice (some ⟨G, 0, none⟩) N c)) (hWs : W < w.heap.size) (hGs : G < w.heap.size) (hk : k < N) (h0 : w.cell? ⟨G, k * 2, none⟩ = some (.int .i64 a)) (h1 : w.cell? ⟨G, k * 2 + 1, none⟩ = some (.int .i64 b)) :
    Calls Try.prog 31 #[.pointer (some ⟨W, 0, none⟩), .agg #[.int .i64 a, .int .i64 b], .bool true, .int .i64 k, .bool true] w fun r w' => r = .returned (.bool true) ∧ Apart [] w w' := by
  have kI : (k : Int) < (N : Int) := by omega
  have ap : Apart [] w (w.alloc (.cells #[.int .i64 a, .int .i64 b] 28)) := (Apart.refl _ _).alloc _
  have c4 := (ap.cell (p := ⟨W, 4, none⟩) hWs (by simp)).trans hW
  have c0 := (ap.cell (p := ⟨G, k * 2, none⟩) hGs (by simp)).trans h0
  have c1 := (ap.cell (p := ⟨G, k * 2 + 1, none⟩) hGs (by simp)).trans h1
  have bX := heap_alloc_new w (.cells #[.int .i64 a, .int .i64 b] 28)
  have x0 : (w.alloc (.cells #[.int .i64 a, .int .i64 b] 28)).cell? ⟨w.heap.size, 0, none⟩ = some (.int .i64 a) := by rw [cell_of_row _ _ _ _ _ _ bX]; rfl
  have x1 : (w.alloc (.cells #[.int .i64 a, .int .i64 b] 28)).cell? ⟨w.heap.size, 1, none⟩ = some (.int .i64 b) := by rw [cell_of_row _ _ _ _ _ _ bX]; rfl
  have d1 : (a == a) = true := by simp
  have d2 : (b == b) = true := by simp
  clear hW h0 h1
  go_enter Try.func31, Try.ntmps31
  go_wp2_with fail
  generalize w.alloc (.cells #[.int .i64 a, .int .i64 b] 28) = V at *
  clear bX
  go_quiet (fail)
  go_wp2
  go_ret
  exact ⟨rfl, ap.drewN _⟩
/-- what the document's number means is the thing that came out -/
theorem WS.item {w0 w : World} {W : Nat} {S : Nat → SD} {av : Value} {A : List E} (h : WS w0 w W S av A) (e : E) (hi : 0 ≤ e.m ∧ e.m < A.length ∧ (g A e.m.toNat).r = e.r) :
    Calls Try.prog 31 #[.pointer (some ⟨W, 0, none⟩), .agg #[.int .i64 (cv A e).r, .int .i64 (cv A e).m], .bool true, .int .i64 e.m, .bool true] w fun r w' => r = .returned (.bool true) ∧ Apart [] w w' := by
  obtain ⟨k, hk⟩ : ∃ k : Nat, e.m = k := ⟨e.m.toNat, by omega⟩
  have hkA : k < A.length := by omega
  obtain ⟨G, c, hv⟩ : ∃ G c, av = .slice (some ⟨G, 0, none⟩) A.length c := by
    obtain ⟨_, ⟨hv, hz⟩ | ⟨g', cap', cur, hv, _⟩⟩ := h.all
    · omega
    · exact ⟨_, _, hv⟩
  have ha := h.all
  have hc := h.ca
  rw [hv] at ha hc
  have hf := flat2_get A k hkA
  have h0 := ha.cellAt (k * 2) (by omega)
  have h1 := ha.cellAt (k * 2 + 1) (by omega)
  rw [hf.1] at h0
  rw [hf.2] at h1
  have hr := hi.2.2
  rw [hk, Int.toNat_natCast] at hr
  rw [hr] at h0
  have := item_some w W G A.length c k e.r (g A k).m hc (lt_of_heap h.hW) (ha.lt G rfl).2 hkA h0 h1
  rw [hk]
  simpa [cv, hk] using this
theorem bits1 (n : Int) : bits .and .i64 n 1 = n % 2 := by
  have h1 : (BitVec.ofInt 64 1).toNat = 2 ^ 1 - 1 := by decide
  have key : (BitVec.ofInt 64 n &&& BitVec.ofInt 64 1).toNat = (n % ((2 ^ 64 : Nat) : Int)).toNat % 2 ^ 1 := by
    rw [BitVec.toNat_and, BitVec.toNat_ofInt, h1, Nat.and_two_pow_sub_one_eq_mod]
  show IntKind.i64.wrap ((BitVec.ofInt 64 n &&& BitVec.ofInt 64 1).toNat : Nat) = n % 2
  rw [key, IntKind.wrap_i64]
  omega
set_option maxHeartbeats 1000000 in
/-- row: All of both -/
theorem row_ok {w0 w : World} {W : Nat} {S : Nat → SD} {av : Value} {A : List E} (h : WS w0 w W S av A) (i : Nat) (hi : i < 2) (gd : Good A (S i)) :
    Calls Try.prog 25 #[.pointer (some ⟨W, 0, none⟩), .int .i64 i] w fun r w' => r = .returned (.bool true) ∧ Apart [] w w' := by
  obtain ⟨N, hN⟩ : ∃ N, (S i).rl.length = N := ⟨_, rfl⟩
  have hN2 : (S i).row.length = N := by rw [gd.rel, List.length_map, hN]
  have hA1 := hp_all (h.hp i hi) N hN2
  have cp := h.cp i hi
  have iI : (i : Int) < 2 := by omega
  have hWs := lt_of_heap h.hW
  have HN : Hid ((S i).rl.length = N) := hN
  have HN2 : Hid ((S i).row.length = N) := hN2
  have hNb : N ≤ 1200000 := by rw [← hN, ← (h.rp i hi).perm.length_eq]; exact (h.rp i hi).hl
  clear hN hN2
  go_enter Try.func25, Try.ntmps25
  go_wp2_with fail
  refine hA1.mono ?_
  clear hA1
  rintro r w1 ⟨B, rfl, ow1, a1⟩
  have h1 := h.kept a1
  have hR := rall_at w1 W (2 + i) (S i).lv (S i).L (S i).rl (h1.wl i hi).at_ (h1.rp i hi).inc (h1.rp i hi).perm (h1.rp i hi).up (h1.rp i hi).di (lt_of_heap h1.hW) N HN.out
  go_wp2_with fail
  refine hR.mono ?_
  clear hR
  rintro r w2 ⟨pp, cc, rfl, ow2, a2⟩
  have h2 := h1.kept a2
  have ow1' := own_apart ow1 a2 (by simp)
  have ap2 := a1.trans a2
  clear h h1 ow1 a1 a2 cp
  have d0 : ((N : Int) != (N : Int)) = false := by simp
  go_wp2
  go_loopw [7] (fun x wr => ∃ j : Nat, j ≤ N ∧ x = .int .i64 j ∧ Apart [] w2 wr) (fun x _ => N - (intOf x).toNat)
  case atStart => exact ⟨0, Nat.zero_le _, rfl, Apart.refl _ _⟩
  case round =>
    obtain ⟨j, hj, rfl, ap⟩ := hrel
    by_cases hlt : j < N
    · have hq := own_apart ow1' ap (by simp)
      have hm := own_apart ow2 ap (by simp)
      obtain ⟨l0, l1⟩ : wr.cell? ⟨B, j * 2, none⟩ = some (.int .i64 (g (S i).row j).r) ∧ wr.cell? ⟨B, j * 2 + 1, none⟩ = some (.int .i64 (g (S i).row j).m) := by
        have := flat2_get (S i).row j (by rw [HN2.out]; exact hlt)
        exact ⟨by rw [hq.cellAt _ (by omega)]; exact this.1, by rw [hq.cellAt _ (by omega)]; exact this.2⟩
      obtain ⟨G, c2, hpp⟩ : ∃ G c2, (Value.slice pp N cc) = .slice (some ⟨G, 0, none⟩) N c2 := by
        obtain ⟨_, ⟨hv, hz⟩ | ⟨g', cap', cur, hv, _⟩⟩ := hm
        · omega
        · exact ⟨_, _, hv⟩
      simp at hpp
      obtain ⟨rfl, rfl⟩ := hpp
      have m0 : wr.cell? ⟨G, j, none⟩ = some (.int .i64 (g (S i).rl j).m) := by
        rw [hm.cellAt _ (by omega)]
        have hjl : j < (S i).rl.length := by rw [HN.out]; exact hlt
        simp [marks, hjl, g_eq _ _ hjl]
      have hgm : g (S i).row j = cv A (g (S i).rl j) := by rw [gd.rel]; exact g_map A _ j (by rw [HN.out]; exact hlt)
      rw [hgm] at l0 l1
      have hI := fun Wd (e : Apart [] w2 Wd) => (h2.kept e).item (g (S i).rl j) (gd.idx _ (by rw [g_eq _ _ (by rw [HN.out]; exact hlt)]; exact List.getElem_mem _))
      have jI : (j : Int) < (N : Int) := by omega
      have apd := ap.drewN 1
      go_wp2_with fail
      go_region_with (first | (go_at_call 31; refine (hI _ apd).mono ?_; rintro r w4 ⟨rfl, a4⟩))
      all_goals
        have ap4 := apd.trans a4
        clear hq hm l0 l1 m0 hI apd a4
        go_wp2
        go_roundw
        case rel => exact ⟨j + 1, by omega, by go_num, ap4⟩
        case measure => simp [intOf]; omega
    · have ap4 := ap2.trans ap
      go_wp2
      go_ret
      exact ⟨rfl, ap4⟩
end Go.Proofs.Ythfjkddninlbcaa.hp
