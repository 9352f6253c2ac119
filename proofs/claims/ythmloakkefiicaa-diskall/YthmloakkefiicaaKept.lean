import Derived.Test.YthmloakkefiicaaLend
namespace Go.Proofs.Ythmloakkefiicaa.dk
open Go.ChangeShapes Go.WideShapes Go.ChangeAt Go.RowKit
theorem lentL_length (bs : List Int) : (lentL bs).length = bs.length + 40 := by simp [lentL, marks_length]
theorem lentL_mark (bs : List Int) (k : Nat) (hk : k < 40) : (lentL bs).getD (bs.length + k) 0 = 167 + (k : Int) := by
  simp only [lentL, List.getD_eq_getElem?_getD]
  rw [List.getElem?_append_right (by omega)]
  simp [marks, hk]
theorem lentL_head (bs : List Int) (k : Nat) (hk : k < bs.length) : (lentL bs).getD k 0 = bs.getD k 0 := getD_left _ _ _ _ hk
/-- a lent row: any bytes, so many -/
structure Lent (w : World) (g n c : Nat) (bs : List Int) : Prop where
  row : ∃ cur, w.heap[g]? = some (.cells cur 5 (0, 0)) ∧ cur.size = c
  cells : ∀ j, j < n → w.cell? ⟨g, j, none⟩ = some (.int .u8 (bs.getD j 0))
  len : bs.length = n
  le : n ≤ c
theorem Lent.set {w : World} {g n c : Nat} {bs : List Int} (h : Lent w g n c bs) (j : Nat) (hj : j < n) (x : Int) : Lent (w.setCell ⟨g, j, none⟩ (.int .u8 x)) g n c (bs.set j x) := by
  obtain ⟨cur, hr, hc⟩ := h.row
  have hl := h.len
  refine ⟨⟨_, heap_setCell_same _ _ _ _ _ _ hr, by simpa using hc⟩, fun i hi => ?_, by simpa using hl, h.le⟩
  have hle := h.le
  rw [cell_of_row _ _ _ _ _ _ (heap_setCell_same _ _ _ _ _ _ hr)]
  by_cases e : j = i
  · subst e
    rw [getD_set_same _ _ _ _ (by omega), Array.getElem?_setIfInBounds_self_of_lt (by omega)]
  · rw [getD_set_other _ _ _ _ _ e, Array.getElem?_setIfInBounds_ne e, ← cell_of_row _ _ _ _ _ _ hr]
    exact h.cells i hi
theorem Lent.kept {w w' : World} {g n c : Nat} {bs : List Int} {X : List Nat} (h : Lent w g n c bs) (a : Apart X w w') (hg : g ∉ X) : Lent w' g n c bs := by
  obtain ⟨cur, hr, hc⟩ := h.row
  exact ⟨⟨cur, (a.block g (lt_of_heap hr) hg).trans hr, hc⟩, fun j hj => (a.cell (p := ⟨g, j, none⟩) (lt_of_heap hr) hg).trans (h.cells j hj), h.len, h.le⟩
theorem Lent.free {w : World} {g n c : Nat} {bs : List Int} (h : Lent w g n c bs) (j : Nat) : w.frozen? ⟨g, j, none⟩ = false := by
  obtain ⟨cur, hr, hc⟩ := h.row
  exact frozen_of_row _ _ _ _ _ hr
set_option maxHeartbeats 1000000 in
theorem kept_ok (w : World) (g c n : Nat) (bs : List Int) (hL : Lent w g (n + 40) c (lentL bs)) (p : Option Addr) (pc : Nat) (hs : Src w p n bs) (hpn : p = none → pc = 0) (hn : n ≤ 4194304) :
    Calls Try.prog 41 #[.slice (some ⟨g, 0, none⟩) (n + 40) c, .slice p n pc] w fun r w' => r = .returned (.bool true) ∧ Apart [g] w w' ∧ ∃ bs', Lent w' g (n + 40) c bs' := by
  have hbl := hs.hlen
  have HBL : Hid (bs.length = n) := hbl
  have hle := hL.le
  have hgl : g < w.heap.size := block_lt_of_cell (hL.cells 0 (by omega))
  have hsm := same_src w (some ⟨g, 0, none⟩) p n n c pc bs ⟨hbl, fun h0 => ⟨g, 0, rfl, hgl, fun j hj => by rw [Nat.zero_add, hL.cells j (by omega), lentL_head bs j (by omega)]⟩⟩ hs (by simp) hpn
  clear hbl
  go_enter Try.func41, Try.ntmps41
  go_wp2_with fail
  refine hsm.mono ?_
  rintro r w1 ⟨rfl, rfl⟩
  clear hsm
  go_wp2
  go_loopw [6, 7] (fun ok i wr => ∃ k : Nat, k ≤ 40 ∧ ok = .bool true ∧ i = .int .i64 ((n : Int) + k) ∧ wr = w1) (fun _ i _ => n + 40 - (intOf i).toNat)
  case atStart => exact ⟨0, Nat.zero_le _, rfl, by go_num, rfl⟩
  case round =>
    obtain ⟨k, hk, rfl, rfl, rfl⟩ := hrel
    by_cases hlt : k < 40
    · have ec : wr.cell? ⟨g, n + k, none⟩ = some (.int .u8 (167 + (k : Int))) := by rw [hL.cells _ (by omega), ← HBL.out, lentL_mark bs k hlt]
      have hbq : ((167 : Int) + k == 167 + ((n : Int) + k) - n) = true := by rw [show (167 : Int) + ((n : Int) + k) - n = 167 + k from by omega]; exact beq_self_eq_true _
      go_wp2
      go_roundw
      case rel => exact ⟨k + 1, by omega, rfl, by go_num, trivial⟩
      case measure => simp [intOf]; omega
    · have e : k = 40 := by omega
      subst e
      have hlq : ¬ ((n : Int) + 40 < (n : Int) + 40) := by omega
      go_wp2
      go_loopw [8] (fun i w2 => ∃ k : Nat, k ≤ n + 40 ∧ i = .int .i64 k ∧ Apart [g] wr w2 ∧ ∃ bs', Lent w2 g (n + 40) c bs') (fun i _ => n + 40 - (intOf i).toNat)
      case atStart => exact ⟨0, Nat.zero_le _, rfl, Apart.refl _ _, _, hL⟩
      case round =>
        clear hL
        obtain ⟨k, hk, rfl, ha, bs', hL⟩ := hrel
        by_cases hlt : k < n + 40
        · have ec := hL.cells k hlt
          have ef := hL.free k
          have hst : ∀ x, Lent (wr.setCell ⟨g, k, none⟩ (.int .u8 x)) g (n + 40) c (bs'.set k x) := fun x => hL.set k hlt x
          have HST : Hid (∀ x, Lent (wr.setCell ⟨g, k, none⟩ (.int .u8 x)) g (n + 40) c (bs'.set k x)) := hst
          clear hst hL
          go_wp2
          go_roundw
          case rel => exact ⟨k + 1, by omega, by go_num, ha.setCell (by simp) _, _, HST.out _⟩
          case measure => simp [intOf]; omega
        · go_wp2
          go_ret
          exact ⟨rfl, ha, _, hL⟩

theorem own_lent {w : World} {base n : Nat} {v : Value} {bs : List Int} (h : w.ownsRow base 5 1 v n (u8s bs)) (hn : 0 < n) (hl : bs.length = n) : ∃ g c, v = .slice (some ⟨g, 0, none⟩) n c ∧ base ≤ g ∧ Lent w g n c bs := by
  have h0 := h
  obtain ⟨_, ⟨_, hz⟩ | ⟨g, cap, cur, rfl, hb, hr, hle, _, hcs, _⟩⟩ := h
  · omega
  · refine ⟨g, cap, rfl, hb, ⟨⟨cur, hr, by omega⟩, fun j hj => ?_, hl, hle⟩⟩
    rw [h0.cellAt j (by omega)]
    simp [u8s, show j < bs.length by omega]
theorem again_new (w : World) (lp p : Option Addr) (ll lc n pc : Nat) (bs : List Int) (hs : Src w p n bs) (hn : n ≤ 4194304) (hpn : p = none → n = 0 ∧ pc = 0) (hne : ll ≠ n + 40) :
    Calls Try.prog 46 #[.slice lp ll lc, .slice p n pc] w fun r w' => ∃ g c, r = .returned (.slice (some ⟨g, 0, none⟩) (n + 40) c) ∧ Lent w' g (n + 40) c (lentL bs) ∧ w.heap.size ≤ g ∧ Apart [] w w' := by
  have hne' : ((ll : Int) != (n : Int) + 40) = true := by rw [bne_iff_ne]; omega
  have hbl := hs.hlen
  have HBL : Hid (bs.length = n) := hbl
  clear hbl hne
  go_enter Try.func46, Try.ntmps46
  go_wp2_with fail
  refine (lend_any w p n pc bs hs hn hpn).mono ?_
  rintro r w1 ⟨v, rfl, hown, a1⟩
  obtain ⟨g, c, rfl, hg, hL⟩ := own_lent hown (by omega) (by rw [lentL_length, HBL.out])
  clear hown
  go_wp2
  go_ret
  exact ⟨g, c, rfl, hL, hg, a1⟩
def againL (bs0 bs : List Int) (k : Nat) : List Int := bs ++ (marks k ++ bs0.drop (bs.length + k))
theorem againL_zero (bs0 bs : List Int) : againL bs0 bs 0 = bs ++ bs0.drop bs.length := by simp [againL, marks]
theorem againL_set (bs0 bs : List Int) (k : Nat) (h : bs.length + k < bs0.length) : (againL bs0 bs k).set (bs.length + k) (167 + (k : Int)) = againL bs0 bs (k + 1) := by
  unfold againL
  rw [List.set_append_right _ _ (by omega), show bs.length + k - bs.length = k from by omega, List.set_append_right _ _ (by rw [marks_length]; omega), marks_length, Nat.sub_self, List.drop_eq_getElem_cons h, List.set_cons_zero, ← marks_succ]
  simp [Nat.add_assoc]
theorem againL_full (bs0 bs : List Int) (h : bs0.length = bs.length + 40) : againL bs0 bs 40 = lentL bs := by
  unfold againL lentL
  rw [List.drop_eq_nil_of_le (by omega), List.append_nil]
set_option maxHeartbeats 1000000 in
theorem again_old (w : World) (g : Nat) (p : Option Addr) (lc n pc : Nat) (bs bs0 : List Int) (hs : Src w p n bs) (hn : n ≤ 4194304) (hpn : p = none → n = 0 ∧ pc = 0) (hL : Lent w g (n + 40) lc bs0) :
    Calls Try.prog 46 #[.slice (some ⟨g, 0, none⟩) (n + 40) lc, .slice p n pc] w fun r w' => r = .returned (.slice (some ⟨g, 0, none⟩) (n + 40) lc) ∧ Lent w' g (n + 40) lc (lentL bs) ∧ Apart [g] w w' := by
  have hbl := hs.hlen
  have HBL : Hid (bs.length = n) := hbl
  have hcopy : ∃ w1, Sem.run Try.prog (Builtin.copy_ #[30, 30] 3 #[Value.slice (some ⟨g, 0, none⟩) (n + 40) lc, Value.slice p n pc]) w = .ok (goInt (n : Int)) w1 ∧ Lent w1 g (n + 40) lc (againL bs0 bs 0) ∧ Apart [g] w w1 := by
    obtain ⟨cur, hr, hc⟩ := hL.row
    have hle := hL.le
    have hl0 := hL.len
    by_cases h0 : 0 < n
    · obtain ⟨gs, o, rfl, hgs, hcs⟩ := hs.cells h0
      have := run_copy_row Try.prog w 30 30 3 5 g 0 (n + 40) lc ⟨gs, o, none⟩ n pc cur 5 (u8s bs) Try.underlying30 (by kernel_rfl) hr (by rw [u8s_length, hbl]; exact (Nat.min_eq_left (by omega)).symm) (fun j v hv => by
        obtain ⟨hj, rfl⟩ := u8s_at _ j v hv
        rw [Addr.add_lit]; exact hcs j (by omega)) (by rw [u8s_length]; omega) (u8s_one _)
      refine ⟨_, by rw [this, u8s_length, hbl], ⟨⟨_, setRow_heap _ _ _ _ _ _ hr, by simp [u8s, hbl]; omega⟩, fun j hj => ?_, by rw [againL_zero]; simp; omega, hle⟩, (Apart.refl _ _).setRow (by simp) _⟩
      rw [cell_setRow_same _ _ _ _ _ _ _ hr]
      simp only [List.getElem?_toArray, List.take_zero, List.nil_append, Nat.zero_add]
      rw [againL_zero]
      by_cases hjn : j < n
      · rw [List.getElem?_append_left (by rw [u8s_length]; omega), getD_left _ _ _ _ (by omega)]
        simp [u8s, show j < bs.length by omega]
      · rw [List.getElem?_append_right (by rw [u8s_length]; omega), u8s_length, hbl, List.getElem?_drop]
        have hcell := hL.cells j hj
        rw [cell_of_row _ _ _ _ _ _ hr] at hcell
        rw [show n + (j - n) = j from by omega]
        simp only [Array.getElem?_toList]
        rw [hcell]
        congr 2
        simp only [List.getD_eq_getElem?_getD]
        rw [List.getElem?_append_right (by omega), hbl, List.getElem?_drop, show n + (j - n) = j from by omega]
    · have hn0 : n = 0 := by omega
      subst hn0
      have hb0 : bs = [] := List.eq_nil_of_length_eq_zero hbl
      refine ⟨w, run_copy_none (P := Try.prog) w 30 30 3 5 _ p _ _ 0 pc Try.underlying30 (by kernel_rfl) (by simp), ?_, Apart.refl _ _⟩
      rw [againL_zero, hb0]
      simpa using hL
  obtain ⟨w1, hrun, hL1, a1⟩ := hcopy
  have hl0 := hL.len
  have HL0 : Hid (bs0.length = n + 40) := hl0
  clear hbl hL hs hl0 hpn
  go_enter Try.func46, Try.ntmps46
  go_wp2
  go_loopw [5] (fun i wr => ∃ k : Nat, k ≤ 40 ∧ i = .int .i64 k ∧ Lent wr g (n + 40) lc (againL bs0 bs k) ∧ Apart [g] w wr) (fun i _ => 40 - (intOf i).toNat)
  case atStart => exact ⟨0, Nat.zero_le _, rfl, hL1, a1⟩
  case round =>
    clear hrun hL1 a1
    obtain ⟨k, hk, rfl, hL, ha⟩ := hrel
    by_cases hlt : k < 40
    · have ec := hL.cells (n + k) (by omega)
      have ef := hL.free (n + k)
      have hst := hL.set (n + k) (by omega) (167 + (k : Int))
      have hes := againL_set bs0 bs k (by rw [HBL.out, HL0.out]; omega)
      rw [HBL.out] at hes
      rw [hes] at hst
      clear hes hL
      go_wp2
      go_roundw
      case rel => exact ⟨k + 1, by omega, by go_num, hst, ha.setCell (by simp) _⟩
      case measure => simp [intOf]; omega
    · have e : k = 40 := by omega
      subst e
      rw [againL_full _ _ (by rw [HBL.out, HL0.out])] at hL
      go_wp2
      go_ret
      exact ⟨rfl, hL, ha⟩
end Go.Proofs.Ythmloakkefiicaa.dk
