import Derived.Test.YtmjfocbjkngniaaRow
import Derived.Test.YtmjfocbjkngniaaSorts
import Derived.Laws.StructEq
namespace Go.Proofs.Ytmjfocbjkngniaa.hp
open Go.ChangeShapes Go.WideShapes Go.ChangeAt Go.RowKit
set_option linter.unusedVariables false
theorem own_kept {w w' : World} {v : Value} {n : Nat} {xs : List Value} (h : w.ownsRow 0 28 2 v n xs) (k : Kept w w') : w'.ownsRow 0 28 2 v n xs := by
  obtain ⟨hl, ⟨hv, hz⟩ | ⟨g, cap, cur, rfl, hb, hr, hrest⟩⟩ := h
  · exact ⟨hl, .inl ⟨hv, hz⟩⟩
  · exact ⟨hl, .inr ⟨g, cap, cur, rfl, hb, k _ _ _ _ hr (by decide) (by decide), hrest⟩⟩
theorem row_at {w : World} {B N : Nat} {l : List E} (h : w.ownsRow 0 28 2 (.slice (some ⟨B, 0, none⟩) N N) N (flat2 l)) (hl : l.length = N) (j : Nat) (hj : j < N) : w.cell? ⟨B, j * 2, none⟩ = some (.int .i64 (g l j).r) ∧ w.cell? ⟨B, j * 2 + 1, none⟩ = some (.int .i64 (g l j).m) := by
  have := flat2_get l j (by omega)
  exact ⟨by rw [h.cellAt _ (by omega)]; exact this.1, by rw [h.cellAt _ (by omega)]; exact this.2⟩
theorem g_erase (l : List E) (k j : Nat) : g (l.eraseIdx k) j = if j < k then g l j else g l (j + 1) := by
  unfold g
  simp only [List.getD_eq_getElem?_getD, List.getElem?_eraseIdx]
  split <;> rfl
theorem neq28 (W : World) (a b : Int) : Sem.run Try.prog (binOp BinOp.neq 28 (.agg #[.int .i64 a, .int .i64 b]) (.agg #[.int .i64 a, .int .i64 b])) W = .ok (.bool false) W := by
  have hS : Try.prog.underlying 28 = some (.struct (Try.prog.fieldsOf 28)) := by kernel_rfl
  have hp : Try.prog.stoodInHeld 28 = false := by kernel_rfl
  rw [run_neq_struct, show (10000 : Nat) = 9998 + 1 + 1 from rfl, run_equalIn_agg _ _ _ _ _ hS hp]
  simp only [Program.fieldsOf, Try.underlying28]
  simp [go_sem, Try.underlying3]
theorem guard28 : Try.prog.eqGuardType Try.prog.depth 28 = false := by kernel_rfl
theorem ents_row (w0 w : World) (H N : Nat) (fs : Nat → Int) (cs : List E) (o : Own w0 w H cs N) (p : cs.Perm (ents fs N)) : HRow w0 w H (rowOf (ents fs N)) N :=
  ⟨⟨cs, o, p.trans (rowOf_perm _).symm⟩, rowOf_up _, Dist.perm (rowOf_perm _) (ents_nodup fs N)⟩
set_option maxHeartbeats 2000000 in
set_option maxRecDepth 100000 in
theorem gone_walk (w : World) (p : Option Addr) (N cap : Nat) (fs : Nat → Int) (hN : N ≤ 1100000) (hp : IsInts w p N fs) (p2 : Option Addr) (M cap2 : Nat) (gs : Nat → Int) (hM : M ≤ 1100000) (hp2 : IsInts w p2 M gs) :
    Calls Try.prog 5 #[.slice p N cap, .slice p2 M cap2] w fun r w' => r = .returned (.bool true) ∧ Below w.heap.size w w' := by
  have hnil := nilq
  go_enter Try.func5, Try.ntmps5
  go_wp2_with fail
  refine (own_fresh w w (Nat.le_refl _)).mono ?_
  rintro r w1 ⟨rfl, o1, a1⟩
  go_wp2_with fail
  refine (able_ok w1).mono ?_
  rintro r w2 ⟨rfl, a2⟩
  have o2 := o1.kept a2
  have ap2 := a1.trans a2
  clear o1 a1 a2
  go_wp2
  go_loopw [6] (fun v wr => ∃ i : Nat, i ≤ N ∧ v = .int .i64 i ∧ Apart [] w wr ∧ ∃ cs, Own w wr w.heap.size cs i ∧ cs.Perm (ents fs i)) (fun v _ => N - (intOf v).toNat)
  case atStart => exact ⟨0, Nat.zero_le _, rfl, ap2, [], o2, by simp [ents]⟩
  case round =>
    clear o2 ap2
    obtain ⟨i, hi, rfl, ap, cs, own, perm⟩ := hrel
    by_cases hlt : i < N
    · obtain ⟨P, o, rfl, hP, hc⟩ := hp (by omega)
      have e0 := (ap.cell (p := ⟨P, o + i, none⟩) hP (by simp)).trans (hc i hlt)
      have hPu := own_push own (fs i) i (by rw [perm.length_eq, ents_length]; omega) (by omega) w ap rfl
      clear hc hp hp2
      go_wp2_with fail
      refine hPu.mono ?_
      clear hPu
      rintro r w3 ⟨rfl, ⟨cs3, o3, p3⟩, a3, s3, _⟩
      have q3 : cs3.Perm (ents fs (i + 1)) := by
        rw [← ents_succ]
        exact p3.trans (perm.append_right _)
      clear perm p3 own ap e0
      go_wp2
      go_roundw
      case rel => exact ⟨i + 1, by omega, by go_num, a3, cs3, o3, q3⟩
      case measure => simp [intOf]; omega
    · obtain rfl : i = N := by omega
      have hr0 := ents_row w wr w.heap.size i fs cs own perm
      have hl0 : (rowOf (ents fs i)).length ≤ 1100000 := by rw [(rowOf_perm _).length_eq, ents_length]; omega
      clear own perm hp
      go_wp2
      go_loopw [7] (fun v wq => ∃ j : Nat, j ≤ M ∧ v = .int .i64 j ∧ Apart [] w wq ∧ ∃ row, HRow w wq w.heap.size row i ∧ row.length ≤ 1100000) (fun v _ => M - (intOf v).toNat)
      case atStart => exact ⟨0, Nat.zero_le _, rfl, ap, _, hr0, hl0⟩
      case round =>
        clear hr0 ap hl0
        obtain ⟨j, hj, rfl, ap, row, hr, hrl⟩ := hrel
        by_cases hlt : j < M
        · obtain ⟨P, o, rfl, hP, hc⟩ := hp2 (by omega)
          obtain ⟨R, hR⟩ : ∃ R, row.length = R := ⟨_, rfl⟩
          have HR : Hid (row.length = R) := hR
          rw [hR] at hrl
          have hAl := row_all hr R hR
          clear hR
          go_wp2_with fail
          refine hAl.mono ?_
          clear hAl
          rintro r w3 ⟨B1, rfl, ow1, hB1, a3⟩
          have hr3 := hr.kept a3
          have ap3 := ap.trans a3
          have hLe := row_len hr3 R HR.out
          go_wp2_with fail
          refine hLe.mono ?_
          clear hLe
          rintro r w4 ⟨rfl, rfl⟩
          have e0 := (ap3.cell (p := ⟨P, o + j, none⟩) hP (by simp)).trans (hc j hlt)
          by_cases hk : gs j < 0 ∨ (R : Int) ≤ gs j
          · have hT := row_take_none hr3 (gs j) (by rw [HR.out]; exact hk)
            go_wp2_with fail
            refine hT.mono ?_
            clear hT
            rintro r w5 ⟨rfl, a5⟩
            have a5' : Apart [] w4 (w5.alloc (.cells #[.int .i64 0, .int .i64 0] 28)) := a5.alloc _
            have ap5 := ap3.trans a5'
            have hr5 := hr3.kept a5'
            have e5 := (ap5.cell (p := ⟨P, o + j, none⟩) hP (by simp)).trans (hc j hlt)
            have hA2 := row_all hr5 R HR.out
            have hPs : P < w5.heap.size := Nat.lt_of_lt_of_le hP (ap3.trans a5).size
            have e5' := ((ap3.trans a5).cell (p := ⟨P, o + j, none⟩) hP (by simp)).trans (hc j hlt)
            have bX := heap_alloc_new w5 (.cells #[.int .i64 0, .int .i64 0] 28)
            clear e0 hc
            go_wp2_with fail
            refine hA2.mono ?_
            clear hA2
            rintro r w6 ⟨B2, rfl, ow2, hB2, a6⟩
            have bX6 := (a6.block _ (lt_of_heap bX) (by simp)).trans bX
            have x0 : w6.cell? ⟨w5.heap.size, 0, none⟩ = some (.int .i64 0) := by rw [cell_of_row _ _ _ _ _ _ bX6]; rfl
            have x1 : w6.cell? ⟨w5.heap.size, 1, none⟩ = some (.int .i64 0) := by rw [cell_of_row _ _ _ _ _ _ bX6]; rfl
            have ap6 := ap5.trans a6
            have hr6 := hr5.kept a6
            have hrl2 : row.length ≤ 1100000 := by rw [HR.out]; exact hrl
            clear ow1 ow2 hr5 ap5 a6 a5 a5' bX bX6 hr3 ap3 a3 hr ap e5 e5'
            by_cases hk0 : gs j < 0
            · clear hk hp2
              go_wp2
              go_roundw
              case rel => exact ⟨j + 1, by omega, by go_num, ap6, row, hr6, hrl2⟩
              case measure => simp [intOf]; omega
            · have hk1 : (R : Int) ≤ gs j := by omega
              clear hk hp2
              go_wp2
              go_roundw
              case rel => exact ⟨j + 1, by omega, by go_num, ap6, row, hr6, hrl2⟩
              case measure => simp [intOf]; omega
          · obtain ⟨k, hk2⟩ : ∃ k : Nat, gs j = k := ⟨(gs j).toNat, by omega⟩
            have hkR : k < R := by omega
            have hT := row_takes hr3 ap3 k (by rw [HR.out]; exact hkR)
            rw [hk2] at e0
            have hcj := hc j hlt
            rw [hk2] at hcj
            clear hk hk2 hc
            go_wp2_with fail
            refine hT.mono ?_
            clear hT
            rintro r w5 ⟨rfl, hr5, ap5, s5, k5⟩
            have ow5 := own_kept ow1 k5
            have a5' : Apart [] w5 (w5.alloc (.cells #[.int .i64 (g row k).r, .int .i64 (g row k).m] 28)) := (Apart.refl _ _).alloc _
            have hR1 : (row.eraseIdx k).length = R - 1 := by rw [List.length_eraseIdx, HR.out, if_pos hkR]
            have hA2 := row_all (hr5.kept a5') (R - 1) hR1
            have hPs : P < w5.heap.size := Nat.lt_of_lt_of_le hP ap5.size
            have e5 := (ap5.cell (p := ⟨P, o + j, none⟩) hP (by simp)).trans hcj
            have bX := heap_alloc_new w5 (.cells #[.int .i64 (g row k).r, .int .i64 (g row k).m] 28)
            have ow5' := own_apart ow5 a5' (by simp)
            clear e0 hcj
            go_wp2_with fail
            refine hA2.mono ?_
            clear hA2
            rintro r w6 ⟨B2, rfl, ow2, hB2, a6⟩
            have bX6 := (a6.block _ (lt_of_heap bX) (by simp)).trans bX
            have owL := own_apart ow5' a6 (by simp)
            have x0 : w6.cell? ⟨w5.heap.size, 0, none⟩ = some (.int .i64 (g row k).r) := by rw [cell_of_row _ _ _ _ _ _ bX6]; rfl
            have x1 : w6.cell? ⟨w5.heap.size, 1, none⟩ = some (.int .i64 (g row k).m) := by rw [cell_of_row _ _ _ _ _ _ bX6]; rfl
            obtain ⟨y0, y1⟩ := row_at owL HR.out k hkR
            have ap6 := (ap5.trans a5').trans a6
            have hr6 := (hr5.kept a5').kept a6
            have HR1 : Hid ((row.eraseIdx k).length = R - 1) := hR1
            have hkI : (k : Int) < (R : Int) := by omega
            have d1 : ¬ ((k : Int) < 0) := by omega
            have d2 : ¬ ((R : Int) ≤ (k : Int)) := by omega
            have hR1c : ((R - 1 : Nat) : Int) = (R : Int) - 1 := by omega
            have HRC : Hid (((R - 1 : Nat) : Int) = (R : Int) - 1) := hR1c
            have hRl : R ≤ 1100000 := hrl
            have d5 : (((R - 1 : Nat) : Int) != (R : Int) - 1) = false := by rw [bne_eq_false_iff_eq]; exact hR1c
            have hneq : ∀ (W : World), Sem.run Try.prog (binOp BinOp.neq 28 (.agg #[.int .i64 (g row k).r, .int .i64 (g row k).m]) (.agg #[.int .i64 (g row k).r, .int .i64 (g row k).m])) W = .ok (.bool false) W := fun W => neq28 W _ _
            have hgd := guard28
            clear hR1 hR1c ow1 ow5 ow5' hr5 ap5 a6 a5' bX bX6 hr3 ap3 a3 hr ap e5 hp2 k5 hnil
            go_wp2_with fail
            go_quiet (fail)
            clear hneq x0 x1 y0 y1 d5
            go_wp2
            go_loopw [14] (fun v wq => ∃ t : Nat, t ≤ R - 1 ∧ v = .int .i64 t ∧ ∃ q, wq = w6.drewN q) (fun v _ => R - (intOf v).toNat)
            case atStart => exact ⟨0, Nat.zero_le _, rfl, _, rfl⟩
            case round =>
              obtain ⟨t, ht, rfl, q, rfl⟩ := hrel
              by_cases hlt2 : t < R - 1
              · have tI : (t : Int) < (R : Int) - 1 := by omega
                have tI2 : (t : Int) < ((R - 1 : Nat) : Int) := by omega
                have tI3 : (t : Int) < (R : Int) := by omega
                have tI4 : (t : Int) + 1 < (R : Int) := by omega
                obtain ⟨m0, m1⟩ := row_at ow2 HR1.out t hlt2
                rw [g_erase] at m0 m1
                by_cases htk : t < k
                · rw [if_pos htk] at m0 m1
                  obtain ⟨l0, l1⟩ := row_at owL HR.out t (by omega)
                  have hneq : ∀ (W : World), Sem.run Try.prog (binOp BinOp.neq 28 (.agg #[.int .i64 (g row t).r, .int .i64 (g row t).m]) (.agg #[.int .i64 (g row t).r, .int .i64 (g row t).m])) W = .ok (.bool false) W := fun W => neq28 W _ _
                  have g1 : decide ((t : Int) < (k : Int)) = true := decide_eq_true (by omega)
                  have g2 : decide ((k : Int) ≤ (t : Int)) = false := decide_eq_false (by omega)
                  have g3 : (t : Int) < (k : Int) := by omega
                  have g5 : decide (k ≤ t) = false := decide_eq_false (by omega)
                  have g6 : decide (t < k) = true := decide_eq_true (by omega)
                  go_wp2_with fail
                  go_quiet (fail)
                  clear hneq g1 g2 g5 g6
                  go_wp2
                  go_roundw
                  case rel => exact ⟨t + 1, by omega, by go_num, _, rfl⟩
                  case measure => simp [intOf]; omega
                · rw [if_neg htk] at m0 m1
                  obtain ⟨l0, l1⟩ := row_at owL HR.out (t + 1) (by omega)
                  have hneq : ∀ (W : World), Sem.run Try.prog (binOp BinOp.neq 28 (.agg #[.int .i64 (g row (t + 1)).r, .int .i64 (g row (t + 1)).m]) (.agg #[.int .i64 (g row (t + 1)).r, .int .i64 (g row (t + 1)).m])) W = .ok (.bool false) W := fun W => neq28 W _ _
                  have g1 : decide ((t : Int) < (k : Int)) = false := decide_eq_false (by omega)
                  have g2 : decide ((k : Int) ≤ (t : Int)) = true := decide_eq_true (by omega)
                  have g3 : (k : Int) ≤ (t : Int) := by omega
                  have g5 : decide (k ≤ t) = true := decide_eq_true (by omega)
                  have g6 : decide (t < k) = false := decide_eq_false (by omega)
                  have g4 : ((t : Int) + 1).toNat = t + 1 := by omega
                  go_wp2_with fail
                  go_quiet (fail)
                  clear hneq g1 g2 g5 g6
                  go_wp2
                  go_roundw
                  case rel => exact ⟨t + 1, by omega, by go_num, _, rfl⟩
                  case measure => simp [intOf]; omega
              · have tI : ¬ ((t : Int) < (R : Int) - 1) := by omega
                have hrlE : (row.eraseIdx k).length ≤ 1100000 := by rw [HR1.out]; omega
                go_wp2
                go_roundw
                case rel => exact ⟨j + 1, by omega, by go_num, ap6.drewN _, _, hr6.kept ((Apart.refl _ _).drewN _), hrlE⟩
                case measure => simp [intOf]; omega
        · have bel := ap.below (Nat.le_refl _) (by simp)
          clear hr hp2
          go_wp2
          go_ret
          exact ⟨rfl, bel⟩
end Go.Proofs.Ytmjfocbjkngniaa.hp
