import Derived.Test.YtddffdcjhleejaaGreatG1
import Derived.Test.YtddffdcjhleejaaGreatG4
import Derived.Test.YtddffdcjhleejaaGreatG2
import Derived.Test.YtddffdcjhleejaaGreatG3
import Derived.Sort.WalkA
import Derived.Laws.Strings
import Derived.Laws.StructEq
import Derived.Deep.CutBlock
namespace Go.Proofs.YtddffdcjhleejaaGreat.ds
open Go.ChangeShapes Go.WideShapes Go.ChangeAt Go.RowKit
set_option linter.unusedVariables false
def hasv (xs : List S) (n c : Int) : Bool := (decide (0 ≤ n ∧ n < 8) && decide (1 ≤ c ∧ c ≤ 1048576)) && dot (ofn xs n) c
theorem take_g {xs : List S} {i : Nat} (hi : i < xs.length) : xs.take (i + 1) = xs.take i ++ [g xs i] := by
  rw [List.take_succ_eq_append_getElem hi]
  unfold g
  rw [List.getD_eq_getElem?_getD, List.getElem?_eq_getElem hi]; rfl
theorem ofn_nil (n : Int) : ofn [] n = none0 n := rfl
set_option linter.unusedSimpArgs false
/-- is it a dot? -/
def isd (n c : Int) : Bool := decide (0 ≤ n ∧ n < 8) && decide (1 ≤ c ∧ c ≤ 1048576)
theorem rdot_ok (n c : Int) (w : World) : Calls Tryz.prog 81 #[.agg #[.int .i64 n, .int .i64 c]] w fun r w' => r = .returned (.bool (isd n c)) ∧ Apart [] w w' := by
  obtain ⟨v, HV⟩ : ∃ v, Hid (v = isd n c) := ⟨_, rfl⟩
  have hv := HV.out
  unfold isd at hv
  by_cases h1 : 0 ≤ n <;> by_cases h2 : n < 8 <;> by_cases h3 : 1 ≤ c <;> by_cases h4 : c ≤ 1048576
  all_goals first
  | (exfalso; omega)
  | skip
  all_goals
    simp only [h1, h2, h3, h4, and_self, and_true, true_and, and_false, false_and, decide_true, decide_false, Bool.and_self, Bool.and_true, Bool.true_and, Bool.and_false, Bool.false_and] at hv
    rw [← HV.out, hv]
    clear HV hv
    go_enter Tryz.func81, Tryz.ntmps81
    go_wp2
    go_ret
    exact ⟨by first | rfl | (simp; omega), (Apart.refl _ _).alloc _⟩
/-- a span has a dot of that node -/
def inS (x : S) (n c : Int) : Bool := decide (x.n = n) && (decide (1 ≤ c) && dot x c)
def inL (xs : List S) (n c : Int) : Bool := xs.any fun x => inS x n c
theorem inL_ofn {gp : Int} {xs : List S} (k : OkL gp xs) (n c : Int) (hc : 1 ≤ c) : inL xs n c = dot (ofn xs n) c := by
  induction xs with
  | nil => simp [inL, ofn, dot_none n c hc]
  | cons x l ih =>
    have ih := ih k.tail
    simp only [inL, List.any_cons] at ih ⊢
    by_cases h : x.n = n
    · have hl : (l.any fun x => inS x n c) = false := by
        rw [List.any_eq_false]
        intro y hy
        have := (List.pairwise_cons.1 k.up).1 y hy
        simp [inS]; intro e; omega
      rw [hl, ofn, if_pos h]
      simp [inS, h, hc]
    · rw [ih, ofn, if_neg h]
      simp [inS, h]
theorem inL_take {xs : List S} {i : Nat} (n c : Int) (hi : i < xs.length) : inL (xs.take (i + 1)) n c = (inL (xs.take i) n c || inS (g xs i) n c) := by
  rw [take_g hi]; simp [inL]
set_option maxHeartbeats 1000000 in
theorem bit_any (n b : Int) (t : Nat) (i : Int) (w : World) (ht : t < 2 ^ 64) (hi : 0 ≤ i) : Calls Tryz.prog 88 #[.agg #[.int .i64 n, .int .i64 b, .int .u64 t], .int .i64 i] w fun r w' => r = .returned (.bool (t.testBit i.toNat)) ∧ Apart [] w w' := by
  by_cases h64 : i < 64
  · obtain ⟨k, rfl⟩ := Int.eq_ofNat_of_zero_le hi
    exact bit_ok n b t k w ht (by omega)
  · rw [Nat.testBit_lt_two_pow (Nat.lt_of_lt_of_le ht (Nat.pow_le_pow_right (by omega) (by omega)))]
    go_enter Tryz.func88, Tryz.ntmps88
    go_wp2
    go_ret
    exact ⟨rfl, (Apart.refl _ _).alloc _⟩
set_option maxHeartbeats 8000000 in
set_option maxRecDepth 100000 in
theorem rin_ok {p : Option Addr} {N cap : Nat} {xs : List S} {w : World} (h : L w p N xs) (hbase : ∀ x ∈ xs, 0 ≤ x.b ∧ x.b ≤ 4194304) (dn dc : Int) (hc : dc ≤ 4194304) (hc0 : -4194304 ≤ dc) : Calls Tryz.prog 109 #[.slice p N cap, .agg #[.int .i64 dn, .int .i64 dc]] w fun r w' => r = .returned (.bool (inL xs dn dc)) ∧ Apart [] w w' := by
  have hlim := h.lim
  have kB := fun W => @new1d w (.int .i64 dn) (.int .i64 dc) 25 W
  have aB : Apart [] w (w.alloc (.cells #[.int .i64 dn, .int .i64 dc] 25)) := (Apart.refl _ _).alloc _
  go_enter Tryz.func109, Tryz.ntmps109
  go_wp2_with fail
  generalize w.alloc (.cells #[.int .i64 dn, .int .i64 dc] 25) = V0 at *
  go_loopw [5] (fun v wr => ∃ i : Nat, i ≤ N ∧ v = .int .i64 i ∧ Apart [] V0 wr ∧ inL (xs.take i) dn dc = false) (fun v _ => N - (intOf v).toNat)
  case atStart => exact ⟨0, Nat.zero_le _, rfl, Apart.refl _ _, rfl⟩
  case round =>
    obtain ⟨i, hi, rfl, aR, hno⟩ := hrel
    by_cases hlt : i < N
    · have HI : Hid (i < xs.length) := by show i < xs.length; rw [h.len]; omega
      obtain ⟨P, o, rfl, hP, hcc⟩ := ((h.kept0 aB).kept0 aR).sp (by rw [h.len]; omega)
      obtain ⟨c0, c1, c2⟩ := hcc i HI.out
      have hxt := h.fit _ (g_mem HI.out)
      have hxb := hbase _ (g_mem HI.out)
      have HT : Hid (inL (xs.take (i + 1)) dn dc = inS (g xs i) dn dc) := by
        show inL (xs.take (i + 1)) dn dc = inS (g xs i) dn dc
        rw [inL_take _ _ HI.out, hno, Bool.false_or]
      have HA : Hid (inS (g xs i) dn dc = true → inL xs dn dc = true) := fun hh => by
        unfold inL
        rw [List.any_eq_true]
        exact ⟨_, g_mem HI.out, hh⟩
      obtain ⟨⟨xn, xb, xt⟩, HX⟩ : ∃ x, Hid (x = g xs i) := ⟨_, rfl⟩
      rw [← HX.out] at c0 c1 c2 hxt hxb HT HA
      simp only at c0 c1 c2 hxt hxb
      clear hcc
      obtain ⟨d0, d1⟩ := kB wr aR
      go_wp2_with fail
      by_cases e1 : xn = dn
      · subst e1
        by_cases e2 : 1 ≤ dc
        · by_cases e3 : dc ≤ xb
          · have HV : Hid (inS ⟨xn, xb, xt⟩ xn dc = true) := by
              show inS ⟨xn, xb, xt⟩ xn dc = true
              simp [inS, e2, dot, e3]
            have e2' : decide (1 ≤ dc) = true := decide_eq_true e2
            have e3' : decide (dc ≤ xb) = true := decide_eq_true e3
            go_quiet (fail)
            go_wp2
            go_ret
            exact ⟨by rw [HA.out HV.out]; rfl, aB.trans (aR.drewN _)⟩
          · have hnn : (0 : Int) ≤ dc - xb - 1 := by omega
            have hs1 : IntKind.i64.wrap (dc - xb) = dc - xb := by rw [IntKind.wrap_i64]; omega
            have hs2 : IntKind.i64.wrap (dc - xb - 1) = dc - xb - 1 := by rw [IntKind.wrap_i64]; omega
            obtain ⟨vb, HB⟩ : ∃ v, Hid (v = xt.testBit (dc - xb - 1).toNat) := ⟨_, rfl⟩
            have HV : Hid (inS ⟨xn, xb, xt⟩ xn dc = vb) := by
              show inS ⟨xn, xb, xt⟩ xn dc = vb
              rw [HB.out]
              unfold inS dot
              rw [decide_eq_true e2, decide_eq_true rfl, decide_eq_false e3]; simp
            obtain ⟨V, HW⟩ : ∃ V, Hid (V = wr) := ⟨_, rfl⟩
            have r0 : ∀ W, Apart [] V W → W.cell? ⟨P, o + i * 3, none⟩ = some (.int .i64 xn) := fun W a => by rw [HW.out] at a; exact (a.cell hP (by simp)).trans c0
            have r1 : ∀ W, Apart [] V W → W.cell? ⟨P, o + i * 3 + 1, none⟩ = some (.int .i64 xb) := fun W a => by rw [HW.out] at a; exact (a.cell hP (by simp)).trans c1
            have r2 : ∀ W, Apart [] V W → W.cell? ⟨P, o + i * 3 + 2, none⟩ = some (.int .u64 xt) := fun W a => by rw [HW.out] at a; exact (a.cell hP (by simp)).trans c2
            have r3 : ∀ W, Apart [] V W → W.cell? ⟨w.heap.size, 0, none⟩ = some (.int .i64 xn) := fun W a => by rw [HW.out] at a; exact (kB W (aR.trans a)).1
            have r4 : ∀ W, Apart [] V W → W.cell? ⟨w.heap.size, 1, none⟩ = some (.int .i64 dc) := fun W a => by rw [HW.out] at a; exact (kB W (aR.trans a)).2
            have aV : Apart [] V wr.drew := by rw [HW.out]; exact (Apart.refl _ _).drew
            have aR' : Apart [] V0 V := by rw [HW.out]; exact aR
            clear c0 c1 c2 d0 d1
            refine wp_region_held_drew (S := fun W => Apart [] V W) (by kernel_rfl) aV (fun hHeld => ?_)
            refine tk 0 12 (.slice (some ⟨P, o, none⟩) N cap) rfl ?_ ?_
            · intro W hSW; go_simp
            simp only [Act.put, List.setIfInBounds_toArray, List.set_cons_zero, List.set_cons_succ]
            refine tk 1 13 (.int .i64 (i : Int)) rfl ?_ ?_
            · intro W hSW; go_simp
            simp only [Act.put, List.setIfInBounds_toArray, List.set_cons_zero, List.set_cons_succ]
            refine tk 2 14 (.pointer (some ⟨P, o + i * 3, none⟩)) rfl ?_ ?_
            · intro W hSW; go_simp
            simp only [Act.put, List.setIfInBounds_toArray, List.set_cons_zero, List.set_cons_succ]
            refine tk 3 15 (.pointer (some ⟨P, o + i * 3, none⟩)) rfl ?_ ?_
            · intro W hSW; go_simp
            simp only [Act.put, List.setIfInBounds_toArray, List.set_cons_zero, List.set_cons_succ]
            refine tk 4 16 (.int .i64 xn) rfl ?_ ?_
            · intro W hSW; go_simp
            simp only [Act.put, List.setIfInBounds_toArray, List.set_cons_zero, List.set_cons_succ]
            refine tk 5 17 (.pointer (some ⟨w.heap.size, 0, none⟩)) rfl ?_ ?_
            · intro W hSW; go_simp
            simp only [Act.put, List.setIfInBounds_toArray, List.set_cons_zero, List.set_cons_succ]
            refine tk 6 18 (.int .i64 xn) rfl ?_ ?_
            · intro W hSW; go_simp
            simp only [Act.put, List.setIfInBounds_toArray, List.set_cons_zero, List.set_cons_succ]
            refine tk 7 19 (.bool true) rfl ?_ ?_
            · intro W hSW; go_simp
            simp only [Act.put, List.setIfInBounds_toArray, List.set_cons_zero, List.set_cons_succ]
            refine tk 8 20 (.bool true) rfl ?_ ?_
            · intro W hSW; go_simp
            simp only [Act.put, List.setIfInBounds_toArray, List.set_cons_zero, List.set_cons_succ]
            refine tk 9 21 (.pointer (some ⟨w.heap.size, 1, none⟩)) rfl ?_ ?_
            · intro W hSW; go_simp
            simp only [Act.put, List.setIfInBounds_toArray, List.set_cons_zero, List.set_cons_succ]
            refine tk 10 22 (.int .i64 dc) rfl ?_ ?_
            · intro W hSW; go_simp
            simp only [Act.put, List.setIfInBounds_toArray, List.set_cons_zero, List.set_cons_succ]
            refine tk 11 23 (.bool true) rfl ?_ ?_
            · intro W hSW; go_simp
            simp only [Act.put, List.setIfInBounds_toArray, List.set_cons_zero, List.set_cons_succ]
            refine tk 12 24 (.bool true) rfl ?_ ?_
            · intro W hSW; go_simp
            simp only [Act.put, List.setIfInBounds_toArray, List.set_cons_zero, List.set_cons_succ]
            refine tk 13 25 (.bool true) rfl ?_ ?_
            · intro W hSW; go_simp
            simp only [Act.put, List.setIfInBounds_toArray, List.set_cons_zero, List.set_cons_succ]
            refine tk 14 26 (.pointer (some ⟨w.heap.size, 1, none⟩)) rfl ?_ ?_
            · intro W hSW; go_simp
            simp only [Act.put, List.setIfInBounds_toArray, List.set_cons_zero, List.set_cons_succ]
            refine tk 15 27 (.int .i64 dc) rfl ?_ ?_
            · intro W hSW; go_simp
            simp only [Act.put, List.setIfInBounds_toArray, List.set_cons_zero, List.set_cons_succ]
            refine tk 16 28 (.slice (some ⟨P, o, none⟩) N cap) rfl ?_ ?_
            · intro W hSW; go_simp
            simp only [Act.put, List.setIfInBounds_toArray, List.set_cons_zero, List.set_cons_succ]
            refine tk 17 29 (.int .i64 (i : Int)) rfl ?_ ?_
            · intro W hSW; go_simp
            simp only [Act.put, List.setIfInBounds_toArray, List.set_cons_zero, List.set_cons_succ]
            refine tk 18 30 (.pointer (some ⟨P, o + i * 3, none⟩)) rfl ?_ ?_
            · intro W hSW; go_simp
            simp only [Act.put, List.setIfInBounds_toArray, List.set_cons_zero, List.set_cons_succ]
            refine tk 19 31 (.pointer (some ⟨P, o + i * 3 + 1, none⟩)) rfl ?_ ?_
            · intro W hSW; go_simp
            simp only [Act.put, List.setIfInBounds_toArray, List.set_cons_zero, List.set_cons_succ]
            refine tk 20 32 (.int .i64 xb) rfl ?_ ?_
            · intro W hSW; go_simp
            simp only [Act.put, List.setIfInBounds_toArray, List.set_cons_zero, List.set_cons_succ]
            refine tk 21 33 (.bool false) rfl ?_ ?_
            · intro W hSW; go_simp
            simp only [Act.put, List.setIfInBounds_toArray, List.set_cons_zero, List.set_cons_succ]
            refine tk 22 34 (.bool false) rfl ?_ ?_
            · intro W hSW; go_simp
            simp only [Act.put, List.setIfInBounds_toArray, List.set_cons_zero, List.set_cons_succ]
            refine tk 23 35 (.slice (some ⟨P, o, none⟩) N cap) rfl ?_ ?_
            · intro W hSW; go_simp
            simp only [Act.put, List.setIfInBounds_toArray, List.set_cons_zero, List.set_cons_succ]
            refine tk 24 36 (.int .i64 (i : Int)) rfl ?_ ?_
            · intro W hSW; go_simp
            simp only [Act.put, List.setIfInBounds_toArray, List.set_cons_zero, List.set_cons_succ]
            refine tk 25 37 (.pointer (some ⟨P, o + i * 3, none⟩)) rfl ?_ ?_
            · intro W hSW; go_simp
            simp only [Act.put, List.setIfInBounds_toArray, List.set_cons_zero, List.set_cons_succ]
            refine tk 26 38 (.agg #[.int .i64 xn, .int .i64 xb, .int .u64 xt]) rfl ?_ ?_
            · intro W hSW; go_simp
            simp only [Act.put, List.setIfInBounds_toArray, List.set_cons_zero, List.set_cons_succ]
            refine tk 27 39 (.pointer (some ⟨w.heap.size, 1, none⟩)) rfl ?_ ?_
            · intro W hSW; go_simp
            simp only [Act.put, List.setIfInBounds_toArray, List.set_cons_zero, List.set_cons_succ]
            refine tk 28 40 (.int .i64 dc) rfl ?_ ?_
            · intro W hSW; go_simp
            simp only [Act.put, List.setIfInBounds_toArray, List.set_cons_zero, List.set_cons_succ]
            refine tk 29 41 (.slice (some ⟨P, o, none⟩) N cap) rfl ?_ ?_
            · intro W hSW; go_simp
            simp only [Act.put, List.setIfInBounds_toArray, List.set_cons_zero, List.set_cons_succ]
            refine tk 30 42 (.int .i64 (i : Int)) rfl ?_ ?_
            · intro W hSW; go_simp
            simp only [Act.put, List.setIfInBounds_toArray, List.set_cons_zero, List.set_cons_succ]
            refine tk 31 43 (.pointer (some ⟨P, o + i * 3, none⟩)) rfl ?_ ?_
            · intro W hSW; go_simp
            simp only [Act.put, List.setIfInBounds_toArray, List.set_cons_zero, List.set_cons_succ]
            refine tk 32 44 (.pointer (some ⟨P, o + i * 3 + 1, none⟩)) rfl ?_ ?_
            · intro W hSW; go_simp
            simp only [Act.put, List.setIfInBounds_toArray, List.set_cons_zero, List.set_cons_succ]
            refine tk 33 45 (.int .i64 xb) rfl ?_ ?_
            · intro W hSW; go_simp
            simp only [Act.put, List.setIfInBounds_toArray, List.set_cons_zero, List.set_cons_succ]
            refine tk 34 46 (.int .i64 (dc - xb)) rfl ?_ ?_
            · intro W hSW; go_simp
            simp only [Act.put, List.setIfInBounds_toArray, List.set_cons_zero, List.set_cons_succ]
            refine tk 35 47 (.int .i64 (dc - xb - 1)) rfl ?_ ?_
            · intro W hSW; go_simp
            simp only [Act.put, List.setIfInBounds_toArray, List.set_cons_zero, List.set_cons_succ]
            refine wpAnyH_ready (rs := [36]) (by kernel_rfl) (by simp) ?_
            refine AllReadyH.cons rfl (fun KK hKK => ?_) AllReadyH.nil
            go_simp
            refine (bit_any xn xb xt (dc - xb - 1) _ hxt hnn).mono ?_
            rintro r w5 ⟨rfl, a5⟩
            dsimp only
            have a6 := aV.trans a5
            rw [← HB.out]
            refine hKK.out _ _ (by assumption) (fun hHeld => ?_)
            clear hKK KK
            refine tk 37 49 (.bool vb) rfl ?_ ?_
            · intro W hSW; go_simp
            simp only [Act.put, List.setIfInBounds_toArray, List.set_cons_zero, List.set_cons_succ]
            refine tk 38 50 (.bool vb) rfl ?_ ?_
            · intro W hSW; go_simp
            simp only [Act.put, List.setIfInBounds_toArray, List.set_cons_zero, List.set_cons_succ]
            refine wpAnyH_done (by kernel_rfl) ?_ _
            have a7 := aR'.trans a6
            clear r0 r1 r2 r3 r4
            cases vb
            · go_wp2
              go_roundw
              case rel => exact ⟨i + 1, by omega, rfl, a7, by rw [HT.out]; exact HV.out⟩
              case measure => simp [intOf]; omega
            · go_wp2
              go_ret
              exact ⟨by rw [HA.out HV.out]; rfl, aB.trans a7⟩
        · have HV : Hid (inS ⟨xn, xb, xt⟩ xn dc = false) := by
            show inS ⟨xn, xb, xt⟩ xn dc = false
            simp [inS, e2]
          have e2' : decide (1 ≤ dc) = false := decide_eq_false e2
          go_quiet (fail)
          go_wp2
          go_roundw
          case rel => exact ⟨i + 1, by omega, rfl, aR.drewN _, by rw [HT.out]; exact HV.out⟩
          case measure => simp [intOf]; omega
      · have HV : Hid (inS ⟨xn, xb, xt⟩ dn dc = false) := by
          show inS ⟨xn, xb, xt⟩ dn dc = false
          simp [inS, e1]
        have e1' : (xn == dn) = false := by simp; exact e1
        go_quiet (fail)
        go_wp2
        go_roundw
        case rel => exact ⟨i + 1, by omega, rfl, aR.drewN _, by rw [HT.out]; exact HV.out⟩
        case measure => simp [intOf]; omega
    · go_wp2
      go_ret
      refine ⟨?_, aB.trans aR⟩
      obtain rfl : i = N := by omega
      have : xs.take i = xs := List.take_of_length_le (by rw [h.len]; omega)
      rw [← this, hno]; rfl
theorem right_yes {p : Option Addr} {N cap : Nat} {xs : List S} {gap : Int} {w : World} (h : L w p N xs) (hg : 1 ≤ gap ∧ gap ≤ 64) (k : OkL gap xs) : Calls Tryz.prog 52 #[.slice p N cap, .int .i64 gap] w fun r w' => r = .returned (.bool true) ∧ Apart [] w w' := by
  refine (right_ok h hg).mono ?_
  rintro r w1 ⟨⟨v, rfl, hv⟩, a1⟩
  exact ⟨by rw [hv.2 k], a1⟩
theorem right_no {p : Option Addr} {N cap : Nat} {xs : List S} {gap : Int} {w : World} (h : L w p N xs) (hg : 1 ≤ gap ∧ gap ≤ 64) (k : ¬ OkL gap xs) : Calls Tryz.prog 52 #[.slice p N cap, .int .i64 gap] w fun r w' => r = .returned (.bool false) ∧ Apart [] w w' := by
  refine (right_ok h hg).mono ?_
  rintro r w1 ⟨⟨v, rfl, hv⟩, a1⟩
  cases v
  · exact ⟨rfl, a1⟩
  · exact absurd (hv.1 rfl) k
theorem OkL.bases {gp : Int} {xs : List S} (k : OkL gp xs) : ∀ x ∈ xs, 0 ≤ x.b ∧ x.b ≤ 4194304 := fun x hx => ⟨(k.ok x hx).b0, by have := (k.ok x hx).bM; omega⟩
theorem hasv_isd (xs : List S) (n c : Int) : hasv xs n c = (isd n c && dot (ofn xs n) c) := rfl
theorem hasv_nil (n c : Int) : hasv [] n c = false := by
  rw [hasv_isd]
  cases h : isd n c
  · rfl
  · have h1 : 1 ≤ c := by
      unfold isd at h
      rw [Bool.and_eq_true, decide_eq_true_eq, decide_eq_true_eq] at h
      exact h.2.1
    rw [ofn_nil, dot_none n c h1]; rfl
set_option maxHeartbeats 2000000 in
theorem rhas_ok {p : Option Addr} {N cap : Nat} {xs : List S} {w : World} (dn dc : Int) (h : L w p N xs) (v : Bool) (hv : v = hasv (norm xs) dn dc) : Calls Tryz.prog 92 #[.slice p N cap, .agg #[.int .i64 dn, .int .i64 dc]] w fun r w' => r = .returned (.bool v) ∧ Apart [] w w' := by
  have kB := fun W => @new1d w (.int .i64 dn) (.int .i64 dc) 25 W
  have aB : Apart [] w (w.alloc (.cells #[.int .i64 dn, .int .i64 dc] 25)) := (Apart.refl _ _).alloc _
  have HV : Hid (v = hasv (norm xs) dn dc) := hv
  clear hv
  by_cases k : OkL 64 xs
  · go_enter Tryz.func92, Tryz.ntmps92
    go_wp2_with fail
    generalize w.alloc (.cells #[.int .i64 dn, .int .i64 dc] 25) = V0 at *
    refine (right_yes (h.kept0 aB) (by decide) k).mono ?_
    rintro r w1 ⟨rfl, a1⟩
    dsimp only
    obtain ⟨d0, d1⟩ := kB w1 a1
    go_wp2_with fail
    refine (rdot_ok dn dc w1).mono ?_
    obtain ⟨u, HU⟩ : ∃ u, Hid (u = isd dn dc) := ⟨_, rfl⟩
    rw [← HU.out]
    rintro r w2 ⟨rfl, a2⟩
    dsimp only
    have a3 := a1.trans a2
    obtain ⟨e0, e1⟩ := kB w2 a3
    clear d0 d1
    cases u
    · go_wp2
      go_ret
      refine ⟨?_, aB.trans a3⟩
      rw [HV.out, hasv_isd, ← HU.out]; rfl
    · have hd : (0 ≤ dn ∧ dn < 8) ∧ 1 ≤ dc ∧ dc ≤ 1048576 := by
        have := HU.out
        unfold isd at this
        have h2 := this.symm
        rw [Bool.and_eq_true, decide_eq_true_eq, decide_eq_true_eq] at h2
        exact h2
      have hin := rin_ok (cap := cap) ((h.kept0 aB).kept0 a3) k.bases dn dc (by omega) (by omega)
      have e : inL xs dn dc = v := by
        rw [HV.out, hasv_isd, ← HU.out, norm_of k, inL_ofn k dn dc hd.2.1]; rfl
      rw [e] at hin
      clear hd
      go_wp2_with (go_at_call 109; refine hin.mono ?_; rintro r w4 ⟨rfl, a4⟩)
      go_ret
      exact ⟨rfl, aB.trans (a3.trans a4)⟩
  · go_enter Tryz.func92, Tryz.ntmps92
    go_wp2_with fail
    generalize w.alloc (.cells #[.int .i64 dn, .int .i64 dc] 25) = V0 at *
    refine (right_no (h.kept0 aB) (by decide) k).mono ?_
    rintro r w1 ⟨rfl, a1⟩
    dsimp only
    obtain ⟨d0, d1⟩ := kB w1 a1
    go_wp2_with fail
    refine (rdot_ok dn dc w1).mono ?_
    obtain ⟨u, HU⟩ : ∃ u, Hid (u = isd dn dc) := ⟨_, rfl⟩
    rw [← HU.out]
    rintro r w2 ⟨rfl, a2⟩
    dsimp only
    have a3 := a1.trans a2
    go_wp2
    go_ret
    refine ⟨?_, aB.trans a3⟩
    rw [HV.out, norm_no k, hasv_nil]; rfl
theorem has_any {p : Option Addr} {N cap : Nat} {xs : List S} {w : World} (dn dc : Int) (h : L w p N xs) (v : Bool) (hv : v = hasv (norm xs) dn dc) : Calls Tryz.prog 76 #[.slice p N cap, .agg #[.int .i64 dn, .int .i64 dc]] w fun r w' => r = .returned (.bool v) ∧ Apart [] w w' := by
  subst hv
  by_cases hd : IsDot dn dc
  · have := has_yes (cap := cap) dn dc h hd
    unfold hasv
    rw [decide_eq_true hd.1, decide_eq_true hd.2]
    exact this
  · have := has_no (p := p) (N := N) (cap := cap) (w := w) dn dc hd
    have e : hasv (norm xs) dn dc = false := by
      unfold hasv
      by_cases h1 : 0 ≤ dn ∧ dn < 8
      · rw [decide_eq_false (p := 1 ≤ dc ∧ dc ≤ 1048576) (fun h2 => hd ⟨h1, h2⟩)]; simp
      · rw [decide_eq_false h1]; simp
    rw [e]
    exact this
end Go.Proofs.YtddffdcjhleejaaGreat.ds

namespace Go.Proofs.YtddffdcjhleejaaGreat.ds
open Go.ChangeShapes Go.WideShapes Go.ChangeAt Go.RowKit
set_option linter.unusedVariables false
theorem gap_ok (n : Int) (w : World) : Calls Tryz.prog 99 #[.int .i64 n] w fun r w' => r = .returned (.bool (decide (1 ≤ n ∧ n ≤ 64))) ∧ w' = w := by
  by_cases h1 : 1 ≤ n <;> by_cases h2 : n ≤ 64
  all_goals
    go_enter Tryz.func99, Tryz.ntmps99
    go_wp2
    go_ret
    exact ⟨by simp [h1, h2], rfl⟩
end Go.Proofs.YtddffdcjhleejaaGreat.ds

namespace Go.Proofs.YtddffdcjhleejaaGreat.ds
open Go.ChangeShapes Go.WideShapes Go.ChangeAt Go.RowKit
set_option linter.unusedVariables false
theorem gap_yes (n : Int) (w : World) (h : 1 ≤ n ∧ n ≤ 64) : Calls Tryz.prog 99 #[.int .i64 n] w fun r w' => r = .returned (.bool true) ∧ w' = w := by
  have := gap_ok n w
  rwa [decide_eq_true h] at this
theorem gap_no (n : Int) (w : World) (h : ¬ (1 ≤ n ∧ n ≤ 64)) : Calls Tryz.prog 99 #[.int .i64 n] w fun r w' => r = .returned (.bool false) ∧ w' = w := by
  have := gap_ok n w
  rwa [decide_eq_false h] at this
theorem check_arg {p : Option Addr} {N cap : Nat} {xs : List S} {gap : Int} {w : World} (hg : ¬ (1 ≤ gap ∧ gap ≤ 64)) : Calls Tryz.prog 72 #[.slice p N cap, .int .i64 gap] w fun r w' => r = .returned (.int .i64 1) ∧ Apart [] w w' := by
  go_enter Tryz.func72, Tryz.ntmps72
  go_wp2_with (go_at_call 99; refine (gap_no gap _ hg).mono ?_; rintro r w1 ⟨rfl, rfl⟩)
  go_ret
  exact ⟨rfl, Apart.refl _ _⟩
theorem check_yes {p : Option Addr} {N cap : Nat} {xs : List S} {gap : Int} {w : World} (h : L w p N xs) (hg : 1 ≤ gap ∧ gap ≤ 64) (k : OkL gap xs) : Calls Tryz.prog 72 #[.slice p N cap, .int .i64 gap] w fun r w' => r = .returned (.int .i64 0) ∧ Apart [] w w' := by
  go_enter Tryz.func72, Tryz.ntmps72
  go_wp2_with (first | (go_at_call 99; refine (gap_yes gap _ hg).mono ?_; rintro r w1 ⟨rfl, rfl⟩) | (go_at_call 100; refine (isSet_yes h k).mono ?_; rintro r w2 ⟨rfl, a2⟩))
  go_ret
  exact ⟨rfl, a2⟩
theorem check_no {p : Option Addr} {N cap : Nat} {xs : List S} {gap : Int} {w : World} (h : L w p N xs) (hg : 1 ≤ gap ∧ gap ≤ 64) (k : ¬ OkL gap xs) : Calls Tryz.prog 72 #[.slice p N cap, .int .i64 gap] w fun r w' => r = .returned (.int .i64 30) ∧ Apart [] w w' := by
  go_enter Tryz.func72, Tryz.ntmps72
  go_wp2_with (first | (go_at_call 99; refine (gap_yes gap _ hg).mono ?_; rintro r w1 ⟨rfl, rfl⟩) | (go_at_call 100; refine (isSet_no h k).mono ?_; rintro r w2 ⟨rfl, a2⟩))
  go_ret
  exact ⟨rfl, a2⟩
end Go.Proofs.YtddffdcjhleejaaGreat.ds

namespace Go.Proofs.YtddffdcjhleejaaGreat.ds
open Go.ChangeShapes Go.WideShapes Go.ChangeAt Go.RowKit
set_option linter.unusedVariables false
open Classical in
/-- what Check answers -/
noncomputable def chk (xs : List S) (gap : Int) : Int := if 1 ≤ gap ∧ gap ≤ 64 then (if OkL gap xs then 0 else 30) else 1
theorem check_as {p : Option Addr} {N cap : Nat} {xs : List S} {gap : Int} {w : World} (h : L w p N xs) (e : Int) (he : e = chk xs gap) : Calls Tryz.prog 72 #[.slice p N cap, .int .i64 gap] w fun r w' => r = .returned (.int .i64 e) ∧ Apart [] w w' := by
  subst he
  unfold chk
  by_cases hg : 1 ≤ gap ∧ gap ≤ 64
  · rw [if_pos hg]
    by_cases k : OkL gap xs
    · rw [if_pos k]; exact check_yes h hg k
    · rw [if_neg k]; exact check_no h hg k
  · rw [if_neg hg]; exact check_arg (xs := xs) hg
end Go.Proofs.YtddffdcjhleejaaGreat.ds

namespace Go.Proofs.YtddffdcjhleejaaGreat.ds
open Go.ChangeShapes Go.WideShapes Go.ChangeAt Go.RowKit
set_option linter.unusedVariables false
/-- a slice as a value -/
structure Sl where
  p : Option Addr
  n : Nat
  c : Nat
def Sl.v (s : Sl) : Value := .slice s.p s.n s.c
/-- a write as it lies in memory: its two slices by their places -/
structure E where
  n : Int
  c : Int
  k : ByteArray
  d : Bool
  v : Sl
  x : Sl
def E.z : E := ⟨0, 0, ⟨#[]⟩, false, ⟨none, 0, 0⟩, ⟨none, 0, 0⟩⟩
def E.cs (e : E) : List Value := [.int .i64 e.n, .int .i64 e.c, .string e.k, .bool e.d, e.v.v, e.x.v]
/-- does a list of spans have a dot? -/
noncomputable def hasd (xs : List S) (n c : Int) : Bool := hasv (norm xs) n c
end Go.Proofs.YtddffdcjhleejaaGreat.ds
namespace Go.Proofs.YtddffdcjhleejaaGreat.ds
open Go.ChangeShapes Go.WideShapes Go.ChangeAt Go.RowKit
set_option linter.unusedVariables false
/-- a slice's values, as they read -/
def Rd (w : World) (p : Option Addr) (us : List Value) : Prop := 0 < us.length → ∃ P o, p = some ⟨P, o, none⟩ ∧ P < w.heap.size ∧ ∀ j u, us[j]? = some u → w.cell? ⟨P, o + j, none⟩ = some u
theorem Rd.nil (w : World) (p : Option Addr) : Rd w p [] := fun h => absurd h (by simp)
theorem Rd.kept {w w' : World} {p : Option Addr} {us : List Value} {X : List Nat} (h : Rd w p us) (a : Apart X w w') (hX : ∀ P o, p = some ⟨P, o, none⟩ → P ∉ X) : Rd w' p us := by
  intro h0
  obtain ⟨P, o, rfl, hP, hc⟩ := h h0
  exact ⟨P, o, rfl, Nat.lt_of_lt_of_le hP a.size, fun j u hj => (a.cell hP (hX P o rfl)).trans (hc j u hj)⟩
theorem Rd.kept0 {w w' : World} {p : Option Addr} {us : List Value} (h : Rd w p us) (a : Apart [] w w') : Rd w' p us := h.kept a (by simp)
theorem Rd.own {w : World} {p : Option Addr} {n cap size base : Nat} {e : TypeId} {us : List Value} (h : w.ownsRow base e size (.slice p n cap) n us) : Rd w p us := by
  intro h0
  have h' := h
  obtain ⟨hx, ⟨hv, hz⟩ | ⟨G, cap', cur, hv, hh, _⟩⟩ := h
  · exfalso
    subst hz
    simp at hx
    rw [hx] at h0
    simp at h0
  · simp at hv
    obtain ⟨rfl, rfl⟩ := hv
    refine ⟨G, 0, rfl, (h'.lt G rfl).2, fun j u hj => ?_⟩
    have := h'.cells rfl j u hj
    rwa [Addr.add_lit] at this
/-- the writes of a list, cell by cell -/
def flatE (es : List E) : List Value := es.flatMap E.cs
def gE (es : List E) (k : Nat) : E := es.getD k E.z
/-- bytes -/
def byts (bs : List Nat) : List Value := bs.map fun (b : Nat) => .int .u8 (b : Int)
/-- a write as it reads -/
structure Wr where
  n : Int
  c : Int
  k : ByteArray
  d : Bool
  vs : List Nat
  xs : List S
/-- nil has no length -/
def Sl.ok (s : Sl) : Prop := s.p = none → s.n = 0 ∧ s.c = 0
structure Reads (w : World) (e : E) (r : Wr) : Prop where
  n : e.n = r.n
  c : e.c = r.c
  k : e.k = r.k
  d : e.d = r.d
  v : Rd w e.v.p (byts r.vs)
  vn : r.vs.length = e.v.n
  vl : e.v.n ≤ 2000000
  vb : ∀ b ∈ r.vs, b < 256
  x : L w e.x.p e.x.n r.xs
  xl : e.x.n ≤ 2000000
  vo : e.v.ok
  xo : e.x.ok
theorem Reads.kept0 {w w' : World} {e : E} {r : Wr} (h : Reads w e r) (a : Apart [] w w') : Reads w' e r := { h with v := h.v.kept0 a, x := h.x.kept0 a }
end Go.Proofs.YtddffdcjhleejaaGreat.ds
namespace Go.Proofs.YtddffdcjhleejaaGreat.ds
open Go.ChangeShapes Go.WideShapes Go.ChangeAt Go.RowKit Go.Sort
set_option linter.unusedVariables false
set_option linter.unusedSimpArgs false
/-- does the dot of a stand ahead of that of b? -/
def below (a b : E) : Bool := decide (a.n < b.n) || (decide (a.n = b.n) && decide (a.c < b.c))
theorem row6 {w : World} {g : Nat} {a b c d e f : Value} {t : TypeId} (h : w.heap[g]? = some (.cells #[a, b, c, d, e, f] t (0, 0))) : w.cell? ⟨g, 0, none⟩ = some a ∧ w.cell? ⟨g, 1, none⟩ = some b ∧ w.cell? ⟨g, 2, none⟩ = some c ∧ w.cell? ⟨g, 3, none⟩ = some d ∧ w.cell? ⟨g, 4, none⟩ = some e ∧ w.cell? ⟨g, 5, none⟩ = some f := by
  refine ⟨?_, ?_, ?_, ?_, ?_, ?_⟩ <;> (rw [cell_of_row _ _ _ _ _ _ h]; rfl)
end Go.Proofs.YtddffdcjhleejaaGreat.ds
namespace Go.Proofs.YtddffdcjhleejaaGreat.ds
open Go.ChangeShapes Go.WideShapes Go.ChangeAt Go.RowKit Go.Sort
set_option linter.unusedVariables false
set_option linter.unusedSimpArgs false
/-- are two keys one? -/
def keq (a b : ByteArray) : Bool := a.toList == b.toList
theorem toList_inj {a b : ByteArray} (h : a.toList = b.toList) : a = b := by
  have := congrArg List.toArray h
  cases a with | mk a => cases b with | mk b =>
    simp [ByteArray.toList_eq] at this
    simpa using this
theorem keq_iff (a b : ByteArray) : keq a b = true ↔ a = b := by
  unfold keq
  rw [beq_iff_eq]
  exact ⟨toList_inj, fun h => by rw [h]⟩
end Go.Proofs.YtddffdcjhleejaaGreat.ds
namespace Go.Proofs.YtddffdcjhleejaaGreat.ds
open Go.ChangeShapes Go.WideShapes Go.ChangeAt Go.RowKit Go.Sort
set_option linter.unusedVariables false
set_option linter.unusedSimpArgs false
/-- a slice of new memory -/
structure Nw (w w' : World) (e size : Nat) (s : Sl) (us : List Value) : Prop where
  own : w'.ownsRow 0 e size s.v s.n us
  new : ∀ k, s.v.ownBlock = some k → w.heap.size ≤ k
  ap : Apart [] w w'
theorem Nw.kept {w w' w2 : World} {e size : Nat} {s : Sl} {us : List Value} (h : Nw w w' e size s us) (a : Apart [] w' w2) : Nw w w2 e size s us := ⟨own_apart h.own a (by simp), h.new, h.ap.trans a⟩
theorem Nw.rd {w w' : World} {e size : Nat} {s : Sl} {us : List Value} (h : Nw w w' e size s us) : Rd w' s.p us := Rd.own h.own
theorem Nw.ok {w w' : World} {e size : Nat} {s : Sl} {us : List Value} (h : Nw w w' e size s us) : s.ok := by
  intro hp
  obtain ⟨_, ⟨hv, hz⟩ | ⟨g, cap, cur, hv, _⟩⟩ := h.own
  · unfold Sl.v at hv; simp at hv; exact ⟨hz, hv.2.2⟩
  · unfold Sl.v at hv; simp [hp] at hv
theorem infoB : (Tryz.prog.info? 5).map (fun i => (i.zero, i.size, i.bytes)) = some (some (.int .u8 0), 1, 1) := by kernel_rfl
theorem oneB (bs : List Nat) : ∀ u ∈ byts bs, u.oneCell' = true := by
  intro u hu
  simp [byts] at hu
  obtain ⟨b, _, rfl⟩ := hu
  rfl
end Go.Proofs.YtddffdcjhleejaaGreat.ds
