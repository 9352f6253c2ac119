import Derived.Test.YtokaeiahhmaokaaGreatDoorV1
import Derived.Test.YtokaeiahhmaokaaGreatDoorV5
namespace Go.Proofs.YtokaeiahhmaokaaGreatDoor.ds
open Go.ChangeShapes Go.WideShapes Go.ChangeAt Go.RowKit
set_option linter.unusedVariables false
def hasv (xs : List S) (n c : Int) : Bool := (decide (0 ≤ n ∧ n < 8) && decide (1 ≤ c ∧ c ≤ 1048576)) && dot (ofn xs n) c
theorem take_g {xs : List S} {i : Nat} (hi : i < xs.length) : xs.take (i + 1) = xs.take i ++ [g xs i] := by
  rw [List.take_succ_eq_append_getElem hi]
  unfold g
  rw [List.getD_eq_getElem?_getD, List.getElem?_eq_getElem hi]; rfl
theorem ofn_nil (n : Int) : ofn [] n = none0 n := rfl
set_option linter.unusedSimpArgs false
/-- is it a dot? -/
def isd (n c : Int) : Bool := decide (0 ≤ n ∧ n < 8) && decide (1 ≤ c ∧ c ≤ 1048576)
theorem rdot_ok (n c : Int) (w : World) : Calls Tryz.prog 71 #[.agg #[.int .i64 n, .int .i64 c]] w fun r w' => r = .returned (.bool (isd n c)) ∧ Apart [] w w' := by
  obtain ⟨v, HV⟩ : ∃ v, Hid (v = isd n c) := ⟨_, rfl⟩
  have hv := HV.out
  unfold isd at hv
  by_cases h1 : 0 ≤ n <;> by_cases h2 : n < 8 <;> by_cases h3 : 1 ≤ c <;> by_cases h4 : c ≤ 1048576
  all_goals first
  | (exfalso; omega)
  | skip
  all_goals
    simp only [h1, h2, h3, h4, and_self, and_true, true_and, and_false, false_and, decide_true, decide_false, Bool.and_self, Bool.and_true, Bool.true_and, Bool.and_false, Bool.false_and] at hv
    rw [← HV.out, hv]
    clear HV hv
    go_enter Tryz.func71, Tryz.ntmps71
    go_wp2
    go_ret
    exact ⟨by first | rfl | (simp; omega), (Apart.refl _ _).alloc _⟩
/-- a span has a dot of that node -/
def inS (x : S) (n c : Int) : Bool := decide (x.n = n) && (decide (1 ≤ c) && dot x c)
def inL (xs : List S) (n c : Int) : Bool := xs.any fun x => inS x n c
theorem inL_ofn {gp : Int} {xs : List S} (k : OkL gp xs) (n c : Int) (hc : 1 ≤ c) : inL xs n c = dot (ofn xs n) c := by
  induction xs with
  | nil => simp [inL, ofn, dot_none n c hc]
  | cons x l ih =>
    have ih := ih k.tail
    simp only [inL, List.any_cons] at ih ⊢
    by_cases h : x.n = n
    · have hl : (l.any fun x => inS x n c) = false := by
        rw [List.any_eq_false]
        intro y hy
        have := (List.pairwise_cons.1 k.up).1 y hy
        simp [inS]; intro e; omega
      rw [hl, ofn, if_pos h]
      simp [inS, h, hc]
    · rw [ih, ofn, if_neg h]
      simp [inS, h]
theorem inL_take {xs : List S} {i : Nat} (n c : Int) (hi : i < xs.length) : inL (xs.take (i + 1)) n c = (inL (xs.take i) n c || inS (g xs i) n c) := by
  rw [take_g hi]; simp [inL]
set_option maxHeartbeats 1000000 in
theorem bit_any (n b : Int) (t : Nat) (i : Int) (w : World) (ht : t < 2 ^ 64) (hi : 0 ≤ i) : Calls Tryz.prog 93 #[.agg #[.int .i64 n, .int .i64 b, .int .u64 t], .int .i64 i] w fun r w' => r = .returned (.bool (t.testBit i.toNat)) ∧ Apart [] w w' := by
  by_cases h64 : i < 64
  · obtain ⟨k, rfl⟩ := Int.eq_ofNat_of_zero_le hi
    exact bit_ok n b t k w ht (by omega)
  · rw [Nat.testBit_lt_two_pow (Nat.lt_of_lt_of_le ht (Nat.pow_le_pow_right (by omega) (by omega)))]
    go_enter Tryz.func93, Tryz.ntmps93
    go_wp2
    go_ret
    exact ⟨rfl, (Apart.refl _ _).alloc _⟩
set_option maxHeartbeats 8000000 in
set_option maxRecDepth 100000 in
theorem rin_ok {p : Option Addr} {N cap : Nat} {xs : List S} {w : World} (h : L w p N xs) (hbase : ∀ x ∈ xs, 0 ≤ x.b ∧ x.b ≤ 4194304) (dn dc : Int) (hc : dc ≤ 4194304) (hc0 : -4194304 ≤ dc) : Calls Tryz.prog 82 #[.slice p N cap, .agg #[.int .i64 dn, .int .i64 dc]] w fun r w' => r = .returned (.bool (inL xs dn dc)) ∧ Apart [] w w' := by
  have hlim := h.lim
  have kB := fun W => @new1d w (.int .i64 dn) (.int .i64 dc) 24 W
  have aB : Apart [] w (w.alloc (.cells #[.int .i64 dn, .int .i64 dc] 24)) := (Apart.refl _ _).alloc _
  go_enter Tryz.func82, Tryz.ntmps82
  go_wp2_with fail
  generalize w.alloc (.cells #[.int .i64 dn, .int .i64 dc] 24) = V0 at *
  go_loopw [5] (fun v wr => ∃ i : Nat, i ≤ N ∧ v = .int .i64 i ∧ Apart [] V0 wr ∧ inL (xs.take i) dn dc = false) (fun v _ => N - (intOf v).toNat)
  case atStart => exact ⟨0, Nat.zero_le _, rfl, Apart.refl _ _, rfl⟩
  case round =>
    obtain ⟨i, hi, rfl, aR, hno⟩ := hrel
    by_cases hlt : i < N
    · have HI : Hid (i < xs.length) := by show i < xs.length; rw [h.len]; omega
      obtain ⟨P, o, rfl, hP, hcc⟩ := ((h.kept0 aB).kept0 aR).sp (by rw [h.len]; omega)
      obtain ⟨c0, c1, c2⟩ := hcc i HI.out
      have hxt := h.fit _ (g_mem HI.out)
      have hxb := hbase _ (g_mem HI.out)
      have HT : Hid (inL (xs.take (i + 1)) dn dc = inS (g xs i) dn dc) := by
        show inL (xs.take (i + 1)) dn dc = inS (g xs i) dn dc
        rw [inL_take _ _ HI.out, hno, Bool.false_or]
      have HA : Hid (inS (g xs i) dn dc = true → inL xs dn dc = true) := fun hh => by
        unfold inL
        rw [List.any_eq_true]
        exact ⟨_, g_mem HI.out, hh⟩
      obtain ⟨⟨xn, xb, xt⟩, HX⟩ : ∃ x, Hid (x = g xs i) := ⟨_, rfl⟩
      rw [← HX.out] at c0 c1 c2 hxt hxb HT HA
      simp only at c0 c1 c2 hxt hxb
      clear hcc
      obtain ⟨d0, d1⟩ := kB wr aR
      go_wp2_with fail
      by_cases e1 : xn = dn
      · subst e1
        by_cases e2 : 1 ≤ dc
        · by_cases e3 : dc ≤ xb
          · have HV : Hid (inS ⟨xn, xb, xt⟩ xn dc = true) := by
              show inS ⟨xn, xb, xt⟩ xn dc = true
              simp [inS, e2, dot, e3]
            have e2' : decide (1 ≤ dc) = true := decide_eq_true e2
            have e3' : decide (dc ≤ xb) = true := decide_eq_true e3
            go_quiet (fail)
            go_wp2
            go_ret
            exact ⟨by rw [HA.out HV.out]; rfl, aB.trans (aR.drewN _)⟩
          · have hnn : (0 : Int) ≤ dc - xb - 1 := by omega
            have hs1 : IntKind.i64.wrap (dc - xb) = dc - xb := by rw [IntKind.wrap_i64]; omega
            have hs2 : IntKind.i64.wrap (dc - xb - 1) = dc - xb - 1 := by rw [IntKind.wrap_i64]; omega
            obtain ⟨vb, HB⟩ : ∃ v, Hid (v = xt.testBit (dc - xb - 1).toNat) := ⟨_, rfl⟩
            have HV : Hid (inS ⟨xn, xb, xt⟩ xn dc = vb) := by
              show inS ⟨xn, xb, xt⟩ xn dc = vb
              rw [HB.out]
              unfold inS dot
              rw [decide_eq_true e2, decide_eq_true rfl, decide_eq_false e3]; simp
            obtain ⟨V, HW⟩ : ∃ V, Hid (V = wr) := ⟨_, rfl⟩
            have r0 : ∀ W, Apart [] V W → W.cell? ⟨P, o + i * 3, none⟩ = some (.int .i64 xn) := fun W a => by rw [HW.out] at a; exact (a.cell hP (by simp)).trans c0
            have r1 : ∀ W, Apart [] V W → W.cell? ⟨P, o + i * 3 + 1, none⟩ = some (.int .i64 xb) := fun W a => by rw [HW.out] at a; exact (a.cell hP (by simp)).trans c1
            have r2 : ∀ W, Apart [] V W → W.cell? ⟨P, o + i * 3 + 2, none⟩ = some (.int .u64 xt) := fun W a => by rw [HW.out] at a; exact (a.cell hP (by simp)).trans c2
            have r3 : ∀ W, Apart [] V W → W.cell? ⟨w.heap.size, 0, none⟩ = some (.int .i64 xn) := fun W a => by rw [HW.out] at a; exact (kB W (aR.trans a)).1
            have r4 : ∀ W, Apart [] V W → W.cell? ⟨w.heap.size, 1, none⟩ = some (.int .i64 dc) := fun W a => by rw [HW.out] at a; exact (kB W (aR.trans a)).2
            have aV : Apart [] V wr.drew := by rw [HW.out]; exact (Apart.refl _ _).drew
            have aR' : Apart [] V0 V := by rw [HW.out]; exact aR
            clear c0 c1 c2 d0 d1
            refine wp_region_held_drew (S := fun W => Apart [] V W) (by kernel_rfl) aV (fun hHeld => ?_)
            refine tk 0 12 (.slice (some ⟨P, o, none⟩) N cap) rfl ?_ ?_
            · intro W hSW; go_simp
            simp only [Act.put, List.setIfInBounds_toArray, List.set_cons_zero, List.set_cons_succ]
            refine tk 1 13 (.int .i64 (i : Int)) rfl ?_ ?_
            · intro W hSW; go_simp
            simp only [Act.put, List.setIfInBounds_toArray, List.set_cons_zero, List.set_cons_succ]
            refine tk 2 14 (.pointer (some ⟨P, o + i * 3, none⟩)) rfl ?_ ?_
            · intro W hSW; go_simp
            simp only [Act.put, List.setIfInBounds_toArray, List.set_cons_zero, List.set_cons_succ]
            refine tk 3 15 (.pointer (some ⟨P, o + i * 3, none⟩)) rfl ?_ ?_
            · intro W hSW; go_simp
            simp only [Act.put, List.setIfInBounds_toArray, List.set_cons_zero, List.set_cons_succ]
            refine tk 4 16 (.int .i64 xn) rfl ?_ ?_
            · intro W hSW; go_simp
            simp only [Act.put, List.setIfInBounds_toArray, List.set_cons_zero, List.set_cons_succ]
            refine tk 5 17 (.pointer (some ⟨w.heap.size, 0, none⟩)) rfl ?_ ?_
            · intro W hSW; go_simp
            simp only [Act.put, List.setIfInBounds_toArray, List.set_cons_zero, List.set_cons_succ]
            refine tk 6 18 (.int .i64 xn) rfl ?_ ?_
            · intro W hSW; go_simp
            simp only [Act.put, List.setIfInBounds_toArray, List.set_cons_zero, List.set_cons_succ]
            refine tk 7 19 (.bool true) rfl ?_ ?_
            · intro W hSW; go_simp
            simp only [Act.put, List.setIfInBounds_toArray, List.set_cons_zero, List.set_cons_succ]
            refine tk 8 20 (.bool true) rfl ?_ ?_
            · intro W hSW; go_simp
            simp only [Act.put, List.setIfInBounds_toArray, List.set_cons_zero, List.set_cons_succ]
            refine tk 9 21 (.pointer (some ⟨w.heap.size, 1, none⟩)) rfl ?_ ?_
            · intro W hSW; go_simp
            simp only [Act.put, List.setIfInBounds_toArray, List.set_cons_zero, List.set_cons_succ]
            refine tk 10 22 (.int .i64 dc) rfl ?_ ?_
            · intro W hSW; go_simp
            simp only [Act.put, List.setIfInBounds_toArray, List.set_cons_zero, List.set_cons_succ]
            refine tk 11 23 (.bool true) rfl ?_ ?_
            · intro W hSW; go_simp
            simp only [Act.put, List.setIfInBounds_toArray, List.set_cons_zero, List.set_cons_succ]
            refine tk 12 24 (.bool true) rfl ?_ ?_
            · intro W hSW; go_simp
            simp only [Act.put, List.setIfInBounds_toArray, List.set_cons_zero, List.set_cons_succ]
            refine tk 13 25 (.bool true) rfl ?_ ?_
            · intro W hSW; go_simp
            simp only [Act.put, List.setIfInBounds_toArray, List.set_cons_zero, List.set_cons_succ]
            refine tk 14 26 (.pointer (some ⟨w.heap.size, 1, none⟩)) rfl ?_ ?_
            · intro W hSW; go_simp
            simp only [Act.put, List.setIfInBounds_toArray, List.set_cons_zero, List.set_cons_succ]
            refine tk 15 27 (.int .i64 dc) rfl ?_ ?_
            · intro W hSW; go_simp
            simp only [Act.put, List.setIfInBounds_toArray, List.set_cons_zero, List.set_cons_succ]
            refine tk 16 28 (.slice (some ⟨P, o, none⟩) N cap) rfl ?_ ?_
            · intro W hSW; go_simp
            simp only [Act.put, List.setIfInBounds_toArray, List.set_cons_zero, List.set_cons_succ]
            refine tk 17 29 (.int .i64 (i : Int)) rfl ?_ ?_
            · intro W hSW; go_simp
            simp only [Act.put, List.setIfInBounds_toArray, List.set_cons_zero, List.set_cons_succ]
            refine tk 18 30 (.pointer (some ⟨P, o + i * 3, none⟩)) rfl ?_ ?_
            · intro W hSW; go_simp
            simp only [Act.put, List.setIfInBounds_toArray, List.set_cons_zero, List.set_cons_succ]
            refine tk 19 31 (.pointer (some ⟨P, o + i * 3 + 1, none⟩)) rfl ?_ ?_
            · intro W hSW; go_simp
            simp only [Act.put, List.setIfInBounds_toArray, List.set_cons_zero, List.set_cons_succ]
            refine tk 20 32 (.int .i64 xb) rfl ?_ ?_
            · intro W hSW; go_simp
            simp only [Act.put, List.setIfInBounds_toArray, List.set_cons_zero, List.set_cons_succ]
            refine tk 21 33 (.bool false) rfl ?_ ?_
            · intro W hSW; go_simp
            simp only [Act.put, List.setIfInBounds_toArray, List.set_cons_zero, List.set_cons_succ]
            refine tk 22 34 (.bool false) rfl ?_ ?_
            · intro W hSW; go_simp
            simp only [Act.put, List.setIfInBounds_toArray, List.set_cons_zero, List.set_cons_succ]
            refine tk 23 35 (.slice (some ⟨P, o, none⟩) N cap) rfl ?_ ?_
            · intro W hSW; go_simp
            simp only [Act.put, List.setIfInBounds_toArray, List.set_cons_zero, List.set_cons_succ]
            refine tk 24 36 (.int .i64 (i : Int)) rfl ?_ ?_
            · intro W hSW; go_simp
            simp only [Act.put, List.setIfInBounds_toArray, List.set_cons_zero, List.set_cons_succ]
            refine tk 25 37 (.pointer (some ⟨P, o + i * 3, none⟩)) rfl ?_ ?_
            · intro W hSW; go_simp
            simp only [Act.put, List.setIfInBounds_toArray, List.set_cons_zero, List.set_cons_succ]
            refine tk 26 38 (.agg #[.int .i64 xn, .int .i64 xb, .int .u64 xt]) rfl ?_ ?_
            · intro W hSW; go_simp
            simp only [Act.put, List.setIfInBounds_toArray, List.set_cons_zero, List.set_cons_succ]
            refine tk 27 39 (.pointer (some ⟨w.heap.size, 1, none⟩)) rfl ?_ ?_
            · intro W hSW; go_simp
            simp only [Act.put, List.setIfInBounds_toArray, List.set_cons_zero, List.set_cons_succ]
            refine tk 28 40 (.int .i64 dc) rfl ?_ ?_
            · intro W hSW; go_simp
            simp only [Act.put, List.setIfInBounds_toArray, List.set_cons_zero, List.set_cons_succ]
            refine tk 29 41 (.slice (some ⟨P, o, none⟩) N cap) rfl ?_ ?_
            · intro W hSW; go_simp
            simp only [Act.put, List.setIfInBounds_toArray, List.set_cons_zero, List.set_cons_succ]
            refine tk 30 42 (.int .i64 (i : Int)) rfl ?_ ?_
            · intro W hSW; go_simp
            simp only [Act.put, List.setIfInBounds_toArray, List.set_cons_zero, List.set_cons_succ]
            refine tk 31 43 (.pointer (some ⟨P, o + i * 3, none⟩)) rfl ?_ ?_
            · intro W hSW; go_simp
            simp only [Act.put, List.setIfInBounds_toArray, List.set_cons_zero, List.set_cons_succ]
            refine tk 32 44 (.pointer (some ⟨P, o + i * 3 + 1, none⟩)) rfl ?_ ?_
            · intro W hSW; go_simp
            simp only [Act.put, List.setIfInBounds_toArray, List.set_cons_zero, List.set_cons_succ]
            refine tk 33 45 (.int .i64 xb) rfl ?_ ?_
            · intro W hSW; go_simp
            simp only [Act.put, List.setIfInBounds_toArray, List.set_cons_zero, List.set_cons_succ]
            refine tk 34 46 (.int .i64 (dc - xb)) rfl ?_ ?_
            · intro W hSW; go_simp
            simp only [Act.put, List.setIfInBounds_toArray, List.set_cons_zero, List.set_cons_succ]
            refine tk 35 47 (.int .i64 (dc - xb - 1)) rfl ?_ ?_
            · intro W hSW; go_simp
            simp only [Act.put, List.setIfInBounds_toArray, List.set_cons_zero, List.set_cons_succ]
            refine wpAnyH_ready (rs := [36]) (by kernel_rfl) (by simp) ?_
            refine AllReadyH.cons rfl (fun KK hKK => ?_) AllReadyH.nil
            go_simp
            refine (bit_any xn xb xt (dc - xb - 1) _ hxt hnn).mono ?_
            rintro r w5 ⟨rfl, a5⟩
            dsimp only
            have a6 := aV.trans a5
            rw [← HB.out]
            refine hKK.out _ _ (by assumption) (fun hHeld => ?_)
            clear hKK KK
            refine tk 37 49 (.bool vb) rfl ?_ ?_
            · intro W hSW; go_simp
            simp only [Act.put, List.setIfInBounds_toArray, List.set_cons_zero, List.set_cons_succ]
            refine tk 38 50 (.bool vb) rfl ?_ ?_
            · intro W hSW; go_simp
            simp only [Act.put, List.setIfInBounds_toArray, List.set_cons_zero, List.set_cons_succ]
            refine wpAnyH_done (by kernel_rfl) ?_ _
            have a7 := aR'.trans a6
            clear r0 r1 r2 r3 r4
            cases vb
            · go_wp2
              go_roundw
              case rel => exact ⟨i + 1, by omega, rfl, a7, by rw [HT.out]; exact HV.out⟩
              case measure => simp [intOf]; omega
            · go_wp2
              go_ret
              exact ⟨by rw [HA.out HV.out]; rfl, aB.trans a7⟩
        · have HV : Hid (inS ⟨xn, xb, xt⟩ xn dc = false) := by
            show inS ⟨xn, xb, xt⟩ xn dc = false
            simp [inS, e2]
          have e2' : decide (1 ≤ dc) = false := decide_eq_false e2
          go_quiet (fail)
          go_wp2
          go_roundw
          case rel => exact ⟨i + 1, by omega, rfl, aR.drewN _, by rw [HT.out]; exact HV.out⟩
          case measure => simp [intOf]; omega
      · have HV : Hid (inS ⟨xn, xb, xt⟩ dn dc = false) := by
          show inS ⟨xn, xb, xt⟩ dn dc = false
          simp [inS, e1]
        have e1' : (xn == dn) = false := by simp; exact e1
        go_quiet (fail)
        go_wp2
        go_roundw
        case rel => exact ⟨i + 1, by omega, rfl, aR.drewN _, by rw [HT.out]; exact HV.out⟩
        case measure => simp [intOf]; omega
    · go_wp2
      go_ret
      refine ⟨?_, aB.trans aR⟩
      obtain rfl : i = N := by omega
      have : xs.take i = xs := List.take_of_length_le (by rw [h.len]; omega)
      rw [← this, hno]; rfl
theorem right_yes {p : Option Addr} {N cap : Nat} {xs : List S} {gap : Int} {w : World} (h : L w p N xs) (hg : 1 ≤ gap ∧ gap ≤ 64) (k : OkL gap xs) : Calls Tryz.prog 69 #[.slice p N cap, .int .i64 gap] w fun r w' => r = .returned (.bool true) ∧ Apart [] w w' := by
  refine (right_ok h hg).mono ?_
  rintro r w1 ⟨⟨v, rfl, hv⟩, a1⟩
  exact ⟨by rw [hv.2 k], a1⟩
theorem right_no {p : Option Addr} {N cap : Nat} {xs : List S} {gap : Int} {w : World} (h : L w p N xs) (hg : 1 ≤ gap ∧ gap ≤ 64) (k : ¬ OkL gap xs) : Calls Tryz.prog 69 #[.slice p N cap, .int .i64 gap] w fun r w' => r = .returned (.bool false) ∧ Apart [] w w' := by
  refine (right_ok h hg).mono ?_
  rintro r w1 ⟨⟨v, rfl, hv⟩, a1⟩
  cases v
  · exact ⟨rfl, a1⟩
  · exact absurd (hv.1 rfl) k
theorem OkL.bases {gp : Int} {xs : List S} (k : OkL gp xs) : ∀ x ∈ xs, 0 ≤ x.b ∧ x.b ≤ 4194304 := fun x hx => ⟨(k.ok x hx).b0, by have := (k.ok x hx).bM; omega⟩
theorem hasv_isd (xs : List S) (n c : Int) : hasv xs n c = (isd n c && dot (ofn xs n) c) := rfl
theorem hasv_nil (n c : Int) : hasv [] n c = false := by
  rw [hasv_isd]
  cases h : isd n c
  · rfl
  · have h1 : 1 ≤ c := by
      unfold isd at h
      rw [Bool.and_eq_true, decide_eq_true_eq, decide_eq_true_eq] at h
      exact h.2.1
    rw [ofn_nil, dot_none n c h1]; rfl
set_option maxHeartbeats 2000000 in
theorem rhas_ok {p : Option Addr} {N cap : Nat} {xs : List S} {w : World} (dn dc : Int) (h : L w p N xs) (v : Bool) (hv : v = hasv (norm xs) dn dc) : Calls Tryz.prog 49 #[.slice p N cap, .agg #[.int .i64 dn, .int .i64 dc]] w fun r w' => r = .returned (.bool v) ∧ Apart [] w w' := by
  have kB := fun W => @new1d w (.int .i64 dn) (.int .i64 dc) 24 W
  have aB : Apart [] w (w.alloc (.cells #[.int .i64 dn, .int .i64 dc] 24)) := (Apart.refl _ _).alloc _
  have HV : Hid (v = hasv (norm xs) dn dc) := hv
  clear hv
  by_cases k : OkL 64 xs
  · go_enter Tryz.func49, Tryz.ntmps49
    go_wp2_with fail
    generalize w.alloc (.cells #[.int .i64 dn, .int .i64 dc] 24) = V0 at *
    refine (right_yes (h.kept0 aB) (by decide) k).mono ?_
    rintro r w1 ⟨rfl, a1⟩
    dsimp only
    obtain ⟨d0, d1⟩ := kB w1 a1
    go_wp2_with fail
    refine (rdot_ok dn dc w1).mono ?_
    obtain ⟨u, HU⟩ : ∃ u, Hid (u = isd dn dc) := ⟨_, rfl⟩
    rw [← HU.out]
    rintro r w2 ⟨rfl, a2⟩
    dsimp only
    have a3 := a1.trans a2
    obtain ⟨e0, e1⟩ := kB w2 a3
    clear d0 d1
    cases u
    · go_wp2
      go_ret
      refine ⟨?_, aB.trans a3⟩
      rw [HV.out, hasv_isd, ← HU.out]; rfl
    · have hd : (0 ≤ dn ∧ dn < 8) ∧ 1 ≤ dc ∧ dc ≤ 1048576 := by
        have := HU.out
        unfold isd at this
        have h2 := this.symm
        rw [Bool.and_eq_true, decide_eq_true_eq, decide_eq_true_eq] at h2
        exact h2
      have hin := rin_ok (cap := cap) ((h.kept0 aB).kept0 a3) k.bases dn dc (by omega) (by omega)
      have e : inL xs dn dc = v := by
        rw [HV.out, hasv_isd, ← HU.out, norm_of k, inL_ofn k dn dc hd.2.1]; rfl
      rw [e] at hin
      clear hd
      go_wp2_with (go_at_call 82; refine hin.mono ?_; rintro r w4 ⟨rfl, a4⟩)
      go_ret
      exact ⟨rfl, aB.trans (a3.trans a4)⟩
  · go_enter Tryz.func49, Tryz.ntmps49
    go_wp2_with fail
    generalize w.alloc (.cells #[.int .i64 dn, .int .i64 dc] 24) = V0 at *
    refine (right_no (h.kept0 aB) (by decide) k).mono ?_
    rintro r w1 ⟨rfl, a1⟩
    dsimp only
    obtain ⟨d0, d1⟩ := kB w1 a1
    go_wp2_with fail
    refine (rdot_ok dn dc w1).mono ?_
    obtain ⟨u, HU⟩ : ∃ u, Hid (u = isd dn dc) := ⟨_, rfl⟩
    rw [← HU.out]
    rintro r w2 ⟨rfl, a2⟩
    dsimp only
    have a3 := a1.trans a2
    go_wp2
    go_ret
    refine ⟨?_, aB.trans a3⟩
    rw [HV.out, norm_no k, hasv_nil]; rfl
theorem has_any {p : Option Addr} {N cap : Nat} {xs : List S} {w : World} (dn dc : Int) (h : L w p N xs) (v : Bool) (hv : v = hasv (norm xs) dn dc) : Calls Tryz.prog 48 #[.slice p N cap, .agg #[.int .i64 dn, .int .i64 dc]] w fun r w' => r = .returned (.bool v) ∧ Apart [] w w' := by
  subst hv
  by_cases hd : IsDot dn dc
  · have := has_yes (cap := cap) dn dc h hd
    unfold hasv
    rw [decide_eq_true hd.1, decide_eq_true hd.2]
    exact this
  · have := has_no (p := p) (N := N) (cap := cap) (w := w) dn dc hd
    have e : hasv (norm xs) dn dc = false := by
      unfold hasv
      by_cases h1 : 0 ≤ dn ∧ dn < 8
      · rw [decide_eq_false (p := 1 ≤ dc ∧ dc ≤ 1048576) (fun h2 => hd ⟨h1, h2⟩)]; simp
      · rw [decide_eq_false h1]; simp
    rw [e]
    exact this
end Go.Proofs.YtokaeiahhmaokaaGreatDoor.ds

namespace Go.Proofs.YtokaeiahhmaokaaGreatDoor.ds
open Go.ChangeShapes Go.WideShapes Go.ChangeAt Go.RowKit
set_option linter.unusedVariables false
theorem rcheck_yes {p : Option Addr} {N cap : Nat} {xs : List S} {gap : Int} {w : World} (h : L w p N xs) (hg : 1 ≤ gap ∧ gap ≤ 64) (k : OkL gap xs) : Calls Tryz.prog 40 #[.slice p N cap, .int .i64 gap] w fun r w' => r = .returned (.int .i64 0) ∧ Apart [] w w' := by
  have h1 : ¬ gap < 1 := by omega
  have h2 : ¬ 64 < gap := by omega
  go_enter Tryz.func40, Tryz.ntmps40
  go_wp2_with (go_at_call 69; refine (right_ok h hg).mono ?_; rintro r w1 ⟨⟨v, rfl, hv⟩, a1⟩; (obtain rfl : v = true := hv.2 k); clear hv)
  go_ret
  exact ⟨rfl, a1⟩
theorem rcheck_no {p : Option Addr} {N cap : Nat} {xs : List S} {gap : Int} {w : World} (h : L w p N xs) (hg : 1 ≤ gap ∧ gap ≤ 64) (k : ¬ OkL gap xs) : Calls Tryz.prog 40 #[.slice p N cap, .int .i64 gap] w fun r w' => r = .returned (.int .i64 30) ∧ Apart [] w w' := by
  have h1 : ¬ gap < 1 := by omega
  have h2 : ¬ 64 < gap := by omega
  go_enter Tryz.func40, Tryz.ntmps40
  go_wp2_with (go_at_call 69; refine (right_ok h hg).mono ?_; rintro r w1 ⟨⟨v, rfl, hv⟩, a1⟩; (obtain rfl : v = false := by (cases v; rfl; exact absurd (hv.1 rfl) k)); clear hv)
  go_ret
  exact ⟨rfl, a1⟩
theorem rcheck_arg {p : Option Addr} {N cap : Nat} {gap : Int} {w : World} (hg : ¬ (1 ≤ gap ∧ gap ≤ 64)) : Calls Tryz.prog 40 #[.slice p N cap, .int .i64 gap] w fun r w' => r = .returned (.int .i64 1) ∧ Apart [] w w' := by
  by_cases h1 : gap < 1
  · go_enter Tryz.func40, Tryz.ntmps40
    go_wp2
    go_ret
    exact ⟨rfl, Apart.refl _ _⟩
  · have h2 : 64 < gap := by omega
    go_enter Tryz.func40, Tryz.ntmps40
    go_wp2
    go_ret
    exact ⟨rfl, Apart.refl _ _⟩
end Go.Proofs.YtokaeiahhmaokaaGreatDoor.ds

namespace Go.Proofs.YtokaeiahhmaokaaGreatDoor.ds
open Go.ChangeShapes Go.WideShapes Go.ChangeAt Go.RowKit
set_option linter.unusedVariables false
open Classical in
/-- what Check answers -/
noncomputable def chk (xs : List S) (gap : Int) : Int := if 1 ≤ gap ∧ gap ≤ 64 then (if OkL gap xs then 0 else 30) else 1
theorem check_as {p : Option Addr} {N cap : Nat} {xs : List S} {gap : Int} {w : World} (h : L w p N xs) (e : Int) (he : e = chk xs gap) : Calls Tryz.prog 43 #[.slice p N cap, .int .i64 gap] w fun r w' => r = .returned (.int .i64 e) ∧ Apart [] w w' := by
  subst he
  unfold chk
  by_cases hg : 1 ≤ gap ∧ gap ≤ 64
  · rw [if_pos hg]
    by_cases k : OkL gap xs
    · rw [if_pos k]; exact check_yes h hg k
    · rw [if_neg k]; exact check_no h hg k
  · rw [if_neg hg]; exact check_arg (xs := xs) hg
theorem rcheck_as {p : Option Addr} {N cap : Nat} {xs : List S} {gap : Int} {w : World} (h : L w p N xs) (e : Int) (he : e = chk xs gap) : Calls Tryz.prog 40 #[.slice p N cap, .int .i64 gap] w fun r w' => r = .returned (.int .i64 e) ∧ Apart [] w w' := by
  subst he
  unfold chk
  by_cases hg : 1 ≤ gap ∧ gap ≤ 64
  · rw [if_pos hg]
    by_cases k : OkL gap xs
    · rw [if_pos k]; exact rcheck_yes h hg k
    · rw [if_neg k]; exact rcheck_no h hg k
  · rw [if_neg hg]; exact rcheck_arg hg
end Go.Proofs.YtokaeiahhmaokaaGreatDoor.ds

namespace Go.Proofs.YtokaeiahhmaokaaGreatDoor.ds
open Go.ChangeShapes Go.WideShapes Go.ChangeAt Go.RowKit
set_option linter.unusedVariables false
/-- a slice as a value -/
structure Sl where
  p : Option Addr
  n : Nat
  c : Nat
def Sl.v (s : Sl) : Value := .slice s.p s.n s.c
/-- a write as it lies in memory: its two slices by their places -/
structure E where
  n : Int
  c : Int
  k : ByteArray
  d : Bool
  v : Sl
  x : Sl
def E.z : E := ⟨0, 0, ⟨#[]⟩, false, ⟨none, 0, 0⟩, ⟨none, 0, 0⟩⟩
def E.cs (e : E) : List Value := [.int .i64 e.n, .int .i64 e.c, .string e.k, .bool e.d, e.v.v, e.x.v]
def E.agg (e : E) : Value := .agg #[.int .i64 e.n, .int .i64 e.c, .string e.k, .bool e.d, e.v.v, e.x.v]
/-- does a list of spans have a dot? -/
noncomputable def hasd (xs : List S) (n c : Int) : Bool := hasv (norm xs) n c
theorem hasd_nil (n c : Int) : hasd [] n c = false := by
  unfold hasd
  rw [norm_of (OkL.nil 64)]
  exact hasv_nil n c
theorem hasd_uni {a b : List S} (ha : OkL 64 a) (hb : OkL 64 b) (n c : Int) : hasd (uni a b) n c = (hasd a n c || hasd b n c) := by
  unfold hasd hasv
  rw [norm_of ha, norm_of hb, norm_of (uni_ok ha hb (by omega) (by omega))]
  by_cases h : 0 ≤ n ∧ n < 8
  · obtain ⟨k, rfl⟩ : ∃ k : Nat, (k : Int) = n := ⟨n.toNat, by omega⟩
    rw [ofn_uni a b k (by omega), join_dot, Bool.and_or_distrib_left]
  · simp [h]
theorem hasd_no {a : List S} (ha : ¬ OkL 64 a) (n c : Int) : hasd a n c = false := by
  unfold hasd
  rw [norm_no ha]
  exact hasv_nil n c
open Classical in
/-- the union of the known and a context, as the program makes it: a list that is no set is passed over -/
noncomputable def knows (a xs : List S) : List S := if OkL 64 xs then uni a xs else a
theorem knows_ok {a xs : List S} (ha : OkL 64 a) : OkL 64 (knows a xs) := by
  unfold knows; split
  · exact uni_ok ha ‹_› (by omega) (by omega)
  · exact ha
theorem hasd_knows {a xs : List S} (ha : OkL 64 a) (n c : Int) : hasd (knows a xs) n c = (hasd a n c || hasd xs n c) := by
  unfold knows; split
  · exact hasd_uni ha ‹_› n c
  · rename_i hx
    rw [hasd_no hx]; simp
end Go.Proofs.YtokaeiahhmaokaaGreatDoor.ds
namespace Go.Proofs.YtokaeiahhmaokaaGreatDoor.ds
open Go.ChangeShapes Go.WideShapes Go.ChangeAt Go.RowKit
set_option linter.unusedVariables false
/-- a slice's values, as they read -/
def Rd (w : World) (p : Option Addr) (us : List Value) : Prop := 0 < us.length → ∃ P o, p = some ⟨P, o, none⟩ ∧ P < w.heap.size ∧ ∀ j u, us[j]? = some u → w.cell? ⟨P, o + j, none⟩ = some u
theorem Rd.nil (w : World) (p : Option Addr) : Rd w p [] := fun h => absurd h (by simp)
theorem Rd.kept {w w' : World} {p : Option Addr} {us : List Value} {X : List Nat} (h : Rd w p us) (a : Apart X w w') (hX : ∀ P o, p = some ⟨P, o, none⟩ → P ∉ X) : Rd w' p us := by
  intro h0
  obtain ⟨P, o, rfl, hP, hc⟩ := h h0
  exact ⟨P, o, rfl, Nat.lt_of_lt_of_le hP a.size, fun j u hj => (a.cell hP (hX P o rfl)).trans (hc j u hj)⟩
theorem Rd.kept0 {w w' : World} {p : Option Addr} {us : List Value} (h : Rd w p us) (a : Apart [] w w') : Rd w' p us := h.kept a (by simp)
theorem Rd.own {w : World} {p : Option Addr} {n cap size base : Nat} {e : TypeId} {us : List Value} (h : w.ownsRow base e size (.slice p n cap) n us) : Rd w p us := by
  intro h0
  have h' := h
  obtain ⟨hx, ⟨hv, hz⟩ | ⟨G, cap', cur, hv, hh, _⟩⟩ := h
  · exfalso
    subst hz
    simp at hx
    rw [hx] at h0
    simp at h0
  · simp at hv
    obtain ⟨rfl, rfl⟩ := hv
    refine ⟨G, 0, rfl, (h'.lt G rfl).2, fun j u hj => ?_⟩
    have := h'.cells rfl j u hj
    rwa [Addr.add_lit] at this
/-- the writes of a list, cell by cell -/
def flatE (es : List E) : List Value := es.flatMap E.cs
def gE (es : List E) (k : Nat) : E := es.getD k E.z
theorem gE_eq (es : List E) (k : Nat) (h : k < es.length) : gE es k = es[k] := by simp [gE, List.getD_eq_getElem?_getD, h]
theorem flatE_length (es : List E) : (flatE es).length = es.length * 6 := by
  induction es with
  | nil => rfl
  | cons e l ih => simp only [flatE, List.flatMap_cons, List.length_append, List.length_cons] at *; simp only [E.cs, List.length_cons, List.length_nil]; omega
theorem flatE_get (es : List E) : ∀ (k : Nat), k < es.length → (flatE es)[k * 6]? = some (.int .i64 (gE es k).n) ∧ (flatE es)[k * 6 + 1]? = some (.int .i64 (gE es k).c) ∧ (flatE es)[k * 6 + 2]? = some (.string (gE es k).k) ∧ (flatE es)[k * 6 + 3]? = some (.bool (gE es k).d) ∧ (flatE es)[k * 6 + 4]? = some (gE es k).v.v ∧ (flatE es)[k * 6 + 5]? = some (gE es k).x.v := by
  induction es with
  | nil => intro k hk; simp at hk
  | cons e l ih =>
    intro k hk
    match k with
    | 0 => exact ⟨rfl, rfl, rfl, rfl, rfl, rfl⟩
    | k + 1 =>
      have := ih k (by simpa using hk)
      rw [show (k + 1) * 6 = k * 6 + 6 from by omega]
      exact this
theorem flatE_snoc (es : List E) (e : E) : flatE es ++ E.cs e = flatE (es ++ [e]) := by simp [flatE]
theorem flatE_append (a b : List E) : flatE (a ++ b) = flatE a ++ flatE b := by simp [flatE]
theorem oneE (es : List E) : ∀ u ∈ flatE es, u.oneCell' = true := by
  intro u hu
  simp [flatE, E.cs, Sl.v] at hu
  obtain ⟨e, _, h | h | h | h | h | h⟩ := hu <;> subst h <;> rfl
/-- a list of writes that can be read -/
structure LE (w : World) (p : Option Addr) (N : Nat) (es : List E) : Prop where
  rd : Rd w p (flatE es)
  len : es.length = N
  lim : N ≤ 2000000
theorem LE.kept0 {w w' : World} {p : Option Addr} {N : Nat} {es : List E} (h : LE w p N es) (a : Apart [] w w') : LE w' p N es := { h with rd := h.rd.kept0 a }
theorem LE.nil (w : World) (p : Option Addr) : LE w p 0 [] := ⟨Rd.nil w p, rfl, by omega⟩
/-- the cells of the i-th -/
theorem LE.at {w : World} {p : Option Addr} {N : Nat} {es : List E} (h : LE w p N es) (h0 : 0 < N) : ∃ P o, p = some ⟨P, o, none⟩ ∧ P < w.heap.size ∧ ∀ i, i < N → w.cell? ⟨P, o + i * 6, none⟩ = some (.int .i64 (gE es i).n) ∧ w.cell? ⟨P, o + i * 6 + 1, none⟩ = some (.int .i64 (gE es i).c) ∧ w.cell? ⟨P, o + i * 6 + 2, none⟩ = some (.string (gE es i).k) ∧ w.cell? ⟨P, o + i * 6 + 3, none⟩ = some (.bool (gE es i).d) ∧ w.cell? ⟨P, o + i * 6 + 4, none⟩ = some (gE es i).v.v ∧ w.cell? ⟨P, o + i * 6 + 5, none⟩ = some (gE es i).x.v := by
  obtain ⟨P, o, e, hP, hc⟩ := h.rd (by rw [flatE_length, h.len]; omega)
  refine ⟨P, o, e, hP, fun i hi => ?_⟩
  obtain ⟨a, b, c, d, f, g⟩ := flatE_get es i (by rw [h.len]; exact hi)
  simp only [Nat.add_assoc]
  exact ⟨hc _ _ a, hc _ _ b, hc _ _ c, hc _ _ d, hc _ _ f, hc _ _ g⟩
/-- bytes -/
def byts (bs : List Nat) : List Value := bs.map fun (b : Nat) => .int .u8 (b : Int)
/-- a write as it reads -/
structure Wr where
  n : Int
  c : Int
  k : ByteArray
  d : Bool
  vs : List Nat
  xs : List S
/-- nil has no length -/
def Sl.ok (s : Sl) : Prop := s.p = none → s.n = 0 ∧ s.c = 0
structure Reads (w : World) (e : E) (r : Wr) : Prop where
  n : e.n = r.n
  c : e.c = r.c
  k : e.k = r.k
  d : e.d = r.d
  v : Rd w e.v.p (byts r.vs)
  vn : r.vs.length = e.v.n
  vl : e.v.n ≤ 2000000
  vb : ∀ b ∈ r.vs, b < 256
  x : L w e.x.p e.x.n r.xs
  xl : e.x.n ≤ 2000000
  vo : e.v.ok
  xo : e.x.ok
theorem Reads.kept0 {w w' : World} {e : E} {r : Wr} (h : Reads w e r) (a : Apart [] w w') : Reads w' e r := { h with v := h.v.kept0 a, x := h.x.kept0 a }
end Go.Proofs.YtokaeiahhmaokaaGreatDoor.ds
