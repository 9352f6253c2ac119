import Derived.Test.YtokaeiahhmaokaaDoorT5
namespace Go.Proofs.YtokaeiahhmaokaaDoor.ds
open Go.ChangeShapes Go.WideShapes Go.ChangeAt Go.RowKit
set_option linter.unusedVariables false
/-- bit i may be set -/
def Bok (gap b : Int) (t i : Nat) : Prop := t.testBit i = true → i ≠ 0 ∧ (i : Int) < gap ∧ b + 1 + i ≤ 1048576
theorem bits_iff {gap b : Int} {t : Nat} (ht : t < 2 ^ 64) (hg : 1 ≤ gap) (hb : b ≤ 1048576) : (∀ i, i < 64 → Bok gap b t i) ↔ (t % 2 = 0 ∧ (bl t : Int) ≤ gap ∧ b + bl t ≤ 1048576) := by
  constructor
  · intro h
    have h' : ∀ i, t.testBit i = true → i ≠ 0 ∧ (i : Int) < gap ∧ b + 1 + i ≤ 1048576 := by
      intro i hi
      by_cases h64 : i < 64
      · exact h i h64 hi
      · rw [Nat.testBit_lt_two_pow (Nat.lt_of_lt_of_le ht (Nat.pow_le_pow_right (by omega) (by omega)))] at hi; cases hi
    refine ⟨?_, ?_, ?_⟩
    · rw [ev_bit]
      cases h0 : t.testBit 0
      · rfl
      · exact absurd rfl (h' 0 h0).1
    · have := (bl_le' (t := t) (k := gap.toNat)).2 fun i hi => by
        cases h0 : t.testBit i
        · rfl
        · have := (h' i h0).2.1; omega
      omega
    · have := (bl_le' (t := t) (k := (1048576 - b).toNat)).2 fun i hi => by
        cases h0 : t.testBit i
        · rfl
        · have := (h' i h0).2.2; omega
      omega
  · rintro ⟨h1, h2, h3⟩ i hi hb1
    have hlt : i < bl t := by
      by_cases hc : i < bl t
      · exact hc
      · have := (bl_le' (t := t) (k := bl t)).1 (Nat.le_refl _) i (by omega)
        rw [this] at hb1; cases hb1
    refine ⟨?_, by omega, by omega⟩
    rintro rfl
    rw [ev_bit.1 h1] at hb1; cases hb1
/-- the last node so far -/
def lastn (xs : List S) (k : Nat) : Int := if k = 0 then -1 else (g xs (k - 1)).n
theorem lastn_ge {gap : Int} {xs : List S} {k : Nat} (h : Pre gap xs k) : -1 ≤ lastn xs k := by
  unfold lastn
  split
  · omega
  · have := (h (k - 1) (by omega)).1.n0; omega
set_option maxHeartbeats 40000000 in
set_option maxRecDepth 100000 in
theorem right_ok {p : Option Addr} {N cap : Nat} {xs : List S} {gap : Int} {w : World} (h : L w p N xs) (hg : 1 ≤ gap ∧ gap ≤ 64) : Calls Tryd.prog 62 #[.slice p N cap, .int .i64 gap] w fun r w' => Tells r (OkL gap xs) ∧ Apart [] w w' := by
  have hlim := h.lim
  have HO : Hid (OkL gap xs ↔ ∀ i, i < xs.length → Ok gap (g xs i) ∧ (0 < i → (g xs (i - 1)).n < (g xs i).n)) := okL_iff gap xs
  go_enter Tryd.func62, Tryd.ntmps62
  go_wp2_with fail
  go_loopw [5, 6] (fun l v wr => ∃ k : Nat, k ≤ N ∧ v = .int .i64 k ∧ l = .int .i64 (lastn xs k) ∧ Apart [] w wr ∧ Pre gap xs k) (fun _ v _ => N - (intOf v).toNat)
  case atStart => exact ⟨0, Nat.zero_le _, rfl, rfl, Apart.refl _ _, fun j hj => absurd hj (by omega)⟩
  case round =>
    obtain ⟨k, hk, rfl, rfl, aR, hno⟩ := hrel
    by_cases hlt : k < N
    · have HI : Hid (k < xs.length) := by show k < xs.length; rw [h.len]; omega
      obtain ⟨P, o, rfl, hP, hc⟩ := (h.kept0 aR).sp (by rw [h.len]; omega)
      obtain ⟨c0, c1, c2⟩ := hc k HI.out
      have hxt := h.fit _ (g_mem HI.out)
      obtain ⟨⟨xn, xb, xt⟩, HX⟩ : ∃ x, Hid (x = g xs k) := ⟨_, rfl⟩
      rw [← HX.out] at c0 c1 c2 hxt
      simp only at c0 c1 c2 hxt
      obtain ⟨ln, HL⟩ : ∃ l, Hid (l = lastn xs k) := ⟨_, rfl⟩
      have hln := lastn_ge hno
      rw [← HL.out] at hln ⊢
      clear hc
      have HQ : Hid (Ok gap ⟨xn, xb, xt⟩ ∧ ln < xn ↔ Ok gap (g xs k) ∧ (0 < k → (g xs (k - 1)).n < (g xs k).n)) := by
        show Ok gap ⟨xn, xb, xt⟩ ∧ ln < xn ↔ Ok gap (g xs k) ∧ (0 < k → (g xs (k - 1)).n < (g xs k).n)
        rw [← HX.out]
        rw [HL.out]
        unfold lastn
        by_cases hk0 : k = 0
        · subst hk0
          simp only [if_pos]
          exact ⟨fun h => ⟨h.1, fun h => absurd h (by omega)⟩, fun h => ⟨h.1, by have := h.1.n0; simp only at this; omega⟩⟩
        · rw [if_neg hk0]
          exact ⟨fun h => ⟨h.1, fun _ => h.2⟩, fun h => ⟨h.1, h.2 (by omega)⟩⟩
      have HB : Hid (¬ (Ok gap ⟨xn, xb, xt⟩ ∧ ln < xn) → ¬ OkL gap xs) := fun hn hk => hn (HQ.out.2 (HO.out.1 hk k HI.out))
      have aX : Apart [] wr (wr.alloc (.cells #[.int .i64 xn, .int .i64 xb, .int .u64 xt] 80)) := (Apart.refl _ _).alloc _
      have a1 := aR.trans aX
      by_cases e1 : xn ≤ ln
      · have E1 : Hid (xn ≤ ln) := e1
        go_wp2
        go_ret
        exact ⟨.no (HB.out fun h => by have := h.2; have := E1.out; omega), a1⟩
      · have e1' : ln < xn := by omega
        by_cases e2 : 8 ≤ xn
        · have E2 : Hid (8 ≤ xn) := e2
          go_wp2
          go_ret
          exact ⟨.no (HB.out fun h => by have := h.1.n8; simp only at this; have := E2.out; omega), a1⟩
        · by_cases e3 : xb < 0
          · have E3 : Hid (xb < 0) := e3
            go_wp2
            go_ret
            exact ⟨.no (HB.out fun h => by have := h.1.b0; simp only at this; have := E3.out; omega), a1⟩
          · by_cases e4 : 1048576 < xb
            · have E4 : Hid (1048576 < xb) := e4
              go_wp2
              go_ret
              exact ⟨.no (HB.out fun h => by have := h.1.bM; simp only at this; have := E4.out; omega), a1⟩
            · by_cases e5 : xb = 0 ∧ xt = 0
              · obtain ⟨rfl, rfl⟩ := e5
                go_wp2
                go_ret
                exact ⟨.no (HB.out fun h => h.1.ne ⟨rfl, rfl⟩), a1⟩
              · have HR : Hid (Ok gap ⟨xn, xb, xt⟩ ↔ ∀ i, i < 64 → Bok gap xb xt i) := by
                  show Ok gap ⟨xn, xb, xt⟩ ↔ ∀ i, i < 64 → Bok gap xb xt i
                  rw [bits_iff hxt hg.1 (by omega)]
                  exact ⟨fun h => ⟨h.ev, h.gp, h.mx⟩, fun h => ⟨by show 0 ≤ xn; omega, by show xn < 8; omega, by show 0 ≤ xb; omega, by show xb ≤ 1048576; omega, e5, h.1, h.2.1, h.2.2⟩⟩
                have E5 : Hid (¬ (xb = 0 ∧ xt = 0)) := e5
                have H1 : Hid (ln < xn) := e1'
                have bX := new1 wr #[.int .i64 xn, .int .i64 xb, .int .u64 xt] 80
                have hb0 : 0 ≤ xb := by omega
                have hb1 : xb ≤ 1048576 := by omega
                obtain ⟨z6, H6⟩ : ∃ z : Bool, Hid (z = (xb == 0)) := ⟨_, rfl⟩
                have e7 : z6 = true → ((xt : Int) == 0) = false := fun hz => by
                  have hxb : xb = 0 := by rw [H6.out] at hz; simpa using hz
                  have := E5.out; simp; omega
                have e6 : (xb == 0) = z6 := H6.out.symm
                cases z6
                all_goals
                  first
                  | (have e8 := e7 rfl; clear e7)
                  | clear e7
                  go_wp2_with fail
                  generalize wr.alloc (.cells #[.int .i64 xn, .int .i64 xb, .int .u64 xt] 80) = V at *
                  have rX : ∀ W, Apart [] V W → W.heap[wr.heap.size]? = some (.cells #[.int .i64 xn, .int .i64 xb, .int .u64 xt] 80 (0, 0)) := fun W a => (a.block _ (lt_of_heap bX) (by simp)).trans bX
                  go_loopw [8] (fun v wq => ∃ i : Nat, i ≤ 64 ∧ v = .int .i64 i ∧ Apart [] V wq ∧ (∀ j, j < i → Bok gap xb xt j)) (fun v _ => 64 - (intOf v).toNat)
                  case atStart => exact ⟨0, Nat.zero_le _, rfl, Apart.refl _ _, fun j hj => absurd hj (by omega)⟩
                  case round =>
                    obtain ⟨i, hi, rfl, aQ, hbk⟩ := hrel
                    by_cases hi64 : i < 64
                    · obtain ⟨⟨q0, q1, q2⟩, _⟩ := rowc (rX _ aQ)
                      have HT : Hid (Bok gap xb xt i ↔ (xt.testBit i = true → i ≠ 0 ∧ (i : Int) < gap ∧ xb + 1 + i ≤ 1048576)) := Iff.rfl
                      have h64 : (i : Int) < 64 := by omega
                      have hw1 : IntKind.i64.wrap (xb + 1) = xb + 1 := by rw [IntKind.wrap_i64]; omega
                      have hw2 : IntKind.i64.wrap (xb + 1 + (i : Int)) = xb + 1 + (i : Int) := by rw [IntKind.wrap_i64]; omega
                      have hbc := fun w => bit_ok xn xb xt i w hxt hi64
                      have next : Bok gap xb xt i → ∀ j, j < i + 1 → Bok gap xb xt j := fun hB j hj => by
                        by_cases hji : j = i
                        · subst hji; exact hB
                        · exact hbk j (by omega)
                      have bad : ¬ Bok gap xb xt i → ¬ OkL gap xs := fun hB => HB.out fun hh => hB (HR.out.1 hh.1 i hi64)
                      have Next : Hid (Bok gap xb xt i → ∀ j, j < i + 1 → Bok gap xb xt j) := next
                      have Bad : Hid (¬ Bok gap xb xt i → ¬ OkL gap xs) := bad
                      clear next bad
                      cases hbit : xt.testBit i
                      · have HF : Hid (xt.testBit i = false) := hbit
                        simp only [hbit] at hbc
                        clear hbit
                        go_wp2_with (go_at_call 101; refine (hbc _).mono ?_; rintro r w5 ⟨rfl, a5⟩)
                        go_roundw
                        case rel => exact ⟨i + 1, by omega, rfl, aQ.trans a5, Next.out (HT.out.2 fun ht => by rw [HF.out] at ht; cases ht)⟩
                        case measure => simp [intOf]; omega
                      · have HF : Hid (xt.testBit i = true) := hbit
                        simp only [hbit] at hbc
                        clear hbit
                        by_cases f1 : i = 0
                        · subst f1
                          go_wp2_with (go_at_call 101; refine (hbc _).mono ?_; rintro r w5 ⟨rfl, a5⟩)
                          go_ret
                          exact ⟨.no (Bad.out fun hB => (HT.out.1 hB HF.out).1 rfl), a1.trans (aQ.trans a5)⟩
                        · have F1 : Hid (i ≠ 0) := f1
                          have f1' : ((i : Int) == 0) = false := by simp; exact f1
                          by_cases f2 : (i : Int) < gap
                          · have F2 : Hid ((i : Int) < gap) := f2
                            have f2' : ¬ gap ≤ (i : Int) := by omega
                            by_cases f3 : xb + 1 + (i : Int) ≤ 1048576
                            · have F3 : Hid (xb + 1 + (i : Int) ≤ 1048576) := f3
                              go_wp2_with (go_at_call 101; refine (hbc _).mono ?_; rintro r w5 ⟨rfl, a5⟩; obtain ⟨⟨q5, q6, q7⟩, _⟩ := rowc (rX _ (aQ.trans a5)))
                              go_roundw
                              case rel => exact ⟨i + 1, by omega, rfl, aQ.trans a5, Next.out (HT.out.2 fun ht => ⟨F1.out, F2.out, F3.out⟩)⟩
                              case measure => simp [intOf]; omega
                            · have F3 : Hid (¬ xb + 1 + (i : Int) ≤ 1048576) := f3
                              go_wp2_with (go_at_call 101; refine (hbc _).mono ?_; rintro r w5 ⟨rfl, a5⟩; obtain ⟨⟨q5, q6, q7⟩, _⟩ := rowc (rX _ (aQ.trans a5)))
                              go_ret
                              refine ⟨.no (Bad.out fun hB => ?_), a1.trans (aQ.trans a5)⟩
                              have := (HT.out.1 hB HF.out).2.2
                              have := F3.out
                              omega
                          · have F2 : Hid (¬ (i : Int) < gap) := f2
                            have f2' : gap ≤ (i : Int) := by omega
                            go_wp2_with (go_at_call 101; refine (hbc _).mono ?_; rintro r w5 ⟨rfl, a5⟩)
                            go_ret
                            refine ⟨.no (Bad.out fun hB => ?_), a1.trans (aQ.trans a5)⟩
                            have := (HT.out.1 hB HF.out).2.1
                            have := F2.out
                            omega
                    · go_wp2
                      go_roundw
                      case rel =>
                        have hok := HQ.out.1 ⟨HR.out.2 fun i hi => hbk i (by omega), H1.out⟩
                        refine ⟨k + 1, by omega, rfl, ?_, a1.trans aQ, fun j hj => ?_⟩
                        · unfold lastn
                          rw [if_neg (by omega), Nat.add_sub_cancel, ← HX.out]
                        · by_cases hji : j = k
                          · subst hji; exact hok
                          · exact hno j (by omega)
                      case measure => simp [intOf]; omega
    · go_wp2
      go_ret
      refine ⟨.yes (HO.out.2 fun j hj => ?_), aR⟩
      exact hno j (by have := h.len; omega)
end Go.Proofs.YtokaeiahhmaokaaDoor.ds

namespace Go.Proofs.YtokaeiahhmaokaaDoor.ds
open Go.ChangeShapes Go.WideShapes Go.ChangeAt Go.RowKit
set_option linter.unusedVariables false
def hasv (xs : List S) (n c : Int) : Bool := (decide (0 ≤ n ∧ n < 8) && decide (1 ≤ c ∧ c ≤ 1048576)) && dot (ofn xs n) c
theorem take_g {xs : List S} {i : Nat} (hi : i < xs.length) : xs.take (i + 1) = xs.take i ++ [g xs i] := by
  rw [List.take_succ_eq_append_getElem hi]
  unfold g
  rw [List.getD_eq_getElem?_getD, List.getElem?_eq_getElem hi]; rfl
theorem ofn_nil (n : Int) : ofn [] n = none0 n := rfl
set_option linter.unusedSimpArgs false
/-- is it a dot? -/
def isd (n c : Int) : Bool := decide (0 ≤ n ∧ n < 8) && decide (1 ≤ c ∧ c ≤ 1048576)
theorem rdot_ok (n c : Int) (w : World) : Calls Tryd.prog 100 #[.agg #[.int .i64 n, .int .i64 c]] w fun r w' => r = .returned (.bool (isd n c)) ∧ Apart [] w w' := by
  obtain ⟨v, HV⟩ : ∃ v, Hid (v = isd n c) := ⟨_, rfl⟩
  have hv := HV.out
  unfold isd at hv
  by_cases h1 : 0 ≤ n <;> by_cases h2 : n < 8 <;> by_cases h3 : 1 ≤ c <;> by_cases h4 : c ≤ 1048576
  all_goals first
  | (exfalso; omega)
  | skip
  all_goals
    simp only [h1, h2, h3, h4, and_self, and_true, true_and, and_false, false_and, decide_true, decide_false, Bool.and_self, Bool.and_true, Bool.true_and, Bool.and_false, Bool.false_and] at hv
    rw [← HV.out, hv]
    clear HV hv
    go_enter Tryd.func100, Tryd.ntmps100
    go_wp2
    go_ret
    exact ⟨by first | rfl | (simp; omega), (Apart.refl _ _).alloc _⟩
/-- a span has a dot of that node -/
def inS (x : S) (n c : Int) : Bool := decide (x.n = n) && (decide (1 ≤ c) && dot x c)
def inL (xs : List S) (n c : Int) : Bool := xs.any fun x => inS x n c
theorem inL_ofn {gp : Int} {xs : List S} (k : OkL gp xs) (n c : Int) (hc : 1 ≤ c) : inL xs n c = dot (ofn xs n) c := by
  induction xs with
  | nil => simp [inL, ofn, dot_none n c hc]
  | cons x l ih =>
    have ih := ih k.tail
    simp only [inL, List.any_cons] at ih ⊢
    by_cases h : x.n = n
    · have hl : (l.any fun x => inS x n c) = false := by
        rw [List.any_eq_false]
        intro y hy
        have := (List.pairwise_cons.1 k.up).1 y hy
        simp [inS]; intro e; omega
      rw [hl, ofn, if_pos h]
      simp [inS, h, hc]
    · rw [ih, ofn, if_neg h]
      simp [inS, h]
theorem inL_take {xs : List S} {i : Nat} (n c : Int) (hi : i < xs.length) : inL (xs.take (i + 1)) n c = (inL (xs.take i) n c || inS (g xs i) n c) := by
  rw [take_g hi]; simp [inL]
set_option maxHeartbeats 1000000 in
theorem bit_any (n b : Int) (t : Nat) (i : Int) (w : World) (ht : t < 2 ^ 64) (hi : 0 ≤ i) : Calls Tryd.prog 101 #[.agg #[.int .i64 n, .int .i64 b, .int .u64 t], .int .i64 i] w fun r w' => r = .returned (.bool (t.testBit i.toNat)) ∧ Apart [] w w' := by
  by_cases h64 : i < 64
  · obtain ⟨k, rfl⟩ := Int.eq_ofNat_of_zero_le hi
    exact bit_ok n b t k w ht (by omega)
  · rw [Nat.testBit_lt_two_pow (Nat.lt_of_lt_of_le ht (Nat.pow_le_pow_right (by omega) (by omega)))]
    go_enter Tryd.func101, Tryd.ntmps101
    go_wp2
    go_ret
    exact ⟨rfl, (Apart.refl _ _).alloc _⟩
set_option maxHeartbeats 8000000 in
set_option maxRecDepth 100000 in
theorem rin_ok {p : Option Addr} {N cap : Nat} {xs : List S} {w : World} (h : L w p N xs) (hbase : ∀ x ∈ xs, 0 ≤ x.b ∧ x.b ≤ 4194304) (dn dc : Int) (hc : dc ≤ 4194304) (hc0 : -4194304 ≤ dc) : Calls Tryd.prog 110 #[.slice p N cap, .agg #[.int .i64 dn, .int .i64 dc]] w fun r w' => r = .returned (.bool (inL xs dn dc)) ∧ Apart [] w w' := by
  have hlim := h.lim
  have kB := fun W => @new1d w (.int .i64 dn) (.int .i64 dc) 24 W
  have aB : Apart [] w (w.alloc (.cells #[.int .i64 dn, .int .i64 dc] 24)) := (Apart.refl _ _).alloc _
  go_enter Tryd.func110, Tryd.ntmps110
  go_wp2_with fail
  generalize w.alloc (.cells #[.int .i64 dn, .int .i64 dc] 24) = V0 at *
  go_loopw [5] (fun v wr => ∃ i : Nat, i ≤ N ∧ v = .int .i64 i ∧ Apart [] V0 wr ∧ inL (xs.take i) dn dc = false) (fun v _ => N - (intOf v).toNat)
  case atStart => exact ⟨0, Nat.zero_le _, rfl, Apart.refl _ _, rfl⟩
  case round =>
    obtain ⟨i, hi, rfl, aR, hno⟩ := hrel
    by_cases hlt : i < N
    · have HI : Hid (i < xs.length) := by show i < xs.length; rw [h.len]; omega
      obtain ⟨P, o, rfl, hP, hcc⟩ := ((h.kept0 aB).kept0 aR).sp (by rw [h.len]; omega)
      obtain ⟨c0, c1, c2⟩ := hcc i HI.out
      have hxt := h.fit _ (g_mem HI.out)
      have hxb := hbase _ (g_mem HI.out)
      have HT : Hid (inL (xs.take (i + 1)) dn dc = inS (g xs i) dn dc) := by
        show inL (xs.take (i + 1)) dn dc = inS (g xs i) dn dc
        rw [inL_take _ _ HI.out, hno, Bool.false_or]
      have HA : Hid (inS (g xs i) dn dc = true → inL xs dn dc = true) := fun hh => by
        unfold inL
        rw [List.any_eq_true]
        exact ⟨_, g_mem HI.out, hh⟩
      obtain ⟨⟨xn, xb, xt⟩, HX⟩ : ∃ x, Hid (x = g xs i) := ⟨_, rfl⟩
      rw [← HX.out] at c0 c1 c2 hxt hxb HT HA
      simp only at c0 c1 c2 hxt hxb
      clear hcc
      obtain ⟨d0, d1⟩ := kB wr aR
      go_wp2_with fail
      by_cases e1 : xn = dn
      · subst e1
        by_cases e2 : 1 ≤ dc
        · by_cases e3 : dc ≤ xb
          · have HV : Hid (inS ⟨xn, xb, xt⟩ xn dc = true) := by
              show inS ⟨xn, xb, xt⟩ xn dc = true
              simp [inS, e2, dot, e3]
            have e2' : decide (1 ≤ dc) = true := decide_eq_true e2
            have e3' : decide (dc ≤ xb) = true := decide_eq_true e3
            go_quiet (fail)
            go_wp2
            go_ret
            exact ⟨by rw [HA.out HV.out]; rfl, aB.trans (aR.drewN _)⟩
          · have hnn : (0 : Int) ≤ dc - xb - 1 := by omega
            have hs1 : IntKind.i64.wrap (dc - xb) = dc - xb := by rw [IntKind.wrap_i64]; omega
            have hs2 : IntKind.i64.wrap (dc - xb - 1) = dc - xb - 1 := by rw [IntKind.wrap_i64]; omega
            obtain ⟨vb, HB⟩ : ∃ v, Hid (v = xt.testBit (dc - xb - 1).toNat) := ⟨_, rfl⟩
            have HV : Hid (inS ⟨xn, xb, xt⟩ xn dc = vb) := by
              show inS ⟨xn, xb, xt⟩ xn dc = vb
              rw [HB.out]
              unfold inS dot
              rw [decide_eq_true e2, decide_eq_true rfl, decide_eq_false e3]; simp
            obtain ⟨V, HW⟩ : ∃ V, Hid (V = wr) := ⟨_, rfl⟩
            have r0 : ∀ W, Apart [] V W → W.cell? ⟨P, o + i * 3, none⟩ = some (.int .i64 xn) := fun W a => by rw [HW.out] at a; exact (a.cell hP (by simp)).trans c0
            have r1 : ∀ W, Apart [] V W → W.cell? ⟨P, o + i * 3 + 1, none⟩ = some (.int .i64 xb) := fun W a => by rw [HW.out] at a; exact (a.cell hP (by simp)).trans c1
            have r2 : ∀ W, Apart [] V W → W.cell? ⟨P, o + i * 3 + 2, none⟩ = some (.int .u64 xt) := fun W a => by rw [HW.out] at a; exact (a.cell hP (by simp)).trans c2
            have r3 : ∀ W, Apart [] V W → W.cell? ⟨w.heap.size, 0, none⟩ = some (.int .i64 xn) := fun W a => by rw [HW.out] at a; exact (kB W (aR.trans a)).1
            have r4 : ∀ W, Apart [] V W → W.cell? ⟨w.heap.size, 1, none⟩ = some (.int .i64 dc) := fun W a => by rw [HW.out] at a; exact (kB W (aR.trans a)).2
            have aV : Apart [] V wr.drew := by rw [HW.out]; exact (Apart.refl _ _).drew
            have aR' : Apart [] V0 V := by rw [HW.out]; exact aR
            clear c0 c1 c2 d0 d1
            refine wp_region_held_drew (S := fun W => Apart [] V W) (by kernel_rfl) aV (fun hHeld => ?_)
            refine wpAnyH_take (i := 0) (oi := ⟨some 12, _, _, _, _, _⟩) (v := (.slice (some ⟨P, o, none⟩) N cap)) rfl (by kernel_rfl) (by kernel_rfl) (by kernel_rfl) (fun _ _ _ h => h) (Or.inl ⟨by rfl, ?_⟩) (by assumption) ?_
            · intro W hSW; go_simp
            simp only [Act.put, List.setIfInBounds_toArray, List.set_cons_zero, List.set_cons_succ]
            refine wpAnyH_take (i := 1) (oi := ⟨some 13, _, _, _, _, _⟩) (v := (.int .i64 (i : Int))) rfl (by kernel_rfl) (by kernel_rfl) (by kernel_rfl) (fun _ _ _ h => h) (Or.inl ⟨by rfl, ?_⟩) (by assumption) ?_
            · intro W hSW; go_simp
            simp only [Act.put, List.setIfInBounds_toArray, List.set_cons_zero, List.set_cons_succ]
            refine wpAnyH_take (i := 2) (oi := ⟨some 14, _, _, _, _, _⟩) (v := (.pointer (some ⟨P, o + i * 3, none⟩))) rfl (by kernel_rfl) (by kernel_rfl) (by kernel_rfl) (fun _ _ _ h => h) (Or.inl ⟨by rfl, ?_⟩) (by assumption) ?_
            · intro W hSW; go_simp
            simp only [Act.put, List.setIfInBounds_toArray, List.set_cons_zero, List.set_cons_succ]
            refine wpAnyH_take (i := 3) (oi := ⟨some 15, _, _, _, _, _⟩) (v := (.pointer (some ⟨P, o + i * 3, none⟩))) rfl (by kernel_rfl) (by kernel_rfl) (by kernel_rfl) (fun _ _ _ h => h) (Or.inl ⟨by rfl, ?_⟩) (by assumption) ?_
            · intro W hSW; go_simp
            simp only [Act.put, List.setIfInBounds_toArray, List.set_cons_zero, List.set_cons_succ]
            refine wpAnyH_take (i := 4) (oi := ⟨some 16, _, _, _, _, _⟩) (v := (.int .i64 xn)) rfl (by kernel_rfl) (by kernel_rfl) (by kernel_rfl) (fun _ _ _ h => h) (Or.inl ⟨by rfl, ?_⟩) (by assumption) ?_
            · intro W hSW; go_simp
            simp only [Act.put, List.setIfInBounds_toArray, List.set_cons_zero, List.set_cons_succ]
            refine wpAnyH_take (i := 5) (oi := ⟨some 17, _, _, _, _, _⟩) (v := (.pointer (some ⟨w.heap.size, 0, none⟩))) rfl (by kernel_rfl) (by kernel_rfl) (by kernel_rfl) (fun _ _ _ h => h) (Or.inl ⟨by rfl, ?_⟩) (by assumption) ?_
            · intro W hSW; go_simp
            simp only [Act.put, List.setIfInBounds_toArray, List.set_cons_zero, List.set_cons_succ]
            refine wpAnyH_take (i := 6) (oi := ⟨some 18, _, _, _, _, _⟩) (v := (.int .i64 xn)) rfl (by kernel_rfl) (by kernel_rfl) (by kernel_rfl) (fun _ _ _ h => h) (Or.inl ⟨by rfl, ?_⟩) (by assumption) ?_
            · intro W hSW; go_simp
            simp only [Act.put, List.setIfInBounds_toArray, List.set_cons_zero, List.set_cons_succ]
            refine wpAnyH_take (i := 7) (oi := ⟨some 19, _, _, _, _, _⟩) (v := (.bool true)) rfl (by kernel_rfl) (by kernel_rfl) (by kernel_rfl) (fun _ _ _ h => h) (Or.inl ⟨by rfl, ?_⟩) (by assumption) ?_
            · intro W hSW; go_simp
            simp only [Act.put, List.setIfInBounds_toArray, List.set_cons_zero, List.set_cons_succ]
            refine wpAnyH_take (i := 8) (oi := ⟨some 20, _, _, _, _, _⟩) (v := (.bool true)) rfl (by kernel_rfl) (by kernel_rfl) (by kernel_rfl) (fun _ _ _ h => h) (Or.inl ⟨by rfl, ?_⟩) (by assumption) ?_
            · intro W hSW; go_simp
            simp only [Act.put, List.setIfInBounds_toArray, List.set_cons_zero, List.set_cons_succ]
            refine wpAnyH_take (i := 9) (oi := ⟨some 21, _, _, _, _, _⟩) (v := (.pointer (some ⟨w.heap.size, 1, none⟩))) rfl (by kernel_rfl) (by kernel_rfl) (by kernel_rfl) (fun _ _ _ h => h) (Or.inl ⟨by rfl, ?_⟩) (by assumption) ?_
            · intro W hSW; go_simp
            simp only [Act.put, List.setIfInBounds_toArray, List.set_cons_zero, List.set_cons_succ]
            refine wpAnyH_take (i := 10) (oi := ⟨some 22, _, _, _, _, _⟩) (v := (.int .i64 dc)) rfl (by kernel_rfl) (by kernel_rfl) (by kernel_rfl) (fun _ _ _ h => h) (Or.inl ⟨by rfl, ?_⟩) (by assumption) ?_
            · intro W hSW; go_simp
            simp only [Act.put, List.setIfInBounds_toArray, List.set_cons_zero, List.set_cons_succ]
            refine wpAnyH_take (i := 11) (oi := ⟨some 23, _, _, _, _, _⟩) (v := (.bool true)) rfl (by kernel_rfl) (by kernel_rfl) (by kernel_rfl) (fun _ _ _ h => h) (Or.inl ⟨by rfl, ?_⟩) (by assumption) ?_
            · intro W hSW; go_simp
            simp only [Act.put, List.setIfInBounds_toArray, List.set_cons_zero, List.set_cons_succ]
            refine wpAnyH_take (i := 12) (oi := ⟨some 24, _, _, _, _, _⟩) (v := (.bool true)) rfl (by kernel_rfl) (by kernel_rfl) (by kernel_rfl) (fun _ _ _ h => h) (Or.inl ⟨by rfl, ?_⟩) (by assumption) ?_
            · intro W hSW; go_simp
            simp only [Act.put, List.setIfInBounds_toArray, List.set_cons_zero, List.set_cons_succ]
            refine wpAnyH_take (i := 13) (oi := ⟨some 25, _, _, _, _, _⟩) (v := (.bool true)) rfl (by kernel_rfl) (by kernel_rfl) (by kernel_rfl) (fun _ _ _ h => h) (Or.inl ⟨by rfl, ?_⟩) (by assumption) ?_
            · intro W hSW; go_simp
            simp only [Act.put, List.setIfInBounds_toArray, List.set_cons_zero, List.set_cons_succ]
            refine wpAnyH_take (i := 14) (oi := ⟨some 26, _, _, _, _, _⟩) (v := (.pointer (some ⟨w.heap.size, 1, none⟩))) rfl (by kernel_rfl) (by kernel_rfl) (by kernel_rfl) (fun _ _ _ h => h) (Or.inl ⟨by rfl, ?_⟩) (by assumption) ?_
            · intro W hSW; go_simp
            simp only [Act.put, List.setIfInBounds_toArray, List.set_cons_zero, List.set_cons_succ]
            refine wpAnyH_take (i := 15) (oi := ⟨some 27, _, _, _, _, _⟩) (v := (.int .i64 dc)) rfl (by kernel_rfl) (by kernel_rfl) (by kernel_rfl) (fun _ _ _ h => h) (Or.inl ⟨by rfl, ?_⟩) (by assumption) ?_
            · intro W hSW; go_simp
            simp only [Act.put, List.setIfInBounds_toArray, List.set_cons_zero, List.set_cons_succ]
            refine wpAnyH_take (i := 16) (oi := ⟨some 28, _, _, _, _, _⟩) (v := (.slice (some ⟨P, o, none⟩) N cap)) rfl (by kernel_rfl) (by kernel_rfl) (by kernel_rfl) (fun _ _ _ h => h) (Or.inl ⟨by rfl, ?_⟩) (by assumption) ?_
            · intro W hSW; go_simp
            simp only [Act.put, List.setIfInBounds_toArray, List.set_cons_zero, List.set_cons_succ]
            refine wpAnyH_take (i := 17) (oi := ⟨some 29, _, _, _, _, _⟩) (v := (.int .i64 (i : Int))) rfl (by kernel_rfl) (by kernel_rfl) (by kernel_rfl) (fun _ _ _ h => h) (Or.inl ⟨by rfl, ?_⟩) (by assumption) ?_
            · intro W hSW; go_simp
            simp only [Act.put, List.setIfInBounds_toArray, List.set_cons_zero, List.set_cons_succ]
            refine wpAnyH_take (i := 18) (oi := ⟨some 30, _, _, _, _, _⟩) (v := (.pointer (some ⟨P, o + i * 3, none⟩))) rfl (by kernel_rfl) (by kernel_rfl) (by kernel_rfl) (fun _ _ _ h => h) (Or.inl ⟨by rfl, ?_⟩) (by assumption) ?_
            · intro W hSW; go_simp
            simp only [Act.put, List.setIfInBounds_toArray, List.set_cons_zero, List.set_cons_succ]
            refine wpAnyH_take (i := 19) (oi := ⟨some 31, _, _, _, _, _⟩) (v := (.pointer (some ⟨P, o + i * 3 + 1, none⟩))) rfl (by kernel_rfl) (by kernel_rfl) (by kernel_rfl) (fun _ _ _ h => h) (Or.inl ⟨by rfl, ?_⟩) (by assumption) ?_
            · intro W hSW; go_simp
            simp only [Act.put, List.setIfInBounds_toArray, List.set_cons_zero, List.set_cons_succ]
            refine wpAnyH_take (i := 20) (oi := ⟨some 32, _, _, _, _, _⟩) (v := (.int .i64 xb)) rfl (by kernel_rfl) (by kernel_rfl) (by kernel_rfl) (fun _ _ _ h => h) (Or.inl ⟨by rfl, ?_⟩) (by assumption) ?_
            · intro W hSW; go_simp
            simp only [Act.put, List.setIfInBounds_toArray, List.set_cons_zero, List.set_cons_succ]
            refine wpAnyH_take (i := 21) (oi := ⟨some 33, _, _, _, _, _⟩) (v := (.bool false)) rfl (by kernel_rfl) (by kernel_rfl) (by kernel_rfl) (fun _ _ _ h => h) (Or.inl ⟨by rfl, ?_⟩) (by assumption) ?_
            · intro W hSW; go_simp
            simp only [Act.put, List.setIfInBounds_toArray, List.set_cons_zero, List.set_cons_succ]
            refine wpAnyH_take (i := 22) (oi := ⟨some 34, _, _, _, _, _⟩) (v := (.bool false)) rfl (by kernel_rfl) (by kernel_rfl) (by kernel_rfl) (fun _ _ _ h => h) (Or.inl ⟨by rfl, ?_⟩) (by assumption) ?_
            · intro W hSW; go_simp
            simp only [Act.put, List.setIfInBounds_toArray, List.set_cons_zero, List.set_cons_succ]
            refine wpAnyH_take (i := 23) (oi := ⟨some 35, _, _, _, _, _⟩) (v := (.slice (some ⟨P, o, none⟩) N cap)) rfl (by kernel_rfl) (by kernel_rfl) (by kernel_rfl) (fun _ _ _ h => h) (Or.inl ⟨by rfl, ?_⟩) (by assumption) ?_
            · intro W hSW; go_simp
            simp only [Act.put, List.setIfInBounds_toArray, List.set_cons_zero, List.set_cons_succ]
            refine wpAnyH_take (i := 24) (oi := ⟨some 36, _, _, _, _, _⟩) (v := (.int .i64 (i : Int))) rfl (by kernel_rfl) (by kernel_rfl) (by kernel_rfl) (fun _ _ _ h => h) (Or.inl ⟨by rfl, ?_⟩) (by assumption) ?_
            · intro W hSW; go_simp
            simp only [Act.put, List.setIfInBounds_toArray, List.set_cons_zero, List.set_cons_succ]
            refine wpAnyH_take (i := 25) (oi := ⟨some 37, _, _, _, _, _⟩) (v := (.pointer (some ⟨P, o + i * 3, none⟩))) rfl (by kernel_rfl) (by kernel_rfl) (by kernel_rfl) (fun _ _ _ h => h) (Or.inl ⟨by rfl, ?_⟩) (by assumption) ?_
            · intro W hSW; go_simp
            simp only [Act.put, List.setIfInBounds_toArray, List.set_cons_zero, List.set_cons_succ]
            refine wpAnyH_take (i := 26) (oi := ⟨some 38, _, _, _, _, _⟩) (v := (.agg #[.int .i64 xn, .int .i64 xb, .int .u64 xt])) rfl (by kernel_rfl) (by kernel_rfl) (by kernel_rfl) (fun _ _ _ h => h) (Or.inl ⟨by rfl, ?_⟩) (by assumption) ?_
            · intro W hSW; go_simp
            simp only [Act.put, List.setIfInBounds_toArray, List.set_cons_zero, List.set_cons_succ]
            refine wpAnyH_take (i := 27) (oi := ⟨some 39, _, _, _, _, _⟩) (v := (.pointer (some ⟨w.heap.size, 1, none⟩))) rfl (by kernel_rfl) (by kernel_rfl) (by kernel_rfl) (fun _ _ _ h => h) (Or.inl ⟨by rfl, ?_⟩) (by assumption) ?_
            · intro W hSW; go_simp
            simp only [Act.put, List.setIfInBounds_toArray, List.set_cons_zero, List.set_cons_succ]
            refine wpAnyH_take (i := 28) (oi := ⟨some 40, _, _, _, _, _⟩) (v := (.int .i64 dc)) rfl (by kernel_rfl) (by kernel_rfl) (by kernel_rfl) (fun _ _ _ h => h) (Or.inl ⟨by rfl, ?_⟩) (by assumption) ?_
            · intro W hSW; go_simp
            simp only [Act.put, List.setIfInBounds_toArray, List.set_cons_zero, List.set_cons_succ]
            refine wpAnyH_take (i := 29) (oi := ⟨some 41, _, _, _, _, _⟩) (v := (.slice (some ⟨P, o, none⟩) N cap)) rfl (by kernel_rfl) (by kernel_rfl) (by kernel_rfl) (fun _ _ _ h => h) (Or.inl ⟨by rfl, ?_⟩) (by assumption) ?_
            · intro W hSW; go_simp
            simp only [Act.put, List.setIfInBounds_toArray, List.set_cons_zero, List.set_cons_succ]
            refine wpAnyH_take (i := 30) (oi := ⟨some 42, _, _, _, _, _⟩) (v := (.int .i64 (i : Int))) rfl (by kernel_rfl) (by kernel_rfl) (by kernel_rfl) (fun _ _ _ h => h) (Or.inl ⟨by rfl, ?_⟩) (by assumption) ?_
            · intro W hSW; go_simp
            simp only [Act.put, List.setIfInBounds_toArray, List.set_cons_zero, List.set_cons_succ]
            refine wpAnyH_take (i := 31) (oi := ⟨some 43, _, _, _, _, _⟩) (v := (.pointer (some ⟨P, o + i * 3, none⟩))) rfl (by kernel_rfl) (by kernel_rfl) (by kernel_rfl) (fun _ _ _ h => h) (Or.inl ⟨by rfl, ?_⟩) (by assumption) ?_
            · intro W hSW; go_simp
            simp only [Act.put, List.setIfInBounds_toArray, List.set_cons_zero, List.set_cons_succ]
            refine wpAnyH_take (i := 32) (oi := ⟨some 44, _, _, _, _, _⟩) (v := (.pointer (some ⟨P, o + i * 3 + 1, none⟩))) rfl (by kernel_rfl) (by kernel_rfl) (by kernel_rfl) (fun _ _ _ h => h) (Or.inl ⟨by rfl, ?_⟩) (by assumption) ?_
            · intro W hSW; go_simp
            simp only [Act.put, List.setIfInBounds_toArray, List.set_cons_zero, List.set_cons_succ]
            refine wpAnyH_take (i := 33) (oi := ⟨some 45, _, _, _, _, _⟩) (v := (.int .i64 xb)) rfl (by kernel_rfl) (by kernel_rfl) (by kernel_rfl) (fun _ _ _ h => h) (Or.inl ⟨by rfl, ?_⟩) (by assumption) ?_
            · intro W hSW; go_simp
            simp only [Act.put, List.setIfInBounds_toArray, List.set_cons_zero, List.set_cons_succ]
            refine wpAnyH_take (i := 34) (oi := ⟨some 46, _, _, _, _, _⟩) (v := (.int .i64 (dc - xb))) rfl (by kernel_rfl) (by kernel_rfl) (by kernel_rfl) (fun _ _ _ h => h) (Or.inl ⟨by rfl, ?_⟩) (by assumption) ?_
            · intro W hSW; go_simp
            simp only [Act.put, List.setIfInBounds_toArray, List.set_cons_zero, List.set_cons_succ]
            refine wpAnyH_take (i := 35) (oi := ⟨some 47, _, _, _, _, _⟩) (v := (.int .i64 (dc - xb - 1))) rfl (by kernel_rfl) (by kernel_rfl) (by kernel_rfl) (fun _ _ _ h => h) (Or.inl ⟨by rfl, ?_⟩) (by assumption) ?_
            · intro W hSW; go_simp
            simp only [Act.put, List.setIfInBounds_toArray, List.set_cons_zero, List.set_cons_succ]
            refine wpAnyH_ready (rs := [36]) (by kernel_rfl) (by simp) ?_
            refine AllReadyH.cons rfl (fun KK hKK => ?_) AllReadyH.nil
            go_simp
            refine (bit_any xn xb xt (dc - xb - 1) _ hxt hnn).mono ?_
            rintro r w5 ⟨rfl, a5⟩
            dsimp only
            have a6 := aV.trans a5
            rw [← HB.out]
            refine hKK.out _ _ (by assumption) (fun hHeld => ?_)
            clear hKK KK
            refine wpAnyH_take (i := 37) (oi := ⟨some 49, _, _, _, _, _⟩) (v := (.bool vb)) rfl (by kernel_rfl) (by kernel_rfl) (by kernel_rfl) (fun _ _ _ h => h) (Or.inl ⟨by rfl, ?_⟩) (by assumption) ?_
            · intro W hSW; go_simp
            simp only [Act.put, List.setIfInBounds_toArray, List.set_cons_zero, List.set_cons_succ]
            refine wpAnyH_take (i := 38) (oi := ⟨some 50, _, _, _, _, _⟩) (v := (.bool vb)) rfl (by kernel_rfl) (by kernel_rfl) (by kernel_rfl) (fun _ _ _ h => h) (Or.inl ⟨by rfl, ?_⟩) (by assumption) ?_
            · intro W hSW; go_simp
            simp only [Act.put, List.setIfInBounds_toArray, List.set_cons_zero, List.set_cons_succ]
            refine wpAnyH_done (by kernel_rfl) ?_ _
            have a7 := aR'.trans a6
            clear r0 r1 r2 r3 r4
            cases vb
            · go_wp2
              go_roundw
              case rel => exact ⟨i + 1, by omega, rfl, a7, by rw [HT.out]; exact HV.out⟩
              case measure => simp [intOf]; omega
            · go_wp2
              go_ret
              exact ⟨by rw [HA.out HV.out]; rfl, aB.trans a7⟩
        · have HV : Hid (inS ⟨xn, xb, xt⟩ xn dc = false) := by
            show inS ⟨xn, xb, xt⟩ xn dc = false
            simp [inS, e2]
          have e2' : decide (1 ≤ dc) = false := decide_eq_false e2
          go_quiet (fail)
          go_wp2
          go_roundw
          case rel => exact ⟨i + 1, by omega, rfl, aR.drewN _, by rw [HT.out]; exact HV.out⟩
          case measure => simp [intOf]; omega
      · have HV : Hid (inS ⟨xn, xb, xt⟩ dn dc = false) := by
          show inS ⟨xn, xb, xt⟩ dn dc = false
          simp [inS, e1]
        have e1' : (xn == dn) = false := by simp; exact e1
        go_quiet (fail)
        go_wp2
        go_roundw
        case rel => exact ⟨i + 1, by omega, rfl, aR.drewN _, by rw [HT.out]; exact HV.out⟩
        case measure => simp [intOf]; omega
    · go_wp2
      go_ret
      refine ⟨?_, aB.trans aR⟩
      obtain rfl : i = N := by omega
      have : xs.take i = xs := List.take_of_length_le (by rw [h.len]; omega)
      rw [← this, hno]; rfl
theorem right_yes {p : Option Addr} {N cap : Nat} {xs : List S} {gap : Int} {w : World} (h : L w p N xs) (hg : 1 ≤ gap ∧ gap ≤ 64) (k : OkL gap xs) : Calls Tryd.prog 62 #[.slice p N cap, .int .i64 gap] w fun r w' => r = .returned (.bool true) ∧ Apart [] w w' := by
  refine (right_ok h hg).mono ?_
  rintro r w1 ⟨⟨v, rfl, hv⟩, a1⟩
  exact ⟨by rw [hv.2 k], a1⟩
theorem right_no {p : Option Addr} {N cap : Nat} {xs : List S} {gap : Int} {w : World} (h : L w p N xs) (hg : 1 ≤ gap ∧ gap ≤ 64) (k : ¬ OkL gap xs) : Calls Tryd.prog 62 #[.slice p N cap, .int .i64 gap] w fun r w' => r = .returned (.bool false) ∧ Apart [] w w' := by
  refine (right_ok h hg).mono ?_
  rintro r w1 ⟨⟨v, rfl, hv⟩, a1⟩
  cases v
  · exact ⟨rfl, a1⟩
  · exact absurd (hv.1 rfl) k
theorem OkL.bases {gp : Int} {xs : List S} (k : OkL gp xs) : ∀ x ∈ xs, 0 ≤ x.b ∧ x.b ≤ 4194304 := fun x hx => ⟨(k.ok x hx).b0, by have := (k.ok x hx).bM; omega⟩
theorem hasv_isd (xs : List S) (n c : Int) : hasv xs n c = (isd n c && dot (ofn xs n) c) := rfl
theorem hasv_nil (n c : Int) : hasv [] n c = false := by
  rw [hasv_isd]
  cases h : isd n c
  · rfl
  · have h1 : 1 ≤ c := by
      unfold isd at h
      rw [Bool.and_eq_true, decide_eq_true_eq, decide_eq_true_eq] at h
      exact h.2.1
    rw [ofn_nil, dot_none n c h1]; rfl
theorem has_any {p : Option Addr} {N cap : Nat} {xs : List S} {w : World} (dn dc : Int) (h : L w p N xs) (v : Bool) (hv : v = hasv (norm xs) dn dc) : Calls Tryd.prog 46 #[.slice p N cap, .agg #[.int .i64 dn, .int .i64 dc]] w fun r w' => r = .returned (.bool v) ∧ Apart [] w w' := by
  subst hv
  by_cases hd : IsDot dn dc
  · have := has_yes (cap := cap) dn dc h hd
    unfold hasv
    rw [decide_eq_true hd.1, decide_eq_true hd.2]
    exact this
  · have := has_no (p := p) (N := N) (cap := cap) (w := w) dn dc hd
    have e : hasv (norm xs) dn dc = false := by
      unfold hasv
      by_cases h1 : 0 ≤ dn ∧ dn < 8
      · rw [decide_eq_false (p := 1 ≤ dc ∧ dc ≤ 1048576) (fun h2 => hd ⟨h1, h2⟩)]; simp
      · rw [decide_eq_false h1]; simp
    rw [e]
    exact this
end Go.Proofs.YtokaeiahhmaokaaDoor.ds

namespace Go.Proofs.YtokaeiahhmaokaaDoor.ds
open Go.ChangeShapes Go.WideShapes Go.ChangeAt Go.RowKit
set_option linter.unusedVariables false
theorem rcheck_yes {p : Option Addr} {N cap : Nat} {xs : List S} {gap : Int} {w : World} (h : L w p N xs) (hg : 1 ≤ gap ∧ gap ≤ 64) (k : OkL gap xs) : Calls Tryd.prog 26 #[.slice p N cap, .int .i64 gap] w fun r w' => r = .returned (.int .i64 0) ∧ Apart [] w w' := by
  have h1 : ¬ gap < 1 := by omega
  have h2 : ¬ 64 < gap := by omega
  go_enter Tryd.func26, Tryd.ntmps26
  go_wp2_with (go_at_call 62; refine (right_ok h hg).mono ?_; rintro r w1 ⟨⟨v, rfl, hv⟩, a1⟩; (obtain rfl : v = true := hv.2 k); clear hv)
  go_ret
  exact ⟨rfl, a1⟩
theorem rcheck_no {p : Option Addr} {N cap : Nat} {xs : List S} {gap : Int} {w : World} (h : L w p N xs) (hg : 1 ≤ gap ∧ gap ≤ 64) (k : ¬ OkL gap xs) : Calls Tryd.prog 26 #[.slice p N cap, .int .i64 gap] w fun r w' => r = .returned (.int .i64 30) ∧ Apart [] w w' := by
  have h1 : ¬ gap < 1 := by omega
  have h2 : ¬ 64 < gap := by omega
  go_enter Tryd.func26, Tryd.ntmps26
  go_wp2_with (go_at_call 62; refine (right_ok h hg).mono ?_; rintro r w1 ⟨⟨v, rfl, hv⟩, a1⟩; (obtain rfl : v = false := by (cases v; rfl; exact absurd (hv.1 rfl) k)); clear hv)
  go_ret
  exact ⟨rfl, a1⟩
theorem rcheck_arg {p : Option Addr} {N cap : Nat} {gap : Int} {w : World} (hg : ¬ (1 ≤ gap ∧ gap ≤ 64)) : Calls Tryd.prog 26 #[.slice p N cap, .int .i64 gap] w fun r w' => r = .returned (.int .i64 1) ∧ Apart [] w w' := by
  by_cases h1 : gap < 1
  · go_enter Tryd.func26, Tryd.ntmps26
    go_wp2
    go_ret
    exact ⟨rfl, Apart.refl _ _⟩
  · have h2 : 64 < gap := by omega
    go_enter Tryd.func26, Tryd.ntmps26
    go_wp2
    go_ret
    exact ⟨rfl, Apart.refl _ _⟩
end Go.Proofs.YtokaeiahhmaokaaDoor.ds

