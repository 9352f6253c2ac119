import Derived.Test.YtdbeeikjngnnnaaGreatC20
import Derived.Test.YtdbeeikjngnnnaaGreatC21
namespace Go.Proofs.YtdbeeikjngnnnaaGreat.ty
open Go.ChangeShapes Go.WideShapes Go.ChangeAt Go.RowKit
set_option linter.unusedVariables false
set_option linter.unusedSimpArgs false
set_option maxRecDepth 100000
set_option maxHeartbeats 8000000
theorem byts_one {us : List Nat} : ∀ u ∈ byts us, u.oneCell' = true := by
 intro u hu
 simp only [byts, List.mem_map] at hu
 obtain ⟨x, _, rfl⟩ := hu
 rfl
theorem app_bs {wB w : World} {s q : Sl} {us vs : List Nat} (h : Bf wB w s us) (hq : Rd w q.p (byts vs)) (hql : q.n = vs.length) (hqo : q.ok) (hl : us.length + vs.length ≤ 1000000) :
  ∃ s' W', (Builtin.append_ #[29, 29] 29 #[.slice s.p s.n s.c, .slice q.p q.n q.c]).run Tryz.prog w = .ok (.slice s'.p s'.n s'.c) W' ∧ Bf wB W' s' (us ++ vs) ∧ TK [5] w W' := by
 obtain ⟨i0, hi, hz0, hz1, hz2⟩ := info_of info5
 have hsn := h.len
 by_cases h0 : 0 < vs.length
 ·obtain ⟨P', o', e2, hb, hc⟩ := hq (by simpa [byts] using h0)
  have hcs : ∀ j u, (byts vs)[j]? = some u → w.cell? ((⟨P', o', none⟩ : Addr).add j) = some u := fun j u hj => by rw [Addr.add_lit]; exact hc j u hj
  obtain ⟨s', W', hrun, r1, r2, r3, _⟩ := run_appS 29 29 5 i0 _ 1 1 Tryz.underlying29 hi hz0 hz1 hz2 rfl (by decide) h.nw ⟨P', o', none⟩ vs.length q.c (byts vs) h0 (by simp [byts]) hcs byts_one (by unfold maxLen; omega) (by omega)
  refine ⟨s', W', ?_, ⟨by rw [byts_app]; exact r1, by rw [r2, hsn, List.length_append]⟩, TK.own h.nw r3 (by simp)⟩
  rw [e2, hql]
  exact hrun
 ·obtain rfl : vs = [] := List.length_eq_zero_iff.1 (by omega)
  rw [List.append_nil]
  have hqn : q.n = 0 := hql
  obtain ⟨q1, q2, q3⟩ := q
  simp only at hqn
  subst hqn
  cases q1 with
  | none =>
   have := hqo rfl
   simp only at this
   obtain ⟨-, rfl⟩ := this
   exact ⟨s, w, run_append_owned_none (P := Tryz.prog) w 0 29 29 5 i0 1 Tryz.underlying29 hi s.v s.n (byts us) h.nw.own, h, TK.refl _ _⟩
  | some ad =>
   obtain ⟨hxl, ⟨hv, hz⟩ | ⟨g, cap, cur, hv, hbb, hr, hle, hrest⟩⟩ := h.nw.own
   ·obtain ⟨p, n, c⟩ := s
    simp only [Sl.v, Value.slice.injEq] at hv
    obtain ⟨rfl, rfl, rfl⟩ := hv
    have hbs : us = [] := List.length_eq_zero_iff.1 hsn.symm
    subst hbs
    obtain ⟨s', w', hrun, r1, r2⟩ := run_appNil w 29 29 5 i0 _ 1 1 Tryz.underlying29 hi hz0 hz1 hz2 rfl (by decide) ⟨some ad, 0, q3⟩ [] (Rd.nil _ _) rfl (by simp) (by simp) (by simp) hqo
    exact ⟨s', w', hrun, ⟨⟨r1.own, fun k hk => Nat.le_trans h.nw.ap.size (r1.new k hk), h.nw.ap.trans r1.ap⟩, r2⟩, TK.of0 r1.ap⟩
   ·have how := h.nw.own
    rw [hv] at how
    obtain ⟨w', hrun, r1, r2⟩ := run_append_own_spare (P := Tryz.prog) w 0 29 29 5 i0 1 Tryz.underlying29 hi hz1 g s.n cap (byts us) how ad 0 q3 [] rfl (by simp) (by simp) (by omega)
    rw [List.append_nil] at r1
    have ap := apart_grown r2
    have ap' : Apart s.v.ownBlock.toList w w' := by rw [hv]; exact ap
    refine ⟨s, w', ?_, ⟨⟨by rw [hv]; exact r1, h.nw.new, h.nw.ap.trans' ap (fun y hy => ?_)⟩, hsn⟩, TK.own h.nw ap' (by simp)⟩
    ·have hv2 : Value.slice s.p s.n s.c = .slice (some ⟨g, 0, none⟩) s.n cap := hv
     rw [hv2]; exact hrun
    ·simp at hy; subst hy; exact .inr (h.nw.new _ (by rw [hv]; rfl))
def mkD (p : Nat → Bool) : Nat → Nat
 | 0 => 0
 | i + 1 => if p i = true then mkD p i + 2 ^ i else mkD p i
theorem mkD_lt (p : Nat → Bool) : ∀ i, mkD p i < 2 ^ i
 | 0 => by simp [mkD]
 | i + 1 => by
  have h := mkD_lt p i
  unfold mkD
  rw [Nat.pow_succ]
  split <;> omega
def nbD (p : Nat → Bool) (f : Nat → List Nat) : Nat → List Nat
 | 0 => []
 | i + 1 => if p i = true then nbD p f i ++ f i else nbD p f i
theorem nbD_len (p : Nat → Bool) (f : Nat → List Nat) (k : Nat) (hf : ∀ i, (f i).length ≤ k) : ∀ i, (nbD p f i).length ≤ i * k
 | 0 => by simp [nbD]
 | i + 1 => by
  have h := nbD_len p f k hf i
  have h1 := hf i
  have h2 : (i + 1) * k = i * k + k := Nat.succ_mul i k
  unfold nbD
  split
  ·rw [List.length_append]; omega
  ·omega
def inD (u d : List Int) (i : Nat) : Bool := decide (0 < u.getD i 0) || decide (0 < d.getD i 0)
def nuD (u d : List Int) (size : Nat) (two : Bool) (i : Nat) : List Nat := leB (u.getD i 0).toNat size ++ if two = true then leB (d.getD i 0).toNat size else []
theorem nuD_len (u d : List Int) (size : Nat) (two : Bool) (i : Nat) : (nuD u d size two i).length ≤ 2 * size := by
 unfold nuD
 rw [List.length_append, leB_len]
 split
 ·rw [leB_len]; omega
 ·simp; omega
def rowD (u d : List Int) (size : Nat) (two : Bool) : List Nat := mkD (inD u d) 8 :: nbD (inD u d) (nuD u d size two) 8
def Sm (u : List Int) : Prop := u.length = 8 ∧ ∀ i, i < 8 → 0 ≤ u.getD i 0 ∧ u.getD i 0 ≤ 4000000000000
theorem rcell {w : World} {X : Nat} {u : List Int} (h : w.heap[X]? = some (.cells (rv u).toArray 60 (0, 0))) (hu : u.length = 8) {i : Nat} (hi : i < 8) : w.cell? ⟨X, i, none⟩ = some (.int .i64 (u.getD i 0)) := dcell h (rv_at _ _ (by omega))
theorem drow_ok {w : World} {u d : List Int} (hu : Sm u) (hd : Sm d) {size : Nat} (hs : size ≤ 6) (two : Bool) : Calls Tryz.prog 58 #[.agg (rv u).toArray, .agg (rv d).toArray, .int .i64 (size : Int), .bool two] w fun r w' => ∃ s, r = .returned (.slice s.p s.n s.c) ∧ Bf w w' s (rowD u d size two) := by
 have Hu := hid hu
 have Hd := hid hd
 have Hs := hid hs
 clear hu hd hs
 obtain ⟨X, HX⟩ : ∃ X, Hid (X = w.heap.size) := ⟨_, hid rfl⟩
 obtain ⟨w1, Hw1⟩ : ∃ W, Hid (W = w.alloc (.cells (rv u).toArray 60)) := ⟨_, hid rfl⟩
 obtain ⟨Y, HY⟩ : ∃ Y, Hid (Y = X + 1) := ⟨_, hid rfl⟩
 obtain ⟨w2, Hw2⟩ : ∃ W, Hid (W = w1.alloc (.cells (rv d).toArray 60)) := ⟨_, hid rfl⟩
 have HA1 : Hid (Apart [] w w1) := hid (zM Hw1.out)
 have HA2 : Hid (Apart [] w1 w2) := hid (zM Hw2.out)
 have HBX : Hid (w2.heap[X]? = some (.cells (rv u).toArray 60 (0, 0))) := hid (by
  refine keep0 HA2.out ?_
  rw [HX.out, Hw1.out]; exact heap_alloc_new w _)
 have HBY : Hid (w2.heap[Y]? = some (.cells (rv d).toArray 60 (0, 0))) := hid (by
  have e : Y = w1.heap.size := by rw [HY.out, HX.out, Hw1.out]; exact (Array.size_push _).symm
  rw [e, Hw2.out]; exact heap_alloc_new w1 _)
 have HB0 : Hid (Bf w w2 ⟨none, 0, 0⟩ []) := hid ⟨⟨World.ownsRow_nil _ _ _ _, by simp [Sl.v, Value.ownBlock], HA1.out.trans HA2.out⟩, rfl⟩
 go_enter Tryz.func58, Tryz.ntmps58
 go_upto_region 1 with fail
 rw [← Hw1.out, ← HX.out, ← HY.out, ← Hw2.out]
 clear Hw1 Hw2 HX HY HA1 HA2
 go_wp2_with fail
 go_loopw [9, 10, 11, 12] (fun v9 v10 v11 v12 wt => ∃ (i : Nat) (s : Sl), v9 = .int .i64 (mkD (inD u d) i : Int) ∧ v10 = .int .i64 ((2 ^ i : Nat) : Int) ∧ v11 = .slice s.p s.n s.c ∧ v12 = .int .i64 (i : Int) ∧ i ≤ 8 ∧ Hid (Bf w wt s (nbD (inD u d) (nuD u d size two) i)) ∧ Hid (wt.heap[X]? = some (.cells (rv u).toArray 60 (0, 0))) ∧ Hid (wt.heap[Y]? = some (.cells (rv d).toArray 60 (0, 0)))) (fun _ _ _ v12 _ => 8 - natV v12)
 case atStart => exact ⟨0, ⟨none, 0, 0⟩, rfl, rfl, rfl, rfl, by omega, HB0, HBX, HBY⟩
 case round =>
  clear HB0 HBX HBY
  obtain ⟨i, s2, rfl, rfl, rfl, rfl, hi, HB, HBX, HBY⟩ := hrel
  generalize wr = wt at *
  by_cases hlt : i < 8
  ·have hlti : ((i : Nat) : Int) < 8 := by omega
   have h8 : ¬ (8 : Int) ≤ (i : Int) := by omega
   have zu := rcell HBX.out Hu.out.1 hlt
   have zd := rcell HBY.out Hd.out.1 hlt
   have hua := Hu.out.2 i hlt
   have hda := Hd.out.2 i hlt
   obtain ⟨A, HA⟩ : ∃ n : Nat, Hid (u.getD i 0 = (n : Int)) := ⟨(u.getD i 0).toNat, hid (by omega)⟩
   obtain ⟨D, HD⟩ : ∃ n : Nat, Hid (d.getD i 0 = (n : Int)) := ⟨(d.getD i 0).toNat, hid (by omega)⟩
   rw [HA.out] at zu hua
   rw [HD.out] at zd hda
   have Hin : Hid (inD u d i = (decide (0 < A) || decide (0 < D))) := hid (by unfold inD; rw [HA.out, HD.out]; simp)
   obtain ⟨m, Hm⟩ : ∃ m : Nat, Hid (m = mkD (inD u d) i) := ⟨_, hid rfl⟩
   obtain ⟨q, Hq⟩ : ∃ q : Nat, Hid (q = 2 ^ i) := ⟨_, hid rfl⟩
   obtain ⟨us, Hus⟩ : ∃ us, Hid (us = nbD (inD u d) (nuD u d size two) i) := ⟨_, hid rfl⟩
   have hm8 : m < 256 := by rw [Hm.out]; exact Nat.lt_of_lt_of_le (mkD_lt _ i) (Nat.pow_le_pow_right (n := 2) (by omega) hi)
   have hq8 : q < 256 := by rw [Hq.out]; exact Nat.pow_lt_pow_right (a := 2) (n := 8) (by omega) hlt
   have hw1 : wrap64 ((q : Int) * 2) = ((q * 2 : Nat) : Int) := by rw [IntWalk.wrap64_in _ (by omega)]; omega
   have hw2 : wrap64 ((m : Int) + (q : Int)) = ((m + q : Nat) : Int) := by rw [IntWalk.wrap64_in _ (by omega)]; omega
   have Hq1 : Hid (((q * 2 : Nat) : Int) = ((2 ^ (i + 1) : Nat) : Int)) := hid (by rw [Hq.out, Nat.pow_succ])
   have Hul : Hid (us.length ≤ 96) := hid (by
    rw [Hus.out]
    have h1 := nbD_len (inD u d) (nuD u d size two) (2 * size) (nuD_len u d size two) i
    have h2 : i * (2 * size) ≤ 8 * 12 := Nat.mul_le_mul (by omega) (by have := Hs.out; omega)
    omega)
   rw [← Hus.out] at HB
   rw [← Hm.out, ← Hq.out]
   by_cases hp : 0 < A ∨ 0 < D
   ·have Hi1 : Hid (inD u d i = true) := hid (by rw [Hin.out]; simp only [Bool.or_eq_true, decide_eq_true_eq]; exact hp)
    have Hmn : Hid (((m + q : Nat) : Int) = (mkD (inD u d) (i + 1) : Int)) := hid (by rw [Hm.out, Hq.out, mkD, if_pos Hi1.out])
    have Hmn2 : Hid (((m : Nat) : Int) + ((q : Nat) : Int) = (mkD (inD u d) (i + 1) : Int)) := hid (by rw [← Hmn.out]; omega)
    have Hq2 : Hid (((q : Nat) : Int) * 2 = ((2 ^ (i + 1) : Nat) : Int)) := hid (by rw [← Hq1.out]; omega)
    have HLa := hid (fun (W : World) => low_ok (w := W) (n := A) (size := size) (by omega) Hs.out)
    have HLd := hid (fun (W : World) => low_ok (w := W) (n := D) (size := size) (by omega) Hs.out)
    have Hnx : Hid (nbD (inD u d) (nuD u d size two) (i + 1) = us ++ (leB A size ++ if two = true then leB D size else [])) := hid (by
     rw [nbD, if_pos Hi1.out, ← Hus.out, nuD, HA.out, HD.out]; rfl)
    have hor : ((A : Nat) : Int) > 0 ∨ (¬ ((A : Nat) : Int) > 0 ∧ ((D : Nat) : Int) > 0) := by omega
    clear hp hua hda
    rcases hor with hap | ⟨hap, hdp⟩
    ·go_upto_region 10 with (first
      | (go_at_call 60
         refine (HLa.out wt).mono ?_
         rintro _ w3 ⟨s3, rfl, b3⟩
         obtain ⟨s4, w4, hrun, b4, t4⟩ := app_bs (HB.out.kept b3.nw.ap) b3.nw.rd b3.len b3.nw.ok (by rw [leB_len]; have := Hul.out; have := Hs.out; omega)
         have HR := hid hrun
         have HB4 := hid b4
         have HX4 := hid (t4.block (keep0 b3.nw.ap HBX.out) (by simp))
         have HY4 := hid (t4.block (keep0 b3.nw.ap HBY.out) (by simp))
         clear hrun b4 t4 b3)
      | (at_builtin; refine wpList_app2 rfl _ _ 29 29 rfl _ _ rfl rfl (.slice s4.p s4.n s4.c) w4 HR.out ?_))
     clear HR HB HBX HBY zu zd
     cases two with
     | false =>
      go_wp2_with fail
      refine ⟨⟨i + 1, s4, by first | rw [Hmn.out] | rw [Hmn2.out], by first | rw [Hq1.out] | rw [Hq2.out], rfl, by go_num, by omega, ?_, HX4, HY4⟩, by simp [natV]; omega⟩
      refine hid ?_
      have e := Hnx.out
      rw [if_neg (by simp), List.append_nil] at e
      rw [e]
      exact HB4.out
     | true =>
      have zd := rcell HY4.out Hd.out.1 hlt
      rw [HD.out] at zd
      go_wp2_with (first
       | (go_at_call 60
          refine (HLd.out w4).mono ?_
          rintro _ w5 ⟨s5, rfl, b5⟩
          obtain ⟨s6, w6, hrun, b6, t6⟩ := app_bs (HB4.out.kept b5.nw.ap) b5.nw.rd b5.len b5.nw.ok (by rw [List.length_append, leB_len, leB_len]; have := Hul.out; have := Hs.out; omega)
          have HR := hid hrun
          have HB6 := hid b6
          have HX6 := hid (t6.block (keep0 b5.nw.ap HX4.out) (by simp))
          have HY6 := hid (t6.block (keep0 b5.nw.ap HY4.out) (by simp))
          clear hrun b6 t6 b5)
       | (at_builtin; refine wpList_app2 rfl _ _ 29 29 rfl _ _ rfl rfl (.slice s6.p s6.n s6.c) w6 HR.out ?_))
      refine ⟨⟨i + 1, s6, by first | rw [Hmn.out] | rw [Hmn2.out], by first | rw [Hq1.out] | rw [Hq2.out], rfl, by go_num, by omega, ?_, HX6, HY6⟩, by simp [natV]; omega⟩
      refine hid ?_
      have e := Hnx.out
      simp only [if_true] at e
      rw [← List.append_assoc] at e
      rw [e]
      exact HB6.out
    ·have hA0 : A = 0 := by omega
     have HL0 : Hid (∀ W : World, Calls Tryz.prog 60 #[.int .i64 0, .int .i64 (size : Int)] W fun r w' => ∃ s, r = .returned (.slice s.p s.n s.c) ∧ Bf W w' s (leB A size)) := hid (by
      intro W
      have h1 := HLa.out W
      rw [hA0] at h1 ⊢
      exact h1)
     clear hA0 HLa
     go_upto_region 10 with (first
      | (go_at_call 60
         refine (HL0.out wt).mono ?_
         rintro _ w3 ⟨s3, rfl, b3⟩
         obtain ⟨s4, w4, hrun, b4, t4⟩ := app_bs (HB.out.kept b3.nw.ap) b3.nw.rd b3.len b3.nw.ok (by rw [leB_len]; have := Hul.out; have := Hs.out; omega)
         have HR := hid hrun
         have HB4 := hid b4
         have HX4 := hid (t4.block (keep0 b3.nw.ap HBX.out) (by simp))
         have HY4 := hid (t4.block (keep0 b3.nw.ap HBY.out) (by simp))
         clear hrun b4 t4 b3)
      | (at_builtin; refine wpList_app2 rfl _ _ 29 29 rfl _ _ rfl rfl (.slice s4.p s4.n s4.c) w4 HR.out ?_))
     clear HR HB HBX HBY zu zd
     cases two with
     | false =>
      go_wp2_with fail
      refine ⟨⟨i + 1, s4, by first | rw [Hmn.out] | rw [Hmn2.out], by first | rw [Hq1.out] | rw [Hq2.out], rfl, by go_num, by omega, ?_, HX4, HY4⟩, by simp [natV]; omega⟩
      refine hid ?_
      have e := Hnx.out
      rw [if_neg (by simp), List.append_nil] at e
      rw [e]
      exact HB4.out
     | true =>
      have zd := rcell HY4.out Hd.out.1 hlt
      rw [HD.out] at zd
      go_wp2_with (first
       | (go_at_call 60
          refine (HLd.out w4).mono ?_
          rintro _ w5 ⟨s5, rfl, b5⟩
          obtain ⟨s6, w6, hrun, b6, t6⟩ := app_bs (HB4.out.kept b5.nw.ap) b5.nw.rd b5.len b5.nw.ok (by rw [List.length_append, leB_len, leB_len]; have := Hul.out; have := Hs.out; omega)
          have HR := hid hrun
          have HB6 := hid b6
          have HX6 := hid (t6.block (keep0 b5.nw.ap HX4.out) (by simp))
          have HY6 := hid (t6.block (keep0 b5.nw.ap HY4.out) (by simp))
          clear hrun b6 t6 b5)
       | (at_builtin; refine wpList_app2 rfl _ _ 29 29 rfl _ _ rfl rfl (.slice s6.p s6.n s6.c) w6 HR.out ?_))
      refine ⟨⟨i + 1, s6, by first | rw [Hmn.out] | rw [Hmn2.out], by first | rw [Hq1.out] | rw [Hq2.out], rfl, by go_num, by omega, ?_, HX6, HY6⟩, by simp [natV]; omega⟩
      refine hid ?_
      have e := Hnx.out
      simp only [if_true] at e
      rw [← List.append_assoc] at e
      rw [e]
      exact HB6.out
   ·have Hi1 : Hid (inD u d i = false) := hid (by rw [Hin.out]; simp only [Bool.or_eq_false_iff, decide_eq_false_iff_not]; omega)
    have ha0 : ¬ ((A : Nat) : Int) > 0 := by omega
    have hd0 : ¬ ((D : Nat) : Int) > 0 := by omega
    go_wp2_with fail
    refine ⟨⟨i + 1, s2, ?_, ?_, rfl, by go_num, by omega, ?_, HBX, HBY⟩, by simp [natV]; omega⟩
    ·rw [mkD, Hi1.out, if_neg (by simp), ← Hm.out]
    ·exact congrArg _ Hq1.out
    ·refine hid ?_
     rw [nbD, Hi1.out, if_neg (by simp), ← Hus.out]
     exact HB.out
  ·have hlti : ¬ ((i : Nat) : Int) < 8 := by omega
   obtain rfl : i = 8 := by omega
   obtain ⟨m, Hm⟩ : ∃ m : Nat, Hid (m = mkD (inD u d) 8) := ⟨_, hid rfl⟩
   rw [← Hm.out]
   have hm8 : m < 256 := by rw [Hm.out]; exact mkD_lt _ 8
   have HB1 : Hid (Bf w (wt.alloc (.cells #[.int .u8 (m : Int)] 5)) ⟨some ⟨wt.heap.size, 0, none⟩, 1, 1⟩ [m]) := by
    unfold Hid
    refine ⟨⟨⟨rfl, .inr ⟨wt.heap.size, 1, _, rfl, Nat.zero_le _, heap_alloc_new wt _, Nat.le_refl _, by unfold maxLen; omega, rfl, rfl⟩⟩, fun k hk => by simp [Sl.v, Value.ownBlock] at hk; rw [← hk]; exact HB.out.nw.ap.size, HB.out.nw.ap.alloc _⟩, rfl⟩
   have hem : (m : Int) % 256 = (m : Int) := by omega
   have HB2 := hid (HB.out.kept ((Apart.refl [] wt).alloc (.cells #[.int .u8 (m : Int)] 5)))
   obtain ⟨s4, w4, hrun, b4, t4⟩ := app_bs HB1.out HB2.out.nw.rd HB2.out.len HB2.out.nw.ok (by
    have h1 := nbD_len (inD u d) (nuD u d size two) (2 * size) (nuD_len u d size two) 8
    have h2 := Hs.out
    simp only [List.length_cons, List.length_nil]
    omega)
   have HR := hid hrun
   have HB4 := hid b4
   clear hrun b4 t4
   go_wp2_with (at_builtin; refine wpList_app2 rfl _ _ 29 29 rfl _ _ rfl rfl (.slice s4.p s4.n s4.c) w4 HR.out ?_)
   go_ret
   refine ⟨s4, rfl, ?_⟩
   unfold rowD
   rw [← Hm.out]
   exact HB4.out
structure Tr (ts : List Tg) (e : ByteArray) (b : List Int) : Prop where
 len : b.length = 8
 at' : ∀ a, a < 8 → b.getD a 0 = (numT ts e a : Int)
 le : ∀ a, a < 8 → numT ts e a ≤ 65535
def fil (b : List Int) (i : Nat) : List Int := b.take i ++ zr.drop i
theorem fil_len {b : List Int} (h : b.length = 8) {i : Nat} (hi : i ≤ 8) : (fil b i).length = 8 := by
 unfold fil
 rw [List.length_append, List.length_take, List.length_drop, h]
 have : zr.length = 8 := rfl
 omega
theorem fil_zero (b : List Int) : fil b 0 = zr := by simp [fil]
theorem fil_end {b : List Int} (h : b.length = 8) : fil b 8 = b := by
 unfold fil
 rw [List.take_of_length_le (by omega), List.drop_eq_nil_of_le (by decide), List.append_nil]
theorem fil_step {b : List Int} (h : b.length = 8) {i : Nat} (hi : i < 8) : (fil b i).set i (b.getD i 0) = fil b (i + 1) := by
 unfold fil
 have hz : zr.length = 8 := rfl
 have e1 : zr.drop i = zr[i]'(by omega) :: zr.drop (i + 1) := List.drop_eq_getElem_cons (by omega)
 have hb : i < b.length := by omega
 rw [List.set_append_right _ _ (by rw [List.length_take]; omega), List.length_take, Nat.min_eq_left (by omega), Nat.sub_self, e1, List.set_cons_zero, List.take_succ_eq_append_getElem hb, List.append_assoc, List.singleton_append]
 rw [List.getD_eq_getElem?_getD, List.getElem?_eq_getElem hb]
 rfl
theorem Tr.sm {ts : List Tg} {e : ByteArray} {b : List Int} (h : Tr ts e b) : Sm b := ⟨h.len, fun i hi => by have h1 := h.at' i hi; have h2 := h.le i hi; omega⟩
theorem zr_sm : Sm zr := ⟨rfl, fun i hi => by
 obtain rfl | rfl | rfl | rfl | rfl | rfl | rfl | rfl : i = 0 ∨ i = 1 ∨ i = 2 ∨ i = 3 ∨ i = 4 ∨ i = 5 ∨ i = 6 ∨ i = 7 := by omega
 all_goals decide⟩
theorem size60 : (Tryz.prog.info? 60).map (·.size) = some 8 := by kernel_rfl
theorem build60 (W : World) : (Instr.build 60 #[]).run Tryz.prog W = .ok (.agg (rv zr).toArray) W := by kernel_rfl
theorem ex_build60 {W : World} {eval : Operand → Value} {op : Oper} (ho : op.op = .build 60 #[]) : (execOp eval op).run Tryz.prog W = .ok (.value (.agg (rv zr).toArray)) W := by
 unfold execOp
 have e1 : (#[] : Array (Nat × Operand)).map (fun (i, x) => (i, eval x)) = #[] := by simp
 simp only [ho, e1, Sem.run_bind, build60 W, Sem.run_pure, Result.andThen_ok]
theorem tags_ok {w : World} {O : Nat} {r : Rv} {s : Sl} (h : Dv w O r s) (hl : r.ts.length ≤ 1000000) {e : ByteArray} {b : List Int} (hb : Tr r.ts e b) : Calls Tryz.prog 59 #[.pointer (some ⟨O, 0, none⟩), .string e] w fun x w' => ∃ s', x = .returned (.slice s'.p s'.n s'.c) ∧ Bf w w' s' (rowD b zr 2 false) := by
 have HD := hid h
 have Hl := hid hl
 have HB := hid hb
 clear h hl hb
 obtain ⟨X, HX⟩ : ∃ X, Hid (X = w.heap.size) := ⟨_, hid rfl⟩
 obtain ⟨w1, Hw1⟩ : ∃ W, Hid (W = w.alloc (.cells (rv zr).toArray 60)) := ⟨_, hid rfl⟩
 have HA1 : Hid (Apart [] w w1) := hid (zM Hw1.out)
 have HBX : Hid (w1.heap[X]? = some (.cells (rv zr).toArray 60 (0, 0))) := hid (zN HX.out Hw1.out)
 have HXw : Hid (w.heap.size ≤ X) := hid (by rw [HX.out]; exact Nat.le_refl _)
 go_enter Tryz.func59, Tryz.ntmps59
 go_upto_region 2 with fail
 have e0 : (w.alloc (.cells #[.int .i64 0, .int .i64 0, .int .i64 0, .int .i64 0, .int .i64 0, .int .i64 0, .int .i64 0, .int .i64 0] 60)) = w1 := by rw [Hw1.out]; rfl
 rw [← HX.out]
 rw [e0]
 clear e0 Hw1 HX
 have HT := hid (fun (W : World) (hW : Apart [] w W) (a : Nat) => dnum_ok (HD.out.kept0 hW) Hl.out e a)
 go_wp2_with fail
 go_loopw [6] (fun v6 wt => ∃ i : Nat, v6 = .int .i64 (i : Int) ∧ i ≤ 8 ∧ Hid (Apart [] w wt) ∧ Hid (wt.heap[X]? = some (.cells (rv (fil b i)).toArray 60 (0, 0)))) (fun v6 _ => 8 - natV v6)
 case atStart => exact ⟨0, rfl, by omega, HA1, hid (by rw [fil_zero]; exact HBX.out)⟩
 case round =>
  clear HA1 HBX
  obtain ⟨i, rfl, hi, HA, HBX⟩ := hrel
  generalize wr = wt at *
  by_cases hlt : i < 8
  ·have hlti : ((i : Nat) : Int) < 8 := by omega
   have h8 : ¬ (8 : Int) ≤ (i : Int) := by omega
   obtain ⟨x, Hx⟩ : ∃ x : Int, Hid (x = b.getD i 0) := ⟨_, hid rfl⟩
   have Hxn : Hid ((numT r.ts e i : Int) = x) := hid (by rw [Hx.out]; exact (HB.out.at' i hlt).symm)
   obtain ⟨y, Hy⟩ : ∃ x : Int, Hid (x = (fil b i).getD i 0) := ⟨_, hid rfl⟩
   go_wp2_with (go_at_call 57; refine (HT.out wt HA.out i).mono ?_; rintro _ w3 ⟨rfl, a3⟩; have HBX3 := hid (keep0 a3 HBX.out); have HA3 := hid (HA.out.trans a3); clear a3; rw [Hxn.out]; have z3 : w3.cell? ⟨X, i, none⟩ = some (.int .i64 y) := (by rw [Hy.out]; exact rcell HBX3.out (fil_len HB.out.len hi) hlt); have f3 : w3.frozen? ⟨X, i, none⟩ = false := frozen_of_row _ _ _ _ _ HBX3.out)
   refine ⟨⟨i + 1, by go_num, by omega, hid (HA3.out.setCell (.inr HXw.out) _), hid ?_⟩, by simp [natV]; omega⟩
   have h1 := heap_setCell_same w3 X i _ 60 (.int .i64 x) HBX3.out
   rw [List.setIfInBounds_toArray, rv_set, Hx.out, fil_step HB.out.len hlt, ← Hx.out] at h1
   exact h1
  ·have hlti : ¬ ((i : Nat) : Int) < 8 := by omega
   obtain rfl : i = 8 := by omega
   rw [fil_end HB.out.len] at HBX
   have HR := hid (fun (W : World) => drow_ok (w := W) HB.out.sm zr_sm (size := 2) (by omega) false)
   have hln : (rv b).toArray.size = 8 := by simp [rv_len, HB.out.len]
   go_wp2_with (first
    | refine wpList_load_row rfl 60 _ rfl X rfl 60 _ (0, 0) _ HBX.out Tryz.underlying60 rfl (by rw [size60]; simp [rv_len, HB.out.len]) ?_
    | refine wpL_val rfl (.agg (rv zr).toArray) (ex_build60 rfl) ?_
    | (go_at_call 58; refine (HR.out wt).mono ?_; rintro _ w3 ⟨s3, rfl, b3⟩; have HB3 := hid b3; clear b3))
   go_ret
   exact ⟨s3, rfl, ⟨⟨HB3.out.nw.own, fun k hk => Nat.le_trans HA.out.size (HB3.out.nw.new k hk), HA.out.trans HB3.out.nw.ap⟩, HB3.out.len⟩⟩
theorem mkD_eq (u : List Int) (p : Nat → Bool) (hp : ∀ i, i < 8 → (p i = true ↔ 0 < u.getD i 0)) : ∀ i, i ≤ 8 → mkD p i = mk8 u i
 | 0, _ => rfl
 | i + 1, h => by
  have h1 := mkD_eq u p hp i (by omega)
  unfold mkD mk8
  by_cases hpi : p i = true
  ·have h2 := (hp i (by omega)).1 hpi
   rw [if_pos hpi, if_pos h2, h1]
   have h3 := Nat.two_pow_add_eq_or_of_lt (mk8_lt u i) 1
   rw [Nat.mul_one] at h3
   rw [Nat.or_comm, ← h3, Nat.add_comm]
  ·rw [if_neg hpi, if_neg (fun k => hpi ((hp i (by omega)).2 k)), h1]
theorem nbD_eq (u : List Int) (wd : Nat) (p : Nat → Bool) (f : Nat → List Nat) (hp : ∀ i, i < 8 → (p i = true ↔ 0 < u.getD i 0)) (hf : ∀ i, i < 8 → f i = leB (u.getD i 0).toNat wd) : ∀ i, i ≤ 8 → nbD p f i = nb8 u wd i
 | 0, _ => rfl
 | i + 1, h => by
  have h1 := nbD_eq u wd p f hp hf i (by omega)
  unfold nbD nb8
  by_cases hpi : p i = true
  ·have h2 := (hp i (by omega)).1 hpi
   rw [if_pos hpi, if_pos h2, h1, hf i (by omega)]
  ·rw [if_neg hpi, if_neg (fun k => hpi ((hp i (by omega)).2 k)), h1]
theorem zrD8 (i : Nat) (hi : i < 8) : zr.getD i 0 = 0 := by
 obtain rfl | rfl | rfl | rfl | rfl | rfl | rfl | rfl : i = 0 ∨ i = 1 ∨ i = 2 ∨ i = 3 ∨ i = 4 ∨ i = 5 ∨ i = 6 ∨ i = 7 := by omega
 all_goals rfl
theorem rowD_one (u : List Int) : rowD u zr 2 false = rowB u 2 := by
 have hp : ∀ i, i < 8 → (inD u zr i = true ↔ 0 < u.getD i 0) := fun i hi => by
  unfold inD
  rw [zrD8 i hi]
  simp
 unfold rowD rowB
 rw [mkD_eq u _ hp 8 (by omega), nbD_eq u 2 _ _ hp (fun i hi => by unfold nuD; rw [if_neg (by simp), List.append_nil]) 8 (by omega)]
theorem dob_at {a b : List Int} (ha : a.length = 8) (hb : b.length = 8) {i : Nat} (hi : i < 8) : (ob a b).getD i 0 = ors (a.getD i 0) (b.getD i 0) := by
 have e1 : a[i]? = some (a.getD i 0) := by simp [ha, hi]
 have e2 : b[i]? = some (b.getD i 0) := by simp [hb, hi]
 rw [List.getD_eq_getElem?_getD, ob, List.getElem?_zipWith, e1, e2]
 rfl
theorem dors_eq {x y : Nat} (hx : x ≤ 16777215) (hy : y ≤ 16777215) : ors (x : Int) (y : Int) = ((16777216 * y + x : Nat) : Int) := by
 unfold ors
 have h1 := Nat.two_pow_add_eq_or_of_lt (show x < 2 ^ 24 by omega) y
 have e1 : ((y : Int) * 16777216).toNat = 2 ^ 24 * y := by omega
 rw [e1, Int.toNat_natCast, Nat.or_comm, ← h1]
theorem leB_two {x y : Nat} (hx : x ≤ 16777215) (hy : y ≤ 16777215) : leB (16777216 * y + x) 6 = leB x 3 ++ leB y 3 := by
 simp only [leB, List.nil_append, List.cons_append]
 congr 1
 ·omega
 ·congr 1
  ·omega
  ·congr 1
   ·omega
   ·congr 1
    ·omega
    ·congr 1
     ·omega
     ·congr 1
      omega
theorem rowD_two {u d : List Int} (hu : Wd u) (hd : Wd d) : rowD u d 3 true = rowB (ob u d) 6 := by
 have key : ∀ i, i < 8 → ∃ x y : Nat, u.getD i 0 = (x : Int) ∧ d.getD i 0 = (y : Int) ∧ x ≤ 16777215 ∧ y ≤ 16777215 ∧ (ob u d).getD i 0 = ((16777216 * y + x : Nat) : Int) := fun i hi => by
  have h1 := hu.at i hi
  have h2 := hd.at i hi
  refine ⟨(u.getD i 0).toNat, (d.getD i 0).toNat, by omega, by omega, by omega, by omega, ?_⟩
  rw [dob_at hu.1 hd.1 hi]
  have e1 : u.getD i 0 = (((u.getD i 0).toNat : Nat) : Int) := by omega
  have e2 : d.getD i 0 = (((d.getD i 0).toNat : Nat) : Int) := by omega
  rw [e1, e2]
  simp only [Int.toNat_natCast]
  exact dors_eq (by omega) (by omega)
 have hp : ∀ i, i < 8 → (inD u d i = true ↔ 0 < (ob u d).getD i 0) := fun i hi => by
  obtain ⟨x, y, e1, e2, _, _, e3⟩ := key i hi
  unfold inD
  rw [e1, e2, e3]
  simp only [Bool.or_eq_true, decide_eq_true_eq]
  omega
 unfold rowD rowB
 rw [mkD_eq _ _ hp 8 (by omega), nbD_eq (ob u d) 6 _ _ hp (fun i hi => by
  obtain ⟨x, y, e1, e2, h1, h2, e3⟩ := key i hi
  unfold nuD
  rw [if_pos rfl, e1, e2, e3]
  simp only [Int.toNat_natCast]
  exact (leB_two h1 h2).symm) 8 (by omega)]
theorem Wd.sm {u : List Int} (h : Wd u) : Sm u := ⟨h.1, fun i hi => by have := h.at i hi; omega⟩
end Go.Proofs.YtdbeeikjngnnnaaGreat.ty
