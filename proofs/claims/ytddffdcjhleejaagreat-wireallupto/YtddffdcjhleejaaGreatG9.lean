import Derived.Test.YtddffdcjhleejaaGreatG8
namespace Go.Proofs.YtddffdcjhleejaaGreat.ds
open Go.ChangeShapes Go.WideShapes Go.ChangeAt Go.RowKit Go.Sort
set_option linter.unusedVariables false
set_option linter.unusedSimpArgs false
theorem rnum_lt (B : List Nat) : ∀ (f i p acc n : Nat) (b : Bool) (q : Nat), acc < 18446744073709551616 → rnum B f i p acc = .ok (n, b, q) → n < 18446744073709551616
  | 0, _, _, _, _, _, _, _, h => by cases h
  | f + 1, i, p, acc, n, b, q, ha, h => by
    have hor : acc ||| (B.getD p 0 % 128) <<< (7 * i) % 18446744073709551616 < 18446744073709551616 := Nat.or_lt_two_pow (n := 64) (by omega) (by have := Nat.mod_lt ((B.getD p 0 % 128) <<< (7 * i)) (show 0 < 18446744073709551616 by decide); omega)
    unfold rnum at h
    split at h
    · split at h
      · simp only [Except.ok.injEq, Prod.mk.injEq] at h
        rw [← h.1]; exact hor
      · split at h
        · simp only [Except.ok.injEq, Prod.mk.injEq] at h
          rw [← h.1]; exact hor
        · exact rnum_lt B f (i + 1) (p + 1) _ n b q hor h
    · cases h
theorem rnumber_lt {B : List Nat} {q n q' : Nat} {b : Bool} (h : rnumber B q = .ok ((n, b), q')) : n < 18446744073709551616 := by
  unfold rnumber at h
  cases hr : rnum B 10 0 q 0 with
  | error x => rw [hr] at h; cases h
  | ok t =>
    obtain ⟨n', b', q''⟩ := t
    rw [hr] at h
    simp only [Except.ok.injEq, Prod.mk.injEq] at h
    rw [← h.1.1]
    exact rnum_lt B 10 0 q 0 n' b' q'' (by omega) hr
noncomputable def okS (n b t mb : Nat) (ok : Bool) : Bool := @decide (ok = true ∧ t ≤ mb ∧ OkL 64 [(⟨(n : Nat), (b : Nat), t⟩ : S)]) (Classical.propDecidable _)
theorem okS_iff (n b t mb : Nat) (ok : Bool) : okS n b t mb ok = true ↔ ok = true ∧ t ≤ mb ∧ OkL 64 [(⟨(n : Nat), (b : Nat), t⟩ : S)] := by unfold okS; exact @decide_eq_true_iff _ (Classical.propDecidable _)
noncomputable def rspan (B : List Nat) (q ln mb : Nat) : Except Nat (S × Nat) := rb (rbound B q ln 7) (fun n q1 => rb (rbound B q1 0 1048576) (fun b q2 => rb (rnumber B q2) (fun a q3 => if okS n b a.1 mb a.2 = true then .ok (⟨(n : Nat), (b : Nat), a.1⟩, q3) else .error q2)))
set_option maxRecDepth 100000 in
theorem isSet_wire {p : Option Addr} {N cap : Nat} {xs : List S} {w : World} (h : L w p N xs) (v : Bool) (hv : v = true ↔ OkL 64 xs) : Calls Tryz.prog 35 #[.slice p N cap] w fun r w' => r = .returned (.bool v) ∧ Apart [] w w' := by
  have HC := fun e he => hid (check_as (cap := cap) (gap := 64) h e he)
  cases v with
  | true =>
    have h0 := HC 0 (by unfold chk; rw [if_pos (by omega), if_pos (hv.1 rfl)])
    clear HC h
    go_enter Tryz.func35, Tryz.ntmps35
    go_wp2_with fail
    refine h0.out.mono ?_
    rintro _ w' ⟨rfl, a⟩
    have HA := hid a
    clear a
    try dsimp only
    go_wp2_with fail
    go_ret
    exact ⟨rfl, HA.out⟩
  | false =>
    have h0 := HC 30 (by unfold chk; rw [if_pos (by omega), if_neg (fun k => by have := hv.2 k; cases this)])
    clear HC h
    go_enter Tryz.func35, Tryz.ntmps35
    go_wp2_with fail
    refine h0.out.mono ?_
    rintro _ w' ⟨rfl, a⟩
    have HA := hid a
    clear a
    try dsimp only
    go_wp2_with fail
    go_ret
    exact ⟨rfl, HA.out⟩
theorem row3v {w : World} {g : Nat} {t : TypeId} {a b c : Value} (h : w.heap[g]? = some (.cells #[a, b, c] t (0, 0))) : w.cell? ⟨g, 0, none⟩ = some a ∧ w.cell? ⟨g, 1, none⟩ = some b ∧ w.cell? ⟨g, 2, none⟩ = some c := by
  refine ⟨?_, ?_, ?_⟩ <;> (rw [cell_of_row _ _ _ _ _ _ h]; rfl)
theorem keepB {R D : Nat} {a b : World} {o : Obj} (h : Apart [R] a b) (hD : a.heap[D]? = some o) (hl : D < a.heap.size) (hn : D ≠ R) : b.heap[D]? = some o := (h.block _ hl (by simp; exact hn)).trans hD
theorem rowL {w : World} {gb : Nat} {x : S} (h : w.heap[gb]? = some (.cells #[.int .i64 x.n, .int .i64 x.b, .int .u64 (x.t : Int)] 48 (0, 0))) (ht : x.t < 2 ^ 64) : L w (some ⟨gb, 0, none⟩) 1 [x] := by
  obtain ⟨h0, h1, h2⟩ := row3v h
  refine ⟨fun _ => ⟨gb, 0, rfl, lt_of_heap h, fun i hi => ?_⟩, rfl, by omega, fun y hy => by simp at hy; rw [hy]; exact ht⟩
  simp at hi
  subst hi
  exact ⟨h0, h1, h2⟩
set_option maxHeartbeats 8000000 in
set_option maxRecDepth 100000 in
theorem span_ok {wB w : World} {R : Nat} {p : Option Addr} {N c : Nat} {B : List Nat} {q : Nat} (h : RB wB w R p N c B q) (ln mb : Nat) (hln : ln ≤ 100) :
    Calls Tryz.prog 108 #[.pointer (some ⟨R, 0, none⟩), .int .i64 (ln : Nat), .int .u64 (mb : Nat)] w fun e w' => OutR wB w w' R p N c B e (rspan B q ln mb) (fun a v _ => v = spv a ∧ a.t < 2 ^ 64) := by
  have HRB := hid h
  have HE : Hid (rspan B q ln mb = rb (rbound B q ln 7) (fun n q1 => rb (rbound B q1 0 1048576) (fun b q2 => rb (rnumber B q2) (fun a q3 => if okS n b a.1 mb a.2 = true then .ok (⟨(n : Nat), (b : Nat), a.1⟩, q3) else .error q2)))) := rfl
  obtain ⟨D, HD⟩ : ∃ D, Hid (D = w.heap.size) := ⟨_, rfl⟩
  obtain ⟨w1, hw1⟩ : ∃ w1, w1 = w.alloc (.cells #[.int .i64 0, .int .i64 0, .int .u64 0] 48) := ⟨_, rfl⟩
  have HA0 : Hid (Apart [] w w1) := by unfold Hid; rw [hw1]; exact (Apart.refl [] w).alloc _
  have HA1 : Hid (Apart [R] w w1) := HA0.out.mono (by simp)
  have HD1 : Hid (w1.heap[D]? = some (.cells #[.int .i64 0, .int .i64 0, .int .u64 0] 48 (0, 0))) := by unfold Hid; rw [HD.out, hw1]; exact heap_alloc_new w _
  have HDR : Hid (D ≠ R) := by unfold Hid; have := lt_of_heap HRB.out.blk; rw [HD.out]; omega
  have HRB1 := hid (HRB.out.kept HA0.out)
  clear h
  go_enter Tryz.func108, Tryz.ntmps108
  go_wp2_with fail
  rw [← hw1, ← HD.out]
  clear hw1
  refine (bounded_ok HRB1.out ln 7 (by omega) (by omega)).mono ?_
  rintro e2 w2 ⟨ha2, hm2⟩
  have HA2 : Hid (Apart [R] w w2) := HA1.out.trans ha2
  have HS2 := hid ha2
  clear ha2
  cases hr2 : rbound B q ln 7 with
  | error x =>
    rw [hr2] at hm2
    have he : e2 = wrongAt x := hm2
    subst he
    unfold wrongAt
    have HE1 := HE.out
    rw [hr2, rb_err] at HE1
    try dsimp only
    refine ⟨rfl, HA2.out, ?_⟩
    rw [HE1]
    rfl
  | ok t =>
    obtain ⟨n, q2⟩ := t
    rw [hr2] at hm2
    obtain ⟨⟨v2, hev2, hv2⟩, hrb2⟩ := hm2
    subst hev2
    have HR2 := hid hrb2
    have HE1 := HE.out
    rw [hr2, rb_ok] at HE1
    replace HE := hid HE1
    have HP2 := hid hr2
    clear HE1 hrb2 hr2
    subst hv2
    try dsimp only
    have HD2 : Hid (w2.heap[D]? = some (.cells #[.int .i64 0, .int .i64 0, .int .u64 0] 48 (0, 0))) := keepB HS2.out HD1.out (lt_of_heap HD1.out) HDR.out
    obtain ⟨X, HX⟩ : ∃ X, Hid (X = w2.heap.size) := ⟨_, rfl⟩
    obtain ⟨w3, hw3⟩ : ∃ w3, w3 = w2.alloc (.cells #[.int .i64 (n : Nat), .int .i64 0, .int .u64 0] 48) := ⟨_, rfl⟩
    have HS3 : Hid (Apart [] w2 w3) := by unfold Hid; rw [hw3]; exact (Apart.refl [] w2).alloc _
    have HX3 : Hid (w3.heap[X]? = some (.cells #[.int .i64 (n : Nat), .int .i64 0, .int .u64 0] 48 (0, 0))) := by unfold Hid; rw [HX.out, hw3]; exact heap_alloc_new w2 _
    have HD3 : Hid (w3.heap[D]? = some (.cells #[.int .i64 0, .int .i64 0, .int .u64 0] 48 (0, 0))) := (HS3.out.block _ (lt_of_heap HD2.out) (by simp)).trans HD2.out
    have HXR : Hid (X ≠ R) := by unfold Hid; have := lt_of_heap HR2.out.blk; rw [HX.out]; omega
    have HXD : Hid (X ≠ D) := by unfold Hid; have := lt_of_heap HD2.out; rw [HX.out]; omega
    have HXw : Hid (w.heap.size ≤ X) := by unfold Hid; rw [HX.out]; exact HA2.out.size
    have HR3 := hid (HR2.out.kept HS3.out)
    have HA3 : Hid (Apart [R] w w3) := HA2.out.trans (HS3.out.mono (by simp))
    go_wp2_with fail
    rw [← hw3, ← HX.out]
    clear hw3
    refine (bounded_ok HR3.out 0 1048576 (by omega) (by omega)).mono ?_
    rintro e4 w4 ⟨ha4, hm4⟩
    have HA4 : Hid (Apart [R] w w4) := HA3.out.trans ha4
    have HS4 := hid ha4
    clear ha4
    cases hr4 : rbound B q2 0 1048576 with
    | error x =>
      rw [hr4] at hm4
      have he : e4 = wrongAt x := hm4
      subst he
      unfold wrongAt
      have HE1 := HE.out
      rw [hr4, rb_err] at HE1
      try dsimp only
      refine ⟨rfl, HA4.out, ?_⟩
      rw [HE1]
      rfl
    | ok t =>
      obtain ⟨b, q4⟩ := t
      rw [hr4] at hm4
      obtain ⟨⟨v4, hev4, hv4⟩, hrb4⟩ := hm4
      subst hev4
      have HR4 := hid hrb4
      have HE1 := HE.out
      rw [hr4, rb_ok] at HE1
      replace HE := hid HE1
      have HP4 := hid hr4
      clear HE1 hrb4 hr4
      subst hv4
      try dsimp only
      have HD4 : Hid (w4.heap[D]? = some (.cells #[.int .i64 0, .int .i64 0, .int .u64 0] 48 (0, 0))) := keepB HS4.out HD3.out (lt_of_heap HD3.out) HDR.out
      have HX4 : Hid (w4.heap[X]? = some (.cells #[.int .i64 (n : Nat), .int .i64 0, .int .u64 0] 48 (0, 0))) := keepB HS4.out HX3.out (lt_of_heap HX3.out) HXR.out
      obtain ⟨x0, x1, x2⟩ := row3v HX4.out
      have f1 := frozen_of_row _ _ 1 _ _ HX4.out
      obtain ⟨w5, hw5⟩ : ∃ w5, w5 = w4.setCell ⟨X, 1, none⟩ (.int .i64 (b : Nat)) := ⟨_, rfl⟩
      have HS5 : Hid (Apart [X] w4 w5) := by unfold Hid; rw [hw5]; exact (Apart.refl _ _).setCell (.inl (by simp)) _
      have HX5 : Hid (w5.heap[X]? = some (.cells #[.int .i64 (n : Nat), .int .i64 (b : Nat), .int .u64 0] 48 (0, 0))) := by
        unfold Hid
        rw [hw5]
        have := heap_setCell_same w4 X 1 _ 48 (.int .i64 (b : Nat)) HX4.out
        simpa using this
      have HD5 : Hid (w5.heap[D]? = some (.cells #[.int .i64 0, .int .i64 0, .int .u64 0] 48 (0, 0))) := keepB HS5.out HD4.out (lt_of_heap HD4.out) HXD.out.symm
      have HR5 := hid (HR4.out.other HS5.out HX4.out (by decide) (Nat.le_trans HRB.out.ap.size HXw.out))
      have HA5 : Hid (Apart [R] w w5) := HA4.out.trans' HS5.out (by intro y hy; simp at hy; rw [hy]; exact .inr HXw.out)
      obtain ⟨r0, r1, r2⟩ := HR5.out.cells
      rw [hw5] at r0 r1 r2
      go_wp2_with fail
      rw [← hw5]
      clear hw5 r0 r1 r2 x0 x1 x2 f1
      refine (number_ok HR5.out).mono ?_
      rintro e6 w6 ⟨ha6, hm6⟩
      have HA6 : Hid (Apart [R] w w6) := HA5.out.trans ha6
      have HS6 := hid ha6
      clear ha6
      cases hr6 : rnumber B q4 with
      | error x =>
        rw [hr6] at hm6
        have he : e6 = wrongAt x := hm6
        subst he
        unfold wrongAt
        have HE1 := HE.out
        rw [hr6, rb_err] at HE1
        try dsimp only
        refine ⟨rfl, HA6.out, ?_⟩
        rw [HE1]
        rfl
      | ok t =>
        obtain ⟨⟨t, ok⟩, q6⟩ := t
        rw [hr6] at hm6
        obtain ⟨⟨v6, hev6, hv6⟩, hrb6⟩ := hm6
        subst hev6
        have HR6 := hid hrb6
        have HE1 := HE.out
        rw [hr6, rb_ok] at HE1
        replace HE := hid HE1
        have HP6 := hid hr6
        clear HE1 hrb6 hr6
        subst hv6
        have ht64 := rnumber_lt HP6.out
        try dsimp only
        have HD6 : Hid (w6.heap[D]? = some (.cells #[.int .i64 0, .int .i64 0, .int .u64 0] 48 (0, 0))) := keepB HS6.out HD5.out (lt_of_heap HD5.out) HDR.out
        have HX6 : Hid (w6.heap[X]? = some (.cells #[.int .i64 (n : Nat), .int .i64 (b : Nat), .int .u64 0] 48 (0, 0))) := keepB HS6.out HX5.out (lt_of_heap HX5.out) HXR.out
        obtain ⟨x0, x1, x2⟩ := row3v HX6.out
        have f2 := frozen_of_row _ _ 2 _ _ HX6.out
        obtain ⟨w7, hw7⟩ : ∃ w7, w7 = w6.setCell ⟨X, 2, none⟩ (.int .u64 (t : Nat)) := ⟨_, rfl⟩
        have HS7 : Hid (Apart [X] w6 w7) := by unfold Hid; rw [hw7]; exact (Apart.refl _ _).setCell (.inl (by simp)) _
        have HX7 : Hid (w7.heap[X]? = some (.cells #[.int .i64 (n : Nat), .int .i64 (b : Nat), .int .u64 (t : Nat)] 48 (0, 0))) := by
          unfold Hid
          rw [hw7]
          have := heap_setCell_same w6 X 2 _ 48 (.int .u64 (t : Nat)) HX6.out
          simpa using this
        have HD7 : Hid (w7.heap[D]? = some (.cells #[.int .i64 0, .int .i64 0, .int .u64 0] 48 (0, 0))) := keepB HS7.out HD6.out (lt_of_heap HD6.out) HXD.out.symm
        have HR7 := hid (HR6.out.other HS7.out HX6.out (by decide) (Nat.le_trans HRB.out.ap.size HXw.out))
        have HA7 : Hid (Apart [R] w w7) := HA6.out.trans' HS7.out (by intro y hy; simp at hy; rw [hy]; exact .inr HXw.out)
        go_upto_region 6 with fail
        rw [← hw7]
        clear hw7 x0 x1 x2 f2
        obtain ⟨x0, x1, x2⟩ := row3v HX7.out
        obtain ⟨y, Hy⟩ : ∃ y : S, Hid (y = ⟨(n : Nat), (b : Nat), t⟩) := ⟨_, rfl⟩
        have bad : ¬ (ok = true ∧ t ≤ mb ∧ OkL 64 [(⟨(n : Nat), (b : Nat), t⟩ : S)]) → Hid (rspan B q ln mb = .error q4) := fun hn => by unfold Hid; rw [HE.out]; exact if_neg (fun h => hn ((okS_iff _ _ _ _ _).1 h))
        have good : (ok = true ∧ t ≤ mb ∧ OkL 64 [(⟨(n : Nat), (b : Nat), t⟩ : S)]) → Hid (rspan B q ln mb = .ok (⟨(n : Nat), (b : Nat), t⟩, q6)) := fun hn => by unfold Hid; rw [HE.out]; exact if_pos ((okS_iff _ _ _ _ _).2 hn)
        cases ok with
        | false =>
          have HF := bad (by simp)
          clear bad good
          go_wp2_with fail
          refine (need_no q4 w7).mono ?_
          rintro _ w8 ⟨rfl, hw8⟩
          rw [hw8]
          unfold wrongAt
          try dsimp only
          refine ⟨rfl, HA7.out, ?_⟩
          rw [HF.out]
          rfl
        | true =>
          by_cases hmb : t ≤ mb
          · have hmbi : ((t : Nat) : Int) ≤ (mb : Int) := by omega
            obtain ⟨w8, hw8⟩ : ∃ w8, w8 = w7.alloc (.cells #[.int .i64 (n : Nat), .int .i64 (b : Nat), .int .u64 (t : Nat)] 48) := ⟨_, rfl⟩
            have HS8 : Hid (Apart [] w7 w8) := by unfold Hid; rw [hw8]; exact (Apart.refl [] w7).alloc _
            have HY8 : Hid (w8.heap[w7.heap.size]? = some (.cells #[.int .i64 (n : Nat), .int .i64 (b : Nat), .int .u64 (t : Nat)] 48 (0, 0))) := by unfold Hid; rw [hw8]; exact heap_alloc_new w7 _
            obtain ⟨v, Hv⟩ : ∃ v : Bool, Hid (v = true ↔ OkL 64 [(⟨(n : Nat), (b : Nat), t⟩ : S)]) := by
              by_cases k : OkL 64 [(⟨(n : Nat), (b : Nat), t⟩ : S)]
              · exact ⟨true, by unfold Hid; simp [k]⟩
              · exact ⟨false, by unfold Hid; simp [k]⟩
            have HIS := hid (isSet_wire (cap := 1) (rowL (x := ⟨(n : Nat), (b : Nat), t⟩) HY8.out (by show t < 2 ^ 64; omega)) v Hv.out)
            go_wp2_with fail
            rw [← hw8]
            clear hw8
            refine HIS.out.mono ?_
            clear x0 x1 x2
            rintro _ w9 ⟨rfl, a9⟩
            have HS9 : Hid (Apart [] w7 w9) := HS8.out.trans a9
            have HA9 : Hid (Apart [R] w w9) := HA7.out.trans (HS9.out.mono (by simp))
            have HR9 := hid (HR7.out.kept HS9.out)
            have HX9 := hid ((HS9.out.block _ (lt_of_heap HX7.out) (by simp)).trans HX7.out)
            have HD9 := hid ((HS9.out.block _ (lt_of_heap HD7.out) (by simp)).trans HD7.out)
            clear a9
            try dsimp only
            cases v with
            | false =>
              have HF := bad (fun hh => by have := Hv.out.2 hh.2.2; cases this)
              clear bad good
              go_wp2_with fail
              refine (need_no q4 w9).mono ?_
              rintro _ w10 ⟨rfl, hw10⟩
              rw [hw10]
              unfold wrongAt
              try dsimp only
              refine ⟨rfl, HA9.out, ?_⟩
              rw [HF.out]
              rfl
            | true =>
              have HF := good (by simp [hmb, Hv.out.1 rfl])
              clear bad good
              go_wp2_with fail
              refine (need_yes q4 w9).mono ?_
              rintro _ w10 ⟨rfl, hw10⟩
              rw [hw10]
              clear hw10
              try dsimp only
              obtain ⟨x0, x1, x2⟩ := row3v HX9.out
              obtain ⟨d0, d1, d2⟩ := row3v HD9.out
              have f0 := frozen_of_row _ _ 0 _ _ HD9.out
              have f1 := frozen_of_row _ _ 1 _ _ HD9.out
              have f2 := frozen_of_row _ _ 2 _ _ HD9.out
              obtain ⟨wz, Hwz⟩ : ∃ wz, Hid (wz = ((w9.setCell ⟨D, 0, none⟩ (.int .i64 (n : Nat))).setCell ⟨D, 1, none⟩ (.int .i64 (b : Nat))).setCell ⟨D, 2, none⟩ (.int .u64 (t : Nat))) := ⟨_, rfl⟩
              have HDz : Hid (wz.heap[D]? = some (.cells #[.int .i64 (n : Nat), .int .i64 (b : Nat), .int .u64 (t : Nat)] 48 (0, 0))) := by
                unfold Hid
                rw [Hwz.out]
                have h1 := heap_setCell_same w9 D 0 _ 48 (.int .i64 (n : Nat)) HD9.out
                have h2 := heap_setCell_same _ D 1 _ 48 (.int .i64 (b : Nat)) h1
                have h3 := heap_setCell_same _ D 2 _ 48 (.int .u64 (t : Nat)) h2
                simpa using h3
              have HSz : Hid (Apart [D] w9 wz) := by unfold Hid; rw [Hwz.out]; exact (((Apart.refl _ _).setCell (.inl (by simp)) _).setCell (.inl (by simp)) _).setCell (.inl (by simp)) _
              have HAz : Hid (Apart [R] w wz) := HA9.out.trans' HSz.out (by intro y hy; simp at hy; rw [hy, HD.out]; exact .inr (Nat.le_refl _))
              have HRz := hid (HR9.out.other HSz.out HD9.out (by decide) (by rw [HD.out]; exact HRB.out.ap.size))
              go_wp2_with fail
              rw [← Hwz.out]
              refine bodyPost_ret (results_cell_row rfl _ _ D 48 _ _ _ rfl HDz.out Tryz.underlying48 rfl size52) rfl ?_
              refine ⟨HAz.out, ?_⟩
              rw [HF.out]
              exact ⟨⟨_, rfl, rfl, by show t < 2 ^ 64; omega⟩, HRz.out⟩
          · have hmbi : ¬ ((t : Nat) : Int) ≤ (mb : Int) := by omega
            have HF := bad (by simp [hmb])
            clear bad good
            go_wp2_with fail
            refine (need_no q4 w7).mono ?_
            rintro _ w8 ⟨rfl, hw8⟩
            rw [hw8]
            unfold wrongAt
            try dsimp only
            refine ⟨rfl, HA7.out, ?_⟩
            rw [HF.out]
            rfl
end Go.Proofs.YtddffdcjhleejaaGreat.ds
namespace Go.Proofs.YtddffdcjhleejaaGreat.ds
open Go.ChangeShapes Go.WideShapes Go.ChangeAt Go.RowKit Go.Sort
set_option linter.unusedVariables false
set_option linter.unusedSimpArgs false
theorem rspan_n {B : List Nat} {q ln mb : Nat} {x : S} {q' : Nat} (h : rspan B q ln mb = .ok (x, q')) : ∃ n : Nat, x.n = (n : Nat) ∧ n ≤ 7 ∧ ln ≤ n := by
  unfold rspan at h
  cases h1 : rbound B q ln 7 with
  | error e => rw [h1] at h; cases h
  | ok t =>
    obtain ⟨n, q1⟩ := t
    rw [h1, rb_ok] at h
    cases h2 : rbound B q1 0 1048576 with
    | error e => rw [h2] at h; cases h
    | ok t =>
      obtain ⟨b, q2⟩ := t
      rw [h2, rb_ok] at h
      cases h3 : rnumber B q2 with
      | error e => rw [h3] at h; cases h
      | ok t =>
        obtain ⟨⟨a, o⟩, q3⟩ := t
        rw [h3, rb_ok] at h
        simp only at h
        split at h
        · simp only [Except.ok.injEq, Prod.mk.injEq] at h
          have := rbound_le h1
          exact ⟨n, by rw [← h.1], this.2, this.1⟩
        · cases h
noncomputable def rspansA (B : List Nat) (mb : Nat) : Nat → Nat → Nat → Except Nat (List S × Nat)
  | 0, _, q => .ok ([], q)
  | k + 1, ln, q => rb (rspan B q ln mb) (fun x q1 => rb (rspansA B mb k (x.n.toNat + 1) q1) (fun l q2 => .ok (x :: l, q2)))
noncomputable def rspans (B : List Nat) (q mb : Nat) : Except Nat (List S × Nat) := rb (rbound B q 0 8) (fun k q1 => rspansA B mb k 0 q1)
theorem rb_rb {α β γ : Type} (r : Except Nat (α × Nat)) (f : α → Nat → Except Nat (β × Nat)) (g : β → Nat → Except Nat (γ × Nat)) : rb (rb r f) g = rb r (fun a q => rb (f a q) g) := by
  cases r with
  | error x => rfl
  | ok t => obtain ⟨a, q⟩ := t; rfl
theorem rb_id {α : Type} (r : Except Nat (α × Nat)) : rb r (fun a q => .ok (a, q)) = r := by
  cases r with
  | error x => rfl
  | ok t => obtain ⟨a, q⟩ := t; rfl
/-- a slice of the call's own stays, where the reader goes on -/
theorem Nw.rd124 {wB w w' : World} {R : Nat} {p : Option Addr} {N c : Nat} {B : List Nat} {q : Nat} {e size : Nat} {s : Sl} {us : List Value} (h : Nw wB w e size s us) (hr : RB wB w R p N c B q) (a : Apart [R] w w') (he : e ≠ 115) : Nw wB w' e size s us :=
  h.keepT a (hr.ap.trans' a (by intro y hy; simp at hy; rw [hy]; exact .inr hr.xb)) (fun k hk cur hcur => by
    simp at hk
    rw [hk, hr.blk] at hcur
    simp at hcur
    exact he hcur.2.symm)
/-- appending leaves the reader alone -/
theorem RB.app {wB w w' : World} {R : Nat} {p : Option Addr} {N c : Nat} {B : List Nat} {q : Nat} {X : List Nat} (h : RB wB w R p N c B q) (a : Apart X w w') (hX : ∀ k ∈ X, wB.heap.size ≤ k ∧ ∃ cur t, w.heap[k]? = some (.cells cur t (0, 0)) ∧ t ≠ 115) : RB wB w' R p N c B q := by
  have hne : R ∉ X := fun e => by
    obtain ⟨_, cur, t, h1, h2⟩ := hX R e
    rw [h.blk] at h1
    simp at h1
    exact h2 h1.2.symm
  refine { h with blk := (a.block _ (lt_of_heap h.blk) hne).trans h.blk, rd := fun h0 => ?_, ap := h.ap.trans' a (fun y hy => .inr (hX y hy).1) }
  obtain ⟨P, o, e, hP, hc⟩ := h.rd h0
  exact ⟨P, o, e, Nat.lt_of_lt_of_le hP a.size, fun j v hj => (a.cell hP (fun hm => by have h1 := h.old P o e; have h2 := (hX P hm).1; omega)).trans (hc j v hj)⟩
theorem flat_snoc (l : List S) (x : S) : flat (l ++ [x]) = flat l ++ [.int .i64 x.n, .int .i64 x.b, .int .u64 (x.t : Int)] := by simp [flat, ec]
/-- a set that was read, in new memory -/
def VSet (wB : World) (a : List S) (v : Value) (w' : World) : Prop := ∃ s : Sl, v = .slice s.p s.n s.c ∧ Nw wB w' 48 3 s (flat a) ∧ s.n = a.length ∧ ∀ x ∈ a, x.t < 2 ^ 64
set_option maxHeartbeats 8000000 in
set_option maxRecDepth 100000 in
theorem spans_ok {wB w : World} {R : Nat} {p : Option Addr} {N c : Nat} {B : List Nat} {q : Nat} (h : RB wB w R p N c B q) (mb : Nat) :
    Calls Tryz.prog 90 #[.pointer (some ⟨R, 0, none⟩), .int .u64 (mb : Nat)] w fun e w' => OutR wB w w' R p N c B e (rspans B q mb) (VSet wB) := by
  have HRB := hid h
  have HE : Hid (rspans B q mb = rb (rbound B q 0 8) (fun k q1 => rspansA B mb k 0 q1)) := rfl
  clear h
  go_enter Tryz.func90, Tryz.ntmps90
  go_wp2_with fail
  refine (bounded_ok HRB.out 0 8 (by omega) (by omega)).mono ?_
  rintro e2 w2 ⟨ha2, hm2⟩
  have HA2 : Hid (Apart [R] w w2) := ha2
  have HS2 := hid ha2
  clear ha2
  cases hr2 : rbound B q 0 8 with
  | error x =>
    rw [hr2] at hm2
    have he : e2 = wrongAt x := hm2
    subst he
    unfold wrongAt
    have HE1 := HE.out
    rw [hr2, rb_err] at HE1
    try dsimp only
    refine ⟨rfl, HA2.out, ?_⟩
    rw [HE1]
    rfl
  | ok t =>
    obtain ⟨K, q2⟩ := t
    rw [hr2] at hm2
    obtain ⟨⟨v2, hev2, hv2⟩, hrb2⟩ := hm2
    subst hev2
    have HR2 := hid hrb2
    have HE1 := HE.out
    rw [hr2, rb_ok] at HE1
    replace HE := hid HE1
    have HP2 := hid hr2
    clear HE1 hrb2 hr2
    subst hv2
    have hK := (rbound_le HP2.out).2
    try dsimp only
    go_wp2_with fail
    go_loopw [5, 6, 10] (fun a b d wt => ∃ (i ln r : Nat) (s : Sl) (l : List S), a = .slice s.p s.n s.c ∧ b = .int .i64 (ln : Nat) ∧ d = .int .i64 (i : Nat) ∧ i ≤ K ∧ ln ≤ 8 ∧ RB wB wt R p N c B r ∧ Apart [R] w wt ∧ Nw wB wt 48 3 s (flat l) ∧ (s.n = l.length ∧ l.length = i ∧ ∀ k, s.v.ownBlock = some k → w.heap.size ≤ k) ∧ (∀ x ∈ l, x.t < 2 ^ 64) ∧ rspans B q mb = rb (rspansA B mb (K - i) ln r) (fun m q2 => .ok (l ++ m, q2))) (fun _ _ d _ => K - (intOf d).toNat)
    case atStart => exact ⟨0, 0, q2, ⟨none, 0, 0⟩, [], rfl, rfl, rfl, Nat.zero_le _, by omega, HR2.out, HA2.out, ⟨World.ownsRow_nil _ _ _ _, by simp [Sl.v, Value.ownBlock], HR2.out.ap⟩, ⟨rfl, rfl, by simp [Sl.v, Value.ownBlock]⟩, by simp, by rw [HE.out, Nat.sub_zero]; simp only [List.nil_append]; exact (rb_id _).symm⟩
    case round =>
      obtain ⟨i, ln, r, s, l, rfl, rfl, rfl, hi, hln, hrb, hap, hnw, ⟨hsl, hll, hnn⟩, hfit, heq⟩ := hrel
      have HNN := hid hnn
      clear hnn
      have HR := hid hrb
      have HA := hid hap
      have HNW := hid hnw
      have HSL := hid hsl
      have HLL := hid hll
      have HFIT := hid hfit
      replace HE := hid heq
      clear hrb hap hnw hsl hll hfit heq
      by_cases hlt : i < K
      · have hin : ((i : Nat) : Int) < (K : Int) := by omega
        have HE1 := HE.out
        rw [show K - i = (K - (i + 1)) + 1 from by omega, rspansA, rb_rb] at HE1
        replace HE := hid HE1
        clear HE1
        go_wp2_with fail
        refine (span_ok HR.out ln mb (by omega)).mono ?_
        rintro e3 w3 ⟨ha3, hm3⟩
        have HA3 : Hid (Apart [R] w w3) := HA.out.trans ha3
        have HS3 := hid ha3
        clear ha3
        cases hr3 : rspan B r ln mb with
        | error x =>
          rw [hr3] at hm3
          have he : e3 = wrongAt x := hm3
          subst he
          unfold wrongAt
          have HE1 := HE.out
          rw [hr3, rb_err] at HE1
          try dsimp only
          refine ⟨rfl, HA3.out, ?_⟩
          rw [HE1]
          rfl
        | ok t =>
          obtain ⟨x, q3⟩ := t
          rw [hr3] at hm3
          obtain ⟨⟨v3, hev3, hv3⟩, hrb3⟩ := hm3
          subst hev3
          have HR3 := hid hrb3
          have HE1 := HE.out
          rw [hr3, rb_ok] at HE1
          replace HE := hid HE1
          have HP3 := hid hr3
          clear HE1 hrb3 hr3
          obtain ⟨hvx, ht⟩ := hv3
          subst hvx
          unfold spv
          obtain ⟨n, hxn, hn7, hlnn⟩ := rspan_n HP3.out
          have HXN := hid hxn
          clear hxn
          have HNW3 : Hid (Nw wB w3 48 3 s (flat l)) := HNW.out.rd124 HR.out HS3.out (by decide)
          try dsimp only
          obtain ⟨w4, hw4⟩ : ∃ w4, w4 = w3.alloc (.cells #[.int .i64 x.n, .int .i64 x.b, .int .u64 (x.t : Int)] 48) := ⟨_, rfl⟩
          have HS4 : Hid (Apart [] w3 w4) := by unfold Hid; rw [hw4]; exact (Apart.refl [] w3).alloc _
          have HX4 : Hid (w4.heap[w3.heap.size]? = some (.cells #[.int .i64 x.n, .int .i64 x.b, .int .u64 (x.t : Int)] 48 (0, 0))) := by unfold Hid; rw [hw4]; exact heap_alloc_new w3 _
          obtain ⟨X, HX⟩ : ∃ X, Hid (X = w3.heap.size) := ⟨_, rfl⟩
          rw [← HX.out] at HX4
          have HNW4 := hid (HNW3.out.kept HS4.out)
          obtain ⟨i0, hif, hz0, hz1, hz2⟩ := info_parts info52
          obtain ⟨s5, w5, hrun, hnw5, hs5, ap5, k5, hk5, -, hk6⟩ := run_appM (s := s) 26 26 48 i0 _ 3 24 Tryz.underlying26 hif hz0 hz1 hz2 rfl (by decide) HNW4.out 1 [.int .i64 x.n, .int .i64 x.b, .int .u64 (x.t : Int)] (by decide) rfl (fun u hu => by simp at hu; rcases hu with rfl | rfl | rfl <;> rfl) (by have h1 := HSL.out; have h2 := HLL.out; unfold maxLen; omega) (by have h1 := HSL.out; have h2 := HLL.out; omega)
          have HTY : Hid (∀ k ∈ s.v.ownBlock.toList, wB.heap.size ≤ k ∧ ∃ cur t, w4.heap[k]? = some (.cells cur t (0, 0)) ∧ t ≠ 115) := fun k hk => by
            obtain ⟨cur, hc⟩ := own_typ HNW4.out.own (k := k) (by simpa using hk)
            exact ⟨HNW4.out.new k (by simpa using hk), cur, 48, hc, by decide⟩
          have HR5 := hid ((HR3.out.kept HS4.out).app ap5 HTY.out)
          have HA5 : Hid (Apart [R] w w5) := (HA3.out.trans (HS4.out.mono (by simp))).trans' ap5 (fun y hy => .inr (HNN.out y (by simpa using hy)))
          have HX5 : Hid (w5.heap[X]? = some (.cells #[.int .i64 x.n, .int .i64 x.b, .int .u64 (x.t : Int)] 48 (0, 0))) := (ap5.block _ (lt_of_heap HX4.out) (fun hm => by
            have h1 := (HNW3.out.own.lt X (by simpa using hm)).2
            rw [HX.out] at h1
            omega)).trans HX4.out
          have HNW5 : Hid (Nw wB w5 48 3 s5 (flat (l ++ [x]))) := by unfold Hid; rw [flat_snoc]; exact hnw5
          have HRUN : Hid ((Builtin.append_ #[26, 26] 26 #[.slice s.p s.n s.c, .slice (some ⟨w4.heap.size, 0, none⟩) 1 1]).run Tryz.prog (w4.alloc (Obj.cells #[.int .i64 x.n, .int .i64 x.b, .int .u64 (x.t : Int)] 48)) = .ok (.slice s5.p s5.n s5.c) w5) := hrun
          have Hs5 : Hid (s5.n = l.length + 1) := by unfold Hid; rw [hs5, HSL.out]
          have HNN5 : Hid (∀ k, s5.v.ownBlock = some k → w.heap.size ≤ k) := fun k hk => by
            have e1 : k5 = k := by unfold Sl.v at hk; rw [hk5] at hk; simpa [Value.ownBlock] using hk
            rw [← e1]
            rcases hk6 with h1 | h1
            · exact HNN.out k5 h1
            · exact Nat.le_trans (HA3.out.trans (HS4.out.mono (by simp))).size h1
          obtain ⟨x0, x1, x2⟩ := row3v HX4.out
          obtain ⟨y0, y1, y2⟩ := row3v HX5.out
          clear hrun hnw5 hs5 ap5 hk5 hk6
          have HE1 := HE.out
          simp only [rb_rb, rb_ok] at HE1
          replace HE := hid HE1
          clear HE1
          have hwn : IntKind.i64.wrap (x.n + 1) = ((n + 1 : Nat) : Int) := by rw [HXN.out, IntKind.wrap_i64]; omega
          go_upto_region 6 with fail
          rw [← hw4, ← HX.out]
          clear hw4
          go_wp2_with (at_builtin; refine wpList_app2 rfl (.tmp 16) (.tmp 18) 26 26 rfl _ _ rfl rfl _ _ HRUN.out ?_)
          go_roundw
          case rel => exact ⟨i + 1, n + 1, q3, s5, l ++ [x], rfl, by first | rfl | (rw [hwn]), by go_num, by omega, by omega, HR5.out, HA5.out, HNW5.out, ⟨by rw [Hs5.out, List.length_append]; rfl, by rw [List.length_append, HLL.out]; rfl, HNN5.out⟩, fun y hy => by
            rcases List.mem_append.1 hy with hy | hy
            · exact HFIT.out y hy
            · simp at hy; rw [hy]; exact ht, by
            rw [HE.out, show x.n.toNat = n from by rw [HXN.out]; rfl]
            simp only [List.append_assoc, List.singleton_append]⟩
          case measure => simp [intOf]; omega
      · obtain rfl : K = i := by omega
        have hin : ¬ ((K : Nat) : Int) < (K : Int) := by omega
        have HF : Hid (rspans B q mb = .ok (l, r)) := by
          unfold Hid
          rw [HE.out, Nat.sub_self, rspansA, rb_ok, List.append_nil]
        go_wp2_with fail
        go_ret
        refine ⟨HA.out, ?_⟩
        rw [HF.out]
        exact ⟨⟨_, rfl, s, rfl, HNW.out, HSL.out, HFIT.out⟩, HR.out⟩
end Go.Proofs.YtddffdcjhleejaaGreat.ds
