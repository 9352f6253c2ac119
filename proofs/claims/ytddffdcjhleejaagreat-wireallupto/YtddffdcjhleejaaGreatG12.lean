import Derived.Test.YtddffdcjhleejaaGreatG11
namespace Go.Proofs.YtddffdcjhleejaaGreat.ds
open Go.ChangeShapes Go.WideShapes Go.ChangeAt Go.RowKit Go.Sort
set_option linter.unusedVariables false
set_option linter.unusedSimpArgs false
theorem infoW41 : (Tryz.prog.info? 37).map (fun i => (i.zero, i.size, i.bytes)) = some (some (.agg #[.int .i64 0, .int .i64 0, .string ⟨#[]⟩, .bool false, .slice none 0 0, .slice none 0 0]), 6, 88) := by kernel_rfl
/-- a write that stands in no list -/
noncomputable def rlone (B : List Nat) (q : Nat) : Except Nat (Wr × Nat) := rwrite B q 0 0 ⟨#[]⟩
/-- writes that stand one behind the other -/
noncomputable def rwritesA (B : List Nat) (key : ByteArray) : Nat → Int → Int → Nat → Except Nat (List Wr × Nat)
  | 0, _, _, q => .ok ([], q)
  | k + 1, an, ac, q => rb (rwrite B q an ac key) (fun r q1 => rb (rwritesA B key k r.n r.c q1) (fun l q2 => .ok (r :: l, q2)))
noncomputable def rwrites (B : List Nat) (q most : Nat) (key : ByteArray) : Except Nat (List Wr × Nat) := rb (rbound B q 0 most) (fun k q1 => rwritesA B key k 0 0 q1)
def VWs (wB : World) (a : List Wr) (v : Value) (w' : World) : Prop := ∃ (s : Sl) (es : List E), v = .slice s.p s.n s.c ∧ FL wB w' s es a
theorem Fresh.rd124 {wB w w' : World} {R : Nat} {p : Option Addr} {N c : Nat} {B : List Nat} {q : Nat} {e : E} {r : Wr} (h : Fresh wB w e r) (hr : RB wB w R p N c B q) (a : Apart [R] w w') : Fresh wB w' e r := { h with v := h.v.rd124 hr a (by decide), x := h.x.rd124 hr a (by decide) }
theorem FL.rd124 {wB w w' : World} {R : Nat} {p : Option Addr} {N c : Nat} {B : List Nat} {q : Nat} {s : Sl} {es : List E} {rs : List Wr} (h : FL wB w s es rs) (hr : RB wB w R p N c B q) (a : Apart [R] w w') : FL wB w' s es rs := ⟨⟨h.own.nw.rd124 hr a (by decide), h.own.len⟩, h.len, fun j hj => (h.fr j hj).rd124 hr a⟩
theorem Fresh.oth {wB w w' : World} {X : Nat} {cur : Array Value} {t : Nat} {e : E} {r : Wr} (h : Fresh wB w e r) (a : Apart [X] w w') (hX : w.heap[X]? = some (.cells cur t (0, 0))) (ht : t ≠ 5 ∧ t ≠ 48) (hn : wB.heap.size ≤ X) : Fresh wB w' e r := { h with v := h.v.oth a hX ht.1 hn, x := h.x.oth a hX ht.2 hn }
theorem FL.oth {wB w w' : World} {X : Nat} {cur : Array Value} {t : Nat} {s : Sl} {es : List E} {rs : List Wr} (h : FL wB w s es rs) (a : Apart [X] w w') (hX : w.heap[X]? = some (.cells cur t (0, 0))) (ht : t ≠ 5 ∧ t ≠ 48 ∧ t ≠ 37) (hn : wB.heap.size ≤ X) : FL wB w' s es rs := ⟨⟨h.own.nw.oth a hX ht.2.2 hn, h.own.len⟩, h.len, fun j hj => (h.fr j hj).oth a hX ⟨ht.1, ht.2.1⟩ hn⟩
/-- one write more -/
theorem FL.pushW {wB wr : World} {s : Sl} {es : List E} {rs : List Wr} (h : FL wB wr s es rs) (hn : s.n ≤ 2000000) {e : E} {r : Wr} (hf : Fresh wB wr e r) (ty : TypeId) :
    ∃ s' W', (Builtin.append_ #[27, 27] ty #[s.v, .slice (some ⟨wr.heap.size, 0, none⟩) 1 1]).run Tryz.prog (wr.alloc (.cells (E.cs e).toArray 37)) = .ok (Sl.v s') W' ∧ FL wB W' s' (es ++ [e]) (rs ++ [r]) ∧ s'.n = s.n + 1 ∧ Apart s.v.ownBlock.toList wr W' ∧ ∃ k, s'.p = some ⟨k, 0, none⟩ ∧ (s.v.ownBlock = some k ∨ wr.heap.size ≤ k) := by
  obtain ⟨i0, hif, hz0, hz1, hz2⟩ := info_parts infoW41
  obtain ⟨s', W', hrun, hnw, hsn, ap, k, hk1, -, hk2⟩ := run_appM (s := s) 27 ty 37 i0 _ 6 88 Tryz.underlying27 hif hz0 hz1 hz2 rfl (by decide) h.own.nw 1 (E.cs e) (by decide) rfl (fun u hu => by unfold E.cs at hu; simp at hu; rcases hu with rfl | rfl | rfl | rfl | rfl | rfl <;> rfl) (by unfold maxLen; omega) (by omega)
  have aw := hnw.ap
  have hX5 : ∀ k ∈ s.v.ownBlock.toList, ∀ cu, wr.heap[k]? ≠ some (.cells cu 5 (0, 0)) ∧ wr.heap[k]? ≠ some (.cells cu 48 (0, 0)) := fun k hk cu => by
    obtain ⟨cur, tG⟩ := own_typ h.own.nw.own (k := k) (by simpa using hk)
    rw [tG]; simp
  have hlen := h.own.len
  have hlen2 := h.len
  have e0 : flatE (es ++ [e]) = flatE es ++ E.cs e := by simp [flatE]
  refine ⟨s', W', hrun, ⟨⟨by rw [e0]; exact hnw, by rw [List.length_append, hlen, hsn]; rfl⟩, by rw [List.length_append, hlen2, hsn]; rfl, fun j hj => ?_⟩, hsn, ap, k, hk1, hk2⟩
  rw [hsn] at hj
  by_cases e1 : j = s.n
  · subst e1
    rw [show gE (es ++ [e]) s.n = e from by unfold gE; simp [List.getD_eq_getElem?_getD, ← hlen], show gR (rs ++ [r]) s.n = r from by unfold gR; simp [List.getD_eq_getElem?_getD, ← hlen2]]
    exact hf.kept ap aw hX5
  · rw [show gE (es ++ [e]) j = gE es j from by unfold gE; rw [List.getD_eq_getElem?_getD, List.getD_eq_getElem?_getD, List.getElem?_append_left (by omega)], show gR (rs ++ [r]) j = gR rs j from by unfold gR; rw [List.getD_eq_getElem?_getD, List.getD_eq_getElem?_getD, List.getElem?_append_left (by omega)]]
    exact (h.fr j (by omega)).kept ap aw hX5
theorem FL.nilW (w wr : World) (a : Apart [] w wr) : FL w wr ⟨none, 0, 0⟩ [] [] := ⟨⟨⟨World.ownsRow_nil _ _ _ _, by simp [Sl.v, Value.ownBlock], a⟩, rfl⟩, rfl, fun j hj => absurd hj (by simp)⟩
set_option maxHeartbeats 16000000 in
set_option maxRecDepth 100000 in
theorem lone_ok {wB w : World} {R : Nat} {p : Option Addr} {N c : Nat} {B : List Nat} {q : Nat} (h : RB wB w R p N c B q) :
    Calls Tryz.prog 58 #[.pointer (some ⟨R, 0, none⟩)] w fun e w' => OutR wB w w' R p N c B e (rlone B q) (VWr wB) := by
  have HRB := hid h
  have HE : Hid (rlone B q = rb (rwrite B q 0 0 ⟨#[]⟩) (fun a q => .ok (a, q))) := (rb_id _).symm
  obtain ⟨D, HD⟩ : ∃ D, Hid (D = w.heap.size) := ⟨_, rfl⟩
  obtain ⟨w1, hw1⟩ : ∃ w1, w1 = w.alloc (.cells #[.int .i64 0, .int .i64 0, .string ⟨#[]⟩, .bool false, .slice none 0 0, .slice none 0 0] 37) := ⟨_, rfl⟩
  have HS1 : Hid (Apart [] w w1) := by unfold Hid; rw [hw1]; exact (Apart.refl [] w).alloc _
  have HA1 : Hid (Apart [R] w w1) := HS1.out.mono (by simp)
  have HD1 : Hid (w1.heap[D]? = some (.cells #[.int .i64 0, .int .i64 0, .string ⟨#[]⟩, .bool false, .slice none 0 0, .slice none 0 0] 37 (0, 0))) := by unfold Hid; rw [HD.out, hw1]; exact heap_alloc_new w _
  have HDR : Hid (D ≠ R) := by unfold Hid; have := lt_of_heap HRB.out.blk; rw [HD.out]; omega
  have HDw : Hid (w.heap.size ≤ D) := by unfold Hid; rw [HD.out]; exact Nat.le_refl _
  have HR1 := hid (HRB.out.kept HS1.out)
  clear h
  go_enter Tryz.func58, Tryz.ntmps58
  go_wp2_with fail
  rw [← hw1, ← HD.out]
  clear hw1
  refine (write_ok HR1.out 0 0 ⟨#[]⟩).mono ?_
  rintro e2 w2 ⟨ha2, hm2⟩
  have HA2 : Hid (Apart [R] w w2) := HA1.out.trans ha2
  have HS2 := hid ha2
  clear ha2
  cases hr2 : rwrite B q 0 0 ⟨#[]⟩ with
  | error x =>
    rw [hr2] at hm2
    have he : e2 = wrongAt x := hm2
    subst he
    unfold wrongAt
    have HE1 := HE.out
    rw [hr2, rb_err] at HE1
    try dsimp only
    refine ⟨rfl, HA2.out, ?_⟩
    rw [HE1]
    rfl
  | ok t =>
    obtain ⟨r, q2⟩ := t
    rw [hr2] at hm2
    obtain ⟨⟨v2, hev2, hv2⟩, hrb2⟩ := hm2
    subst hev2
    have HR2 := hid hrb2
    have HE1 := HE.out
    rw [hr2, rb_ok] at HE1
    replace HE := hid HE1
    have HP2 := hid hr2
    clear HE1 hrb2 hr2
    obtain ⟨e, hve, hfr⟩ := hv2
    subst hve
    have HFR := hid hfr
    clear hfr
    unfold aggE
    try dsimp only
    have HD2 := hid (keepB HS2.out HD1.out (lt_of_heap HD1.out) HDR.out)
    obtain ⟨d0, d1, d2, d3, d4, d5⟩ := rowv6 HD2.out
    have f0 := frozen_of_row _ _ 0 _ _ HD2.out
    have f1 := frozen_of_row _ _ 1 _ _ HD2.out
    have f2 := frozen_of_row _ _ 2 _ _ HD2.out
    have f3 := frozen_of_row _ _ 3 _ _ HD2.out
    have f4 := frozen_of_row _ _ 4 _ _ HD2.out
    have f5 := frozen_of_row _ _ 5 _ _ HD2.out
    obtain ⟨wz, Hwz⟩ : ∃ wz, Hid (wz = ((((((w2.setCell ⟨D, 0, none⟩ (.int .i64 e.n)).setCell ⟨D, 1, none⟩ (.int .i64 e.c)).setCell ⟨D, 2, none⟩ (.string e.k)).setCell ⟨D, 3, none⟩ (.bool e.d)).setCell ⟨D, 4, none⟩ (.slice e.v.p e.v.n e.v.c)).setCell ⟨D, 5, none⟩ (.slice e.x.p e.x.n e.x.c))) := ⟨_, rfl⟩
    have HDz : Hid (wz.heap[D]? = some (.cells #[.int .i64 e.n, .int .i64 e.c, .string e.k, .bool e.d, .slice e.v.p e.v.n e.v.c, .slice e.x.p e.x.n e.x.c] 37 (0, 0))) := by
      unfold Hid
      rw [Hwz.out]
      have h1 := heap_setCell_same w2 D 0 _ 37 (.int .i64 e.n) HD2.out
      have h2 := heap_setCell_same _ D 1 _ 37 (.int .i64 e.c) h1
      have h3 := heap_setCell_same _ D 2 _ 37 (.string e.k) h2
      have h4 := heap_setCell_same _ D 3 _ 37 (.bool e.d) h3
      have h5 := heap_setCell_same _ D 4 _ 37 (.slice e.v.p e.v.n e.v.c) h4
      have h6 := heap_setCell_same _ D 5 _ 37 (.slice e.x.p e.x.n e.x.c) h5
      simpa using h6
    have HSz : Hid (Apart [D] w2 wz) := by unfold Hid; rw [Hwz.out]; exact (((((((Apart.refl _ _).setCell (.inl (by simp)) _).setCell (.inl (by simp)) _).setCell (.inl (by simp)) _).setCell (.inl (by simp)) _).setCell (.inl (by simp)) _).setCell (.inl (by simp)) _)
    have HAz : Hid (Apart [R] w wz) := HA2.out.trans' HSz.out (by intro y hy; simp at hy; rw [hy]; exact .inr HDw.out)
    have HRz := hid (HR2.out.other HSz.out HD2.out (by decide) (Nat.le_trans HRB.out.ap.size HDw.out))
    have HFz := hid (HFR.out.oth HSz.out HD2.out (by decide) (Nat.le_trans HRB.out.ap.size HDw.out))
    go_wp2_with fail
    rw [← Hwz.out]
    refine bodyPost_ret (results_cell_row rfl _ _ D 37 _ _ _ rfl HDz.out Tryz.underlying37 rfl size41) rfl ?_
    refine ⟨HAz.out, ?_⟩
    rw [HE.out]
    exact ⟨⟨_, rfl, e, rfl, HFz.out⟩, HRz.out⟩
set_option maxHeartbeats 16000000 in
set_option maxRecDepth 100000 in
theorem writes_ok {wB w : World} {R : Nat} {p : Option Addr} {N c : Nat} {B : List Nat} {q : Nat} (h : RB wB w R p N c B q) (most : Nat) (hmost : most ≤ 1000) (key : ByteArray) :
    Calls Tryz.prog 69 #[.pointer (some ⟨R, 0, none⟩), .int .i64 (most : Nat), .string key] w fun e w' => OutR wB w w' R p N c B e (rwrites B q most key) (VWs wB) := by
  have HRB := hid h
  have HE : Hid (rwrites B q most key = rb (rbound B q 0 most) (fun k q1 => rwritesA B key k 0 0 q1)) := rfl
  obtain ⟨A, HA⟩ : ∃ A, Hid (A = w.heap.size) := ⟨_, rfl⟩
  obtain ⟨w1, hw1⟩ : ∃ w1, w1 = w.alloc (.cells #[.int .i64 0, .int .i64 0] 25) := ⟨_, rfl⟩
  have HS1 : Hid (Apart [] w w1) := by unfold Hid; rw [hw1]; exact (Apart.refl [] w).alloc _
  have HA1 : Hid (Apart [R] w w1) := HS1.out.mono (by simp)
  have HB1 : Hid (w1.heap[A]? = some (.cells #[.int .i64 0, .int .i64 0] 25 (0, 0))) := by unfold Hid; rw [HA.out, hw1]; exact heap_alloc_new w _
  have HBR : Hid (A ≠ R) := by unfold Hid; have := lt_of_heap HRB.out.blk; rw [HA.out]; omega
  have HAw : Hid (w.heap.size ≤ A) := by unfold Hid; rw [HA.out]; exact Nat.le_refl _
  have HR1 := hid (HRB.out.kept HS1.out)
  clear h
  go_enter Tryz.func69, Tryz.ntmps69
  go_wp2_with fail
  rw [← hw1, ← HA.out]
  clear hw1
  refine (bounded_ok HR1.out 0 most (by omega) (by omega)).mono ?_
  rintro e2 w2 ⟨ha2, hm2⟩
  have HA2 : Hid (Apart [R] w w2) := HA1.out.trans ha2
  have HS2 := hid ha2
  clear ha2
  cases hr2 : rbound B q 0 most with
  | error x =>
    rw [hr2] at hm2
    have he : e2 = wrongAt x := hm2
    subst he
    unfold wrongAt
    have HE1 := HE.out
    rw [hr2, rb_err] at HE1
    try dsimp only
    refine ⟨rfl, HA2.out, ?_⟩
    rw [HE1]
    rfl
  | ok t =>
    obtain ⟨K, q2⟩ := t
    rw [hr2] at hm2
    obtain ⟨⟨v2, hev2, hv2⟩, hrb2⟩ := hm2
    subst hev2
    have HR2 := hid hrb2
    have HE1 := HE.out
    rw [hr2, rb_ok] at HE1
    replace HE := hid HE1
    have HP2 := hid hr2
    clear HE1 hrb2 hr2
    subst hv2
    have hK := (rbound_le HP2.out).2
    have HB2 : Hid (w2.heap[A]? = some (.cells #[.int .i64 0, .int .i64 0] 25 (0, 0))) := keepB HS2.out HB1.out (lt_of_heap HB1.out) HBR.out
    try dsimp only
    go_wp2_with fail
    go_loopw [7, 13] (fun a d wt => ∃ (i r : Nat) (an ac : Int) (s : Sl) (es : List E) (l : List Wr), a = .slice s.p s.n s.c ∧ d = .int .i64 (i : Nat) ∧ i ≤ K ∧ RB wB wt R p N c B r ∧ Apart [R] w wt ∧ FL wB wt s es l ∧ (s.n = i ∧ ∀ k, s.v.ownBlock = some k → w.heap.size ≤ k) ∧ wt.heap[A]? = some (.cells #[.int .i64 an, .int .i64 ac] 25 (0, 0)) ∧ rwrites B q most key = rb (rwritesA B key (K - i) an ac r) (fun m q2 => .ok (l ++ m, q2))) (fun _ d _ => K - (intOf d).toNat)
    case atStart => exact ⟨0, q2, 0, 0, ⟨none, 0, 0⟩, [], [], rfl, rfl, Nat.zero_le _, HR2.out, HA2.out, FL.nilW _ _ HR2.out.ap, ⟨rfl, by simp [Sl.v, Value.ownBlock]⟩, HB2.out, by rw [HE.out, Nat.sub_zero]; simp only [List.nil_append]; exact (rb_id _).symm⟩
    case round =>
      obtain ⟨i, r, an, ac, s, es, l, rfl, rfl, hi, hrb, hap, hfl, ⟨hsl, hnn⟩, hbx, heq⟩ := hrel
      have HR := hid hrb
      have HAr := hid hap
      have HFL := hid hfl
      have HSL := hid hsl
      have HNN := hid hnn
      have HBr := hid hbx
      replace HE := hid heq
      clear hrb hap hfl hsl hnn hbx heq
      by_cases hlt : i < K
      · have hin : ((i : Nat) : Int) < (K : Int) := by omega
        have HE1 := HE.out
        rw [show K - i = (K - (i + 1)) + 1 from by omega, rwritesA, rb_rb] at HE1
        replace HE := hid HE1
        clear HE1
        obtain ⟨b0, b1⟩ := rowv2 HBr.out
        go_wp2_with fail
        clear b0 b1
        refine (write_ok HR.out an ac key).mono ?_
        rintro e3 w3 ⟨ha3, hm3⟩
        have HA3 : Hid (Apart [R] w w3) := HAr.out.trans ha3
        have HS3 := hid ha3
        clear ha3
        cases hr3 : rwrite B r an ac key with
        | error x =>
          rw [hr3] at hm3
          have he : e3 = wrongAt x := hm3
          subst he
          unfold wrongAt
          have HE1 := HE.out
          rw [hr3, rb_err] at HE1
          try dsimp only
          refine ⟨rfl, HA3.out, ?_⟩
          rw [HE1]
          rfl
        | ok t =>
          obtain ⟨x, q3⟩ := t
          rw [hr3] at hm3
          obtain ⟨⟨v3, hev3, hv3⟩, hrb3⟩ := hm3
          subst hev3
          have HR3 := hid hrb3
          have HE1 := HE.out
          rw [hr3, rb_ok] at HE1
          replace HE := hid HE1
          have HP3 := hid hr3
          clear HE1 hrb3 hr3
          obtain ⟨e, hve, hfr⟩ := hv3
          subst hve
          have HFR := hid hfr
          clear hfr
          unfold aggE
          try dsimp only
          have HFL3 := hid (HFL.out.rd124 HR.out HS3.out)
          have HBx3 : Hid (w3.heap[A]? = some (.cells #[.int .i64 an, .int .i64 ac] 25 (0, 0))) := keepB HS3.out HBr.out (lt_of_heap HBr.out) HBR.out
          obtain ⟨X, HX⟩ : ∃ X, Hid (X = w3.heap.size) := ⟨_, rfl⟩
          obtain ⟨w4, hw4⟩ : ∃ w4, w4 = w3.alloc (.cells #[.int .i64 e.n, .int .i64 e.c, .string e.k, .bool e.d, .slice e.v.p e.v.n e.v.c, .slice e.x.p e.x.n e.x.c] 37) := ⟨_, rfl⟩
          have HS4 : Hid (Apart [] w3 w4) := by unfold Hid; rw [hw4]; exact (Apart.refl [] w3).alloc _
          have HX4 : Hid (w4.heap[X]? = some (.cells #[.int .i64 e.n, .int .i64 e.c, .string e.k, .bool e.d, .slice e.v.p e.v.n e.v.c, .slice e.x.p e.x.n e.x.c] 37 (0, 0))) := by unfold Hid; rw [HX.out, hw4]; exact heap_alloc_new w3 _
          have HBx4 := hid ((HS4.out.block _ (lt_of_heap HBx3.out) (by simp)).trans HBx3.out)
          have HA4 : Hid (Apart [R] w w4) := HA3.out.trans (HS4.out.mono (by simp))
          have HR4 := hid (HR3.out.kept HS4.out)
          have HFL4 := hid (HFL3.out.kept HS4.out)
          have HFR4 := hid (HFR.out.kept0 HS4.out)
          obtain ⟨s5, w5, hrun, hfl5, hs5, ap5, k5, hk5, hk6⟩ := HFL4.out.pushW (by have := HSL.out; omega) HFR4.out 27
          have HTY : Hid (∀ k ∈ s.v.ownBlock.toList, wB.heap.size ≤ k ∧ ∃ cur t, w4.heap[k]? = some (.cells cur t (0, 0)) ∧ t ≠ 115) := fun k hk => by
            obtain ⟨cur, hc⟩ := own_typ HFL4.out.own.nw.own (k := k) (by simpa using hk)
            exact ⟨HFL4.out.own.nw.new k (by simpa using hk), cur, 37, hc, by decide⟩
          have HR5 := hid (HR4.out.app ap5 HTY.out)
          have HA5 : Hid (Apart [R] w w5) := HA4.out.trans' ap5 (fun y hy => .inr (HNN.out y (by simpa using hy)))
          have HX5 : Hid (w5.heap[X]? = some (.cells #[.int .i64 e.n, .int .i64 e.c, .string e.k, .bool e.d, .slice e.v.p e.v.n e.v.c, .slice e.x.p e.x.n e.x.c] 37 (0, 0))) := (ap5.block _ (lt_of_heap HX4.out) (fun hm => by
            have h1 := (HFL3.out.own.nw.own.lt X (by simpa using hm)).2
            rw [HX.out] at h1
            omega)).trans HX4.out
          have HBx5 : Hid (w5.heap[A]? = some (.cells #[.int .i64 an, .int .i64 ac] 25 (0, 0))) := (ap5.block _ (lt_of_heap HBx4.out) (fun hm => by
            obtain ⟨cur, hc⟩ := own_typ HFL4.out.own.nw.own (k := A) (by simpa using hm)
            rw [HBx4.out] at hc
            simp at hc)).trans HBx4.out
          have HNN5 : Hid (∀ k, s5.v.ownBlock = some k → w.heap.size ≤ k) := fun k hk => by
            have e1 : k5 = k := by unfold Sl.v at hk; rw [hk5] at hk; simpa [Value.ownBlock] using hk
            rw [← e1]
            rcases hk6 with h1 | h1
            · exact HNN.out k5 h1
            · exact Nat.le_trans HA4.out.size h1
          have HFL5 := hid hfl5
          have Hs5 : Hid (s5.n = i + 1) := by unfold Hid; rw [hs5, HSL.out]
          have HRUN : Hid ((Builtin.append_ #[27, 27] 27 #[.slice s.p s.n s.c, .slice (some ⟨w4.heap.size, 0, none⟩) 1 1]).run Tryz.prog (w4.alloc (Obj.cells #[.int .i64 e.n, .int .i64 e.c, .string e.k, .bool e.d, .slice e.v.p e.v.n e.v.c, .slice e.x.p e.x.n e.x.c] 37)) = .ok (.slice s5.p s5.n s5.c) w5) := hrun
          clear hrun hfl5 hs5 ap5 hk5 hk6
          have HE1 := HE.out
          simp only [rb_rb, rb_ok] at HE1
          replace HE := hid HE1
          clear HE1
          obtain ⟨x0, x1, x2, x3, x4, x5⟩ := rowv6 HX4.out
          obtain ⟨y0, y1, y2, y3, y4, y5⟩ := rowv6 HX5.out
          obtain ⟨b0, b1⟩ := rowv2 HBx5.out
          have f0 := frozen_of_row _ _ 0 _ _ HBx5.out
          have f1 := frozen_of_row _ _ 1 _ _ HBx5.out
          obtain ⟨w6, Hw6⟩ : ∃ w6, Hid (w6 = (w5.setCell ⟨A, 0, none⟩ (.int .i64 e.n)).setCell ⟨A, 1, none⟩ (.int .i64 e.c)) := ⟨_, rfl⟩
          have HS6 : Hid (Apart [A] w5 w6) := by unfold Hid; rw [Hw6.out]; exact ((Apart.refl _ _).setCell (.inl (by simp)) _).setCell (.inl (by simp)) _
          have HB6 : Hid (w6.heap[A]? = some (.cells #[.int .i64 e.n, .int .i64 e.c] 25 (0, 0))) := by
            unfold Hid
            rw [Hw6.out]
            have h1 := heap_setCell_same w5 A 0 _ 25 (.int .i64 e.n) HBx5.out
            have h2 := heap_setCell_same _ A 1 _ 25 (.int .i64 e.c) h1
            simpa using h2
          have HR6 := hid (HR5.out.other HS6.out HBx5.out (by decide) (Nat.le_trans HRB.out.ap.size HAw.out))
          have HA6 : Hid (Apart [R] w w6) := HA5.out.trans' HS6.out (by intro y hy; simp at hy; rw [hy]; exact .inr HAw.out)
          have HFL6 := hid (HFL5.out.oth HS6.out HBx5.out (by decide) (Nat.le_trans HRB.out.ap.size HAw.out))
          go_upto_region 6 with fail
          rw [← hw4, ← HX.out]
          clear hw4
          go_upto_region 8 with (at_builtin; refine wpList_app2 rfl (.tmp 19) (.tmp 21) 27 27 rfl _ _ rfl rfl _ _ HRUN.out ?_)
          rw [← Hw6.out]
          clear x0 x1 x2 x3 x4 x5 y0 y1 y2 y3 y4 y5 b0 b1 f0 f1
          go_wp2_with fail
          go_roundw
          case rel => exact ⟨i + 1, q3, e.n, e.c, s5, es ++ [e], l ++ [x], rfl, by go_num, by omega, HR6.out, HA6.out, HFL6.out, ⟨Hs5.out, HNN5.out⟩, HB6.out, by
            rw [HE.out, HFR.out.n, HFR.out.c]
            simp only [List.append_assoc, List.singleton_append]⟩
          case measure => simp [intOf]; omega
      · obtain rfl : K = i := by omega
        have hin : ¬ ((K : Nat) : Int) < (K : Int) := by omega
        have HF : Hid (rwrites B q most key = .ok (l, r)) := by
          unfold Hid
          rw [HE.out, Nat.sub_self, rwritesA, rb_ok, List.append_nil]
        go_wp2_with fail
        go_ret
        refine ⟨HAr.out, ?_⟩
        rw [HF.out]
        exact ⟨⟨_, rfl, s, es, rfl, HFL.out⟩, HR.out⟩
end Go.Proofs.YtddffdcjhleejaaGreat.ds
namespace Go.Proofs.YtddffdcjhleejaaGreat.ds
open Go.ChangeShapes Go.WideShapes Go.ChangeAt Go.RowKit Go.Sort
set_option linter.unusedVariables false
set_option linter.unusedSimpArgs false
/-- the fields of a kind, as bits -/
def fldK (k : Nat) : Nat := if k = 7 then 139 else if k = 6 then 11 else if k = 2 then 3 else if k = 5 then 169 else if k = 4 then 9 else if k = 3 then 67 else if k = 1 then 65 else if k = 10 then 64 else if k = 9 then 164 else if k = 8 then 36 else if k = 11 then 24 else 0
def mostK (k : Nat) : Nat := if k = 5 then 8 else if k = 7 then 32 else if k = 9 then 512 else 1
theorem mostK_le (k : Nat) : mostK k ≤ 1000 := by unfold mostK; (repeat' split) <;> omega
theorem fldK_lt (k : Nat) : fldK k < 256 := by unfold fldK; (repeat' split) <;> omega
set_option maxHeartbeats 8000000 in
set_option maxRecDepth 100000 in
theorem fieldsOf_ok (k : Nat) (w : World) : Calls Tryz.prog 39 #[.int .i64 (k : Nat)] w fun r w' => r = .returned (.int .u64 ((fldK k : Nat) : Int)) ∧ w' = w := by
  by_cases h7 : k = 7
  · subst h7
    have o0 : bits BinOp.or IntKind.u64 0 128 = 128 := by decide +kernel
    have o1 : bits BinOp.or IntKind.u64 128 8 = 136 := by decide +kernel
    have o2 : bits BinOp.or IntKind.u64 136 3 = 139 := by decide +kernel
    go_enter Tryz.func39, Tryz.ntmps39
    go_wp2_with fail
    go_ret
    exact ⟨rfl, rfl⟩
  have i7 : ¬ ((k : Nat) : Int) = 7 := by omega
  by_cases h6 : k = 6
  · subst h6
    have o0 : bits BinOp.or IntKind.u64 0 8 = 8 := by decide +kernel
    have o1 : bits BinOp.or IntKind.u64 8 3 = 11 := by decide +kernel
    go_enter Tryz.func39, Tryz.ntmps39
    go_wp2_with fail
    go_ret
    exact ⟨rfl, rfl⟩
  have i6 : ¬ ((k : Nat) : Int) = 6 := by omega
  by_cases h2 : k = 2
  · subst h2
    have o0 : bits BinOp.or IntKind.u64 0 3 = 3 := by decide +kernel
    go_enter Tryz.func39, Tryz.ntmps39
    go_wp2_with fail
    go_ret
    exact ⟨rfl, rfl⟩
  have i2 : ¬ ((k : Nat) : Int) = 2 := by omega
  by_cases h5 : k = 5
  · subst h5
    have o0 : bits BinOp.or IntKind.u64 0 160 = 160 := by decide +kernel
    have o1 : bits BinOp.or IntKind.u64 160 9 = 169 := by decide +kernel
    go_enter Tryz.func39, Tryz.ntmps39
    go_wp2_with fail
    go_ret
    exact ⟨rfl, rfl⟩
  have i5 : ¬ ((k : Nat) : Int) = 5 := by omega
  by_cases h4 : k = 4
  · subst h4
    have o0 : bits BinOp.or IntKind.u64 0 9 = 9 := by decide +kernel
    go_enter Tryz.func39, Tryz.ntmps39
    go_wp2_with fail
    go_ret
    exact ⟨rfl, rfl⟩
  have i4 : ¬ ((k : Nat) : Int) = 4 := by omega
  by_cases h3 : k = 3
  · subst h3
    have o0 : bits BinOp.or IntKind.u64 0 2 = 2 := by decide +kernel
    have o1 : bits BinOp.or IntKind.u64 2 1 = 3 := by decide +kernel
    have o2 : bits BinOp.or IntKind.u64 3 64 = 67 := by decide +kernel
    go_enter Tryz.func39, Tryz.ntmps39
    go_wp2_with fail
    go_ret
    exact ⟨rfl, rfl⟩
  have i3 : ¬ ((k : Nat) : Int) = 3 := by omega
  by_cases h1 : k = 1
  · subst h1
    have o0 : bits BinOp.or IntKind.u64 0 1 = 1 := by decide +kernel
    have o1 : bits BinOp.or IntKind.u64 1 64 = 65 := by decide +kernel
    go_enter Tryz.func39, Tryz.ntmps39
    go_wp2_with fail
    go_ret
    exact ⟨rfl, rfl⟩
  have i1 : ¬ ((k : Nat) : Int) = 1 := by omega
  by_cases h10 : k = 10
  · subst h10
    have o0 : bits BinOp.or IntKind.u64 0 64 = 64 := by decide +kernel
    go_enter Tryz.func39, Tryz.ntmps39
    go_wp2_with fail
    go_ret
    exact ⟨rfl, rfl⟩
  have i10 : ¬ ((k : Nat) : Int) = 10 := by omega
  by_cases h9 : k = 9
  · subst h9
    have o0 : bits BinOp.or IntKind.u64 0 128 = 128 := by decide +kernel
    have o1 : bits BinOp.or IntKind.u64 128 36 = 164 := by decide +kernel
    go_enter Tryz.func39, Tryz.ntmps39
    go_wp2_with fail
    go_ret
    exact ⟨rfl, rfl⟩
  have i9 : ¬ ((k : Nat) : Int) = 9 := by omega
  by_cases h8 : k = 8
  · subst h8
    have o0 : bits BinOp.or IntKind.u64 0 36 = 36 := by decide +kernel
    go_enter Tryz.func39, Tryz.ntmps39
    go_wp2_with fail
    go_ret
    exact ⟨rfl, rfl⟩
  have i8 : ¬ ((k : Nat) : Int) = 8 := by omega
  by_cases h11 : k = 11
  · subst h11
    have o0 : bits BinOp.or IntKind.u64 0 24 = 24 := by decide +kernel
    go_enter Tryz.func39, Tryz.ntmps39
    go_wp2_with fail
    go_ret
    exact ⟨rfl, rfl⟩
  have i11 : ¬ ((k : Nat) : Int) = 11 := by omega
  have hf : fldK k = 0 := by unfold fldK; simp [h7, h6, h2, h5, h4, h3, h1, h10, h9, h8, h11]
  rw [hf]
  go_enter Tryz.func39, Tryz.ntmps39
  go_wp2_with fail
  go_ret
  exact ⟨rfl, rfl⟩
theorem name_wire (f g : Nat) (hf : f < 256) (hg : g < 256) (v : Bool) (hv : v = decide (f &&& g ≠ 0)) (w : World) : Calls Tryz.prog 61 #[.int .u64 (f : Nat), .int .u64 (g : Nat)] w fun r w' => r = .returned (.bool v) ∧ w' = w := by
  have ha : bits BinOp.and IntKind.u64 (f : Int) (g : Int) = ((f &&& g : Nat) : Int) := and_nat f g (by omega) (by omega)
  obtain ⟨x, hx⟩ : ∃ x, x = f &&& g := ⟨_, rfl⟩
  rw [← hx] at ha hv
  by_cases h0 : x = 0
  · have h0i : ((x : Nat) : Int) = 0 := by omega
    have HV : Hid (v = false) := by unfold Hid; rw [hv]; simp [h0]
    clear hv hx
    go_enter Tryz.func61, Tryz.ntmps61
    go_wp2_with fail
    go_ret
    exact ⟨by rw [HV.out]; rfl, rfl⟩
  · have h0i : ¬ ((x : Nat) : Int) = 0 := by omega
    have HV : Hid (v = true) := by unfold Hid; rw [hv]; simp [h0]
    clear hv hx
    go_enter Tryz.func61, Tryz.ntmps61
    go_wp2_with fail
    go_ret
    exact ⟨by rw [HV.out]; simp [h0], rfl⟩
theorem most_ok (k : Nat) (w : World) : Calls Tryz.prog 70 #[.int .i64 (k : Nat)] w fun r w' => r = .returned (.int .i64 ((mostK k : Nat) : Int)) ∧ w' = w := by
  by_cases h5 : k = 5
  · subst h5
    go_enter Tryz.func70, Tryz.ntmps70
    go_wp2_with fail
    go_ret
    exact ⟨rfl, rfl⟩
  have i5 : ¬ ((k : Nat) : Int) = 5 := by omega
  by_cases h7 : k = 7
  · subst h7
    go_enter Tryz.func70, Tryz.ntmps70
    go_wp2_with fail
    go_ret
    exact ⟨rfl, rfl⟩
  have i7 : ¬ ((k : Nat) : Int) = 7 := by omega
  by_cases h9 : k = 9
  · subst h9
    go_enter Tryz.func70, Tryz.ntmps70
    go_wp2_with fail
    go_ret
    exact ⟨rfl, rfl⟩
  have i9 : ¬ ((k : Nat) : Int) = 9 := by omega
  have hf : mostK k = 1 := by unfold mostK; simp [h5, h7, h9]
  rw [hf]
  go_enter Tryz.func70, Tryz.ntmps70
  go_wp2_with fail
  go_ret
  exact ⟨rfl, rfl⟩
/-- a message in memory -/
structure MM where
  kind : Nat
  frm : Nat
  dst : Nat
  call : Nat
  rng : Nat
  own : Nat
  key : ByteArray
  dn : Nat
  dc : Nat
  set : Sl
  ws : Sl
def MM.cs (m : MM) : Array Value := #[.int .i64 (m.kind : Nat), .int .i64 (m.frm : Nat), .int .i64 (m.dst : Nat), .int .i64 (m.call : Nat), .int .i64 (m.rng : Nat), .int .i64 (m.own : Nat), .string m.key, .int .i64 (m.dn : Nat), .int .i64 (m.dc : Nat), .slice m.set.p m.set.n m.set.c, .slice m.ws.p m.ws.n m.ws.c]
def MM.z : MM := ⟨0, 0, 0, 0, 0, 0, ⟨#[]⟩, 0, 0, ⟨none, 0, 0⟩, ⟨none, 0, 0⟩⟩
theorem size29 : (Tryz.prog.info? 29).map (·.size) = some 11 := by kernel_rfl
end Go.Proofs.YtddffdcjhleejaaGreat.ds
