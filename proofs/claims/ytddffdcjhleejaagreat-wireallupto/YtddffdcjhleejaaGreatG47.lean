import Derived.Test.YtddffdcjhleejaaGreatG1
import Derived.Test.YtddffdcjhleejaaGreatG46
import Derived.Test.YtddffdcjhleejaaGreatG21
namespace Go.Proofs.YtddffdcjhleejaaGreat.ds
open Go.ChangeShapes Go.WideShapes Go.ChangeAt Go.RowKit Go.Sort
set_option linter.unusedVariables false
set_option linter.unusedSimpArgs false
/-- the last one of a list of writes -/
def LastAt (w : World) (R : Nat) (s : Sl) (an ac : Int) : Prop :=
  (s.n = 0 ∧ an = 0 ∧ ac = 0) ∨ (0 < s.n ∧ s.n ≤ 1000000 ∧ ∃ P o, s.p = some ⟨P, o, none⟩ ∧ P ≠ R ∧ P < w.heap.size ∧ w.cell? ⟨P, o + (s.n - 1) * 6, none⟩ = some (.int .i64 an) ∧ w.cell? ⟨P, o + (s.n - 1) * 6 + 1, none⟩ = some (.int .i64 ac))
def VX (wB : World) (a : Wr) (v : Value) (w' : World) : Prop := ∃ e : E, v = aggE e ∧ WX wB w' e a
def UW (v : Value) (w' : World) : Prop := ∃ e : E, v = aggE e
theorem rsx_first {wB w : World} {R : Nat} {p : Option Addr} {N c : Nat} {B : List Nat} {q : Nat} (h : RX wB w R p N c B q (-1)) : RS wB w R p N c B (plc (.ok ((), q))) := RS.ok h
theorem wq3_first (B : List Nat) (q : Nat) (an ac zn zc : Int) (n : Nat) (b : Bool) (h1 : ∀ a q', wq2 B q = .ok (a, q') → zn = (a.1.2 : Nat) ∧ zc = (a.2 : Nat)) (h2 : (n = 0 ∧ an = 0 ∧ ac = 0 ∧ b = false) ∨ (b = !risW an ac zn zc)) : ∀ a q', wq2 B q = .ok (a, q') → b = !(fun a : (Unit × Nat) × Nat => risW an ac (a.1.2 : Nat) (a.2 : Nat)) a := by
  intro a q' e
  obtain ⟨e1, e2⟩ := h1 a q' e
  rcases h2 with ⟨_, rfl, rfl, rfl⟩ | h2
  · obtain ⟨q1, h3, h4⟩ := nx_prev2 e
    have := rbound_le h4
    show false = !risW 0 0 (a.1.2 : Nat) (a.2 : Nat)
    unfold risW
    by_cases h0 : a.1.2 = 0
    · rw [h0]; simp; omega
    · simp; omega
  · rw [h2, e1, e2]
theorem rw_ok {B : List Nat} {q : Nat} {an ac : Int} {key : ByteArray} {a : Wr} {q' : Nat} (h : rwrite B q an ac key = .ok (a, q')) : ∃ b q4, wq7 B q an ac key = .ok (b, q4) ∧ st B (wq7 B q an ac key) 18446744073709551615 = .ok ((b, a.xs), q') ∧ a = mkW b a.xs := by
  rw [rwrite_link] at h
  cases h7 : wq7 B q an ac key with
  | error y => rw [h7] at h; cases h
  | ok t =>
    obtain ⟨b, q4⟩ := t
    rw [h7, rb_ok] at h
    cases h8 : rspans B q4 18446744073709551615 with
    | error y => rw [h8] at h; cases h
    | ok t =>
      obtain ⟨xs, q5⟩ := t
      rw [h8, rb_ok] at h
      by_cases hh : hasd xs (mkW b xs).n (mkW b xs).c = false
      · rw [if_pos hh] at h
        cases h
        refine ⟨b, q4, rfl, ?_, rfl⟩
        unfold st
        rw [rb_ok, h8, rb_ok]
        rfl
      · rw [if_neg hh] at h; cases h
theorem wq7_val {B : List Nat} (hB : ∀ b ∈ B, b < 256) {q : Nat} {an ac : Int} {key : ByteArray} {a : ((((Unit × Nat) × Nat) × List Nat) × Nat) × List Nat} {q' : Nat} (h : wq7 B q an ac key = .ok (a, q')) : (∀ b ∈ a.2, b < 256) ∧ a.2.length ≤ 64 := by
  obtain ⟨q6, _, e⟩ := vl_prev h
  unfold rvalue at e
  by_cases hd : a.1.2 = 1
  · rw [if_pos hd] at e
    simp only [Except.ok.injEq, Prod.mk.injEq] at e
    rw [← e.1]
    simp
  · rw [if_neg hd] at e
    have := rtext_b8 hB e
    exact ⟨this.1, this.2.2⟩
set_option maxHeartbeats 16000000 in
set_option maxRecDepth 100000 in
theorem rwriteX_ok {wB w : World} {R : Nat} {p : Option Addr} {N c : Nat} {B : List Nat} {q : Nat} (h : RX wB w R p N c B q (-1)) (an ac : Int) (key : ByteArray) (la : Sl) (hla : LastAt w R la an ac) :
    Calls Tryz.prog 59 #[.pointer (some ⟨R, 0, none⟩), .string key, .slice la.p la.n la.c] w fun e w' => OutX wB w w' R p N c B e (rwrite B q an ac key) (VX wB) UW := by
  obtain ⟨lp, ln, lc⟩ := la
  have HRB := hid h
  have HLA := hid hla
  have HB8 := hid h.b8
  obtain ⟨Y, HY⟩ : ∃ Y, Hid (Y = w.heap.size) := ⟨_, rfl⟩
  obtain ⟨X, HX⟩ : ∃ X, Hid (X = w.heap.size + 1) := ⟨_, rfl⟩
  obtain ⟨w0, hw0⟩ : ∃ w0, w0 = w.alloc (.cells #[.int .i64 0, .int .i64 0, .string ⟨#[]⟩, .bool false, .slice none 0 0, .slice none 0 0] 37) := ⟨_, rfl⟩
  obtain ⟨w1, hw1⟩ : ∃ w1, w1 = w0.alloc (.cells #[.int .i64 0, .int .i64 0, .string ⟨#[]⟩, .bool false, .slice none 0 0, .slice none 0 0] 37) := ⟨_, rfl⟩
  have HA0 : Hid (Apart [] w w0) := by unfold Hid; rw [hw0]; exact (Apart.refl [] w).alloc _
  have HA1 : Hid (Apart [] w0 w1) := by unfold Hid; rw [hw1]; exact (Apart.refl [] w0).alloc _
  have hs0 : w0.heap.size = w.heap.size + 1 := by rw [hw0]; simp
  have HY0 : Hid (w0.heap[Y]? = some (.cells #[.int .i64 0, .int .i64 0, .string ⟨#[]⟩, .bool false, .slice none 0 0, .slice none 0 0] 37 (0, 0))) := by unfold Hid; rw [HY.out, hw0]; exact heap_alloc_new w _
  have HX1 : Hid (w1.heap[X]? = some (.cells #[.int .i64 0, .int .i64 0, .string ⟨#[]⟩, .bool false, .slice none 0 0, .slice none 0 0] 37 (0, 0))) := by unfold Hid; rw [HX.out, ← hs0, hw1]; exact heap_alloc_new w0 _
  have HR1 := hid (h.kept (HA0.out.trans HA1.out))
  have hszR := lt_of_heap h.blk
  have hszB := h.ap.size
  have HW1 : Hid (WS wB w w1 R p N c B (plc (.ok ((), q))) Y X #[.int .i64 0, .int .i64 0, .string ⟨#[]⟩, .bool false, .slice none 0 0, .slice none 0 0]) := ⟨(HA0.out.trans HA1.out).mono (by simp), rsx_first HR1.out, HX1.out, (HA1.out.block _ (lt_of_heap HY0.out) (by simp)).trans HY0.out, by rw [HX.out]; omega, by rw [HY.out]; omega, by rw [HX.out]; omega, by rw [HY.out]; omega, by rw [HX.out, HY.out]; omega, by rw [HX.out]; omega, by rw [HY.out]; omega⟩
  have HXs := hid (show X = w0.heap.size by rw [HX.out, hs0])
  clear h hla hs0 hszR hszB
  obtain ⟨z0, z1, z2, z3, z4⟩ := HR1.out.cells
  rw [hw1, hw0] at z0 z1 z2 z3 z4
  go_enter Tryz.func59, Tryz.ntmps59
  go_wp2_with fail
  rw [← hw0, ← hw1, ← HX.out, ← HY.out]
  clear hw0 hw1 z0 z1 z2 z3 z4
  refine (rnumI_any HW1.out.rs (fun _ => 0) 7 0 (fun _ _ _ => ⟨rfl, by omega⟩) (by omega)).mono ?_
  rintro _ w2 ⟨ha2, zn, rfl, hr2, hz2⟩
  have HW2 : Hid (WS wB w w2 R p N c B (plc (nx B (.ok ((), q)) (fun _ => 0) 7)) Y X #[.int .i64 0, .int .i64 0, .string ⟨#[]⟩, .bool false, .slice none 0 0, .slice none 0 0]) := HW1.out.call ha2 hr2
  have HZ2 := hid hz2
  have HS2 := hid ha2
  clear ha2 hr2 hz2
  try dsimp only
  obtain ⟨c0, c1, c2, c3, c4, c5⟩ := row6 HW2.out.bx
  obtain ⟨w3, hw3⟩ : ∃ w3, w3 = w2.setCell ⟨X, 0, none⟩ (.int .i64 zn) := ⟨_, rfl⟩
  have HW3 : Hid (WS wB w w3 R p N c B (plc (nx B (.ok ((), q)) (fun _ => 0) 7)) Y X #[.int .i64 zn, .int .i64 0, .string ⟨#[]⟩, .bool false, .slice none 0 0, .slice none 0 0]) := by
    unfold Hid
    rw [hw3]
    have := HW2.out.store 0 (.int .i64 zn)
    simpa using this
  have f0 := frozen_of_row _ _ 0 _ _ HW2.out.bx
  go_wp2_with fail
  rw [← hw3]
  clear hw3 f0
  clear c0 c1 c2 c3 c4 c5
  refine (rnumI_any HW3.out.rs (fun _ => 1) 1048576 1 (fun _ _ _ => ⟨rfl, by omega⟩) (by omega)).mono ?_
  rintro _ w4 ⟨ha4, zc, rfl, hr4, hz4⟩
  have HW4 : Hid (WS wB w w4 R p N c B (plc (wq2 B q)) Y X #[.int .i64 zn, .int .i64 0, .string ⟨#[]⟩, .bool false, .slice none 0 0, .slice none 0 0]) := HW3.out.call ha4 hr4
  have HZ4 := hid hz4
  have HS4 := hid ha4
  clear ha4 hr4 hz4
  try dsimp only
  obtain ⟨c0, c1, c2, c3, c4, c5⟩ := row6 HW4.out.bx
  obtain ⟨w5, hw5⟩ : ∃ w5, w5 = w4.setCell ⟨X, 1, none⟩ (.int .i64 zc) := ⟨_, rfl⟩
  have HW5 : Hid (WS wB w w5 R p N c B (plc (wq2 B q)) Y X #[.int .i64 zn, .int .i64 zc, .string ⟨#[]⟩, .bool false, .slice none 0 0, .slice none 0 0]) := by
    unfold Hid
    rw [hw5]
    have := HW4.out.store 1 (.int .i64 zc)
    simpa using this
  have f0 := frozen_of_row _ _ 1 _ _ HW4.out.bx
  have HZ24 : Hid (∀ a q', wq2 B q = .ok (a, q') → zn = (a.1.2 : Nat) ∧ zc = (a.2 : Nat)) := fun a q' e => (by
    obtain ⟨q0, h0, _⟩ := nx_prev2 e
    exact ⟨HZ2.out a.1.1 a.1.2 q0 h0, HZ4.out a.1 a.2 q' e⟩)
  go_upto_region 5 with fail
  rw [← hw5]
  clear hw5 f0
  clear c0 c1 c2 c3 c4 c5
  obtain ⟨b1, Hb1⟩ : ∃ b1 : Bool, Hid (b1 = (decide (0 < ln) && !risW an ac zn zc)) := ⟨_, rfl⟩
  go_cut [38] from 23 to 38 (fun t wx => t = .bool b1 ∧ WS wB w wx R p N c B (plc (wq2 B q)) Y X #[.int .i64 zn, .int .i64 zc, .string ⟨#[]⟩, .bool false, .slice none 0 0, .slice none 0 0])
  case first =>
    have HWd : Hid (WS wB w w5.drew R p N c B (plc (wq2 B q)) Y X #[.int .i64 zn, .int .i64 zc, .string ⟨#[]⟩, .bool false, .slice none 0 0, .slice none 0 0]) := HW5.out.kept (Apart.refl [] w5).drew
    have HSd : Hid (Apart [R] w w5.drew) := HWd.out.ap
    rcases HLA.out with ⟨hl0, rfl, rfl⟩ | ⟨hl1, hl2, P, o, hP, hPR, hPl, hd0, hd1⟩
    · have hl0' : ln = 0 := hl0
      subst hl0'
      have hb : b1 = false := by rw [Hb1.out]; rfl
      subst hb
      refine wp_region_held_drew (S := fun W => WS wB w W R p N c B (plc (wq2 B q)) Y X #[.int .i64 zn, .int .i64 zc, .string ⟨#[]⟩, .bool false, .slice none 0 0, .slice none 0 0]) (by kernel_rfl) HWd.out (fun hHeld => ?_)
      generalize w5.drew = wd at *
      refine tkn 0 23 (.slice lp 0 lc) rfl ?_ ?_
      · intro W hSW; go_simp
      refine tkn 1 24 (.int .i64 0) rfl ?_ ?_
      · intro W hSW; go_simp
      refine tkn 2 25 (.bool false) rfl ?_ ?_
      · intro W hSW; go_simp
      refine tkn 3 26 (.bool false) rfl ?_ ?_
      · intro W hSW; go_simp
      refine tun 4 27 rfl ?_
      refine tun 5 28 rfl ?_
      refine tun 6 29 rfl ?_
      refine tun 7 30 rfl ?_
      refine tun 8 31 rfl ?_
      refine tun 9 32 rfl ?_
      refine tun 10 33 rfl ?_
      refine tun 11 34 rfl ?_
      refine tun 12 35 rfl ?_
      refine wpAnyH_pass 13 (o := ⟨some 36, _, _, _, _, _⟩) (by kernel_rfl) rfl (by kernel_rfl) (by assumption) ?_
      try simp only [Act.put, List.setIfInBounds_toArray, List.set_cons_zero, List.set_cons_succ]
      refine tun 14 37 rfl ?_
      refine tkn 15 38 (.bool false) rfl ?_ ?_
      · intro W hSW; go_simp
      refine wpAnyH_done (by kernel_rfl) ?_ _
      go_wp2_with fail
      go_meet
      exact ⟨rfl, hHeld⟩
    · have hln : 0 < ln := hl1
      have hln2 : ln ≤ 1000000 := hl2
      have hP' : lp = some ⟨P, o, none⟩ := hP
      subst hP'
      have hlni : ((ln : Nat) : Int) > 0 := by omega
      have hb : b1 = !risW an ac zn zc := by rw [Hb1.out]; simp [hln]
      have hsub : IntKind.i64.wrap ((ln : Int) - 1) = ((ln - 1 : Nat) : Int) := by rw [IntKind.wrap_i64]; omega
      have hlt1 : ln - 1 < ln := by omega
      have HD0 : Hid (w5.drew.cell? ⟨P, o + (ln - 1) * 6, none⟩ = some (.int .i64 an)) := (HSd.out.cell hPl (by simpa using hPR)).trans hd0
      have HD1 : Hid (w5.drew.cell? ⟨P, o + (ln - 1) * 6 + 1, none⟩ = some (.int .i64 ac)) := (HSd.out.cell hPl (by simpa using hPR)).trans hd1
      have HPl : Hid (P < w5.drew.heap.size) := Nat.lt_of_lt_of_le hPl HSd.out.size
      obtain ⟨b2, Hb2⟩ : ∃ b2, Hid (b2 = risW an ac zn zc) := ⟨_, rfl⟩
      rw [← Hb2.out] at hb
      have HCr : Hid (∀ W, Calls Tryz.prog 95 #[.agg #[.int .i64 zn, .int .i64 zc], .agg #[.int .i64 an, .int .i64 ac]] W fun r w' => r = .returned (.bool b2) ∧ Apart [] W w') := fun W => rrises_ok _ _ _ _ b2 Hb2.out W
      clear hl1 hl2 hd0 hd1 hP
      have hBel : Apart [] w5.drew w5.drew := Apart.refl _ _
      refine wp_region_held_drew (S := fun W => Apart [] w5.drew W) (by kernel_rfl) hBel (fun hHeld => ?_)
      generalize w5.drew = wd at *
      clear hBel
      refine tkn 0 23 (.slice (some ⟨P, o, none⟩) ln lc) rfl ?_ ?_
      · intro W hSW; go_simp
      refine tkn 1 24 (.int .i64 (ln : Nat)) rfl ?_ ?_
      · intro W hSW; go_simp
      refine tkn 2 25 (.bool true) rfl ?_ ?_
      · intro W hSW; go_simp
      refine tkn 3 26 (.bool true) rfl ?_ ?_
      · intro W hSW; go_simp
      refine tkn 4 27 (.pointer (some ⟨X, 0, none⟩)) rfl ?_ ?_
      · intro W hSW; go_simp
      refine tkn 5 28 (.agg #[.int .i64 zn, .int .i64 zc]) rfl ?_ ?_
      · intro W hSW; obtain ⟨c0, c1, c2, c3, c4, c5⟩ := row6 ((hSW.block _ (lt_of_heap HWd.out.bx) (by simp)).trans HWd.out.bx); go_simp
      refine tkn 6 29 (.slice (some ⟨P, o, none⟩) ln lc) rfl ?_ ?_
      · intro W hSW; go_simp
      refine tkn 7 30 (.slice (some ⟨P, o, none⟩) ln lc) rfl ?_ ?_
      · intro W hSW; go_simp
      refine tkn 8 31 (.int .i64 (ln : Nat)) rfl ?_ ?_
      · intro W hSW; go_simp
      refine tkn 9 32 (.int .i64 ((ln - 1 : Nat) : Int)) rfl ?_ ?_
      · intro W hSW; go_simp
      refine tkn 10 33 (.pointer (some ⟨P, o + (ln - 1) * 6, none⟩)) rfl ?_ ?_
      · intro W hSW; go_simp
      refine tkn 11 34 (.pointer (some ⟨P, o + (ln - 1) * 6, none⟩)) rfl ?_ ?_
      · intro W hSW; go_simp
      refine tkn 12 35 (.agg #[.int .i64 an, .int .i64 ac]) rfl ?_ ?_
      · intro W hSW; have p0 := (hSW.cell (p := ⟨P, o + (ln - 1) * 6, none⟩) HPl.out (by simp)).trans HD0.out; have p1 := (hSW.cell (p := ⟨P, o + (ln - 1) * 6 + 1, none⟩) HPl.out (by simp)).trans HD1.out; go_simp
      refine wpAnyH_ready (rs := [13]) (by kernel_rfl) (by simp) ?_
      refine AllReadyH.cons rfl (fun KK hKK => ?_) AllReadyH.nil
      go_simp
      refine (HCr.out _).mono ?_
      rintro _ w6 ⟨rfl, ha6⟩
      have hS6 : Apart [] wd w6 := hHeld.trans ha6
      try dsimp only
      refine hKK.out _ _ hS6 (fun hHeld2 => ?_)
      clear hKK KK ha6 hHeld2
      try simp only [Act.put, List.setIfInBounds_toArray, List.set_cons_zero, List.set_cons_succ]
      refine tkn 14 37 (.bool (!b2)) rfl ?_ ?_
      · intro W hSW; go_simp
      refine tkn 15 38 (.bool (!b2)) rfl ?_ ?_
      · intro W hSW; go_simp
      refine wpAnyH_done (by kernel_rfl) ?_ _
      go_wp2_with fail
      go_meet
      exact ⟨by rw [hb], HWd.out.kept hS6⟩
  obtain ⟨rfl, hcw⟩ := hcut
  generalize wc = w6 at *
  have HW6 := hid hcw
  have HB1 : Hid ((ln = 0 ∧ an = 0 ∧ ac = 0 ∧ b1 = false) ∨ b1 = !risW an ac zn zc) := by
    rcases HLA.out with ⟨h1, h2, h3⟩ | ⟨h1, _⟩
    · have h1' : ln = 0 := h1
      exact .inl ⟨h1', h2, h3, by rw [Hb1.out, h1']; rfl⟩
    · have h1' : 0 < ln := h1
      exact .inr (by rw [Hb1.out]; simp [h1'])
  clear hcw HLA
  have HF3 : Hid ((if b1 = true then wr1 (plc (wq2 B q)) q else plc (wq2 B q)) = plc (wq3 B q an ac)) := fq_out _ _ q b1 (wq3_first B q an ac zn zc ln b1 HZ24.out HB1.out)
  go_upto_if 38 with fail
  go_cut [8] from 39 to 41 (fun t wx => t = .int .i64 (q : Nat) ∧ WS wB w wx R p N c B (plc (wq3 B q an ac)) Y X #[.int .i64 zn, .int .i64 zc, .string ⟨#[]⟩, .bool false, .slice none 0 0, .slice none 0 0])
  case first =>
    cases b1 with
    | false =>
      have HF := HF3.out
      rw [if_neg (by simp)] at HF
      go_wp2_with fail
      go_meet
      exact ⟨rfl, HF ▸ HW6.out⟩
    | true =>
      have HF := HF3.out
      rw [if_pos rfl] at HF
      go_wp2_with fail
      refine (rwrong_any HW6.out.rs q).mono ?_
      rintro _ w7 ⟨rfl, ha7, hr7⟩
      have HW7 := hid (HW6.out.call ha7 (HF ▸ hr7))
      clear ha7 hr7
      try dsimp only
      go_wp2_with fail
      go_meet
      exact ⟨rfl, HW7.out⟩
  obtain ⟨rfl, hcw⟩ := hcut
  generalize wc = w7 at *
  have HW7 := hid hcw
  clear hcw
  go_wp2_with fail
  refine (rtext_any HW7.out.rs 1 16 (by omega) (by omega)).mono ?_
  rintro _ w8 ⟨ha8, ks, rfl, hr8, hz8⟩
  have HW8 : Hid (WS wB w w8 R p N c B (plc (wq4 B q an ac)) Y X #[.int .i64 zn, .int .i64 zc, .string ⟨#[]⟩, .bool false, .slice none 0 0, .slice none 0 0]) := HW7.out.call ha8 hr8
  have HZ8 := hid hz8
  have HS8 := hid ha8
  clear ha8 hr8 hz8
  try dsimp only
  obtain ⟨c0, c1, c2, c3, c4, c5⟩ := row6 HW8.out.bx
  obtain ⟨w9, hw9⟩ : ∃ w9, w9 = w8.setCell ⟨X, 2, none⟩ (.string ks) := ⟨_, rfl⟩
  have HW9 : Hid (WS wB w w9 R p N c B (plc (wq4 B q an ac)) Y X #[.int .i64 zn, .int .i64 zc, .string ks, .bool false, .slice none 0 0, .slice none 0 0]) := by
    unfold Hid
    rw [hw9]
    have := HW8.out.store 2 (.string ks)
    simpa using this
  have f0 := frozen_of_row _ _ 2 _ _ HW8.out.bx
  go_upto_region 8 with fail
  rw [← hw9]
  clear hw9 f0
  clear c0 c1 c2 c3 c4 c5
  obtain ⟨c0, c1, c2, c3, c4, c5⟩ := row6 HW9.out.bx
  obtain ⟨b3, Hb3⟩ : ∃ b3 : Bool, Hid (b3 = (!keq key ⟨#[]⟩ && !keq ks key)) := ⟨_, rfl⟩
  go_cut [52] from 45 to 52 (fun t wx => t = .bool b3 ∧ wx = w9)
  case first =>
    cases h1 : keq key ⟨#[]⟩
    case true =>
      have h1b : (key.toList == []) = true := by rw [← keq_e]; exact h1
      have hb : b3 = false := by rw [Hb3.out, h1]; rfl
      subst hb
      clear h1
      go_wp2_with fail
      go_meet
      exact ⟨rfl, rfl⟩
    case false =>
      have h1b : (key.toList == []) = false := by rw [← keq_e]; exact h1
      cases h2 : keq ks key
      case true =>
        have h2b : (ks.toList == key.toList) = true := h2
        have hb : b3 = false := by rw [Hb3.out, h1, h2]; rfl
        subst hb
        clear h1 h2
        go_wp2_with fail
        go_meet
        exact ⟨rfl, rfl⟩
      case false =>
        have h2b : (ks.toList == key.toList) = false := h2
        have hb : b3 = true := by rw [Hb3.out, h1, h2]; rfl
        subst hb
        clear h1 h2
        go_wp2_with fail
        go_meet
        exact ⟨rfl, rfl⟩
  obtain ⟨rfl, hww⟩ := hcut
  rw [hww]
  clear c0 c1 c2 c3 c4 c5
  clear hww
  have HF5 : Hid ((if b3 = true then wr1 (plc (wq4 B q an ac)) q else plc (wq4 B q an ac)) = plc (wq5 B q an ac key)) := fq_out _ _ q b3 (fun a q' e => (by
    have := HZ8.out a.1 a.2 q' e
    rw [Hb3.out, this]
    unfold keyOk
    simp))
  go_upto_if 52 with fail
  go_cut [8] from 53 to 55 (fun t wx => t = .int .i64 (q : Nat) ∧ WS wB w wx R p N c B (plc (wq5 B q an ac key)) Y X #[.int .i64 zn, .int .i64 zc, .string ks, .bool false, .slice none 0 0, .slice none 0 0])
  case first =>
    cases b3 with
    | false =>
      have HF := HF5.out
      rw [if_neg (by simp)] at HF
      go_wp2_with fail
      go_meet
      exact ⟨rfl, HF ▸ HW9.out⟩
    | true =>
      have HF := HF5.out
      rw [if_pos rfl] at HF
      go_wp2_with fail
      refine (rwrong_any HW9.out.rs q).mono ?_
      rintro _ w10 ⟨rfl, ha10, hr10⟩
      have HW10 := hid (HW9.out.call ha10 (HF ▸ hr10))
      clear ha10 hr10
      try dsimp only
      go_wp2_with fail
      go_meet
      exact ⟨rfl, HW10.out⟩
  obtain ⟨rfl, hcw⟩ := hcut
  generalize wc = w10 at *
  have HW10 := hid hcw
  clear hcw
  go_wp2_with fail
  refine (rnumI_any HW10.out.rs (fun _ => 0) 1 0 (fun _ _ _ => ⟨rfl, by omega⟩) (by omega)).mono ?_
  rintro _ w11 ⟨ha11, zz, rfl, hr11, hz11⟩
  have HW11 : Hid (WS wB w w11 R p N c B (plc (wq6 B q an ac key)) Y X #[.int .i64 zn, .int .i64 zc, .string ks, .bool false, .slice none 0 0, .slice none 0 0]) := HW10.out.call ha11 hr11
  have HZ11 := hid hz11
  have HS11 := hid ha11
  clear ha11 hr11 hz11
  try dsimp only
  obtain ⟨zd, Hzd⟩ : ∃ zd : Bool, Hid (zd = decide (zz = 1)) := ⟨_, rfl⟩
  obtain ⟨c0, c1, c2, c3, c4, c5⟩ := row6 HW11.out.bx
  obtain ⟨w12, hw12⟩ : ∃ w12, w12 = w11.setCell ⟨X, 3, none⟩ (.bool zd) := ⟨_, rfl⟩
  have HW12 : Hid (WS wB w w12 R p N c B (plc (wq6 B q an ac key)) Y X #[.int .i64 zn, .int .i64 zc, .string ks, .bool zd, .slice none 0 0, .slice none 0 0]) := by
    unfold Hid
    rw [hw12]
    have := HW11.out.store 3 (.bool zd)
    simpa using this
  have f0 := frozen_of_row _ _ 3 _ _ HW11.out.bx
  have hzd : (decide (zz = 1)) = zd := Hzd.out.symm
  have hzd2 : (zz == 1) = zd := by rw [Hzd.out]; by_cases h : zz = 1 <;> simp [h]
  go_upto_region 11 with fail
  try rw [hzd]
  try rw [hzd2]
  rw [← hw12]
  clear hw12 f0 hzd hzd2
  clear c0 c1 c2 c3 c4 c5
  obtain ⟨c0, c1, c2, c3, c4, c5⟩ := row6 HW12.out.bx
  obtain ⟨q6, x6, hrx, hq1, hq2⟩ := HW12.out.rs
  obtain ⟨z0, z1, z2, z3, z4⟩ := hrx.cells
  have HQ1 := hid hq1
  have HQ2 := hid hq2
  clear hrx hq1 hq2
  obtain ⟨bv, Hbv⟩ : ∃ bv : Bool, Hid (bv = (!zd && decide (x6 < 0))) := ⟨_, rfl⟩
  go_cut [69] from 60 to 69 (fun t wx => t = .bool bv ∧ wx = w12)
  case first =>
    cases zd with
    | true =>
      have hb : bv = false := by rw [Hbv.out]; rfl
      subst hb
      go_wp2_with fail
      go_meet
      exact ⟨rfl, rfl⟩
    | false =>
      by_cases hx6 : x6 < 0
      · have hb : bv = true := by rw [Hbv.out]; simp [hx6]
        subst hb
        go_wp2_with fail
        go_meet
        exact ⟨rfl, rfl⟩
      · have hb : bv = false := by rw [Hbv.out]; simp [hx6]
        subst hb
        go_wp2_with fail
        go_meet
        exact ⟨rfl, rfl⟩
  obtain ⟨rfl, hww⟩ := hcut
  rw [hww]
  clear hww
  go_upto_if 69 with fail
  go_cut [] from 70 to 73 (fun wx => ∃ (sv : Sl) (bs : List Nat), WS wB w wx R p N c B (plc (wq7 B q an ac key)) Y X #[.int .i64 zn, .int .i64 zc, .string ks, .bool zd, .slice sv.p sv.n sv.c, .slice none 0 0] ∧ RdT wx sv.p 5 (byts bs) ∧ bs.length = sv.n ∧ sv.ok ∧ ∀ a q', wq7 B q an ac key = .ok (a, q') → bs = a.2)
  case first =>
    cases h6 : wq6 B q an ac key with
    | error y =>
      have hx := HQ2.out y (by rw [h6]; rfl)
      subst hx
      have hy : ¬ ((y : Nat) : Int) < 0 := by omega
      have h7 : wq7 B q an ac key = .error y := by unfold wq7; rw [h6]; rfl
      have HO : Hid (∃ (sv : Sl) (bs : List Nat), WS wB w w12 R p N c B (plc (wq7 B q an ac key)) Y X #[.int .i64 zn, .int .i64 zc, .string ks, .bool zd, .slice sv.p sv.n sv.c, .slice none 0 0] ∧ RdT w12 sv.p 5 (byts bs) ∧ bs.length = sv.n ∧ sv.ok ∧ ∀ a q', wq7 B q an ac key = .ok (a, q') → bs = a.2) := ⟨⟨none, 0, 0⟩, [], (by rw [h7, show plc (.error y : Except Nat (((((((Unit × Nat) × Nat) × List Nat) × Nat) × List Nat)) × Nat)) = plc (wq6 B q an ac key) from by rw [h6]; rfl]; exact HW12.out), RdT.nil _ _ _, rfl, fun _ => ⟨rfl, rfl⟩, fun a q' e => (by rw [h7] at e; cases e)⟩
      have hb : bv = false := by rw [Hbv.out, decide_eq_false hy]; simp
      subst hb
      clear h6 h7
      go_wp2_with fail
      go_meet
      exact HO.out
    | ok tt =>
      obtain ⟨⟨a6, dd⟩, q6'⟩ := tt
      obtain ⟨rfl, rfl⟩ := HQ1.out q6' (by rw [h6]; rfl)
      have hzz : zz = (dd : Nat) := HZ11.out a6 dd q6 h6
      by_cases hd : dd = 1
      · have hzd1 : zd = true := by rw [Hzd.out, hzz, hd]; rfl
        have h7 : wq7 B q an ac key = .ok (((a6, dd), []), q6) := by unfold wq7 vl; rw [h6, rb_ok]; unfold rvalue; rw [if_pos hd]; rfl
        subst hzd1
        have HO : Hid (∃ (sv : Sl) (bs : List Nat), WS wB w w12 R p N c B (plc (wq7 B q an ac key)) Y X #[.int .i64 zn, .int .i64 zc, .string ks, .bool true, .slice sv.p sv.n sv.c, .slice none 0 0] ∧ RdT w12 sv.p 5 (byts bs) ∧ bs.length = sv.n ∧ sv.ok ∧ ∀ a q', wq7 B q an ac key = .ok (a, q') → bs = a.2) := ⟨⟨none, 0, 0⟩, [], (by rw [h7, show plc (.ok (((a6, dd), []), q6) : Except Nat (((((((Unit × Nat) × Nat) × List Nat) × Nat) × List Nat)) × Nat)) = plc (wq6 B q an ac key) from by rw [h6]; rfl]; exact HW12.out), RdT.nil _ _ _, rfl, fun _ => ⟨rfl, rfl⟩, fun a q' e => (by rw [h7] at e; cases e; rfl)⟩
        have hb : bv = false := by rw [Hbv.out]; rfl
        subst hb
        clear h6 h7 hzz
        go_wp2_with fail
        go_meet
        exact HO.out
      · have hzd1 : zd = false := by rw [Hzd.out, hzz]; simp; omega
        have H7 : Hid (wq7 B q an ac key = tx B (wq6 B q an ac key) 0 64) := by unfold Hid wq7 vl tx; rw [h6, rb_ok, rb_ok]; unfold rvalue; rw [if_neg hd]
        have H6 := hid h6
        subst hzd1
        have hb : bv = true := by rw [Hbv.out]; simp
        subst hb
        clear h6 hzz
        go_wp2_with fail
        clear z0 z1 z2 z3 z4
        refine (rtext_any HW12.out.rs 0 64 (by omega) (by omega)).mono ?_
        rintro _ w13 ⟨ha13, s13, rfl, hr13, hz13⟩
        have HW13 := hid (HW12.out.call ha13 hr13)
        have HZ13 := hid hz13
        clear ha13 hr13 hz13 c0 c1 c2 c3 c4 c5
        try dsimp only
        obtain ⟨sv, w14, hcv, ha14, hok, hrd, hlen⟩ := conv_str w13 s13
        have HW14 := hid (HW13.out.kept ha14)
        have HRd14 := hid hrd
        have HOK := hid hok
        have HLE := hid hlen
        obtain ⟨w15, hw15⟩ : ∃ w15, w15 = w14.setCell ⟨X, 4, none⟩ (.slice sv.p sv.n sv.c) := ⟨_, rfl⟩
        have HW15 : Hid (WS wB w w15 R p N c B (plc (wq7 B q an ac key)) Y X #[.int .i64 zn, .int .i64 zc, .string ks, .bool false, .slice sv.p sv.n sv.c, .slice none 0 0]) := by
          unfold Hid
          rw [hw15, H7.out]
          have := HW14.out.store 4 (.slice sv.p sv.n sv.c)
          simpa using this
        have HRd15 : Hid (RdT w15 sv.p 5 (byts (bsk s13))) := by
          unfold Hid
          rw [hw15]
          exact HRd14.out.kept ((Apart.refl [X] _).setCell (.inl (by simp)) _) (by intro k hk cur m e; simp at hk; rw [hk, HW14.out.bx] at e; simp at e)
        have f0 := frozen_of_row _ _ 4 _ _ HW14.out.bx
        obtain ⟨c0, c1, c2, c3, c4, c5⟩ := row6 HW14.out.bx
        clear ha14 hok hrd hlen
        go_wp2_with fail
        rw [← hw15]
        go_meet
        refine ⟨sv, bsk s13, HW15.out, HRd15.out, HLE.out, HOK.out, fun a q' e => ?_⟩
        rw [H7.out] at e
        obtain ⟨q0, h0, h1⟩ := tx_prev e
        rw [HZ13.out a.1 a.2 q' e]
        exact bsk_strB (rtext_b8 HB8.out h1).1
  clear z0 z1 z2 z3 z4
  clear c0 c1 c2 c3 c4 c5
  generalize wc = w15 at *
  obtain ⟨sv, bs, hws, hrd, hbl, hvo, hbs⟩ := hcut
  have HW15 := hid hws
  have HRd15 := hid hrd
  have HBL := hid hbl
  have HVO := hid hvo
  have HBS := hid hbs
  clear hws hrd hbl hvo hbs
  have HZ7 : Hid (∀ a q', wq7 B q an ac key = .ok (a, q') → zn = (a.1.1.1.1.2 : Nat) ∧ zc = (a.1.1.1.2 : Nat) ∧ ks = strB a.1.1.2 ∧ zd = decide (a.1.2 = 1)) := fun a q' e => (by
    obtain ⟨q6, e6, _⟩ := vl_prev e
    obtain ⟨q5, e5, _⟩ := nx_prev2 e6
    obtain ⟨e4, _⟩ := fq_prev e5
    obtain ⟨q3, e3, _⟩ := tx_prev e4
    obtain ⟨e2, _⟩ := fq_prev e3
    obtain ⟨k1, k2⟩ := HZ24.out _ _ e2
    have k3 := HZ11.out a.1.1 a.1.2 q6 e6
    refine ⟨k1, k2, HZ8.out a.1.1.1 a.1.1.2 q5 e4, ?_⟩
    rw [Hzd.out, k3]
    by_cases hh : a.1.2 = 1
    · simp [hh]
    · have : ¬ ((a.1.2 : Nat) : Int) = 1 := by omega
      simp [hh, this])
  obtain ⟨qa, xa, hra, hqa1, hqa2⟩ := HW15.out.rs
  have HQA := hid hqa1
  obtain ⟨z0, z1, z2, z3, z4⟩ := hra.cells
  clear hra hqa1 hqa2
  go_wp2_with fail
  clear z0 z1 z2 z3 z4
  have HTR : Hid (∀ k ∈ [R], ∀ cur m, w15.heap[k]? ≠ some (.cells cur 5 m)) := by
    intro k hk cur m e
    simp at hk
    obtain ⟨cu, hb, _⟩ := HW15.out.rs.blk
    rw [hk, hb] at e
    simp at e
  refine (rsetX_any HW15.out.rs false 18446744073709551615 rfl).mono ?_
  rintro _ w16 ⟨ha16, sx, l, rfl, hl8, hs16, hr16, hz16⟩
  have HW16 := hid (HW15.out.call ha16 hr16)
  have HRd16 := hid (HRd15.out.kept ha16 HTR.out)
  have HSX := hid hs16
  have HZ16 := hid hz16
  clear ha16 hr16 hs16 hz16
  try dsimp only
  obtain ⟨c0, c1, c2, c3, c4, c5⟩ := row6 HW16.out.bx
  obtain ⟨w17, hw17⟩ : ∃ w17, w17 = w16.setCell ⟨X, 5, none⟩ (.slice sx.p sx.n sx.c) := ⟨_, rfl⟩
  have HW17 : Hid (WS wB w w17 R p N c B (plc (st B (wq7 B q an ac key) 18446744073709551615)) Y X #[.int .i64 zn, .int .i64 zc, .string ks, .bool zd, .slice sv.p sv.n sv.c, .slice sx.p sx.n sx.c]) := by
    unfold Hid
    rw [hw17]
    have := HW16.out.store 5 (.slice sx.p sx.n sx.c)
    simpa using this
  have f0 := frozen_of_row _ _ 5 _ _ HW16.out.bx
  have HRd17 : Hid (RdT w17 sv.p 5 (byts bs)) := by
    unfold Hid
    rw [hw17]
    exact HRd16.out.kept ((Apart.refl [X] _).setCell (.inl (by simp)) _) (by intro k hk cur m e; simp at hk; rw [hk, HW16.out.bx] at e; simp at e)
  have HN17 : Hid (Nw wB w17 48 3 sx (flat l)) := by
    unfold Hid
    rw [hw17]
    refine HSX.out.1.keepT ((Apart.refl [X] _).setCell (.inl (by simp)) _) ?_ (by intro k hk cur e; simp at hk; rw [hk, HW16.out.bx] at e; simp at e)
    exact HSX.out.1.ap.trans' ((Apart.refl [X] _).setCell (.inl (by simp)) _) (by intro y hy; simp at hy; rw [hy]; exact .inr HW16.out.bX)
  obtain ⟨own, HOW⟩ : ∃ own, Hid (own = hasv (norm l) zn zc) := ⟨_, rfl⟩
  have HCH : Hid (Calls Tryz.prog 92 #[.slice sx.p sx.n sx.c, .agg #[.int .i64 zn, .int .i64 zc]] w17 fun r w' => r = .returned (.bool own) ∧ Apart [] w17 w') := rhas_ok zn zc ⟨Sp.of_rd HN17.out.rd, HSX.out.2.1.symm, by have := HSX.out.2.1; omega, HSX.out.2.2⟩ own HOW.out
  obtain ⟨d0, d1, d2, d3, d4, d5⟩ := row6 HW17.out.bx
  rw [hw17] at d0 d1 d2 d3 d4 d5
  go_wp2_with fail
  rw [← hw17]
  clear hw17 f0 d0 d1 d2 d3 d4 d5
  clear c0 c1 c2 c3 c4 c5
  refine HCH.out.mono ?_
  rintro _ w18 ⟨rfl, ha18⟩
  have HW18 := hid (HW17.out.kept ha18)
  have HRd18 := hid (HRd17.out.kept ha18 (by simp))
  have HN18 := hid (HN17.out.kept ha18)
  clear ha18
  try dsimp only
  have HFN : Hid ((if own = true then wr1 (plc (st B (wq7 B q an ac key) 18446744073709551615)) qa else plc (st B (wq7 B q an ac key) 18446744073709551615)) = plc (rwrite B q an ac key)) := by
    unfold Hid
    rw [rwrite_link]
    exact fin_out B (wq7 B q an ac key) 18446744073709551615 qa (fun a xs => hasd xs (mkW a xs).n (mkW a xs).c) mkW own (fun q' e => (HQA.out q' e).1) (fun a l' q' e => (by
      obtain ⟨q4, e7, _⟩ := st_prev e
      obtain ⟨k1, k2, _, _⟩ := HZ7.out a q4 e7
      rw [HZ16.out a l' q' e, HOW.out, k1, k2]
      rfl))
  go_upto_if 86 with fail
  go_cut [] from 87 to 89 (fun wx => WS wB w wx R p N c B (plc (rwrite B q an ac key)) Y X #[.int .i64 zn, .int .i64 zc, .string ks, .bool zd, .slice sv.p sv.n sv.c, .slice sx.p sx.n sx.c] ∧ RdT wx sv.p 5 (byts bs) ∧ Nw wB wx 48 3 sx (flat l))
  case first =>
    cases own with
    | false =>
      have HF := HFN.out
      rw [if_neg (by simp)] at HF
      go_wp2_with fail
      go_meet
      exact ⟨HF ▸ HW18.out, HRd18.out, HN18.out⟩
    | true =>
      have HF := HFN.out
      rw [if_pos rfl] at HF
      have HTR2 : Hid (∀ k ∈ [R], ∀ cur m, w18.heap[k]? ≠ some (.cells cur 5 m)) := by
        intro k hk cur m e
        simp at hk
        obtain ⟨cu, hb, _⟩ := HW18.out.rs.blk
        rw [hk, hb] at e
        simp at e
      go_wp2_with fail
      refine (rwrong_any HW18.out.rs qa).mono ?_
      rintro _ w19 ⟨rfl, ha19, hr19⟩
      have HW19 := hid (HW18.out.call ha19 (HF ▸ hr19))
      have HRd19 := hid (HRd18.out.kept ha19 HTR2.out)
      have HN19 := hid (HN18.out.rd107 HW18.out.rs ha19 (by decide))
      clear ha19 hr19
      try dsimp only
      go_wp2_with fail
      go_meet
      exact ⟨HW19.out, HRd19.out, HN19.out⟩
  generalize wc = w19 at *
  obtain ⟨hws, hrd, hnw⟩ := hcut
  have HW19 := hid hws
  have HRd19 := hid hrd
  have HN19 := hid hnw
  clear hws hrd hnw
  obtain ⟨c0, c1, c2, c3, c4, c5⟩ := row6 HW19.out.bx
  obtain ⟨y0, y1, y2, y3, y4, y5⟩ := row6 HW19.out.by'
  have f0 := frozen_of_row _ _ 0 _ _ HW19.out.by'
  have f1 := frozen_of_row _ _ 1 _ _ HW19.out.by'
  have f2 := frozen_of_row _ _ 2 _ _ HW19.out.by'
  have f3 := frozen_of_row _ _ 3 _ _ HW19.out.by'
  have f4 := frozen_of_row _ _ 4 _ _ HW19.out.by'
  have f5 := frozen_of_row _ _ 5 _ _ HW19.out.by'
  obtain ⟨wz, Hwz⟩ : ∃ wz, Hid (wz = ((((((w19.setCell ⟨Y, 0, none⟩ (.int .i64 zn)).setCell ⟨Y, 1, none⟩ (.int .i64 zc)).setCell ⟨Y, 2, none⟩ (.string ks)).setCell ⟨Y, 3, none⟩ (.bool zd)).setCell ⟨Y, 4, none⟩ (.slice sv.p sv.n sv.c)).setCell ⟨Y, 5, none⟩ (.slice sx.p sx.n sx.c))) := ⟨_, rfl⟩
  have HYz : Hid (wz.heap[Y]? = some (.cells #[.int .i64 zn, .int .i64 zc, .string ks, .bool zd, .slice sv.p sv.n sv.c, .slice sx.p sx.n sx.c] 37 (0, 0))) := by
    unfold Hid
    rw [Hwz.out]
    have h1 := heap_setCell_same w19 Y 0 _ 37 (.int .i64 zn) HW19.out.by'
    have h2 := heap_setCell_same _ Y 1 _ 37 (.int .i64 zc) h1
    have h3 := heap_setCell_same _ Y 2 _ 37 (.string ks) h2
    have h4 := heap_setCell_same _ Y 3 _ 37 (.bool zd) h3
    have h5 := heap_setCell_same _ Y 4 _ 37 (.slice sv.p sv.n sv.c) h4
    have h6 := heap_setCell_same _ Y 5 _ 37 (.slice sx.p sx.n sx.c) h5
    simpa using h6
  have HSz : Hid (Apart [Y] w19 wz) := by unfold Hid; rw [Hwz.out]; exact (((((((Apart.refl _ _).setCell (.inl (by simp)) _).setCell (.inl (by simp)) _).setCell (.inl (by simp)) _).setCell (.inl (by simp)) _).setCell (.inl (by simp)) _).setCell (.inl (by simp)) _)
  have HAz : Hid (Apart [R] w wz) := HW19.out.ap.trans' HSz.out (by intro y hy; simp at hy; rw [hy]; exact .inr HW19.out.wY)
  have HRz := hid (HW19.out.rs.app HSz.out (by intro y hy; simp at hy; rw [hy]; exact ⟨HW19.out.bY, _, 37, HW19.out.by', by decide⟩))
  have HRdz := hid (HRd19.out.kept HSz.out (by intro k hk cur m e; simp at hk; rw [hk, HW19.out.by'] at e; simp at e))
  have HNz : Hid (Nw wB wz 48 3 sx (flat l)) := HN19.out.keepT HSz.out (HN19.out.ap.trans' HSz.out (by intro y hy; simp at hy; rw [hy]; exact .inr HW19.out.bY)) (by intro k hk cur e; simp at hk; rw [hk, HW19.out.by'] at e; simp at e)
  go_wp2_with fail
  rw [← Hwz.out]
  refine bodyPost_ret (results_cell_row rfl _ _ Y 37 _ _ _ rfl HYz.out Tryz.underlying37 rfl size41) rfl ?_
  refine ⟨HAz.out, ?_⟩
  obtain ⟨qz, xz, hrz, hz1, hz2⟩ := HRz.out
  cases hrw : rwrite B q an ac key with
  | error x =>
    have hx := hz2 x (by rw [hrw]; rfl)
    subst hx
    exact ⟨⟨_, rfl, ⟨zn, zc, ks, zd, sv, sx⟩, rfl⟩, qz, hrz⟩
  | ok tt =>
    obtain ⟨a, q'⟩ := tt
    obtain ⟨rfl, rfl⟩ := hz1 q' (by rw [hrw]; rfl)
    refine ⟨⟨_, rfl, ⟨zn, zc, ks, zd, sv, sx⟩, rfl, ?_⟩, hrz⟩
    obtain ⟨b, q4, e7, e8, ea⟩ := rw_ok hrw
    obtain ⟨k1, k2, k3, k4⟩ := HZ7.out b q4 e7
    have k5 := HBS.out b q4 e7
    have k6 := HZ16.out b a.xs _ e8
    obtain ⟨v1, v2⟩ := wq7_val HB8.out e7
    have hbl := HBL.out
    have hsn := HSX.out.2.1
    rw [k5] at hbl
    rw [ea]
    refine ⟨k1, k2, k3, k4, ?_, hbl, by show sv.n ≤ 2000000; omega, v1, HVO.out, ?_, ?_, ?_, ?_⟩
    · show RdT wz sv.p 5 (byts b.2)
      rw [← k5]; exact HRdz.out
    · show Nw wB wz 48 3 sx (flat a.xs)
      rw [k6]; exact HNz.out
    · show a.xs.length = sx.n
      rw [k6, hsn]
    · show sx.n ≤ 2000000
      rw [k6] at *
      omega
    · show ∀ y ∈ a.xs, y.t < 2 ^ 64
      rw [k6]; exact HSX.out.2.2
end Go.Proofs.YtddffdcjhleejaaGreat.ds
