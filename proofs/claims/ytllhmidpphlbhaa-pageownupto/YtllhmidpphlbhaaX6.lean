import Derived.Test.YtllhmidpphlbhaaX5
namespace Go.Proofs.Ytllhmidpphlbhaa.ds
open Go.ChangeShapes Go.WideShapes Go.ChangeAt Go.RowKit Go.Sort
set_option linter.unusedVariables false
set_option linter.unusedSimpArgs false

structure RdP (w : World) (B : List Nat) (e : Ending) (w' : World) : Prop where
  a : Apart [] w w'
  ex : ∃ (g o : Int) (sk sl : Sl), e = .returned (.tuple #[.agg (pgL ((checkR B).1 : Nat) g o sk sl), .int .i64 ((checkR B).2.1 : Nat), .int .i64 ((checkR B).2.2 : Nat)]) ∧ ((checkR B).2.2 = 0 → PC w w' B g o sk sl)
theorem row5v {w : World} {g : Nat} {t : TypeId} {a b c d e : Value} (h : w.heap[g]? = some (.cells #[a, b, c, d, e] t (0, 0))) : w.cell? ⟨g, 0, none⟩ = some a ∧ w.cell? ⟨g, 1, none⟩ = some b ∧ w.cell? ⟨g, 2, none⟩ = some c ∧ w.cell? ⟨g, 3, none⟩ = some d ∧ w.cell? ⟨g, 4, none⟩ = some e := by
  refine ⟨?_, ?_, ?_, ?_, ?_⟩ <;> (rw [cell_of_row _ _ _ _ _ _ h]; rfl)
theorem set5 {W : World} {B : Nat} {t : TypeId} {a b c d e : Value} (a' b' c' d' e' : Value) (h : W.heap[B]? = some (.cells #[a, b, c, d, e] t (0, 0))) : (((((W.setCell ⟨B, 0, none⟩ a').setCell ⟨B, 1, none⟩ b').setCell ⟨B, 2, none⟩ c').setCell ⟨B, 3, none⟩ d').setCell ⟨B, 4, none⟩ e').heap[B]? = some (.cells #[a', b', c', d', e'] t (0, 0)) ∧ Apart [B] W (((((W.setCell ⟨B, 0, none⟩ a').setCell ⟨B, 1, none⟩ b').setCell ⟨B, 2, none⟩ c').setCell ⟨B, 3, none⟩ d').setCell ⟨B, 4, none⟩ e') := by
  have h0 := heap_setCell_same W B 0 _ t a' h
  have h1 := heap_setCell_same _ B 1 _ t b' h0
  have h2 := heap_setCell_same _ B 2 _ t c' h1
  have h3 := heap_setCell_same _ B 3 _ t d' h2
  have h4 := heap_setCell_same _ B 4 _ t e' h3
  exact ⟨by simpa using h4, ((((((Apart.refl [B] W).setCell (.inl (by simp)) _).setCell (.inl (by simp)) _).setCell (.inl (by simp)) _).setCell (.inl (by simp)) _).setCell (.inl (by simp)) _)⟩
theorem zerosR_stay {B : List Nat} {s : Ps} (h : s.bad = true ∨ 2048 ≤ s.at_) : ∀ f, zerosR B f s = s
  | 0 => rfl
  | f + 1 => by
    unfold zerosR
    rw [if_neg]
    rintro ⟨h1, h2⟩
    rcases h with h | h
    · rw [h1] at h; cases h
    · omega
/-- how far the zeros are from their end -/
def mz (R : Nat) (w : World) : Nat := match w.cell? ⟨R, 1, none⟩, w.cell? ⟨R, 2, none⟩ with
  | some (.int _ a), some (.int _ b) => if b < 0 then (2049 - a).toNat else 0
  | _, _ => 0
theorem RX.mz {wB w : World} {R : Nat} {s0 : Sl} {B : List Nat} {s : Ps} (h : RX wB w R s0 B s) : mz R w = if s.bad = true then 0 else 2049 - s.at_ := by
  obtain ⟨a, hb, ha, ha2⟩ := h.ex
  unfold ds.mz
  have c1 := crow hb 1 (.int .i64 (a : Nat)) rfl
  have c2 := crow hb 2 (.int .i64 (wrP s)) rfl
  rw [c1, c2]
  show (if wrP s < 0 then (2049 - (a : Int)).toNat else 0) = _
  by_cases hbad : s.bad = true
  · have e1 : wrP s = (s.at_ : Int) := by unfold wrP; rw [if_pos hbad]
    rw [e1, if_neg (by omega), if_pos hbad]
  · have e1 : wrP s = -1 := by unfold wrP; rw [if_neg hbad]
    rw [e1, if_pos (by omega), if_neg hbad, ha (by simpa using hbad)]
    omega
theorem PG.keepR {w wx wy : World} {R F Y : Nat} {s0 : Sl} {B : List Nat} {s s' : Ps} (h : PG w wx R F Y s0 B s) (hr : RX w wy R s0 B s') (a : Apart [R] wx wy) (hb : s'.bad = false → s.bad = false) : PG w wy R F Y s0 B s' := by
  obtain ⟨g, o, sk, sl, h1, h2⟩ := h.y
  have tk := h.r.tk a
  exact ⟨hr, ⟨keepB a h.f.1 (h.r.neX h.f.1 (by decide)), h.f.2⟩, g, o, sk, sl, keepB a h1 (h.r.neX h1 (by decide)), fun hg => (h2 (hb hg)).keep tk hr.ap (by decide)⟩
set_option maxHeartbeats 32000000 in
set_option maxRecDepth 100000 in
theorem read_ok (w : World) (s0 : Sl) (B : List Nat) (hrd : Rd w s0.p (byts B)) (hlen : B.length = s0.n) (h8 : ∀ b ∈ B, b < 256) (hlim : s0.n ≤ 9223372036854775807) : Calls Try.prog 58 #[.slice s0.p s0.n s0.c] w fun e w' => RdP w B e w' := by
  obtain ⟨F, HXF⟩ : ∃ D, Hid (D = w.heap.size) := ⟨_, rfl⟩
  obtain ⟨w1, hw1⟩ : ∃ V, V = w.alloc (.cells #[.int .i64 0, .int .i64 0, .int .i64 0, .slice none 0 0, .slice none 0 0] 119) := ⟨_, rfl⟩
  have a1 : Apart [] w w1 := by rw [hw1]; exact (Apart.refl [] w).alloc _
  have hF1 : w1.heap[F]? = some (.cells #[.int .i64 0, .int .i64 0, .int .i64 0, .slice none 0 0, .slice none 0 0] 119 (0, 0)) := by rw [hw1, HXF.out]; exact heap_alloc_new w _
  by_cases hn : s0.n = 2048
  · have hni : ((s0.n : Nat) : Int) = 2048 := by omega
    obtain ⟨R, HXR⟩ : ∃ D, Hid (D = w1.heap.size) := ⟨_, rfl⟩
    obtain ⟨w2, hw2⟩ : ∃ V, V = w1.alloc (.cells #[.slice s0.p s0.n s0.c, .int .i64 0, .int .i64 (-1)] 140) := ⟨_, rfl⟩
    obtain ⟨Y, HXY⟩ : ∃ D, Hid (D = w2.heap.size) := ⟨_, rfl⟩
    obtain ⟨w3, hw3⟩ : ∃ V, V = w2.alloc (.cells #[.int .i64 0, .int .i64 0, .int .i64 0, .slice none 0 0, .slice none 0 0] 119) := ⟨_, rfl⟩
    have a2 : Apart [] w1 w2 := by rw [hw2]; exact (Apart.refl [] w1).alloc _
    have a3 : Apart [] w2 w3 := by rw [hw3]; exact (Apart.refl [] w2).alloc _
    have hR2 : w2.heap[R]? = some (.cells #[.slice s0.p s0.n s0.c, .int .i64 0, .int .i64 (-1)] 140 (0, 0)) := by rw [hw2, HXR.out]; exact heap_alloc_new w1 _
    have HY3 : Hid (w3.heap[Y]? = some (.cells #[.int .i64 0, .int .i64 0, .int .i64 0, .slice none 0 0, .slice none 0 0] 119 (0, 0))) := by unfold Hid; rw [hw3, HXY.out]; exact heap_alloc_new w2 _
    have HF3 := hid (keep0 (a2.trans a3) hF1)
    have HYw : Hid (w.heap.size ≤ Y) := by unfold Hid; rw [HXY.out]; exact (a1.trans a2).size
    have HFY : Hid (F ≠ Y) := by
      unfold Hid
      have := lt_of_heap (keep0 a2 hF1)
      rw [HXY.out]
      omega
    have HFw : Hid (w.heap.size ≤ F) := by unfold Hid; rw [HXF.out]; exact Nat.le_refl _
    have HR3 : Hid (RX w w3 R s0 B ⟨0, false⟩) := ⟨⟨0, keep0 a3 hR2, fun _ => rfl, by omega⟩, by rw [HXR.out]; exact a1.size, a1.trans (a2.trans a3), hrd, by omega, hn, h8, by simp⟩
    have HBL : Hid (B.length = 2048) := by unfold Hid; omega
    have HRD := hid hrd
    have HB8 := hid h8
    have HN := hid hn
    have hbe : (((s0.n : Nat) : Int) != 2048) = false := by rw [hni]; rfl
    clear a1 a2 a3 hR2 hF1 hrd h8 hlen hn hni
    go_enter Try.func58, Try.ntmps58
    go_upto_region 1 with fail
    rw [← hw1, ← HXF.out]
    clear hw1
    go_upto_region 4 with fail
    rw [← hw2, ← HXR.out]
    clear hw2
    go_upto_region 5 with fail
    rw [← hw3, ← HXY.out]
    clear hw3
    go_wp2_with fail
    refine (field_ok HR3.out 1 1 3 (by omega) (by omega) (by omega) (fun _ => by dsimp only; omega)).mono ?_
    rintro _ w4 ⟨rfl, hr4, ha4⟩
    obtain ⟨K, HK⟩ : ∃ A, Hid (A = num B 1 1 3 ⟨0, false⟩) := ⟨_, rfl⟩
    rw [← HK.out] at hr4 ⊢
    have hY4 := keepB ha4 HY3.out (HR3.out.neX HY3.out (by decide))
    have HF4 := hid (keepB ha4 HF3.out (HR3.out.neX HF3.out (by decide)))
    have y0 := crow hY4 0 _ rfl
    have f0 := frozen_of_row _ _ 0 _ _ hY4
    obtain ⟨w5, hw5⟩ : ∃ V, V = w4.setCell ⟨Y, 0, none⟩ (.int .i64 (K.1 : Nat)) := ⟨_, rfl⟩
    obtain ⟨hY5, a5, tk5⟩ := y_set (k := 0) (g := 0) (o := 0) (sk := slz) (sl := slz) hY4 0 (.int .i64 (K.1 : Nat))
    rw [← hw5] at hY5 a5 tk5
    have HY5 : Hid (w5.heap[Y]? = some (.cells (pgL (K.1 : Nat) 0 0 slz slz) 119 (0, 0))) := hY5
    have HR5 := hid (hr4.other a5 (HR3.out.neX HY3.out (by decide)) HYw.out)
    have HF5 : Hid (w5.heap[F]? = some (.cells (pgL 0 0 0 slz slz) 119 (0, 0)) ∧ F ≠ Y) := ⟨keepB a5 HF4.out HFY.out, HFY.out⟩
    clear hr4 ha4 hY4 hY5 a5 tk5 HF4 HR3 HY3 HF3
    try dsimp only
    go_upto_region 6 with fail
    rw [← hw5]
    clear hw5 y0 f0
    have y0 := crow HY5.out 0 (.int .i64 (K.1 : Nat)) rfl
    have HB0 : Hid ((bodyR B).1 = (headR B ⟨0, false⟩).1) := rfl
    have hK3 : K.1 ≤ 3 := by rw [HK.out]; exact num_le B 1 1 3 _
    by_cases hk1 : K.1 = 1
    · skip
      have i1 : (((K.1 : Nat) : Int) == 1) = true := by rw [hk1]; rfl
      have HK1 := hid hk1
      have HKl : Hid (K.2.bad = false → K.2.at_ ≤ 1) := fun _ => by rw [HK.out]; have := (num_at B 1 1 3 ⟨0, false⟩).2; dsimp only at this; omega
      clear hk1
      go_wp2_with fail
      refine (field_ok HR5.out 6 0 281474976710655 (by omega) (by omega) (by omega) (fun hg => by have := HKl.out hg; omega)).mono ?_
      rintro _ w6 ⟨rfl, hr6, ha6⟩
      obtain ⟨Gg, HGg⟩ : ∃ A, Hid (A = num B 6 0 281474976710655 K.2) := ⟨_, rfl⟩
      rw [← HGg.out] at hr6 ⊢
      have HGl : Hid (Gg.2.bad = false → Gg.2.at_ ≤ 7) := fun hg => by
        have h1 := num_at B 6 0 281474976710655 K.2
        rw [HGg.out] at hg ⊢
        have := HKl.out (num_ok1 hg)
        omega
      have hY6 := keepB ha6 HY5.out (HR5.out.neX HY5.out (by decide))
      have HF6 := hid (keepB ha6 HF5.out.1 (HR5.out.neX HF5.out.1 (by decide)))
      have y1 := crow hY6 1 (.int .i64 0) rfl
      have f1 := frozen_of_row _ _ 1 _ _ hY6
      obtain ⟨w7, hw7⟩ : ∃ V, V = w6.setCell ⟨Y, 1, none⟩ (.int .i64 (Gg.1 : Nat)) := ⟨_, rfl⟩
      obtain ⟨hY7, a7, tk7⟩ := y_set hY6 1 (.int .i64 (Gg.1 : Nat))
      rw [← hw7] at hY7 a7 tk7
      have HY7 : Hid (w7.heap[Y]? = some (.cells (pgL (K.1 : Nat) (Gg.1 : Nat) 0 slz slz) 119 (0, 0))) := hY7
      have HR7 := hid (hr6.other a7 (hr6.neX hY6 (by decide)) HYw.out)
      have HF7 : Hid (w7.heap[F]? = some (.cells (pgL 0 0 0 slz slz) 119 (0, 0)) ∧ F ≠ Y) := ⟨keepB a7 HF6.out HF5.out.2, HF5.out.2⟩
      clear hr6 ha6 hY6 hY7 a7 tk7 HF6 HR5 HY5 HF5 y0
      try dsimp only
      go_upto_region 9 with fail
      rw [← hw7]
      clear hw7 y1 f1
      go_wp2_with fail
      refine (field_ok HR7.out 1 0 16 (by omega) (by omega) (by omega) (fun hg => by have := HGl.out hg; omega)).mono ?_
      rintro _ w8 ⟨rfl, hr8, ha8⟩
      obtain ⟨Mm, HMm⟩ : ∃ A, Hid (A = num B 1 0 16 Gg.2) := ⟨_, rfl⟩
      rw [← HMm.out] at hr8 ⊢
      have hM16 : Mm.1 ≤ 16 := by rw [HMm.out]; exact num_le B 1 0 16 _
      have HMl : Hid (Mm.2.bad = false → Mm.2.at_ ≤ 8) := fun hg => by
        have h1 := num_at B 1 0 16 Gg.2
        rw [HMm.out] at hg ⊢
        have := HGl.out (num_ok1 hg)
        omega
      have hY8 := keepB ha8 HY7.out (HR7.out.neX HY7.out (by decide))
      have hF8 := keepB ha8 HF7.out.1 (HR7.out.neX HF7.out.1 (by decide))
      have HHD : Hid (headR B ⟨0, false⟩ = (⟨1, Gg.1, 0, Mm.1, 0, 0⟩, Mm.2)) := by
        unfold Hid headR
        dsimp only
        rw [← HK.out, if_pos HK1.out, ← HGg.out, ← HMm.out, HK1.out]
      have HBB : Hid (bodyR B = (⟨1, Gg.1, 0, Mm.1, 0, 0⟩, (clocksR B Mm.1 0 Mm.2).2)) := by
        unfold Hid bodyR
        dsimp only
        rw [HHD.out]
        rfl
      have HI : Hid (YC w w8 R Y F s0 B K.1 Gg.1 Mm.1 Mm.2 0 slz [] 0 Mm.2 []) := ⟨hr8, hY8, ⟨hF8, HF7.out.2⟩, ⟨World.ownsRow_nil _ _ _ _, by simp [Sl.v, slz, Value.ownBlock], hr8.ap⟩, rfl, rfl, fun _ => ⟨rfl, rfl, fun j hj => by simp at hj⟩, fun hg => by have := HMl.out hg; omega, by omega⟩
      clear hr8 ha8 hY8 hF8 HR7 HY7 HF7
      try dsimp only
      go_wp2_with fail
      go_loopw [8, 9, 10, 11] (fun b c _ _ wt => ∃ (i : Nat) (sk : Sl) (kk : List Ck) (lo : Nat) (s' : Ps) (zs : List (Int × List S)), b = .int .i64 ((lo : Int) - 1) ∧ c = .int .i64 (i : Nat) ∧ i ≤ Mm.1 ∧ YC w wt R Y F s0 B K.1 Gg.1 Mm.1 Mm.2 i sk kk lo s' zs) (fun _ c _ _ _ => Mm.1 - (intOf c).toNat)
      case atStart => exact ⟨0, slz, [], 0, Mm.2, [], rfl, rfl, Nat.zero_le _, HI.out⟩
      case round =>
        clear HI
        obtain ⟨i, sk, kk, lo, s', zs, rfl, rfl, him, hI⟩ := hrel
        have HI := hid hI
        have z2 := hI.r.row.1
        clear hI
        generalize wr = wq at *
        obtain ⟨cc, Hcc⟩ : ∃ c : Bool, Hid (c = (decide (i < Mm.1) && !s'.bad)) := ⟨_, rfl⟩
        go_upto_region 12 with fail
        go_cut [52] from 43 to 52 (fun s52 wx => .bool cc = s52 ∧ wx = wq)
        case first =>
          by_cases hlt : i < Mm.1
          · have hlti : ((i : Nat) : Int) < (Mm.1 : Int) := by omega
            cases hb : s'.bad with
            | true =>
              have e1 : wrP s' = (s'.at_ : Int) := by unfold wrP; rw [if_pos hb]
              have hng : ¬ ((s'.at_ : Nat) : Int) < 0 := by omega
              have HD : Hid (cc = false) := by unfold Hid; rw [Hcc.out, hb]; simp
              rw [e1] at z2
              clear e1 hb
              go_wp2_with fail
              go_meet
              exact ⟨by first | (rw [HD.out]; done) | (rw [HD.out]; simp; omega), rfl⟩
            | false =>
              have e1 : wrP s' = -1 := by unfold wrP; rw [if_neg (by rw [hb]; simp)]
              have HD : Hid (cc = true) := by unfold Hid; rw [Hcc.out, hb]; simp [hlt]
              rw [e1] at z2
              clear e1 hb
              go_wp2_with fail
              go_meet
              exact ⟨by first | (rw [HD.out]; done) | (rw [HD.out]; simp), rfl⟩
          · have hlti : ¬ ((i : Nat) : Int) < (Mm.1 : Int) := by omega
            have HD : Hid (cc = false) := by unfold Hid; rw [Hcc.out]; simp [hlt]
            go_wp2_with fail
            go_meet
            exact ⟨by first | (rw [HD.out]; done) | (rw [HD.out]; simp), rfl⟩
        obtain ⟨rfl, hwc⟩ := hcut
        rw [hwc]
        clear hwc wc z2
        cases cc with
        | true =>
          have hc := Hcc.out.symm
          simp only [Bool.and_eq_true, decide_eq_true_eq, Bool.not_eq_true'] at hc
          obtain ⟨hlt, hgood⟩ := hc
          obtain ⟨q, bad⟩ := s'
          dsimp only at hgood
          subst hgood
          have hlo := HI.out.lo16
          have hrm := HI.out.rm rfl
          dsimp only at hrm
          have hwl : IntKind.i64.wrap ((lo : Int) - 1 + 1) = ((lo : Nat) : Int) := by rw [IntKind.wrap_i64]; omega
          go_wp2_with fail
          refine (field_ok HI.out.r 1 lo 15 (by omega) (by omega) (by omega) (fun _ => by dsimp only; omega)).mono ?_
          rintro _ wa ⟨rfl, hra, haa⟩
          have HRa := hid hra
          have HAa := hid haa
          clear hra haa
          try dsimp only
          go_wp2_with fail
          refine (rsetX_ok HRa.out 0 0 (by omega) (by omega) (fun hg => by
            have h1 := num_at B 1 lo 15 ⟨q, false⟩
            dsimp only at h1
            omega)).mono ?_
          rintro _ wb ⟨⟨tx, rfl, hnx⟩, hrb, hab⟩
          obtain ⟨hy3, s2, W2, hrun, hy4, zs2, hI2⟩ := HI.out.next hlt hM16 HYw.out HRa.out HAa.out hrb hab hnx
          have HRUN := hid hrun
          have HI2 := hid hI2
          have v3 := crow hy3 3 (.slice sk.p sk.n sk.c) rfl
          have u3 := crow hy4 3 (.slice sk.p sk.n sk.c) rfl
          have g3 := frozen_of_row _ _ 3 _ _ hy4
          have hA15 := num_le B 1 lo 15 ⟨q, false⟩
          have hwb : (((num B 1 lo 15 ⟨q, false⟩).1 : Nat) : Int) = (((num B 1 lo 15 ⟨q, false⟩).1 + 1 : Nat) : Int) - 1 := by omega
          have HWB := hid hwb
          clear hnx hrb hab hrun hI2 hy3 hy4 hwb
          try dsimp only
          go_wp2_with (at_builtin; refine wpList_app2 rfl (.tmp 63) (.tmp 67) 22 22 rfl _ _ rfl rfl _ _ HRUN.out ?_)
          go_roundw
          case rel => exact ⟨i + 1, s2, _, _, _, zs2, by rw [HWB.out], by go_num, by omega, HI2.out⟩
          case measure => simp [intOf]; omega
        | false =>
          have hst : (clocksR B Mm.1 0 Mm.2).2 = s' := by
            rw [HI.out.st]
            have hc := Hcc.out.symm
            simp only [Bool.and_eq_false_iff, decide_eq_false_iff_not, Bool.not_eq_false'] at hc
            rcases hc with hc | hc
            · rw [show Mm.1 - i = 0 by omega]; rfl
            · exact clocksR_bad B _ _ hc
          have HPG : Hid (PG w wq R F Y s0 B (bodyR B).2) := by
            unfold Hid
            rw [HBB.out]
            dsimp only
            rw [hst]
            refine ⟨HI.out.r, HI.out.f, (Gg.1 : Nat), 0, sk, slz, ?_, fun hg => ?_⟩
            · rw [HBB.out, HI.out.y, HK1.out]
            · have hc := Hcc.out.symm
              rw [hg] at hc
              simp only [Bool.not_false, Bool.and_true, decide_eq_false_iff_not] at hc
              have hli := HI.out.li (by rw [hst]; exact hg)
              rw [show Mm.1 - i = 0 by omega] at hli
              have e1 : zs = csOf B := by
                unfold csOf
                rw [HHD.out]
                dsimp only
                rw [hli.1]
                exact (List.append_nil _).symm
              refine ⟨by rw [HHD.out], by rw [HHD.out]; rfl, fun _ => ⟨rfl, kk, HI.out.l, by rw [← e1]; exact hli.2⟩, fun hk => by rw [HHD.out] at hk; exact absurd rfl hk⟩
          clear HI hst Hcc
          go_wp2_with fail
          go_loopw [] (fun wt => ∃ (f : Nat) (s' : Ps), PG w wt R F Y s0 B s' ∧ endR B = zerosR B f s' ∧ (s'.bad = true ∨ 2048 ≤ s'.at_ + f)) (fun wt => mz R wt)
          case atStart => exact ⟨2048, (bodyR B).2, HPG.out, rfl, .inr (by omega)⟩
          case round =>
            clear HPG
            obtain ⟨f, s', hpg, hend, hfu⟩ := hrel
            have HPG := hid hpg
            have HEND := hid hend
            have HFU := hid hfu
            have z2 := hpg.r.row.1
            have z1 := hpg.r.row.2.1
            clear hpg hend hfu
            by_cases hbad : s'.bad = true
            · have e1 : wrP s' = (s'.at_ : Int) := by unfold wrP; rw [if_pos hbad]
              rw [e1] at z2
              have hng : ¬ ((s'.at_ : Nat) : Int) < 0 := by omega
              have hge : (0 : Int) ≤ ((s'.at_ : Nat) : Int) := by omega
              have HE : Hid (endR B = s') := by unfold Hid; rw [HEND.out]; exact zerosR_stay (.inl hbad) f
              have HCK : Hid (checkR B = (0, s'.at_, 70)) := by unfold Hid checkR; rw [if_pos HBL.out, HE.out, if_pos hbad]
              have hS : wr.drew.cell? ⟨R, 2, none⟩ = some (.int .i64 (s'.at_ : Nat)) := z2
              have HFd := hid (keep0 (Apart.refl [] wr).drew HPG.out.f.1)
              have HWd : Hid (Apart [] w wr.drew) := HPG.out.r.ap.drew
              have HRF : Hid (R ≠ F) := fun h => HPG.out.r.neX HPG.out.f.1 (by decide) h.symm
              have HRl : Hid (R < wr.drew.heap.size) := HPG.out.r.row.2.2
              clear z1 e1 hbad
              go_upto_region 38 with fail
              clear z2
              refine wp_region_held_drew (S := fun W => W.cell? ⟨R, 2, none⟩ = some (.int .i64 (s'.at_ : Nat))) (by kernel_rfl) hS (fun hHeld => ?_)
              generalize wr.drew = wd at *
              refine tk 0 146 (.agg #[.int .i64 0, .int .i64 0, .int .i64 0, .slice none 0 0, .slice none 0 0]) rfl ?_ ?_
              · intro W hSW; go_simp
              simp only [Act.put, List.setIfInBounds_toArray, List.set_cons_zero, List.set_cons_succ]
              refine tk 1 147 (.pointer (some ⟨R, 0, none⟩)) rfl ?_ ?_
              · intro W hSW; go_simp
              simp only [Act.put, List.setIfInBounds_toArray, List.set_cons_zero, List.set_cons_succ]
              refine tk 2 148 (.pointer (some ⟨R, 0, none⟩)) rfl ?_ ?_
              · intro W hSW; go_simp
              simp only [Act.put, List.setIfInBounds_toArray, List.set_cons_zero, List.set_cons_succ]
              refine tk 3 149 (.pointer (some ⟨R, 2, none⟩)) rfl ?_ ?_
              · intro W hSW; go_simp
              simp only [Act.put, List.setIfInBounds_toArray, List.set_cons_zero, List.set_cons_succ]
              refine tk 4 150 (.int .i64 (s'.at_ : Nat)) rfl ?_ ?_
              · intro W hSW; go_simp
              simp only [Act.put, List.setIfInBounds_toArray, List.set_cons_zero, List.set_cons_succ]
              obtain ⟨b0, b1, b2, b3, b4⟩ := row5v HFd.out
              have p0 := frozen_of_row _ _ 0 _ _ HFd.out
              have p1 := frozen_of_row _ _ 1 _ _ HFd.out
              have p2 := frozen_of_row _ _ 2 _ _ HFd.out
              have p3 := frozen_of_row _ _ 3 _ _ HFd.out
              have p4 := frozen_of_row _ _ 4 _ _ HFd.out
              obtain ⟨hFe, ae⟩ := set5 (.int .i64 0) (.int .i64 0) (.int .i64 0) (.slice none 0 0) (.slice none 0 0) HFd.out
              obtain ⟨we, hwe⟩ : ∃ V, V = ((((wd.setCell ⟨F, 0, none⟩ (.int .i64 0)).setCell ⟨F, 1, none⟩ (.int .i64 0)).setCell ⟨F, 2, none⟩ (.int .i64 0)).setCell ⟨F, 3, none⟩ (.slice none 0 0)).setCell ⟨F, 4, none⟩ (.slice none 0 0) := ⟨_, rfl⟩
              rw [← hwe] at hFe ae
              have hSe : we.cell? ⟨R, 2, none⟩ = some (.int .i64 (s'.at_ : Nat)) := (ae.cell (p := ⟨R, 2, none⟩) HRl.out (by simp; exact HRF.out)).trans hS
              have HFe := hid hFe
              have HWe : Hid (Apart [] w we) := HWd.out.trans' ae (fun y hy => by simp at hy; exact .inr (by rw [hy]; exact HFw.out))
              clear hFe ae
              refine wpAnyH_ready (rs := [5]) (by kernel_rfl) (by simp) ?_
              refine AllReadyH.cons rfl (fun KK hKK => ?_) AllReadyH.nil
              go_simp
              rw [← hwe]
              refine hKK.out _ _ hSe (fun hHeld => ?_)
              clear hKK KK
              try simp only [Act.put, List.setIfInBounds_toArray, List.set_cons_zero, List.set_cons_succ]
              refine tk 6 3 (.int .i64 (s'.at_ : Nat)) rfl ?_ ?_
              · intro W hSW; go_simp
              simp only [Act.put, List.setIfInBounds_toArray, List.set_cons_zero, List.set_cons_succ]
              refine tk 7 4 (.int .i64 70) rfl ?_ ?_
              · intro W hSW; go_simp
              simp only [Act.put, List.setIfInBounds_toArray, List.set_cons_zero, List.set_cons_succ]
              refine wpAnyH_done (by kernel_rfl) ?_ _
              clear hHeld hS hSe hwe b0 b1 b2 b3 b4 p0 p1 p2 p3 p4
              go_wp2_with fail
              obtain ⟨d0, d1, d2, d3, d4⟩ := row5v HFe.out
              have HP : Hid (RdP w B (.returned (.tuple #[.agg #[.int .i64 0, .int .i64 0, .int .i64 0, .slice none 0 0, .slice none 0 0], .int .i64 (s'.at_ : Nat), .int .i64 70])) we) := ⟨HWe.out, 0, 0, slz, slz, by rw [HCK.out]; rfl, fun h => by rw [HCK.out] at h; cases h⟩
              refine bodyPost_ret (v := .tuple #[.agg #[.int .i64 0, .int .i64 0, .int .i64 0, .slice none 0 0, .slice none 0 0], .int .i64 (s'.at_ : Nat), .int .i64 70]) ?_ rfl HP.out
              simp [results, Try.results58, go_sem, d0, d1, d2, d3, d4]
            · have hgood : s'.bad = false := by simpa using hbad
              clear hbad
              have z1 := z1 hgood
              obtain ⟨q, bad⟩ := s'
              dsimp only at hgood z1
              subst hgood
              have e1 : wrP ⟨q, false⟩ = -1 := rfl
              rw [e1] at z2
              clear e1
              by_cases hq : q < 2048
              · have hqi : ((q : Nat) : Int) < 2048 := by omega
                have HM := hid HPG.out.r.mz
                go_wp2_with fail
                refine (field_ok HPG.out.r 1 0 0 (by omega) (by omega) (by omega) (fun _ => by dsimp only; omega)).mono ?_
                rintro _ wn ⟨rfl, hrn, han⟩
                have HPG2 := hid (HPG.out.keepR hrn han (fun _ => rfl))
                have HM2 := hid hrn.mz
                clear hrn han z1 z2
                try dsimp only
                go_wp2_with fail
                go_roundw
                case rel =>
                  have hfu : 2048 ≤ q + f := by
                    rcases HFU.out with h | h
                    · cases h
                    · exact h
                  obtain ⟨f', rfl⟩ : ∃ f', f = f' + 1 := ⟨f - 1, by omega⟩
                  refine ⟨f', _, HPG2.out, ?_, ?_⟩
                  · rw [HEND.out]
                    show (if (⟨q, false⟩ : Ps).bad = false ∧ (⟨q, false⟩ : Ps).at_ < 2048 then zerosR B f' (num B 1 0 0 ⟨q, false⟩).2 else ⟨q, false⟩) = _
                    rw [if_pos ⟨rfl, hq⟩]
                  · cases hb : (num B 1 0 0 ⟨q, false⟩).2.bad with
                    | true => exact .inl rfl
                    | false =>
                      right
                      have h1 := num_ok B 1 0 0 ⟨q, false⟩ hb
                      rw [h1.2.1]
                      try dsimp only
                      omega
                case measure =>
                  rw [HM.out, HM2.out]
                  have h0 : ¬ ((⟨q, false⟩ : Ps).bad = true) := by simp
                  rw [if_neg h0]
                  cases hb : (num B 1 0 0 ⟨q, false⟩).2.bad with
                  | true =>
                    rw [if_pos rfl]
                    try dsimp only
                    omega
                  | false =>
                    have h1 := num_ok B 1 0 0 ⟨q, false⟩ hb
                    rw [if_neg (by simp), h1.2.1]
                    try dsimp only
                    omega
              · have hqi : ¬ ((q : Nat) : Int) < 2048 := by omega
                have HE : Hid (endR B = ⟨q, false⟩) := by unfold Hid; rw [HEND.out]; exact zerosR_stay (.inr (by show 2048 ≤ q; omega)) f
                have HCK : Hid (checkR B = ((bodyR B).1.k, 0, 0)) := by unfold Hid checkR; rw [if_pos HBL.out, HE.out, if_neg (by simp)]
                obtain ⟨gg, oo, sk, sl, hyy, hpc⟩ := HPG.out.y
                have HPC := hid (hpc rfl)
                have HYY := hid hyy
                have HFF := hid HPG.out.f
                have HWW := hid HPG.out.r.ap
                clear hpc hyy
                obtain ⟨kk, Hkk⟩ : ∃ k, Hid (k = (bodyR B).1.k) := ⟨_, rfl⟩
                rw [← Hkk.out] at HYY HCK
                obtain ⟨c0, c1, c2, c3, c4⟩ := row5v HYY.out
                obtain ⟨b0, b1, b2, b3, b4⟩ := row5v HFF.out.1
                have p0 := frozen_of_row _ _ 0 _ _ HFF.out.1
                have p1 := frozen_of_row _ _ 1 _ _ HFF.out.1
                have p2 := frozen_of_row _ _ 2 _ _ HFF.out.1
                have p3 := frozen_of_row _ _ 3 _ _ HFF.out.1
                have p4 := frozen_of_row _ _ 4 _ _ HFF.out.1
                obtain ⟨hFe, ae⟩ := set5 (.int .i64 (kk : Nat)) (.int .i64 gg) (.int .i64 oo) (.slice sk.p sk.n sk.c) (.slice sl.p sl.n sl.c) HFF.out.1
                obtain ⟨we, hwe⟩ : ∃ V, V = ((((wr.setCell ⟨F, 0, none⟩ (.int .i64 (kk : Nat))).setCell ⟨F, 1, none⟩ (.int .i64 gg)).setCell ⟨F, 2, none⟩ (.int .i64 oo)).setCell ⟨F, 3, none⟩ (.slice sk.p sk.n sk.c)).setCell ⟨F, 4, none⟩ (.slice sl.p sl.n sl.c) := ⟨_, rfl⟩
                rw [← hwe] at hFe ae
                have tke : TK [119] wr we := TK.one ae HFF.out.1 (by simp)
                have hWe : Apart [] w we := HWW.out.trans' ae (fun y hy => by simp at hy; exact .inr (by rw [hy]; exact HFw.out))
                have HP : Hid (RdP w B (.returned (.tuple #[.agg #[.int .i64 (kk : Nat), .int .i64 gg, .int .i64 oo, .slice sk.p sk.n sk.c, .slice sl.p sl.n sl.c], .int .i64 0, .int .i64 0])) we) := ⟨hWe, gg, oo, sk, sl, by rw [HCK.out]; rfl, fun _ => HPC.out.keep tke hWe (by decide)⟩
                have HFe := hid hFe
                clear hFe ae tke hWe HPG
                go_wp2_with fail
                rw [← hwe]
                obtain ⟨d0, d1, d2, d3, d4⟩ := row5v HFe.out
                refine bodyPost_ret (v := .tuple #[.agg #[.int .i64 (kk : Nat), .int .i64 gg, .int .i64 oo, .slice sk.p sk.n sk.c, .slice sl.p sl.n sl.c], .int .i64 0, .int .i64 0]) ?_ rfl HP.out
                simp [results, Try.results58, go_sem, d0, d1, d2, d3, d4]
    · by_cases hk2 : K.1 = 2
      · skip
        have i1 : (((K.1 : Nat) : Int) == 1) = false := by rw [hk2]; rfl
        have i2 : (((K.1 : Nat) : Int) == 2) = true := by rw [hk2]; rfl
        have HK2 := hid hk2
        have HKl : Hid (K.2.bad = false → K.2.at_ ≤ 1) := fun _ => by rw [HK.out]; have := (num_at B 1 1 3 ⟨0, false⟩).2; dsimp only at this; omega
        clear hk1 hk2
        go_wp2_with fail
        refine (field_ok HR5.out 1 1 16 (by omega) (by omega) (by omega) (fun hg => by have := HKl.out hg; omega)).mono ?_
        rintro _ w6 ⟨rfl, hr6, ha6⟩
        obtain ⟨Nn, HNn⟩ : ∃ A, Hid (A = num B 1 1 16 K.2) := ⟨_, rfl⟩
        rw [← HNn.out] at hr6 ⊢
        have hN16 : Nn.1 ≤ 16 := by rw [HNn.out]; exact num_le B 1 1 16 _
        have HNl : Hid (Nn.2.bad = false → Nn.2.at_ ≤ 2) := fun hg => by
          have h1 := num_at B 1 1 16 K.2
          rw [HNn.out] at hg ⊢
          have := HKl.out (num_ok1 hg)
          omega
        have HR6 := hid hr6
        have HY6 := hid (keepB ha6 HY5.out (HR5.out.neX HY5.out (by decide)))
        have HF6 := hid (keepB ha6 HF5.out.1 (HR5.out.neX HF5.out.1 (by decide)))
        clear hr6 ha6 y0
        try dsimp only
        go_wp2_with fail
        refine (take_ok HR6.out Nn.1 (fun hg => by have := HNl.out hg; omega)).mono ?_
        rintro _ w7 ⟨⟨tv, rfl, -, hbf⟩, hr7, ha7⟩
        obtain ⟨Tt, HTt⟩ : ∃ t, Hid (t = tkS Nn.2 Nn.1) := ⟨_, rfl⟩
        rw [← HTt.out] at hr7
        have HTl : Hid (Tt.bad = false → Nn.2.bad = false ∧ Tt.at_ ≤ 18) := fun hg => by
          rw [HTt.out] at hg ⊢
          unfold tkS at hg ⊢
          by_cases hb : Nn.2.bad = true
          · rw [if_pos hb] at hg
            rw [hb] at hg
            cases hg
          · rw [if_neg hb]
            have h2 := HNl.out (by simpa using hb)
            exact ⟨by simpa using hb, by dsimp only; omega⟩
        have HR7 := hid hr7
        have HY7 := hid (keepB ha7 HY6.out (HR6.out.neX HY6.out (by decide)))
        have HF7 := hid (keepB ha7 HF6.out (HR6.out.neX HF6.out (by decide)))
        have HBF := hid hbf
        clear hr7 ha7 hbf HR6 HY6 HF6
        try dsimp only
        go_wp2_with fail
        refine (field_ok HR7.out 1 1 8 (by omega) (by omega) (by omega) (fun hg => by have := (HTl.out hg).2; omega)).mono ?_
        rintro _ w8 ⟨rfl, hr8, ha8⟩
        obtain ⟨Mm, HMm⟩ : ∃ A, Hid (A = num B 1 1 8 Tt) := ⟨_, rfl⟩
        rw [← HMm.out] at hr8 ⊢
        have hM8 : Mm.1 ≤ 8 := by rw [HMm.out]; exact num_le B 1 1 8 _
        have HMl : Hid (Mm.2.bad = false → Nn.2.bad = false ∧ Mm.2.at_ ≤ 19) := fun hg => by
          have h1 := num_at B 1 1 8 Tt
          rw [HMm.out] at hg ⊢
          have := HTl.out (num_ok1 hg)
          exact ⟨this.1, by omega⟩
        have hY8 := keepB ha8 HY7.out (HR7.out.neX HY7.out (by decide))
        have hF8 := keepB ha8 HF7.out (HR7.out.neX HF7.out (by decide))
        have tk8 := HR7.out.tk ha8
        obtain ⟨kb, Hkb⟩ : ∃ l, Hid (l = (B.drop Nn.2.at_).take Nn.1) := ⟨_, rfl⟩
        rw [← Hkb.out] at HBF
        have HHD : Hid (headR B ⟨0, false⟩ = (⟨2, 0, 0, Mm.1, Nn.2.at_, Nn.1⟩, Mm.2)) := by
          unfold Hid headR
          dsimp only
          rw [← HK.out, if_neg (by rw [HK2.out]; decide), if_pos HK2.out]
          have e1 : (textR B 1 16 K.2).2 = Tt := by rw [HTt.out, HNn.out, tkS_text]
          have e2 : (textR B 1 16 K.2).1 = (Nn.2.at_, Nn.1) := by rw [HNn.out]; rfl
          rw [e1, e2, ← HMm.out, HK2.out]
        have HBB : Hid (bodyR B = (⟨2, 0, 0, Mm.1, Nn.2.at_, Nn.1⟩, (writesR B Mm.1 0 0 Mm.2).2)) := by
          unfold Hid bodyR
          dsimp only
          rw [HHD.out]
          rfl
        have HKEY : Hid (keyOf B = strB kb) := by unfold Hid keyOf; rw [HHD.out, Hkb.out]
        obtain ⟨D, HXD⟩ : ∃ D, Hid (D = w8.heap.size) := ⟨_, rfl⟩
        obtain ⟨w9, hw9⟩ : ∃ V, V = w8.alloc (.cells #[.int .i64 0, .int .i64 0] 47) := ⟨_, rfl⟩
        have a9 : Apart [] w8 w9 := by rw [hw9]; exact (Apart.refl [] w8).alloc _
        have hD9 : w9.heap[D]? = some (.cells #[.int .i64 0, .int .i64 0] 47 (0, 0)) := by rw [hw9, HXD.out]; exact heap_alloc_new w8 _
        have HDw : Hid (w.heap.size ≤ D) := by unfold Hid; rw [HXD.out]; exact hr8.ap.size
        have HI : Hid (YW w w9 R Y F D s0 B (strB kb) K.1 Mm.1 Mm.2 0 slz [] 0 0 Mm.2 []) := ⟨hr8.kept0 a9, keep0 a9 hY8, hD9, ⟨keep0 a9 hF8, HF5.out.2⟩, ⟨World.ownsRow_nil _ _ _ _, by simp [Sl.v, slz, Value.ownBlock], hr8.ap.trans a9⟩, rfl, rfl, fun _ => ⟨rfl, rfl, fun j hj => by simp at hj⟩, fun hg => by have := (HMl.out hg).2; omega, fun _ => ⟨by omega, by omega, fun _ => rfl⟩⟩
        have HKB : Hid (Mm.2.bad = false → Bf w w9 tv kb) := fun hg => by
          have h1 := HBF.out (HMl.out hg).1
          exact (⟨tk8.nw h1.nw hr8.ap (by decide), h1.len⟩ : Bf w w8 tv kb).kept a9
        clear hr8 ha8 hY8 hF8 HR7 HY7 HF7 a9 hD9 HBF HR5 HY5 HF5 tk8
        try dsimp only
        go_upto_region 23 with fail
        rw [← hw9, ← HXD.out]
        clear hw9
        go_wp2_with fail
        go_loopw [15, 16] (fun c _ wt => ∃ (i : Nat) (sl : Sl) (ee : List E) (an ac : Nat) (s' : Ps) (zs : List Wr), c = .int .i64 (i : Nat) ∧ i ≤ Mm.1 ∧ YW w wt R Y F D s0 B (strB kb) K.1 Mm.1 Mm.2 i sl ee an ac s' zs ∧ (Mm.2.bad = false → Bf w wt tv kb) ∧ (s'.bad = false → Mm.2.bad = false)) (fun c _ _ => Mm.1 - (intOf c).toNat)
        case atStart => exact ⟨0, slz, [], 0, 0, Mm.2, [], rfl, Nat.zero_le _, HI.out, HKB.out, fun h => h⟩
        case round =>
          clear HI HKB
          obtain ⟨i, sl, ee, an, ac, s', zs, rfl, him, hI, hKB, hSG⟩ := hrel
          have HI := hid hI
          have HKB := hid hKB
          have HSG := hid hSG
          have z2 := hI.r.row.1
          clear hI hKB hSG
          generalize wr = wq at *
          obtain ⟨cc, Hcc⟩ : ∃ c : Bool, Hid (c = (decide (i < Mm.1) && !s'.bad)) := ⟨_, rfl⟩
          go_upto_region 24 with fail
          go_cut [90] from 81 to 90 (fun s90 wx => .bool cc = s90 ∧ wx = wq)
          case first =>
            by_cases hlt : i < Mm.1
            · have hlti : ((i : Nat) : Int) < (Mm.1 : Int) := by omega
              cases hb : s'.bad with
              | true =>
                have e1 : wrP s' = (s'.at_ : Int) := by unfold wrP; rw [if_pos hb]
                have hng : ¬ ((s'.at_ : Nat) : Int) < 0 := by omega
                have HD : Hid (cc = false) := by unfold Hid; rw [Hcc.out, hb]; simp
                rw [e1] at z2
                clear e1 hb
                go_wp2_with fail
                go_meet
                exact ⟨by first | (rw [HD.out]; done) | (rw [HD.out]; simp; omega), rfl⟩
              | false =>
                have e1 : wrP s' = -1 := by unfold wrP; rw [if_neg (by rw [hb]; simp)]
                have HD : Hid (cc = true) := by unfold Hid; rw [Hcc.out, hb]; simp [hlt]
                rw [e1] at z2
                clear e1 hb
                go_wp2_with fail
                go_meet
                exact ⟨by first | (rw [HD.out]; done) | (rw [HD.out]; simp), rfl⟩
            · have hlti : ¬ ((i : Nat) : Int) < (Mm.1 : Int) := by omega
              have HD : Hid (cc = false) := by unfold Hid; rw [Hcc.out]; simp [hlt]
              go_wp2_with fail
              go_meet
              exact ⟨by first | (rw [HD.out]; done) | (rw [HD.out]; simp), rfl⟩
          obtain ⟨rfl, hwc⟩ := hcut
          rw [hwc]
          clear hwc wc z2
          cases cc with
          | true =>
            have hc := Hcc.out.symm
            simp only [Bool.and_eq_true, decide_eq_true_eq, Bool.not_eq_true'] at hc
            obtain ⟨hlt, hgood⟩ := hc
            have HMG := hid (HSG.out hgood)
            obtain ⟨q, bad⟩ := s'
            dsimp only at hgood
            subst hgood
            have hrm := HI.out.rm rfl
            have han := HI.out.an7 rfl
            dsimp only at hrm
            have hbk := HKB.out HMG.out
            have c1 : Sem.run Try.prog (convert 28 9 (.slice tv.p tv.n tv.c)) wq = .ok (.string (strB kb)) wq := conv_bytes hbk.nw.rd hbk.len.symm hbk.nw.ok
            obtain ⟨d0, d1⟩ := row2v HI.out.d
            clear hbk
            go_wp2_with fail
            refine (rwriteX_ok HI.out.r (strB kb) an ac han.1 han.2.1 han.2.2 (fun _ => by dsimp only; omega)).mono ?_
            rintro _ wa ⟨⟨tw, tx, rfl, hbx⟩, hra, haa⟩
            obtain ⟨A, HA⟩ : ∃ A, Hid (A = writeR B an ac ⟨q, false⟩) := ⟨_, rfl⟩
            obtain ⟨e1, He1⟩ : ∃ e : E, Hid (e = ⟨(A.1.n : Nat), (A.1.c : Nat), strB kb, A.1.d, tw, tx⟩) := ⟨_, rfl⟩
            have hne := HI.out.next hlt hM8 HYw.out HDw.out e1 ⟨by rw [He1.out, HA.out], by rw [He1.out, HA.out], by rw [He1.out], by rw [He1.out, HA.out]⟩ hra haa (by rw [He1.out]; exact hbx)
            rw [← HA.out] at hne ⊢
            obtain ⟨hy3, s2, W2, hrun, hy4, hx5, hd5, htk, zs2, hI2⟩ := hne
            have HRUN := hid hrun
            have HI2 := hid hI2
            have HTK := hid htk
            have q1 : ((A.1.n : Nat) : Int) = e1.n := by rw [He1.out]
            have q2 : ((A.1.c : Nat) : Int) = e1.c := by rw [He1.out]
            have q3 : strB kb = e1.k := by rw [He1.out]
            have q4 : A.1.d = e1.d := by rw [He1.out]
            have q5 : (Value.slice tw.p tw.n tw.c) = .slice e1.v.p e1.v.n e1.v.c := by rw [He1.out]
            have q6 : (Value.slice tx.p tx.n tx.c) = .slice e1.x.p e1.x.n e1.x.c := by rw [He1.out]
            have v4 := crow hy3 4 (.slice sl.p sl.n sl.c) rfl
            have u4 := crow hy4 4 (.slice sl.p sl.n sl.c) rfl
            have g4 := frozen_of_row _ _ 4 _ _ hy4
            obtain ⟨X, HX⟩ : ∃ X, Hid (X = wa.heap.size) := ⟨_, rfl⟩
            obtain ⟨w3a, hw3a⟩ : ∃ V, V = wa.alloc (Obj.cells #[.int .i64 e1.n, .int .i64 e1.c, .string e1.k, .bool e1.d, .slice e1.v.p e1.v.n e1.v.c, .slice e1.x.p e1.x.n e1.x.c] 50) := ⟨_, rfl⟩
            have hX3 : w3a.heap[X]? = some (.cells #[.int .i64 e1.n, .int .i64 e1.c, .string e1.k, .bool e1.d, .slice e1.v.p e1.v.n e1.v.c, .slice e1.x.p e1.x.n e1.x.c] 50 (0, 0)) := by rw [hw3a, HX.out]; exact heap_alloc_new wa _
            rw [← hw3a] at v4 HRUN
            rw [← HX.out] at hx5
            obtain ⟨x0, x1, x2, x3, x4, x5⟩ := rowv6 hX3
            obtain ⟨W5, hW5⟩ : ∃ V, V = W2.setCell ⟨Y, 4, none⟩ (.slice s2.p s2.n s2.c) := ⟨_, rfl⟩
            rw [← hW5] at hx5 hd5 HI2 HTK
            obtain ⟨l0, l1, l2, l3, l4, l5⟩ := rowv6 hx5
            obtain ⟨m0, m1⟩ := row2v hd5
            have o0 := frozen_of_row _ _ 0 _ _ hd5
            have o1 := frozen_of_row _ _ 1 _ _ hd5
            clear hbx hra haa hrun hI2 hy3 hy4 htk hx5 hd5 hX3 d0 d1 c1
            try dsimp only
            rw [q5, q6, q1, q2, q3, q4]
            clear q5 q6 q1 q2 q4
            go_upto_region 27 with fail
            rw [← hw3a, ← HX.out]
            clear hw3a
            go_upto_region 28 with (at_builtin; refine wpList_app2 rfl (.tmp 99) (.tmp 101) 23 23 rfl _ _ rfl rfl _ _ HRUN.out ?_)
            rw [← hW5]
            clear hW5 v4 u4 g4 x0 x1 x2 x3 x4 x5
            obtain ⟨W6, hW6⟩ : ∃ V, V = (W5.setCell ⟨D, 0, none⟩ (.int .i64 e1.n)).setCell ⟨D, 1, none⟩ (.int .i64 e1.c) := ⟨_, rfl⟩
            rw [← hW6] at HI2 HTK
            have HKB2 : Hid (Mm.2.bad = false → Bf w W6 tv kb) := fun hg => by
              have h1 := HKB.out hg
              exact ⟨HTK.out.nw h1.nw HI2.out.r.ap (by decide), h1.len⟩
            clear q3
            go_wp2_with fail
            rw [← hW6]
            go_roundw
            case rel => exact ⟨i + 1, s2, _, _, _, _, zs2, by go_num, by omega, HI2.out, HKB2.out, fun _ => HMG.out⟩
            case measure => simp [intOf]; omega
          | false =>
            have hst : (writesR B Mm.1 0 0 Mm.2).2 = s' := by
              rw [HI.out.st]
              have hc := Hcc.out.symm
              simp only [Bool.and_eq_false_iff, decide_eq_false_iff_not, Bool.not_eq_false'] at hc
              rcases hc with hc | hc
              · rw [show Mm.1 - i = 0 by omega]; rfl
              · exact writesR_bad B _ _ _ hc
            have HPG : Hid (PG w wq R F Y s0 B (bodyR B).2) := by
              unfold Hid
              rw [HBB.out]
              dsimp only
              rw [hst]
              refine ⟨HI.out.r, HI.out.f, 0, 0, slz, sl, ?_, fun hg => ?_⟩
              · rw [HBB.out, HI.out.y, HK2.out]
              · have hc := Hcc.out.symm
                rw [hg] at hc
                simp only [Bool.not_false, Bool.and_true, decide_eq_false_iff_not] at hc
                have hli := HI.out.li (by rw [hst]; exact hg)
                rw [show Mm.1 - i = 0 by omega] at hli
                have e1 : zs = rsOf B := by
                  unfold rsOf
                  rw [HKEY.out, HHD.out]
                  dsimp only
                  rw [hli.1]
                  exact (List.append_nil _).symm
                refine ⟨by rw [HHD.out]; rfl, by rw [HHD.out]; rfl, (fun hk => by rw [HHD.out] at hk; cases hk), fun _ => ⟨rfl, ee, HI.out.l, by rw [← e1]; exact hli.2⟩⟩
            clear HI hst Hcc HKB HSG
            go_wp2_with fail
            go_loopw [] (fun wt => ∃ (f : Nat) (s' : Ps), PG w wt R F Y s0 B s' ∧ endR B = zerosR B f s' ∧ (s'.bad = true ∨ 2048 ≤ s'.at_ + f)) (fun wt => mz R wt)
            case atStart => exact ⟨2048, (bodyR B).2, HPG.out, rfl, .inr (by omega)⟩
            case round =>
              clear HPG
              obtain ⟨f, s', hpg, hend, hfu⟩ := hrel
              have HPG := hid hpg
              have HEND := hid hend
              have HFU := hid hfu
              have z2 := hpg.r.row.1
              have z1 := hpg.r.row.2.1
              clear hpg hend hfu
              by_cases hbad : s'.bad = true
              · have e1 : wrP s' = (s'.at_ : Int) := by unfold wrP; rw [if_pos hbad]
                rw [e1] at z2
                have hng : ¬ ((s'.at_ : Nat) : Int) < 0 := by omega
                have hge : (0 : Int) ≤ ((s'.at_ : Nat) : Int) := by omega
                have HE : Hid (endR B = s') := by unfold Hid; rw [HEND.out]; exact zerosR_stay (.inl hbad) f
                have HCK : Hid (checkR B = (0, s'.at_, 70)) := by unfold Hid checkR; rw [if_pos HBL.out, HE.out, if_pos hbad]
                have hS : wr.drew.cell? ⟨R, 2, none⟩ = some (.int .i64 (s'.at_ : Nat)) := z2
                have HFd := hid (keep0 (Apart.refl [] wr).drew HPG.out.f.1)
                have HWd : Hid (Apart [] w wr.drew) := HPG.out.r.ap.drew
                have HRF : Hid (R ≠ F) := fun h => HPG.out.r.neX HPG.out.f.1 (by decide) h.symm
                have HRl : Hid (R < wr.drew.heap.size) := HPG.out.r.row.2.2
                clear z1 e1 hbad
                go_upto_region 38 with fail
                clear z2
                refine wp_region_held_drew (S := fun W => W.cell? ⟨R, 2, none⟩ = some (.int .i64 (s'.at_ : Nat))) (by kernel_rfl) hS (fun hHeld => ?_)
                generalize wr.drew = wd at *
                refine tk 0 146 (.agg #[.int .i64 0, .int .i64 0, .int .i64 0, .slice none 0 0, .slice none 0 0]) rfl ?_ ?_
                · intro W hSW; go_simp
                simp only [Act.put, List.setIfInBounds_toArray, List.set_cons_zero, List.set_cons_succ]
                refine tk 1 147 (.pointer (some ⟨R, 0, none⟩)) rfl ?_ ?_
                · intro W hSW; go_simp
                simp only [Act.put, List.setIfInBounds_toArray, List.set_cons_zero, List.set_cons_succ]
                refine tk 2 148 (.pointer (some ⟨R, 0, none⟩)) rfl ?_ ?_
                · intro W hSW; go_simp
                simp only [Act.put, List.setIfInBounds_toArray, List.set_cons_zero, List.set_cons_succ]
                refine tk 3 149 (.pointer (some ⟨R, 2, none⟩)) rfl ?_ ?_
                · intro W hSW; go_simp
                simp only [Act.put, List.setIfInBounds_toArray, List.set_cons_zero, List.set_cons_succ]
                refine tk 4 150 (.int .i64 (s'.at_ : Nat)) rfl ?_ ?_
                · intro W hSW; go_simp
                simp only [Act.put, List.setIfInBounds_toArray, List.set_cons_zero, List.set_cons_succ]
                obtain ⟨b0, b1, b2, b3, b4⟩ := row5v HFd.out
                have p0 := frozen_of_row _ _ 0 _ _ HFd.out
                have p1 := frozen_of_row _ _ 1 _ _ HFd.out
                have p2 := frozen_of_row _ _ 2 _ _ HFd.out
                have p3 := frozen_of_row _ _ 3 _ _ HFd.out
                have p4 := frozen_of_row _ _ 4 _ _ HFd.out
                obtain ⟨hFe, ae⟩ := set5 (.int .i64 0) (.int .i64 0) (.int .i64 0) (.slice none 0 0) (.slice none 0 0) HFd.out
                obtain ⟨we, hwe⟩ : ∃ V, V = ((((wd.setCell ⟨F, 0, none⟩ (.int .i64 0)).setCell ⟨F, 1, none⟩ (.int .i64 0)).setCell ⟨F, 2, none⟩ (.int .i64 0)).setCell ⟨F, 3, none⟩ (.slice none 0 0)).setCell ⟨F, 4, none⟩ (.slice none 0 0) := ⟨_, rfl⟩
                rw [← hwe] at hFe ae
                have hSe : we.cell? ⟨R, 2, none⟩ = some (.int .i64 (s'.at_ : Nat)) := (ae.cell (p := ⟨R, 2, none⟩) HRl.out (by simp; exact HRF.out)).trans hS
                have HFe := hid hFe
                have HWe : Hid (Apart [] w we) := HWd.out.trans' ae (fun y hy => by simp at hy; exact .inr (by rw [hy]; exact HFw.out))
                clear hFe ae
                refine wpAnyH_ready (rs := [5]) (by kernel_rfl) (by simp) ?_
                refine AllReadyH.cons rfl (fun KK hKK => ?_) AllReadyH.nil
                go_simp
                rw [← hwe]
                refine hKK.out _ _ hSe (fun hHeld => ?_)
                clear hKK KK
                try simp only [Act.put, List.setIfInBounds_toArray, List.set_cons_zero, List.set_cons_succ]
                refine tk 6 3 (.int .i64 (s'.at_ : Nat)) rfl ?_ ?_
                · intro W hSW; go_simp
                simp only [Act.put, List.setIfInBounds_toArray, List.set_cons_zero, List.set_cons_succ]
                refine tk 7 4 (.int .i64 70) rfl ?_ ?_
                · intro W hSW; go_simp
                simp only [Act.put, List.setIfInBounds_toArray, List.set_cons_zero, List.set_cons_succ]
                refine wpAnyH_done (by kernel_rfl) ?_ _
                clear hHeld hS hSe hwe b0 b1 b2 b3 b4 p0 p1 p2 p3 p4
                go_wp2_with fail
                obtain ⟨d0, d1, d2, d3, d4⟩ := row5v HFe.out
                have HP : Hid (RdP w B (.returned (.tuple #[.agg #[.int .i64 0, .int .i64 0, .int .i64 0, .slice none 0 0, .slice none 0 0], .int .i64 (s'.at_ : Nat), .int .i64 70])) we) := ⟨HWe.out, 0, 0, slz, slz, by rw [HCK.out]; rfl, fun h => by rw [HCK.out] at h; cases h⟩
                refine bodyPost_ret (v := .tuple #[.agg #[.int .i64 0, .int .i64 0, .int .i64 0, .slice none 0 0, .slice none 0 0], .int .i64 (s'.at_ : Nat), .int .i64 70]) ?_ rfl HP.out
                simp [results, Try.results58, go_sem, d0, d1, d2, d3, d4]
              · have hgood : s'.bad = false := by simpa using hbad
                clear hbad
                have z1 := z1 hgood
                obtain ⟨q, bad⟩ := s'
                dsimp only at hgood z1
                subst hgood
                have e1 : wrP ⟨q, false⟩ = -1 := rfl
                rw [e1] at z2
                clear e1
                by_cases hq : q < 2048
                · have hqi : ((q : Nat) : Int) < 2048 := by omega
                  have HM := hid HPG.out.r.mz
                  go_wp2_with fail
                  refine (field_ok HPG.out.r 1 0 0 (by omega) (by omega) (by omega) (fun _ => by dsimp only; omega)).mono ?_
                  rintro _ wn ⟨rfl, hrn, han⟩
                  have HPG2 := hid (HPG.out.keepR hrn han (fun _ => rfl))
                  have HM2 := hid hrn.mz
                  clear hrn han z1 z2
                  try dsimp only
                  go_wp2_with fail
                  go_roundw
                  case rel =>
                    have hfu : 2048 ≤ q + f := by
                      rcases HFU.out with h | h
                      · cases h
                      · exact h
                    obtain ⟨f', rfl⟩ : ∃ f', f = f' + 1 := ⟨f - 1, by omega⟩
                    refine ⟨f', _, HPG2.out, ?_, ?_⟩
                    · rw [HEND.out]
                      show (if (⟨q, false⟩ : Ps).bad = false ∧ (⟨q, false⟩ : Ps).at_ < 2048 then zerosR B f' (num B 1 0 0 ⟨q, false⟩).2 else ⟨q, false⟩) = _
                      rw [if_pos ⟨rfl, hq⟩]
                    · cases hb : (num B 1 0 0 ⟨q, false⟩).2.bad with
                      | true => exact .inl rfl
                      | false =>
                        right
                        have h1 := num_ok B 1 0 0 ⟨q, false⟩ hb
                        rw [h1.2.1]
                        try dsimp only
                        omega
                  case measure =>
                    rw [HM.out, HM2.out]
                    have h0 : ¬ ((⟨q, false⟩ : Ps).bad = true) := by simp
                    rw [if_neg h0]
                    cases hb : (num B 1 0 0 ⟨q, false⟩).2.bad with
                    | true =>
                      rw [if_pos rfl]
                      try dsimp only
                      omega
                    | false =>
                      have h1 := num_ok B 1 0 0 ⟨q, false⟩ hb
                      rw [if_neg (by simp), h1.2.1]
                      try dsimp only
                      omega
                · have hqi : ¬ ((q : Nat) : Int) < 2048 := by omega
                  have HE : Hid (endR B = ⟨q, false⟩) := by unfold Hid; rw [HEND.out]; exact zerosR_stay (.inr (by show 2048 ≤ q; omega)) f
                  have HCK : Hid (checkR B = ((bodyR B).1.k, 0, 0)) := by unfold Hid checkR; rw [if_pos HBL.out, HE.out, if_neg (by simp)]
                  obtain ⟨gg, oo, sk, sl, hyy, hpc⟩ := HPG.out.y
                  have HPC := hid (hpc rfl)
                  have HYY := hid hyy
                  have HFF := hid HPG.out.f
                  have HWW := hid HPG.out.r.ap
                  clear hpc hyy
                  obtain ⟨kk, Hkk⟩ : ∃ k, Hid (k = (bodyR B).1.k) := ⟨_, rfl⟩
                  rw [← Hkk.out] at HYY HCK
                  obtain ⟨c0, c1, c2, c3, c4⟩ := row5v HYY.out
                  obtain ⟨b0, b1, b2, b3, b4⟩ := row5v HFF.out.1
                  have p0 := frozen_of_row _ _ 0 _ _ HFF.out.1
                  have p1 := frozen_of_row _ _ 1 _ _ HFF.out.1
                  have p2 := frozen_of_row _ _ 2 _ _ HFF.out.1
                  have p3 := frozen_of_row _ _ 3 _ _ HFF.out.1
                  have p4 := frozen_of_row _ _ 4 _ _ HFF.out.1
                  obtain ⟨hFe, ae⟩ := set5 (.int .i64 (kk : Nat)) (.int .i64 gg) (.int .i64 oo) (.slice sk.p sk.n sk.c) (.slice sl.p sl.n sl.c) HFF.out.1
                  obtain ⟨we, hwe⟩ : ∃ V, V = ((((wr.setCell ⟨F, 0, none⟩ (.int .i64 (kk : Nat))).setCell ⟨F, 1, none⟩ (.int .i64 gg)).setCell ⟨F, 2, none⟩ (.int .i64 oo)).setCell ⟨F, 3, none⟩ (.slice sk.p sk.n sk.c)).setCell ⟨F, 4, none⟩ (.slice sl.p sl.n sl.c) := ⟨_, rfl⟩
                  rw [← hwe] at hFe ae
                  have tke : TK [119] wr we := TK.one ae HFF.out.1 (by simp)
                  have hWe : Apart [] w we := HWW.out.trans' ae (fun y hy => by simp at hy; exact .inr (by rw [hy]; exact HFw.out))
                  have HP : Hid (RdP w B (.returned (.tuple #[.agg #[.int .i64 (kk : Nat), .int .i64 gg, .int .i64 oo, .slice sk.p sk.n sk.c, .slice sl.p sl.n sl.c], .int .i64 0, .int .i64 0])) we) := ⟨hWe, gg, oo, sk, sl, by rw [HCK.out]; rfl, fun _ => HPC.out.keep tke hWe (by decide)⟩
                  have HFe := hid hFe
                  clear hFe ae tke hWe HPG
                  go_wp2_with fail
                  rw [← hwe]
                  obtain ⟨d0, d1, d2, d3, d4⟩ := row5v HFe.out
                  refine bodyPost_ret (v := .tuple #[.agg #[.int .i64 (kk : Nat), .int .i64 gg, .int .i64 oo, .slice sk.p sk.n sk.c, .slice sl.p sl.n sl.c], .int .i64 0, .int .i64 0]) ?_ rfl HP.out
                  simp [results, Try.results58, go_sem, d0, d1, d2, d3, d4]
      · by_cases hk3 : K.1 = 3
        · skip
          have i1 : (((K.1 : Nat) : Int) == 1) = false := by rw [hk3]; rfl
          have i2 : (((K.1 : Nat) : Int) == 2) = false := by rw [hk3]; rfl
          have i3 : (((K.1 : Nat) : Int) == 3) = true := by rw [hk3]; rfl
          have HK3 := hid hk3
          have HKl : Hid (K.2.bad = false → K.2.at_ ≤ 1) := fun _ => by rw [HK.out]; have := (num_at B 1 1 3 ⟨0, false⟩).2; dsimp only at this; omega
          clear hk1 hk2 hk3
          go_wp2_with fail
          refine (field_ok HR5.out 1 0 7 (by omega) (by omega) (by omega) (fun hg => by have := HKl.out hg; omega)).mono ?_
          rintro _ w6 ⟨rfl, hr6, ha6⟩
          obtain ⟨Oo, HOo⟩ : ∃ A, Hid (A = num B 1 0 7 K.2) := ⟨_, rfl⟩
          rw [← HOo.out] at hr6 ⊢
          have HOl : Hid (Oo.2.bad = false → Oo.2.at_ ≤ 2) := fun hg => by
            have h1 := num_at B 1 0 7 K.2
            rw [HOo.out] at hg ⊢
            have := HKl.out (num_ok1 hg)
            omega
          have hY6 := keepB ha6 HY5.out (HR5.out.neX HY5.out (by decide))
          have HF6 := hid (keepB ha6 HF5.out.1 (HR5.out.neX HF5.out.1 (by decide)))
          have y2 := crow hY6 2 (.int .i64 0) rfl
          have f2 := frozen_of_row _ _ 2 _ _ hY6
          obtain ⟨w7, hw7⟩ : ∃ V, V = w6.setCell ⟨Y, 2, none⟩ (.int .i64 (Oo.1 : Nat)) := ⟨_, rfl⟩
          obtain ⟨hY7, a7, tk7⟩ := y_set hY6 2 (.int .i64 (Oo.1 : Nat))
          rw [← hw7] at hY7 a7 tk7
          have HY7 : Hid (w7.heap[Y]? = some (.cells (pgL (K.1 : Nat) 0 (Oo.1 : Nat) slz slz) 119 (0, 0))) := hY7
          have HR7 := hid (hr6.other a7 (hr6.neX hY6 (by decide)) HYw.out)
          have HF7 := hid (keepB a7 HF6.out HF5.out.2)
          clear hr6 ha6 hY6 hY7 a7 tk7 HF6 y0
          try dsimp only
          go_upto_region 31 with fail
          rw [← hw7]
          clear hw7 y2 f2
          go_wp2_with fail
          refine (field_ok HR7.out 1 1 16 (by omega) (by omega) (by omega) (fun hg => by have := HOl.out hg; omega)).mono ?_
          rintro _ w8 ⟨rfl, hr8, ha8⟩
          obtain ⟨Nn, HNn⟩ : ∃ A, Hid (A = num B 1 1 16 Oo.2) := ⟨_, rfl⟩
          rw [← HNn.out] at hr8 ⊢
          have hN16 : Nn.1 ≤ 16 := by rw [HNn.out]; exact num_le B 1 1 16 _
          have HNl : Hid (Nn.2.bad = false → Nn.2.at_ ≤ 3) := fun hg => by
            have h1 := num_at B 1 1 16 Oo.2
            rw [HNn.out] at hg ⊢
            have := HOl.out (num_ok1 hg)
            omega
          have HR8 := hid hr8
          have HY8 := hid (keepB ha8 HY7.out (HR7.out.neX HY7.out (by decide)))
          have HF8 := hid (keepB ha8 HF7.out (HR7.out.neX HF7.out (by decide)))
          clear hr8 ha8 HR7 HY7 HF7
          try dsimp only
          go_wp2_with fail
          refine (take_ok HR8.out Nn.1 (fun hg => by have := HNl.out hg; omega)).mono ?_
          rintro _ w9 ⟨⟨tv, rfl, hnil, hbf⟩, hr9, ha9⟩
          obtain ⟨Tt, HTt⟩ : ∃ t, Hid (t = tkS Nn.2 Nn.1) := ⟨_, rfl⟩
          rw [← HTt.out] at hr9
          have HTl : Hid (Tt.bad = false → Nn.2.bad = false ∧ Tt.at_ ≤ 19) := fun hg => by
            rw [HTt.out] at hg ⊢
            unfold tkS at hg ⊢
            by_cases hb : Nn.2.bad = true
            · rw [if_pos hb] at hg
              rw [hb] at hg
              cases hg
            · rw [if_neg hb]
              have h2 := HNl.out (by simpa using hb)
              exact ⟨by simpa using hb, by dsimp only; omega⟩
          have HR9 := hid hr9
          have HY9 := hid (keepB ha9 HY8.out (HR8.out.neX HY8.out (by decide)))
          have HF9 : Hid (w9.heap[F]? = some (.cells (pgL 0 0 0 slz slz) 119 (0, 0)) ∧ F ≠ Y) := ⟨keepB ha9 HF8.out (HR8.out.neX HF8.out (by decide)), HF5.out.2⟩
          obtain ⟨kb, hkb, hcv⟩ : ∃ kb : ByteArray, (Nn.2.bad = false → kb = strB ((B.drop Nn.2.at_).take Nn.1)) ∧ Sem.run Try.prog (convert 28 9 (.slice tv.p tv.n tv.c)) w9 = .ok (.string kb) w9 := by
            cases hb : Nn.2.bad with
            | true =>
              refine ⟨strB [], (fun h => by cases h), ?_⟩
              rw [hnil hb]
              exact conv_bytes (s := slz) (bs := []) (fun h => by simp [byts] at h) rfl (fun _ => ⟨rfl, rfl⟩)
            | false =>
              have h1 := hbf hb
              exact ⟨_, fun _ => rfl, conv_bytes h1.nw.rd h1.len.symm h1.nw.ok⟩
          have HKB := hid hkb
          clear hr9 ha9 hbf hnil hkb HR8 HY8 HF8 HR5 HY5 HF5
          try dsimp only
          go_wp2_with fail
          refine (rwriteX_ok HR9.out kb 0 0 (by omega) (by omega) (fun _ => rfl) (fun hg => by have := (HTl.out hg).2; omega)).mono ?_
          rintro _ wa ⟨⟨tw, tx, rfl, hbx⟩, hra, haa⟩
          obtain ⟨A, HA⟩ : ∃ A, Hid (A = writeR B 0 0 Tt) := ⟨_, rfl⟩
          obtain ⟨e1, He1⟩ : ∃ e : E, Hid (e = ⟨(A.1.n : Nat), (A.1.c : Nat), kb, A.1.d, tw, tx⟩) := ⟨_, rfl⟩
          have hne := YH (key := kb) HR9.out HY9.out HF9.out HYw.out e1 ⟨by rw [He1.out, HA.out], by rw [He1.out, HA.out], by rw [He1.out], by rw [He1.out, HA.out]⟩ hra haa (by rw [He1.out]; exact hbx)
          rw [← HA.out] at hne ⊢
          obtain ⟨hy3, s2, W2, hrun, hy4, hr5, hy5, hf5, hg5⟩ := hne
          have HRUN := hid hrun
          have q1 : ((A.1.n : Nat) : Int) = e1.n := by rw [He1.out]
          have q2 : ((A.1.c : Nat) : Int) = e1.c := by rw [He1.out]
          have q3 : kb = e1.k := by rw [He1.out]
          have q4 : A.1.d = e1.d := by rw [He1.out]
          have q5 : (Value.slice tw.p tw.n tw.c) = .slice e1.v.p e1.v.n e1.v.c := by rw [He1.out]
          have q6 : (Value.slice tx.p tx.n tx.c) = .slice e1.x.p e1.x.n e1.x.c := by rw [He1.out]
          have v4 := crow hy3 4 (.slice none 0 0) rfl
          have u4 := crow hy4 4 (.slice none 0 0) rfl
          have g4 := frozen_of_row _ _ 4 _ _ hy4
          obtain ⟨X, HX⟩ : ∃ X, Hid (X = wa.heap.size) := ⟨_, rfl⟩
          obtain ⟨w3a, hw3a⟩ : ∃ V, V = wa.alloc (Obj.cells #[.int .i64 e1.n, .int .i64 e1.c, .string e1.k, .bool e1.d, .slice e1.v.p e1.v.n e1.v.c, .slice e1.x.p e1.x.n e1.x.c] 50) := ⟨_, rfl⟩
          have hX3 : w3a.heap[X]? = some (.cells #[.int .i64 e1.n, .int .i64 e1.c, .string e1.k, .bool e1.d, .slice e1.v.p e1.v.n e1.v.c, .slice e1.x.p e1.x.n e1.x.c] 50 (0, 0)) := by rw [hw3a, HX.out]; exact heap_alloc_new wa _
          rw [← hw3a] at v4 HRUN
          obtain ⟨x0, x1, x2, x3, x4, x5⟩ := rowv6 hX3
          obtain ⟨W5, hW5⟩ : ∃ V, V = W2.setCell ⟨Y, 4, none⟩ (.slice s2.p s2.n s2.c) := ⟨_, rfl⟩
          rw [← hW5] at hr5 hy5 hf5 hg5
          have HHD : Hid (headR B ⟨0, false⟩ = (⟨3, 0, Oo.1, 1, Nn.2.at_, Nn.1⟩, Tt)) := by
            unfold Hid headR
            dsimp only
            rw [← HK.out, if_neg (by rw [HK3.out]; decide), if_neg (by rw [HK3.out]; decide), if_pos HK3.out, ← HOo.out]
            have e1 : (textR B 1 16 Oo.2).2 = Tt := by rw [HTt.out, HNn.out, tkS_text]
            have e2 : (textR B 1 16 Oo.2).1 = (Nn.2.at_, Nn.1) := by rw [HNn.out]; rfl
            rw [e1, e2, HK3.out]
          have HBB : Hid (bodyR B = (⟨3, 0, Oo.1, 1, Nn.2.at_, Nn.1⟩, A.2)) := by
            unfold Hid bodyR
            dsimp only
            rw [HHD.out, HA.out]
            rfl
          have HPG : Hid (PG w W5 R F Y s0 B (bodyR B).2) := by
            unfold Hid
            rw [HBB.out]
            refine ⟨hr5, ⟨hf5, HF9.out.2⟩, 0, (Oo.1 : Nat), slz, s2, ?_, fun hg => ?_⟩
            · rw [HBB.out, hy5, HK3.out]
            · obtain ⟨n1, n2⟩ := hg5 hg
              have hTg : Tt.bad = false := by
                cases hb : Tt.bad with
                | false => rfl
                | true =>
                  have h1 := writeR_bad B 0 0 hb
                  rw [← HA.out] at h1
                  have h2 : A.2 = Tt := by rw [h1]
                  have h3 : A.2.bad = false := hg
                  rw [h2, hb] at h3
                  cases h3
              have e1' : [wfn B kb A.1] = rsOf B := by
                unfold rsOf keyOf
                rw [HHD.out]
                dsimp only
                rw [← HKB.out (HTl.out hTg).1]
                show _ = [wfn B kb (writeR B 0 0 Tt).1]
                rw [HA.out]
              refine ⟨by rw [HHD.out]; rfl, by rw [HHD.out], (fun hk => by rw [HHD.out] at hk; cases hk), fun _ => ⟨rfl, [e1], n1, by rw [← e1']; exact n2⟩⟩
          clear hbx hra haa hrun hy3 hy4 hr5 hy5 hf5 hg5 hX3 hcv HR9 HY9 HF9
          try dsimp only
          rw [q5, q6, q1, q2, q3, q4]
          clear q5 q6 q1 q2 q4 q3
          go_upto_region 34 with fail
          rw [← hw3a, ← HX.out]
          clear hw3a
          go_upto_region 35 with (at_builtin; refine wpList_app2 rfl (.tmp 122) (.tmp 124) 23 23 rfl _ _ rfl rfl _ _ HRUN.out ?_)
          rw [← hW5]
          clear hW5 v4 u4 g4 x0 x1 x2 x3 x4 x5
          go_wp2_with fail
          go_loopw [] (fun wt => ∃ (f : Nat) (s' : Ps), PG w wt R F Y s0 B s' ∧ endR B = zerosR B f s' ∧ (s'.bad = true ∨ 2048 ≤ s'.at_ + f)) (fun wt => mz R wt)
          case atStart => exact ⟨2048, (bodyR B).2, HPG.out, rfl, .inr (by omega)⟩
          case round =>
            clear HPG
            obtain ⟨f, s', hpg, hend, hfu⟩ := hrel
            have HPG := hid hpg
            have HEND := hid hend
            have HFU := hid hfu
            have z2 := hpg.r.row.1
            have z1 := hpg.r.row.2.1
            clear hpg hend hfu
            by_cases hbad : s'.bad = true
            · have e1 : wrP s' = (s'.at_ : Int) := by unfold wrP; rw [if_pos hbad]
              rw [e1] at z2
              have hng : ¬ ((s'.at_ : Nat) : Int) < 0 := by omega
              have hge : (0 : Int) ≤ ((s'.at_ : Nat) : Int) := by omega
              have HE : Hid (endR B = s') := by unfold Hid; rw [HEND.out]; exact zerosR_stay (.inl hbad) f
              have HCK : Hid (checkR B = (0, s'.at_, 70)) := by unfold Hid checkR; rw [if_pos HBL.out, HE.out, if_pos hbad]
              have hS : wr.drew.cell? ⟨R, 2, none⟩ = some (.int .i64 (s'.at_ : Nat)) := z2
              have HFd := hid (keep0 (Apart.refl [] wr).drew HPG.out.f.1)
              have HWd : Hid (Apart [] w wr.drew) := HPG.out.r.ap.drew
              have HRF : Hid (R ≠ F) := fun h => HPG.out.r.neX HPG.out.f.1 (by decide) h.symm
              have HRl : Hid (R < wr.drew.heap.size) := HPG.out.r.row.2.2
              clear z1 e1 hbad
              go_upto_region 38 with fail
              clear z2
              refine wp_region_held_drew (S := fun W => W.cell? ⟨R, 2, none⟩ = some (.int .i64 (s'.at_ : Nat))) (by kernel_rfl) hS (fun hHeld => ?_)
              generalize wr.drew = wd at *
              refine tk 0 146 (.agg #[.int .i64 0, .int .i64 0, .int .i64 0, .slice none 0 0, .slice none 0 0]) rfl ?_ ?_
              · intro W hSW; go_simp
              simp only [Act.put, List.setIfInBounds_toArray, List.set_cons_zero, List.set_cons_succ]
              refine tk 1 147 (.pointer (some ⟨R, 0, none⟩)) rfl ?_ ?_
              · intro W hSW; go_simp
              simp only [Act.put, List.setIfInBounds_toArray, List.set_cons_zero, List.set_cons_succ]
              refine tk 2 148 (.pointer (some ⟨R, 0, none⟩)) rfl ?_ ?_
              · intro W hSW; go_simp
              simp only [Act.put, List.setIfInBounds_toArray, List.set_cons_zero, List.set_cons_succ]
              refine tk 3 149 (.pointer (some ⟨R, 2, none⟩)) rfl ?_ ?_
              · intro W hSW; go_simp
              simp only [Act.put, List.setIfInBounds_toArray, List.set_cons_zero, List.set_cons_succ]
              refine tk 4 150 (.int .i64 (s'.at_ : Nat)) rfl ?_ ?_
              · intro W hSW; go_simp
              simp only [Act.put, List.setIfInBounds_toArray, List.set_cons_zero, List.set_cons_succ]
              obtain ⟨b0, b1, b2, b3, b4⟩ := row5v HFd.out
              have p0 := frozen_of_row _ _ 0 _ _ HFd.out
              have p1 := frozen_of_row _ _ 1 _ _ HFd.out
              have p2 := frozen_of_row _ _ 2 _ _ HFd.out
              have p3 := frozen_of_row _ _ 3 _ _ HFd.out
              have p4 := frozen_of_row _ _ 4 _ _ HFd.out
              obtain ⟨hFe, ae⟩ := set5 (.int .i64 0) (.int .i64 0) (.int .i64 0) (.slice none 0 0) (.slice none 0 0) HFd.out
              obtain ⟨we, hwe⟩ : ∃ V, V = ((((wd.setCell ⟨F, 0, none⟩ (.int .i64 0)).setCell ⟨F, 1, none⟩ (.int .i64 0)).setCell ⟨F, 2, none⟩ (.int .i64 0)).setCell ⟨F, 3, none⟩ (.slice none 0 0)).setCell ⟨F, 4, none⟩ (.slice none 0 0) := ⟨_, rfl⟩
              rw [← hwe] at hFe ae
              have hSe : we.cell? ⟨R, 2, none⟩ = some (.int .i64 (s'.at_ : Nat)) := (ae.cell (p := ⟨R, 2, none⟩) HRl.out (by simp; exact HRF.out)).trans hS
              have HFe := hid hFe
              have HWe : Hid (Apart [] w we) := HWd.out.trans' ae (fun y hy => by simp at hy; exact .inr (by rw [hy]; exact HFw.out))
              clear hFe ae
              refine wpAnyH_ready (rs := [5]) (by kernel_rfl) (by simp) ?_
              refine AllReadyH.cons rfl (fun KK hKK => ?_) AllReadyH.nil
              go_simp
              rw [← hwe]
              refine hKK.out _ _ hSe (fun hHeld => ?_)
              clear hKK KK
              try simp only [Act.put, List.setIfInBounds_toArray, List.set_cons_zero, List.set_cons_succ]
              refine tk 6 3 (.int .i64 (s'.at_ : Nat)) rfl ?_ ?_
              · intro W hSW; go_simp
              simp only [Act.put, List.setIfInBounds_toArray, List.set_cons_zero, List.set_cons_succ]
              refine tk 7 4 (.int .i64 70) rfl ?_ ?_
              · intro W hSW; go_simp
              simp only [Act.put, List.setIfInBounds_toArray, List.set_cons_zero, List.set_cons_succ]
              refine wpAnyH_done (by kernel_rfl) ?_ _
              clear hHeld hS hSe hwe b0 b1 b2 b3 b4 p0 p1 p2 p3 p4
              go_wp2_with fail
              obtain ⟨d0, d1, d2, d3, d4⟩ := row5v HFe.out
              have HP : Hid (RdP w B (.returned (.tuple #[.agg #[.int .i64 0, .int .i64 0, .int .i64 0, .slice none 0 0, .slice none 0 0], .int .i64 (s'.at_ : Nat), .int .i64 70])) we) := ⟨HWe.out, 0, 0, slz, slz, by rw [HCK.out]; rfl, fun h => by rw [HCK.out] at h; cases h⟩
              refine bodyPost_ret (v := .tuple #[.agg #[.int .i64 0, .int .i64 0, .int .i64 0, .slice none 0 0, .slice none 0 0], .int .i64 (s'.at_ : Nat), .int .i64 70]) ?_ rfl HP.out
              simp [results, Try.results58, go_sem, d0, d1, d2, d3, d4]
            · have hgood : s'.bad = false := by simpa using hbad
              clear hbad
              have z1 := z1 hgood
              obtain ⟨q, bad⟩ := s'
              dsimp only at hgood z1
              subst hgood
              have e1 : wrP ⟨q, false⟩ = -1 := rfl
              rw [e1] at z2
              clear e1
              by_cases hq : q < 2048
              · have hqi : ((q : Nat) : Int) < 2048 := by omega
                have HM := hid HPG.out.r.mz
                go_wp2_with fail
                refine (field_ok HPG.out.r 1 0 0 (by omega) (by omega) (by omega) (fun _ => by dsimp only; omega)).mono ?_
                rintro _ wn ⟨rfl, hrn, han⟩
                have HPG2 := hid (HPG.out.keepR hrn han (fun _ => rfl))
                have HM2 := hid hrn.mz
                clear hrn han z1 z2
                try dsimp only
                go_wp2_with fail
                go_roundw
                case rel =>
                  have hfu : 2048 ≤ q + f := by
                    rcases HFU.out with h | h
                    · cases h
                    · exact h
                  obtain ⟨f', rfl⟩ : ∃ f', f = f' + 1 := ⟨f - 1, by omega⟩
                  refine ⟨f', _, HPG2.out, ?_, ?_⟩
                  · rw [HEND.out]
                    show (if (⟨q, false⟩ : Ps).bad = false ∧ (⟨q, false⟩ : Ps).at_ < 2048 then zerosR B f' (num B 1 0 0 ⟨q, false⟩).2 else ⟨q, false⟩) = _
                    rw [if_pos ⟨rfl, hq⟩]
                  · cases hb : (num B 1 0 0 ⟨q, false⟩).2.bad with
                    | true => exact .inl rfl
                    | false =>
                      right
                      have h1 := num_ok B 1 0 0 ⟨q, false⟩ hb
                      rw [h1.2.1]
                      try dsimp only
                      omega
                case measure =>
                  rw [HM.out, HM2.out]
                  have h0 : ¬ ((⟨q, false⟩ : Ps).bad = true) := by simp
                  rw [if_neg h0]
                  cases hb : (num B 1 0 0 ⟨q, false⟩).2.bad with
                  | true =>
                    rw [if_pos rfl]
                    try dsimp only
                    omega
                  | false =>
                    have h1 := num_ok B 1 0 0 ⟨q, false⟩ hb
                    rw [if_neg (by simp), h1.2.1]
                    try dsimp only
                    omega
              · have hqi : ¬ ((q : Nat) : Int) < 2048 := by omega
                have HE : Hid (endR B = ⟨q, false⟩) := by unfold Hid; rw [HEND.out]; exact zerosR_stay (.inr (by show 2048 ≤ q; omega)) f
                have HCK : Hid (checkR B = ((bodyR B).1.k, 0, 0)) := by unfold Hid checkR; rw [if_pos HBL.out, HE.out, if_neg (by simp)]
                obtain ⟨gg, oo, sk, sl, hyy, hpc⟩ := HPG.out.y
                have HPC := hid (hpc rfl)
                have HYY := hid hyy
                have HFF := hid HPG.out.f
                have HWW := hid HPG.out.r.ap
                clear hpc hyy
                obtain ⟨kk, Hkk⟩ : ∃ k, Hid (k = (bodyR B).1.k) := ⟨_, rfl⟩
                rw [← Hkk.out] at HYY HCK
                obtain ⟨c0, c1, c2, c3, c4⟩ := row5v HYY.out
                obtain ⟨b0, b1, b2, b3, b4⟩ := row5v HFF.out.1
                have p0 := frozen_of_row _ _ 0 _ _ HFF.out.1
                have p1 := frozen_of_row _ _ 1 _ _ HFF.out.1
                have p2 := frozen_of_row _ _ 2 _ _ HFF.out.1
                have p3 := frozen_of_row _ _ 3 _ _ HFF.out.1
                have p4 := frozen_of_row _ _ 4 _ _ HFF.out.1
                obtain ⟨hFe, ae⟩ := set5 (.int .i64 (kk : Nat)) (.int .i64 gg) (.int .i64 oo) (.slice sk.p sk.n sk.c) (.slice sl.p sl.n sl.c) HFF.out.1
                obtain ⟨we, hwe⟩ : ∃ V, V = ((((wr.setCell ⟨F, 0, none⟩ (.int .i64 (kk : Nat))).setCell ⟨F, 1, none⟩ (.int .i64 gg)).setCell ⟨F, 2, none⟩ (.int .i64 oo)).setCell ⟨F, 3, none⟩ (.slice sk.p sk.n sk.c)).setCell ⟨F, 4, none⟩ (.slice sl.p sl.n sl.c) := ⟨_, rfl⟩
                rw [← hwe] at hFe ae
                have tke : TK [119] wr we := TK.one ae HFF.out.1 (by simp)
                have hWe : Apart [] w we := HWW.out.trans' ae (fun y hy => by simp at hy; exact .inr (by rw [hy]; exact HFw.out))
                have HP : Hid (RdP w B (.returned (.tuple #[.agg #[.int .i64 (kk : Nat), .int .i64 gg, .int .i64 oo, .slice sk.p sk.n sk.c, .slice sl.p sl.n sl.c], .int .i64 0, .int .i64 0])) we) := ⟨hWe, gg, oo, sk, sl, by rw [HCK.out]; rfl, fun _ => HPC.out.keep tke hWe (by decide)⟩
                have HFe := hid hFe
                clear hFe ae tke hWe HPG
                go_wp2_with fail
                rw [← hwe]
                obtain ⟨d0, d1, d2, d3, d4⟩ := row5v HFe.out
                refine bodyPost_ret (v := .tuple #[.agg #[.int .i64 (kk : Nat), .int .i64 gg, .int .i64 oo, .slice sk.p sk.n sk.c, .slice sl.p sl.n sl.c], .int .i64 0, .int .i64 0]) ?_ rfl HP.out
                simp [results, Try.results58, go_sem, d0, d1, d2, d3, d4]
        · have hk0 : K.1 = 0 := by omega
          have HKB : Hid (headR B ⟨0, false⟩ = (⟨0, 0, 0, 0, 0, 0⟩, K.2)) := by
            unfold Hid headR
            dsimp only
            rw [← HK.out, if_neg hk1, if_neg hk2, if_neg hk3, hk0]
          have HBB : Hid (bodyR B = (⟨0, 0, 0, 0, 0, 0⟩, K.2)) := by
            unfold Hid bodyR
            dsimp only
            rw [HKB.out]
            rfl
          have HPG : Hid (PG w w5 R F Y s0 B (bodyR B).2) := by
            unfold Hid
            rw [HBB.out]
            refine ⟨HR5.out, HF5.out, 0, 0, slz, slz, ?_, fun hg => ?_⟩
            · rw [HBB.out, HY5.out, hk0]
            · exfalso
              have h1 := num_ok B 1 1 3 ⟨0, false⟩ (by rw [← HK.out]; exact hg)
              rw [← HK.out] at h1
              have h2 := congrArg Prod.fst h1.2.1
              rw [hk0] at h2
              dsimp only at h1 h2
              omega
          have i1 : (((K.1 : Nat) : Int) == 1) = false := by rw [beq_eq_false_iff_ne]; omega
          have i2 : (((K.1 : Nat) : Int) == 2) = false := by rw [beq_eq_false_iff_ne]; omega
          have i3 : (((K.1 : Nat) : Int) == 3) = false := by rw [beq_eq_false_iff_ne]; omega
          clear hk1 hk2 hk3 hk0
          go_wp2_with fail
          go_loopw [] (fun wt => ∃ (f : Nat) (s' : Ps), PG w wt R F Y s0 B s' ∧ endR B = zerosR B f s' ∧ (s'.bad = true ∨ 2048 ≤ s'.at_ + f)) (fun wt => mz R wt)
          case atStart => exact ⟨2048, (bodyR B).2, HPG.out, rfl, .inr (by omega)⟩
          case round =>
            clear HPG
            obtain ⟨f, s', hpg, hend, hfu⟩ := hrel
            have HPG := hid hpg
            have HEND := hid hend
            have HFU := hid hfu
            have z2 := hpg.r.row.1
            have z1 := hpg.r.row.2.1
            clear hpg hend hfu
            by_cases hbad : s'.bad = true
            · have e1 : wrP s' = (s'.at_ : Int) := by unfold wrP; rw [if_pos hbad]
              rw [e1] at z2
              have hng : ¬ ((s'.at_ : Nat) : Int) < 0 := by omega
              have hge : (0 : Int) ≤ ((s'.at_ : Nat) : Int) := by omega
              have HE : Hid (endR B = s') := by unfold Hid; rw [HEND.out]; exact zerosR_stay (.inl hbad) f
              have HCK : Hid (checkR B = (0, s'.at_, 70)) := by unfold Hid checkR; rw [if_pos HBL.out, HE.out, if_pos hbad]
              have hS : wr.drew.cell? ⟨R, 2, none⟩ = some (.int .i64 (s'.at_ : Nat)) := z2
              have HFd := hid (keep0 (Apart.refl [] wr).drew HPG.out.f.1)
              have HWd : Hid (Apart [] w wr.drew) := HPG.out.r.ap.drew
              have HRF : Hid (R ≠ F) := fun h => HPG.out.r.neX HPG.out.f.1 (by decide) h.symm
              have HRl : Hid (R < wr.drew.heap.size) := HPG.out.r.row.2.2
              clear z1 e1 hbad
              go_upto_region 38 with fail
              clear z2
              refine wp_region_held_drew (S := fun W => W.cell? ⟨R, 2, none⟩ = some (.int .i64 (s'.at_ : Nat))) (by kernel_rfl) hS (fun hHeld => ?_)
              generalize wr.drew = wd at *
              refine tk 0 146 (.agg #[.int .i64 0, .int .i64 0, .int .i64 0, .slice none 0 0, .slice none 0 0]) rfl ?_ ?_
              · intro W hSW; go_simp
              simp only [Act.put, List.setIfInBounds_toArray, List.set_cons_zero, List.set_cons_succ]
              refine tk 1 147 (.pointer (some ⟨R, 0, none⟩)) rfl ?_ ?_
              · intro W hSW; go_simp
              simp only [Act.put, List.setIfInBounds_toArray, List.set_cons_zero, List.set_cons_succ]
              refine tk 2 148 (.pointer (some ⟨R, 0, none⟩)) rfl ?_ ?_
              · intro W hSW; go_simp
              simp only [Act.put, List.setIfInBounds_toArray, List.set_cons_zero, List.set_cons_succ]
              refine tk 3 149 (.pointer (some ⟨R, 2, none⟩)) rfl ?_ ?_
              · intro W hSW; go_simp
              simp only [Act.put, List.setIfInBounds_toArray, List.set_cons_zero, List.set_cons_succ]
              refine tk 4 150 (.int .i64 (s'.at_ : Nat)) rfl ?_ ?_
              · intro W hSW; go_simp
              simp only [Act.put, List.setIfInBounds_toArray, List.set_cons_zero, List.set_cons_succ]
              obtain ⟨b0, b1, b2, b3, b4⟩ := row5v HFd.out
              have p0 := frozen_of_row _ _ 0 _ _ HFd.out
              have p1 := frozen_of_row _ _ 1 _ _ HFd.out
              have p2 := frozen_of_row _ _ 2 _ _ HFd.out
              have p3 := frozen_of_row _ _ 3 _ _ HFd.out
              have p4 := frozen_of_row _ _ 4 _ _ HFd.out
              obtain ⟨hFe, ae⟩ := set5 (.int .i64 0) (.int .i64 0) (.int .i64 0) (.slice none 0 0) (.slice none 0 0) HFd.out
              obtain ⟨we, hwe⟩ : ∃ V, V = ((((wd.setCell ⟨F, 0, none⟩ (.int .i64 0)).setCell ⟨F, 1, none⟩ (.int .i64 0)).setCell ⟨F, 2, none⟩ (.int .i64 0)).setCell ⟨F, 3, none⟩ (.slice none 0 0)).setCell ⟨F, 4, none⟩ (.slice none 0 0) := ⟨_, rfl⟩
              rw [← hwe] at hFe ae
              have hSe : we.cell? ⟨R, 2, none⟩ = some (.int .i64 (s'.at_ : Nat)) := (ae.cell (p := ⟨R, 2, none⟩) HRl.out (by simp; exact HRF.out)).trans hS
              have HFe := hid hFe
              have HWe : Hid (Apart [] w we) := HWd.out.trans' ae (fun y hy => by simp at hy; exact .inr (by rw [hy]; exact HFw.out))
              clear hFe ae
              refine wpAnyH_ready (rs := [5]) (by kernel_rfl) (by simp) ?_
              refine AllReadyH.cons rfl (fun KK hKK => ?_) AllReadyH.nil
              go_simp
              rw [← hwe]
              refine hKK.out _ _ hSe (fun hHeld => ?_)
              clear hKK KK
              try simp only [Act.put, List.setIfInBounds_toArray, List.set_cons_zero, List.set_cons_succ]
              refine tk 6 3 (.int .i64 (s'.at_ : Nat)) rfl ?_ ?_
              · intro W hSW; go_simp
              simp only [Act.put, List.setIfInBounds_toArray, List.set_cons_zero, List.set_cons_succ]
              refine tk 7 4 (.int .i64 70) rfl ?_ ?_
              · intro W hSW; go_simp
              simp only [Act.put, List.setIfInBounds_toArray, List.set_cons_zero, List.set_cons_succ]
              refine wpAnyH_done (by kernel_rfl) ?_ _
              clear hHeld hS hSe hwe b0 b1 b2 b3 b4 p0 p1 p2 p3 p4
              go_wp2_with fail
              obtain ⟨d0, d1, d2, d3, d4⟩ := row5v HFe.out
              have HP : Hid (RdP w B (.returned (.tuple #[.agg #[.int .i64 0, .int .i64 0, .int .i64 0, .slice none 0 0, .slice none 0 0], .int .i64 (s'.at_ : Nat), .int .i64 70])) we) := ⟨HWe.out, 0, 0, slz, slz, by rw [HCK.out]; rfl, fun h => by rw [HCK.out] at h; cases h⟩
              refine bodyPost_ret (v := .tuple #[.agg #[.int .i64 0, .int .i64 0, .int .i64 0, .slice none 0 0, .slice none 0 0], .int .i64 (s'.at_ : Nat), .int .i64 70]) ?_ rfl HP.out
              simp [results, Try.results58, go_sem, d0, d1, d2, d3, d4]
            · have hgood : s'.bad = false := by simpa using hbad
              clear hbad
              have z1 := z1 hgood
              obtain ⟨q, bad⟩ := s'
              dsimp only at hgood z1
              subst hgood
              have e1 : wrP ⟨q, false⟩ = -1 := rfl
              rw [e1] at z2
              clear e1
              by_cases hq : q < 2048
              · have hqi : ((q : Nat) : Int) < 2048 := by omega
                have HM := hid HPG.out.r.mz
                go_wp2_with fail
                refine (field_ok HPG.out.r 1 0 0 (by omega) (by omega) (by omega) (fun _ => by dsimp only; omega)).mono ?_
                rintro _ wn ⟨rfl, hrn, han⟩
                have HPG2 := hid (HPG.out.keepR hrn han (fun _ => rfl))
                have HM2 := hid hrn.mz
                clear hrn han z1 z2
                try dsimp only
                go_wp2_with fail
                go_roundw
                case rel =>
                  have hfu : 2048 ≤ q + f := by
                    rcases HFU.out with h | h
                    · cases h
                    · exact h
                  obtain ⟨f', rfl⟩ : ∃ f', f = f' + 1 := ⟨f - 1, by omega⟩
                  refine ⟨f', _, HPG2.out, ?_, ?_⟩
                  · rw [HEND.out]
                    show (if (⟨q, false⟩ : Ps).bad = false ∧ (⟨q, false⟩ : Ps).at_ < 2048 then zerosR B f' (num B 1 0 0 ⟨q, false⟩).2 else ⟨q, false⟩) = _
                    rw [if_pos ⟨rfl, hq⟩]
                  · cases hb : (num B 1 0 0 ⟨q, false⟩).2.bad with
                    | true => exact .inl rfl
                    | false =>
                      right
                      have h1 := num_ok B 1 0 0 ⟨q, false⟩ hb
                      rw [h1.2.1]
                      try dsimp only
                      omega
                case measure =>
                  rw [HM.out, HM2.out]
                  have h0 : ¬ ((⟨q, false⟩ : Ps).bad = true) := by simp
                  rw [if_neg h0]
                  cases hb : (num B 1 0 0 ⟨q, false⟩).2.bad with
                  | true =>
                    rw [if_pos rfl]
                    try dsimp only
                    omega
                  | false =>
                    have h1 := num_ok B 1 0 0 ⟨q, false⟩ hb
                    rw [if_neg (by simp), h1.2.1]
                    try dsimp only
                    omega
              · have hqi : ¬ ((q : Nat) : Int) < 2048 := by omega
                have HE : Hid (endR B = ⟨q, false⟩) := by unfold Hid; rw [HEND.out]; exact zerosR_stay (.inr (by show 2048 ≤ q; omega)) f
                have HCK : Hid (checkR B = ((bodyR B).1.k, 0, 0)) := by unfold Hid checkR; rw [if_pos HBL.out, HE.out, if_neg (by simp)]
                obtain ⟨gg, oo, sk, sl, hyy, hpc⟩ := HPG.out.y
                have HPC := hid (hpc rfl)
                have HYY := hid hyy
                have HFF := hid HPG.out.f
                have HWW := hid HPG.out.r.ap
                clear hpc hyy
                obtain ⟨kk, Hkk⟩ : ∃ k, Hid (k = (bodyR B).1.k) := ⟨_, rfl⟩
                rw [← Hkk.out] at HYY HCK
                obtain ⟨c0, c1, c2, c3, c4⟩ := row5v HYY.out
                obtain ⟨b0, b1, b2, b3, b4⟩ := row5v HFF.out.1
                have p0 := frozen_of_row _ _ 0 _ _ HFF.out.1
                have p1 := frozen_of_row _ _ 1 _ _ HFF.out.1
                have p2 := frozen_of_row _ _ 2 _ _ HFF.out.1
                have p3 := frozen_of_row _ _ 3 _ _ HFF.out.1
                have p4 := frozen_of_row _ _ 4 _ _ HFF.out.1
                obtain ⟨hFe, ae⟩ := set5 (.int .i64 (kk : Nat)) (.int .i64 gg) (.int .i64 oo) (.slice sk.p sk.n sk.c) (.slice sl.p sl.n sl.c) HFF.out.1
                obtain ⟨we, hwe⟩ : ∃ V, V = ((((wr.setCell ⟨F, 0, none⟩ (.int .i64 (kk : Nat))).setCell ⟨F, 1, none⟩ (.int .i64 gg)).setCell ⟨F, 2, none⟩ (.int .i64 oo)).setCell ⟨F, 3, none⟩ (.slice sk.p sk.n sk.c)).setCell ⟨F, 4, none⟩ (.slice sl.p sl.n sl.c) := ⟨_, rfl⟩
                rw [← hwe] at hFe ae
                have tke : TK [119] wr we := TK.one ae HFF.out.1 (by simp)
                have hWe : Apart [] w we := HWW.out.trans' ae (fun y hy => by simp at hy; exact .inr (by rw [hy]; exact HFw.out))
                have HP : Hid (RdP w B (.returned (.tuple #[.agg #[.int .i64 (kk : Nat), .int .i64 gg, .int .i64 oo, .slice sk.p sk.n sk.c, .slice sl.p sl.n sl.c], .int .i64 0, .int .i64 0])) we) := ⟨hWe, gg, oo, sk, sl, by rw [HCK.out]; rfl, fun _ => HPC.out.keep tke hWe (by decide)⟩
                have HFe := hid hFe
                clear hFe ae tke hWe HPG
                go_wp2_with fail
                rw [← hwe]
                obtain ⟨d0, d1, d2, d3, d4⟩ := row5v HFe.out
                refine bodyPost_ret (v := .tuple #[.agg #[.int .i64 (kk : Nat), .int .i64 gg, .int .i64 oo, .slice sk.p sk.n sk.c, .slice sl.p sl.n sl.c], .int .i64 0, .int .i64 0]) ?_ rfl HP.out
                simp [results, Try.results58, go_sem, d0, d1, d2, d3, d4]
  · have hni : (((s0.n : Nat) : Int) != 2048) = true := by
      rw [bne_iff_ne]
      omega
    have HCK : Hid (checkR B = (0, min s0.n 2048, 70)) := by unfold Hid checkR; rw [if_neg (by omega), hlen]
    obtain ⟨b0, b1, b2, b3, b4⟩ := row5v hF1
    have p0 := frozen_of_row _ _ 0 _ _ hF1
    have p1 := frozen_of_row _ _ 1 _ _ hF1
    have p2 := frozen_of_row _ _ 2 _ _ hF1
    have p3 := frozen_of_row _ _ 3 _ _ hF1
    have p4 := frozen_of_row _ _ 4 _ _ hF1
    obtain ⟨hFe, ae⟩ := set5 (.int .i64 0) (.int .i64 0) (.int .i64 0) (.slice none 0 0) (.slice none 0 0) hF1
    obtain ⟨we, hwe⟩ : ∃ V, V = ((((w1.setCell ⟨F, 0, none⟩ (.int .i64 0)).setCell ⟨F, 1, none⟩ (.int .i64 0)).setCell ⟨F, 2, none⟩ (.int .i64 0)).setCell ⟨F, 3, none⟩ (.slice none 0 0)).setCell ⟨F, 4, none⟩ (.slice none 0 0) := ⟨_, rfl⟩
    rw [← hwe] at hFe ae
    have HFe := hid hFe
    have HP : Hid (RdP w B (.returned (.tuple #[.agg #[.int .i64 0, .int .i64 0, .int .i64 0, .slice none 0 0, .slice none 0 0], .int .i64 ((min s0.n 2048 : Nat) : Int), .int .i64 70])) we) := ⟨a1.trans' ae (fun y hy => by simp at hy; exact .inr (by rw [hy, HXF.out]; exact Nat.le_refl _)), 0, 0, slz, slz, by rw [HCK.out]; rfl, fun h => by rw [HCK.out] at h; cases h⟩
    clear hFe ae hF1 a1 hrd h8 hlen hn
    go_enter Try.func58, Try.ntmps58
    go_upto_region 1 with fail
    rw [← hw1, ← HXF.out]
    clear hw1
    go_wp2_with fail
    rw [← hwe]
    obtain ⟨d0, d1, d2, d3, d4⟩ := row5v HFe.out
    have hmin : ((min s0.n 2048 : Nat) : Int) = min ((s0.n : Nat) : Int) 2048 := by omega
    have HP2 : RdP w B (.returned (.tuple #[.agg #[.int .i64 0, .int .i64 0, .int .i64 0, .slice none 0 0, .slice none 0 0], .int .i64 (min ((s0.n : Nat) : Int) 2048), .int .i64 70])) we := by rw [← hmin]; exact HP.out
    refine bodyPost_ret (v := .tuple #[.agg #[.int .i64 0, .int .i64 0, .int .i64 0, .slice none 0 0, .slice none 0 0], .int .i64 (min ((s0.n : Nat) : Int) 2048), .int .i64 70]) ?_ rfl HP2
    simp [results, Try.results58, go_sem, d0, d1, d2, d3, d4]
end Go.Proofs.Ytllhmidpphlbhaa.ds
