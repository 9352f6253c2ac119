import Derived.Test.YtllhmidpphlbhaaX3
namespace Go.Proofs.Ytllhmidpphlbhaa.ds
open Go.ChangeShapes Go.WideShapes Go.ChangeAt Go.RowKit Go.Sort
set_option linter.unusedVariables false
set_option linter.unusedSimpArgs false

theorem tkS_text (B : List Nat) (lo hi : Nat) (s : Ps) : tkS (num B 1 lo hi s).2 (num B 1 lo hi s).1 = (textR B lo hi s).2 := by
  unfold tkS textR
  dsimp only
  by_cases hb : (num B 1 lo hi s).2.bad = true
  · rw [if_pos hb, num_bd B 1 lo hi s hb, Nat.add_zero]
  · rw [if_neg hb]
    have : (num B 1 lo hi s).2.bad = false := by simpa using hb
    rw [this]
/-- what the document's write answers -/
structure WtP (wB w : World) (R : Nat) (s0 : Sl) (B : List Nat) (key : ByteArray) (an ac : Nat) (s : Ps) (e : Ending) (w' : World) : Prop where
  ex : ∃ v x : Sl, e = .returned (.agg #[.int .i64 ((writeR B an ac s).1.n : Nat), .int .i64 ((writeR B an ac s).1.c : Nat), .string key, .bool (writeR B an ac s).1.d, .slice v.p v.n v.c, .slice x.p x.n x.c]) ∧ ((writeR B an ac s).2.bad = false → Bf wB w' v ((B.drop (writeR B an ac s).1.vb).take (writeR B an ac s).1.vn) ∧ Nw wB w' 85 3 x (flat (writeR B an ac s).1.xs))
  r : RX wB w' R s0 B (writeR B an ac s).2
  a : Apart [R] w w'
set_option maxHeartbeats 32000000 in
set_option maxRecDepth 100000 in
theorem rwriteX_ok {wB w : World} {R : Nat} {s0 : Sl} {B : List Nat} {s : Ps} (h : RX wB w R s0 B s) (key : ByteArray) (an ac : Nat) (han : an ≤ 7) (hac : ac ≤ 1048576) (h0 : ac = 0 → an = 0) (hr : s.bad = false → s.at_ + 176 ≤ 2048) : Calls Try.prog 78 #[.pointer (some ⟨R, 0, none⟩), .string key, .agg #[.int .i64 (an : Nat), .int .i64 (ac : Nat)]] w fun e w' => WtP wB w R s0 B key an ac s e w' := by
  obtain ⟨E0, HXE⟩ : ∃ D, Hid (D = w.heap.size) := ⟨_, rfl⟩
  obtain ⟨w1, hw1⟩ : ∃ V, V = w.alloc (.cells #[.int .i64 (an : Nat), .int .i64 (ac : Nat)] 47) := ⟨_, rfl⟩
  obtain ⟨F, HXF⟩ : ∃ D, Hid (D = w1.heap.size) := ⟨_, rfl⟩
  obtain ⟨w2, hw2⟩ : ∃ V, V = w1.alloc (.cells #[.int .i64 0, .int .i64 0, .string ⟨#[]⟩, .bool false, .slice none 0 0, .slice none 0 0] 50) := ⟨_, rfl⟩
  obtain ⟨G, HXG⟩ : ∃ D, Hid (D = w2.heap.size) := ⟨_, rfl⟩
  obtain ⟨w3, hw3⟩ : ∃ V, V = w2.alloc (.cells #[.int .i64 0, .int .i64 0, .string key, .bool false, .slice none 0 0, .slice none 0 0] 50) := ⟨_, rfl⟩
  have a1 : Apart [] w w1 := by rw [hw1]; exact (Apart.refl [] w).alloc _
  have a2 : Apart [] w1 w2 := by rw [hw2]; exact (Apart.refl [] w1).alloc _
  have a3 : Apart [] w2 w3 := by rw [hw3]; exact (Apart.refl [] w2).alloc _
  have e1 : w1.heap[E0]? = some (.cells #[.int .i64 (an : Nat), .int .i64 (ac : Nat)] 47 (0, 0)) := by rw [hw1, HXE.out]; exact heap_alloc_new w _
  have e2 : w2.heap[F]? = some (.cells #[.int .i64 0, .int .i64 0, .string ⟨#[]⟩, .bool false, .slice none 0 0, .slice none 0 0] 50 (0, 0)) := by rw [hw2, HXF.out]; exact heap_alloc_new w1 _
  have HGo : Hid (w3.heap[G]? = some (.cells #[.int .i64 0, .int .i64 0, .string key, .bool false, .slice none 0 0, .slice none 0 0] 50 (0, 0))) := by unfold Hid; rw [hw3, HXG.out]; exact heap_alloc_new w2 _
  have HEo := hid (keep0 (a2.trans a3) e1)
  have HFo := hid (keep0 a3 e2)
  have HRo := hid (h.kept0 (a1.trans (a2.trans a3)))
  have HWo : Hid (Apart [R] w w3) := (a1.trans (a2.trans a3)).mono (by simp)
  have HGR := hid (HRo.out.neX HGo.out (by decide))
  have HER := hid (HRo.out.neX HEo.out (by decide))
  have HFR := hid (HRo.out.neX HFo.out (by decide))
  have hEF : w1.heap.size = E0 + 1 := by rw [hw1, HXE.out]; exact Array.size_push _
  have hFG : w2.heap.size = F + 1 := by rw [hw2, HXF.out]; exact Array.size_push _
  have HEG : Hid (E0 ≠ G) := by unfold Hid; rw [HXG.out, hFG, HXF.out, hEF]; omega
  have HFG : Hid (F ≠ G) := by unfold Hid; rw [HXG.out, hFG]; omega
  have HGw : Hid (w.heap.size ≤ G) := by unfold Hid; rw [HXG.out]; exact (a1.trans a2).size
  have HGB : Hid (wB.heap.size ≤ G) := Nat.le_trans h.ap.size HGw.out
  have HFw : Hid (w.heap.size ≤ F) := by unfold Hid; rw [HXF.out]; exact a1.size
  have HRm := hid hr
  have hFE : E0 + 1 = F := by rw [HXF.out, hEF]
  have H0 := hid h0
  have HAPw := hid h.ap
  clear a1 a2 a3 e1 e2 h hr h0 hEF hFG
  have z0 := crow HEo.out 0 _ rfl
  have z1 := crow HEo.out 1 _ rfl
  go_enter Try.func78, Try.ntmps78
  go_upto_region 1 with fail
  rw [← HXE.out, ← hw1, ← hw2, hFE]
  clear hw1 hw2 hFE
  go_upto_region 2 with fail
  rw [← hw3, ← HXG.out]
  clear hw3
  go_upto_if 16 with fail
  go_cut [8, 16] from 17 to 18 (fun s8 _ wx => .int .i64 (an : Nat) = s8 ∧ wx = w3)
  case first =>
    by_cases hc : 0 < ac
    · have hci : ((ac : Nat) : Int) > 0 := by omega
      go_wp2_with fail
      go_meet
      exact ⟨rfl, rfl⟩
    · have hci : ¬ ((ac : Nat) : Int) > 0 := by omega
      have ha0 : an = 0 := H0.out (by omega)
      subst ha0
      go_wp2_with fail
      go_meet
      exact ⟨rfl, rfl⟩
  obtain ⟨rfl, hwc⟩ := hcut
  rw [hwc]
  clear hwc wc z0 z1
  go_wp2_with fail
  refine (field_ok HRo.out 1 an 7 (by omega) (by omega) (by omega) (fun hg => by have := HRm.out hg; omega)).mono ?_
  rintro _ w4 ⟨rfl, hr, ha⟩
  obtain ⟨Aa, HAa⟩ : ∃ A, Hid (A = num B 1 an 7 s) := ⟨_, rfl⟩
  rw [← HAa.out] at hr ⊢
  have hA7 : Aa.1 ≤ 7 := by rw [HAa.out]; exact num_le B 1 an 7 s
  try dsimp only
  have HR := hid hr
  have HW := hid (HWo.out.trans ha)
  have HG := hid (keepB ha HGo.out HGR.out)
  have HE := hid (keepB ha HEo.out HER.out)
  have HF := hid (keepB ha HFo.out HFR.out)
  clear hr ha HRo HWo HGo HEo HFo
  have HRo := HR
  have HWo := HW
  have HGo := HG
  have HEo := HE
  have HFo := HF
  clear HR HW HG HE HF
  have ys := crow HGo.out 0 _ rfl
  have fs := frozen_of_row _ _ 0 _ _ HGo.out
  obtain ⟨w5, hw5⟩ : ∃ V, V = w4.setCell ⟨G, 0, none⟩ (.int .i64 (Aa.1 : Nat)) := ⟨_, rfl⟩
  have hst : Apart [G] w4 w5 := by rw [hw5]; exact (Apart.refl [G] w4).setCell (.inl (by simp)) _
  have HG : Hid (w5.heap[G]? = some (.cells #[.int .i64 (Aa.1 : Nat), .int .i64 0, .string key, .bool false, .slice none 0 0, .slice none 0 0] 50 (0, 0))) := by
    unfold Hid
    have := heap_setCell_same w4 G 0 _ 50 (.int .i64 (Aa.1 : Nat)) HGo.out
    rw [hw5]; simpa using this
  have HR := hid (HRo.out.other hst HGR.out HGB.out)
  have HE := hid (keepB hst HEo.out HEG.out)
  have HF := hid (keepB hst HFo.out HFG.out)
  have HW : Hid (Apart [R] w w5) := HWo.out.trans' hst (fun y hy => by simp at hy; exact .inr (by rw [hy]; exact HGw.out))
  clear hst HRo HWo HGo HEo HFo
  go_upto_region 7 with fail
  rw [← hw5]
  clear hw5 ys fs
  have HRo := HR
  have HWo := HW
  have HGo := HG
  have HEo := HE
  have HFo := HF
  clear HR HW HG HE HF
  have z0 := crow HEo.out 0 _ rfl
  have z1 := crow HEo.out 1 _ rfl
  have g0 := crow HGo.out 0 _ rfl
  obtain ⟨bb, Hbb⟩ : ∃ b : Bool, Hid (b = decide (0 < ac ∧ Aa.1 = an)) := ⟨_, rfl⟩
  go_cut [34] from 24 to 34 (fun s34 wx => .bool bb = s34 ∧ wx = w5)
  case first =>
    by_cases hc : 0 < ac
    · have hci : ((ac : Nat) : Int) > 0 := by omega
      by_cases hq : Aa.1 = an
      · have hqi : ((Aa.1 : Nat) : Int) = (an : Int) := by omega
        have HD : Hid (bb = true) := by unfold Hid; rw [Hbb.out]; simp [hc, hq]
        go_wp2_with fail
        go_meet
        exact ⟨by first | (rw [HD.out]; done) | (rw [HD.out]; simp [hqi]), rfl⟩
      · have hqi : ¬ ((Aa.1 : Nat) : Int) = (an : Int) := by omega
        have HD : Hid (bb = false) := by unfold Hid; rw [Hbb.out]; simp [hq]
        go_wp2_with fail
        go_meet
        exact ⟨by first | (rw [HD.out]; done) | (rw [HD.out]; simp [hqi]), rfl⟩
    · have hci : ¬ ((ac : Nat) : Int) > 0 := by omega
      have HD : Hid (bb = false) := by unfold Hid; rw [Hbb.out]; simp [hc]
      go_wp2_with fail
      go_meet
      exact ⟨by rw [HD.out], rfl⟩
  obtain ⟨rfl, hwc⟩ := hcut
  rw [hwc]
  clear hwc wc
  have hw1 : IntKind.i64.wrap ((ac : Int) + 1) = ((ac + 1 : Nat) : Int) := by rw [IntKind.wrap_i64]; omega
  go_upto_if 34 with fail
  go_cut [8, 34] from 35 to 37 (fun s8 _ wx => .int .i64 ((leastC an ac Aa.1 : Nat) : Int) = s8 ∧ wx = w5)
  case first =>
    cases bb with
    | true =>
      have hl : leastC an ac Aa.1 = ac + 1 := by
        have := of_decide_eq_true Hbb.out.symm
        unfold leastC
        rw [if_pos this.2]
      have HL := hid hl
      clear hl
      go_wp2_with fail
      go_meet
      exact ⟨by first | (rw [HL.out]; done) | (rw [HL.out]; rfl) | (rw [HL.out]; simp), rfl⟩
    | false =>
      have hl : leastC an ac Aa.1 = 1 := by
        have h1 := of_decide_eq_false Hbb.out.symm
        unfold leastC
        by_cases hq : Aa.1 = an
        · rw [if_pos hq]
          have : ac = 0 := by
            by_cases hc : 0 < ac
            · exact absurd ⟨hc, hq⟩ h1
            · omega
          omega
        · rw [if_neg hq]
      have HL := hid hl
      clear hl
      go_wp2_with fail
      go_meet
      exact ⟨by first | (rw [HL.out]; done) | (rw [HL.out]; rfl) | (rw [HL.out]; simp), rfl⟩
  obtain ⟨rfl, hwc⟩ := hcut
  rw [hwc]
  clear hwc wc z0 z1 g0 hw1
  have hll : leastC an ac Aa.1 ≤ 1048577 := by unfold leastC; split <;> omega
  go_wp2_with fail
  have HA1 : Hid (Aa.2.bad = false → s.bad = false ∧ Aa.2.at_ ≤ s.at_ + 1) := fun hg => by
    have h1 := num_at B 1 an 7 s
    rw [HAa.out] at hg ⊢
    exact ⟨num_ok1 hg, h1.2⟩
  refine (field_ok HRo.out 4 (leastC an ac Aa.1) 1048576 (by omega) (by omega) (by omega) (fun hg => by have h1 := HA1.out hg; have := HRm.out h1.1; omega)).mono ?_
  rintro _ w6 ⟨rfl, hr, ha⟩
  obtain ⟨Bb, HBb⟩ : ∃ A, Hid (A = num B 4 (leastC an ac Aa.1) 1048576 Aa.2) := ⟨_, rfl⟩
  rw [← HBb.out] at hr ⊢
  have hB7 : Bb.1 ≤ 1048576 := by rw [HBb.out]; exact num_le B 4 _ 1048576 Aa.2
  have HB1 : Hid (Bb.2.bad = false → s.bad = false ∧ Bb.2.at_ ≤ s.at_ + 5) := fun hg => by
    have h1 := num_at B 4 (leastC an ac Aa.1) 1048576 Aa.2
    rw [HBb.out] at hg ⊢
    have h2 := HA1.out (num_ok1 hg)
    exact ⟨h2.1, by omega⟩
  clear hll
  try dsimp only
  have HR := hid hr
  have HW := hid (HWo.out.trans ha)
  have HG := hid (keepB ha HGo.out HGR.out)
  have HE := hid (keepB ha HEo.out HER.out)
  have HF := hid (keepB ha HFo.out HFR.out)
  clear hr ha HRo HWo HGo HEo HFo
  have HRo := HR
  have HWo := HW
  have HGo := HG
  have HEo := HE
  have HFo := HF
  clear HR HW HG HE HF
  have ys := crow HGo.out 1 _ rfl
  have fs := frozen_of_row _ _ 1 _ _ HGo.out
  obtain ⟨w7, hw7⟩ : ∃ V, V = w6.setCell ⟨G, 1, none⟩ (.int .i64 (Bb.1 : Nat)) := ⟨_, rfl⟩
  have hst : Apart [G] w6 w7 := by rw [hw7]; exact (Apart.refl [G] w6).setCell (.inl (by simp)) _
  have HG : Hid (w7.heap[G]? = some (.cells #[.int .i64 (Aa.1 : Nat), .int .i64 (Bb.1 : Nat), .string key, .bool false, .slice none 0 0, .slice none 0 0] 50 (0, 0))) := by
    unfold Hid
    have := heap_setCell_same w6 G 1 _ 50 (.int .i64 (Bb.1 : Nat)) HGo.out
    rw [hw7]; simpa using this
  have HR := hid (HRo.out.other hst HGR.out HGB.out)
  have HE := hid (keepB hst HEo.out HEG.out)
  have HF := hid (keepB hst HFo.out HFG.out)
  have HW : Hid (Apart [R] w w7) := HWo.out.trans' hst (fun y hy => by simp at hy; exact .inr (by rw [hy]; exact HGw.out))
  clear hst HRo HWo HGo HEo HFo
  go_upto_region 10 with fail
  rw [← hw7]
  clear hw7 ys fs
  have HRo := HR
  have HWo := HW
  have HGo := HG
  have HEo := HE
  have HFo := HF
  clear HR HW HG HE HF
  go_wp2_with fail
  refine (field_ok HRo.out 1 0 1 (by omega) (by omega) (by omega) (fun hg => by have h1 := HB1.out hg; have := HRm.out h1.1; omega)).mono ?_
  rintro _ w8 ⟨rfl, hr, ha⟩
  obtain ⟨Dd, HDd⟩ : ∃ A, Hid (A = num B 1 0 1 Bb.2) := ⟨_, rfl⟩
  rw [← HDd.out] at hr ⊢
  have HD1 : Hid (Dd.2.bad = false → s.bad = false ∧ Dd.2.at_ ≤ s.at_ + 6) := fun hg => by
    have h1 := num_at B 1 0 1 Bb.2
    rw [HDd.out] at hg ⊢
    have h2 := HB1.out (num_ok1 hg)
    exact ⟨h2.1, by omega⟩
  obtain ⟨dd, Hdd⟩ : ∃ d : Bool, Hid (d = (Dd.1 == 1)) := ⟨_, rfl⟩
  have hdd : (((Dd.1 : Nat) : Int) == 1) = dd := by
    rw [Hdd.out, Bool.eq_iff_iff, beq_iff_eq, beq_iff_eq]
    omega
  try dsimp only
  have HR := hid hr
  have HW := hid (HWo.out.trans ha)
  have HG := hid (keepB ha HGo.out HGR.out)
  have HE := hid (keepB ha HEo.out HER.out)
  have HF := hid (keepB ha HFo.out HFR.out)
  clear hr ha HRo HWo HGo HEo HFo
  have HRo := HR
  have HWo := HW
  have HGo := HG
  have HEo := HE
  have HFo := HF
  clear HR HW HG HE HF
  have ys := crow HGo.out 3 _ rfl
  have fs := frozen_of_row _ _ 3 _ _ HGo.out
  obtain ⟨w9, hw9⟩ : ∃ V, V = w8.setCell ⟨G, 3, none⟩ (.bool dd) := ⟨_, rfl⟩
  have hst : Apart [G] w8 w9 := by rw [hw9]; exact (Apart.refl [G] w8).setCell (.inl (by simp)) _
  have HG : Hid (w9.heap[G]? = some (.cells #[.int .i64 (Aa.1 : Nat), .int .i64 (Bb.1 : Nat), .string key, .bool dd, .slice none 0 0, .slice none 0 0] 50 (0, 0))) := by
    unfold Hid
    have := heap_setCell_same w8 G 3 _ 50 (.bool dd) HGo.out
    rw [hw9]; simpa using this
  have HR := hid (HRo.out.other hst HGR.out HGB.out)
  have HE := hid (keepB hst HEo.out HEG.out)
  have HF := hid (keepB hst HFo.out HFG.out)
  have HW : Hid (Apart [R] w w9) := HWo.out.trans' hst (fun y hy => by simp at hy; exact .inr (by rw [hy]; exact HGw.out))
  clear hst HRo HWo HGo HEo HFo
  go_upto_region 12 with fail
  rw [← hw9]
  clear hw9 ys fs
  have HRo := HR
  have HWo := HW
  have HGo := HG
  have HEo := HE
  have HFo := HF
  clear HR HW HG HE HF
  clear hdd
  have g3 := crow HGo.out 3 _ rfl
  go_upto_if 49 with fail
  go_cut [10, 49] from 50 to 50 (fun s10 _ wx => .int .i64 ((mostV dd : Nat) : Int) = s10 ∧ wx = w9)
  case first =>
    cases dd with
    | true =>
      go_wp2_with fail
      go_meet
      exact ⟨rfl, rfl⟩
    | false =>
      go_wp2_with fail
      go_meet
      exact ⟨rfl, rfl⟩
  obtain ⟨rfl, hwc⟩ := hcut
  rw [hwc]
  clear hwc wc g3
  have hmv : mostV dd ≤ 64 := by unfold mostV; split <;> omega
  go_wp2_with fail
  refine (field_ok HRo.out 1 0 (mostV dd) (by omega) (by omega) (by omega) (fun hg => by have h1 := HD1.out hg; have := HRm.out h1.1; omega)).mono ?_
  rintro _ w10 ⟨rfl, hr, ha⟩
  obtain ⟨Nn, HNn⟩ : ∃ A, Hid (A = num B 1 0 (mostV dd) Dd.2) := ⟨_, rfl⟩
  rw [← HNn.out] at hr ⊢
  have hN7 : Nn.1 ≤ 64 := by rw [HNn.out]; exact Nat.le_trans (num_le B 1 0 _ Dd.2) hmv
  have HN1 : Hid (Nn.2.bad = false → s.bad = false ∧ Nn.2.at_ ≤ s.at_ + 7) := fun hg => by
    have h1 := num_at B 1 0 (mostV dd) Dd.2
    rw [HNn.out] at hg ⊢
    have h2 := HD1.out (num_ok1 hg)
    exact ⟨h2.1, by omega⟩
  try dsimp only
  have HR := hid hr
  have HW := hid (HWo.out.trans ha)
  have HG := hid (keepB ha HGo.out HGR.out)
  have HE := hid (keepB ha HEo.out HER.out)
  have HF := hid (keepB ha HFo.out HFR.out)
  clear hr ha HRo HWo HGo HEo HFo
  have HRo := HR
  have HWo := HW
  have HGo := HG
  have HEo := HE
  have HFo := HF
  clear HR HW HG HE HF
  go_wp2_with fail
  refine (take_ok HRo.out Nn.1 (fun hg => by have h1 := HN1.out hg; have := HRm.out h1.1; omega)).mono ?_
  rintro _ w11 ⟨⟨tv, rfl, -, hbf⟩, hr, ha⟩
  have HVV := hid hbf
  clear hbf
  try dsimp only
  have HR := hid hr
  have HW := hid (HWo.out.trans ha)
  have HG := hid (keepB ha HGo.out HGR.out)
  have HE := hid (keepB ha HEo.out HER.out)
  have HF := hid (keepB ha HFo.out HFR.out)
  clear hr ha HRo HWo HGo HEo HFo
  have HRo := HR
  have HWo := HW
  have HGo := HG
  have HEo := HE
  have HFo := HF
  clear HR HW HG HE HF
  have ys := crow HGo.out 4 _ rfl
  have fs := frozen_of_row _ _ 4 _ _ HGo.out
  have HG11 := HGo
  obtain ⟨w12, hw12⟩ : ∃ V, V = w11.setCell ⟨G, 4, none⟩ (.slice tv.p tv.n tv.c) := ⟨_, rfl⟩
  have hst : Apart [G] w11 w12 := by rw [hw12]; exact (Apart.refl [G] w11).setCell (.inl (by simp)) _
  have HS12 := hid hst
  have HG : Hid (w12.heap[G]? = some (.cells #[.int .i64 (Aa.1 : Nat), .int .i64 (Bb.1 : Nat), .string key, .bool dd, .slice tv.p tv.n tv.c, .slice none 0 0] 50 (0, 0))) := by
    unfold Hid
    have := heap_setCell_same w11 G 4 _ 50 (.slice tv.p tv.n tv.c) HGo.out
    rw [hw12]; simpa using this
  have HR := hid (HRo.out.other hst HGR.out HGB.out)
  have HE := hid (keepB hst HEo.out HEG.out)
  have HF := hid (keepB hst HFo.out HFG.out)
  have HW : Hid (Apart [R] w w12) := HWo.out.trans' hst (fun y hy => by simp at hy; exact .inr (by rw [hy]; exact HGw.out))
  clear hst HRo HWo HGo HEo HFo
  go_upto_region 17 with fail
  rw [← hw12]
  clear hw12 ys fs
  have HRo := HR
  have HWo := HW
  have HGo := HG
  have HEo := HE
  have HFo := HF
  clear HR HW HG HE HF
  have HVV2 : Hid (Nn.2.bad = false → Bf wB w12 tv ((B.drop Nn.2.at_).take Nn.1)) := fun hg => by
    have h1 := HVV.out hg
    exact ⟨h1.nw.keepT HS12.out HRo.out.ap (fun k hk cur hh => by
      simp at hk
      rw [hk, HG11.out] at hh
      simp at hh), h1.len⟩
  obtain ⟨Tt, HTt⟩ : ∃ t, Hid (t = tkS Nn.2 Nn.1) := ⟨_, rfl⟩
  rw [← HTt.out] at HRo
  have HT1 : Hid (Tt.bad = false → Nn.2.bad = false ∧ s.bad = false ∧ Tt.at_ ≤ s.at_ + 71) := fun hg => by
    rw [HTt.out] at hg ⊢
    unfold tkS at hg ⊢
    by_cases hb : Nn.2.bad = true
    · rw [if_pos hb] at hg
      rw [hb] at hg
      cases hg
    · rw [if_neg hb]
      have h2 := HN1.out (by simpa using hb)
      exact ⟨by simpa using hb, h2.1, by dsimp only; omega⟩
  have g0 := crow HGo.out 0 _ rfl
  have g1 := crow HGo.out 1 _ rfl
  go_wp2_with fail
  refine (rsetX_ok HRo.out Aa.1 Bb.1 hA7 hB7 (fun hg => by have h1 := HT1.out hg; have := HRm.out h1.2.1; omega)).mono ?_
  rintro _ w13 ⟨⟨tx, rfl, hnx⟩, hr, ha⟩
  have HR12 := HRo
  have HR13 := hid hr
  obtain ⟨Xx, HXx⟩ : ∃ A, Hid (A = setR B Aa.1 Bb.1 Tt) := ⟨_, rfl⟩
  rw [← HXx.out] at hr hnx
  have HNX := hid hnx
  have HSA := hid ha
  clear hnx g0 g1
  try dsimp only
  have HR := hid hr
  have HW := hid (HWo.out.trans ha)
  have HG := hid (keepB ha HGo.out HGR.out)
  have HE := hid (keepB ha HEo.out HER.out)
  have HF := hid (keepB ha HFo.out HFR.out)
  clear hr ha HRo HWo HGo HEo HFo
  have HRo := HR
  have HWo := HW
  have HGo := HG
  have HEo := HE
  have HFo := HF
  clear HR HW HG HE HF
  have ys := crow HGo.out 5 _ rfl
  have fs := frozen_of_row _ _ 5 _ _ HGo.out
  have HG13 := HGo
  obtain ⟨w14, hw14⟩ : ∃ V, V = w13.setCell ⟨G, 5, none⟩ (.slice tx.p tx.n tx.c) := ⟨_, rfl⟩
  have hst : Apart [G] w13 w14 := by rw [hw14]; exact (Apart.refl [G] w13).setCell (.inl (by simp)) _
  have HS14 := hid hst
  have HG : Hid (w14.heap[G]? = some (.cells #[.int .i64 (Aa.1 : Nat), .int .i64 (Bb.1 : Nat), .string key, .bool dd, .slice tv.p tv.n tv.c, .slice tx.p tx.n tx.c] 50 (0, 0))) := by
    unfold Hid
    have := heap_setCell_same w13 G 5 _ 50 (.slice tx.p tx.n tx.c) HGo.out
    rw [hw14]; simpa using this
  have HR := hid (HRo.out.other hst HGR.out HGB.out)
  have HE := hid (keepB hst HEo.out HEG.out)
  have HF := hid (keepB hst HFo.out HFG.out)
  have HW : Hid (Apart [R] w w14) := HWo.out.trans' hst (fun y hy => by simp at hy; exact .inr (by rw [hy]; exact HGw.out))
  clear hst HRo HWo HGo HEo HFo
  go_upto_region 18 with fail
  rw [← hw14]
  clear hw14 ys fs
  have HRo := HR
  have HWo := HW
  have HGo := HG
  have HEo := HE
  have HFo := HF
  clear HR HW HG HE HF
  have HWR : Hid (writeR B an ac s = (⟨Aa.1, Bb.1, dd, Nn.2.at_, Nn.1, Xx.1⟩, Xx.2)) := by
    unfold Hid writeR
    dsimp only
    rw [← HAa.out, ← HBb.out, ← HDd.out, ← Hdd.out]
    have e1 : (textR B 0 (mostV dd) Dd.2).2 = Tt := by rw [HTt.out, HNn.out, tkS_text]
    have e2 : (textR B 0 (mostV dd) Dd.2).1 = (Nn.2.at_, Nn.1) := by rw [HNn.out]; rfl
    rw [e1, e2, ← HXx.out]
  have HV14 : Hid (Xx.2.bad = false → Bf wB w14 tv ((B.drop Nn.2.at_).take Nn.1) ∧ Nw wB w14 85 3 tx (flat Xx.1)) := fun hg => by
    have hT : Tt.bad = false := by
      rw [HXx.out] at hg
      exact setR_ok1 hg
    have h1 := HVV2.out (HT1.out hT).1
    have hNG : ∀ (e : Nat), e ≠ 50 → ∀ k ∈ [G], ∀ cur, w13.heap[k]? ≠ some (.cells cur e (0, 0)) := fun e he k hk cur hh => by
      simp at hk
      rw [hk, HG13.out] at hh
      simp at hh
      exact he hh.2.symm
    have hap13 : Apart [] wB w13 := HR13.out.ap
    have h2 : Nw wB w13 5 1 tv (byts ((B.drop Nn.2.at_).take Nn.1)) := h1.nw.keepT HSA.out hap13 (fun k hk cur hh => by
      simp at hk
      obtain ⟨q, hb, _⟩ := HR12.out.ex
      rw [hk, hb] at hh
      simp at hh)
    exact ⟨⟨h2.keepT HS14.out HRo.out.ap (hNG 5 (by decide)), h1.len⟩, (HNX.out hg).keepT HS14.out HRo.out.ap (hNG 85 (by decide))⟩
  obtain ⟨c0, c1, c2, c3, c4, c5⟩ := rowv6 HGo.out
  obtain ⟨b0, b1, b2, b3, b4, b5⟩ := rowv6 HFo.out
  have p0 := frozen_of_row _ _ 0 _ _ HFo.out
  have p1 := frozen_of_row _ _ 1 _ _ HFo.out
  have p2 := frozen_of_row _ _ 2 _ _ HFo.out
  have p3 := frozen_of_row _ _ 3 _ _ HFo.out
  have p4 := frozen_of_row _ _ 4 _ _ HFo.out
  have p5 := frozen_of_row _ _ 5 _ _ HFo.out
  obtain ⟨hF15, a15⟩ := set6 (.int .i64 (Aa.1 : Nat)) (.int .i64 (Bb.1 : Nat)) (.string key) (.bool dd) (.slice tv.p tv.n tv.c) (.slice tx.p tx.n tx.c) HFo.out
  obtain ⟨w15, hw15⟩ : ∃ V, V = ((((((w14.setCell ⟨F, 0, none⟩ (.int .i64 (Aa.1 : Nat))).setCell ⟨F, 1, none⟩ (.int .i64 (Bb.1 : Nat))).setCell ⟨F, 2, none⟩ (.string key)).setCell ⟨F, 3, none⟩ (.bool dd)).setCell ⟨F, 4, none⟩ (.slice tv.p tv.n tv.c)).setCell ⟨F, 5, none⟩ (.slice tx.p tx.n tx.c)) := ⟨_, rfl⟩
  rw [← hw15] at hF15 a15
  have HP : Hid (WtP wB w R s0 B key an ac s (.returned (.agg #[.int .i64 (Aa.1 : Nat), .int .i64 (Bb.1 : Nat), .string key, .bool dd, .slice tv.p tv.n tv.c, .slice tx.p tx.n tx.c])) w15) := by
    have hFB : wB.heap.size ≤ F := Nat.le_trans HAPw.out.size HFw.out
    have hNF : ∀ (e : Nat), e ≠ 50 → ∀ k ∈ [F], ∀ cur, w14.heap[k]? ≠ some (.cells cur e (0, 0)) := fun e he k hk cur hh => by
      simp at hk
      rw [hk, HFo.out] at hh
      simp at hh
      exact he hh.2.symm
    have hr15 := HRo.out.other a15 HFR.out hFB
    refine ⟨?_, ?_, HWo.out.trans' a15 (fun y hy => by simp at hy; exact .inr (by rw [hy]; exact HFw.out))⟩
    · rw [HWR.out]
      refine ⟨tv, tx, rfl, fun hg => ?_⟩
      obtain ⟨h1, h2⟩ := HV14.out hg
      exact ⟨⟨h1.nw.keepT a15 hr15.ap (hNF 5 (by decide)), h1.len⟩, h2.keepT a15 hr15.ap (hNF 85 (by decide))⟩
    · rw [HWR.out]
      exact hr15
  have HF15 := hid hF15
  clear hF15 a15
  go_wp2_with fail
  rw [← hw15]
  obtain ⟨d0, d1, d2, d3, d4, d5⟩ := rowv6 HF15.out
  refine bodyPost_ret (v := .agg #[.int .i64 (Aa.1 : Nat), .int .i64 (Bb.1 : Nat), .string key, .bool dd, .slice tv.p tv.n tv.c, .slice tx.p tx.n tx.c]) ?_ rfl HP.out
  simp [results, Try.results78, go_sem, d0, d1, d2, d3, d4, d5]
end Go.Proofs.Ytllhmidpphlbhaa.ds
