import Derived.Test.YtllhmidpphlbhaaX2
namespace Go.Proofs.Ytllhmidpphlbhaa.ds
open Go.ChangeShapes Go.WideShapes Go.ChangeAt Go.RowKit Go.Sort
set_option linter.unusedVariables false
set_option linter.unusedSimpArgs false

theorem RX.row {wB w : World} {R : Nat} {s0 : Sl} {B : List Nat} {s : Ps} (h : RX wB w R s0 B s) : w.cell? ⟨R, 2, none⟩ = some (.int .i64 (wrP s)) ∧ (s.bad = false → w.cell? ⟨R, 1, none⟩ = some (.int .i64 (s.at_ : Nat))) ∧ R < w.heap.size := by
  obtain ⟨a, hb, ha, ha2⟩ := h.ex
  exact ⟨crow hb 2 _ rfl, fun hg => by rw [← ha hg]; exact crow hb 1 _ rfl, lt_of_heap hb⟩
theorem RX.neX {wB w : World} {R X : Nat} {s0 : Sl} {B : List Nat} {s : Ps} (h : RX wB w R s0 B s) {cur : Array Value} {t : TypeId} (hX : w.heap[X]? = some (.cells cur t (0, 0))) (ht : t ≠ 140) : X ≠ R := by
  rintro rfl
  obtain ⟨a, hb, _⟩ := h.ex
  rw [hX] at hb
  simp at hb
  exact ht hb.2
/-- spans being read -/
structure XI (wB w wt : World) (R D : Nat) (s0 : Sl) (B : List Nat) (dn dc m : Nat) (S1 : Ps) (i : Nat) (t : Sl) (lo : Nat) (s' : Ps) (zs : List S) : Prop where
  r : RX wB wt R s0 B s'
  l : Nw wB wt 85 3 t (flat zs)
  st : (spansR B dn dc m 0 S1).2 = (spansR B dn dc (m - i) lo s').2
  li : (spansR B dn dc m 0 S1).2.bad = false → (spansR B dn dc m 0 S1).1 = zs ++ (spansR B dn dc (m - i) lo s').1
  d : wt.heap[D]? = some (.cells #[.int .i64 (dn : Nat), .int .i64 (dc : Nat)] 47 (0, 0))
  dn : wB.heap.size ≤ D ∧ w.heap.size ≤ D
  zl : zs.length = i
  rm : s'.bad = false → s'.at_ + 13 * (m - i) ≤ 2048
  lo8 : lo ≤ 8
  fr : ∀ k, t.v.ownBlock = some k → w.heap.size ≤ k
  a : Apart [R] w wt
/-- what the document's set answers -/
structure StP (wB w : World) (R : Nat) (s0 : Sl) (B : List Nat) (dn dc : Nat) (s : Ps) (e : Ending) (w' : World) : Prop where
  ex : ∃ t : Sl, e = .returned (.slice t.p t.n t.c) ∧ ((setR B dn dc s).2.bad = false → Nw wB w' 85 3 t (flat (setR B dn dc s).1))
  r : RX wB w' R s0 B (setR B dn dc s).2
  a : Apart [R] w w'
/-- the dot is in the span: as the document asks it -/
theorem dotS_iff (x : S) (dn dc : Nat) : dotS x dn dc = true ↔ x.n = (dn : Int) ∧ 1 ≤ (dc : Int) ∧ dot x dc = true := by
  unfold dotS
  simp only [Bool.and_eq_true, decide_eq_true_eq]
  constructor
  · rintro ⟨⟨h1, h2⟩, h3⟩
    exact ⟨h1, by omega, h3⟩
  · rintro ⟨h1, h2, h3⟩
    exact ⟨⟨h1, by omega⟩, h3⟩
theorem RX.keepZ {wB w w' : World} {R : Nat} {Z : List Nat} {s0 : Sl} {B : List Nat} {s : Ps} (h : RX wB w R s0 B s) (a : Apart Z w w') (hR : R ∉ Z) (hZ : ∀ z ∈ Z, wB.heap.size ≤ z) : RX wB w' R s0 B s := by
  obtain ⟨q, h1, h2⟩ := h.ex
  exact { h with ex := ⟨q, (a.block R (lt_of_heap h1) hR).trans h1, h2⟩, ap := h.ap.trans' a (fun y hy => .inr (hZ y hy)) }
theorem app_x {w W : World} {s : Sl} {xs : List S} (h : Nw w W 85 3 s (flat xs)) (x : S) (hl : xs.length ≤ 2000000) :
    ∃ s' W', (Builtin.append_ #[48, 48] 48 #[.slice s.p s.n s.c, .slice (some ⟨W.heap.size, 0, none⟩) 1 1]).run Try.prog (W.alloc (Obj.cells #[.int .i64 x.n, .int .i64 x.b, .int .u64 (x.t : Int)] 85)) = .ok (.slice s'.p s'.n s'.c) W' ∧ Nw w W' 85 3 s' (flat (xs ++ [x])) ∧ Apart s.v.ownBlock.toList W W' ∧ (∀ k, s'.v.ownBlock = some k → s.v.ownBlock = some k ∨ W.heap.size ≤ k) := by
  obtain ⟨i0, hif, hz0, hz1, hz2⟩ := info_parts info52
  have hlen : s.n = xs.length := by have := h.own.1; rw [flat_length] at this; omega
  obtain ⟨s5, w5, hrun, hnw5, hs5, ap5, k5, hk5, -, hk6⟩ := run_appM (s := s) 48 48 85 i0 _ 3 24 Try.underlying48 hif hz0 hz1 hz2 rfl (by decide) h 1 [.int .i64 x.n, .int .i64 x.b, .int .u64 (x.t : Int)] (by decide) rfl (fun u hu => by simp at hu; rcases hu with rfl | rfl | rfl <;> rfl) (by unfold maxLen; omega) (by omega)
  refine ⟨s5, w5, hrun, by rw [flat_snoc]; exact hnw5, ap5, fun k hk => ?_⟩
  have e1 : k5 = k := by unfold Sl.v at hk; rw [hk5] at hk; simpa [Value.ownBlock] using hk
  rw [← e1]; exact hk6
set_option maxHeartbeats 32000000 in
set_option maxRecDepth 100000 in
theorem rsetX_ok {wB w : World} {R : Nat} {s0 : Sl} {B : List Nat} {s : Ps} (h : RX wB w R s0 B s) (dn dc : Nat) (hdn : dn ≤ 7) (hdc : dc ≤ 1048576) (hr : s.bad = false → s.at_ + 105 ≤ 2048) : Calls Try.prog 76 #[.pointer (some ⟨R, 0, none⟩), .agg #[.int .i64 (dn : Nat), .int .i64 (dc : Nat)]] w fun e w' => StP wB w R s0 B dn dc s e w' := by
  obtain ⟨D, HXD⟩ : ∃ D, Hid (D = w.heap.size) := ⟨_, rfl⟩
  obtain ⟨w1, hw1⟩ : ∃ V, V = w.alloc (.cells #[.int .i64 (dn : Nat), .int .i64 (dc : Nat)] 47) := ⟨_, rfl⟩
  have a1 : Apart [] w w1 := by rw [hw1]; exact (Apart.refl [] w).alloc _
  have hD1 : w1.heap[D]? = some (.cells #[.int .i64 (dn : Nat), .int .i64 (dc : Nat)] 47 (0, 0)) := by rw [hw1, HXD.out]; exact heap_alloc_new w _
  have HR1 := hid (h.kept0 a1)
  have HA1 := hid a1
  have HD1 := hid hD1
  have HDN : Hid (wB.heap.size ≤ D ∧ w.heap.size ≤ D) := by unfold Hid; rw [HXD.out]; exact ⟨h.ap.size, Nat.le_refl _⟩
  have HRm := hid hr
  clear a1 hD1 h hr
  go_enter Try.func76, Try.ntmps76
  go_upto_region 1 with fail
  rw [← hw1, ← HXD.out]
  clear hw1
  go_wp2_with fail
  refine (field_ok HR1.out 1 0 8 (by omega) (by omega) (by omega) (fun hg => by have := HRm.out hg; omega)).mono ?_
  rintro _ w2 ⟨rfl, hr2, ha2⟩
  try dsimp only
  have HSET : Hid (setR B dn dc s = spansR B dn dc (num B 1 0 8 s).1 0 (num B 1 0 8 s).2) := rfl
  have hm8 : (num B 1 0 8 s).1 ≤ 8 := num_le B 1 0 8 s
  have hrm2 : (num B 1 0 8 s).2.bad = false → (num B 1 0 8 s).2.at_ + 13 * (num B 1 0 8 s).1 ≤ 2048 := fun hg => by
    have h1 := num_at B 1 0 8 s
    have h2 := HRm.out (num_ok1 hg)
    omega
  have HD2 := hid (keepB ha2 HD1.out (HR1.out.neX HD1.out (by decide)))
  have HI : Hid (XI wB w w2 R D s0 B dn dc (num B 1 0 8 s).1 (num B 1 0 8 s).2 0 slz 0 (num B 1 0 8 s).2 []) := ⟨hr2, ⟨World.ownsRow_nil _ _ _ _, by simp [Sl.v, slz, Value.ownBlock], hr2.ap⟩, rfl, fun _ => rfl, HD2.out, HDN.out, rfl, hrm2, by omega, by simp [Sl.v, slz, Value.ownBlock], (HA1.out.mono (by simp)).trans ha2⟩
  obtain ⟨m, Hm⟩ : ∃ m, Hid (m = (num B 1 0 8 s).1) := ⟨_, rfl⟩
  obtain ⟨S1, HS1⟩ : ∃ S1, Hid (S1 = (num B 1 0 8 s).2) := ⟨_, rfl⟩
  rw [← Hm.out] at hm8
  rw [← Hm.out, ← HS1.out] at HI HSET
  rw [← Hm.out]
  have HOUT : Hid (∀ e w', (∃ t : Sl, e = .returned (.slice t.p t.n t.c) ∧ ((spansR B dn dc m 0 S1).2.bad = false → Nw wB w' 85 3 t (flat (spansR B dn dc m 0 S1).1))) → RX wB w' R s0 B (spansR B dn dc m 0 S1).2 → Apart [R] w w' → StP wB w R s0 B dn dc s e w') := fun e w' h1 h2 h3 => by
    refine ⟨?_, ?_, h3⟩
    · rw [HSET.out]; exact h1
    · rw [HSET.out]; exact h2
  clear hr2 ha2 hrm2 HD1 HR1 HA1 HDN HRm HD2
  go_wp2_with fail
  go_loopw [6, 7, 8, 9, 10, 11, 12, 13, 14] (fun a b c _ _ _ _ _ _ wt => ∃ (i : Nat) (t : Sl) (lo : Nat) (s' : Ps) (zs : List S), a = .slice t.p t.n t.c ∧ b = .int .i64 ((lo : Int) - 1) ∧ c = .int .i64 (i : Nat) ∧ i ≤ m ∧ XI wB w wt R D s0 B dn dc m S1 i t lo s' zs) (fun _ _ c _ _ _ _ _ _ _ => m - (intOf c).toNat)
  case atStart => exact ⟨0, slz, 0, S1, [], rfl, rfl, rfl, Nat.zero_le _, HI.out⟩
  case round =>
    clear HI
    obtain ⟨i, t, lo, s', zs, rfl, rfl, rfl, him, hI⟩ := hrel
    have HI := hid hI
    have z2 := hI.r.row.1
    clear hI
    by_cases hlt : i < m
    · have hlti : ((i : Nat) : Int) < (m : Int) := by omega
      by_cases hbad : s'.bad = true
      · have e1 : wrP s' = (s'.at_ : Int) := by unfold wrP; rw [if_pos hbad]
        rw [e1] at z2
        have hng : ¬ ((s'.at_ : Nat) : Int) < 0 := by omega
        have HST : Hid ((spansR B dn dc m 0 S1).2 = s') := by unfold Hid; rw [HI.out.st]; exact spansR_bad B dn dc _ _ hbad
        have HBAD := hid hbad
        clear e1 hbad
        go_wp2_with fail
        go_ret
        exact HOUT.out _ _ ⟨t, rfl, fun hg => by rw [HST.out, HBAD.out] at hg; cases hg⟩ (by rw [HST.out]; exact HI.out.r) HI.out.a
      · have hgood : s'.bad = false := by simpa using hbad
        clear hbad
        obtain ⟨q, bad⟩ := s'
        dsimp only at hgood
        subst hgood
        have e1 : wrP ⟨q, false⟩ = -1 := rfl
        rw [e1] at z2
        clear e1
        have hlo8 := HI.out.lo8
        have hrm := HI.out.rm rfl
        dsimp only at hrm
        have hwl : IntKind.i64.wrap ((lo : Int) - 1 + 1) = ((lo : Nat) : Int) := by rw [IntKind.wrap_i64]; omega
        obtain ⟨X, HX⟩ : ∃ X, Hid (X = wr.heap.size) := ⟨_, rfl⟩
        obtain ⟨w3, hw3⟩ : ∃ V, V = wr.alloc (.cells #[.int .i64 0, .int .i64 0, .int .u64 0] 85) := ⟨_, rfl⟩
        have a3 : Apart [] wr w3 := by rw [hw3]; exact (Apart.refl [] wr).alloc _
        have hX3 : w3.heap[X]? = some (.cells #[.int .i64 0, .int .i64 0, .int .u64 0] 85 (0, 0)) := by rw [hw3, HX.out]; exact heap_alloc_new wr _
        have HXw : Hid (w.heap.size ≤ X ∧ wB.heap.size ≤ X) := by unfold Hid; rw [HX.out]; exact ⟨HI.out.a.size, HI.out.r.ap.size⟩
        have HR3 := hid (HI.out.r.kept0 a3)
        have HXR := hid (HR3.out.neX hX3 (by decide))
        have HA3 := hid a3
        have HX3 := hid hX3
        clear a3 hX3
        go_upto_region 8 with fail
        rw [← hw3, ← HX.out]
        clear hw3 z2
        go_wp2_with fail
        refine (field_ok HR3.out 1 lo 7 (by omega) (by omega) (by omega) (fun _ => by dsimp only; omega)).mono ?_
        rintro _ w4 ⟨rfl, hr4, ha4⟩
        obtain ⟨A, HA⟩ : ∃ A, Hid (A = num B 1 lo 7 ⟨q, false⟩) := ⟨_, rfl⟩
        rw [← HA.out] at hr4 ⊢
        have hX4 := keepB ha4 HX3.out HXR.out
        have y0 := crow hX4 0 _ rfl
        have f0 := frozen_of_row _ _ 0 _ _ hX4
        obtain ⟨w5, hw5⟩ : ∃ V, V = w4.setCell ⟨X, 0, none⟩ (.int .i64 (A.1 : Nat)) := ⟨_, rfl⟩
        have a5 : Apart [X] w4 w5 := by rw [hw5]; exact (Apart.refl [X] w4).setCell (.inl (by simp)) _
        have hX5 : w5.heap[X]? = some (.cells #[.int .i64 (A.1 : Nat), .int .i64 0, .int .u64 0] 85 (0, 0)) := by
          have := heap_setCell_same w4 X 0 _ 85 (.int .i64 (A.1 : Nat)) hX4
          rw [hw5]; simpa using this
        have HR5 := hid (hr4.other a5 HXR.out HXw.out.2)
        have HX5 := hid hX5
        have HA35 : Hid (Apart [R, X] w3 w5) := (ha4.mono (by simp)).trans (a5.mono (by simp))
        clear hr4 ha4 hX4 a5 hX5
        try dsimp only
        go_upto_region 9 with fail
        rw [← hw5]
        clear hw5 y0 f0
        go_wp2_with fail
        have hA1 : A.2.bad = false → A.2.at_ = q + 1 ∧ A.1 ≤ 7 := fun hg => by
          have h1 := num_ok B 1 lo 7 ⟨q, false⟩ (by rw [← HA.out]; exact hg)
          rw [← HA.out] at h1
          exact ⟨by rw [h1.2.1], by have := num_le B 1 lo 7 ⟨q, false⟩; rw [← HA.out] at this; exact this⟩
        have HA1 := hid hA1
        clear hA1
        refine (field_ok HR5.out 4 0 1048576 (by omega) (by omega) (by omega) (fun hg => by have := (HA1.out hg).1; omega)).mono ?_
        rintro _ w6 ⟨rfl, hr6, ha6⟩
        obtain ⟨Bv, HBv⟩ : ∃ Bv, Hid (Bv = num B 4 0 1048576 A.2) := ⟨_, rfl⟩
        rw [← HBv.out] at hr6 ⊢
        have hX6 := keepB ha6 HX5.out HXR.out
        have y1 := crow hX6 1 _ rfl
        have f1 := frozen_of_row _ _ 1 _ _ hX6
        obtain ⟨w7, hw7⟩ : ∃ V, V = w6.setCell ⟨X, 1, none⟩ (.int .i64 (Bv.1 : Nat)) := ⟨_, rfl⟩
        have a7 : Apart [X] w6 w7 := by rw [hw7]; exact (Apart.refl [X] w6).setCell (.inl (by simp)) _
        have hX7 : w7.heap[X]? = some (.cells #[.int .i64 (A.1 : Nat), .int .i64 (Bv.1 : Nat), .int .u64 0] 85 (0, 0)) := by
          have := heap_setCell_same w6 X 1 _ 85 (.int .i64 (Bv.1 : Nat)) hX6
          rw [hw7]; simpa using this
        have HR7 := hid (hr6.other a7 HXR.out HXw.out.2)
        have HX7 := hid hX7
        have HA37 : Hid (Apart [R, X] w3 w7) := HA35.out.trans ((ha6.mono (by simp)).trans (a7.mono (by simp)))
        clear hr6 ha6 hX6 a7 hX7 HR5 HX5 HA35 HR3 HX3
        try dsimp only
        go_upto_region 10 with fail
        rw [← hw7]
        clear hw7 y1 f1
        have v2 := HR7.out.row.1
        have HWk : Hid (Apart [R] w w7) := by
          unfold Hid
          refine ⟨HA37.out.os.trans (HA3.out.os.trans HI.out.a.os), HA37.out.tape.trans (HA3.out.tape.trans HI.out.a.tape), HA37.out.output.trans (HA3.out.output.trans HI.out.a.output), Nat.le_trans HI.out.a.size (Nat.le_trans HA3.out.size HA37.out.size), fun k hk hkR => ?_⟩
          have k1 := HI.out.a.block k hk hkR
          have k2 := HA3.out.block k (Nat.lt_of_lt_of_le hk HI.out.a.size) (by simp)
          have k3 := HA37.out.block k (Nat.lt_of_lt_of_le hk (Nat.le_trans HI.out.a.size HA3.out.size)) (by simp at hkR; simp; exact ⟨hkR, by have := HXw.out.1; omega⟩)
          exact k3.trans (k2.trans k1)
        obtain ⟨n, hn⟩ : ∃ n, m - i = n + 1 := ⟨m - i - 1, by omega⟩
        by_cases hbb : Bv.2.bad = true
        · have e1 : wrP Bv.2 = (Bv.2.at_ : Int) := by unfold wrP; rw [if_pos hbb]
          rw [e1] at v2
          have hng : (0 : Int) ≤ ((Bv.2.at_ : Nat) : Int) := by omega
          have HST : Hid ((spansR B dn dc m 0 S1).2 = Bv.2) := by
            unfold Hid
            rw [HI.out.st, hn]
            have h1 : spanR B lo dn dc ⟨q, false⟩ = (zS, Bv.2) := by
              unfold spanR
              dsimp only
              rw [← HA.out, ← HBv.out, if_pos hbb]
            unfold spansR
            rw [h1]
            exact spansR_bad B dn dc _ _ hbb
          have HBAD := hid hbb
          clear e1 hbb
          go_wp2_with fail
          go_ret
          exact HOUT.out _ _ ⟨slz, rfl, fun hg => by rw [HST.out, HBAD.out] at hg; cases hg⟩ (by rw [HST.out]; exact HR7.out) HWk.out
        · have hbg : Bv.2.bad = false := by simpa using hbb
          clear hbb
          obtain ⟨hAg, hBe, -, hB4⟩ := num_ok B 4 0 1048576 A.2 (by rw [← HBv.out]; exact hbg)
          obtain ⟨hqa, hA7⟩ := HA1.out hAg
          rw [← HBv.out] at hBe
          rw [hqa] at hBe hB4
          have hB1 : Bv.1 ≤ 1048576 := by rw [hBe]; exact hB4
          have hBs : Bv.2 = ⟨q + 5, false⟩ := by rw [hBe]
          clear hBe hB4
          rw [hBs] at v2 HR7
          have e1 : wrP ⟨q + 5, false⟩ = -1 := rfl
          rw [e1] at v2
          have v1 := HR7.out.row.2.1 rfl
          dsimp only at v1
          have HBS := hid hBs
          clear hBs hbg e1
          go_wp2_with fail
          refine (take_ok HR7.out 8 (fun _ => by dsimp only; omega)).mono ?_
          rintro _ w8 ⟨⟨t8, rfl, -, hbf⟩, hr8, ha8⟩
          have hbf := hbf rfl
          dsimp only at hbf
          have hr8' : RX wB w8 R s0 B ⟨q + 5 + 8, false⟩ := hr8
          have HBF := hid hbf
          have HR8 := hid hr8'
          have HX8 := hid (keepB ha8 HX7.out HXR.out)
          have HA8 := hid ha8
          clear hbf hr8 hr8' ha8 v1 v2
          try dsimp only
          go_wp2_with fail
          have hl8 : ((B.drop (q + 5)).take 8).length = 8 := by rw [List.length_take, List.length_drop, HR8.out.len]; omega
          have ht8 : t8.n = 8 := by rw [HBF.out.len, hl8]
          obtain ⟨P8, o8, hp8, hP8, hc8⟩ := HBF.out.nw.rd (by rw [byts_len, hl8]; omega)
          have HP8X : Hid (P8 ≠ X) := by
            unfold Hid
            rintro rfl
            obtain ⟨g, cur, hpg, _, hbg, _⟩ := HBF.out.nw.blk (by omega)
            rw [hp8] at hpg
            simp at hpg
            rw [← hpg.1, HX8.out] at hbg
            simp at hbg
          have HC8 : Hid (∀ k, k < 8 → w8.cell? ⟨P8, o8 + k, none⟩ = some (.int .u8 ((B.getD (q + 5 + k) 0 : Nat) : Int))) := fun k hk => hc8 k _ (by
            rw [byts, List.getElem?_map, List.getElem?_take_of_lt hk, List.getElem?_drop, List.getElem?_eq_getElem (by rw [HR8.out.len]; omega), List.getD_eq_getElem?_getD, List.getElem?_eq_getElem (by rw [HR8.out.len]; omega)]; rfl)
          have HP8 := hid hP8
          have HB8 := hid HR8.out.b8
          obtain ⟨t8p, t8n, t8c⟩ := t8
          dsimp only at hp8 ht8
          subst hp8 ht8
          clear hl8 hc8 hP8
          go_loopw [12] (fun b wt => ∃ j : Nat, b = .int .i64 ((j : Int) - 1) ∧ j ≤ 8 ∧ wt.heap[X]? = some (.cells #[.int .i64 (A.1 : Nat), .int .i64 (Bv.1 : Nat), .int .u64 ((le B (8 - j) (q + 5 + j) : Nat) : Int)] 85 (0, 0)) ∧ Apart [X] w8 wt) (fun b _ => (intOf b + 1).toNat)
          case atStart => exact ⟨8, rfl, Nat.le_refl _, HX8.out, Apart.refl _ _⟩
          case round =>
            obtain ⟨j, rfl, hj8, hXj, haj⟩ := hrel
            have HXj := hid hXj
            have HAj := hid haj
            clear hXj haj
            by_cases hj : 0 < j
            · have hji : (0 : Int) ≤ (j : Int) - 1 := by omega
              obtain ⟨k, rfl⟩ : ∃ k, j = k + 1 := ⟨j - 1, by omega⟩
              have e2 : ((k + 1 : Nat) : Int) - 1 = (k : Int) := by omega
              rw [e2] at hji ⊢
              have hle2 : le B (8 - k) (q + 5 + k) = le B (8 - (k + 1)) (q + 5 + (k + 1)) * 256 + B.getD (q + 5 + k) 0 := by
                have e3 : 8 - k = (8 - (k + 1)) + 1 := by omega
                rw [e3]
                show B.getD (q + 5 + k) 0 + 256 * le B (8 - (k + 1)) (q + 5 + k + 1) = _
                rw [show q + 5 + k + 1 = q + 5 + (k + 1) from rfl]
                omega
              have hltm : le B (8 - (k + 1)) (q + 5 + (k + 1)) < 72057594037927936 := by
                have h1 := le_lt (B := B) HB8.out (8 - (k + 1)) (q + 5 + (k + 1))
                have h2 : 256 ^ (8 - (k + 1)) ≤ 256 ^ 7 := Nat.pow_le_pow_right (by omega) (by omega)
                omega
              have hb8 := getD8 HB8.out (q + 5 + k)
              obtain ⟨y, Hy⟩ : ∃ y, Hid (y = le B (8 - (k + 1)) (q + 5 + (k + 1))) := ⟨_, rfl⟩
              obtain ⟨u, Hu⟩ : ∃ u, Hid (u = B.getD (q + 5 + k) 0) := ⟨_, rfl⟩
              rw [← Hy.out] at hltm HXj
              rw [← Hu.out] at hb8
              obtain ⟨y2, Hy2⟩ : ∃ z, Hid (z = y * 256) := ⟨_, rfl⟩
              obtain ⟨z, Hz⟩ : ∃ z, Hid (z = y2 + u) := ⟨_, rfl⟩
              have HLE2 : Hid (z = le B (8 - k) (q + 5 + k)) := by unfold Hid; rw [Hz.out, Hy2.out, Hy.out, Hu.out, hle2]
              clear hle2
              have hw2 : IntKind.u64.wrap ((y : Int) * 256) = (y2 : Int) := by have := Hy2.out; rw [IntKind.wrap_u64]; omega
              have hw4 : IntKind.u64.wrap ((y2 : Int) + (u : Int)) = (z : Int) := by have := Hy2.out; have := Hz.out; rw [IntKind.wrap_u64]; omega
              have hw5 : IntKind.u64.wrap (u : Int) = (u : Int) := by rw [IntKind.wrap_u64]; omega
              have hkx : k < 8 := by omega
              have hkxi : (k : Int) < 8 := by omega
              have HXd := hid (keep0 (Apart.refl [] wr).drew HXj.out)
              have HAd := hid HAj.out.drew
              have hCd : wr.drew.cell? ⟨P8, o8 + k, none⟩ = some (.int .u8 (u : Nat)) := by
                rw [Hu.out]
                exact (HAd.out.cell (p := ⟨P8, o8 + k, none⟩) HP8.out (by simp; exact HP8X.out)).trans (HC8.out k hkx)
              have hSd : (∃ x, wr.drew.heap[X]? = some (.cells #[.int .i64 (A.1 : Nat), .int .i64 (Bv.1 : Nat), x] 85 (0, 0))) ∧ wr.drew.cell? ⟨P8, o8 + k, none⟩ = some (.int .u8 (u : Nat)) := ⟨⟨_, HXd.out⟩, hCd⟩
              clear hCd
              go_upto_region 17 with fail
              refine wp_region_held_drew (S := fun W => (∃ x, W.heap[X]? = some (.cells #[.int .i64 (A.1 : Nat), .int .i64 (Bv.1 : Nat), x] 85 (0, 0))) ∧ W.cell? ⟨P8, o8 + k, none⟩ = some (.int .u8 (u : Nat))) (by kernel_rfl) hSd (fun hHeld => ?_)
              generalize wr.drew = wd at *
              refine tk 0 53 (.pointer (some ⟨X, 2, none⟩)) rfl ?_ ?_
              · intro W hSW; go_simp
              simp only [Act.put, List.setIfInBounds_toArray, List.set_cons_zero, List.set_cons_succ]
              refine tk 3 56 (.slice (some ⟨P8, o8, none⟩) 8 t8c) rfl ?_ ?_
              · intro W hSW; go_simp
              simp only [Act.put, List.setIfInBounds_toArray, List.set_cons_zero, List.set_cons_succ]
              refine tk 4 57 (.int .i64 (k : Nat)) rfl ?_ ?_
              · intro W hSW; go_simp
              simp only [Act.put, List.setIfInBounds_toArray, List.set_cons_zero, List.set_cons_succ]
              refine tk 5 58 (.pointer (some ⟨P8, o8 + k, none⟩)) rfl ?_ ?_
              · intro W hSW; go_simp
              simp only [Act.put, List.setIfInBounds_toArray, List.set_cons_zero, List.set_cons_succ]
              refine tk 6 59 (.int .u8 (u : Nat)) rfl ?_ ?_
              · intro W hSW; obtain ⟨_, c8⟩ := hSW; go_simp
              simp only [Act.put, List.setIfInBounds_toArray, List.set_cons_zero, List.set_cons_succ]
              refine tk 7 60 (.int .u64 (u : Nat)) rfl ?_ ?_
              · intro W hSW; go_simp
              simp only [Act.put, List.setIfInBounds_toArray, List.set_cons_zero, List.set_cons_succ]
              refine wpAnyH_ready (rs := [1]) (by kernel_rfl) (by simp) ?_
              refine AllReadyH.cons rfl (fun KK hKK => ?_) AllReadyH.nil
              have zx := crow HXd.out 2 _ rfl
              go_simp
              clear zx
              refine hKK.out _ _ hSd (fun hHeld => ?_)
              clear hKK KK
              try simp only [Act.put, List.setIfInBounds_toArray, List.set_cons_zero, List.set_cons_succ]
              refine tk 2 55 (.int .u64 (y2 : Nat)) rfl ?_ ?_
              · intro W hSW; go_simp
              simp only [Act.put, List.setIfInBounds_toArray, List.set_cons_zero, List.set_cons_succ]
              refine tk 8 61 (.int .u64 (z : Nat)) rfl ?_ ?_
              · intro W hSW; go_simp
              simp only [Act.put, List.setIfInBounds_toArray, List.set_cons_zero, List.set_cons_succ]
              refine tk 9 62 (.pointer (some ⟨X, 2, none⟩)) rfl ?_ ?_
              · intro W hSW; go_simp
              simp only [Act.put, List.setIfInBounds_toArray, List.set_cons_zero, List.set_cons_succ]
              have zx := crow HXd.out 2 _ rfl
              have fx := frozen_of_row _ _ 2 _ _ HXd.out
              obtain ⟨we, hwe⟩ : ∃ V, V = wd.setCell ⟨X, 2, none⟩ (.int .u64 (z : Nat)) := ⟨_, rfl⟩
              have ae : Apart [X] wd we := by rw [hwe]; exact (Apart.refl [X] wd).setCell (.inl (by simp)) _
              have hXe : we.heap[X]? = some (.cells #[.int .i64 (A.1 : Nat), .int .i64 (Bv.1 : Nat), .int .u64 (z : Nat)] 85 (0, 0)) := by
                have := heap_setCell_same wd X 2 _ 85 (.int .u64 (z : Nat)) HXd.out
                rw [hwe]; simpa using this
              have hSe : (∃ x, we.heap[X]? = some (.cells #[.int .i64 (A.1 : Nat), .int .i64 (Bv.1 : Nat), x] 85 (0, 0))) ∧ we.cell? ⟨P8, o8 + k, none⟩ = some (.int .u8 (u : Nat)) := ⟨⟨_, hXe⟩, (ae.cell (p := ⟨P8, o8 + k, none⟩) (Nat.lt_of_lt_of_le HP8.out HAd.out.size) (by simp; exact HP8X.out)).trans hSd.2⟩
              have HXe := hid hXe
              have HAe := hid (HAd.out.trans ae)
              clear ae hXe
              refine wpAnyH_ready (rs := [10]) (by kernel_rfl) (by simp) ?_
              refine AllReadyH.cons rfl (fun KK hKK => ?_) AllReadyH.nil
              go_simp
              rw [← hwe]
              refine hKK.out _ _ hSe (fun hHeld => ?_)
              clear hKK KK
              refine wpAnyH_done (by kernel_rfl) ?_ _
              clear hHeld hSd hSe zx fx hwe
              rw [HLE2.out] at HXe
              go_wp2_with fail
              go_roundw
              case rel => exact ⟨k, by go_num, by omega, HXe.out, HAe.out⟩
              case measure => simp [intOf] <;> omega
            · have hj0 : j = 0 := by omega
              subst hj0
              have hji : ¬ (0 : Int) ≤ ((0 : Nat) : Int) - 1 := by omega
              have hji2 : ((0 : Nat) : Int) - 1 = -1 := by omega
              rw [hji2] at hji ⊢
              rw [Nat.sub_zero, Nat.add_zero] at HXj
              have ht64 : le B 8 (q + 5) < 2 ^ 64 := by
                have h1 := le_lt (B := B) HB8.out 8 (q + 5)
                have h2 : (256 : Nat) ^ 8 = 2 ^ 64 := by decide
                omega
              obtain ⟨x, Hx⟩ : ∃ x : S, Hid (x = ⟨A.1, Bv.1, le B 8 (q + 5)⟩) := ⟨_, rfl⟩
              have hxn : ((A.1 : Nat) : Int) = x.n := by rw [Hx.out]
              have hxb : ((Bv.1 : Nat) : Int) = x.b := by rw [Hx.out]
              have hxt : (le B 8 (q + 5)) = x.t := by rw [Hx.out]
              rw [hxt] at ht64 HXj
              have hxn2 : x.n = ((A.1 : Nat) : Int) := hxn.symm
              have HXN := hid hxn2
              have HXB : Hid (0 ≤ x.b ∧ x.b ≤ 1048576) := by unfold Hid; rw [← hxb]; omega
              rw [hxn, hxb] at HXj
              clear hxn hxb hxt hxn2
              have HSP : Hid (spanR B lo dn dc ⟨q, false⟩ = if ctxS x dn dc = true then (x, ⟨q + 5 + 8, false⟩) else (zS, ⟨q + 5, true⟩)) := by
                unfold Hid spanR
                dsimp only
                rw [← HA.out, ← HBv.out, HBS.out, Hx.out]
                rfl
              have HA38 : Hid (Apart [R, X] w3 wr) := (HA37.out.trans (HA8.out.mono (by simp))).trans (HAj.out.mono (by simp))
              have HR9 := hid (HR8.out.other HAj.out HXR.out HXw.out.2)
              have HLT : Hid (∀ k, t.v.ownBlock = some k → k ≠ R ∧ k ≠ X) := fun k hk => by
                obtain ⟨cur, hc⟩ := own_typ HI.out.l.own hk
                refine ⟨HI.out.r.neX hc (by decide), ?_⟩
                have := lt_of_heap hc
                rw [HX.out]
                omega
              have HL9 : Hid (Nw wB wr 85 3 t (flat zs)) := ⟨own_apart (own_apart HI.out.l.own HA3.out (by simp)) HA38.out (fun k hk hm => by have h1 := HLT.out k hk; simp at hm; omega), HI.out.l.new, HR9.out.ap⟩
              have HD9 : Hid (wr.heap[D]? = some (.cells #[.int .i64 (dn : Nat), .int .i64 (dc : Nat)] 47 (0, 0))) := by
                have h1 := keep0 HA3.out HI.out.d
                have h2 := HI.out.r.neX HI.out.d (by decide)
                have h3 := lt_of_heap HI.out.d
                exact (HA38.out.block D (lt_of_heap h1) (by simp; exact ⟨h2, by rw [HX.out]; omega⟩)).trans h1
              have HW9 : Hid (Apart [R] w wr) := (HWk.out.trans HA8.out).trans' HAj.out (fun y hy => by simp at hy; exact .inr (by rw [hy]; exact HXw.out.1))
              clear HA37 HA8 HAj HR8 HR7 HX7 HX8 HBF HC8 HP8 HP8X HWk
              generalize wr = wk at *
              obtain ⟨x0, x1, x2⟩ := row3v HXj.out
              obtain ⟨v1, hv1⟩ := bool_of (Ok 64 x)
              have HV1 := hid hv1
              clear hv1
              go_wp2_with fail
              refine (rwhole_ok wk x ht64 v1 HV1.out).mono ?_
              rintro _ wl ⟨rfl, al⟩
              have HXl := hid (keep0 al HXj.out)
              have HDl := hid (keep0 al HD9.out)
              have HRl := hid (HR9.out.kept0 al)
              have HLl := hid (HL9.out.kept al)
              have HWl := hid (HW9.out.trans (al.mono (by simp)))
              clear al x0 x1 x2 HXj HD9 HR9 HL9 HW9
              try dsimp only
              obtain ⟨x0, x1, x2⟩ := row3v HXl.out
              obtain ⟨d0, d1⟩ := row2v HDl.out
              obtain ⟨v2, hv2⟩ := bool_of (x.n = (dn : Int) ∧ 1 ≤ (dc : Int) ∧ dot x dc = true)
              have HV2 := hid hv2
              clear hv2
              go_upto_region 19 with fail
              go_cut [14] from 65 to 72 (fun s14 wx => .bool v2 = s14 ∧ Apart [] wl wx)
              case first =>
                by_cases hd0 : 0 < dc
                · have hd0i : ((dc : Nat) : Int) > 0 := by omega
                  go_wp2_with fail
                  refine (rHas_ok wl x (dn : Nat) (dc : Nat) ht64 HXB.out (by omega) v2 HV2.out).mono ?_
                  rintro _ wm ⟨rfl, am⟩
                  have HAM := hid am
                  clear am x0 x1 x2 d0 d1
                  try dsimp only
                  go_wp2_with fail
                  go_meet
                  exact ⟨rfl, HAM.out⟩
                · have hd0i : ¬ ((dc : Nat) : Int) > 0 := by omega
                  have hv2f : v2 = false := by
                    cases hv : v2 with
                    | false => rfl
                    | true => exact absurd (HV2.out.1 hv).2.1 (by omega)
                  subst hv2f
                  go_wp2_with fail
                  go_meet
                  exact ⟨rfl, Apart.refl _ _⟩
              obtain ⟨rfl, am⟩ := hcut
              have HXm := hid (keep0 am HXl.out)
              have HDm := hid (keep0 am HDl.out)
              have HRm := hid (HRl.out.kept0 am)
              have HLm := hid (HLl.out.kept am)
              have HWm := hid (HWl.out.trans (am.mono (by simp)))
              clear am x0 x1 x2 d0 d1 HXl HDl HRl HLl HWl
              generalize wc = wm at *
              have HCT : Hid (ctxS x dn dc = (v1 && !v2)) := by
                unfold Hid ctxS
                have e1 : rgtS x = v1 := by rw [Bool.eq_iff_iff, rgtS_iff]; exact HV1.out.symm
                have e2 : dotS x dn dc = v2 := by rw [Bool.eq_iff_iff, dotS_iff]; exact HV2.out.symm
                rw [e1, e2]
              obtain ⟨cc, Hcc⟩ : ∃ c : Bool, Hid (c = (!v1 || v2)) := ⟨_, rfl⟩
              go_upto_region 20 with fail
              go_cut [13, 14, 77] from 73 to 77 (fun _ _ s77 wx => .bool cc = s77 ∧ wx = wm)
              case first =>
                cases v1 <;> cases v2 <;> (go_wp2_with fail) <;> go_meet <;> exact ⟨by rw [Hcc.out]; rfl, rfl⟩
              obtain ⟨rfl, hwcm⟩ := hcut
              rw [hwcm]
              clear hwcm wc
              go_upto_if 77 with fail
              go_cut [77] from 78 to 80 (fun _ wx => RX wB wx R s0 B (spanR B lo dn dc ⟨q, false⟩).2 ∧ Apart [R] wm wx)
              case first =>
                cases cc with
                | true =>
                  have HN : Hid ((spanR B lo dn dc ⟨q, false⟩).2 = ⟨q + 5, true⟩) := by
                    unfold Hid
                    rw [HSP.out, if_neg]
                    rw [HCT.out]
                    have := Hcc.out
                    revert this
                    cases v1 <;> cases v2 <;> decide
                  go_wp2_with fail
                  refine (fail_ok HRm.out (q + 5) (by omega)).mono ?_
                  rintro _ wn ⟨rfl, hrn, han⟩
                  have HRn := hid hrn
                  have HAn := hid han
                  clear hrn han
                  try dsimp only
                  go_wp2_with fail
                  go_meet
                  exact ⟨by rw [HN.out]; exact HRn.out, HAn.out⟩
                | false =>
                  have HN : Hid ((spanR B lo dn dc ⟨q, false⟩).2 = ⟨q + 5 + 8, false⟩) := by
                    unfold Hid
                    rw [HSP.out, if_pos]
                    rw [HCT.out]
                    have := Hcc.out
                    revert this
                    cases v1 <;> cases v2 <;> decide
                  go_wp2_with fail
                  go_meet
                  exact ⟨by rw [HN.out]; exact HRm.out, Apart.refl _ _⟩
              obtain ⟨hrn, han⟩ := hcut
              have HXn := hid (keepB han HXm.out HXR.out)
              have HDn := hid (keepB han HDm.out (HRm.out.neX HDm.out (by decide)))
              have HLn : Hid (Nw wB wc 85 3 t (flat zs)) := ⟨own_apart HLm.out.own han (fun k hk hm => by have h1 := HLT.out k hk; simp at hm; omega), HLm.out.new, hrn.ap⟩
              have HWn := hid (HWm.out.trans han)
              have HRn := hid hrn
              clear hrn han HXm HDm HRm HLm HWm
              generalize wc = wn at *
              obtain ⟨x0, x1, x2⟩ := row3v HXn.out
              obtain ⟨t2, W2, hrun, hl2, hap2, hnb2⟩ := app_x HLn.out x (by rw [HI.out.zl]; omega)
              have HRUN := hid hrun
              have HI2 : Hid (XI wB w W2 R D s0 B dn dc m S1 (i + 1) t2 (A.1 + 1) (spanR B lo dn dc ⟨q, false⟩).2 (zs ++ [x])) := by
                have hRZ : R ∉ t.v.ownBlock.toList := fun hm => (HLT.out R (by simpa using hm)).1 rfl
                have hZB : ∀ z ∈ t.v.ownBlock.toList, wB.heap.size ≤ z := fun z hz => HLn.out.new z (by simpa using hz)
                have hDZ : D ∉ t.v.ownBlock.toList := fun hm => by
                  obtain ⟨cur, hc⟩ := own_typ HLn.out.own (k := D) (by simpa using hm)
                  rw [HDn.out] at hc
                  simp at hc
                have hn2 : m - (i + 1) = n := by omega
                have hu : spansR B dn dc (m - i) lo ⟨q, false⟩ = ((spanR B lo dn dc ⟨q, false⟩).1 :: (spansR B dn dc n ((spanR B lo dn dc ⟨q, false⟩).1.n.toNat + 1) (spanR B lo dn dc ⟨q, false⟩).2).1, (spansR B dn dc n ((spanR B lo dn dc ⟨q, false⟩).1.n.toNat + 1) (spanR B lo dn dc ⟨q, false⟩).2).2) := by rw [hn]; rfl
                have hst := HI.out.st
                have hli := HI.out.li
                rw [hu] at hst hli
                dsimp only at hst hli
                have hgx : (spanR B lo dn dc ⟨q, false⟩).2.bad = false → (spanR B lo dn dc ⟨q, false⟩).1 = x ∧ (spanR B lo dn dc ⟨q, false⟩).2.at_ = q + 13 := fun hg => by
                  rw [HSP.out] at hg ⊢
                  split
                  · exact ⟨rfl, rfl⟩
                  · rename_i hc
                    rw [if_neg hc] at hg
                    cases hg
                refine ⟨HRn.out.keepZ hap2 hRZ hZB, hl2, ?_, fun hg => ?_, (hap2.block D (lt_of_heap HDn.out) hDZ).trans HDn.out, HI.out.dn, by rw [List.length_append, HI.out.zl]; rfl, fun hg => ?_, by omega, fun k hk => ?_, HWn.out.trans' hap2 (fun y hy => .inr (HI.out.fr y (by simpa using hy)))⟩
                · rw [hst, hn2]
                  by_cases hb : (spanR B lo dn dc ⟨q, false⟩).2.bad = true
                  · rw [spansR_bad B dn dc _ _ hb, spansR_bad B dn dc _ _ hb]
                  · rw [(hgx (by simpa using hb)).1, HXN.out, Int.toNat_natCast]
                · have hgg : (spanR B lo dn dc ⟨q, false⟩).2.bad = false := by
                    cases hb : (spanR B lo dn dc ⟨q, false⟩).2.bad with
                    | false => rfl
                    | true =>
                      rw [hst, spansR_bad B dn dc _ _ hb] at hg
                      rw [hb] at hg
                      cases hg
                  rw [hli hg, hn2, (hgx hgg).1, HXN.out, Int.toNat_natCast, List.append_assoc]
                  rfl
                · rw [(hgx hg).2]
                  omega
                · rcases hnb2 k hk with h1 | h1
                  · exact HI.out.fr k h1
                  · exact Nat.le_trans HWn.out.size h1
              clear hrun hl2 hap2 hnb2
              have hwa : x.n = ((A.1 + 1 : Nat) : Int) - 1 := by rw [HXN.out]; omega
              have HWA := hid hwa
              clear hwa
              go_wp2_with (at_builtin; refine wpList_app2 rfl (.tmp 83) (.tmp 85) 48 48 rfl _ _ rfl rfl _ _ HRUN.out ?_)
              go_roundw
              case rel => exact ⟨i + 1, t2, A.1 + 1, _, _, rfl, by rw [HWA.out], by go_num, by omega, HI2.out⟩
              case measure => simp [intOf]; omega
    · have hlti : ¬ ((i : Nat) : Int) < (m : Int) := by omega
      have hn0 : m - i = 0 := by omega
      have HST : Hid ((spansR B dn dc m 0 S1).2 = s') := by unfold Hid; rw [HI.out.st, hn0]; rfl
      have HLI : Hid ((spansR B dn dc m 0 S1).2.bad = false → (spansR B dn dc m 0 S1).1 = zs) := fun hg => by
        rw [HI.out.li hg, hn0]
        exact List.append_nil _
      go_wp2_with fail
      go_ret
      exact HOUT.out _ _ ⟨t, rfl, fun hg => by rw [HLI.out hg]; exact HI.out.l⟩ (by rw [HST.out]; exact HI.out.r) HI.out.a
end Go.Proofs.Ytllhmidpphlbhaa.ds
