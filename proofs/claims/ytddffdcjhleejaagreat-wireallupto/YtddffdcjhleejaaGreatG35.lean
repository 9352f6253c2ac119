import Derived.Test.YtddffdcjhleejaaGreatG1
import Derived.Test.YtddffdcjhleejaaGreatG34
namespace Go.Proofs.YtddffdcjhleejaaGreat.ds
open Go.ChangeShapes Go.WideShapes Go.ChangeAt Go.RowKit Go.Sort
set_option linter.unusedVariables false
set_option linter.unusedSimpArgs false
/-- a write is lent -/
structure LendP (w : World) (r : Wr) (a : Ending) (w' : World) : Prop where
  ex : ∃ (e : E) (sv sx : Sl), a = .returned (.tuple #[.agg #[.int .i64 e.n, .int .i64 e.c, .string e.k, .bool e.d, .slice e.v.p e.v.n e.v.c, .slice e.x.p e.x.n e.x.c], .agg #[.slice sv.p sv.n sv.c, .slice sx.p sx.n sx.c]]) ∧ Ln w w' e r sv sx
set_option maxHeartbeats 16000000 in
set_option maxRecDepth 100000 in
theorem lendW_ok (w : World) (e : E) (r : Wr) (hr : Reads w e r) : Calls Tryz.prog 26 #[.agg #[.int .i64 e.n, .int .i64 e.c, .string e.k, .bool e.d, .slice e.v.p e.v.n e.v.c, .slice e.x.p e.x.n e.x.c]] w fun a w' => LendP w r a w' := by
  have HR := hid hr
  have hvl := hr.vl
  have hxl := hr.xl
  have HVN := hid hr.vn
  have HXN := hid hr.x.len
  clear hr
  obtain ⟨X, HX⟩ : ∃ X, Hid (X = w.heap.size) := ⟨_, rfl⟩
  obtain ⟨w1, hw1⟩ : ∃ w1, w1 = ((w.alloc (.cells #[.int .i64 e.n, .int .i64 e.c, .string e.k, .bool e.d, .slice e.v.p e.v.n e.v.c, .slice e.x.p e.x.n e.x.c] 37)).alloc (.cells #[.int .i64 0, .int .i64 0, .string ⟨#[]⟩, .bool false, .slice none 0 0, .slice none 0 0] 37)).alloc (.cells #[.slice none 0 0, .slice none 0 0] 70) := ⟨_, rfl⟩
  have HA1 : Hid (Apart [] w w1) := by unfold Hid; rw [hw1]; exact (((Apart.refl [] w).alloc _).alloc _).alloc _
  have HB1 : Hid (w1.heap[X]? = some (.cells #[.int .i64 e.n, .int .i64 e.c, .string e.k, .bool e.d, .slice e.v.p e.v.n e.v.c, .slice e.x.p e.x.n e.x.c] 37 (0, 0))) := by
    unfold Hid
    rw [hw1, HX.out]
    exact ((((Apart.refl [] (w.alloc (.cells #[.int .i64 e.n, .int .i64 e.c, .string e.k, .bool e.d, .slice e.v.p e.v.n e.v.c, .slice e.x.p e.x.n e.x.c] 37))).alloc _).alloc _).block _ (by simp) (by simp)).trans (heap_alloc_new w _)
  have HD1 : Hid (w1.heap[X + 1]? = some (.cells #[.int .i64 0, .int .i64 0, .string ⟨#[]⟩, .bool false, .slice none 0 0, .slice none 0 0] 37 (0, 0))) := by
    unfold Hid
    rw [hw1, HX.out]
    have := heap_alloc_new (w.alloc (.cells #[.int .i64 e.n, .int .i64 e.c, .string e.k, .bool e.d, .slice e.v.p e.v.n e.v.c, .slice e.x.p e.x.n e.x.c] 37)) (.cells #[.int .i64 0, .int .i64 0, .string ⟨#[]⟩, .bool false, .slice none 0 0, .slice none 0 0] 37)
    refine (((Apart.refl [] ((w.alloc (.cells #[.int .i64 e.n, .int .i64 e.c, .string e.k, .bool e.d, .slice e.v.p e.v.n e.v.c, .slice e.x.p e.x.n e.x.c] 37)).alloc (.cells #[.int .i64 0, .int .i64 0, .string ⟨#[]⟩, .bool false, .slice none 0 0, .slice none 0 0] 37))).alloc _).block _ (by simp) (by simp)).trans ?_
    simpa using this
  have HE1 : Hid (w1.heap[X + 1 + 1]? = some (.cells #[.slice none 0 0, .slice none 0 0] 70 (0, 0))) := by
    unfold Hid
    rw [hw1, HX.out]
    have := heap_alloc_new ((w.alloc (.cells #[.int .i64 e.n, .int .i64 e.c, .string e.k, .bool e.d, .slice e.v.p e.v.n e.v.c, .slice e.x.p e.x.n e.x.c] 37)).alloc (.cells #[.int .i64 0, .int .i64 0, .string ⟨#[]⟩, .bool false, .slice none 0 0, .slice none 0 0] 37)) (.cells #[.slice none 0 0, .slice none 0 0] 70)
    simpa using this
  go_enter Tryz.func26, Tryz.ntmps26
  go_upto_region 1 with fail
  rw [← hw1, ← HX.out]
  clear hw1
  go_cut [4] from 6 to 12 (fun s wx => ∃ (K : Nat) (sv sx : Sl), .pointer (some ⟨K, 0, none⟩) = s ∧ Apart [] w1 wx ∧ w1.heap.size ≤ K ∧ wx.heap[K]? = some (.cells #[.slice sv.p sv.n sv.c, .slice sx.p sx.n sx.c] 70 (0, 0)) ∧ Bf w wx sv (r.vs ++ [165, 90]) ∧ Ss w wx sx (r.xs ++ [mkS]))
  case first =>
    have HROW : Hid (∀ W, Apart [] w1 W → W.heap[X]? = some (.cells #[.int .i64 e.n, .int .i64 e.c, .string e.k, .bool e.d, .slice e.v.p e.v.n e.v.c, .slice e.x.p e.x.n e.x.c] 37 (0, 0))) := fun W a => (a.block _ (lt_of_heap HB1.out) (by simp)).trans HB1.out
    have HC1 : Hid (∀ W, Apart [] w1 W → Calls Tryz.prog 18 #[.slice e.v.p e.v.n e.v.c] W fun a w' => BP W (r.vs ++ [165, 90]) a w') := fun W a => by
      have := HR.out.kept0 (HA1.out.trans a)
      exact bytes_ok (⟨this.v, this.vn, this.vb, this.vo⟩ : RBs W e.v r.vs) (by rw [HVN.out]; omega)
    have HC2 : Hid (∀ W, Apart [] w1 W → Calls Tryz.prog 21 #[.slice e.x.p e.x.n e.x.c] W fun a w' => SpP W (r.xs ++ [mkS]) a w') := fun W a => spansL_ok (HR.out.kept0 (HA1.out.trans a)).x (by omega)
    refine wp_region_held_drew (S := fun W => Apart [] w1 W) (by kernel_rfl) (Apart.refl [] w1).drew (fun hHeld => ?_)
    generalize w1.drew = wd at *
    refine tkn 0 6 (.pointer (some ⟨X, 4, none⟩)) rfl ?_ ?_
    · intro W hSW; go_simp
    refine tkn 1 7 (.slice e.v.p e.v.n e.v.c) rfl ?_ ?_
    · intro W hSW; obtain ⟨x0, x1, x2, x3, x4, x5⟩ := rowv6 (HROW.out W hSW); go_simp
    refine tkn 3 9 (.pointer (some ⟨X, 5, none⟩)) rfl ?_ ?_
    · intro W hSW; go_simp
    refine tkn 4 10 (.slice e.x.p e.x.n e.x.c) rfl ?_ ?_
    · intro W hSW; obtain ⟨x0, x1, x2, x3, x4, x5⟩ := rowv6 (HROW.out W hSW); go_simp
    refine wpAnyH_ready (rs := [2, 7]) (by kernel_rfl) (by simp) ?_
    refine AllReadyH.cons rfl (fun KK hKK => ?_) (AllReadyH.cons rfl (fun KK hKK => ?_) AllReadyH.nil)
    · skip
      go_simp
      refine (HC1.out _ hHeld).mono ?_
      rintro _ wa ⟨sv, rfl, hbv⟩
      have hSb := hHeld.trans hbv.nw.ap
      have HSb := hid hbv.nw.ap
      have HBv : Hid (Bf w wa sv (r.vs ++ [165, 90])) := ⟨hbv.nw.from (HA1.out.trans hHeld), hbv.len⟩
      clear hbv
      try dsimp only
      refine hKK.out _ _ hSb (fun hHeld => ?_)
      clear hKK KK
      refine wpAnyH_ready (rs := [5, 7]) (by kernel_rfl) (by simp) ?_
      refine AllReadyH.cons rfl (fun KK hKK => ?_) (AllReadyH.cons rfl (fun KK hKK => ?_) AllReadyH.nil)
      · skip
        go_simp
        refine (HC2.out _ hHeld).mono ?_
        rintro _ wb ⟨sx, rfl, hbx⟩
        have hSc := hHeld.trans hbx.nw.ap
        have HSc := hid hbx.nw.ap
        have HBx : Hid (Ss w wb sx (r.xs ++ [mkS])) := ⟨hbx.nw.from (HA1.out.trans hHeld), hbx.len, hbx.fit⟩
        clear hbx
        try dsimp only
        refine hKK.out _ _ hSc (fun hHeld => ?_)
        clear hKK KK
        refine tkn 6 12 (.agg #[.slice sv.p sv.n sv.c, .slice sx.p sx.n sx.c]) rfl ?_ ?_
        · intro W hSW; go_simp
        refine wpAnyH_ready (rs := [7]) (by kernel_rfl) (by simp) ?_
        refine AllReadyH.cons rfl (fun KK hKK => ?_) AllReadyH.nil
        go_simp
        have hSa : Apart [] w1 (wb.alloc (.cells #[.slice none 0 0, .slice none 0 0] 70)) := hHeld.alloc _
        obtain ⟨K, HK⟩ : ∃ K, Hid (K = wb.heap.size) := ⟨_, rfl⟩
        have HKn : Hid ((wb.alloc (.cells #[.slice none 0 0, .slice none 0 0] 70)).heap[K]? = some (.cells #[.slice none 0 0, .slice none 0 0] 70 (0, 0))) := by unfold Hid; rw [HK.out]; exact heap_alloc_new _ _
        have HKl : Hid (w1.heap.size ≤ K) := by unfold Hid; rw [HK.out]; exact hHeld.size
        have HSx : Hid (Apart [] wb (wb.alloc (.cells #[.slice none 0 0, .slice none 0 0] 70))) := (Apart.refl [] wb).alloc _
        rw [← HK.out]
        refine hKK.out _ _ hSa (fun hHeld => ?_)
        clear hKK KK
        have HKf : Hid ((wb.alloc (.cells #[.slice none 0 0, .slice none 0 0] 70)).heap[K]? = some (.cells #[.slice none 0 0, .slice none 0 0] 70 (0, 0))) := HKn.out
        have HBvf : Hid (Bf w (wb.alloc (.cells #[.slice none 0 0, .slice none 0 0] 70)) sv (r.vs ++ [165, 90])) := (HBv.out.kept HSc.out).kept HSx.out
        have HBxf : Hid (Ss w (wb.alloc (.cells #[.slice none 0 0, .slice none 0 0] 70)) sx (r.xs ++ [mkS])) := HBx.out.kept HSx.out
        generalize wb.alloc (.cells #[.slice none 0 0, .slice none 0 0] 70) = wk at *
        obtain ⟨wf, hwf⟩ : ∃ wf, wf = (wk.setCell ⟨K, 0, none⟩ (.slice sv.p sv.n sv.c)).setCell ⟨K, 1, none⟩ (.slice sx.p sx.n sx.c) := ⟨_, rfl⟩
        have HKe : Hid (wf.heap[K]? = some (.cells #[.slice sv.p sv.n sv.c, .slice sx.p sx.n sx.c] 70 (0, 0))) := by
          unfold Hid
          rw [hwf]
          have q1 := heap_setCell_same wk K 0 _ 70 (.slice sv.p sv.n sv.c) HKf.out
          have q2 := heap_setCell_same (wk.setCell ⟨K, 0, none⟩ (.slice sv.p sv.n sv.c)) K 1 _ 70 (.slice sx.p sx.n sx.c) q1
          simpa using q2
        have aK : Apart [K] wk wf := by rw [hwf]; exact ((Apart.refl [K] wk).setCell (.inl (by simp)) _).setCell (.inl (by simp)) _
        have hSf : Apart [] w1 wf := hHeld.trans' aK (by intro y hy; simp at hy; rw [hy]; exact .inr HKl.out)
        have HBvg : Hid (Bf w wf sv (r.vs ++ [165, 90])) := HBvf.out.keepT aK (HA1.out.trans hSf) (by intro k hk cur h; simp at hk; rw [hk, HKf.out] at h; simp at h)
        have HBxg : Hid (Ss w wf sx (r.xs ++ [mkS])) := HBxf.out.keepT aK (HA1.out.trans hSf) (by intro k hk cur h; simp at hk; rw [hk, HKf.out] at h; simp at h)
        obtain ⟨z0, z1⟩ := rowv2 HKf.out
        have y0 := frozen_of_row _ _ 0 _ _ HKf.out
        have y1 := frozen_of_row _ _ 1 _ _ HKf.out
        clear aK
        refine wpAnyH_ready (rs := [8]) (by kernel_rfl) (by simp) ?_
        refine AllReadyH.cons rfl (fun KK hKK => ?_) AllReadyH.nil
        go_simp
        rw [← hwf]
        refine hKK.out _ _ hSf (fun hHeld => ?_)
        clear hKK KK
        refine wpAnyH_done (by kernel_rfl) ?_ _
        go_wp2_with fail
        go_meet
        exact ⟨K, sv, sx, rfl, hSf, HKl.out, HKe.out, HBvg.out, HBxg.out⟩
      · skip
        go_simp
        have hSa : Apart [] w1 (wa.alloc (.cells #[.slice none 0 0, .slice none 0 0] 70)) := hHeld.alloc _
        obtain ⟨K, HK⟩ : ∃ K, Hid (K = wa.heap.size) := ⟨_, rfl⟩
        have HKn : Hid ((wa.alloc (.cells #[.slice none 0 0, .slice none 0 0] 70)).heap[K]? = some (.cells #[.slice none 0 0, .slice none 0 0] 70 (0, 0))) := by unfold Hid; rw [HK.out]; exact heap_alloc_new _ _
        have HKl : Hid (w1.heap.size ≤ K) := by unfold Hid; rw [HK.out]; exact hHeld.size
        have HSx : Hid (Apart [] wa (wa.alloc (.cells #[.slice none 0 0, .slice none 0 0] 70))) := (Apart.refl [] wa).alloc _
        rw [← HK.out]
        refine hKK.out _ _ hSa (fun hHeld => ?_)
        clear hKK KK
        refine wpAnyH_ready (rs := [5]) (by kernel_rfl) (by simp) ?_
        refine AllReadyH.cons rfl (fun KK hKK => ?_) AllReadyH.nil
        go_simp
        refine (HC2.out _ hHeld).mono ?_
        rintro _ wb ⟨sx, rfl, hbx⟩
        have hSc := hHeld.trans hbx.nw.ap
        have HSc := hid hbx.nw.ap
        have HBx : Hid (Ss w wb sx (r.xs ++ [mkS])) := ⟨hbx.nw.from (HA1.out.trans hHeld), hbx.len, hbx.fit⟩
        clear hbx
        try dsimp only
        refine hKK.out _ _ hSc (fun hHeld => ?_)
        clear hKK KK
        refine tkn 6 12 (.agg #[.slice sv.p sv.n sv.c, .slice sx.p sx.n sx.c]) rfl ?_ ?_
        · intro W hSW; go_simp
        have HKf : Hid ((wb).heap[K]? = some (.cells #[.slice none 0 0, .slice none 0 0] 70 (0, 0))) := (HSc.out.block _ (lt_of_heap HKn.out) (by simp)).trans HKn.out
        have HBvf : Hid (Bf w (wb) sv (r.vs ++ [165, 90])) := (HBv.out.kept HSx.out).kept HSc.out
        have HBxf : Hid (Ss w (wb) sx (r.xs ++ [mkS])) := HBx.out
        generalize wb = wk at *
        obtain ⟨wf, hwf⟩ : ∃ wf, wf = (wk.setCell ⟨K, 0, none⟩ (.slice sv.p sv.n sv.c)).setCell ⟨K, 1, none⟩ (.slice sx.p sx.n sx.c) := ⟨_, rfl⟩
        have HKe : Hid (wf.heap[K]? = some (.cells #[.slice sv.p sv.n sv.c, .slice sx.p sx.n sx.c] 70 (0, 0))) := by
          unfold Hid
          rw [hwf]
          have q1 := heap_setCell_same wk K 0 _ 70 (.slice sv.p sv.n sv.c) HKf.out
          have q2 := heap_setCell_same (wk.setCell ⟨K, 0, none⟩ (.slice sv.p sv.n sv.c)) K 1 _ 70 (.slice sx.p sx.n sx.c) q1
          simpa using q2
        have aK : Apart [K] wk wf := by rw [hwf]; exact ((Apart.refl [K] wk).setCell (.inl (by simp)) _).setCell (.inl (by simp)) _
        have hSf : Apart [] w1 wf := hHeld.trans' aK (by intro y hy; simp at hy; rw [hy]; exact .inr HKl.out)
        have HBvg : Hid (Bf w wf sv (r.vs ++ [165, 90])) := HBvf.out.keepT aK (HA1.out.trans hSf) (by intro k hk cur h; simp at hk; rw [hk, HKf.out] at h; simp at h)
        have HBxg : Hid (Ss w wf sx (r.xs ++ [mkS])) := HBxf.out.keepT aK (HA1.out.trans hSf) (by intro k hk cur h; simp at hk; rw [hk, HKf.out] at h; simp at h)
        obtain ⟨z0, z1⟩ := rowv2 HKf.out
        have y0 := frozen_of_row _ _ 0 _ _ HKf.out
        have y1 := frozen_of_row _ _ 1 _ _ HKf.out
        clear aK
        refine wpAnyH_ready (rs := [8]) (by kernel_rfl) (by simp) ?_
        refine AllReadyH.cons rfl (fun KK hKK => ?_) AllReadyH.nil
        go_simp
        rw [← hwf]
        refine hKK.out _ _ hSf (fun hHeld => ?_)
        clear hKK KK
        refine wpAnyH_done (by kernel_rfl) ?_ _
        go_wp2_with fail
        go_meet
        exact ⟨K, sv, sx, rfl, hSf, HKl.out, HKe.out, HBvg.out, HBxg.out⟩
    · skip
      go_simp
      have hSa : Apart [] w1 (wd.alloc (.cells #[.slice none 0 0, .slice none 0 0] 70)) := hHeld.alloc _
      obtain ⟨K, HK⟩ : ∃ K, Hid (K = wd.heap.size) := ⟨_, rfl⟩
      have HKn : Hid ((wd.alloc (.cells #[.slice none 0 0, .slice none 0 0] 70)).heap[K]? = some (.cells #[.slice none 0 0, .slice none 0 0] 70 (0, 0))) := by unfold Hid; rw [HK.out]; exact heap_alloc_new _ _
      have HKl : Hid (w1.heap.size ≤ K) := by unfold Hid; rw [HK.out]; exact hHeld.size
      have HSx : Hid (Apart [] wd (wd.alloc (.cells #[.slice none 0 0, .slice none 0 0] 70))) := (Apart.refl [] wd).alloc _
      rw [← HK.out]
      refine hKK.out _ _ hSa (fun hHeld => ?_)
      clear hKK KK
      refine wpAnyH_ready (rs := [2]) (by kernel_rfl) (by simp) ?_
      refine AllReadyH.cons rfl (fun KK hKK => ?_) AllReadyH.nil
      go_simp
      refine (HC1.out _ hHeld).mono ?_
      rintro _ wa ⟨sv, rfl, hbv⟩
      have hSb := hHeld.trans hbv.nw.ap
      have HSb := hid hbv.nw.ap
      have HBv : Hid (Bf w wa sv (r.vs ++ [165, 90])) := ⟨hbv.nw.from (HA1.out.trans hHeld), hbv.len⟩
      clear hbv
      try dsimp only
      refine hKK.out _ _ hSb (fun hHeld => ?_)
      clear hKK KK
      refine wpAnyH_ready (rs := [5]) (by kernel_rfl) (by simp) ?_
      refine AllReadyH.cons rfl (fun KK hKK => ?_) AllReadyH.nil
      go_simp
      refine (HC2.out _ hHeld).mono ?_
      rintro _ wb ⟨sx, rfl, hbx⟩
      have hSc := hHeld.trans hbx.nw.ap
      have HSc := hid hbx.nw.ap
      have HBx : Hid (Ss w wb sx (r.xs ++ [mkS])) := ⟨hbx.nw.from (HA1.out.trans hHeld), hbx.len, hbx.fit⟩
      clear hbx
      try dsimp only
      refine hKK.out _ _ hSc (fun hHeld => ?_)
      clear hKK KK
      refine tkn 6 12 (.agg #[.slice sv.p sv.n sv.c, .slice sx.p sx.n sx.c]) rfl ?_ ?_
      · intro W hSW; go_simp
      have HKf : Hid ((wb).heap[K]? = some (.cells #[.slice none 0 0, .slice none 0 0] 70 (0, 0))) := ((HSb.out.trans HSc.out).block _ (lt_of_heap HKn.out) (by simp)).trans HKn.out
      have HBvf : Hid (Bf w (wb) sv (r.vs ++ [165, 90])) := HBv.out.kept HSc.out
      have HBxf : Hid (Ss w (wb) sx (r.xs ++ [mkS])) := HBx.out
      generalize wb = wk at *
      obtain ⟨wf, hwf⟩ : ∃ wf, wf = (wk.setCell ⟨K, 0, none⟩ (.slice sv.p sv.n sv.c)).setCell ⟨K, 1, none⟩ (.slice sx.p sx.n sx.c) := ⟨_, rfl⟩
      have HKe : Hid (wf.heap[K]? = some (.cells #[.slice sv.p sv.n sv.c, .slice sx.p sx.n sx.c] 70 (0, 0))) := by
        unfold Hid
        rw [hwf]
        have q1 := heap_setCell_same wk K 0 _ 70 (.slice sv.p sv.n sv.c) HKf.out
        have q2 := heap_setCell_same (wk.setCell ⟨K, 0, none⟩ (.slice sv.p sv.n sv.c)) K 1 _ 70 (.slice sx.p sx.n sx.c) q1
        simpa using q2
      have aK : Apart [K] wk wf := by rw [hwf]; exact ((Apart.refl [K] wk).setCell (.inl (by simp)) _).setCell (.inl (by simp)) _
      have hSf : Apart [] w1 wf := hHeld.trans' aK (by intro y hy; simp at hy; rw [hy]; exact .inr HKl.out)
      have HBvg : Hid (Bf w wf sv (r.vs ++ [165, 90])) := HBvf.out.keepT aK (HA1.out.trans hSf) (by intro k hk cur h; simp at hk; rw [hk, HKf.out] at h; simp at h)
      have HBxg : Hid (Ss w wf sx (r.xs ++ [mkS])) := HBxf.out.keepT aK (HA1.out.trans hSf) (by intro k hk cur h; simp at hk; rw [hk, HKf.out] at h; simp at h)
      obtain ⟨z0, z1⟩ := rowv2 HKf.out
      have y0 := frozen_of_row _ _ 0 _ _ HKf.out
      have y1 := frozen_of_row _ _ 1 _ _ HKf.out
      clear aK
      refine wpAnyH_ready (rs := [8]) (by kernel_rfl) (by simp) ?_
      refine AllReadyH.cons rfl (fun KK hKK => ?_) AllReadyH.nil
      go_simp
      rw [← hwf]
      refine hKK.out _ _ hSf (fun hHeld => ?_)
      clear hKK KK
      refine wpAnyH_done (by kernel_rfl) ?_ _
      go_wp2_with fail
      go_meet
      exact ⟨K, sv, sx, rfl, hSf, HKl.out, HKe.out, HBvg.out, HBxg.out⟩
  obtain ⟨K, sv, sx, rfl, ha2, hK, hk2, hbv, hbx⟩ := hcut
  have HS2 := hid ha2
  have HA2 : Hid (Apart [] w wc) := HA1.out.trans ha2
  have HB2 : Hid (wc.heap[X]? = some (.cells #[.int .i64 e.n, .int .i64 e.c, .string e.k, .bool e.d, .slice e.v.p e.v.n e.v.c, .slice e.x.p e.x.n e.x.c] 37 (0, 0))) := (ha2.block _ (lt_of_heap HB1.out) (by simp)).trans HB1.out
  have HD2 : Hid (wc.heap[X + 1]? = some (.cells #[.int .i64 0, .int .i64 0, .string ⟨#[]⟩, .bool false, .slice none 0 0, .slice none 0 0] 37 (0, 0))) := (ha2.block _ (lt_of_heap HD1.out) (by simp)).trans HD1.out
  have HE2 : Hid (wc.heap[X + 1 + 1]? = some (.cells #[.slice none 0 0, .slice none 0 0] 70 (0, 0))) := (ha2.block _ (lt_of_heap HE1.out) (by simp)).trans HE1.out
  have HK2 := hid hk2
  have HBv := hid hbv
  have HBx := hid hbx
  have HKK : Hid (X + 1 + 1 < K) := by unfold Hid; have := lt_of_heap HE1.out; omega
  obtain ⟨hcv, gv, hgv⟩ := slice_cap hbv (by simp)
  obtain ⟨hcx, gx, hgx⟩ := hbx.cap
  rw [HVN.out] at hcv
  rw [HXN.out] at hcx
  have hcvi : ((e.v.n : Nat) : Int) ≤ (sv.c : Int) := by omega
  have hcxi : ((e.x.n : Nat) : Int) ≤ (sx.c : Int) := by omega
  clear ha2 hk2 hbv hbx hcv hcx
  generalize wc = w2 at *
  obtain ⟨svp, svn, svc⟩ := sv
  obtain ⟨sxp, sxn, sxc⟩ := sx
  simp only at hgv hgx hcvi hcxi HK2
  subst hgv hgx
  obtain ⟨x0, x1, x2, x3, x4, x5⟩ := rowv6 HB2.out
  obtain ⟨k0, k1⟩ := rowv2 HK2.out
  have f4 := frozen_of_row _ _ 4 _ _ HB2.out
  have f5 := frozen_of_row _ _ 5 _ _ HB2.out
  have hXK : Hid (X ≠ K) := by unfold Hid; have := HKK.out; omega
  obtain ⟨w3, hw3⟩ : ∃ w3, w3 = w2.setCell ⟨X, 4, none⟩ (.slice (some ⟨gv, 0, none⟩) e.v.n svc) := ⟨_, rfl⟩
  go_upto_region 4 with fail
  rw [← hw3]
  have aX3 : Apart [X] w2 w3 := by rw [hw3]; exact (Apart.refl [X] w2).setCell (.inl (by simp)) _
  have HB3 : Hid (w3.heap[X]? = some (.cells #[.int .i64 e.n, .int .i64 e.c, .string e.k, .bool e.d, .slice (some ⟨gv, 0, none⟩) e.v.n svc, .slice e.x.p e.x.n e.x.c] 37 (0, 0))) := by
    unfold Hid
    rw [hw3]
    have := heap_setCell_same w2 X 4 _ 37 (.slice (some ⟨gv, 0, none⟩) e.v.n svc) HB2.out
    simpa using this
  have HK3 : Hid (w3.heap[K]? = some (.cells #[.slice (some ⟨gv, 0, none⟩) svn svc, .slice (some ⟨gx, 0, none⟩) sxn sxc] 70 (0, 0))) := (aX3.block _ (lt_of_heap HK2.out) (by simp; exact fun h => hXK.out h.symm)).trans HK2.out
  obtain ⟨w4, hw4⟩ : ∃ w4, w4 = w3.setCell ⟨X, 5, none⟩ (.slice (some ⟨gx, 0, none⟩) e.x.n sxc) := ⟨_, rfl⟩
  have aX4 : Apart [X] w2 w4 := by rw [hw4]; exact aX3.setCell (.inl (by simp)) _
  have HB4 : Hid (w4.heap[X]? = some (.cells #[.int .i64 e.n, .int .i64 e.c, .string e.k, .bool e.d, .slice (some ⟨gv, 0, none⟩) e.v.n svc, .slice (some ⟨gx, 0, none⟩) e.x.n sxc] 37 (0, 0))) := by
    unfold Hid
    rw [hw4]
    have := heap_setCell_same w3 X 5 _ 37 (.slice (some ⟨gx, 0, none⟩) e.x.n sxc) HB3.out
    simpa using this
  have HK4 : Hid (w4.heap[K]? = some (.cells #[.slice (some ⟨gv, 0, none⟩) svn svc, .slice (some ⟨gx, 0, none⟩) sxn sxc] 70 (0, 0))) := (aX4.block _ (lt_of_heap HK2.out) (by simp; exact fun h => hXK.out h.symm)).trans HK2.out
  have HD4 : Hid (w4.heap[X + 1]? = some (.cells #[.int .i64 0, .int .i64 0, .string ⟨#[]⟩, .bool false, .slice none 0 0, .slice none 0 0] 37 (0, 0))) := (aX4.block _ (lt_of_heap HD2.out) (by simp)).trans HD2.out
  have HE4 : Hid (w4.heap[X + 1 + 1]? = some (.cells #[.slice none 0 0, .slice none 0 0] 70 (0, 0))) := (aX4.block _ (lt_of_heap HE2.out) (by simp; omega)).trans HE2.out
  have HS4 := hid aX4
  clear hw3 x0 x1 x2 x3 x4 x5 k0 k1 f4 f5 aX3 aX4
  obtain ⟨x0, x1, x2, x3, x4, x5⟩ := rowv6 HB3.out
  obtain ⟨k0, k1⟩ := rowv2 HK3.out
  have f5 := frozen_of_row _ _ 5 _ _ HB3.out
  go_upto_region 5 with fail
  rw [← hw4]
  clear hw4 x0 x1 x2 x3 x4 x5 k0 k1 f5
  have aX : Apart [] w w4 := HA2.out.trans' HS4.out (by intro y hy; simp at hy; rw [hy, HX.out]; exact .inr (Nat.le_refl _))
  have HBvk : Hid (Bf w w4 ⟨some ⟨gv, 0, none⟩, svn, svc⟩ (r.vs ++ [165, 90])) := HBv.out.keepT HS4.out aX (by intro k hk cur h; simp at hk; rw [hk, HB2.out] at h; simp at h)
  have HBxk : Hid (Ss w w4 ⟨some ⟨gx, 0, none⟩, sxn, sxc⟩ (r.xs ++ [mkS])) := HBx.out.keepT HS4.out aX (by intro k hk cur h; simp at hk; rw [hk, HB2.out] at h; simp at h)
  have HAX := hid aX
  clear aX
  refine wp_region_held_drew (S := fun W => W.heap[X]? = some (.cells #[.int .i64 e.n, .int .i64 e.c, .string e.k, .bool e.d, .slice (some ⟨gv, 0, none⟩) e.v.n svc, .slice (some ⟨gx, 0, none⟩) e.x.n sxc] 37 (0, 0)) ∧ W.heap[K]? = some (.cells #[.slice (some ⟨gv, 0, none⟩) svn svc, .slice (some ⟨gx, 0, none⟩) sxn sxc] 70 (0, 0))) (by kernel_rfl) ⟨HB4.out, HK4.out⟩ (fun hHeld => ?_)
  have HSd : Hid (Apart [] w4 w4.drew) := (Apart.refl [] w4).drew
  have HDd : Hid (w4.drew.heap[X + 1]? = some (.cells #[.int .i64 0, .int .i64 0, .string ⟨#[]⟩, .bool false, .slice none 0 0, .slice none 0 0] 37 (0, 0))) := HD4.out
  have HEd : Hid (w4.drew.heap[X + 1 + 1]? = some (.cells #[.slice none 0 0, .slice none 0 0] 70 (0, 0))) := HE4.out
  generalize w4.drew = wd at *
  refine tkn 0 28 (.agg #[.int .i64 e.n, .int .i64 e.c, .string e.k, .bool e.d, .slice (some ⟨gv, 0, none⟩) e.v.n svc, .slice (some ⟨gx, 0, none⟩) e.x.n sxc]) rfl ?_ ?_
  · intro W hSW; obtain ⟨x0, x1, x2, x3, x4, x5⟩ := rowv6 hSW.1; go_simp
  refine tkn 1 29 (.agg #[.slice (some ⟨gv, 0, none⟩) svn svc, .slice (some ⟨gx, 0, none⟩) sxn sxc]) rfl ?_ ?_
  · intro W hSW; obtain ⟨k0, k1⟩ := rowv2 hSW.2; go_simp
  obtain ⟨d0, d1, d2, d3, d4, d5⟩ := rowv6 HDd.out
  have f0 := frozen_of_row _ _ 0 _ _ HDd.out
  have f1 := frozen_of_row _ _ 1 _ _ HDd.out
  have f2 := frozen_of_row _ _ 2 _ _ HDd.out
  have f3 := frozen_of_row _ _ 3 _ _ HDd.out
  have f4 := frozen_of_row _ _ 4 _ _ HDd.out
  have f5 := frozen_of_row _ _ 5 _ _ HDd.out
  obtain ⟨wD, hwD⟩ : ∃ wD, wD = (((((wd.setCell ⟨X + 1, 0, none⟩ (.int .i64 e.n)).setCell ⟨X + 1, 1, none⟩ (.int .i64 e.c)).setCell ⟨X + 1, 2, none⟩ (.string e.k)).setCell ⟨X + 1, 3, none⟩ (.bool e.d)).setCell ⟨X + 1, 4, none⟩ (.slice (some ⟨gv, 0, none⟩) e.v.n svc)).setCell ⟨X + 1, 5, none⟩ (.slice (some ⟨gx, 0, none⟩) e.x.n sxc) := ⟨_, rfl⟩
  have HDD : Hid (wD.heap[X + 1]? = some (.cells #[.int .i64 e.n, .int .i64 e.c, .string e.k, .bool e.d, .slice (some ⟨gv, 0, none⟩) e.v.n svc, .slice (some ⟨gx, 0, none⟩) e.x.n sxc] 37 (0, 0))) := by
    unfold Hid
    rw [hwD]
    have h1 := heap_setCell_same wd (X + 1) 0 _ 37 (.int .i64 e.n) HDd.out
    have h2 := heap_setCell_same _ (X + 1) 1 _ 37 (.int .i64 e.c) h1
    have h3 := heap_setCell_same _ (X + 1) 2 _ 37 (.string e.k) h2
    have h4 := heap_setCell_same _ (X + 1) 3 _ 37 (.bool e.d) h3
    have h5 := heap_setCell_same _ (X + 1) 4 _ 37 (.slice (some ⟨gv, 0, none⟩) e.v.n svc) h4
    have h6 := heap_setCell_same _ (X + 1) 5 _ 37 (.slice (some ⟨gx, 0, none⟩) e.x.n sxc) h5
    simpa using h6
  have aD : Apart [X + 1] wd wD := by rw [hwD]; exact ((((((Apart.refl [X + 1] wd).setCell (.inl (by simp)) _).setCell (.inl (by simp)) _).setCell (.inl (by simp)) _).setCell (.inl (by simp)) _).setCell (.inl (by simp)) _).setCell (.inl (by simp)) _
  have hXK := hXK.out
  have hKK := HKK.out
  have hSD : wD.heap[X]? = some (.cells #[.int .i64 e.n, .int .i64 e.c, .string e.k, .bool e.d, .slice (some ⟨gv, 0, none⟩) e.v.n svc, .slice (some ⟨gx, 0, none⟩) e.x.n sxc] 37 (0, 0)) ∧ wD.heap[K]? = some (.cells #[.slice (some ⟨gv, 0, none⟩) svn svc, .slice (some ⟨gx, 0, none⟩) sxn sxc] 70 (0, 0)) := ⟨(aD.block _ (lt_of_heap hHeld.1) (by simp)).trans hHeld.1, (aD.block _ (lt_of_heap hHeld.2) (by simp; omega)).trans hHeld.2⟩
  have HED : Hid (wD.heap[X + 1 + 1]? = some (.cells #[.slice none 0 0, .slice none 0 0] 70 (0, 0))) := (aD.block _ (lt_of_heap HEd.out) (by simp)).trans HEd.out
  have HaD := hid aD
  clear aD
  refine wpAnyH_ready (rs := [2]) (by kernel_rfl) (by simp) ?_
  refine AllReadyH.cons rfl (fun KK hKK => ?_) AllReadyH.nil
  go_simp
  rw [← hwD]
  refine hKK.out _ _ hSD (fun hHeld => ?_)
  clear hKK KK
  clear hwD d0 d1 d2 d3 d4 d5 f0 f1 f2 f3 f4 f5
  obtain ⟨d0, d1⟩ := rowv2 HED.out
  have f0 := frozen_of_row _ _ 0 _ _ HED.out
  have f1 := frozen_of_row _ _ 1 _ _ HED.out
  obtain ⟨wE, hwE⟩ : ∃ wE, wE = (wD.setCell ⟨X + 1 + 1, 0, none⟩ (.slice (some ⟨gv, 0, none⟩) svn svc)).setCell ⟨X + 1 + 1, 1, none⟩ (.slice (some ⟨gx, 0, none⟩) sxn sxc) := ⟨_, rfl⟩
  have HEE : Hid (wE.heap[X + 1 + 1]? = some (.cells #[.slice (some ⟨gv, 0, none⟩) svn svc, .slice (some ⟨gx, 0, none⟩) sxn sxc] 70 (0, 0))) := by
    unfold Hid
    rw [hwE]
    have h1 := heap_setCell_same wD (X + 1 + 1) 0 _ 70 (.slice (some ⟨gv, 0, none⟩) svn svc) HED.out
    have h2 := heap_setCell_same _ (X + 1 + 1) 1 _ 70 (.slice (some ⟨gx, 0, none⟩) sxn sxc) h1
    simpa using h2
  have aE : Apart [X + 1 + 1] wD wE := by rw [hwE]; exact ((Apart.refl [X + 1 + 1] wD).setCell (.inl (by simp)) _).setCell (.inl (by simp)) _
  have hSE : wE.heap[X]? = some (.cells #[.int .i64 e.n, .int .i64 e.c, .string e.k, .bool e.d, .slice (some ⟨gv, 0, none⟩) e.v.n svc, .slice (some ⟨gx, 0, none⟩) e.x.n sxc] 37 (0, 0)) ∧ wE.heap[K]? = some (.cells #[.slice (some ⟨gv, 0, none⟩) svn svc, .slice (some ⟨gx, 0, none⟩) sxn sxc] 70 (0, 0)) := ⟨(aE.block _ (lt_of_heap hHeld.1) (by simp; omega)).trans hHeld.1, (aE.block _ (lt_of_heap hHeld.2) (by simp; omega)).trans hHeld.2⟩
  have HDE : Hid (wE.heap[X + 1]? = some (.cells #[.int .i64 e.n, .int .i64 e.c, .string e.k, .bool e.d, .slice (some ⟨gv, 0, none⟩) e.v.n svc, .slice (some ⟨gx, 0, none⟩) e.x.n sxc] 37 (0, 0))) := (aE.block _ (lt_of_heap HDD.out) (by simp)).trans HDD.out
  have HaE := hid aE
  clear aE
  refine wpAnyH_ready (rs := [3]) (by kernel_rfl) (by simp) ?_
  refine AllReadyH.cons rfl (fun KK hKK => ?_) AllReadyH.nil
  go_simp
  rw [← hwE]
  refine hKK.out _ _ hSE (fun hHeld => ?_)
  clear hKK KK
  refine wpAnyH_done (by kernel_rfl) ?_ _
  clear hwE d0 d1 f0 f1 hSD hSE hHeld hXK hKK
  have aDE : Apart [] w wE := ((HAX.out.trans HSd.out).trans' HaD.out (by intro y hy; simp at hy; rw [hy, HX.out]; exact .inr (by omega))).trans' HaE.out (by intro y hy; simp at hy; rw [hy, HX.out]; exact .inr (by omega))
  have aD1 : Apart [] w wD := (HAX.out.trans HSd.out).trans' HaD.out (by intro y hy; simp at hy; rw [hy, HX.out]; exact .inr (by omega))
  have HBvE : Hid (Bf w wE ⟨some ⟨gv, 0, none⟩, svn, svc⟩ (r.vs ++ [165, 90])) := ((HBvk.out.kept HSd.out).keepT HaD.out aD1 (by intro k hk cur h; simp at hk; rw [hk, HDd.out] at h; simp at h)).keepT HaE.out aDE (by intro k hk cur h; simp at hk; rw [hk, HED.out] at h; simp at h)
  have HBxE : Hid (Ss w wE ⟨some ⟨gx, 0, none⟩, sxn, sxc⟩ (r.xs ++ [mkS])) := ((HBxk.out.kept HSd.out).keepT HaD.out aD1 (by intro k hk cur h; simp at hk; rw [hk, HDd.out] at h; simp at h)).keepT HaE.out aDE (by intro k hk cur h; simp at hk; rw [hk, HED.out] at h; simp at h)
  have HP : Hid (LendP w r (.returned (.tuple #[.agg #[.int .i64 e.n, .int .i64 e.c, .string e.k, .bool e.d, .slice (some ⟨gv, 0, none⟩) e.v.n svc, .slice (some ⟨gx, 0, none⟩) e.x.n sxc], .agg #[.slice (some ⟨gv, 0, none⟩) svn svc, .slice (some ⟨gx, 0, none⟩) sxn sxc]])) wE) := ⟨⟨e.n, e.c, e.k, e.d, ⟨some ⟨gv, 0, none⟩, e.v.n, svc⟩, ⟨some ⟨gx, 0, none⟩, e.x.n, sxc⟩⟩, ⟨some ⟨gv, 0, none⟩, svn, svc⟩, ⟨some ⟨gx, 0, none⟩, sxn, sxc⟩, rfl, ⟨HR.out.n, HR.out.c, HR.out.k, HR.out.d, by rw [HVN.out], by rw [HXN.out], HBvE.out, HBxE.out, HR.out.vb, by rw [HVN.out]; exact hvl, by rw [HXN.out]; exact hxl⟩⟩
  obtain ⟨d0, d1, d2, d3, d4, d5⟩ := rowv6 HDE.out
  obtain ⟨c0, c1⟩ := rowv2 HEE.out
  clear aDE aD1
  go_wp2_with fail
  refine bodyPost_ret (v := .tuple #[.agg #[.int .i64 e.n, .int .i64 e.c, .string e.k, .bool e.d, .slice (some ⟨gv, 0, none⟩) e.v.n svc, .slice (some ⟨gx, 0, none⟩) e.x.n sxc], .agg #[.slice (some ⟨gv, 0, none⟩) svn svc, .slice (some ⟨gx, 0, none⟩) sxn sxc]]) ?_ rfl HP.out
  simp [results, Tryz.results26, go_sem, d0, d1, d2, d3, d4, d5, c0, c1]
end Go.Proofs.YtddffdcjhleejaaGreat.ds
