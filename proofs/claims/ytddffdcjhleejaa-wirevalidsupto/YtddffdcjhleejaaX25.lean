import Derived.Test.YtddffdcjhleejaaV35
import Derived.Test.YtddffdcjhleejaaV31
import Derived.Test.YtddffdcjhleejaaV5
import Derived.Test.YtddffdcjhleejaaV36
namespace Go.Proofs.Ytddffdcjhleejaa.ds
open Go.ChangeShapes Go.WideShapes Go.ChangeAt Go.RowKit Go.Sort
set_option linter.unusedVariables false
theorem Ss.l {wB w : World} {s : Sl} {xs : List S} (h : Ss wB w s xs) (hl : xs.length ≤ 2000001) : L w s.p s.n xs := ⟨Sp.of_rd h.nw.rd, h.len.symm, by rw [h.len]; omega, h.fit⟩
theorem Ss.lpre {wB w : World} {s : Sl} {xs : List S} (h : Ss wB w s (xs ++ [mkS])) (hl : xs.length ≤ 2000001) : L w s.p xs.length xs := by
  have h1 := h.nw.rd
  rw [flat_snoc] at h1
  exact ⟨Sp.of_rd h1.pre, rfl, by omega, fun x hx => h.fit x (by simp [hx])⟩
end Go.Proofs.Ytddffdcjhleejaa.ds
namespace Go.Proofs.Ytddffdcjhleejaa.ds
open Go.ChangeShapes Go.WideShapes Go.ChangeAt Go.RowKit Go.Sort
set_option linter.unusedVariables false
set_option linter.unusedSimpArgs false
set_option maxHeartbeats 8000000 in
set_option maxRecDepth 100000 in
theorem whole_ok {wB w : World} (sv sx : Sl) (e : E) (r : Wr) (hr : Reads w e r) (hv : Bf wB w sv (r.vs ++ [165, 90])) (hx : Ss wB w sx (r.xs ++ [mkS])) :
    Calls Try.prog 39 #[.agg #[.slice sv.p sv.n sv.c, .slice sx.p sx.n sx.c], .agg #[.int .i64 e.n, .int .i64 e.c, .string e.k, .bool e.d, .slice e.v.p e.v.n e.v.c, .slice e.x.p e.x.n e.x.c]] w fun a w' => a = .returned (.bool true) ∧ Apart [] w w' := by
  have HR := hid hr
  have HV := hid hv
  have HX := hid hx
  have hvl := hr.vl
  have hxl := hr.xl
  have HVN := hid hr.vn
  have HXN := hid hr.x.len
  have HB : Hid (RBs w e.v r.vs) := ⟨hr.v, hr.vn, hr.vb, hr.vo⟩
  have H8 : Hid (∀ y ∈ r.vs ++ [165, 90], y < 256) := fun y hy => by
    rcases List.mem_append.1 hy with h | h
    · exact hr.vb y h
    · simp at h; omega
  obtain ⟨K, HK⟩ : ∃ K, Hid (K = w.heap.size) := ⟨_, rfl⟩
  obtain ⟨M, HM⟩ : ∃ M, Hid (M = w.heap.size + 1) := ⟨_, rfl⟩
  obtain ⟨w0, hw0⟩ : ∃ w0, w0 = w.alloc (.cells #[.slice sv.p sv.n sv.c, .slice sx.p sx.n sx.c] 71) := ⟨_, rfl⟩
  obtain ⟨w1, hw1⟩ : ∃ w1, w1 = w0.alloc (.cells #[.int .i64 e.n, .int .i64 e.c, .string e.k, .bool e.d, .slice e.v.p e.v.n e.v.c, .slice e.x.p e.x.n e.x.c] 41) := ⟨_, rfl⟩
  have hs0 : w0.heap.size = w.heap.size + 1 := by rw [hw0]; simp
  have HM2 : Hid (M = w0.heap.size) := by unfold Hid; rw [HM.out, hs0]
  have HA0 : Hid (Apart [] w w0) := by unfold Hid; rw [hw0]; exact (Apart.refl [] w).alloc _
  have HA1 : Hid (Apart [] w0 w1) := by unfold Hid; rw [hw1]; exact (Apart.refl [] w0).alloc _
  have HK1 : Hid (w1.heap[K]? = some (.cells #[.slice sv.p sv.n sv.c, .slice sx.p sx.n sx.c] 71 (0, 0))) := by
    have : w0.heap[K]? = some (.cells #[.slice sv.p sv.n sv.c, .slice sx.p sx.n sx.c] 71 (0, 0)) := by rw [HK.out, hw0]; exact heap_alloc_new w _
    exact (HA1.out.block _ (lt_of_heap this) (by simp)).trans this
  have HM1 : Hid (w1.heap[M]? = some (.cells #[.int .i64 e.n, .int .i64 e.c, .string e.k, .bool e.d, .slice e.v.p e.v.n e.v.c, .slice e.x.p e.x.n e.x.c] 41 (0, 0))) := by unfold Hid; rw [HM2.out, hw1]; exact heap_alloc_new w0 _
  have HA01 : Hid (Apart [] w w1) := HA0.out.trans HA1.out
  clear hr hv hx hs0
  go_enter Try.func39, Try.ntmps39
  go_upto_region 1 with fail
  rw [← hw0, ← hw1, ← HM.out, ← HK.out]
  clear hw0 hw1
  have hd0 : Apart [] w1 w1.drew := (Apart.refl [] w1).drew
  refine wp_region_held_drew (S := fun W => Apart [] w1 W) (by kernel_rfl) hd0 (fun hHeld => ?_)
  generalize w1.drew = wd at *
  refine tk 0 5 (.pointer (some ⟨K, 0, none⟩)) rfl ?_ ?_
  · intro W hSW; go_simp
  simp only [Act.put, List.setIfInBounds_toArray, List.set_cons_zero, List.set_cons_succ]
  refine tk 1 6 (.slice sv.p sv.n sv.c) rfl ?_ ?_
  · intro W hSW; obtain ⟨c0, c1⟩ := rowv2 ((hSW.block _ (lt_of_heap HK1.out) (by simp)).trans HK1.out); go_simp
  simp only [Act.put, List.setIfInBounds_toArray, List.set_cons_zero, List.set_cons_succ]
  refine tk 2 7 (.pointer (some ⟨M, 4, none⟩)) rfl ?_ ?_
  · intro W hSW; go_simp
  simp only [Act.put, List.setIfInBounds_toArray, List.set_cons_zero, List.set_cons_succ]
  refine tk 3 8 (.slice e.v.p e.v.n e.v.c) rfl ?_ ?_
  · intro W hSW; obtain ⟨c0, c1, c2, c3, c4, c5⟩ := row6 ((hSW.block _ (lt_of_heap HM1.out) (by simp)).trans HM1.out); go_simp
  simp only [Act.put, List.setIfInBounds_toArray, List.set_cons_zero, List.set_cons_succ]
  refine wpAnyH_ready (rs := [4]) (by kernel_rfl) (by simp) ?_
  refine AllReadyH.cons rfl (fun KK hKK => ?_) AllReadyH.nil
  go_simp
  refine (bytes_ok (HB.out.kept0 (HA01.out.trans hHeld)) (by rw [HVN.out]; omega)).mono ?_
  rintro _ w2 ⟨cc, rfl, hb2⟩
  have hS2 : Apart [] w1 w2 := hHeld.trans hb2.nw.ap
  have HB2 := hid hb2
  clear hb2
  try dsimp only
  refine hKK.out _ _ hS2 (fun hHeld2 => ?_)
  clear hKK KK hHeld2
  try simp only [Act.put, List.setIfInBounds_toArray, List.set_cons_zero, List.set_cons_succ]
  have HSB : Hid (Calls Try.prog 18 #[.slice sv.p sv.n sv.c, .slice cc.p cc.n cc.c] w2 fun r w' => r = .returned (.bool true) ∧ w' = w2) := sameBytes_ok ((HV.out.kept (HA01.out.trans hS2)).rbs H8.out) (HB2.out.rbs H8.out) true (by simp)
  refine wpAnyH_ready (rs := [5]) (by kernel_rfl) (by simp) ?_
  refine AllReadyH.cons rfl (fun KK hKK => ?_) AllReadyH.nil
  go_simp
  refine HSB.out.mono ?_
  rintro _ wn ⟨rfl, hwn⟩
  rw [hwn]
  clear hwn wn
  try dsimp only
  refine hKK.out _ _ hS2 (fun hHeld2 => ?_)
  clear hKK KK hHeld2 HSB
  try simp only [Act.put, List.setIfInBounds_toArray, List.set_cons_zero, List.set_cons_succ]
  refine tk 6 11 (.bool true) rfl ?_ ?_
  · intro W hSW; go_simp
  simp only [Act.put, List.setIfInBounds_toArray, List.set_cons_zero, List.set_cons_succ]
  refine tk 7 12 (.pointer (some ⟨K, 1, none⟩)) rfl ?_ ?_
  · intro W hSW; go_simp
  simp only [Act.put, List.setIfInBounds_toArray, List.set_cons_zero, List.set_cons_succ]
  refine tk 8 13 (.slice sx.p sx.n sx.c) rfl ?_ ?_
  · intro W hSW; obtain ⟨c0, c1⟩ := rowv2 ((hSW.block _ (lt_of_heap HK1.out) (by simp)).trans HK1.out); go_simp
  simp only [Act.put, List.setIfInBounds_toArray, List.set_cons_zero, List.set_cons_succ]
  refine tk 9 14 (.pointer (some ⟨M, 5, none⟩)) rfl ?_ ?_
  · intro W hSW; go_simp
  simp only [Act.put, List.setIfInBounds_toArray, List.set_cons_zero, List.set_cons_succ]
  refine tk 10 15 (.slice e.x.p e.x.n e.x.c) rfl ?_ ?_
  · intro W hSW; obtain ⟨c0, c1, c2, c3, c4, c5⟩ := row6 ((hSW.block _ (lt_of_heap HM1.out) (by simp)).trans HM1.out); go_simp
  simp only [Act.put, List.setIfInBounds_toArray, List.set_cons_zero, List.set_cons_succ]
  have HC3 := hid (spansL_ok (c := e.x.c) (HR.out.x.kept0 (HA01.out.trans hS2)) (by omega))
  refine wpAnyH_ready (rs := [11]) (by kernel_rfl) (by simp) ?_
  refine AllReadyH.cons rfl (fun KK hKK => ?_) AllReadyH.nil
  go_simp
  refine HC3.out.mono ?_
  rintro _ w3 ⟨t3, rfl, hs3⟩
  have hS3 : Apart [] w1 w3 := hS2.trans hs3.nw.ap
  have HS3 := hid hs3
  clear hs3
  try dsimp only
  refine hKK.out _ _ hS3 (fun hHeld2 => ?_)
  clear hKK KK hHeld2 HC3
  try simp only [Act.put, List.setIfInBounds_toArray, List.set_cons_zero, List.set_cons_succ]
  have HC4 : Hid (Calls Try.prog 27 #[.slice sx.p sx.n sx.c, .slice t3.p t3.n t3.c] w3 fun r w' => r = .returned (.bool true) ∧ Apart [] w3 w') := sameSet_ok ((HX.out.kept (HA01.out.trans hS3)).l (by rw [List.length_append]; simp; have := HXN.out; omega)) (HS3.out.l (by rw [List.length_append]; simp; have := HXN.out; omega)) true (by simp)
  refine wpAnyH_ready (rs := [12]) (by kernel_rfl) (by simp) ?_
  refine AllReadyH.cons rfl (fun KK hKK => ?_) AllReadyH.nil
  go_simp
  refine HC4.out.mono ?_
  rintro _ w4 ⟨rfl, ha4⟩
  have hS4 : Apart [] w1 w4 := hS3.trans ha4
  clear ha4
  try dsimp only
  refine hKK.out _ _ hS4 (fun hHeld2 => ?_)
  clear hKK KK hHeld2 HC4
  try simp only [Act.put, List.setIfInBounds_toArray, List.set_cons_zero, List.set_cons_succ]
  refine tk 13 18 (.bool true) rfl ?_ ?_
  · intro W hSW; go_simp
  simp only [Act.put, List.setIfInBounds_toArray, List.set_cons_zero, List.set_cons_succ]
  refine tk 14 4 (.bool true) rfl ?_ ?_
  · intro W hSW; go_simp
  simp only [Act.put, List.setIfInBounds_toArray, List.set_cons_zero, List.set_cons_succ]
  refine wpAnyH_done (by kernel_rfl) ?_ _
  go_wp2_with fail
  go_ret
  exact ⟨rfl, HA01.out.trans hS4⟩
end Go.Proofs.Ytddffdcjhleejaa.ds
