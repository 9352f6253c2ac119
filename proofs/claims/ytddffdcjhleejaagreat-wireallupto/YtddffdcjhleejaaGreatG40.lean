import Derived.Test.YtddffdcjhleejaaGreatG39
import Derived.Test.YtddffdcjhleejaaGreatG34
import Derived.Test.YtddffdcjhleejaaGreatG6
import Derived.Test.YtddffdcjhleejaaGreatG35
namespace Go.Proofs.YtddffdcjhleejaaGreat.ds
open Go.ChangeShapes Go.WideShapes Go.ChangeAt Go.RowKit Go.Sort
set_option linter.unusedVariables false
set_option linter.unusedSimpArgs false
theorem VMsg.gA {wB w : World} {v : Value} (h : VMsg wB gA v w) : ∃ (ss ws : Sl) (es : List E), v = .agg #[.int .i64 2, .int .i64 1, .int .i64 0, .int .i64 7, .int .i64 0, .int .i64 1, .string ⟨#[]⟩, .int .i64 0, .int .i64 0, .slice ss.p ss.n ss.c, .slice ws.p ws.n ws.c] ∧ RM w ⟨2, 1, 0, 7, 0, 1, ⟨#[]⟩, 0, 0, ss, ws⟩ ds.gA es := by
  obtain ⟨m, es, hv, hm⟩ := h.rm gA_ok (by simp [ds.gA])
  obtain ⟨k, f, t, c, r, o, ky, dn, dc, ss, ws⟩ := m
  have e1 : k = 2 := hm.kind
  have e2 : f = 1 := hm.frm
  have e3 : t = 0 := hm.dst
  have e4 : c = 7 := hm.call
  have e5 : r = 0 := hm.rng
  have e6 : o = 1 := hm.own
  have e7 : ky = ⟨#[]⟩ := hm.key
  have e8 : dn = 0 := hm.dn
  have e9 : dc = 0 := hm.dc
  subst e1 e2 e3 e4 e5 e6 e7 e8 e9
  exact ⟨ss, ws, es, hv, hm⟩
theorem valid_gA (w : World) (ss ws : Sl) (es : List E) (h : RM w (⟨2, 1, 0, 7, 0, 1, ⟨#[]⟩, 0, 0, ss, ws⟩ : MM) ds.gA es) : Calls Tryz.prog 14 #[.agg #[.int .i64 2, .int .i64 1, .int .i64 0, .int .i64 7, .int .i64 0, .int .i64 1, .string ⟨#[]⟩, .int .i64 0, .int .i64 0, .slice ss.p ss.n ss.c, .slice ws.p ws.n ws.c]] w fun r w' => r = .returned (.bool true) ∧ Apart [] w w' := by
  have hs : L w ss.p ss.n [] := h.set
  have hw : RWs w ws es [] := h.ws
  have n1 : ss.n = 0 := by have := hs.len; simpa using this.symm
  have n2 : ws.n = 0 := by have := hw.rl; simpa using this.symm
  have hv : VI (⟨2, 1, 0, 7, 0, 1, ⟨#[]⟩, 0, 0, ss, ws⟩ : MI) [] [] := by
    refine ⟨by dsimp only; decide, by dsimp only; decide, ?_, ?_, ?_, ?_, ?_, ?_⟩
    · unfold up; dsimp only; decide
    · exact ⟨⟨fun h => absurd h (by dsimp only; decide), fun h => absurd h (by dsimp only; decide)⟩, by dsimp only; decide⟩
    · exact ⟨⟨fun h => absurd h (by dsimp only; decide), fun h => (by unfold IsDot at h; simp at h)⟩, fun _ => ⟨rfl, rfl⟩⟩
    · exact ⟨OkL.nil _, fun _ => n1, fun h => absurd h (by dsimp only; decide)⟩
    · exact ⟨fun h => absurd h (by dsimp only; decide), fun _ => n2⟩
    · exact ⟨by dsimp only; decide, trivial⟩
  exact validI_ok w (⟨2, 1, 0, 7, 0, 1, ⟨#[]⟩, 0, 0, ss, ws⟩ : MI) [] es [] ⟨hs, by show ss.n ≤ _; omega, h.so, hw⟩ true (by simp [hv])
set_option maxHeartbeats 8000000 in
set_option maxRecDepth 100000 in
theorem alive_ok (w : World) : Calls Tryz.prog 4 #[] w fun r w' => r = .returned (.bool true) ∧ Apart [] w w' := by
  have HC1 : Hid (Calls Tryz.prog 9 #[.agg #[.int .i64 2, .int .i64 1, .int .i64 0, .int .i64 7, .int .i64 0, .int .i64 1, .string ⟨#[]⟩, .int .i64 0, .int .i64 0, .slice none 0 0, .slice none 0 0]] w fun r w' => EncP w [2, 1, 0, 7, 1] r w') := by
    have := encode_yes2 w ⟨2, 1, 0, 7, 0, 1, ⟨#[]⟩, 0, 0, ⟨none, 0, 0⟩, ⟨none, 0, 0⟩⟩ gA [] (gA_rm w _ rfl) gA_ok (fun W a => valid_gA W ⟨none, 0, 0⟩ ⟨none, 0, 0⟩ [] ((gA_rm w _ rfl).kept0 a))
    rw [gA_enc] at this
    exact this
  have HC2 : Hid (∀ W, Calls Tryz.prog 10 #[.slice (some ⟨W.heap.size, 0, none⟩) 5 5] (W.alloc (.cells #[.int .u8 2, .int .u8 1, .int .u8 0, .int .u8 7, .int .u8 1] 5)) fun e w' => ∃ (ss ws : Sl) (es : List E), e = .returned (.tuple #[.agg #[.int .i64 2, .int .i64 1, .int .i64 0, .int .i64 7, .int .i64 0, .int .i64 1, .string ⟨#[]⟩, .int .i64 0, .int .i64 0, .slice ss.p ss.n ss.c, .slice ws.p ws.n ws.c], .int .i64 0, .int .i64 0]) ∧ RM w' ⟨2, 1, 0, 7, 0, 1, ⟨#[]⟩, 0, 0, ss, ws⟩ gA es ∧ Apart [] W w') := fun W => by
    have := decode_ok (dat_made W [2, 1, 0, 7, 1] (by decide) (by decide))
    refine (this.mono ?_)
    intro e w' hp
    obtain ⟨v, he, hv⟩ := hp.ok gA 5 gA_dec
    obtain ⟨ss, ws, es, hv1, hv2⟩ := VMsg.gA hv
    exact ⟨ss, ws, es, by rw [he, hv1], hv2, ((Apart.refl [] W).alloc _).trans hp.ap⟩
  have HC3 : Hid (∀ W, Calls Tryz.prog 11 #[.slice (some ⟨W.heap.size, 0, none⟩) 1 1] (W.alloc (.cells #[.int .i64 2, .int .i64 5, .int .u64 10] 48)) fun e w' => ∃ s : Sl, e = .returned (.tuple #[.slice s.p s.n s.c, .int .i64 0]) ∧ Bf W w' s [1, 2, 5, 10]) := fun W => by
    have a : Apart [] W (W.alloc (.cells #[.int .i64 2, .int .i64 5, .int .u64 10] 48)) := (Apart.refl [] W).alloc _
    have := putSet_ok (W.alloc (.cells #[.int .i64 2, .int .i64 5, .int .u64 10] 48)) (some ⟨W.heap.size, 0, none⟩) 1 1 [⟨2, 5, 10⟩] (rowL (x := ⟨2, 5, 10⟩) (heap_alloc_new W _) (by decide)) true (by simp [sA_ok])
    rw [sA_enc] at this
    refine this.mono ?_
    intro e w' hp
    obtain ⟨s, h1, h2⟩ := hp.yes rfl
    exact ⟨s, h1, h2.nw.from a, h2.len⟩
  have HC4 : Hid (∀ W, Calls Tryz.prog 12 #[.agg #[.int .i64 0, .int .i64 0, .string ⟨#[]⟩, .bool false, .slice none 0 0, .slice none 0 0]] W fun e w' => e = .returned (.tuple #[.slice none 0 0, .int .i64 52]) ∧ Apart [] W w') := fun W => by
    have := putWrite_ok W E.z Wr.z ⟨rfl, rfl, rfl, rfl, Rd.nil _ _, rfl, by decide, by simp [Wr.z], L.nil _ _, by decide, fun _ => ⟨rfl, rfl⟩, fun _ => ⟨rfl, rfl⟩⟩ false (by
      simp only [Bool.false_eq_true, false_iff]
      intro h
      have := h.dot.2.1
      simp [Wr.z] at this)
    refine this.mono ?_
    intro e w' hp
    exact ⟨hp.no rfl, hp.ap⟩
  go_enter Tryz.func4, Tryz.ntmps4
  go_wp2_with fail
  refine HC1.out.mono ?_
  rintro _ w2 ⟨s2, rfl, hb2⟩
  have HB2 := hid hb2
  clear hb2
  try dsimp only
  go_wp2_with fail
  refine (HC2.out w2).mono ?_
  rintro _ w3 ⟨ss, ws, es, rfl, hm3, ha3⟩
  have HM3 := hid hm3
  have HA3 := hid ha3
  clear hm3 ha3
  try dsimp only
  obtain ⟨w4, hw4⟩ : ∃ w4, w4 = w3.alloc (.cells #[.int .i64 2, .int .i64 1, .int .i64 0, .int .i64 7, .int .i64 0, .int .i64 1, .string ⟨#[]⟩, .int .i64 0, .int .i64 0, .slice ss.p ss.n ss.c, .slice ws.p ws.n ws.c] 29) := ⟨_, rfl⟩
  have HX4 : Hid (w4.heap[w3.heap.size]? = some (.cells #[.int .i64 2, .int .i64 1, .int .i64 0, .int .i64 7, .int .i64 0, .int .i64 1, .string ⟨#[]⟩, .int .i64 0, .int .i64 0, .slice ss.p ss.n ss.c, .slice ws.p ws.n ws.c] 29 (0, 0))) := by unfold Hid; rw [hw4]; exact heap_alloc_new w3 _
  have HA4 : Hid (Apart [] w3 w4) := by unfold Hid; rw [hw4]; exact (Apart.refl [] w3).alloc _
  obtain ⟨X, HXX⟩ : ∃ X, Hid (X = w3.heap.size) := ⟨_, rfl⟩
  rw [← HXX.out] at HX4
  go_upto_region 3 with fail
  rw [← hw4, ← HXX.out]
  clear hw4
  go_wp2_with fail
  refine (HC3.out w4).mono ?_
  rintro _ w5 ⟨s5, rfl, hb5⟩
  have HB5 := hid hb5
  clear hb5
  try dsimp only
  go_wp2_with fail
  refine (HC4.out w5).mono ?_
  rintro _ w6 ⟨rfl, ha6⟩
  have HA6 := hid ha6
  clear ha6
  try dsimp only
  have HB6 := hid (HB5.out.kept HA6.out)
  have HS46 : Hid (Apart [] w4 w6) := HB5.out.nw.ap.trans HA6.out
  have HB26 := hid (HB2.out.kept ((HA3.out.trans HA4.out).trans HS46.out))
  have HX6 : Hid (w6.heap[X]? = some (.cells #[.int .i64 2, .int .i64 1, .int .i64 0, .int .i64 7, .int .i64 0, .int .i64 1, .string ⟨#[]⟩, .int .i64 0, .int .i64 0, .slice ss.p ss.n ss.c, .slice ws.p ws.n ws.c] 29 (0, 0))) := (HS46.out.block _ (lt_of_heap HX4.out) (by simp)).trans HX4.out
  have HM6 := hid (HM3.out.kept0 (HA4.out.trans HS46.out))
  have HC5 : Hid (Calls Tryz.prog 13 #[.slice s2.p s2.n s2.c, .slice (some ⟨w6.heap.size, 0, none⟩) 5 5] (w6.alloc (.cells #[.int .u8 2, .int .u8 1, .int .u8 0, .int .u8 7, .int .u8 1] 5)) fun r w' => r = .returned (.bool true) ∧ w' = w6.alloc (.cells #[.int .u8 2, .int .u8 1, .int .u8 0, .int .u8 7, .int .u8 1] 5)) :=
    sameBytes_ok ((HB26.out.kept ((Apart.refl [] w6).alloc _)).rbs (by decide)) (rbs_made w6 [2, 1, 0, 7, 1] (by decide)) true (by simp)
  go_wp2_with fail
  refine HC5.out.mono ?_
  obtain ⟨w7, hw7⟩ : ∃ w7, w7 = w6.alloc (.cells #[.int .u8 2, .int .u8 1, .int .u8 0, .int .u8 7, .int .u8 1] 5) := ⟨_, rfl⟩
  have HA7 : Hid (Apart [] w6 w7) := by unfold Hid; rw [hw7]; exact (Apart.refl [] w6).alloc _
  rw [← hw7]
  clear hw7
  rintro _ wn ⟨rfl, hwn⟩
  rw [hwn]
  clear hwn wn
  try dsimp only
  have HX7 : Hid (w7.heap[X]? = some (.cells #[.int .i64 2, .int .i64 1, .int .i64 0, .int .i64 7, .int .i64 0, .int .i64 1, .string ⟨#[]⟩, .int .i64 0, .int .i64 0, .slice ss.p ss.n ss.c, .slice ws.p ws.n ws.c] 29 (0, 0))) := (HA7.out.block _ (lt_of_heap HX6.out) (by simp)).trans HX6.out
  have z0 : w7.cell? ⟨X, 0, none⟩ = some (.int .i64 2) := by rw [cell_of_row _ _ _ _ _ _ HX7.out]; rfl
  have z3 : w7.cell? ⟨X, 3, none⟩ = some (.int .i64 7) := by rw [cell_of_row _ _ _ _ _ _ HX7.out]; rfl
  have HC6 : Hid (Calls Tryz.prog 13 #[.slice s5.p s5.n s5.c, .slice (some ⟨w7.heap.size, 0, none⟩) 4 4] (w7.alloc (.cells #[.int .u8 1, .int .u8 2, .int .u8 5, .int .u8 10] 5)) fun r w' => r = .returned (.bool true) ∧ w' = w7.alloc (.cells #[.int .u8 1, .int .u8 2, .int .u8 5, .int .u8 10] 5)) :=
    sameBytes_ok ((HB6.out.kept (HA7.out.trans ((Apart.refl [] w7).alloc _))).rbs (by decide)) (rbs_made w7 [1, 2, 5, 10] (by decide)) true (by simp)
  go_wp2_with fail
  refine HC6.out.mono ?_
  obtain ⟨w8, hw8⟩ : ∃ w8, w8 = w7.alloc (.cells #[.int .u8 1, .int .u8 2, .int .u8 5, .int .u8 10] 5) := ⟨_, rfl⟩
  have HA8 : Hid (Apart [] w7 w8) := by unfold Hid; rw [hw8]; exact (Apart.refl [] w7).alloc _
  rw [← hw8]
  clear hw8 z0 z3
  rintro _ wn ⟨rfl, hwn⟩
  rw [hwn]
  clear hwn wn
  try dsimp only
  have HX8 : Hid (w8.heap[X]? = some (.cells #[.int .i64 2, .int .i64 1, .int .i64 0, .int .i64 7, .int .i64 0, .int .i64 1, .string ⟨#[]⟩, .int .i64 0, .int .i64 0, .slice ss.p ss.n ss.c, .slice ws.p ws.n ws.c] 29 (0, 0))) := (HA8.out.block _ (lt_of_heap HX7.out) (by simp)).trans HX7.out
  obtain ⟨⟨z0, z1, z2, z3, z4, z5⟩, z6, z7, z8, z9, z10⟩ := mrow11 (m := ⟨2, 1, 0, 7, 0, 1, ⟨#[]⟩, 0, 0, ss, ws⟩) HX8.out
  simp only at z0 z1 z2 z3 z4 z5 z6 z7 z8 z9 z10
  have HC7 : Hid (Calls Tryz.prog 14 #[.agg #[.int .i64 2, .int .i64 1, .int .i64 0, .int .i64 7, .int .i64 0, .int .i64 1, .string ⟨#[]⟩, .int .i64 0, .int .i64 0, .slice ss.p ss.n ss.c, .slice ws.p ws.n ws.c]] w8 fun r w' => r = .returned (.bool true) ∧ Apart [] w8 w') := valid_gA w8 ss ws es (HM6.out.kept0 (HA7.out.trans HA8.out))
  go_wp2_with fail
  refine HC7.out.mono ?_
  rintro _ w9 ⟨rfl, ha9⟩
  have HA9 : Hid (Apart [] w w9) := (HB26.out.nw.ap.trans (HA7.out.trans HA8.out)).trans ha9
  clear ha9
  try dsimp only
  go_wp2_with fail
  go_ret
  exact ⟨rfl, HA9.out⟩
end Go.Proofs.YtddffdcjhleejaaGreat.ds
namespace Go.Proofs.YtddffdcjhleejaaGreat.ds
open Go.ChangeShapes Go.WideShapes Go.ChangeAt Go.RowKit Go.Sort
set_option linter.unusedVariables false
theorem Ss.l {wB w : World} {s : Sl} {xs : List S} (h : Ss wB w s xs) (hl : xs.length ≤ 2000001) : L w s.p s.n xs := ⟨Sp.of_rd h.nw.rd, h.len.symm, by rw [h.len]; omega, h.fit⟩
theorem Ss.lpre {wB w : World} {s : Sl} {xs : List S} (h : Ss wB w s (xs ++ [mkS])) (hl : xs.length ≤ 2000001) : L w s.p xs.length xs := by
  have h1 := h.nw.rd
  rw [flat_snoc] at h1
  exact ⟨Sp.of_rd h1.pre, rfl, by omega, fun x hx => h.fit x (by simp [hx])⟩
end Go.Proofs.YtddffdcjhleejaaGreat.ds
namespace Go.Proofs.YtddffdcjhleejaaGreat.ds
open Go.ChangeShapes Go.WideShapes Go.ChangeAt Go.RowKit Go.Sort
set_option linter.unusedVariables false
set_option linter.unusedSimpArgs false
set_option maxHeartbeats 8000000 in
set_option maxRecDepth 100000 in
theorem whole_ok {wB w : World} (sv sx : Sl) (e : E) (r : Wr) (hr : Reads w e r) (hv : Bf wB w sv (r.vs ++ [165, 90])) (hx : Ss wB w sx (r.xs ++ [mkS])) :
    Calls Tryz.prog 28 #[.agg #[.slice sv.p sv.n sv.c, .slice sx.p sx.n sx.c], .agg #[.int .i64 e.n, .int .i64 e.c, .string e.k, .bool e.d, .slice e.v.p e.v.n e.v.c, .slice e.x.p e.x.n e.x.c]] w fun a w' => a = .returned (.bool true) ∧ Apart [] w w' := by
  have HR := hid hr
  have HV := hid hv
  have HX := hid hx
  have hvl := hr.vl
  have hxl := hr.xl
  have HVN := hid hr.vn
  have HXN := hid hr.x.len
  have HB : Hid (RBs w e.v r.vs) := ⟨hr.v, hr.vn, hr.vb, hr.vo⟩
  have H8 : Hid (∀ y ∈ r.vs ++ [165, 90], y < 256) := fun y hy => by
    rcases List.mem_append.1 hy with h | h
    · exact hr.vb y h
    · simp at h; omega
  obtain ⟨K, HK⟩ : ∃ K, Hid (K = w.heap.size) := ⟨_, rfl⟩
  obtain ⟨M, HM⟩ : ∃ M, Hid (M = w.heap.size + 1) := ⟨_, rfl⟩
  obtain ⟨w0, hw0⟩ : ∃ w0, w0 = w.alloc (.cells #[.slice sv.p sv.n sv.c, .slice sx.p sx.n sx.c] 70) := ⟨_, rfl⟩
  obtain ⟨w1, hw1⟩ : ∃ w1, w1 = w0.alloc (.cells #[.int .i64 e.n, .int .i64 e.c, .string e.k, .bool e.d, .slice e.v.p e.v.n e.v.c, .slice e.x.p e.x.n e.x.c] 37) := ⟨_, rfl⟩
  have hs0 : w0.heap.size = w.heap.size + 1 := by rw [hw0]; simp
  have HM2 : Hid (M = w0.heap.size) := by unfold Hid; rw [HM.out, hs0]
  have HA0 : Hid (Apart [] w w0) := by unfold Hid; rw [hw0]; exact (Apart.refl [] w).alloc _
  have HA1 : Hid (Apart [] w0 w1) := by unfold Hid; rw [hw1]; exact (Apart.refl [] w0).alloc _
  have HK1 : Hid (w1.heap[K]? = some (.cells #[.slice sv.p sv.n sv.c, .slice sx.p sx.n sx.c] 70 (0, 0))) := by
    have : w0.heap[K]? = some (.cells #[.slice sv.p sv.n sv.c, .slice sx.p sx.n sx.c] 70 (0, 0)) := by rw [HK.out, hw0]; exact heap_alloc_new w _
    exact (HA1.out.block _ (lt_of_heap this) (by simp)).trans this
  have HM1 : Hid (w1.heap[M]? = some (.cells #[.int .i64 e.n, .int .i64 e.c, .string e.k, .bool e.d, .slice e.v.p e.v.n e.v.c, .slice e.x.p e.x.n e.x.c] 37 (0, 0))) := by unfold Hid; rw [HM2.out, hw1]; exact heap_alloc_new w0 _
  have HA01 : Hid (Apart [] w w1) := HA0.out.trans HA1.out
  clear hr hv hx hs0
  go_enter Tryz.func28, Tryz.ntmps28
  go_upto_region 1 with fail
  rw [← hw0, ← hw1, ← HM.out, ← HK.out]
  clear hw0 hw1
  have hd0 : Apart [] w1 w1.drew := (Apart.refl [] w1).drew
  refine wp_region_held_drew (S := fun W => Apart [] w1 W) (by kernel_rfl) hd0 (fun hHeld => ?_)
  generalize w1.drew = wd at *
  refine tkn 0 5 (.pointer (some ⟨K, 0, none⟩)) rfl ?_ ?_
  · intro W hSW; go_simp
  refine tkn 1 6 (.slice sv.p sv.n sv.c) rfl ?_ ?_
  · intro W hSW; obtain ⟨c0, c1⟩ := rowv2 ((hSW.block _ (lt_of_heap HK1.out) (by simp)).trans HK1.out); go_simp
  refine tkn 2 7 (.pointer (some ⟨M, 4, none⟩)) rfl ?_ ?_
  · intro W hSW; go_simp
  refine tkn 3 8 (.slice e.v.p e.v.n e.v.c) rfl ?_ ?_
  · intro W hSW; obtain ⟨c0, c1, c2, c3, c4, c5⟩ := row6 ((hSW.block _ (lt_of_heap HM1.out) (by simp)).trans HM1.out); go_simp
  refine wpAnyH_ready (rs := [4]) (by kernel_rfl) (by simp) ?_
  refine AllReadyH.cons rfl (fun KK hKK => ?_) AllReadyH.nil
  go_simp
  refine (bytes_ok (HB.out.kept0 (HA01.out.trans hHeld)) (by rw [HVN.out]; omega)).mono ?_
  rintro _ w2 ⟨cc, rfl, hb2⟩
  have hS2 : Apart [] w1 w2 := hHeld.trans hb2.nw.ap
  have HB2 := hid hb2
  clear hb2
  try dsimp only
  refine hKK.out _ _ hS2 (fun hHeld2 => ?_)
  clear hKK KK hHeld2
  try simp only [Act.put, List.setIfInBounds_toArray, List.set_cons_zero, List.set_cons_succ]
  have HSB : Hid (Calls Tryz.prog 13 #[.slice sv.p sv.n sv.c, .slice cc.p cc.n cc.c] w2 fun r w' => r = .returned (.bool true) ∧ w' = w2) := sameBytes_ok ((HV.out.kept (HA01.out.trans hS2)).rbs H8.out) (HB2.out.rbs H8.out) true (by simp)
  refine wpAnyH_ready (rs := [5]) (by kernel_rfl) (by simp) ?_
  refine AllReadyH.cons rfl (fun KK hKK => ?_) AllReadyH.nil
  go_simp
  refine HSB.out.mono ?_
  rintro _ wn ⟨rfl, hwn⟩
  rw [hwn]
  clear hwn wn
  try dsimp only
  refine hKK.out _ _ hS2 (fun hHeld2 => ?_)
  clear hKK KK hHeld2 HSB
  try simp only [Act.put, List.setIfInBounds_toArray, List.set_cons_zero, List.set_cons_succ]
  refine tkn 6 11 (.bool true) rfl ?_ ?_
  · intro W hSW; go_simp
  refine tkn 7 12 (.pointer (some ⟨K, 1, none⟩)) rfl ?_ ?_
  · intro W hSW; go_simp
  refine tkn 8 13 (.slice sx.p sx.n sx.c) rfl ?_ ?_
  · intro W hSW; obtain ⟨c0, c1⟩ := rowv2 ((hSW.block _ (lt_of_heap HK1.out) (by simp)).trans HK1.out); go_simp
  refine tkn 9 14 (.pointer (some ⟨M, 5, none⟩)) rfl ?_ ?_
  · intro W hSW; go_simp
  refine tkn 10 15 (.slice e.x.p e.x.n e.x.c) rfl ?_ ?_
  · intro W hSW; obtain ⟨c0, c1, c2, c3, c4, c5⟩ := row6 ((hSW.block _ (lt_of_heap HM1.out) (by simp)).trans HM1.out); go_simp
  have HC3 := hid (spansL_ok (c := e.x.c) (HR.out.x.kept0 (HA01.out.trans hS2)) (by omega))
  refine wpAnyH_ready (rs := [11]) (by kernel_rfl) (by simp) ?_
  refine AllReadyH.cons rfl (fun KK hKK => ?_) AllReadyH.nil
  go_simp
  refine HC3.out.mono ?_
  rintro _ w3 ⟨t3, rfl, hs3⟩
  have hS3 : Apart [] w1 w3 := hS2.trans hs3.nw.ap
  have HS3 := hid hs3
  clear hs3
  try dsimp only
  refine hKK.out _ _ hS3 (fun hHeld2 => ?_)
  clear hKK KK hHeld2 HC3
  try simp only [Act.put, List.setIfInBounds_toArray, List.set_cons_zero, List.set_cons_succ]
  have HC4 : Hid (Calls Tryz.prog 23 #[.slice sx.p sx.n sx.c, .slice t3.p t3.n t3.c] w3 fun r w' => r = .returned (.bool true) ∧ Apart [] w3 w') := sameSet_ok ((HX.out.kept (HA01.out.trans hS3)).l (by rw [List.length_append]; simp; have := HXN.out; omega)) (HS3.out.l (by rw [List.length_append]; simp; have := HXN.out; omega)) true (by simp)
  refine wpAnyH_ready (rs := [12]) (by kernel_rfl) (by simp) ?_
  refine AllReadyH.cons rfl (fun KK hKK => ?_) AllReadyH.nil
  go_simp
  refine HC4.out.mono ?_
  rintro _ w4 ⟨rfl, ha4⟩
  have hS4 : Apart [] w1 w4 := hS3.trans ha4
  clear ha4
  try dsimp only
  refine hKK.out _ _ hS4 (fun hHeld2 => ?_)
  clear hKK KK hHeld2 HC4
  try simp only [Act.put, List.setIfInBounds_toArray, List.set_cons_zero, List.set_cons_succ]
  refine tkn 13 18 (.bool true) rfl ?_ ?_
  · intro W hSW; go_simp
  refine tkn 14 4 (.bool true) rfl ?_ ?_
  · intro W hSW; go_simp
  refine wpAnyH_done (by kernel_rfl) ?_ _
  go_wp2_with fail
  go_ret
  exact ⟨rfl, HA01.out.trans hS4⟩
end Go.Proofs.YtddffdcjhleejaaGreat.ds
