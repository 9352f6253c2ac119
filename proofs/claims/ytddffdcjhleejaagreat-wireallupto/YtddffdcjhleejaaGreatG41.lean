import Derived.Test.YtddffdcjhleejaaGreatG40
import Derived.Test.YtddffdcjhleejaaGreatG37
import Derived.Test.YtddffdcjhleejaaGreatG26
namespace Go.Proofs.YtddffdcjhleejaaGreat.ds
open Go.ChangeShapes Go.WideShapes Go.ChangeAt Go.RowKit Go.Sort
set_option linter.unusedVariables false
set_option linter.unusedSimpArgs false
theorem flo_len : ∀ ps : List (Sl × Sl), (flo ps).length = ps.length * 2
  | [] => rfl
  | p :: ps => by
    have := flo_len ps
    unfold flo at this ⊢
    rw [List.flatMap_cons, List.length_append, this, List.length_cons]
    unfold lo2
    simp
    omega
theorem flo_get : ∀ (ps : List (Sl × Sl)) (j : Nat), j < ps.length → ∀ i v, (lo2 (gP ps j))[i]? = some v → (flo ps)[j * 2 + i]? = some v
  | [], j, hj, i, v, hv => absurd hj (by simp)
  | p :: ps, 0, hj, i, v, hv => by
    have e : gP (p :: ps) 0 = p := rfl
    rw [e] at hv
    have hi : i < (lo2 p).length := (List.getElem?_eq_some_iff.1 hv).1
    unfold flo
    rw [List.flatMap_cons, Nat.zero_mul, Nat.zero_add, List.getElem?_append_left hi]
    exact hv
  | p :: ps, j + 1, hj, i, v, hv => by
    have e : gP (p :: ps) (j + 1) = gP ps j := rfl
    rw [e] at hv
    have := flo_get ps j (by simpa using hj) i v hv
    unfold flo at this ⊢
    rw [List.flatMap_cons, List.getElem?_append_right (by unfold lo2; simp; omega)]
    have e2 : (j + 1) * 2 + i - (lo2 p).length = j * 2 + i := by unfold lo2; simp; omega
    rw [e2]
    exact this
theorem LT.ecell {w W : World} {s0 wl el : Sl} {xs : List S} {es : List E} {ps : List (Sl × Sl)} {rs : List Wr} (h : LT w W s0 wl el xs es ps rs) (j : Nat) (hj : j < rs.length) : ∃ P o, el.p = some ⟨P, o, none⟩ ∧ P < W.heap.size ∧ W.cell? ⟨P, o + j * 2, none⟩ = some (.slice (gP ps j).1.p (gP ps j).1.n (gP ps j).1.c) ∧ W.cell? ⟨P, o + j * 2 + 1, none⟩ = some (.slice (gP ps j).2.p (gP ps j).2.n (gP ps j).2.c) := by
  have hp := h.eq.2
  obtain ⟨P, o, e, hP, hc⟩ := h.fe.rd (by rw [flo_len]; omega)
  have key : ∀ i v, (lo2 (gP ps j))[i]? = some v → W.cell? ⟨P, o + j * 2 + i, none⟩ = some v := fun i v hv => by
    have := hc (j * 2 + i) v (flo_get ps j (by omega) i v hv)
    rwa [← Nat.add_assoc] at this
  exact ⟨P, o, e, hP, by simpa using key 0 _ rfl, key 1 _ rfl⟩
theorem LT.wcell {w W : World} {s0 wl el : Sl} {xs : List S} {es : List E} {ps : List (Sl × Sl)} {rs : List Wr} (h : LT w W s0 wl el xs es ps rs) (j : Nat) (hj : j ≤ rs.length) (e : E) (he : e = gE (es ++ [mkE]) j) : ∃ P o, wl.p = some ⟨P, o, none⟩ ∧ P < W.heap.size ∧ (W.cell? ⟨P, o + j * 6, none⟩ = some (.int .i64 e.n) ∧ W.cell? ⟨P, o + j * 6 + 1, none⟩ = some (.int .i64 e.c) ∧ W.cell? ⟨P, o + j * 6 + 2, none⟩ = some (.string e.k) ∧ W.cell? ⟨P, o + j * 6 + 3, none⟩ = some (.bool e.d) ∧ W.cell? ⟨P, o + j * 6 + 4, none⟩ = some (.slice e.v.p e.v.n e.v.c) ∧ W.cell? ⟨P, o + j * 6 + 5, none⟩ = some (.slice e.x.p e.x.n e.x.c)) := by
  have hp := h.eq.1
  obtain ⟨P, o, e0, hP, hc⟩ := h.fw.rd (by rw [flatE_len]; simp)
  have key : ∀ i v, (E.cs e)[i]? = some v → W.cell? ⟨P, o + j * 6 + i, none⟩ = some v := fun i v hv => by
    rw [he] at hv
    have := hc (j * 6 + i) v (flatE_get (es ++ [mkE]) j (by simp; omega) i v hv)
    rwa [← Nat.add_assoc] at this
  exact ⟨P, o, e0, hP, by simpa using key 0 _ rfl, key 1 _ rfl, key 2 _ rfl, key 3 _ rfl, key 4 _ rfl, key 5 _ rfl⟩
set_option maxHeartbeats 16000000 in
set_option maxRecDepth 100000 in
theorem wholes_ok (wA w : World) (s0 wl el : Sl) (xs : List S) (es : List E) (ps : List (Sl × Sl)) (rs : List Wr) (h : LT wA w s0 wl el xs es ps rs) (m : MI) (es0 : List E) (hm : RMI w m xs es0 rs) : Calls Tryz.prog 17 #[.agg #[.slice s0.p s0.n s0.c, .slice wl.p wl.n wl.c, .slice el.p el.n el.c], .agg #[.int .i64 m.kind, .int .i64 m.frm, .int .i64 m.dst, .int .i64 m.call, .int .i64 m.rng, .int .i64 m.own, .string m.key, .int .i64 m.dn, .int .i64 m.dc, .slice m.set.p m.set.n m.set.c, .slice m.ws.p m.ws.n m.ws.c]] w fun a w' => a = .returned (.bool true) ∧ Apart [] w w' := by
  have HL := hid h
  have HM := hid hm
  have hlim := h.lim
  have hwn := h.wn
  have heq := h.eq
  have hrl := hm.ws.rl
  have hsl := hm.set.len
  obtain ⟨K, HK⟩ : ∃ K, Hid (K = w.heap.size) := ⟨_, rfl⟩
  obtain ⟨M, HMn⟩ : ∃ M, Hid (M = w.heap.size + 1) := ⟨_, rfl⟩
  obtain ⟨w0, hw0⟩ : ∃ w0, w0 = w.alloc (.cells #[.slice s0.p s0.n s0.c, .slice wl.p wl.n wl.c, .slice el.p el.n el.c] 53) := ⟨_, rfl⟩
  obtain ⟨w1, hw1⟩ : ∃ w1, w1 = w0.alloc (.cells #[.int .i64 m.kind, .int .i64 m.frm, .int .i64 m.dst, .int .i64 m.call, .int .i64 m.rng, .int .i64 m.own, .string m.key, .int .i64 m.dn, .int .i64 m.dc, .slice m.set.p m.set.n m.set.c, .slice m.ws.p m.ws.n m.ws.c] 29) := ⟨_, rfl⟩
  have hs0 : w0.heap.size = w.heap.size + 1 := by rw [hw0]; simp
  have HM2 : Hid (M = w0.heap.size) := by unfold Hid; rw [HMn.out, hs0]
  have HA0 : Hid (Apart [] w w0) := by unfold Hid; rw [hw0]; exact (Apart.refl [] w).alloc _
  have HA1 : Hid (Apart [] w0 w1) := by unfold Hid; rw [hw1]; exact (Apart.refl [] w0).alloc _
  have HK1 : Hid (w1.heap[K]? = some (.cells #[.slice s0.p s0.n s0.c, .slice wl.p wl.n wl.c, .slice el.p el.n el.c] 53 (0, 0))) := by
    have : w0.heap[K]? = some (.cells #[.slice s0.p s0.n s0.c, .slice wl.p wl.n wl.c, .slice el.p el.n el.c] 53 (0, 0)) := by rw [HK.out, hw0]; exact heap_alloc_new w _
    exact (HA1.out.block _ (lt_of_heap this) (by simp)).trans this
  have HM1 : Hid (w1.heap[M]? = some (.cells #[.int .i64 m.kind, .int .i64 m.frm, .int .i64 m.dst, .int .i64 m.call, .int .i64 m.rng, .int .i64 m.own, .string m.key, .int .i64 m.dn, .int .i64 m.dc, .slice m.set.p m.set.n m.set.c, .slice m.ws.p m.ws.n m.ws.c] 29 (0, 0))) := by unfold Hid; rw [HM2.out, hw1]; exact heap_alloc_new w0 _
  have HA01 : Hid (Apart [] w w1) := HA0.out.trans HA1.out
  have hadd : IntKind.i64.wrap ((m.ws.n : Int) + 1) = ((wl.n : Nat) : Int) := by rw [IntKind.wrap_i64]; omega
  have HLW := hid (show m.ws.n < wl.n by omega)
  have HWL := hid (show m.ws.n ≤ 2000000 by omega)
  have HEN := hid (show el.n = rs.length by rw [h.en]; omega)
  have HRL := hid hrl
  have HSL := hid hsl
  clear h hm hs0 hwn heq hrl hsl hlim
  go_enter Tryz.func17, Tryz.ntmps17
  go_upto_region 1 with fail
  rw [← hw0, ← hw1, ← HMn.out, ← HK.out]
  clear hw0 hw1
  obtain ⟨PW, ow, hpw, hPWl, m0, m1, m2, m3, m4, m5⟩ := (HL.out.kept HA01.out).wcell m.ws.n (by rw [← HRL.out]; exact Nat.le_refl _) mkE (by
    have h1 := HL.out.eq.1
    unfold gE
    rw [List.getD_eq_getElem?_getD, List.getElem?_append_right (by rw [h1, HRL.out]; exact Nat.le_refl _), h1, HRL.out, Nat.sub_self]
    rfl)
  have HMK : Hid (w1.cell? ⟨PW, ow + m.ws.n * 6 + 2, none⟩ = some (.string ⟨#[109, 97, 114, 107]⟩)) := m2
  have HPW := hid hPWl
  clear m0 m1 m2 m3 m4 m5 hPWl
  obtain ⟨wp, wn, wc⟩ := wl
  simp only at hpw hadd HLW HK1 HL ⊢
  subst hpw
  have hlw : m.ws.n < wn := HLW.out
  have hd0 : Apart [] w1 w1.drew := (Apart.refl [] w1).drew
  refine wp_region_held_drew (S := fun W => Apart [] w1 W) (by kernel_rfl) hd0 (fun hHeld => ?_)
  generalize w1.drew = wd at *
  clear hd0
  refine tkn 0 7 (.pointer (some ⟨K, 0, none⟩)) rfl ?_ ?_
  · intro W hSW; go_simp
  refine tkn 1 8 (.slice s0.p s0.n s0.c) rfl ?_ ?_
  · intro W hSW; obtain ⟨k0, k1, k2⟩ := row3v ((hSW.block _ (lt_of_heap HK1.out) (by simp)).trans HK1.out); go_simp
  refine tkn 2 9 (.pointer (some ⟨M, 9, none⟩)) rfl ?_ ?_
  · intro W hSW; go_simp
  refine tkn 3 10 (.slice m.set.p m.set.n m.set.c) rfl ?_ ?_
  · intro W hSW; obtain ⟨⟨c0, c1, c2, c3, c4, c5⟩, c6, c7, c8, c9, c10⟩ := row11 ((hSW.block _ (lt_of_heap HM1.out) (by simp)).trans HM1.out); go_simp
  refine wpAnyH_ready (rs := [4]) (by kernel_rfl) (by simp) ?_
  refine AllReadyH.cons rfl (fun KK hKK => ?_) AllReadyH.nil
  go_simp
  refine (spansL_ok (c := m.set.c) (HM.out.set.kept0 (HA01.out.trans hHeld)) (by have := HM.out.sl; omega)).mono ?_
  rintro _ w2 ⟨t2, rfl, hs2⟩
  have hS2 : Apart [] w1 w2 := hHeld.trans hs2.nw.ap
  have HS2 := hid hs2
  clear hs2
  try dsimp only
  refine hKK.out _ _ hS2 (fun hx => ?_)
  clear hKK KK hx
  try simp only [Act.put, List.setIfInBounds_toArray, List.set_cons_zero, List.set_cons_succ]
  have HCS : Hid (Calls Tryz.prog 23 #[.slice s0.p s0.n s0.c, .slice t2.p t2.n t2.c] w2 fun r w' => r = .returned (.bool true) ∧ Apart [] w2 w') := sameSet_ok ((HL.out.fs.kept (HA01.out.trans hS2)).l (by have := HL.out.lim.2; rw [List.length_append]; simp; omega)) (HS2.out.l (by have := HL.out.lim.2; rw [List.length_append]; simp; omega)) true (by simp)
  refine wpAnyH_ready (rs := [5]) (by kernel_rfl) (by simp) ?_
  refine AllReadyH.cons rfl (fun KK hKK => ?_) AllReadyH.nil
  go_simp
  refine (HCS.out).mono ?_
  rintro _ w3 ⟨rfl, ha3⟩
  have hS3 : Apart [] w1 w3 := hS2.trans ha3
  clear ha3
  try dsimp only
  refine hKK.out _ _ hS3 (fun hx => ?_)
  clear hKK KK hx
  try simp only [Act.put, List.setIfInBounds_toArray, List.set_cons_zero, List.set_cons_succ]
  refine tkn 6 13 (.bool false) rfl ?_ ?_
  · intro W hSW; go_simp
  refine tkn 7 14 (.bool false) rfl ?_ ?_
  · intro W hSW; go_simp
  refine tkn 8 15 (.pointer (some ⟨K, 1, none⟩)) rfl ?_ ?_
  · intro W hSW; go_simp
  refine tkn 9 16 (.slice (some ⟨PW, ow, none⟩) wn wc) rfl ?_ ?_
  · intro W hSW; obtain ⟨k0, k1, k2⟩ := row3v ((hSW.block _ (lt_of_heap HK1.out) (by simp)).trans HK1.out); go_simp
  refine tkn 10 17 (.int .i64 (wn : Nat)) rfl ?_ ?_
  · intro W hSW; go_simp
  refine tkn 11 18 (.pointer (some ⟨M, 10, none⟩)) rfl ?_ ?_
  · intro W hSW; go_simp
  refine tkn 12 19 (.slice m.ws.p m.ws.n m.ws.c) rfl ?_ ?_
  · intro W hSW; obtain ⟨⟨c0, c1, c2, c3, c4, c5⟩, c6, c7, c8, c9, c10⟩ := row11 ((hSW.block _ (lt_of_heap HM1.out) (by simp)).trans HM1.out); go_simp
  refine tkn 13 20 (.int .i64 (m.ws.n : Nat)) rfl ?_ ?_
  · intro W hSW; go_simp
  refine tkn 14 21 (.int .i64 (wn : Nat)) rfl ?_ ?_
  · intro W hSW; go_simp
  refine tkn 15 22 (.bool false) rfl ?_ ?_
  · intro W hSW; go_simp
  refine tkn 16 23 (.bool false) rfl ?_ ?_
  · intro W hSW; go_simp
  refine tkn 17 24 (.bool false) rfl ?_ ?_
  · intro W hSW; go_simp
  refine tkn 18 25 (.pointer (some ⟨K, 1, none⟩)) rfl ?_ ?_
  · intro W hSW; go_simp
  refine tkn 19 26 (.slice (some ⟨PW, ow, none⟩) wn wc) rfl ?_ ?_
  · intro W hSW; obtain ⟨k0, k1, k2⟩ := row3v ((hSW.block _ (lt_of_heap HK1.out) (by simp)).trans HK1.out); go_simp
  refine tkn 20 27 (.pointer (some ⟨M, 10, none⟩)) rfl ?_ ?_
  · intro W hSW; go_simp
  refine tkn 21 28 (.slice m.ws.p m.ws.n m.ws.c) rfl ?_ ?_
  · intro W hSW; obtain ⟨⟨c0, c1, c2, c3, c4, c5⟩, c6, c7, c8, c9, c10⟩ := row11 ((hSW.block _ (lt_of_heap HM1.out) (by simp)).trans HM1.out); go_simp
  refine tkn 22 29 (.int .i64 (m.ws.n : Nat)) rfl ?_ ?_
  · intro W hSW; go_simp
  refine tkn 23 30 (.pointer (some ⟨PW, ow + m.ws.n * 6, none⟩)) rfl ?_ ?_
  · intro W hSW; go_simp
  refine tkn 24 31 (.pointer (some ⟨PW, ow + m.ws.n * 6 + 2, none⟩)) rfl ?_ ?_
  · intro W hSW; go_simp
  refine tkn 25 32 (.string ⟨#[109, 97, 114, 107]⟩) rfl ?_ ?_
  · intro W hSW; have p2 := (hSW.cell (p := ⟨PW, ow + m.ws.n * 6 + 2, none⟩) HPW.out (by simp)).trans HMK.out; go_simp
  refine tkn 26 33 (.bool false) rfl ?_ ?_
  · intro W hSW; go_simp
  refine tkn 27 34 (.bool false) rfl ?_ ?_
  · intro W hSW; go_simp
  refine wpAnyH_done (by kernel_rfl) ?_ _
  have HA3 : Hid (Apart [] w1 w3) := hS3
  clear hS3 hS2 hHeld
  go_wp2_with fail
  go_loopw [5, 6] (fun a b wt => ∃ i : Nat, a = .int .i64 (i : Nat) ∧ i ≤ m.ws.n ∧ Apart [] w1 wt) (fun a _ _ => m.ws.n - (intOf a).toNat)
  case atStart => exact ⟨0, rfl, Nat.zero_le _, HA3.out⟩
  case round =>
    obtain ⟨i, rfl, hi, hap⟩ := hrel
    have HAr := hid hap
    have HKr := hid ((hap.block _ (lt_of_heap HK1.out) (by simp)).trans HK1.out)
    have HMr := hid ((hap.block _ (lt_of_heap HM1.out) (by simp)).trans HM1.out)
    clear hap
    obtain ⟨⟨c0, c1, c2, c3, c4, c5⟩, c6, c7, c8, c9, c10⟩ := row11 HMr.out
    have hwl2 := HWL.out
    by_cases hlt : i < m.ws.n
    · have hlti : ((i : Nat) : Int) < (m.ws.n : Int) := by omega
      have hir : i < rs.length := by rw [HRL.out]; exact hlt
      have HLr := hid (HL.out.kept (HA01.out.trans HAr.out))
      have HMM := hid (HM.out.kept0 (HA01.out.trans HAr.out))
      obtain ⟨PE, oe, hpe, hPEl, q0, q1⟩ := HLr.out.ecell i hir
      obtain ⟨e1, He1⟩ : ∃ e1, Hid (e1 = gE (es ++ [mkE]) i) := ⟨_, rfl⟩
      have HE1 : Hid (e1 = gE es i) := by
        have h1 := HL.out.eq.1
        unfold Hid
        rw [He1.out]
        unfold gE
        rw [List.getD_eq_getElem?_getD, List.getD_eq_getElem?_getD, List.getElem?_append_left (by omega)]
      obtain ⟨PW2, ow2, hpw2, hPW2l, m0, m1, m2, m3, m4, m5⟩ := HLr.out.wcell i (by omega) e1 He1.out
      simp only [Option.some.injEq, Addr.mk.injEq, and_true] at hpw2
      obtain ⟨e2, He2⟩ : ∃ e2, Hid (e2 = gE es0 i) := ⟨_, rfl⟩
      obtain ⟨PX, ox, hpx, hPXl, n0, n1, n2, n3, n4, n5⟩ := HMM.out.ws.cells i hlt
      rw [← He2.out] at n0 n1 n2 n3 n4 n5
      obtain ⟨p1, Hp1⟩ : ∃ p1, Hid (p1 = (gP ps i).1) := ⟨_, rfl⟩
      obtain ⟨p2, Hp2⟩ : ∃ p2, Hid (p2 = (gP ps i).2) := ⟨_, rfl⟩
      rw [← Hp1.out] at q0
      rw [← Hp2.out] at q1
      have hEn : i < el.n := by rw [HEN.out]; exact hir
      have hlw2 : i < wn := by omega
      have HLN : Hid (Ln wA wr e1 (gR rs i) p1 p2) := by unfold Hid; rw [HE1.out, Hp1.out, Hp2.out]; exact HLr.out.ln i hir
      have HRD2 : Hid (Reads wr e2 (gR rs i)) := by unfold Hid; rw [He2.out]; exact HMM.out.ws.each i hlt
      have HQ := hid (And.intro q0 q1)
      have HN := hid (And.intro n0 (And.intro n1 (And.intro n2 (And.intro n3 (And.intro n4 n5)))))
      have HW := hid (And.intro m0 (And.intro m1 (And.intro m2 (And.intro m3 (And.intro m4 m5)))))
      have HPE := hid hPEl
      have HPX := hid hPXl
      have HPW2 := hid hPW2l
      clear q0 q1 n0 n1 n2 n3 n4 n5 m0 m1 m2 m3 m4 m5 hPEl hPXl hPW2l
      obtain ⟨ep, en, ec⟩ := el
      obtain ⟨mk, mf, mt, mc, mr, mw, mkey, mdn, mdc, mset, ⟨xp, xn, xc⟩⟩ := m
      simp only at *
      subst hpe hpx
      obtain ⟨rfl, rfl⟩ := hpw2
      go_upto_region 6 with fail
      clear c0 c1 c2 c3 c4 c5 c6 c7 c8 c9 c10
      have hd0 : Apart [] wr wr.drew := (Apart.refl [] wr).drew
      refine wp_region_held_drew (S := fun W => Apart [] wr W) (by kernel_rfl) hd0 (fun hHeld => ?_)
      generalize wr.drew = we at *
      clear hd0
      refine tkn 0 42 (.pointer (some ⟨K, 2, none⟩)) rfl ?_ ?_
      · intro W hSW; go_simp
      refine tkn 1 43 (.slice (some ⟨PE, oe, none⟩) en ec) rfl ?_ ?_
      · intro W hSW; obtain ⟨k0, k1, k2⟩ := row3v ((hSW.block _ (lt_of_heap HKr.out) (by simp)).trans HKr.out); go_simp
      refine tkn 2 44 (.int .i64 (i : Nat)) rfl ?_ ?_
      · intro W hSW; go_simp
      refine tkn 3 45 (.pointer (some ⟨PE, oe + i * 2, none⟩)) rfl ?_ ?_
      · intro W hSW; go_simp
      refine tkn 4 46 (.agg #[.slice p1.p p1.n p1.c, .slice p2.p p2.n p2.c]) rfl ?_ ?_
      · intro W hSW; have q0 := (hSW.cell (p := ⟨PE, oe + i * 2, none⟩) HPE.out (by simp)).trans HQ.out.1; have q1 := (hSW.cell (p := ⟨PE, oe + i * 2 + 1, none⟩) HPE.out (by simp)).trans HQ.out.2; go_simp
      refine tkn 5 47 (.pointer (some ⟨M, 10, none⟩)) rfl ?_ ?_
      · intro W hSW; go_simp
      refine tkn 6 48 (.slice (some ⟨PX, ox, none⟩) xn xc) rfl ?_ ?_
      · intro W hSW; obtain ⟨⟨c0, c1, c2, c3, c4, c5⟩, c6, c7, c8, c9, c10⟩ := row11 ((hSW.block _ (lt_of_heap HMr.out) (by simp)).trans HMr.out); go_simp
      refine tkn 7 49 (.int .i64 (i : Nat)) rfl ?_ ?_
      · intro W hSW; go_simp
      refine tkn 8 50 (.pointer (some ⟨PX, ox + i * 6, none⟩)) rfl ?_ ?_
      · intro W hSW; go_simp
      refine tkn 9 51 (.agg #[.int .i64 e2.n, .int .i64 e2.c, .string e2.k, .bool e2.d, .slice e2.v.p e2.v.n e2.v.c, .slice e2.x.p e2.x.n e2.x.c]) rfl ?_ ?_
      · intro W hSW; have n0 := (hSW.cell (p := ⟨PX, ox + i * 6, none⟩) HPX.out (by simp)).trans HN.out.1; have n1 := (hSW.cell (p := ⟨PX, ox + i * 6 + 1, none⟩) HPX.out (by simp)).trans HN.out.2.1; have n2 := (hSW.cell (p := ⟨PX, ox + i * 6 + 2, none⟩) HPX.out (by simp)).trans HN.out.2.2.1; have n3 := (hSW.cell (p := ⟨PX, ox + i * 6 + 3, none⟩) HPX.out (by simp)).trans HN.out.2.2.2.1; have n4 := (hSW.cell (p := ⟨PX, ox + i * 6 + 4, none⟩) HPX.out (by simp)).trans HN.out.2.2.2.2.1; have n5 := (hSW.cell (p := ⟨PX, ox + i * 6 + 5, none⟩) HPX.out (by simp)).trans HN.out.2.2.2.2.2; go_simp
      refine wpAnyH_ready (rs := [10]) (by kernel_rfl) (by simp) ?_
      refine AllReadyH.cons rfl (fun KK hKK => ?_) AllReadyH.nil
      go_simp
      refine (whole_ok (wB := wA) p1 p2 e2 (gR rs i) (HRD2.out.kept0 hHeld) (HLN.out.bv.kept hHeld) (HLN.out.bx.kept hHeld)).mono ?_
      rintro _ w5 ⟨rfl, ha5⟩
      have hS5 : Apart [] wr w5 := hHeld.trans ha5
      clear ha5
      try dsimp only
      refine hKK.out _ _ hS5 (fun hx => ?_)
      clear hKK KK hx
      try simp only [Act.put, List.setIfInBounds_toArray, List.set_cons_zero, List.set_cons_succ]
      refine tkn 11 6 (.bool true) rfl ?_ ?_
      · intro W hSW; go_simp
      refine wpAnyH_done (by kernel_rfl) ?_ _
      have HPWr : Hid (PW < wr.heap.size) := Nat.lt_of_lt_of_le HPW.out HAr.out.size
      clear hHeld
      go_upto_region 7 with fail
      have hd1 : Apart [] wr w5.drew := hS5.drew
      refine wp_region_held_drew (S := fun W => Apart [] wr W) (by kernel_rfl) hd1 (fun hHeld => ?_)
      generalize w5.drew = w6 at *
      clear hd1
      refine tkn 0 53 (.bool true) rfl ?_ ?_
      · intro W hSW; go_simp
      refine tkn 1 54 (.bool false) rfl ?_ ?_
      · intro W hSW; go_simp
      refine tkn 2 55 (.bool false) rfl ?_ ?_
      · intro W hSW; go_simp
      refine tkn 3 56 (.pointer (some ⟨K, 1, none⟩)) rfl ?_ ?_
      · intro W hSW; go_simp
      refine tkn 4 57 (.slice (some ⟨PW, ow, none⟩) wn wc) rfl ?_ ?_
      · intro W hSW; obtain ⟨k0, k1, k2⟩ := row3v ((hSW.block _ (lt_of_heap HKr.out) (by simp)).trans HKr.out); go_simp
      refine tkn 5 58 (.int .i64 (i : Nat)) rfl ?_ ?_
      · intro W hSW; go_simp
      refine tkn 6 59 (.pointer (some ⟨PW, ow + i * 6, none⟩)) rfl ?_ ?_
      · intro W hSW; go_simp
      refine tkn 7 60 (.agg #[.int .i64 e1.n, .int .i64 e1.c, .string e1.k, .bool e1.d, .slice e1.v.p e1.v.n e1.v.c, .slice e1.x.p e1.x.n e1.x.c]) rfl ?_ ?_
      · intro W hSW; have m0 := (hSW.cell (p := ⟨PW, ow + i * 6, none⟩) HPWr.out (by simp)).trans HW.out.1; have m1 := (hSW.cell (p := ⟨PW, ow + i * 6 + 1, none⟩) HPWr.out (by simp)).trans HW.out.2.1; have m2 := (hSW.cell (p := ⟨PW, ow + i * 6 + 2, none⟩) HPWr.out (by simp)).trans HW.out.2.2.1; have m3 := (hSW.cell (p := ⟨PW, ow + i * 6 + 3, none⟩) HPWr.out (by simp)).trans HW.out.2.2.2.1; have m4 := (hSW.cell (p := ⟨PW, ow + i * 6 + 4, none⟩) HPWr.out (by simp)).trans HW.out.2.2.2.2.1; have m5 := (hSW.cell (p := ⟨PW, ow + i * 6 + 5, none⟩) HPWr.out (by simp)).trans HW.out.2.2.2.2.2; go_simp
      refine tkn 8 61 (.pointer (some ⟨M, 10, none⟩)) rfl ?_ ?_
      · intro W hSW; go_simp
      refine tkn 9 62 (.slice (some ⟨PX, ox, none⟩) xn xc) rfl ?_ ?_
      · intro W hSW; obtain ⟨⟨c0, c1, c2, c3, c4, c5⟩, c6, c7, c8, c9, c10⟩ := row11 ((hSW.block _ (lt_of_heap HMr.out) (by simp)).trans HMr.out); go_simp
      refine tkn 10 63 (.int .i64 (i : Nat)) rfl ?_ ?_
      · intro W hSW; go_simp
      refine tkn 11 64 (.pointer (some ⟨PX, ox + i * 6, none⟩)) rfl ?_ ?_
      · intro W hSW; go_simp
      refine tkn 12 65 (.agg #[.int .i64 e2.n, .int .i64 e2.c, .string e2.k, .bool e2.d, .slice e2.v.p e2.v.n e2.v.c, .slice e2.x.p e2.x.n e2.x.c]) rfl ?_ ?_
      · intro W hSW; have n0 := (hSW.cell (p := ⟨PX, ox + i * 6, none⟩) HPX.out (by simp)).trans HN.out.1; have n1 := (hSW.cell (p := ⟨PX, ox + i * 6 + 1, none⟩) HPX.out (by simp)).trans HN.out.2.1; have n2 := (hSW.cell (p := ⟨PX, ox + i * 6 + 2, none⟩) HPX.out (by simp)).trans HN.out.2.2.1; have n3 := (hSW.cell (p := ⟨PX, ox + i * 6 + 3, none⟩) HPX.out (by simp)).trans HN.out.2.2.2.1; have n4 := (hSW.cell (p := ⟨PX, ox + i * 6 + 4, none⟩) HPX.out (by simp)).trans HN.out.2.2.2.2.1; have n5 := (hSW.cell (p := ⟨PX, ox + i * 6 + 5, none⟩) HPX.out (by simp)).trans HN.out.2.2.2.2.2; go_simp
      refine wpAnyH_ready (rs := [13]) (by kernel_rfl) (by simp) ?_
      refine AllReadyH.cons rfl (fun KK hKK => ?_) AllReadyH.nil
      go_simp
      refine (sameWrite_ok e1 e2 (gR rs i) (gR rs i) (HLN.out.reads.kept0 hHeld) (HRD2.out.kept0 hHeld) true (by simp)).mono ?_
      rintro _ w7 ⟨rfl, ha7⟩
      have hS7 : Apart [] wr w7 := hHeld.trans ha7
      clear ha7
      try dsimp only
      refine hKK.out _ _ hS7 (fun hx => ?_)
      clear hKK KK hx
      try simp only [Act.put, List.setIfInBounds_toArray, List.set_cons_zero, List.set_cons_succ]
      refine tkn 14 67 (.bool false) rfl ?_ ?_
      · intro W hSW; go_simp
      refine tkn 15 68 (.bool false) rfl ?_ ?_
      · intro W hSW; go_simp
      refine wpAnyH_done (by kernel_rfl) ?_ _
      have HA7 : Hid (Apart [] w1 w7) := HAr.out.trans hS7
      clear hS7 hHeld hS5
      go_wp2_with fail
      go_roundw
      case rel => exact ⟨i + 1, by go_num, by omega, HA7.out⟩
      case measure => simp [intOf]; omega
    · have hlti : ¬ ((i : Nat) : Int) < (m.ws.n : Int) := by omega
      go_wp2_with fail
      go_ret
      exact ⟨rfl, HA01.out.trans HAr.out⟩
end Go.Proofs.YtddffdcjhleejaaGreat.ds
