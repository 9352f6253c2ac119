import Derived.Test.YtddffdcjhleejaaGreatG1
import Derived.Test.YtddffdcjhleejaaGreatG36
namespace Go.Proofs.YtddffdcjhleejaaGreat.ds
open Go.ChangeShapes Go.WideShapes Go.ChangeAt Go.RowKit Go.Sort
set_option linter.unusedVariables false
set_option linter.unusedSimpArgs false
/-- the lists of a message that is lent -/
structure LT (w W : World) (s0 wl el : Sl) (xs : List S) (es : List E) (ps : List (Sl × Sl)) (rs : List Wr) : Prop where
  fs : Ss w W s0 (xs ++ [mkS])
  fw : Nw w W 37 6 wl (flatE (es ++ [mkE]))
  wn : wl.n = es.length + 1
  fe : Nw w W 70 2 el (flo ps)
  en : el.n = ps.length
  eq : es.length = rs.length ∧ ps.length = rs.length
  ln : ∀ j, j < rs.length → Ln w W (gE es j) (gR rs j) (gP ps j).1 (gP ps j).2
  lim : rs.length ≤ 2000000 ∧ xs.length ≤ 2000000
theorem LT.keepT {w W W' : World} {s0 wl el : Sl} {xs : List S} {es : List E} {ps : List (Sl × Sl)} {rs : List Wr} {X : List Nat} (h : LT w W s0 wl el xs es ps rs) (a : Apart X W W') (ap : Apart [] w W') (hX : ∀ k ∈ X, ∀ cur, ∀ t, t = 5 ∨ t = 48 ∨ t = 37 ∨ t = 70 → W.heap[k]? ≠ some (Obj.cells cur t (0, 0))) : LT w W' s0 wl el xs es ps rs :=
  { h with
    fs := h.fs.keepT a ap (fun k hk cur => hX k hk cur 48 (by simp))
    fw := h.fw.keepT a ap (fun k hk cur => hX k hk cur 37 (by simp))
    fe := h.fe.keepT a ap (fun k hk cur => hX k hk cur 70 (by simp))
    ln := fun j hj => (h.ln j hj).keepT a ap (fun k hk cur => ⟨hX k hk cur 5 (by simp), hX k hk cur 48 (by simp)⟩) }
theorem LT.kept {w W W' : World} {s0 wl el : Sl} {xs : List S} {es : List E} {ps : List (Sl × Sl)} {rs : List Wr} (h : LT w W s0 wl el xs es ps rs) (a : Apart [] W W') : LT w W' s0 wl el xs es ps rs := h.keepT a (h.fs.nw.ap.trans a) (by simp)
theorem LT.rmi {w W : World} {s0 wl el : Sl} {xs : List S} {es : List E} {ps : List (Sl × Sl)} {rs : List Wr} (h : LT w W s0 wl el xs es ps rs) (m : MI) (hs : m.set = ⟨s0.p, xs.length, s0.c⟩) (hw : m.ws = ⟨wl.p, rs.length, wl.c⟩) : RMI W m xs es rs := by
  have e1 : m.set.p = s0.p ∧ m.set.n = xs.length := by rw [hs]; exact ⟨rfl, rfl⟩
  have e2 : m.ws.p = wl.p ∧ m.ws.n = rs.length := by rw [hw]; exact ⟨rfl, rfl⟩
  have l1 := h.lim
  refine ⟨?_, by rw [e1.2]; exact l1.2, ?_, ⟨?_, by rw [e2.2]; exact h.eq.1, by rw [e2.2], fun j hj => (h.ln j (by rw [e2.2] at hj; exact hj)).reads, by rw [e2.2]; exact l1.1, ?_⟩⟩
  · rw [e1.1, e1.2]
    have := h.fs.nw.rd
    rw [flat_snoc] at this
    exact ⟨Sp.of_rd this.pre, rfl, by omega, fun y hy => h.fs.fit y (List.mem_append_left _ hy)⟩
  · intro hp
    rw [e1.1] at hp
    have := (h.fs.nw.ok hp).1
    have := h.fs.len
    simp at this
    omega
  · rw [e2.1]
    have := h.fw.rd
    rw [flatE_snoc] at this
    exact this.pre
  · intro hp
    rw [e2.1] at hp
    have := (h.fw.ok hp).1
    have := h.wn
    omega
structure LendsP (w : World) (m : MI) (xs : List S) (rs : List Wr) (a : Ending) (w' : World) : Prop where
  ex : ∃ (s0 wl el : Sl) (es : List E) (ps : List (Sl × Sl)), a = .returned (.tuple #[.agg (MI.cs { m with set := ⟨s0.p, xs.length, s0.c⟩, ws := ⟨wl.p, rs.length, wl.c⟩ }), .agg #[.slice s0.p s0.n s0.c, .slice wl.p wl.n wl.c, .slice el.p el.n el.c]]) ∧ LT w w' s0 wl el xs es ps rs
theorem crowI {w : World} {g : Nat} {t : TypeId} {cs : Array Value} (h : w.heap[g]? = some (.cells cs t (0, 0))) (i : Nat) (v : Value) (hv : cs[i]? = some v) : w.cell? ⟨g, i, none⟩ = some v := by
  rw [cell_of_row _ _ _ _ _ _ h]; exact hv
set_option maxHeartbeats 32000000 in
set_option maxRecDepth 100000 in
theorem lends_ok (w : World) (m : MI) (xs : List S) (es0 : List E) (rs : List Wr) (hm : RMI w m xs es0 rs) : Calls Tryz.prog 15 #[.agg m.cs] w fun a w' => LendsP w m xs rs a w' := by
  obtain ⟨mkind, mfrm, mdst, mcall, mrng, mown, mkey, mdn, mdc, mset, mws⟩ := m
  obtain ⟨hset, hsl, hso, hws⟩ := hm
  simp only at hset hsl hso hws
  have HSET := hid hset
  have HWS := hid hws
  have HXN := hid hset.len
  have HRN := hid hws.rl
  have hwl := hws.lim
  clear hset hws hso
  unfold MI.cs
  simp only
  obtain ⟨M, HM⟩ : ∃ M, Hid (M = w.heap.size) := ⟨_, rfl⟩
  obtain ⟨w1, hw1⟩ : ∃ w1, w1 = ((w.alloc (.cells #[.int .i64 mkind, .int .i64 mfrm, .int .i64 mdst, .int .i64 mcall, .int .i64 mrng, .int .i64 mown, .string mkey, .int .i64 mdn, .int .i64 mdc, .slice mset.p mset.n mset.c, .slice mws.p mws.n mws.c] 29)).alloc (.cells #[.int .i64 0, .int .i64 0, .int .i64 0, .int .i64 0, .int .i64 0, .int .i64 0, .string ⟨#[]⟩, .int .i64 0, .int .i64 0, .slice none 0 0, .slice none 0 0] 29)).alloc (.cells #[.slice none 0 0, .slice none 0 0, .slice none 0 0] 53) := ⟨_, rfl⟩
  have HA1 : Hid (Apart [] w w1) := by unfold Hid; rw [hw1]; exact (((Apart.refl [] w).alloc _).alloc _).alloc _
  have HM1 : Hid (w1.heap[M]? = some (.cells #[.int .i64 mkind, .int .i64 mfrm, .int .i64 mdst, .int .i64 mcall, .int .i64 mrng, .int .i64 mown, .string mkey, .int .i64 mdn, .int .i64 mdc, .slice mset.p mset.n mset.c, .slice mws.p mws.n mws.c] 29 (0, 0))) := by
    unfold Hid
    rw [hw1, HM.out]
    exact ((((Apart.refl [] (w.alloc (.cells #[.int .i64 mkind, .int .i64 mfrm, .int .i64 mdst, .int .i64 mcall, .int .i64 mrng, .int .i64 mown, .string mkey, .int .i64 mdn, .int .i64 mdc, .slice mset.p mset.n mset.c, .slice mws.p mws.n mws.c] 29))).alloc _).alloc _).block _ (by simp) (by simp)).trans (heap_alloc_new w _)
  have HD1 : Hid (w1.heap[M + 1]? = some (.cells #[.int .i64 0, .int .i64 0, .int .i64 0, .int .i64 0, .int .i64 0, .int .i64 0, .string ⟨#[]⟩, .int .i64 0, .int .i64 0, .slice none 0 0, .slice none 0 0] 29 (0, 0))) := by
    unfold Hid
    rw [hw1, HM.out]
    have := heap_alloc_new (w.alloc (.cells #[.int .i64 mkind, .int .i64 mfrm, .int .i64 mdst, .int .i64 mcall, .int .i64 mrng, .int .i64 mown, .string mkey, .int .i64 mdn, .int .i64 mdc, .slice mset.p mset.n mset.c, .slice mws.p mws.n mws.c] 29)) (.cells #[.int .i64 0, .int .i64 0, .int .i64 0, .int .i64 0, .int .i64 0, .int .i64 0, .string ⟨#[]⟩, .int .i64 0, .int .i64 0, .slice none 0 0, .slice none 0 0] 29)
    refine (((Apart.refl [] ((w.alloc (.cells #[.int .i64 mkind, .int .i64 mfrm, .int .i64 mdst, .int .i64 mcall, .int .i64 mrng, .int .i64 mown, .string mkey, .int .i64 mdn, .int .i64 mdc, .slice mset.p mset.n mset.c, .slice mws.p mws.n mws.c] 29)).alloc (.cells #[.int .i64 0, .int .i64 0, .int .i64 0, .int .i64 0, .int .i64 0, .int .i64 0, .string ⟨#[]⟩, .int .i64 0, .int .i64 0, .slice none 0 0, .slice none 0 0] 29))).alloc _).block _ (by simp) (by simp)).trans ?_
    simpa using this
  have HF1 : Hid (w1.heap[M + 1 + 1]? = some (.cells #[.slice none 0 0, .slice none 0 0, .slice none 0 0] 53 (0, 0))) := by
    unfold Hid
    rw [hw1, HM.out]
    have := heap_alloc_new ((w.alloc (.cells #[.int .i64 mkind, .int .i64 mfrm, .int .i64 mdst, .int .i64 mcall, .int .i64 mrng, .int .i64 mown, .string mkey, .int .i64 mdn, .int .i64 mdc, .slice mset.p mset.n mset.c, .slice mws.p mws.n mws.c] 29)).alloc (.cells #[.int .i64 0, .int .i64 0, .int .i64 0, .int .i64 0, .int .i64 0, .int .i64 0, .string ⟨#[]⟩, .int .i64 0, .int .i64 0, .slice none 0 0, .slice none 0 0] 29)) (.cells #[.slice none 0 0, .slice none 0 0, .slice none 0 0] 53)
    simpa using this
  have z8 : w1.cell? ⟨M, 9, none⟩ = some (.slice mset.p mset.n mset.c) := crowI HM1.out 9 _ rfl
  go_enter Tryz.func15, Tryz.ntmps15
  go_upto_region 1 with fail
  rw [← hw1, ← HM.out]
  clear hw1
  go_wp2_with fail
  refine (spansL_ok (HSET.out.kept0 HA1.out) hsl).mono ?_
  rintro _ w2 ⟨s0, rfl, hs0⟩
  have HA2 : Hid (Apart [] w1 w2) := hs0.nw.ap
  have HS2 : Hid (Ss w w2 s0 (xs ++ [mkS])) := ⟨hs0.nw.from HA1.out, hs0.len, hs0.fit⟩
  clear hs0 z8
  try dsimp only
  obtain ⟨w3, hw3⟩ : ∃ w3, w3 = w2.alloc (.cells #[.slice s0.p s0.n s0.c, .slice none 0 0, .slice none 0 0] 53) := ⟨_, rfl⟩
  obtain ⟨B, HB⟩ : ∃ B, Hid (B = w2.heap.size) := ⟨_, rfl⟩
  have aa3 : Apart [] w2 w3 := by rw [hw3]; exact (Apart.refl [] w2).alloc _
  have HL3 : Hid (LS w w3 B s0 ⟨none, 0, 0⟩ ⟨none, 0, 0⟩ xs [] [] rs) := by
    have ap3 : Apart [] w w3 := (HA1.out.trans HA2.out).trans aa3
    refine ⟨by rw [HB.out, hw3]; exact heap_alloc_new w2 _, HS2.out.kept aa3, ⟨World.ownsRow_nil _ _ _ _, by simp [Sl.v, Value.ownBlock], ap3⟩, rfl, ⟨World.ownsRow_nil _ _ _ _, by simp [Sl.v, Value.ownBlock], ap3⟩, rfl, fun j hj => absurd hj (by simp), ap3, ?_⟩
    have h1 := lt_of_heap HF1.out
    have h2 := HA2.out.size
    rw [HB.out]
    rw [HM.out] at h1
    omega
  have HM3 : Hid (w3.heap[M]? = some (.cells #[.int .i64 mkind, .int .i64 mfrm, .int .i64 mdst, .int .i64 mcall, .int .i64 mrng, .int .i64 mown, .string mkey, .int .i64 mdn, .int .i64 mdc, .slice mset.p mset.n mset.c, .slice mws.p mws.n mws.c] 29 (0, 0))) := ((HA2.out.trans aa3).block _ (lt_of_heap HM1.out) (by simp)).trans HM1.out
  have HD3 : Hid (w3.heap[M + 1]? = some (.cells #[.int .i64 0, .int .i64 0, .int .i64 0, .int .i64 0, .int .i64 0, .int .i64 0, .string ⟨#[]⟩, .int .i64 0, .int .i64 0, .slice none 0 0, .slice none 0 0] 29 (0, 0))) := ((HA2.out.trans aa3).block _ (lt_of_heap HD1.out) (by simp)).trans HD1.out
  have HF3 : Hid (w3.heap[M + 1 + 1]? = some (.cells #[.slice none 0 0, .slice none 0 0, .slice none 0 0] 53 (0, 0))) := ((HA2.out.trans aa3).block _ (lt_of_heap HF1.out) (by simp)).trans HF1.out
  have HMB : Hid (M + 1 + 1 < B) := by unfold Hid; have := HL3.out.nb; rw [HM.out]; omega
  clear aa3
  go_upto_region 2 with fail
  rw [← hw3, ← HB.out]
  clear hw3
  go_wp2_with fail
  go_loopw [5, 6, 7] (fun a _ _ wt => ∃ (i : Nat) (wl el : Sl) (es : List E) (ps : List (Sl × Sl)), a = .int .i64 (i : Nat) ∧ i ≤ mws.n ∧ LS w wt B s0 wl el xs es ps rs ∧ es.length = i ∧ ps.length = i ∧ wt.heap[M]? = some (.cells #[.int .i64 mkind, .int .i64 mfrm, .int .i64 mdst, .int .i64 mcall, .int .i64 mrng, .int .i64 mown, .string mkey, .int .i64 mdn, .int .i64 mdc, .slice mset.p mset.n mset.c, .slice mws.p mws.n mws.c] 29 (0, 0)) ∧ wt.heap[M + 1]? = some (.cells #[.int .i64 0, .int .i64 0, .int .i64 0, .int .i64 0, .int .i64 0, .int .i64 0, .string ⟨#[]⟩, .int .i64 0, .int .i64 0, .slice none 0 0, .slice none 0 0] 29 (0, 0)) ∧ wt.heap[M + 1 + 1]? = some (.cells #[.slice none 0 0, .slice none 0 0, .slice none 0 0] 53 (0, 0))) (fun a _ _ _ => mws.n - (intOf a).toNat)
  case atStart => exact ⟨0, ⟨none, 0, 0⟩, ⟨none, 0, 0⟩, [], [], rfl, Nat.zero_le _, HL3.out, rfl, rfl, HM3.out, HD3.out, HF3.out⟩
  case round =>
    obtain ⟨i, wl, el, es, ps, rfl, hi, hL, hel, hpl, hMr, hDr, hFr⟩ := hrel
    have HL := hid hL
    have HEL := hid hel
    have HPL := hid hpl
    have HMr := hid hMr
    have HDr := hid hDr
    have HFr := hid hFr
    clear hL hel hpl hMr hDr hFr
    have z9 : wr.cell? ⟨M, 10, none⟩ = some (.slice mws.p mws.n mws.c) := crowI HMr.out 10 _ rfl
    by_cases hlt : i < mws.n
    · have hlti : ((i : Nat) : Int) < (mws.n : Int) := by omega
      have HW := hid (HWS.out.kept0 HL.out.ap)
      obtain ⟨P, o, hP, hPl, c0, c1, c2, c3, c4, c5⟩ := HW.out.cells i hlt
      have hrd := HW.out.each i hlt
      obtain ⟨e, He⟩ : ∃ e, Hid (e = gE es0 i) := ⟨_, rfl⟩
      rw [← He.out] at c0 c1 c2 c3 c4 c5 hrd
      have HC := hid (lendW_ok wr e (gR rs i) hrd)
      clear hrd
      generalize mws.p = mp at *
      subst hP
      go_wp2_with fail
      refine HC.out.mono ?_
      rintro _ w4 ⟨f, sv, sx, rfl, hln⟩
      have HA4 : Hid (Apart [] wr w4) := hln.bv.nw.ap
      have HN4 : Hid (Ln w w4 f (gR rs i) sv sx) := hln.from HL.out.ap
      clear hln z9 c0 c1 c2 c3 c4 c5
      try dsimp only
      obtain ⟨w5, hw5⟩ : ∃ w5, w5 = (w4.alloc (.cells #[.int .i64 f.n, .int .i64 f.c, .string f.k, .bool f.d, .slice f.v.p f.v.n f.v.c, .slice f.x.p f.x.n f.x.c] 37)).alloc (.cells #[.slice sv.p sv.n sv.c, .slice sx.p sx.n sx.c] 70) := ⟨_, rfl⟩
      obtain ⟨G, HG⟩ : ∃ G, Hid (G = w4.heap.size) := ⟨_, rfl⟩
      have aa5 : Apart [] w4 w5 := by rw [hw5]; exact ((Apart.refl [] w4).alloc _).alloc _
      have HG5 : Hid (w5.heap[G]? = some (.cells #[.int .i64 f.n, .int .i64 f.c, .string f.k, .bool f.d, .slice f.v.p f.v.n f.v.c, .slice f.x.p f.x.n f.x.c] 37 (0, 0))) := by
        unfold Hid
        rw [hw5, HG.out]
        exact (((Apart.refl [] (w4.alloc (.cells #[.int .i64 f.n, .int .i64 f.c, .string f.k, .bool f.d, .slice f.v.p f.v.n f.v.c, .slice f.x.p f.x.n f.x.c] 37))).alloc _).block _ (by simp) (by simp)).trans (heap_alloc_new w4 _)
      have HJ5 : Hid (w5.heap[G + 1]? = some (.cells #[.slice sv.p sv.n sv.c, .slice sx.p sx.n sx.c] 70 (0, 0))) := by
        unfold Hid
        rw [hw5, HG.out]
        have := heap_alloc_new (w4.alloc (.cells #[.int .i64 f.n, .int .i64 f.c, .string f.k, .bool f.d, .slice f.v.p f.v.n f.v.c, .slice f.x.p f.x.n f.x.c] 37)) (.cells #[.slice sv.p sv.n sv.c, .slice sx.p sx.n sx.c] 70)
        simpa using this
      have HL5 := hid ((HL.out.kept HA4.out).kept aa5)
      have HN5 := hid (HN4.out.kept aa5)
      have HM5 := hid (((HA4.out.trans aa5).block M (lt_of_heap HMr.out) (by simp)).trans HMr.out)
      have HD5 : Hid (w5.heap[M + 1]? = some (.cells #[.int .i64 0, .int .i64 0, .int .i64 0, .int .i64 0, .int .i64 0, .int .i64 0, .string ⟨#[]⟩, .int .i64 0, .int .i64 0, .slice none 0 0, .slice none 0 0] 29 (0, 0))) := ((HA4.out.trans aa5).block _ (lt_of_heap HDr.out) (by simp)).trans HDr.out
      have HF5 : Hid (w5.heap[M + 1 + 1]? = some (.cells #[.slice none 0 0, .slice none 0 0, .slice none 0 0] 53 (0, 0))) := ((HA4.out.trans aa5).block _ (lt_of_heap HFr.out) (by simp)).trans HFr.out
      have HGB : Hid (B < G) := by unfold Hid; rw [HG.out]; exact lt_of_heap (HL.out.kept HA4.out).b
      clear aa5
      obtain ⟨wl2, w6, w7, hrun1, ⟨hc1, hf1⟩, hw7, hL7, hk7, hn7⟩ := HL5.out.addW f (by rw [HEL.out]; omega) (by rw [HEL.out, HPL.out]; omega)
      have hmb := HMB.out
      have HL7 := hid hL7
      have HM7 := hid (hk7 M _ _ HM5.out (by decide) (by omega))
      have HD7 := hid (hk7 (M + 1) _ _ HD5.out (by decide) (by omega))
      have HF7 := hid (hk7 (M + 1 + 1) _ _ HF5.out (by decide) (by omega))
      have HJ7 := hid (hk7 (G + 1) _ _ HJ5.out (by decide) (by have := HGB.out; omega))
      have HN7 := hid (hn7 _ _ _ _ HN5.out)
      have hge : gE (es ++ [f]) ps.length = f := by
        unfold gE
        rw [List.getD_eq_getElem?_getD, List.getElem?_append_right (by rw [HEL.out, HPL.out]; omega), HEL.out, HPL.out, Nat.sub_self]; rfl
      obtain ⟨el2, w8, w9, hrun2, ⟨hc2, hf2⟩, hw9, hL9, hk9⟩ := HL7.out.addL (sv, sx) (by rw [HPL.out]; omega) (by rw [hge, HPL.out]; exact HN7.out)
      have HL9 := hid hL9
      have HM9 := hid (hk9 M _ _ HM7.out (by decide) (by omega))
      have HD9 := hid (hk9 (M + 1) _ _ HD7.out (by decide) (by omega))
      have HF9 := hid (hk9 (M + 1 + 1) _ _ HF7.out (by decide) (by omega))
      have HRUN1 := hid hrun1
      have HRUN2 := hid hrun2
      have HW7 := hid hw7
      have HW9 := hid hw9
      have HLen : Hid ((es ++ [f]).length = i + 1 ∧ (ps ++ [(sv, sx)]).length = i + 1) := ⟨by rw [List.length_append, HEL.out]; rfl, by rw [List.length_append, HPL.out]; rfl⟩
      have Hc2 := hid (And.intro hc2 hf2)
      clear hrun1 hrun2 hw7 hw9 hL7 hk7 hn7 hL9 hk9 hge hmb hc2 hf2
      obtain ⟨g0, g1, g2, g3, g4, g5⟩ := rowv6 HG5.out
      obtain ⟨b0, b1, b2⟩ := row3v HL5.out.b
      go_upto_region 6 with fail
      rw [← hw5, ← HG.out]
      clear hw5
      go_upto_region 7 with (at_builtin; refine wpList_app2 rfl (.tmp 29) (.tmp 31) 27 27 rfl _ _ rfl rfl _ _ HRUN1.out ?_)
      rw [← HW7.out]
      clear g0 g1 g2 g3 g4 g5 b0 b1 b2 hc1 hf1
      obtain ⟨b0, b1, b2⟩ := row3v HL7.out.b
      obtain ⟨j0, j1⟩ := rowv2 HJ7.out
      obtain ⟨hc2, hf2⟩ := Hc2.out
      go_wp2_with (at_builtin; refine wpList_app2 rfl (.tmp 35) (.tmp 37) 51 51 rfl _ _ rfl rfl _ _ HRUN2.out ?_)
      rw [← HW9.out]
      go_roundw
      case rel => exact ⟨i + 1, wl2, el2, es ++ [f], ps ++ [(sv, sx)], by go_num, by omega, HL9.out, HLen.out.1, HLen.out.2, HM9.out, HD9.out, HF9.out⟩
      case measure => simp [intOf]; omega
    · have hlti : ¬ ((i : Nat) : Int) < (mws.n : Int) := by omega
      have hin : i = mws.n := by omega
      obtain ⟨wl2, w6, w7, hrun1, ⟨hc1, hf1⟩, hw7, hL7, hk7, hn7⟩ := HL.out.addW mkE (by rw [HEL.out]; omega) (by rw [HEL.out, HPL.out]; omega)
      have hmb := HMB.out
      have HL7 := hid hL7
      have HM7 := hid (hk7 M _ _ HMr.out (by decide) (by omega))
      have HD7 := hid (hk7 (M + 1) _ _ HDr.out (by decide) (by omega))
      have HF7 := hid (hk7 (M + 1 + 1) _ _ HFr.out (by decide) (by omega))
      have HRUN1 : Hid ((Builtin.append_ #[27, 27] 27 #[.slice wl.p wl.n wl.c, .slice (some ⟨wr.heap.size, 0, none⟩) 1 1]).run Tryz.prog (wr.alloc (Obj.cells #[.int .i64 0, .int .i64 0, .string ⟨#[109, 97, 114, 107]⟩, .bool false, .slice none 0 0, .slice none 0 0] 37)) = .ok (.slice wl2.p wl2.n wl2.c) w6) := hrun1
      have HW7 := hid hw7
      have HT7 : Hid (LT w w7 s0 wl2 el xs es ps rs) := ⟨hL7.fs, hL7.fw, by have := hL7.wn; rw [List.length_append] at this; simpa using this, hL7.fe, hL7.en, ⟨by rw [HEL.out, HRN.out, hin], by rw [HPL.out, HRN.out, hin]⟩, fun j hj => by
        have hjp : j < ps.length := by rw [HPL.out, hin, ← HRN.out]; exact hj
        have hge : gE (es ++ [mkE]) j = gE es j := by
          unfold gE
          rw [List.getD_eq_getElem?_getD, List.getD_eq_getElem?_getD, List.getElem?_append_left (by rw [HEL.out, hin, ← HRN.out]; exact hj)]
        have := hL7.ln j hjp
        rw [hge] at this
        exact this, by rw [HRN.out, HXN.out]; exact ⟨hwl, hsl⟩⟩
      have HHI := hid hin
      clear hrun1 hw7 hL7 hk7 hn7 hmb hin
      obtain ⟨b0, b1, b2⟩ := row3v HL.out.b
      go_upto_region 9 with (at_builtin; refine wpList_app2 rfl (.tmp 41) (.tmp 43) 27 27 rfl _ _ rfl rfl _ _ HRUN1.out ?_)
      rw [← HW7.out]
      clear b0 b1 b2 hc1 hf1 z9
      obtain ⟨hcs, gs, hgs⟩ := HT7.out.fs.cap
      obtain ⟨hcw, gw, hgw⟩ : rs.length ≤ wl2.c ∧ ∃ g, wl2.p = some ⟨g, 0, none⟩ := by
        have hwn := HT7.out.wn
        have heq := HT7.out.eq.1
        obtain ⟨_, ⟨hv, hz⟩ | ⟨g, cap, cur, hv, _, _, hle, _⟩⟩ := HT7.out.fw.own
        · omega
        · unfold Sl.v at hv
          simp at hv
          exact ⟨by omega, g, hv.1⟩
      rw [HXN.out] at hcs
      rw [HRN.out] at hcw
      obtain ⟨s0p, s0n, s0c⟩ := s0
      obtain ⟨wlp, wln, wlc⟩ := wl2
      simp only at hcs hgs hcw hgw
      subst hgs hgw
      have hcsi : ((mset.n : Nat) : Int) ≤ (s0c : Int) := by omega
      have hcwi : ((mws.n : Nat) : Int) ≤ (wlc : Int) := by omega
      have HB7 : Hid (w7.heap[B]? = some (.cells #[.slice (some ⟨gs, 0, none⟩) s0n s0c, .slice (some ⟨gw, 0, none⟩) wln wlc, .slice el.p el.n el.c] 53 (0, 0))) := HL7.out.b
      have hMB : Hid (M ≠ B) := by unfold Hid; have := HMB.out; omega
      obtain ⟨w8, hw8⟩ : ∃ w8, w8 = w7.setCell ⟨M, 9, none⟩ (.slice (some ⟨gs, 0, none⟩) mset.n s0c) := ⟨_, rfl⟩
      have aM8 : Apart [M] w7 w8 := by rw [hw8]; exact (Apart.refl [M] w7).setCell (.inl (by simp)) _
      have HM8 : Hid (w8.heap[M]? = some (.cells #[.int .i64 mkind, .int .i64 mfrm, .int .i64 mdst, .int .i64 mcall, .int .i64 mrng, .int .i64 mown, .string mkey, .int .i64 mdn, .int .i64 mdc, .slice (some ⟨gs, 0, none⟩) mset.n s0c, .slice mws.p mws.n mws.c] 29 (0, 0))) := by
        unfold Hid
        rw [hw8]
        have := heap_setCell_same w7 M 9 _ 29 (.slice (some ⟨gs, 0, none⟩) mset.n s0c) HM7.out
        simpa using this
      have HB8 : Hid (w8.heap[B]? = some (.cells #[.slice (some ⟨gs, 0, none⟩) s0n s0c, .slice (some ⟨gw, 0, none⟩) wln wlc, .slice el.p el.n el.c] 53 (0, 0))) := (aM8.block _ (lt_of_heap HB7.out) (by simp; exact fun h => hMB.out h.symm)).trans HB7.out
      obtain ⟨w9, hw9⟩ : ∃ w9, w9 = w8.setCell ⟨M, 10, none⟩ (.slice (some ⟨gw, 0, none⟩) mws.n wlc) := ⟨_, rfl⟩
      have aM9 : Apart [M] w7 w9 := by rw [hw9]; exact aM8.setCell (.inl (by simp)) _
      have HM9 : Hid (w9.heap[M]? = some (.cells #[.int .i64 mkind, .int .i64 mfrm, .int .i64 mdst, .int .i64 mcall, .int .i64 mrng, .int .i64 mown, .string mkey, .int .i64 mdn, .int .i64 mdc, .slice (some ⟨gs, 0, none⟩) mset.n s0c, .slice (some ⟨gw, 0, none⟩) mws.n wlc] 29 (0, 0))) := by
        unfold Hid
        rw [hw9]
        have := heap_setCell_same w8 M 10 _ 29 (.slice (some ⟨gw, 0, none⟩) mws.n wlc) HM8.out
        simpa using this
      have HB9 : Hid (w9.heap[B]? = some (.cells #[.slice (some ⟨gs, 0, none⟩) s0n s0c, .slice (some ⟨gw, 0, none⟩) wln wlc, .slice el.p el.n el.c] 53 (0, 0))) := (aM9.block _ (lt_of_heap HB7.out) (by simp; exact fun h => hMB.out h.symm)).trans HB7.out
      have HD9 : Hid (w9.heap[M + 1]? = some (.cells #[.int .i64 0, .int .i64 0, .int .i64 0, .int .i64 0, .int .i64 0, .int .i64 0, .string ⟨#[]⟩, .int .i64 0, .int .i64 0, .slice none 0 0, .slice none 0 0] 29 (0, 0))) := (aM9.block _ (lt_of_heap HD7.out) (by simp)).trans HD7.out
      have HF9 : Hid (w9.heap[M + 1 + 1]? = some (.cells #[.slice none 0 0, .slice none 0 0, .slice none 0 0] 53 (0, 0))) := (aM9.block _ (lt_of_heap HF7.out) (by simp; omega)).trans HF7.out
      have ap9 : Apart [] w w9 := HT7.out.fs.nw.ap.trans' aM9 (by intro y hy; simp at hy; rw [hy, HM.out]; exact .inr (Nat.le_refl _))
      have HT9 := hid (HT7.out.keepT aM9 ap9 (by intro k hk cur t ht h; simp at hk; rw [hk, HM7.out] at h; simp only [Option.some.injEq, Obj.cells.injEq] at h; have h2 := h.2.1; rcases ht with e | e | e | e <;> (rw [e] at h2; exact absurd h2 (by decide))))
      have HAP9 := hid ap9
      clear aM8 aM9 ap9
      obtain ⟨b0, b1, b2⟩ := row3v HB7.out
      have m9 : w7.cell? ⟨M, 9, none⟩ = some (.slice mset.p mset.n mset.c) := crowI HM7.out 9 _ rfl
      have f9 := frozen_of_row _ _ 9 _ _ HM7.out
      go_upto_region 10 with fail
      rw [← hw8]
      clear hw8 b0 b1 b2 m9 f9
      obtain ⟨b0, b1, b2⟩ := row3v HB8.out
      have m10 : w8.cell? ⟨M, 10, none⟩ = some (.slice mws.p mws.n mws.c) := crowI HM8.out 10 _ rfl
      have f10 := frozen_of_row _ _ 10 _ _ HM8.out
      go_upto_region 11 with fail
      rw [← hw9]
      clear hw9 b0 b1 b2 m10 f10
      refine wp_region_held_drew (S := fun W => W.heap[M]? = some (.cells #[.int .i64 mkind, .int .i64 mfrm, .int .i64 mdst, .int .i64 mcall, .int .i64 mrng, .int .i64 mown, .string mkey, .int .i64 mdn, .int .i64 mdc, .slice (some ⟨gs, 0, none⟩) mset.n s0c, .slice (some ⟨gw, 0, none⟩) mws.n wlc] 29 (0, 0)) ∧ W.heap[B]? = some (.cells #[.slice (some ⟨gs, 0, none⟩) s0n s0c, .slice (some ⟨gw, 0, none⟩) wln wlc, .slice el.p el.n el.c] 53 (0, 0))) (by kernel_rfl) ⟨HM9.out, HB9.out⟩ (fun hHeld => ?_)
      have HSd : Hid (Apart [] w9 w9.drew) := (Apart.refl [] w9).drew
      have HDd : Hid (w9.drew.heap[M + 1]? = some (.cells #[.int .i64 0, .int .i64 0, .int .i64 0, .int .i64 0, .int .i64 0, .int .i64 0, .string ⟨#[]⟩, .int .i64 0, .int .i64 0, .slice none 0 0, .slice none 0 0] 29 (0, 0))) := HD9.out
      have HFd : Hid (w9.drew.heap[M + 1 + 1]? = some (.cells #[.slice none 0 0, .slice none 0 0, .slice none 0 0] 53 (0, 0))) := HF9.out
      generalize w9.drew = wd at *
      refine tkn 0 60 (.agg #[.int .i64 mkind, .int .i64 mfrm, .int .i64 mdst, .int .i64 mcall, .int .i64 mrng, .int .i64 mown, .string mkey, .int .i64 mdn, .int .i64 mdc, .slice (some ⟨gs, 0, none⟩) mset.n s0c, .slice (some ⟨gw, 0, none⟩) mws.n wlc]) rfl ?_ ?_
      · intro W hSW; have z0 := crowI hSW.1 0 _ rfl; have z1 := crowI hSW.1 1 _ rfl; have z2 := crowI hSW.1 2 _ rfl; have z3 := crowI hSW.1 3 _ rfl; have z4 := crowI hSW.1 4 _ rfl; have z5 := crowI hSW.1 5 _ rfl; have z6 := crowI hSW.1 6 _ rfl; have z7 := crowI hSW.1 7 _ rfl; have z8 := crowI hSW.1 8 _ rfl; have z9 := crowI hSW.1 9 _ rfl; have z10 := crowI hSW.1 10 _ rfl; go_simp
      refine tkn 1 61 (.agg #[.slice (some ⟨gs, 0, none⟩) s0n s0c, .slice (some ⟨gw, 0, none⟩) wln wlc, .slice el.p el.n el.c]) rfl ?_ ?_
      · intro W hSW; obtain ⟨k0, k1, k2⟩ := row3v hSW.2; go_simp
      have d0 := crowI HDd.out 0 _ rfl
      have f0 := frozen_of_row _ _ 0 _ _ HDd.out
      have d1 := crowI HDd.out 1 _ rfl
      have f1 := frozen_of_row _ _ 1 _ _ HDd.out
      have d2 := crowI HDd.out 2 _ rfl
      have f2 := frozen_of_row _ _ 2 _ _ HDd.out
      have d3 := crowI HDd.out 3 _ rfl
      have f3 := frozen_of_row _ _ 3 _ _ HDd.out
      have d4 := crowI HDd.out 4 _ rfl
      have f4 := frozen_of_row _ _ 4 _ _ HDd.out
      have d5 := crowI HDd.out 5 _ rfl
      have f5 := frozen_of_row _ _ 5 _ _ HDd.out
      have d6 := crowI HDd.out 6 _ rfl
      have f6 := frozen_of_row _ _ 6 _ _ HDd.out
      have d7 := crowI HDd.out 7 _ rfl
      have f7 := frozen_of_row _ _ 7 _ _ HDd.out
      have d8 := crowI HDd.out 8 _ rfl
      have f8 := frozen_of_row _ _ 8 _ _ HDd.out
      have d9 := crowI HDd.out 9 _ rfl
      have f9 := frozen_of_row _ _ 9 _ _ HDd.out
      have d10 := crowI HDd.out 10 _ rfl
      have f10 := frozen_of_row _ _ 10 _ _ HDd.out
      obtain ⟨wD, hwD⟩ : ∃ wD, wD = (((((((((((wd).setCell ⟨M + 1, 0, none⟩ (.int .i64 mkind)).setCell ⟨M + 1, 1, none⟩ (.int .i64 mfrm)).setCell ⟨M + 1, 2, none⟩ (.int .i64 mdst)).setCell ⟨M + 1, 3, none⟩ (.int .i64 mcall)).setCell ⟨M + 1, 4, none⟩ (.int .i64 mrng)).setCell ⟨M + 1, 5, none⟩ (.int .i64 mown)).setCell ⟨M + 1, 6, none⟩ (.string mkey)).setCell ⟨M + 1, 7, none⟩ (.int .i64 mdn)).setCell ⟨M + 1, 8, none⟩ (.int .i64 mdc)).setCell ⟨M + 1, 9, none⟩ (.slice (some ⟨gs, 0, none⟩) mset.n s0c)).setCell ⟨M + 1, 10, none⟩ (.slice (some ⟨gw, 0, none⟩) mws.n wlc) := ⟨_, rfl⟩
      have HDD : Hid (wD.heap[M + 1]? = some (.cells #[.int .i64 mkind, .int .i64 mfrm, .int .i64 mdst, .int .i64 mcall, .int .i64 mrng, .int .i64 mown, .string mkey, .int .i64 mdn, .int .i64 mdc, .slice (some ⟨gs, 0, none⟩) mset.n s0c, .slice (some ⟨gw, 0, none⟩) mws.n wlc] 29 (0, 0))) := by
        unfold Hid
        rw [hwD]
        have h0 := heap_setCell_same wd (M + 1) 0 _ 29 (.int .i64 mkind) HDd.out
        have h1 := heap_setCell_same _ (M + 1) 1 _ 29 (.int .i64 mfrm) h0
        have h2 := heap_setCell_same _ (M + 1) 2 _ 29 (.int .i64 mdst) h1
        have h3 := heap_setCell_same _ (M + 1) 3 _ 29 (.int .i64 mcall) h2
        have h4 := heap_setCell_same _ (M + 1) 4 _ 29 (.int .i64 mrng) h3
        have h5 := heap_setCell_same _ (M + 1) 5 _ 29 (.int .i64 mown) h4
        have h6 := heap_setCell_same _ (M + 1) 6 _ 29 (.string mkey) h5
        have h7 := heap_setCell_same _ (M + 1) 7 _ 29 (.int .i64 mdn) h6
        have h8 := heap_setCell_same _ (M + 1) 8 _ 29 (.int .i64 mdc) h7
        have h9 := heap_setCell_same _ (M + 1) 9 _ 29 (.slice (some ⟨gs, 0, none⟩) mset.n s0c) h8
        have h10 := heap_setCell_same _ (M + 1) 10 _ 29 (.slice (some ⟨gw, 0, none⟩) mws.n wlc) h9
        simpa using h10
      have aD : Apart [M + 1] wd wD := by rw [hwD]; exact ((((((((((((Apart.refl [M + 1] wd).setCell (.inl (by simp)) _).setCell (.inl (by simp)) _).setCell (.inl (by simp)) _).setCell (.inl (by simp)) _).setCell (.inl (by simp)) _).setCell (.inl (by simp)) _).setCell (.inl (by simp)) _).setCell (.inl (by simp)) _).setCell (.inl (by simp)) _).setCell (.inl (by simp)) _).setCell (.inl (by simp)) _)
      have hKK := HMB.out
      have hSD : wD.heap[M]? = some (.cells #[.int .i64 mkind, .int .i64 mfrm, .int .i64 mdst, .int .i64 mcall, .int .i64 mrng, .int .i64 mown, .string mkey, .int .i64 mdn, .int .i64 mdc, .slice (some ⟨gs, 0, none⟩) mset.n s0c, .slice (some ⟨gw, 0, none⟩) mws.n wlc] 29 (0, 0)) ∧ wD.heap[B]? = some (.cells #[.slice (some ⟨gs, 0, none⟩) s0n s0c, .slice (some ⟨gw, 0, none⟩) wln wlc, .slice el.p el.n el.c] 53 (0, 0)) := ⟨(aD.block _ (lt_of_heap hHeld.1) (by simp)).trans hHeld.1, (aD.block _ (lt_of_heap hHeld.2) (by simp; omega)).trans hHeld.2⟩
      have HFD : Hid (wD.heap[M + 1 + 1]? = some (.cells #[.slice none 0 0, .slice none 0 0, .slice none 0 0] 53 (0, 0))) := (aD.block _ (lt_of_heap HFd.out) (by simp)).trans HFd.out
      have HaD := hid aD
      clear aD
      refine wpAnyH_ready (rs := [2]) (by kernel_rfl) (by simp) ?_
      refine AllReadyH.cons rfl (fun KK hKK => ?_) AllReadyH.nil
      go_simp
      rw [← hwD]
      refine hKK.out _ _ hSD (fun hHeld => ?_)
      clear hKK KK
      clear hwD d0 f0 d1 f1 d2 f2 d3 f3 d4 f4 d5 f5 d6 f6 d7 f7 d8 f8 d9 f9 d10 f10
      have d0 := crowI HFD.out 0 _ rfl
      have f0 := frozen_of_row _ _ 0 _ _ HFD.out
      have d1 := crowI HFD.out 1 _ rfl
      have f1 := frozen_of_row _ _ 1 _ _ HFD.out
      have d2 := crowI HFD.out 2 _ rfl
      have f2 := frozen_of_row _ _ 2 _ _ HFD.out
      obtain ⟨wE, hwE⟩ : ∃ wE, wE = (((wD).setCell ⟨M + 1 + 1, 0, none⟩ (.slice (some ⟨gs, 0, none⟩) s0n s0c)).setCell ⟨M + 1 + 1, 1, none⟩ (.slice (some ⟨gw, 0, none⟩) wln wlc)).setCell ⟨M + 1 + 1, 2, none⟩ (.slice el.p el.n el.c) := ⟨_, rfl⟩
      have HEE : Hid (wE.heap[M + 1 + 1]? = some (.cells #[.slice (some ⟨gs, 0, none⟩) s0n s0c, .slice (some ⟨gw, 0, none⟩) wln wlc, .slice el.p el.n el.c] 53 (0, 0))) := by
        unfold Hid
        rw [hwE]
        have h0 := heap_setCell_same wD (M + 1 + 1) 0 _ 53 (.slice (some ⟨gs, 0, none⟩) s0n s0c) HFD.out
        have h1 := heap_setCell_same _ (M + 1 + 1) 1 _ 53 (.slice (some ⟨gw, 0, none⟩) wln wlc) h0
        have h2 := heap_setCell_same _ (M + 1 + 1) 2 _ 53 (.slice el.p el.n el.c) h1
        simpa using h2
      have aE : Apart [M + 1 + 1] wD wE := by rw [hwE]; exact ((((Apart.refl [M + 1 + 1] wD).setCell (.inl (by simp)) _).setCell (.inl (by simp)) _).setCell (.inl (by simp)) _)
      have hSE : wE.heap[M]? = some (.cells #[.int .i64 mkind, .int .i64 mfrm, .int .i64 mdst, .int .i64 mcall, .int .i64 mrng, .int .i64 mown, .string mkey, .int .i64 mdn, .int .i64 mdc, .slice (some ⟨gs, 0, none⟩) mset.n s0c, .slice (some ⟨gw, 0, none⟩) mws.n wlc] 29 (0, 0)) ∧ wE.heap[B]? = some (.cells #[.slice (some ⟨gs, 0, none⟩) s0n s0c, .slice (some ⟨gw, 0, none⟩) wln wlc, .slice el.p el.n el.c] 53 (0, 0)) := ⟨(aE.block _ (lt_of_heap hHeld.1) (by simp; omega)).trans hHeld.1, (aE.block _ (lt_of_heap hHeld.2) (by simp; omega)).trans hHeld.2⟩
      have HDE : Hid (wE.heap[M + 1]? = some (.cells #[.int .i64 mkind, .int .i64 mfrm, .int .i64 mdst, .int .i64 mcall, .int .i64 mrng, .int .i64 mown, .string mkey, .int .i64 mdn, .int .i64 mdc, .slice (some ⟨gs, 0, none⟩) mset.n s0c, .slice (some ⟨gw, 0, none⟩) mws.n wlc] 29 (0, 0))) := (aE.block _ (lt_of_heap HDD.out) (by simp)).trans HDD.out
      have HaE := hid aE
      clear aE
      refine wpAnyH_ready (rs := [3]) (by kernel_rfl) (by simp) ?_
      refine AllReadyH.cons rfl (fun KK hKK => ?_) AllReadyH.nil
      go_simp
      rw [← hwE]
      refine hKK.out _ _ hSE (fun hHeld => ?_)
      clear hKK KK
      refine wpAnyH_done (by kernel_rfl) ?_ _
      clear hwE d0 d1 d2 f0 f1 f2 hSD hSE hHeld hKK
      have aD1 : Apart [] w wD := (HAP9.out.trans HSd.out).trans' HaD.out (by intro y hy; simp at hy; rw [hy, HM.out]; exact .inr (by omega))
      have aDE : Apart [] w wE := aD1.trans' HaE.out (by intro y hy; simp at hy; rw [hy, HM.out]; exact .inr (by omega))
      have HTE := hid ((((HT9.out.kept HSd.out).keepT HaD.out aD1 (by intro k hk cur t ht h; simp at hk; rw [hk, HDd.out] at h; simp only [Option.some.injEq, Obj.cells.injEq] at h; have h2 := h.2.1; rcases ht with e | e | e | e <;> (rw [e] at h2; exact absurd h2 (by decide))))).keepT HaE.out aDE (by intro k hk cur t ht h; simp at hk; rw [hk, HFD.out] at h; simp only [Option.some.injEq, Obj.cells.injEq] at h; have h2 := h.2.1; rcases ht with e | e | e | e <;> (rw [e] at h2; exact absurd h2 (by decide))))
      have HP : Hid (LendsP w ⟨mkind, mfrm, mdst, mcall, mrng, mown, mkey, mdn, mdc, mset, mws⟩ xs rs (.returned (.tuple #[.agg #[.int .i64 mkind, .int .i64 mfrm, .int .i64 mdst, .int .i64 mcall, .int .i64 mrng, .int .i64 mown, .string mkey, .int .i64 mdn, .int .i64 mdc, .slice (some ⟨gs, 0, none⟩) mset.n s0c, .slice (some ⟨gw, 0, none⟩) mws.n wlc], .agg #[.slice (some ⟨gs, 0, none⟩) s0n s0c, .slice (some ⟨gw, 0, none⟩) wln wlc, .slice el.p el.n el.c]])) wE) := ⟨⟨some ⟨gs, 0, none⟩, s0n, s0c⟩, ⟨some ⟨gw, 0, none⟩, wln, wlc⟩, el, es, ps, by rw [HXN.out, HRN.out]; rfl, HTE.out⟩
      have d0 := crowI HDE.out 0 _ rfl
      have d1 := crowI HDE.out 1 _ rfl
      have d2 := crowI HDE.out 2 _ rfl
      have d3 := crowI HDE.out 3 _ rfl
      have d4 := crowI HDE.out 4 _ rfl
      have d5 := crowI HDE.out 5 _ rfl
      have d6 := crowI HDE.out 6 _ rfl
      have d7 := crowI HDE.out 7 _ rfl
      have d8 := crowI HDE.out 8 _ rfl
      have d9 := crowI HDE.out 9 _ rfl
      have d10 := crowI HDE.out 10 _ rfl
      obtain ⟨c0, c1, c2⟩ := row3v HEE.out
      clear aDE aD1
      go_wp2_with fail
      refine bodyPost_ret (v := .tuple #[.agg #[.int .i64 mkind, .int .i64 mfrm, .int .i64 mdst, .int .i64 mcall, .int .i64 mrng, .int .i64 mown, .string mkey, .int .i64 mdn, .int .i64 mdc, .slice (some ⟨gs, 0, none⟩) mset.n s0c, .slice (some ⟨gw, 0, none⟩) mws.n wlc], .agg #[.slice (some ⟨gs, 0, none⟩) s0n s0c, .slice (some ⟨gw, 0, none⟩) wln wlc, .slice el.p el.n el.c]]) ?_ rfl HP.out
      simp [results, Tryz.results15, go_sem, d0, d1, d2, d3, d4, d5, d6, d7, d8, d9, d10, c0, c1, c2]
end Go.Proofs.YtddffdcjhleejaaGreat.ds
