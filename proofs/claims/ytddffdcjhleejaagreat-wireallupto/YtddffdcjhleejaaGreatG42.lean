import Derived.Test.YtddffdcjhleejaaGreatG40
import Derived.Test.YtddffdcjhleejaaGreatG41
import Derived.Test.YtddffdcjhleejaaGreatG39
namespace Go.Proofs.YtddffdcjhleejaaGreat.ds
open Go.ChangeShapes Go.WideShapes Go.ChangeAt Go.RowKit Go.Sort
set_option linter.unusedVariables false
set_option linter.unusedSimpArgs false
theorem VI_same {m : MI} {xs : List S} {rs : List Wr} (s t : Sl) (h1 : m.set.n = s.n) (h2 : m.ws.n = t.n) : VI ⟨m.kind, m.frm, m.dst, m.call, m.rng, m.own, m.key, m.dn, m.dc, s, t⟩ xs rs ↔ VI m xs rs := by
  constructor
  · rintro ⟨a1, a2, a3, a4, a5, a6, a7, a8⟩
    exact ⟨a1, a2, a3, a4, a5, ⟨a6.1, fun h => h1.trans (a6.2.1 h), a6.2.2⟩, ⟨fun h => h2.trans (a7.1 h), fun h => h2.trans (a7.2 h)⟩, a8⟩
  · rintro ⟨a1, a2, a3, a4, a5, a6, a7, a8⟩
    exact ⟨a1, a2, a3, a4, a5, ⟨a6.1, fun h => h1.symm.trans (a6.2.1 h), a6.2.2⟩, ⟨fun h => h2.symm.trans (a7.1 h), fun h => h2.symm.trans (a7.2 h)⟩, a8⟩
theorem mg_det {w w' : World} {m m' : MI} {mm mm' : MM} {g g' : Mg} {es es' : List E} (h : m.cs = mm.cs) (h' : m'.cs = mm'.cs) (hr : RM w mm g es) (hr' : RM w' mm' g' es') (e : m'.kind = m.kind ∧ m'.frm = m.frm ∧ m'.dst = m.dst ∧ m'.call = m.call ∧ m'.rng = m.rng ∧ m'.own = m.own ∧ m'.key = m.key ∧ m'.dn = m.dn ∧ m'.dc = m.dc) (hs : g'.set = g.set) (hw : g'.ws = g.ws) : g' = g := by
  obtain ⟨k, f, t, c, r, o, ky, dn, dc, st, ws⟩ := g
  obtain ⟨k', f', t', c', r', o', ky', dn', dc', st', ws'⟩ := g'
  obtain ⟨r1, r2, r3, r4, r5, r6, r7, r8, r9, r10, _, _, _⟩ := hr
  obtain ⟨q1, q2, q3, q4, q5, q6, q7, q8, q9, q10, _, _, _⟩ := hr'
  simp only at *
  simp only [MI.cs, MM.cs, Array.mk.injEq, List.cons.injEq, Value.int.injEq, Value.string.injEq, true_and, and_true] at h h'
  have hk : strB ky' = strB ky := by rw [← q7, ← r7, ← h'.2.2.2.2.2.2.1, ← h.2.2.2.2.2.2.1]; exact e.2.2.2.2.2.2.1
  have hk2 : ky' = ky := by rw [← bsk_strB q8, hk, bsk_strB r8]
  subst hk2 hs hw
  congr 1 <;> omega
set_option maxHeartbeats 16000000 in
set_option maxRecDepth 100000 in
theorem valids_walk (w : World) (m : MI) (xs : List S) (es0 : List E) (rs : List Wr) (hm : RMI w m xs es0 rs) : Calls Tryz.prog 5 #[.agg #[.int .i64 m.kind, .int .i64 m.frm, .int .i64 m.dst, .int .i64 m.call, .int .i64 m.rng, .int .i64 m.own, .string m.key, .int .i64 m.dn, .int .i64 m.dc, .slice m.set.p m.set.n m.set.c, .slice m.ws.p m.ws.n m.ws.c]] w fun r w' => r = .returned (.bool true) ∧ Apart [] w w' := by
  have HM := hid hm
  obtain ⟨M, HMn⟩ : ∃ M, Hid (M = w.heap.size) := ⟨_, rfl⟩
  obtain ⟨w0, hw0⟩ : ∃ w0, w0 = w.alloc (.cells #[.int .i64 m.kind, .int .i64 m.frm, .int .i64 m.dst, .int .i64 m.call, .int .i64 m.rng, .int .i64 m.own, .string m.key, .int .i64 m.dn, .int .i64 m.dc, .slice m.set.p m.set.n m.set.c, .slice m.ws.p m.ws.n m.ws.c] 29) := ⟨_, rfl⟩
  have HA0 : Hid (Apart [] w w0) := by unfold Hid; rw [hw0]; exact (Apart.refl [] w).alloc _
  have HM0 : Hid (w0.heap[M]? = some (.cells #[.int .i64 m.kind, .int .i64 m.frm, .int .i64 m.dst, .int .i64 m.call, .int .i64 m.rng, .int .i64 m.own, .string m.key, .int .i64 m.dn, .int .i64 m.dc, .slice m.set.p m.set.n m.set.c, .slice m.ws.p m.ws.n m.ws.c] 29 (0, 0))) := by unfold Hid; rw [HMn.out, hw0]; exact heap_alloc_new w _
  have HC0 := hid (alive_ok w0)
  have HSL := hid hm.set.len
  have HRL := hid hm.ws.rl
  clear hm
  go_enter Tryz.func5, Tryz.ntmps5
  go_wp2_with fail
  rw [← hw0]
  try rw [← HMn.out]
  clear hw0
  refine HC0.out.mono ?_
  rintro _ w1 ⟨rfl, ha1⟩
  have HA1 : Hid (Apart [] w w1) := HA0.out.trans ha1
  have HM1 := hid ((ha1.block _ (lt_of_heap HM0.out) (by simp)).trans HM0.out)
  clear ha1 HC0
  have HC2 := hid (lends_ok w1 m xs es0 rs (HM.out.kept0 HA1.out))
  unfold MI.cs at HC2
  obtain ⟨⟨c0, c1, c2, c3, c4, c5⟩, c6, c7, c8, c9, c10⟩ := row11 HM1.out
  try dsimp only
  go_wp2_with fail
  clear c0 c1 c2 c3 c4 c5 c6 c7 c8 c9 c10
  refine HC2.out.mono ?_
  rintro _ w2 ⟨s0, wl, el, es, ps, rfl, hL⟩
  have HL := hid hL
  have HA12 : Hid (Apart [] w1 w2) := hL.fs.nw.ap
  clear hL HC2
  unfold MI.cs
  try dsimp only
  obtain ⟨w3, hw3⟩ : ∃ w3, w3 = (w2.alloc (.cells #[.int .i64 m.kind, .int .i64 m.frm, .int .i64 m.dst, .int .i64 m.call, .int .i64 m.rng, .int .i64 m.own, .string m.key, .int .i64 m.dn, .int .i64 m.dc, .slice s0.p xs.length s0.c, .slice wl.p rs.length wl.c] 29)).alloc (.cells #[.slice s0.p s0.n s0.c, .slice wl.p wl.n wl.c, .slice el.p el.n el.c] 53) := ⟨_, rfl⟩
  obtain ⟨G, HG⟩ : ∃ G, Hid (G = w2.heap.size) := ⟨_, rfl⟩
  obtain ⟨K, HK⟩ : ∃ K, Hid (K = w2.heap.size + 1) := ⟨_, rfl⟩
  have HA23 : Hid (Apart [] w2 w3) := by unfold Hid; rw [hw3]; exact ((Apart.refl [] w2).alloc _).alloc _
  have HG3 : Hid (w3.heap[G]? = some (.cells #[.int .i64 m.kind, .int .i64 m.frm, .int .i64 m.dst, .int .i64 m.call, .int .i64 m.rng, .int .i64 m.own, .string m.key, .int .i64 m.dn, .int .i64 m.dc, .slice s0.p xs.length s0.c, .slice wl.p rs.length wl.c] 29 (0, 0))) := by
    unfold Hid
    rw [hw3, HG.out]
    exact (((Apart.refl [] (w2.alloc (.cells #[.int .i64 m.kind, .int .i64 m.frm, .int .i64 m.dst, .int .i64 m.call, .int .i64 m.rng, .int .i64 m.own, .string m.key, .int .i64 m.dn, .int .i64 m.dc, .slice s0.p xs.length s0.c, .slice wl.p rs.length wl.c] 29))).alloc _).block _ (by simp) (by simp)).trans (heap_alloc_new w2 _)
  have HK3 : Hid (w3.heap[K]? = some (.cells #[.slice s0.p s0.n s0.c, .slice wl.p wl.n wl.c, .slice el.p el.n el.c] 53 (0, 0))) := by
    unfold Hid
    rw [hw3, HK.out]
    have := heap_alloc_new (w2.alloc (.cells #[.int .i64 m.kind, .int .i64 m.frm, .int .i64 m.dst, .int .i64 m.call, .int .i64 m.rng, .int .i64 m.own, .string m.key, .int .i64 m.dn, .int .i64 m.dc, .slice s0.p xs.length s0.c, .slice wl.p rs.length wl.c] 29)) (.cells #[.slice s0.p s0.n s0.c, .slice wl.p wl.n wl.c, .slice el.p el.n el.c] 53)
    simpa using this
  have HM3 := hid (((HA12.out.trans HA23.out).block _ (lt_of_heap HM1.out) (by simp)).trans HM1.out)
  have HA3 : Hid (Apart [] w w3) := HA1.out.trans (HA12.out.trans HA23.out)
  have HL3 := hid (HL.out.kept HA23.out)
  have HRT : Hid (RMI w3 ⟨m.kind, m.frm, m.dst, m.call, m.rng, m.own, m.key, m.dn, m.dc, ⟨s0.p, xs.length, s0.c⟩, ⟨wl.p, rs.length, wl.c⟩⟩ xs es rs) := HL3.out.rmi _ rfl rfl
  obtain ⟨v, hv⟩ := bool_of' (VI m xs rs)
  have HV2 := hid hv
  have HV1 : Hid (v = true ↔ VI ⟨m.kind, m.frm, m.dst, m.call, m.rng, m.own, m.key, m.dn, m.dc, ⟨s0.p, xs.length, s0.c⟩, ⟨wl.p, rs.length, wl.c⟩⟩ xs rs) := by
    unfold Hid
    rw [hv]
    exact (VI_same _ _ HSL.out.symm HRL.out.symm).symm
  obtain ⟨g, mm1, mm2, HG1, HG2⟩ : ∃ (g : Mg) (mm1 mm2 : MM), Hid (v = true → (MI.cs ⟨m.kind, m.frm, m.dst, m.call, m.rng, m.own, m.key, m.dn, m.dc, ⟨s0.p, xs.length, s0.c⟩, ⟨wl.p, rs.length, wl.c⟩⟩ = mm1.cs ∧ VMg g ∧ RM w3 mm1 g es)) ∧ Hid (v = true → (m.cs = mm2.cs ∧ VMg g ∧ RM w mm2 g es0)) := by
    cases hvv : v with
    | false => exact ⟨⟨0, 0, 0, 0, 0, 0, [], 0, 0, [], []⟩, MM.z, MM.z, fun h => (by simp at h), fun h => (by simp at h)⟩
    | true =>
      obtain ⟨mm1, g1, a1, a2, a3, a4, a5⟩ := (HV1.out.1 hvv).mg HRT.out
      obtain ⟨mm2, g2, b1, b2, b3, b4, b5⟩ := (HV2.out.1 hvv).mg HM.out
      have hg : g2 = g1 := mg_det a1 b1 a3 b3 ⟨rfl, rfl, rfl, rfl, rfl, rfl, rfl, rfl, rfl⟩ (by rw [a4, b4]) (by rw [a5, b5])
      rw [hg] at b2 b3
      exact ⟨g1, mm1, mm2, fun _ => ⟨a1, a2, a3⟩, fun _ => ⟨b1, b2, b3⟩⟩
  have HE8 : Hid (v = true → ∀ b ∈ encM g, b < 256) := fun h => (by
    obtain ⟨_, h2, h3⟩ := HG2.out h
    exact h3.bytes)
  have HC3 := hid (validI_ok w3 ⟨m.kind, m.frm, m.dst, m.call, m.rng, m.own, m.key, m.dn, m.dc, ⟨s0.p, xs.length, s0.c⟩, ⟨wl.p, rs.length, wl.c⟩⟩ xs es rs HRT.out v HV1.out)
  clear hv
  obtain ⟨⟨c0, c1, c2, c3, c4, c5⟩, c6, c7, c8, c9, c10⟩ := row11 HG3.out
  go_upto_region 3 with fail
  rw [← hw3, ← HK.out, ← HG.out]
  clear hw3
  go_wp2_with fail
  clear c0 c1 c2 c3 c4 c5 c6 c7 c8 c9 c10
  refine HC3.out.mono ?_
  rintro _ w4 ⟨rfl, ha4⟩
  have HA4 := hid ha4
  have HG4 := hid ((ha4.block _ (lt_of_heap HG3.out) (by simp)).trans HG3.out)
  clear ha4 HC3
  cases v with
  | true =>
    replace HE8 : Hid (∀ b ∈ encM g, b < 256) := HE8.out (by simp)
    have HC4 := hid (encodeI_ok w4 ⟨m.kind, m.frm, m.dst, m.call, m.rng, m.own, m.key, m.dn, m.dc, ⟨s0.p, xs.length, s0.c⟩, ⟨wl.p, rs.length, wl.c⟩⟩ xs es rs (HRT.out.kept0 HA4.out) true (by have := HV1.out; simpa using this) mm1 g (fun h => (by obtain ⟨a, b, c⟩ := HG1.out (by simp); exact ⟨a, b, c.kept0 HA4.out⟩)))
    obtain ⟨⟨c0, c1, c2, c3, c4, c5⟩, c6, c7, c8, c9, c10⟩ := row11 HG4.out
    try dsimp only
    go_wp2_with fail
    clear c0 c1 c2 c3 c4 c5 c6 c7 c8 c9 c10
    refine HC4.out.mono ?_
    rintro e4 w5 hp4
    obtain ⟨t4, he4, hb4⟩ := hp4.yes rfl
    have HA5 := hid hp4.ap
    have HB4 := hid hb4
    subst he4
    clear hp4 hb4
    have HA05 : Hid (Apart [] w w5) := HA3.out.trans (HA4.out.trans HA5.out)
    have HM5 := hid (((HA4.out.trans HA5.out).block _ (lt_of_heap HM3.out) (by simp)).trans HM3.out)
    have HK5 := hid (((HA4.out.trans HA5.out).block _ (lt_of_heap HK3.out) (by simp)).trans HK3.out)
    have HC5 := hid (rencode_ok w5 m xs es0 rs (HM.out.kept0 HA05.out) true (by have := HV2.out; simpa using this) mm2 g (fun h => (by obtain ⟨a, b, c⟩ := HG2.out (by simp); exact ⟨a, b, c.kept0 HA05.out⟩)))
    obtain ⟨⟨c0, c1, c2, c3, c4, c5⟩, c6, c7, c8, c9, c10⟩ := row11 HM5.out
    try dsimp only
    go_wp2_with fail
    clear c0 c1 c2 c3 c4 c5 c6 c7 c8 c9 c10
    refine HC5.out.mono ?_
    rintro e5 w6 hp5
    obtain ⟨t5, he5, hb5⟩ := hp5.yes rfl
    have HA6 := hid hp5.ap
    have HB5 := hid hb5
    subst he5
    clear hp5 hb5
    have HSB : Hid (Calls Tryz.prog 13 #[.slice t4.p t4.n t4.c, .slice t5.p t5.n t5.c] w6 fun r w' => r = .returned (.bool true) ∧ w' = w6) := sameBytes_ok ((HB4.out.kept HA6.out).rbs HE8.out) (HB5.out.rbs HE8.out) true (by simp)
    have HA06 : Hid (Apart [] w w6) := HA05.out.trans HA6.out
    have HM6 := hid ((HA6.out.block _ (lt_of_heap HM5.out) (by simp)).trans HM5.out)
    have HK6 := hid ((HA6.out.block _ (lt_of_heap HK5.out) (by simp)).trans HK5.out)
    have HC6 : Hid (Calls Tryz.prog 17 #[.agg #[.slice s0.p s0.n s0.c, .slice wl.p wl.n wl.c, .slice el.p el.n el.c], .agg #[.int .i64 m.kind, .int .i64 m.frm, .int .i64 m.dst, .int .i64 m.call, .int .i64 m.rng, .int .i64 m.own, .string m.key, .int .i64 m.dn, .int .i64 m.dc, .slice m.set.p m.set.n m.set.c, .slice m.ws.p m.ws.n m.ws.c]] w6 fun a w' => a = .returned (.bool true) ∧ Apart [] w6 w') := wholes_ok w1 w6 s0 wl el xs es ps rs (HL3.out.kept (HA4.out.trans (HA5.out.trans HA6.out))) m es0 (HM.out.kept0 HA06.out)
    try dsimp only
    go_wp2_with fail
    refine HSB.out.mono ?_
    rintro _ wn ⟨rfl, hwn⟩
    rw [hwn]
    clear hwn wn
    try dsimp only
    obtain ⟨⟨c0, c1, c2, c3, c4, c5⟩, c6, c7, c8, c9, c10⟩ := row11 HM6.out
    obtain ⟨k0, k1, k2⟩ := row3v HK6.out
    go_wp2_with fail
    clear c0 c1 c2 c3 c4 c5 c6 c7 c8 c9 c10 k0 k1 k2
    refine HC6.out.mono ?_
    rintro _ w7 ⟨rfl, ha7⟩
    have HA7 : Hid (Apart [] w w7) := HA06.out.trans ha7
    clear ha7
    try dsimp only
    go_wp2_with fail
    go_ret
    exact ⟨rfl, HA7.out⟩
  | false =>
    have HC4 := hid (encodeI_ok w4 ⟨m.kind, m.frm, m.dst, m.call, m.rng, m.own, m.key, m.dn, m.dc, ⟨s0.p, xs.length, s0.c⟩, ⟨wl.p, rs.length, wl.c⟩⟩ xs es rs (HRT.out.kept0 HA4.out) false (by have := HV1.out; simpa using this) mm1 g (fun h => (by simp at h)))
    obtain ⟨⟨c0, c1, c2, c3, c4, c5⟩, c6, c7, c8, c9, c10⟩ := row11 HG4.out
    try dsimp only
    go_wp2_with fail
    clear c0 c1 c2 c3 c4 c5 c6 c7 c8 c9 c10
    refine HC4.out.mono ?_
    rintro e4 w5 hp4
    have he4 := hp4.no rfl
    have HA5 := hid hp4.ap
    subst he4
    clear hp4
    have HA05 : Hid (Apart [] w w5) := HA3.out.trans (HA4.out.trans HA5.out)
    have HM5 := hid (((HA4.out.trans HA5.out).block _ (lt_of_heap HM3.out) (by simp)).trans HM3.out)
    have HK5 := hid (((HA4.out.trans HA5.out).block _ (lt_of_heap HK3.out) (by simp)).trans HK3.out)
    have HC5 := hid (rencode_ok w5 m xs es0 rs (HM.out.kept0 HA05.out) false (by have := HV2.out; simpa using this) mm2 g (fun h => (by simp at h)))
    obtain ⟨⟨c0, c1, c2, c3, c4, c5⟩, c6, c7, c8, c9, c10⟩ := row11 HM5.out
    try dsimp only
    go_wp2_with fail
    clear c0 c1 c2 c3 c4 c5 c6 c7 c8 c9 c10
    refine HC5.out.mono ?_
    rintro e5 w6 hp5
    have he5 := hp5.no rfl
    have HA6 := hid hp5.ap
    subst he5
    clear hp5
    have HSB : Hid (Calls Tryz.prog 13 #[.slice none 0 0, .slice none 0 0] w6 fun r w' => r = .returned (.bool true) ∧ w' = w6) := sameBytes_ok (s := ⟨none, 0, 0⟩) (t := ⟨none, 0, 0⟩) (a := []) (b := []) ⟨Rd.nil _ _, rfl, by simp, fun _ => ⟨rfl, rfl⟩⟩ ⟨Rd.nil _ _, rfl, by simp, fun _ => ⟨rfl, rfl⟩⟩ true (by simp)
    have HA06 : Hid (Apart [] w w6) := HA05.out.trans HA6.out
    have HM6 := hid ((HA6.out.block _ (lt_of_heap HM5.out) (by simp)).trans HM5.out)
    have HK6 := hid ((HA6.out.block _ (lt_of_heap HK5.out) (by simp)).trans HK5.out)
    have HC6 : Hid (Calls Tryz.prog 17 #[.agg #[.slice s0.p s0.n s0.c, .slice wl.p wl.n wl.c, .slice el.p el.n el.c], .agg #[.int .i64 m.kind, .int .i64 m.frm, .int .i64 m.dst, .int .i64 m.call, .int .i64 m.rng, .int .i64 m.own, .string m.key, .int .i64 m.dn, .int .i64 m.dc, .slice m.set.p m.set.n m.set.c, .slice m.ws.p m.ws.n m.ws.c]] w6 fun a w' => a = .returned (.bool true) ∧ Apart [] w6 w') := wholes_ok w1 w6 s0 wl el xs es ps rs (HL3.out.kept (HA4.out.trans (HA5.out.trans HA6.out))) m es0 (HM.out.kept0 HA06.out)
    try dsimp only
    go_wp2_with fail
    refine HSB.out.mono ?_
    rintro _ wn ⟨rfl, hwn⟩
    rw [hwn]
    clear hwn wn
    try dsimp only
    obtain ⟨⟨c0, c1, c2, c3, c4, c5⟩, c6, c7, c8, c9, c10⟩ := row11 HM6.out
    obtain ⟨k0, k1, k2⟩ := row3v HK6.out
    go_wp2_with fail
    clear c0 c1 c2 c3 c4 c5 c6 c7 c8 c9 c10 k0 k1 k2
    refine HC6.out.mono ?_
    rintro _ w7 ⟨rfl, ha7⟩
    have HA7 : Hid (Apart [] w w7) := HA06.out.trans ha7
    clear ha7
    try dsimp only
    go_wp2_with fail
    go_ret
    exact ⟨rfl, HA7.out⟩
end Go.Proofs.YtddffdcjhleejaaGreat.ds
