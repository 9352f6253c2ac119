import Derived.Test.YtddffdcjhleejaaV36
import Derived.Test.YtddffdcjhleejaaX5
namespace Go.Proofs.Ytddffdcjhleejaa.ds
open Go.ChangeShapes Go.WideShapes Go.ChangeAt Go.RowKit Go.Sort
set_option linter.unusedVariables false
set_option linter.unusedSimpArgs false
structure TwinP (w : World) (r : Wr) (a : Ending) (w' : World) : Prop where
  ex : ∃ (f : E) (sv sx : Sl), a = .returned (.agg #[.int .i64 f.n, .int .i64 f.c, .string f.k, .bool f.d, .slice f.v.p f.v.n f.v.c, .slice f.x.p f.x.n f.x.c]) ∧ Ln w w' f r sv sx
theorem Ln.base {w0 w W : World} {e : E} {r : Wr} {sv sx : Sl} (h : Ln w W e r sv sx) (a : Apart [] w0 w) : Ln w0 W e r sv sx := { h with bv := ⟨h.bv.nw.from a, h.bv.len⟩, bx := ⟨h.bx.nw.from a, h.bx.len, h.bx.fit⟩ }
set_option maxHeartbeats 16000000 in
set_option maxRecDepth 100000 in
theorem twinW_ok (w : World) (e : E) (r : Wr) (hr : Reads w e r) : Calls Try.prog 21 #[.agg #[.int .i64 e.n, .int .i64 e.c, .string e.k, .bool e.d, .slice e.v.p e.v.n e.v.c, .slice e.x.p e.x.n e.x.c]] w fun a w' => TwinP w r a w' := by
  have HC : Hid (∀ W, Apart [] w W → Calls Try.prog 37 #[.agg #[.int .i64 e.n, .int .i64 e.c, .string e.k, .bool e.d, .slice e.v.p e.v.n e.v.c, .slice e.x.p e.x.n e.x.c]] W fun a w' => LendP W r a w') := fun W a => lendW_ok W e r (hr.kept0 a)
  clear hr
  obtain ⟨M, HM⟩ : ∃ M, Hid (M = w.heap.size) := ⟨_, rfl⟩
  obtain ⟨w1, hw1⟩ : ∃ w1, w1 = (w.alloc (.cells #[.int .i64 e.n, .int .i64 e.c, .string e.k, .bool e.d, .slice e.v.p e.v.n e.v.c, .slice e.x.p e.x.n e.x.c] 41)).alloc (.cells #[.int .i64 0, .int .i64 0, .string ⟨#[]⟩, .bool false, .slice none 0 0, .slice none 0 0] 41) := ⟨_, rfl⟩
  have HA1 : Hid (Apart [] w w1) := by unfold Hid; rw [hw1]; exact ((Apart.refl [] w).alloc _).alloc _
  have HM1 : Hid (w1.heap[M]? = some (.cells #[.int .i64 e.n, .int .i64 e.c, .string e.k, .bool e.d, .slice e.v.p e.v.n e.v.c, .slice e.x.p e.x.n e.x.c] 41 (0, 0))) := by
    unfold Hid
    rw [hw1, HM.out]
    exact (((Apart.refl [] (w.alloc (.cells #[.int .i64 e.n, .int .i64 e.c, .string e.k, .bool e.d, .slice e.v.p e.v.n e.v.c, .slice e.x.p e.x.n e.x.c] 41))).alloc _).block _ (by simp) (by simp)).trans (heap_alloc_new w _)
  have HD1 : Hid (w1.heap[M + 1]? = some (.cells #[.int .i64 0, .int .i64 0, .string ⟨#[]⟩, .bool false, .slice none 0 0, .slice none 0 0] 41 (0, 0))) := by
    unfold Hid
    rw [hw1, HM.out]
    have := heap_alloc_new (w.alloc (.cells #[.int .i64 e.n, .int .i64 e.c, .string e.k, .bool e.d, .slice e.v.p e.v.n e.v.c, .slice e.x.p e.x.n e.x.c] 41)) (.cells #[.int .i64 0, .int .i64 0, .string ⟨#[]⟩, .bool false, .slice none 0 0, .slice none 0 0] 41)
    simpa using this
  obtain ⟨z0, z1, z2, z3, z4, z5⟩ := rowv6 HM1.out
  go_enter Try.func21, Try.ntmps21
  go_upto_region 1 with fail
  rw [← hw1, ← HM.out]
  clear hw1
  go_wp2_with fail
  refine (HC.out w1 HA1.out).mono ?_
  rintro _ w2 ⟨f, sv, sx, rfl, hL⟩
  have HT2 := hid (hL.base HA1.out)
  have HA2 : Hid (Apart [] w1 w2) := hL.bv.nw.ap
  clear hL z0 z1 z2 z3 z4 z5
  try dsimp only
  obtain ⟨w3, hw3⟩ : ∃ w3, w3 = (w2.alloc (.cells #[.int .i64 f.n, .int .i64 f.c, .string f.k, .bool f.d, .slice f.v.p f.v.n f.v.c, .slice f.x.p f.x.n f.x.c] 41)).alloc (.cells #[.slice sv.p sv.n sv.c, .slice sx.p sx.n sx.c] 71) := ⟨_, rfl⟩
  obtain ⟨G, HG⟩ : ∃ G, Hid (G = w2.heap.size) := ⟨_, rfl⟩
  have aa3 : Apart [] w2 w3 := by rw [hw3]; exact ((Apart.refl [] w2).alloc _).alloc _
  have HG3 : Hid (w3.heap[G]? = some (.cells #[.int .i64 f.n, .int .i64 f.c, .string f.k, .bool f.d, .slice f.v.p f.v.n f.v.c, .slice f.x.p f.x.n f.x.c] 41 (0, 0))) := by
    unfold Hid
    rw [hw3, HG.out]
    exact (((Apart.refl [] (w2.alloc (.cells #[.int .i64 f.n, .int .i64 f.c, .string f.k, .bool f.d, .slice f.v.p f.v.n f.v.c, .slice f.x.p f.x.n f.x.c] 41))).alloc _).block _ (by simp) (by simp)).trans (heap_alloc_new w2 _)
  have HD3 : Hid (w3.heap[M + 1]? = some (.cells #[.int .i64 0, .int .i64 0, .string ⟨#[]⟩, .bool false, .slice none 0 0, .slice none 0 0] 41 (0, 0))) := ((HA2.out.trans aa3).block _ (lt_of_heap HD1.out) (by simp)).trans HD1.out
  have HT3 := hid (HT2.out.kept aa3)
  clear aa3
  obtain ⟨wD, hwD⟩ : ∃ wD, wD = ((((((w3).setCell ⟨M + 1, 0, none⟩ (.int .i64 f.n)).setCell ⟨M + 1, 1, none⟩ (.int .i64 f.c)).setCell ⟨M + 1, 2, none⟩ (.string f.k)).setCell ⟨M + 1, 3, none⟩ (.bool f.d)).setCell ⟨M + 1, 4, none⟩ (.slice f.v.p f.v.n f.v.c)).setCell ⟨M + 1, 5, none⟩ (.slice f.x.p f.x.n f.x.c) := ⟨_, rfl⟩
  have HDD : Hid (wD.heap[M + 1]? = some (.cells #[.int .i64 f.n, .int .i64 f.c, .string f.k, .bool f.d, .slice f.v.p f.v.n f.v.c, .slice f.x.p f.x.n f.x.c] 41 (0, 0))) := by
    unfold Hid
    rw [hwD]
    have h0 := heap_setCell_same w3 (M + 1) 0 _ 41 (.int .i64 f.n) HD3.out
    have h1 := heap_setCell_same _ (M + 1) 1 _ 41 (.int .i64 f.c) h0
    have h2 := heap_setCell_same _ (M + 1) 2 _ 41 (.string f.k) h1
    have h3 := heap_setCell_same _ (M + 1) 3 _ 41 (.bool f.d) h2
    have h4 := heap_setCell_same _ (M + 1) 4 _ 41 (.slice f.v.p f.v.n f.v.c) h3
    have h5 := heap_setCell_same _ (M + 1) 5 _ 41 (.slice f.x.p f.x.n f.x.c) h4
    simpa using h5
  have aD : Apart [M + 1] w3 wD := by rw [hwD]; exact (((((((Apart.refl [M + 1] w3).setCell (.inl (by simp)) _).setCell (.inl (by simp)) _).setCell (.inl (by simp)) _).setCell (.inl (by simp)) _).setCell (.inl (by simp)) _).setCell (.inl (by simp)) _)
  have apD : Apart [] w wD := HT3.out.bv.nw.ap.trans' aD (by intro y hy; simp at hy; rw [hy, HM.out]; exact .inr (by omega))
  have HTD := hid (HT3.out.keepT aD apD (by intro k hk cur; simp at hk; rw [hk, HD3.out]; constructor <;> (intro h; simp at h)))
  clear aD apD
  go_upto_region 2 with fail
  rw [← hw3, ← HG.out]
  clear hw3
  obtain ⟨z0, z1, z2, z3, z4, z5⟩ := rowv6 HG3.out
  obtain ⟨d0, d1, d2, d3, d4, d5⟩ := rowv6 HD3.out
  have f0 := frozen_of_row _ _ 0 _ _ HD3.out
  have f1 := frozen_of_row _ _ 1 _ _ HD3.out
  have f2 := frozen_of_row _ _ 2 _ _ HD3.out
  have f3 := frozen_of_row _ _ 3 _ _ HD3.out
  have f4 := frozen_of_row _ _ 4 _ _ HD3.out
  have f5 := frozen_of_row _ _ 5 _ _ HD3.out
  go_wp2_with fail
  rw [← hwD]
  refine bodyPost_ret (results_cell_row rfl _ _ (M + 1) 41 _ _ _ rfl HDD.out Try.underlying41 rfl size41) rfl ?_
  exact ⟨f, sv, sx, rfl, HTD.out⟩
end Go.Proofs.Ytddffdcjhleejaa.ds
namespace Go.Proofs.Ytddffdcjhleejaa.ds
open Go.ChangeShapes Go.WideShapes Go.ChangeAt Go.RowKit Go.Sort
set_option linter.unusedVariables false
set_option linter.unusedSimpArgs false
/-- a write and its set, one behind the other -/
def encP (r : Wr) : List Nat := encW r ++ encSet r.xs
def fp (l : List Wr) : List Nat := l.flatMap encP
theorem fp_snoc (l : List Wr) (r : Wr) : fp (l ++ [r]) = fp l ++ encP r := by simp [fp]
/-- bytes more -/
theorem app_bytes {wB w : World} {s t : Sl} {us vs : List Nat} (h : Bf wB w s us) (ht : RBs w t vs) (h0 : 0 < vs.length) (hl : us.length + vs.length ≤ 1099511627776) :
    ∃ s' W', (Builtin.append_ #[22, 22] 22 #[.slice s.p s.n s.c, .slice t.p t.n t.c]).run Try.prog w = .ok (.slice s'.p s'.n s'.c) W' ∧ Bf wB W' s' (us ++ vs) ∧ Gw w W' s s' := by
  obtain ⟨i0, hif, hz0, hz1, hz2⟩ := info_parts infoB
  have hlen := h.len
  have htl := ht.len
  obtain ⟨P, o, e, hP, hc⟩ := ht.rd (by simp [byts]; omega)
  obtain ⟨s5, w5, hrun, hnw5, hs5, ap5, k5, hk5, -, hk6⟩ := run_appS (s := s) 22 22 5 i0 _ 1 1 Try.underlying22 hif hz0 hz1 hz2 rfl (by decide) h.nw ⟨P, o, none⟩ t.n t.c (byts vs) (by omega) (by simp [byts, htl]) (fun j u hj => by rw [Addr.add_lit]; exact hc j u hj) (oneB _) (by unfold maxLen; omega) (by omega)
  rw [e]
  refine ⟨s5, w5, hrun, ⟨by rw [byts_app]; exact hnw5, by rw [List.length_append]; omega⟩, ap5, fun k hk => ?_⟩
  have e1 : k5 = k := by unfold Sl.v at hk; rw [hk5] at hk; simpa [Value.ownBlock] using hk
  rw [← e1]; exact hk6
/-- what the statement holds: all bytes, the writes that were kept -/
structure PT (w W : World) (a k : Sl) (lead : List Nat) (kE : List E) (kR : List Wr) : Prop where
  ba : Bf w W a (lead ++ fp kR)
  nk : Nw w W 41 6 k (flatE kE)
  kn : k.n = kE.length
  kl : kR.length = kE.length
  rd : ∀ t, t < kE.length → Reads w (gE kE t) (gR kR t)
  gd : ∀ r ∈ kR, GoodW r
theorem PT.kept {w W W' : World} {a k : Sl} {lead : List Nat} {kE : List E} {kR : List Wr} (h : PT w W a k lead kE kR) (ap : Apart [] W W') : PT w W' a k lead kE kR := { h with ba := h.ba.kept ap, nk := h.nk.kept ap }
theorem PT.rws {w W : World} {a k : Sl} {lead : List Nat} {kE : List E} {kR : List Wr} (h : PT w W a k lead kE kR) (hl : kE.length ≤ 1000) : RWs W k kE kR := ⟨h.nk.rd, h.kn.symm, by rw [h.kl, h.kn], fun j hj => (h.rd j (by rw [← h.kn]; exact hj)).kept0 h.nk.ap, by rw [h.kn]; omega, h.nk.ok⟩
/-- the bytes of a write and of a set are appended, the write is kept -/
theorem PT.step {w W : World} {a k : Sl} {lead : List Nat} {kE : List E} {kR : List Wr} (h : PT w W a k lead kE kR) (hl : lead.length ≤ 1000) (hk : kE.length ≤ 100) {b s : Sl} (e : E) (r : Wr) (hr : Reads w e r) (hg : GoodW r) (hb : RBs W b (encW r)) (hs : RBs W s (encSet r.xs)) (ob : ∀ P o, b.p = some ⟨P, o, none⟩ → some P ≠ a.v.ownBlock) (os : ∀ P o, s.p = some ⟨P, o, none⟩ → some P ≠ a.v.ownBlock ∧ P < W.heap.size) :
    ∃ (a1 : Sl) (W1 : World) (a2 : Sl) (W2 : World) (k2 : Sl) (W3 : World), (Builtin.append_ #[22, 22] 22 #[.slice a.p a.n a.c, .slice b.p b.n b.c]).run Try.prog W = .ok (.slice a1.p a1.n a1.c) W1 ∧ (Builtin.append_ #[22, 22] 22 #[.slice a1.p a1.n a1.c, .slice s.p s.n s.c]).run Try.prog W1 = .ok (.slice a2.p a2.n a2.c) W2 ∧ (Builtin.append_ #[27, 27] 27 #[.slice k.p k.n k.c, .slice (some ⟨W2.heap.size, 0, none⟩) 1 1]).run Try.prog (W2.alloc (Obj.cells #[.int .i64 e.n, .int .i64 e.c, .string e.k, .bool e.d, .slice e.v.p e.v.n e.v.c, .slice e.x.p e.x.n e.x.c] 41)) = .ok (.slice k2.p k2.n k2.c) W3 ∧ Apart [] w W2 ∧ PT w W3 a2 k2 lead (kE ++ [e]) (kR ++ [r]) := by
  have hfl := flat_le encP 630 kR (fun x hx => by have h1 := encW_le (h.gd x hx); have h2 := encSet_le (h.gd x hx).ctx; unfold encP; rw [List.length_append]; omega)
  have hkl := h.kl
  have e1 := encW_le hg
  have e2 := encSet_le hg.ctx
  have hlen1 : (lead ++ fp kR).length ≤ 100000 := by rw [List.length_append]; unfold fp; omega
  have pW : 0 < (encW r).length := by have := enc_pos r.n.toNat; unfold encW; simp only [List.length_append]; omega
  have pS : 0 < (encSet r.xs).length := by have := enc_pos r.xs.length; unfold encSet; simp only [List.length_append]; omega
  obtain ⟨a1, W1, hrun1, hb1, hg1⟩ := app_bytes h.ba hb pW (by omega)
  have hs1 : RBs W1 s (encSet r.xs) := { hs with rd := hs.rd.kept hg1.ap (fun P o ep hm => (os P o ep).1 ((by simpa using hm : a.v.ownBlock = some P).symm)) }
  obtain ⟨a2, W2, hrun2, hb2, hg2⟩ := app_bytes hb1 hs1 pS (by rw [List.length_append]; omega)
  have hg12 := hg1.trans hg2
  have nk2 : Nw w W2 41 6 k (flatE kE) := h.nk.keepT hg12.ap hb2.nw.ap (fun y hy cur hh => by
    obtain ⟨cu, hc⟩ := own_typ h.ba.nw.own (k := y) (by simpa using hy)
    rw [hh] at hc
    simp at hc)
  obtain ⟨i0, hif, hz0, hz1, hz2⟩ := info_parts infoW41
  have hkn := h.kn
  obtain ⟨k2, W3, hrun3, hnw3, hs3, ap3, k5, hk5, -, hk6⟩ := run_appM (s := k) 27 27 41 i0 _ 6 88 Try.underlying27 hif hz0 hz1 hz2 rfl (by decide) nk2 1 (E.cs e) (by decide) rfl (fun u hu => by simp [E.cs, Sl.v] at hu; rcases hu with rfl | rfl | rfl | rfl | rfl | rfl <;> rfl) (by unfold maxLen; omega) (by omega)
  have hb3 : Bf w W3 a2 (((lead ++ fp kR) ++ encW r) ++ encSet r.xs) := hb2.keepT ap3 hnw3.ap (fun y hy cur hh => by
    obtain ⟨cu, hc⟩ := own_typ nk2.own (k := y) (by simpa using hy)
    rw [hh] at hc
    simp at hc)
  refine ⟨a1, W1, a2, W2, k2, W3, hrun1, hrun2, hrun3, hb2.nw.ap, ⟨?_, ?_, by rw [hs3, List.length_append]; simp; omega, by simp [hkl], fun t ht => ?_, fun x hx => ?_⟩⟩
  · rw [fp_snoc]
    unfold encP
    simpa using hb3
  · rw [show flatE (kE ++ [e]) = flatE kE ++ E.cs e from by simp [flatE]]; exact hnw3
  · by_cases htl : t < kE.length
    · have g1 : gE (kE ++ [e]) t = gE kE t := by
        unfold gE
        rw [List.getD_eq_getElem?_getD, List.getD_eq_getElem?_getD, List.getElem?_append_left htl]
      have g2 : gR (kR ++ [r]) t = gR kR t := by
        unfold gR
        rw [List.getD_eq_getElem?_getD, List.getD_eq_getElem?_getD, List.getElem?_append_left (by omega)]
      rw [g1, g2]; exact h.rd t htl
    · have hte : t = kE.length := by simp at ht; omega
      have g1 : gE (kE ++ [e]) t = e := by
        unfold gE
        rw [List.getD_eq_getElem?_getD, List.getElem?_append_right (by omega), hte, Nat.sub_self]; rfl
      have g2 : gR (kR ++ [r]) t = r := by
        unfold gR
        rw [List.getD_eq_getElem?_getD, List.getElem?_append_right (by omega), hte, hkl, Nat.sub_self]; rfl
      rw [g1, g2]; exact hr
  · rcases List.mem_append.1 hx with hx | hx
    · exact h.gd x hx
    · simp at hx; rw [hx]; exact hg
theorem St.mid {p x q : List Nat} : St (p ++ (x ++ q)) p.length x (p.length + x.length) := St.of_drop (r := q) (by simp) (by simp)
theorem fp_at {kR : List Wr} {i : Nat} (hi : i < kR.length) : fp kR = fp (kR.take i) ++ (encW (gR kR i) ++ (encSet (gR kR i).xs ++ fp (kR.drop (i + 1)))) := by
  have e1 : kR = kR.take i ++ (gR kR i :: kR.drop (i + 1)) := by
    rw [gR_eq _ _ hi, ← List.drop_eq_getElem_cons hi, List.take_append_drop]
  have e2 := congrArg fp e1
  rw [e2]
  simp [fp, encP, List.flatMap_append]
theorem fp_take {kR : List Wr} {i : Nat} (hi : i < kR.length) : fp (kR.take (i + 1)) = fp (kR.take i) ++ (encW (gR kR i) ++ encSet (gR kR i).xs) := by
  have e1 : kR.take (i + 1) = kR.take i ++ [gR kR i] := by rw [List.take_add_one, List.getElem?_eq_getElem hi, gR_eq _ _ hi]; rfl
  rw [e1, fp_snoc]; rfl
theorem fp_256 {kR : List Wr} (h : ∀ r ∈ kR, ∀ b ∈ r.vs, b < 256) : ∀ b ∈ fp kR, b < 256 := by
  intro b hb
  obtain ⟨r, hr, hb⟩ := List.mem_flatMap.1 hb
  rcases List.mem_append.1 hb with hb | hb
  · exact encW_256 (h r hr) b hb
  · exact encSet_256 _ b hb
set_option maxHeartbeats 32000000 in
set_option maxRecDepth 100000 in
theorem parts_walk (w : World) (s : Sl) (es : List E) (rs : List Wr) (h : RWs w s es rs) (ld : Sl) (lead : List Nat) (hld : RBs w ld lead) (hll : ld.n ≤ 2000000) : Calls Try.prog 4 #[.slice s.p s.n s.c, .slice ld.p ld.n ld.c] w fun r w' => r = .returned (.bool true) ∧ Apart [] w w' := by
  obtain ⟨sp, sn, sc⟩ := s
  have HW := hid h
  have HLD := hid hld
  have hlim := h.lim
  simp only at hlim
  have HC0 := hid (alive_ok w)
  clear h hld
  by_cases h60 : sn ≤ 60
  · have h60i : ¬ ((sn : Nat) : Int) > 60 := by omega
    by_cases h1000 : ld.n ≤ 1000
    · have h1000i : ¬ ((ld.n : Nat) : Int) > 1000 := by omega
      go_enter Try.func4, Try.ntmps4
      go_wp2_with fail
      refine HC0.out.mono ?_
      rintro _ w1 ⟨rfl, ha1⟩
      have HA1 := hid ha1
      have HLD1 := hid (HLD.out.kept0 ha1)
      clear ha1
      try dsimp only
      obtain ⟨a0, w2, hrun0, hnw0, hn0⟩ := appB w1 ld lead 22 HLD1.out.rd HLD1.out.len (by omega) HLD1.out.ok
      have HRUN0 : Hid ((Builtin.append_ #[22, 22] 22 #[.slice none 0 0, .slice ld.p ld.n ld.c]).run Try.prog w1 = .ok (.slice a0.p a0.n a0.c) w2) := hrun0
      have HA2 : Hid (Apart [] w w2) := HA1.out.trans hnw0.ap
      have HP2 : Hid (PT w w2 a0 ⟨none, 0, 0⟩ lead [] []) := ⟨⟨by simpa [fp] using hnw0.from HA1.out, by simp [fp, hn0, HLD.out.len]⟩, ⟨World.ownsRow_nil _ _ _ _, by simp [Sl.v, Value.ownBlock], HA2.out⟩, rfl, rfl, fun t ht => absurd ht (by simp), by simp⟩
      clear hrun0 hnw0 hn0
      go_wp2_with (at_builtin; refine wpList_app2 rfl (.tmp 36) (.tmp 37) 22 22 rfl _ _ rfl rfl _ _ HRUN0.out ?_)
      go_loopw [6, 7, 8, 9, 10, 11, 12, 13] (fun u6 u7 u8 _ _ _ _ _ wt => ∃ (i : Nat) (a k : Sl) (kE : List E) (kR : List Wr), u6 = .slice a.p a.n a.c ∧ u7 = .slice k.p k.n k.c ∧ u8 = .int .i64 (i : Nat) ∧ i ≤ sn ∧ kE.length ≤ i ∧ PT w wt a k lead kE kR) (fun _ _ u8 _ _ _ _ _ _ => sn - (intOf u8).toNat)
      case atStart => exact ⟨0, a0, ⟨none, 0, 0⟩, [], [], rfl, rfl, rfl, Nat.zero_le _, by simp, HP2.out⟩
      case round =>
        obtain ⟨i, a, k, kE, kR, rfl, rfl, rfl, hi, hkl, hP⟩ := hrel
        have HP := hid hP
        have HAr : Hid (Apart [] w wr) := hP.ba.nw.ap
        clear hP
        by_cases hlt : i < sn
        · have hlti : ((i : Nat) : Int) < (sn : Int) := by omega
          have HWr := hid (HW.out.kept0 HAr.out)
          obtain ⟨P, o, hPp, hPl, c0, c1, c2, c3, c4, c5⟩ := HWr.out.cells i hlt
          obtain ⟨e, He⟩ : ∃ e, Hid (e = gE es i) := ⟨_, rfl⟩
          obtain ⟨r, Hr⟩ : ∃ r, Hid (r = gR rs i) := ⟨_, rfl⟩
          have HRD : Hid (Reads w e r) := by unfold Hid; rw [He.out, Hr.out]; exact HW.out.each i hlt
          rw [← He.out] at c0 c1 c2 c3 c4 c5
          obtain ⟨bg, hbg⟩ := bool_of' (GoodW r)
          have HCg := hid (good_ok wr e r (HRD.out.kept0 HAr.out) bg hbg)
          have HBG := hid hbg
          clear hbg
          simp only at hPp
          subst hPp
          go_wp2_with fail
          refine HCg.out.mono ?_
          rintro _ w3 ⟨rfl, ha3⟩
          have HA3 : Hid (Apart [] w w3) := HAr.out.trans ha3
          have HP3 := hid (HP.out.kept ha3)
          have HC3 : Hid (∀ W, Apart [] w3 W → W.cell? ⟨P, o + i * 6, none⟩ = some (.int .i64 e.n) ∧ W.cell? ⟨P, o + i * 6 + 1, none⟩ = some (.int .i64 e.c) ∧ W.cell? ⟨P, o + i * 6 + 2, none⟩ = some (.string e.k) ∧ W.cell? ⟨P, o + i * 6 + 3, none⟩ = some (.bool e.d) ∧ W.cell? ⟨P, o + i * 6 + 4, none⟩ = some (.slice e.v.p e.v.n e.v.c) ∧ W.cell? ⟨P, o + i * 6 + 5, none⟩ = some (.slice e.x.p e.x.n e.x.c)) := fun W aW => ⟨((ha3.trans aW).cell hPl (by simp)).trans c0, ((ha3.trans aW).cell hPl (by simp)).trans c1, ((ha3.trans aW).cell hPl (by simp)).trans c2, ((ha3.trans aW).cell hPl (by simp)).trans c3, ((ha3.trans aW).cell hPl (by simp)).trans c4, ((ha3.trans aW).cell hPl (by simp)).trans c5⟩
          clear ha3 c0 c1 c2 c3 c4 c5
          try dsimp only
          cases bg with
          | false =>
            go_wp2_with fail
            go_roundw
            case rel => exact ⟨i + 1, a, k, kE, kR, rfl, rfl, by go_num, by omega, by omega, HP3.out⟩
            case measure => simp [intOf]; omega
          | true =>
            have HGD : Hid (GoodW r) := HBG.out.1 rfl
            have HCt := hid (twinW_ok w3 e r (HRD.out.kept0 HA3.out))
            obtain ⟨c0, c1, c2, c3, c4, c5⟩ := HC3.out w3 (Apart.refl _ _)
            go_wp2_with fail
            refine HCt.out.mono ?_
            rintro _ w4 ⟨f, sv, sx, rfl, hL⟩
            have HS4 : Hid (Apart [] w3 w4) := hL.bv.nw.ap
            have HRD4 : Hid (Reads w4 f r) := hL.reads
            clear hL c0 c1 c2 c3 c4 c5
            have HCp := hid (putWrite_ok w4 f r HRD4.out true (by simp [HGD.out]))
            try dsimp only
            go_wp2_with fail
            refine HCp.out.mono ?_
            rintro e5 w5 hp
            obtain ⟨b5, he5, hb5⟩ := hp.yes rfl
            subst he5
            have HS5 : Hid (Apart [] w3 w5) := HS4.out.trans hp.ap
            have HB5 := hid hb5
            clear hp hb5
            try dsimp only
            have HCs : Hid (∀ W, Apart [] w3 W → Calls Try.prog 23 #[.slice e.x.p e.x.n e.x.c] W fun a w' => SpP W (r.xs ++ [mkS]) a w') := fun W aW => spansL_ok (HRD.out.kept0 (HA3.out.trans aW)).x (HRD.out.xl)
            have hxn := HRD.out.x.len
            have HXN := hid hxn
            clear hxn
            go_upto_region 13 with fail
            have hS5 := HS5.out
            refine wp_region_held_drew (S := fun W => Apart [] w3 W) (by kernel_rfl) (hS5.trans (Apart.refl [] w5).drew) (fun hHeld => ?_)
            have HSd : Hid (Apart [] w5 w5.drew) := (Apart.refl [] w5).drew
            generalize w5.drew = wd at *
            refine wpAnyH_take (i := 0) (oi := ⟨some 62, _, _, _, _, _⟩) (v := (.slice (some ⟨P, o, none⟩) sn sc)) rfl (by kernel_rfl) (by kernel_rfl) (by kernel_rfl) (fun _ _ _ h => h) (Or.inl ⟨by rfl, ?_⟩) (by assumption) ?_
            · intro W hSW; go_simp
            simp only [Act.put, List.setIfInBounds_toArray, List.set_cons_zero, List.set_cons_succ]
            refine wpAnyH_take (i := 1) (oi := ⟨some 63, _, _, _, _, _⟩) (v := (.int .i64 (i : Nat))) rfl (by kernel_rfl) (by kernel_rfl) (by kernel_rfl) (fun _ _ _ h => h) (Or.inl ⟨by rfl, ?_⟩) (by assumption) ?_
            · intro W hSW; go_simp
            simp only [Act.put, List.setIfInBounds_toArray, List.set_cons_zero, List.set_cons_succ]
            refine wpAnyH_take (i := 2) (oi := ⟨some 64, _, _, _, _, _⟩) (v := (.pointer (some ⟨P, o + i * 6, none⟩))) rfl (by kernel_rfl) (by kernel_rfl) (by kernel_rfl) (fun _ _ _ h => h) (Or.inl ⟨by rfl, ?_⟩) (by assumption) ?_
            · intro W hSW; go_simp
            simp only [Act.put, List.setIfInBounds_toArray, List.set_cons_zero, List.set_cons_succ]
            refine wpAnyH_take (i := 3) (oi := ⟨some 65, _, _, _, _, _⟩) (v := (.pointer (some ⟨P, o + i * 6 + 5, none⟩))) rfl (by kernel_rfl) (by kernel_rfl) (by kernel_rfl) (fun _ _ _ h => h) (Or.inl ⟨by rfl, ?_⟩) (by assumption) ?_
            · intro W hSW; go_simp
            simp only [Act.put, List.setIfInBounds_toArray, List.set_cons_zero, List.set_cons_succ]
            refine wpAnyH_take (i := 4) (oi := ⟨some 66, _, _, _, _, _⟩) (v := (.slice e.x.p e.x.n e.x.c)) rfl (by kernel_rfl) (by kernel_rfl) (by kernel_rfl) (fun _ _ _ h => h) (Or.inl ⟨by rfl, ?_⟩) (by assumption) ?_
            · intro W hSW; obtain ⟨c0, c1, c2, c3, c4, c5⟩ := HC3.out W hSW; go_simp
            simp only [Act.put, List.setIfInBounds_toArray, List.set_cons_zero, List.set_cons_succ]
            refine wpAnyH_take (i := 6) (oi := ⟨some 68, _, _, _, _, _⟩) (v := (.slice (some ⟨P, o, none⟩) sn sc)) rfl (by kernel_rfl) (by kernel_rfl) (by kernel_rfl) (fun _ _ _ h => h) (Or.inl ⟨by rfl, ?_⟩) (by assumption) ?_
            · intro W hSW; go_simp
            simp only [Act.put, List.setIfInBounds_toArray, List.set_cons_zero, List.set_cons_succ]
            refine wpAnyH_take (i := 7) (oi := ⟨some 69, _, _, _, _, _⟩) (v := (.int .i64 (i : Nat))) rfl (by kernel_rfl) (by kernel_rfl) (by kernel_rfl) (fun _ _ _ h => h) (Or.inl ⟨by rfl, ?_⟩) (by assumption) ?_
            · intro W hSW; go_simp
            simp only [Act.put, List.setIfInBounds_toArray, List.set_cons_zero, List.set_cons_succ]
            refine wpAnyH_take (i := 8) (oi := ⟨some 70, _, _, _, _, _⟩) (v := (.pointer (some ⟨P, o + i * 6, none⟩))) rfl (by kernel_rfl) (by kernel_rfl) (by kernel_rfl) (fun _ _ _ h => h) (Or.inl ⟨by rfl, ?_⟩) (by assumption) ?_
            · intro W hSW; go_simp
            simp only [Act.put, List.setIfInBounds_toArray, List.set_cons_zero, List.set_cons_succ]
            refine wpAnyH_take (i := 9) (oi := ⟨some 71, _, _, _, _, _⟩) (v := (.pointer (some ⟨P, o + i * 6 + 5, none⟩))) rfl (by kernel_rfl) (by kernel_rfl) (by kernel_rfl) (fun _ _ _ h => h) (Or.inl ⟨by rfl, ?_⟩) (by assumption) ?_
            · intro W hSW; go_simp
            simp only [Act.put, List.setIfInBounds_toArray, List.set_cons_zero, List.set_cons_succ]
            refine wpAnyH_take (i := 10) (oi := ⟨some 72, _, _, _, _, _⟩) (v := (.slice e.x.p e.x.n e.x.c)) rfl (by kernel_rfl) (by kernel_rfl) (by kernel_rfl) (fun _ _ _ h => h) (Or.inl ⟨by rfl, ?_⟩) (by assumption) ?_
            · intro W hSW; obtain ⟨c0, c1, c2, c3, c4, c5⟩ := HC3.out W hSW; go_simp
            simp only [Act.put, List.setIfInBounds_toArray, List.set_cons_zero, List.set_cons_succ]
            refine wpAnyH_take (i := 11) (oi := ⟨some 73, _, _, _, _, _⟩) (v := (.int .i64 (e.x.n : Nat))) rfl (by kernel_rfl) (by kernel_rfl) (by kernel_rfl) (fun _ _ _ h => h) (Or.inl ⟨by rfl, ?_⟩) (by assumption) ?_
            · intro W hSW; go_simp
            simp only [Act.put, List.setIfInBounds_toArray, List.set_cons_zero, List.set_cons_succ]
            refine wpAnyH_ready (rs := [5]) (by kernel_rfl) (by simp) ?_
            refine AllReadyH.cons rfl (fun KK hKK => ?_) AllReadyH.nil
            go_simp
            refine (HCs.out _ hHeld).mono ?_
            rintro _ w6 ⟨t6, rfl, hs6⟩
            have hS6 : Apart [] w3 w6 := hHeld.trans hs6.nw.ap
            have HS6 : Hid (Apart [] wd w6) := hs6.nw.ap
            obtain ⟨hcap6, g6, hp6⟩ := hs6.cap
            rw [HXN.out] at hcap6
            have HL6 : Hid (L w6 t6.p e.x.n r.xs) := by
              have := hs6.nw.rd
              rw [flat_snoc] at this
              exact ⟨Sp.of_rd this.pre, HXN.out, by have := HRD.out.xl; omega, fun y hy => hs6.fit y (List.mem_append_left _ hy)⟩
            obtain ⟨tp, tn, tc⟩ := t6
            simp only at hp6 hcap6 HL6
            subst hp6
            have hcap6i : ((e.x.n : Nat) : Int) ≤ (tc : Int) := by omega
            clear hs6 hcap6
            try dsimp only
            refine hKK.out _ _ hS6 (fun hHeld => ?_)
            clear hKK KK
            refine wpAnyH_take (i := 12) (oi := ⟨some 74, _, _, _, _, _⟩) (v := (.slice (some ⟨g6, 0, none⟩) e.x.n tc)) rfl (by kernel_rfl) (by kernel_rfl) (by kernel_rfl) (fun _ _ _ h => h) (Or.inl ⟨by rfl, ?_⟩) (by assumption) ?_
            · intro W hSW; go_simp
            simp only [Act.put, List.setIfInBounds_toArray, List.set_cons_zero, List.set_cons_succ]
            refine wpAnyH_ready (rs := [13]) (by kernel_rfl) (by simp) ?_
            refine AllReadyH.cons rfl (fun KK hKK => ?_) AllReadyH.nil
            go_simp
            refine (putSet_ok w6 _ _ tc r.xs HL6.out true (by simp [HGD.out.ctx])).mono ?_
            rintro e8 w8 hp8
            obtain ⟨s8, he8, hb8⟩ := hp8.yes rfl
            subst he8
            have hS8 : Apart [] w3 w8 := hHeld.trans hp8.ap
            have HS68 := hid hp8.ap
            have HBs0 := hid hb8
            clear hp8 hb8
            try dsimp only
            refine hKK.out _ _ hS8 (fun hHeld => ?_)
            clear hKK KK
            refine wpAnyH_take (i := 14) (oi := ⟨some 61, _, _, _, _, _⟩) (v := (.tuple #[.slice s8.p s8.n s8.c, .int .i64 0])) rfl (by kernel_rfl) (by kernel_rfl) (by kernel_rfl) (fun _ _ _ h => h) (Or.inl ⟨by rfl, ?_⟩) (by assumption) ?_
            · intro W hSW; go_simp
            simp only [Act.put, List.setIfInBounds_toArray, List.set_cons_zero, List.set_cons_succ]
            refine wpAnyH_take (i := 15) (oi := ⟨some 76, _, _, _, _, _⟩) (v := (.slice s8.p s8.n s8.c)) rfl (by kernel_rfl) (by kernel_rfl) (by kernel_rfl) (fun _ _ _ h => h) (Or.inl ⟨by rfl, ?_⟩) (by assumption) ?_
            · intro W hSW; go_simp
            simp only [Act.put, List.setIfInBounds_toArray, List.set_cons_zero, List.set_cons_succ]
            refine wpAnyH_take (i := 16) (oi := ⟨some 77, _, _, _, _, _⟩) (v := (.int .i64 0)) rfl (by kernel_rfl) (by kernel_rfl) (by kernel_rfl) (fun _ _ _ h => h) (Or.inl ⟨by rfl, ?_⟩) (by assumption) ?_
            · intro W hSW; go_simp
            simp only [Act.put, List.setIfInBounds_toArray, List.set_cons_zero, List.set_cons_succ]
            refine wpAnyH_take (i := 17) (oi := ⟨some 12, _, _, _, _, _⟩) (v := (.slice s8.p s8.n s8.c)) rfl (by kernel_rfl) (by kernel_rfl) (by kernel_rfl) (fun _ _ _ h => h) (Or.inl ⟨by rfl, ?_⟩) (by assumption) ?_
            · intro W hSW; go_simp
            simp only [Act.put, List.setIfInBounds_toArray, List.set_cons_zero, List.set_cons_succ]
            refine wpAnyH_take (i := 18) (oi := ⟨some 13, _, _, _, _, _⟩) (v := (.int .i64 0)) rfl (by kernel_rfl) (by kernel_rfl) (by kernel_rfl) (fun _ _ _ h => h) (Or.inl ⟨by rfl, ?_⟩) (by assumption) ?_
            · intro W hSW; go_simp
            simp only [Act.put, List.setIfInBounds_toArray, List.set_cons_zero, List.set_cons_succ]
            refine wpAnyH_done (by kernel_rfl) ?_ _
            have HS8 := hid hHeld
            have h58 : Apart [] w5 w8 := (HSd.out.trans HS6.out).trans HS68.out
            have HBb : Hid (RBs w8 b5 (encW r)) := (HB5.out.kept h58).rbs (encW_256 HRD.out.vb)
            have HBs : Hid (RBs w8 s8 (encSet r.xs)) := HBs0.out.rbs (encSet_256 _)
            have HOb : Hid (∀ P' o', b5.p = some ⟨P', o', none⟩ → some P' ≠ a.v.ownBlock) := fun P' o' hp' hh => by
              have h1 := HB5.out.nw.new P' (by unfold Sl.v; rw [hp']; rfl)
              have h2 := (HP3.out.ba.nw.own.lt P' hh.symm).2
              have h3 := HS4.out.size
              omega
            have HOs : Hid (∀ P' o', s8.p = some ⟨P', o', none⟩ → some P' ≠ a.v.ownBlock ∧ P' < w8.heap.size) := fun P' o' hp' => ⟨fun hh => by
              have h1 := HBs0.out.nw.new P' (by unfold Sl.v; rw [hp']; rfl)
              have h2 := (HP3.out.ba.nw.own.lt P' hh.symm).2
              have h3 := (HS5.out.trans (HSd.out.trans HS6.out)).size
              omega, (HBs0.out.nw.own.lt P' (by unfold Sl.v; rw [hp']; rfl)).2⟩
            clear h58 hS5 hS6 hS8 hHeld
            go_upto_region 16 with fail
            obtain ⟨a1, W1, a2, W2, k2, W3, hr1, hr2, hr3, hap2, hP4⟩ := (HP3.out.kept HS8.out).step (by rw [HLD.out.len]; exact h1000) (by omega) e r HRD.out HGD.out HBb.out HBs.out HOb.out HOs.out
            have HRUN1 := hid hr1
            have HRUN2 := hid hr2
            have HRUN3 := hid hr3
            have HP4 := hid hP4
            have HAW2 := hid hap2
            have HPL : Hid (P < w.heap.size) := by
              obtain ⟨P', o', hp', hPl', _⟩ := HW.out.cells i hlt
              simp at hp'
              unfold Hid
              rw [hp'.1]; exact hPl'
            clear hr1 hr2 hr3 hP4 hap2
            have HCw : Hid (W2.cell? ⟨P, o + i * 6, none⟩ = some (.int .i64 e.n) ∧ W2.cell? ⟨P, o + i * 6 + 1, none⟩ = some (.int .i64 e.c) ∧ W2.cell? ⟨P, o + i * 6 + 2, none⟩ = some (.string e.k) ∧ W2.cell? ⟨P, o + i * 6 + 3, none⟩ = some (.bool e.d) ∧ W2.cell? ⟨P, o + i * 6 + 4, none⟩ = some (.slice e.v.p e.v.n e.v.c) ∧ W2.cell? ⟨P, o + i * 6 + 5, none⟩ = some (.slice e.x.p e.x.n e.x.c)) := by
              obtain ⟨P', o', hp', hPl', d0, d1, d2, d3, d4, d5⟩ := (HW.out.kept0 HAW2.out).cells i hlt
              simp at hp'
              obtain ⟨rfl, rfl⟩ := hp'
              rw [← He.out] at d0 d1 d2 d3 d4 d5
              exact ⟨d0, d1, d2, d3, d4, d5⟩
            go_upto_region 17 with (at_builtin; refine wpList_app2 rfl (.tmp 84) (.tmp 85) 22 22 rfl _ _ rfl rfl _ _ HRUN1.out ?_)
            go_upto_region 18 with (at_builtin; refine wpList_app2 rfl (.tmp 87) (.tmp 88) 22 22 rfl _ _ rfl rfl _ _ HRUN2.out ?_)
            obtain ⟨c0, c1, c2, c3, c4, c5⟩ := HCw.out
            go_wp2_with (at_builtin; refine wpList_app2 rfl (.tmp 90) (.tmp 95) 27 27 rfl _ _ rfl rfl _ _ HRUN3.out ?_)
            go_roundw
            case rel => exact ⟨i + 1, a2, k2, kE ++ [e], kR ++ [r], rfl, rfl, by go_num, by omega, by rw [List.length_append]; simp; omega, HP4.out⟩
            case measure => simp [intOf]; omega
        · have hlti : ¬ ((i : Nat) : Int) < (sn : Int) := by omega
          have hkE : kE.length ≤ 60 := by omega
          have HKW := hid (HP.out.rws (by omega))
          have HKN := hid HP.out.kn
          have HKL := hid HP.out.kl
          have HGDS := hid HP.out.gd
          obtain ⟨B, HBB⟩ : ∃ B, Hid (B = lead ++ fp kR) := ⟨_, rfl⟩
          have H8 : Hid (∀ b ∈ B, b < 256) := by
            unfold Hid
            rw [HBB.out]
            refine app_256 HLD.out.b8 (fp_256 (fun r hr => ?_))
            obtain ⟨j, hj, rfl⟩ := List.getElem_of_mem hr
            have := (HP.out.rd j (by rw [← HKL.out]; exact hj)).vb
            rw [gR_eq _ _ hj] at this
            exact this
          have HBL : Hid (B.length ≤ 1000000) := by
            have hfl := flat_le encP 630 kR (fun x hx => by have h1 := encW_le (HGDS.out x hx); have h2 := encSet_le (HGDS.out x hx).ctx; unfold encP; rw [List.length_append]; omega)
            have h1 := HKL.out
            have h2 := HLD.out.len
            unfold Hid
            rw [HBB.out, List.length_append]
            unfold fp
            omega
          have HBA : Hid (Bf w wr a B) := by unfold Hid; rw [HBB.out]; exact HP.out.ba
          have HAN : Hid (a.n = B.length) := HBA.out.len
          have HLL : Hid (lead.length = ld.n) := HLD.out.len
          have hkn : k.n ≤ 60 := by rw [HKN.out]; exact hkE
          clear HP
          generalize wr = wo at *
          go_wp2_with fail
          go_loopw [14, 15, 16, 17, 18, 19, 20, 21] (fun u14 u15 _ _ _ _ _ _ wt => ∃ (j q : Nat), u14 = .int .i64 (q : Nat) ∧ u15 = .int .i64 (j : Nat) ∧ j ≤ k.n ∧ q = (lead ++ fp (kR.take j)).length ∧ Apart [] wo wt) (fun _ u15 _ _ _ _ _ _ _ => k.n - (intOf u15).toNat)
          case atStart => exact ⟨0, ld.n, rfl, rfl, Nat.zero_le _, by simp [fp, HLL.out], Apart.refl _ _⟩
          case round =>
            obtain ⟨j, q, rfl, rfl, hj, hq, hap⟩ := hrel
            have HQ := hid hq
            have HAt := hid hap
            clear hq hap
            by_cases hjl : j < k.n
            · have hjli : ((j : Nat) : Int) < (k.n : Int) := by omega
              have hjR : j < kR.length := by rw [HKL.out, ← HKN.out]; exact hjl
              obtain ⟨r, Hr⟩ : ∃ r, Hid (r = gR kR j) := ⟨_, rfl⟩
              have HGr : Hid (GoodW r) := by unfold Hid; rw [Hr.out, gR_eq _ _ hjR]; exact HGDS.out _ (List.getElem_mem _)
              have HB1 : Hid (B = (lead ++ fp (kR.take j)) ++ (encW r ++ (encSet r.xs ++ fp (kR.drop (j + 1))))) := by unfold Hid; rw [HBB.out, fp_at hjR, Hr.out, List.append_assoc]
              have HSt1 : Hid (St B q (encW r) (q + (encW r).length)) := by unfold Hid; rw [HB1.out, HQ.out]; exact St.mid
              obtain ⟨q1, Hq1⟩ : ∃ q1, Hid (q1 = q + (encW r).length) := ⟨_, rfl⟩
              rw [← Hq1.out] at HSt1
              have HSt2 : Hid (St B q1 (encSet r.xs) (q1 + (encSet r.xs).length)) := by
                have e1 : B = ((lead ++ fp (kR.take j)) ++ encW r) ++ (encSet r.xs ++ fp (kR.drop (j + 1))) := by rw [HB1.out]; simp only [List.append_assoc]
                have e2 : q1 = ((lead ++ fp (kR.take j)) ++ encW r).length := by rw [Hq1.out, HQ.out]; simp only [List.length_append]
                unfold Hid
                rw [e1, e2]; exact St.mid
              obtain ⟨q2, Hq2⟩ : ∃ q2, Hid (q2 = q1 + (encSet r.xs).length) := ⟨_, rfl⟩
              rw [← Hq2.out] at HSt2
              have pW : 0 < (encW r).length := by have := enc_pos r.n.toNat; unfold encW; simp only [List.length_append]; omega
              have pS : 0 < (encSet r.xs).length := by have := enc_pos r.xs.length; unfold encSet; simp only [List.length_append]; omega
              have hq1 : q < q1 := by rw [Hq1.out]; omega
              have hq2 : q1 < q2 := by rw [Hq2.out]; omega
              have hqa : q ≤ a.n := by have h1 := HSt1.out.len; have h2 := HAN.out; omega
              have hq1a : q1 ≤ a.n := by have h1 := HSt1.out.len; have h2 := HAN.out; omega
              have HR1 : Hid (rlone B q = .ok (r, q1)) := (rlone_iff H8.out q r q1).2 ⟨HGr.out, HSt1.out⟩
              have HR2 : Hid (rset B q1 = .ok (r.xs, q2)) := (rset_iff H8.out q1 r.xs q2).2 ⟨HGr.out.ctx, HSt2.out⟩
              have HNQ : Hid (q2 = (lead ++ fp (kR.take (j + 1))).length) := by
                unfold Hid
                rw [fp_take hjR, ← Hr.out, Hq2.out, Hq1.out, HQ.out]
                simp only [List.length_append]
                omega
              have HBt := hid (HBA.out.kept HAt.out)
              have HCw := hid (getWrite_ok (HBt.out.dat H8.out HBL.out) q hqa)
              have hq1i : ¬ ((q1 : Nat) : Int) ≤ (q : Int) := by omega
              have hq2i : ¬ ((q2 : Nat) : Int) ≤ (q1 : Int) := by omega
              clear pW pS
              go_wp2_with fail
              refine HCw.out.mono ?_
              rintro e3 w3 hp3
              obtain ⟨v3, he3, e, hve, hfr⟩ := hp3.ok r q1 HR1.out
              subst he3 hve
              have HS3 := hid hp3.ap
              have HRe := hid hfr.reads
              clear hp3 hfr
              unfold aggE
              try dsimp only
              obtain ⟨w4, hw4⟩ : ∃ w4, w4 = w3.alloc (.cells #[.int .i64 e.n, .int .i64 e.c, .string e.k, .bool e.d, .slice e.v.p e.v.n e.v.c, .slice e.x.p e.x.n e.x.c] 41) := ⟨_, rfl⟩
              have HS4 : Hid (Apart [] w3 w4) := by unfold Hid; rw [hw4]; exact (Apart.refl [] w3).alloc _
              have HY4 : Hid (w4.heap[w3.heap.size]? = some (.cells #[.int .i64 e.n, .int .i64 e.c, .string e.k, .bool e.d, .slice e.v.p e.v.n e.v.c, .slice e.x.p e.x.n e.x.c] 41 (0, 0))) := by unfold Hid; rw [hw4]; exact heap_alloc_new w3 _
              obtain ⟨Y, HYY⟩ : ∃ Y, Hid (Y = w3.heap.size) := ⟨_, rfl⟩
              rw [← HYY.out] at HY4
              have HAr4 : Hid (Apart [] wo w4) := (HAt.out.trans HS3.out).trans HS4.out
              have HK4 := hid (HKW.out.kept0 HAr4.out)
              obtain ⟨P, o, hPp, hPl, d0, d1, d2, d3, d4, d5⟩ := HK4.out.cells j hjl
              obtain ⟨x, Hx⟩ : ∃ x, Hid (x = gE kE j) := ⟨_, rfl⟩
              have HRx : Hid (Reads w4 x r) := by unfold Hid; rw [Hx.out, Hr.out]; exact HK4.out.each j hjl
              rw [← Hx.out] at d0 d1 d2 d3 d4 d5
              have HCC : Hid (∀ W, Apart [] w4 W → Calls Try.prog 25 #[.agg #[.int .i64 e.n, .int .i64 e.c, .string e.k, .bool e.d, .slice e.v.p e.v.n e.v.c, .slice e.x.p e.x.n e.x.c], .agg #[.int .i64 x.n, .int .i64 x.c, .string x.k, .bool x.d, .slice x.v.p x.v.n x.v.c, .slice x.x.p x.x.n x.x.c]] W fun r w' => r = .returned (.bool true) ∧ Apart [] W w') := fun W aW => sameWrite_ok e x r r ((HRe.out.kept0 HS4.out).kept0 aW) (HRx.out.kept0 aW) true (by simp)
              have HC : Hid (∀ W, Apart [] w4 W → (W.heap[Y]? = some (.cells #[.int .i64 e.n, .int .i64 e.c, .string e.k, .bool e.d, .slice e.v.p e.v.n e.v.c, .slice e.x.p e.x.n e.x.c] 41 (0, 0))) ∧ (W.cell? ⟨P, o + j * 6, none⟩ = some (.int .i64 x.n) ∧ W.cell? ⟨P, o + j * 6 + 1, none⟩ = some (.int .i64 x.c) ∧ W.cell? ⟨P, o + j * 6 + 2, none⟩ = some (.string x.k) ∧ W.cell? ⟨P, o + j * 6 + 3, none⟩ = some (.bool x.d) ∧ W.cell? ⟨P, o + j * 6 + 4, none⟩ = some (.slice x.v.p x.v.n x.v.c) ∧ W.cell? ⟨P, o + j * 6 + 5, none⟩ = some (.slice x.x.p x.x.n x.x.c))) := fun W aW => ⟨(aW.block _ (lt_of_heap HY4.out) (by simp)).trans HY4.out, (aW.cell hPl (by simp)).trans d0, (aW.cell hPl (by simp)).trans d1, (aW.cell hPl (by simp)).trans d2, (aW.cell hPl (by simp)).trans d3, (aW.cell hPl (by simp)).trans d4, (aW.cell hPl (by simp)).trans d5⟩
              clear d0 d1 d2 d3 d4 d5
              obtain ⟨kp, kn', kc⟩ := k
              simp only at hPp hjl hjli hkn hj
              subst hPp
              go_upto_region 24 with fail
              rw [← hw4, ← HYY.out]
              clear hw4
              refine wp_region_held_drew (S := fun W => Apart [] w4 W) (by kernel_rfl) (Apart.refl [] w4).drew (fun hHeld => ?_)
              generalize w4.drew = wd at *
              refine wpAnyH_take (i := 0) (oi := ⟨some 112, _, _, _, _, _⟩) (v := (.int .i64 0)) rfl (by kernel_rfl) (by kernel_rfl) (by kernel_rfl) (fun _ _ _ h => h) (Or.inl ⟨by rfl, ?_⟩) (by assumption) ?_
              · intro W hSW; go_simp
              simp only [Act.put, List.setIfInBounds_toArray, List.set_cons_zero, List.set_cons_succ]
              refine wpAnyH_take (i := 1) (oi := ⟨some 113, _, _, _, _, _⟩) (v := (.bool false)) rfl (by kernel_rfl) (by kernel_rfl) (by kernel_rfl) (fun _ _ _ h => h) (Or.inl ⟨by rfl, ?_⟩) (by assumption) ?_
              · intro W hSW; go_simp
              simp only [Act.put, List.setIfInBounds_toArray, List.set_cons_zero, List.set_cons_succ]
              refine wpAnyH_take (i := 2) (oi := ⟨some 114, _, _, _, _, _⟩) (v := (.bool false)) rfl (by kernel_rfl) (by kernel_rfl) (by kernel_rfl) (fun _ _ _ h => h) (Or.inl ⟨by rfl, ?_⟩) (by assumption) ?_
              · intro W hSW; go_simp
              simp only [Act.put, List.setIfInBounds_toArray, List.set_cons_zero, List.set_cons_succ]
              refine wpAnyH_take (i := 3) (oi := ⟨some 115, _, _, _, _, _⟩) (v := (.int .i64 (q1 : Nat))) rfl (by kernel_rfl) (by kernel_rfl) (by kernel_rfl) (fun _ _ _ h => h) (Or.inl ⟨by rfl, ?_⟩) (by assumption) ?_
              · intro W hSW; go_simp
              simp only [Act.put, List.setIfInBounds_toArray, List.set_cons_zero, List.set_cons_succ]
              refine wpAnyH_take (i := 4) (oi := ⟨some 116, _, _, _, _, _⟩) (v := (.int .i64 (q : Nat))) rfl (by kernel_rfl) (by kernel_rfl) (by kernel_rfl) (fun _ _ _ h => h) (Or.inl ⟨by rfl, ?_⟩) (by assumption) ?_
              · intro W hSW; go_simp
              simp only [Act.put, List.setIfInBounds_toArray, List.set_cons_zero, List.set_cons_succ]
              refine wpAnyH_take (i := 5) (oi := ⟨some 117, _, _, _, _, _⟩) (v := (.bool false)) rfl (by kernel_rfl) (by kernel_rfl) (by kernel_rfl) (fun _ _ _ h => h) (Or.inl ⟨by rfl, ?_⟩) (by assumption) ?_
              · intro W hSW; go_simp
              simp only [Act.put, List.setIfInBounds_toArray, List.set_cons_zero, List.set_cons_succ]
              refine wpAnyH_take (i := 6) (oi := ⟨some 118, _, _, _, _, _⟩) (v := (.bool false)) rfl (by kernel_rfl) (by kernel_rfl) (by kernel_rfl) (fun _ _ _ h => h) (Or.inl ⟨by rfl, ?_⟩) (by assumption) ?_
              · intro W hSW; go_simp
              simp only [Act.put, List.setIfInBounds_toArray, List.set_cons_zero, List.set_cons_succ]
              refine wpAnyH_take (i := 7) (oi := ⟨some 119, _, _, _, _, _⟩) (v := (.bool false)) rfl (by kernel_rfl) (by kernel_rfl) (by kernel_rfl) (fun _ _ _ h => h) (Or.inl ⟨by rfl, ?_⟩) (by assumption) ?_
              · intro W hSW; go_simp
              simp only [Act.put, List.setIfInBounds_toArray, List.set_cons_zero, List.set_cons_succ]
              refine wpAnyH_take (i := 8) (oi := ⟨some 120, _, _, _, _, _⟩) (v := (.agg #[.int .i64 e.n, .int .i64 e.c, .string e.k, .bool e.d, .slice e.v.p e.v.n e.v.c, .slice e.x.p e.x.n e.x.c])) rfl (by kernel_rfl) (by kernel_rfl) (by kernel_rfl) (fun _ _ _ h => h) (Or.inl ⟨by rfl, ?_⟩) (by assumption) ?_
              · intro W hSW; obtain ⟨hy, d0, d1, d2, d3, d4, d5⟩ := HC.out W hSW; obtain ⟨y0, y1, y2, y3, y4, y5⟩ := rowv6 hy; go_simp
              simp only [Act.put, List.setIfInBounds_toArray, List.set_cons_zero, List.set_cons_succ]
              refine wpAnyH_take (i := 9) (oi := ⟨some 121, _, _, _, _, _⟩) (v := (.slice (some ⟨P, o, none⟩) kn' kc)) rfl (by kernel_rfl) (by kernel_rfl) (by kernel_rfl) (fun _ _ _ h => h) (Or.inl ⟨by rfl, ?_⟩) (by assumption) ?_
              · intro W hSW; go_simp
              simp only [Act.put, List.setIfInBounds_toArray, List.set_cons_zero, List.set_cons_succ]
              refine wpAnyH_take (i := 10) (oi := ⟨some 122, _, _, _, _, _⟩) (v := (.int .i64 (j : Nat))) rfl (by kernel_rfl) (by kernel_rfl) (by kernel_rfl) (fun _ _ _ h => h) (Or.inl ⟨by rfl, ?_⟩) (by assumption) ?_
              · intro W hSW; go_simp
              simp only [Act.put, List.setIfInBounds_toArray, List.set_cons_zero, List.set_cons_succ]
              refine wpAnyH_take (i := 11) (oi := ⟨some 123, _, _, _, _, _⟩) (v := (.pointer (some ⟨P, o + j * 6, none⟩))) rfl (by kernel_rfl) (by kernel_rfl) (by kernel_rfl) (fun _ _ _ h => h) (Or.inl ⟨by rfl, ?_⟩) (by assumption) ?_
              · intro W hSW; go_simp
              simp only [Act.put, List.setIfInBounds_toArray, List.set_cons_zero, List.set_cons_succ]
              refine wpAnyH_take (i := 12) (oi := ⟨some 124, _, _, _, _, _⟩) (v := (.agg #[.int .i64 x.n, .int .i64 x.c, .string x.k, .bool x.d, .slice x.v.p x.v.n x.v.c, .slice x.x.p x.x.n x.x.c])) rfl (by kernel_rfl) (by kernel_rfl) (by kernel_rfl) (fun _ _ _ h => h) (Or.inl ⟨by rfl, ?_⟩) (by assumption) ?_
              · intro W hSW; obtain ⟨hy, d0, d1, d2, d3, d4, d5⟩ := HC.out W hSW; obtain ⟨y0, y1, y2, y3, y4, y5⟩ := rowv6 hy; go_simp
              simp only [Act.put, List.setIfInBounds_toArray, List.set_cons_zero, List.set_cons_succ]
              refine wpAnyH_ready (rs := [13]) (by kernel_rfl) (by simp) ?_
              refine AllReadyH.cons rfl (fun KK hKK => ?_) AllReadyH.nil
              go_simp
              refine (HCC.out _ hHeld).mono ?_
              rintro _ w5 ⟨rfl, a5⟩
              have hS5 : Apart [] w4 w5 := hHeld.trans a5
              clear a5
              try dsimp only
              refine hKK.out _ _ hS5 (fun hHeld => ?_)
              clear hKK KK
              refine wpAnyH_take (i := 14) (oi := ⟨some 126, _, _, _, _, _⟩) (v := (.bool false)) rfl (by kernel_rfl) (by kernel_rfl) (by kernel_rfl) (fun _ _ _ h => h) (Or.inl ⟨by rfl, ?_⟩) (by assumption) ?_
              · intro W hSW; go_simp
              simp only [Act.put, List.setIfInBounds_toArray, List.set_cons_zero, List.set_cons_succ]
              refine wpAnyH_take (i := 15) (oi := ⟨some 127, _, _, _, _, _⟩) (v := (.bool false)) rfl (by kernel_rfl) (by kernel_rfl) (by kernel_rfl) (fun _ _ _ h => h) (Or.inl ⟨by rfl, ?_⟩) (by assumption) ?_
              · intro W hSW; go_simp
              simp only [Act.put, List.setIfInBounds_toArray, List.set_cons_zero, List.set_cons_succ]
              refine wpAnyH_done (by kernel_rfl) ?_ _
              have HS5 := hid hHeld
              have HCg2 := hid (getSet_ok ((HBA.out.kept (HAr4.out.trans hHeld)).dat H8.out HBL.out) q1 hq1a)
              have HC5 := HC.out _ hHeld
              have HRx5 := hid (HRx.out.kept0 hHeld)
              clear hHeld
              go_wp2_with fail
              refine HCg2.out.mono ?_
              rintro e6 w6 hp6
              obtain ⟨v6, he6, hv6⟩ := hp6.ok r.xs q2 HR2.out
              obtain ⟨s6, hvs, hn6, hl6, hf6⟩ := hv6
              subst he6 hvs
              have HS6 := hid hp6.ap
              have HL6 : Hid (L w6 s6.p s6.n r.xs) := VSet.L hn6 hl6 hf6 (by have := HGr.out.ctx.le8; omega)
              have HCs := hid (sameSet_ok (c := s6.c) (d := x.x.c) HL6.out (HRx5.out.kept0 hp6.ap).x true (by simp))
              have d5 : w6.cell? ⟨P, o + j * 6 + 5, none⟩ = some (.slice x.x.p x.x.n x.x.c) := ((HC.out w6 (HS5.out.trans hp6.ap)).2).2.2.2.2.2
              clear hp6 hn6 hl6 hf6 HC5
              try dsimp only
              go_wp2_with fail
              refine HCs.out.mono ?_
              rintro _ w7 ⟨rfl, ha7⟩
              have HA7 : Hid (Apart [] wo w7) := (HAr4.out.trans HS5.out).trans (HS6.out.trans ha7)
              clear ha7 d5
              try dsimp only
              go_wp2_with fail
              go_roundw
              case rel => exact ⟨j + 1, q2, rfl, by go_num, by omega, HNQ.out, HA7.out⟩
              case measure => simp [intOf]; omega
            · have hjli : ¬ ((j : Nat) : Int) < (k.n : Int) := by omega
              have hqe : ((q : Nat) : Int) = (a.n : Int) := by
                have h1 := HQ.out
                rw [List.take_of_length_le (by have := HKL.out; have := HKN.out; omega), ← HBB.out] at h1
                have h2 := HAN.out
                omega
              have HQE := hid hqe
              have hqb : (((q : Nat) : Int) == (a.n : Int)) = true := by simp; omega
              clear hqe
              go_wp2_with fail
              go_ret
              exact ⟨by first | rfl | (have h := HQE.out; simp [h]), HAr.out.trans HAt.out⟩
    · have h1000i : ((ld.n : Nat) : Int) > 1000 := by omega
      go_enter Try.func4, Try.ntmps4
      go_wp2_with fail
      refine HC0.out.mono ?_
      rintro _ w1 ⟨rfl, ha1⟩
      have HA1 := hid ha1
      clear ha1
      try dsimp only
      go_wp2_with fail
      go_ret
      exact ⟨rfl, HA1.out⟩
  · have h60i : ((sn : Nat) : Int) > 60 := by omega
    go_enter Try.func4, Try.ntmps4
    go_wp2_with fail
    refine HC0.out.mono ?_
    rintro _ w1 ⟨rfl, ha1⟩
    have HA1 := hid ha1
    clear ha1
    try dsimp only
    go_wp2_with fail
    go_ret
    exact ⟨rfl, HA1.out⟩
end Go.Proofs.Ytddffdcjhleejaa.ds
