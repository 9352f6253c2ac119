import Derived.Test.YtpddokbjjhbfgaaGreatX4
import Derived.Test.YtpddokbjjhbfgaaGreatU38
namespace Go.Proofs.YtpddokbjjhbfgaaGreat.ds
open Go.ChangeShapes Go.WideShapes Go.ChangeAt Go.RowKit Go.Sort
set_option linter.unusedVariables false
set_option linter.unusedSimpArgs false
theorem Ln.from {w0 w W : World} {e : E} {r : Wr} {sv sx : Sl} (h : Ln w W e r sv sx) (a : Apart [] w0 w) : Ln w0 W e r sv sx := { h with bv := ⟨h.bv.nw.from a, h.bv.len⟩, bx := ⟨h.bx.nw.from a, h.bx.len, h.bx.fit⟩ }
theorem wrR_congr {e e' : E} (hn : e.n = e'.n) (hc : e.c = e'.c) (hk : e.k = e'.k) (hd : e.d = e'.d) (hv : e.v.n = e'.v.n) (c : Cf) (xs : List S) : wrR c e xs = wrR c e' xs := by unfold wrR; rw [hn, hc, hk, hd, hv]
theorem wroteH_congr {e e' : E} (hn : e.n = e'.n) (hc : e.c = e'.c) (l : List Dt) (xs : List S) : wroteH l e xs = wroteH l e' xs := by unfold wroteH dotE; rw [hn, hc]
theorem WroteP.ret {w w' : World} {G : Gs} {c : Cf} {nn rr pp : Nat} {lk : List Int} {f : ByteArray → Sg} {N : Nat} {v : Bool} {e : E} {xs : List S} {r : Ending} (h : WroteP w G c nn rr pp lk f N v e xs r w') : r = .returned (.int .i64 (if v then 0 else 52)) ∧ Apart [G.M] w w' := by
  cases v with
  | false => exact ⟨(h.1 rfl).1, (h.1 rfl).2.mono (by simp)⟩
  | true => obtain ⟨h1, G', -, h3⟩ := h.2 rfl; exact ⟨h1, h3.ap⟩
theorem RWroteP.ret {w w' : World} {T : Ts} {c : Cf} {nn rr pp : Nat} {lk : List Int} {f : ByteArray → Sg} {N : Nat} {v : Bool} {e : E} {xs : List S} {r : Ending} (h : RWroteP w T c nn rr pp lk f N v e xs r w') : r = .returned (.int .i64 (if v then 0 else 52)) ∧ Apart (T.S :: T.q.v.ownBlock.toList) w w' := by
  cases v with
  | false => exact ⟨(h.1 rfl).1, (h.1 rfl).2.mono (by simp)⟩
  | true => obtain ⟨h1, T', -, h3⟩ := h.2 rfl; exact ⟨h1, h3.ap⟩
theorem Ts.tX (T : Ts) : ∀ x ∈ T.S :: T.q.v.ownBlock.toList, T.has x := fun x hx => by
  rcases List.mem_cons.1 hx with e | e
  · exact .inl e
  · exact .inr (.inr (.inr (.inl (by simpa using e))))
theorem Gs.mX (G : Gs) : ∀ x ∈ [G.M], G.has x := fun x hx => by simp at hx; exact .inr (.inr (.inr (.inl hx)))
theorem Ss.noM {w : World} {G : Gs} {c : Cf} {nn rr pp : Nat} {lk : List Int} {f : ByteArray → Sg} {N : Nat} (h : Ss w G c nn rr pp lk f N) (t : TypeId) : ∀ k ∈ [G.M], ∀ cur, w.heap[k]? ≠ some (.cells cur t (0, 0)) := fun k hk cur e => by
  simp at hk
  exact h.notM e hk
theorem Rs.noT {w : World} {T : Ts} {c : Cf} {nn rr pp : Nat} {lk : List Int} {f : ByteArray → Sg} {N : Nat} (h : Rs w T c nn rr pp lk f N) {t : TypeId} (h1 : t ≠ 116) (h2 : t ≠ 151) : ∀ k ∈ T.S :: T.q.v.ownBlock.toList, ∀ cur, w.heap[k]? ≠ some (.cells cur t (0, 0)) := fun k hk cur e => by
  rcases List.mem_cons.1 hk with e2 | e2
  · rw [e2, h.blk] at e
    simp at e
    exact h1 e.2.symm
  · obtain ⟨cu, hc⟩ := own_typ h.se (show T.q.v.ownBlock = some k by simpa using e2)
    rw [hc] at e
    simp at e
    exact h2 e.2.symm
/-- a step that both took, or neither -/
theorem Pr.wrote {w w4 w5 : World} {P : Pd} {c : Cf} {nn rr pp : Nat} {lk : List Int} {f : ByteArray → Sg} {N : Nat} (h : Pr w P c nn rr pp lk f N) {v : Bool} {eL e : E} {xs : List S} (hn : eL.n = e.n) (hc : eL.c = e.c) (hk : eL.k = e.k) {r1 r2 : Ending} {W0 W1 : World} (a0 : Apart [] w W0) (h1 : WroteP W0 P.G c nn rr pp lk f N v eL xs r1 w4) (a1 : Apart [] w4 W1) (h2 : RWroteP W1 P.T c nn rr pp lk f N v e xs r2 w5) : ∃ P' f', Pr w5 P' c nn rr pp lk f' (N + 1) ∧ Stp W0 w5 P P' := by
  have h0 := h.kept0 a0
  cases v with
  | false =>
    have b := ((h1.1 rfl).2.trans a1).trans (h2.1 rfl).2
    have hp := h0.kept0 b
    exact ⟨P, f, { hp with s := hp.s.mono (by omega), r := hp.r.mono (by omega) }, Stp.of0 b P⟩
  | true =>
    obtain ⟨-, G', hs, hwp⟩ := h1.2 rfl
    obtain ⟨-, T', hr, htp⟩ := h2.2 rfl
    rw [← hk, ← wroteH_congr hn hc] at hr
    obtain ⟨hp, hst⟩ := h0.step (hs.kept0 a1) hwp.S (hwp.ap.trans (a1.mono (by simp))) (Gs.mX _) hwp.new hr htp
    exact ⟨_, _, hp, hst⟩
set_option maxHeartbeats 16000000 in
set_option maxRecDepth 100000 in
theorem played_3 {w : World} {P : Pd} {c : Cf} {nn rr pp : Nat} {lk : List Int} {f : ByteArray → Sg} {N : Nat} (h : Pr w P c nn rr pp lk f N) (hc : CR c = true) (hN : N ≤ 1400000) {wB : World} (hB : Apart [] wB w) (hPB : ∀ k, P.has k → wB.heap.size ≤ k) (o : Opd) (ho : OpAt wB o) (hk : o.kind = 3) : Calls Tryz.prog 51 #[.pointer (some ⟨P.B, 0, none⟩), .agg o.c] w fun r w' => StepP w P c nn rr pp (N + 1) r w' := by
  have HP := hid h
  have HO := hid ho
  have HPB := hid hPB
  obtain ⟨O, HXO⟩ : ∃ X, Hid (X = w.heap.size) := ⟨_, hid rfl⟩
  obtain ⟨w1, hw1⟩ : ∃ V, V = w.alloc (.cells o.c 41) := ⟨_, rfl⟩
  have a1 : Apart [] w w1 := by rw [hw1]; exact (Apart.refl [] w).alloc _
  have hO1 : w1.heap[O]? = some (.cells o.c 41 (0, 0)) := by rw [hw1, HXO.out]; exact heap_alloc_new w _
  have HA1 := hid a1
  have HO1 := hid hO1
  have HNW : Hid (w.heap.size = O) := hid HXO.out.symm
  have HP1 := hid (h.kept0 a1)
  have HB1 := hid (hB.trans a1)
  have HLD := hid (lend_ok w1 o.e o.r (ho.rd.kept0 HB1.out))
  unfold Opd.c at hw1 ⊢
  rw [hk] at hw1 ⊢
  have hO1' : w1.heap[O]? = some (.cells #[.int .i64 o.who, .int .i64 3, .int .i64 o.a, .string o.key, .int .i64 o.e.n, .int .i64 o.e.c, .string o.e.k, .bool o.e.d, .slice o.e.v.p o.e.v.n o.e.v.c, .slice o.e.x.p o.e.x.n o.e.x.c, .slice o.tok.p o.tok.n o.tok.c, .slice o.ws.p o.ws.n o.ws.c] 41 (0, 0)) := by rw [hO1]; unfold Opd.c; rw [hk]
  have ck := crow hO1' 1 (.int .i64 3) rfl
  have x4 := crow hO1 4 (.int .i64 o.e.n) rfl
  have x5 := crow hO1 5 (.int .i64 o.e.c) rfl
  have x6 := crow hO1 6 (.string o.e.k) rfl
  have x7 := crow hO1 7 (.bool o.e.d) rfl
  have x8 := crow hO1 8 (.slice o.e.v.p o.e.v.n o.e.v.c) rfl
  have x9 := crow hO1 9 (.slice o.e.x.p o.e.x.n o.e.x.c) rfl
  clear a1 hO1 hO1' h hk hB ho hPB
  go_enter Tryz.func51, Tryz.ntmps51
  go_upto_region 1 with fail
  rw [← hw1, ← HXO.out]
  clear hw1 HXO
  go_wp2_with fail
  refine HLD.out.mono ?_
  rintro _ w2 ⟨⟨eL, sv, sx, rfl, hln⟩⟩
  have HLN := hid hln
  have HA2 := hid hln.bv.nw.ap
  clear hln ck x4 x5 x6 x7 x8 x9 HLD
  obtain ⟨K, HXK⟩ : ∃ X, Hid (X = w2.heap.size) := ⟨_, hid rfl⟩
  obtain ⟨w3, hw3⟩ : ∃ V, V = (w2.alloc (.cells #[.int .i64 eL.n, .int .i64 eL.c, .string eL.k, .bool eL.d, .slice eL.v.p eL.v.n eL.v.c, .slice eL.x.p eL.x.n eL.x.c] 38)).alloc (.cells #[.slice sv.p sv.n sv.c, .slice sx.p sx.n sx.c] 43) := ⟨_, rfl⟩
  have a3 : Apart [] w2 w3 := by rw [hw3]; exact ((Apart.refl [] w2).alloc _).alloc _
  have hK3 : w3.heap[K]? = some (.cells #[.int .i64 eL.n, .int .i64 eL.c, .string eL.k, .bool eL.d, .slice eL.v.p eL.v.n eL.v.c, .slice eL.x.p eL.x.n eL.x.c] 38 (0, 0)) := by
    rw [hw3, HXK.out]
    exact (((Apart.refl [] (w2.alloc (.cells #[.int .i64 eL.n, .int .i64 eL.c, .string eL.k, .bool eL.d, .slice eL.v.p eL.v.n eL.v.c, .slice eL.x.p eL.x.n eL.x.c] 38))).alloc _).block _ (by simp) (by simp)).trans (heap_alloc_new w2 _)
  have hL3 : w3.heap[K + 1]? = some (.cells #[.slice sv.p sv.n sv.c, .slice sx.p sx.n sx.c] 43 (0, 0)) := by
    rw [hw3, HXK.out]
    have := heap_alloc_new (w2.alloc (.cells #[.int .i64 eL.n, .int .i64 eL.c, .string eL.k, .bool eL.d, .slice eL.v.p eL.v.n eL.v.c, .slice eL.x.p eL.x.n eL.x.c] 38)) (.cells #[.slice sv.p sv.n sv.c, .slice sx.p sx.n sx.c] 43)
    simpa using this
  have HK3 := hid hK3
  have HL3 := hid hL3
  have HLN3 := hid (HLN.out.kept a3)
  have HLB3 := hid (HLN3.out.from HB1.out)
  have HA13 := hid (HA2.out.trans a3)
  have HA3 := hid (HA1.out.trans HA13.out)
  have HP3 := hid (HP1.out.kept0 HA13.out)
  have HO3 := hid (keep0 HA13.out HO1.out)
  have HB3 := hid (HB1.out.trans HA13.out)
  have HKN : Hid (w.heap.size ≤ K) := hid (by rw [HXK.out]; exact (HA1.out.trans HA2.out).size)
  clear a3 hK3 hL3
  try dsimp only
  go_upto_region 11 with fail
  rw [← hw3]
  try rw [← HXK.out]
  clear hw3 HXK
  have HEN : Hid (eL.n = o.e.n ∧ eL.c = o.e.c ∧ eL.k = o.e.k ∧ eL.d = o.e.d ∧ eL.v.n = o.e.v.n) := hid ⟨HLN.out.n.trans HO.out.rd.n.symm, HLN.out.c.trans HO.out.rd.c.symm, HLN.out.k.trans HO.out.rd.k.symm, HLN.out.d.trans HO.out.rd.d.symm, by rw [HLN.out.v]; exact HO.out.rd.vn⟩
  obtain ⟨v, Hv⟩ : ∃ v, Hid (v = wrR c o.e o.r.xs) := ⟨_, hid rfl⟩
  obtain ⟨er, Her⟩ : ∃ er : Int, Hid (er = if v then 0 else 52) := ⟨_, hid rfl⟩
  have HWR : Hid (∀ W, Apart [] w3 W → Calls Tryz.prog 13 #[.pointer (some ⟨P.G.S, 0, none⟩), .agg #[.int .i64 eL.n, .int .i64 eL.c, .string eL.k, .bool eL.d, .slice eL.v.p eL.v.n eL.v.c, .slice eL.x.p eL.x.n eL.x.c]] W fun r w' => WroteP W P.G c nn rr pp lk f N v eL o.r.xs r w') := fun W a => by
    have hl := HLN3.out.kept a
    have hL : L W eL.x.p eL.x.n o.r.xs := by
      rw [hl.x]
      exact hl.bx.pre hl.xl
    have := wrote_ok (HP3.out.s.kept0 a) (by omega) eL hL (by rw [HEN.out.2.2.1]; exact HO.out.ek) (by unfold dotE; rw [HEN.out.1, HEN.out.2.1]; exact HO.out.ed)
    rw [wrR_congr HEN.out.1 HEN.out.2.1 HEN.out.2.2.1 HEN.out.2.2.2.1 HEN.out.2.2.2.2, ← Hv.out] at this
    exact this
  go_cut [11] from 69 to 74 (fun s11 wx => s11 = .int .i64 er ∧ ∃ W0, Hid (Apart [] w3 W0 ∧ WroteP W0 P.G c nn rr pp lk f N v eL o.r.xs (.returned (.int .i64 er)) wx ∧ Apart [P.G.M] w3 wx))
  case first =>
    refine wp_region_held_drew (S := fun W => Apart [P.G.M] w3 W) (by kernel_rfl) (((Apart.refl [] w3).drew).mono (by simp)) (fun hHeld => ?_)
    have HAD : Hid (Apart [] w3 w3.drew) := hid ((Apart.refl [] w3).drew)
    generalize w3.drew = wd at *
    have HMC : Hid (∀ W, Apart [P.G.M] w3 W → (W.cell? ⟨P.B, 0, none⟩ = some (.pointer (some ⟨P.G.S, 0, none⟩)) ∧ W.cell? ⟨P.B, 1, none⟩ = some (.pointer (some ⟨P.T.S, 0, none⟩))) ∧ (W.cell? ⟨K, 0, none⟩ = some (.int .i64 eL.n) ∧ W.cell? ⟨K, 1, none⟩ = some (.int .i64 eL.c) ∧ W.cell? ⟨K, 2, none⟩ = some (.string eL.k) ∧ W.cell? ⟨K, 3, none⟩ = some (.bool eL.d) ∧ W.cell? ⟨K, 4, none⟩ = some (.slice eL.v.p eL.v.n eL.v.c) ∧ W.cell? ⟨K, 5, none⟩ = some (.slice eL.x.p eL.x.n eL.x.c))) := fun W a => by
      refine ⟨row2v (HP3.out.midB a (Gs.mX _)), rowv6 ((a.block K (lt_of_heap HK3.out) (fun hm => ?_)).trans HK3.out)⟩
      have h1 := HP.out.s.has_lt (Gs.mX _ K hm)
      have h2 := HKN.out
      omega
    refine tk 0 69 (.pointer (some ⟨P.B, 0, none⟩)) rfl ?_ ?_
    · intro W hSW; go_simp
    simp only [Act.put, List.setIfInBounds_toArray, List.set_cons_zero, List.set_cons_succ]
    refine tk 1 70 (.pointer (some ⟨P.B, 0, none⟩)) rfl ?_ ?_
    · intro W hSW; go_simp
    simp only [Act.put, List.setIfInBounds_toArray, List.set_cons_zero, List.set_cons_succ]
    refine tk 2 71 (.pointer (some ⟨P.B, 0, none⟩)) rfl ?_ ?_
    · intro W hSW; go_simp
    simp only [Act.put, List.setIfInBounds_toArray, List.set_cons_zero, List.set_cons_succ]
    refine tk 3 72 (.pointer (some ⟨P.G.S, 0, none⟩)) rfl ?_ ?_
    · intro W hSW; obtain ⟨⟨v0, v1⟩, u0, u1, u2, u3, u4, u5⟩ := HMC.out W hSW; go_simp
    simp only [Act.put, List.setIfInBounds_toArray, List.set_cons_zero, List.set_cons_succ]
    refine tk 4 73 (.agg #[.int .i64 eL.n, .int .i64 eL.c, .string eL.k, .bool eL.d, .slice eL.v.p eL.v.n eL.v.c, .slice eL.x.p eL.x.n eL.x.c]) rfl ?_ ?_
    · intro W hSW; obtain ⟨⟨v0, v1⟩, u0, u1, u2, u3, u4, u5⟩ := HMC.out W hSW; go_simp
    simp only [Act.put, List.setIfInBounds_toArray, List.set_cons_zero, List.set_cons_succ]
    refine wpAnyH_ready (rs := [5]) (by kernel_rfl) (by simp) ?_
    refine AllReadyH.cons rfl (fun KK hKK => ?_) AllReadyH.nil
    go_simp
    refine (HWR.out wd HAD.out).mono ?_
    intro r1 wx1 hwp
    obtain ⟨hr1, aX⟩ := hwp.ret
    rw [← Her.out] at hr1
    subst hr1
    have hHx : Apart [P.G.M] w3 wx1 := (HAD.out.mono (by simp)).trans aX
    have HZ := hid (And.intro HAD.out (And.intro hwp hHx))
    clear hwp aX
    try dsimp only
    refine hKK.out _ _ hHx (fun hHeld => ?_)
    clear hKK KK
    try simp only [Act.put, List.setIfInBounds_toArray, List.set_cons_zero, List.set_cons_succ]
    refine tk 6 11 (.int .i64 er) rfl ?_ ?_
    · intro W hSW; go_simp
    simp only [Act.put, List.setIfInBounds_toArray, List.set_cons_zero, List.set_cons_succ]
    refine wpAnyH_done (by kernel_rfl) ?_ _
    clear hHeld hHx
    go_wp2_with fail
    go_meet
    exact ⟨rfl, _, HZ⟩
  obtain ⟨rfl, W0, HZ⟩ := hcut
  generalize wc = w4 at *
  have HB4 := hid (HP3.out.midB HZ.out.2.2 (Gs.mX _))
  have HR4 := hid (HP3.out.mid HZ.out.2.2 (Gs.mX _))
  have hnG : ∀ k, w.heap.size ≤ k → k ∉ [P.G.M] := fun k hk hm => by have := HP.out.s.has_lt (Gs.mX _ k hm); omega
  have HO4 := hid ((HZ.out.2.2.block O (lt_of_heap HO3.out) (hnG O (by have := HNW.out; omega))).trans HO3.out)
  have HL4 := hid ((HZ.out.2.2.block (K + 1) (lt_of_heap HL3.out) (hnG (K + 1) (by have := HKN.out; omega))).trans HL3.out)
  have HBB4 : Hid (Apart [] wB w4) := hid (HB3.out.trans' HZ.out.2.2 (fun x hx => .inr (HPB.out x (.inr (.inl (Gs.mX _ x hx))))))
  have HLN4 : Hid (Ln wB w4 eL o.r sv sx) := hid (HLB3.out.keepT HZ.out.2.2 HBB4.out (fun k hk cur => ⟨HP3.out.s.noM 5 k hk cur, HP3.out.s.noM 94 k hk cur⟩))
  clear hnG
  go_upto_region 12 with fail
  have HRW : Hid (∀ W, Apart [] w4 W → Calls Tryz.prog 66 #[.pointer (some ⟨P.T.S, 0, none⟩), .agg #[.int .i64 o.e.n, .int .i64 o.e.c, .string o.e.k, .bool o.e.d, .slice o.e.v.p o.e.v.n o.e.v.c, .slice o.e.x.p o.e.x.n o.e.x.c]] W fun r w' => RWroteP W P.T c nn rr pp lk f N v o.e o.r.xs r w') := fun W a => by
    have := rwrote_ok (HR4.out.kept0 a) hc (by omega) o.e (HO.out.rd.kept0 (HBB4.out.trans a)).x HO.out.ek (by have := HO.out.rd.vl; omega)
    rw [← Hv.out] at this
    exact this
  go_cut [12] from 75 to 81 (fun s12 wx => s12 = .int .i64 er ∧ ∃ W1, Hid (Apart [] w4 W1 ∧ RWroteP W1 P.T c nn rr pp lk f N v o.e o.r.xs (.returned (.int .i64 er)) wx ∧ Apart (P.T.S :: P.T.q.v.ownBlock.toList) w4 wx))
  case first =>
    refine wp_region_held_drew (S := fun W => Apart (P.T.S :: P.T.q.v.ownBlock.toList) w4 W) (by kernel_rfl) (((Apart.refl [] w4).drew).mono (by simp)) (fun hHeld => ?_)
    have HAD : Hid (Apart [] w4 w4.drew) := hid ((Apart.refl [] w4).drew)
    generalize w4.drew = wd at *
    have HMC : Hid (∀ W, Apart (P.T.S :: P.T.q.v.ownBlock.toList) w4 W → (W.cell? ⟨P.B, 0, none⟩ = some (.pointer (some ⟨P.G.S, 0, none⟩)) ∧ W.cell? ⟨P.B, 1, none⟩ = some (.pointer (some ⟨P.T.S, 0, none⟩))) ∧ (W.cell? ⟨O, 4, none⟩ = some (.int .i64 o.e.n) ∧ W.cell? ⟨O, 5, none⟩ = some (.int .i64 o.e.c) ∧ W.cell? ⟨O, 6, none⟩ = some (.string o.e.k) ∧ W.cell? ⟨O, 7, none⟩ = some (.bool o.e.d) ∧ W.cell? ⟨O, 8, none⟩ = some (.slice o.e.v.p o.e.v.n o.e.v.c) ∧ W.cell? ⟨O, 9, none⟩ = some (.slice o.e.x.p o.e.x.n o.e.x.c))) := fun W a => by
      have hb := (a.block O (lt_of_heap HO4.out) (fun hm => by
        have h1 := HP.out.r.has_lt (Ts.tX _ O hm)
        have h2 := HNW.out
        omega)).trans HO4.out
      exact ⟨row2v ((a.block _ (lt_of_heap HB4.out) (fun hm => HP.out.b.2 (Ts.tX _ _ hm))).trans HB4.out), crow hb 4 _ rfl, crow hb 5 _ rfl, crow hb 6 _ rfl, crow hb 7 _ rfl, crow hb 8 _ rfl, crow hb 9 _ rfl⟩
    refine tk 0 75 (.pointer (some ⟨P.B, 0, none⟩)) rfl ?_ ?_
    · intro W hSW; go_simp
    simp only [Act.put, List.setIfInBounds_toArray, List.set_cons_zero, List.set_cons_succ]
    refine tk 1 76 (.pointer (some ⟨P.B, 0, none⟩)) rfl ?_ ?_
    · intro W hSW; go_simp
    simp only [Act.put, List.setIfInBounds_toArray, List.set_cons_zero, List.set_cons_succ]
    refine tk 2 77 (.pointer (some ⟨P.B, 1, none⟩)) rfl ?_ ?_
    · intro W hSW; go_simp
    simp only [Act.put, List.setIfInBounds_toArray, List.set_cons_zero, List.set_cons_succ]
    refine tk 3 78 (.pointer (some ⟨P.T.S, 0, none⟩)) rfl ?_ ?_
    · intro W hSW; obtain ⟨⟨v0, v1⟩, u0, u1, u2, u3, u4, u5⟩ := HMC.out W hSW; go_simp
    simp only [Act.put, List.setIfInBounds_toArray, List.set_cons_zero, List.set_cons_succ]
    refine tk 4 79 (.pointer (some ⟨O, 4, none⟩)) rfl ?_ ?_
    · intro W hSW; go_simp
    simp only [Act.put, List.setIfInBounds_toArray, List.set_cons_zero, List.set_cons_succ]
    refine tk 5 80 (.agg #[.int .i64 o.e.n, .int .i64 o.e.c, .string o.e.k, .bool o.e.d, .slice o.e.v.p o.e.v.n o.e.v.c, .slice o.e.x.p o.e.x.n o.e.x.c]) rfl ?_ ?_
    · intro W hSW; obtain ⟨⟨v0, v1⟩, u0, u1, u2, u3, u4, u5⟩ := HMC.out W hSW; go_simp
    simp only [Act.put, List.setIfInBounds_toArray, List.set_cons_zero, List.set_cons_succ]
    refine wpAnyH_ready (rs := [6]) (by kernel_rfl) (by simp) ?_
    refine AllReadyH.cons rfl (fun KK hKK => ?_) AllReadyH.nil
    go_simp
    refine (HRW.out wd HAD.out).mono ?_
    intro r1 wx1 hwp
    obtain ⟨hr1, aX⟩ := hwp.ret
    rw [← Her.out] at hr1
    subst hr1
    have hHx : Apart (P.T.S :: P.T.q.v.ownBlock.toList) w4 wx1 := (HAD.out.mono (by simp)).trans aX
    have HZ2 := hid (And.intro HAD.out (And.intro hwp hHx))
    clear hwp aX
    try dsimp only
    refine hKK.out _ _ hHx (fun hHeld => ?_)
    clear hKK KK
    try simp only [Act.put, List.setIfInBounds_toArray, List.set_cons_zero, List.set_cons_succ]
    refine tk 7 12 (.int .i64 er) rfl ?_ ?_
    · intro W hSW; go_simp
    simp only [Act.put, List.setIfInBounds_toArray, List.set_cons_zero, List.set_cons_succ]
    refine wpAnyH_done (by kernel_rfl) ?_ _
    clear hHeld hHx
    go_wp2_with fail
    go_meet
    exact ⟨rfl, _, HZ2⟩
  obtain ⟨rfl, W1, HZ2⟩ := hcut
  generalize wc = w5 at *
  have hnT : ∀ k, w.heap.size ≤ k → k ∉ P.T.S :: P.T.q.v.ownBlock.toList := fun k hk hm => by have := HP.out.r.has_lt (Ts.tX _ k hm); omega
  have HO5 := hid ((HZ2.out.2.2.block O (lt_of_heap HO4.out) (hnT O (by have := HNW.out; omega))).trans HO4.out)
  have HL5 := hid ((HZ2.out.2.2.block (K + 1) (lt_of_heap HL4.out) (hnT (K + 1) (by have := HKN.out; omega))).trans HL4.out)
  have HBB5 : Hid (Apart [] wB w5) := hid (HBB4.out.trans' HZ2.out.2.2 (fun x hx => .inr (HPB.out x (.inr (.inr (Ts.tX _ x hx))))))
  have HLN5 : Hid (Ln wB w5 eL o.r sv sx) := hid (HLN4.out.keepT HZ2.out.2.2 HBB5.out (fun k hk cur => ⟨HR4.out.noT (by decide) (by decide) k hk cur, HR4.out.noT (by decide) (by decide) k hk cur⟩))
  clear hnT
  obtain ⟨P', f', hp, hst⟩ := HP3.out.wrote HEN.out.1 HEN.out.2.1 HEN.out.2.2.1 HZ.out.1 HZ.out.2.1 HZ2.out.1 HZ2.out.2.1
  have HPP := hid hp
  have HST : Hid (Stp w3 w5 P P') := hid (Stp.pre0 HZ.out.1 hst)
  have HBK := hid (back_ok HLN5.out (HO.out.rd.kept0 HBB5.out))
  clear hp hst
  have hee : (er == er) = true := by simp
  have x4 := crow HO5.out 4 (.int .i64 o.e.n) rfl
  have x5 := crow HO5.out 5 (.int .i64 o.e.c) rfl
  have x6 := crow HO5.out 6 (.string o.e.k) rfl
  have x7 := crow HO5.out 7 (.bool o.e.d) rfl
  have x8 := crow HO5.out 8 (.slice o.e.v.p o.e.v.n o.e.v.c) rfl
  have x9 := crow HO5.out 9 (.slice o.e.x.p o.e.x.n o.e.x.c) rfl
  obtain ⟨l0, l1⟩ := row2v HL5.out
  go_wp2_with fail
  refine HBK.out.mono ?_
  rintro _ w6 ⟨rfl, a6⟩
  have HE : Hid (StepP w P c nn rr pp (N + 1) (.returned (.bool true)) w6) := by
    have hlo : ∀ y ∈ sv.v.ownBlock.toList ++ sx.v.ownBlock.toList, w1.heap.size ≤ y ∧ y < w3.heap.size := fun y hy => by
      rcases List.mem_append.1 hy with hy | hy
      · have h1 := HLN3.out.bv.nw.own_p (show sv.v.ownBlock = some y by simpa using hy); exact h1.2
      · have h1 := HLN3.out.bx.nw.own_p (show sx.v.ownBlock = some y by simpa using hy); exact h1.2
    have h1s := HA1.out.size
    refine hid ⟨rfl, P', lk, f', HPP.out.kept (fun k hk hh => a6.block k hk (fun hm => ?_)), Stp.pre0 HA3.out (HST.out) |>.post a6 (fun y hy => Nat.le_trans h1s (hlo y hy).1)⟩
    have h2 := hlo k hm
    rcases HST.out.new k hh with h3 | h3
    · have := HP.out.has_lt h3; omega
    · omega
  clear a6 x4 x5 x6 x7 x8 x9 l0 l1
  try dsimp only
  go_wp2_with fail
  go_ret
  exact HE.out
end Go.Proofs.YtpddokbjjhbfgaaGreat.ds
