import Derived.Test.YtpddokbjjhbfgaaGreatX8
import Derived.Test.YtpddokbjjhbfgaaGreatX4
namespace Go.Proofs.YtpddokbjjhbfgaaGreat.ds
open Go.ChangeShapes Go.WideShapes Go.ChangeAt Go.RowKit Go.Sort
set_option linter.unusedVariables false
set_option linter.unusedSimpArgs false
set_option maxHeartbeats 8000000 in
set_option maxRecDepth 100000 in
theorem played_6 {w : World} {P : Pd} {c : Cf} {nn rr pp : Nat} {lk : List Int} {f : ByteArray → Sg} {N : Nat} (h : Pr w P c nn rr pp lk f N) (o : Opd) (ho : OpAt w o) (hk : o.kind = 6) (hN : N ≤ 2000000) : Calls Tryz.prog 51 #[.pointer (some ⟨P.B, 0, none⟩), .agg o.c] w fun r w' => StepP w P c nn rr pp N r w' := by
  have HP := hid h
  have HO := hid ho
  obtain ⟨O, HXO⟩ : ∃ X, Hid (X = w.heap.size) := ⟨_, hid rfl⟩
  obtain ⟨w1, hw1⟩ : ∃ V, V = w.alloc (.cells o.c 41) := ⟨_, rfl⟩
  have a1 : Apart [] w w1 := by rw [hw1]; exact (Apart.refl [] w).alloc _
  have hO1 : w1.heap[O]? = some (.cells o.c 41 (0, 0)) := by rw [hw1, HXO.out]; exact heap_alloc_new w _
  have HA1 := hid a1
  have HO1 := hid hO1
  have HP1 := hid (h.kept0 a1)
  have HNW : Hid (w.heap.size = O) := hid HXO.out.symm
  have HPC := hid HP1.out.cells
  have HOC : Hid (∀ W, Apart [] w1 W → W.cell? ⟨O, 2, none⟩ = some (.int .i64 o.a) ∧ W.cell? ⟨O, 3, none⟩ = some (.string o.key)) := fun W a => ⟨crow (keep0 a HO1.out) 2 _ rfl, crow (keep0 a HO1.out) 3 _ rfl⟩
  unfold Opd.c at hw1 ⊢
  have ck := crow hO1 1 (.int .i64 o.kind) rfl
  rw [hk] at ck hw1 ⊢
  have x3 := crow hO1 3 (.string o.key) rfl
  have HHL := hid (headsL_ok HP1.out hN ho.key)
  clear a1 hO1 h ho hk
  go_enter Tryz.func51, Tryz.ntmps51
  go_upto_region 1 with fail
  rw [← hw1, ← HXO.out]
  clear hw1 HXO
  go_wp2_with fail
  refine HHL.out.mono ?_
  rintro _ w2 ⟨rfl, a2⟩
  have HE : Hid (StepP w P c nn rr pp N (.returned (.bool true)) w2) := hid ⟨rfl, P, lk, f, HP1.out.kept0 a2, Stp.of0 (HA1.out.trans a2) P⟩
  clear a2 ck x3
  try dsimp only
  go_wp2_with fail
  go_ret
  exact HE.out
set_option maxHeartbeats 8000000 in
set_option maxRecDepth 100000 in
theorem played_4 {w : World} {P : Pd} {c : Cf} {nn rr pp : Nat} {lk : List Int} {f : ByteArray → Sg} {N : Nat} (h : Pr w P c nn rr pp lk f N) (hc : CR c = true) (o : Opd) (hNn : N + o.ws.n ≤ 1400000) {wB : World} (hB : Apart [] wB w) (hPB : ∀ k, P.has k → wB.heap.size ≤ k) (ho : OpAt wB o) (hk : o.kind = 4) : Calls Tryz.prog 51 #[.pointer (some ⟨P.B, 0, none⟩), .agg o.c] w fun r w' => StepP w P c nn rr pp (N + o.ws.n + 1) r w' := by
  obtain ⟨O, HXO⟩ : ∃ X, Hid (X = w.heap.size) := ⟨_, hid rfl⟩
  obtain ⟨w1, hw1⟩ : ∃ V, V = w.alloc (.cells o.c 41) := ⟨_, rfl⟩
  have a1 : Apart [] w w1 := by rw [hw1]; exact (Apart.refl [] w).alloc _
  have hO1 : w1.heap[O]? = some (.cells o.c 41 (0, 0)) := by rw [hw1, HXO.out]; exact heap_alloc_new w _
  have HA1 := hid a1
  have HGL := hid (gotL_ok (h.kept0 a1) hc o hNn (hB.trans a1) hPB ho)
  obtain ⟨N', HN'⟩ : ∃ N', Hid (N' = N + o.ws.n + 1) := ⟨_, hid rfl⟩
  rw [← HN'.out] at HGL ⊢
  have x0 := crow hO1 0 (.int .i64 o.who) rfl
  have x1 := crow hO1 1 (.int .i64 4) (by rw [← hk]; rfl)
  have x2 := crow hO1 2 (.int .i64 o.a) rfl
  have x3 := crow hO1 3 (.string o.key) rfl
  have x4 := crow hO1 4 (.int .i64 o.e.n) rfl
  have x5 := crow hO1 5 (.int .i64 o.e.c) rfl
  have x6 := crow hO1 6 (.string o.e.k) rfl
  have x7 := crow hO1 7 (.bool o.e.d) rfl
  have x8 := crow hO1 8 (.slice o.e.v.p o.e.v.n o.e.v.c) rfl
  have x9 := crow hO1 9 (.slice o.e.x.p o.e.x.n o.e.x.c) rfl
  have x10 := crow hO1 10 (.slice o.tok.p o.tok.n o.tok.c) rfl
  have x11 := crow hO1 11 (.slice o.ws.p o.ws.n o.ws.c) rfl
  unfold Opd.c at hw1 HGL ⊢
  rw [hk] at hw1 HGL ⊢
  clear a1 hO1 h ho hk hc hB hPB hNn
  go_enter Tryz.func51, Tryz.ntmps51
  go_upto_region 1 with fail
  rw [← hw1, ← HXO.out]
  clear hw1 HXO
  go_wp2_with fail
  refine HGL.out.mono ?_
  rintro _ w2 ⟨rfl, P', lk', f', hp, hst⟩
  have HE : Hid (StepP w P c nn rr pp N' (.returned (.bool true)) w2) := hid ⟨rfl, P', lk', f', hp, Stp.pre0 HA1.out hst⟩
  clear hp hst x0 x1 x2 x3 x4 x5 x6 x7 x8 x9 x10 x11
  try dsimp only
  go_wp2_with fail
  go_ret
  exact HE.out
/-- a step of a script -/
theorem played_ok {w : World} {P : Pd} {c : Cf} {nn rr pp : Nat} {lk : List Int} {f : ByteArray → Sg} {N : Nat} (h : Pr w P c nn rr pp lk f N) (hc : CR c = true) (o : Opd) (hNn : N + o.ws.n ≤ 1300000) {wB : World} (hB : Apart [] wB w) (hPB : ∀ k, P.has k → wB.heap.size ≤ k) (ho : OpAt wB o) : Calls Tryz.prog 51 #[.pointer (some ⟨P.B, 0, none⟩), .agg o.c] w fun r w' => StepP w P c nn rr pp (N + o.ws.n + 1) r w' := by
  have up : ∀ {N' : Nat} {r : Ending} {w' : World}, N' ≤ N + o.ws.n + 1 → StepP w P c nn rr pp N' r w' → StepP w P c nn rr pp (N + o.ws.n + 1) r w' := fun {N' r w'} hle hs => by
    obtain ⟨e, P', lk', f', hp, hst⟩ := hs
    exact ⟨e, P', lk', f', { hp with s := hp.s.mono hle, r := hp.r.mono hle }, hst⟩
  by_cases k1 : o.kind = 1
  · exact (played_1 h hc o (ho.kept0 hB) k1).mono (fun r w' hs => up (by omega) hs)
  by_cases k2 : o.kind = 2
  · exact (played_2 h o (ho.kept0 hB) k2).mono (fun r w' hs => up (by omega) hs)
  by_cases k3 : o.kind = 3
  · exact (played_3 h hc (by omega) hB hPB o ho k3).mono (fun r w' hs => up (by omega) hs)
  by_cases k4 : o.kind = 4
  · exact played_4 h hc o (by omega) hB hPB ho k4
  by_cases k5 : o.kind = 5
  · exact (played_5 h o (ho.kept0 hB) k5 (by omega)).mono (fun r w' hs => up (by omega) hs)
  by_cases k6 : o.kind = 6
  · exact (played_6 h o (ho.kept0 hB) k6 (by omega)).mono (fun r w' hs => up (by omega) hs)
  · exact (played_0 h o (ho.kept0 hB) (fun k h1 h2 e => by omega)).mono (fun r w' hs => up (by omega) hs)
end Go.Proofs.YtpddokbjjhbfgaaGreat.ds
namespace Go.Proofs.YtpddokbjjhbfgaaGreat.ds
open Go.ChangeShapes Go.WideShapes Go.ChangeAt Go.RowKit Go.Sort
set_option linter.unusedVariables false
set_option linter.unusedSimpArgs false
theorem BegP.pr {w : World} {c : Cf} {nn rr pp j : Nat} {r : Ending} {w' : World} (h : BegP w c nn rr pp j r w') (hcn : c.n = nn) (hcr : c.r = rr) (hcp : c.p = pp) (p1 : 1 ≤ pp) (pn : pp ≤ nn) : ∃ P : Pd, r = .returned (.tuple #[.pointer (some ⟨P.B, 0, none⟩), .bool true]) ∧ Pr w' P c nn rr pp (likeL nn j nn) (fun _ => ([], 0)) 0 ∧ Apart [] w w' ∧ ∀ k, P.has k → w.heap.size ≤ k := by
  obtain ⟨x, y, w0, w1, w2, a0, h1, h2, e, hr⟩ := h
  obtain ⟨G, hG, hs, a1, gn⟩ := h1
  simp at hG
  obtain ⟨T, hT, hr2, a2, tn⟩ := h2.rs hcn hcr hcp p1 pn
  simp at hT
  have a3 : Apart [] w2 w' := by rw [e]; exact (Apart.refl [] w2).alloc _
  have hB : w'.heap[w2.heap.size]? = some (.cells #[.pointer (some ⟨x, 0, none⟩), .pointer (some ⟨y, 0, none⟩)] 78 (0, 0)) := by rw [e]; exact heap_alloc_new w2 _
  have hs2 := hs.kept0 a2
  refine ⟨⟨w2.heap.size, G, T⟩, hr, ⟨by rw [hB, hG, hT], hs2.kept0 a3, hr2.kept0 a3, fun k h1 h2 => ?_, fun h1 => ?_, fun h1 => ?_⟩, ((a0.trans a1).trans a2).trans a3, fun k hk => ?_⟩
  · have := hs.has_lt h1
    have := tn k h2
    omega
  · have := hs2.has_lt h1; exact absurd this (Nat.lt_irrefl _)
  · have := hr2.has_lt h1; exact absurd this (Nat.lt_irrefl _)
  · have s0 := a0.size
    have s1 := a1.size
    have s2 := a2.size
    rcases hk with h1 | h1 | h1
    · have h2 : k = w2.heap.size := h1
      omega
    · have := gn k h1; omega
    · have := tn k h1; omega
/-- how many writes the first steps have, and the steps -/
def sumN (os : Nat → Opd) : Nat → Nat
  | 0 => 0
  | i + 1 => sumN os i + (os i).ws.n + 1
/-- a script, as it lies -/
structure ROps (w : World) (p : Option Addr) (n : Nat) (os : Nat → Opd) : Prop where
  rd : 0 < n → ∃ P o, p = some ⟨P, o, none⟩ ∧ P < w.heap.size ∧ ∀ i, i < n → ∀ j v, (os i).c[j]? = some v → w.cell? ⟨P, o + i * 12 + j, none⟩ = some v
  at' : ∀ i, i < n → OpAt w (os i)
  sum : ∀ i, i ≤ n → i ≤ 200 → sumN os i ≤ 1300000
  lim : n ≤ 9223372036854775807
/-- two pairs of sessions -/
structure Two (w wt : World) (A B : Nat) (c : Cf) (nn rr pp N : Nat) : Prop where
  ex : ∃ (Pa Pb : Pd) (lka lkb : List Int) (fa fb : ByteArray → Sg), Pa.B = A ∧ Pb.B = B ∧ Pr wt Pa c nn rr pp lka fa N ∧ Pr wt Pb c nn rr pp lkb fb N ∧ (∀ k, Pa.has k → w.heap.size ≤ k) ∧ (∀ k, Pb.has k → w.heap.size ≤ k) ∧ ∀ k, Pa.has k → ¬ Pb.has k
  ap : Apart [] w wt
theorem Two.kept {w wt w' : World} {A B : Nat} {c : Cf} {nn rr pp N : Nat} (h : Two w wt A B c nn rr pp N) (a : Apart [] wt w') : Two w w' A B c nn rr pp N := by
  obtain ⟨Pa, Pb, lka, lkb, fa, fb, e1, e2, h1, h2, h3⟩ := h.ex
  exact ⟨⟨Pa, Pb, lka, lkb, fa, fb, e1, e2, h1.kept0 a, h2.kept0 a, h3⟩, h.ap.trans a⟩
theorem Two.symm {w wt : World} {A B : Nat} {c : Cf} {nn rr pp N : Nat} (h : Two w wt A B c nn rr pp N) : Two w wt B A c nn rr pp N := by
  obtain ⟨Pa, Pb, lka, lkb, fa, fb, e1, e2, h1, h2, h3, h4, h5⟩ := h.ex
  exact ⟨⟨Pb, Pa, lkb, lka, fb, fa, e2, e1, h2, h1, h4, h3, fun k k1 k2 => h5 k k2 k1⟩, h.ap⟩
theorem Two.mono {w wt : World} {A B : Nat} {c : Cf} {nn rr pp N N' : Nat} (h : Two w wt A B c nn rr pp N) (hn : N ≤ N') : Two w wt A B c nn rr pp N' := by
  obtain ⟨Pa, Pb, lka, lkb, fa, fb, e1, e2, h1, h2, h3⟩ := h.ex
  exact ⟨⟨Pa, Pb, lka, lkb, fa, fb, e1, e2, { h1 with s := h1.s.mono hn, r := h1.r.mono hn }, { h2 with s := h2.s.mono hn, r := h2.r.mono hn }, h3⟩, h.ap⟩
theorem Two.step {w wt : World} {A B : Nat} {c : Cf} {nn rr pp N : Nat} (h : Two w wt A B c nn rr pp N) (hc : CR c = true) {o : Opd} (ho : OpAt w o) (hN : N + o.ws.n ≤ 1300000) : Calls Tryz.prog 51 #[.pointer (some ⟨A, 0, none⟩), .agg o.c] wt fun r w' => r = .returned (.bool true) ∧ Two w w' A B c nn rr pp (N + o.ws.n + 1) := by
  obtain ⟨Pa, Pb, lka, lkb, fa, fb, rfl, rfl, h1, h2, h3, h4, h5⟩ := h.ex
  refine (played_ok h1 hc o hN h.ap h3 ho).mono (fun r w' hs => ?_)
  obtain ⟨e, P', lk', f', hp, hst⟩ := hs
  have hb : Pr w' Pb c nn rr pp lkb fb N := h2.kept (fun k hk hh => hst.off hk (fun h6 => h5 k h6 hh))
  have hap : Apart [] w w' := by
    obtain ⟨X, a, hX⟩ := hst.ap
    exact h.ap.trans' a (fun x hx => .inr (by rcases hX x hx with h6 | h6; exact h3 x h6; exact Nat.le_trans h.ap.size h6))
  refine ⟨e, ⟨P', Pb, lk', lkb, f', fb, hst.B, rfl, hp, { hb with s := hb.s.mono (by omega), r := hb.r.mono (by omega) }, fun k hk => ?_, h4, fun k hk hk2 => ?_⟩, hap⟩
  · rcases hst.new k hk with h6 | h6
    · exact h3 k h6
    · exact Nat.le_trans h.ap.size h6
  · rcases hst.new k hk with h6 | h6
    · exact h5 k h6 hk2
    · have := h2.has_lt hk2; omega
set_option maxHeartbeats 16000000 in
set_option maxRecDepth 100000 in
theorem run_ok (w : World) (s0 s1 s2 s3 s4 one two lo hi : Int) (i0 : In64 s0) (i1 : In64 s1) (i2 : In64 s2) (i3 : In64 s3) (i4 : In64 s4) (i5 : In64 one) (i6 : In64 two) {sp : Option Addr} {n sc : Nat} {os : Nat → Opd} (hs : ROps w sp n os) :
    Calls Tryz.prog 28 #[.agg #[.int .i64 s0, .int .i64 s1, .int .i64 s2, .int .i64 s3, .int .i64 s4], .int .i64 one, .int .i64 two, .slice sp n sc, .int .i64 lo, .int .i64 hi] w fun r w' => r = .returned (.bool true) ∧ Apart [] w w' := by
  obtain ⟨c, Hc⟩ : ∃ c, Hid (c = cfgC s0 s1 s2 s3 s4) := ⟨_, hid rfl⟩
  have HCR : Hid (CR c = true) := by rw [Hc.out]; exact hid (cfgC_ok _ _ _ _ _)
  obtain ⟨nn, rr, pp, hcn, hcr, hcp, b1, b2, b3, b4, b5, b6⟩ := cfg_nat HCR.out
  have HCF : Hid (∀ W, Calls Tryz.prog 10 #[.agg #[.int .i64 s0, .int .i64 s1, .int .i64 s2, .int .i64 s3, .int .i64 s4]] W fun e w' => e = .returned (.agg #[.int .i64 c.n, .int .i64 c.p, .int .i64 c.r, .int .i64 c.s, .int .i64 c.g, .int .i64 c.c, .int .i64 c.k, .int .i64 c.h, .int .i64 c.b]) ∧ Apart [] W w') := fun W => by
    have := config_ok W s0 s1 s2 s3 s4 i0 i1 i2 i3 i4
    rw [← Hc.out] at this
    exact this
  have hj : ∀ v : Int, In64 v → ∃ j : Nat, ((j : Nat) : Int) = wiI v 0 (c.n - 1) ∧ j < nn := fun v hv => ⟨(wiI v 0 (c.n - 1)).toNat, by have := wiI_lo v 0 (c.n - 1) (by omega); omega, by have := wiI_lo v 0 (c.n - 1) (by omega); omega⟩
  obtain ⟨j1, hj1, hj1n⟩ := hj one i5
  obtain ⟨j2, hj2, hj2n⟩ := hj two i6
  have HW1 : Hid (∀ W, Calls Tryz.prog 19 #[.int .i64 one, .int .i64 0, .int .i64 (c.n - 1)] W fun e w' => e = .returned (.int .i64 (j1 : Nat)) ∧ w' = W) := fun W => by
    unfold In64 at i5
    rw [hj1]
    exact within_ok W one 0 (c.n - 1) (by omega) (by omega)
  have HW2 : Hid (∀ W, Calls Tryz.prog 19 #[.int .i64 two, .int .i64 0, .int .i64 (c.n - 1)] W fun e w' => e = .returned (.int .i64 (j2 : Nat)) ∧ w' = W) := fun W => by
    unfold In64 at i6
    rw [hj2]
    exact within_ok W two 0 (c.n - 1) (by omega) (by omega)
  have HBG : Hid (∀ W (j : Nat), j < nn → Calls Tryz.prog 29 #[.agg #[.int .i64 c.n, .int .i64 c.p, .int .i64 c.r, .int .i64 c.s, .int .i64 c.g, .int .i64 c.c, .int .i64 c.k, .int .i64 c.h, .int .i64 c.b], .int .i64 (j : Nat)] W fun r w' => ∃ P : Pd, r = .returned (.tuple #[.pointer (some ⟨P.B, 0, none⟩), .bool true]) ∧ Pr w' P c nn rr pp (likeL nn j nn) (fun _ => ([], 0)) 0 ∧ Apart [] W w' ∧ ∀ k, P.has k → W.heap.size ≤ k) := fun W j hjn => (begun_ok W c HCR.out nn rr pp j hcn hcr hcp hjn).mono (fun r w' hb => hb.pr hcn hcr hcp b5 b6)
  have HJ := hid (And.intro hj1n hj2n)
  have HOS := hid hs
  have hlim := hs.lim
  obtain ⟨A, HXA⟩ : ∃ X, Hid (X = w.heap.size) := ⟨_, hid rfl⟩
  obtain ⟨w1, hw1⟩ : ∃ V, V = w.alloc (.cells #[.int .i64 s0, .int .i64 s1, .int .i64 s2, .int .i64 s3, .int .i64 s4] 23) := ⟨_, rfl⟩
  have a1 : Apart [] w w1 := by rw [hw1]; exact (Apart.refl [] w).alloc _
  have hA1 : w1.heap[A]? = some (.cells #[.int .i64 s0, .int .i64 s1, .int .i64 s2, .int .i64 s3, .int .i64 s4] 23 (0, 0)) := by rw [hw1, HXA.out]; exact heap_alloc_new w _
  have HAR := hid hA1
  have HA1 := hid a1
  have hwsub : IntKind.i64.wrap (c.n - 1) = c.n - 1 := by rw [IntKind.wrap_i64]; omega
  have HWS := hid hwsub
  clear a1 hA1 hs i0 i1 i2 i3 i4 i5 i6 hcn hcr hcp b1 b2 b3 b4 b5 b6 hwsub Hc hj hj1 hj2 hj1n hj2n
  go_enter Tryz.func28, Tryz.ntmps28
  go_upto_region 1 with fail
  rw [← hw1, ← HXA.out]
  clear hw1 HXA
  go_wp2_with fail
  refine (alive_ok w1).mono ?_
  rintro _ w2 ⟨rfl, a2⟩
  have HR2 := hid (keep0 a2 HAR.out)
  have HA2 := hid (HA1.out.trans a2)
  clear a2 HAR HA1
  have y0 := crow HR2.out 0 (.int .i64 s0) rfl
  have y1 := crow HR2.out 1 (.int .i64 s1) rfl
  have y2 := crow HR2.out 2 (.int .i64 s2) rfl
  have y3 := crow HR2.out 3 (.int .i64 s3) rfl
  have y4 := crow HR2.out 4 (.int .i64 s4) rfl
  try dsimp only
  go_wp2_with fail
  refine (HCF.out w2).mono ?_
  rintro _ w3 ⟨rfl, a3⟩
  clear y0 y1 y2 y3 y4 HCF HR2
  obtain ⟨C, HXC⟩ : ∃ X, Hid (X = w3.heap.size) := ⟨_, hid rfl⟩
  obtain ⟨w4, hw4⟩ : ∃ V, V = w3.alloc (.cells #[.int .i64 c.n, .int .i64 c.p, .int .i64 c.r, .int .i64 c.s, .int .i64 c.g, .int .i64 c.c, .int .i64 c.k, .int .i64 c.h, .int .i64 c.b] 27) := ⟨_, rfl⟩
  have a4 : Apart [] w3 w4 := by rw [hw4]; exact (Apart.refl [] w3).alloc _
  have hC4 : w4.heap[C]? = some (.cells #[.int .i64 c.n, .int .i64 c.p, .int .i64 c.r, .int .i64 c.s, .int .i64 c.g, .int .i64 c.c, .int .i64 c.k, .int .i64 c.h, .int .i64 c.b] 27 (0, 0)) := by rw [hw4, HXC.out]; exact heap_alloc_new w3 _
  have HA4 := hid (HA2.out.trans (a3.trans a4))
  have HC4 := hid hC4
  clear a3 a4 hC4 HA2
  try dsimp only
  go_upto_region 3 with fail
  rw [← hw4]
  try rw [← HXC.out]
  clear hw4 HXC
  have HCC : Hid (∀ W, Apart [] w4 W → W.cell? ⟨C, 0, none⟩ = some (.int .i64 c.n) ∧ W.cell? ⟨C, 1, none⟩ = some (.int .i64 c.p) ∧ W.cell? ⟨C, 2, none⟩ = some (.int .i64 c.r) ∧ W.cell? ⟨C, 3, none⟩ = some (.int .i64 c.s) ∧ W.cell? ⟨C, 4, none⟩ = some (.int .i64 c.g) ∧ W.cell? ⟨C, 5, none⟩ = some (.int .i64 c.c) ∧ W.cell? ⟨C, 6, none⟩ = some (.int .i64 c.k) ∧ W.cell? ⟨C, 7, none⟩ = some (.int .i64 c.h) ∧ W.cell? ⟨C, 8, none⟩ = some (.int .i64 c.b)) := fun W a => by
    have q := keep0 a HC4.out
    exact ⟨crow q 0 _ rfl, crow q 1 _ rfl, crow q 2 _ rfl, crow q 3 _ rfl, crow q 4 _ rfl, crow q 5 _ rfl, crow q 6 _ rfl, crow q 7 _ rfl, crow q 8 _ rfl⟩
  go_cut [15, 16] from 24 to 32 (fun sp s16 wx => ∃ P : Pd, sp = .pointer (some ⟨P.B, 0, none⟩) ∧ s16 = .bool true ∧ ∃ W0, Hid (Pr wx P c nn rr pp (likeL nn j1 nn) (fun _ => ([], 0)) 0 ∧ Apart [] w4 W0 ∧ Apart [] w4 W0 ∧ Apart [] W0 wx ∧ ∀ k, P.has k → W0.heap.size ≤ k))
  case first =>
    have hAd : Apart [] w4 w4.drew := (Apart.refl [] w4).drew
    refine wp_region_held_drew (S := fun W => Apart [] w4 W) (by kernel_rfl) hAd (fun hHeld => ?_)
    generalize w4.drew = wd at *
    clear hAd
    refine tk 0 24 (.agg #[.int .i64 c.n, .int .i64 c.p, .int .i64 c.r, .int .i64 c.s, .int .i64 c.g, .int .i64 c.c, .int .i64 c.k, .int .i64 c.h, .int .i64 c.b]) rfl ?_ ?_
    · intro W hSW; obtain ⟨t0, t1, t2, t3, t4, t5, t6, t7, t8⟩ := HCC.out W hSW; go_simp
    simp only [Act.put, List.setIfInBounds_toArray, List.set_cons_zero, List.set_cons_succ]
    refine tk 1 25 (.int .i64 one) rfl ?_ ?_
    · intro W hSW; go_simp
    simp only [Act.put, List.setIfInBounds_toArray, List.set_cons_zero, List.set_cons_succ]
    refine tk 2 26 (.pointer (some ⟨C, 0, none⟩)) rfl ?_ ?_
    · intro W hSW; go_simp
    simp only [Act.put, List.setIfInBounds_toArray, List.set_cons_zero, List.set_cons_succ]
    refine tk 3 27 (.int .i64 c.n) rfl ?_ ?_
    · intro W hSW; obtain ⟨t0, t1, t2, t3, t4, t5, t6, t7, t8⟩ := HCC.out W hSW; go_simp
    simp only [Act.put, List.setIfInBounds_toArray, List.set_cons_zero, List.set_cons_succ]
    refine tk 4 28 (.int .i64 (c.n - 1)) rfl ?_ ?_
    · intro W hSW; have hws := HWS.out; go_simp
    simp only [Act.put, List.setIfInBounds_toArray, List.set_cons_zero, List.set_cons_succ]
    refine wpAnyH_ready (rs := [5]) (by kernel_rfl) (by simp) ?_
    refine AllReadyH.cons rfl (fun KK hKK => ?_) AllReadyH.nil
    go_simp
    refine (HW1.out wd).mono ?_
    rintro _ wx0 ⟨rfl, hwx⟩
    rw [hwx]
    clear hwx wx0
    try dsimp only
    refine hKK.out _ _ hHeld (fun hHeld => ?_)
    clear hKK KK
    try simp only [Act.put, List.setIfInBounds_toArray, List.set_cons_zero, List.set_cons_succ]
    refine wpAnyH_ready (rs := [6]) (by kernel_rfl) (by simp) ?_
    refine AllReadyH.cons rfl (fun KK hKK => ?_) AllReadyH.nil
    go_simp
    refine (HBG.out wd j1 HJ.out.1).mono ?_
    rintro _ wx1 ⟨P, rfl, hpr, aX, hnw⟩
    have hHx := hHeld.trans aX
    have HZ := hid (And.intro hpr (And.intro hHeld (And.intro hHeld (And.intro aX hnw))))
    clear hpr aX hnw
    try dsimp only
    refine hKK.out _ _ hHx (fun hHeld => ?_)
    clear hKK KK
    try simp only [Act.put, List.setIfInBounds_toArray, List.set_cons_zero, List.set_cons_succ]
    refine tk 7 23 (.tuple #[.pointer (some ⟨P.B, 0, none⟩), .bool true]) rfl ?_ ?_
    · intro W hSW; go_simp
    simp only [Act.put, List.setIfInBounds_toArray, List.set_cons_zero, List.set_cons_succ]
    refine tk 8 31 (.pointer (some ⟨P.B, 0, none⟩)) rfl ?_ ?_
    · intro W hSW; go_simp
    simp only [Act.put, List.setIfInBounds_toArray, List.set_cons_zero, List.set_cons_succ]
    refine tk 9 32 (.bool true) rfl ?_ ?_
    · intro W hSW; go_simp
    simp only [Act.put, List.setIfInBounds_toArray, List.set_cons_zero, List.set_cons_succ]
    refine tk 10 15 (.pointer (some ⟨P.B, 0, none⟩)) rfl ?_ ?_
    · intro W hSW; go_simp
    simp only [Act.put, List.setIfInBounds_toArray, List.set_cons_zero, List.set_cons_succ]
    refine tk 11 16 (.bool true) rfl ?_ ?_
    · intro W hSW; go_simp
    simp only [Act.put, List.setIfInBounds_toArray, List.set_cons_zero, List.set_cons_succ]
    refine wpAnyH_done (by kernel_rfl) ?_ _
    clear hHeld hHx
    go_wp2_with fail
    go_meet
    exact ⟨P, rfl, rfl, _, HZ⟩
  obtain ⟨Pa, rfl, rfl, W0, HZ⟩ := hcut
  generalize wc = w5 at *
  have HA45 := hid (HZ.out.2.1.trans HZ.out.2.2.2.1)
  go_upto_region 6 with fail
  go_cut [17, 16] from 40 to 48 (fun sp s16 wx => ∃ P : Pd, sp = .pointer (some ⟨P.B, 0, none⟩) ∧ s16 = .bool true ∧ ∃ W0, Hid (Pr wx P c nn rr pp (likeL nn j2 nn) (fun _ => ([], 0)) 0 ∧ Apart [] w4 W0 ∧ Apart [] w5 W0 ∧ Apart [] W0 wx ∧ ∀ k, P.has k → W0.heap.size ≤ k))
  case first =>
    have HAD0 : Hid (Apart [] w5 w5.drew) := hid ((Apart.refl [] w5).drew)
    have hAd : Apart [] w4 w5.drew := HA45.out.trans ((Apart.refl [] w5).drew)
    refine wp_region_held_drew (S := fun W => Apart [] w4 W) (by kernel_rfl) hAd (fun hHeld => ?_)
    generalize w5.drew = wd at *
    clear hAd
    refine tk 0 40 (.agg #[.int .i64 c.n, .int .i64 c.p, .int .i64 c.r, .int .i64 c.s, .int .i64 c.g, .int .i64 c.c, .int .i64 c.k, .int .i64 c.h, .int .i64 c.b]) rfl ?_ ?_
    · intro W hSW; obtain ⟨t0, t1, t2, t3, t4, t5, t6, t7, t8⟩ := HCC.out W hSW; go_simp
    simp only [Act.put, List.setIfInBounds_toArray, List.set_cons_zero, List.set_cons_succ]
    refine tk 1 41 (.int .i64 two) rfl ?_ ?_
    · intro W hSW; go_simp
    simp only [Act.put, List.setIfInBounds_toArray, List.set_cons_zero, List.set_cons_succ]
    refine tk 2 42 (.pointer (some ⟨C, 0, none⟩)) rfl ?_ ?_
    · intro W hSW; go_simp
    simp only [Act.put, List.setIfInBounds_toArray, List.set_cons_zero, List.set_cons_succ]
    refine tk 3 43 (.int .i64 c.n) rfl ?_ ?_
    · intro W hSW; obtain ⟨t0, t1, t2, t3, t4, t5, t6, t7, t8⟩ := HCC.out W hSW; go_simp
    simp only [Act.put, List.setIfInBounds_toArray, List.set_cons_zero, List.set_cons_succ]
    refine tk 4 44 (.int .i64 (c.n - 1)) rfl ?_ ?_
    · intro W hSW; have hws := HWS.out; go_simp
    simp only [Act.put, List.setIfInBounds_toArray, List.set_cons_zero, List.set_cons_succ]
    refine wpAnyH_ready (rs := [5]) (by kernel_rfl) (by simp) ?_
    refine AllReadyH.cons rfl (fun KK hKK => ?_) AllReadyH.nil
    go_simp
    refine (HW2.out wd).mono ?_
    rintro _ wx0 ⟨rfl, hwx⟩
    rw [hwx]
    clear hwx wx0
    try dsimp only
    refine hKK.out _ _ hHeld (fun hHeld => ?_)
    clear hKK KK
    try simp only [Act.put, List.setIfInBounds_toArray, List.set_cons_zero, List.set_cons_succ]
    refine wpAnyH_ready (rs := [6]) (by kernel_rfl) (by simp) ?_
    refine AllReadyH.cons rfl (fun KK hKK => ?_) AllReadyH.nil
    go_simp
    refine (HBG.out wd j2 HJ.out.2).mono ?_
    rintro _ wx1 ⟨P, rfl, hpr, aX, hnw⟩
    have hHx := hHeld.trans aX
    have HZ := hid (And.intro hpr (And.intro hHeld (And.intro HAD0.out (And.intro aX hnw))))
    clear hpr aX hnw
    try dsimp only
    refine hKK.out _ _ hHx (fun hHeld => ?_)
    clear hKK KK
    try simp only [Act.put, List.setIfInBounds_toArray, List.set_cons_zero, List.set_cons_succ]
    refine tk 7 39 (.tuple #[.pointer (some ⟨P.B, 0, none⟩), .bool true]) rfl ?_ ?_
    · intro W hSW; go_simp
    simp only [Act.put, List.setIfInBounds_toArray, List.set_cons_zero, List.set_cons_succ]
    refine tk 8 47 (.pointer (some ⟨P.B, 0, none⟩)) rfl ?_ ?_
    · intro W hSW; go_simp
    simp only [Act.put, List.setIfInBounds_toArray, List.set_cons_zero, List.set_cons_succ]
    refine tk 9 48 (.bool true) rfl ?_ ?_
    · intro W hSW; go_simp
    simp only [Act.put, List.setIfInBounds_toArray, List.set_cons_zero, List.set_cons_succ]
    refine tk 10 17 (.pointer (some ⟨P.B, 0, none⟩)) rfl ?_ ?_
    · intro W hSW; go_simp
    simp only [Act.put, List.setIfInBounds_toArray, List.set_cons_zero, List.set_cons_succ]
    refine tk 11 16 (.bool true) rfl ?_ ?_
    · intro W hSW; go_simp
    simp only [Act.put, List.setIfInBounds_toArray, List.set_cons_zero, List.set_cons_succ]
    refine wpAnyH_done (by kernel_rfl) ?_ _
    clear hHeld hHx
    go_wp2_with fail
    go_meet
    exact ⟨P, rfl, rfl, _, HZ⟩
  obtain ⟨Pb, rfl, rfl, W1, HZ2⟩ := hcut
  generalize wc = w6 at *
  have HT0 : Hid (Two w w6 Pa.B Pb.B c nn rr pp (sumN os 0)) := by
    have h5 := HZ.out.1
    have h6 := h5.kept0 (HZ2.out.2.2.1.trans HZ2.out.2.2.2.1)
    have s1 := (HA4.out.trans HZ.out.2.1).size
    have s2 := (HA4.out.trans HZ2.out.2.1).size
    refine hid ⟨⟨Pa, Pb, _, _, _, _, rfl, rfl, h6, HZ2.out.1, fun k hk => ?_, fun k hk => ?_, fun k k1 k2 => ?_⟩, (HA4.out.trans HZ2.out.2.1).trans HZ2.out.2.2.2.1⟩
    · have := HZ.out.2.2.2.2 k hk; omega
    · have := HZ2.out.2.2.2.2 k hk; omega
    · have q1 := h5.has_lt k1
      have q2 := HZ2.out.2.2.2.2 k k2
      have q3 := HZ2.out.2.2.1.size
      omega
  generalize Pa.B = BA at *
  generalize Pb.B = BB at *
  clear HZ HZ2 HA45 HBG HW1 HW2 HC4 HCC HA4
  go_wp2_with fail
  go_loopw [18] (fun a wt => ∃ i : Nat, a = .int .i64 (i : Nat) ∧ i ≤ n ∧ i ≤ 200 ∧ Hid (Two w wt BA BB c nn rr pp (sumN os i))) (fun a _ => n - (intOf a).toNat)
  case atStart => exact ⟨0, rfl, Nat.zero_le _, Nat.zero_le _, HT0⟩
  case round =>
    obtain ⟨i, rfl, hile, hi2, HI⟩ := hrel
    generalize wr = w7 at *
    by_cases hlt : i < n
    · have hlti : ((i : Nat) : Int) < ((n : Nat) : Int) := by omega
      by_cases h200 : i < 200
      · have h200i : ((i : Nat) : Int) < 200 := by omega
        obtain ⟨Q, qo, hQ, hQl, hcell⟩ := HOS.out.rd (by omega)
        obtain ⟨o, Ho⟩ : ∃ o, Hid (o = os i) := ⟨_, hid rfl⟩
        have hcl := hcell i hlt
        rw [← Ho.out] at hcl
        have hcw : ∀ j v, o.c[j]? = some v → w7.cell? ⟨Q, qo + i * 12 + j, none⟩ = some v := fun j v hv => (HI.out.ap.cell (p := ⟨Q, qo + i * 12 + j, none⟩) hQl (by simp)).trans (hcl j v hv)
        have z0 := hcw 0 (.int .i64 o.who) rfl
        have z1 := hcw 1 (.int .i64 o.kind) rfl
        have z2 := hcw 2 (.int .i64 o.a) rfl
        have z3 := hcw 3 (.string o.key) rfl
        have z4 := hcw 4 (.int .i64 o.e.n) rfl
        have z5 := hcw 5 (.int .i64 o.e.c) rfl
        have z6 := hcw 6 (.string o.e.k) rfl
        have z7 := hcw 7 (.bool o.e.d) rfl
        have z8 := hcw 8 (.slice o.e.v.p o.e.v.n o.e.v.c) rfl
        have z9 := hcw 9 (.slice o.e.x.p o.e.x.n o.e.x.c) rfl
        have z10 := hcw 10 (.slice o.tok.p o.tok.n o.tok.c) rfl
        have z11 := hcw 11 (.slice o.ws.p o.ws.n o.ws.c) rfl
        rw [Nat.add_zero] at z0
        have HOA : Hid (OpAt w o) := hid (by rw [Ho.out]; exact HOS.out.at' i hlt)
        have HSUM : Hid (sumN os (i + 1) = sumN os i + o.ws.n + 1 ∧ sumN os (i + 1) ≤ 1300000) := hid ⟨by rw [Ho.out]; rfl, HOS.out.sum (i + 1) (by omega) (by omega)⟩
        obtain ⟨X, HXX⟩ : ∃ X, Hid (X = w7.heap.size) := ⟨_, hid rfl⟩
        obtain ⟨w8, hw8⟩ : ∃ V, V = w7.alloc (.cells o.c 41) := ⟨_, rfl⟩
        have a8 : Apart [] w7 w8 := by rw [hw8]; exact (Apart.refl [] w7).alloc _
        have hX8 : w8.heap[X]? = some (.cells o.c 41 (0, 0)) := by rw [hw8, HXX.out]; exact heap_alloc_new w7 _
        have HX8 := hid hX8
        have HT8 := hid (HI.out.kept a8)
        unfold Opd.c at hw8
        subst hQ
        clear hcell hcl hcw hQl a8 hX8 HI
        go_upto_region 13 with fail
        rw [← hw8]
        try rw [← HXX.out]
        clear hw8 HXX z0 z1 z2 z3 z4 z5 z6 z7 z8 z9 z10 z11
        have x0 := crow HX8.out 0 (.int .i64 o.who) rfl
        have x1 := crow HX8.out 1 (.int .i64 o.kind) rfl
        obtain ⟨q, Hq⟩ : ∃ q : Bool, Hid (q = (decide (o.kind < 5) && (decide (o.kind < lo) || decide (o.kind > hi)))) := ⟨_, hid rfl⟩
        go_cut [79] from 65 to 79 (fun s79 wx => s79 = .bool q ∧ wx = w8)
        case first =>
          by_cases g1 : o.kind < 5
          · by_cases g2 : o.kind < lo
            · have hq : q = true := by rw [Hq.out]; simp [g1, g2]
              go_wp2_with fail
              go_meet
              exact ⟨by rw [hq], rfl⟩
            · by_cases g3 : o.kind > hi
              · have hq : q = true := by rw [Hq.out, decide_eq_true g1, decide_eq_true g3]; simp
                go_wp2_with fail
                go_meet
                exact ⟨by rw [hq], rfl⟩
              · have hq : q = false := by rw [Hq.out, decide_eq_false g2, decide_eq_false g3]; simp
                go_wp2_with fail
                go_meet
                exact ⟨by rw [hq], rfl⟩
          · have hq : q = false := by rw [Hq.out, decide_eq_false g1]; simp
            go_wp2_with fail
            go_meet
            exact ⟨by rw [hq], rfl⟩
        obtain ⟨rfl, hwc⟩ := hcut
        rw [hwc]
        clear hwc wc
        cases q with
        | true =>
          have HE : Hid (Two w w8 BA BB c nn rr pp (sumN os (i + 1))) := hid (HT8.out.mono (by have := HSUM.out.1; omega))
          go_wp2_with fail
          go_roundw
          case rel => exact ⟨i + 1, by go_num, by omega, by omega, HE⟩
          case measure => simp [intOf]; omega
        | false =>
          have x2 := crow HX8.out 2 (.int .i64 o.a) rfl
          have x3 := crow HX8.out 3 (.string o.key) rfl
          have x4 := crow HX8.out 4 (.int .i64 o.e.n) rfl
          have x5 := crow HX8.out 5 (.int .i64 o.e.c) rfl
          have x6 := crow HX8.out 6 (.string o.e.k) rfl
          have x7 := crow HX8.out 7 (.bool o.e.d) rfl
          have x8 := crow HX8.out 8 (.slice o.e.v.p o.e.v.n o.e.v.c) rfl
          have x9 := crow HX8.out 9 (.slice o.e.x.p o.e.x.n o.e.x.c) rfl
          have x10 := crow HX8.out 10 (.slice o.tok.p o.tok.n o.tok.c) rfl
          have x11 := crow HX8.out 11 (.slice o.ws.p o.ws.n o.ws.c) rfl
          have HPA := hid (HT8.out.step HCR.out HOA.out (by have := HSUM.out; omega))
          have HPBB := hid (HT8.out.symm.step HCR.out HOA.out (by have := HSUM.out; omega))
          by_cases hw0 : o.who = 0
          · have hwb : (o.who == 0) = true := by simp [hw0]
            clear hw0
            go_wp2_with fail
            refine HPA.out.mono ?_
            rintro _ w9 ⟨rfl, ht⟩
            have HE : Hid (Two w w9 BA BB c nn rr pp (sumN os (i + 1))) := hid (by rw [HSUM.out.1]; exact ht)
            clear ht x0 x1 x2 x3 x4 x5 x6 x7 x8 x9 x10 x11
            try dsimp only
            go_wp2_with fail
            go_roundw
            case rel => exact ⟨i + 1, by go_num, by omega, by omega, HE⟩
            case measure => simp [intOf]; omega
          · have hwb : (o.who == 0) = false := by simp [hw0]
            clear hw0
            go_wp2_with fail
            refine HPBB.out.mono ?_
            rintro _ w9 ⟨rfl, ht⟩
            have HE : Hid (Two w w9 BA BB c nn rr pp (sumN os (i + 1))) := hid (by rw [HSUM.out.1]; exact ht.symm)
            clear ht x0 x1 x2 x3 x4 x5 x6 x7 x8 x9 x10 x11
            try dsimp only
            go_wp2_with fail
            go_roundw
            case rel => exact ⟨i + 1, by go_num, by omega, by omega, HE⟩
            case measure => simp [intOf]; omega
      · have h200i : ¬ ((i : Nat) : Int) < 200 := by omega
        have HZ := hid HI.out.ap
        go_wp2_with fail
        go_ret
        exact ⟨rfl, HZ.out⟩
    · have hlti : ¬ ((i : Nat) : Int) < ((n : Nat) : Int) := by omega
      have HZ := hid HI.out.ap
      go_wp2_with fail
      go_ret
      exact ⟨rfl, HZ.out⟩
end Go.Proofs.YtpddokbjjhbfgaaGreat.ds
