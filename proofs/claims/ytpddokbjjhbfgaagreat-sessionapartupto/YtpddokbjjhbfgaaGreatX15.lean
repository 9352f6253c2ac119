import Derived.Test.YtpddokbjjhbfgaaGreatX9
namespace Go.Proofs.YtpddokbjjhbfgaaGreat.ds
open Go.ChangeShapes Go.WideShapes Go.ChangeAt Go.RowKit Go.Sort
set_option linter.unusedVariables false
set_option linter.unusedSimpArgs false
def ka : ByteArray := { data := #[97] }
theorem ka_sz : ka.size ≤ maxLen := by unfold ka maxLen; decide
/-- only maps have changed -/
def Mp (W w' : World) : Prop := ∃ X, Apart X W w' ∧ ∀ k ∈ X, ∀ cur t, W.heap[k]? ≠ some (.cells cur t (0, 0))
theorem Mp.of0 {W w' : World} (a : Apart [] W w') : Mp W w' := ⟨[], a, by simp⟩
theorem Mp.keep {W w' : World} (h : Mp W w') {k : Nat} {cur : Array Value} {t : TypeId} (hk : W.heap[k]? = some (.cells cur t (0, 0))) : w'.heap[k]? = some (.cells cur t (0, 0)) := by
  obtain ⟨X, a, hX⟩ := h
  exact (a.block k (lt_of_heap hk) (fun hm => hX k hm _ _ hk)).trans hk
theorem Mp.size {W w' : World} (h : Mp W w') : W.heap.size ≤ w'.heap.size := by obtain ⟨X, a, _⟩ := h; exact a.size
theorem Mp.trans0 {W w1 w2 : World} (h : Mp W w1) (a : Apart [] w1 w2) : Mp W w2 := by
  obtain ⟨X, b, hX⟩ := h
  exact ⟨X, b.trans (a.mono (by simp)), hX⟩
theorem Mp.pre0 {W w1 w2 : World} (a : Apart [] W w1) (h : Mp w1 w2) : Mp W w2 := by
  obtain ⟨X, b, hX⟩ := h
  refine ⟨X.filter (fun k => decide (k < W.heap.size)), (a.mono (by simp)).trans' b (fun y hy => ?_), fun k hk cur t e => ?_⟩
  · by_cases hs : y < W.heap.size
    · exact .inl (by simp [hy, hs])
    · exact .inr (by omega)
  · have hk2 := List.mem_filter.1 hk
    exact hX k hk2.1 cur t ((a.block k (by simpa using hk2.2) (by simp)).trans e)
theorem Mp.ln {w0 W w' : World} {e : E} {r : Wr} {sv sx : Sl} (h : Mp W w') (hl : Ln w0 W e r sv sx) (ap : Apart [] w0 w') : Ln w0 w' e r sv sx := by
  obtain ⟨X, a, hX⟩ := h
  exact hl.keepT a ap (fun k hk cur => ⟨hX k hk cur 5, hX k hk cur 94⟩)
/-- two sessions: what they have seen of the key a -/
structure Sx (w W : World) (S1 S2 : Nat) (c : Cf) (nn rr pp N1 N2 : Nat) (y1 y2 : Sg) : Prop where
  ex : ∃ (G1 G2 : Gs) (l1 l2 : List Int) (f1 f2 : ByteArray → Sg), G1.S = S1 ∧ G2.S = S2 ∧ Ss W G1 c nn rr pp l1 f1 N1 ∧ Ss W G2 c nn rr pp l2 f2 N2 ∧ (∀ k, G1.has k → w.heap.size ≤ k) ∧ (∀ k, G2.has k → w.heap.size ≤ k) ∧ (∀ k, G1.has k → ¬ G2.has k) ∧ f1 ka = y1 ∧ f2 ka = y2
  ap : Apart [] w W
theorem Sx.kept {w W w' : World} {S1 S2 : Nat} {c : Cf} {nn rr pp N1 N2 : Nat} {y1 y2 : Sg} (h : Sx w W S1 S2 c nn rr pp N1 N2 y1 y2) (a : Apart [] W w') : Sx w w' S1 S2 c nn rr pp N1 N2 y1 y2 := by
  obtain ⟨G1, G2, l1, l2, f1, f2, e1, e2, h1, h2, h3⟩ := h.ex
  exact ⟨⟨G1, G2, l1, l2, f1, f2, e1, e2, h1.kept0 a, h2.kept0 a, h3⟩, h.ap.trans a⟩
theorem Sx.symm {w W : World} {S1 S2 : Nat} {c : Cf} {nn rr pp N1 N2 : Nat} {y1 y2 : Sg} (h : Sx w W S1 S2 c nn rr pp N1 N2 y1 y2) : Sx w W S2 S1 c nn rr pp N2 N1 y2 y1 := by
  obtain ⟨G1, G2, l1, l2, f1, f2, e1, e2, h1, h2, h3, h4, h5, h6, h7⟩ := h.ex
  exact ⟨⟨G2, G1, l2, l1, f2, f1, e2, e1, h2, h1, h4, h3, fun k k1 k2 => h5 k k2 k1, h7, h6⟩, h.ap⟩
theorem Sx.mono {w W : World} {S1 S2 : Nat} {c : Cf} {nn rr pp N1 N2 M1 M2 : Nat} {y1 y2 : Sg} (h : Sx w W S1 S2 c nn rr pp N1 N2 y1 y2) (h1 : N1 ≤ M1) (h2 : N2 ≤ M2) : Sx w W S1 S2 c nn rr pp M1 M2 y1 y2 := by
  obtain ⟨G1, G2, l1, l2, f1, f2, e1, e2, k1, k2, h3⟩ := h.ex
  exact ⟨⟨G1, G2, l1, l2, f1, f2, e1, e2, k1.mono h1, k2.mono h2, h3⟩, h.ap⟩
/-- one of the two has gone on -/
theorem Sx.go {w W w' : World} {S1 S2 : Nat} {c : Cf} {nn rr pp N1 N2 N' : Nat} {y2 y' : Sg} {G1 G2 G' : Gs} {l1 l2 l' : List Int} {f1 f2 f' : ByteArray → Sg} (e1 : G1.S = S1) (e2 : G2.S = S2) (k1 : Ss W G1 c nn rr pp l1 f1 N1) (k2 : Ss W G2 c nn rr pp l2 f2 N2) (b1 : ∀ k, G1.has k → w.heap.size ≤ k) (b2 : ∀ k, G2.has k → w.heap.size ≤ k) (d : ∀ k, G1.has k → ¬ G2.has k) (q2 : f2 ka = y2) (ap : Apart [] w W) (hs : Ss w' G' c nn rr pp l' f' N') (wp : Wp W w' G1 G') (q' : f' ka = y') : Sx w w' S1 S2 c nn rr pp N' N2 y' y2 ∧ Mp W w' := by
  refine ⟨⟨⟨G', G2, l', l2, f', f2, wp.S.trans e1, e2, hs, k2.kept (fun k hk hh => wp.ap.block k hk (fun hm => d k (Gs.mX _ k hm) hh)), fun k hk => ?_, b2, fun k hk hk2 => ?_, q', q2⟩, ap.trans' wp.ap (fun x hx => .inr (b1 x (Gs.mX _ x hx)))⟩, [G1.M], wp.ap, fun k hk cur t => k1.noM t k hk cur⟩
  · rcases wp.new k hk with h | h
    · exact b1 k h
    · exact Nat.le_trans ap.size h
  · rcases wp.new k hk with h | h
    · exact d k h hk2
    · have := k2.has_lt hk2; omega
theorem keq_ne {a b : ByteArray} (h : keq a b = false) : a ≠ b := fun e => by
  have := (keq_iff a b).2 e
  rw [h] at this
  cases this
theorem Sx.wrote {w W : World} {S1 S2 : Nat} {c : Cf} {nn rr pp N1 N2 : Nat} {y1 y2 : Sg} (h : Sx w W S1 S2 c nn rr pp N1 N2 y1 y2) (hN : N1 ≤ 2000000) (e : E) {xs : List S} (hx : L W e.x.p e.x.n xs) (hk : e.k.size ≤ maxLen) (hd : Dok (dotE e)) :
    Calls Tryz.prog 13 #[.pointer (some ⟨S1, 0, none⟩), .agg #[.int .i64 e.n, .int .i64 e.c, .string e.k, .bool e.d, .slice e.v.p e.v.n e.v.c, .slice e.x.p e.x.n e.x.c]] W fun r w' => r = .returned (.int .i64 (if wrR c e xs then 0 else 52)) ∧ Sx w w' S1 S2 c nn rr pp (N1 + 1) N2 (if wrR c e xs && keq e.k ka then (wroteH y1.1 e xs, y1.2) else y1) y2 ∧ Mp W w' := by
  obtain ⟨G1, G2, l1, l2, f1, f2, e1, e2, k1, k2, b1, b2, d, q1, q2⟩ := h.ex
  rw [← e1]
  refine (wrote_ok k1 hN e hx hk hd).mono (fun r w' hp => ?_)
  refine ⟨hp.ret.1, ?_⟩
  cases hv : wrR c e xs with
  | false =>
    rw [hv] at hp
    have a := (hp.1 rfl).2
    have := (h.kept a).mono (show N1 ≤ N1 + 1 by omega) (Nat.le_refl N2)
    rw [← e1] at this
    exact ⟨this, Mp.of0 a⟩
  | true =>
    rw [hv] at hp
    obtain ⟨-, G', hs, wp⟩ := hp.2 rfl
    have := Sx.go e1 e2 k1 k2 b1 b2 d q2 h.ap hs wp (y' := if true && keq e.k ka then (wroteH y1.1 e xs, y1.2) else y1) (by
      unfold updF
      cases hq : keq e.k ka with
      | true =>
        have := (keq_iff _ _).1 hq
        rw [if_pos this.symm, this, q1]
        rfl
      | false =>
        have := keq_ne hq
        rw [if_neg (fun e => this e.symm), q1]
        rfl)
    rw [← e1] at this
    exact this
theorem Sx.got {w W : World} {S1 S2 : Nat} {c : Cf} {nn rr pp N1 N2 : Nat} {y1 y2 : Sg} (h : Sx w W S1 S2 c nn rr pp N1 N2 y1 y2) (hN : N1 ≤ 2000000) (call : Int) {key : ByteArray} (hk : key.size ≤ maxLen) {p : Option Addr} {n cap : Nat} {es : List E} {X : Nat → List S} (hw : Ws W p n es X) (hn : n ≤ 1500000) {tp : Option Addr} {tn tc : Nat} {tok : List S} (ht : L W tp tn tok) :
    Calls Tryz.prog 14 #[.pointer (some ⟨S1, 0, none⟩), .int .i64 call, .string key, .slice tp tn tc, .slice p n cap] W fun r w' => ∃ er : Int, r = .returned (.int .i64 er) ∧ (keq key ka = true → er = gotE call (keyR key) (setR c tok) (areR c key tok es X) (y1.1.all (hz tok))) ∧ Sx w w' S1 S2 c nn rr pp (N1 + n + 1) N2 (if decide (er = 0) && keq key ka then (es.map dotE, call) else y1) y2 ∧ Mp W w' := by
  obtain ⟨G1, G2, l1, l2, f1, f2, e1, e2, k1, k2, b1, b2, d, q1, q2⟩ := h.ex
  have hlen := hw.len
  rw [← e1]
  refine (got_ok k1 hN call hk hw hn ht).mono (fun r w' hp => ?_)
  refine ⟨_, hp.1, fun hq => ?_, ?_⟩
  · have := (keq_iff _ _).1 hq
    rw [this, q1]
  · generalize gotE call (keyR key) (setR c tok) (areR c key tok es X) ((f1 key).1.all (hz tok)) = er at *
    by_cases h0 : er = 0
    · obtain ⟨G', hs, wp⟩ := hp.2.2 h0
      rw [hlen] at hs
      have := Sx.go e1 e2 k1 k2 b1 b2 d q2 h.ap hs wp (y' := if decide (er = 0) && keq key ka then (es.map dotE, call) else y1) (by
        rw [decide_eq_true h0]
        unfold updF
        cases hq : keq key ka with
        | true =>
          have := (keq_iff _ _).1 hq
          rw [if_pos this.symm]
          rfl
        | false =>
          have := keq_ne hq
          rw [if_neg (fun e => this e.symm), q1]
          rfl)
      rw [← e1] at this
      exact this
    · have a := hp.2.1 h0
      have := (h.kept a).mono (show N1 ≤ N1 + n + 1 by omega) (Nat.le_refl N2)
      rw [← e1, decide_eq_false h0] at *
      exact ⟨this, Mp.of0 a⟩
theorem Sx.heads {w W : World} {S1 S2 : Nat} {c : Cf} {nn rr pp N1 N2 : Nat} {y1 y2 : Sg} (h : Sx w W S1 S2 c nn rr pp N1 N2 y1 y2) (hN : N1 ≤ 4000000) : Calls Tryz.prog 17 #[.pointer (some ⟨S1, 0, none⟩), .string { data := #[97] }] W fun r w' => ∃ (p : Option Addr) (cp : Nat), r = .returned (.slice p y1.1.length cp) ∧ Apart [] W w' ∧ Rd w' p (flD y1.1) := by
  obtain ⟨G1, G2, l1, l2, f1, f2, e1, e2, k1, k2, b1, b2, d, q1, q2⟩ := h.ex
  rw [← e1]
  refine (heads_ok k1 hN (s := ka) ka_sz).mono (fun r w' ⟨s, e, hs⟩ => ?_)
  rw [q1] at hs
  have hn : s.n = y1.1.length := by have := hs.own.1; rw [flD_len] at this; omega
  exact ⟨s.p, s.c, by rw [e, hn], hs.ap, hs.rd⟩
theorem Sx.token {w W : World} {S1 S2 : Nat} {c : Cf} {nn rr pp N1 N2 : Nat} {y1 y2 : Sg} (h : Sx w W S1 S2 c nn rr pp N1 N2 y1 y2) : Calls Tryz.prog 18 #[.pointer (some ⟨S1, 0, none⟩), .string { data := #[97] }] W fun r w' => r = .returned (.int .i64 y1.2) ∧ w' = W := by
  obtain ⟨G1, G2, l1, l2, f1, f2, e1, e2, k1, k2, b1, b2, d, q1, q2⟩ := h.ex
  rw [← e1, ← q1]
  exact token_ok k1 (s := ka) ka_sz
theorem Sx.small {w W : World} {S1 S2 : Nat} {c : Cf} {nn rr pp N1 N2 : Nat} {y1 y2 : Sg} (h : Sx w W S1 S2 c nn rr pp N1 N2 y1 y2) : y1.1.length ≤ N1 := by
  obtain ⟨G1, G2, l1, l2, f1, f2, e1, e2, k1, k2, b1, b2, d, q1, q2⟩ := h.ex
  rw [← q1]
  exact (k1.hd ka ka_sz).2.2
end Go.Proofs.YtpddokbjjhbfgaaGreat.ds
namespace Go.Proofs.YtpddokbjjhbfgaaGreat.ds
open Go.ChangeShapes Go.WideShapes Go.ChangeAt Go.RowKit Go.Sort
set_option linter.unusedVariables false
set_option linter.unusedSimpArgs false
set_option maxHeartbeats 32000000 in
set_option maxRecDepth 100000 in
theorem apart_walk (w : World) (s0 s1 s2 s3 s4 : Int) (i0 : In64 s0) (i1 : In64 s1) (i2 : In64 s2) (i3 : In64 s3) (i4 : In64 s4) {sp : Option Addr} {n sc : Nat} {os : Nat → Opd} (hs : ROps w sp n os) :
    Calls Tryz.prog 3 #[.agg #[.int .i64 s0, .int .i64 s1, .int .i64 s2, .int .i64 s3, .int .i64 s4], .slice sp n sc] w fun r w' => r = .returned (.bool true) ∧ Apart [] w w' := by
  obtain ⟨c, Hc⟩ : ∃ c, Hid (c = cfgC s0 s1 s2 s3 s4) := ⟨_, hid rfl⟩
  have HCR : Hid (CR c = true) := by rw [Hc.out]; exact hid (cfgC_ok _ _ _ _ _)
  obtain ⟨nn, rr, pp, hcn, hcr, hcp, b1, b2, b3, b4, b5, b6⟩ := cfg_nat HCR.out
  have HCF : Hid (∀ W, Calls Tryz.prog 10 #[.agg #[.int .i64 s0, .int .i64 s1, .int .i64 s2, .int .i64 s3, .int .i64 s4]] W fun e w' => e = .returned (.agg #[.int .i64 c.n, .int .i64 c.p, .int .i64 c.r, .int .i64 c.s, .int .i64 c.g, .int .i64 c.c, .int .i64 c.k, .int .i64 c.h, .int .i64 c.b]) ∧ Apart [] W w') := fun W => by
    have := config_ok W s0 s1 s2 s3 s4 i0 i1 i2 i3 i4
    rw [← Hc.out] at this
    exact this
  have HNW : Hid (∀ W, Calls Tryz.prog 11 #[.agg #[.int .i64 c.n, .int .i64 c.p, .int .i64 c.r, .int .i64 c.s, .int .i64 c.g, .int .i64 c.c, .int .i64 c.k, .int .i64 c.h, .int .i64 c.b], .int .i64 0] W fun r w' => NewP W c nn rr pp 0 r w') := fun W => new_ok W c HCR.out nn rr pp 0 hcn hcr hcp (by omega)
  have HOS := hid hs
  have hlim := hs.lim
  obtain ⟨A, HXA⟩ : ∃ X, Hid (X = w.heap.size) := ⟨_, hid rfl⟩
  obtain ⟨w1, hw1⟩ : ∃ V, V = w.alloc (.cells #[.int .i64 s0, .int .i64 s1, .int .i64 s2, .int .i64 s3, .int .i64 s4] 23) := ⟨_, rfl⟩
  have a1 : Apart [] w w1 := by rw [hw1]; exact (Apart.refl [] w).alloc _
  have hA1 : w1.heap[A]? = some (.cells #[.int .i64 s0, .int .i64 s1, .int .i64 s2, .int .i64 s3, .int .i64 s4] 23 (0, 0)) := by rw [hw1, HXA.out]; exact heap_alloc_new w _
  have HAR := hid hA1
  have HA1 := hid a1
  clear a1 hA1 hs i0 i1 i2 i3 i4 hcn hcr hcp b1 b2 b3 b4 b5 b6 Hc
  go_enter Tryz.func3, Tryz.ntmps3
  go_upto_region 1 with fail
  rw [← hw1, ← HXA.out]
  clear hw1 HXA
  go_wp2_with fail
  refine (alive_ok w1).mono ?_
  rintro _ w2 ⟨rfl, a2⟩
  have HR2 := hid (keep0 a2 HAR.out)
  have HA2 := hid (HA1.out.trans a2)
  clear a2 HAR HA1
  have y0 := crow HR2.out 0 (.int .i64 s0) rfl
  have y1 := crow HR2.out 1 (.int .i64 s1) rfl
  have y2 := crow HR2.out 2 (.int .i64 s2) rfl
  have y3 := crow HR2.out 3 (.int .i64 s3) rfl
  have y4 := crow HR2.out 4 (.int .i64 s4) rfl
  try dsimp only
  go_wp2_with fail
  refine (HCF.out w2).mono ?_
  rintro _ w3 ⟨rfl, a3⟩
  clear y0 y1 y2 y3 y4 HCF HR2
  obtain ⟨C, HXC⟩ : ∃ X, Hid (X = w3.heap.size) := ⟨_, hid rfl⟩
  obtain ⟨w4, hw4⟩ : ∃ V, V = w3.alloc (.cells #[.int .i64 c.n, .int .i64 c.p, .int .i64 c.r, .int .i64 c.s, .int .i64 c.g, .int .i64 c.c, .int .i64 c.k, .int .i64 c.h, .int .i64 c.b] 27) := ⟨_, rfl⟩
  have a4 : Apart [] w3 w4 := by rw [hw4]; exact (Apart.refl [] w3).alloc _
  have hC4 : w4.heap[C]? = some (.cells #[.int .i64 c.n, .int .i64 c.p, .int .i64 c.r, .int .i64 c.s, .int .i64 c.g, .int .i64 c.c, .int .i64 c.k, .int .i64 c.h, .int .i64 c.b] 27 (0, 0)) := by rw [hw4, HXC.out]; exact heap_alloc_new w3 _
  have HA4 := hid (HA2.out.trans (a3.trans a4))
  have HC4 := hid hC4
  clear a3 a4 hC4 HA2
  try dsimp only
  go_upto_region 3 with fail
  rw [← hw4]
  try rw [← HXC.out]
  clear hw4 HXC
  have g0 := crow HC4.out 0 (.int .i64 c.n) rfl
  have g1 := crow HC4.out 1 (.int .i64 c.p) rfl
  have g2 := crow HC4.out 2 (.int .i64 c.r) rfl
  have g3 := crow HC4.out 3 (.int .i64 c.s) rfl
  have g4 := crow HC4.out 4 (.int .i64 c.g) rfl
  have g5 := crow HC4.out 5 (.int .i64 c.c) rfl
  have g6 := crow HC4.out 6 (.int .i64 c.k) rfl
  have g7 := crow HC4.out 7 (.int .i64 c.h) rfl
  have g8 := crow HC4.out 8 (.int .i64 c.b) rfl
  go_wp2_with fail
  refine (HNW.out w4).mono ?_
  rintro _ w5 ⟨G1, rfl, hg1, a5, hn1⟩
  have HC5 := hid (keep0 a5 HC4.out)
  have HG1 := hid (And.intro hg1 hn1)
  have HA5 := hid a5
  clear a5 hg1 hn1 g0 g1 g2 g3 g4 g5 g6 g7 g8
  have g0 := crow HC5.out 0 (.int .i64 c.n) rfl
  have g1 := crow HC5.out 1 (.int .i64 c.p) rfl
  have g2 := crow HC5.out 2 (.int .i64 c.r) rfl
  have g3 := crow HC5.out 3 (.int .i64 c.s) rfl
  have g4 := crow HC5.out 4 (.int .i64 c.g) rfl
  have g5 := crow HC5.out 5 (.int .i64 c.c) rfl
  have g6 := crow HC5.out 6 (.int .i64 c.k) rfl
  have g7 := crow HC5.out 7 (.int .i64 c.h) rfl
  have g8 := crow HC5.out 8 (.int .i64 c.b) rfl
  try dsimp only
  go_wp2_with fail
  refine (HNW.out w5).mono ?_
  rintro _ w6 ⟨G2, rfl, hg2, a6, hn2⟩
  have HT0 : Hid (Sx w w6 G1.S G2.S c nn rr pp (sumN os 0) (sumN os 0) ([], 0) ([], 0)) := by
    have q1 := HA4.out.size
    have q2 := HA5.out.size
    refine hid ⟨⟨G1, G2, _, _, _, _, rfl, rfl, HG1.out.1.kept0 a6, hg2, fun k hk => ?_, fun k hk => ?_, fun k k1 k2 => ?_, rfl, rfl⟩, (HA4.out.trans HA5.out).trans a6⟩
    · have := HG1.out.2 k hk; omega
    · have := hn2 k hk; omega
    · have h1 := HG1.out.1.has_lt k1
      have h2 := hn2 k k2
      omega
  clear a6 hg2 hn2 g0 g1 g2 g3 g4 g5 g6 g7 g8 HG1 HA5 HC5 HC4 HA4 HNW
  generalize G1.S = S1 at *
  generalize G2.S = S2 at *
  try dsimp only
  go_wp2_with fail
  go_loopw [11] (fun a wt => ∃ (i : Nat) (y : Sg), a = .int .i64 (i : Nat) ∧ i ≤ n ∧ i ≤ 60 ∧ Hid (Sx w wt S1 S2 c nn rr pp (sumN os i) (sumN os i) y y)) (fun a _ => n - (intOf a).toNat)
  case atStart => exact ⟨0, ([], 0), rfl, Nat.zero_le _, Nat.zero_le _, HT0⟩
  case round =>
    obtain ⟨i, y, rfl, hile, hi2, HI⟩ := hrel
    generalize wr = w7 at *
    by_cases hlt : i < n
    · have hlti : ((i : Nat) : Int) < ((n : Nat) : Int) := by omega
      by_cases h60 : i < 60
      · have h60i : ((i : Nat) : Int) < 60 := by omega
        obtain ⟨Q, qo, hQ, hQl, hcell⟩ := HOS.out.rd (by omega)
        obtain ⟨o, Ho⟩ : ∃ o, Hid (o = os i) := ⟨_, hid rfl⟩
        have hcl := hcell i hlt
        rw [← Ho.out] at hcl
        have hcw : ∀ j v, o.c[j]? = some v → w7.cell? ⟨Q, qo + i * 12 + j, none⟩ = some v := fun j v hv => (HI.out.ap.cell (p := ⟨Q, qo + i * 12 + j, none⟩) hQl (by simp)).trans (hcl j v hv)
        have z0 := hcw 0 (.int .i64 o.who) rfl
        have z1 := hcw 1 (.int .i64 o.kind) rfl
        have z2 := hcw 2 (.int .i64 o.a) rfl
        have z3 := hcw 3 (.string o.key) rfl
        have z4 := hcw 4 (.int .i64 o.e.n) rfl
        have z5 := hcw 5 (.int .i64 o.e.c) rfl
        have z6 := hcw 6 (.string o.e.k) rfl
        have z7 := hcw 7 (.bool o.e.d) rfl
        have z8 := hcw 8 (.slice o.e.v.p o.e.v.n o.e.v.c) rfl
        have z9 := hcw 9 (.slice o.e.x.p o.e.x.n o.e.x.c) rfl
        have z10 := hcw 10 (.slice o.tok.p o.tok.n o.tok.c) rfl
        have z11 := hcw 11 (.slice o.ws.p o.ws.n o.ws.c) rfl
        rw [Nat.add_zero] at z0
        have HOA : Hid (OpAt w o) := hid (by rw [Ho.out]; exact HOS.out.at' i hlt)
        have HSUM : Hid (sumN os (i + 1) = sumN os i + o.ws.n + 1 ∧ sumN os (i + 1) ≤ 1300000) := hid ⟨by rw [Ho.out]; rfl, HOS.out.sum (i + 1) (by omega) (by omega)⟩
        obtain ⟨X, HXX⟩ : ∃ X, Hid (X = w7.heap.size) := ⟨_, hid rfl⟩
        obtain ⟨w8, hw8⟩ : ∃ V, V = w7.alloc (.cells o.c 41) := ⟨_, rfl⟩
        have a8 : Apart [] w7 w8 := by rw [hw8]; exact (Apart.refl [] w7).alloc _
        have hX8 : w8.heap[X]? = some (.cells o.c 41 (0, 0)) := by rw [hw8, HXX.out]; exact heap_alloc_new w7 _
        have HX8 := hid hX8
        have HT8 := hid (HI.out.kept a8)
        unfold Opd.c at hw8
        subst hQ
        clear hcell hcl hcw hQl a8 hX8 HI
        go_upto_region 11 with fail
        rw [← hw8]
        try rw [← HXX.out]
        clear hw8 HXX z0 z1 z2 z3 z4 z5 z6 z7 z8 z9 z10 z11
        have x4 := crow HX8.out 4 (.int .i64 o.e.n) rfl
        have x5 := crow HX8.out 5 (.int .i64 o.e.c) rfl
        have x6 := crow HX8.out 6 (.string o.e.k) rfl
        have x7 := crow HX8.out 7 (.bool o.e.d) rfl
        have x8 := crow HX8.out 8 (.slice o.e.v.p o.e.v.n o.e.v.c) rfl
        have x9 := crow HX8.out 9 (.slice o.e.x.p o.e.x.n o.e.x.c) rfl
        have HLD := hid (lend_ok w8 o.e o.r (HOA.out.rd.kept0 HT8.out.ap))
        go_wp2_with fail
        refine HLD.out.mono ?_
        rintro _ w9 ⟨⟨eL, sv, sx, rfl, hln⟩⟩
        have a9 := hln.bv.nw.ap
        have HLN := hid (hln.from HT8.out.ap)
        clear hln x4 x5 x6 x7 x8 x9 HLD
        obtain ⟨K, HXK⟩ : ∃ X, Hid (X = w9.heap.size) := ⟨_, hid rfl⟩
        obtain ⟨wA, hwA⟩ : ∃ V, V = (w9.alloc (.cells #[.int .i64 eL.n, .int .i64 eL.c, .string eL.k, .bool eL.d, .slice eL.v.p eL.v.n eL.v.c, .slice eL.x.p eL.x.n eL.x.c] 38)).alloc (.cells #[.slice sv.p sv.n sv.c, .slice sx.p sx.n sx.c] 43) := ⟨_, rfl⟩
        have aA : Apart [] w9 wA := by rw [hwA]; exact ((Apart.refl [] w9).alloc _).alloc _
        have hKA : wA.heap[K]? = some (.cells #[.int .i64 eL.n, .int .i64 eL.c, .string eL.k, .bool eL.d, .slice eL.v.p eL.v.n eL.v.c, .slice eL.x.p eL.x.n eL.x.c] 38 (0, 0)) := by
          rw [hwA, HXK.out]
          exact (((Apart.refl [] (w9.alloc (.cells #[.int .i64 eL.n, .int .i64 eL.c, .string eL.k, .bool eL.d, .slice eL.v.p eL.v.n eL.v.c, .slice eL.x.p eL.x.n eL.x.c] 38))).alloc _).block _ (by simp) (by simp)).trans (heap_alloc_new w9 _)
        have HKA := hid hKA
        have HTA := hid (HT8.out.kept (a9.trans aA))
        have HXA2 := hid (keep0 (a9.trans aA) HX8.out)
        have HLA := hid (HLN.out.kept aA)
        have HEN : Hid (eL.n = o.e.n ∧ eL.c = o.e.c ∧ eL.k = o.e.k) := hid ⟨HLN.out.n.trans HOA.out.rd.n.symm, HLN.out.c.trans HOA.out.rd.c.symm, HLN.out.k.trans HOA.out.rd.k.symm⟩
        clear a9 aA hKA HT8 HX8 HLN
        try dsimp only
        go_upto_region 12 with fail
        rw [← hwA]
        try rw [← HXK.out]
        clear hwA HXK
        have HWR : Hid (∀ (T1 T2 : Nat) (W : World) (M1 M2 : Nat) (u1 u2 : Sg), M1 ≤ 1300000 → Sx w W T1 T2 c nn rr pp M1 M2 u1 u2 → Ln w W eL o.r sv sx → Calls Tryz.prog 13 #[.pointer (some ⟨T1, 0, none⟩), .agg #[.int .i64 eL.n, .int .i64 eL.c, .string eL.k, .bool eL.d, .slice eL.v.p eL.v.n eL.v.c, .slice eL.x.p eL.x.n eL.x.c]] W fun r w' => r = .returned (.int .i64 (if wrR c eL o.r.xs then 0 else 52)) ∧ Sx w w' T1 T2 c nn rr pp (M1 + 1) M2 (if wrR c eL o.r.xs && keq eL.k ka then (wroteH u1.1 eL o.r.xs, u1.2) else u1) u2 ∧ Mp W w') := fun T1 T2 W M1 M2 u1 u2 hM hx hl => by
          have hL : L W eL.x.p eL.x.n o.r.xs := by
            rw [hl.x]
            exact hl.bx.pre hl.xl
          exact hx.wrote (by omega) eL hL (by rw [HEN.out.2.2]; exact HOA.out.ek) (by unfold dotE; rw [HEN.out.1, HEN.out.2.1]; exact HOA.out.ed)
        obtain ⟨qb, Hqb⟩ : ∃ b : Bool, Hid (b = keq o.e.k ka) := ⟨_, hid rfl⟩
        obtain ⟨qk, Hqk⟩ : ∃ b : Bool, Hid (b = keq o.key ka) := ⟨_, hid rfl⟩
        have hka : ka.toList = [97] := by simp [ka, ByteArray.toList_eq]
        have hqb : (o.e.k.toList == [97]) = qb := by rw [Hqb.out]; unfold keq; rw [hka]
        have hqk : (o.key.toList == [97]) = qk := by rw [Hqk.out]; unfold keq; rw [hka]
        clear hka
        have x1 := crow HXA2.out 1 (.int .i64 o.kind) rfl
        by_cases k3 : o.kind = 3
        · have hk3 : (o.kind == 3) = true := by simp [k3]
          have hk4 : (o.kind == 4) = false := by simp [k3]
          clear k3 hqk Hqk qk
          have k0 := crow HKA.out 0 (.int .i64 eL.n) rfl
          have k1 := crow HKA.out 1 (.int .i64 eL.c) rfl
          have k2 := crow HKA.out 2 (.string eL.k) rfl
          have k3 := crow HKA.out 3 (.bool eL.d) rfl
          have k4 := crow HKA.out 4 (.slice eL.v.p eL.v.n eL.v.c) rfl
          have k5 := crow HKA.out 5 (.slice eL.x.p eL.x.n eL.x.c) rfl
          obtain ⟨er, Her⟩ : ∃ e : Int, Hid (e = if wrR c eL o.r.xs then 0 else 52) := ⟨_, hid rfl⟩
          obtain ⟨y', Hy'⟩ : ∃ u, Hid (u = if wrR c eL o.r.xs && keq eL.k ka then (wroteH y.1 eL o.r.xs, y.2) else y) := ⟨_, hid rfl⟩
          have HC1 := hid (HWR.out S1 S2 wA _ _ y y (by have := HSUM.out; omega) HTA.out HLA.out)
          rw [← Her.out, ← Hy'.out] at HC1
          go_wp2_with fail
          refine HC1.out.mono ?_
          rintro _ wE ⟨rfl, hx1, hm1⟩
          have HXE := hid hx1
          have HXX2 := hid (hm1.keep HXA2.out)
          have HKE := hid (hm1.keep HKA.out)
          have HLE := hid (hm1.ln HLA.out hx1.ap)
          clear hx1 hm1 x1 k0 k1 k2 k3 k4 k5 HC1
          have x1 := crow HXX2.out 1 (.int .i64 o.kind) rfl
          have x3 := crow HXX2.out 3 (.string o.key) rfl
          have x6 := crow HXX2.out 6 (.string o.e.k) rfl
          try dsimp only
          cases qb with
          | false =>
            have hyy : y' = y := by
              rw [Hy'.out, HEN.out.2.2, ← Hqb.out]
              simp
            have HF : Hid (Sx w wE S1 S2 c nn rr pp (sumN os (i + 1)) (sumN os (i + 1)) y y) := by
              have := HXE.out
              rw [hyy] at this
              exact hid (this.mono (by have := HSUM.out.1; omega) (by have := HSUM.out.1; omega))
            clear hyy
            have HLY : Hid (y.1.length ≤ 1300000) := hid (by have h1 := HF.out.small; have h2 := HSUM.out.2; omega)
            obtain ⟨ln, Hln⟩ : ∃ l, Hid (l = y.1.length) := ⟨_, hid rfl⟩
            have hln : ln ≤ 1300000 := by rw [Hln.out]; exact HLY.out
            have HH1 : Hid (∀ W', Apart [] wE W' → Calls Tryz.prog 17 #[.pointer (some ⟨S1, 0, none⟩), .string { data := #[97] }] W' fun r w' => ∃ (p : Option Addr) (cp : Nat), r = .returned (.slice p ln cp) ∧ Apart [] W' w' ∧ Rd w' p (flD y.1)) := fun W' a => by rw [Hln.out]; exact (HF.out.kept a).heads (by have := HSUM.out.2; omega)
            have HH2 : Hid (∀ W', Apart [] wE W' → Calls Tryz.prog 17 #[.pointer (some ⟨S2, 0, none⟩), .string { data := #[97] }] W' fun r w' => ∃ (p : Option Addr) (cp : Nat), r = .returned (.slice p ln cp) ∧ Apart [] W' w' ∧ Rd w' p (flD y.1)) := fun W' a => by rw [Hln.out]; exact (HF.out.kept a).symm.heads (by have := HSUM.out.2; omega)
            go_wp2_with fail
            refine (HH1.out wE (Apart.refl _ _)).mono ?_
            rintro _ v1 ⟨p1, c1, rfl, av1, hr1⟩
            have HV1 := hid (And.intro av1 hr1)
            clear av1 hr1
            try dsimp only
            go_wp2_with fail
            refine (HH2.out v1 HV1.out.1).mono ?_
            rintro _ v2 ⟨p2, c2, rfl, av2, hr2⟩
            have HV2 := hid (And.intro (HV1.out.1.trans av2) (And.intro (HV1.out.2.kept0 av2) hr2))
            clear av2 hr2
            try dsimp only
            go_wp2_with fail
            refine (sameD_yes HV2.out.2.1 HV2.out.2.2 Hln.out.symm (by omega)).mono ?_
            rintro _ v3 ⟨rfl, av3⟩
            have HX3 := hid (HF.out.kept (HV2.out.1.trans av3))
            clear av3
            obtain ⟨tv, Htv⟩ : ∃ t, Hid (t = y.2) := ⟨_, hid rfl⟩
            have HT1 : Hid (Calls Tryz.prog 18 #[.pointer (some ⟨S1, 0, none⟩), .string { data := #[97] }] v3 fun r w' => r = .returned (.int .i64 tv) ∧ w' = v3) := by rw [Htv.out]; exact hid HX3.out.token
            have HT2 : Hid (Calls Tryz.prog 18 #[.pointer (some ⟨S2, 0, none⟩), .string { data := #[97] }] v3 fun r w' => r = .returned (.int .i64 tv) ∧ w' = v3) := by rw [Htv.out]; exact hid HX3.out.symm.token
            have htt : (tv == tv) = true := by simp
            have htn : (tv != tv) = false := by simp
            try dsimp only
            go_wp2_with fail
            refine HT1.out.mono ?_
            rintro _ v4 ⟨rfl, hv4⟩
            rw [hv4]
            clear hv4 v4
            try dsimp only
            go_wp2_with fail
            refine HT2.out.mono ?_
            rintro _ v4 ⟨rfl, hv4⟩
            rw [hv4]
            clear hv4 v4
            try dsimp only
            go_wp2_with fail
            go_roundw
            case rel => exact ⟨i + 1, y, by go_num, by omega, by omega, HX3⟩
            case measure => simp [intOf]; omega
          | true =>
            have k0 := crow HKE.out 0 (.int .i64 eL.n) rfl
            have k1 := crow HKE.out 1 (.int .i64 eL.c) rfl
            have k2 := crow HKE.out 2 (.string eL.k) rfl
            have k3 := crow HKE.out 3 (.bool eL.d) rfl
            have k4 := crow HKE.out 4 (.slice eL.v.p eL.v.n eL.v.c) rfl
            have k5 := crow HKE.out 5 (.slice eL.x.p eL.x.n eL.x.c) rfl
            have HC2 := hid (HWR.out S2 S1 wE _ _ y y' (by have := HSUM.out; omega) HXE.out.symm HLE.out)
            rw [← Her.out, ← Hy'.out] at HC2
            go_wp2_with fail
            refine HC2.out.mono ?_
            rintro _ wF ⟨rfl, hx2, hm2⟩
            have HF : Hid (Sx w wF S1 S2 c nn rr pp (sumN os (i + 1)) (sumN os (i + 1)) y' y') := hid (hx2.symm.mono (by have := HSUM.out.1; omega) (by have := HSUM.out.1; omega))
            have HXX3 := hid (hm2.keep HXX2.out)
            clear hx2 hm2 x1 x3 x6 k0 k1 k2 k3 k4 k5 HC2
            have x1 := crow HXX3.out 1 (.int .i64 o.kind) rfl
            have hee : (er == er) = true := by simp
            have hen : (er != er) = false := by simp
            try dsimp only
            have HLY : Hid (y'.1.length ≤ 1300000) := hid (by have h1 := HF.out.small; have h2 := HSUM.out.2; omega)
            obtain ⟨ln, Hln⟩ : ∃ l, Hid (l = y'.1.length) := ⟨_, hid rfl⟩
            have hln : ln ≤ 1300000 := by rw [Hln.out]; exact HLY.out
            have HH1 : Hid (∀ W', Apart [] wF W' → Calls Tryz.prog 17 #[.pointer (some ⟨S1, 0, none⟩), .string { data := #[97] }] W' fun r w' => ∃ (p : Option Addr) (cp : Nat), r = .returned (.slice p ln cp) ∧ Apart [] W' w' ∧ Rd w' p (flD y'.1)) := fun W' a => by rw [Hln.out]; exact (HF.out.kept a).heads (by have := HSUM.out.2; omega)
            have HH2 : Hid (∀ W', Apart [] wF W' → Calls Tryz.prog 17 #[.pointer (some ⟨S2, 0, none⟩), .string { data := #[97] }] W' fun r w' => ∃ (p : Option Addr) (cp : Nat), r = .returned (.slice p ln cp) ∧ Apart [] W' w' ∧ Rd w' p (flD y'.1)) := fun W' a => by rw [Hln.out]; exact (HF.out.kept a).symm.heads (by have := HSUM.out.2; omega)
            go_wp2_with fail
            refine (HH1.out wF (Apart.refl _ _)).mono ?_
            rintro _ v1 ⟨p1, c1, rfl, av1, hr1⟩
            have HV1 := hid (And.intro av1 hr1)
            clear av1 hr1
            try dsimp only
            go_wp2_with fail
            refine (HH2.out v1 HV1.out.1).mono ?_
            rintro _ v2 ⟨p2, c2, rfl, av2, hr2⟩
            have HV2 := hid (And.intro (HV1.out.1.trans av2) (And.intro (HV1.out.2.kept0 av2) hr2))
            clear av2 hr2
            try dsimp only
            go_wp2_with fail
            refine (sameD_yes HV2.out.2.1 HV2.out.2.2 Hln.out.symm (by omega)).mono ?_
            rintro _ v3 ⟨rfl, av3⟩
            have HX3 := hid (HF.out.kept (HV2.out.1.trans av3))
            clear av3
            obtain ⟨tv, Htv⟩ : ∃ t, Hid (t = y'.2) := ⟨_, hid rfl⟩
            have HT1 : Hid (Calls Tryz.prog 18 #[.pointer (some ⟨S1, 0, none⟩), .string { data := #[97] }] v3 fun r w' => r = .returned (.int .i64 tv) ∧ w' = v3) := by rw [Htv.out]; exact hid HX3.out.token
            have HT2 : Hid (Calls Tryz.prog 18 #[.pointer (some ⟨S2, 0, none⟩), .string { data := #[97] }] v3 fun r w' => r = .returned (.int .i64 tv) ∧ w' = v3) := by rw [Htv.out]; exact hid HX3.out.symm.token
            have htt : (tv == tv) = true := by simp
            have htn : (tv != tv) = false := by simp
            try dsimp only
            go_wp2_with fail
            refine HT1.out.mono ?_
            rintro _ v4 ⟨rfl, hv4⟩
            rw [hv4]
            clear hv4 v4
            try dsimp only
            go_wp2_with fail
            refine HT2.out.mono ?_
            rintro _ v4 ⟨rfl, hv4⟩
            rw [hv4]
            clear hv4 v4
            try dsimp only
            go_wp2_with fail
            go_roundw
            case rel => exact ⟨i + 1, y', by go_num, by omega, by omega, HX3⟩
            case measure => simp [intOf]; omega
        · by_cases k4 : o.kind = 4
          · have hk3 : (o.kind == 3) = false := by simp [k4]
            have hk4 : (o.kind == 4) = true := by simp [k4]
            clear k3 k4 hqb Hqb qb
            go_upto_region 17 with fail
            clear x1
            have HOC : Hid (∀ W, Mp wA W → W.cell? ⟨X, 2, none⟩ = some (.int .i64 o.a) ∧ W.cell? ⟨X, 3, none⟩ = some (.string o.key) ∧ W.cell? ⟨X, 10, none⟩ = some (.slice o.tok.p o.tok.n o.tok.c) ∧ W.cell? ⟨X, 11, none⟩ = some (.slice o.ws.p o.ws.n o.ws.c)) := fun W hm => by
              have q := hm.keep HXA2.out
              exact ⟨crow q 2 _ rfl, crow q 3 _ rfl, crow q 10 _ rfl, crow q 11 _ rfl⟩
            go_cut [15] from 78 to 92 (fun s15 wx => ∃ er : Int, s15 = .int .i64 er ∧ Hid ((keq o.key ka = true → er = gotE o.a (keyR o.key) (setR c o.toks) (areR c o.key o.toks o.es (fun i => (o.rs i).xs)) (y.1.all (hz o.toks))) ∧ Sx w wx S1 S2 c nn rr pp (sumN os i + o.ws.n + 1) (sumN os i) (if decide (er = 0) && keq o.key ka then (o.es.map dotE, o.a) else y) y ∧ Mp wA wx))
            case first =>
              refine wp_region_held_drew (S := fun W => Mp wA W) (by kernel_rfl) (Mp.of0 ((Apart.refl [] wA).drew)) (fun hHeld => ?_)
              have HAD : Hid (Apart [] wA wA.drew) := hid ((Apart.refl [] wA).drew)
              generalize wA.drew = wd at *
              refine tk 0 78 (.pointer (some ⟨S1, 0, none⟩)) rfl ?_ ?_
              · intro W hSW; go_simp
              simp only [Act.put, List.setIfInBounds_toArray, List.set_cons_zero, List.set_cons_succ]
              refine tk 1 79 (.pointer (some ⟨X, 2, none⟩)) rfl ?_ ?_
              · intro W hSW; go_simp
              simp only [Act.put, List.setIfInBounds_toArray, List.set_cons_zero, List.set_cons_succ]
              refine tk 2 80 (.int .i64 o.a) rfl ?_ ?_
              · intro W hSW; obtain ⟨u2, u3, u10, u11⟩ := HOC.out W hSW; go_simp
              simp only [Act.put, List.setIfInBounds_toArray, List.set_cons_zero, List.set_cons_succ]
              refine tk 3 81 (.pointer (some ⟨X, 3, none⟩)) rfl ?_ ?_
              · intro W hSW; go_simp
              simp only [Act.put, List.setIfInBounds_toArray, List.set_cons_zero, List.set_cons_succ]
              refine tk 4 82 (.string o.key) rfl ?_ ?_
              · intro W hSW; obtain ⟨u2, u3, u10, u11⟩ := HOC.out W hSW; go_simp
              simp only [Act.put, List.setIfInBounds_toArray, List.set_cons_zero, List.set_cons_succ]
              refine tk 5 83 (.pointer (some ⟨X, 10, none⟩)) rfl ?_ ?_
              · intro W hSW; go_simp
              simp only [Act.put, List.setIfInBounds_toArray, List.set_cons_zero, List.set_cons_succ]
              refine tk 6 84 (.slice o.tok.p o.tok.n o.tok.c) rfl ?_ ?_
              · intro W hSW; obtain ⟨u2, u3, u10, u11⟩ := HOC.out W hSW; go_simp
              simp only [Act.put, List.setIfInBounds_toArray, List.set_cons_zero, List.set_cons_succ]
              refine tk 8 86 (.pointer (some ⟨X, 10, none⟩)) rfl ?_ ?_
              · intro W hSW; go_simp
              simp only [Act.put, List.setIfInBounds_toArray, List.set_cons_zero, List.set_cons_succ]
              refine tk 9 87 (.slice o.tok.p o.tok.n o.tok.c) rfl ?_ ?_
              · intro W hSW; obtain ⟨u2, u3, u10, u11⟩ := HOC.out W hSW; go_simp
              simp only [Act.put, List.setIfInBounds_toArray, List.set_cons_zero, List.set_cons_succ]
              refine tk 10 88 (.int .i64 (o.tok.n : Nat)) rfl ?_ ?_
              · intro W hSW; go_simp
              simp only [Act.put, List.setIfInBounds_toArray, List.set_cons_zero, List.set_cons_succ]
              refine tk 12 90 (.pointer (some ⟨X, 11, none⟩)) rfl ?_ ?_
              · intro W hSW; go_simp
              simp only [Act.put, List.setIfInBounds_toArray, List.set_cons_zero, List.set_cons_succ]
              refine tk 13 91 (.slice o.ws.p o.ws.n o.ws.c) rfl ?_ ?_
              · intro W hSW; obtain ⟨u2, u3, u10, u11⟩ := HOC.out W hSW; go_simp
              simp only [Act.put, List.setIfInBounds_toArray, List.set_cons_zero, List.set_cons_succ]
              refine wpAnyH_ready (rs := [7]) (by kernel_rfl) (by simp) ?_
              refine AllReadyH.cons rfl (fun KK hKK => ?_) AllReadyH.nil
              go_simp
              refine (spansL_ok (HOA.out.tk.kept0 (HTA.out.ap.trans HAD.out)) HOA.out.tl).mono ?_
              rintro _ wx1 ⟨⟨tk, rfl, htk⟩⟩
              have hHx := hHeld.trans0 htk.nw.ap
              obtain ⟨htc, gt, hgt⟩ := htk.cap
              have htlen := htk.len
              have htl := HOA.out.tk.len
              rw [htl] at htc
              have HSx := hid (HTA.out.kept (HAD.out.trans htk.nw.ap))
              have HTL : Hid (L wx1 (some ⟨gt, 0, none⟩) o.tok.n o.toks) := by
                have := htk.pre (by rw [htl]; exact HOA.out.tl)
                rw [htl, hgt] at this
                exact hid this
              have HMX : Hid (Mp wA wx1) := hid hHx
              have htci : ((o.tok.n : Nat) : Int) ≤ (tk.c : Int) := by omega
              obtain ⟨tkp, tkn, tkc⟩ := tk
              simp only at hgt htci htc
              subst hgt
              clear htk htc htlen htl
              try dsimp only
              refine hKK.out _ _ hHx (fun hHeld => ?_)
              clear hKK KK
              try simp only [Act.put, List.setIfInBounds_toArray, List.set_cons_zero, List.set_cons_succ]
              refine tk 11 89 (.slice (some ⟨gt, 0, none⟩) o.tok.n tkc) rfl ?_ ?_
              · intro W hSW; go_simp
              simp only [Act.put, List.setIfInBounds_toArray, List.set_cons_zero, List.set_cons_succ]
              refine wpAnyH_ready (rs := [14]) (by kernel_rfl) (by simp) ?_
              refine AllReadyH.cons rfl (fun KK hKK => ?_) AllReadyH.nil
              go_simp
              refine (HSx.out.got (by have := HSUM.out; omega) o.a (key := o.key) HOA.out.key (cap := o.ws.c) (⟨HOA.out.wr.kept0 HSx.out.ap, HOA.out.wl, fun i hi => ((HOA.out.each i hi).1.kept0 HSx.out.ap).x, fun i hi => (HOA.out.each i hi).2.1, fun i hi => (HOA.out.each i hi).2.2⟩ : Ws wx1 o.ws.p o.ws.n o.es (fun i => (o.rs i).xs)) (by have := HOA.out.wn; omega) (tc := tkc) HTL.out).mono ?_
              rintro _ wx2 ⟨er, rfl, he1, he2, he3⟩
              have hHy : Mp wA wx2 := by
                obtain ⟨X1, a1, hX1⟩ := HMX.out
                obtain ⟨X2, a2, hX2⟩ := he3
                refine ⟨X1 ++ X2.filter (fun k => decide (k < wA.heap.size)), (a1.mono (fun x hx => List.mem_append_left _ hx)).trans' a2 (fun y hy => ?_), fun k hk cur t e => ?_⟩
                · by_cases hs : y < wA.heap.size
                  · exact .inl (List.mem_append_right _ (by simp [hy, hs]))
                  · exact .inr (by omega)
                · rcases List.mem_append.1 hk with h1 | h1
                  · exact hX1 k h1 cur t e
                  · have h2 := List.mem_filter.1 h1
                    exact hX2 k h2.1 cur t (Mp.keep HMX.out e)
              have HZ := hid (And.intro he1 (And.intro he2 hHy))
              clear he1 he2 he3
              try dsimp only
              refine hKK.out _ _ hHy (fun hHeld => ?_)
              clear hKK KK
              try simp only [Act.put, List.setIfInBounds_toArray, List.set_cons_zero, List.set_cons_succ]
              refine tk 15 15 (.int .i64 er) rfl ?_ ?_
              · intro W hSW; go_simp
              simp only [Act.put, List.setIfInBounds_toArray, List.set_cons_zero, List.set_cons_succ]
              refine wpAnyH_done (by kernel_rfl) ?_ _
              clear hHeld hHy
              go_wp2_with fail
              go_meet
              exact ⟨er, rfl, HZ⟩
            obtain ⟨er, rfl, HZ⟩ := hcut
            generalize wc = wE at *
            obtain ⟨y', Hy'⟩ : ∃ u, Hid (u = if decide (er = 0) && keq o.key ka then (o.es.map dotE, o.a) else y) := ⟨_, hid rfl⟩
            have HXE := hid HZ.out.2.1
            rw [← Hy'.out] at HXE
            have HXX2 := hid (HZ.out.2.2.keep HXA2.out)
            have x1 := crow HXX2.out 1 (.int .i64 o.kind) rfl
            have x3 := crow HXX2.out 3 (.string o.key) rfl
            cases qk with
            | false =>
              have hyy : y' = y := by
                rw [Hy'.out, ← Hqk.out]
                simp
              have HF : Hid (Sx w wE S1 S2 c nn rr pp (sumN os (i + 1)) (sumN os (i + 1)) y y) := by
                have := HXE.out
                rw [hyy] at this
                exact hid (this.mono (by have := HSUM.out.1; omega) (by have := HSUM.out.1; omega))
              clear hyy
              have HLY : Hid (y.1.length ≤ 1300000) := hid (by have h1 := HF.out.small; have h2 := HSUM.out.2; omega)
              obtain ⟨ln, Hln⟩ : ∃ l, Hid (l = y.1.length) := ⟨_, hid rfl⟩
              have hln : ln ≤ 1300000 := by rw [Hln.out]; exact HLY.out
              have HH1 : Hid (∀ W', Apart [] wE W' → Calls Tryz.prog 17 #[.pointer (some ⟨S1, 0, none⟩), .string { data := #[97] }] W' fun r w' => ∃ (p : Option Addr) (cp : Nat), r = .returned (.slice p ln cp) ∧ Apart [] W' w' ∧ Rd w' p (flD y.1)) := fun W' a => by rw [Hln.out]; exact (HF.out.kept a).heads (by have := HSUM.out.2; omega)
              have HH2 : Hid (∀ W', Apart [] wE W' → Calls Tryz.prog 17 #[.pointer (some ⟨S2, 0, none⟩), .string { data := #[97] }] W' fun r w' => ∃ (p : Option Addr) (cp : Nat), r = .returned (.slice p ln cp) ∧ Apart [] W' w' ∧ Rd w' p (flD y.1)) := fun W' a => by rw [Hln.out]; exact (HF.out.kept a).symm.heads (by have := HSUM.out.2; omega)
              go_wp2_with fail
              refine (HH1.out wE (Apart.refl _ _)).mono ?_
              rintro _ v1 ⟨p1, c1, rfl, av1, hr1⟩
              have HV1 := hid (And.intro av1 hr1)
              clear av1 hr1
              try dsimp only
              go_wp2_with fail
              refine (HH2.out v1 HV1.out.1).mono ?_
              rintro _ v2 ⟨p2, c2, rfl, av2, hr2⟩
              have HV2 := hid (And.intro (HV1.out.1.trans av2) (And.intro (HV1.out.2.kept0 av2) hr2))
              clear av2 hr2
              try dsimp only
              go_wp2_with fail
              refine (sameD_yes HV2.out.2.1 HV2.out.2.2 Hln.out.symm (by omega)).mono ?_
              rintro _ v3 ⟨rfl, av3⟩
              have HX3 := hid (HF.out.kept (HV2.out.1.trans av3))
              clear av3
              obtain ⟨tv, Htv⟩ : ∃ t, Hid (t = y.2) := ⟨_, hid rfl⟩
              have HT1 : Hid (Calls Tryz.prog 18 #[.pointer (some ⟨S1, 0, none⟩), .string { data := #[97] }] v3 fun r w' => r = .returned (.int .i64 tv) ∧ w' = v3) := by rw [Htv.out]; exact hid HX3.out.token
              have HT2 : Hid (Calls Tryz.prog 18 #[.pointer (some ⟨S2, 0, none⟩), .string { data := #[97] }] v3 fun r w' => r = .returned (.int .i64 tv) ∧ w' = v3) := by rw [Htv.out]; exact hid HX3.out.symm.token
              have htt : (tv == tv) = true := by simp
              have htn : (tv != tv) = false := by simp
              try dsimp only
              go_wp2_with fail
              refine HT1.out.mono ?_
              rintro _ v4 ⟨rfl, hv4⟩
              rw [hv4]
              clear hv4 v4
              try dsimp only
              go_wp2_with fail
              refine HT2.out.mono ?_
              rintro _ v4 ⟨rfl, hv4⟩
              rw [hv4]
              clear hv4 v4
              try dsimp only
              go_wp2_with fail
              go_roundw
              case rel => exact ⟨i + 1, y, by go_num, by omega, by omega, HX3⟩
              case measure => simp [intOf]; omega
            | true =>
              have HXS := hid HXE.out.symm
              go_upto_region 25 with fail
              clear x1 x3
              have HOC : Hid (∀ W, Mp wE W → W.cell? ⟨X, 2, none⟩ = some (.int .i64 o.a) ∧ W.cell? ⟨X, 3, none⟩ = some (.string o.key) ∧ W.cell? ⟨X, 10, none⟩ = some (.slice o.tok.p o.tok.n o.tok.c) ∧ W.cell? ⟨X, 11, none⟩ = some (.slice o.ws.p o.ws.n o.ws.c)) := fun W hm => by
                have q := hm.keep HXX2.out
                exact ⟨crow q 2 _ rfl, crow q 3 _ rfl, crow q 10 _ rfl, crow q 11 _ rfl⟩
              go_cut [16] from 112 to 126 (fun s15 wx => ∃ er : Int, s15 = .int .i64 er ∧ Hid ((keq o.key ka = true → er = gotE o.a (keyR o.key) (setR c o.toks) (areR c o.key o.toks o.es (fun i => (o.rs i).xs)) (y.1.all (hz o.toks))) ∧ Sx w wx S2 S1 c nn rr pp (sumN os i + o.ws.n + 1) (sumN os i + o.ws.n + 1) (if decide (er = 0) && keq o.key ka then (o.es.map dotE, o.a) else y) y' ∧ Mp wE wx))
              case first =>
                refine wp_region_held_drew (S := fun W => Mp wE W) (by kernel_rfl) (Mp.of0 ((Apart.refl [] wE).drew)) (fun hHeld => ?_)
                have HAD : Hid (Apart [] wE wE.drew) := hid ((Apart.refl [] wE).drew)
                generalize wE.drew = wd at *
                refine tk 0 112 (.pointer (some ⟨S2, 0, none⟩)) rfl ?_ ?_
                · intro W hSW; go_simp
                simp only [Act.put, List.setIfInBounds_toArray, List.set_cons_zero, List.set_cons_succ]
                refine tk 1 113 (.pointer (some ⟨X, 2, none⟩)) rfl ?_ ?_
                · intro W hSW; go_simp
                simp only [Act.put, List.setIfInBounds_toArray, List.set_cons_zero, List.set_cons_succ]
                refine tk 2 114 (.int .i64 o.a) rfl ?_ ?_
                · intro W hSW; obtain ⟨u2, u3, u10, u11⟩ := HOC.out W hSW; go_simp
                simp only [Act.put, List.setIfInBounds_toArray, List.set_cons_zero, List.set_cons_succ]
                refine tk 3 115 (.pointer (some ⟨X, 3, none⟩)) rfl ?_ ?_
                · intro W hSW; go_simp
                simp only [Act.put, List.setIfInBounds_toArray, List.set_cons_zero, List.set_cons_succ]
                refine tk 4 116 (.string o.key) rfl ?_ ?_
                · intro W hSW; obtain ⟨u2, u3, u10, u11⟩ := HOC.out W hSW; go_simp
                simp only [Act.put, List.setIfInBounds_toArray, List.set_cons_zero, List.set_cons_succ]
                refine tk 5 117 (.pointer (some ⟨X, 10, none⟩)) rfl ?_ ?_
                · intro W hSW; go_simp
                simp only [Act.put, List.setIfInBounds_toArray, List.set_cons_zero, List.set_cons_succ]
                refine tk 6 118 (.slice o.tok.p o.tok.n o.tok.c) rfl ?_ ?_
                · intro W hSW; obtain ⟨u2, u3, u10, u11⟩ := HOC.out W hSW; go_simp
                simp only [Act.put, List.setIfInBounds_toArray, List.set_cons_zero, List.set_cons_succ]
                refine tk 8 120 (.pointer (some ⟨X, 10, none⟩)) rfl ?_ ?_
                · intro W hSW; go_simp
                simp only [Act.put, List.setIfInBounds_toArray, List.set_cons_zero, List.set_cons_succ]
                refine tk 9 121 (.slice o.tok.p o.tok.n o.tok.c) rfl ?_ ?_
                · intro W hSW; obtain ⟨u2, u3, u10, u11⟩ := HOC.out W hSW; go_simp
                simp only [Act.put, List.setIfInBounds_toArray, List.set_cons_zero, List.set_cons_succ]
                refine tk 10 122 (.int .i64 (o.tok.n : Nat)) rfl ?_ ?_
                · intro W hSW; go_simp
                simp only [Act.put, List.setIfInBounds_toArray, List.set_cons_zero, List.set_cons_succ]
                refine tk 12 124 (.pointer (some ⟨X, 11, none⟩)) rfl ?_ ?_
                · intro W hSW; go_simp
                simp only [Act.put, List.setIfInBounds_toArray, List.set_cons_zero, List.set_cons_succ]
                refine tk 13 125 (.slice o.ws.p o.ws.n o.ws.c) rfl ?_ ?_
                · intro W hSW; obtain ⟨u2, u3, u10, u11⟩ := HOC.out W hSW; go_simp
                simp only [Act.put, List.setIfInBounds_toArray, List.set_cons_zero, List.set_cons_succ]
                refine wpAnyH_ready (rs := [7]) (by kernel_rfl) (by simp) ?_
                refine AllReadyH.cons rfl (fun KK hKK => ?_) AllReadyH.nil
                go_simp
                refine (spansL_ok (HOA.out.tk.kept0 (HXS.out.ap.trans HAD.out)) HOA.out.tl).mono ?_
                rintro _ wx1 ⟨⟨tk, rfl, htk⟩⟩
                have hHx := hHeld.trans0 htk.nw.ap
                obtain ⟨htc, gt, hgt⟩ := htk.cap
                have htlen := htk.len
                have htl := HOA.out.tk.len
                rw [htl] at htc
                have HSx := hid (HXS.out.kept (HAD.out.trans htk.nw.ap))
                have HTL : Hid (L wx1 (some ⟨gt, 0, none⟩) o.tok.n o.toks) := by
                  have := htk.pre (by rw [htl]; exact HOA.out.tl)
                  rw [htl, hgt] at this
                  exact hid this
                have HMX : Hid (Mp wE wx1) := hid hHx
                have htci : ((o.tok.n : Nat) : Int) ≤ (tk.c : Int) := by omega
                obtain ⟨tkp, tkn, tkc⟩ := tk
                simp only at hgt htci htc
                subst hgt
                clear htk htc htlen htl
                try dsimp only
                refine hKK.out _ _ hHx (fun hHeld => ?_)
                clear hKK KK
                try simp only [Act.put, List.setIfInBounds_toArray, List.set_cons_zero, List.set_cons_succ]
                refine tk 11 123 (.slice (some ⟨gt, 0, none⟩) o.tok.n tkc) rfl ?_ ?_
                · intro W hSW; go_simp
                simp only [Act.put, List.setIfInBounds_toArray, List.set_cons_zero, List.set_cons_succ]
                refine wpAnyH_ready (rs := [14]) (by kernel_rfl) (by simp) ?_
                refine AllReadyH.cons rfl (fun KK hKK => ?_) AllReadyH.nil
                go_simp
                refine (HSx.out.got (by have := HSUM.out; omega) o.a (key := o.key) HOA.out.key (cap := o.ws.c) (⟨HOA.out.wr.kept0 HSx.out.ap, HOA.out.wl, fun i hi => ((HOA.out.each i hi).1.kept0 HSx.out.ap).x, fun i hi => (HOA.out.each i hi).2.1, fun i hi => (HOA.out.each i hi).2.2⟩ : Ws wx1 o.ws.p o.ws.n o.es (fun i => (o.rs i).xs)) (by have := HOA.out.wn; omega) (tc := tkc) HTL.out).mono ?_
                rintro _ wx2 ⟨er, rfl, he1, he2, he3⟩
                have hHy : Mp wE wx2 := by
                  obtain ⟨X1, a1, hX1⟩ := HMX.out
                  obtain ⟨X2, a2, hX2⟩ := he3
                  refine ⟨X1 ++ X2.filter (fun k => decide (k < wE.heap.size)), (a1.mono (fun x hx => List.mem_append_left _ hx)).trans' a2 (fun y hy => ?_), fun k hk cur t e => ?_⟩
                  · by_cases hs : y < wE.heap.size
                    · exact .inl (List.mem_append_right _ (by simp [hy, hs]))
                    · exact .inr (by omega)
                  · rcases List.mem_append.1 hk with h1 | h1
                    · exact hX1 k h1 cur t e
                    · have h2 := List.mem_filter.1 h1
                      exact hX2 k h2.1 cur t (Mp.keep HMX.out e)
                have HZ := hid (And.intro he1 (And.intro he2 hHy))
                clear he1 he2 he3
                try dsimp only
                refine hKK.out _ _ hHy (fun hHeld => ?_)
                clear hKK KK
                try simp only [Act.put, List.setIfInBounds_toArray, List.set_cons_zero, List.set_cons_succ]
                refine tk 15 16 (.int .i64 er) rfl ?_ ?_
                · intro W hSW; go_simp
                simp only [Act.put, List.setIfInBounds_toArray, List.set_cons_zero, List.set_cons_succ]
                refine wpAnyH_done (by kernel_rfl) ?_ _
                clear hHeld hHy
                go_wp2_with fail
                go_meet
                exact ⟨er, rfl, HZ⟩
              obtain ⟨er2, rfl, HZ2⟩ := hcut
              generalize wc = wF at *
              have hrr : er2 = er := by
                have h1 := HZ.out.1 Hqk.out.symm
                have h2 := HZ2.out.1 Hqk.out.symm
                rw [h1, h2]
              have HF : Hid (Sx w wF S1 S2 c nn rr pp (sumN os (i + 1)) (sumN os (i + 1)) y' y') := by
                have h2 := HZ2.out.2.1
                rw [hrr, ← Hy'.out] at h2
                exact hid (h2.symm.mono (by have := HSUM.out.1; omega) (by have := HSUM.out.1; omega))
              subst hrr
              have hee : (er2 == er2) = true := by simp
              have hen : (er2 != er2) = false := by simp
              have HLY : Hid (y'.1.length ≤ 1300000) := hid (by have h1 := HF.out.small; have h2 := HSUM.out.2; omega)
              obtain ⟨ln, Hln⟩ : ∃ l, Hid (l = y'.1.length) := ⟨_, hid rfl⟩
              have hln : ln ≤ 1300000 := by rw [Hln.out]; exact HLY.out
              have HH1 : Hid (∀ W', Apart [] wF W' → Calls Tryz.prog 17 #[.pointer (some ⟨S1, 0, none⟩), .string { data := #[97] }] W' fun r w' => ∃ (p : Option Addr) (cp : Nat), r = .returned (.slice p ln cp) ∧ Apart [] W' w' ∧ Rd w' p (flD y'.1)) := fun W' a => by rw [Hln.out]; exact (HF.out.kept a).heads (by have := HSUM.out.2; omega)
              have HH2 : Hid (∀ W', Apart [] wF W' → Calls Tryz.prog 17 #[.pointer (some ⟨S2, 0, none⟩), .string { data := #[97] }] W' fun r w' => ∃ (p : Option Addr) (cp : Nat), r = .returned (.slice p ln cp) ∧ Apart [] W' w' ∧ Rd w' p (flD y'.1)) := fun W' a => by rw [Hln.out]; exact (HF.out.kept a).symm.heads (by have := HSUM.out.2; omega)
              go_wp2_with fail
              refine (HH1.out wF (Apart.refl _ _)).mono ?_
              rintro _ v1 ⟨p1, c1, rfl, av1, hr1⟩
              have HV1 := hid (And.intro av1 hr1)
              clear av1 hr1
              try dsimp only
              go_wp2_with fail
              refine (HH2.out v1 HV1.out.1).mono ?_
              rintro _ v2 ⟨p2, c2, rfl, av2, hr2⟩
              have HV2 := hid (And.intro (HV1.out.1.trans av2) (And.intro (HV1.out.2.kept0 av2) hr2))
              clear av2 hr2
              try dsimp only
              go_wp2_with fail
              refine (sameD_yes HV2.out.2.1 HV2.out.2.2 Hln.out.symm (by omega)).mono ?_
              rintro _ v3 ⟨rfl, av3⟩
              have HX3 := hid (HF.out.kept (HV2.out.1.trans av3))
              clear av3
              obtain ⟨tv, Htv⟩ : ∃ t, Hid (t = y'.2) := ⟨_, hid rfl⟩
              have HT1 : Hid (Calls Tryz.prog 18 #[.pointer (some ⟨S1, 0, none⟩), .string { data := #[97] }] v3 fun r w' => r = .returned (.int .i64 tv) ∧ w' = v3) := by rw [Htv.out]; exact hid HX3.out.token
              have HT2 : Hid (Calls Tryz.prog 18 #[.pointer (some ⟨S2, 0, none⟩), .string { data := #[97] }] v3 fun r w' => r = .returned (.int .i64 tv) ∧ w' = v3) := by rw [Htv.out]; exact hid HX3.out.symm.token
              have htt : (tv == tv) = true := by simp
              have htn : (tv != tv) = false := by simp
              try dsimp only
              go_wp2_with fail
              refine HT1.out.mono ?_
              rintro _ v4 ⟨rfl, hv4⟩
              rw [hv4]
              clear hv4 v4
              try dsimp only
              go_wp2_with fail
              refine HT2.out.mono ?_
              rintro _ v4 ⟨rfl, hv4⟩
              rw [hv4]
              clear hv4 v4
              try dsimp only
              go_wp2_with fail
              go_roundw
              case rel => exact ⟨i + 1, y', by go_num, by omega, by omega, HX3⟩
              case measure => simp [intOf]; omega
          · have hk3 : (o.kind == 3) = false := by simp [k3]
            have hk4 : (o.kind == 4) = false := by simp [k4]
            clear k3 k4 hqb Hqb qb
            have x3 := crow HXA2.out 3 (.string o.key) rfl
            have HF : Hid (Sx w wA S1 S2 c nn rr pp (sumN os (i + 1)) (sumN os (i + 1)) y y) := hid (HTA.out.mono (by have := HSUM.out.1; omega) (by have := HSUM.out.1; omega))
            cases qk with
            | false =>
              have HLY : Hid (y.1.length ≤ 1300000) := hid (by have h1 := HF.out.small; have h2 := HSUM.out.2; omega)
              obtain ⟨ln, Hln⟩ : ∃ l, Hid (l = y.1.length) := ⟨_, hid rfl⟩
              have hln : ln ≤ 1300000 := by rw [Hln.out]; exact HLY.out
              have HH1 : Hid (∀ W', Apart [] wA W' → Calls Tryz.prog 17 #[.pointer (some ⟨S1, 0, none⟩), .string { data := #[97] }] W' fun r w' => ∃ (p : Option Addr) (cp : Nat), r = .returned (.slice p ln cp) ∧ Apart [] W' w' ∧ Rd w' p (flD y.1)) := fun W' a => by rw [Hln.out]; exact (HF.out.kept a).heads (by have := HSUM.out.2; omega)
              have HH2 : Hid (∀ W', Apart [] wA W' → Calls Tryz.prog 17 #[.pointer (some ⟨S2, 0, none⟩), .string { data := #[97] }] W' fun r w' => ∃ (p : Option Addr) (cp : Nat), r = .returned (.slice p ln cp) ∧ Apart [] W' w' ∧ Rd w' p (flD y.1)) := fun W' a => by rw [Hln.out]; exact (HF.out.kept a).symm.heads (by have := HSUM.out.2; omega)
              go_wp2_with fail
              refine (HH1.out wA (Apart.refl _ _)).mono ?_
              rintro _ v1 ⟨p1, c1, rfl, av1, hr1⟩
              have HV1 := hid (And.intro av1 hr1)
              clear av1 hr1
              try dsimp only
              go_wp2_with fail
              refine (HH2.out v1 HV1.out.1).mono ?_
              rintro _ v2 ⟨p2, c2, rfl, av2, hr2⟩
              have HV2 := hid (And.intro (HV1.out.1.trans av2) (And.intro (HV1.out.2.kept0 av2) hr2))
              clear av2 hr2
              try dsimp only
              go_wp2_with fail
              refine (sameD_yes HV2.out.2.1 HV2.out.2.2 Hln.out.symm (by omega)).mono ?_
              rintro _ v3 ⟨rfl, av3⟩
              have HX3 := hid (HF.out.kept (HV2.out.1.trans av3))
              clear av3
              obtain ⟨tv, Htv⟩ : ∃ t, Hid (t = y.2) := ⟨_, hid rfl⟩
              have HT1 : Hid (Calls Tryz.prog 18 #[.pointer (some ⟨S1, 0, none⟩), .string { data := #[97] }] v3 fun r w' => r = .returned (.int .i64 tv) ∧ w' = v3) := by rw [Htv.out]; exact hid HX3.out.token
              have HT2 : Hid (Calls Tryz.prog 18 #[.pointer (some ⟨S2, 0, none⟩), .string { data := #[97] }] v3 fun r w' => r = .returned (.int .i64 tv) ∧ w' = v3) := by rw [Htv.out]; exact hid HX3.out.symm.token
              have htt : (tv == tv) = true := by simp
              have htn : (tv != tv) = false := by simp
              try dsimp only
              go_wp2_with fail
              refine HT1.out.mono ?_
              rintro _ v4 ⟨rfl, hv4⟩
              rw [hv4]
              clear hv4 v4
              try dsimp only
              go_wp2_with fail
              refine HT2.out.mono ?_
              rintro _ v4 ⟨rfl, hv4⟩
              rw [hv4]
              clear hv4 v4
              try dsimp only
              go_wp2_with fail
              go_roundw
              case rel => exact ⟨i + 1, y, by go_num, by omega, by omega, HX3⟩
              case measure => simp [intOf]; omega
            | true =>
              have HLY : Hid (y.1.length ≤ 1300000) := hid (by have h1 := HF.out.small; have h2 := HSUM.out.2; omega)
              obtain ⟨ln, Hln⟩ : ∃ l, Hid (l = y.1.length) := ⟨_, hid rfl⟩
              have hln : ln ≤ 1300000 := by rw [Hln.out]; exact HLY.out
              have HH1 : Hid (∀ W', Apart [] wA W' → Calls Tryz.prog 17 #[.pointer (some ⟨S1, 0, none⟩), .string { data := #[97] }] W' fun r w' => ∃ (p : Option Addr) (cp : Nat), r = .returned (.slice p ln cp) ∧ Apart [] W' w' ∧ Rd w' p (flD y.1)) := fun W' a => by rw [Hln.out]; exact (HF.out.kept a).heads (by have := HSUM.out.2; omega)
              have HH2 : Hid (∀ W', Apart [] wA W' → Calls Tryz.prog 17 #[.pointer (some ⟨S2, 0, none⟩), .string { data := #[97] }] W' fun r w' => ∃ (p : Option Addr) (cp : Nat), r = .returned (.slice p ln cp) ∧ Apart [] W' w' ∧ Rd w' p (flD y.1)) := fun W' a => by rw [Hln.out]; exact (HF.out.kept a).symm.heads (by have := HSUM.out.2; omega)
              go_wp2_with fail
              refine (HH1.out wA (Apart.refl _ _)).mono ?_
              rintro _ v1 ⟨p1, c1, rfl, av1, hr1⟩
              have HV1 := hid (And.intro av1 hr1)
              clear av1 hr1
              try dsimp only
              go_wp2_with fail
              refine (HH2.out v1 HV1.out.1).mono ?_
              rintro _ v2 ⟨p2, c2, rfl, av2, hr2⟩
              have HV2 := hid (And.intro (HV1.out.1.trans av2) (And.intro (HV1.out.2.kept0 av2) hr2))
              clear av2 hr2
              try dsimp only
              go_wp2_with fail
              refine (sameD_yes HV2.out.2.1 HV2.out.2.2 Hln.out.symm (by omega)).mono ?_
              rintro _ v3 ⟨rfl, av3⟩
              have HX3 := hid (HF.out.kept (HV2.out.1.trans av3))
              clear av3
              obtain ⟨tv, Htv⟩ : ∃ t, Hid (t = y.2) := ⟨_, hid rfl⟩
              have HT1 : Hid (Calls Tryz.prog 18 #[.pointer (some ⟨S1, 0, none⟩), .string { data := #[97] }] v3 fun r w' => r = .returned (.int .i64 tv) ∧ w' = v3) := by rw [Htv.out]; exact hid HX3.out.token
              have HT2 : Hid (Calls Tryz.prog 18 #[.pointer (some ⟨S2, 0, none⟩), .string { data := #[97] }] v3 fun r w' => r = .returned (.int .i64 tv) ∧ w' = v3) := by rw [Htv.out]; exact hid HX3.out.symm.token
              have htt : (tv == tv) = true := by simp
              have htn : (tv != tv) = false := by simp
              try dsimp only
              go_wp2_with fail
              refine HT1.out.mono ?_
              rintro _ v4 ⟨rfl, hv4⟩
              rw [hv4]
              clear hv4 v4
              try dsimp only
              go_wp2_with fail
              refine HT2.out.mono ?_
              rintro _ v4 ⟨rfl, hv4⟩
              rw [hv4]
              clear hv4 v4
              try dsimp only
              go_wp2_with fail
              go_roundw
              case rel => exact ⟨i + 1, y, by go_num, by omega, by omega, HX3⟩
              case measure => simp [intOf]; omega
      · have h60i : ¬ ((i : Nat) : Int) < 60 := by omega
        have HZ := hid HI.out.ap
        go_wp2_with fail
        go_ret
        exact ⟨rfl, HZ.out⟩
    · have hlti : ¬ ((i : Nat) : Int) < ((n : Nat) : Int) := by omega
      have HZ := hid HI.out.ap
      go_wp2_with fail
      go_ret
      exact ⟨rfl, HZ.out⟩
end Go.Proofs.YtpddokbjjhbfgaaGreat.ds
