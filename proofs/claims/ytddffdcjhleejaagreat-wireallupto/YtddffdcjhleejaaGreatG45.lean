import Derived.Test.YtddffdcjhleejaaGreatG44
namespace Go.Proofs.YtddffdcjhleejaaGreat.ds
open Go.ChangeShapes Go.WideShapes Go.ChangeAt Go.RowKit Go.Sort
set_option linter.unusedVariables false
set_option linter.unusedSimpArgs false
theorem RX.app {wB w w' : World} {R : Nat} {p : Option Addr} {N c : Nat} {B : List Nat} {q : Nat} {x : Int} {X : List Nat} (h : RX wB w R p N c B q x) (a : Apart X w w') (hX : ∀ k ∈ X, wB.heap.size ≤ k ∧ ∃ cur t, w.heap[k]? = some (.cells cur t (0, 0)) ∧ t ≠ 100) : RX wB w' R p N c B q x := by
  have hne : R ∉ X := fun e => by
    obtain ⟨_, cur, t, h1, h2⟩ := hX R e
    rw [h.blk] at h1
    simp at h1
    exact h2 h1.2.symm
  refine { h with blk := (a.block _ (lt_of_heap h.blk) hne).trans h.blk, rd := fun h0 => ?_, ap := h.ap.trans' a (fun y hy => .inr (hX y hy).1) }
  obtain ⟨P, o, e, hP, hc⟩ := h.rd h0
  exact ⟨P, o, e, Nat.lt_of_lt_of_le hP a.size, fun j v hj => (a.cell hP (fun hm => by obtain ⟨P', o', e', hP', _⟩ := h.rdB h0; rw [e] at e'; cases e'; have h2 := (hX P hm).1; omega)).trans (hc j v hj)⟩
theorem RS.app {wB w w' : World} {R : Nat} {p : Option Addr} {N c : Nat} {B : List Nat} {s : Except Nat Nat} {X : List Nat} (h : RS wB w R p N c B s) (a : Apart X w w') (hX : ∀ k ∈ X, wB.heap.size ≤ k ∧ ∃ cur t, w.heap[k]? = some (.cells cur t (0, 0)) ∧ t ≠ 100) : RS wB w' R p N c B s := by
  obtain ⟨q, x, h1, h2, h3⟩ := h
  exact ⟨q, x, h1.app a hX, h2, h3⟩
theorem RS.blk {wB w : World} {R : Nat} {p : Option Addr} {N c : Nat} {B : List Nat} {s : Except Nat Nat} (h : RS wB w R p N c B s) : ∃ cur, w.heap[R]? = some (.cells cur 100 (0, 0)) ∧ wB.heap.size ≤ R ∧ Apart [] wB w := by
  obtain ⟨q, x, h1, h2, h3⟩ := h
  exact ⟨_, h1.blk, h1.xb, h1.ap⟩
/-- a slice of the call's own stays, where the document's reader goes on -/
theorem Nw.rd107 {wB w w' : World} {R : Nat} {p : Option Addr} {N c : Nat} {B : List Nat} {s : Except Nat Nat} {e size : Nat} {sl : Sl} {us : List Value} (h : Nw wB w e size sl us) (hr : RS wB w R p N c B s) (a : Apart [R] w w') (he : e ≠ 100) : Nw wB w' e size sl us := by
  obtain ⟨cur0, hb, hx, ha⟩ := hr.blk
  refine h.keepT a (ha.trans' a (by intro y hy; simp at hy; rw [hy]; exact .inr hx)) (fun k hk cur hcur => ?_)
  simp at hk
  rw [hk, hb] at hcur
  simp at hcur
  exact he hcur.2.symm
/-- what the document's set leaves -/
def US (wB : World) (v : Value) (w : World) : Prop := ∃ l : List S, l.length ≤ 8 ∧ VSet wB l v w
/-- between two rounds: all is well so far, or something was wrong -/
def StO (wB wt : World) (R : Nat) (p : Option Addr) (N c : Nat) (B : List Nat) (q mb K i : Nat) (kz ls : Int) (l : List S) : Prop :=
  (kz = (K : Nat) ∧ ∃ ln r, ls + 1 = (ln : Nat) ∧ ln ≤ 8 ∧ RX wB wt R p N c B r (-1) ∧ rspans B q mb = rb (rspansA B mb (K - i) ln r) (fun m q2 => .ok (l ++ m, q2))) ∨ (∃ r y, RX wB wt R p N c B r (y : Nat) ∧ rspans B q mb = .error y)
theorem StO.ap {wB wt : World} {R : Nat} {p : Option Addr} {N c : Nat} {B : List Nat} {q mb K i : Nat} {kz ls : Int} {l : List S} (h : StO wB wt R p N c B q mb K i kz ls l) : Apart [] wB wt := by
  rcases h with ⟨_, ln, r, _, _, h, _⟩ | ⟨r, y, h, _⟩ <;> exact h.ap
theorem stepO {wB wt : World} {R : Nat} {p : Option Addr} {N c : Nat} {B : List Nat} {q mb K i ln r zt : Nat} {zn zb : Int} {l : List S} {so : Except Nat Nat}
    (HE : rspans B q mb = rb (rspansA B mb (K - i) ln r) (fun m q2 => .ok (l ++ m, q2))) (hlt : i < K)
    (HO : so = plc (rspan B r ln mb) ∧ ∀ x q, rspan B r ln mb = .ok (x, q) → x = ⟨zn, zb, zt⟩)
    (HR : RS wB wt R p N c B so) : StO wB wt R p N c B q mb K (i + 1) (K : Nat) zn (l ++ [⟨zn, zb, zt⟩]) := by
  obtain ⟨ho1, ho2⟩ := HO
  obtain ⟨q1, x1, h1, h2, h3⟩ := HR
  rw [show K - i = (K - (i + 1)) + 1 from by omega, rspansA, rb_rb] at HE
  cases hr : rspan B r ln mb with
  | error y =>
    rw [hr] at ho1 HE
    have hx := h3 y ho1
    subst hx
    exact .inr ⟨q1, y, h1, HE⟩
  | ok t =>
    obtain ⟨x, q3⟩ := t
    have hx := ho2 x q3 hr
    obtain ⟨n, hn, hn7, hln⟩ := rspan_n hr
    rw [hr] at ho1 HE
    obtain ⟨rfl, rfl⟩ := h2 q3 ho1
    rw [hx] at hn
    have hn' : zn = (n : Nat) := hn
    refine .inl ⟨rfl, n + 1, q1, by rw [hn']; omega, by omega, h1, ?_⟩
    rw [HE]
    simp only [rb_rb, rb_ok]
    rw [hx, show (⟨zn, zb, zt⟩ : S).n.toNat = n from by rw [hn]; rfl]
    simp only [List.append_assoc, List.singleton_append]
theorem nx_prev {α : Type} {B : List Nat} {r : Except Nat (α × Nat)} {lo : α → Nat} {hi : Nat} {a : α} {n q' : Nat} (h : nx B r lo hi = .ok ((a, n), q')) : ∃ q, r = .ok (a, q) := by
  cases r with
  | error y => cases h
  | ok t =>
    obtain ⟨b, q⟩ := t
    unfold nx at h
    rw [rb_ok] at h
    cases hr : rbound B q (lo b) hi with
    | error y => rw [hr] at h; cases h
    | ok t =>
      obtain ⟨m, q2⟩ := t
      rw [hr, rb_ok] at h
      cases h
      exact ⟨q, rfl⟩
theorem keepX {wB w w' : World} {X : Nat} {s : Sl} {us : List Value} (h : Nw wB w 48 3 s us) (a : Apart [X] w w') (hb : wB.heap.size ≤ X) (hs : ∀ k, s.v.ownBlock = some k → k ≠ X) : Nw wB w' 48 3 s us :=
  ⟨own_apart h.own a (fun k hk hm => hs k hk (by simpa using hm)), h.new, h.ap.trans' a (by intro y hy; simp at hy; rw [hy]; exact .inr hb)⟩
set_option maxHeartbeats 8000000 in
set_option maxRecDepth 100000 in
theorem rsetX_ok {wB w : World} {R : Nat} {p : Option Addr} {N c : Nat} {B : List Nat} {q : Nat} (h : RX wB w R p N c B q (-1)) (pl : Bool) (mb : Nat) (hmb : mb = if pl = true then 0 else 18446744073709551615) :
    Calls Tryz.prog 55 #[.pointer (some ⟨R, 0, none⟩), .bool pl] w fun e w' => OutX wB w w' R p N c B e (rspans B q mb) (VSet wB) (US wB) := by
  have HRB := hid h
  have HMB := hid hmb
  have HE : Hid (rspans B q mb = rb (rbound B q 0 8) (fun k q1 => rspansA B mb k 0 q1)) := rfl
  clear h hmb
  go_enter Tryz.func55, Tryz.ntmps55
  go_wp2_with fail
  refine (rnumI_ok HRB.out 0 8 (by omega) (by omega)).mono ?_
  rintro e2 w2 ⟨ha2, hm2⟩
  have HA2 : Hid (Apart [R] w w2) := ha2
  clear ha2
  obtain ⟨K, kz, v2, he2, hv2, HST, hK8⟩ : ∃ (K : Nat) (kz : Int) (v2 : Value), e2 = .returned v2 ∧ v2 = .int .i64 kz ∧ Hid (StO wB w2 R p N c B q mb K 0 kz (-1) []) ∧ K ≤ 8 := by
    cases hr2 : rbound B q 0 8 with
    | error x =>
      rw [hr2] at hm2
      have HE1 := HE.out
      rw [hr2, rb_err] at HE1
      obtain ⟨⟨v, rfl, z, rfl⟩, q2, hq2⟩ := hm2
      exact ⟨0, z, _, rfl, rfl, .inr ⟨q2, x, hq2, HE1⟩, by omega⟩
    | ok t =>
      obtain ⟨k, q2⟩ := t
      have hle := rbound_le hr2
      rw [hr2] at hm2
      have HE1 := HE.out
      rw [hr2, rb_ok] at HE1
      obtain ⟨⟨v, rfl, hv⟩, hq2⟩ := hm2
      exact ⟨k, k, v, rfl, hv, .inl ⟨rfl, 0, q2, rfl, by omega, hq2, by rw [HE1, Nat.sub_zero]; simp only [List.nil_append]; exact (rb_id _).symm⟩, by omega⟩
  subst he2 hv2
  try dsimp only
  go_wp2_with fail
  go_loopw [5, 7, 8] (fun a la d wt => ∃ (i : Nat) (ls : Int) (s : Sl) (l : List S), a = .slice s.p s.n s.c ∧ la = .int .i64 ls ∧ d = .int .i64 (i : Nat) ∧ i ≤ K ∧ Apart [R] w wt ∧ Nw wB wt 48 3 s (flat l) ∧ s.n = l.length ∧ l.length = i ∧ (∀ k, s.v.ownBlock = some k → w.heap.size ≤ k) ∧ (∀ x ∈ l, x.t < 2 ^ 64) ∧ StO wB wt R p N c B q mb K i kz ls l) (fun _ _ d _ => K - (intOf d).toNat)
  case atStart => exact ⟨0, -1, ⟨none, 0, 0⟩, [], rfl, rfl, rfl, Nat.zero_le _, HA2.out, ⟨World.ownsRow_nil _ _ _ _, by simp [Sl.v, Value.ownBlock], HST.out.ap⟩, rfl, rfl, by simp [Sl.v, Value.ownBlock], by simp, HST.out⟩
  case round =>
    obtain ⟨i, ls, s, l, rfl, rfl, rfl, hi, hap, hnw, hsl, hll, hnn, hfit, hst⟩ := hrel
    have HNN := hid hnn
    have HA := hid hap
    have HNW := hid hnw
    have HSL := hid hsl
    have HLL := hid hll
    have HFIT := hid hfit
    clear hnn hap hnw hsl hll hfit HST HE
    rcases hst with ⟨rfl, ln, r, hls, hln, hrx, heq⟩ | ⟨r, y, hrx, heq⟩
    · have HR := hid hrx
      have HE := hid heq
      clear hrx heq
      obtain ⟨z0, z1, z2, z3, z4⟩ := HR.out.cells
      by_cases hlt : i < K
      · have hin : ((i : Nat) : Int) < (K : Int) := by omega
        obtain ⟨X, HX⟩ : ∃ X, Hid (X = wr.heap.size) := ⟨_, rfl⟩
        obtain ⟨w1, hw1⟩ : ∃ w1, w1 = wr.alloc (.cells #[.int .i64 0, .int .i64 0, .int .u64 0] 48) := ⟨_, rfl⟩
        have HS1 : Hid (Apart [] wr w1) := by unfold Hid; rw [hw1]; exact (Apart.refl [] wr).alloc _
        have HX1 : Hid (w1.heap[X]? = some (.cells #[.int .i64 0, .int .i64 0, .int .u64 0] 48 (0, 0))) := by unfold Hid; rw [HX.out, hw1]; exact heap_alloc_new wr _
        have HXR : Hid (X ≠ R) := by unfold Hid; have := lt_of_heap HR.out.blk; rw [HX.out]; omega
        have HXw : Hid (w.heap.size ≤ X) := by unfold Hid; rw [HX.out]; exact HA.out.size
        have HXB : Hid (wB.heap.size ≤ X) := by unfold Hid; rw [HX.out]; exact HR.out.ap.size
        have HXs : Hid (∀ k, s.v.ownBlock = some k → k ≠ X) := fun k hk => by have := (HNW.out.own.lt k hk).2; rw [HX.out]; omega
        have HR1 : Hid (RS wB w1 R p N c B (plc (.ok ((), r)))) := RS.ok (HR.out.kept HS1.out)
        have HA1 : Hid (Apart [R] w w1) := HA.out.trans (HS1.out.mono (by simp))
        have HNW1 := hid (HNW.out.kept HS1.out)
        have hwl : IntKind.i64.wrap (ls + 1) = ((ln : Nat) : Int) := by rw [hls, IntKind.wrap_i64]; omega
        go_wp2_with fail
        rw [← hw1, ← HX.out]
        clear hw1 z0 z1 z2 z3 z4
        refine (rnumI_any HR1.out (fun _ => ln) 7 ((ln : Nat) : Int) (fun _ _ _ => ⟨rfl, by omega⟩) (by omega)).mono ?_
        rintro _ w2 ⟨ha2, zn, rfl, hr2, hz2⟩
        have HS2 := hid ha2
        have HA2 : Hid (Apart [R] w w2) := HA1.out.trans ha2
        have HR2 := hid hr2
        have HZ2 := hid hz2
        have HX2 : Hid (w2.heap[X]? = some (.cells #[.int .i64 0, .int .i64 0, .int .u64 0] 48 (0, 0))) := keepB HS2.out HX1.out (lt_of_heap HX1.out) HXR.out
        have HNW2 : Hid (Nw wB w2 48 3 s (flat l)) := HNW1.out.rd107 HR1.out HS2.out (by decide)
        clear ha2 hr2 hz2
        try dsimp only
        obtain ⟨x0, x1, x2⟩ := row3v HX2.out
        have f0 := frozen_of_row _ _ 0 _ _ HX2.out
        obtain ⟨w3, hw3⟩ : ∃ w3, w3 = w2.setCell ⟨X, 0, none⟩ (.int .i64 zn) := ⟨_, rfl⟩
        have HS3 : Hid (Apart [X] w2 w3) := by unfold Hid; rw [hw3]; exact (Apart.refl _ _).setCell (.inl (by simp)) _
        have HX3 : Hid (w3.heap[X]? = some (.cells #[.int .i64 zn, .int .i64 0, .int .u64 0] 48 (0, 0))) := by
          unfold Hid
          rw [hw3]
          have := heap_setCell_same w2 X 0 _ 48 (.int .i64 zn) HX2.out
          simpa using this
        have HR3 := hid (HR2.out.app HS3.out (by intro y hy; simp at hy; rw [hy]; exact ⟨HXB.out, _, 48, HX2.out, by decide⟩))
        have HA3 : Hid (Apart [R] w w3) := HA2.out.trans' HS3.out (by intro y hy; simp at hy; rw [hy]; exact .inr HXw.out)
        have HNW3 : Hid (Nw wB w3 48 3 s (flat l)) := keepX HNW2.out HS3.out HXB.out HXs.out
        obtain ⟨y0, y1, y2⟩ := row3v HX3.out
        rw [hw3] at y0 y1 y2
        go_wp2_with fail
        rw [← hw3]
        clear hw3 x0 x1 x2 f0 y0 y1 y2
        refine (rnumI_any HR3.out (fun _ => 0) 1048576 0 (fun _ _ _ => ⟨rfl, by omega⟩) (by omega)).mono ?_
        rintro _ w4 ⟨ha4, zb, rfl, hr4, hz4⟩
        have HS4 := hid ha4
        have HA4 : Hid (Apart [R] w w4) := HA3.out.trans ha4
        have HR4 := hid hr4
        have HZ4 := hid hz4
        have HX4 : Hid (w4.heap[X]? = some (.cells #[.int .i64 zn, .int .i64 0, .int .u64 0] 48 (0, 0))) := keepB HS4.out HX3.out (lt_of_heap HX3.out) HXR.out
        have HNW4 : Hid (Nw wB w4 48 3 s (flat l)) := HNW3.out.rd107 HR3.out HS4.out (by decide)
        clear ha4 hr4 hz4
        try dsimp only
        obtain ⟨x0, x1, x2⟩ := row3v HX4.out
        have f0 := frozen_of_row _ _ 1 _ _ HX4.out
        obtain ⟨w5, hw5⟩ : ∃ w5, w5 = w4.setCell ⟨X, 1, none⟩ (.int .i64 zb) := ⟨_, rfl⟩
        have HS5 : Hid (Apart [X] w4 w5) := by unfold Hid; rw [hw5]; exact (Apart.refl _ _).setCell (.inl (by simp)) _
        have HX5 : Hid (w5.heap[X]? = some (.cells #[.int .i64 zn, .int .i64 zb, .int .u64 0] 48 (0, 0))) := by
          unfold Hid
          rw [hw5]
          have := heap_setCell_same w4 X 1 _ 48 (.int .i64 zb) HX4.out
          simpa using this
        have HR5 := hid (HR4.out.app HS5.out (by intro y hy; simp at hy; rw [hy]; exact ⟨HXB.out, _, 48, HX4.out, by decide⟩))
        have HA5 : Hid (Apart [R] w w5) := HA4.out.trans' HS5.out (by intro y hy; simp at hy; rw [hy]; exact .inr HXw.out)
        have HNW5 : Hid (Nw wB w5 48 3 s (flat l)) := keepX HNW4.out HS5.out HXB.out HXs.out
        obtain ⟨qa, xa, hra, hra1, hra2⟩ := HR5.out
        have HQA := hid hra1
        obtain ⟨c0, c1, c2, c3, c4⟩ := hra.cells
        rw [hw5] at c0 c1 c2 c3 c4
        clear hra hra1 hra2
        go_wp2_with fail
        rw [← hw5]
        clear hw5 x0 x1 x2 f0 c0 c1 c2 c3 c4
        refine (rnumN_any HR5.out).mono ?_
        rintro _ w6 ⟨ha6, zt, hzt, rfl, hr6, hz6⟩
        have HS6 := hid ha6
        have HA6 : Hid (Apart [R] w w6) := HA5.out.trans ha6
        have HR6 := hid hr6
        have HZ6 := hid hz6
        have HX6 : Hid (w6.heap[X]? = some (.cells #[.int .i64 zn, .int .i64 zb, .int .u64 0] 48 (0, 0))) := keepB HS6.out HX5.out (lt_of_heap HX5.out) HXR.out
        have HNW6 : Hid (Nw wB w6 48 3 s (flat l)) := HNW5.out.rd107 HR5.out HS6.out (by decide)
        clear ha6 hr6 hz6
        try dsimp only
        have HZT := hid hzt
        obtain ⟨x0, x1, x2⟩ := row3v HX6.out
        have f0 := frozen_of_row _ _ 2 _ _ HX6.out
        obtain ⟨w7, hw7⟩ : ∃ w7, w7 = w6.setCell ⟨X, 2, none⟩ (.int .u64 (zt : Nat)) := ⟨_, rfl⟩
        have HS7 : Hid (Apart [X] w6 w7) := by unfold Hid; rw [hw7]; exact (Apart.refl _ _).setCell (.inl (by simp)) _
        have HX7 : Hid (w7.heap[X]? = some (.cells #[.int .i64 zn, .int .i64 zb, .int .u64 (zt : Nat)] 48 (0, 0))) := by
          unfold Hid
          rw [hw7]
          have := heap_setCell_same w6 X 2 _ 48 (.int .u64 (zt : Nat)) HX6.out
          simpa using this
        have HR7 := hid (HR6.out.app HS7.out (by intro y hy; simp at hy; rw [hy]; exact ⟨HXB.out, _, 48, HX6.out, by decide⟩))
        have HA7 : Hid (Apart [R] w w7) := HA6.out.trans' HS7.out (by intro y hy; simp at hy; rw [hy]; exact .inr HXw.out)
        have HNW7 : Hid (Nw wB w7 48 3 s (flat l)) := keepX HNW6.out HS7.out HXB.out HXs.out
        go_upto_region 13 with fail
        rw [← hw7]
        clear hw7 x0 x1 x2 f0
        obtain ⟨x0, x1, x2⟩ := row3v HX7.out
        obtain ⟨w8, hw8⟩ : ∃ w8, w8 = w7.alloc (.cells #[.int .i64 zn, .int .i64 zb, .int .u64 (zt : Nat)] 48) := ⟨_, rfl⟩
        have HS8 : Hid (Apart [] w7 w8) := by unfold Hid; rw [hw8]; exact (Apart.refl [] w7).alloc _
        have HY8 : Hid (w8.heap[w7.heap.size]? = some (.cells #[.int .i64 zn, .int .i64 zb, .int .u64 (zt : Nat)] 48 (0, 0))) := by unfold Hid; rw [hw8]; exact heap_alloc_new w7 _
        obtain ⟨v1, Hv⟩ : ∃ v : Bool, Hid (v = true ↔ OkL 64 [(⟨zn, zb, zt⟩ : S)]) := by
          by_cases k : OkL 64 [(⟨zn, zb, zt⟩ : S)]
          · exact ⟨true, by unfold Hid; simp [k]⟩
          · exact ⟨false, by unfold Hid; simp [k]⟩
        have HIS : Hid (Calls Tryz.prog 52 #[.slice (some ⟨w7.heap.size, 0, none⟩) 1 1, .int .i64 64] w8 fun r w' => r = .returned (.bool v1) ∧ Apart [] w8 w') := by
          unfold Hid
          have hL := rowL (x := ⟨zn, zb, zt⟩) HY8.out (by show zt < 2 ^ 64; omega)
          cases v1 with
          | true => exact right_yes hL (by omega) (Hv.out.1 rfl)
          | false => exact right_no hL (by omega) (fun h => by have := Hv.out.2 h; cases this)
        go_wp2_with fail
        rw [← hw8]
        clear hw8
        refine HIS.out.mono ?_
        rintro _ w9 ⟨rfl, ha9⟩
        have HS9 : Hid (Apart [] w7 w9) := HS8.out.trans ha9
        have HA9 : Hid (Apart [R] w w9) := HA7.out.trans (HS9.out.mono (by simp))
        have HR9 := hid (HR7.out.kept HS9.out)
        have HNW9 := hid (HNW7.out.kept HS9.out)
        have HX9 : Hid (w9.heap[X]? = some (.cells #[.int .i64 zn, .int .i64 zb, .int .u64 (zt : Nat)] 48 (0, 0))) := (HS9.out.block _ (lt_of_heap HX7.out) (by simp)).trans HX7.out
        clear ha9 x0 x1 x2 HIS
        try dsimp only
        obtain ⟨x0, x1, x2⟩ := row3v HX9.out
        obtain ⟨vb, Hvb⟩ : ∃ vb : Bool, Hid (vb = !(v1 && (!pl || decide (zt = 0)))) := ⟨_, rfl⟩
        go_upto_region 14 with fail
        go_cut [56] from 47 to 56 (fun t wx => t = .bool vb ∧ wx = w9)
        case first =>
          cases v1 with
          | false =>
            have hvb : vb = true := by rw [Hvb.out]; rfl
            subst hvb
            go_wp2_with fail
            go_meet
            exact ⟨rfl, rfl⟩
          | true =>
            cases pl with
            | false =>
              have hvb : vb = false := by rw [Hvb.out]; rfl
              subst hvb
              go_wp2_with fail
              go_meet
              exact ⟨rfl, rfl⟩
            | true =>
              by_cases hzz : zt = 0
              · have hvb : vb = false := by rw [Hvb.out, hzz]; rfl
                have hzi : ((zt : Nat) : Int) = 0 := by omega
                subst hvb hzz
                go_wp2_with fail
                go_meet
                exact ⟨rfl, rfl⟩
              · have hvb : vb = true := by rw [Hvb.out]; simp [hzz]
                have hzi : ¬ ((zt : Nat) : Int) = 0 := by omega
                have HZI : Hid ((((zt : Nat) : Int) != 0) = true) := by unfold Hid; simp; omega
                subst hvb
                go_wp2_with fail
                go_meet
                exact ⟨by rw [HZI.out], rfl⟩
        obtain ⟨rfl, hww⟩ := hcut
        rw [hww]
        clear hww
        have HOUT := hid (span_out B r ln mb qa zt zn zb pl vb HMB.out HZT.out (fun q2 e => (HQA.out q2 e).1) (fun a q e => (by
            obtain ⟨q0, h0⟩ := nx_prev (a := a.1) (n := a.2) e
            exact ⟨HZ2.out a.1.1 a.1.2 q0 h0, HZ4.out a.1 a.2 q e⟩)) (fun a t q3 e => HZ6.out a t q3 e) (by
          rw [Hvb.out]
          cases pl with
          | true => simp [Hv.out.symm]; cases v1 <;> simp
          | false => simp [Hv.out.symm]))
        cases vb with
        | true =>
          have HR11 := HR9
          go_wp2_with fail
          refine (rwrong_any HR9.out qa).mono ?_
          rintro _ w10 ⟨rfl, ha10, hr10⟩
          have HS10 := hid ha10
          have HA10 : Hid (Apart [R] w w10) := HA9.out.trans ha10
          have HR10 := hid hr10
          have HX10 : Hid (w10.heap[X]? = some (.cells #[.int .i64 zn, .int .i64 zb, .int .u64 (zt : Nat)] 48 (0, 0))) := keepB HS10.out HX9.out (lt_of_heap HX9.out) HXR.out
          have HNW10 : Hid (Nw wB w10 48 3 s (flat l)) := HNW9.out.rd107 HR9.out HS10.out (by decide)
          clear ha10 hr10 x0 x1 x2
          try dsimp only
          obtain ⟨i0, hif, hz0, hz1, hz2⟩ := info_parts info52
          obtain ⟨s5, w5x, hrun, hnw5, hs5, ap5, k5, hk5, -, hk6⟩ := run_appM (s := s) 26 26 48 i0 _ 3 24 Tryz.underlying26 hif hz0 hz1 hz2 rfl (by decide) HNW10.out 1 [.int .i64 zn, .int .i64 zb, .int .u64 (zt : Nat)] (by decide) rfl (fun u hu => by simp at hu; rcases hu with rfl | rfl | rfl <;> rfl) (by have h1 := HSL.out; have h2 := HLL.out; unfold maxLen; omega) (by have h1 := HSL.out; have h2 := HLL.out; omega)
          have HTY : Hid (∀ k ∈ s.v.ownBlock.toList, wB.heap.size ≤ k ∧ ∃ cur t, w10.heap[k]? = some (.cells cur t (0, 0)) ∧ t ≠ 100) := fun k hk => by
            obtain ⟨cur, hc⟩ := own_typ HNW10.out.own (k := k) (by simpa using hk)
            exact ⟨HNW10.out.new k (by simpa using hk), cur, 48, hc, by decide⟩
          have HR20 := hid (HR10.out.app ap5 HTY.out)
          have HA20 : Hid (Apart [R] w w5x) := HA10.out.trans' ap5 (fun y hy => .inr (HNN.out y (by simpa using hy)))
          have HNW20 : Hid (Nw wB w5x 48 3 s5 (flat (l ++ [⟨zn, zb, zt⟩]))) := by unfold Hid; rw [flat_snoc]; exact hnw5
          have HRUN : Hid ((Builtin.append_ #[26, 26] 26 #[.slice s.p s.n s.c, .slice (some ⟨w10.heap.size, 0, none⟩) 1 1]).run Tryz.prog (w10.alloc (Obj.cells #[.int .i64 zn, .int .i64 zb, .int .u64 (zt : Nat)] 48)) = .ok (.slice s5.p s5.n s5.c) w5x) := hrun
          have Hs5 : Hid (s5.n = l.length + 1) := by unfold Hid; rw [hs5, HSL.out]
          have HNN5 : Hid (∀ k, s5.v.ownBlock = some k → w.heap.size ≤ k) := fun k hk => by
            have e1 : k5 = k := by unfold Sl.v at hk; rw [hk5] at hk; simpa [Value.ownBlock] using hk
            rw [← e1]
            rcases hk6 with h1 | h1
            · exact HNN.out k5 h1
            · exact Nat.le_trans HA10.out.size h1
          obtain ⟨x0, x1, x2⟩ := row3v HX10.out
          clear hrun hnw5 hs5 ap5 hk5 hk6
          go_wp2_with (at_builtin; refine wpList_app2 rfl (.tmp 60) (.tmp 62) 26 26 rfl _ _ rfl rfl _ _ HRUN.out ?_)
          go_roundw
          case rel =>
            refine ⟨i + 1, zn, s5, l ++ [⟨zn, zb, zt⟩], rfl, rfl, by go_num, by omega, HA20.out, HNW20.out, by rw [Hs5.out, List.length_append]; rfl, by rw [List.length_append, HLL.out]; rfl, HNN5.out, fun y hy => ?_, ?_⟩
            · rcases List.mem_append.1 hy with hy | hy
              · exact HFIT.out y hy
              · simp at hy; rw [hy]; exact HZT.out
            · exact stepO HE.out hlt HOUT.out HR20.out
          case measure => simp [intOf]; omega
        | false =>
          clear x0 x1 x2
          obtain ⟨i0, hif, hz0, hz1, hz2⟩ := info_parts info52
          obtain ⟨s5, w5x, hrun, hnw5, hs5, ap5, k5, hk5, -, hk6⟩ := run_appM (s := s) 26 26 48 i0 _ 3 24 Tryz.underlying26 hif hz0 hz1 hz2 rfl (by decide) HNW9.out 1 [.int .i64 zn, .int .i64 zb, .int .u64 (zt : Nat)] (by decide) rfl (fun u hu => by simp at hu; rcases hu with rfl | rfl | rfl <;> rfl) (by have h1 := HSL.out; have h2 := HLL.out; unfold maxLen; omega) (by have h1 := HSL.out; have h2 := HLL.out; omega)
          have HTY : Hid (∀ k ∈ s.v.ownBlock.toList, wB.heap.size ≤ k ∧ ∃ cur t, w9.heap[k]? = some (.cells cur t (0, 0)) ∧ t ≠ 100) := fun k hk => by
            obtain ⟨cur, hc⟩ := own_typ HNW9.out.own (k := k) (by simpa using hk)
            exact ⟨HNW9.out.new k (by simpa using hk), cur, 48, hc, by decide⟩
          have HR20 := hid (HR9.out.app ap5 HTY.out)
          have HA20 : Hid (Apart [R] w w5x) := HA9.out.trans' ap5 (fun y hy => .inr (HNN.out y (by simpa using hy)))
          have HNW20 : Hid (Nw wB w5x 48 3 s5 (flat (l ++ [⟨zn, zb, zt⟩]))) := by unfold Hid; rw [flat_snoc]; exact hnw5
          have HRUN : Hid ((Builtin.append_ #[26, 26] 26 #[.slice s.p s.n s.c, .slice (some ⟨w9.heap.size, 0, none⟩) 1 1]).run Tryz.prog (w9.alloc (Obj.cells #[.int .i64 zn, .int .i64 zb, .int .u64 (zt : Nat)] 48)) = .ok (.slice s5.p s5.n s5.c) w5x) := hrun
          have Hs5 : Hid (s5.n = l.length + 1) := by unfold Hid; rw [hs5, HSL.out]
          have HNN5 : Hid (∀ k, s5.v.ownBlock = some k → w.heap.size ≤ k) := fun k hk => by
            have e1 : k5 = k := by unfold Sl.v at hk; rw [hk5] at hk; simpa [Value.ownBlock] using hk
            rw [← e1]
            rcases hk6 with h1 | h1
            · exact HNN.out k5 h1
            · exact Nat.le_trans HA9.out.size h1
          obtain ⟨x0, x1, x2⟩ := row3v HX9.out
          clear hrun hnw5 hs5 ap5 hk5 hk6
          go_wp2_with (at_builtin; refine wpList_app2 rfl (.tmp 60) (.tmp 62) 26 26 rfl _ _ rfl rfl _ _ HRUN.out ?_)
          go_roundw
          case rel =>
            refine ⟨i + 1, zn, s5, l ++ [⟨zn, zb, zt⟩], rfl, rfl, by go_num, by omega, HA20.out, HNW20.out, by rw [Hs5.out, List.length_append]; rfl, by rw [List.length_append, HLL.out]; rfl, HNN5.out, fun y hy => ?_, ?_⟩
            · rcases List.mem_append.1 hy with hy | hy
              · exact HFIT.out y hy
              · simp at hy; rw [hy]; exact HZT.out
            · exact stepO HE.out hlt HOUT.out HR20.out
          case measure => simp [intOf]; omega
      · obtain rfl : K = i := by omega
        have hin : ¬ ((K : Nat) : Int) < (K : Int) := by omega
        have HF : Hid (rspans B q mb = .ok (l, r)) := by
          unfold Hid
          rw [HE.out, Nat.sub_self, rspansA, rb_ok, List.append_nil]
        go_wp2_with fail
        go_ret
        refine ⟨HA.out, ?_⟩
        rw [HF.out]
        exact ⟨⟨_, rfl, s, rfl, HNW.out, HSL.out, HFIT.out⟩, HR.out⟩
    · have HR := hid hrx
      have HF := hid heq
      have hy0 : ¬ ((y : Nat) : Int) < 0 := by omega
      obtain ⟨z0, z1, z2, z3, z4⟩ := HR.out.cells
      clear hrx heq
      by_cases hin : ((i : Nat) : Int) < kz
      · go_wp2_with fail
        go_ret
        refine ⟨HA.out, ?_⟩
        rw [HF.out]
        exact ⟨⟨_, rfl, l, by have := HLL.out; omega, s, rfl, HNW.out, HSL.out, HFIT.out⟩, r, HR.out⟩
      · go_wp2_with fail
        go_ret
        refine ⟨HA.out, ?_⟩
        rw [HF.out]
        exact ⟨⟨_, rfl, l, by have := HLL.out; omega, s, rfl, HNW.out, HSL.out, HFIT.out⟩, r, HR.out⟩
set_option maxRecDepth 100000 in
theorem rsetX_bad {wB w : World} {R : Nat} {p : Option Addr} {N c : Nat} {B : List Nat} {q : Nat} {x : Int} (h : RX wB w R p N c B q x) (hx : 0 ≤ x) (pl : Bool) :
    Calls Tryz.prog 55 #[.pointer (some ⟨R, 0, none⟩), .bool pl] w fun e w' => e = .returned (.slice none 0 0) ∧ w' = w := by
  have HC := hid (rnumI_bad h hx 0 8)
  clear h hx
  go_enter Tryz.func55, Tryz.ntmps55
  go_wp2_with fail
  refine HC.out.mono ?_
  rintro _ w2 ⟨rfl, hw2⟩
  rw [hw2]
  try dsimp only
  go_wp2_with fail
  go_loopw [5, 7, 8] (fun a la d wt => a = .slice none 0 0 ∧ la = .int .i64 (-1) ∧ d = .int .i64 0 ∧ wt = w) (fun _ _ _ _ => 0)
  case atStart => exact ⟨rfl, rfl, rfl, rfl⟩
  case round =>
    obtain ⟨rfl, rfl, rfl, hw⟩ := hrel
    rw [hw]
    clear hw
    go_wp2_with fail
    go_ret
    exact ⟨rfl, rfl⟩
/-- then a set is read -/
noncomputable def st {α : Type} (B : List Nat) (r : Except Nat (α × Nat)) (mb : Nat) : Except Nat ((α × List S) × Nat) := rb r fun a q => rb (rspans B q mb) fun k q' => .ok ((a, k), q')
theorem rsetX_any {α : Type} {wB w : World} {R : Nat} {p : Option Addr} {N c : Nat} {B : List Nat} {r : Except Nat (α × Nat)} (h : RS wB w R p N c B (plc r)) (pl : Bool) (mb : Nat) (hmb : mb = if pl = true then 0 else 18446744073709551615) :
    Calls Tryz.prog 55 #[.pointer (some ⟨R, 0, none⟩), .bool pl] w fun e w' => Apart [R] w w' ∧ ∃ (s : Sl) (l : List S), e = .returned (.slice s.p s.n s.c) ∧ l.length ≤ 8 ∧ (Nw wB w' 48 3 s (flat l) ∧ s.n = l.length ∧ ∀ x ∈ l, x.t < 2 ^ 64) ∧ RS wB w' R p N c B (plc (st B r mb)) ∧ ∀ a k q', st B r mb = .ok ((a, k), q') → k = l := by
  obtain ⟨q, x, h1, h2, h3⟩ := h
  cases r with
  | error y =>
    have hx := h3 y rfl
    subst hx
    refine (rsetX_bad h1 (by omega) pl).mono ?_
    rintro _ w2 ⟨rfl, rfl⟩
    exact ⟨Apart.refl _ _, ⟨none, 0, 0⟩, [], rfl, by simp, ⟨⟨World.ownsRow_nil _ _ _ _, by simp [Sl.v, Value.ownBlock], h1.ap⟩, rfl, by simp⟩, RS.err h1, fun _ _ _ e => by cases e⟩
  | ok t =>
    obtain ⟨a, q0⟩ := t
    obtain ⟨rfl, rfl⟩ := h2 q0 rfl
    refine (rsetX_ok h1 pl mb hmb).mono ?_
    rintro e w2 ⟨ha, hm⟩
    refine ⟨ha, ?_⟩
    have hn : st B (.ok (a, q)) mb = rb (rspans B q mb) fun k q' => .ok ((a, k), q') := rfl
    rw [hn]
    cases hr : rspans B q mb with
    | error y =>
      rw [hr] at hm
      obtain ⟨⟨v, rfl, l, hl8, s, rfl, hs⟩, q2, hq2⟩ := hm
      exact ⟨s, l, rfl, hl8, hs, RS.err hq2, fun _ _ _ e => by cases e⟩
    | ok t =>
      obtain ⟨l, q2⟩ := t
      rw [hr] at hm
      obtain ⟨⟨v, rfl, s, rfl, hs⟩, hq2⟩ := hm
      refine ⟨s, l, rfl, rspans_len hr, hs, RS.ok hq2, fun a' k q' e => ?_⟩
      rw [rb_ok] at e
      cases e
      rfl
end Go.Proofs.YtddffdcjhleejaaGreat.ds
