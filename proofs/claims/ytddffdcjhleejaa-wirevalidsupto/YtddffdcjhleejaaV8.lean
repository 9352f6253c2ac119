import Derived.Test.YtddffdcjhleejaaV7
namespace Go.Proofs.Ytddffdcjhleejaa.ds
open Go.ChangeShapes Go.WideShapes Go.ChangeAt Go.RowKit Go.Sort
set_option linter.unusedVariables false
set_option linter.unusedSimpArgs false
theorem rspan_n {B : List Nat} {q ln mb : Nat} {x : S} {q' : Nat} (h : rspan B q ln mb = .ok (x, q')) : ∃ n : Nat, x.n = (n : Nat) ∧ n ≤ 7 ∧ ln ≤ n := by
  unfold rspan at h
  cases h1 : rbound B q ln 7 with
  | error e => rw [h1] at h; cases h
  | ok t =>
    obtain ⟨n, q1⟩ := t
    rw [h1, rb_ok] at h
    cases h2 : rbound B q1 0 1048576 with
    | error e => rw [h2] at h; cases h
    | ok t =>
      obtain ⟨b, q2⟩ := t
      rw [h2, rb_ok] at h
      cases h3 : rnumber B q2 with
      | error e => rw [h3] at h; cases h
      | ok t =>
        obtain ⟨⟨a, o⟩, q3⟩ := t
        rw [h3, rb_ok] at h
        simp only at h
        split at h
        · simp only [Except.ok.injEq, Prod.mk.injEq] at h
          have := rbound_le h1
          exact ⟨n, by rw [← h.1], this.2, this.1⟩
        · cases h
noncomputable def rspansA (B : List Nat) (mb : Nat) : Nat → Nat → Nat → Except Nat (List S × Nat)
  | 0, _, q => .ok ([], q)
  | k + 1, ln, q => rb (rspan B q ln mb) (fun x q1 => rb (rspansA B mb k (x.n.toNat + 1) q1) (fun l q2 => .ok (x :: l, q2)))
noncomputable def rspans (B : List Nat) (q mb : Nat) : Except Nat (List S × Nat) := rb (rbound B q 0 8) (fun k q1 => rspansA B mb k 0 q1)
theorem rb_rb {α β γ : Type} (r : Except Nat (α × Nat)) (f : α → Nat → Except Nat (β × Nat)) (g : β → Nat → Except Nat (γ × Nat)) : rb (rb r f) g = rb r (fun a q => rb (f a q) g) := by
  cases r with
  | error x => rfl
  | ok t => obtain ⟨a, q⟩ := t; rfl
theorem rb_id {α : Type} (r : Except Nat (α × Nat)) : rb r (fun a q => .ok (a, q)) = r := by
  cases r with
  | error x => rfl
  | ok t => obtain ⟨a, q⟩ := t; rfl
/-- a slice of the call's own stays, where the reader goes on -/
theorem Nw.rd124 {wB w w' : World} {R : Nat} {p : Option Addr} {N c : Nat} {B : List Nat} {q : Nat} {e size : Nat} {s : Sl} {us : List Value} (h : Nw wB w e size s us) (hr : RB wB w R p N c B q) (a : Apart [R] w w') (he : e ≠ 124) : Nw wB w' e size s us :=
  h.keepT a (hr.ap.trans' a (by intro y hy; simp at hy; rw [hy]; exact .inr hr.xb)) (fun k hk cur hcur => by
    simp at hk
    rw [hk, hr.blk] at hcur
    simp at hcur
    exact he hcur.2.symm)
theorem own_kept {wB w w' : World} {R : Nat} {p : Option Addr} {N c : Nat} {B : List Nat} {q q' : Nat} (h : RB wB w R p N c B q) (a : Apart [R] w w') : Apart [] wB w' := h.ap.trans' a (by intro y hy; simp at hy; rw [hy]; exact .inr h.xb)
/-- appending leaves the reader alone -/
theorem RB.app {wB w w' : World} {R : Nat} {p : Option Addr} {N c : Nat} {B : List Nat} {q : Nat} {X : List Nat} (h : RB wB w R p N c B q) (a : Apart X w w') (hX : ∀ k ∈ X, wB.heap.size ≤ k ∧ ∃ cur t, w.heap[k]? = some (.cells cur t (0, 0)) ∧ t ≠ 124) : RB wB w' R p N c B q := by
  have hne : R ∉ X := fun e => by
    obtain ⟨_, cur, t, h1, h2⟩ := hX R e
    rw [h.blk] at h1
    simp at h1
    exact h2 h1.2.symm
  refine { h with blk := (a.block _ (lt_of_heap h.blk) hne).trans h.blk, rd := fun h0 => ?_, ap := h.ap.trans' a (fun y hy => .inr (hX y hy).1) }
  obtain ⟨P, o, e, hP, hc⟩ := h.rd h0
  exact ⟨P, o, e, Nat.lt_of_lt_of_le hP a.size, fun j v hj => (a.cell hP (fun hm => by have h1 := h.old P o e; have h2 := (hX P hm).1; omega)).trans (hc j v hj)⟩
theorem flat_snoc (l : List S) (x : S) : flat (l ++ [x]) = flat l ++ [.int .i64 x.n, .int .i64 x.b, .int .u64 (x.t : Int)] := by simp [flat, ec]
/-- a set that was read, in new memory -/
def VSet (wB : World) (a : List S) (v : Value) (w' : World) : Prop := ∃ s : Sl, v = .slice s.p s.n s.c ∧ Nw wB w' 86 3 s (flat a) ∧ s.n = a.length ∧ ∀ x ∈ a, x.t < 2 ^ 64
set_option maxHeartbeats 8000000 in
set_option maxRecDepth 100000 in
theorem spans_ok {wB w : World} {R : Nat} {p : Option Addr} {N c : Nat} {B : List Nat} {q : Nat} (h : RB wB w R p N c B q) (mb : Nat) :
    Calls Try.prog 98 #[.pointer (some ⟨R, 0, none⟩), .int .u64 (mb : Nat)] w fun e w' => OutR wB w w' R p N c B e (rspans B q mb) (VSet wB) := by
  have HRB := hid h
  have HE : Hid (rspans B q mb = rb (rbound B q 0 8) (fun k q1 => rspansA B mb k 0 q1)) := rfl
  clear h
  go_enter Try.func98, Try.ntmps98
  go_wp2_with fail
  refine (bounded_ok HRB.out 0 8 (by omega) (by omega)).mono ?_
  rintro e2 w2 ⟨ha2, hm2⟩
  have HA2 : Hid (Apart [R] w w2) := ha2
  have HS2 := hid ha2
  clear ha2
  cases hr2 : rbound B q 0 8 with
  | error x =>
    rw [hr2] at hm2
    have he : e2 = wrongAt x := hm2
    subst he
    unfold wrongAt
    have HE1 := HE.out
    rw [hr2, rb_err] at HE1
    try dsimp only
    refine ⟨rfl, HA2.out, ?_⟩
    rw [HE1]
    rfl
  | ok t =>
    obtain ⟨K, q2⟩ := t
    rw [hr2] at hm2
    obtain ⟨⟨v2, hev2, hv2⟩, hrb2⟩ := hm2
    subst hev2
    have HR2 := hid hrb2
    have HE1 := HE.out
    rw [hr2, rb_ok] at HE1
    replace HE := hid HE1
    have HP2 := hid hr2
    clear HE1 hrb2 hr2
    subst hv2
    have hK := (rbound_le HP2.out).2
    try dsimp only
    go_wp2_with fail
    go_loopw [5, 6, 10] (fun a b d wt => ∃ (i ln r : Nat) (s : Sl) (l : List S), a = .slice s.p s.n s.c ∧ b = .int .i64 (ln : Nat) ∧ d = .int .i64 (i : Nat) ∧ i ≤ K ∧ ln ≤ 8 ∧ RB wB wt R p N c B r ∧ Apart [R] w wt ∧ Nw wB wt 86 3 s (flat l) ∧ (s.n = l.length ∧ l.length = i ∧ ∀ k, s.v.ownBlock = some k → w.heap.size ≤ k) ∧ (∀ x ∈ l, x.t < 2 ^ 64) ∧ rspans B q mb = rb (rspansA B mb (K - i) ln r) (fun m q2 => .ok (l ++ m, q2))) (fun _ _ d _ => K - (intOf d).toNat)
    case atStart => exact ⟨0, 0, q2, ⟨none, 0, 0⟩, [], rfl, rfl, rfl, Nat.zero_le _, by omega, HR2.out, HA2.out, ⟨World.ownsRow_nil _ _ _ _, by simp [Sl.v, Value.ownBlock], HR2.out.ap⟩, ⟨rfl, rfl, by simp [Sl.v, Value.ownBlock]⟩, by simp, by rw [HE.out, Nat.sub_zero]; simp only [List.nil_append]; exact (rb_id _).symm⟩
    case round =>
      obtain ⟨i, ln, r, s, l, rfl, rfl, rfl, hi, hln, hrb, hap, hnw, ⟨hsl, hll, hnn⟩, hfit, heq⟩ := hrel
      have HNN := hid hnn
      clear hnn
      have HR := hid hrb
      have HA := hid hap
      have HNW := hid hnw
      have HSL := hid hsl
      have HLL := hid hll
      have HFIT := hid hfit
      replace HE := hid heq
      clear hrb hap hnw hsl hll hfit heq
      by_cases hlt : i < K
      · have hin : ((i : Nat) : Int) < (K : Int) := by omega
        have HE1 := HE.out
        rw [show K - i = (K - (i + 1)) + 1 from by omega, rspansA, rb_rb] at HE1
        replace HE := hid HE1
        clear HE1
        go_wp2_with fail
        refine (span_ok HR.out ln mb (by omega)).mono ?_
        rintro e3 w3 ⟨ha3, hm3⟩
        have HA3 : Hid (Apart [R] w w3) := HA.out.trans ha3
        have HS3 := hid ha3
        clear ha3
        cases hr3 : rspan B r ln mb with
        | error x =>
          rw [hr3] at hm3
          have he : e3 = wrongAt x := hm3
          subst he
          unfold wrongAt
          have HE1 := HE.out
          rw [hr3, rb_err] at HE1
          try dsimp only
          refine ⟨rfl, HA3.out, ?_⟩
          rw [HE1]
          rfl
        | ok t =>
          obtain ⟨x, q3⟩ := t
          rw [hr3] at hm3
          obtain ⟨⟨v3, hev3, hv3⟩, hrb3⟩ := hm3
          subst hev3
          have HR3 := hid hrb3
          have HE1 := HE.out
          rw [hr3, rb_ok] at HE1
          replace HE := hid HE1
          have HP3 := hid hr3
          clear HE1 hrb3 hr3
          obtain ⟨hvx, ht⟩ := hv3
          subst hvx
          unfold spv
          obtain ⟨n, hxn, hn7, hlnn⟩ := rspan_n HP3.out
          have HXN := hid hxn
          clear hxn
          have HNW3 : Hid (Nw wB w3 86 3 s (flat l)) := HNW.out.rd124 HR.out HS3.out (by decide)
          try dsimp only
          obtain ⟨w4, hw4⟩ : ∃ w4, w4 = w3.alloc (.cells #[.int .i64 x.n, .int .i64 x.b, .int .u64 (x.t : Int)] 86) := ⟨_, rfl⟩
          have HS4 : Hid (Apart [] w3 w4) := by unfold Hid; rw [hw4]; exact (Apart.refl [] w3).alloc _
          have HX4 : Hid (w4.heap[w3.heap.size]? = some (.cells #[.int .i64 x.n, .int .i64 x.b, .int .u64 (x.t : Int)] 86 (0, 0))) := by unfold Hid; rw [hw4]; exact heap_alloc_new w3 _
          obtain ⟨X, HX⟩ : ∃ X, Hid (X = w3.heap.size) := ⟨_, rfl⟩
          rw [← HX.out] at HX4
          have HNW4 := hid (HNW3.out.kept HS4.out)
          obtain ⟨i0, hif, hz0, hz1, hz2⟩ := info_parts info52
          obtain ⟨s5, w5, hrun, hnw5, hs5, ap5, k5, hk5, -, hk6⟩ := run_appM (s := s) 26 26 86 i0 _ 3 24 Try.underlying26 hif hz0 hz1 hz2 rfl (by decide) HNW4.out 1 [.int .i64 x.n, .int .i64 x.b, .int .u64 (x.t : Int)] (by decide) rfl (fun u hu => by simp at hu; rcases hu with rfl | rfl | rfl <;> rfl) (by have h1 := HSL.out; have h2 := HLL.out; unfold maxLen; omega) (by have h1 := HSL.out; have h2 := HLL.out; omega)
          have HTY : Hid (∀ k ∈ s.v.ownBlock.toList, wB.heap.size ≤ k ∧ ∃ cur t, w4.heap[k]? = some (.cells cur t (0, 0)) ∧ t ≠ 124) := fun k hk => by
            obtain ⟨cur, hc⟩ := own_typ HNW4.out.own (k := k) (by simpa using hk)
            exact ⟨HNW4.out.new k (by simpa using hk), cur, 86, hc, by decide⟩
          have HR5 := hid ((HR3.out.kept HS4.out).app ap5 HTY.out)
          have HA5 : Hid (Apart [R] w w5) := (HA3.out.trans (HS4.out.mono (by simp))).trans' ap5 (fun y hy => .inr (HNN.out y (by simpa using hy)))
          have HX5 : Hid (w5.heap[X]? = some (.cells #[.int .i64 x.n, .int .i64 x.b, .int .u64 (x.t : Int)] 86 (0, 0))) := (ap5.block _ (lt_of_heap HX4.out) (fun hm => by
            have h1 := (HNW3.out.own.lt X (by simpa using hm)).2
            rw [HX.out] at h1
            omega)).trans HX4.out
          have HNW5 : Hid (Nw wB w5 86 3 s5 (flat (l ++ [x]))) := by unfold Hid; rw [flat_snoc]; exact hnw5
          have HRUN : Hid ((Builtin.append_ #[26, 26] 26 #[.slice s.p s.n s.c, .slice (some ⟨w4.heap.size, 0, none⟩) 1 1]).run Try.prog (w4.alloc (Obj.cells #[.int .i64 x.n, .int .i64 x.b, .int .u64 (x.t : Int)] 86)) = .ok (.slice s5.p s5.n s5.c) w5) := hrun
          have Hs5 : Hid (s5.n = l.length + 1) := by unfold Hid; rw [hs5, HSL.out]
          have HNN5 : Hid (∀ k, s5.v.ownBlock = some k → w.heap.size ≤ k) := fun k hk => by
            have e1 : k5 = k := by unfold Sl.v at hk; rw [hk5] at hk; simpa [Value.ownBlock] using hk
            rw [← e1]
            rcases hk6 with h1 | h1
            · exact HNN.out k5 h1
            · exact Nat.le_trans (HA3.out.trans (HS4.out.mono (by simp))).size h1
          obtain ⟨x0, x1, x2⟩ := row3v HX4.out
          obtain ⟨y0, y1, y2⟩ := row3v HX5.out
          clear hrun hnw5 hs5 ap5 hk5 hk6
          have HE1 := HE.out
          simp only [rb_rb, rb_ok] at HE1
          replace HE := hid HE1
          clear HE1
          have hwn : IntKind.i64.wrap (x.n + 1) = ((n + 1 : Nat) : Int) := by rw [HXN.out, IntKind.wrap_i64]; omega
          go_upto_region 6 with fail
          rw [← hw4, ← HX.out]
          clear hw4
          go_wp2_with (at_builtin; refine wpList_app2 rfl (.tmp 16) (.tmp 18) 26 26 rfl _ _ rfl rfl _ _ HRUN.out ?_)
          go_roundw
          case rel => exact ⟨i + 1, n + 1, q3, s5, l ++ [x], rfl, by first | rfl | (rw [hwn]), by go_num, by omega, by omega, HR5.out, HA5.out, HNW5.out, ⟨by rw [Hs5.out, List.length_append]; rfl, by rw [List.length_append, HLL.out]; rfl, HNN5.out⟩, fun y hy => by
            rcases List.mem_append.1 hy with hy | hy
            · exact HFIT.out y hy
            · simp at hy; rw [hy]; exact ht, by
            rw [HE.out, show x.n.toNat = n from by rw [HXN.out]; rfl]
            simp only [List.append_assoc, List.singleton_append]⟩
          case measure => simp [intOf]; omega
      · obtain rfl : K = i := by omega
        have hin : ¬ ((K : Nat) : Int) < (K : Int) := by omega
        have HF : Hid (rspans B q mb = .ok (l, r)) := by
          unfold Hid
          rw [HE.out, Nat.sub_self, rspansA, rb_ok, List.append_nil]
        go_wp2_with fail
        go_ret
        refine ⟨HA.out, ?_⟩
        rw [HF.out]
        exact ⟨⟨_, rfl, s, rfl, HNW.out, HSL.out, HFIT.out⟩, HR.out⟩
end Go.Proofs.Ytddffdcjhleejaa.ds
namespace Go.Proofs.Ytddffdcjhleejaa.ds
open Go.ChangeShapes Go.WideShapes Go.ChangeAt Go.RowKit Go.Sort
set_option linter.unusedVariables false
set_option linter.unusedSimpArgs false
noncomputable def rset (B : List Nat) (q : Nat) : Except Nat (List S × Nat) := rspans B q 18446744073709551615
set_option maxHeartbeats 8000000 in
set_option maxRecDepth 100000 in
theorem set_ok {wB w : World} {R : Nat} {p : Option Addr} {N c : Nat} {B : List Nat} {q : Nat} (h : RB wB w R p N c B q) :
    Calls Try.prog 59 #[.pointer (some ⟨R, 0, none⟩)] w fun e w' => OutR wB w w' R p N c B e (rset B q) (VSet wB) := by
  have HRB := hid h
  have HE : Hid (rset B q = rb (rspans B q 18446744073709551615) (fun a q => .ok (a, q))) := (rb_id _).symm
  clear h
  go_enter Try.func59, Try.ntmps59
  go_wp2_with fail
  refine (spans_ok HRB.out 18446744073709551615).mono ?_
  rintro e2 w2 ⟨ha2, hm2⟩
  have HA2 : Hid (Apart [R] w w2) := ha2
  have HS2 := hid ha2
  clear ha2
  cases hr2 : rspans B q 18446744073709551615 with
  | error x =>
    rw [hr2] at hm2
    have he : e2 = wrongAt x := hm2
    subst he
    unfold wrongAt
    have HE1 := HE.out
    rw [hr2, rb_err] at HE1
    try dsimp only
    refine ⟨rfl, HA2.out, ?_⟩
    rw [HE1]
    rfl
  | ok t =>
    obtain ⟨l, q2⟩ := t
    rw [hr2] at hm2
    obtain ⟨⟨v2, hev2, hv2⟩, hrb2⟩ := hm2
    subst hev2
    have HR2 := hid hrb2
    have HE1 := HE.out
    rw [hr2, rb_ok] at HE1
    replace HE := hid HE1
    have HP2 := hid hr2
    clear HE1 hrb2 hr2
    obtain ⟨s, hvs, hvr⟩ := hv2
    have HV2 : Hid (VSet wB l (.slice s.p s.n s.c) w2) := ⟨s, rfl, hvr⟩
    subst hvs
    clear hvr
    try dsimp only
    go_wp2_with fail
    go_ret
    refine ⟨HA2.out, ?_⟩
    rw [HE.out]
    exact ⟨⟨_, rfl, HV2.out⟩, HR2.out⟩
noncomputable def rbases (B : List Nat) (q : Nat) : Except Nat (List S × Nat) := rspans B q 0
set_option maxHeartbeats 8000000 in
set_option maxRecDepth 100000 in
theorem bases_wire {wB w : World} {R : Nat} {p : Option Addr} {N c : Nat} {B : List Nat} {q : Nat} (h : RB wB w R p N c B q) :
    Calls Try.prog 110 #[.pointer (some ⟨R, 0, none⟩)] w fun e w' => OutR wB w w' R p N c B e (rbases B q) (VSet wB) := by
  have HRB := hid h
  have HE : Hid (rbases B q = rb (rspans B q 0) (fun a q => .ok (a, q))) := (rb_id _).symm
  clear h
  go_enter Try.func110, Try.ntmps110
  go_wp2_with fail
  refine (spans_ok HRB.out 0).mono ?_
  rintro e2 w2 ⟨ha2, hm2⟩
  have HA2 : Hid (Apart [R] w w2) := ha2
  have HS2 := hid ha2
  clear ha2
  cases hr2 : rspans B q 0 with
  | error x =>
    rw [hr2] at hm2
    have he : e2 = wrongAt x := hm2
    subst he
    unfold wrongAt
    have HE1 := HE.out
    rw [hr2, rb_err] at HE1
    try dsimp only
    refine ⟨rfl, HA2.out, ?_⟩
    rw [HE1]
    rfl
  | ok t =>
    obtain ⟨l, q2⟩ := t
    rw [hr2] at hm2
    obtain ⟨⟨v2, hev2, hv2⟩, hrb2⟩ := hm2
    subst hev2
    have HR2 := hid hrb2
    have HE1 := HE.out
    rw [hr2, rb_ok] at HE1
    replace HE := hid HE1
    have HP2 := hid hr2
    clear HE1 hrb2 hr2
    obtain ⟨s, hvs, hvr⟩ := hv2
    have HV2 : Hid (VSet wB l (.slice s.p s.n s.c) w2) := ⟨s, rfl, hvr⟩
    subst hvs
    clear hvr
    try dsimp only
    go_wp2_with fail
    go_ret
    refine ⟨HA2.out, ?_⟩
    rw [HE.out]
    exact ⟨⟨_, rfl, HV2.out⟩, HR2.out⟩
/-- the set of a kind of message: without bits in a MsgTell -/
noncomputable def rsetOf (B : List Nat) (q kind : Nat) : Except Nat (List S × Nat) := if kind = 5 then rbases B q else rset B q
set_option maxHeartbeats 8000000 in
set_option maxRecDepth 100000 in
theorem setOf_ok {wB w : World} {R : Nat} {p : Option Addr} {N c : Nat} {B : List Nat} {q : Nat} (h : RB wB w R p N c B q) (kind : Nat) :
    Calls Try.prog 82 #[.pointer (some ⟨R, 0, none⟩), .int .i64 (kind : Nat)] w fun e w' => OutR wB w w' R p N c B e (rsetOf B q kind) (VSet wB) := by
  have HRB := hid h
  clear h
  by_cases h5 : kind = 5
  · have h5i : ((kind : Nat) : Int) = 5 := by omega
    have HE : Hid (rsetOf B q kind = rb (rbases B q) (fun a q => .ok (a, q))) := by unfold Hid rsetOf; rw [if_pos h5, rb_id]
    go_enter Try.func82, Try.ntmps82
    go_wp2_with fail
    refine (bases_wire HRB.out).mono ?_
    rintro e2 w2 ⟨ha2, hm2⟩
    have HA2 : Hid (Apart [R] w w2) := ha2
    have HS2 := hid ha2
    clear ha2
    cases hr2 : rbases B q with
    | error x =>
      rw [hr2] at hm2
      have he : e2 = wrongAt x := hm2
      subst he
      unfold wrongAt
      have HE1 := HE.out
      rw [hr2, rb_err] at HE1
      try dsimp only
      refine ⟨rfl, HA2.out, ?_⟩
      rw [HE1]
      rfl
    | ok t =>
      obtain ⟨l, q2⟩ := t
      rw [hr2] at hm2
      obtain ⟨⟨v2, hev2, hv2⟩, hrb2⟩ := hm2
      subst hev2
      have HR2 := hid hrb2
      have HE1 := HE.out
      rw [hr2, rb_ok] at HE1
      replace HE := hid HE1
      have HP2 := hid hr2
      clear HE1 hrb2 hr2
      obtain ⟨s, hvs, hvr⟩ := hv2
      have HV2 : Hid (VSet wB l (.slice s.p s.n s.c) w2) := ⟨s, rfl, hvr⟩
      subst hvs
      clear hvr
      try dsimp only
      go_wp2_with fail
      go_ret
      refine ⟨HA2.out, ?_⟩
      rw [HE.out]
      exact ⟨⟨_, rfl, HV2.out⟩, HR2.out⟩
  · have h5i : ¬ ((kind : Nat) : Int) = 5 := by omega
    have HE : Hid (rsetOf B q kind = rb (rset B q) (fun a q => .ok (a, q))) := by unfold Hid rsetOf; rw [if_neg h5, rb_id]
    go_enter Try.func82, Try.ntmps82
    go_wp2_with fail
    refine (set_ok HRB.out).mono ?_
    rintro e2 w2 ⟨ha2, hm2⟩
    have HA2 : Hid (Apart [R] w w2) := ha2
    have HS2 := hid ha2
    clear ha2
    cases hr2 : rset B q with
    | error x =>
      rw [hr2] at hm2
      have he : e2 = wrongAt x := hm2
      subst he
      unfold wrongAt
      have HE1 := HE.out
      rw [hr2, rb_err] at HE1
      try dsimp only
      refine ⟨rfl, HA2.out, ?_⟩
      rw [HE1]
      rfl
    | ok t =>
      obtain ⟨l, q2⟩ := t
      rw [hr2] at hm2
      obtain ⟨⟨v2, hev2, hv2⟩, hrb2⟩ := hm2
      subst hev2
      have HR2 := hid hrb2
      have HE1 := HE.out
      rw [hr2, rb_ok] at HE1
      replace HE := hid HE1
      have HP2 := hid hr2
      clear HE1 hrb2 hr2
      obtain ⟨s, hvs, hvr⟩ := hv2
      have HV2 : Hid (VSet wB l (.slice s.p s.n s.c) w2) := ⟨s, rfl, hvr⟩
      subst hvs
      clear hvr
      try dsimp only
      go_wp2_with fail
      go_ret
      refine ⟨HA2.out, ?_⟩
      rw [HE.out]
      exact ⟨⟨_, rfl, HV2.out⟩, HR2.out⟩
/-- does a dot stand behind another one? -/
def risW (an ac n c : Int) : Bool := decide (an < n) || (decide (an = n) && decide (ac < c))
set_option maxRecDepth 100000 in
theorem rises_ok (an ac n c : Int) (w : World) : Calls Try.prog 117 #[.agg #[.int .i64 an, .int .i64 ac], .agg #[.int .i64 n, .int .i64 c]] w fun r w' => r = .returned (.bool (risW an ac n c)) ∧ Apart [] w w' := by
  by_cases h1 : an < n
  · have HR : Hid (risW an ac n c = true) := by unfold Hid risW; simp [h1]
    have h1i : n > an := h1
    go_enter Try.func117, Try.ntmps117
    go_wp2_with fail
    go_ret
    exact ⟨by rw [HR.out]; rfl, ((Apart.refl [] w).alloc _).alloc _⟩
  · have h1i : ¬ n > an := h1
    by_cases h2 : n = an
    · subst h2
      by_cases h3 : ac < c
      · have HR : Hid (risW n ac n c = true) := by unfold Hid risW; simp [h3]
        have h3i : c > ac := h3
        go_enter Try.func117, Try.ntmps117
        go_wp2_with fail
        go_ret
        exact ⟨by rw [HR.out]; rfl, ((Apart.refl [] w).alloc _).alloc _⟩
      · have HR : Hid (risW n ac n c = false) := by unfold Hid risW; simp [h3]
        have h3i : ¬ c > ac := h3
        go_enter Try.func117, Try.ntmps117
        go_wp2_with fail
        go_ret
        exact ⟨by rw [HR.out]; rfl, ((Apart.refl [] w).alloc _).alloc _⟩
    · have HR : Hid (risW an ac n c = false) := by unfold Hid risW; simp [h1, Ne.symm h2]
      go_enter Try.func117, Try.ntmps117
      go_wp2_with fail
      go_ret
      exact ⟨by rw [HR.out]; rfl, ((Apart.refl [] w).alloc _).alloc _⟩
end Go.Proofs.Ytddffdcjhleejaa.ds
