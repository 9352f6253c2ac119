import Derived.Test.YtddffdcjhleejaaGreatG12
import Derived.Deep.CutRange
namespace Go.Proofs.YtddffdcjhleejaaGreat.ds
open Go.ChangeShapes Go.WideShapes Go.ChangeAt Go.RowKit Go.Sort
set_option linter.unusedVariables false
set_option linter.unusedSimpArgs false
/-- a message as it reads -/
structure Mg where
  kind : Nat
  frm : Nat
  dst : Nat
  call : Nat
  rng : Nat
  own : Nat
  key : List Nat
  dn : Nat
  dc : Nat
  set : List S
  ws : List Wr
/-- a part that is read if it is named -/
def ropt {α : Type} (b : Bool) (d : α) (q : Nat) (r : Nat → Except Nat (α × Nat)) : Except Nat (α × Nat) := if b = true then r q else .ok (d, q)
def hasF (k f : Nat) : Bool := decide (fldK k &&& f ≠ 0)
/-- the writes of a message -/
noncomputable def rmws (B : List Nat) (k : Nat) (key : List Nat) (q : Nat) : Except Nat (List Wr × Nat) :=
  rb (ropt (hasF k 64) [] q (fun q => rb (rlone B q) (fun r q2 => .ok ([r], q2)))) (fun w1 q1 => ropt (hasF k 128) w1 q1 (fun q => rwrites B q (mostK k) (strB key)))
noncomputable def rm10 (B : List Nat) (k f t ca ow rg : Nat) (ky : List Nat) (d : Nat × Nat) (st : List S) (q : Nat) : Except Nat (Mg × Nat) := rb (rmws B k ky q) fun ws q10 => if q10 = B.length then .ok (⟨k, f, t, ca, rg, ow, ky, d.1, d.2, st, ws⟩, q10) else .error q10
noncomputable def rm9 (B : List Nat) (k f t ca ow rg : Nat) (ky : List Nat) (d : Nat × Nat) (q : Nat) : Except Nat (Mg × Nat) := rb (ropt (hasF k 32) [] q (fun q => rsetOf B q k)) fun st q9 => rm10 B k f t ca ow rg ky d st q9
noncomputable def rm8 (B : List Nat) (k f t ca ow rg : Nat) (ky : List Nat) (q : Nat) : Except Nat (Mg × Nat) := rb (ropt (hasF k 16) (0, 0) q (fun q => rdot B q)) fun d q8 => rm9 B k f t ca ow rg ky d q8
noncomputable def rm7 (B : List Nat) (k f t ca ow rg : Nat) (q : Nat) : Except Nat (Mg × Nat) := rb (ropt (hasF k 8) [] q (fun q => rtext B q 1 16)) fun ky q7 => rm8 B k f t ca ow rg ky q7
noncomputable def rm6 (B : List Nat) (k f t ca ow : Nat) (q : Nat) : Except Nat (Mg × Nat) := rb (ropt (hasF k 4) 0 q (fun q => rbound B q 0 15)) fun rg q6 => rm7 B k f t ca ow rg q6
noncomputable def rm5 (B : List Nat) (k f t ca : Nat) (q : Nat) : Except Nat (Mg × Nat) := rb (ropt (hasF k 2) 0 q (fun q => rbound B q 0 7)) fun ow q5 => rm6 B k f t ca ow q5
noncomputable def rm4 (B : List Nat) (k f t : Nat) (q : Nat) : Except Nat (Mg × Nat) := rb (ropt (hasF k 1) 0 q (fun q => rbound B q 0 4096)) fun ca q4 => rm5 B k f t ca q4
/-- a message that all of the bytes are -/
noncomputable def rmsg (B : List Nat) (q : Nat) : Except Nat (Mg × Nat) := rb (rbound B q 1 11) fun k q1 => rb (rbound B q1 0 7) fun f q2 => rb (rbound B q2 0 7) fun t q3 => rm4 B k f t q3
noncomputable def rm12 (B : List Nat) (k f t ca ow rg : Nat) (ky : List Nat) (d : Nat × Nat) (st : List S) (ws : List Wr) (q : Nat) : Except Nat (Mg × Nat) := if q = B.length then .ok (⟨k, f, t, ca, rg, ow, ky, d.1, d.2, st, ws⟩, q) else .error q
noncomputable def rm11 (B : List Nat) (k f t ca ow rg : Nat) (ky : List Nat) (d : Nat × Nat) (st : List S) (w1 : List Wr) (q : Nat) : Except Nat (Mg × Nat) := rb (ropt (hasF k 128) w1 q (fun q => rwrites B q (mostK k) (strB ky))) fun ws q10 => rm12 B k f t ca ow rg ky d st ws q10
theorem rm10_eq (B : List Nat) (k f t ca ow rg : Nat) (ky : List Nat) (d : Nat × Nat) (st : List S) (q : Nat) : rm10 B k f t ca ow rg ky d st q = rb (ropt (hasF k 64) [] q (fun q => rb (rlone B q) (fun r q2 => .ok ([r], q2)))) fun w1 q1 => rm11 B k f t ca ow rg ky d st w1 q1 := by
  unfold rm10 rmws
  rw [rb_rb]
  rfl
theorem one_FL {wB w w' : World} {b : Nat} {e : E} {r : Wr} (hb : w'.heap[b]? = some (.cells (E.cs e).toArray 37 (0, 0))) (hn : wB.heap.size ≤ b) (hf : Fresh wB w' e r) (ap : Apart [] wB w') : FL wB w' ⟨some ⟨b, 0, none⟩, 1, 1⟩ [e] [r] := by
  refine ⟨⟨⟨?_, fun k hk => ?_, ap⟩, rfl⟩, rfl, fun j hj => ?_⟩
  · refine ⟨by simp [flatE, E.cs], .inr ⟨b, 1, (E.cs e).toArray, rfl, Nat.zero_le _, hb, ?_⟩⟩
    exact ⟨Nat.le_refl _, by unfold maxLen; omega, by simp [E.cs], by simp [flatE, E.cs]⟩
  · simp [Sl.v, Value.ownBlock] at hk
    rw [← hk]; exact hn
  · match j, hj with
    | 0, _ => exact hf
/-- a message that was read, in new memory -/
def VMsg (wB : World) (a : Mg) (v : Value) (w' : World) : Prop := ∃ (m : MM) (es : List E), v = .agg m.cs ∧ (m.kind = a.kind ∧ m.frm = a.frm ∧ m.dst = a.dst ∧ m.call = a.call ∧ m.rng = a.rng ∧ m.own = a.own ∧ m.key = strB a.key ∧ m.dn = a.dn ∧ m.dc = a.dc) ∧ VSet wB a.set (.slice m.set.p m.set.n m.set.c) w' ∧ FL wB w' m.ws es a.ws
theorem strB_nil : strB [] = ⟨#[]⟩ := rfl
/-- a message that is being read: its block, the result's block, the reader -/
structure MF (wB w wx : World) (R : Nat) (p : Option Addr) (N c : Nat) (B : List Nat) (q D M : Nat) (m : MM) (sx : List S) (es : List E) (rs : List Wr) : Prop where
  rb : RB wB wx R p N c B q
  ap : Apart [R] w wx
  mb : wx.heap[M]? = some (.cells m.cs 29 (0, 0))
  db : wx.heap[D]? = some (.cells MM.z.cs 29 (0, 0))
  set : Nw wB wx 48 3 m.set (flat sx) ∧ m.set.n = sx.length ∧ ∀ x ∈ sx, x.t < 2 ^ 64
  ws : FL wB wx m.ws es rs
  ne : M ≠ R ∧ D ≠ R ∧ M ≠ D ∧ w.heap.size ≤ M ∧ w.heap.size ≤ D
  wb : wB.heap.size ≤ w.heap.size
theorem MF.call {wB w wx wy : World} {R : Nat} {p : Option Addr} {N c : Nat} {B : List Nat} {q q' D M : Nat} {m : MM} {sx : List S} {es : List E} {rs : List Wr} (h : MF wB w wx R p N c B q D M m sx es rs) (a : Apart [R] wx wy) (hr : RB wB wy R p N c B q') : MF wB w wy R p N c B q' D M m sx es rs :=
  ⟨hr, h.ap.trans a, keepB a h.mb (lt_of_heap h.mb) h.ne.1, keepB a h.db (lt_of_heap h.db) h.ne.2.1, ⟨h.set.1.rd124 h.rb a (by decide), h.set.2⟩, h.ws.rd124 h.rb a, h.ne, h.wb⟩
theorem MF.kept {wB w wx wy : World} {R : Nat} {p : Option Addr} {N c : Nat} {B : List Nat} {q D M : Nat} {m : MM} {sx : List S} {es : List E} {rs : List Wr} (h : MF wB w wx R p N c B q D M m sx es rs) (a : Apart [] wx wy) : MF wB w wy R p N c B q D M m sx es rs :=
  h.call (a.mono (by simp)) (h.rb.kept a)
theorem MF.put {wB w wx wy : World} {R : Nat} {p : Option Addr} {N c : Nat} {B : List Nat} {q D M : Nat} {m m' : MM} {sx sy : List S} {es fs : List E} {rs qs : List Wr} (h : MF wB w wx R p N c B q D M m sx es rs) (a : Apart [M] wx wy) (hm : wy.heap[M]? = some (.cells m'.cs 29 (0, 0))) (hs : Nw wB wx 48 3 m'.set (flat sy) ∧ m'.set.n = sy.length ∧ ∀ x ∈ sy, x.t < 2 ^ 64) (hw : FL wB wx m'.ws fs qs) : MF wB w wy R p N c B q D M m' sy fs qs := by
  have hM : wB.heap.size ≤ M := Nat.le_trans h.wb h.ne.2.2.2.1
  refine ⟨h.rb.other a h.mb (by decide) hM, h.ap.trans' a (by intro y hy; simp at hy; rw [hy]; exact .inr h.ne.2.2.2.1), hm, keepB a h.db (lt_of_heap h.db) h.ne.2.2.1.symm, ⟨hs.1.oth a h.mb (by decide) hM, hs.2⟩, hw.oth a h.mb (by decide) hM, h.ne, h.wb⟩
theorem mrow {w : World} {M : Nat} {m : MM} (h : w.heap[M]? = some (.cells m.cs 29 (0, 0))) (i : Nat) (v : Value) (hv : m.cs[i]? = some v) : w.cell? ⟨M, i, none⟩ = some v := by
  rw [cell_of_row _ _ _ _ _ _ h]; exact hv
theorem mset {w : World} {M : Nat} {m m' : MM} (h : w.heap[M]? = some (.cells m.cs 29 (0, 0))) (i : Nat) (v : Value) (hv : m.cs.setIfInBounds i v = m'.cs) : (w.setCell ⟨M, i, none⟩ v).heap[M]? = some (.cells m'.cs 29 (0, 0)) := by
  rw [heap_setCell_same w M i _ 29 v h, hv]
set_option maxHeartbeats 32000000 in
set_option maxRecDepth 100000 in
theorem message_ok {wB w : World} {R : Nat} {p : Option Addr} {N c : Nat} {B : List Nat} {q : Nat} (h : RB wB w R p N c B q) :
    Calls Tryz.prog 34 #[.pointer (some ⟨R, 0, none⟩)] w fun e w' => OutR wB w w' R p N c B e (rmsg B q) (VMsg wB) := by
  have HRB := hid h
  have HE : Hid (rmsg B q = rb (rbound B q 1 11) fun k q1 => rb (rbound B q1 0 7) fun f q2 => rb (rbound B q2 0 7) fun t q3 => rm4 B k f t q3) := rfl
  obtain ⟨D, HD⟩ : ∃ D, Hid (D = w.heap.size) := ⟨_, rfl⟩
  obtain ⟨w1, hw1⟩ : ∃ w1, w1 = w.alloc (.cells #[.int .i64 0, .int .i64 0, .int .i64 0, .int .i64 0, .int .i64 0, .int .i64 0, .string ⟨#[]⟩, .int .i64 0, .int .i64 0, .slice none 0 0, .slice none 0 0] 29) := ⟨_, rfl⟩
  have HS1 : Hid (Apart [] w w1) := by unfold Hid; rw [hw1]; exact (Apart.refl [] w).alloc _
  have HA1 : Hid (Apart [R] w w1) := HS1.out.mono (by simp)
  have HD1 : Hid (w1.heap[D]? = some (.cells MM.z.cs 29 (0, 0))) := by unfold Hid; rw [HD.out, hw1]; exact heap_alloc_new w _
  have HDR : Hid (D ≠ R) := by unfold Hid; have := lt_of_heap HRB.out.blk; rw [HD.out]; omega
  have HR1 := hid (HRB.out.kept HS1.out)
  clear h
  go_enter Tryz.func34, Tryz.ntmps34
  go_wp2_with fail
  rw [← hw1, ← HD.out]
  clear hw1
  refine (bounded_ok HR1.out 1 11 (by omega) (by omega)).mono ?_
  rintro e2 w2 ⟨ha2, hm2⟩
  have HA2 : Hid (Apart [R] w w2) := HA1.out.trans ha2
  have HS2 := hid ha2
  clear ha2
  cases hr2 : rbound B q 1 11 with
  | error x =>
    rw [hr2] at hm2
    have he : e2 = wrongAt x := hm2
    subst he
    unfold wrongAt
    have HE1 := HE.out
    rw [hr2, rb_err] at HE1
    try dsimp only
    refine ⟨rfl, HA2.out, ?_⟩
    rw [HE1]
    rfl
  | ok t =>
    obtain ⟨k, q2⟩ := t
    rw [hr2] at hm2
    obtain ⟨⟨v2, hev2, hv2⟩, hrb2⟩ := hm2
    subst hev2
    have HR2 := hid hrb2
    have HE1 := HE.out
    rw [hr2, rb_ok] at HE1
    replace HE := hid HE1
    have HP2 := hid hr2
    clear HE1 hrb2 hr2
    subst hv2
    have hk11 := (rbound_le HP2.out).2
    try dsimp only
    obtain ⟨M, HMe⟩ : ∃ M, Hid (M = w2.heap.size) := ⟨_, rfl⟩
    obtain ⟨w3, hw3⟩ : ∃ w3, w3 = w2.alloc (.cells #[.int .i64 (k : Nat), .int .i64 0, .int .i64 0, .int .i64 0, .int .i64 0, .int .i64 0, .string ⟨#[]⟩, .int .i64 0, .int .i64 0, .slice none 0 0, .slice none 0 0] 29) := ⟨_, rfl⟩
    have HS3 : Hid (Apart [] w2 w3) := by unfold Hid; rw [hw3]; exact (Apart.refl [] w2).alloc _
    have HM3 : Hid (MF wB w w3 R p N c B q2 D M ⟨k, 0, 0, 0, 0, 0, ⟨#[]⟩, 0, 0, ⟨none, 0, 0⟩, ⟨none, 0, 0⟩⟩ [] [] []) := by
      have hD2 := keepB HS2.out HD1.out (lt_of_heap HD1.out) HDR.out
      have hR3 := HR2.out.kept HS3.out
      refine ⟨hR3, HA2.out.trans (HS3.out.mono (by simp)), ?_, (HS3.out.block _ (lt_of_heap hD2) (by simp)).trans hD2, ⟨⟨World.ownsRow_nil _ _ _ _, by simp [Sl.v, Value.ownBlock], hR3.ap⟩, rfl, by simp⟩, FL.nilW _ _ hR3.ap, ⟨?_, HDR.out, ?_, ?_, ?_⟩, HRB.out.ap.size⟩
      · rw [HMe.out, hw3]; exact heap_alloc_new w2 _
      · have := lt_of_heap HR2.out.blk; rw [HMe.out]; omega
      · have := lt_of_heap hD2; rw [HMe.out]; omega
      · rw [HMe.out]; exact HA2.out.size
      · rw [HD.out]; exact Nat.le_refl _
    go_wp2_with fail
    rw [← hw3, ← HMe.out]
    clear hw3
    have HA3 := hid HM3.out.ap
    refine (rnode_ok HM3.out.rb).mono ?_
    rintro e4 w4 ⟨ha4, hm4⟩
    have HA4 : Hid (Apart [R] w w4) := HA3.out.trans ha4
    have HS4 := hid ha4
    clear ha4
    cases hr4 : rbound B q2 0 7 with
    | error x =>
      rw [hr4] at hm4
      have he : e4 = wrongAt x := hm4
      subst he
      unfold wrongAt
      have HE1 := HE.out
      rw [hr4, rb_err] at HE1
      try dsimp only
      refine ⟨rfl, HA4.out, ?_⟩
      rw [HE1]
      rfl
    | ok t =>
      obtain ⟨f, q4⟩ := t
      rw [hr4] at hm4
      obtain ⟨⟨v4, hev4, hv4⟩, hrb4⟩ := hm4
      subst hev4
      have HR4 := hid hrb4
      have HE1 := HE.out
      rw [hr4, rb_ok] at HE1
      replace HE := hid HE1
      have HP4 := hid hr4
      clear HE1 hrb4 hr4
      subst hv4
      try dsimp only
      have HM4 := hid (HM3.out.call HS4.out HR4.out)
      obtain ⟨w5, hw5⟩ : ∃ w5, w5 = w4.setCell ⟨M, 1, none⟩ (.int .i64 (f : Nat)) := ⟨_, rfl⟩
      have HM5 := hid (HM4.out.put (wy := w5) (m' := ⟨k, f, 0, 0, 0, 0, ⟨#[]⟩, 0, 0, ⟨none, 0, 0⟩, ⟨none, 0, 0⟩⟩) (by rw [hw5]; exact (Apart.refl _ _).setCell (.inl (by simp)) _) (by rw [hw5]; exact mset HM4.out.mb 1 _ rfl) HM4.out.set HM4.out.ws)
      have cM4 : w4.cell? ⟨M, 1, none⟩ = _ := mrow HM4.out.mb 1 _ rfl
      have fM4 := frozen_of_row _ _ 1 _ _ HM4.out.mb
      go_wp2_with fail
      rw [← hw5]
      clear hw5 cM4 fM4
      have HA5 := hid HM5.out.ap
      refine (rnode_ok HM5.out.rb).mono ?_
      rintro e6 w6 ⟨ha6, hm6⟩
      have HA6 : Hid (Apart [R] w w6) := HA5.out.trans ha6
      have HS6 := hid ha6
      clear ha6
      cases hr6 : rbound B q4 0 7 with
      | error x =>
        rw [hr6] at hm6
        have he : e6 = wrongAt x := hm6
        subst he
        unfold wrongAt
        have HE1 := HE.out
        rw [hr6, rb_err] at HE1
        try dsimp only
        refine ⟨rfl, HA6.out, ?_⟩
        rw [HE1]
        rfl
      | ok t =>
        obtain ⟨t, q6⟩ := t
        rw [hr6] at hm6
        obtain ⟨⟨v6, hev6, hv6⟩, hrb6⟩ := hm6
        subst hev6
        have HR6 := hid hrb6
        have HE1 := HE.out
        rw [hr6, rb_ok] at HE1
        replace HE := hid HE1
        have HP6 := hid hr6
        clear HE1 hrb6 hr6
        subst hv6
        try dsimp only
        have HM6 := hid (HM5.out.call HS6.out HR6.out)
        obtain ⟨w7, hw7⟩ : ∃ w7, w7 = w6.setCell ⟨M, 2, none⟩ (.int .i64 (t : Nat)) := ⟨_, rfl⟩
        have HM7 := hid (HM6.out.put (wy := w7) (m' := ⟨k, f, t, 0, 0, 0, ⟨#[]⟩, 0, 0, ⟨none, 0, 0⟩, ⟨none, 0, 0⟩⟩) (by rw [hw7]; exact (Apart.refl _ _).setCell (.inl (by simp)) _) (by rw [hw7]; exact mset HM6.out.mb 2 _ rfl) HM6.out.set HM6.out.ws)
        have cM6 : w6.cell? ⟨M, 2, none⟩ = _ := mrow HM6.out.mb 2 _ rfl
        have fM6 := frozen_of_row _ _ 2 _ _ HM6.out.mb
        have k7 : w7.cell? ⟨M, 0, none⟩ = some (.int .i64 (k : Nat)) := mrow HM7.out.mb 0 _ rfl
        go_upto_region 4 with fail
        rw [← hw7]
        clear hw7 cM6 fM6
        go_wp2_with fail
        refine (fieldsOf_ok k w7).mono ?_
        rintro _ wn ⟨rfl, hwn⟩
        rw [hwn]
        clear hwn wn k7
        try dsimp only
        obtain ⟨fk, Hfk⟩ : ∃ fk, Hid (fk = fldK k) := ⟨_, rfl⟩
        rw [← Hfk.out]
        have HNM : Hid (∀ (g : Nat), g < 256 → ∀ W, Calls Tryz.prog 61 #[.int .u64 (fk : Nat), .int .u64 (g : Nat)] W fun r w' => r = .returned (.bool (hasF k g)) ∧ w' = W) := fun g hg W => name_wire fk g (by rw [Hfk.out]; exact fldK_lt k) hg _ (by unfold hasF; rw [Hfk.out]) W
        go_wp2_with fail
        refine (HNM.out 1 (by omega) w7).mono ?_
        rintro _ wn ⟨rfl, hwn⟩
        rw [hwn]
        clear hwn wn
        obtain ⟨bF, HbF⟩ : ∃ bF, Hid (bF = hasF k 1) := ⟨_, rfl⟩
        rw [← HbF.out]
        try dsimp only
        go_upto_if 18 with fail
        replace HE : Hid (rmsg B q = rm4 B k f t q6) := HE.out
        go_cut [] from 19 to 21 (fun wx => ∃ (ca : Nat) (q20 : Nat), MF wB w wx R p N c B q20 D M ⟨k, f, t, ca, 0, 0, ⟨#[]⟩, 0, 0, ⟨none, 0, 0⟩, ⟨none, 0, 0⟩⟩ [] [] [] ∧ rmsg B q = rm5 B k f t ca q20)
        · cases bF with
          | false =>
            have HF : Hid (rmsg B q = rm5 B k f t 0 q6) := by unfold Hid; rw [HE.out]; unfold rm4 ropt; rw [← HbF.out]; rfl
            go_wp2_with fail
            go_meet
            exact ⟨0, q6, HM7.out, HF.out⟩
          | true =>
            replace HE : Hid (rmsg B q = rb (rbound B q6 0 4096) fun ca q20 => rm5 B k f t ca q20) := by unfold Hid; rw [HE.out]; unfold rm4 ropt; rw [← HbF.out]; rfl
            have HRc := hid HM7.out.rb
            have HA7 := hid HM7.out.ap
            go_wp2_with fail
            refine (bounded_ok HRc.out 0 4096 (by omega) (by omega)).mono ?_
            rintro e90 w90 ⟨ha90, hm90⟩
            have HA90 : Hid (Apart [R] w w90) := HA7.out.trans ha90
            have HS90 := hid ha90
            clear ha90
            cases hr90 : rbound B q6 0 4096 with
            | error x =>
              rw [hr90] at hm90
              have he : e90 = wrongAt x := hm90
              subst he
              unfold wrongAt
              have HE1 := HE.out
              rw [hr90, rb_err] at HE1
              try dsimp only
              refine ⟨rfl, HA90.out, ?_⟩
              rw [HE1]
              rfl
            | ok t =>
              obtain ⟨ca, q90⟩ := t
              rw [hr90] at hm90
              obtain ⟨⟨v90, hev90, hv90⟩, hrb90⟩ := hm90
              subst hev90
              have HR90 := hid hrb90
              have HE1 := HE.out
              rw [hr90, rb_ok] at HE1
              replace HE := hid HE1
              have HP90 := hid hr90
              clear HE1 hrb90 hr90
              subst hv90
              try dsimp only
              have HM90 := hid (HM7.out.call HS90.out HR90.out)
              obtain ⟨w91, hw91⟩ : ∃ w91, w91 = w90.setCell ⟨M, 3, none⟩ (.int .i64 (ca : Nat)) := ⟨_, rfl⟩
              have HM91 := hid (HM90.out.put (wy := w91) (m' := ⟨k, f, t, ca, 0, 0, ⟨#[]⟩, 0, 0, ⟨none, 0, 0⟩, ⟨none, 0, 0⟩⟩) (by rw [hw91]; exact (Apart.refl _ _).setCell (.inl (by simp)) _) (by rw [hw91]; exact mset HM90.out.mb 3 _ rfl) HM90.out.set HM90.out.ws)
              have cM90 : w90.cell? ⟨M, 3, none⟩ = _ := mrow HM90.out.mb 3 _ rfl
              have fM90 := frozen_of_row _ _ 3 _ _ HM90.out.mb
              go_wp2_with fail
              rw [← hw91]
              clear hw91 cM90 fM90
              go_meet
              exact ⟨ca, q90, HM91.out, HE.out⟩
        obtain ⟨ca, q20, hMc, hEc⟩ := hcut
        have HM8 := hid hMc
        replace HE := hid hEc
        clear hMc hEc HbF
        generalize wc = w8 at *
        go_wp2_with fail
        refine (HNM.out 2 (by omega) w8).mono ?_
        rintro _ wn ⟨rfl, hwn⟩
        rw [hwn]
        clear hwn wn
        obtain ⟨bF, HbF⟩ : ∃ bF, Hid (bF = hasF k 2) := ⟨_, rfl⟩
        rw [← HbF.out]
        try dsimp only
        go_upto_if 23 with fail
        replace HE : Hid (rmsg B q = rm5 B k f t ca q20) := HE.out
        go_cut [] from 24 to 26 (fun wx => ∃ (ow : Nat) (q21 : Nat), MF wB w wx R p N c B q21 D M ⟨k, f, t, ca, 0, ow, ⟨#[]⟩, 0, 0, ⟨none, 0, 0⟩, ⟨none, 0, 0⟩⟩ [] [] [] ∧ rmsg B q = rm6 B k f t ca ow q21)
        · cases bF with
          | false =>
            have HF : Hid (rmsg B q = rm6 B k f t ca 0 q20) := by unfold Hid; rw [HE.out]; unfold rm5 ropt; rw [← HbF.out]; rfl
            go_wp2_with fail
            go_meet
            exact ⟨0, q20, HM8.out, HF.out⟩
          | true =>
            replace HE : Hid (rmsg B q = rb (rbound B q20 0 7) fun ow q21 => rm6 B k f t ca ow q21) := by unfold Hid; rw [HE.out]; unfold rm5 ropt; rw [← HbF.out]; rfl
            have HRc := hid HM8.out.rb
            have HA8 := hid HM8.out.ap
            go_wp2_with fail
            refine (rnode_ok HRc.out).mono ?_
            rintro e90 w90 ⟨ha90, hm90⟩
            have HA90 : Hid (Apart [R] w w90) := HA8.out.trans ha90
            have HS90 := hid ha90
            clear ha90
            cases hr90 : rbound B q20 0 7 with
            | error x =>
              rw [hr90] at hm90
              have he : e90 = wrongAt x := hm90
              subst he
              unfold wrongAt
              have HE1 := HE.out
              rw [hr90, rb_err] at HE1
              try dsimp only
              refine ⟨rfl, HA90.out, ?_⟩
              rw [HE1]
              rfl
            | ok t =>
              obtain ⟨ow, q90⟩ := t
              rw [hr90] at hm90
              obtain ⟨⟨v90, hev90, hv90⟩, hrb90⟩ := hm90
              subst hev90
              have HR90 := hid hrb90
              have HE1 := HE.out
              rw [hr90, rb_ok] at HE1
              replace HE := hid HE1
              have HP90 := hid hr90
              clear HE1 hrb90 hr90
              subst hv90
              try dsimp only
              have HM90 := hid (HM8.out.call HS90.out HR90.out)
              obtain ⟨w91, hw91⟩ : ∃ w91, w91 = w90.setCell ⟨M, 5, none⟩ (.int .i64 (ow : Nat)) := ⟨_, rfl⟩
              have HM91 := hid (HM90.out.put (wy := w91) (m' := ⟨k, f, t, ca, 0, ow, ⟨#[]⟩, 0, 0, ⟨none, 0, 0⟩, ⟨none, 0, 0⟩⟩) (by rw [hw91]; exact (Apart.refl _ _).setCell (.inl (by simp)) _) (by rw [hw91]; exact mset HM90.out.mb 5 _ rfl) HM90.out.set HM90.out.ws)
              have cM90 : w90.cell? ⟨M, 5, none⟩ = _ := mrow HM90.out.mb 5 _ rfl
              have fM90 := frozen_of_row _ _ 5 _ _ HM90.out.mb
              go_wp2_with fail
              rw [← hw91]
              clear hw91 cM90 fM90
              go_meet
              exact ⟨ow, q90, HM91.out, HE.out⟩
        obtain ⟨ow, q21, hMc, hEc⟩ := hcut
        have HM9 := hid hMc
        replace HE := hid hEc
        clear hMc hEc HbF
        generalize wc = w9 at *
        go_wp2_with fail
        refine (HNM.out 4 (by omega) w9).mono ?_
        rintro _ wn ⟨rfl, hwn⟩
        rw [hwn]
        clear hwn wn
        obtain ⟨bF, HbF⟩ : ∃ bF, Hid (bF = hasF k 4) := ⟨_, rfl⟩
        rw [← HbF.out]
        try dsimp only
        go_upto_if 28 with fail
        replace HE : Hid (rmsg B q = rm6 B k f t ca ow q21) := HE.out
        go_cut [] from 29 to 31 (fun wx => ∃ (rg : Nat) (q22 : Nat), MF wB w wx R p N c B q22 D M ⟨k, f, t, ca, rg, ow, ⟨#[]⟩, 0, 0, ⟨none, 0, 0⟩, ⟨none, 0, 0⟩⟩ [] [] [] ∧ rmsg B q = rm7 B k f t ca ow rg q22)
        · cases bF with
          | false =>
            have HF : Hid (rmsg B q = rm7 B k f t ca ow 0 q21) := by unfold Hid; rw [HE.out]; unfold rm6 ropt; rw [← HbF.out]; rfl
            go_wp2_with fail
            go_meet
            exact ⟨0, q21, HM9.out, HF.out⟩
          | true =>
            replace HE : Hid (rmsg B q = rb (rbound B q21 0 15) fun rg q22 => rm7 B k f t ca ow rg q22) := by unfold Hid; rw [HE.out]; unfold rm6 ropt; rw [← HbF.out]; rfl
            have HRc := hid HM9.out.rb
            have HA9 := hid HM9.out.ap
            go_wp2_with fail
            refine (bounded_ok HRc.out 0 15 (by omega) (by omega)).mono ?_
            rintro e90 w90 ⟨ha90, hm90⟩
            have HA90 : Hid (Apart [R] w w90) := HA9.out.trans ha90
            have HS90 := hid ha90
            clear ha90
            cases hr90 : rbound B q21 0 15 with
            | error x =>
              rw [hr90] at hm90
              have he : e90 = wrongAt x := hm90
              subst he
              unfold wrongAt
              have HE1 := HE.out
              rw [hr90, rb_err] at HE1
              try dsimp only
              refine ⟨rfl, HA90.out, ?_⟩
              rw [HE1]
              rfl
            | ok t =>
              obtain ⟨rg, q90⟩ := t
              rw [hr90] at hm90
              obtain ⟨⟨v90, hev90, hv90⟩, hrb90⟩ := hm90
              subst hev90
              have HR90 := hid hrb90
              have HE1 := HE.out
              rw [hr90, rb_ok] at HE1
              replace HE := hid HE1
              have HP90 := hid hr90
              clear HE1 hrb90 hr90
              subst hv90
              try dsimp only
              have HM90 := hid (HM9.out.call HS90.out HR90.out)
              obtain ⟨w91, hw91⟩ : ∃ w91, w91 = w90.setCell ⟨M, 4, none⟩ (.int .i64 (rg : Nat)) := ⟨_, rfl⟩
              have HM91 := hid (HM90.out.put (wy := w91) (m' := ⟨k, f, t, ca, rg, ow, ⟨#[]⟩, 0, 0, ⟨none, 0, 0⟩, ⟨none, 0, 0⟩⟩) (by rw [hw91]; exact (Apart.refl _ _).setCell (.inl (by simp)) _) (by rw [hw91]; exact mset HM90.out.mb 4 _ rfl) HM90.out.set HM90.out.ws)
              have cM90 : w90.cell? ⟨M, 4, none⟩ = _ := mrow HM90.out.mb 4 _ rfl
              have fM90 := frozen_of_row _ _ 4 _ _ HM90.out.mb
              go_wp2_with fail
              rw [← hw91]
              clear hw91 cM90 fM90
              go_meet
              exact ⟨rg, q90, HM91.out, HE.out⟩
        obtain ⟨rg, q22, hMc, hEc⟩ := hcut
        have HM10 := hid hMc
        replace HE := hid hEc
        clear hMc hEc HbF
        generalize wc = w10 at *
        go_wp2_with fail
        refine (HNM.out 8 (by omega) w10).mono ?_
        rintro _ wn ⟨rfl, hwn⟩
        rw [hwn]
        clear hwn wn
        obtain ⟨bF, HbF⟩ : ∃ bF, Hid (bF = hasF k 8) := ⟨_, rfl⟩
        rw [← HbF.out]
        try dsimp only
        go_upto_if 33 with fail
        replace HE : Hid (rmsg B q = rm7 B k f t ca ow rg q22) := HE.out
        go_cut [] from 34 to 36 (fun wx => ∃ (ky : List Nat) (q23 : Nat), MF wB w wx R p N c B q23 D M ⟨k, f, t, ca, rg, ow, (strB ky), 0, 0, ⟨none, 0, 0⟩, ⟨none, 0, 0⟩⟩ [] [] [] ∧ rmsg B q = rm8 B k f t ca ow rg ky q23)
        · cases bF with
          | false =>
            have HF : Hid (rmsg B q = rm8 B k f t ca ow rg [] q22) := by unfold Hid; rw [HE.out]; unfold rm7 ropt; rw [← HbF.out]; rfl
            go_wp2_with fail
            go_meet
            exact ⟨[], q22, HM10.out, HF.out⟩
          | true =>
            replace HE : Hid (rmsg B q = rb (rtext B q22 1 16) fun ky q23 => rm8 B k f t ca ow rg ky q23) := by unfold Hid; rw [HE.out]; unfold rm7 ropt; rw [← HbF.out]; rfl
            have HRc := hid HM10.out.rb
            have HA10 := hid HM10.out.ap
            go_wp2_with fail
            refine (key_ok HRc.out).mono ?_
            rintro e90 w90 ⟨ha90, hm90⟩
            have HA90 : Hid (Apart [R] w w90) := HA10.out.trans ha90
            have HS90 := hid ha90
            clear ha90
            cases hr90 : rtext B q22 1 16 with
            | error x =>
              rw [hr90] at hm90
              have he : e90 = wrongAt x := hm90
              subst he
              unfold wrongAt
              have HE1 := HE.out
              rw [hr90, rb_err] at HE1
              try dsimp only
              refine ⟨rfl, HA90.out, ?_⟩
              rw [HE1]
              rfl
            | ok t =>
              obtain ⟨ky, q90⟩ := t
              rw [hr90] at hm90
              obtain ⟨⟨v90, hev90, hv90⟩, hrb90⟩ := hm90
              subst hev90
              have HR90 := hid hrb90
              have HE1 := HE.out
              rw [hr90, rb_ok] at HE1
              replace HE := hid HE1
              have HP90 := hid hr90
              clear HE1 hrb90 hr90
              subst hv90
              try dsimp only
              have HM90 := hid (HM10.out.call HS90.out HR90.out)
              obtain ⟨w91, hw91⟩ : ∃ w91, w91 = w90.setCell ⟨M, 6, none⟩ (.string (strB ky)) := ⟨_, rfl⟩
              have HM91 := hid (HM90.out.put (wy := w91) (m' := ⟨k, f, t, ca, rg, ow, (strB ky), 0, 0, ⟨none, 0, 0⟩, ⟨none, 0, 0⟩⟩) (by rw [hw91]; exact (Apart.refl _ _).setCell (.inl (by simp)) _) (by rw [hw91]; exact mset HM90.out.mb 6 _ rfl) HM90.out.set HM90.out.ws)
              have cM90 : w90.cell? ⟨M, 6, none⟩ = _ := mrow HM90.out.mb 6 _ rfl
              have fM90 := frozen_of_row _ _ 6 _ _ HM90.out.mb
              go_wp2_with fail
              rw [← hw91]
              clear hw91 cM90 fM90
              go_meet
              exact ⟨ky, q90, HM91.out, HE.out⟩
        obtain ⟨ky, q23, hMc, hEc⟩ := hcut
        have HM11 := hid hMc
        replace HE := hid hEc
        clear hMc hEc HbF
        generalize wc = w11 at *
        go_wp2_with fail
        refine (HNM.out 16 (by omega) w11).mono ?_
        rintro _ wn ⟨rfl, hwn⟩
        rw [hwn]
        clear hwn wn
        obtain ⟨bF, HbF⟩ : ∃ bF, Hid (bF = hasF k 16) := ⟨_, rfl⟩
        rw [← HbF.out]
        try dsimp only
        go_upto_if 38 with fail
        replace HE : Hid (rmsg B q = rm8 B k f t ca ow rg ky q23) := HE.out
        go_cut [] from 39 to 41 (fun wx => ∃ (d : Nat × Nat) (q30 : Nat), MF wB w wx R p N c B q30 D M ⟨k, f, t, ca, rg, ow, (strB ky), d.1, d.2, ⟨none, 0, 0⟩, ⟨none, 0, 0⟩⟩ [] [] [] ∧ rmsg B q = rm9 B k f t ca ow rg ky d q30)
        · cases bF with
          | false =>
            have HF : Hid (rmsg B q = rm9 B k f t ca ow rg ky (0, 0) q23) := by unfold Hid; rw [HE.out]; unfold rm8 ropt; rw [← HbF.out]; rfl
            go_wp2_with fail
            go_meet
            exact ⟨(0, 0), q23, HM11.out, HF.out⟩
          | true =>
            replace HE : Hid (rmsg B q = rb (rdot B q23) fun d q30 => rm9 B k f t ca ow rg ky d q30) := by unfold Hid; rw [HE.out]; unfold rm8 ropt; rw [← HbF.out]; rfl
            have HRc := hid HM11.out.rb
            have HA11 := hid HM11.out.ap
            go_wp2_with fail
            refine (rdot_rd HRc.out).mono ?_
            rintro e90 w90 ⟨ha90, hm90⟩
            have HA90 : Hid (Apart [R] w w90) := HA11.out.trans ha90
            have HS90 := hid ha90
            clear ha90
            cases hr90 : rdot B q23 with
            | error x =>
              rw [hr90] at hm90
              have he : e90 = wrongAt x := hm90
              subst he
              unfold wrongAt
              have HE1 := HE.out
              rw [hr90, rb_err] at HE1
              try dsimp only
              refine ⟨rfl, HA90.out, ?_⟩
              rw [HE1]
              rfl
            | ok t =>
              obtain ⟨d, q90⟩ := t
              rw [hr90] at hm90
              obtain ⟨⟨v90, hev90, hv90⟩, hrb90⟩ := hm90
              subst hev90
              have HR90 := hid hrb90
              have HE1 := HE.out
              rw [hr90, rb_ok] at HE1
              replace HE := hid HE1
              have HP90 := hid hr90
              clear HE1 hrb90 hr90
              subst hv90
              try dsimp only
              have HM90 := hid (HM11.out.call HS90.out HR90.out)
              obtain ⟨w91, hw91⟩ : ∃ w91, w91 = (w90.setCell ⟨M, 7, none⟩ (.int .i64 (d.1 : Nat))).setCell ⟨M, 8, none⟩ (.int .i64 (d.2 : Nat)) := ⟨_, rfl⟩
              have HM91 := hid (HM90.out.put (wy := w91) (m' := ⟨k, f, t, ca, rg, ow, (strB ky), d.1, d.2, ⟨none, 0, 0⟩, ⟨none, 0, 0⟩⟩) (by rw [hw91]; exact ((Apart.refl _ _).setCell (.inl (by simp)) _).setCell (.inl (by simp)) _) (by rw [hw91]; exact mset (m := ⟨k, f, t, ca, rg, ow, (strB ky), d.1, 0, ⟨none, 0, 0⟩, ⟨none, 0, 0⟩⟩) (mset HM90.out.mb 7 _ rfl) 8 _ rfl) HM90.out.set HM90.out.ws)
              have c7 : w90.cell? ⟨M, 7, none⟩ = _ := mrow HM90.out.mb 7 _ rfl
              have c8 : w90.cell? ⟨M, 8, none⟩ = _ := mrow HM90.out.mb 8 _ rfl
              have f7 := frozen_of_row _ _ 7 _ _ HM90.out.mb
              have f8 := frozen_of_row _ _ 8 _ _ HM90.out.mb
              go_wp2_with fail
              rw [← hw91]
              clear hw91 c7 c8 f7 f8
              go_meet
              exact ⟨d, q90, HM91.out, HE.out⟩
        obtain ⟨d, q30, hMc, hEc⟩ := hcut
        have HM12 := hid hMc
        replace HE := hid hEc
        clear hMc hEc HbF
        generalize wc = w12 at *
        have kK : w12.cell? ⟨M, 0, none⟩ = some (.int .i64 (k : Nat)) := mrow HM12.out.mb 0 _ rfl
        go_wp2_with fail
        refine (HNM.out 32 (by omega) w12).mono ?_
        rintro _ wn ⟨rfl, hwn⟩
        rw [hwn]
        clear hwn wn
        obtain ⟨bF, HbF⟩ : ∃ bF, Hid (bF = hasF k 32) := ⟨_, rfl⟩
        rw [← HbF.out]
        try dsimp only
        go_upto_if 43 with fail
        replace HE : Hid (rmsg B q = rm9 B k f t ca ow rg ky d q30) := HE.out
        go_cut [] from 44 to 48 (fun wx => ∃ (st : List S) (sst : Sl) (q40 : Nat), MF wB w wx R p N c B q40 D M ⟨k, f, t, ca, rg, ow, (strB ky), d.1, d.2, sst, ⟨none, 0, 0⟩⟩ st [] [] ∧ rmsg B q = rm10 B k f t ca ow rg ky d st q40)
        · cases bF with
          | false =>
            have HF : Hid (rmsg B q = rm10 B k f t ca ow rg ky d [] q30) := by unfold Hid; rw [HE.out]; unfold rm9 ropt; rw [← HbF.out]; rfl
            go_wp2_with fail
            go_meet
            exact ⟨[], ⟨none, 0, 0⟩, q30, HM12.out, HF.out⟩
          | true =>
            replace HE : Hid (rmsg B q = rb (rsetOf B q30 k) fun st q40 => rm10 B k f t ca ow rg ky d st q40) := by unfold Hid; rw [HE.out]; unfold rm9 ropt; rw [← HbF.out]; rfl
            have HRc := hid HM12.out.rb
            have HA12 := hid HM12.out.ap
            go_wp2_with fail
            refine (setOf_ok HRc.out k).mono ?_
            rintro e90 w90 ⟨ha90, hm90⟩
            have HA90 : Hid (Apart [R] w w90) := HA12.out.trans ha90
            have HS90 := hid ha90
            clear ha90
            cases hr90 : rsetOf B q30 k with
            | error x =>
              rw [hr90] at hm90
              have he : e90 = wrongAt x := hm90
              subst he
              unfold wrongAt
              have HE1 := HE.out
              rw [hr90, rb_err] at HE1
              try dsimp only
              refine ⟨rfl, HA90.out, ?_⟩
              rw [HE1]
              rfl
            | ok t =>
              obtain ⟨st, q90⟩ := t
              rw [hr90] at hm90
              obtain ⟨⟨v90, hev90, hv90⟩, hrb90⟩ := hm90
              subst hev90
              have HR90 := hid hrb90
              have HE1 := HE.out
              rw [hr90, rb_ok] at HE1
              replace HE := hid HE1
              have HP90 := hid hr90
              clear HE1 hrb90 hr90
              obtain ⟨sst, hvs, hnx, hsx, hfx⟩ := hv90
              subst hvs
              have HNX : Hid (Nw wB w90 48 3 sst (flat st) ∧ sst.n = st.length ∧ ∀ x ∈ st, x.t < 2 ^ 64) := ⟨hnx, hsx, hfx⟩
              clear hnx hsx hfx
              try dsimp only
              have HM90 := hid (HM12.out.call HS90.out HR90.out)
              obtain ⟨w91, hw91⟩ : ∃ w91, w91 = w90.setCell ⟨M, 9, none⟩ (.slice sst.p sst.n sst.c) := ⟨_, rfl⟩
              have HM91 := hid (HM90.out.put (wy := w91) (m' := ⟨k, f, t, ca, rg, ow, (strB ky), d.1, d.2, sst, ⟨none, 0, 0⟩⟩) (by rw [hw91]; exact (Apart.refl _ _).setCell (.inl (by simp)) _) (by rw [hw91]; exact mset HM90.out.mb 9 _ rfl) HNX.out HM90.out.ws)
              have cM90 : w90.cell? ⟨M, 9, none⟩ = _ := mrow HM90.out.mb 9 _ rfl
              have fM90 := frozen_of_row _ _ 9 _ _ HM90.out.mb
              go_wp2_with fail
              rw [← hw91]
              clear hw91 cM90 fM90
              go_meet
              exact ⟨st, sst, q90, HM91.out, HE.out⟩
        obtain ⟨st, sst, q40, hMc, hEc⟩ := hcut
        have HM13 := hid hMc
        replace HE := hid hEc
        clear hMc hEc HbF kK
        generalize wc = w13 at *
        go_wp2_with fail
        refine (HNM.out 64 (by omega) w13).mono ?_
        rintro _ wn ⟨rfl, hwn⟩
        rw [hwn]
        clear hwn wn
        obtain ⟨bF, HbF⟩ : ∃ bF, Hid (bF = hasF k 64) := ⟨_, rfl⟩
        rw [← HbF.out]
        try dsimp only
        go_upto_if 50 with fail
        replace HE : Hid (rmsg B q = rb (ropt (hasF k 64) [] q40 (fun q => rb (rlone B q) (fun r q2 => .ok ([r], q2)))) fun w1 q1 => rm11 B k f t ca ow rg ky d st w1 q1) := by unfold Hid; rw [HE.out]; exact rm10_eq _ _ _ _ _ _ _ _ _ _ _
        go_cut [] from 51 to 54 (fun wx => ∃ (wl : List Wr) (sws : Sl) (es : List E) (q50 : Nat), MF wB w wx R p N c B q50 D M ⟨k, f, t, ca, rg, ow, (strB ky), d.1, d.2, sst, sws⟩ st es wl ∧ rmsg B q = rm11 B k f t ca ow rg ky d st wl q50)
        · cases bF with
          | false =>
            have HF : Hid (rmsg B q = rm11 B k f t ca ow rg ky d st [] q40) := by unfold Hid; rw [HE.out]; unfold ropt; rw [← HbF.out]; rfl
            go_wp2_with fail
            go_meet
            exact ⟨[], ⟨none, 0, 0⟩, [], q40, HM13.out, HF.out⟩
          | true =>
            replace HE : Hid (rmsg B q = rb (rlone B q40) fun r q50 => rm11 B k f t ca ow rg ky d st [r] q50) := by unfold Hid; rw [HE.out]; unfold ropt; rw [← HbF.out, if_pos rfl, rb_rb]; rfl
            have HRc := hid HM13.out.rb
            have HA13 := hid HM13.out.ap
            go_wp2_with fail
            refine (lone_ok HRc.out).mono ?_
            rintro e90 w90 ⟨ha90, hm90⟩
            have HA90 : Hid (Apart [R] w w90) := HA13.out.trans ha90
            have HS90 := hid ha90
            clear ha90
            cases hr90 : rlone B q40 with
            | error x =>
              rw [hr90] at hm90
              have he : e90 = wrongAt x := hm90
              subst he
              unfold wrongAt
              have HE1 := HE.out
              rw [hr90, rb_err] at HE1
              try dsimp only
              refine ⟨rfl, HA90.out, ?_⟩
              rw [HE1]
              rfl
            | ok t =>
              obtain ⟨r, q90⟩ := t
              rw [hr90] at hm90
              obtain ⟨⟨v90, hev90, hv90⟩, hrb90⟩ := hm90
              subst hev90
              have HR90 := hid hrb90
              have HE1 := HE.out
              rw [hr90, rb_ok] at HE1
              replace HE := hid HE1
              have HP90 := hid hr90
              clear HE1 hrb90 hr90
              obtain ⟨e, hve, hfr⟩ := hv90
              subst hve
              have HFR := hid hfr
              clear hfr
              unfold aggE
              try dsimp only
              have HM90 := hid (HM13.out.call HS90.out HR90.out)
              obtain ⟨w91, hw91⟩ : ∃ w91, w91 = w90.alloc (.cells #[.int .i64 e.n, .int .i64 e.c, .string e.k, .bool e.d, .slice e.v.p e.v.n e.v.c, .slice e.x.p e.x.n e.x.c] 37) := ⟨_, rfl⟩
              have HS91 : Hid (Apart [] w90 w91) := by unfold Hid; rw [hw91]; exact (Apart.refl [] w90).alloc _
              have HM91 := hid (HM90.out.kept HS91.out)
              have HFL : Hid (FL wB w91 ⟨some ⟨w90.heap.size, 0, none⟩, 1, 1⟩ [e] [r]) := one_FL (w := w) (by rw [hw91]; exact heap_alloc_new w90 _) (Nat.le_trans HM90.out.wb HM90.out.ap.size) (HFR.out.kept0 HS91.out) HM91.out.rb.ap
              obtain ⟨w92, hw92⟩ : ∃ w92, w92 = w91.setCell ⟨M, 10, none⟩ (.slice (some ⟨w90.heap.size, 0, none⟩) 1 1) := ⟨_, rfl⟩
              have HM92 := hid (HM91.out.put (wy := w92) (m' := ⟨k, f, t, ca, rg, ow, (strB ky), d.1, d.2, sst, ⟨some ⟨w90.heap.size, 0, none⟩, 1, 1⟩⟩) (by rw [hw92]; exact (Apart.refl _ _).setCell (.inl (by simp)) _) (by rw [hw92]; exact mset HM91.out.mb 10 _ rfl) HM91.out.set HFL.out)
              have c10 : w91.cell? ⟨M, 10, none⟩ = _ := mrow HM91.out.mb 10 _ rfl
              have f10 := frozen_of_row _ _ 10 _ _ HM91.out.mb
              rw [hw91] at c10 f10 hw92
              go_wp2_with fail
              rw [← hw92]
              clear hw91 hw92 c10 f10
              go_meet
              exact ⟨[r], _, [e], q90, HM92.out, HE.out⟩
        obtain ⟨wl, sws, es, q50, hMc, hEc⟩ := hcut
        have HM14 := hid hMc
        replace HE := hid hEc
        clear hMc hEc HbF
        generalize wc = w14 at *
        go_wp2_with fail
        refine (HNM.out 128 (by omega) w14).mono ?_
        rintro _ wn ⟨rfl, hwn⟩
        rw [hwn]
        clear hwn wn
        obtain ⟨bF, HbF⟩ : ∃ bF, Hid (bF = hasF k 128) := ⟨_, rfl⟩
        rw [← HbF.out]
        try dsimp only
        go_upto_if 56 with fail
        replace HE : Hid (rmsg B q = rm11 B k f t ca ow rg ky d st wl q50) := HE.out
        go_cut [] from 57 to 64 (fun wx => ∃ (wz : List Wr) (swz : Sl) (ez : List E) (q60 : Nat), MF wB w wx R p N c B q60 D M ⟨k, f, t, ca, rg, ow, (strB ky), d.1, d.2, sst, swz⟩ st ez wz ∧ rmsg B q = rm12 B k f t ca ow rg ky d st wz q60)
        · cases bF with
          | false =>
            have HF : Hid (rmsg B q = rm12 B k f t ca ow rg ky d st wl q50) := by unfold Hid; rw [HE.out]; unfold rm11 ropt; rw [← HbF.out]; rfl
            go_wp2_with fail
            go_meet
            exact ⟨wl, sws, es, q50, HM14.out, HF.out⟩
          | true =>
            replace HE : Hid (rmsg B q = rb (rwrites B q50 (mostK k) (strB ky)) fun ws q60 => rm12 B k f t ca ow rg ky d st ws q60) := by unfold Hid; rw [HE.out]; unfold rm11 ropt; rw [← HbF.out]; rfl
            go_upto_region 20 with fail
            have Hd : Hid (Apart [] w14 w14.drew) := (Apart.refl [] _).drew
            have HMd := hid (HM14.out.kept Hd.out)
            have HSd : Hid (w14.drew.cell? ⟨M, 0, none⟩ = some (.int .i64 (k : Nat)) ∧ w14.drew.cell? ⟨M, 6, none⟩ = some (.string (strB ky))) := ⟨mrow HMd.out.mb 0 _ rfl, mrow HMd.out.mb 6 _ rfl⟩
            refine wp_region_held_drew (S := fun W => W.cell? ⟨M, 0, none⟩ = some (.int .i64 (k : Nat)) ∧ W.cell? ⟨M, 6, none⟩ = some (.string (strB ky))) (by kernel_rfl) HSd.out (fun hHeld => ?_)
            generalize w14.drew = wd at *
            obtain ⟨mk, Hmk⟩ : ∃ mk, Hid (mk = mostK k) := ⟨_, rfl⟩
            refine tkn 0 57 (.pointer (some ⟨R, 0, none⟩)) rfl ?_ ?_
            · intro W hSW; go_simp
            refine tkn 1 58 (.pointer (some ⟨M, 0, none⟩)) rfl ?_ ?_
            · intro W hSW; go_simp
            refine tkn 2 59 (.int .i64 (k : Nat)) rfl ?_ ?_
            · intro W hSW; obtain ⟨z0, z1⟩ := hSW; go_simp
            refine tkn 4 61 (.pointer (some ⟨M, 6, none⟩)) rfl ?_ ?_
            · intro W hSW; go_simp
            refine tkn 5 62 (.string (strB ky)) rfl ?_ ?_
            · intro W hSW; obtain ⟨z0, z1⟩ := hSW; go_simp
            refine wpAnyH_ready (rs := [3]) (by kernel_rfl) (by simp) ?_
            refine AllReadyH.cons rfl (fun KK hKK => ?_) AllReadyH.nil
            go_simp
            refine (most_ok k wd).mono ?_
            rintro _ wn ⟨rfl, hwn⟩
            rw [hwn]
            clear hwn wn
            rw [← Hmk.out]
            try dsimp only
            refine hKK.out _ _ HSd.out (fun hHeld => ?_)
            clear hKK KK
            refine wpAnyH_ready (rs := [6]) (by kernel_rfl) (by simp) ?_
            refine AllReadyH.cons rfl (fun KK hKK => ?_) AllReadyH.nil
            go_simp
            have HRc := hid HMd.out.rb
            have HAd := hid HMd.out.ap
            rw [← Hmk.out] at HE
            refine (writes_ok HRc.out mk (by rw [Hmk.out]; exact mostK_le k) (strB ky)).mono ?_
            rintro e90 w90 ⟨ha90, hm90⟩
            have HA90 : Hid (Apart [R] w w90) := HAd.out.trans ha90
            have HS90 := hid ha90
            clear ha90
            cases hr90 : rwrites B q50 mk (strB ky) with
            | error x =>
              rw [hr90] at hm90
              have he : e90 = wrongAt x := hm90
              subst he
              unfold wrongAt
              have HE1 := HE.out
              rw [hr90, rb_err] at HE1
              try dsimp only
              refine ⟨rfl, HA90.out, ?_⟩
              rw [HE1]
              rfl
            | ok t =>
              obtain ⟨ws, q90⟩ := t
              rw [hr90] at hm90
              obtain ⟨⟨v90, hev90, hv90⟩, hrb90⟩ := hm90
              subst hev90
              have HR90 := hid hrb90
              have HE1 := HE.out
              rw [hr90, rb_ok] at HE1
              replace HE := hid HE1
              have HP90 := hid hr90
              clear HE1 hrb90 hr90
              obtain ⟨swz, ez, hvs, hfl⟩ := hv90
              subst hvs
              have HFL := hid hfl
              clear hfl
              try dsimp only
              have HM90 := hid (HMd.out.call HS90.out HR90.out)
              refine hKK.out _ _ ⟨mrow HM90.out.mb 0 _ rfl, mrow HM90.out.mb 6 _ rfl⟩ (fun hHeld => ?_)
              clear hKK KK
              refine tkn 7 64 (.pointer (some ⟨M, 10, none⟩)) rfl ?_ ?_
              · intro W hSW; go_simp
              refine wpAnyH_ready (rs := [8]) (by kernel_rfl) (by simp) ?_
              refine AllReadyH.cons rfl (fun KK hKK => ?_) AllReadyH.nil
              obtain ⟨w91, hw91⟩ : ∃ w91, w91 = w90.setCell ⟨M, 10, none⟩ (.slice swz.p swz.n swz.c) := ⟨_, rfl⟩
              have HM91 := hid (HM90.out.put (wy := w91) (m' := ⟨k, f, t, ca, rg, ow, (strB ky), d.1, d.2, sst, swz⟩) (by rw [hw91]; exact (Apart.refl _ _).setCell (.inl (by simp)) _) (by rw [hw91]; exact mset HM90.out.mb 10 _ rfl) HM90.out.set HFL.out)
              have cM90 : w90.cell? ⟨M, 10, none⟩ = _ := mrow HM90.out.mb 10 _ rfl
              have fM90 := frozen_of_row _ _ 10 _ _ HM90.out.mb
              go_simp
              rw [← hw91]
              refine hKK.out _ _ ⟨mrow HM91.out.mb 0 _ rfl, mrow HM91.out.mb 6 _ rfl⟩ (fun hHeld => ?_)
              clear hKK KK hw91 cM90 fM90
              refine wpAnyH_done (by kernel_rfl) ?_ _
              try dsimp only
              clear hHeld
              go_wp2_with fail
              go_meet
              exact ⟨ws, swz, ez, q90, HM91.out, HE.out⟩
        obtain ⟨wz, swz, ez, q60, hMc, hEc⟩ := hcut
        have HM15 := hid hMc
        replace HE := hid hEc
        clear hMc hEc HbF HNM
        generalize wc = w15 at *
        go_upto_region 21 with fail
        have HRc := hid HM15.out.rb
        have HLen : Hid (B.length = N) := HM15.out.rb.len
        have Hd : Hid (Apart [] w15 w15.drew) := (Apart.refl [] _).drew
        have HMd := hid (HM15.out.kept Hd.out)
        have HC : Hid (∀ W, Apart [] w15 W → W.cell? ⟨R, 0, none⟩ = some (.slice p N c) ∧ W.cell? ⟨R, 1, none⟩ = some (.int .i64 (q60 : Nat)) ∧ W.frozen? ⟨R, 1, none⟩ = false) := fun W a => (HRc.out.kept a).cells
        refine wp_region_held_drew (S := fun W => Apart [] w15 W) (by kernel_rfl) Hd.out (fun hHeld => ?_)
        generalize w15.drew = wd at *
        obtain ⟨be, Hbe⟩ : ∃ be, Hid (be = decide (q60 = N)) := ⟨_, rfl⟩
        refine tkn 0 65 (.pointer (some ⟨R, 0, none⟩)) rfl ?_ ?_
        · intro W hSW; go_simp
        refine tkn 1 66 (.pointer (some ⟨R, 0, none⟩)) rfl ?_ ?_
        · intro W hSW; go_simp
        refine tkn 2 67 (.pointer (some ⟨R, 1, none⟩)) rfl ?_ ?_
        · intro W hSW; go_simp
        refine tkn 3 68 (.int .i64 (q60 : Nat)) rfl ?_ ?_
        · intro W hSW; obtain ⟨z0, z1, z2⟩ := HC.out W hSW; go_simp
        refine tkn 4 69 (.pointer (some ⟨R, 0, none⟩)) rfl ?_ ?_
        · intro W hSW; go_simp
        refine tkn 5 70 (.pointer (some ⟨R, 0, none⟩)) rfl ?_ ?_
        · intro W hSW; go_simp
        refine tkn 6 71 (.pointer (some ⟨R, 0, none⟩)) rfl ?_ ?_
        · intro W hSW; go_simp
        refine tkn 7 72 (.slice p N c) rfl ?_ ?_
        · intro W hSW; obtain ⟨z0, z1, z2⟩ := HC.out W hSW; go_simp
        refine tkn 8 73 (.int .i64 (N : Nat)) rfl ?_ ?_
        · intro W hSW; go_simp
        refine tkn 9 74 (.bool be) rfl ?_ ?_
        · intro W hSW; (go_simp; rw [Hbe.out]; apply Bool.eq_iff_iff.2; simp; omega)
        refine tkn 10 75 (.pointer (some ⟨R, 0, none⟩)) rfl ?_ ?_
        · intro W hSW; go_simp
        refine tkn 11 76 (.pointer (some ⟨R, 0, none⟩)) rfl ?_ ?_
        · intro W hSW; go_simp
        refine tkn 12 77 (.pointer (some ⟨R, 1, none⟩)) rfl ?_ ?_
        · intro W hSW; go_simp
        refine tkn 13 78 (.int .i64 (q60 : Nat)) rfl ?_ ?_
        · intro W hSW; obtain ⟨z0, z1, z2⟩ := HC.out W hSW; go_simp
        refine wpAnyH_ready (rs := [14]) (by kernel_rfl) (by simp) ?_
        refine AllReadyH.cons rfl (fun KK hKK => ?_) AllReadyH.nil
        go_simp
        cases be with
        | false =>
          have hq : ¬ q60 = N := by have := Hbe.out; simpa using this.symm
          have HF : Hid (rmsg B q = .error q60) := by unfold Hid; rw [HE.out]; unfold rm12; rw [if_neg (by rw [HLen.out]; exact hq)]
          refine (need_no q60 wd).mono ?_
          rintro _ wn ⟨rfl, hwn⟩
          rw [hwn]
          unfold wrongAt
          try dsimp only
          refine ⟨rfl, HMd.out.ap, ?_⟩
          rw [HF.out]
          rfl
        | true =>
          have hq : q60 = N := by have := Hbe.out; simpa using this.symm
          have HF : Hid (rmsg B q = .ok (⟨k, f, t, ca, rg, ow, ky, d.1, d.2, st, wz⟩, q60)) := by unfold Hid; rw [HE.out]; unfold rm12; rw [if_pos (by rw [HLen.out]; exact hq)]
          clear hq
          refine (need_yes q60 wd).mono ?_
          rintro _ wn ⟨rfl, hwn⟩
          rw [hwn]
          clear hwn wn
          try dsimp only
          refine hKK.out _ _ Hd.out (fun hHeld => ?_)
          clear hKK KK
          refine wpAnyH_done (by kernel_rfl) ?_ _
          try dsimp only
          clear hHeld HC
          have m0 : wd.cell? ⟨M, 0, none⟩ = some (.int .i64 (k : Nat)) := mrow HMd.out.mb 0 _ rfl
          have d0 : wd.cell? ⟨D, 0, none⟩ = _ := mrow HMd.out.db 0 _ rfl
          have f0 := frozen_of_row _ _ 0 _ _ HMd.out.db
          have m1 : wd.cell? ⟨M, 1, none⟩ = some (.int .i64 (f : Nat)) := mrow HMd.out.mb 1 _ rfl
          have d1 : wd.cell? ⟨D, 1, none⟩ = _ := mrow HMd.out.db 1 _ rfl
          have f1 := frozen_of_row _ _ 1 _ _ HMd.out.db
          have m2 : wd.cell? ⟨M, 2, none⟩ = some (.int .i64 (t : Nat)) := mrow HMd.out.mb 2 _ rfl
          have d2 : wd.cell? ⟨D, 2, none⟩ = _ := mrow HMd.out.db 2 _ rfl
          have f2 := frozen_of_row _ _ 2 _ _ HMd.out.db
          have m3 : wd.cell? ⟨M, 3, none⟩ = some (.int .i64 (ca : Nat)) := mrow HMd.out.mb 3 _ rfl
          have d3 : wd.cell? ⟨D, 3, none⟩ = _ := mrow HMd.out.db 3 _ rfl
          have f3 := frozen_of_row _ _ 3 _ _ HMd.out.db
          have m4 : wd.cell? ⟨M, 4, none⟩ = some (.int .i64 (rg : Nat)) := mrow HMd.out.mb 4 _ rfl
          have d4 : wd.cell? ⟨D, 4, none⟩ = _ := mrow HMd.out.db 4 _ rfl
          have f4 := frozen_of_row _ _ 4 _ _ HMd.out.db
          have m5 : wd.cell? ⟨M, 5, none⟩ = some (.int .i64 (ow : Nat)) := mrow HMd.out.mb 5 _ rfl
          have d5 : wd.cell? ⟨D, 5, none⟩ = _ := mrow HMd.out.db 5 _ rfl
          have f5 := frozen_of_row _ _ 5 _ _ HMd.out.db
          have m6 : wd.cell? ⟨M, 6, none⟩ = some (.string (strB ky)) := mrow HMd.out.mb 6 _ rfl
          have d6 : wd.cell? ⟨D, 6, none⟩ = _ := mrow HMd.out.db 6 _ rfl
          have f6 := frozen_of_row _ _ 6 _ _ HMd.out.db
          have m7 : wd.cell? ⟨M, 7, none⟩ = some (.int .i64 (d.1 : Nat)) := mrow HMd.out.mb 7 _ rfl
          have d7 : wd.cell? ⟨D, 7, none⟩ = _ := mrow HMd.out.db 7 _ rfl
          have f7 := frozen_of_row _ _ 7 _ _ HMd.out.db
          have m8 : wd.cell? ⟨M, 8, none⟩ = some (.int .i64 (d.2 : Nat)) := mrow HMd.out.mb 8 _ rfl
          have d8 : wd.cell? ⟨D, 8, none⟩ = _ := mrow HMd.out.db 8 _ rfl
          have f8 := frozen_of_row _ _ 8 _ _ HMd.out.db
          have m9 : wd.cell? ⟨M, 9, none⟩ = some (.slice sst.p sst.n sst.c) := mrow HMd.out.mb 9 _ rfl
          have d9 : wd.cell? ⟨D, 9, none⟩ = _ := mrow HMd.out.db 9 _ rfl
          have f9 := frozen_of_row _ _ 9 _ _ HMd.out.db
          have m10 : wd.cell? ⟨M, 10, none⟩ = some (.slice swz.p swz.n swz.c) := mrow HMd.out.mb 10 _ rfl
          have d10 : wd.cell? ⟨D, 10, none⟩ = _ := mrow HMd.out.db 10 _ rfl
          have f10 := frozen_of_row _ _ 10 _ _ HMd.out.db
          obtain ⟨wq, Hwq⟩ : ∃ wq, Hid (wq = (((((((((((wd.setCell ⟨D, 0, none⟩ (.int .i64 (k : Nat))).setCell ⟨D, 1, none⟩ (.int .i64 (f : Nat))).setCell ⟨D, 2, none⟩ (.int .i64 (t : Nat))).setCell ⟨D, 3, none⟩ (.int .i64 (ca : Nat))).setCell ⟨D, 4, none⟩ (.int .i64 (rg : Nat))).setCell ⟨D, 5, none⟩ (.int .i64 (ow : Nat))).setCell ⟨D, 6, none⟩ (.string (strB ky))).setCell ⟨D, 7, none⟩ (.int .i64 (d.1 : Nat))).setCell ⟨D, 8, none⟩ (.int .i64 (d.2 : Nat))).setCell ⟨D, 9, none⟩ (.slice sst.p sst.n sst.c)).setCell ⟨D, 10, none⟩ (.slice swz.p swz.n swz.c))) := ⟨_, rfl⟩
          have HDz : Hid (wq.heap[D]? = some (.cells (MM.cs ⟨k, f, t, ca, rg, ow, (strB ky), d.1, d.2, sst, swz⟩) 29 (0, 0))) := by
            unfold Hid
            rw [Hwq.out]
            have h1 := heap_setCell_same wd D 0 _ 29 (.int .i64 (k : Nat)) HMd.out.db
            have h2 := heap_setCell_same _ D 1 _ 29 (.int .i64 (f : Nat)) h1
            have h3 := heap_setCell_same _ D 2 _ 29 (.int .i64 (t : Nat)) h2
            have h4 := heap_setCell_same _ D 3 _ 29 (.int .i64 (ca : Nat)) h3
            have h5 := heap_setCell_same _ D 4 _ 29 (.int .i64 (rg : Nat)) h4
            have h6 := heap_setCell_same _ D 5 _ 29 (.int .i64 (ow : Nat)) h5
            have h7 := heap_setCell_same _ D 6 _ 29 (.string (strB ky)) h6
            have h8 := heap_setCell_same _ D 7 _ 29 (.int .i64 (d.1 : Nat)) h7
            have h9 := heap_setCell_same _ D 8 _ 29 (.int .i64 (d.2 : Nat)) h8
            have h10 := heap_setCell_same _ D 9 _ 29 (.slice sst.p sst.n sst.c) h9
            have h11 := heap_setCell_same _ D 10 _ 29 (.slice swz.p swz.n swz.c) h10
            simpa [MM.cs, MM.z] using h11
          have HSz : Hid (Apart [D] wd wq) := by unfold Hid; rw [Hwq.out]; exact ((((((((((((Apart.refl _ _).setCell (.inl (by simp)) _).setCell (.inl (by simp)) _).setCell (.inl (by simp)) _).setCell (.inl (by simp)) _).setCell (.inl (by simp)) _).setCell (.inl (by simp)) _).setCell (.inl (by simp)) _).setCell (.inl (by simp)) _).setCell (.inl (by simp)) _).setCell (.inl (by simp)) _).setCell (.inl (by simp)) _)
          have HDB : Hid (wB.heap.size ≤ D) := Nat.le_trans HMd.out.wb HMd.out.ne.2.2.2.2
          have HAz : Hid (Apart [R] w wq) := HMd.out.ap.trans' HSz.out (by intro y hy; simp at hy; rw [hy]; exact .inr HMd.out.ne.2.2.2.2)
          have HRz := hid (HMd.out.rb.other HSz.out HMd.out.db (by decide) HDB.out)
          have HSETz : Hid (VSet wB st (.slice sst.p sst.n sst.c) wq) := ⟨sst, rfl, HMd.out.set.1.oth HSz.out HMd.out.db (by decide) HDB.out, HMd.out.set.2.1, HMd.out.set.2.2⟩
          have HFLz := hid (HMd.out.ws.oth HSz.out HMd.out.db (by decide) HDB.out)
          go_wp2_with fail
          rw [← Hwq.out]
          refine bodyPost_ret (results_cell_row rfl _ _ D 29 _ _ _ rfl HDz.out Tryz.underlying29 rfl size29) rfl ?_
          refine ⟨HAz.out, ?_⟩
          rw [HF.out]
          refine ⟨⟨_, rfl, ?_⟩, HRz.out⟩
          refine Exists.intro ⟨k, f, t, ca, rg, ow, (strB ky), d.1, d.2, sst, swz⟩ (Exists.intro ez ?_)
          refine ⟨rfl, ?_, HSETz.out, HFLz.out⟩
          exact ⟨rfl, rfl, rfl, rfl, rfl, rfl, rfl, rfl, rfl⟩
end Go.Proofs.YtddffdcjhleejaaGreat.ds
