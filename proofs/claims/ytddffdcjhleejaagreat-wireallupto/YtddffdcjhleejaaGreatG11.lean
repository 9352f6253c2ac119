import Derived.Test.YtddffdcjhleejaaGreatG10
namespace Go.Proofs.YtddffdcjhleejaaGreat.ds
open Go.ChangeShapes Go.WideShapes Go.ChangeAt Go.RowKit Go.Sort
set_option linter.unusedVariables false
set_option linter.unusedSimpArgs false
def aggE (e : E) : Value := .agg #[.int .i64 e.n, .int .i64 e.c, .string e.k, .bool e.d, .slice e.v.p e.v.n e.v.c, .slice e.x.p e.x.n e.x.c]
theorem size41 : (Tryz.prog.info? 37).map (·.size) = some 6 := by kernel_rfl
theorem rowv6 {w : World} {g : Nat} {t : TypeId} {a b c d e f : Value} (h : w.heap[g]? = some (.cells #[a, b, c, d, e, f] t (0, 0))) : w.cell? ⟨g, 0, none⟩ = some a ∧ w.cell? ⟨g, 1, none⟩ = some b ∧ w.cell? ⟨g, 2, none⟩ = some c ∧ w.cell? ⟨g, 3, none⟩ = some d ∧ w.cell? ⟨g, 4, none⟩ = some e ∧ w.cell? ⟨g, 5, none⟩ = some f := by
  refine ⟨?_, ?_, ?_, ?_, ?_, ?_⟩ <;> (rw [cell_of_row _ _ _ _ _ _ h]; rfl)
theorem rowv2 {w : World} {g : Nat} {t : TypeId} {a b : Value} (h : w.heap[g]? = some (.cells #[a, b] t (0, 0))) : w.cell? ⟨g, 0, none⟩ = some a ∧ w.cell? ⟨g, 1, none⟩ = some b := by
  refine ⟨?_, ?_⟩ <;> (rw [cell_of_row _ _ _ _ _ _ h]; rfl)
/-- a value that may be left out -/
def rvalue (B : List Nat) (dead q : Nat) : Except Nat (List Nat × Nat) := if dead = 1 then .ok ([], q) else rtext B q 0 64
def keyOk (key : ByteArray) (k : List Nat) : Bool := keq key ⟨#[]⟩ || keq (strB k) key
/-- a write that stands at a place -/
noncomputable def rwrite (B : List Nat) (q : Nat) (an ac : Int) (key : ByteArray) : Except Nat (Wr × Nat) :=
  rb (rdot B q) (fun d q1 => if risW an ac (d.1 : Nat) (d.2 : Nat) = true then
    rb (rtext B q1 1 16) (fun k q2 => if keyOk key k = true then
      rb (rbound B q2 0 1) (fun dd q3 => rb (rvalue B dd q3) (fun vs q4 => rb (rset B q4) (fun xs q5 =>
        if hasd xs (d.1 : Nat) (d.2 : Nat) = false then .ok (⟨(d.1 : Nat), (d.2 : Nat), strB k, decide (dd = 1), vs, xs⟩, q5) else .error q4)))
      else .error q)
    else .error q)
def VWr (wB : World) (a : Wr) (v : Value) (w' : World) : Prop := ∃ e : E, v = aggE e ∧ Fresh wB w' e a
theorem rtext_b8 {B : List Nat} {q lo hi : Nat} {a : List Nat} {q' : Nat} (hB : ∀ b ∈ B, b < 256) (h : rtext B q lo hi = .ok (a, q')) : (∀ b ∈ a, b < 256) ∧ lo ≤ a.length ∧ a.length ≤ hi := by
  unfold rtext at h
  cases h1 : rbound B q lo hi with
  | error e => rw [h1] at h; cases h
  | ok t =>
    obtain ⟨n, q1⟩ := t
    rw [h1, rb_ok] at h
    have hle := rbound_le h1
    unfold rbytes at h
    split at h
    · simp only [Except.ok.injEq, Prod.mk.injEq] at h
      rw [← h.1]
      refine ⟨fun b hb => hB b (List.mem_of_mem_drop (List.mem_of_mem_take hb)), ?_⟩
      rw [List.length_take, List.length_drop]
      omega
    · cases h
theorem Nw.oth {wB w w' : World} {X : Nat} {cur : Array Value} {t e size : Nat} {s : Sl} {us : List Value} (h : Nw wB w e size s us) (a : Apart [X] w w') (hX : w.heap[X]? = some (.cells cur t (0, 0))) (ht : t ≠ e) (hn : wB.heap.size ≤ X) : Nw wB w' e size s us :=
  h.keepT a (h.ap.trans' a (by intro y hy; simp at hy; rw [hy]; exact .inr hn)) (fun k hk cu hcu => by
    simp at hk
    rw [hk, hX] at hcu
    simp at hcu
    exact ht hcu.2)
theorem keq_e (key : ByteArray) : keq key ⟨#[]⟩ = (key.toList == []) := by
  unfold keq
  rw [show (⟨#[]⟩ : ByteArray).toList = [] from by simp [ByteArray.toList_eq]]
theorem VSet.L {wB w' : World} {a : List S} {s : Sl} (h : Nw wB w' 48 3 s (flat a)) (hn : s.n = a.length) (hf : ∀ x ∈ a, x.t < 2 ^ 64) (hl : s.n ≤ 1000000) : ds.L w' s.p s.n a := ⟨Sp.of_rd h.rd, hn.symm, by omega, hf⟩
theorem rspansA_len (B : List Nat) (mb : Nat) : ∀ (k ln q : Nat) (l : List S) (q' : Nat), rspansA B mb k ln q = .ok (l, q') → l.length = k
  | 0, ln, q, l, q', h => by
    unfold rspansA at h
    simp only [Except.ok.injEq, Prod.mk.injEq] at h
    rw [← h.1]; rfl
  | k + 1, ln, q, l, q', h => by
    unfold rspansA at h
    cases h1 : rspan B q ln mb with
    | error e => rw [h1] at h; cases h
    | ok t =>
      obtain ⟨x, q1⟩ := t
      rw [h1, rb_ok] at h
      cases h2 : rspansA B mb k (x.n.toNat + 1) q1 with
      | error e => rw [h2] at h; cases h
      | ok t =>
        obtain ⟨m, q2⟩ := t
        rw [h2, rb_ok] at h
        simp only [Except.ok.injEq, Prod.mk.injEq] at h
        rw [← h.1, List.length_cons, rspansA_len B mb k _ _ m q2 h2]
theorem rspans_len {B : List Nat} {q mb : Nat} {l : List S} {q' : Nat} (h : rspans B q mb = .ok (l, q')) : l.length ≤ 8 := by
  unfold rspans at h
  cases h1 : rbound B q 0 8 with
  | error e => rw [h1] at h; cases h
  | ok t =>
    obtain ⟨k, q1⟩ := t
    rw [h1, rb_ok] at h
    rw [rspansA_len B mb k 0 q1 l q' h]
    exact (rbound_le h1).2
/-- behind the value: the write as far as it is read -/
structure WV (wB w wx : World) (R : Nat) (p : Option Addr) (N c : Nat) (B : List Nat) (D X n cc : Nat) (kb : ByteArray) (dd : Nat) (FIN : Except Nat (Wr × Nat)) : Prop where
  ex : ∃ (vs : List Nat) (q4 : Nat) (sv : Sl), RB wB wx R p N c B q4 ∧ Apart [R] w wx ∧ wx.heap[X]? = some (.cells #[.int .i64 (n : Nat), .int .i64 (cc : Nat), .string kb, .bool (decide (dd = 1)), .slice sv.p sv.n sv.c, .slice none 0 0] 37 (0, 0)) ∧ wx.heap[D]? = some (.cells #[.int .i64 0, .int .i64 0, .string ⟨#[]⟩, .bool false, .slice none 0 0, .slice none 0 0] 37 (0, 0)) ∧ Nw wB wx 5 1 sv (byts vs) ∧ sv.n = vs.length ∧ (vs.length ≤ 64 ∧ ∀ b ∈ vs, b < 256) ∧ FIN = rb (rset B q4) (fun xs q5 => if hasd xs (n : Nat) (cc : Nat) = false then .ok (⟨(n : Nat), (cc : Nat), kb, decide (dd = 1), vs, xs⟩, q5) else .error q4)
set_option maxHeartbeats 16000000 in
set_option maxRecDepth 100000 in
theorem write_ok {wB w : World} {R : Nat} {p : Option Addr} {N c : Nat} {B : List Nat} {q : Nat} (h : RB wB w R p N c B q) (an ac : Int) (key : ByteArray) :
    Calls Tryz.prog 94 #[.pointer (some ⟨R, 0, none⟩), .agg #[.int .i64 an, .int .i64 ac], .string key] w fun e w' => OutR wB w w' R p N c B e (rwrite B q an ac key) (VWr wB) := by
  have HRB := hid h
  have HE : Hid (rwrite B q an ac key = rb (rdot B q) (fun d q1 => if risW an ac (d.1 : Nat) (d.2 : Nat) = true then
    rb (rtext B q1 1 16) (fun k q2 => if keyOk key k = true then
      rb (rbound B q2 0 1) (fun dd q3 => rb (rvalue B dd q3) (fun vs q4 => rb (rset B q4) (fun xs q5 =>
        if hasd xs (d.1 : Nat) (d.2 : Nat) = false then .ok (⟨(d.1 : Nat), (d.2 : Nat), strB k, decide (dd = 1), vs, xs⟩, q5) else .error q4)))
      else .error q)
    else .error q)) := rfl
  have HB8 := hid h.b8
  obtain ⟨A, HA⟩ : ∃ A, Hid (A = w.heap.size) := ⟨_, rfl⟩
  obtain ⟨wa, hwa⟩ : ∃ wa, wa = w.alloc (.cells #[.int .i64 an, .int .i64 ac] 25) := ⟨_, rfl⟩
  have HSa : Hid (Apart [] w wa) := by unfold Hid; rw [hwa]; exact (Apart.refl [] w).alloc _
  have HAa : Hid (wa.heap[A]? = some (.cells #[.int .i64 an, .int .i64 ac] 25 (0, 0))) := by unfold Hid; rw [HA.out, hwa]; exact heap_alloc_new w _
  obtain ⟨D, HD⟩ : ∃ D, Hid (D = wa.heap.size) := ⟨_, rfl⟩
  have HDA : Hid (A + 1 = D) := by unfold Hid; rw [HD.out, HA.out, hwa]; simp
  obtain ⟨w1, hw1⟩ : ∃ w1, w1 = wa.alloc (.cells #[.int .i64 0, .int .i64 0, .string ⟨#[]⟩, .bool false, .slice none 0 0, .slice none 0 0] 37) := ⟨_, rfl⟩
  have HSb : Hid (Apart [] wa w1) := by unfold Hid; rw [hw1]; exact (Apart.refl [] wa).alloc _
  have HD1 : Hid (w1.heap[D]? = some (.cells #[.int .i64 0, .int .i64 0, .string ⟨#[]⟩, .bool false, .slice none 0 0, .slice none 0 0] 37 (0, 0))) := by unfold Hid; rw [HD.out, hw1]; exact heap_alloc_new wa _
  have HA1b : Hid (w1.heap[A]? = some (.cells #[.int .i64 an, .int .i64 ac] 25 (0, 0))) := (HSb.out.block _ (lt_of_heap HAa.out) (by simp)).trans HAa.out
  have HA1 : Hid (Apart [R] w w1) := (HSa.out.trans HSb.out).mono (by simp)
  have HAR : Hid (A ≠ R) := by unfold Hid; have := lt_of_heap HRB.out.blk; rw [HA.out]; omega
  have HDR : Hid (D ≠ R) := by unfold Hid; have h1 := lt_of_heap HRB.out.blk; have h2 := HSa.out.size; rw [HD.out]; omega
  have HDw : Hid (w.heap.size ≤ D) := by unfold Hid; rw [HD.out]; exact HSa.out.size
  have HR1 := hid (HRB.out.kept (HSa.out.trans HSb.out))
  obtain ⟨z0, z1, z2⟩ := HR1.out.cells
  have z1b := z1
  rw [hw1, hwa] at z1b
  clear h z0 z1 z2
  go_enter Tryz.func94, Tryz.ntmps94
  go_wp2_with fail
  rw [← hwa, ← hw1, ← HA.out, HDA.out]
  clear hw1 hwa z1b
  refine (rdot_rd HR1.out).mono ?_
  rintro e2 w2 ⟨ha2, hm2⟩
  have HA2 : Hid (Apart [R] w w2) := HA1.out.trans ha2
  have HS2 := hid ha2
  clear ha2
  cases hr2 : rdot B q with
  | error x =>
    rw [hr2] at hm2
    have he : e2 = wrongAt x := hm2
    subst he
    unfold wrongAt
    have HE1 := HE.out
    rw [hr2, rb_err] at HE1
    try dsimp only
    refine ⟨rfl, HA2.out, ?_⟩
    rw [HE1]
    rfl
  | ok t =>
    obtain ⟨⟨n, cc⟩, q2⟩ := t
    rw [hr2] at hm2
    obtain ⟨⟨v2, hev2, hv2⟩, hrb2⟩ := hm2
    subst hev2
    have HR2 := hid hrb2
    have HE1 := HE.out
    rw [hr2, rb_ok] at HE1
    replace HE := hid HE1
    have HP2 := hid hr2
    clear HE1 hrb2 hr2
    subst hv2
    try dsimp only
    have HB2 : Hid (w2.heap[A]? = some (.cells #[.int .i64 an, .int .i64 ac] 25 (0, 0))) := keepB HS2.out HA1b.out (lt_of_heap HA1b.out) HAR.out
    have HD2 := hid (keepB HS2.out HD1.out (lt_of_heap HD1.out) HDR.out)
    obtain ⟨X, HX⟩ : ∃ X, Hid (X = w2.heap.size) := ⟨_, rfl⟩
    obtain ⟨w3, hw3⟩ : ∃ w3, w3 = w2.alloc (.cells #[.int .i64 (n : Nat), .int .i64 (cc : Nat), .string ⟨#[]⟩, .bool false, .slice none 0 0, .slice none 0 0] 37) := ⟨_, rfl⟩
    have HS3 : Hid (Apart [] w2 w3) := by unfold Hid; rw [hw3]; exact (Apart.refl [] w2).alloc _
    have HX3 : Hid (w3.heap[X]? = some (.cells #[.int .i64 (n : Nat), .int .i64 (cc : Nat), .string ⟨#[]⟩, .bool false, .slice none 0 0, .slice none 0 0] 37 (0, 0))) := by unfold Hid; rw [HX.out, hw3]; exact heap_alloc_new w2 _
    have HD3 := hid ((HS3.out.block _ (lt_of_heap HD2.out) (by simp)).trans HD2.out)
    have HB3 := hid ((HS3.out.block _ (lt_of_heap HB2.out) (by simp)).trans HB2.out)
    have HXR : Hid (X ≠ R) := by unfold Hid; have := lt_of_heap HR2.out.blk; rw [HX.out]; omega
    have HDX : Hid (D ≠ X) := by unfold Hid; have := lt_of_heap HD2.out; rw [HX.out]; omega
    have HXw : Hid (w.heap.size ≤ X) := by unfold Hid; rw [HX.out]; exact HA2.out.size
    have HR3 := hid (HR2.out.kept HS3.out)
    have HA3 : Hid (Apart [R] w w3) := HA2.out.trans (HS3.out.mono (by simp))
    obtain ⟨x0, x1, x2, x3, x4, x5⟩ := rowv6 HX3.out
    obtain ⟨b0, b1⟩ := rowv2 HB3.out
    go_upto_region 3 with fail
    rw [← hw3, ← HX.out]
    clear hw3
    go_wp2_with fail
    refine (rises_ok an ac (n : Nat) (cc : Nat) w3).mono ?_
    rintro _ w4 ⟨rfl, a4⟩
    have HS4 := hid a4
    have HA4 : Hid (Apart [R] w w4) := HA3.out.trans (a4.mono (by simp))
    have HR4 := hid (HR3.out.kept a4)
    have HX4 := hid ((a4.block _ (lt_of_heap HX3.out) (by simp)).trans HX3.out)
    have HD4 := hid ((a4.block _ (lt_of_heap HD3.out) (by simp)).trans HD3.out)
    clear a4 x0 x1 x2 x3 x4 x5 b0 b1
    try dsimp only
    cases hris : risW an ac (n : Nat) (cc : Nat) with
    | false =>
      have HF : Hid (rwrite B q an ac key = .error q) := by unfold Hid; rw [HE.out]; exact if_neg (by rw [hris]; simp)
      clear hris
      go_wp2_with fail
      refine (need_no q w4).mono ?_
      rintro _ w5 ⟨rfl, hw5⟩
      rw [hw5]
      unfold wrongAt
      try dsimp only
      refine ⟨rfl, HA4.out, ?_⟩
      rw [HF.out]
      rfl
    | true =>
      have HE1 := HE.out
      simp only [hris, if_true] at HE1
      replace HE := hid HE1
      clear HE1 hris
      go_wp2_with fail
      refine (need_yes q w4).mono ?_
      rintro _ w5 ⟨rfl, hw5⟩
      rw [hw5]
      clear hw5 w5
      try dsimp only
      go_wp2_with fail
      refine (key_ok HR4.out).mono ?_
      rintro e5 w5 ⟨ha5, hm5⟩
      have HA5 : Hid (Apart [R] w w5) := HA4.out.trans ha5
      have HS5 := hid ha5
      clear ha5
      cases hr5 : rtext B q2 1 16 with
      | error x =>
        rw [hr5] at hm5
        have he : e5 = wrongAt x := hm5
        subst he
        unfold wrongAt
        have HE1 := HE.out
        rw [hr5, rb_err] at HE1
        try dsimp only
        refine ⟨rfl, HA5.out, ?_⟩
        rw [HE1]
        rfl
      | ok t =>
        obtain ⟨k, q5⟩ := t
        rw [hr5] at hm5
        obtain ⟨⟨v5, hev5, hv5⟩, hrb5⟩ := hm5
        subst hev5
        have HR5 := hid hrb5
        have HE1 := HE.out
        rw [hr5, rb_ok] at HE1
        replace HE := hid HE1
        have HP5 := hid hr5
        clear HE1 hrb5 hr5
        subst hv5
        try dsimp only
        have HD5 := hid (keepB HS5.out HD4.out (lt_of_heap HD4.out) HDR.out)
        have HX5 := hid (keepB HS5.out HX4.out (lt_of_heap HX4.out) HXR.out)
        obtain ⟨x0, x1, x2, x3, x4, x5⟩ := rowv6 HX5.out
        have f2 := frozen_of_row _ _ 2 _ _ HX5.out
        obtain ⟨kb, Hkb⟩ : ∃ kb, Hid (kb = strB k) := ⟨_, rfl⟩
        rw [← Hkb.out]
        obtain ⟨w6, hw6⟩ : ∃ w6, w6 = w5.setCell ⟨X, 2, none⟩ (.string kb) := ⟨_, rfl⟩
        have HS6 : Hid (Apart [X] w5 w6) := by unfold Hid; rw [hw6]; exact (Apart.refl _ _).setCell (.inl (by simp)) _
        have HX6 : Hid (w6.heap[X]? = some (.cells #[.int .i64 (n : Nat), .int .i64 (cc : Nat), .string kb, .bool false, .slice none 0 0, .slice none 0 0] 37 (0, 0))) := by
          unfold Hid
          rw [hw6]
          have := heap_setCell_same w5 X 2 _ 37 (.string kb) HX5.out
          simpa using this
        have HR6 := hid (HR5.out.other HS6.out HX5.out (by decide) (Nat.le_trans HRB.out.ap.size HXw.out))
        have HA6 : Hid (Apart [R] w w6) := HA5.out.trans' HS6.out (by intro y hy; simp at hy; rw [hy]; exact .inr HXw.out)
        have HD6 := hid (keepB HS6.out HD5.out (lt_of_heap HD5.out) HDX.out)
        go_upto_region 5 with fail
        rw [← hw6]
        clear hw6 x0 x1 x2 x3 x4 x5 f2
        obtain ⟨x0, x1, x2, x3, x4, x5⟩ := rowv6 HX6.out
        obtain ⟨ko, Hko⟩ : ∃ ko, Hid (ko = keyOk key k) := ⟨_, rfl⟩
        have HE1 := HE.out
        simp only [← Hko.out] at HE1
        replace HE := hid HE1
        clear HE1
        go_cut [] from 25 to 34 (fun wx => ko = true ∧ wx = w6)
        · cases h1 : keq key ⟨#[]⟩
          case true =>
            have h1b : (key.toList == []) = true := by rw [← keq_e]; exact h1
            have HKO : Hid (ko = true) := by unfold Hid; rw [Hko.out]; unfold keyOk; rw [h1]; rfl
            clear h1
            go_wp2_with fail
            refine (need_yes q w6).mono ?_
            rintro _ w7 ⟨rfl, hw7⟩
            rw [hw7]
            clear hw7 w7
            try dsimp only
            go_wp2_with fail
            go_meet
            exact ⟨HKO.out, rfl⟩
          case false =>
            have h1b : (key.toList == []) = false := by rw [← keq_e]; exact h1
            cases h2 : keq kb key
            case true =>
              have h2b : (kb.toList == key.toList) = true := h2
              have HKO : Hid (ko = true) := by unfold Hid; rw [Hko.out]; unfold keyOk; rw [h1, ← Hkb.out, h2]; rfl
              clear h1 h2
              go_wp2_with fail
              refine (need_yes q w6).mono ?_
              rintro _ w7 ⟨rfl, hw7⟩
              rw [hw7]
              clear hw7 w7
              try dsimp only
              go_wp2_with fail
              go_meet
              exact ⟨HKO.out, rfl⟩
            case false =>
              have h2b : (kb.toList == key.toList) = false := h2
              have HKO : Hid (ko = false) := by unfold Hid; rw [Hko.out]; unfold keyOk; rw [h1, ← Hkb.out, h2]; rfl
              have HF : Hid (rwrite B q an ac key = .error q) := by unfold Hid; rw [HE.out, HKO.out]; rfl
              clear h1 h2
              go_wp2_with fail
              refine (need_no q w6).mono ?_
              rintro _ w7 ⟨rfl, hw7⟩
              rw [hw7]
              unfold wrongAt
              try dsimp only
              refine ⟨rfl, HA6.out, ?_⟩
              rw [HF.out]
              rfl
        obtain ⟨hko, hww⟩ := hcut
        rw [hww]
        clear hww x0 x1 x2 x3 x4 x5
        have HE1 := HE.out
        simp only [hko, if_true] at HE1
        replace HE := hid HE1
        clear HE1 hko
        go_wp2_with fail
        refine (bounded_ok HR6.out 0 1 (by omega) (by omega)).mono ?_
        rintro e7 w7 ⟨ha7, hm7⟩
        have HA7 : Hid (Apart [R] w w7) := HA6.out.trans ha7
        have HS7 := hid ha7
        clear ha7
        cases hr7 : rbound B q5 0 1 with
        | error x =>
          rw [hr7] at hm7
          have he : e7 = wrongAt x := hm7
          subst he
          unfold wrongAt
          have HE1 := HE.out
          rw [hr7, rb_err] at HE1
          try dsimp only
          refine ⟨rfl, HA7.out, ?_⟩
          rw [HE1]
          rfl
        | ok t =>
          obtain ⟨dd, q7⟩ := t
          rw [hr7] at hm7
          obtain ⟨⟨v7, hev7, hv7⟩, hrb7⟩ := hm7
          subst hev7
          have HR7 := hid hrb7
          have HE1 := HE.out
          rw [hr7, rb_ok] at HE1
          replace HE := hid HE1
          have HP7 := hid hr7
          clear HE1 hrb7 hr7
          subst hv7
          have hd1 := (rbound_le HP7.out).2
          try dsimp only
          have HD7 := hid (keepB HS7.out HD6.out (lt_of_heap HD6.out) HDR.out)
          have HX7 := hid (keepB HS7.out HX6.out (lt_of_heap HX6.out) HXR.out)
          obtain ⟨x0, x1, x2, x3, x4, x5⟩ := rowv6 HX7.out
          have f3 := frozen_of_row _ _ 3 _ _ HX7.out
          obtain ⟨dv, Hdv⟩ : ∃ dv, Hid (dv = decide (dd = 1)) := ⟨_, rfl⟩
          obtain ⟨w8, hw8⟩ : ∃ w8, w8 = w7.setCell ⟨X, 3, none⟩ (.bool dv) := ⟨_, rfl⟩
          have HS8 : Hid (Apart [X] w7 w8) := by unfold Hid; rw [hw8]; exact (Apart.refl _ _).setCell (.inl (by simp)) _
          have HX8 : Hid (w8.heap[X]? = some (.cells #[.int .i64 (n : Nat), .int .i64 (cc : Nat), .string kb, .bool dv, .slice none 0 0, .slice none 0 0] 37 (0, 0))) := by
            unfold Hid
            rw [hw8]
            have := heap_setCell_same w7 X 3 _ 37 (.bool dv) HX7.out
            simpa using this
          have HR8 := hid (HR7.out.other HS8.out HX7.out (by decide) (Nat.le_trans HRB.out.ap.size HXw.out))
          have HA8 : Hid (Apart [R] w w8) := HA7.out.trans' HS8.out (by intro y hy; simp at hy; rw [hy]; exact .inr HXw.out)
          have HD8 := hid (keepB HS8.out HD7.out (lt_of_heap HD7.out) HDX.out)
          have hdb : (((dd : Nat) : Int) == 1) = dv := by
            rw [Hdv.out]
            apply Bool.eq_iff_iff.2
            simp
            omega
          go_upto_region 7 with fail
          rw [← hw8]
          clear hw8 x0 x1 x2 x3 x4 x5 f3 hdb
          obtain ⟨x0, x1, x2, x3, x4, x5⟩ := rowv6 HX8.out
          go_upto_if 41 with fail
          clear x0 x1 x2 x3 x4 x5
          go_cut [] from 42 to 44 (fun wx => WV wB w wx R p N c B D X n cc kb dd (rwrite B q an ac key))
          · by_cases hd : dd = 1
            · have hdv : dv = true := by rw [Hdv.out, hd]; rfl
              have HE1 := HE.out
              rw [show rvalue B dd q7 = .ok ([], q7) from by unfold rvalue; rw [if_pos hd], rb_ok, ← Hkb.out] at HE1
              have HF := hid HE1
              clear HE1
              have HXf := hid HX8.out
              rw [Hdv.out] at HXf
              subst hdv
              go_wp2_with fail
              go_meet
              exact ⟨[], q7, ⟨none, 0, 0⟩, HR8.out, HA8.out, HXf.out, HD8.out, ⟨World.ownsRow_nil _ _ _ _, by simp [Sl.v, Value.ownBlock], HR8.out.ap⟩, rfl, ⟨by simp, by simp⟩, HF.out⟩
            · have hdv : dv = false := by rw [Hdv.out]; simp [hd]
              have HE1 := HE.out
              rw [show rvalue B dd q7 = rtext B q7 0 64 from by unfold rvalue; rw [if_neg hd], ← Hkb.out] at HE1
              replace HE := hid HE1
              clear HE1
              have HDV : Hid (false = decide (dd = 1)) := by rw [← hdv]; exact Hdv.out
              clear Hdv
              subst hdv
              go_wp2_with fail
              refine (value_ok HR8.out).mono ?_
              rintro e9 w9 ⟨ha9, hm9⟩
              have HA9 : Hid (Apart [R] w w9) := HA8.out.trans ha9
              have HS9 := hid ha9
              clear ha9
              cases hr9 : rtext B q7 0 64 with
              | error x =>
                rw [hr9] at hm9
                have he : e9 = wrongAt x := hm9
                subst he
                unfold wrongAt
                have HE1 := HE.out
                rw [hr9, rb_err] at HE1
                try dsimp only
                refine ⟨rfl, HA9.out, ?_⟩
                rw [HE1]
                rfl
              | ok t =>
                obtain ⟨vs, q9⟩ := t
                rw [hr9] at hm9
                obtain ⟨⟨v9, hev9, hv9⟩, hrb9⟩ := hm9
                subst hev9
                have HR9 := hid hrb9
                have HE1 := HE.out
                rw [hr9, rb_ok] at HE1
                replace HE := hid HE1
                have HP9 := hid hr9
                clear HE1 hrb9 hr9
                obtain ⟨sv, hvs, hnv, hsv⟩ := hv9
                subst hvs
                have HNV := hid hnv
                have HSV := hid hsv
                clear hnv hsv
                try dsimp only
                have HD9 := hid (keepB HS9.out HD8.out (lt_of_heap HD8.out) HDR.out)
                have HX9 := hid (keepB HS9.out HX8.out (lt_of_heap HX8.out) HXR.out)
                obtain ⟨x0, x1, x2, x3, x4, x5⟩ := rowv6 HX9.out
                have f4 := frozen_of_row _ _ 4 _ _ HX9.out
                obtain ⟨w10, hw10⟩ : ∃ w10, w10 = w9.setCell ⟨X, 4, none⟩ (.slice sv.p sv.n sv.c) := ⟨_, rfl⟩
                have HS10 : Hid (Apart [X] w9 w10) := by unfold Hid; rw [hw10]; exact (Apart.refl _ _).setCell (.inl (by simp)) _
                have HX10 : Hid (w10.heap[X]? = some (.cells #[.int .i64 (n : Nat), .int .i64 (cc : Nat), .string kb, .bool false, .slice sv.p sv.n sv.c, .slice none 0 0] 37 (0, 0))) := by
                  unfold Hid
                  rw [hw10]
                  have := heap_setCell_same w9 X 4 _ 37 (.slice sv.p sv.n sv.c) HX9.out
                  simpa using this
                have HR10 := hid (HR9.out.other HS10.out HX9.out (by decide) (Nat.le_trans HRB.out.ap.size HXw.out))
                have HA10 : Hid (Apart [R] w w10) := HA9.out.trans' HS10.out (by intro y hy; simp at hy; rw [hy]; exact .inr HXw.out)
                have HD10 := hid (keepB HS10.out HD9.out (lt_of_heap HD9.out) HDX.out)
                have HNV10 := hid (HNV.out.oth HS10.out HX9.out (by decide) (Nat.le_trans HRB.out.ap.size HXw.out))
                have HXf := hid HX10.out
                rw [HDV.out] at HXf
                have HB := hid (rtext_b8 HB8.out HP9.out)
                have HF := hid HE.out
                go_wp2_with fail
                rw [← hw10]
                clear hw10
                go_meet
                exact ⟨vs, q9, sv, HR10.out, HA10.out, HXf.out, HD10.out, HNV10.out, HSV.out, ⟨HB.out.2.2, HB.out.1⟩, HF.out⟩
          obtain ⟨vs, q9, sv, hRc, hAc, hXc, hDc, hNc, hsv, ⟨hv64, hv8⟩, hEc⟩ := hcut.ex
          have HR11 := hid hRc
          have HA11 := hid hAc
          have HX11 := hid hXc
          have HD11 := hid hDc
          have HNV := hid hNc
          have HSV := hid hsv
          have HV8 := hid hv8
          replace HE := hid hEc
          clear hcut hRc hAc hXc hDc hNc hsv hv8 hEc
          generalize wc = w11 at *
          obtain ⟨z0, z1, z2⟩ := HR11.out.cells
          go_wp2_with fail
          clear z0 z1 z2
          refine (set_ok HR11.out).mono ?_
          rintro e12 w12 ⟨ha12, hm12⟩
          have HA12 : Hid (Apart [R] w w12) := HA11.out.trans ha12
          have HS12 := hid ha12
          clear ha12
          cases hr12 : rset B q9 with
          | error x =>
            rw [hr12] at hm12
            have he : e12 = wrongAt x := hm12
            subst he
            unfold wrongAt
            have HE1 := HE.out
            rw [hr12, rb_err] at HE1
            try dsimp only
            refine ⟨rfl, HA12.out, ?_⟩
            rw [HE1]
            rfl
          | ok t =>
            obtain ⟨xs, q12⟩ := t
            rw [hr12] at hm12
            obtain ⟨⟨v12, hev12, hv12⟩, hrb12⟩ := hm12
            subst hev12
            have HR12 := hid hrb12
            have HE1 := HE.out
            rw [hr12, rb_ok] at HE1
            replace HE := hid HE1
            have HP12 := hid hr12
            clear HE1 hrb12 hr12
            obtain ⟨sx, hvs, hnx, hsx, hfx⟩ := hv12
            subst hvs
            have HNX := hid hnx
            have HSX := hid hsx
            have HFX := hid hfx
            clear hnx hsx hfx
            try dsimp only
            have HD12 := hid (keepB HS12.out HD11.out (lt_of_heap HD11.out) HDR.out)
            have HX12 := hid (keepB HS12.out HX11.out (lt_of_heap HX11.out) HXR.out)
            have HNV12 := hid (HNV.out.rd124 HR11.out HS12.out (by decide))
            obtain ⟨x0, x1, x2, x3, x4, x5⟩ := rowv6 HX12.out
            have f5 := frozen_of_row _ _ 5 _ _ HX12.out
            obtain ⟨w13, hw13⟩ : ∃ w13, w13 = w12.setCell ⟨X, 5, none⟩ (.slice sx.p sx.n sx.c) := ⟨_, rfl⟩
            have HS13 : Hid (Apart [X] w12 w13) := by unfold Hid; rw [hw13]; exact (Apart.refl _ _).setCell (.inl (by simp)) _
            have HX13 : Hid (w13.heap[X]? = some (.cells #[.int .i64 (n : Nat), .int .i64 (cc : Nat), .string kb, .bool (decide (dd = 1)), .slice sv.p sv.n sv.c, .slice sx.p sx.n sx.c] 37 (0, 0))) := by
              unfold Hid
              rw [hw13]
              have := heap_setCell_same w12 X 5 _ 37 (.slice sx.p sx.n sx.c) HX12.out
              simpa using this
            have HR13 := hid (HR12.out.other HS13.out HX12.out (by decide) (Nat.le_trans HRB.out.ap.size HXw.out))
            have HA13 : Hid (Apart [R] w w13) := HA12.out.trans' HS13.out (by intro y hy; simp at hy; rw [hy]; exact .inr HXw.out)
            have HD13 := hid (keepB HS13.out HD12.out (lt_of_heap HD12.out) HDX.out)
            have HNV13 := hid (HNV12.out.oth HS13.out HX12.out (by decide) (Nat.le_trans HRB.out.ap.size HXw.out))
            have HNX13 := hid (HNX.out.oth HS13.out HX12.out (by decide) (Nat.le_trans HRB.out.ap.size HXw.out))
            go_upto_region 11 with fail
            rw [← hw13]
            clear hw13 x0 x1 x2 x3 x4 x5 f5
            have hxl := rspans_len (show rspans B q9 18446744073709551615 = .ok (xs, q12) from HP12.out)
            have HL13 := hid (VSet.L HNX13.out HSX.out HFX.out (by have := HSX.out; omega))
            obtain ⟨x0, x1, x2, x3, x4, x5⟩ := rowv6 HX13.out
            obtain ⟨hb, Hhb⟩ : ∃ hb, Hid (hb = hasd xs (n : Nat) (cc : Nat)) := ⟨_, rfl⟩
            have HE1 := HE.out
            rw [← Hhb.out] at HE1
            replace HE := hid HE1
            clear HE1
            go_wp2_with fail
            refine (has_any (n : Nat) (cc : Nat) HL13.out hb Hhb.out).mono ?_
            clear x0 x1 x2 x3 x4 x5
            rintro _ w14 ⟨rfl, a14⟩
            have HA14 : Hid (Apart [R] w w14) := HA13.out.trans (a14.mono (by simp))
            have HR14 := hid (HR13.out.kept a14)
            have HX14 := hid ((a14.block _ (lt_of_heap HX13.out) (by simp)).trans HX13.out)
            have HD14 := hid ((a14.block _ (lt_of_heap HD13.out) (by simp)).trans HD13.out)
            have HNV14 := hid (HNV13.out.kept a14)
            have HNX14 := hid (HNX13.out.kept a14)
            clear a14
            try dsimp only
            cases hb with
            | true =>
              have HF : Hid (rwrite B q an ac key = .error q9) := by unfold Hid; rw [HE.out]; rfl
              go_wp2_with fail
              refine (need_no q9 w14).mono ?_
              rintro _ w15 ⟨rfl, hw15⟩
              rw [hw15]
              unfold wrongAt
              try dsimp only
              refine ⟨rfl, HA14.out, ?_⟩
              rw [HF.out]
              rfl
            | false =>
              have HF : Hid (rwrite B q an ac key = .ok (⟨(n : Nat), (cc : Nat), kb, decide (dd = 1), vs, xs⟩, q12)) := by unfold Hid; rw [HE.out]; rfl
              go_wp2_with fail
              refine (need_yes q9 w14).mono ?_
              rintro _ w15 ⟨rfl, hw15⟩
              rw [hw15]
              clear hw15
              try dsimp only
              obtain ⟨x0, x1, x2, x3, x4, x5⟩ := rowv6 HX14.out
              obtain ⟨d0, d1, d2, d3, d4, d5⟩ := rowv6 HD14.out
              have f0 := frozen_of_row _ _ 0 _ _ HD14.out
              have f1 := frozen_of_row _ _ 1 _ _ HD14.out
              have f2 := frozen_of_row _ _ 2 _ _ HD14.out
              have f3 := frozen_of_row _ _ 3 _ _ HD14.out
              have f4 := frozen_of_row _ _ 4 _ _ HD14.out
              have f5 := frozen_of_row _ _ 5 _ _ HD14.out
              obtain ⟨wz, Hwz⟩ : ∃ wz, Hid (wz = ((((((w14.setCell ⟨D, 0, none⟩ (.int .i64 (n : Nat))).setCell ⟨D, 1, none⟩ (.int .i64 (cc : Nat))).setCell ⟨D, 2, none⟩ (.string kb)).setCell ⟨D, 3, none⟩ (.bool (decide (dd = 1)))).setCell ⟨D, 4, none⟩ (.slice sv.p sv.n sv.c)).setCell ⟨D, 5, none⟩ (.slice sx.p sx.n sx.c))) := ⟨_, rfl⟩
              have HDz : Hid (wz.heap[D]? = some (.cells #[.int .i64 (n : Nat), .int .i64 (cc : Nat), .string kb, .bool (decide (dd = 1)), .slice sv.p sv.n sv.c, .slice sx.p sx.n sx.c] 37 (0, 0))) := by
                unfold Hid
                rw [Hwz.out]
                have h1 := heap_setCell_same w14 D 0 _ 37 (.int .i64 (n : Nat)) HD14.out
                have h2 := heap_setCell_same _ D 1 _ 37 (.int .i64 (cc : Nat)) h1
                have h3 := heap_setCell_same _ D 2 _ 37 (.string kb) h2
                have h4 := heap_setCell_same _ D 3 _ 37 (.bool (decide (dd = 1))) h3
                have h5 := heap_setCell_same _ D 4 _ 37 (.slice sv.p sv.n sv.c) h4
                have h6 := heap_setCell_same _ D 5 _ 37 (.slice sx.p sx.n sx.c) h5
                simpa using h6
              have HSz : Hid (Apart [D] w14 wz) := by unfold Hid; rw [Hwz.out]; exact (((((((Apart.refl _ _).setCell (.inl (by simp)) _).setCell (.inl (by simp)) _).setCell (.inl (by simp)) _).setCell (.inl (by simp)) _).setCell (.inl (by simp)) _).setCell (.inl (by simp)) _)
              have HAz : Hid (Apart [R] w wz) := HA14.out.trans' HSz.out (by intro y hy; simp at hy; rw [hy]; exact .inr HDw.out)
              have HRz := hid (HR14.out.other HSz.out HD14.out (by decide) (Nat.le_trans HRB.out.ap.size HDw.out))
              have HNVz := hid (HNV14.out.oth HSz.out HD14.out (by decide) (Nat.le_trans HRB.out.ap.size HDw.out))
              have HNXz := hid (HNX14.out.oth HSz.out HD14.out (by decide) (Nat.le_trans HRB.out.ap.size HDw.out))
              go_wp2_with fail
              rw [← Hwz.out]
              refine bodyPost_ret (results_cell_row rfl _ _ D 37 _ _ _ rfl HDz.out Tryz.underlying37 rfl size41) rfl ?_
              refine ⟨HAz.out, ?_⟩
              rw [HF.out]
              refine ⟨⟨_, rfl, ⟨(n : Nat), (cc : Nat), kb, decide (dd = 1), sv, sx⟩, rfl, ?_⟩, HRz.out⟩
              exact ⟨rfl, rfl, rfl, rfl, HNVz.out, HSV.out.symm, by have := HSV.out; show sv.n ≤ 2000000; omega, HV8.out, HNXz.out, HSX.out.symm, by have := HSX.out; show sx.n ≤ 2000000; omega, HFX.out⟩
end Go.Proofs.YtddffdcjhleejaaGreat.ds
