import Derived.Test.YtddffdcjhleejaaV6
namespace Go.Proofs.Ytddffdcjhleejaa.ds
open Go.ChangeShapes Go.WideShapes Go.ChangeAt Go.RowKit Go.Sort
set_option linter.unusedVariables false
set_option linter.unusedSimpArgs false
/-- one thing behind the other -/
def rb {α β : Type} (r : Except Nat (α × Nat)) (f : α → Nat → Except Nat (β × Nat)) : Except Nat (β × Nat) := match r with
  | .ok (a, q) => f a q
  | .error x => .error x
theorem rb_ok {α β : Type} (a : α) (q : Nat) (f : α → Nat → Except Nat (β × Nat)) : rb (.ok (a, q)) f = f a q := rfl
theorem rb_err {α β : Type} (x : Nat) (f : α → Nat → Except Nat (β × Nat)) : rb (.error x) f = .error x := rfl
/-- bytes that stand at a place -/
def rbytes (B : List Nat) (n q : Nat) : Except Nat (List Nat × Nat) := if n ≤ B.length - q then .ok ((B.drop q).take n, q + n) else .error B.length
/-- a length, and so many bytes -/
def rtext (B : List Nat) (q lo hi : Nat) : Except Nat (List Nat × Nat) := rb (rbound B q lo hi) (fun n q1 => rbytes B n q1)
def rdot (B : List Nat) (q : Nat) : Except Nat ((Nat × Nat) × Nat) := rb (rbound B q 0 7) (fun n q1 => rb (rbound B q1 1 1048576) (fun c q2 => .ok ((n, c), q2)))
/-- the bytes that take hands over can be read -/
theorem take_rd {wB w : World} {R : Nat} {p : Option Addr} {N c : Nat} {B : List Nat} {q q2 : Nat} (h : RB wB w R p N c B q2) (n : Nat) (hn : n ≤ N - q) (hq : q ≤ N) : Rd w (if c = q then p else p.map fun x => x.add q) (byts ((B.drop q).take n)) ∧ ((B.drop q).take n).length = n := by
  have hl := h.len
  refine ⟨fun h0 => ?_, by rw [List.length_take, List.length_drop]; omega⟩
  have hn0 : 0 < n := by
    simp [byts] at h0; omega
  have hcap := h.cap
  obtain ⟨P, o, e, hP, hc⟩ := h.rd (by simp [byts]; omega)
  rw [if_neg (by omega), e]
  refine ⟨P, o + q, by simp [Addr.add_lit], hP, fun j v hj => ?_⟩
  have := hc (q + j) v (by
    unfold byts at hj ⊢
    rw [List.getElem?_map, List.getElem?_take] at hj
    split at hj
    · rw [List.getElem?_map]; rw [List.getElem?_drop] at hj; exact hj
    · cases hj)
  rw [← Nat.add_assoc] at this
  exact this
theorem size25 : (Try.prog.info? 25).map (·.size) = some 2 := by kernel_rfl
/-- the reader stays, where something else of the call's own is written -/
theorem RB.other {wB w w' : World} {R : Nat} {p : Option Addr} {N c : Nat} {B : List Nat} {q : Nat} {D : Nat} {cur : Array Value} {t : TypeId} (h : RB wB w R p N c B q) (a : Apart [D] w w') (hD : w.heap[D]? = some (.cells cur t (0, 0))) (ht : t ≠ 124) (hn : wB.heap.size ≤ D) : RB wB w' R p N c B q := by
  have hne : R ≠ D := fun e => by
    have := h.blk
    rw [e, hD] at this
    simp at this
    exact ht this.2
  refine { h with blk := (a.block _ (lt_of_heap h.blk) (by simp; exact hne)).trans h.blk, rd := fun h0 => ?_, ap := h.ap.trans' a (by intro y hy; simp at hy; rw [hy]; exact .inr hn) }
  obtain ⟨P, o, e, hP, hc⟩ := h.rd h0
  exact ⟨P, o, e, Nat.lt_of_lt_of_le hP a.size, fun j v hj => (a.cell hP (by have := h.old P o e; simp; omega)).trans (hc j v hj)⟩
set_option maxHeartbeats 4000000 in
set_option maxRecDepth 100000 in
theorem rnode_ok {wB w : World} {R : Nat} {p : Option Addr} {N c : Nat} {B : List Nat} {q : Nat} (h : RB wB w R p N c B q) :
    Calls Try.prog 78 #[.pointer (some ⟨R, 0, none⟩)] w fun e w' => OutR wB w w' R p N c B e (rbound B q 0 7) (fun a v _ => v = .int .i64 (a : Nat)) := by
  have HRB := hid h
  have HE : Hid (rbound B q 0 7 = rbound B q 0 7) := rfl
  clear h
  go_enter Try.func78, Try.ntmps78
  go_wp2_with fail
  refine (bounded_ok HRB.out 0 7 (by omega) (by omega)).mono ?_
  rintro e w2 ⟨ha, hm⟩
  have HA := hid ha
  have HM := hid hm
  cases hr : rbound B q 0 7 with
  | error x =>
    rw [hr] at hm
    have he : e = wrongAt x := hm
    subst he
    have HF := hid hr
    unfold wrongAt
    try dsimp only
    refine ⟨rfl, HA.out, ?_⟩
    rw [HF.out]
    rfl
  | ok t =>
    obtain ⟨n, q'⟩ := t
    rw [hr] at hm
    obtain ⟨⟨v, hev, hv⟩, hrb⟩ := hm
    subst hev
    subst hv
    have HR2 := hid hrb
    have HF := hid hr
    clear hrb hr ha HM
    try dsimp only
    go_wp2_with fail
    go_ret
    refine ⟨HA.out, ?_⟩
    rw [HF.out]
    exact ⟨⟨_, rfl, rfl⟩, HR2.out⟩
set_option maxHeartbeats 4000000 in
set_option maxRecDepth 100000 in
theorem key_ok {wB w : World} {R : Nat} {p : Option Addr} {N c : Nat} {B : List Nat} {q : Nat} (h : RB wB w R p N c B q) :
    Calls Try.prog 80 #[.pointer (some ⟨R, 0, none⟩)] w fun e w' => OutR wB w w' R p N c B e (rtext B q 1 16) (fun a v _ => v = .string (strB a)) := by
  have HRB := hid h
  have HE : Hid (rtext B q 1 16 = rtext B q 1 16) := rfl
  replace HE : Hid (rtext B q 1 16 = rb (rbound B q 1 16) (fun n q1 => rbytes B n q1)) := rfl
  clear h
  go_enter Try.func80, Try.ntmps80
  go_wp2_with fail
  refine (bounded_ok HRB.out 1 16 (by omega) (by omega)).mono ?_
  rintro e2 w2 ⟨ha2, hm2⟩
  have HA2 : Hid (Apart [R] w w2) := ha2
  have HS2 := hid ha2
  clear ha2
  cases hr2 : rbound B q 1 16 with
  | error x =>
    rw [hr2] at hm2
    have he : e2 = wrongAt x := hm2
    subst he
    unfold wrongAt
    have HE1 := HE.out
    rw [hr2, rb_err] at HE1
    try dsimp only
    refine ⟨rfl, HA2.out, ?_⟩
    rw [HE1]
    rfl
  | ok t =>
    obtain ⟨n, q2⟩ := t
    rw [hr2] at hm2
    obtain ⟨⟨v2, hev2, hv2⟩, hrb2⟩ := hm2
    subst hev2
    have HR2 := hid hrb2
    have HE1 := HE.out
    rw [hr2, rb_ok] at HE1
    replace HE := hid HE1
    have HP2 := hid hr2
    clear HE1 hrb2 hr2
    subst hv2
    have hn := (rbound_le HP2.out).2
    have hlen := HR2.out.len
    have hle2 := HR2.out.le
    try dsimp only
    go_wp2_with fail
    refine (take_ok HR2.out n (by omega)).mono ?_
    rintro e3 w3 hp
    have HA3 : Hid (Apart [R] w w3) := HA2.out.trans hp.ap
    by_cases hlt : n ≤ N - q2
    · obtain ⟨he, hr3⟩ := hp.ok hlt
      subst he
      have HR3 := hid hr3
      have HF : Hid (rtext B q 1 16 = .ok ((B.drop q2).take n, q2 + n)) := by unfold Hid; rw [HE.out]; unfold rbytes; rw [if_pos (by omega)]
      obtain ⟨hrd, hrl⟩ := take_rd HR3.out n hlt hle2
      have HRd := hid hrd
      have HRl := hid hrl
      obtain ⟨pp, Hpp⟩ : ∃ pp, Hid (pp = if c = q2 then p else Option.map (fun x => x.add q2) p) := ⟨_, rfl⟩
      obtain ⟨cd, Hcd⟩ : ∃ cd, Hid (cd = c - q2) := ⟨_, rfl⟩
      rw [← Hpp.out, ← Hcd.out]
      have HOK : Hid (Sl.ok ⟨pp, n, cd⟩) := by
        intro e0
        have hcap := HR2.out.cap
        have e1 : pp = none := e0
        rw [Hpp.out] at e1
        by_cases hc : c = q2
        · exact ⟨by show n = 0; omega, by show cd = 0; rw [Hcd.out]; omega⟩
        · rw [if_neg hc] at e1
          cases hp0 : p with
          | none =>
            exfalso
            have := HR2.out.ok hp0
            omega
          | some a => rw [hp0] at e1; cases e1
      rw [← Hpp.out] at HRd
      clear hp hr3 hrd hrl
      try dsimp only
      have hcv := conv_bytes (s := ⟨pp, n, cd⟩) HRd.out HRl.out HOK.out
      simp only at hcv
      go_wp2_with fail
      go_ret
      refine ⟨HA3.out, ?_⟩
      rw [HF.out]
      exact ⟨⟨_, rfl, rfl⟩, HR3.out⟩
    · have he := hp.no hlt
      subst he
      have HF : Hid (rtext B q 1 16 = .error N) := by unfold Hid; rw [HE.out]; unfold rbytes; rw [if_neg (by omega), hlen]
      clear hp
      unfold wrongAt
      try dsimp only
      refine ⟨rfl, HA3.out, ?_⟩
      rw [HF.out]
      rfl
set_option maxHeartbeats 4000000 in
set_option maxRecDepth 100000 in
theorem value_ok {wB w : World} {R : Nat} {p : Option Addr} {N c : Nat} {B : List Nat} {q : Nat} (h : RB wB w R p N c B q) :
    Calls Try.prog 118 #[.pointer (some ⟨R, 0, none⟩)] w fun e w' => OutR wB w w' R p N c B e (rtext B q 0 64) (fun a v w' => ∃ s : Sl, v = .slice s.p s.n s.c ∧ Nw wB w' 5 1 s (byts a) ∧ s.n = a.length) := by
  have HRB := hid h
  have HE : Hid (rtext B q 0 64 = rtext B q 0 64) := rfl
  replace HE : Hid (rtext B q 0 64 = rb (rbound B q 0 64) (fun n q1 => rbytes B n q1)) := rfl
  clear h
  go_enter Try.func118, Try.ntmps118
  go_wp2_with fail
  refine (bounded_ok HRB.out 0 64 (by omega) (by omega)).mono ?_
  rintro e2 w2 ⟨ha2, hm2⟩
  have HA2 : Hid (Apart [R] w w2) := ha2
  have HS2 := hid ha2
  clear ha2
  cases hr2 : rbound B q 0 64 with
  | error x =>
    rw [hr2] at hm2
    have he : e2 = wrongAt x := hm2
    subst he
    unfold wrongAt
    have HE1 := HE.out
    rw [hr2, rb_err] at HE1
    try dsimp only
    refine ⟨rfl, HA2.out, ?_⟩
    rw [HE1]
    rfl
  | ok t =>
    obtain ⟨n, q2⟩ := t
    rw [hr2] at hm2
    obtain ⟨⟨v2, hev2, hv2⟩, hrb2⟩ := hm2
    subst hev2
    have HR2 := hid hrb2
    have HE1 := HE.out
    rw [hr2, rb_ok] at HE1
    replace HE := hid HE1
    have HP2 := hid hr2
    clear HE1 hrb2 hr2
    subst hv2
    have hn := (rbound_le HP2.out).2
    have hlen := HR2.out.len
    have hle2 := HR2.out.le
    try dsimp only
    go_wp2_with fail
    refine (take_ok HR2.out n (by omega)).mono ?_
    rintro e3 w3 hp
    have HA3 : Hid (Apart [R] w w3) := HA2.out.trans hp.ap
    by_cases hlt : n ≤ N - q2
    · obtain ⟨he, hr3⟩ := hp.ok hlt
      subst he
      have HR3 := hid hr3
      have HF : Hid (rtext B q 0 64 = .ok ((B.drop q2).take n, q2 + n)) := by unfold Hid; rw [HE.out]; unfold rbytes; rw [if_pos (by omega)]
      obtain ⟨hrd, hrl⟩ := take_rd HR3.out n hlt hle2
      have HRd := hid hrd
      have HRl := hid hrl
      obtain ⟨pp, Hpp⟩ : ∃ pp, Hid (pp = if c = q2 then p else Option.map (fun x => x.add q2) p) := ⟨_, rfl⟩
      obtain ⟨cd, Hcd⟩ : ∃ cd, Hid (cd = c - q2) := ⟨_, rfl⟩
      rw [← Hpp.out, ← Hcd.out]
      have HOK : Hid (Sl.ok ⟨pp, n, cd⟩) := by
        intro e0
        have hcap := HR2.out.cap
        have e1 : pp = none := e0
        rw [Hpp.out] at e1
        by_cases hc : c = q2
        · exact ⟨by show n = 0; omega, by show cd = 0; rw [Hcd.out]; omega⟩
        · rw [if_neg hc] at e1
          cases hp0 : p with
          | none =>
            exfalso
            have := HR2.out.ok hp0
            omega
          | some a => rw [hp0] at e1; cases e1
      rw [← Hpp.out] at HRd
      clear hp hr3 hrd hrl
      try dsimp only
      obtain ⟨s', w4, hrun, hnw, hsn⟩ := appB w3 ⟨pp, n, cd⟩ ((B.drop q2).take n) 22 HRd.out HRl.out (by show n ≤ 2000000; omega) HOK.out
      have HRUN : Hid ((Builtin.append_ #[22, 22] 22 #[.slice none 0 0, .slice pp n cd]).run Try.prog w3 = .ok (.slice s'.p s'.n s'.c) w4) := hrun
      have HNW : Hid (Nw wB w4 5 1 s' (byts ((B.drop q2).take n))) := hnw.from HR3.out.ap
      have HA4 : Hid (Apart [R] w w4) := HA3.out.trans (hnw.ap.mono (by simp))
      have HR4 := hid (HR3.out.kept hnw.ap)
      have HSN : Hid (s'.n = ((B.drop q2).take n).length) := by unfold Hid; rw [hsn, HRl.out]
      clear hrun hnw hsn
      go_wp2_with (at_builtin; refine wpList_app2 rfl (.const (.slice none 0 0)) (.tmp 6) 22 22 rfl _ _ rfl rfl _ _ HRUN.out ?_)
      go_ret
      refine ⟨HA4.out, ?_⟩
      rw [HF.out]
      exact ⟨⟨_, rfl, s', rfl, HNW.out, HSN.out⟩, HR4.out⟩
    · have he := hp.no hlt
      subst he
      have HF : Hid (rtext B q 0 64 = .error N) := by unfold Hid; rw [HE.out]; unfold rbytes; rw [if_neg (by omega), hlen]
      clear hp
      unfold wrongAt
      try dsimp only
      refine ⟨rfl, HA3.out, ?_⟩
      rw [HF.out]
      rfl
set_option maxHeartbeats 4000000 in
set_option maxRecDepth 100000 in
theorem rdot_rd {wB w : World} {R : Nat} {p : Option Addr} {N c : Nat} {B : List Nat} {q : Nat} (h : RB wB w R p N c B q) :
    Calls Try.prog 81 #[.pointer (some ⟨R, 0, none⟩)] w fun e w' => OutR wB w w' R p N c B e (rdot B q) (fun a v _ => v = .agg #[.int .i64 ((a.1 : Nat) : Int), .int .i64 ((a.2 : Nat) : Int)]) := by
  have HRB := hid h
  have HE : Hid (rdot B q = rdot B q) := rfl
  replace HE : Hid (rdot B q = rb (rbound B q 0 7) (fun n q1 => rb (rbound B q1 1 1048576) (fun c q2 => .ok ((n, c), q2)))) := rfl
  obtain ⟨D, HD⟩ : ∃ D, Hid (D = w.heap.size) := ⟨_, rfl⟩
  obtain ⟨w1, hw1⟩ : ∃ w1, w1 = w.alloc (.cells #[.int .i64 0, .int .i64 0] 25) := ⟨_, rfl⟩
  have HA0 : Hid (Apart [] w w1) := by unfold Hid; rw [hw1]; exact (Apart.refl [] w).alloc _
  have HA1 : Hid (Apart [R] w w1) := HA0.out.mono (by simp)
  have HB1 : Hid (w1.heap[D]? = some (.cells #[.int .i64 0, .int .i64 0] 25 (0, 0))) := by unfold Hid; rw [HD.out, hw1]; exact heap_alloc_new w _
  have HDR : Hid (D ≠ R) := by unfold Hid; have := lt_of_heap HRB.out.blk; rw [HD.out]; omega
  have HRB1 := hid (HRB.out.kept HA0.out)
  clear h
  go_enter Try.func81, Try.ntmps81
  go_wp2_with fail
  rw [← hw1, ← HD.out]
  clear hw1
  refine (rnode_ok HRB1.out).mono ?_
  rintro e2 w2 ⟨ha2, hm2⟩
  have HA2 : Hid (Apart [R] w1 w2) := ha2
  have HS2 := hid ha2
  clear ha2
  cases hr2 : rbound B q 0 7 with
  | error x =>
    rw [hr2] at hm2
    have he : e2 = wrongAt x := hm2
    subst he
    unfold wrongAt
    have HE1 := HE.out
    rw [hr2, rb_err] at HE1
    try dsimp only
    refine ⟨rfl, HA1.out.trans HA2.out, ?_⟩
    rw [HE1]
    rfl
  | ok t =>
    obtain ⟨n, q2⟩ := t
    rw [hr2] at hm2
    obtain ⟨⟨v2, hev2, hv2⟩, hrb2⟩ := hm2
    subst hev2
    have HR2 := hid hrb2
    have HE1 := HE.out
    rw [hr2, rb_ok] at HE1
    replace HE := hid HE1
    have HP2 := hid hr2
    clear HE1 hrb2 hr2
    subst hv2
    try dsimp only
    go_wp2_with fail
    refine (bounded_ok HR2.out 1 1048576 (by omega) (by omega)).mono ?_
    rintro e3 w3 ⟨ha3, hm3⟩
    have HA3 : Hid (Apart [R] w1 w3) := HA2.out.trans ha3
    have HS3 := hid ha3
    clear ha3
    cases hr3 : rbound B q2 1 1048576 with
    | error x =>
      rw [hr3] at hm3
      have he : e3 = wrongAt x := hm3
      subst he
      unfold wrongAt
      have HE1 := HE.out
      rw [hr3, rb_err] at HE1
      try dsimp only
      refine ⟨rfl, HA1.out.trans HA3.out, ?_⟩
      rw [HE1]
      rfl
    | ok t =>
      obtain ⟨cc, q3⟩ := t
      rw [hr3] at hm3
      obtain ⟨⟨v3, hev3, hv3⟩, hrb3⟩ := hm3
      subst hev3
      have HR3 := hid hrb3
      have HE1 := HE.out
      rw [hr3, rb_ok] at HE1
      replace HE := hid HE1
      have HP3 := hid hr3
      clear HE1 hrb3 hr3
      subst hv3
      try dsimp only
      have HB3 : Hid (w3.heap[D]? = some (.cells #[.int .i64 0, .int .i64 0] 25 (0, 0))) := (HA3.out.block _ (lt_of_heap HB1.out) (by have := HDR.out; simp; exact this)).trans HB1.out
      have x0 : w3.cell? ⟨D, 0, none⟩ = some (.int .i64 0) := by rw [cell_of_row _ _ _ _ _ _ HB3.out]; rfl
      have x1 : w3.cell? ⟨D, 1, none⟩ = some (.int .i64 0) := by rw [cell_of_row _ _ _ _ _ _ HB3.out]; rfl
      have f0 := frozen_of_row _ _ 0 _ _ HB3.out
      have f1 := frozen_of_row _ _ 1 _ _ HB3.out
      have HB4 : Hid (((w3.setCell ⟨D, 0, none⟩ (.int .i64 (n : Nat))).setCell ⟨D, 1, none⟩ (.int .i64 (cc : Nat))).heap[D]? = some (.cells #[.int .i64 (n : Nat), .int .i64 (cc : Nat)] 25 (0, 0))) := by
        unfold Hid
        have h1 := heap_setCell_same w3 D 0 _ 25 (.int .i64 (n : Nat)) HB3.out
        have h2 := heap_setCell_same _ D 1 _ 25 (.int .i64 (cc : Nat)) h1
        simpa using h2
      have HAD : Hid (Apart [D] w3 ((w3.setCell ⟨D, 0, none⟩ (.int .i64 (n : Nat))).setCell ⟨D, 1, none⟩ (.int .i64 (cc : Nat)))) := ((Apart.refl _ _).setCell (.inl (by simp)) _).setCell (.inl (by simp)) _
      have HA4 : Hid (Apart [R] w ((w3.setCell ⟨D, 0, none⟩ (.int .i64 (n : Nat))).setCell ⟨D, 1, none⟩ (.int .i64 (cc : Nat)))) := (HA1.out.trans HA3.out).trans' HAD.out (by intro y hy; simp at hy; rw [hy, HD.out]; exact .inr (Nat.le_refl _))
      have HR4 := hid (HR3.out.other HAD.out HB3.out (by decide) (by rw [HD.out]; exact HRB.out.ap.size))
      go_wp2_with fail
      refine bodyPost_ret (results_cell_row rfl _ _ D 25 _ _ _ rfl HB4.out Try.underlying25 rfl size25) rfl ?_
      refine ⟨HA4.out, ?_⟩
      rw [HE.out]
      exact ⟨⟨_, rfl, rfl⟩, HR4.out⟩
end Go.Proofs.Ytddffdcjhleejaa.ds
namespace Go.Proofs.Ytddffdcjhleejaa.ds
open Go.ChangeShapes Go.WideShapes Go.ChangeAt Go.RowKit Go.Sort
set_option linter.unusedVariables false
set_option linter.unusedSimpArgs false
theorem rnum_lt (B : List Nat) : ∀ (f i p acc n : Nat) (b : Bool) (q : Nat), acc < 18446744073709551616 → rnum B f i p acc = .ok (n, b, q) → n < 18446744073709551616
  | 0, _, _, _, _, _, _, _, h => by cases h
  | f + 1, i, p, acc, n, b, q, ha, h => by
    have hor : acc ||| (B.getD p 0 % 128) <<< (7 * i) % 18446744073709551616 < 18446744073709551616 := Nat.or_lt_two_pow (n := 64) (by omega) (by have := Nat.mod_lt ((B.getD p 0 % 128) <<< (7 * i)) (show 0 < 18446744073709551616 by decide); omega)
    unfold rnum at h
    split at h
    · split at h
      · simp only [Except.ok.injEq, Prod.mk.injEq] at h
        rw [← h.1]; exact hor
      · split at h
        · simp only [Except.ok.injEq, Prod.mk.injEq] at h
          rw [← h.1]; exact hor
        · exact rnum_lt B f (i + 1) (p + 1) _ n b q hor h
    · cases h
theorem rnumber_lt {B : List Nat} {q n q' : Nat} {b : Bool} (h : rnumber B q = .ok ((n, b), q')) : n < 18446744073709551616 := by
  unfold rnumber at h
  cases hr : rnum B 10 0 q 0 with
  | error x => rw [hr] at h; cases h
  | ok t =>
    obtain ⟨n', b', q''⟩ := t
    rw [hr] at h
    simp only [Except.ok.injEq, Prod.mk.injEq] at h
    rw [← h.1.1]
    exact rnum_lt B 10 0 q 0 n' b' q'' (by omega) hr
noncomputable def okS (n b t mb : Nat) (ok : Bool) : Bool := @decide (ok = true ∧ t ≤ mb ∧ OkL 64 [(⟨(n : Nat), (b : Nat), t⟩ : S)]) (Classical.propDecidable _)
theorem okS_iff (n b t mb : Nat) (ok : Bool) : okS n b t mb ok = true ↔ ok = true ∧ t ≤ mb ∧ OkL 64 [(⟨(n : Nat), (b : Nat), t⟩ : S)] := by unfold okS; exact @decide_eq_true_iff _ (Classical.propDecidable _)
noncomputable def rspan (B : List Nat) (q ln mb : Nat) : Except Nat (S × Nat) := rb (rbound B q ln 7) (fun n q1 => rb (rbound B q1 0 1048576) (fun b q2 => rb (rnumber B q2) (fun a q3 => if okS n b a.1 mb a.2 = true then .ok (⟨(n : Nat), (b : Nat), a.1⟩, q3) else .error q2)))
set_option maxRecDepth 100000 in
theorem isSet_wire {p : Option Addr} {N cap : Nat} {xs : List S} {w : World} (h : L w p N xs) (v : Bool) (hv : v = true ↔ OkL 64 xs) : Calls Try.prog 54 #[.slice p N cap] w fun r w' => r = .returned (.bool v) ∧ Apart [] w w' := by
  have HC := fun e he => hid (check_as (cap := cap) (gap := 64) h e he)
  cases v with
  | true =>
    have h0 := HC 0 (by unfold chk; rw [if_pos (by omega), if_pos (hv.1 rfl)])
    clear HC h
    go_enter Try.func54, Try.ntmps54
    go_wp2_with fail
    refine h0.out.mono ?_
    rintro _ w' ⟨rfl, a⟩
    have HA := hid a
    clear a
    try dsimp only
    go_wp2_with fail
    go_ret
    exact ⟨rfl, HA.out⟩
  | false =>
    have h0 := HC 30 (by unfold chk; rw [if_pos (by omega), if_neg (fun k => by have := hv.2 k; cases this)])
    clear HC h
    go_enter Try.func54, Try.ntmps54
    go_wp2_with fail
    refine h0.out.mono ?_
    rintro _ w' ⟨rfl, a⟩
    have HA := hid a
    clear a
    try dsimp only
    go_wp2_with fail
    go_ret
    exact ⟨rfl, HA.out⟩
theorem row3v {w : World} {g : Nat} {t : TypeId} {a b c : Value} (h : w.heap[g]? = some (.cells #[a, b, c] t (0, 0))) : w.cell? ⟨g, 0, none⟩ = some a ∧ w.cell? ⟨g, 1, none⟩ = some b ∧ w.cell? ⟨g, 2, none⟩ = some c := by
  refine ⟨?_, ?_, ?_⟩ <;> (rw [cell_of_row _ _ _ _ _ _ h]; rfl)
theorem keepB {R D : Nat} {a b : World} {o : Obj} (h : Apart [R] a b) (hD : a.heap[D]? = some o) (hl : D < a.heap.size) (hn : D ≠ R) : b.heap[D]? = some o := (h.block _ hl (by simp; exact hn)).trans hD
theorem rowL {w : World} {gb : Nat} {x : S} (h : w.heap[gb]? = some (.cells #[.int .i64 x.n, .int .i64 x.b, .int .u64 (x.t : Int)] 86 (0, 0))) (ht : x.t < 2 ^ 64) : L w (some ⟨gb, 0, none⟩) 1 [x] := by
  obtain ⟨h0, h1, h2⟩ := row3v h
  refine ⟨fun _ => ⟨gb, 0, rfl, lt_of_heap h, fun i hi => ?_⟩, rfl, by omega, fun y hy => by simp at hy; rw [hy]; exact ht⟩
  simp at hi
  subst hi
  exact ⟨h0, h1, h2⟩
set_option maxHeartbeats 8000000 in
set_option maxRecDepth 100000 in
theorem span_ok {wB w : World} {R : Nat} {p : Option Addr} {N c : Nat} {B : List Nat} {q : Nat} (h : RB wB w R p N c B q) (ln mb : Nat) (hln : ln ≤ 100) :
    Calls Try.prog 119 #[.pointer (some ⟨R, 0, none⟩), .int .i64 (ln : Nat), .int .u64 (mb : Nat)] w fun e w' => OutR wB w w' R p N c B e (rspan B q ln mb) (fun a v _ => v = spv a ∧ a.t < 2 ^ 64) := by
  have HRB := hid h
  have HE : Hid (rspan B q ln mb = rb (rbound B q ln 7) (fun n q1 => rb (rbound B q1 0 1048576) (fun b q2 => rb (rnumber B q2) (fun a q3 => if okS n b a.1 mb a.2 = true then .ok (⟨(n : Nat), (b : Nat), a.1⟩, q3) else .error q2)))) := rfl
  obtain ⟨D, HD⟩ : ∃ D, Hid (D = w.heap.size) := ⟨_, rfl⟩
  obtain ⟨w1, hw1⟩ : ∃ w1, w1 = w.alloc (.cells #[.int .i64 0, .int .i64 0, .int .u64 0] 86) := ⟨_, rfl⟩
  have HA0 : Hid (Apart [] w w1) := by unfold Hid; rw [hw1]; exact (Apart.refl [] w).alloc _
  have HA1 : Hid (Apart [R] w w1) := HA0.out.mono (by simp)
  have HD1 : Hid (w1.heap[D]? = some (.cells #[.int .i64 0, .int .i64 0, .int .u64 0] 86 (0, 0))) := by unfold Hid; rw [HD.out, hw1]; exact heap_alloc_new w _
  have HDR : Hid (D ≠ R) := by unfold Hid; have := lt_of_heap HRB.out.blk; rw [HD.out]; omega
  have HRB1 := hid (HRB.out.kept HA0.out)
  clear h
  go_enter Try.func119, Try.ntmps119
  go_wp2_with fail
  rw [← hw1, ← HD.out]
  clear hw1
  refine (bounded_ok HRB1.out ln 7 (by omega) (by omega)).mono ?_
  rintro e2 w2 ⟨ha2, hm2⟩
  have HA2 : Hid (Apart [R] w w2) := HA1.out.trans ha2
  have HS2 := hid ha2
  clear ha2
  cases hr2 : rbound B q ln 7 with
  | error x =>
    rw [hr2] at hm2
    have he : e2 = wrongAt x := hm2
    subst he
    unfold wrongAt
    have HE1 := HE.out
    rw [hr2, rb_err] at HE1
    try dsimp only
    refine ⟨rfl, HA2.out, ?_⟩
    rw [HE1]
    rfl
  | ok t =>
    obtain ⟨n, q2⟩ := t
    rw [hr2] at hm2
    obtain ⟨⟨v2, hev2, hv2⟩, hrb2⟩ := hm2
    subst hev2
    have HR2 := hid hrb2
    have HE1 := HE.out
    rw [hr2, rb_ok] at HE1
    replace HE := hid HE1
    have HP2 := hid hr2
    clear HE1 hrb2 hr2
    subst hv2
    try dsimp only
    have HD2 : Hid (w2.heap[D]? = some (.cells #[.int .i64 0, .int .i64 0, .int .u64 0] 86 (0, 0))) := keepB HS2.out HD1.out (lt_of_heap HD1.out) HDR.out
    obtain ⟨X, HX⟩ : ∃ X, Hid (X = w2.heap.size) := ⟨_, rfl⟩
    obtain ⟨w3, hw3⟩ : ∃ w3, w3 = w2.alloc (.cells #[.int .i64 (n : Nat), .int .i64 0, .int .u64 0] 86) := ⟨_, rfl⟩
    have HS3 : Hid (Apart [] w2 w3) := by unfold Hid; rw [hw3]; exact (Apart.refl [] w2).alloc _
    have HX3 : Hid (w3.heap[X]? = some (.cells #[.int .i64 (n : Nat), .int .i64 0, .int .u64 0] 86 (0, 0))) := by unfold Hid; rw [HX.out, hw3]; exact heap_alloc_new w2 _
    have HD3 : Hid (w3.heap[D]? = some (.cells #[.int .i64 0, .int .i64 0, .int .u64 0] 86 (0, 0))) := (HS3.out.block _ (lt_of_heap HD2.out) (by simp)).trans HD2.out
    have HXR : Hid (X ≠ R) := by unfold Hid; have := lt_of_heap HR2.out.blk; rw [HX.out]; omega
    have HXD : Hid (X ≠ D) := by unfold Hid; have := lt_of_heap HD2.out; rw [HX.out]; omega
    have HXw : Hid (w.heap.size ≤ X) := by unfold Hid; rw [HX.out]; exact HA2.out.size
    have HR3 := hid (HR2.out.kept HS3.out)
    have HA3 : Hid (Apart [R] w w3) := HA2.out.trans (HS3.out.mono (by simp))
    go_wp2_with fail
    rw [← hw3, ← HX.out]
    clear hw3
    refine (bounded_ok HR3.out 0 1048576 (by omega) (by omega)).mono ?_
    rintro e4 w4 ⟨ha4, hm4⟩
    have HA4 : Hid (Apart [R] w w4) := HA3.out.trans ha4
    have HS4 := hid ha4
    clear ha4
    cases hr4 : rbound B q2 0 1048576 with
    | error x =>
      rw [hr4] at hm4
      have he : e4 = wrongAt x := hm4
      subst he
      unfold wrongAt
      have HE1 := HE.out
      rw [hr4, rb_err] at HE1
      try dsimp only
      refine ⟨rfl, HA4.out, ?_⟩
      rw [HE1]
      rfl
    | ok t =>
      obtain ⟨b, q4⟩ := t
      rw [hr4] at hm4
      obtain ⟨⟨v4, hev4, hv4⟩, hrb4⟩ := hm4
      subst hev4
      have HR4 := hid hrb4
      have HE1 := HE.out
      rw [hr4, rb_ok] at HE1
      replace HE := hid HE1
      have HP4 := hid hr4
      clear HE1 hrb4 hr4
      subst hv4
      try dsimp only
      have HD4 : Hid (w4.heap[D]? = some (.cells #[.int .i64 0, .int .i64 0, .int .u64 0] 86 (0, 0))) := keepB HS4.out HD3.out (lt_of_heap HD3.out) HDR.out
      have HX4 : Hid (w4.heap[X]? = some (.cells #[.int .i64 (n : Nat), .int .i64 0, .int .u64 0] 86 (0, 0))) := keepB HS4.out HX3.out (lt_of_heap HX3.out) HXR.out
      obtain ⟨x0, x1, x2⟩ := row3v HX4.out
      have f1 := frozen_of_row _ _ 1 _ _ HX4.out
      obtain ⟨w5, hw5⟩ : ∃ w5, w5 = w4.setCell ⟨X, 1, none⟩ (.int .i64 (b : Nat)) := ⟨_, rfl⟩
      have HS5 : Hid (Apart [X] w4 w5) := by unfold Hid; rw [hw5]; exact (Apart.refl _ _).setCell (.inl (by simp)) _
      have HX5 : Hid (w5.heap[X]? = some (.cells #[.int .i64 (n : Nat), .int .i64 (b : Nat), .int .u64 0] 86 (0, 0))) := by
        unfold Hid
        rw [hw5]
        have := heap_setCell_same w4 X 1 _ 86 (.int .i64 (b : Nat)) HX4.out
        simpa using this
      have HD5 : Hid (w5.heap[D]? = some (.cells #[.int .i64 0, .int .i64 0, .int .u64 0] 86 (0, 0))) := keepB HS5.out HD4.out (lt_of_heap HD4.out) HXD.out.symm
      have HR5 := hid (HR4.out.other HS5.out HX4.out (by decide) (Nat.le_trans HRB.out.ap.size HXw.out))
      have HA5 : Hid (Apart [R] w w5) := HA4.out.trans' HS5.out (by intro y hy; simp at hy; rw [hy]; exact .inr HXw.out)
      obtain ⟨r0, r1, r2⟩ := HR5.out.cells
      rw [hw5] at r0 r1 r2
      go_wp2_with fail
      rw [← hw5]
      clear hw5 r0 r1 r2 x0 x1 x2 f1
      refine (number_ok HR5.out).mono ?_
      rintro e6 w6 ⟨ha6, hm6⟩
      have HA6 : Hid (Apart [R] w w6) := HA5.out.trans ha6
      have HS6 := hid ha6
      clear ha6
      cases hr6 : rnumber B q4 with
      | error x =>
        rw [hr6] at hm6
        have he : e6 = wrongAt x := hm6
        subst he
        unfold wrongAt
        have HE1 := HE.out
        rw [hr6, rb_err] at HE1
        try dsimp only
        refine ⟨rfl, HA6.out, ?_⟩
        rw [HE1]
        rfl
      | ok t =>
        obtain ⟨⟨t, ok⟩, q6⟩ := t
        rw [hr6] at hm6
        obtain ⟨⟨v6, hev6, hv6⟩, hrb6⟩ := hm6
        subst hev6
        have HR6 := hid hrb6
        have HE1 := HE.out
        rw [hr6, rb_ok] at HE1
        replace HE := hid HE1
        have HP6 := hid hr6
        clear HE1 hrb6 hr6
        subst hv6
        have ht64 := rnumber_lt HP6.out
        try dsimp only
        have HD6 : Hid (w6.heap[D]? = some (.cells #[.int .i64 0, .int .i64 0, .int .u64 0] 86 (0, 0))) := keepB HS6.out HD5.out (lt_of_heap HD5.out) HDR.out
        have HX6 : Hid (w6.heap[X]? = some (.cells #[.int .i64 (n : Nat), .int .i64 (b : Nat), .int .u64 0] 86 (0, 0))) := keepB HS6.out HX5.out (lt_of_heap HX5.out) HXR.out
        obtain ⟨x0, x1, x2⟩ := row3v HX6.out
        have f2 := frozen_of_row _ _ 2 _ _ HX6.out
        obtain ⟨w7, hw7⟩ : ∃ w7, w7 = w6.setCell ⟨X, 2, none⟩ (.int .u64 (t : Nat)) := ⟨_, rfl⟩
        have HS7 : Hid (Apart [X] w6 w7) := by unfold Hid; rw [hw7]; exact (Apart.refl _ _).setCell (.inl (by simp)) _
        have HX7 : Hid (w7.heap[X]? = some (.cells #[.int .i64 (n : Nat), .int .i64 (b : Nat), .int .u64 (t : Nat)] 86 (0, 0))) := by
          unfold Hid
          rw [hw7]
          have := heap_setCell_same w6 X 2 _ 86 (.int .u64 (t : Nat)) HX6.out
          simpa using this
        have HD7 : Hid (w7.heap[D]? = some (.cells #[.int .i64 0, .int .i64 0, .int .u64 0] 86 (0, 0))) := keepB HS7.out HD6.out (lt_of_heap HD6.out) HXD.out.symm
        have HR7 := hid (HR6.out.other HS7.out HX6.out (by decide) (Nat.le_trans HRB.out.ap.size HXw.out))
        have HA7 : Hid (Apart [R] w w7) := HA6.out.trans' HS7.out (by intro y hy; simp at hy; rw [hy]; exact .inr HXw.out)
        go_upto_region 6 with fail
        rw [← hw7]
        clear hw7 x0 x1 x2 f2
        obtain ⟨x0, x1, x2⟩ := row3v HX7.out
        obtain ⟨y, Hy⟩ : ∃ y : S, Hid (y = ⟨(n : Nat), (b : Nat), t⟩) := ⟨_, rfl⟩
        have bad : ¬ (ok = true ∧ t ≤ mb ∧ OkL 64 [(⟨(n : Nat), (b : Nat), t⟩ : S)]) → Hid (rspan B q ln mb = .error q4) := fun hn => by unfold Hid; rw [HE.out]; exact if_neg (fun h => hn ((okS_iff _ _ _ _ _).1 h))
        have good : (ok = true ∧ t ≤ mb ∧ OkL 64 [(⟨(n : Nat), (b : Nat), t⟩ : S)]) → Hid (rspan B q ln mb = .ok (⟨(n : Nat), (b : Nat), t⟩, q6)) := fun hn => by unfold Hid; rw [HE.out]; exact if_pos ((okS_iff _ _ _ _ _).2 hn)
        cases ok with
        | false =>
          have HF := bad (by simp)
          clear bad good
          go_wp2_with fail
          refine (need_no q4 w7).mono ?_
          rintro _ w8 ⟨rfl, hw8⟩
          rw [hw8]
          unfold wrongAt
          try dsimp only
          refine ⟨rfl, HA7.out, ?_⟩
          rw [HF.out]
          rfl
        | true =>
          by_cases hmb : t ≤ mb
          · have hmbi : ((t : Nat) : Int) ≤ (mb : Int) := by omega
            obtain ⟨w8, hw8⟩ : ∃ w8, w8 = w7.alloc (.cells #[.int .i64 (n : Nat), .int .i64 (b : Nat), .int .u64 (t : Nat)] 86) := ⟨_, rfl⟩
            have HS8 : Hid (Apart [] w7 w8) := by unfold Hid; rw [hw8]; exact (Apart.refl [] w7).alloc _
            have HY8 : Hid (w8.heap[w7.heap.size]? = some (.cells #[.int .i64 (n : Nat), .int .i64 (b : Nat), .int .u64 (t : Nat)] 86 (0, 0))) := by unfold Hid; rw [hw8]; exact heap_alloc_new w7 _
            obtain ⟨v, Hv⟩ : ∃ v : Bool, Hid (v = true ↔ OkL 64 [(⟨(n : Nat), (b : Nat), t⟩ : S)]) := by
              by_cases k : OkL 64 [(⟨(n : Nat), (b : Nat), t⟩ : S)]
              · exact ⟨true, by unfold Hid; simp [k]⟩
              · exact ⟨false, by unfold Hid; simp [k]⟩
            have HIS := hid (isSet_wire (cap := 1) (rowL (x := ⟨(n : Nat), (b : Nat), t⟩) HY8.out (by show t < 2 ^ 64; omega)) v Hv.out)
            go_wp2_with fail
            rw [← hw8]
            clear hw8
            refine HIS.out.mono ?_
            clear x0 x1 x2
            rintro _ w9 ⟨rfl, a9⟩
            have HS9 : Hid (Apart [] w7 w9) := HS8.out.trans a9
            have HA9 : Hid (Apart [R] w w9) := HA7.out.trans (HS9.out.mono (by simp))
            have HR9 := hid (HR7.out.kept HS9.out)
            have HX9 := hid ((HS9.out.block _ (lt_of_heap HX7.out) (by simp)).trans HX7.out)
            have HD9 := hid ((HS9.out.block _ (lt_of_heap HD7.out) (by simp)).trans HD7.out)
            clear a9
            try dsimp only
            cases v with
            | false =>
              have HF := bad (fun hh => by have := Hv.out.2 hh.2.2; cases this)
              clear bad good
              go_wp2_with fail
              refine (need_no q4 w9).mono ?_
              rintro _ w10 ⟨rfl, hw10⟩
              rw [hw10]
              unfold wrongAt
              try dsimp only
              refine ⟨rfl, HA9.out, ?_⟩
              rw [HF.out]
              rfl
            | true =>
              have HF := good (by simp [hmb, Hv.out.1 rfl])
              clear bad good
              go_wp2_with fail
              refine (need_yes q4 w9).mono ?_
              rintro _ w10 ⟨rfl, hw10⟩
              rw [hw10]
              clear hw10
              try dsimp only
              obtain ⟨x0, x1, x2⟩ := row3v HX9.out
              obtain ⟨d0, d1, d2⟩ := row3v HD9.out
              have f0 := frozen_of_row _ _ 0 _ _ HD9.out
              have f1 := frozen_of_row _ _ 1 _ _ HD9.out
              have f2 := frozen_of_row _ _ 2 _ _ HD9.out
              obtain ⟨wz, Hwz⟩ : ∃ wz, Hid (wz = ((w9.setCell ⟨D, 0, none⟩ (.int .i64 (n : Nat))).setCell ⟨D, 1, none⟩ (.int .i64 (b : Nat))).setCell ⟨D, 2, none⟩ (.int .u64 (t : Nat))) := ⟨_, rfl⟩
              have HDz : Hid (wz.heap[D]? = some (.cells #[.int .i64 (n : Nat), .int .i64 (b : Nat), .int .u64 (t : Nat)] 86 (0, 0))) := by
                unfold Hid
                rw [Hwz.out]
                have h1 := heap_setCell_same w9 D 0 _ 86 (.int .i64 (n : Nat)) HD9.out
                have h2 := heap_setCell_same _ D 1 _ 86 (.int .i64 (b : Nat)) h1
                have h3 := heap_setCell_same _ D 2 _ 86 (.int .u64 (t : Nat)) h2
                simpa using h3
              have HSz : Hid (Apart [D] w9 wz) := by unfold Hid; rw [Hwz.out]; exact (((Apart.refl _ _).setCell (.inl (by simp)) _).setCell (.inl (by simp)) _).setCell (.inl (by simp)) _
              have HAz : Hid (Apart [R] w wz) := HA9.out.trans' HSz.out (by intro y hy; simp at hy; rw [hy, HD.out]; exact .inr (Nat.le_refl _))
              have HRz := hid (HR9.out.other HSz.out HD9.out (by decide) (by rw [HD.out]; exact HRB.out.ap.size))
              go_wp2_with fail
              rw [← Hwz.out]
              refine bodyPost_ret (results_cell_row rfl _ _ D 86 _ _ _ rfl HDz.out Try.underlying86 rfl size52) rfl ?_
              refine ⟨HAz.out, ?_⟩
              rw [HF.out]
              exact ⟨⟨_, rfl, rfl, by show t < 2 ^ 64; omega⟩, HRz.out⟩
          · have hmbi : ¬ ((t : Nat) : Int) ≤ (mb : Int) := by omega
            have HF := bad (by simp [hmb])
            clear bad good
            go_wp2_with fail
            refine (need_no q4 w7).mono ?_
            rintro _ w8 ⟨rfl, hw8⟩
            rw [hw8]
            unfold wrongAt
            try dsimp only
            refine ⟨rfl, HA7.out, ?_⟩
            rw [HF.out]
            rfl
end Go.Proofs.Ytddffdcjhleejaa.ds
