import Derived.Test.YtddffdcjhleejaaGreatG7
namespace Go.Proofs.YtddffdcjhleejaaGreat.ds
open Go.ChangeShapes Go.WideShapes Go.ChangeAt Go.RowKit Go.Sort
set_option linter.unusedVariables false
set_option linter.unusedSimpArgs false
/-- one thing behind the other -/
def rb {α β : Type} (r : Except Nat (α × Nat)) (f : α → Nat → Except Nat (β × Nat)) : Except Nat (β × Nat) := match r with
  | .ok (a, q) => f a q
  | .error x => .error x
theorem rb_ok {α β : Type} (a : α) (q : Nat) (f : α → Nat → Except Nat (β × Nat)) : rb (.ok (a, q)) f = f a q := rfl
theorem rb_err {α β : Type} (x : Nat) (f : α → Nat → Except Nat (β × Nat)) : rb (.error x) f = .error x := rfl
/-- bytes that stand at a place -/
def rbytes (B : List Nat) (n q : Nat) : Except Nat (List Nat × Nat) := if n ≤ B.length - q then .ok ((B.drop q).take n, q + n) else .error B.length
/-- a length, and so many bytes -/
def rtext (B : List Nat) (q lo hi : Nat) : Except Nat (List Nat × Nat) := rb (rbound B q lo hi) (fun n q1 => rbytes B n q1)
def rdot (B : List Nat) (q : Nat) : Except Nat ((Nat × Nat) × Nat) := rb (rbound B q 0 7) (fun n q1 => rb (rbound B q1 1 1048576) (fun c q2 => .ok ((n, c), q2)))
/-- the bytes that take hands over can be read -/
theorem take_rd {wB w : World} {R : Nat} {p : Option Addr} {N c : Nat} {B : List Nat} {q q2 : Nat} (h : RB wB w R p N c B q2) (n : Nat) (hn : n ≤ N - q) (hq : q ≤ N) : Rd w (if c = q then p else p.map fun x => x.add q) (byts ((B.drop q).take n)) ∧ ((B.drop q).take n).length = n := by
  have hl := h.len
  refine ⟨fun h0 => ?_, by rw [List.length_take, List.length_drop]; omega⟩
  have hn0 : 0 < n := by
    simp [byts] at h0; omega
  have hcap := h.cap
  obtain ⟨P, o, e, hP, hc⟩ := h.rd (by simp [byts]; omega)
  rw [if_neg (by omega), e]
  refine ⟨P, o + q, by simp [Addr.add_lit], hP, fun j v hj => ?_⟩
  have := hc (q + j) v (by
    unfold byts at hj ⊢
    rw [List.getElem?_map, List.getElem?_take] at hj
    split at hj
    · rw [List.getElem?_map]; rw [List.getElem?_drop] at hj; exact hj
    · cases hj)
  rw [← Nat.add_assoc] at this
  exact this
theorem size25 : (Tryz.prog.info? 25).map (·.size) = some 2 := by kernel_rfl
/-- the reader stays, where something else of the call's own is written -/
theorem RB.other {wB w w' : World} {R : Nat} {p : Option Addr} {N c : Nat} {B : List Nat} {q : Nat} {D : Nat} {cur : Array Value} {t : TypeId} (h : RB wB w R p N c B q) (a : Apart [D] w w') (hD : w.heap[D]? = some (.cells cur t (0, 0))) (ht : t ≠ 115) (hn : wB.heap.size ≤ D) : RB wB w' R p N c B q := by
  have hne : R ≠ D := fun e => by
    have := h.blk
    rw [e, hD] at this
    simp at this
    exact ht this.2
  refine { h with blk := (a.block _ (lt_of_heap h.blk) (by simp; exact hne)).trans h.blk, rd := fun h0 => ?_, ap := h.ap.trans' a (by intro y hy; simp at hy; rw [hy]; exact .inr hn) }
  obtain ⟨P, o, e, hP, hc⟩ := h.rd h0
  exact ⟨P, o, e, Nat.lt_of_lt_of_le hP a.size, fun j v hj => (a.cell hP (by have := h.old P o e; simp; omega)).trans (hc j v hj)⟩
set_option maxHeartbeats 4000000 in
set_option maxRecDepth 100000 in
theorem rnode_ok {wB w : World} {R : Nat} {p : Option Addr} {N c : Nat} {B : List Nat} {q : Nat} (h : RB wB w R p N c B q) :
    Calls Tryz.prog 65 #[.pointer (some ⟨R, 0, none⟩)] w fun e w' => OutR wB w w' R p N c B e (rbound B q 0 7) (fun a v _ => v = .int .i64 (a : Nat)) := by
  have HRB := hid h
  have HE : Hid (rbound B q 0 7 = rbound B q 0 7) := rfl
  clear h
  go_enter Tryz.func65, Tryz.ntmps65
  go_wp2_with fail
  refine (bounded_ok HRB.out 0 7 (by omega) (by omega)).mono ?_
  rintro e w2 ⟨ha, hm⟩
  have HA := hid ha
  have HM := hid hm
  cases hr : rbound B q 0 7 with
  | error x =>
    rw [hr] at hm
    have he : e = wrongAt x := hm
    subst he
    have HF := hid hr
    unfold wrongAt
    try dsimp only
    refine ⟨rfl, HA.out, ?_⟩
    rw [HF.out]
    rfl
  | ok t =>
    obtain ⟨n, q'⟩ := t
    rw [hr] at hm
    obtain ⟨⟨v, hev, hv⟩, hrb⟩ := hm
    subst hev
    subst hv
    have HR2 := hid hrb
    have HF := hid hr
    clear hrb hr ha HM
    try dsimp only
    go_wp2_with fail
    go_ret
    refine ⟨HA.out, ?_⟩
    rw [HF.out]
    exact ⟨⟨_, rfl, rfl⟩, HR2.out⟩
set_option maxHeartbeats 4000000 in
set_option maxRecDepth 100000 in
theorem key_ok {wB w : World} {R : Nat} {p : Option Addr} {N c : Nat} {B : List Nat} {q : Nat} (h : RB wB w R p N c B q) :
    Calls Tryz.prog 66 #[.pointer (some ⟨R, 0, none⟩)] w fun e w' => OutR wB w w' R p N c B e (rtext B q 1 16) (fun a v _ => v = .string (strB a)) := by
  have HRB := hid h
  have HE : Hid (rtext B q 1 16 = rtext B q 1 16) := rfl
  replace HE : Hid (rtext B q 1 16 = rb (rbound B q 1 16) (fun n q1 => rbytes B n q1)) := rfl
  clear h
  go_enter Tryz.func66, Tryz.ntmps66
  go_wp2_with fail
  refine (bounded_ok HRB.out 1 16 (by omega) (by omega)).mono ?_
  rintro e2 w2 ⟨ha2, hm2⟩
  have HA2 : Hid (Apart [R] w w2) := ha2
  have HS2 := hid ha2
  clear ha2
  cases hr2 : rbound B q 1 16 with
  | error x =>
    rw [hr2] at hm2
    have he : e2 = wrongAt x := hm2
    subst he
    unfold wrongAt
    have HE1 := HE.out
    rw [hr2, rb_err] at HE1
    try dsimp only
    refine ⟨rfl, HA2.out, ?_⟩
    rw [HE1]
    rfl
  | ok t =>
    obtain ⟨n, q2⟩ := t
    rw [hr2] at hm2
    obtain ⟨⟨v2, hev2, hv2⟩, hrb2⟩ := hm2
    subst hev2
    have HR2 := hid hrb2
    have HE1 := HE.out
    rw [hr2, rb_ok] at HE1
    replace HE := hid HE1
    have HP2 := hid hr2
    clear HE1 hrb2 hr2
    subst hv2
    have hn := (rbound_le HP2.out).2
    have hlen := HR2.out.len
    have hle2 := HR2.out.le
    try dsimp only
    go_wp2_with fail
    refine (take_ok HR2.out n (by omega)).mono ?_
    rintro e3 w3 hp
    have HA3 : Hid (Apart [R] w w3) := HA2.out.trans hp.ap
    by_cases hlt : n ≤ N - q2
    · obtain ⟨he, hr3⟩ := hp.ok hlt
      subst he
      have HR3 := hid hr3
      have HF : Hid (rtext B q 1 16 = .ok ((B.drop q2).take n, q2 + n)) := by unfold Hid; rw [HE.out]; unfold rbytes; rw [if_pos (by omega)]
      obtain ⟨hrd, hrl⟩ := take_rd HR3.out n hlt hle2
      have HRd := hid hrd
      have HRl := hid hrl
      obtain ⟨pp, Hpp⟩ : ∃ pp, Hid (pp = if c = q2 then p else Option.map (fun x => x.add q2) p) := ⟨_, rfl⟩
      obtain ⟨cd, Hcd⟩ : ∃ cd, Hid (cd = c - q2) := ⟨_, rfl⟩
      rw [← Hpp.out, ← Hcd.out]
      have HOK : Hid (Sl.ok ⟨pp, n, cd⟩) := by
        intro e0
        have hcap := HR2.out.cap
        have e1 : pp = none := e0
        rw [Hpp.out] at e1
        by_cases hc : c = q2
        · exact ⟨by show n = 0; omega, by show cd = 0; rw [Hcd.out]; omega⟩
        · rw [if_neg hc] at e1
          cases hp0 : p with
          | none =>
            exfalso
            have := HR2.out.ok hp0
            omega
          | some a => rw [hp0] at e1; cases e1
      rw [← Hpp.out] at HRd
      clear hp hr3 hrd hrl
      try dsimp only
      have hcv := conv_bytes (s := ⟨pp, n, cd⟩) HRd.out HRl.out HOK.out
      simp only at hcv
      go_wp2_with fail
      go_ret
      refine ⟨HA3.out, ?_⟩
      rw [HF.out]
      exact ⟨⟨_, rfl, rfl⟩, HR3.out⟩
    · have he := hp.no hlt
      subst he
      have HF : Hid (rtext B q 1 16 = .error N) := by unfold Hid; rw [HE.out]; unfold rbytes; rw [if_neg (by omega), hlen]
      clear hp
      unfold wrongAt
      try dsimp only
      refine ⟨rfl, HA3.out, ?_⟩
      rw [HF.out]
      rfl
set_option maxHeartbeats 4000000 in
set_option maxRecDepth 100000 in
theorem value_ok {wB w : World} {R : Nat} {p : Option Addr} {N c : Nat} {B : List Nat} {q : Nat} (h : RB wB w R p N c B q) :
    Calls Tryz.prog 110 #[.pointer (some ⟨R, 0, none⟩)] w fun e w' => OutR wB w w' R p N c B e (rtext B q 0 64) (fun a v w' => ∃ s : Sl, v = .slice s.p s.n s.c ∧ Nw wB w' 5 1 s (byts a) ∧ s.n = a.length) := by
  have HRB := hid h
  have HE : Hid (rtext B q 0 64 = rtext B q 0 64) := rfl
  replace HE : Hid (rtext B q 0 64 = rb (rbound B q 0 64) (fun n q1 => rbytes B n q1)) := rfl
  clear h
  go_enter Tryz.func110, Tryz.ntmps110
  go_wp2_with fail
  refine (bounded_ok HRB.out 0 64 (by omega) (by omega)).mono ?_
  rintro e2 w2 ⟨ha2, hm2⟩
  have HA2 : Hid (Apart [R] w w2) := ha2
  have HS2 := hid ha2
  clear ha2
  cases hr2 : rbound B q 0 64 with
  | error x =>
    rw [hr2] at hm2
    have he : e2 = wrongAt x := hm2
    subst he
    unfold wrongAt
    have HE1 := HE.out
    rw [hr2, rb_err] at HE1
    try dsimp only
    refine ⟨rfl, HA2.out, ?_⟩
    rw [HE1]
    rfl
  | ok t =>
    obtain ⟨n, q2⟩ := t
    rw [hr2] at hm2
    obtain ⟨⟨v2, hev2, hv2⟩, hrb2⟩ := hm2
    subst hev2
    have HR2 := hid hrb2
    have HE1 := HE.out
    rw [hr2, rb_ok] at HE1
    replace HE := hid HE1
    have HP2 := hid hr2
    clear HE1 hrb2 hr2
    subst hv2
    have hn := (rbound_le HP2.out).2
    have hlen := HR2.out.len
    have hle2 := HR2.out.le
    try dsimp only
    go_wp2_with fail
    refine (take_ok HR2.out n (by omega)).mono ?_
    rintro e3 w3 hp
    have HA3 : Hid (Apart [R] w w3) := HA2.out.trans hp.ap
    by_cases hlt : n ≤ N - q2
    · obtain ⟨he, hr3⟩ := hp.ok hlt
      subst he
      have HR3 := hid hr3
      have HF : Hid (rtext B q 0 64 = .ok ((B.drop q2).take n, q2 + n)) := by unfold Hid; rw [HE.out]; unfold rbytes; rw [if_pos (by omega)]
      obtain ⟨hrd, hrl⟩ := take_rd HR3.out n hlt hle2
      have HRd := hid hrd
      have HRl := hid hrl
      obtain ⟨pp, Hpp⟩ : ∃ pp, Hid (pp = if c = q2 then p else Option.map (fun x => x.add q2) p) := ⟨_, rfl⟩
      obtain ⟨cd, Hcd⟩ : ∃ cd, Hid (cd = c - q2) := ⟨_, rfl⟩
      rw [← Hpp.out, ← Hcd.out]
      have HOK : Hid (Sl.ok ⟨pp, n, cd⟩) := by
        intro e0
        have hcap := HR2.out.cap
        have e1 : pp = none := e0
        rw [Hpp.out] at e1
        by_cases hc : c = q2
        · exact ⟨by show n = 0; omega, by show cd = 0; rw [Hcd.out]; omega⟩
        · rw [if_neg hc] at e1
          cases hp0 : p with
          | none =>
            exfalso
            have := HR2.out.ok hp0
            omega
          | some a => rw [hp0] at e1; cases e1
      rw [← Hpp.out] at HRd
      clear hp hr3 hrd hrl
      try dsimp only
      obtain ⟨s', w4, hrun, hnw, hsn⟩ := appB w3 ⟨pp, n, cd⟩ ((B.drop q2).take n) 30 HRd.out HRl.out (by show n ≤ 2000000; omega) HOK.out
      have HRUN : Hid ((Builtin.append_ #[30, 30] 30 #[.slice none 0 0, .slice pp n cd]).run Tryz.prog w3 = .ok (.slice s'.p s'.n s'.c) w4) := hrun
      have HNW : Hid (Nw wB w4 5 1 s' (byts ((B.drop q2).take n))) := hnw.from HR3.out.ap
      have HA4 : Hid (Apart [R] w w4) := HA3.out.trans (hnw.ap.mono (by simp))
      have HR4 := hid (HR3.out.kept hnw.ap)
      have HSN : Hid (s'.n = ((B.drop q2).take n).length) := by unfold Hid; rw [hsn, HRl.out]
      clear hrun hnw hsn
      go_wp2_with (at_builtin; refine wpList_app2 rfl (.const (.slice none 0 0)) (.tmp 6) 30 30 rfl _ _ rfl rfl _ _ HRUN.out ?_)
      go_ret
      refine ⟨HA4.out, ?_⟩
      rw [HF.out]
      exact ⟨⟨_, rfl, s', rfl, HNW.out, HSN.out⟩, HR4.out⟩
    · have he := hp.no hlt
      subst he
      have HF : Hid (rtext B q 0 64 = .error N) := by unfold Hid; rw [HE.out]; unfold rbytes; rw [if_neg (by omega), hlen]
      clear hp
      unfold wrongAt
      try dsimp only
      refine ⟨rfl, HA3.out, ?_⟩
      rw [HF.out]
      rfl
set_option maxHeartbeats 4000000 in
set_option maxRecDepth 100000 in
theorem rdot_rd {wB w : World} {R : Nat} {p : Option Addr} {N c : Nat} {B : List Nat} {q : Nat} (h : RB wB w R p N c B q) :
    Calls Tryz.prog 67 #[.pointer (some ⟨R, 0, none⟩)] w fun e w' => OutR wB w w' R p N c B e (rdot B q) (fun a v _ => v = .agg #[.int .i64 ((a.1 : Nat) : Int), .int .i64 ((a.2 : Nat) : Int)]) := by
  have HRB := hid h
  have HE : Hid (rdot B q = rdot B q) := rfl
  replace HE : Hid (rdot B q = rb (rbound B q 0 7) (fun n q1 => rb (rbound B q1 1 1048576) (fun c q2 => .ok ((n, c), q2)))) := rfl
  obtain ⟨D, HD⟩ : ∃ D, Hid (D = w.heap.size) := ⟨_, rfl⟩
  obtain ⟨w1, hw1⟩ : ∃ w1, w1 = w.alloc (.cells #[.int .i64 0, .int .i64 0] 25) := ⟨_, rfl⟩
  have HA0 : Hid (Apart [] w w1) := by unfold Hid; rw [hw1]; exact (Apart.refl [] w).alloc _
  have HA1 : Hid (Apart [R] w w1) := HA0.out.mono (by simp)
  have HB1 : Hid (w1.heap[D]? = some (.cells #[.int .i64 0, .int .i64 0] 25 (0, 0))) := by unfold Hid; rw [HD.out, hw1]; exact heap_alloc_new w _
  have HDR : Hid (D ≠ R) := by unfold Hid; have := lt_of_heap HRB.out.blk; rw [HD.out]; omega
  have HRB1 := hid (HRB.out.kept HA0.out)
  clear h
  go_enter Tryz.func67, Tryz.ntmps67
  go_wp2_with fail
  rw [← hw1, ← HD.out]
  clear hw1
  refine (rnode_ok HRB1.out).mono ?_
  rintro e2 w2 ⟨ha2, hm2⟩
  have HA2 : Hid (Apart [R] w1 w2) := ha2
  have HS2 := hid ha2
  clear ha2
  cases hr2 : rbound B q 0 7 with
  | error x =>
    rw [hr2] at hm2
    have he : e2 = wrongAt x := hm2
    subst he
    unfold wrongAt
    have HE1 := HE.out
    rw [hr2, rb_err] at HE1
    try dsimp only
    refine ⟨rfl, HA1.out.trans HA2.out, ?_⟩
    rw [HE1]
    rfl
  | ok t =>
    obtain ⟨n, q2⟩ := t
    rw [hr2] at hm2
    obtain ⟨⟨v2, hev2, hv2⟩, hrb2⟩ := hm2
    subst hev2
    have HR2 := hid hrb2
    have HE1 := HE.out
    rw [hr2, rb_ok] at HE1
    replace HE := hid HE1
    have HP2 := hid hr2
    clear HE1 hrb2 hr2
    subst hv2
    try dsimp only
    go_wp2_with fail
    refine (bounded_ok HR2.out 1 1048576 (by omega) (by omega)).mono ?_
    rintro e3 w3 ⟨ha3, hm3⟩
    have HA3 : Hid (Apart [R] w1 w3) := HA2.out.trans ha3
    have HS3 := hid ha3
    clear ha3
    cases hr3 : rbound B q2 1 1048576 with
    | error x =>
      rw [hr3] at hm3
      have he : e3 = wrongAt x := hm3
      subst he
      unfold wrongAt
      have HE1 := HE.out
      rw [hr3, rb_err] at HE1
      try dsimp only
      refine ⟨rfl, HA1.out.trans HA3.out, ?_⟩
      rw [HE1]
      rfl
    | ok t =>
      obtain ⟨cc, q3⟩ := t
      rw [hr3] at hm3
      obtain ⟨⟨v3, hev3, hv3⟩, hrb3⟩ := hm3
      subst hev3
      have HR3 := hid hrb3
      have HE1 := HE.out
      rw [hr3, rb_ok] at HE1
      replace HE := hid HE1
      have HP3 := hid hr3
      clear HE1 hrb3 hr3
      subst hv3
      try dsimp only
      have HB3 : Hid (w3.heap[D]? = some (.cells #[.int .i64 0, .int .i64 0] 25 (0, 0))) := (HA3.out.block _ (lt_of_heap HB1.out) (by have := HDR.out; simp; exact this)).trans HB1.out
      have x0 : w3.cell? ⟨D, 0, none⟩ = some (.int .i64 0) := by rw [cell_of_row _ _ _ _ _ _ HB3.out]; rfl
      have x1 : w3.cell? ⟨D, 1, none⟩ = some (.int .i64 0) := by rw [cell_of_row _ _ _ _ _ _ HB3.out]; rfl
      have f0 := frozen_of_row _ _ 0 _ _ HB3.out
      have f1 := frozen_of_row _ _ 1 _ _ HB3.out
      have HB4 : Hid (((w3.setCell ⟨D, 0, none⟩ (.int .i64 (n : Nat))).setCell ⟨D, 1, none⟩ (.int .i64 (cc : Nat))).heap[D]? = some (.cells #[.int .i64 (n : Nat), .int .i64 (cc : Nat)] 25 (0, 0))) := by
        unfold Hid
        have h1 := heap_setCell_same w3 D 0 _ 25 (.int .i64 (n : Nat)) HB3.out
        have h2 := heap_setCell_same _ D 1 _ 25 (.int .i64 (cc : Nat)) h1
        simpa using h2
      have HAD : Hid (Apart [D] w3 ((w3.setCell ⟨D, 0, none⟩ (.int .i64 (n : Nat))).setCell ⟨D, 1, none⟩ (.int .i64 (cc : Nat)))) := ((Apart.refl _ _).setCell (.inl (by simp)) _).setCell (.inl (by simp)) _
      have HA4 : Hid (Apart [R] w ((w3.setCell ⟨D, 0, none⟩ (.int .i64 (n : Nat))).setCell ⟨D, 1, none⟩ (.int .i64 (cc : Nat)))) := (HA1.out.trans HA3.out).trans' HAD.out (by intro y hy; simp at hy; rw [hy, HD.out]; exact .inr (Nat.le_refl _))
      have HR4 := hid (HR3.out.other HAD.out HB3.out (by decide) (by rw [HD.out]; exact HRB.out.ap.size))
      go_wp2_with fail
      refine bodyPost_ret (results_cell_row rfl _ _ D 25 _ _ _ rfl HB4.out Tryz.underlying25 rfl size25) rfl ?_
      refine ⟨HA4.out, ?_⟩
      rw [HE.out]
      exact ⟨⟨_, rfl, rfl⟩, HR4.out⟩
end Go.Proofs.YtddffdcjhleejaaGreat.ds
