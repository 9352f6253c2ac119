import Derived.Test.YtddffdcjhleejaaV23
import Derived.Test.YtddffdcjhleejaaV33
namespace Go.Proofs.Ytddffdcjhleejaa.ds
open Go.ChangeShapes Go.WideShapes Go.ChangeAt Go.RowKit Go.Sort
set_option linter.unusedVariables false
set_option linter.unusedSimpArgs false
set_option maxHeartbeats 4000000 in
set_option maxRecDepth 100000 in
theorem wnumber_ok {wB w : World} {s : Sl} {us : List Nat} (h : Bf wB w s us) (n : Nat) (hn : n < 18446744073709551616) (hl : us.length + (enc n).length ≤ 1099511627776) :
    Calls Try.prog 99 #[.slice s.p s.n s.c, .int .u64 (n : Nat)] w fun e w' => AP wB w s (us ++ enc n) e w' := by
  have HB := hid h
  have HL := hid hl
  clear h hl
  go_enter Try.func99, Try.ntmps99
  go_wp2_with fail
  go_loopw [0, 1] (fun a b wt => ∃ (m : Nat) (s1 : Sl) (us1 : List Nat), a = .slice s1.p s1.n s1.c ∧ b = .int .u64 (m : Nat) ∧ m < 18446744073709551616 ∧ Bf wB wt s1 us1 ∧ Gw w wt s s1 ∧ us1 ++ enc m = us ++ enc n) (fun _ b _ => (intOf b).toNat)
  case atStart => exact ⟨n, s, us, rfl, rfl, hn, HB.out, Gw.refl _ _, rfl⟩
  case round =>
    obtain ⟨m, s1, us1, rfl, rfl, hm, hb, hg, heq⟩ := hrel
    have HB1 := hid hb
    have HG1 := hid hg
    have HEQ := hid heq
    have HLL : Hid (us1.length + (enc m).length ≤ 1099511627776) := by unfold Hid; have := congrArg List.length heq; simp only [List.length_append] at this; have := HL.out; omega
    clear hb hg heq
    by_cases h128 : m < 128
    · have h1 : ¬ ((m : Nat) : Int) ≥ 128 := by omega
      have hw5 : IntKind.u8.wrap (m : Int) = (m : Int) := by rw [IntKind.wrap_u8]; omega
      obtain ⟨s2, w2, hrun, hb2, hg2⟩ := app_byte HB1.out m (by have := HLL.out; have := enc_pos m; omega)
      have HRUN := hid hrun
      have HB2 : Hid (Bf wB w2 s2 (us ++ enc n)) := by unfold Hid; rw [← HEQ.out, enc_small h128]; exact hb2
      have HG2 : Hid (Gw w w2 s s2) := HG1.out.trans hg2
      clear hrun hb2 hg2
      go_wp2_with (at_builtin; refine wpList_app2 rfl (.tmp 16) (.tmp 19) 22 22 rfl _ _ rfl rfl _ _ HRUN.out ?_)
      go_ret
      exact ⟨s2, rfl, HB2.out, HG2.out⟩
    · have h1 : ((m : Nat) : Int) ≥ 128 := by omega
      have hw5 : IntKind.u8.wrap ((m : Int) % 128 + 128) = ((m % 128 + 128 : Nat) : Int) := by rw [IntKind.wrap_u8]; omega
      obtain ⟨s2, w2, hrun, hb2, hg2⟩ := app_byte HB1.out (m % 128 + 128) (by have := HLL.out; have := enc_pos m; omega)
      have HRUN := hid hrun
      have HB2 : Hid (Bf wB w2 s2 (us1 ++ [m % 128 + 128])) := hb2
      have HG2 : Hid (Gw w w2 s s2) := HG1.out.trans hg2
      have HEQ2 : Hid ((us1 ++ [m % 128 + 128]) ++ enc (m / 128) = us ++ enc n) := by unfold Hid; rw [← HEQ.out, enc_big h128]; simp
      clear hrun hb2 hg2
      go_wp2_with (at_builtin; refine wpList_app2 rfl (.tmp 7) (.tmp 12) 22 22 rfl _ _ rfl rfl _ _ HRUN.out ?_)
      go_roundw
      case rel => exact ⟨m / 128, s2, us1 ++ [m % 128 + 128], rfl, by go_num, by omega, HB2.out, HG2.out, HEQ2.out⟩
      case measure => simp [intOf]; omega

set_option maxHeartbeats 4000000 in
set_option maxRecDepth 100000 in
theorem wnum_ok {wB w : World} {s : Sl} {us : List Nat} (h : Bf wB w s us) (n : Nat) (hn : n < 9223372036854775808) (hl : us.length + (enc n).length ≤ 1099511627776) :
    Calls Try.prog 72 #[.slice s.p s.n s.c, .int .i64 (n : Nat)] w fun e w' => AP wB w s (us ++ enc n) e w' := by
  have HC := hid (wnumber_ok h n (by omega) hl)
  have hw : IntKind.u64.wrap (n : Int) = (n : Int) := by rw [IntKind.wrap_u64]; omega
  clear h hl
  go_enter Try.func72, Try.ntmps72
  go_wp2_with fail
  refine HC.out.mono ?_
  rintro e w2 ⟨s2, rfl, hb2, hg2⟩
  have HB2 := hid hb2
  have HG2 := hid hg2
  clear hb2 hg2 HC
  try dsimp only
  go_wp2_with fail
  go_ret
  exact ⟨s2, rfl, HB2.out, HG2.out⟩
set_option maxHeartbeats 8000000 in
set_option maxRecDepth 100000 in
theorem wset_ok {wB w : World} {s : Sl} {us : List Nat} (h : Bf wB w s us) {p : Option Addr} {c : Nat} (xs : List S) (hx : L wB p xs.length xs) (hlen : xs.length ≤ 1000) (hpos : ∀ x ∈ xs, (0 ≤ x.n ∧ x.n < 9223372036854775808) ∧ (0 ≤ x.b ∧ x.b < 9223372036854775808)) (hl : us.length + (encSet xs).length ≤ 1099511627776) :
    Calls Try.prog 60 #[.slice s.p s.n s.c, .slice p xs.length c] w fun e w' => AP wB w s (us ++ encSet xs) e w' := by
  have HB := hid h
  have HX := hid hx
  have HP := hid hpos
  obtain ⟨K, HK⟩ : ∃ K, Hid (K = xs.length) := ⟨_, rfl⟩
  have HL : Hid (us.length + ((enc K).length + (fl xs).length) ≤ 1099511627776) := by unfold Hid; rw [HK.out]; unfold encSet at hl; rw [List.length_append] at hl; exact hl
  have HC : Hid (Calls Try.prog 72 #[.slice s.p s.n s.c, .int .i64 (K : Nat)] w fun e w' => AP wB w s (us ++ enc K) e w') := wnum_ok h K (by have := HK.out; omega) (by have := HL.out; omega)
  rw [← HK.out] at hlen ⊢
  clear h hl hx hpos
  go_enter Try.func60, Try.ntmps60
  go_wp2_with fail
  refine HC.out.mono ?_
  rintro e w2 ⟨s2, rfl, hb2, hg2⟩
  have HB2 := hid hb2
  have HG2 := hid hg2
  clear hb2 hg2 HC
  try dsimp only
  go_wp2_with fail
  go_loopw [0, 5] (fun a b wt => ∃ (i : Nat) (s1 : Sl), a = .slice s1.p s1.n s1.c ∧ b = .int .i64 (i : Nat) ∧ i ≤ K ∧ Bf wB wt s1 ((us ++ enc K) ++ fl (xs.take i)) ∧ Gw w wt s s1) (fun _ b _ => K - (intOf b).toNat)
  case atStart => exact ⟨0, s2, rfl, rfl, by omega, by simpa [fl] using HB2.out, HG2.out⟩
  case round =>
    obtain ⟨i, s1, rfl, rfl, hi, hb, hg⟩ := hrel
    have HB1 := hid hb
    have HG1 := hid hg
    clear hb hg
    by_cases hlt : i < K
    · have h1 : ((i : Nat) : Int) < (K : Int) := by omega
      have hil : i < xs.length := by have := HK.out; omega
      obtain ⟨x, Hx⟩ : ∃ x, Hid (x = g xs i) := ⟨_, rfl⟩
      obtain ⟨⟨pn, pn2⟩, pb, pb2⟩ := HP.out x (by rw [Hx.out]; exact g_mem hil)
      have pt : x.t < 2 ^ 64 := HX.out.fit x (by rw [Hx.out]; exact g_mem hil)
      obtain ⟨xn, hxn⟩ := Int.eq_ofNat_of_zero_le pn
      obtain ⟨xb, hxb⟩ := Int.eq_ofNat_of_zero_le pb
      have HES : Hid (encS x = (enc xn ++ enc xb) ++ enc x.t) := by unfold Hid encS; rw [hxn, hxb]; simp
      obtain ⟨xt, Hxt⟩ : ∃ xt, Hid (xt = x.t) := ⟨_, rfl⟩
      have hl1 : xn < 9223372036854775808 := by omega
      have hl2 : xb < 9223372036854775808 := by omega
      have hl3 : xt < 18446744073709551616 := by rw [Hxt.out]; exact pt
      have HLL : Hid (((us ++ enc K) ++ fl (xs.take i)).length + ((enc xn).length + (enc xb).length + (enc xt).length) ≤ 1099511627776) := by
        unfold Hid
        have a := fl_le xs (i + 1)
        rw [fl_take hil, ← Hx.out, HES.out, ← Hxt.out] at a
        simp only [List.length_append] at a ⊢
        have := HL.out
        omega
      obtain ⟨P, o, hP, hPl, hc0⟩ := HX.out.sp (by omega)
      subst hP
      clear hc0 hPl
      have HCL : Hid (∀ W, Apart [] wB W → W.cell? ⟨P, o + i * 3, none⟩ = some (.int .i64 (xn : Int)) ∧ W.cell? ⟨P, o + i * 3 + 1, none⟩ = some (.int .i64 (xb : Int)) ∧ W.cell? ⟨P, o + i * 3 + 2, none⟩ = some (.int .u64 (xt : Int))) := fun W a => by
        obtain ⟨P', o', hP', hPl, hc⟩ := (HX.out.kept0 a).sp (by omega)
        simp only [Option.some.injEq, Addr.mk.injEq] at hP'
        obtain ⟨rfl, rfl, -⟩ := hP'
        obtain ⟨c0, c1, c2⟩ := hc i hil
        rw [← Hx.out] at c0 c1 c2
        rw [hxn] at c0
        rw [hxb] at c1
        rw [← Hxt.out] at c2
        exact ⟨c0, c1, c2⟩
      clear hxn hxb pn pn2 pb pb2 pt
      obtain ⟨c0, c1, c2⟩ := HCL.out _ HB1.out.nw.ap
      have HC1 := hid (wnum_ok HB1.out xn hl1 (by have := HLL.out; omega))
      go_wp2_with fail
      refine HC1.out.mono ?_
      rintro e w3 ⟨s3, rfl, hb3, hg3⟩
      have HB3 := hid hb3
      have HG3 : Hid (Gw w w3 s s3) := HG1.out.trans hg3
      clear hb3 hg3 c0 c1 c2 HC1
      obtain ⟨c0, c1, c2⟩ := HCL.out _ HB3.out.nw.ap
      have HC1 := hid (wnum_ok HB3.out xb hl2 (by have := HLL.out; rw [List.length_append]; omega))
      try dsimp only
      go_wp2_with fail
      refine HC1.out.mono ?_
      rintro e w4 ⟨s4, rfl, hb4, hg4⟩
      have HB4 := hid hb4
      have HG4 : Hid (Gw w w4 s s4) := HG3.out.trans hg4
      clear hb4 hg4 c0 c1 c2 HC1
      obtain ⟨c0, c1, c2⟩ := HCL.out _ HB4.out.nw.ap
      have HC1 := hid (wnumber_ok HB4.out xt hl3 (by have := HLL.out; simp only [List.length_append] at this ⊢; omega))
      try dsimp only
      go_wp2_with fail
      refine HC1.out.mono ?_
      rintro e w7 ⟨s7, rfl, hb7, hg7⟩
      have HB7 : Hid (Bf wB w7 s7 ((us ++ enc K) ++ fl (xs.take (i + 1)))) := by
        unfold Hid
        rw [fl_take hil, ← Hx.out, HES.out, ← Hxt.out]
        simpa using hb7
      have HG7 : Hid (Gw w w7 s s7) := HG4.out.trans hg7
      clear hb7 hg7 c0 c1 c2 HC1
      try dsimp only
      go_wp2_with fail
      go_roundw
      case rel => exact ⟨i + 1, s7, rfl, by go_num, by omega, HB7.out, HG7.out⟩
      case measure => simp [intOf]; omega
    · have h1 : ¬ ((i : Nat) : Int) < (K : Int) := by omega
      have HF : Hid (Bf wB wr s1 (us ++ encSet xs)) := by
        unfold Hid encSet
        have := HB1.out
        rw [List.take_of_length_le (by have := HK.out; omega), HK.out, List.append_assoc] at this
        exact this
      go_wp2_with fail
      go_ret
      exact ⟨s1, rfl, HF.out, HG1.out⟩
set_option maxHeartbeats 4000000 in
set_option maxRecDepth 100000 in
theorem rputSet_ok (w : World) (p : Option Addr) (n c : Nat) (xs : List S) (hx : L w p n xs) (v : Bool) (hv : v = true ↔ OkL 64 xs) : Calls Try.prog 28 #[.slice p n c] w fun r w' => PutP w v 30 (encSet xs) r w' := by
  have HC1 : Hid (Calls Try.prog 50 #[.slice p n c, .int .i64 64] w fun r w' => r = .returned (.bool v) ∧ Apart [] w w') := by
    unfold Hid
    cases v with
    | true => exact right_yes hx (by omega) (hv.1 rfl)
    | false => exact right_no hx (by omega) (fun h => by have := hv.2 h; cases this)
  have HC2 : Hid (v = true → ∀ W, Apart [] w W → Calls Try.prog 60 #[.slice none 0 0, .slice p n c] W fun e w' => AP W W ⟨none, 0, 0⟩ (encSet xs) e w') := fun h W a => by
    have ho := hv.1 h
    have hl := hx.len
    have h1 := hx.kept0 a
    rw [← hl] at h1
    rw [← hl]
    have := wset_ok (s := ⟨none, 0, 0⟩) (us := []) (c := c) (Bf.nil (Apart.refl [] W)) xs h1 (by have := ho.le8; omega) (fun y hy => by
      have := ho.ok y hy
      have a1 := this.n0
      have a2 := this.n8
      have a3 := this.b0
      have a4 := this.bM
      exact ⟨⟨a1, by omega⟩, a3, by omega⟩) (by have := encSet_le ho; simp; omega)
    simpa using this
  clear hx hv
  go_enter Try.func28, Try.ntmps28
  go_wp2_with fail
  refine HC1.out.mono ?_
  rintro _ w2 ⟨rfl, ha2⟩
  have HA2 := hid ha2
  clear ha2
  try dsimp only
  cases v with
  | false =>
    go_wp2_with fail
    go_ret2
    exact ⟨HA2.out, fun h => (by cases h), fun _ => rfl⟩
  | true =>
    go_wp2_with fail
    refine (HC2.out (by trivial) w2 HA2.out).mono ?_
    rintro _ w3 ⟨s3, rfl, hb3, hg3⟩
    have HB3 : Hid (Bf w w3 s3 (encSet xs)) := ⟨hb3.nw.from HA2.out, hb3.len⟩
    clear hb3 hg3
    try dsimp only
    go_wp2_with fail
    go_ret2
    exact ⟨HB3.out.nw.ap, fun _ => ⟨s3, rfl, HB3.out⟩, fun h => (by cases h)⟩
end Go.Proofs.Ytddffdcjhleejaa.ds
namespace Go.Proofs.Ytddffdcjhleejaa.ds
open Go.ChangeShapes Go.WideShapes Go.ChangeAt Go.RowKit Go.Sort
set_option linter.unusedVariables false
set_option linter.unusedSimpArgs false
/-- the document's reader in memory: how far it is, and where something was wrong -/
structure RX (wB w : World) (R : Nat) (p : Option Addr) (N c : Nat) (B : List Nat) (q : Nat) (x : Int) : Prop where
  blk : w.heap[R]? = some (.cells #[.slice p N c, .int .i64 (q : Nat), .int .i64 x] 107 (0, 0))
  rd : Rd w p (byts B)
  len : B.length = N
  lim : N ≤ 1000000
  le : q ≤ N
  cap : N ≤ c
  rdB : Rd wB p (byts B)
  b8 : ∀ b ∈ B, b < 256
  ok : p = none → N = 0 ∧ c = 0
  ap : Apart [] wB w
  xb : wB.heap.size ≤ R
theorem RX.kept {wB w w' : World} {R : Nat} {p : Option Addr} {N c : Nat} {B : List Nat} {q : Nat} {x : Int} (h : RX wB w R p N c B q x) (a : Apart [] w w') : RX wB w' R p N c B q x :=
  { h with blk := (a.block _ (lt_of_heap h.blk) (by simp)).trans h.blk, rd := h.rd.kept0 a, ap := h.ap.trans a }
theorem RX.cells {wB w : World} {R : Nat} {p : Option Addr} {N c : Nat} {B : List Nat} {q : Nat} {x : Int} (h : RX wB w R p N c B q x) : w.cell? ⟨R, 0, none⟩ = some (.slice p N c) ∧ w.cell? ⟨R, 1, none⟩ = some (.int .i64 (q : Nat)) ∧ w.cell? ⟨R, 2, none⟩ = some (.int .i64 x) ∧ w.frozen? ⟨R, 1, none⟩ = false ∧ w.frozen? ⟨R, 2, none⟩ = false := by
  refine ⟨?_, ?_, ?_, frozen_of_row _ _ 1 _ _ h.blk, frozen_of_row _ _ 2 _ _ h.blk⟩
  · rw [cell_of_row _ _ _ _ _ _ h.blk]; rfl
  · rw [cell_of_row _ _ _ _ _ _ h.blk]; rfl
  · rw [cell_of_row _ _ _ _ _ _ h.blk]; rfl
theorem RX.rdset {wB w : World} {R : Nat} {p : Option Addr} {N c : Nat} {B : List Nat} {q : Nat} {x : Int} (h : RX wB w R p N c B q x) (k : Nat) (v : Value) : Rd (w.setCell ⟨R, k, none⟩ v) p (byts B) := by
  have a : Apart [R] w (w.setCell ⟨R, k, none⟩ v) := (Apart.refl _ _).setCell (.inl (by simp)) _
  intro h0
  obtain ⟨P, o, e, hP, hc⟩ := h.rd h0
  exact ⟨P, o, e, Nat.lt_of_lt_of_le hP a.size, fun j v hj => (a.cell hP (by obtain ⟨P', o', e', hP', _⟩ := h.rdB h0; rw [e] at e'; cases e'; have := h.xb; simp; omega)).trans (hc j v hj)⟩
theorem RX.move {wB w : World} {R : Nat} {p : Option Addr} {N c : Nat} {B : List Nat} {q : Nat} {x : Int} (h : RX wB w R p N c B q x) (q2 : Nat) (hq : q2 ≤ N) : RX wB (w.setCell ⟨R, 1, none⟩ (.int .i64 (q2 : Nat))) R p N c B q2 x := by
  refine { h with blk := ?_, rd := h.rdset _ _, le := hq, ap := h.ap.setCell (.inr h.xb) _ }
  have := heap_setCell_same w R 1 _ 107 (.int .i64 (q2 : Nat)) h.blk
  simpa using this
theorem RX.bad {wB w : World} {R : Nat} {p : Option Addr} {N c : Nat} {B : List Nat} {q : Nat} {x : Int} (h : RX wB w R p N c B q x) (y : Int) : RX wB (w.setCell ⟨R, 2, none⟩ (.int .i64 y)) R p N c B q y := by
  refine { h with blk := ?_, rd := h.rdset _ _, ap := h.ap.setCell (.inr h.xb) _ }
  have := heap_setCell_same w R 2 _ 107 (.int .i64 y) h.blk
  simpa using this
theorem RX.byte {wB w : World} {R : Nat} {p : Option Addr} {N c : Nat} {B : List Nat} {q : Nat} {x : Int} (h : RX wB w R p N c B q x) (i : Nat) (hi : i < N) : ∃ P o, p = some ⟨P, o, none⟩ ∧ P < w.heap.size ∧ w.cell? ⟨P, o + i, none⟩ = some (.int .u8 ((B.getD i 0 : Nat) : Int)) := by
  have hl := h.len
  obtain ⟨P, o, e, hP, hc⟩ := h.rd (by simp [byts]; omega)
  refine ⟨P, o, e, hP, hc i _ ?_⟩
  rw [byts, List.getElem?_map, List.getElem?_eq_getElem (by omega), List.getD_eq_getElem?_getD, List.getElem?_eq_getElem (by omega)]
  rfl
set_option maxRecDepth 100000 in
/-- wrong: the first one stands -/
theorem rwrong_no {wB w : World} {R : Nat} {p : Option Addr} {N c : Nat} {B : List Nat} {q : Nat} {x : Int} (h : RX wB w R p N c B q x) (hx : 0 ≤ x) (y : Int) : Calls Try.prog 67 #[.pointer (some ⟨R, 0, none⟩), .int .i64 y] w fun e w' => e = .returned (.tuple #[]) ∧ w' = w := by
  obtain ⟨z0, z1, z2, z3, z4⟩ := h.cells
  have h1 : ¬ x < 0 := by omega
  clear h
  go_enter Try.func67, Try.ntmps67
  go_wp2_with fail
  first | go_end0 | skip
  exact ⟨rfl, rfl⟩
set_option maxRecDepth 100000 in
theorem rwrong_yes {wB w : World} {R : Nat} {p : Option Addr} {N c : Nat} {B : List Nat} {q : Nat} (h : RX wB w R p N c B q (-1)) (y : Int) : Calls Try.prog 67 #[.pointer (some ⟨R, 0, none⟩), .int .i64 y] w fun e w' => e = .returned (.tuple #[]) ∧ Apart [R] w w' ∧ RX wB w' R p N c B q y := by
  obtain ⟨z0, z1, z2, z3, z4⟩ := h.cells
  have HF := hid (h.bad y)
  have HA : Hid (Apart [R] w (w.setCell ⟨R, 2, none⟩ (.int .i64 y))) := (Apart.refl _ _).setCell (.inl (by simp)) _
  clear h
  go_enter Try.func67, Try.ntmps67
  go_wp2_with fail
  first | go_end0 | skip
  exact ⟨rfl, HA.out, HF.out⟩
/-- what a call of the document's reader leaves -/
def OutX {α : Type} (wB w w' : World) (R : Nat) (p : Option Addr) (N c : Nat) (B : List Nat) (e : Ending) (r : Except Nat (α × Nat)) (V : α → Value → World → Prop) (U : Value → World → Prop) : Prop :=
  Apart [R] w w' ∧ match r with
  | .ok (a, q) => (∃ v, e = .returned v ∧ V a v w') ∧ RX wB w' R p N c B q (-1)
  | .error x => (∃ v, e = .returned v ∧ U v w') ∧ ∃ q, RX wB w' R p N c B q (x : Nat)
def UN (v : Value) (w : World) : Prop := ∃ n : Nat, n < 18446744073709551616 ∧ v = .int .u64 (n : Nat)
set_option maxRecDepth 100000 in
theorem rnumber_bad {wB w : World} {R : Nat} {p : Option Addr} {N c : Nat} {B : List Nat} {q : Nat} {x : Int} (h : RX wB w R p N c B q x) (hx : 0 ≤ x) (lo hi : Int) : Calls Try.prog 101 #[.pointer (some ⟨R, 0, none⟩), .int .u64 lo, .int .u64 hi] w fun e w' => e = .returned (.int .u64 0) ∧ w' = w := by
  obtain ⟨z0, z1, z2, z3, z4⟩ := h.cells
  have h1 : ¬ x < 0 := by omega
  clear h
  go_enter Try.func101, Try.ntmps101
  go_wp2_with fail
  go_loopw [8, 9] (fun a b wt => a = .int .u64 0 ∧ b = .int .i64 0 ∧ wt = w) (fun _ _ _ => 0)
  case atStart => exact ⟨rfl, rfl, rfl⟩
  case round =>
    obtain ⟨rfl, rfl, hw⟩ := hrel
    rw [hw]
    clear hw
    go_wp2_with fail
    go_ret
    exact ⟨rfl, rfl⟩
theorem add_shl (acc d i : Nat) (ha : acc < 2 ^ (7 * i)) (hs : d % 128 * 2 ^ (7 * i) < 18446744073709551616) (h2 : acc + d % 128 * 2 ^ (7 * i) < 18446744073709551616) : IntKind.u64.wrap ((acc : Int) + IntKind.u64.wrap ((d : Int) % 128 * 2 ^ (7 * i))) = ((acc ||| (d % 128) <<< (7 * i) % 18446744073709551616 : Nat) : Int) := by
  rw [or_add acc (d % 128) (7 * i) ha hs]
  generalize hz : 2 ^ (7 * i) = z at *
  have hz2 : (2 : Int) ^ (7 * i) = (z : Int) := by rw [← hz]; simp
  rw [hz2, show ((d : Int) % 128) = ((d % 128 : Nat) : Int) from by omega, ← Int.natCast_mul]
  generalize d % 128 * z = y at *
  rw [IntKind.wrap_u64, IntKind.wrap_u64]
  omega
set_option maxHeartbeats 8000000 in
set_option maxRecDepth 100000 in
theorem rnumber_ok {wB w : World} {R : Nat} {p : Option Addr} {N c : Nat} {B : List Nat} {q : Nat} (h : RX wB w R p N c B q (-1)) (lo hi : Nat) (hlo : lo < 18446744073709551616) (hhi : hi < 18446744073709551616) :
    Calls Try.prog 101 #[.pointer (some ⟨R, 0, none⟩), .int .u64 (lo : Nat), .int .u64 (hi : Nat)] w fun e w' => OutX wB w w' R p N c B e (rbound B q lo hi) (fun a v _ => v = .int .u64 (a : Nat)) UN := by
  have HRB := hid h
  have HLen : Hid (B.length = N) := h.len
  obtain ⟨z0, z1, z2, z3, z4⟩ := h.cells
  clear h
  go_enter Try.func101, Try.ntmps101
  go_wp2_with fail
  clear z0 z1 z2 z3 z4
  go_loopw [8, 9] (fun a b wt => ∃ (i r acc : Nat), a = .int .u64 (acc : Nat) ∧ b = .int .i64 (i : Nat) ∧ i ≤ 9 ∧ acc < 2 ^ (7 * i) ∧ RX wB wt R p N c B r (-1) ∧ Apart [R] w wt ∧ rnum B 10 0 q 0 = rnum B (10 - i) i r acc) (fun _ b _ => 10 - (intOf b).toNat)
  case atStart => exact ⟨0, q, 0, rfl, rfl, by omega, by simp, HRB.out, Apart.refl _ _, rfl⟩
  case round =>
    obtain ⟨i, r, acc, rfl, rfl, hi9, hacc0, hrb, hap, heq⟩ := hrel
    have HR := hid hrb
    have HA := hid hap
    have HEQ := hid heq
    have HACC := hid hacc0
    have hp7 := pow7_le i hi9
    have hacc : acc < 9223372036854775808 := by omega
    clear hrb hap heq hacc0 hp7
    have hlim := HR.out.lim
    have hcap := HR.out.cap
    have hi10 : ((i : Nat) : Int) < 10 := by omega
    obtain ⟨z0, z1, z2, z3, z4⟩ := HR.out.cells
    go_upto_region 6 with fail
    clear z0 z1 z2 z3 z4
    have HRd := hid (HR.out.kept (Apart.refl [] wr).drew)
    have HAd : Hid (Apart [R] w wr.drew) := HA.out.drew
    refine wp_region_held_drew (S := fun W => W.heap[R]? = some (.cells #[.slice p N c, .int .i64 (r : Nat), .int .i64 (-1)] 107 (0, 0)) ∧ True) (by kernel_rfl) ⟨HRd.out.blk, trivial⟩ (fun hHeld => ?_)
    generalize wr.drew = wd at *
    by_cases hlt : r < N
    · have hge : ¬ ((r : Nat) : Int) ≥ (N : Int) := by omega
      refine wpAnyH_take (i := 0) (oi := ⟨some 26, _, _, _, _, _⟩) (v := (.pointer (some ⟨R, 0, none⟩))) rfl (by kernel_rfl) (by kernel_rfl) (by kernel_rfl) (fun _ _ _ h => h) (Or.inl ⟨by rfl, ?_⟩) (by assumption) ?_
      · intro W hSW; go_simp
      simp only [Act.put, List.setIfInBounds_toArray, List.set_cons_zero, List.set_cons_succ]
      refine wpAnyH_take (i := 1) (oi := ⟨some 27, _, _, _, _, _⟩) (v := (.pointer (some ⟨R, 0, none⟩))) rfl (by kernel_rfl) (by kernel_rfl) (by kernel_rfl) (fun _ _ _ h => h) (Or.inl ⟨by rfl, ?_⟩) (by assumption) ?_
      · intro W hSW; go_simp
      simp only [Act.put, List.setIfInBounds_toArray, List.set_cons_zero, List.set_cons_succ]
      refine wpAnyH_take (i := 2) (oi := ⟨some 28, _, _, _, _, _⟩) (v := (.pointer (some ⟨R, 1, none⟩))) rfl (by kernel_rfl) (by kernel_rfl) (by kernel_rfl) (fun _ _ _ h => h) (Or.inl ⟨by rfl, ?_⟩) (by assumption) ?_
      · intro W hSW; go_simp
      simp only [Act.put, List.setIfInBounds_toArray, List.set_cons_zero, List.set_cons_succ]
      refine wpAnyH_take (i := 3) (oi := ⟨some 29, _, _, _, _, _⟩) (v := (.int .i64 (r : Nat))) rfl (by kernel_rfl) (by kernel_rfl) (by kernel_rfl) (fun _ _ _ h => h) (Or.inl ⟨by rfl, ?_⟩) (by assumption) ?_
      · intro W hSW; obtain ⟨x0, x1, x2⟩ := row3v hSW.1; go_simp
      simp only [Act.put, List.setIfInBounds_toArray, List.set_cons_zero, List.set_cons_succ]
      refine wpAnyH_take (i := 4) (oi := ⟨some 30, _, _, _, _, _⟩) (v := (.pointer (some ⟨R, 0, none⟩))) rfl (by kernel_rfl) (by kernel_rfl) (by kernel_rfl) (fun _ _ _ h => h) (Or.inl ⟨by rfl, ?_⟩) (by assumption) ?_
      · intro W hSW; go_simp
      simp only [Act.put, List.setIfInBounds_toArray, List.set_cons_zero, List.set_cons_succ]
      refine wpAnyH_take (i := 5) (oi := ⟨some 31, _, _, _, _, _⟩) (v := (.pointer (some ⟨R, 0, none⟩))) rfl (by kernel_rfl) (by kernel_rfl) (by kernel_rfl) (fun _ _ _ h => h) (Or.inl ⟨by rfl, ?_⟩) (by assumption) ?_
      · intro W hSW; go_simp
      simp only [Act.put, List.setIfInBounds_toArray, List.set_cons_zero, List.set_cons_succ]
      refine wpAnyH_take (i := 6) (oi := ⟨some 32, _, _, _, _, _⟩) (v := (.pointer (some ⟨R, 0, none⟩))) rfl (by kernel_rfl) (by kernel_rfl) (by kernel_rfl) (fun _ _ _ h => h) (Or.inl ⟨by rfl, ?_⟩) (by assumption) ?_
      · intro W hSW; go_simp
      simp only [Act.put, List.setIfInBounds_toArray, List.set_cons_zero, List.set_cons_succ]
      refine wpAnyH_take (i := 7) (oi := ⟨some 33, _, _, _, _, _⟩) (v := (.slice p N c)) rfl (by kernel_rfl) (by kernel_rfl) (by kernel_rfl) (fun _ _ _ h => h) (Or.inl ⟨by rfl, ?_⟩) (by assumption) ?_
      · intro W hSW; obtain ⟨x0, x1, x2⟩ := row3v hSW.1; go_simp
      simp only [Act.put, List.setIfInBounds_toArray, List.set_cons_zero, List.set_cons_succ]
      refine wpAnyH_take (i := 8) (oi := ⟨some 34, _, _, _, _, _⟩) (v := (.int .i64 (N : Nat))) rfl (by kernel_rfl) (by kernel_rfl) (by kernel_rfl) (fun _ _ _ h => h) (Or.inl ⟨by rfl, ?_⟩) (by assumption) ?_
      · intro W hSW; go_simp
      simp only [Act.put, List.setIfInBounds_toArray, List.set_cons_zero, List.set_cons_succ]
      refine wpAnyH_take (i := 9) (oi := ⟨some 35, _, _, _, _, _⟩) (v := (.bool false)) rfl (by kernel_rfl) (by kernel_rfl) (by kernel_rfl) (fun _ _ _ h => h) (Or.inl ⟨by rfl, ?_⟩) (by assumption) ?_
      · intro W hSW; go_simp
      simp only [Act.put, List.setIfInBounds_toArray, List.set_cons_zero, List.set_cons_succ]
      refine wpAnyH_done (by kernel_rfl) ?_ _
      clear hHeld
      obtain ⟨P, o, hP, hPl, hb⟩ := HRd.out.byte r hlt
      have HB8 : Hid (B.getD r 0 < 256) := by
        unfold Hid
        rw [List.getD_eq_getElem?_getD, List.getElem?_eq_getElem (by rw [HLen.out]; exact hlt)]
        exact HR.out.b8 _ (List.getElem_mem _)
      have hb8 := HB8.out
      have HST : Hid (rnum B (10 - i) i r acc = if i = 9 then .ok (acc ||| (B.getD r 0 % 128) <<< (7 * i) % 18446744073709551616, decide (B.getD r 0 = 1), r + 1) else if B.getD r 0 < 128 then .ok (acc ||| (B.getD r 0 % 128) <<< (7 * i) % 18446744073709551616, decide (B.getD r 0 ≠ 0) || decide (i = 0), r + 1) else rnum B (9 - i) (i + 1) (r + 1) (acc ||| (B.getD r 0 % 128) <<< (7 * i) % 18446744073709551616)) := by
        unfold Hid
        rw [show 10 - i = (9 - i) + 1 from by omega, rnum, if_pos (by rw [HLen.out]; exact hlt)]
      generalize B.getD r 0 = d at *
      subst hP
      have HCELL := hid hb
      clear hb
      go_upto_region 9 with fail
      have HRe := hid (HRd.out.kept (Apart.refl [] wd).drew)
      have HAe : Hid (Apart [R] w wd.drew) := HAd.out.drew
      have HCe : Hid (wd.drew.cell? ⟨P, o + r, none⟩ = some (.int .u8 (d : Nat))) := HCELL.out
      refine wp_region_held_drew (S := fun W => W.heap[R]? = some (.cells #[.slice (some ⟨P, o, none⟩) N c, .int .i64 (r : Nat), .int .i64 (-1)] 107 (0, 0)) ∧ W.cell? ⟨P, o + r, none⟩ = some (.int .u8 (d : Nat))) (by kernel_rfl) ⟨HRe.out.blk, HCe.out⟩ (fun hHeld => ?_)
      generalize wd.drew = we at *
      refine wpAnyH_take (i := 0) (oi := ⟨some 43, _, _, _, _, _⟩) (v := (.pointer (some ⟨R, 0, none⟩))) rfl (by kernel_rfl) (by kernel_rfl) (by kernel_rfl) (fun _ _ _ h => h) (Or.inl ⟨by rfl, ?_⟩) (by assumption) ?_
      · intro W hSW; go_simp
      simp only [Act.put, List.setIfInBounds_toArray, List.set_cons_zero, List.set_cons_succ]
      refine wpAnyH_take (i := 1) (oi := ⟨some 44, _, _, _, _, _⟩) (v := (.pointer (some ⟨R, 0, none⟩))) rfl (by kernel_rfl) (by kernel_rfl) (by kernel_rfl) (fun _ _ _ h => h) (Or.inl ⟨by rfl, ?_⟩) (by assumption) ?_
      · intro W hSW; go_simp
      simp only [Act.put, List.setIfInBounds_toArray, List.set_cons_zero, List.set_cons_succ]
      refine wpAnyH_take (i := 2) (oi := ⟨some 45, _, _, _, _, _⟩) (v := (.pointer (some ⟨R, 0, none⟩))) rfl (by kernel_rfl) (by kernel_rfl) (by kernel_rfl) (fun _ _ _ h => h) (Or.inl ⟨by rfl, ?_⟩) (by assumption) ?_
      · intro W hSW; go_simp
      simp only [Act.put, List.setIfInBounds_toArray, List.set_cons_zero, List.set_cons_succ]
      refine wpAnyH_take (i := 3) (oi := ⟨some 46, _, _, _, _, _⟩) (v := (.slice (some ⟨P, o, none⟩) N c)) rfl (by kernel_rfl) (by kernel_rfl) (by kernel_rfl) (fun _ _ _ h => h) (Or.inl ⟨by rfl, ?_⟩) (by assumption) ?_
      · intro W hSW; obtain ⟨x0, x1, x2⟩ := row3v hSW.1; go_simp
      simp only [Act.put, List.setIfInBounds_toArray, List.set_cons_zero, List.set_cons_succ]
      refine wpAnyH_take (i := 4) (oi := ⟨some 47, _, _, _, _, _⟩) (v := (.pointer (some ⟨R, 0, none⟩))) rfl (by kernel_rfl) (by kernel_rfl) (by kernel_rfl) (fun _ _ _ h => h) (Or.inl ⟨by rfl, ?_⟩) (by assumption) ?_
      · intro W hSW; go_simp
      simp only [Act.put, List.setIfInBounds_toArray, List.set_cons_zero, List.set_cons_succ]
      refine wpAnyH_take (i := 5) (oi := ⟨some 48, _, _, _, _, _⟩) (v := (.pointer (some ⟨R, 0, none⟩))) rfl (by kernel_rfl) (by kernel_rfl) (by kernel_rfl) (fun _ _ _ h => h) (Or.inl ⟨by rfl, ?_⟩) (by assumption) ?_
      · intro W hSW; go_simp
      simp only [Act.put, List.setIfInBounds_toArray, List.set_cons_zero, List.set_cons_succ]
      refine wpAnyH_take (i := 6) (oi := ⟨some 49, _, _, _, _, _⟩) (v := (.pointer (some ⟨R, 1, none⟩))) rfl (by kernel_rfl) (by kernel_rfl) (by kernel_rfl) (fun _ _ _ h => h) (Or.inl ⟨by rfl, ?_⟩) (by assumption) ?_
      · intro W hSW; go_simp
      simp only [Act.put, List.setIfInBounds_toArray, List.set_cons_zero, List.set_cons_succ]
      refine wpAnyH_take (i := 7) (oi := ⟨some 50, _, _, _, _, _⟩) (v := (.int .i64 (r : Nat))) rfl (by kernel_rfl) (by kernel_rfl) (by kernel_rfl) (fun _ _ _ h => h) (Or.inl ⟨by rfl, ?_⟩) (by assumption) ?_
      · intro W hSW; obtain ⟨x0, x1, x2⟩ := row3v hSW.1; go_simp
      simp only [Act.put, List.setIfInBounds_toArray, List.set_cons_zero, List.set_cons_succ]
      refine wpAnyH_take (i := 8) (oi := ⟨some 51, _, _, _, _, _⟩) (v := (.pointer (some ⟨P, o + r, none⟩))) rfl (by kernel_rfl) (by kernel_rfl) (by kernel_rfl) (fun _ _ _ h => h) (Or.inl ⟨by rfl, ?_⟩) (by assumption) ?_
      · intro W hSW; go_simp
      simp only [Act.put, List.setIfInBounds_toArray, List.set_cons_zero, List.set_cons_succ]
      refine wpAnyH_take (i := 9) (oi := ⟨some 52, _, _, _, _, _⟩) (v := (.int .u8 (d : Nat))) rfl (by kernel_rfl) (by kernel_rfl) (by kernel_rfl) (fun _ _ _ h => h) (Or.inl ⟨by rfl, ?_⟩) (by assumption) ?_
      · intro W hSW; have hb := hSW.2; go_simp
      simp only [Act.put, List.setIfInBounds_toArray, List.set_cons_zero, List.set_cons_succ]
      refine wpAnyH_take (i := 10) (oi := ⟨some 10, _, _, _, _, _⟩) (v := (.int .u8 (d : Nat))) rfl (by kernel_rfl) (by kernel_rfl) (by kernel_rfl) (fun _ _ _ h => h) (Or.inl ⟨by rfl, ?_⟩) (by assumption) ?_
      · intro W hSW; go_simp
      simp only [Act.put, List.setIfInBounds_toArray, List.set_cons_zero, List.set_cons_succ]
      refine wpAnyH_done (by kernel_rfl) ?_ _
      clear hHeld
      obtain ⟨z0, z1, z2, z3, z4⟩ := HRe.out.cells
      have HR2 : Hid (RX wB (we.setCell ⟨R, 1, none⟩ (.int .i64 ((r : Int) + 1))) R (some ⟨P, o, none⟩) N c B (r + 1) (-1)) := HRe.out.move (r + 1) (by omega)
      have HA2 : Hid (Apart [R] w (we.setCell ⟨R, 1, none⟩ (.int .i64 ((r : Int) + 1)))) := HAe.out.setCell (.inl (by simp)) _
      have hw0 : IntKind.i64.wrap ((r : Int) + 1) = (r : Int) + 1 := by rw [IntKind.wrap_i64]; omega
      go_upto_region 11 with fail
      clear z0 z1 z2 z3 z4
      generalize we.setCell ⟨R, 1, none⟩ (.int .i64 ((r : Int) + 1)) = w2 at *
      have HZ8 : Hid (i ≤ 8 → 2 ^ (7 * i) ≤ 72057594037927936) := fun h8 => by
        have := Nat.pow_le_pow_right (n := 2) (by omega) (show 7 * i ≤ 56 by omega)
        have e : 2 ^ 56 = 72057594037927936 := by decide
        omega
      have HZ9 : Hid (2 ^ (7 * i) ≤ 9223372036854775808) := pow7_le i hi9
      have HP7 := hid (pow7 i)
      obtain ⟨a2, Ha2⟩ : ∃ a2, Hid (a2 = acc ||| (d % 128) <<< (7 * i) % 18446744073709551616) := ⟨_, rfl⟩
      rw [← Ha2.out] at HST
      by_cases hn : i = 9 ∧ d ≠ 1
      · obtain ⟨h9, h1⟩ := hn
        have h9i : ((i : Nat) : Int) = 9 := by omega
        have h1i : ¬ ((d : Nat) : Int) = 1 := by omega
        have HF : Hid (rbound B q lo hi = .error q) := by
          unfold Hid rbound rnumber
          rw [HEQ.out, HST.out, if_pos h9]
          simp [h1]
        subst h9
        go_wp2_with fail
        refine (rwrong_yes HR2.out (q : Nat)).mono ?_
        rintro _ w3 ⟨rfl, ha3, hr3⟩
        have HA3 : Hid (Apart [R] w w3) := HA2.out.trans ha3
        have HR3 := hid hr3
        clear ha3 hr3
        try dsimp only
        go_wp2_with fail
        go_ret
        refine ⟨HA3.out, ?_⟩
        rw [HF.out]
        exact ⟨⟨_, rfl, 0, by omega, rfl⟩, _, HR3.out⟩
      · have HN9 : Hid (i = 9 → d = 1) := fun h9 => by by_cases h1 : d = 1; exact h1; exact absurd ⟨h9, h1⟩ hn
        have HSM : Hid (d % 128 * 2 ^ (7 * i) < 18446744073709551616 ∧ acc + d % 128 * 2 ^ (7 * i) < 18446744073709551616) := by
          unfold Hid
          by_cases h9 : i = 9
          · have := HN9.out h9
            subst this
            have := HZ9.out
            omega
          · have h8 := HZ8.out (by omega)
            have hm : d % 128 * 2 ^ (7 * i) ≤ 127 * 2 ^ (7 * i) := Nat.mul_le_mul_right _ (by omega)
            omega
        have HADD : Hid (IntKind.u64.wrap ((acc : Int) + IntKind.u64.wrap ((d : Int) % 128 * 2 ^ (7 * i))) = (a2 : Int)) := by unfold Hid; rw [Ha2.out]; exact add_shl acc d i HACC.out HSM.out.1 HSM.out.2
        have HA2v : Hid (a2 = acc + d % 128 * 2 ^ (7 * i)) := by unfold Hid; rw [Ha2.out]; exact or_add acc (d % 128) (7 * i) HACC.out HSM.out.1
        have ha64 : a2 < 18446744073709551616 := by rw [HA2v.out]; exact HSM.out.2
        by_cases h9 : i = 9
        · have h1 := HN9.out h9
          have h9i : ((i : Nat) : Int) = 9 := by omega
          have h1i : ((d : Nat) : Int) = 1 := by omega
          go_upto_region 15 with fail
          have HAc : Hid ((acc : Int) + 9223372036854775808 = (a2 : Int)) := by
            unfold Hid
            rw [HA2v.out, h9, h1]
            have e : 2 ^ (7 * 9) = 9223372036854775808 := by decide
            rw [e]
            omega
          rw [HAc.out]
          have HF : Hid (rbound B q lo hi = if (d ≠ 0 ∨ i = 0) ∧ lo ≤ a2 ∧ a2 ≤ hi then .ok (a2, r + 1) else .error q) := by
            unfold Hid rbound rnumber
            rw [HEQ.out, HST.out, if_pos h9]
            simp [h1]
          by_cases hl : a2 < lo
          · have hli : ((a2 : Nat) : Int) < ((lo : Nat) : Int) := by omega
            go_wp2_with fail
            refine (rwrong_yes HR2.out (q : Nat)).mono ?_
            rintro _ w3 ⟨rfl, ha3, hr3⟩
            have HA3 : Hid (Apart [R] w w3) := HA2.out.trans ha3
            have HR3 := hid hr3
            clear ha3 hr3
            try dsimp only
            go_wp2_with fail
            go_ret
            refine ⟨HA3.out, ?_⟩
            rw [HF.out, if_neg (fun k => by have := k.2.1; omega)]
            exact ⟨⟨_, rfl, a2, ha64, rfl⟩, _, HR3.out⟩
          · have hli : ¬ ((a2 : Nat) : Int) < ((lo : Nat) : Int) := by omega
            by_cases hh : hi < a2
            · have hhi2 : ((a2 : Nat) : Int) > ((hi : Nat) : Int) := by omega
              go_wp2_with fail
              refine (rwrong_yes HR2.out (q : Nat)).mono ?_
              rintro _ w3 ⟨rfl, ha3, hr3⟩
              have HA3 : Hid (Apart [R] w w3) := HA2.out.trans ha3
              have HR3 := hid hr3
              clear ha3 hr3
              try dsimp only
              go_wp2_with fail
              go_ret
              refine ⟨HA3.out, ?_⟩
              rw [HF.out, if_neg (fun k => by have := k.2.2; omega)]
              exact ⟨⟨_, rfl, a2, ha64, rfl⟩, _, HR3.out⟩
            · have hhi2 : ¬ ((a2 : Nat) : Int) > ((hi : Nat) : Int) := by omega
              go_wp2_with fail
              go_ret
              refine ⟨HA2.out, ?_⟩
              rw [HF.out, if_pos ⟨.inl (by omega), by omega, by omega⟩]
              exact ⟨⟨_, rfl, rfl⟩, HR2.out⟩
        · have h9i : ¬ ((i : Nat) : Int) = 9 := by omega
          go_upto_region 14 with fail
          go_cut [8] from 69 to 76 (fun s wx => s = .int .u64 (a2 : Nat) ∧ wx = w2)
          · have hw1 : IntKind.i64.wrap (7 * (i : Int)) = ((7 * i : Nat) : Int) := by rw [IntKind.wrap_i64]; omega
            go_wp2_with fail
            go_meet
            exact ⟨by rw [HADD.out], rfl⟩
          obtain ⟨rfl, hww⟩ := hcut
          rw [hww]
          clear hww
          by_cases h128 : d < 128
          · have h128i : ((d : Nat) : Int) < 128 := by omega
            have HF : Hid (rbound B q lo hi = if (d ≠ 0 ∨ i = 0) ∧ lo ≤ a2 ∧ a2 ≤ hi then .ok (a2, r + 1) else .error q) := by
              unfold Hid rbound rnumber
              rw [HEQ.out, HST.out, if_neg h9, if_pos h128]
              simp
            by_cases h0 : d = 0
            · have h0i : ((d : Nat) : Int) = 0 := by omega
              by_cases hi0 : i = 0
              · have hi0i : ¬ ((i : Nat) : Int) > 0 := by omega
                by_cases hl : a2 < lo
                · have hli : ((a2 : Nat) : Int) < ((lo : Nat) : Int) := by omega
                  go_wp2_with fail
                  refine (rwrong_yes HR2.out (q : Nat)).mono ?_
                  rintro _ w3 ⟨rfl, ha3, hr3⟩
                  have HA3 : Hid (Apart [R] w w3) := HA2.out.trans ha3
                  have HR3 := hid hr3
                  clear ha3 hr3
                  try dsimp only
                  go_wp2_with fail
                  go_ret
                  refine ⟨HA3.out, ?_⟩
                  rw [HF.out, if_neg (fun k => by have := k.2.1; omega)]
                  exact ⟨⟨_, rfl, a2, ha64, rfl⟩, _, HR3.out⟩
                · have hli : ¬ ((a2 : Nat) : Int) < ((lo : Nat) : Int) := by omega
                  by_cases hh : hi < a2
                  · have hhi2 : ((a2 : Nat) : Int) > ((hi : Nat) : Int) := by omega
                    go_wp2_with fail
                    refine (rwrong_yes HR2.out (q : Nat)).mono ?_
                    rintro _ w3 ⟨rfl, ha3, hr3⟩
                    have HA3 : Hid (Apart [R] w w3) := HA2.out.trans ha3
                    have HR3 := hid hr3
                    clear ha3 hr3
                    try dsimp only
                    go_wp2_with fail
                    go_ret
                    refine ⟨HA3.out, ?_⟩
                    rw [HF.out, if_neg (fun k => by have := k.2.2; omega)]
                    exact ⟨⟨_, rfl, a2, ha64, rfl⟩, _, HR3.out⟩
                  · have hhi2 : ¬ ((a2 : Nat) : Int) > ((hi : Nat) : Int) := by omega
                    go_wp2_with fail
                    go_ret
                    refine ⟨HA2.out, ?_⟩
                    rw [HF.out, if_pos ⟨.inr hi0, by omega, by omega⟩]
                    exact ⟨⟨_, rfl, rfl⟩, HR2.out⟩
              · have hi0i : ((i : Nat) : Int) > 0 := by omega
                go_wp2_with fail
                refine (rwrong_yes HR2.out (q : Nat)).mono ?_
                rintro _ w3 ⟨rfl, ha3, hr3⟩
                have HA3 : Hid (Apart [R] w w3) := HA2.out.trans ha3
                have HR3 := hid hr3
                clear ha3 hr3
                try dsimp only
                go_wp2_with fail
                go_ret
                refine ⟨HA3.out, ?_⟩
                rw [HF.out, if_neg (fun k => by have := k.1; omega)]
                exact ⟨⟨_, rfl, a2, ha64, rfl⟩, _, HR3.out⟩
            · have h0i : ¬ ((d : Nat) : Int) = 0 := by omega
              by_cases hl : a2 < lo
              · have hli : ((a2 : Nat) : Int) < ((lo : Nat) : Int) := by omega
                go_wp2_with fail
                refine (rwrong_yes HR2.out (q : Nat)).mono ?_
                rintro _ w3 ⟨rfl, ha3, hr3⟩
                have HA3 : Hid (Apart [R] w w3) := HA2.out.trans ha3
                have HR3 := hid hr3
                clear ha3 hr3
                try dsimp only
                go_wp2_with fail
                go_ret
                refine ⟨HA3.out, ?_⟩
                rw [HF.out, if_neg (fun k => by have := k.2.1; omega)]
                exact ⟨⟨_, rfl, a2, ha64, rfl⟩, _, HR3.out⟩
              · have hli : ¬ ((a2 : Nat) : Int) < ((lo : Nat) : Int) := by omega
                by_cases hh : hi < a2
                · have hhi2 : ((a2 : Nat) : Int) > ((hi : Nat) : Int) := by omega
                  go_wp2_with fail
                  refine (rwrong_yes HR2.out (q : Nat)).mono ?_
                  rintro _ w3 ⟨rfl, ha3, hr3⟩
                  have HA3 : Hid (Apart [R] w w3) := HA2.out.trans ha3
                  have HR3 := hid hr3
                  clear ha3 hr3
                  try dsimp only
                  go_wp2_with fail
                  go_ret
                  refine ⟨HA3.out, ?_⟩
                  rw [HF.out, if_neg (fun k => by have := k.2.2; omega)]
                  exact ⟨⟨_, rfl, a2, ha64, rfl⟩, _, HR3.out⟩
                · have hhi2 : ¬ ((a2 : Nat) : Int) > ((hi : Nat) : Int) := by omega
                  go_wp2_with fail
                  go_ret
                  refine ⟨HA2.out, ?_⟩
                  rw [HF.out, if_pos ⟨.inl h0, by omega, by omega⟩]
                  exact ⟨⟨_, rfl, rfl⟩, HR2.out⟩
          · have h128i : ¬ ((d : Nat) : Int) < 128 := by omega
            have HN : Hid (rnum B 10 0 q 0 = rnum B (10 - (i + 1)) (i + 1) (r + 1) a2) := by
              unfold Hid
              rw [HEQ.out, HST.out, if_neg h9, if_neg h128, show 10 - (i + 1) = 9 - i from by omega]
            have HBD : Hid (a2 < 2 ^ (7 * (i + 1))) := by
              unfold Hid
              rw [HA2v.out, HP7.out]
              have h1 := HACC.out
              have hm : d % 128 * 2 ^ (7 * i) ≤ 127 * 2 ^ (7 * i) := Nat.mul_le_mul_right _ (by omega)
              omega
            go_wp2_with fail
            go_roundw
            case rel => exact ⟨i + 1, r + 1, a2, rfl, by go_num, by omega, HBD.out, HR2.out, HA2.out, HN.out⟩
            case measure => simp [intOf]; omega
    · have hge : ((r : Nat) : Int) ≥ (N : Int) := by omega
      refine wpAnyH_take (i := 0) (oi := ⟨some 26, _, _, _, _, _⟩) (v := (.pointer (some ⟨R, 0, none⟩))) rfl (by kernel_rfl) (by kernel_rfl) (by kernel_rfl) (fun _ _ _ h => h) (Or.inl ⟨by rfl, ?_⟩) (by assumption) ?_
      · intro W hSW; go_simp
      simp only [Act.put, List.setIfInBounds_toArray, List.set_cons_zero, List.set_cons_succ]
      refine wpAnyH_take (i := 1) (oi := ⟨some 27, _, _, _, _, _⟩) (v := (.pointer (some ⟨R, 0, none⟩))) rfl (by kernel_rfl) (by kernel_rfl) (by kernel_rfl) (fun _ _ _ h => h) (Or.inl ⟨by rfl, ?_⟩) (by assumption) ?_
      · intro W hSW; go_simp
      simp only [Act.put, List.setIfInBounds_toArray, List.set_cons_zero, List.set_cons_succ]
      refine wpAnyH_take (i := 2) (oi := ⟨some 28, _, _, _, _, _⟩) (v := (.pointer (some ⟨R, 1, none⟩))) rfl (by kernel_rfl) (by kernel_rfl) (by kernel_rfl) (fun _ _ _ h => h) (Or.inl ⟨by rfl, ?_⟩) (by assumption) ?_
      · intro W hSW; go_simp
      simp only [Act.put, List.setIfInBounds_toArray, List.set_cons_zero, List.set_cons_succ]
      refine wpAnyH_take (i := 3) (oi := ⟨some 29, _, _, _, _, _⟩) (v := (.int .i64 (r : Nat))) rfl (by kernel_rfl) (by kernel_rfl) (by kernel_rfl) (fun _ _ _ h => h) (Or.inl ⟨by rfl, ?_⟩) (by assumption) ?_
      · intro W hSW; obtain ⟨x0, x1, x2⟩ := row3v hSW.1; go_simp
      simp only [Act.put, List.setIfInBounds_toArray, List.set_cons_zero, List.set_cons_succ]
      refine wpAnyH_take (i := 4) (oi := ⟨some 30, _, _, _, _, _⟩) (v := (.pointer (some ⟨R, 0, none⟩))) rfl (by kernel_rfl) (by kernel_rfl) (by kernel_rfl) (fun _ _ _ h => h) (Or.inl ⟨by rfl, ?_⟩) (by assumption) ?_
      · intro W hSW; go_simp
      simp only [Act.put, List.setIfInBounds_toArray, List.set_cons_zero, List.set_cons_succ]
      refine wpAnyH_take (i := 5) (oi := ⟨some 31, _, _, _, _, _⟩) (v := (.pointer (some ⟨R, 0, none⟩))) rfl (by kernel_rfl) (by kernel_rfl) (by kernel_rfl) (fun _ _ _ h => h) (Or.inl ⟨by rfl, ?_⟩) (by assumption) ?_
      · intro W hSW; go_simp
      simp only [Act.put, List.setIfInBounds_toArray, List.set_cons_zero, List.set_cons_succ]
      refine wpAnyH_take (i := 6) (oi := ⟨some 32, _, _, _, _, _⟩) (v := (.pointer (some ⟨R, 0, none⟩))) rfl (by kernel_rfl) (by kernel_rfl) (by kernel_rfl) (fun _ _ _ h => h) (Or.inl ⟨by rfl, ?_⟩) (by assumption) ?_
      · intro W hSW; go_simp
      simp only [Act.put, List.setIfInBounds_toArray, List.set_cons_zero, List.set_cons_succ]
      refine wpAnyH_take (i := 7) (oi := ⟨some 33, _, _, _, _, _⟩) (v := (.slice p N c)) rfl (by kernel_rfl) (by kernel_rfl) (by kernel_rfl) (fun _ _ _ h => h) (Or.inl ⟨by rfl, ?_⟩) (by assumption) ?_
      · intro W hSW; obtain ⟨x0, x1, x2⟩ := row3v hSW.1; go_simp
      simp only [Act.put, List.setIfInBounds_toArray, List.set_cons_zero, List.set_cons_succ]
      refine wpAnyH_take (i := 8) (oi := ⟨some 34, _, _, _, _, _⟩) (v := (.int .i64 (N : Nat))) rfl (by kernel_rfl) (by kernel_rfl) (by kernel_rfl) (fun _ _ _ h => h) (Or.inl ⟨by rfl, ?_⟩) (by assumption) ?_
      · intro W hSW; go_simp
      simp only [Act.put, List.setIfInBounds_toArray, List.set_cons_zero, List.set_cons_succ]
      refine wpAnyH_take (i := 9) (oi := ⟨some 35, _, _, _, _, _⟩) (v := (.bool true)) rfl (by kernel_rfl) (by kernel_rfl) (by kernel_rfl) (fun _ _ _ h => h) (Or.inl ⟨by rfl, ?_⟩) (by assumption) ?_
      · intro W hSW; go_simp
      simp only [Act.put, List.setIfInBounds_toArray, List.set_cons_zero, List.set_cons_succ]
      refine wpAnyH_done (by kernel_rfl) ?_ _
      clear hHeld
      have HF : Hid (rbound B q lo hi = .error N) := by
        unfold Hid rbound rnumber
        rw [HEQ.out, show 10 - i = (9 - i) + 1 from by omega, rnum, if_neg (by rw [HLen.out]; exact hlt)]
        simp [HLen.out]
      obtain ⟨z0, z1, z2, z3, z4⟩ := HRd.out.cells
      go_wp2_with fail
      refine (rwrong_yes HRd.out (N : Nat)).mono ?_
      rintro _ w3 ⟨rfl, ha3, hr3⟩
      have HA3 : Hid (Apart [R] w w3) := HAd.out.trans ha3
      have HR3 := hid hr3
      clear ha3 hr3 z0 z1 z2 z3 z4
      try dsimp only
      go_wp2_with fail
      go_ret
      refine ⟨HA3.out, ?_⟩
      rw [HF.out]
      exact ⟨⟨_, rfl, 0, by omega, rfl⟩, _, HR3.out⟩
end Go.Proofs.Ytddffdcjhleejaa.ds
namespace Go.Proofs.Ytddffdcjhleejaa.ds
open Go.ChangeShapes Go.WideShapes Go.ChangeAt Go.RowKit Go.Sort
set_option linter.unusedVariables false
set_option linter.unusedSimpArgs false
def UI (v : Value) (w : World) : Prop := ∃ z : Int, v = .int .i64 z
set_option maxRecDepth 100000 in
theorem rnumI_bad {wB w : World} {R : Nat} {p : Option Addr} {N c : Nat} {B : List Nat} {q : Nat} {x : Int} (h : RX wB w R p N c B q x) (hx : 0 ≤ x) (lo hi : Int) : Calls Try.prog 100 #[.pointer (some ⟨R, 0, none⟩), .int .i64 lo, .int .i64 hi] w fun e w' => e = .returned (.int .i64 0) ∧ w' = w := by
  have HC := fun a b => hid (rnumber_bad h hx a b)
  clear h hx
  go_enter Try.func100, Try.ntmps100
  go_wp2_with fail
  refine (HC _ _).out.mono ?_
  rintro _ w2 ⟨rfl, hw2⟩
  rw [hw2]
  try dsimp only
  go_wp2_with fail
  go_ret
  exact ⟨rfl, rfl⟩
set_option maxHeartbeats 4000000 in
set_option maxRecDepth 100000 in
theorem rnumI_ok {wB w : World} {R : Nat} {p : Option Addr} {N c : Nat} {B : List Nat} {q : Nat} (h : RX wB w R p N c B q (-1)) (lo hi : Nat) (hlo : lo ≤ 1000000000) (hhi : hi ≤ 1000000000) :
    Calls Try.prog 100 #[.pointer (some ⟨R, 0, none⟩), .int .i64 (lo : Nat), .int .i64 (hi : Nat)] w fun e w' => OutX wB w w' R p N c B e (rbound B q lo hi) (fun a v _ => v = .int .i64 (a : Nat)) UI := by
  have HC := hid (rnumber_ok h lo hi (by omega) (by omega))
  have hw1 : IntKind.u64.wrap (lo : Int) = (lo : Int) := by rw [IntKind.wrap_u64]; omega
  have hw2 : IntKind.u64.wrap (hi : Int) = (hi : Int) := by rw [IntKind.wrap_u64]; omega
  clear h
  go_enter Try.func100, Try.ntmps100
  go_wp2_with fail
  refine HC.out.mono ?_
  rintro e w2 ⟨ha, hm⟩
  have HA := hid ha
  clear ha HC
  cases hr : rbound B q lo hi with
  | error x =>
    rw [hr] at hm
    obtain ⟨⟨v, rfl, n, hn, rfl⟩, q2, hq2⟩ := hm
    have HQ := hid hq2
    have HRR := hid hr
    clear hq2 hr
    try dsimp only
    go_wp2_with fail
    go_ret
    refine ⟨HA.out, ?_⟩
    rw [HRR.out]
    exact ⟨⟨_, rfl, _, rfl⟩, q2, HQ.out⟩
  | ok t =>
    obtain ⟨n, q2⟩ := t
    have hle := rbound_le hr
    rw [hr] at hm
    obtain ⟨⟨v, rfl, hv⟩, hq2⟩ := hm
    have hv' : v = .int .u64 (n : Nat) := hv
    subst hv'
    have HQ := hid hq2
    have hw3 : IntKind.i64.wrap (n : Int) = (n : Int) := by rw [IntKind.wrap_i64]; omega
    have HRR := hid hr
    clear hq2 hr hv
    try dsimp only
    go_wp2_with fail
    go_ret
    refine ⟨HA.out, ?_⟩
    rw [HRR.out]
    exact ⟨⟨_, rfl, rfl⟩, HQ.out⟩
/-- the document's reader, good or bad -/
def plc {α : Type} (r : Except Nat (α × Nat)) : Except Nat Nat := match r with
  | .ok (_, q) => .ok q
  | .error x => .error x
def RS (wB w : World) (R : Nat) (p : Option Addr) (N c : Nat) (B : List Nat) (s : Except Nat Nat) : Prop :=
  ∃ (q : Nat) (x : Int), RX wB w R p N c B q x ∧ (∀ q', s = .ok q' → q = q' ∧ x = -1) ∧ (∀ y, s = .error y → x = (y : Nat))
theorem RS.ok {wB w : World} {R : Nat} {p : Option Addr} {N c : Nat} {B : List Nat} {q : Nat} (h : RX wB w R p N c B q (-1)) : RS wB w R p N c B (.ok q) :=
  ⟨q, -1, h, fun _ e => (by cases e; exact ⟨rfl, rfl⟩), fun _ e => (by cases e)⟩
theorem RS.err {wB w : World} {R : Nat} {p : Option Addr} {N c : Nat} {B : List Nat} {q y : Nat} (h : RX wB w R p N c B q (y : Nat)) : RS wB w R p N c B (.error y) :=
  ⟨q, y, h, fun _ e => (by cases e), fun _ e => (by cases e; rfl)⟩
theorem RS.kept {wB w w' : World} {R : Nat} {p : Option Addr} {N c : Nat} {B : List Nat} {s : Except Nat Nat} (h : RS wB w R p N c B s) (a : Apart [] w w') : RS wB w' R p N c B s := by
  obtain ⟨q, x, h1, h2, h3⟩ := h
  exact ⟨q, x, h1.kept a, h2, h3⟩
/-- then a number is read -/
def nx {α : Type} (B : List Nat) (r : Except Nat (α × Nat)) (lo : α → Nat) (hi : Nat) : Except Nat ((α × Nat) × Nat) := rb r fun a q => rb (rbound B q (lo a) hi) fun n q' => .ok ((a, n), q')
theorem rnumI_any {α : Type} {wB w : World} {R : Nat} {p : Option Addr} {N c : Nat} {B : List Nat} {r : Except Nat (α × Nat)} (h : RS wB w R p N c B (plc r)) (lo : α → Nat) (hi : Nat) (L : Int) (hL : ∀ a q, r = .ok (a, q) → L = lo a ∧ lo a ≤ 1000000000) (hhi : hi ≤ 1000000000) :
    Calls Try.prog 100 #[.pointer (some ⟨R, 0, none⟩), .int .i64 L, .int .i64 (hi : Nat)] w fun e w' => Apart [R] w w' ∧ ∃ z : Int, e = .returned (.int .i64 z) ∧ RS wB w' R p N c B (plc (nx B r lo hi)) ∧ ∀ a n q', nx B r lo hi = .ok ((a, n), q') → z = (n : Nat) := by
  obtain ⟨q, x, h1, h2, h3⟩ := h
  cases r with
  | error y =>
    have hx := h3 y rfl
    subst hx
    refine (rnumI_bad h1 (by omega) L hi).mono ?_
    rintro _ w2 ⟨rfl, rfl⟩
    exact ⟨Apart.refl _ _, 0, rfl, RS.err h1, fun _ _ _ e => by cases e⟩
  | ok t =>
    obtain ⟨a, q0⟩ := t
    obtain ⟨rfl, rfl⟩ := h2 q0 rfl
    obtain ⟨rfl, hl⟩ := hL a q rfl
    refine (rnumI_ok h1 (lo a) hi hl hhi).mono ?_
    rintro e w2 ⟨ha, hm⟩
    refine ⟨ha, ?_⟩
    have hn : nx B (.ok (a, q)) lo hi = rb (rbound B q (lo a) hi) fun n q' => .ok ((a, n), q') := rfl
    rw [hn]
    cases hr : rbound B q (lo a) hi with
    | error y =>
      rw [hr] at hm
      obtain ⟨⟨v, rfl, z, rfl⟩, q2, hq2⟩ := hm
      exact ⟨z, rfl, RS.err hq2, fun _ _ _ e => by cases e⟩
    | ok t =>
      obtain ⟨n, q2⟩ := t
      rw [hr] at hm
      obtain ⟨⟨v, rfl, hv⟩, hq2⟩ := hm
      refine ⟨(n : Nat), by rw [show v = .int .i64 (n : Nat) from hv], RS.ok hq2, fun a' n' q' e => ?_⟩
      rw [rb_ok] at e
      cases e
      rfl
theorem rnumN_any {α : Type} {wB w : World} {R : Nat} {p : Option Addr} {N c : Nat} {B : List Nat} {r : Except Nat (α × Nat)} (h : RS wB w R p N c B (plc r)) :
    Calls Try.prog 101 #[.pointer (some ⟨R, 0, none⟩), .int .u64 0, .int .u64 18446744073709551615] w fun e w' => Apart [R] w w' ∧ ∃ z : Nat, z < 18446744073709551616 ∧ e = .returned (.int .u64 (z : Nat)) ∧ RS wB w' R p N c B (plc (nx B r (fun _ => 0) 18446744073709551615)) ∧ ∀ a n q', nx B r (fun _ => 0) 18446744073709551615 = .ok ((a, n), q') → z = n := by
  obtain ⟨q, x, h1, h2, h3⟩ := h
  cases r with
  | error y =>
    have hx := h3 y rfl
    subst hx
    refine (rnumber_bad h1 (by omega) 0 18446744073709551615).mono ?_
    rintro _ w2 ⟨rfl, rfl⟩
    exact ⟨Apart.refl _ _, 0, by omega, rfl, RS.err h1, fun _ _ _ e => by cases e⟩
  | ok t =>
    obtain ⟨a, q0⟩ := t
    obtain ⟨rfl, rfl⟩ := h2 q0 rfl
    refine (rnumber_ok h1 0 18446744073709551615 (by omega) (by omega)).mono ?_
    rintro e w2 ⟨ha, hm⟩
    refine ⟨ha, ?_⟩
    have hn : nx B (.ok (a, q)) (fun _ => 0) 18446744073709551615 = rb (rbound B q 0 18446744073709551615) fun n q' => .ok ((a, n), q') := rfl
    rw [hn]
    cases hr : rbound B q 0 18446744073709551615 with
    | error y =>
      rw [hr] at hm
      obtain ⟨⟨v, rfl, z, hz, rfl⟩, q2, hq2⟩ := hm
      exact ⟨z, hz, rfl, RS.err hq2, fun _ _ _ e => by cases e⟩
    | ok t =>
      obtain ⟨n, q2⟩ := t
      have hle := rbound_le hr
      rw [hr] at hm
      obtain ⟨⟨v, rfl, hv⟩, hq2⟩ := hm
      refine ⟨n, by omega, by rw [show v = .int .u64 (n : Nat) from hv], RS.ok hq2, fun a' n' q' e => ?_⟩
      rw [rb_ok] at e
      cases e
      rfl
def wr1 (s : Except Nat Nat) (y : Nat) : Except Nat Nat := match s with
  | .ok _ => .error y
  | .error x => .error x
theorem rwrong_any {wB w : World} {R : Nat} {p : Option Addr} {N c : Nat} {B : List Nat} {s : Except Nat Nat} (h : RS wB w R p N c B s) (y : Nat) :
    Calls Try.prog 67 #[.pointer (some ⟨R, 0, none⟩), .int .i64 (y : Nat)] w fun e w' => e = .returned (.tuple #[]) ∧ Apart [R] w w' ∧ RS wB w' R p N c B (wr1 s y) := by
  obtain ⟨q, x, h1, h2, h3⟩ := h
  cases s with
  | error z =>
    have hx := h3 z rfl
    subst hx
    refine (rwrong_no h1 (by omega) _).mono ?_
    rintro _ w2 ⟨rfl, rfl⟩
    exact ⟨rfl, Apart.refl _ _, RS.err h1⟩
  | ok q0 =>
    obtain ⟨rfl, rfl⟩ := h2 q0 rfl
    refine (rwrong_yes h1 _).mono ?_
    rintro _ w2 ⟨rfl, ha, hr⟩
    exact ⟨rfl, ha, RS.err hr⟩
/-- a span as the document reads it -/
theorem span_link (B : List Nat) (r ln mb : Nat) : rspan B r ln mb = rb (nx B (nx B (.ok ((), r)) (fun _ => ln) 7) (fun _ => 0) 1048576) (fun a q2 => rb (rbound B q2 0 18446744073709551615) (fun t q3 => if okS a.1.2 a.2 t mb true = true then .ok (⟨(a.1.2 : Nat), (a.2 : Nat), t⟩, q3) else .error q2)) := by
  unfold rspan nx
  simp only [rb_rb, rb_ok]
  cases rbound B r ln 7 with
  | error x => rfl
  | ok t =>
    obtain ⟨n, q1⟩ := t
    simp only [rb_ok]
    cases rbound B q1 0 1048576 with
    | error x => rfl
    | ok t =>
      obtain ⟨b, q2⟩ := t
      simp only [rb_ok]
      cases hn : rnumber B q2 with
      | error x => unfold rbound; rw [hn]; rfl
      | ok t =>
        obtain ⟨⟨t, ok⟩, q3⟩ := t
        have hlt := rnumber_lt hn
        have hb : rbound B q2 0 18446744073709551615 = if ok = true then .ok (t, q3) else .error q2 := by
          unfold rbound; rw [hn]
          cases ok with
          | true => simp; omega
          | false => simp
        rw [hb, rb_ok]
        cases ok with
        | true => rw [if_pos rfl, rb_ok]
        | false =>
          have h0 : ¬ okS n b t mb false = true := by rw [okS_iff]; simp
          rw [if_neg h0]
          rfl
theorem span_out (B : List Nat) (r ln mb qa zt : Nat) (zn zb : Int) (pl vb : Bool) (hmb : mb = if pl = true then 0 else 18446744073709551615) (hzt : zt < 18446744073709551616)
    (hqa : ∀ q2, plc (nx B (nx B (.ok ((), r)) (fun _ => ln) 7) (fun _ => 0) 1048576) = .ok q2 → qa = q2)
    (hz1 : ∀ a q, nx B (nx B (.ok ((), r)) (fun _ => ln) 7) (fun _ => 0) 1048576 = .ok (a, q) → zn = (a.1.2 : Nat) ∧ zb = (a.2 : Nat))
    (hz3 : ∀ a t q3, nx B (nx B (nx B (.ok ((), r)) (fun _ => ln) 7) (fun _ => 0) 1048576) (fun _ => 0) 18446744073709551615 = .ok ((a, t), q3) → zt = t)
    (hvb : vb = true ↔ ¬ (OkL 64 [(⟨zn, zb, zt⟩ : S)] ∧ (pl = true → zt = 0))) :
    (if vb = true then wr1 (plc (nx B (nx B (nx B (.ok ((), r)) (fun _ => ln) 7) (fun _ => 0) 1048576) (fun _ => 0) 18446744073709551615)) qa else plc (nx B (nx B (nx B (.ok ((), r)) (fun _ => ln) 7) (fun _ => 0) 1048576) (fun _ => 0) 18446744073709551615)) = plc (rspan B r ln mb) ∧ ∀ x q, rspan B r ln mb = .ok (x, q) → x = ⟨zn, zb, zt⟩ := by
  rw [span_link]
  generalize nx B (nx B (.ok ((), r)) (fun _ => ln) 7) (fun _ => 0) 1048576 = r2 at *
  cases r2 with
  | error y => simp [nx, rb_err, plc, wr1]
  | ok t =>
    obtain ⟨a, q2⟩ := t
    obtain ⟨rfl, rfl⟩ := hz1 a q2 rfl
    obtain rfl := hqa q2 rfl
    unfold nx at *
    simp only [rb_ok] at *
    cases hr : rbound B qa 0 18446744073709551615 with
    | error y => simp [rb_err, plc, wr1]
    | ok t =>
      obtain ⟨t, q3⟩ := t
      rw [hr] at hz3
      simp only [rb_ok] at hz3 ⊢
      obtain rfl := hz3 a t q3 rfl
      have hok : okS a.1.2 a.2 zt mb true = true ↔ (OkL 64 [(⟨(a.1.2 : Nat), (a.2 : Nat), zt⟩ : S)] ∧ (pl = true → zt = 0)) := by
        rw [okS_iff, hmb]
        cases pl with
        | true => simp; constructor <;> (rintro ⟨h1, h2⟩; exact ⟨h2, h1⟩)
        | false => simp; intro _; omega
      cases vb with
      | true =>
        have h1 := hvb.1 rfl
        rw [if_pos rfl, if_neg (fun h => h1 (hok.1 h))]
        exact ⟨rfl, fun x q e => by cases e⟩
      | false =>
        have h1 : okS a.1.2 a.2 zt mb true = true := hok.2 (Classical.byContradiction fun h => by have := hvb.2 h; cases this)
        rw [if_neg (by simp), if_pos h1]
        exact ⟨rfl, fun x q e => by cases e; rfl⟩
end Go.Proofs.Ytddffdcjhleejaa.ds
