import Derived.Test.YtddffdcjhleejaaV23
import Derived.Test.YtddffdcjhleejaaV33
namespace Go.Proofs.Ytddffdcjhleejaa.ds
open Go.ChangeShapes Go.WideShapes Go.ChangeAt Go.RowKit Go.Sort
set_option linter.unusedVariables false
set_option linter.unusedSimpArgs false
set_option maxHeartbeats 4000000 in
set_option maxRecDepth 100000 in
theorem wnumber_ok {wB w : World} {s : Sl} {us : List Nat} (h : Bf wB w s us) (n : Nat) (hn : n < 18446744073709551616) (hl : us.length + (enc n).length ≤ 1099511627776) :
    Calls Try.prog 99 #[.slice s.p s.n s.c, .int .u64 (n : Nat)] w fun e w' => AP wB w s (us ++ enc n) e w' := by
  have HB := hid h
  have HL := hid hl
  clear h hl
  go_enter Try.func99, Try.ntmps99
  go_wp2_with fail
  go_loopw [0, 1] (fun a b wt => ∃ (m : Nat) (s1 : Sl) (us1 : List Nat), a = .slice s1.p s1.n s1.c ∧ b = .int .u64 (m : Nat) ∧ m < 18446744073709551616 ∧ Bf wB wt s1 us1 ∧ Gw w wt s s1 ∧ us1 ++ enc m = us ++ enc n) (fun _ b _ => (intOf b).toNat)
  case atStart => exact ⟨n, s, us, rfl, rfl, hn, HB.out, Gw.refl _ _, rfl⟩
  case round =>
    obtain ⟨m, s1, us1, rfl, rfl, hm, hb, hg, heq⟩ := hrel
    have HB1 := hid hb
    have HG1 := hid hg
    have HEQ := hid heq
    have HLL : Hid (us1.length + (enc m).length ≤ 1099511627776) := by unfold Hid; have := congrArg List.length heq; simp only [List.length_append] at this; have := HL.out; omega
    clear hb hg heq
    by_cases h128 : m < 128
    · have h1 : ¬ ((m : Nat) : Int) ≥ 128 := by omega
      have hw5 : IntKind.u8.wrap (m : Int) = (m : Int) := by rw [IntKind.wrap_u8]; omega
      obtain ⟨s2, w2, hrun, hb2, hg2⟩ := app_byte HB1.out m (by have := HLL.out; have := enc_pos m; omega)
      have HRUN := hid hrun
      have HB2 : Hid (Bf wB w2 s2 (us ++ enc n)) := by unfold Hid; rw [← HEQ.out, enc_small h128]; exact hb2
      have HG2 : Hid (Gw w w2 s s2) := HG1.out.trans hg2
      clear hrun hb2 hg2
      go_wp2_with (at_builtin; refine wpList_app2 rfl (.tmp 16) (.tmp 19) 22 22 rfl _ _ rfl rfl _ _ HRUN.out ?_)
      go_ret
      exact ⟨s2, rfl, HB2.out, HG2.out⟩
    · have h1 : ((m : Nat) : Int) ≥ 128 := by omega
      have hw5 : IntKind.u8.wrap ((m : Int) % 128 + 128) = ((m % 128 + 128 : Nat) : Int) := by rw [IntKind.wrap_u8]; omega
      obtain ⟨s2, w2, hrun, hb2, hg2⟩ := app_byte HB1.out (m % 128 + 128) (by have := HLL.out; have := enc_pos m; omega)
      have HRUN := hid hrun
      have HB2 : Hid (Bf wB w2 s2 (us1 ++ [m % 128 + 128])) := hb2
      have HG2 : Hid (Gw w w2 s s2) := HG1.out.trans hg2
      have HEQ2 : Hid ((us1 ++ [m % 128 + 128]) ++ enc (m / 128) = us ++ enc n) := by unfold Hid; rw [← HEQ.out, enc_big h128]; simp
      clear hrun hb2 hg2
      go_wp2_with (at_builtin; refine wpList_app2 rfl (.tmp 7) (.tmp 12) 22 22 rfl _ _ rfl rfl _ _ HRUN.out ?_)
      go_roundw
      case rel => exact ⟨m / 128, s2, us1 ++ [m % 128 + 128], rfl, by go_num, by omega, HB2.out, HG2.out, HEQ2.out⟩
      case measure => simp [intOf]; omega

set_option maxHeartbeats 4000000 in
set_option maxRecDepth 100000 in
theorem wnum_ok {wB w : World} {s : Sl} {us : List Nat} (h : Bf wB w s us) (n : Nat) (hn : n < 9223372036854775808) (hl : us.length + (enc n).length ≤ 1099511627776) :
    Calls Try.prog 72 #[.slice s.p s.n s.c, .int .i64 (n : Nat)] w fun e w' => AP wB w s (us ++ enc n) e w' := by
  have HC := hid (wnumber_ok h n (by omega) hl)
  have hw : IntKind.u64.wrap (n : Int) = (n : Int) := by rw [IntKind.wrap_u64]; omega
  clear h hl
  go_enter Try.func72, Try.ntmps72
  go_wp2_with fail
  refine HC.out.mono ?_
  rintro e w2 ⟨s2, rfl, hb2, hg2⟩
  have HB2 := hid hb2
  have HG2 := hid hg2
  clear hb2 hg2 HC
  try dsimp only
  go_wp2_with fail
  go_ret
  exact ⟨s2, rfl, HB2.out, HG2.out⟩
set_option maxHeartbeats 8000000 in
set_option maxRecDepth 100000 in
theorem wset_ok {wB w : World} {s : Sl} {us : List Nat} (h : Bf wB w s us) {p : Option Addr} {c : Nat} (xs : List S) (hx : L wB p xs.length xs) (hlen : xs.length ≤ 1000) (hpos : ∀ x ∈ xs, (0 ≤ x.n ∧ x.n < 9223372036854775808) ∧ (0 ≤ x.b ∧ x.b < 9223372036854775808)) (hl : us.length + (encSet xs).length ≤ 1099511627776) :
    Calls Try.prog 60 #[.slice s.p s.n s.c, .slice p xs.length c] w fun e w' => AP wB w s (us ++ encSet xs) e w' := by
  have HB := hid h
  have HX := hid hx
  have HP := hid hpos
  obtain ⟨K, HK⟩ : ∃ K, Hid (K = xs.length) := ⟨_, rfl⟩
  have HL : Hid (us.length + ((enc K).length + (fl xs).length) ≤ 1099511627776) := by unfold Hid; rw [HK.out]; unfold encSet at hl; rw [List.length_append] at hl; exact hl
  have HC : Hid (Calls Try.prog 72 #[.slice s.p s.n s.c, .int .i64 (K : Nat)] w fun e w' => AP wB w s (us ++ enc K) e w') := wnum_ok h K (by have := HK.out; omega) (by have := HL.out; omega)
  rw [← HK.out] at hlen ⊢
  clear h hl hx hpos
  go_enter Try.func60, Try.ntmps60
  go_wp2_with fail
  refine HC.out.mono ?_
  rintro e w2 ⟨s2, rfl, hb2, hg2⟩
  have HB2 := hid hb2
  have HG2 := hid hg2
  clear hb2 hg2 HC
  try dsimp only
  go_wp2_with fail
  go_loopw [0, 5] (fun a b wt => ∃ (i : Nat) (s1 : Sl), a = .slice s1.p s1.n s1.c ∧ b = .int .i64 (i : Nat) ∧ i ≤ K ∧ Bf wB wt s1 ((us ++ enc K) ++ fl (xs.take i)) ∧ Gw w wt s s1) (fun _ b _ => K - (intOf b).toNat)
  case atStart => exact ⟨0, s2, rfl, rfl, by omega, by simpa [fl] using HB2.out, HG2.out⟩
  case round =>
    obtain ⟨i, s1, rfl, rfl, hi, hb, hg⟩ := hrel
    have HB1 := hid hb
    have HG1 := hid hg
    clear hb hg
    by_cases hlt : i < K
    · have h1 : ((i : Nat) : Int) < (K : Int) := by omega
      have hil : i < xs.length := by have := HK.out; omega
      obtain ⟨x, Hx⟩ : ∃ x, Hid (x = g xs i) := ⟨_, rfl⟩
      obtain ⟨⟨pn, pn2⟩, pb, pb2⟩ := HP.out x (by rw [Hx.out]; exact g_mem hil)
      have pt : x.t < 2 ^ 64 := HX.out.fit x (by rw [Hx.out]; exact g_mem hil)
      obtain ⟨xn, hxn⟩ := Int.eq_ofNat_of_zero_le pn
      obtain ⟨xb, hxb⟩ := Int.eq_ofNat_of_zero_le pb
      have HES : Hid (encS x = (enc xn ++ enc xb) ++ enc x.t) := by unfold Hid encS; rw [hxn, hxb]; simp
      obtain ⟨xt, Hxt⟩ : ∃ xt, Hid (xt = x.t) := ⟨_, rfl⟩
      have hl1 : xn < 9223372036854775808 := by omega
      have hl2 : xb < 9223372036854775808 := by omega
      have hl3 : xt < 18446744073709551616 := by rw [Hxt.out]; exact pt
      have HLL : Hid (((us ++ enc K) ++ fl (xs.take i)).length + ((enc xn).length + (enc xb).length + (enc xt).length) ≤ 1099511627776) := by
        unfold Hid
        have a := fl_le xs (i + 1)
        rw [fl_take hil, ← Hx.out, HES.out, ← Hxt.out] at a
        simp only [List.length_append] at a ⊢
        have := HL.out
        omega
      obtain ⟨P, o, hP, hPl, hc0⟩ := HX.out.sp (by omega)
      subst hP
      clear hc0 hPl
      have HCL : Hid (∀ W, Apart [] wB W → W.cell? ⟨P, o + i * 3, none⟩ = some (.int .i64 (xn : Int)) ∧ W.cell? ⟨P, o + i * 3 + 1, none⟩ = some (.int .i64 (xb : Int)) ∧ W.cell? ⟨P, o + i * 3 + 2, none⟩ = some (.int .u64 (xt : Int))) := fun W a => by
        obtain ⟨P', o', hP', hPl, hc⟩ := (HX.out.kept0 a).sp (by omega)
        simp only [Option.some.injEq, Addr.mk.injEq] at hP'
        obtain ⟨rfl, rfl, -⟩ := hP'
        obtain ⟨c0, c1, c2⟩ := hc i hil
        rw [← Hx.out] at c0 c1 c2
        rw [hxn] at c0
        rw [hxb] at c1
        rw [← Hxt.out] at c2
        exact ⟨c0, c1, c2⟩
      clear hxn hxb pn pn2 pb pb2 pt
      obtain ⟨c0, c1, c2⟩ := HCL.out _ HB1.out.nw.ap
      have HC1 := hid (wnum_ok HB1.out xn hl1 (by have := HLL.out; omega))
      go_wp2_with fail
      refine HC1.out.mono ?_
      rintro e w3 ⟨s3, rfl, hb3, hg3⟩
      have HB3 := hid hb3
      have HG3 : Hid (Gw w w3 s s3) := HG1.out.trans hg3
      clear hb3 hg3 c0 c1 c2 HC1
      obtain ⟨c0, c1, c2⟩ := HCL.out _ HB3.out.nw.ap
      have HC1 := hid (wnum_ok HB3.out xb hl2 (by have := HLL.out; rw [List.length_append]; omega))
      try dsimp only
      go_wp2_with fail
      refine HC1.out.mono ?_
      rintro e w4 ⟨s4, rfl, hb4, hg4⟩
      have HB4 := hid hb4
      have HG4 : Hid (Gw w w4 s s4) := HG3.out.trans hg4
      clear hb4 hg4 c0 c1 c2 HC1
      obtain ⟨c0, c1, c2⟩ := HCL.out _ HB4.out.nw.ap
      have HC1 := hid (wnumber_ok HB4.out xt hl3 (by have := HLL.out; simp only [List.length_append] at this ⊢; omega))
      try dsimp only
      go_wp2_with fail
      refine HC1.out.mono ?_
      rintro e w7 ⟨s7, rfl, hb7, hg7⟩
      have HB7 : Hid (Bf wB w7 s7 ((us ++ enc K) ++ fl (xs.take (i + 1)))) := by
        unfold Hid
        rw [fl_take hil, ← Hx.out, HES.out, ← Hxt.out]
        simpa using hb7
      have HG7 : Hid (Gw w w7 s s7) := HG4.out.trans hg7
      clear hb7 hg7 c0 c1 c2 HC1
      try dsimp only
      go_wp2_with fail
      go_roundw
      case rel => exact ⟨i + 1, s7, rfl, by go_num, by omega, HB7.out, HG7.out⟩
      case measure => simp [intOf]; omega
    · have h1 : ¬ ((i : Nat) : Int) < (K : Int) := by omega
      have HF : Hid (Bf wB wr s1 (us ++ encSet xs)) := by
        unfold Hid encSet
        have := HB1.out
        rw [List.take_of_length_le (by have := HK.out; omega), HK.out, List.append_assoc] at this
        exact this
      go_wp2_with fail
      go_ret
      exact ⟨s1, rfl, HF.out, HG1.out⟩
set_option maxHeartbeats 4000000 in
set_option maxRecDepth 100000 in
theorem rputSet_ok (w : World) (p : Option Addr) (n c : Nat) (xs : List S) (hx : L w p n xs) (v : Bool) (hv : v = true ↔ OkL 64 xs) : Calls Try.prog 28 #[.slice p n c] w fun r w' => PutP w v 30 (encSet xs) r w' := by
  have HC1 : Hid (Calls Try.prog 50 #[.slice p n c, .int .i64 64] w fun r w' => r = .returned (.bool v) ∧ Apart [] w w') := by
    unfold Hid
    cases v with
    | true => exact right_yes hx (by omega) (hv.1 rfl)
    | false => exact right_no hx (by omega) (fun h => by have := hv.2 h; cases this)
  have HC2 : Hid (v = true → ∀ W, Apart [] w W → Calls Try.prog 60 #[.slice none 0 0, .slice p n c] W fun e w' => AP W W ⟨none, 0, 0⟩ (encSet xs) e w') := fun h W a => by
    have ho := hv.1 h
    have hl := hx.len
    have h1 := hx.kept0 a
    rw [← hl] at h1
    rw [← hl]
    have := wset_ok (s := ⟨none, 0, 0⟩) (us := []) (c := c) (Bf.nil (Apart.refl [] W)) xs h1 (by have := ho.le8; omega) (fun y hy => by
      have := ho.ok y hy
      have a1 := this.n0
      have a2 := this.n8
      have a3 := this.b0
      have a4 := this.bM
      exact ⟨⟨a1, by omega⟩, a3, by omega⟩) (by have := encSet_le ho; simp; omega)
    simpa using this
  clear hx hv
  go_enter Try.func28, Try.ntmps28
  go_wp2_with fail
  refine HC1.out.mono ?_
  rintro _ w2 ⟨rfl, ha2⟩
  have HA2 := hid ha2
  clear ha2
  try dsimp only
  cases v with
  | false =>
    go_wp2_with fail
    go_ret2
    exact ⟨HA2.out, fun h => (by cases h), fun _ => rfl⟩
  | true =>
    go_wp2_with fail
    refine (HC2.out (by trivial) w2 HA2.out).mono ?_
    rintro _ w3 ⟨s3, rfl, hb3, hg3⟩
    have HB3 : Hid (Bf w w3 s3 (encSet xs)) := ⟨hb3.nw.from HA2.out, hb3.len⟩
    clear hb3 hg3
    try dsimp only
    go_wp2_with fail
    go_ret2
    exact ⟨HB3.out.nw.ap, fun _ => ⟨s3, rfl, HB3.out⟩, fun h => (by cases h)⟩
end Go.Proofs.Ytddffdcjhleejaa.ds
