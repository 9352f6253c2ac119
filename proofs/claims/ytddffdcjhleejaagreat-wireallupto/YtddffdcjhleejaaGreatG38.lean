import Derived.Test.YtddffdcjhleejaaGreatG37
import Derived.Test.YtddffdcjhleejaaGreatG24
import Derived.Test.YtddffdcjhleejaaGreatG30
import Derived.Test.YtddffdcjhleejaaGreatG21
namespace Go.Proofs.YtddffdcjhleejaaGreat.ds
open Go.ChangeShapes Go.WideShapes Go.ChangeAt Go.RowKit Go.Sort
set_option linter.unusedVariables false
set_option linter.unusedSimpArgs false
theorem byteArray_nil {k : ByteArray} (h : ¬ 1 ≤ k.size) : k = ⟨#[]⟩ := by
  apply toList_inj
  have : (bsk k).length = 0 := by rw [bsk_len]; omega
  have h2 : k.toList.length = 0 := by simpa [bsk] using this
  rw [List.eq_nil_of_length_eq_zero h2]
  simp [ByteArray.toList_eq]
/-- a message that came in, and is one -/
theorem VI.mg {w : World} {m : MI} {xs : List S} {es : List E} {rs : List Wr} (h : VI m xs rs) (hm : RMI w m xs es rs) : ∃ (mm : MM) (g : Mg), m.cs = mm.cs ∧ VMg g ∧ RM w mm g es ∧ g.set = xs ∧ g.ws = rs := by
  obtain ⟨hk, ⟨⟨f0, f1⟩, t0, t1⟩, ⟨u1, u2, u3⟩, ⟨k1, k2⟩, ⟨d1, d2⟩, ⟨s1, s2, s3⟩, ⟨n1, n2⟩, l1, l2⟩ := h
  obtain ⟨kind, frm, dst, call, rng, own, key, dn, dc, set, ws⟩ := m
  simp only at hk f0 f1 t0 t1 u1 u2 u3 k1 k2 d1 d2 s1 s2 s3 n1 n2 l1 l2
  have hd0 : 0 ≤ dn ∧ 0 ≤ dc := by
    cases h16 : hasF kind.toNat 16 with
    | true => obtain ⟨⟨a, _⟩, b, _⟩ := d1.1 h16; exact ⟨a, by omega⟩
    | false => obtain ⟨a, b⟩ := d2 h16; omega
  obtain ⟨c0, c1⟩ := u1
  obtain ⟨o0, o1⟩ := u2
  obtain ⟨r0, r1⟩ := u3
  have hrl := hm.ws.rl
  have hxl := hm.set.len
  simp only at hrl hxl
  refine ⟨⟨kind.toNat, frm.toNat, dst.toNat, call.toNat, rng.toNat, own.toNat, key, dn.toNat, dc.toNat, set, ws⟩, ⟨kind.toNat, frm.toNat, dst.toNat, call.toNat, rng.toNat, own.toNat, bsk key, dn.toNat, dc.toNat, xs, rs⟩, ?_, ⟨?_, ?_, ?_, ?_, ?_, ?_, ?_, ?_, ?_, ?_⟩, ⟨rfl, rfl, rfl, rfl, rfl, rfl, (strB_bsk key).symm, bsk_lt key, rfl, rfl, hm.set, hm.ws, hm.so⟩, rfl, rfl⟩
  · unfold MI.cs MM.cs
    simp only
    rw [Int.toNat_of_nonneg (by omega : 0 ≤ kind), Int.toNat_of_nonneg f0, Int.toNat_of_nonneg t0, Int.toNat_of_nonneg c0, Int.toNat_of_nonneg r0, Int.toNat_of_nonneg o0, Int.toNat_of_nonneg hd0.1, Int.toNat_of_nonneg hd0.2]
  · simp only; omega
  · simp only; omega
  · simp only; omega
  · simp only
    split
    · rcases c1 with ⟨_, c1⟩ | c1 <;> omega
    · rename_i hh; rcases c1 with ⟨hb, c1⟩ | c1
      · exact absurd hb hh
      · omega
  · simp only
    split
    · rcases o1 with ⟨_, o1⟩ | o1 <;> omega
    · rename_i hh; rcases o1 with ⟨hb, o1⟩ | o1
      · exact absurd hb hh
      · omega
  · simp only
    split
    · rcases r1 with ⟨_, r1⟩ | r1 <;> omega
    · rename_i hh; rcases r1 with ⟨hb, r1⟩ | r1
      · exact absurd hb hh
      · omega
  · simp only
    rw [bsk_len]
    split
    · rename_i hh; exact ⟨k1.1 hh, k2⟩
    · rename_i hh
      have : ¬ 1 ≤ key.size := fun h => hh (k1.2 h)
      rw [byteArray_nil this]; exact List.eq_nil_of_length_eq_zero (by rw [bsk_len]; rfl)
  · simp only
    split
    · rename_i hh; obtain ⟨⟨a, b⟩, c, d⟩ := d1.1 hh; omega
    · rename_i hh
      obtain ⟨a, b⟩ := d2 (by simpa using hh)
      simp [a, b]
  · simp only
    split
    · exact ⟨s1, fun h => s3 (by omega)⟩
    · rename_i hh
      have := s2 (by simpa using hh)
      exact List.eq_nil_of_length_eq_zero (by omega)
  · simp only
    rw [strB_bsk]
    have hno := hasF_not kind.toNat
    by_cases h128 : hasF kind.toNat 128 = true
    · rw [if_pos h128]
      have hwr : wrK kind.toNat = 2 := by unfold wrK; rw [if_pos h128]
      refine ⟨by unfold moK at l1; rw [hwr] at l1; simpa using l1, ?_⟩
      by_cases h57 : kind = 5 ∨ kind = 7
      · rw [if_pos h57] at l2; exact l2
      · rw [if_neg h57] at l2
        have h8 : hasF kind.toNat 8 = false := by
          have hkk : kind.toNat = 1 ∨ kind.toNat = 2 ∨ kind.toNat = 3 ∨ kind.toNat = 4 ∨ kind.toNat = 6 ∨ kind.toNat = 8 ∨ kind.toNat = 9 ∨ kind.toNat = 10 ∨ kind.toNat = 11 := by omega
          rcases hkk with e | e | e | e | e | e | e | e | e <;> rw [e] at h128 ⊢ <;> revert h128 <;> decide
        have : key = ⟨#[]⟩ := byteArray_nil (fun h => by have := k1.2 h; rw [h8] at this; cases this)
        rw [this]; exact l2
    · rw [if_neg h128]
      by_cases h64 : hasF kind.toNat 64 = true
      · rw [if_pos h64]
        have hwr : wrK kind.toNat = 1 := by unfold wrK; rw [if_neg h128, if_pos h64]
        have hl : rs.length = 1 := by rw [hrl]; exact n1 hwr
        match rs, hl with
        | [r], _ => exact ⟨r, rfl, l2.1.1⟩
      · rw [if_neg h64]
        have hwr : wrK kind.toNat = 0 := by unfold wrK; rw [if_neg h128, if_neg h64]
        exact List.eq_nil_of_length_eq_zero (by rw [hrl]; exact n2 hwr)
end Go.Proofs.YtddffdcjhleejaaGreat.ds
namespace Go.Proofs.YtddffdcjhleejaaGreat.ds
open Go.ChangeShapes Go.WideShapes Go.ChangeAt Go.RowKit Go.Sort
set_option linter.unusedVariables false
set_option linter.unusedSimpArgs false
set_option maxHeartbeats 4000000 in
set_option maxRecDepth 100000 in
theorem wnumber_ok {wB w : World} {s : Sl} {us : List Nat} (h : Bf wB w s us) (n : Nat) (hn : n < 18446744073709551616) (hl : us.length + (enc n).length ≤ 1099511627776) :
    Calls Tryz.prog 85 #[.slice s.p s.n s.c, .int .u64 (n : Nat)] w fun e w' => AP wB w s (us ++ enc n) e w' := by
  have HB := hid h
  have HL := hid hl
  clear h hl
  go_enter Tryz.func85, Tryz.ntmps85
  go_wp2_with fail
  go_loopw [0, 1] (fun a b wt => ∃ (m : Nat) (s1 : Sl) (us1 : List Nat), a = .slice s1.p s1.n s1.c ∧ b = .int .u64 (m : Nat) ∧ m < 18446744073709551616 ∧ Bf wB wt s1 us1 ∧ Gw w wt s s1 ∧ us1 ++ enc m = us ++ enc n) (fun _ b _ => (intOf b).toNat)
  case atStart => exact ⟨n, s, us, rfl, rfl, hn, HB.out, Gw.refl _ _, rfl⟩
  case round =>
    obtain ⟨m, s1, us1, rfl, rfl, hm, hb, hg, heq⟩ := hrel
    have HB1 := hid hb
    have HG1 := hid hg
    have HEQ := hid heq
    have HLL : Hid (us1.length + (enc m).length ≤ 1099511627776) := by unfold Hid; have := congrArg List.length heq; simp only [List.length_append] at this; have := HL.out; omega
    clear hb hg heq
    by_cases h128 : m < 128
    · have h1 : ¬ ((m : Nat) : Int) ≥ 128 := by omega
      have hw5 : IntKind.u8.wrap (m : Int) = (m : Int) := by rw [IntKind.wrap_u8]; omega
      obtain ⟨s2, w2, hrun, hb2, hg2⟩ := app_byte HB1.out m (by have := HLL.out; have := enc_pos m; omega)
      have HRUN := hid hrun
      have HB2 : Hid (Bf wB w2 s2 (us ++ enc n)) := by unfold Hid; rw [← HEQ.out, enc_small h128]; exact hb2
      have HG2 : Hid (Gw w w2 s s2) := HG1.out.trans hg2
      clear hrun hb2 hg2
      go_wp2_with (at_builtin; refine wpList_app2 rfl (.tmp 16) (.tmp 19) 30 30 rfl _ _ rfl rfl _ _ HRUN.out ?_)
      go_ret
      exact ⟨s2, rfl, HB2.out, HG2.out⟩
    · have h1 : ((m : Nat) : Int) ≥ 128 := by omega
      have hw5 : IntKind.u8.wrap ((m : Int) % 128 + 128) = ((m % 128 + 128 : Nat) : Int) := by rw [IntKind.wrap_u8]; omega
      obtain ⟨s2, w2, hrun, hb2, hg2⟩ := app_byte HB1.out (m % 128 + 128) (by have := HLL.out; have := enc_pos m; omega)
      have HRUN := hid hrun
      have HB2 : Hid (Bf wB w2 s2 (us1 ++ [m % 128 + 128])) := hb2
      have HG2 : Hid (Gw w w2 s s2) := HG1.out.trans hg2
      have HEQ2 : Hid ((us1 ++ [m % 128 + 128]) ++ enc (m / 128) = us ++ enc n) := by unfold Hid; rw [← HEQ.out, enc_big h128]; simp
      clear hrun hb2 hg2
      go_wp2_with (at_builtin; refine wpList_app2 rfl (.tmp 7) (.tmp 12) 30 30 rfl _ _ rfl rfl _ _ HRUN.out ?_)
      go_roundw
      case rel => exact ⟨m / 128, s2, us1 ++ [m % 128 + 128], rfl, by go_num, by omega, HB2.out, HG2.out, HEQ2.out⟩
      case measure => simp [intOf]; omega

set_option maxHeartbeats 4000000 in
set_option maxRecDepth 100000 in
theorem wnum_ok {wB w : World} {s : Sl} {us : List Nat} (h : Bf wB w s us) (n : Nat) (hn : n < 9223372036854775808) (hl : us.length + (enc n).length ≤ 1099511627776) :
    Calls Tryz.prog 45 #[.slice s.p s.n s.c, .int .i64 (n : Nat)] w fun e w' => AP wB w s (us ++ enc n) e w' := by
  have HC := hid (wnumber_ok h n (by omega) hl)
  have hw : IntKind.u64.wrap (n : Int) = (n : Int) := by rw [IntKind.wrap_u64]; omega
  clear h hl
  go_enter Tryz.func45, Tryz.ntmps45
  go_wp2_with fail
  refine HC.out.mono ?_
  rintro e w2 ⟨s2, rfl, hb2, hg2⟩
  have HB2 := hid hb2
  have HG2 := hid hg2
  clear hb2 hg2 HC
  try dsimp only
  go_wp2_with fail
  go_ret
  exact ⟨s2, rfl, HB2.out, HG2.out⟩
set_option maxHeartbeats 8000000 in
set_option maxRecDepth 100000 in
theorem wset_ok {wB w : World} {s : Sl} {us : List Nat} (h : Bf wB w s us) {p : Option Addr} {c : Nat} (xs : List S) (hx : L wB p xs.length xs) (hlen : xs.length ≤ 1000) (hpos : ∀ x ∈ xs, (0 ≤ x.n ∧ x.n < 9223372036854775808) ∧ (0 ≤ x.b ∧ x.b < 9223372036854775808)) (hl : us.length + (encSet xs).length ≤ 1099511627776) :
    Calls Tryz.prog 47 #[.slice s.p s.n s.c, .slice p xs.length c] w fun e w' => AP wB w s (us ++ encSet xs) e w' := by
  have HB := hid h
  have HX := hid hx
  have HP := hid hpos
  obtain ⟨K, HK⟩ : ∃ K, Hid (K = xs.length) := ⟨_, rfl⟩
  have HL : Hid (us.length + ((enc K).length + (fl xs).length) ≤ 1099511627776) := by unfold Hid; rw [HK.out]; unfold encSet at hl; rw [List.length_append] at hl; exact hl
  have HC : Hid (Calls Tryz.prog 45 #[.slice s.p s.n s.c, .int .i64 (K : Nat)] w fun e w' => AP wB w s (us ++ enc K) e w') := wnum_ok h K (by have := HK.out; omega) (by have := HL.out; omega)
  rw [← HK.out] at hlen ⊢
  clear h hl hx hpos
  go_enter Tryz.func47, Tryz.ntmps47
  go_wp2_with fail
  refine HC.out.mono ?_
  rintro e w2 ⟨s2, rfl, hb2, hg2⟩
  have HB2 := hid hb2
  have HG2 := hid hg2
  clear hb2 hg2 HC
  try dsimp only
  go_wp2_with fail
  go_loopw [0, 5] (fun a b wt => ∃ (i : Nat) (s1 : Sl), a = .slice s1.p s1.n s1.c ∧ b = .int .i64 (i : Nat) ∧ i ≤ K ∧ Bf wB wt s1 ((us ++ enc K) ++ fl (xs.take i)) ∧ Gw w wt s s1) (fun _ b _ => K - (intOf b).toNat)
  case atStart => exact ⟨0, s2, rfl, rfl, by omega, by simpa [fl] using HB2.out, HG2.out⟩
  case round =>
    obtain ⟨i, s1, rfl, rfl, hi, hb, hg⟩ := hrel
    have HB1 := hid hb
    have HG1 := hid hg
    clear hb hg
    by_cases hlt : i < K
    · have h1 : ((i : Nat) : Int) < (K : Int) := by omega
      have hil : i < xs.length := by have := HK.out; omega
      obtain ⟨x, Hx⟩ : ∃ x, Hid (x = g xs i) := ⟨_, rfl⟩
      obtain ⟨⟨pn, pn2⟩, pb, pb2⟩ := HP.out x (by rw [Hx.out]; exact g_mem hil)
      have pt : x.t < 2 ^ 64 := HX.out.fit x (by rw [Hx.out]; exact g_mem hil)
      obtain ⟨xn, hxn⟩ := Int.eq_ofNat_of_zero_le pn
      obtain ⟨xb, hxb⟩ := Int.eq_ofNat_of_zero_le pb
      have HES : Hid (encS x = (enc xn ++ enc xb) ++ enc x.t) := by unfold Hid encS; rw [hxn, hxb]; simp
      obtain ⟨xt, Hxt⟩ : ∃ xt, Hid (xt = x.t) := ⟨_, rfl⟩
      have hl1 : xn < 9223372036854775808 := by omega
      have hl2 : xb < 9223372036854775808 := by omega
      have hl3 : xt < 18446744073709551616 := by rw [Hxt.out]; exact pt
      have HLL : Hid (((us ++ enc K) ++ fl (xs.take i)).length + ((enc xn).length + (enc xb).length + (enc xt).length) ≤ 1099511627776) := by
        unfold Hid
        have a := fl_le xs (i + 1)
        rw [fl_take hil, ← Hx.out, HES.out, ← Hxt.out] at a
        simp only [List.length_append] at a ⊢
        have := HL.out
        omega
      obtain ⟨P, o, hP, hPl, hc0⟩ := HX.out.sp (by omega)
      subst hP
      clear hc0 hPl
      have HCL : Hid (∀ W, Apart [] wB W → W.cell? ⟨P, o + i * 3, none⟩ = some (.int .i64 (xn : Int)) ∧ W.cell? ⟨P, o + i * 3 + 1, none⟩ = some (.int .i64 (xb : Int)) ∧ W.cell? ⟨P, o + i * 3 + 2, none⟩ = some (.int .u64 (xt : Int))) := fun W a => by
        obtain ⟨P', o', hP', hPl, hc⟩ := (HX.out.kept0 a).sp (by omega)
        simp only [Option.some.injEq, Addr.mk.injEq] at hP'
        obtain ⟨rfl, rfl, -⟩ := hP'
        obtain ⟨c0, c1, c2⟩ := hc i hil
        rw [← Hx.out] at c0 c1 c2
        rw [hxn] at c0
        rw [hxb] at c1
        rw [← Hxt.out] at c2
        exact ⟨c0, c1, c2⟩
      clear hxn hxb pn pn2 pb pb2 pt
      obtain ⟨c0, c1, c2⟩ := HCL.out _ HB1.out.nw.ap
      have HC1 := hid (wnum_ok HB1.out xn hl1 (by have := HLL.out; omega))
      go_wp2_with fail
      refine HC1.out.mono ?_
      rintro e w3 ⟨s3, rfl, hb3, hg3⟩
      have HB3 := hid hb3
      have HG3 : Hid (Gw w w3 s s3) := HG1.out.trans hg3
      clear hb3 hg3 c0 c1 c2 HC1
      obtain ⟨c0, c1, c2⟩ := HCL.out _ HB3.out.nw.ap
      have HC1 := hid (wnum_ok HB3.out xb hl2 (by have := HLL.out; rw [List.length_append]; omega))
      try dsimp only
      go_wp2_with fail
      refine HC1.out.mono ?_
      rintro e w4 ⟨s4, rfl, hb4, hg4⟩
      have HB4 := hid hb4
      have HG4 : Hid (Gw w w4 s s4) := HG3.out.trans hg4
      clear hb4 hg4 c0 c1 c2 HC1
      obtain ⟨c0, c1, c2⟩ := HCL.out _ HB4.out.nw.ap
      have HC1 := hid (wnumber_ok HB4.out xt hl3 (by have := HLL.out; simp only [List.length_append] at this ⊢; omega))
      try dsimp only
      go_wp2_with fail
      refine HC1.out.mono ?_
      rintro e w7 ⟨s7, rfl, hb7, hg7⟩
      have HB7 : Hid (Bf wB w7 s7 ((us ++ enc K) ++ fl (xs.take (i + 1)))) := by
        unfold Hid
        rw [fl_take hil, ← Hx.out, HES.out, ← Hxt.out]
        simpa using hb7
      have HG7 : Hid (Gw w w7 s s7) := HG4.out.trans hg7
      clear hb7 hg7 c0 c1 c2 HC1
      try dsimp only
      go_wp2_with fail
      go_roundw
      case rel => exact ⟨i + 1, s7, rfl, by go_num, by omega, HB7.out, HG7.out⟩
      case measure => simp [intOf]; omega
    · have h1 : ¬ ((i : Nat) : Int) < (K : Int) := by omega
      have HF : Hid (Bf wB wr s1 (us ++ encSet xs)) := by
        unfold Hid encSet
        have := HB1.out
        rw [List.take_of_length_le (by have := HK.out; omega), HK.out, List.append_assoc] at this
        exact this
      go_wp2_with fail
      go_ret
      exact ⟨s1, rfl, HF.out, HG1.out⟩
set_option maxHeartbeats 4000000 in
set_option maxRecDepth 100000 in
theorem rputSet_ok (w : World) (p : Option Addr) (n c : Nat) (xs : List S) (hx : L w p n xs) (v : Bool) (hv : v = true ↔ OkL 64 xs) : Calls Tryz.prog 22 #[.slice p n c] w fun r w' => PutP w v 30 (encSet xs) r w' := by
  have HC1 : Hid (Calls Tryz.prog 52 #[.slice p n c, .int .i64 64] w fun r w' => r = .returned (.bool v) ∧ Apart [] w w') := by
    unfold Hid
    cases v with
    | true => exact right_yes hx (by omega) (hv.1 rfl)
    | false => exact right_no hx (by omega) (fun h => by have := hv.2 h; cases this)
  have HC2 : Hid (v = true → ∀ W, Apart [] w W → Calls Tryz.prog 47 #[.slice none 0 0, .slice p n c] W fun e w' => AP W W ⟨none, 0, 0⟩ (encSet xs) e w') := fun h W a => by
    have ho := hv.1 h
    have hl := hx.len
    have h1 := hx.kept0 a
    rw [← hl] at h1
    rw [← hl]
    have := wset_ok (s := ⟨none, 0, 0⟩) (us := []) (c := c) (Bf.nil (Apart.refl [] W)) xs h1 (by have := ho.le8; omega) (fun y hy => by
      have := ho.ok y hy
      have a1 := this.n0
      have a2 := this.n8
      have a3 := this.b0
      have a4 := this.bM
      exact ⟨⟨a1, by omega⟩, a3, by omega⟩) (by have := encSet_le ho; simp; omega)
    simpa using this
  clear hx hv
  go_enter Tryz.func22, Tryz.ntmps22
  go_wp2_with fail
  refine HC1.out.mono ?_
  rintro _ w2 ⟨rfl, ha2⟩
  have HA2 := hid ha2
  clear ha2
  try dsimp only
  cases v with
  | false =>
    go_wp2_with fail
    go_ret2
    exact ⟨HA2.out, fun h => (by cases h), fun _ => rfl⟩
  | true =>
    go_wp2_with fail
    refine (HC2.out (by trivial) w2 HA2.out).mono ?_
    rintro _ w3 ⟨s3, rfl, hb3, hg3⟩
    have HB3 : Hid (Bf w w3 s3 (encSet xs)) := ⟨hb3.nw.from HA2.out, hb3.len⟩
    clear hb3 hg3
    try dsimp only
    go_wp2_with fail
    go_ret2
    exact ⟨HB3.out.nw.ap, fun _ => ⟨s3, rfl, HB3.out⟩, fun h => (by cases h)⟩
end Go.Proofs.YtddffdcjhleejaaGreat.ds
namespace Go.Proofs.YtddffdcjhleejaaGreat.ds
open Go.ChangeShapes Go.WideShapes Go.ChangeAt Go.RowKit Go.Sort
set_option linter.unusedVariables false
set_option linter.unusedSimpArgs false
theorem bsk_take {k : ByteArray} {i : Nat} (hi : i < k.size) : (bsk k).take (i + 1) = (bsk k).take i ++ [k[i].toNat] := by
  have hl := bsk_len k
  rw [List.take_add_one, List.getElem?_eq_getElem (by omega)]
  congr 1
  simp [bsk, ByteArray.toList_eq]
  rfl
set_option maxHeartbeats 4000000 in
set_option maxRecDepth 100000 in
theorem wtext_ok {wB w : World} {s : Sl} {us : List Nat} (h : Bf wB w s us) (k : ByteArray) (hk : k.size ≤ 1000000) (hl : us.length + (encT (bsk k)).length ≤ 1099511627776) :
    Calls Tryz.prog 46 #[.slice s.p s.n s.c, .string k] w fun e w' => AP wB w s (us ++ encT (bsk k)) e w' := by
  have HB := hid h
  have HBK := hid (bsk_len k)
  have HL : Hid (us.length + ((enc k.size).length + k.size) ≤ 1099511627776) := by unfold Hid; unfold encT at hl; rw [List.length_append, HBK.out] at hl; exact hl
  have HC := hid (wnum_ok h k.size (by omega) (by have := HL.out; omega))
  clear h hl
  go_enter Tryz.func46, Tryz.ntmps46
  go_wp2_with fail
  refine HC.out.mono ?_
  rintro e w2 ⟨s2, rfl, hb2, hg2⟩
  have HB2 := hid hb2
  have HG2 := hid hg2
  clear hb2 hg2 HC
  try dsimp only
  go_wp2_with fail
  go_loopw [0, 5] (fun a b wt => ∃ (i : Nat) (s1 : Sl), a = .slice s1.p s1.n s1.c ∧ b = .int .i64 (i : Nat) ∧ i ≤ k.size ∧ Bf wB wt s1 ((us ++ enc k.size) ++ (bsk k).take i) ∧ Gw w wt s s1) (fun _ b _ => k.size - (intOf b).toNat)
  case atStart => exact ⟨0, s2, rfl, rfl, by omega, by simpa using HB2.out, HG2.out⟩
  case round =>
    obtain ⟨i, s1, rfl, rfl, hi, hb, hg⟩ := hrel
    have HB1 := hid hb
    have HG1 := hid hg
    clear hb hg
    by_cases hlt : i < k.size
    · have h1 : ((i : Nat) : Int) < (k.size : Int) := by omega
      obtain ⟨s3, w3, hrun, hb3, hg3⟩ := app_byte HB1.out (k[i].toNat) (by have := HL.out; simp only [List.length_append, List.length_take]; omega)
      have HRUN := hid hrun
      have HB3 : Hid (Bf wB w3 s3 ((us ++ enc k.size) ++ (bsk k).take (i + 1))) := by unfold Hid; rw [bsk_take hlt, ← List.append_assoc]; exact hb3
      have HG3 : Hid (Gw w w3 s s3) := HG1.out.trans hg3
      clear hrun hb3 hg3
      go_wp2_with (at_builtin; refine wpList_app2 rfl (.tmp 16) (.tmp 20) 30 30 rfl _ _ rfl rfl _ _ HRUN.out ?_)
      go_roundw
      case rel => exact ⟨i + 1, s3, rfl, by go_num, by omega, HB3.out, HG3.out⟩
      case measure => simp [intOf]; omega
    · have h1 : ¬ ((i : Nat) : Int) < (k.size : Int) := by omega
      have HF : Hid (Bf wB wr s1 (us ++ encT (bsk k))) := by
        unfold Hid encT
        have := HB1.out
        rw [List.take_of_length_le (by rw [HBK.out]; omega), List.append_assoc] at this
        rw [HBK.out]
        exact this
      go_wp2_with fail
      go_ret
      exact ⟨s1, rfl, HF.out, HG1.out⟩
set_option maxHeartbeats 8000000 in
set_option maxRecDepth 100000 in
theorem wwrite_ok {wB w : World} {s : Sl} {us : List Nat} (h : Bf wB w s us) (e : E) (r : Wr) (hr : Reads wB e r) (hgd : GoodW r) (hl : us.length + (encW r).length ≤ 1099511627776) :
    Calls Tryz.prog 48 #[.slice s.p s.n s.c, aggE e] w fun e w' => AP wB w s (us ++ encW r) e w' := by
  obtain ⟨en, ec, k, d, v, x⟩ := e
  obtain ⟨rn, rc, rk, rd, vs, xs⟩ := r
  obtain ⟨e1, e2, e3, e4, hv, hvn, hvl, hvb, hx, hxl, hvo, hxo⟩ := hr
  simp only at e1 e2 e3 e4 hv hvn hvl hvb hx hxl hvo hxo
  subst e1 e2 e3 e4
  obtain ⟨⟨⟨d1, d2⟩, d3, d4⟩, hkey, hval, hdead, hctx, hown⟩ := hgd
  simp only at d1 d2 d3 d4 hkey hval hdead hctx hown
  obtain ⟨nn, rfl⟩ := Int.eq_ofNat_of_zero_le d1
  obtain ⟨cc, rfl⟩ := Int.eq_ofNat_of_zero_le (show (0 : Int) ≤ ec by omega)
  have hn64 : nn < 9223372036854775808 := by omega
  have hc64 : cc < 9223372036854775808 := by omega
  have HB := hid h
  have HV := hid hv
  have HX := hid hx
  have HCTX := hid hctx
  have HVO := hid hvo
  have hxn : xs.length = x.n := hx.len
  have HE : Hid (encW ⟨(nn : Int), (cc : Int), k, d, vs, xs⟩ = enc nn ++ (enc cc ++ (encT (bsk k) ++ (encV d vs ++ encSet xs)))) := by unfold Hid encW; simp
  rw [HE.out] at hl ⊢
  have HL : Hid (us.length + ((enc nn).length + ((enc cc).length + ((encT (bsk k)).length + ((encV d vs).length + (encSet xs).length)))) ≤ 1099511627776) := by unfold Hid; simpa [List.length_append] using hl
  have HVB := hid hvb
  have HVN := hid hvn
  have HXN := hid hxn
  clear h hl hv hx hown hctx hvo d1 d2 d3 d4 hxo HE hvb hvn hxn
  unfold aggE
  simp only
  obtain ⟨w1, hw1⟩ : ∃ w1, w1 = w.alloc (.cells #[.int .i64 (nn : Int), .int .i64 (cc : Int), .string k, .bool d, .slice v.p v.n v.c, .slice x.p x.n x.c] 37) := ⟨_, rfl⟩
  have HX1 : Hid (w1.heap[w.heap.size]? = some (.cells #[.int .i64 (nn : Int), .int .i64 (cc : Int), .string k, .bool d, .slice v.p v.n v.c, .slice x.p x.n x.c] 37 (0, 0))) := by unfold Hid; rw [hw1]; exact heap_alloc_new w _
  have HA1 : Hid (Apart [] w w1) := by unfold Hid; rw [hw1]; exact (Apart.refl [] w).alloc _
  obtain ⟨X, HXX⟩ : ∃ X, Hid (X = w.heap.size) := ⟨_, rfl⟩
  rw [← HXX.out] at HX1
  have HB1 := hid (HB.out.kept HA1.out)
  have HG1 : Hid (Gw w w1 s s) := Gw.of HA1.out
  have HC1 := hid (wnum_ok HB1.out nn hn64 (by have := HL.out; omega))
  obtain ⟨z0, z1, z2, z3, z4, z5⟩ := rowv6 HX1.out
  go_enter Tryz.func48, Tryz.ntmps48
  go_upto_region 1 with fail
  rw [← hw1, ← HXX.out]
  clear hw1
  go_wp2_with fail
  refine HC1.out.mono ?_
  rintro _ w2 ⟨s2, rfl, hb2, hg2⟩
  have HB2 : Hid (Bf wB w2 s2 (us ++ enc nn)) := by unfold Hid; simpa using hb2
  have HG2 : Hid (Gw w w2 s s2) := HG1.out.trans hg2
  have HX2 : Hid (w2.heap[X]? = some (.cells #[.int .i64 (nn : Int), .int .i64 (cc : Int), .string k, .bool d, .slice v.p v.n v.c, .slice x.p x.n x.c] 37 (0, 0))) := hg2.block HB1.out HX1.out (by decide)
  clear hb2 hg2 z0 z1 z2 z3 z4 z5
  obtain ⟨z0, z1, z2, z3, z4, z5⟩ := rowv6 HX2.out
  have HC2 := hid (wnum_ok HB2.out cc hc64 (by have := HL.out; simp only [List.length_append]; omega))
  try dsimp only
  go_wp2_with fail
  refine HC2.out.mono ?_
  rintro _ w3 ⟨s3, rfl, hb3, hg3⟩
  have HB3 : Hid (Bf wB w3 s3 (us ++ (enc nn ++ enc cc))) := by unfold Hid; simpa using hb3
  have HG3 : Hid (Gw w w3 s s3) := HG2.out.trans hg3
  have HX3 : Hid (w3.heap[X]? = some (.cells #[.int .i64 (nn : Int), .int .i64 (cc : Int), .string k, .bool d, .slice v.p v.n v.c, .slice x.p x.n x.c] 37 (0, 0))) := hg3.block HB2.out HX2.out (by decide)
  clear hb3 hg3 z0 z1 z2 z3 z4 z5
  obtain ⟨z0, z1, z2, z3, z4, z5⟩ := rowv6 HX3.out
  have HC3 := hid (wtext_ok HB3.out k (by omega) (by have := HL.out; simp only [List.length_append]; omega))
  try dsimp only
  go_wp2_with fail
  refine HC3.out.mono ?_
  rintro _ w4 ⟨s4, rfl, hb4, hg4⟩
  have HB4 : Hid (Bf wB w4 s4 (us ++ (enc nn ++ (enc cc ++ encT (bsk k))))) := by unfold Hid; simpa using hb4
  have HG4 : Hid (Gw w w4 s s4) := HG3.out.trans hg4
  have HX4 : Hid (w4.heap[X]? = some (.cells #[.int .i64 (nn : Int), .int .i64 (cc : Int), .string k, .bool d, .slice v.p v.n v.c, .slice x.p x.n x.c] 37 (0, 0))) := hg4.block HB3.out HX3.out (by decide)
  clear hb4 hg4 z0 z1 z2 z3 z4 z5
  obtain ⟨z0, z1, z2, z3, z4, z5⟩ := rowv6 HX4.out
  have hlx : xs.length ≤ 8 := HCTX.out.le8
  try dsimp only
  cases d with
  | true =>
    have HL5 : Hid (us.length + ((enc nn).length + ((enc cc).length + ((encT (bsk k)).length + ((enc 1).length + (encSet xs).length)))) ≤ 1099511627776) := HL.out
    have HC4 : Hid (Calls Tryz.prog 45 #[.slice s4.p s4.n s4.c, .int .i64 1] w4 fun e w' => AP wB w4 s4 ((us ++ (enc nn ++ (enc cc ++ encT (bsk k)))) ++ enc 1) e w') := wnum_ok HB4.out 1 (by omega) (by have := HL5.out; simp only [List.length_append]; omega)
    go_wp2_with fail
    refine HC4.out.mono ?_
    rintro _ w5 ⟨s5, rfl, hb5, hg5⟩
    have HG5 : Hid (Gw w w5 s s5) := HG4.out.trans hg5
    have HX5 : Hid (w5.heap[X]? = some (.cells #[.int .i64 (nn : Int), .int .i64 (cc : Int), .string k, .bool true, .slice v.p v.n v.c, .slice x.p x.n x.c] 37 (0, 0))) := hg5.block HB4.out HX4.out (by decide)
    have HB5 : Hid (Bf wB w5 s5 (us ++ (enc nn ++ (enc cc ++ (encT (bsk k) ++ encV true vs))))) := by unfold Hid; have h0 := hb5; simpa [encV] using h0
    clear hb5 hg5 z0 z1 z2 z3 z4 z5
    obtain ⟨z0, z1, z2, z3, z4, z5⟩ := rowv6 HX5.out
    try dsimp only
    have HS : Hid (Calls Tryz.prog 47 #[.slice s5.p s5.n s5.c, .slice x.p x.n x.c] w5 fun e w' => AP wB w5 s5 ((us ++ (enc nn ++ (enc cc ++ (encT (bsk k) ++ encV true vs)))) ++ encSet xs) e w') := by
      have h1 := HX.out
      rw [← HXN.out] at h1
      rw [← HXN.out]
      refine wset_ok HB5.out xs h1 (by omega) (fun y hy => ?_) (by have := HL.out; simp only [List.length_append] at this ⊢; omega)
      have := HCTX.out.ok y hy
      have a1 := this.n0
      have a2 := this.n8
      have a3 := this.b0
      have a4 := this.bM
      exact ⟨⟨a1, by omega⟩, a3, by omega⟩
    try dsimp only
    go_wp2_with fail
    refine HS.out.mono ?_
    rintro _ w9 ⟨s9, rfl, hb9, hg9⟩
    have HB9 : Hid (Bf wB w9 s9 (us ++ (enc nn ++ (enc cc ++ (encT (bsk k) ++ (encV true vs ++ encSet xs)))))) := by unfold Hid; simpa using hb9
    have HG9 : Hid (Gw w w9 s s9) := HG5.out.trans hg9
    clear hb9 hg9
    try dsimp only
    go_wp2_with fail
    go_ret
    exact ⟨s9, rfl, HB9.out, HG9.out⟩
  | false =>
    have HL5 : Hid (us.length + ((enc nn).length + ((enc cc).length + ((encT (bsk k)).length + (((enc 0).length + (encT vs).length) + (encSet xs).length)))) ≤ 1099511627776) := by unfold Hid; have := HL.out; simpa [encV] using this
    have HC4 : Hid (Calls Tryz.prog 45 #[.slice s4.p s4.n s4.c, .int .i64 0] w4 fun e w' => AP wB w4 s4 ((us ++ (enc nn ++ (enc cc ++ encT (bsk k)))) ++ enc 0) e w') := wnum_ok HB4.out 0 (by omega) (by have := HL5.out; simp only [List.length_append]; omega)
    go_wp2_with fail
    refine HC4.out.mono ?_
    rintro _ w5 ⟨s5, rfl, hb5, hg5⟩
    have HG5 : Hid (Gw w w5 s s5) := HG4.out.trans hg5
    have HX5 : Hid (w5.heap[X]? = some (.cells #[.int .i64 (nn : Int), .int .i64 (cc : Int), .string k, .bool false, .slice v.p v.n v.c, .slice x.p x.n x.c] 37 (0, 0))) := hg5.block HB4.out HX4.out (by decide)
    have HB5 : Hid (Bf wB w5 s5 (us ++ (enc nn ++ (enc cc ++ (encT (bsk k) ++ enc 0))))) := by unfold Hid; have h0 := hb5; simpa [encV] using h0
    clear hb5 hg5 z0 z1 z2 z3 z4 z5
    obtain ⟨z0, z1, z2, z3, z4, z5⟩ := rowv6 HX5.out
    try dsimp only
    have hcv := conv_bytes (s := v) (HV.out.kept0 HB5.out.nw.ap) HVN.out HVO.out
    have hsz : (strB vs).size = vs.length := by rw [← bsk_len, bsk_strB HVB.out]
    have HC5 := hid (wtext_ok HB5.out (strB vs) (by omega) (by rw [bsk_strB HVB.out]; have := HL5.out; simp only [List.length_append]; omega))
    go_wp2_with fail
    refine HC5.out.mono ?_
    rintro _ w6 ⟨s6, rfl, hb6, hg6⟩
    have HG6 : Hid (Gw w w6 s s6) := HG5.out.trans hg6
    have HX6 : Hid (w6.heap[X]? = some (.cells #[.int .i64 (nn : Int), .int .i64 (cc : Int), .string k, .bool false, .slice v.p v.n v.c, .slice x.p x.n x.c] 37 (0, 0))) := hg6.block HB5.out HX5.out (by decide)
    have HB6 : Hid (Bf wB w6 s6 (us ++ (enc nn ++ (enc cc ++ (encT (bsk k) ++ encV false vs))))) := by unfold Hid; have h0 := hb6; rw [bsk_strB HVB.out] at h0; simpa [encV] using h0
    clear hcv hb6 hg6 z0 z1 z2 z3 z4 z5
    obtain ⟨z0, z1, z2, z3, z4, z5⟩ := rowv6 HX6.out
    try dsimp only
    have HS : Hid (Calls Tryz.prog 47 #[.slice s6.p s6.n s6.c, .slice x.p x.n x.c] w6 fun e w' => AP wB w6 s6 ((us ++ (enc nn ++ (enc cc ++ (encT (bsk k) ++ encV false vs)))) ++ encSet xs) e w') := by
      have h1 := HX.out
      rw [← HXN.out] at h1
      rw [← HXN.out]
      refine wset_ok HB6.out xs h1 (by omega) (fun y hy => ?_) (by have := HL.out; simp only [List.length_append] at this ⊢; omega)
      have := HCTX.out.ok y hy
      have a1 := this.n0
      have a2 := this.n8
      have a3 := this.b0
      have a4 := this.bM
      exact ⟨⟨a1, by omega⟩, a3, by omega⟩
    try dsimp only
    go_wp2_with fail
    refine HS.out.mono ?_
    rintro _ w9 ⟨s9, rfl, hb9, hg9⟩
    have HB9 : Hid (Bf wB w9 s9 (us ++ (enc nn ++ (enc cc ++ (encT (bsk k) ++ (encV false vs ++ encSet xs)))))) := by unfold Hid; simpa using hb9
    have HG9 : Hid (Gw w w9 s s9) := HG6.out.trans hg9
    clear hb9 hg9
    try dsimp only
    go_wp2_with fail
    go_ret
    exact ⟨s9, rfl, HB9.out, HG9.out⟩
set_option maxHeartbeats 4000000 in
set_option maxRecDepth 100000 in
theorem rputWrite_ok (w : World) (e : E) (r : Wr) (hr : Reads w e r) (v : Bool) (hv : v = true ↔ GoodW r) : Calls Tryz.prog 27 #[.agg #[.int .i64 e.n, .int .i64 e.c, .string e.k, .bool e.d, .slice e.v.p e.v.n e.v.c, .slice e.x.p e.x.n e.x.c]] w fun r' w' => PutP w v 52 (encW r) r' w' := by
  have HC1 : Hid (∀ W, Apart [] w W → Calls Tryz.prog 56 #[.agg #[.int .i64 e.n, .int .i64 e.c, .string e.k, .bool e.d, .slice e.v.p e.v.n e.v.c, .slice e.x.p e.x.n e.x.c]] W fun r w' => r = .returned (.bool v) ∧ Apart [] W w') := fun W a => good_ok W e r (hr.kept0 a) v hv
  have HC2 : Hid (v = true → ∀ W, Apart [] w W → Calls Tryz.prog 48 #[.slice none 0 0, .agg #[.int .i64 e.n, .int .i64 e.c, .string e.k, .bool e.d, .slice e.v.p e.v.n e.v.c, .slice e.x.p e.x.n e.x.c]] W fun e w' => AP W W ⟨none, 0, 0⟩ (encW r) e w') := fun h W a => by
    have ho := hv.1 h
    have := wwrite_ok (s := ⟨none, 0, 0⟩) (us := []) (Bf.nil (Apart.refl [] W)) e r (hr.kept0 a) ho (by have := encW_le ho; simp; omega)
    simpa [aggE] using this
  clear hr hv
  obtain ⟨w1, hw1⟩ : ∃ w1, w1 = w.alloc (.cells #[.int .i64 e.n, .int .i64 e.c, .string e.k, .bool e.d, .slice e.v.p e.v.n e.v.c, .slice e.x.p e.x.n e.x.c] 37) := ⟨_, rfl⟩
  have HX1 : Hid (w1.heap[w.heap.size]? = some (.cells #[.int .i64 e.n, .int .i64 e.c, .string e.k, .bool e.d, .slice e.v.p e.v.n e.v.c, .slice e.x.p e.x.n e.x.c] 37 (0, 0))) := by unfold Hid; rw [hw1]; exact heap_alloc_new w _
  have HA1 : Hid (Apart [] w w1) := by unfold Hid; rw [hw1]; exact (Apart.refl [] w).alloc _
  obtain ⟨X, HXX⟩ : ∃ X, Hid (X = w.heap.size) := ⟨_, rfl⟩
  rw [← HXX.out] at HX1
  obtain ⟨z0, z1, z2, z3, z4, z5⟩ := rowv6 HX1.out
  go_enter Tryz.func27, Tryz.ntmps27
  go_upto_region 1 with fail
  rw [← hw1, ← HXX.out]
  clear hw1
  go_wp2_with fail
  refine (HC1.out w1 HA1.out).mono ?_
  rintro _ w2 ⟨rfl, ha2⟩
  have HA2 : Hid (Apart [] w w2) := HA1.out.trans ha2
  have HX2 : Hid (w2.heap[X]? = some (.cells #[.int .i64 e.n, .int .i64 e.c, .string e.k, .bool e.d, .slice e.v.p e.v.n e.v.c, .slice e.x.p e.x.n e.x.c] 37 (0, 0))) := (ha2.block _ (lt_of_heap HX1.out) (by simp)).trans HX1.out
  clear ha2 z0 z1 z2 z3 z4 z5
  obtain ⟨z0, z1, z2, z3, z4, z5⟩ := rowv6 HX2.out
  try dsimp only
  cases v with
  | false =>
    go_wp2_with fail
    go_ret2
    exact ⟨HA2.out, fun h => (by cases h), fun _ => rfl⟩
  | true =>
    go_wp2_with fail
    refine (HC2.out (by trivial) w2 HA2.out).mono ?_
    rintro _ w3 ⟨s3, rfl, hb3, hg3⟩
    have HB3 : Hid (Bf w w3 s3 (encW r)) := ⟨hb3.nw.from HA2.out, hb3.len⟩
    clear hb3 hg3 z0 z1 z2 z3 z4 z5
    try dsimp only
    go_wp2_with fail
    go_ret2
    exact ⟨HB3.out.nw.ap, fun _ => ⟨s3, rfl, HB3.out⟩, fun h => (by cases h)⟩
end Go.Proofs.YtddffdcjhleejaaGreat.ds
