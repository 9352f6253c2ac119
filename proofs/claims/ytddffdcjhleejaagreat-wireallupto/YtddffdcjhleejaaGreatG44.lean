import Derived.Test.YtddffdcjhleejaaGreatG43
namespace Go.Proofs.YtddffdcjhleejaaGreat.ds
open Go.ChangeShapes Go.WideShapes Go.ChangeAt Go.RowKit Go.Sort
set_option linter.unusedVariables false
set_option linter.unusedSimpArgs false
def UI (v : Value) (w : World) : Prop := ∃ z : Int, v = .int .i64 z
set_option maxRecDepth 100000 in
theorem rnumI_bad {wB w : World} {R : Nat} {p : Option Addr} {N c : Nat} {B : List Nat} {q : Nat} {x : Int} (h : RX wB w R p N c B q x) (hx : 0 ≤ x) (lo hi : Int) : Calls Tryz.prog 86 #[.pointer (some ⟨R, 0, none⟩), .int .i64 lo, .int .i64 hi] w fun e w' => e = .returned (.int .i64 0) ∧ w' = w := by
  have HC := fun a b => hid (rnumber_bad h hx a b)
  clear h hx
  go_enter Tryz.func86, Tryz.ntmps86
  go_wp2_with fail
  refine (HC _ _).out.mono ?_
  rintro _ w2 ⟨rfl, hw2⟩
  rw [hw2]
  try dsimp only
  go_wp2_with fail
  go_ret
  exact ⟨rfl, rfl⟩
set_option maxHeartbeats 4000000 in
set_option maxRecDepth 100000 in
theorem rnumI_ok {wB w : World} {R : Nat} {p : Option Addr} {N c : Nat} {B : List Nat} {q : Nat} (h : RX wB w R p N c B q (-1)) (lo hi : Nat) (hlo : lo ≤ 1000000000) (hhi : hi ≤ 1000000000) :
    Calls Tryz.prog 86 #[.pointer (some ⟨R, 0, none⟩), .int .i64 (lo : Nat), .int .i64 (hi : Nat)] w fun e w' => OutX wB w w' R p N c B e (rbound B q lo hi) (fun a v _ => v = .int .i64 (a : Nat)) UI := by
  have HC := hid (rnumber_ok h lo hi (by omega) (by omega))
  have hw1 : IntKind.u64.wrap (lo : Int) = (lo : Int) := by rw [IntKind.wrap_u64]; omega
  have hw2 : IntKind.u64.wrap (hi : Int) = (hi : Int) := by rw [IntKind.wrap_u64]; omega
  clear h
  go_enter Tryz.func86, Tryz.ntmps86
  go_wp2_with fail
  refine HC.out.mono ?_
  rintro e w2 ⟨ha, hm⟩
  have HA := hid ha
  clear ha HC
  cases hr : rbound B q lo hi with
  | error x =>
    rw [hr] at hm
    obtain ⟨⟨v, rfl, n, hn, rfl⟩, q2, hq2⟩ := hm
    have HQ := hid hq2
    have HRR := hid hr
    clear hq2 hr
    try dsimp only
    go_wp2_with fail
    go_ret
    refine ⟨HA.out, ?_⟩
    rw [HRR.out]
    exact ⟨⟨_, rfl, _, rfl⟩, q2, HQ.out⟩
  | ok t =>
    obtain ⟨n, q2⟩ := t
    have hle := rbound_le hr
    rw [hr] at hm
    obtain ⟨⟨v, rfl, hv⟩, hq2⟩ := hm
    have hv' : v = .int .u64 (n : Nat) := hv
    subst hv'
    have HQ := hid hq2
    have hw3 : IntKind.i64.wrap (n : Int) = (n : Int) := by rw [IntKind.wrap_i64]; omega
    have HRR := hid hr
    clear hq2 hr hv
    try dsimp only
    go_wp2_with fail
    go_ret
    refine ⟨HA.out, ?_⟩
    rw [HRR.out]
    exact ⟨⟨_, rfl, rfl⟩, HQ.out⟩
/-- the document's reader, good or bad -/
def plc {α : Type} (r : Except Nat (α × Nat)) : Except Nat Nat := match r with
  | .ok (_, q) => .ok q
  | .error x => .error x
def RS (wB w : World) (R : Nat) (p : Option Addr) (N c : Nat) (B : List Nat) (s : Except Nat Nat) : Prop :=
  ∃ (q : Nat) (x : Int), RX wB w R p N c B q x ∧ (∀ q', s = .ok q' → q = q' ∧ x = -1) ∧ (∀ y, s = .error y → x = (y : Nat))
theorem RS.ok {wB w : World} {R : Nat} {p : Option Addr} {N c : Nat} {B : List Nat} {q : Nat} (h : RX wB w R p N c B q (-1)) : RS wB w R p N c B (.ok q) :=
  ⟨q, -1, h, fun _ e => (by cases e; exact ⟨rfl, rfl⟩), fun _ e => (by cases e)⟩
theorem RS.err {wB w : World} {R : Nat} {p : Option Addr} {N c : Nat} {B : List Nat} {q y : Nat} (h : RX wB w R p N c B q (y : Nat)) : RS wB w R p N c B (.error y) :=
  ⟨q, y, h, fun _ e => (by cases e), fun _ e => (by cases e; rfl)⟩
theorem RS.kept {wB w w' : World} {R : Nat} {p : Option Addr} {N c : Nat} {B : List Nat} {s : Except Nat Nat} (h : RS wB w R p N c B s) (a : Apart [] w w') : RS wB w' R p N c B s := by
  obtain ⟨q, x, h1, h2, h3⟩ := h
  exact ⟨q, x, h1.kept a, h2, h3⟩
/-- then a number is read -/
def nx {α : Type} (B : List Nat) (r : Except Nat (α × Nat)) (lo : α → Nat) (hi : Nat) : Except Nat ((α × Nat) × Nat) := rb r fun a q => rb (rbound B q (lo a) hi) fun n q' => .ok ((a, n), q')
theorem rnumI_any {α : Type} {wB w : World} {R : Nat} {p : Option Addr} {N c : Nat} {B : List Nat} {r : Except Nat (α × Nat)} (h : RS wB w R p N c B (plc r)) (lo : α → Nat) (hi : Nat) (L : Int) (hL : ∀ a q, r = .ok (a, q) → L = lo a ∧ lo a ≤ 1000000000) (hhi : hi ≤ 1000000000) :
    Calls Tryz.prog 86 #[.pointer (some ⟨R, 0, none⟩), .int .i64 L, .int .i64 (hi : Nat)] w fun e w' => Apart [R] w w' ∧ ∃ z : Int, e = .returned (.int .i64 z) ∧ RS wB w' R p N c B (plc (nx B r lo hi)) ∧ ∀ a n q', nx B r lo hi = .ok ((a, n), q') → z = (n : Nat) := by
  obtain ⟨q, x, h1, h2, h3⟩ := h
  cases r with
  | error y =>
    have hx := h3 y rfl
    subst hx
    refine (rnumI_bad h1 (by omega) L hi).mono ?_
    rintro _ w2 ⟨rfl, rfl⟩
    exact ⟨Apart.refl _ _, 0, rfl, RS.err h1, fun _ _ _ e => by cases e⟩
  | ok t =>
    obtain ⟨a, q0⟩ := t
    obtain ⟨rfl, rfl⟩ := h2 q0 rfl
    obtain ⟨rfl, hl⟩ := hL a q rfl
    refine (rnumI_ok h1 (lo a) hi hl hhi).mono ?_
    rintro e w2 ⟨ha, hm⟩
    refine ⟨ha, ?_⟩
    have hn : nx B (.ok (a, q)) lo hi = rb (rbound B q (lo a) hi) fun n q' => .ok ((a, n), q') := rfl
    rw [hn]
    cases hr : rbound B q (lo a) hi with
    | error y =>
      rw [hr] at hm
      obtain ⟨⟨v, rfl, z, rfl⟩, q2, hq2⟩ := hm
      exact ⟨z, rfl, RS.err hq2, fun _ _ _ e => by cases e⟩
    | ok t =>
      obtain ⟨n, q2⟩ := t
      rw [hr] at hm
      obtain ⟨⟨v, rfl, hv⟩, hq2⟩ := hm
      refine ⟨(n : Nat), by rw [show v = .int .i64 (n : Nat) from hv], RS.ok hq2, fun a' n' q' e => ?_⟩
      rw [rb_ok] at e
      cases e
      rfl
theorem rnumN_any {α : Type} {wB w : World} {R : Nat} {p : Option Addr} {N c : Nat} {B : List Nat} {r : Except Nat (α × Nat)} (h : RS wB w R p N c B (plc r)) :
    Calls Tryz.prog 91 #[.pointer (some ⟨R, 0, none⟩), .int .u64 0, .int .u64 18446744073709551615] w fun e w' => Apart [R] w w' ∧ ∃ z : Nat, z < 18446744073709551616 ∧ e = .returned (.int .u64 (z : Nat)) ∧ RS wB w' R p N c B (plc (nx B r (fun _ => 0) 18446744073709551615)) ∧ ∀ a n q', nx B r (fun _ => 0) 18446744073709551615 = .ok ((a, n), q') → z = n := by
  obtain ⟨q, x, h1, h2, h3⟩ := h
  cases r with
  | error y =>
    have hx := h3 y rfl
    subst hx
    refine (rnumber_bad h1 (by omega) 0 18446744073709551615).mono ?_
    rintro _ w2 ⟨rfl, rfl⟩
    exact ⟨Apart.refl _ _, 0, by omega, rfl, RS.err h1, fun _ _ _ e => by cases e⟩
  | ok t =>
    obtain ⟨a, q0⟩ := t
    obtain ⟨rfl, rfl⟩ := h2 q0 rfl
    refine (rnumber_ok h1 0 18446744073709551615 (by omega) (by omega)).mono ?_
    rintro e w2 ⟨ha, hm⟩
    refine ⟨ha, ?_⟩
    have hn : nx B (.ok (a, q)) (fun _ => 0) 18446744073709551615 = rb (rbound B q 0 18446744073709551615) fun n q' => .ok ((a, n), q') := rfl
    rw [hn]
    cases hr : rbound B q 0 18446744073709551615 with
    | error y =>
      rw [hr] at hm
      obtain ⟨⟨v, rfl, z, hz, rfl⟩, q2, hq2⟩ := hm
      exact ⟨z, hz, rfl, RS.err hq2, fun _ _ _ e => by cases e⟩
    | ok t =>
      obtain ⟨n, q2⟩ := t
      have hle := rbound_le hr
      rw [hr] at hm
      obtain ⟨⟨v, rfl, hv⟩, hq2⟩ := hm
      refine ⟨n, by omega, by rw [show v = .int .u64 (n : Nat) from hv], RS.ok hq2, fun a' n' q' e => ?_⟩
      rw [rb_ok] at e
      cases e
      rfl
def wr1 (s : Except Nat Nat) (y : Nat) : Except Nat Nat := match s with
  | .ok _ => .error y
  | .error x => .error x
theorem rwrong_any {wB w : World} {R : Nat} {p : Option Addr} {N c : Nat} {B : List Nat} {s : Except Nat Nat} (h : RS wB w R p N c B s) (y : Nat) :
    Calls Tryz.prog 50 #[.pointer (some ⟨R, 0, none⟩), .int .i64 (y : Nat)] w fun e w' => e = .returned (.tuple #[]) ∧ Apart [R] w w' ∧ RS wB w' R p N c B (wr1 s y) := by
  obtain ⟨q, x, h1, h2, h3⟩ := h
  cases s with
  | error z =>
    have hx := h3 z rfl
    subst hx
    refine (rwrong_no h1 (by omega) _).mono ?_
    rintro _ w2 ⟨rfl, rfl⟩
    exact ⟨rfl, Apart.refl _ _, RS.err h1⟩
  | ok q0 =>
    obtain ⟨rfl, rfl⟩ := h2 q0 rfl
    refine (rwrong_yes h1 _).mono ?_
    rintro _ w2 ⟨rfl, ha, hr⟩
    exact ⟨rfl, ha, RS.err hr⟩
/-- a span as the document reads it -/
theorem span_link (B : List Nat) (r ln mb : Nat) : rspan B r ln mb = rb (nx B (nx B (.ok ((), r)) (fun _ => ln) 7) (fun _ => 0) 1048576) (fun a q2 => rb (rbound B q2 0 18446744073709551615) (fun t q3 => if okS a.1.2 a.2 t mb true = true then .ok (⟨(a.1.2 : Nat), (a.2 : Nat), t⟩, q3) else .error q2)) := by
  unfold rspan nx
  simp only [rb_rb, rb_ok]
  cases rbound B r ln 7 with
  | error x => rfl
  | ok t =>
    obtain ⟨n, q1⟩ := t
    simp only [rb_ok]
    cases rbound B q1 0 1048576 with
    | error x => rfl
    | ok t =>
      obtain ⟨b, q2⟩ := t
      simp only [rb_ok]
      cases hn : rnumber B q2 with
      | error x => unfold rbound; rw [hn]; rfl
      | ok t =>
        obtain ⟨⟨t, ok⟩, q3⟩ := t
        have hlt := rnumber_lt hn
        have hb : rbound B q2 0 18446744073709551615 = if ok = true then .ok (t, q3) else .error q2 := by
          unfold rbound; rw [hn]
          cases ok with
          | true => simp; omega
          | false => simp
        rw [hb, rb_ok]
        cases ok with
        | true => rw [if_pos rfl, rb_ok]
        | false =>
          have h0 : ¬ okS n b t mb false = true := by rw [okS_iff]; simp
          rw [if_neg h0]
          rfl
theorem span_out (B : List Nat) (r ln mb qa zt : Nat) (zn zb : Int) (pl vb : Bool) (hmb : mb = if pl = true then 0 else 18446744073709551615) (hzt : zt < 18446744073709551616)
    (hqa : ∀ q2, plc (nx B (nx B (.ok ((), r)) (fun _ => ln) 7) (fun _ => 0) 1048576) = .ok q2 → qa = q2)
    (hz1 : ∀ a q, nx B (nx B (.ok ((), r)) (fun _ => ln) 7) (fun _ => 0) 1048576 = .ok (a, q) → zn = (a.1.2 : Nat) ∧ zb = (a.2 : Nat))
    (hz3 : ∀ a t q3, nx B (nx B (nx B (.ok ((), r)) (fun _ => ln) 7) (fun _ => 0) 1048576) (fun _ => 0) 18446744073709551615 = .ok ((a, t), q3) → zt = t)
    (hvb : vb = true ↔ ¬ (OkL 64 [(⟨zn, zb, zt⟩ : S)] ∧ (pl = true → zt = 0))) :
    (if vb = true then wr1 (plc (nx B (nx B (nx B (.ok ((), r)) (fun _ => ln) 7) (fun _ => 0) 1048576) (fun _ => 0) 18446744073709551615)) qa else plc (nx B (nx B (nx B (.ok ((), r)) (fun _ => ln) 7) (fun _ => 0) 1048576) (fun _ => 0) 18446744073709551615)) = plc (rspan B r ln mb) ∧ ∀ x q, rspan B r ln mb = .ok (x, q) → x = ⟨zn, zb, zt⟩ := by
  rw [span_link]
  generalize nx B (nx B (.ok ((), r)) (fun _ => ln) 7) (fun _ => 0) 1048576 = r2 at *
  cases r2 with
  | error y => simp [nx, rb_err, plc, wr1]
  | ok t =>
    obtain ⟨a, q2⟩ := t
    obtain ⟨rfl, rfl⟩ := hz1 a q2 rfl
    obtain rfl := hqa q2 rfl
    unfold nx at *
    simp only [rb_ok] at *
    cases hr : rbound B qa 0 18446744073709551615 with
    | error y => simp [rb_err, plc, wr1]
    | ok t =>
      obtain ⟨t, q3⟩ := t
      rw [hr] at hz3
      simp only [rb_ok] at hz3 ⊢
      obtain rfl := hz3 a t q3 rfl
      have hok : okS a.1.2 a.2 zt mb true = true ↔ (OkL 64 [(⟨(a.1.2 : Nat), (a.2 : Nat), zt⟩ : S)] ∧ (pl = true → zt = 0)) := by
        rw [okS_iff, hmb]
        cases pl with
        | true => simp; constructor <;> (rintro ⟨h1, h2⟩; exact ⟨h2, h1⟩)
        | false => simp; intro _; omega
      cases vb with
      | true =>
        have h1 := hvb.1 rfl
        rw [if_pos rfl, if_neg (fun h => h1 (hok.1 h))]
        exact ⟨rfl, fun x q e => by cases e⟩
      | false =>
        have h1 : okS a.1.2 a.2 zt mb true = true := hok.2 (Classical.byContradiction fun h => by have := hvb.2 h; cases this)
        rw [if_neg (by simp), if_pos h1]
        exact ⟨rfl, fun x q e => by cases e; rfl⟩
end Go.Proofs.YtddffdcjhleejaaGreat.ds
