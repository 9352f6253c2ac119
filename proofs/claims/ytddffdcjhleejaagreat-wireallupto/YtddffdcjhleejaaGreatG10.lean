import Derived.Test.YtddffdcjhleejaaGreatG9
namespace Go.Proofs.YtddffdcjhleejaaGreat.ds
open Go.ChangeShapes Go.WideShapes Go.ChangeAt Go.RowKit Go.Sort
set_option linter.unusedVariables false
set_option linter.unusedSimpArgs false
noncomputable def rset (B : List Nat) (q : Nat) : Except Nat (List S × Nat) := rspans B q 18446744073709551615
set_option maxHeartbeats 8000000 in
set_option maxRecDepth 100000 in
theorem set_ok {wB w : World} {R : Nat} {p : Option Addr} {N c : Nat} {B : List Nat} {q : Nat} (h : RB wB w R p N c B q) :
    Calls Tryz.prog 54 #[.pointer (some ⟨R, 0, none⟩)] w fun e w' => OutR wB w w' R p N c B e (rset B q) (VSet wB) := by
  have HRB := hid h
  have HE : Hid (rset B q = rb (rspans B q 18446744073709551615) (fun a q => .ok (a, q))) := (rb_id _).symm
  clear h
  go_enter Tryz.func54, Tryz.ntmps54
  go_wp2_with fail
  refine (spans_ok HRB.out 18446744073709551615).mono ?_
  rintro e2 w2 ⟨ha2, hm2⟩
  have HA2 : Hid (Apart [R] w w2) := ha2
  have HS2 := hid ha2
  clear ha2
  cases hr2 : rspans B q 18446744073709551615 with
  | error x =>
    rw [hr2] at hm2
    have he : e2 = wrongAt x := hm2
    subst he
    unfold wrongAt
    have HE1 := HE.out
    rw [hr2, rb_err] at HE1
    try dsimp only
    refine ⟨rfl, HA2.out, ?_⟩
    rw [HE1]
    rfl
  | ok t =>
    obtain ⟨l, q2⟩ := t
    rw [hr2] at hm2
    obtain ⟨⟨v2, hev2, hv2⟩, hrb2⟩ := hm2
    subst hev2
    have HR2 := hid hrb2
    have HE1 := HE.out
    rw [hr2, rb_ok] at HE1
    replace HE := hid HE1
    have HP2 := hid hr2
    clear HE1 hrb2 hr2
    obtain ⟨s, hvs, hvr⟩ := hv2
    have HV2 : Hid (VSet wB l (.slice s.p s.n s.c) w2) := ⟨s, rfl, hvr⟩
    subst hvs
    clear hvr
    try dsimp only
    go_wp2_with fail
    go_ret
    refine ⟨HA2.out, ?_⟩
    rw [HE.out]
    exact ⟨⟨_, rfl, HV2.out⟩, HR2.out⟩
noncomputable def rbases (B : List Nat) (q : Nat) : Except Nat (List S × Nat) := rspans B q 0
set_option maxHeartbeats 8000000 in
set_option maxRecDepth 100000 in
theorem bases_wire {wB w : World} {R : Nat} {p : Option Addr} {N c : Nat} {B : List Nat} {q : Nat} (h : RB wB w R p N c B q) :
    Calls Tryz.prog 98 #[.pointer (some ⟨R, 0, none⟩)] w fun e w' => OutR wB w w' R p N c B e (rbases B q) (VSet wB) := by
  have HRB := hid h
  have HE : Hid (rbases B q = rb (rspans B q 0) (fun a q => .ok (a, q))) := (rb_id _).symm
  clear h
  go_enter Tryz.func98, Tryz.ntmps98
  go_wp2_with fail
  refine (spans_ok HRB.out 0).mono ?_
  rintro e2 w2 ⟨ha2, hm2⟩
  have HA2 : Hid (Apart [R] w w2) := ha2
  have HS2 := hid ha2
  clear ha2
  cases hr2 : rspans B q 0 with
  | error x =>
    rw [hr2] at hm2
    have he : e2 = wrongAt x := hm2
    subst he
    unfold wrongAt
    have HE1 := HE.out
    rw [hr2, rb_err] at HE1
    try dsimp only
    refine ⟨rfl, HA2.out, ?_⟩
    rw [HE1]
    rfl
  | ok t =>
    obtain ⟨l, q2⟩ := t
    rw [hr2] at hm2
    obtain ⟨⟨v2, hev2, hv2⟩, hrb2⟩ := hm2
    subst hev2
    have HR2 := hid hrb2
    have HE1 := HE.out
    rw [hr2, rb_ok] at HE1
    replace HE := hid HE1
    have HP2 := hid hr2
    clear HE1 hrb2 hr2
    obtain ⟨s, hvs, hvr⟩ := hv2
    have HV2 : Hid (VSet wB l (.slice s.p s.n s.c) w2) := ⟨s, rfl, hvr⟩
    subst hvs
    clear hvr
    try dsimp only
    go_wp2_with fail
    go_ret
    refine ⟨HA2.out, ?_⟩
    rw [HE.out]
    exact ⟨⟨_, rfl, HV2.out⟩, HR2.out⟩
/-- the set of a kind of message: without bits in a MsgTell -/
noncomputable def rsetOf (B : List Nat) (q kind : Nat) : Except Nat (List S × Nat) := if kind = 5 then rbases B q else rset B q
set_option maxHeartbeats 8000000 in
set_option maxRecDepth 100000 in
theorem setOf_ok {wB w : World} {R : Nat} {p : Option Addr} {N c : Nat} {B : List Nat} {q : Nat} (h : RB wB w R p N c B q) (kind : Nat) :
    Calls Tryz.prog 68 #[.pointer (some ⟨R, 0, none⟩), .int .i64 (kind : Nat)] w fun e w' => OutR wB w w' R p N c B e (rsetOf B q kind) (VSet wB) := by
  have HRB := hid h
  clear h
  by_cases h5 : kind = 5
  · have h5i : ((kind : Nat) : Int) = 5 := by omega
    have HE : Hid (rsetOf B q kind = rb (rbases B q) (fun a q => .ok (a, q))) := by unfold Hid rsetOf; rw [if_pos h5, rb_id]
    go_enter Tryz.func68, Tryz.ntmps68
    go_wp2_with fail
    refine (bases_wire HRB.out).mono ?_
    rintro e2 w2 ⟨ha2, hm2⟩
    have HA2 : Hid (Apart [R] w w2) := ha2
    have HS2 := hid ha2
    clear ha2
    cases hr2 : rbases B q with
    | error x =>
      rw [hr2] at hm2
      have he : e2 = wrongAt x := hm2
      subst he
      unfold wrongAt
      have HE1 := HE.out
      rw [hr2, rb_err] at HE1
      try dsimp only
      refine ⟨rfl, HA2.out, ?_⟩
      rw [HE1]
      rfl
    | ok t =>
      obtain ⟨l, q2⟩ := t
      rw [hr2] at hm2
      obtain ⟨⟨v2, hev2, hv2⟩, hrb2⟩ := hm2
      subst hev2
      have HR2 := hid hrb2
      have HE1 := HE.out
      rw [hr2, rb_ok] at HE1
      replace HE := hid HE1
      have HP2 := hid hr2
      clear HE1 hrb2 hr2
      obtain ⟨s, hvs, hvr⟩ := hv2
      have HV2 : Hid (VSet wB l (.slice s.p s.n s.c) w2) := ⟨s, rfl, hvr⟩
      subst hvs
      clear hvr
      try dsimp only
      go_wp2_with fail
      go_ret
      refine ⟨HA2.out, ?_⟩
      rw [HE.out]
      exact ⟨⟨_, rfl, HV2.out⟩, HR2.out⟩
  · have h5i : ¬ ((kind : Nat) : Int) = 5 := by omega
    have HE : Hid (rsetOf B q kind = rb (rset B q) (fun a q => .ok (a, q))) := by unfold Hid rsetOf; rw [if_neg h5, rb_id]
    go_enter Tryz.func68, Tryz.ntmps68
    go_wp2_with fail
    refine (set_ok HRB.out).mono ?_
    rintro e2 w2 ⟨ha2, hm2⟩
    have HA2 : Hid (Apart [R] w w2) := ha2
    have HS2 := hid ha2
    clear ha2
    cases hr2 : rset B q with
    | error x =>
      rw [hr2] at hm2
      have he : e2 = wrongAt x := hm2
      subst he
      unfold wrongAt
      have HE1 := HE.out
      rw [hr2, rb_err] at HE1
      try dsimp only
      refine ⟨rfl, HA2.out, ?_⟩
      rw [HE1]
      rfl
    | ok t =>
      obtain ⟨l, q2⟩ := t
      rw [hr2] at hm2
      obtain ⟨⟨v2, hev2, hv2⟩, hrb2⟩ := hm2
      subst hev2
      have HR2 := hid hrb2
      have HE1 := HE.out
      rw [hr2, rb_ok] at HE1
      replace HE := hid HE1
      have HP2 := hid hr2
      clear HE1 hrb2 hr2
      obtain ⟨s, hvs, hvr⟩ := hv2
      have HV2 : Hid (VSet wB l (.slice s.p s.n s.c) w2) := ⟨s, rfl, hvr⟩
      subst hvs
      clear hvr
      try dsimp only
      go_wp2_with fail
      go_ret
      refine ⟨HA2.out, ?_⟩
      rw [HE.out]
      exact ⟨⟨_, rfl, HV2.out⟩, HR2.out⟩
/-- does a dot stand behind another one? -/
def risW (an ac n c : Int) : Bool := decide (an < n) || (decide (an = n) && decide (ac < c))
set_option maxRecDepth 100000 in
theorem rises_ok (an ac n c : Int) (w : World) : Calls Tryz.prog 107 #[.agg #[.int .i64 an, .int .i64 ac], .agg #[.int .i64 n, .int .i64 c]] w fun r w' => r = .returned (.bool (risW an ac n c)) ∧ Apart [] w w' := by
  by_cases h1 : an < n
  · have HR : Hid (risW an ac n c = true) := by unfold Hid risW; simp [h1]
    have h1i : n > an := h1
    go_enter Tryz.func107, Tryz.ntmps107
    go_wp2_with fail
    go_ret
    exact ⟨by rw [HR.out]; rfl, ((Apart.refl [] w).alloc _).alloc _⟩
  · have h1i : ¬ n > an := h1
    by_cases h2 : n = an
    · subst h2
      by_cases h3 : ac < c
      · have HR : Hid (risW n ac n c = true) := by unfold Hid risW; simp [h3]
        have h3i : c > ac := h3
        go_enter Tryz.func107, Tryz.ntmps107
        go_wp2_with fail
        go_ret
        exact ⟨by rw [HR.out]; rfl, ((Apart.refl [] w).alloc _).alloc _⟩
      · have HR : Hid (risW n ac n c = false) := by unfold Hid risW; simp [h3]
        have h3i : ¬ c > ac := h3
        go_enter Tryz.func107, Tryz.ntmps107
        go_wp2_with fail
        go_ret
        exact ⟨by rw [HR.out]; rfl, ((Apart.refl [] w).alloc _).alloc _⟩
    · have HR : Hid (risW an ac n c = false) := by unfold Hid risW; simp [h1, Ne.symm h2]
      go_enter Tryz.func107, Tryz.ntmps107
      go_wp2_with fail
      go_ret
      exact ⟨by rw [HR.out]; rfl, ((Apart.refl [] w).alloc _).alloc _⟩
end Go.Proofs.YtddffdcjhleejaaGreat.ds
