import Derived.Test.YtddffdcjhleejaaGreatG1
import Derived.Test.YtddffdcjhleejaaGreatG38
namespace Go.Proofs.YtddffdcjhleejaaGreat.ds
open Go.ChangeShapes Go.WideShapes Go.ChangeAt Go.RowKit Go.Sort
set_option linter.unusedVariables false
set_option linter.unusedSimpArgs false
/-- the document's reader in memory: how far it is, and where something was wrong -/
structure RX (wB w : World) (R : Nat) (p : Option Addr) (N c : Nat) (B : List Nat) (q : Nat) (x : Int) : Prop where
  blk : w.heap[R]? = some (.cells #[.slice p N c, .int .i64 (q : Nat), .int .i64 x] 100 (0, 0))
  rd : Rd w p (byts B)
  len : B.length = N
  lim : N ≤ 1000000
  le : q ≤ N
  cap : N ≤ c
  rdB : Rd wB p (byts B)
  b8 : ∀ b ∈ B, b < 256
  ok : p = none → N = 0 ∧ c = 0
  ap : Apart [] wB w
  xb : wB.heap.size ≤ R
theorem RX.kept {wB w w' : World} {R : Nat} {p : Option Addr} {N c : Nat} {B : List Nat} {q : Nat} {x : Int} (h : RX wB w R p N c B q x) (a : Apart [] w w') : RX wB w' R p N c B q x :=
  { h with blk := (a.block _ (lt_of_heap h.blk) (by simp)).trans h.blk, rd := h.rd.kept0 a, ap := h.ap.trans a }
theorem RX.cells {wB w : World} {R : Nat} {p : Option Addr} {N c : Nat} {B : List Nat} {q : Nat} {x : Int} (h : RX wB w R p N c B q x) : w.cell? ⟨R, 0, none⟩ = some (.slice p N c) ∧ w.cell? ⟨R, 1, none⟩ = some (.int .i64 (q : Nat)) ∧ w.cell? ⟨R, 2, none⟩ = some (.int .i64 x) ∧ w.frozen? ⟨R, 1, none⟩ = false ∧ w.frozen? ⟨R, 2, none⟩ = false := by
  refine ⟨?_, ?_, ?_, frozen_of_row _ _ 1 _ _ h.blk, frozen_of_row _ _ 2 _ _ h.blk⟩
  · rw [cell_of_row _ _ _ _ _ _ h.blk]; rfl
  · rw [cell_of_row _ _ _ _ _ _ h.blk]; rfl
  · rw [cell_of_row _ _ _ _ _ _ h.blk]; rfl
theorem RX.rdset {wB w : World} {R : Nat} {p : Option Addr} {N c : Nat} {B : List Nat} {q : Nat} {x : Int} (h : RX wB w R p N c B q x) (k : Nat) (v : Value) : Rd (w.setCell ⟨R, k, none⟩ v) p (byts B) := by
  have a : Apart [R] w (w.setCell ⟨R, k, none⟩ v) := (Apart.refl _ _).setCell (.inl (by simp)) _
  intro h0
  obtain ⟨P, o, e, hP, hc⟩ := h.rd h0
  exact ⟨P, o, e, Nat.lt_of_lt_of_le hP a.size, fun j v hj => (a.cell hP (by obtain ⟨P', o', e', hP', _⟩ := h.rdB h0; rw [e] at e'; cases e'; have := h.xb; simp; omega)).trans (hc j v hj)⟩
theorem RX.move {wB w : World} {R : Nat} {p : Option Addr} {N c : Nat} {B : List Nat} {q : Nat} {x : Int} (h : RX wB w R p N c B q x) (q2 : Nat) (hq : q2 ≤ N) : RX wB (w.setCell ⟨R, 1, none⟩ (.int .i64 (q2 : Nat))) R p N c B q2 x := by
  refine { h with blk := ?_, rd := h.rdset _ _, le := hq, ap := h.ap.setCell (.inr h.xb) _ }
  have := heap_setCell_same w R 1 _ 100 (.int .i64 (q2 : Nat)) h.blk
  simpa using this
theorem RX.bad {wB w : World} {R : Nat} {p : Option Addr} {N c : Nat} {B : List Nat} {q : Nat} {x : Int} (h : RX wB w R p N c B q x) (y : Int) : RX wB (w.setCell ⟨R, 2, none⟩ (.int .i64 y)) R p N c B q y := by
  refine { h with blk := ?_, rd := h.rdset _ _, ap := h.ap.setCell (.inr h.xb) _ }
  have := heap_setCell_same w R 2 _ 100 (.int .i64 y) h.blk
  simpa using this
theorem RX.byte {wB w : World} {R : Nat} {p : Option Addr} {N c : Nat} {B : List Nat} {q : Nat} {x : Int} (h : RX wB w R p N c B q x) (i : Nat) (hi : i < N) : ∃ P o, p = some ⟨P, o, none⟩ ∧ P < w.heap.size ∧ w.cell? ⟨P, o + i, none⟩ = some (.int .u8 ((B.getD i 0 : Nat) : Int)) := by
  have hl := h.len
  obtain ⟨P, o, e, hP, hc⟩ := h.rd (by simp [byts]; omega)
  refine ⟨P, o, e, hP, hc i _ ?_⟩
  rw [byts, List.getElem?_map, List.getElem?_eq_getElem (by omega), List.getD_eq_getElem?_getD, List.getElem?_eq_getElem (by omega)]
  rfl
set_option maxRecDepth 100000 in
/-- wrong: the first one stands -/
theorem rwrong_no {wB w : World} {R : Nat} {p : Option Addr} {N c : Nat} {B : List Nat} {q : Nat} {x : Int} (h : RX wB w R p N c B q x) (hx : 0 ≤ x) (y : Int) : Calls Tryz.prog 50 #[.pointer (some ⟨R, 0, none⟩), .int .i64 y] w fun e w' => e = .returned (.tuple #[]) ∧ w' = w := by
  obtain ⟨z0, z1, z2, z3, z4⟩ := h.cells
  have h1 : ¬ x < 0 := by omega
  clear h
  go_enter Tryz.func50, Tryz.ntmps50
  go_wp2_with fail
  first | go_end0 | skip
  exact ⟨rfl, rfl⟩
set_option maxRecDepth 100000 in
theorem rwrong_yes {wB w : World} {R : Nat} {p : Option Addr} {N c : Nat} {B : List Nat} {q : Nat} (h : RX wB w R p N c B q (-1)) (y : Int) : Calls Tryz.prog 50 #[.pointer (some ⟨R, 0, none⟩), .int .i64 y] w fun e w' => e = .returned (.tuple #[]) ∧ Apart [R] w w' ∧ RX wB w' R p N c B q y := by
  obtain ⟨z0, z1, z2, z3, z4⟩ := h.cells
  have HF := hid (h.bad y)
  have HA : Hid (Apart [R] w (w.setCell ⟨R, 2, none⟩ (.int .i64 y))) := (Apart.refl _ _).setCell (.inl (by simp)) _
  clear h
  go_enter Tryz.func50, Tryz.ntmps50
  go_wp2_with fail
  first | go_end0 | skip
  exact ⟨rfl, HA.out, HF.out⟩
/-- what a call of the document's reader leaves -/
def OutX {α : Type} (wB w w' : World) (R : Nat) (p : Option Addr) (N c : Nat) (B : List Nat) (e : Ending) (r : Except Nat (α × Nat)) (V : α → Value → World → Prop) (U : Value → World → Prop) : Prop :=
  Apart [R] w w' ∧ match r with
  | .ok (a, q) => (∃ v, e = .returned v ∧ V a v w') ∧ RX wB w' R p N c B q (-1)
  | .error x => (∃ v, e = .returned v ∧ U v w') ∧ ∃ q, RX wB w' R p N c B q (x : Nat)
def UN (v : Value) (w : World) : Prop := ∃ n : Nat, n < 18446744073709551616 ∧ v = .int .u64 (n : Nat)
set_option maxRecDepth 100000 in
theorem rnumber_bad {wB w : World} {R : Nat} {p : Option Addr} {N c : Nat} {B : List Nat} {q : Nat} {x : Int} (h : RX wB w R p N c B q x) (hx : 0 ≤ x) (lo hi : Int) : Calls Tryz.prog 91 #[.pointer (some ⟨R, 0, none⟩), .int .u64 lo, .int .u64 hi] w fun e w' => e = .returned (.int .u64 0) ∧ w' = w := by
  obtain ⟨z0, z1, z2, z3, z4⟩ := h.cells
  have h1 : ¬ x < 0 := by omega
  clear h
  go_enter Tryz.func91, Tryz.ntmps91
  go_wp2_with fail
  go_loopw [8, 9] (fun a b wt => a = .int .u64 0 ∧ b = .int .i64 0 ∧ wt = w) (fun _ _ _ => 0)
  case atStart => exact ⟨rfl, rfl, rfl⟩
  case round =>
    obtain ⟨rfl, rfl, hw⟩ := hrel
    rw [hw]
    clear hw
    go_wp2_with fail
    go_ret
    exact ⟨rfl, rfl⟩
theorem add_shl (acc d i : Nat) (ha : acc < 2 ^ (7 * i)) (hs : d % 128 * 2 ^ (7 * i) < 18446744073709551616) (h2 : acc + d % 128 * 2 ^ (7 * i) < 18446744073709551616) : IntKind.u64.wrap ((acc : Int) + IntKind.u64.wrap ((d : Int) % 128 * 2 ^ (7 * i))) = ((acc ||| (d % 128) <<< (7 * i) % 18446744073709551616 : Nat) : Int) := by
  rw [or_add acc (d % 128) (7 * i) ha hs]
  generalize hz : 2 ^ (7 * i) = z at *
  have hz2 : (2 : Int) ^ (7 * i) = (z : Int) := by rw [← hz]; simp
  rw [hz2, show ((d : Int) % 128) = ((d % 128 : Nat) : Int) from by omega, ← Int.natCast_mul]
  generalize d % 128 * z = y at *
  rw [IntKind.wrap_u64, IntKind.wrap_u64]
  omega
set_option maxHeartbeats 8000000 in
set_option maxRecDepth 100000 in
theorem rnumber_ok {wB w : World} {R : Nat} {p : Option Addr} {N c : Nat} {B : List Nat} {q : Nat} (h : RX wB w R p N c B q (-1)) (lo hi : Nat) (hlo : lo < 18446744073709551616) (hhi : hi < 18446744073709551616) :
    Calls Tryz.prog 91 #[.pointer (some ⟨R, 0, none⟩), .int .u64 (lo : Nat), .int .u64 (hi : Nat)] w fun e w' => OutX wB w w' R p N c B e (rbound B q lo hi) (fun a v _ => v = .int .u64 (a : Nat)) UN := by
  have HRB := hid h
  have HLen : Hid (B.length = N) := h.len
  obtain ⟨z0, z1, z2, z3, z4⟩ := h.cells
  clear h
  go_enter Tryz.func91, Tryz.ntmps91
  go_wp2_with fail
  clear z0 z1 z2 z3 z4
  go_loopw [8, 9] (fun a b wt => ∃ (i r acc : Nat), a = .int .u64 (acc : Nat) ∧ b = .int .i64 (i : Nat) ∧ i ≤ 9 ∧ acc < 2 ^ (7 * i) ∧ RX wB wt R p N c B r (-1) ∧ Apart [R] w wt ∧ rnum B 10 0 q 0 = rnum B (10 - i) i r acc) (fun _ b _ => 10 - (intOf b).toNat)
  case atStart => exact ⟨0, q, 0, rfl, rfl, by omega, by simp, HRB.out, Apart.refl _ _, rfl⟩
  case round =>
    obtain ⟨i, r, acc, rfl, rfl, hi9, hacc0, hrb, hap, heq⟩ := hrel
    have HR := hid hrb
    have HA := hid hap
    have HEQ := hid heq
    have HACC := hid hacc0
    have hp7 := pow7_le i hi9
    have hacc : acc < 9223372036854775808 := by omega
    clear hrb hap heq hacc0 hp7
    have hlim := HR.out.lim
    have hcap := HR.out.cap
    have hi10 : ((i : Nat) : Int) < 10 := by omega
    obtain ⟨z0, z1, z2, z3, z4⟩ := HR.out.cells
    go_upto_region 6 with fail
    clear z0 z1 z2 z3 z4
    have HRd := hid (HR.out.kept (Apart.refl [] wr).drew)
    have HAd : Hid (Apart [R] w wr.drew) := HA.out.drew
    refine wp_region_held_drew (S := fun W => W.heap[R]? = some (.cells #[.slice p N c, .int .i64 (r : Nat), .int .i64 (-1)] 100 (0, 0)) ∧ True) (by kernel_rfl) ⟨HRd.out.blk, trivial⟩ (fun hHeld => ?_)
    generalize wr.drew = wd at *
    by_cases hlt : r < N
    · have hge : ¬ ((r : Nat) : Int) ≥ (N : Int) := by omega
      refine tkn 0 26 (.pointer (some ⟨R, 0, none⟩)) rfl ?_ ?_
      · intro W hSW; go_simp
      refine tkn 1 27 (.pointer (some ⟨R, 0, none⟩)) rfl ?_ ?_
      · intro W hSW; go_simp
      refine tkn 2 28 (.pointer (some ⟨R, 1, none⟩)) rfl ?_ ?_
      · intro W hSW; go_simp
      refine tkn 3 29 (.int .i64 (r : Nat)) rfl ?_ ?_
      · intro W hSW; obtain ⟨x0, x1, x2⟩ := row3v hSW.1; go_simp
      refine tkn 4 30 (.pointer (some ⟨R, 0, none⟩)) rfl ?_ ?_
      · intro W hSW; go_simp
      refine tkn 5 31 (.pointer (some ⟨R, 0, none⟩)) rfl ?_ ?_
      · intro W hSW; go_simp
      refine tkn 6 32 (.pointer (some ⟨R, 0, none⟩)) rfl ?_ ?_
      · intro W hSW; go_simp
      refine tkn 7 33 (.slice p N c) rfl ?_ ?_
      · intro W hSW; obtain ⟨x0, x1, x2⟩ := row3v hSW.1; go_simp
      refine tkn 8 34 (.int .i64 (N : Nat)) rfl ?_ ?_
      · intro W hSW; go_simp
      refine tkn 9 35 (.bool false) rfl ?_ ?_
      · intro W hSW; go_simp
      refine wpAnyH_done (by kernel_rfl) ?_ _
      clear hHeld
      obtain ⟨P, o, hP, hPl, hb⟩ := HRd.out.byte r hlt
      have HB8 : Hid (B.getD r 0 < 256) := by
        unfold Hid
        rw [List.getD_eq_getElem?_getD, List.getElem?_eq_getElem (by rw [HLen.out]; exact hlt)]
        exact HR.out.b8 _ (List.getElem_mem _)
      have hb8 := HB8.out
      have HST : Hid (rnum B (10 - i) i r acc = if i = 9 then .ok (acc ||| (B.getD r 0 % 128) <<< (7 * i) % 18446744073709551616, decide (B.getD r 0 = 1), r + 1) else if B.getD r 0 < 128 then .ok (acc ||| (B.getD r 0 % 128) <<< (7 * i) % 18446744073709551616, decide (B.getD r 0 ≠ 0) || decide (i = 0), r + 1) else rnum B (9 - i) (i + 1) (r + 1) (acc ||| (B.getD r 0 % 128) <<< (7 * i) % 18446744073709551616)) := by
        unfold Hid
        rw [show 10 - i = (9 - i) + 1 from by omega, rnum, if_pos (by rw [HLen.out]; exact hlt)]
      generalize B.getD r 0 = d at *
      subst hP
      have HCELL := hid hb
      clear hb
      go_upto_region 9 with fail
      have HRe := hid (HRd.out.kept (Apart.refl [] wd).drew)
      have HAe : Hid (Apart [R] w wd.drew) := HAd.out.drew
      have HCe : Hid (wd.drew.cell? ⟨P, o + r, none⟩ = some (.int .u8 (d : Nat))) := HCELL.out
      refine wp_region_held_drew (S := fun W => W.heap[R]? = some (.cells #[.slice (some ⟨P, o, none⟩) N c, .int .i64 (r : Nat), .int .i64 (-1)] 100 (0, 0)) ∧ W.cell? ⟨P, o + r, none⟩ = some (.int .u8 (d : Nat))) (by kernel_rfl) ⟨HRe.out.blk, HCe.out⟩ (fun hHeld => ?_)
      generalize wd.drew = we at *
      refine tkn 0 43 (.pointer (some ⟨R, 0, none⟩)) rfl ?_ ?_
      · intro W hSW; go_simp
      refine tkn 1 44 (.pointer (some ⟨R, 0, none⟩)) rfl ?_ ?_
      · intro W hSW; go_simp
      refine tkn 2 45 (.pointer (some ⟨R, 0, none⟩)) rfl ?_ ?_
      · intro W hSW; go_simp
      refine tkn 3 46 (.slice (some ⟨P, o, none⟩) N c) rfl ?_ ?_
      · intro W hSW; obtain ⟨x0, x1, x2⟩ := row3v hSW.1; go_simp
      refine tkn 4 47 (.pointer (some ⟨R, 0, none⟩)) rfl ?_ ?_
      · intro W hSW; go_simp
      refine tkn 5 48 (.pointer (some ⟨R, 0, none⟩)) rfl ?_ ?_
      · intro W hSW; go_simp
      refine tkn 6 49 (.pointer (some ⟨R, 1, none⟩)) rfl ?_ ?_
      · intro W hSW; go_simp
      refine tkn 7 50 (.int .i64 (r : Nat)) rfl ?_ ?_
      · intro W hSW; obtain ⟨x0, x1, x2⟩ := row3v hSW.1; go_simp
      refine tkn 8 51 (.pointer (some ⟨P, o + r, none⟩)) rfl ?_ ?_
      · intro W hSW; go_simp
      refine tkn 9 52 (.int .u8 (d : Nat)) rfl ?_ ?_
      · intro W hSW; have hb := hSW.2; go_simp
      refine tkn 10 10 (.int .u8 (d : Nat)) rfl ?_ ?_
      · intro W hSW; go_simp
      refine wpAnyH_done (by kernel_rfl) ?_ _
      clear hHeld
      obtain ⟨z0, z1, z2, z3, z4⟩ := HRe.out.cells
      have HR2 : Hid (RX wB (we.setCell ⟨R, 1, none⟩ (.int .i64 ((r : Int) + 1))) R (some ⟨P, o, none⟩) N c B (r + 1) (-1)) := HRe.out.move (r + 1) (by omega)
      have HA2 : Hid (Apart [R] w (we.setCell ⟨R, 1, none⟩ (.int .i64 ((r : Int) + 1)))) := HAe.out.setCell (.inl (by simp)) _
      have hw0 : IntKind.i64.wrap ((r : Int) + 1) = (r : Int) + 1 := by rw [IntKind.wrap_i64]; omega
      go_upto_region 11 with fail
      clear z0 z1 z2 z3 z4
      generalize we.setCell ⟨R, 1, none⟩ (.int .i64 ((r : Int) + 1)) = w2 at *
      have HZ8 : Hid (i ≤ 8 → 2 ^ (7 * i) ≤ 72057594037927936) := fun h8 => by
        have := Nat.pow_le_pow_right (n := 2) (by omega) (show 7 * i ≤ 56 by omega)
        have e : 2 ^ 56 = 72057594037927936 := by decide
        omega
      have HZ9 : Hid (2 ^ (7 * i) ≤ 9223372036854775808) := pow7_le i hi9
      have HP7 := hid (pow7 i)
      obtain ⟨a2, Ha2⟩ : ∃ a2, Hid (a2 = acc ||| (d % 128) <<< (7 * i) % 18446744073709551616) := ⟨_, rfl⟩
      rw [← Ha2.out] at HST
      by_cases hn : i = 9 ∧ d ≠ 1
      · obtain ⟨h9, h1⟩ := hn
        have h9i : ((i : Nat) : Int) = 9 := by omega
        have h1i : ¬ ((d : Nat) : Int) = 1 := by omega
        have HF : Hid (rbound B q lo hi = .error q) := by
          unfold Hid rbound rnumber
          rw [HEQ.out, HST.out, if_pos h9]
          simp [h1]
        subst h9
        go_wp2_with fail
        refine (rwrong_yes HR2.out (q : Nat)).mono ?_
        rintro _ w3 ⟨rfl, ha3, hr3⟩
        have HA3 : Hid (Apart [R] w w3) := HA2.out.trans ha3
        have HR3 := hid hr3
        clear ha3 hr3
        try dsimp only
        go_wp2_with fail
        go_ret
        refine ⟨HA3.out, ?_⟩
        rw [HF.out]
        exact ⟨⟨_, rfl, 0, by omega, rfl⟩, _, HR3.out⟩
      · have HN9 : Hid (i = 9 → d = 1) := fun h9 => by by_cases h1 : d = 1; exact h1; exact absurd ⟨h9, h1⟩ hn
        have HSM : Hid (d % 128 * 2 ^ (7 * i) < 18446744073709551616 ∧ acc + d % 128 * 2 ^ (7 * i) < 18446744073709551616) := by
          unfold Hid
          by_cases h9 : i = 9
          · have := HN9.out h9
            subst this
            have := HZ9.out
            omega
          · have h8 := HZ8.out (by omega)
            have hm : d % 128 * 2 ^ (7 * i) ≤ 127 * 2 ^ (7 * i) := Nat.mul_le_mul_right _ (by omega)
            omega
        have HADD : Hid (IntKind.u64.wrap ((acc : Int) + IntKind.u64.wrap ((d : Int) % 128 * 2 ^ (7 * i))) = (a2 : Int)) := by unfold Hid; rw [Ha2.out]; exact add_shl acc d i HACC.out HSM.out.1 HSM.out.2
        have HA2v : Hid (a2 = acc + d % 128 * 2 ^ (7 * i)) := by unfold Hid; rw [Ha2.out]; exact or_add acc (d % 128) (7 * i) HACC.out HSM.out.1
        have ha64 : a2 < 18446744073709551616 := by rw [HA2v.out]; exact HSM.out.2
        by_cases h9 : i = 9
        · have h1 := HN9.out h9
          have h9i : ((i : Nat) : Int) = 9 := by omega
          have h1i : ((d : Nat) : Int) = 1 := by omega
          go_upto_region 15 with fail
          have HAc : Hid ((acc : Int) + 9223372036854775808 = (a2 : Int)) := by
            unfold Hid
            rw [HA2v.out, h9, h1]
            have e : 2 ^ (7 * 9) = 9223372036854775808 := by decide
            rw [e]
            omega
          rw [HAc.out]
          have HF : Hid (rbound B q lo hi = if (d ≠ 0 ∨ i = 0) ∧ lo ≤ a2 ∧ a2 ≤ hi then .ok (a2, r + 1) else .error q) := by
            unfold Hid rbound rnumber
            rw [HEQ.out, HST.out, if_pos h9]
            simp [h1]
          by_cases hl : a2 < lo
          · have hli : ((a2 : Nat) : Int) < ((lo : Nat) : Int) := by omega
            go_wp2_with fail
            refine (rwrong_yes HR2.out (q : Nat)).mono ?_
            rintro _ w3 ⟨rfl, ha3, hr3⟩
            have HA3 : Hid (Apart [R] w w3) := HA2.out.trans ha3
            have HR3 := hid hr3
            clear ha3 hr3
            try dsimp only
            go_wp2_with fail
            go_ret
            refine ⟨HA3.out, ?_⟩
            rw [HF.out, if_neg (fun k => by have := k.2.1; omega)]
            exact ⟨⟨_, rfl, a2, ha64, rfl⟩, _, HR3.out⟩
          · have hli : ¬ ((a2 : Nat) : Int) < ((lo : Nat) : Int) := by omega
            by_cases hh : hi < a2
            · have hhi2 : ((a2 : Nat) : Int) > ((hi : Nat) : Int) := by omega
              go_wp2_with fail
              refine (rwrong_yes HR2.out (q : Nat)).mono ?_
              rintro _ w3 ⟨rfl, ha3, hr3⟩
              have HA3 : Hid (Apart [R] w w3) := HA2.out.trans ha3
              have HR3 := hid hr3
              clear ha3 hr3
              try dsimp only
              go_wp2_with fail
              go_ret
              refine ⟨HA3.out, ?_⟩
              rw [HF.out, if_neg (fun k => by have := k.2.2; omega)]
              exact ⟨⟨_, rfl, a2, ha64, rfl⟩, _, HR3.out⟩
            · have hhi2 : ¬ ((a2 : Nat) : Int) > ((hi : Nat) : Int) := by omega
              go_wp2_with fail
              go_ret
              refine ⟨HA2.out, ?_⟩
              rw [HF.out, if_pos ⟨.inl (by omega), by omega, by omega⟩]
              exact ⟨⟨_, rfl, rfl⟩, HR2.out⟩
        · have h9i : ¬ ((i : Nat) : Int) = 9 := by omega
          go_upto_region 14 with fail
          go_cut [8] from 69 to 76 (fun s wx => s = .int .u64 (a2 : Nat) ∧ wx = w2)
          · have hw1 : IntKind.i64.wrap (7 * (i : Int)) = ((7 * i : Nat) : Int) := by rw [IntKind.wrap_i64]; omega
            go_wp2_with fail
            go_meet
            exact ⟨by rw [HADD.out], rfl⟩
          obtain ⟨rfl, hww⟩ := hcut
          rw [hww]
          clear hww
          by_cases h128 : d < 128
          · have h128i : ((d : Nat) : Int) < 128 := by omega
            have HF : Hid (rbound B q lo hi = if (d ≠ 0 ∨ i = 0) ∧ lo ≤ a2 ∧ a2 ≤ hi then .ok (a2, r + 1) else .error q) := by
              unfold Hid rbound rnumber
              rw [HEQ.out, HST.out, if_neg h9, if_pos h128]
              simp
            by_cases h0 : d = 0
            · have h0i : ((d : Nat) : Int) = 0 := by omega
              by_cases hi0 : i = 0
              · have hi0i : ¬ ((i : Nat) : Int) > 0 := by omega
                by_cases hl : a2 < lo
                · have hli : ((a2 : Nat) : Int) < ((lo : Nat) : Int) := by omega
                  go_wp2_with fail
                  refine (rwrong_yes HR2.out (q : Nat)).mono ?_
                  rintro _ w3 ⟨rfl, ha3, hr3⟩
                  have HA3 : Hid (Apart [R] w w3) := HA2.out.trans ha3
                  have HR3 := hid hr3
                  clear ha3 hr3
                  try dsimp only
                  go_wp2_with fail
                  go_ret
                  refine ⟨HA3.out, ?_⟩
                  rw [HF.out, if_neg (fun k => by have := k.2.1; omega)]
                  exact ⟨⟨_, rfl, a2, ha64, rfl⟩, _, HR3.out⟩
                · have hli : ¬ ((a2 : Nat) : Int) < ((lo : Nat) : Int) := by omega
                  by_cases hh : hi < a2
                  · have hhi2 : ((a2 : Nat) : Int) > ((hi : Nat) : Int) := by omega
                    go_wp2_with fail
                    refine (rwrong_yes HR2.out (q : Nat)).mono ?_
                    rintro _ w3 ⟨rfl, ha3, hr3⟩
                    have HA3 : Hid (Apart [R] w w3) := HA2.out.trans ha3
                    have HR3 := hid hr3
                    clear ha3 hr3
                    try dsimp only
                    go_wp2_with fail
                    go_ret
                    refine ⟨HA3.out, ?_⟩
                    rw [HF.out, if_neg (fun k => by have := k.2.2; omega)]
                    exact ⟨⟨_, rfl, a2, ha64, rfl⟩, _, HR3.out⟩
                  · have hhi2 : ¬ ((a2 : Nat) : Int) > ((hi : Nat) : Int) := by omega
                    go_wp2_with fail
                    go_ret
                    refine ⟨HA2.out, ?_⟩
                    rw [HF.out, if_pos ⟨.inr hi0, by omega, by omega⟩]
                    exact ⟨⟨_, rfl, rfl⟩, HR2.out⟩
              · have hi0i : ((i : Nat) : Int) > 0 := by omega
                go_wp2_with fail
                refine (rwrong_yes HR2.out (q : Nat)).mono ?_
                rintro _ w3 ⟨rfl, ha3, hr3⟩
                have HA3 : Hid (Apart [R] w w3) := HA2.out.trans ha3
                have HR3 := hid hr3
                clear ha3 hr3
                try dsimp only
                go_wp2_with fail
                go_ret
                refine ⟨HA3.out, ?_⟩
                rw [HF.out, if_neg (fun k => by have := k.1; omega)]
                exact ⟨⟨_, rfl, a2, ha64, rfl⟩, _, HR3.out⟩
            · have h0i : ¬ ((d : Nat) : Int) = 0 := by omega
              by_cases hl : a2 < lo
              · have hli : ((a2 : Nat) : Int) < ((lo : Nat) : Int) := by omega
                go_wp2_with fail
                refine (rwrong_yes HR2.out (q : Nat)).mono ?_
                rintro _ w3 ⟨rfl, ha3, hr3⟩
                have HA3 : Hid (Apart [R] w w3) := HA2.out.trans ha3
                have HR3 := hid hr3
                clear ha3 hr3
                try dsimp only
                go_wp2_with fail
                go_ret
                refine ⟨HA3.out, ?_⟩
                rw [HF.out, if_neg (fun k => by have := k.2.1; omega)]
                exact ⟨⟨_, rfl, a2, ha64, rfl⟩, _, HR3.out⟩
              · have hli : ¬ ((a2 : Nat) : Int) < ((lo : Nat) : Int) := by omega
                by_cases hh : hi < a2
                · have hhi2 : ((a2 : Nat) : Int) > ((hi : Nat) : Int) := by omega
                  go_wp2_with fail
                  refine (rwrong_yes HR2.out (q : Nat)).mono ?_
                  rintro _ w3 ⟨rfl, ha3, hr3⟩
                  have HA3 : Hid (Apart [R] w w3) := HA2.out.trans ha3
                  have HR3 := hid hr3
                  clear ha3 hr3
                  try dsimp only
                  go_wp2_with fail
                  go_ret
                  refine ⟨HA3.out, ?_⟩
                  rw [HF.out, if_neg (fun k => by have := k.2.2; omega)]
                  exact ⟨⟨_, rfl, a2, ha64, rfl⟩, _, HR3.out⟩
                · have hhi2 : ¬ ((a2 : Nat) : Int) > ((hi : Nat) : Int) := by omega
                  go_wp2_with fail
                  go_ret
                  refine ⟨HA2.out, ?_⟩
                  rw [HF.out, if_pos ⟨.inl h0, by omega, by omega⟩]
                  exact ⟨⟨_, rfl, rfl⟩, HR2.out⟩
          · have h128i : ¬ ((d : Nat) : Int) < 128 := by omega
            have HN : Hid (rnum B 10 0 q 0 = rnum B (10 - (i + 1)) (i + 1) (r + 1) a2) := by
              unfold Hid
              rw [HEQ.out, HST.out, if_neg h9, if_neg h128, show 10 - (i + 1) = 9 - i from by omega]
            have HBD : Hid (a2 < 2 ^ (7 * (i + 1))) := by
              unfold Hid
              rw [HA2v.out, HP7.out]
              have h1 := HACC.out
              have hm : d % 128 * 2 ^ (7 * i) ≤ 127 * 2 ^ (7 * i) := Nat.mul_le_mul_right _ (by omega)
              omega
            go_wp2_with fail
            go_roundw
            case rel => exact ⟨i + 1, r + 1, a2, rfl, by go_num, by omega, HBD.out, HR2.out, HA2.out, HN.out⟩
            case measure => simp [intOf]; omega
    · have hge : ((r : Nat) : Int) ≥ (N : Int) := by omega
      refine tkn 0 26 (.pointer (some ⟨R, 0, none⟩)) rfl ?_ ?_
      · intro W hSW; go_simp
      refine tkn 1 27 (.pointer (some ⟨R, 0, none⟩)) rfl ?_ ?_
      · intro W hSW; go_simp
      refine tkn 2 28 (.pointer (some ⟨R, 1, none⟩)) rfl ?_ ?_
      · intro W hSW; go_simp
      refine tkn 3 29 (.int .i64 (r : Nat)) rfl ?_ ?_
      · intro W hSW; obtain ⟨x0, x1, x2⟩ := row3v hSW.1; go_simp
      refine tkn 4 30 (.pointer (some ⟨R, 0, none⟩)) rfl ?_ ?_
      · intro W hSW; go_simp
      refine tkn 5 31 (.pointer (some ⟨R, 0, none⟩)) rfl ?_ ?_
      · intro W hSW; go_simp
      refine tkn 6 32 (.pointer (some ⟨R, 0, none⟩)) rfl ?_ ?_
      · intro W hSW; go_simp
      refine tkn 7 33 (.slice p N c) rfl ?_ ?_
      · intro W hSW; obtain ⟨x0, x1, x2⟩ := row3v hSW.1; go_simp
      refine tkn 8 34 (.int .i64 (N : Nat)) rfl ?_ ?_
      · intro W hSW; go_simp
      refine tkn 9 35 (.bool true) rfl ?_ ?_
      · intro W hSW; go_simp
      refine wpAnyH_done (by kernel_rfl) ?_ _
      clear hHeld
      have HF : Hid (rbound B q lo hi = .error N) := by
        unfold Hid rbound rnumber
        rw [HEQ.out, show 10 - i = (9 - i) + 1 from by omega, rnum, if_neg (by rw [HLen.out]; exact hlt)]
        simp [HLen.out]
      obtain ⟨z0, z1, z2, z3, z4⟩ := HRd.out.cells
      go_wp2_with fail
      refine (rwrong_yes HRd.out (N : Nat)).mono ?_
      rintro _ w3 ⟨rfl, ha3, hr3⟩
      have HA3 : Hid (Apart [R] w w3) := HAd.out.trans ha3
      have HR3 := hid hr3
      clear ha3 hr3 z0 z1 z2 z3 z4
      try dsimp only
      go_wp2_with fail
      go_ret
      refine ⟨HA3.out, ?_⟩
      rw [HF.out]
      exact ⟨⟨_, rfl, 0, by omega, rfl⟩, _, HR3.out⟩
end Go.Proofs.YtddffdcjhleejaaGreat.ds
