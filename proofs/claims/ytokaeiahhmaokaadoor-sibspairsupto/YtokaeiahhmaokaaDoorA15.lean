import Derived.Test.YtokaeiahhmaokaaDoorA14
import Derived.RangeFuncNested
import Derived.RangeFuncBound
import Derived.RangeFuncCalls
import Derived.RangeFuncLeaves
import Derived.Shelf.Abstract
import Derived.Shelf.RegionOpen
import Derived.WalkKit
import Derived.OwnWalkIn
import Derived.TacticsInMore
import Derived.LoopNIn
import Derived.LoopIn
namespace Go.Proofs.YtokaeiahhmaokaaDoor.ds
open Go.ChangeShapes Go.WideShapes Go.ChangeAt Go.RowKit Go.Shelf
set_option linter.unusedVariables false
set_option linter.unusedSimpArgs false
attribute [local go_sem] Oper.semAt_some
/-- the first m of the numbers below N, downward -/
def dn (N : Nat) : Nat → List (Fin N)
  | 0 => []
  | m + 1 => dn N m ++ (if h : N - 1 - m < N then [⟨N - 1 - m, h⟩] else [])
theorem dn_succ (N m : Nat) (h : N - 1 - m < N) : dn N (m + 1) = dn N m ++ [⟨N - 1 - m, h⟩] := by
  show dn N m ++ _ = _; rw [dif_pos h]
theorem dn_len (N : Nat) : ∀ m, (dn N m).length ≤ m
  | 0 => by simp [dn]
  | m + 1 => by
    have := dn_len N m
    unfold dn
    rw [List.length_append]
    split
    · simp; omega
    · simp; omega
theorem dn_pre (N m : Nat) : ∀ k, dn N m <+: dn N (m + k)
  | 0 => List.prefix_refl _
  | k + 1 => (dn_pre N m k).trans (by show dn N (m + k) <+: dn N (m + k) ++ _; exact List.prefix_append _ _)
/-- Backward's box, and the list in it -/
structure BkB (W : World) (Bx : Nat) (p : Option Addr) (N cap : Nat) (es : List E) : Prop where
  c : W.cell? ⟨Bx, 0, none⟩ = some (.slice p N cap)
  l : LE W p N es
theorem BkB.kept {W W' : World} {Bx : Nat} {p : Option Addr} {N cap : Nat} {es : List E} (h : BkB W Bx p N cap es) (a : Apart [] W W') : BkB W' Bx p N cap es := ⟨(a.cell (block_lt_of_cell h.c) (by simp)).trans h.c, h.l.kept0 a⟩
set_option maxRecDepth 100000 in
set_option maxHeartbeats 4000000 in
theorem back1_in (n : Nat) (hn : 2 ≤ n) (l Bx : Nat) (p : Option Addr) (N cap : Nat) (es : List E) (J Jx : List (Fin N) → World → Prop) (Kp : World → World → Prop)
    (hKp : ∀ A B, Kp A B → BkB A Bx p N cap es → BkB B Bx p N cap es) (hJ : ∀ pre A B, J pre A → Apart [] A B → J pre B)
    (hY : ∀ pre (c : Fin N) W, J pre W → pre.length < N → YieldAt Fence.wide (n - 1) Tryd.prog l #[.int .i64 (c.1 : Nat), (gE es c.1).agg] W fun e W' =>
      (e = .returned (.bool true) ∧ J (pre ++ [c]) W' ∧ Kp W W') ∨ (e = .returned (.bool false) ∧ Jx (pre ++ [c]) W'))
    (W : World) (b : BkB W Bx p N cap es) (h0 : J [] W) :
    CallsIn Fence.wide n Tryd.prog 115 #[.func (.yield l) #[] #[], .pointer (some ⟨Bx, 0, none⟩)] W fun e W' => (∃ v, e = .returned v) ∧
      ((∃ ys, ys = dn N N ∧ J ys W') ∨ (∃ pre, pre <+: dn N N ∧ Jx pre W')) := by
  refine callsIn_of_wp Tryd.func115 rfl trivial ?_ rfl
  simp only [Tryd.ntmps115, List.size_toArray, List.length_cons, List.length_nil, Nat.reduceAdd, Nat.reduceSub, Array.replicate_succ, Array.replicate_zero, List.push_toArray, List.append_toArray, List.nil_append, List.cons_append]
  have hl := b.l.lim
  have c0 := b.c
  have HB := hid b
  have H0 := hid h0
  have HJ := hid hJ
  have HKp := hid hKp
  have HY := hid hY
  clear b h0 hJ hKp hY
  gi_wp2
  gi_loopw [3] (fun v wr => ∃ m : Nat, v = .int .i64 ((N : Int) - 1 - (m : Nat)) ∧ m ≤ N ∧ BkB wr Bx p N cap es ∧ J (dn N m) wr) (fun v _ => (intOf v + 1).toNat)
  case atStart => exact ⟨0, by simp, by omega, HB.out, H0.out⟩
  case round =>
    obtain ⟨m, rfl, hm, b, hJm⟩ := hrel
    have HJm := hid hJm
    have HB' := hid b
    clear hJm c0
    by_cases hlt : m < N
    · have hi : N - 1 - m < N := by omega
      obtain ⟨i, hie⟩ : ∃ i : Nat, i = N - 1 - m := ⟨_, rfl⟩
      have e1 : (N : Int) - 1 - (m : Nat) = ((i : Nat) : Int) := by omega
      rw [e1]
      have hiN : i < N := by omega
      have HIE := hid hie
      have HE1 := hid e1
      obtain ⟨P, o, rfl, hP, hc⟩ := b.l.at (by omega)
      obtain ⟨k0, k1, k2, k3, k4, k5⟩ := hc i hiN
      have c0 := b.c
      have HDN : Hid (dn N (m + 1) = dn N m ++ [⟨i, hiN⟩]) := by
        unfold Hid; rw [dn_succ N m (by omega)]; simp [HIE.out]
      have hYi := HY.out (dn N m) ⟨i, hiN⟩ wr HJm.out (by have := dn_len N m; omega)
      simp only at hYi
      obtain ⟨x, Hx⟩ : ∃ x, Hid (x = gE es i) := ⟨_, rfl⟩
      rw [← Hx.out] at hYi k0 k1 k2 k3 k4 k5
      have HYi := hid hYi
      unfold Sl.v at k4 k5
      clear hc b hYi hie e1 hi
      obtain ⟨fn, tmps, assign, body, hy', hR⟩ := HYi.out
      unfold E.agg Sl.v at hy'
      gi_wp2
      refine ⟨(fun h => by cases h), ?_⟩
      refine hR.mono ?_
      rintro e W3 (⟨rfl, hJ3, hk3⟩ | ⟨rfl, hJx3⟩)
      · dsimp only
        have HK := hid (HKp.out _ _ hk3 HB'.out)
        have HJ3 := hid hJ3
        clear hk3 hJ3 hR hy' k0 k1 k2 k3 k4 k5 c0
        gi_wp2
        go_roundw
        case rel => exact ⟨m + 1, by have := HIE.out; simp; omega, by omega, HK.out, by rw [HDN.out]; exact HJ3.out⟩
        case measure => have := HIE.out; simp only [intOf]; omega
      · dsimp only
        have HJ3 := hid hJx3
        clear hJx3 hR hy' k0 k1 k2 k3 k4 k5 c0
        gi_wp2
        refine bodyPost_ret (results_none rfl _ _ _) rfl ?_
        refine ⟨⟨_, rfl⟩, .inr ⟨_, ?_, HJ3.out⟩⟩
        have := dn_pre N (m + 1) (N - (m + 1))
        rw [show m + 1 + (N - (m + 1)) = N from by omega, HDN.out] at this
        exact this
    · have hmN : m = N := by omega
      subst hmN
      have hJN := HJm.out
      have e1 : (m : Int) - 1 - (m : Nat) = -1 := by omega
      rw [e1]
      gi_wp2
      go_end0
      exact ⟨⟨_, rfl⟩, .inl ⟨_, rfl, HJm.out⟩⟩
theorem Apart.grown {W W' : World} (a : Apart [] W W') : W.grownBy W' none := ⟨a.os, a.tape, a.output, a.size, fun k hk _ => a.block k hk (by simp)⟩
end Go.Proofs.YtokaeiahhmaokaaDoor.ds
namespace Go.Proofs.YtokaeiahhmaokaaDoor.ds
open Go.ChangeShapes Go.WideShapes Go.ChangeAt Go.RowKit Go.Sort
set_option linter.unusedVariables false
set_option linter.unusedSimpArgs false
/-- a place that is newer than a world -/
def NewP (w : World) (q : Option Addr) : Prop := ∀ P o, q = some ⟨P, o, none⟩ → w.heap.size ≤ P
structure UP2 (w w' : World) (r : Ending) (gap : Int) (a xs : List S) : Prop where
  ex : ∃ q n c e, r = .returned (.tuple #[.slice q n c, .int .i64 e]) ∧ Apart [] w w' ∧ ((e = 0 ∧ L w' q n (knowG gap a xs) ∧ NewP w q) ∨ (¬ e = 0 ∧ knowG gap a xs = a))
theorem union_new {w : World} {p q : Option Addr} {N M cap cb : Nat} {xs ys : List S} {gap : Int} (T : Tab w) (h : L w p N xs) (h2 : L w q M ys) : Calls Tryd.prog 102 #[.slice p N cap, .slice q M cb, .int .i64 gap] w fun r w' => UP2 w w' r gap xs ys := by
  by_cases hg : 1 ≤ gap ∧ gap ≤ 64
  · by_cases k : OkL gap xs
    · by_cases k2 : OkL gap ys
      · refine (union_ok gap T h h2 hg k k2).mono (fun r w' hh => ?_)
        obtain ⟨p', n', c', rfl, ho, hn⟩ := hh.ex
        have e : knowG gap xs ys = uni xs ys := by unfold knowG; rw [if_pos ⟨hg, k, k2⟩]
        exact ⟨p', n', c', 0, rfl, ho.ap, .inl ⟨rfl, by rw [e]; exact ho.L (by omega) ((uni_ok k k2 (by omega) hg.2).fit hg.2), fun P o e => ho.new P (by subst e; rfl)⟩⟩
      · refine (union_set2 gap h h2 hg k k2).mono (fun r w' hh => ?_)
        obtain ⟨rfl, a⟩ := hh
        exact ⟨none, 0, 0, 30, rfl, a, .inr ⟨by decide, by unfold knowG; rw [if_neg (fun h => k2 h.2.2)]⟩⟩
    · refine (union_set1 gap h hg k).mono (fun r w' hh => ?_)
      obtain ⟨rfl, a⟩ := hh
      exact ⟨none, 0, 0, 30, rfl, a, .inr ⟨by decide, by unfold knowG; rw [if_neg (fun h => k h.2.1)]⟩⟩
  · refine (union_arg gap hg).mono (fun r w' hh => ?_)
    obtain ⟨rfl, a⟩ := hh
    exact ⟨none, 0, 0, 1, rfl, a, .inr ⟨by decide, by unfold knowG; rw [if_neg (fun h => hg h.1)]⟩⟩
structure KU2 (w wr : World) (u : Value) (acc : List S) : Prop where
  ex : ∃ q n c, u = .slice q n c ∧ L wr q n acc ∧ Apart [] w wr ∧ NewP w q
set_option maxHeartbeats 8000000 in
set_option maxRecDepth 100000 in
theorem unions_new {w : World} {p : Option Addr} {N cap : Nat} {ss : List Sl} {xss : List (List S)} (gap : Int) (T : Tab w) (h : LX w p N ss xss) (hN : N ≤ 1000000) : Calls Tryd.prog 63 #[.int .i64 gap, .slice p N cap] w fun r w' => ∃ u, r = .returned u ∧ KU2 w w' u (unis gap xss) := by
  have HH := hid h
  have HT := hid T
  clear h T
  go_enter Tryd.func63, Tryd.ntmps63
  go_wp2_with fail
  go_loopw [5, 12] (fun u v wr => ∃ i : Nat, v = .int .i64 (i : Nat) ∧ i ≤ N ∧ KU2 w wr u (unis gap (xss.take i))) (fun _ v _ => N - (intOf v).toNat)
  case atStart => exact ⟨0, rfl, Nat.zero_le _, none, 0, 0, rfl, ⟨Sp.nil _ _, rfl, by decide, by simp [unis]⟩, Apart.refl _ _, by intro P o h; cases h⟩
  case round =>
    obtain ⟨i, rfl, hi, hk⟩ := hrel
    obtain ⟨q, n, c, rfl, hL, ha, hnw⟩ := hk.ex
    have HNW := hid hnw
    clear hk hnw
    have HA := hid ha
    have HL := hid hL
    clear ha hL
    by_cases hlt : i < N
    · have hX := HH.out.kept0 HA.out
      obtain ⟨P, o, hp, hP, hc⟩ := hX.rd (by rw [List.length_map, hX.len]; omega)
      have c0 := hc i (gS ss i).v (by rw [List.getElem?_map]; unfold gS; rw [List.getD_eq_getElem?_getD, List.getElem?_eq_getElem (by rw [hX.len]; exact hlt)]; rfl)
      have hU := union_new (gap := gap) (cap := c) (cb := (gS ss i).c) (HT.out.kept0 HA.out) HL.out (hX.l i hlt)
      have HSN := hid (unis_snoc gap xss i (by rw [hX.lx]; exact hlt))
      unfold Sl.v at c0
      generalize gS ss i = s at *
      generalize xss.getD i [] = ys at *
      generalize unis gap (xss.take i) = acc at *
      subst hp
      clear hX hc HH HT
      go_wp2_with fail
      refine hU.mono ?_
      clear hU
      rintro _ w1 hh
      obtain ⟨q1, n1, c1, e1, rfl, a1, hcase⟩ := hh.ex
      clear hh
      have HA1 := hid (HA.out.trans a1)
      have HL1 := hid (HL.out.kept0 a1)
      have HC := hid hcase
      clear a1 hcase
      dsimp only
      by_cases he : e1 = 0
      · have HK : Hid (KU2 w w1 (.slice q1 n1 c1) (unis gap (xss.take (i + 1)))) := by
          rw [HSN.out]
          rcases HC.out with h | h
          · exact ⟨q1, n1, c1, rfl, h.2.1, HA1.out, fun P o e => Nat.le_trans HA.out.size (h.2.2 P o e)⟩
          · exact absurd he h.1
        subst he
        go_wp2_with fail
        go_roundw
        case rel => exact ⟨i + 1, by go_num, by omega, HK.out⟩
        case measure => simp [intOf]; omega
      · have HK : Hid (KU2 w w1 (.slice q n c) (unis gap (xss.take (i + 1)))) := by
          rw [HSN.out]
          rcases HC.out with h | h
          · exact absurd h.1 he
          · rw [h.2]; exact ⟨q, n, c, rfl, HL1.out, HA1.out, HNW.out⟩
        go_wp2_with fail
        go_roundw
        case rel => exact ⟨i + 1, by go_num, by omega, HK.out⟩
        case measure => simp [intOf]; omega
    · obtain rfl : i = N := by omega
      have HK : Hid (KU2 w wr (.slice q n c) (unis gap xss)) := ⟨q, n, c, rfl, by have := HL.out; rwa [List.take_of_length_le (by rw [HH.out.lx]; omega)] at this, HA.out, HNW.out⟩
      go_wp2
      go_ret
      exact ⟨_, rfl, HK.out⟩
end Go.Proofs.YtokaeiahhmaokaaDoor.ds
