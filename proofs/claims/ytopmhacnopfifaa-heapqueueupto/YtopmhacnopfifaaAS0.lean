import Derived.Test.YtopmhacnopfifaaLS
namespace Go.Proofs.Ytopmhacnopfifaa.tm
open Go.ChangeShapes Go.WideShapes Go.ChangeAt Go.RowKit
set_option linter.unusedVariables false
set_option linter.unusedSimpArgs false
/-- the program's step leaves the document's queue as it was -/
theorem QS.rq1 {w0 w w1 : World} {PB RB m : Nat} {S : Nat → QD} {who : Nat → Option Nat} {N : Nat} (h : QS w0 w PB RB m S who N) (i : Nat) (hi : i < 2) (him : i < m) (hN : N ≤ 1200000) {v' : Value} (c1 : Ch w w1 (S i).Q (S i).H (S i).v v') : Rq w1 RB (i * 3) (rc S) (S i).lv (S i).L (S i).n (S i).nw := by
  have o := h.one i him
  have r := h.rq i hi him hN
  have tid := Qv.ids_tag (w := w) o.tQ o.tH o.tv
  refine ⟨(c1.ap.block RB (lt_of_heap r.hR) (fun m => ?_)).trans r.hR, r.h0, r.h1, r.h2, own_apart r.own c1.ap (fun k hk m => ?_), r.hl⟩
  · have := tid _ m; rw [h.tR] at this; simp at this; omega
  · have := tid _ m; rw [o.tl k hk] at this; simp at this
theorem QS.cellP {w0 w : World} {PB RB m : Nat} {S : Nat → QD} {who : Nat → Option Nat} {N : Nat} (h : QS w0 w PB RB m S who N) {X : World} (a : Apart [] w X) (i : Nat) (hi : i < 2) : X.cell? ⟨PB, i, none⟩ = some (S i).pv := by
  rw [cell_of_row _ _ _ _ _ _ ((a.block PB (lt_of_heap h.hP) (by simp)).trans h.hP)]
  match i, hi with
  | 0, _ => rfl
  | 1, _ => rfl
theorem QS.cellN {w0 w : World} {PB RB m : Nat} {S : Nat → QD} {who : Nat → Option Nat} {N : Nat} (h : QS w0 w PB RB m S who N) {X : World} (a : Apart [] w X) (i : Nat) (hi : i < 2) : X.cell? ⟨RB, i * 3 + 2, none⟩ = some (.int .i64 (S i).nw) := by
  rw [cell_of_row _ _ _ _ _ _ ((a.block RB (lt_of_heap h.hR) (by simp)).trans h.hR)]
  match i, hi with
  | 0, _ => rfl
  | 1, _ => rfl
theorem QS.more {w0 w : World} {PB RB m : Nat} {S : Nat → QD} {who : Nat → Option Nat} {N : Nat} (h : QS w0 w PB RB m S who N) (N' : Nat) (hN : N ≤ N') : QS w0 w PB RB m S who N' :=
  ⟨h.hR, h.tR, h.hP, h.tP, h.one, h.zz, h.old, h.ap, fun i hi => Nat.le_trans (h.bd i hi) hN, h.m2⟩
theorem inc_arm {L : List E} {e : E} (h : Inc L) (hb : ∀ x ∈ L, x.a < e.a) : Inc (L ++ [e]) := by
  unfold Inc
  rw [List.pairwise_append]
  exact ⟨h, List.pairwise_singleton _ _, fun x hx y hy => by simp at hy; subst hy; exact hb x hx⟩
theorem rc_arm (S : Nat → QD) (i : Nat) (hi : i < 2) (Q H : Nat) (v' : Value) (row' : List E) (lv' : Value) (L' : List E) (pv : Value) : ((rc S).setIfInBounds (i * 3 + 1) (.int .i64 (((S i).n + 1 : Nat) : Int))).setIfInBounds (i * 3) lv' = rc (upd S i ⟨Q, H, v', row', (S i).n + 1, (S i).nw, lv', L', pv⟩) := by
  match i, hi with
  | 0, _ => simp [rc, upd]
  | 1, _ => simp [rc, upd]
theorem rc_can (S : Nat → QD) (i : Nat) (hi : i < 2) (Q H : Nat) (v' : Value) (row' : List E) (lv' : Value) (L' : List E) (pv : Value) : (rc S).setIfInBounds (i * 3) lv' = rc (upd S i ⟨Q, H, v', row', (S i).n, (S i).nw, lv', L', pv⟩) := by
  match i, hi with
  | 0, _ => simp [rc, upd]
  | 1, _ => simp [rc, upd]
theorem rc_fire (S : Nat → QD) (i : Nat) (hi : i < 2) (Q H : Nat) (v' : Value) (row' : List E) (lv' : Value) (L' : List E) (pv : Value) (mx : Int) : ((rc S).setIfInBounds (i * 3) lv').setIfInBounds (i * 3 + 2) (.int .i64 mx) = rc (upd S i ⟨Q, H, v', row', (S i).n, mx, lv', L', pv⟩) := by
  match i, hi with
  | 0, _ => simp [rc, upd]
  | 1, _ => simp [rc, upd]
theorem erase_perm : ∀ (l : List E) (k : Nat) (h : k < l.length), (g l k :: l.eraseIdx k).Perm l
  | x :: l, 0, _ => by simp [g]
  | x :: l, k + 1, h => by
    have ih := erase_perm l k (by simpa using h)
    have e : g (x :: l) (k + 1) = g l k := by simp [g]
    rw [e, List.eraseIdx_cons_succ]
    exact (List.Perm.swap x (g l k) _).trans (ih.cons x)
theorem upd_pv (S : Nat → QD) (i : Nat) (s : QD) (h : s.pv = (S i).pv) : ∀ j, (upd S i s j).pv = (S j).pv := by
  intro j
  by_cases e : j = i
  · subst e; rw [upd_same]; exact h
  · rw [upd_other _ _ _ _ e]
theorem step_arm {w0 w w1 w2 : World} {PB RB m : Nat} {S : Nat → QD} {who : Nat → Option Nat} {N : Nat} (h : QS w0 w PB RB m S who N) (i : Nat) (hi : i < 2) (him : i < m) (due kind call : Int)
    (r1 r2 : Ending) (a1 : ArmV w w1 r1 (S i).Q (S i).H (S i).v (S i).row (S i).n (S i).nw due kind call) (a2 : RArm w1 w2 r2 RB (i * 3) (rc S) (S i).lv (S i).L (S i).n (S i).nw due kind call) :
    ∃ S' who', QS w0 w2 PB RB m S' who' (N + 1) ∧ ∀ j, (S' j).pv = (S j).pv := by
  have o := h.one i him
  obtain ⟨_, v', q1, c1⟩ := a1.ex
  obtain ⟨_, lv', q2, ap2, nw2⟩ := a2.ex
  have hm : ∀ x ∈ (S i).L, x.a < ((S i).n : Int) := fun x hx => (o.qv.hm x (o.perm.subset hx)).2.2
  have pm : ((S i).L ++ [(⟨due, ((S i).n : Int) + 1, kind, call, ((S i).n : Int)⟩ : E)]).Perm (rowAdd (S i).row ⟨due, ((S i).n : Int) + 1, kind, call, (S i).n⟩) := (o.perm.append_right _).trans (rowOf_perm _).symm
  have len : (rowAdd (S i).row ⟨due, ((S i).n : Int) + 1, kind, call, (S i).n⟩).length ≤ (S i).n + 1 := by
    rw [← pm.length_eq, List.length_append, o.perm.length_eq]
    have := o.len
    simp; exact this
  obtain ⟨who', hS⟩ := h.both i hi him v' lv' _ _ _ _ q1 c1 _ (rc_arm S i hi _ _ _ _ _ _ _) q2 ap2 nw2.b (inc_arm o.inc hm) pm len (Nat.le_succ N) (by have := h.bd i hi; omega)
  exact ⟨_, who', hS, upd_pv _ _ _ rfl⟩
theorem step_cancel {w0 w w1 w2 : World} {PB RB m : Nat} {S : Nat → QD} {who : Nat → Option Nat} {N : Nat} (h : QS w0 w PB RB m S who N) (i : Nat) (hi : i < 2) (him : i < m) (k : Int)
    (r1 r2 : Ending) (a1 : CanV w w1 r1 (S i).Q (S i).H (S i).v (S i).row (S i).n (S i).nw k) (a2 : RCan w1 w2 r2 RB (i * 3) (rc S) (S i).lv (S i).L (S i).n (S i).nw k) :
    ∃ S' who', QS w0 w2 PB RB m S' who' (N + 1) ∧ ∀ j, (S' j).pv = (S j).pv := by
  have o := h.one i him
  obtain ⟨_, v', q1, c1⟩ := a1.ex
  obtain ⟨_, lv', q2, ap2, nw2⟩ := a2.ex
  obtain ⟨who', hS⟩ := h.both i hi him v' lv' _ _ _ _ q1 c1 _ (rc_can S i hi _ _ _ _ _ _ _) q2 (ap2.mono (by simp [ids])) nw2 (List.Pairwise.filter _ o.inc) (o.perm.filter _) (Nat.le_trans (List.length_filter_le _ _) o.len) (Nat.le_succ N) (by have := h.bd i hi; omega)
  exact ⟨_, who', hS, upd_pv _ _ _ rfl⟩
theorem step_fire {w0 w w1 w2 : World} {PB RB m : Nat} {S : Nat → QD} {who : Nat → Option Nat} {N : Nat} (h : QS w0 w PB RB m S who N) (i : Nat) (hi : i < 2) (him : i < m) (k : Nat) (hk : k < (S i).row.length)
    (r1 r2 : Ending) (a1 : FireV w w1 r1 (S i).Q (S i).H (S i).v (S i).row (S i).n k (S i).nw) (a2 : RFire w1 w2 r2 RB (i * 3) (rc S) (S i).lv (S i).L (S i).row (S i).n k (S i).nw) :
    ∃ S' who', QS w0 w2 PB RB m S' who' (N + 1) ∧ ∀ j, (S' j).pv = (S j).pv := by
  have o := h.one i him
  obtain ⟨_, v', q1, c1⟩ := a1.ex
  obtain ⟨_, lv', q2, ap2, nw2⟩ := a2.ex
  have pe : (g (S i).row k :: (S i).row.eraseIdx k).Perm (S i).row := erase_perm _ k hk
  have pm : (cutN (g (S i).row k).m (S i).L).Perm ((S i).row.eraseIdx k) := (o.perm.filter _).trans (filter_perm pe rfl o.qv.di (fun e he => (o.qv.hm e he).1)).symm
  have len : ((S i).row.eraseIdx k).length ≤ (S i).n := by
    have := o.len
    have := List.length_eraseIdx_le (S i).row k
    omega
  obtain ⟨who', hS⟩ := h.both i hi him v' lv' _ _ _ _ q1 c1 _ (rc_fire S i hi _ _ _ _ _ _ _ _) q2 (ap2.mono (by simp [ids])) nw2 (List.Pairwise.filter _ o.inc) pm len (Nat.le_succ N) (by have := h.bd i hi; omega)
  exact ⟨_, who', hS, upd_pv _ _ _ rfl⟩
theorem can_same {L row : List E} (p : L.Perm row) (k : Int) : ((∀ e ∈ row, e.m ≠ k) → decide ((cutN k L).length < L.length) = false) ∧ ((∃ e ∈ row, e.m = k) → decide ((cutN k L).length < L.length) = true) := by
  constructor
  · intro h
    rw [show cutN k L = L from filter_all (fun e he => h e (p.subset he))]
    simp
  · rintro ⟨e, he, hk⟩
    rw [decide_eq_true_eq]
    refine Nat.lt_of_le_of_ne (List.length_filter_le _ _) (fun hl => ?_)
    have hf := (List.length_filter_eq_length_iff.1 hl) e (p.symm.subset he)
    simp [hk] at hf
end Go.Proofs.Ytopmhacnopfifaa.tm
