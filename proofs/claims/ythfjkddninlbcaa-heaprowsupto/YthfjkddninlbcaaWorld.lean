import Derived.Test.YthfjkddninlbcaaRef3
namespace Go.Proofs.Ythfjkddninlbcaa.hp
open Go.ChangeShapes Go.WideShapes Go.ChangeAt Go.RowKit
set_option linter.unusedVariables false
/-- one heap of the two: the program's, and the document's list -/
structure SD where
  H : Nat
  v : Value
  row : List E
  n : Nat
  lv : Value
  L : List E
  rl : List E
structure HP (w : World) (H : Nat) (v : Value) (row : List E) (n : Nat) : Prop where
  ex : ∃ es, At w H freshF [] v es n ∧ Hp lex es ∧ es.Perm row
  up : Up row
  di : Dist row
structure RP (w : World) (lv : Value) (L rl : List E) : Prop where
  own : w.ownsRow 0 75 2 lv L.length (flat2 L)
  inc : Inc L
  perm : L.Perm rl
  up : Up rl
  di : Dist rl
  hl : L.length ≤ 1200000
theorem HP.kept {w w' : World} {H : Nat} {v : Value} {row : List E} {n : Nat} {X : List Nat} (h : HP w H v row n) (a : Apart X w w') (hx : ∀ k ∈ X, k ≠ H ∧ v.ownBlock ≠ some k) : HP w' H v row n := by
  obtain ⟨es, h1, h2, h3⟩ := h.ex
  exact ⟨⟨es, h1.kept a (fun k hk => ⟨(hx k hk).1, (hx k hk).2, by simp⟩), h2, h3⟩, h.up, h.di⟩
theorem RP.kept {w w' : World} {lv : Value} {L rl : List E} {X : List Nat} (h : RP w lv L rl) (a : Apart X w w') (hx : ∀ k ∈ X, lv.ownBlock ≠ some k) : RP w' lv L rl :=
  { h with own := own_apart h.own a (fun k hk m => hx k m hk) }
theorem HP.typ {w : World} {H : Nat} {v : Value} {row : List E} {n : Nat} (h : HP w H v row n) : (∃ c, w.heap[H]? = some (.cells c 49 (0, 0))) ∧ ∀ k, v.ownBlock = some k → ∃ c, w.heap[k]? = some (.cells c 51 (0, 0)) := by
  obtain ⟨es, h1, _⟩ := h.ex
  exact ⟨⟨_, h1.hh⟩, fun k hk => own_typ h1.own hk⟩
theorem RP.typ {w : World} {lv : Value} {L rl : List E} (h : RP w lv L rl) : ∀ k, lv.ownBlock = some k → ∃ c, w.heap[k]? = some (.cells c 75 (0, 0)) := fun k hk => own_typ h.own hk
def wc (S : Nat → SD) (av : Value) : Array Value := #[.pointer (some ⟨(S 0).H, 0, none⟩), .pointer (some ⟨(S 1).H, 0, none⟩), (S 0).lv, (S 1).lv, av]
structure WS (w0 w : World) (W : Nat) (S : Nat → SD) (av : Value) (A : List E) : Prop where
  hW : w.heap[W]? = some (.cells (wc S av) 61 (0, 0))
  hp : ∀ i, i < 2 → HP w (S i).H (S i).v (S i).row (S i).n
  rp : ∀ i, i < 2 → RP w (S i).lv (S i).L (S i).rl
  all : w.ownsRow 0 28 2 av A.length (flat2 A)
  hA : A.length ≤ 1200000
  neH : ∀ i j, i < 2 → j < 2 → i ≠ j → (S i).H ≠ (S j).H
  neV : ∀ i j, i < 2 → j < 2 → i ≠ j → ∀ k, (S i).v.ownBlock = some k → (S j).v.ownBlock ≠ some k
  neL : ∀ i j, i < 2 → j < 2 → i ≠ j → ∀ k, (S i).lv.ownBlock = some k → (S j).lv.ownBlock ≠ some k
  nW : w0.heap.size ≤ W
  nH : ∀ i, i < 2 → w0.heap.size ≤ (S i).H ∧ (∀ k, (S i).v.ownBlock = some k → w0.heap.size ≤ k) ∧ (∀ k, (S i).lv.ownBlock = some k → w0.heap.size ≤ k)
  nA : ∀ k, av.ownBlock = some k → w0.heap.size ≤ k
  ap : Apart [] w0 w
theorem WS.kept {w0 w w' : World} {W : Nat} {S : Nat → SD} {av : Value} {A : List E} (h : WS w0 w W S av A) (a : Apart [] w w') : WS w0 w' W S av A :=
  { h with
    hW := (a.block W (lt_of_heap h.hW) (by simp)).trans h.hW
    hp := fun i hi => (h.hp i hi).kept a (by simp)
    rp := fun i hi => (h.rp i hi).kept a (by simp)
    all := own_apart h.all a (by simp)
    ap := h.ap.trans a }
def upd (S : Nat → SD) (i : Nat) (s : SD) : Nat → SD := fun j => if j = i then s else S j
theorem upd_same (S : Nat → SD) (i : Nat) (s : SD) : upd S i s i = s := by simp [upd]
theorem upd_other (S : Nat → SD) (i j : Nat) (s : SD) (h : j ≠ i) : upd S i s j = S j := by simp [upd, h]
theorem wc_get0 (S : Nat → SD) (av : Value) (i : Nat) (hi : i < 2) : (wc S av)[i]? = some (.pointer (some ⟨(S i).H, 0, none⟩)) := by
  match i, hi with
  | 0, _ => rfl
  | 1, _ => rfl
theorem wc_get2 (S : Nat → SD) (av : Value) (i : Nat) (hi : i < 2) : (wc S av)[2 + i]? = some (S i).lv := by
  match i, hi with
  | 0, _ => rfl
  | 1, _ => rfl
theorem wc_set2 (S : Nat → SD) (av : Value) (i : Nat) (hi : i < 2) (s : SD) (hH : s.H = (S i).H) : (wc S av).setIfInBounds (2 + i) s.lv = wc (upd S i s) av := by
  match i, hi with
  | 0, _ => simp [wc, upd, hH]
  | 1, _ => simp [wc, upd, hH]
theorem wc_updH (S : Nat → SD) (av : Value) (i : Nat) (hi : i < 2) (s : SD) (hH : s.H = (S i).H) (hl : s.lv = (S i).lv) : wc (upd S i s) av = wc S av := by
  match i, hi with
  | 0, _ => simp [wc, upd, hH, hl]
  | 1, _ => simp [wc, upd, hH, hl]
theorem WS.cp {w0 w : World} {W : Nat} {S : Nat → SD} {av : Value} {A : List E} (h : WS w0 w W S av A) (i : Nat) (hi : i < 2) : w.cell? ⟨W, i, none⟩ = some (.pointer (some ⟨(S i).H, 0, none⟩)) := by rw [cell_of_row _ _ _ _ _ _ h.hW]; exact wc_get0 S av i hi
theorem WS.cl {w0 w : World} {W : Nat} {S : Nat → SD} {av : Value} {A : List E} (h : WS w0 w W S av A) (i : Nat) (hi : i < 2) : w.cell? ⟨W, 2 + i, none⟩ = some (S i).lv := by rw [cell_of_row _ _ _ _ _ _ h.hW]; exact wc_get2 S av i hi
theorem WS.ca {w0 w : World} {W : Nat} {S : Nat → SD} {av : Value} {A : List E} (h : WS w0 w W S av A) : w.cell? ⟨W, 4, none⟩ = some av := by rw [cell_of_row _ _ _ _ _ _ h.hW]; rfl
theorem WS.wl {w0 w : World} {W : Nat} {S : Nat → SD} {av : Value} {A : List E} (h : WS w0 w W S av A) (i : Nat) (hi : i < 2) : WL w W (2 + i) (wc S av) (S i).lv (S i).L := ⟨h.hW, wc_get2 S av i hi, (h.rp i hi).own, (h.rp i hi).hl⟩
/-- a call on one of the program's heaps -/
theorem WS.heap {w0 w w' : World} {W : Nat} {S : Nat → SD} {av : Value} {A : List E} (h : WS w0 w W S av A) (i : Nat) (hi : i < 2) (a : Apart (ids (S i).H (S i).v) w w') (v' : Value) (row' : List E) (n' : Nat) (nw : NewOr w (S i).v v') (hp' : HP w' (S i).H v' row' n') :
    WS w0 w' W (upd S i { S i with v := v', row := row', n := n' }) av A := by
  have ty := (h.hp i hi).typ
  have nid : ∀ (k : Nat) (c : Array Value) (t : TypeId), w.heap[k]? = some (.cells c t (0, 0)) → t ≠ 49 → t ≠ 51 → k ∉ ids (S i).H (S i).v := by
    intro k c t hk h1 h2 m
    simp [ids] at m
    rcases m with rfl | m
    · obtain ⟨c2, e⟩ := ty.1; rw [hk] at e; simp at e; exact h1 e.2
    · obtain ⟨c2, e⟩ := ty.2 k m; rw [hk] at e; simp at e; exact h2 e.2
  have v'new : ∀ k, v'.ownBlock = some k → (S i).v.ownBlock = some k ∨ w.heap.size ≤ k := by
    intro k hk
    rcases nw with e | ⟨q, e, hq⟩
    · left; rw [← e]; exact hk
    · right; rw [e] at hk; simp at hk; omega
  have vlt : ∀ j, j < 2 → ∀ k, (S j).v.ownBlock = some k → k < w.heap.size := by
    intro j hj k hk
    obtain ⟨c, e⟩ := (h.hp j hj).typ.2 k hk
    exact lt_of_heap e
  refine ⟨?_, ?_, ?_, ?_, h.hA, ?_, ?_, ?_, h.nW, ?_, h.nA, h.ap.trans' a ?_⟩
  · rw [wc_updH S av i hi { S i with v := v', row := row', n := n' } rfl rfl]
    exact (a.block W (lt_of_heap h.hW) (nid W _ _ h.hW (by decide) (by decide))).trans h.hW
  · intro j hj
    by_cases e : j = i
    · subst e; rw [upd_same]; exact hp'
    · rw [upd_other _ _ _ _ e]
      refine (h.hp j hj).kept a (fun k hk => ?_)
      simp [ids] at hk
      rcases hk with rfl | hk
      · refine ⟨h.neH i j hi hj (fun x => e x.symm), fun x => ?_⟩
        obtain ⟨c, e1⟩ := (h.hp j hj).typ.2 _ x
        obtain ⟨c2, e2⟩ := ty.1
        rw [e1] at e2; simp at e2
      · refine ⟨fun x => ?_, h.neV i j hi hj (fun x => e x.symm) k hk⟩
        subst x
        obtain ⟨c, e1⟩ := (h.hp j hj).typ.1
        obtain ⟨c2, e2⟩ := ty.2 _ hk
        rw [e1] at e2; simp at e2
  · intro j hj
    have hr := (h.rp j hj).kept a (fun k hk x => by
      obtain ⟨c, e⟩ := (h.rp j hj).typ k x
      exact nid k c _ e (by decide) (by decide) hk)
    by_cases e : j = i
    · subst e; rw [upd_same]; exact hr
    · rw [upd_other _ _ _ _ e]; exact hr
  · refine own_apart h.all a (fun k hk m => ?_)
    obtain ⟨c, e⟩ := own_typ h.all hk
    exact nid k c _ e (by decide) (by decide) m
  · intro p q hp hq hpq
    by_cases e1 : p = i <;> by_cases e2 : q = i
    · omega
    · subst e1; rw [upd_same, upd_other _ _ _ _ e2]; exact h.neH p q hp hq hpq
    · subst e2; rw [upd_same, upd_other _ _ _ _ e1]; exact h.neH p q hp hq hpq
    · rw [upd_other _ _ _ _ e1, upd_other _ _ _ _ e2]; exact h.neH p q hp hq hpq
  · intro p q hp hq hpq k hk hk2
    by_cases e1 : p = i <;> by_cases e2 : q = i
    · omega
    · subst e1
      rw [upd_same] at hk
      rw [upd_other _ _ _ _ e2] at hk2
      rcases v'new k hk with x | x
      · exact h.neV p q hp hq hpq k x hk2
      · have := vlt q hq k hk2; omega
    · subst e2
      rw [upd_same] at hk2
      rw [upd_other _ _ _ _ e1] at hk
      rcases v'new k hk2 with x | x
      · exact h.neV p q hp hq hpq k hk x
      · have := vlt p hp k hk; omega
    · rw [upd_other _ _ _ _ e1] at hk; rw [upd_other _ _ _ _ e2] at hk2; exact h.neV p q hp hq hpq k hk hk2
  · intro p q hp hq hpq k hk hk2
    have l1 : ∀ j, (upd S i { S i with v := v', row := row', n := n' } j).lv = (S j).lv := by
      intro j
      by_cases e : j = i
      · subst e; rw [upd_same]
      · rw [upd_other _ _ _ _ e]
    rw [l1] at hk hk2
    exact h.neL p q hp hq hpq k hk hk2
  · intro j hj
    by_cases e : j = i
    · subst e
      rw [upd_same]
      refine ⟨(h.nH j hj).1, fun k hk => ?_, (h.nH j hj).2.2⟩
      rcases v'new k hk with x | x
      · exact (h.nH j hj).2.1 k x
      · have := h.ap.size; omega
    · rw [upd_other _ _ _ _ e]; exact h.nH j hj
  · intro y hy
    simp [ids] at hy
    rcases hy with rfl | hy
    · exact .inr (h.nH i hi).1
    · exact .inr ((h.nH i hi).2.1 y hy)
/-- a call on one of the document's lists -/
theorem WS.ref {w0 w w' : World} {W : Nat} {S : Nat → SD} {av : Value} {A : List E} (h : WS w0 w W S av A) (i : Nat) (hi : i < 2) {X : List Nat} (a : Apart X w w') (hX : ∀ k ∈ X, k = W ∨ (S i).lv.ownBlock = some k) (lv' : Value) (L' rl' : List E) (hL : WL w' W (2 + i) ((wc S av).setIfInBounds (2 + i) lv') lv' L') (inc : Inc L') (perm : L'.Perm rl') (up : Up rl') (di : Dist rl')
    (nw : ∀ k, lv'.ownBlock = some k → (S i).lv.ownBlock = some k ∨ w.heap.size ≤ k) : WS w0 w' W (upd S i { S i with lv := lv', L := L', rl := rl' }) av A := by
  have nid : ∀ (k : Nat) (c : Array Value) (t : TypeId), w.heap[k]? = some (.cells c t (0, 0)) → t ≠ 61 → t ≠ 75 → k ∉ X := by
    intro k c t hk h1 h2 m
    rcases hX k m with rfl | m
    · rw [h.hW] at hk; simp at hk; exact h1 hk.2.symm
    · obtain ⟨c2, e⟩ := (h.rp i hi).typ k m; rw [hk] at e; simp at e; exact h2 e.2
  have llt : ∀ j, j < 2 → ∀ k, (S j).lv.ownBlock = some k → k < w.heap.size := by
    intro j hj k hk
    obtain ⟨c, e⟩ := (h.rp j hj).typ k hk
    exact lt_of_heap e
  have h1 : ∀ j, (upd S i { S i with lv := lv', L := L', rl := rl' } j).H = (S j).H ∧ (upd S i { S i with lv := lv', L := L', rl := rl' } j).v = (S j).v ∧ (upd S i { S i with lv := lv', L := L', rl := rl' } j).row = (S j).row ∧ (upd S i { S i with lv := lv', L := L', rl := rl' } j).n = (S j).n := by
    intro j
    by_cases e : j = i
    · subst e; rw [upd_same]; exact ⟨rfl, rfl, rfl, rfl⟩
    · rw [upd_other _ _ _ _ e]; exact ⟨rfl, rfl, rfl, rfl⟩
  refine ⟨?_, ?_, ?_, ?_, h.hA, ?_, ?_, ?_, h.nW, ?_, h.nA, h.ap.trans' a ?_⟩
  · have := hL.hW
    rwa [wc_set2 S av i hi { S i with lv := lv', L := L', rl := rl' } rfl] at this
  · intro j hj
    obtain ⟨x1, x2, x3, x4⟩ := h1 j
    rw [x1, x2, x3, x4]
    refine (h.hp j hj).kept a (fun k hk => ⟨fun e => ?_, fun e => ?_⟩)
    · subst e; obtain ⟨c, e⟩ := (h.hp j hj).typ.1; exact nid _ c _ e (by decide) (by decide) hk
    · obtain ⟨c, e⟩ := (h.hp j hj).typ.2 k e; exact nid _ c _ e (by decide) (by decide) hk
  · intro j hj
    by_cases e : j = i
    · subst e; rw [upd_same]; exact ⟨hL.own, inc, perm, up, di, hL.hl⟩
    · rw [upd_other _ _ _ _ e]
      refine (h.rp j hj).kept a (fun k hk x => ?_)
      rcases hX k hk with rfl | y
      · obtain ⟨c, e1⟩ := (h.rp j hj).typ _ x; rw [h.hW] at e1; simp at e1
      · exact h.neL i j hi hj (fun z => e z.symm) k y x
  · refine own_apart h.all a (fun k hk m => ?_)
    obtain ⟨c, e⟩ := own_typ h.all hk
    exact nid k c _ e (by decide) (by decide) m
  · intro p q hp hq hpq; rw [(h1 p).1, (h1 q).1]; exact h.neH p q hp hq hpq
  · intro p q hp hq hpq; rw [(h1 p).2.1, (h1 q).2.1]; exact h.neV p q hp hq hpq
  · intro p q hp hq hpq k hk hk2
    by_cases e1 : p = i <;> by_cases e2 : q = i
    · omega
    · subst e1
      rw [upd_same] at hk
      rw [upd_other _ _ _ _ e2] at hk2
      rcases nw k hk with x | x
      · exact h.neL p q hp hq hpq k x hk2
      · have := llt q hq k hk2; omega
    · subst e2
      rw [upd_same] at hk2
      rw [upd_other _ _ _ _ e1] at hk
      rcases nw k hk2 with x | x
      · exact h.neL p q hp hq hpq k hk x
      · have := llt p hp k hk; omega
    · rw [upd_other _ _ _ _ e1] at hk; rw [upd_other _ _ _ _ e2] at hk2; exact h.neL p q hp hq hpq k hk hk2
  · intro j hj
    rw [(h1 j).1, (h1 j).2.1]
    refine ⟨(h.nH j hj).1, (h.nH j hj).2.1, fun k hk => ?_⟩
    by_cases e : j = i
    · subst e
      rw [upd_same] at hk
      rcases nw k hk with x | x
      · exact (h.nH j hj).2.2 k x
      · have := h.ap.size; omega
    · rw [upd_other _ _ _ _ e] at hk; exact (h.nH j hj).2.2 k hk
  · intro y hy
    rcases hX y hy with rfl | hy
    · exact .inr h.nW
    · exact .inr ((h.nH i hi).2.2 y hy)
end Go.Proofs.Ythfjkddninlbcaa.hp
