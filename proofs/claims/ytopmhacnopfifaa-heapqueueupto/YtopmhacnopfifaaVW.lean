import Derived.Test.YtopmhacnopfifaaVQ2
namespace Go.Proofs.Ytopmhacnopfifaa.tm
open Go.ChangeShapes Go.WideShapes Go.ChangeAt Go.RowKit
set_option linter.unusedVariables false
set_option linter.unusedSimpArgs false
/-- the document's list: numbers rise -/
def Inc (L : List E) : Prop := L.Pairwise (fun x y => x.a < y.a)
/-- a queue of the two: the program's, and the document's -/
structure QD where
  Q : Nat
  H : Nat
  v : Value
  row : List E
  n : Nat
  nw : Int
  lv : Value
  L : List E
  pv : Value
def rc (S : Nat → QD) : Array Value := #[(S 0).lv, .int .i64 ((S 0).n : Int), .int .i64 (S 0).nw, (S 1).lv, .int .i64 ((S 1).n : Int), .int .i64 (S 1).nw]
def pc (S : Nat → QD) : Array Value := #[(S 0).pv, (S 1).pv]
/-- the document's queue in the cells from o on -/
structure Rq (w : World) (R o : Nat) (cs : Array Value) (lv : Value) (L : List E) (n : Nat) (nw : Int) : Prop where
  hR : w.heap[R]? = some (.cells cs 56 (0, 0))
  h0 : cs[o]? = some lv
  h1 : cs[o + 1]? = some (.int .i64 (n : Int))
  h2 : cs[o + 2]? = some (.int .i64 nw)
  own : w.ownsRow 0 46 4 lv L.length (flat2 L)
  hl : L.length ≤ 1200000
structure One (w : World) (who : Nat → Option Nat) (i : Nat) (d : QD) : Prop where
  qv : Qv w d.Q d.H d.v d.row d.n d.nw
  own : w.ownsRow 0 46 4 d.lv d.L.length (flat2 d.L)
  inc : Inc d.L
  perm : d.L.Perm d.row
  len : d.row.length ≤ d.n
  hp : d.pv = .pointer (some ⟨d.Q, 0, none⟩)
  tQ : who d.Q = some i
  tH : who d.H = some i
  tv : ∀ k, d.v.ownBlock = some k → who k = some i
  tl : ∀ k, d.lv.ownBlock = some k → who k = some (2 + i)
structure QS (w0 w : World) (PB RB m : Nat) (S : Nat → QD) (who : Nat → Option Nat) (N : Nat) : Prop where
  hR : w.heap[RB]? = some (.cells (rc S) 56 (0, 0))
  tR : who RB = some 4
  hP : w.heap[PB]? = some (.cells (pc S) 53 (0, 0))
  tP : who PB = some 5
  one : ∀ i, i < m → One w who i (S i)
  zz : ∀ i, m ≤ i → i < 2 → (S i).lv = .slice none 0 0 ∧ (S i).n = 0 ∧ (S i).nw = 0 ∧ (S i).L = [] ∧ (S i).pv = .pointer none
  old : ∀ k t, who k = some t → w0.heap.size ≤ k ∧ k < w.heap.size
  ap : Apart [] w0 w
  bd : ∀ i, i < 2 → (S i).n ≤ N
  m2 : m ≤ 2
theorem Qv.ids_tag {w : World} {Q H : Nat} {v : Value} {who : Nat → Option Nat} {i : Nat} (tQ : who Q = some i) (tH : who H = some i) (tv : ∀ k, v.ownBlock = some k → who k = some i) : ∀ k ∈ Q :: ids H v, who k = some i := by
  intro k hk
  simp [ids] at hk
  rcases hk with rfl | rfl | hk
  · exact tQ
  · exact tH
  · exact tv k hk
/-- what is not touched stays, also under more tags -/
theorem One.kept {w w' : World} {who who' : Nat → Option Nat} {j : Nat} {d : QD} {X : List Nat} (h : One w who j d) (a : Apart X w w') (hx : ∀ k ∈ X, who k ≠ some j ∧ who k ≠ some (2 + j)) (ext : ∀ k t, who k = some t → who' k = some t) : One w' who' j d :=
  ⟨h.qv.kept a (fun k hk => ⟨fun e => (hx k hk).1 (e ▸ h.tQ), fun e => (hx k hk).1 (e ▸ h.tH), fun e => (hx k hk).1 (h.tv k e)⟩), own_apart h.own a (fun k hk m => (hx k m).2 (h.tl k hk)), h.inc, h.perm, h.len, h.hp, ext _ _ h.tQ, ext _ _ h.tH, fun k hk => ext _ _ (h.tv k hk), fun k hk => ext _ _ (h.tl k hk)⟩
theorem QS.kept {w0 w w' : World} {PB RB m : Nat} {S : Nat → QD} {who : Nat → Option Nat} {N : Nat} (h : QS w0 w PB RB m S who N) (a : Apart [] w w') : QS w0 w' PB RB m S who N :=
  ⟨(a.block RB (lt_of_heap h.hR) (by simp)).trans h.hR, h.tR, (a.block PB (lt_of_heap h.hP) (by simp)).trans h.hP, h.tP, fun i hi => (h.one i hi).kept a (by simp) (fun _ _ e => e), h.zz, fun k t e => ⟨(h.old k t e).1, Nat.lt_of_lt_of_le (h.old k t e).2 a.size⟩, h.ap.trans a, h.bd, h.m2⟩
def upd (S : Nat → QD) (i : Nat) (s : QD) : Nat → QD := fun j => if j = i then s else S j
theorem upd_same (S : Nat → QD) (i : Nat) (s : QD) : upd S i s i = s := by simp [upd]
theorem upd_other (S : Nat → QD) (i j : Nat) (s : QD) (h : j ≠ i) : upd S i s j = S j := by simp [upd, h]
def NewB (w : World) (v v' : Value) : Prop := ∀ k, v'.ownBlock = some k → v.ownBlock = some k ∨ w.heap.size ≤ k
theorem NewOr.b {w : World} {v v' : Value} (h : NewOr w v v') : NewB w v v' := by
  intro k hk
  rcases h with e | ⟨q, e, hq⟩
  · exact .inl (e ▸ hk)
  · rw [e] at hk; simp at hk; subst hk; exact .inr hq
/-- a tag more -/
def tag (who : Nat → Option Nat) (v : Value) (t : Nat) : Nat → Option Nat := fun k => if v.ownBlock = some k then some t else who k
theorem tag_ext {w : World} {who : Nat → Option Nat} {v v' : Value} {t : Nat} (nw : NewB w v v') (tv : ∀ k, v.ownBlock = some k → who k = some t) (old : ∀ k s, who k = some s → k < w.heap.size) : ∀ k s, who k = some s → tag who v' t k = some s := by
  intro k s e
  unfold tag
  by_cases h : v'.ownBlock = some k
  · rw [if_pos h]
    rcases nw k h with e2 | e2
    · rw [← e, tv k e2]
    · have := old _ _ e; omega
  · rw [if_neg h]; exact e
theorem tag_old {w w' : World} {who : Nat → Option Nat} {v v' : Value} {t B : Nat} (nw : NewB w v v') (tv : ∀ k, v.ownBlock = some k → who k = some t) (old : ∀ k s, who k = some s → B ≤ k ∧ k < w.heap.size) (hB : B ≤ w.heap.size) (hs : w.heap.size ≤ w'.heap.size) (hv' : ∀ k, v'.ownBlock = some k → k < w'.heap.size) : ∀ k s, tag who v' t k = some s → B ≤ k ∧ k < w'.heap.size := by
  intro k s e
  unfold tag at e
  by_cases h : v'.ownBlock = some k
  · refine ⟨?_, hv' k h⟩
    rcases nw k h with e2 | e2
    · exact (old k t (tv k e2)).1
    · omega
  · rw [if_neg h] at e; have := old k s e; omega
theorem rc_upd (S : Nat → QD) (i : Nat) (s : QD) (h1 : s.lv = (S i).lv) (h2 : s.n = (S i).n) (h3 : s.nw = (S i).nw) : rc (upd S i s) = rc S := by
  unfold rc
  have : ∀ j, (upd S i s j).lv = (S j).lv ∧ (upd S i s j).n = (S j).n ∧ (upd S i s j).nw = (S j).nw := by
    intro j
    by_cases e : j = i
    · subst e; rw [upd_same]; exact ⟨h1, h2, h3⟩
    · rw [upd_other _ _ _ _ e]; exact ⟨rfl, rfl, rfl⟩
  rw [(this 0).1, (this 0).2.1, (this 0).2.2, (this 1).1, (this 1).2.1, (this 1).2.2]
theorem rc_set (S : Nat → QD) (i : Nat) (hi : i < 2) (s : QD) : (((rc S).setIfInBounds (i * 3) s.lv).setIfInBounds (i * 3 + 1) (.int .i64 (s.n : Int))).setIfInBounds (i * 3 + 2) (.int .i64 s.nw) = rc (upd S i s) := by
  match i, hi with
  | 0, _ => simp [rc, upd]
  | 1, _ => simp [rc, upd]
theorem QS.rq {w0 w : World} {PB RB m : Nat} {S : Nat → QD} {who : Nat → Option Nat} {N : Nat} (h : QS w0 w PB RB m S who N) (i : Nat) (hi : i < 2) (him : i < m) (hN : N ≤ 1200000) : Rq w RB (i * 3) (rc S) (S i).lv (S i).L (S i).n (S i).nw := by
  have o := h.one i him
  have hl : (S i).L.length ≤ 1200000 := by rw [o.perm.length_eq]; have := o.len; have := h.bd i hi; omega
  match i, hi with
  | 0, _ => exact ⟨h.hR, rfl, rfl, rfl, o.own, hl⟩
  | 1, _ => exact ⟨h.hR, rfl, rfl, rfl, o.own, hl⟩
/-- both have done the same: the program's queue in w1, the document's in w2 -/
theorem QS.both {w0 w w1 w2 : World} {PB RB m : Nat} {S : Nat → QD} {who : Nat → Option Nat} {N N' : Nat} (h : QS w0 w PB RB m S who N) (i : Nat) (hi : i < 2) (him : i < m) (v' lv' : Value) (row' L' : List E) (n' : Nat) (nw' : Int)
    (q1 : Qv w1 (S i).Q (S i).H v' row' n' nw') (c1 : Ch w w1 (S i).Q (S i).H (S i).v v') (cs' : Array Value) (hcs : cs' = rc (upd S i ⟨(S i).Q, (S i).H, v', row', n', nw', lv', L', (S i).pv⟩)) (r2 : Rq w2 RB (i * 3) cs' lv' L' n' nw') (a2 : Apart (ids RB (S i).lv) w1 w2) (nl : NewB w1 (S i).lv lv')
    (inc : Inc L') (perm : L'.Perm row') (len : row'.length ≤ n') (hN : N ≤ N') (hn : n' ≤ N') :
    ∃ who', QS w0 w2 PB RB m (upd S i ⟨(S i).Q, (S i).H, v', row', n', nw', lv', L', (S i).pv⟩) who' N' := by
  have o := h.one i him
  have hold := fun k s e => (h.old k s e).2
  have e1 := tag_ext c1.nw.b o.tv hold
  have tid := Qv.ids_tag (w := w) o.tQ o.tH o.tv
  have v'lt : ∀ k, v'.ownBlock = some k → k < w1.heap.size := fun k hk => by obtain ⟨c, e⟩ := q1.typ.2.2 k hk; exact lt_of_heap e
  have old1 := tag_old (w' := w1) c1.nw.b o.tv h.old h.ap.size c1.ap.size v'lt
  have lv'lt : ∀ k, lv'.ownBlock = some k → k < w2.heap.size := fun k hk => by obtain ⟨c, e⟩ := own_typ r2.own hk; exact lt_of_heap e
  have tl1 : ∀ k, (S i).lv.ownBlock = some k → tag who v' i k = some (2 + i) := fun k hk => e1 k _ (o.tl k hk)
  have e2 := tag_ext nl tl1 (fun k s e => (old1 k s e).2)
  have old2 := tag_old (w' := w2) nl tl1 old1 (Nat.le_trans h.ap.size c1.ap.size) a2.size lv'lt
  have tR1 := e1 _ _ h.tR
  have tX : ∀ k ∈ ids RB (S i).lv, tag who v' i k = some 4 ∨ tag who v' i k = some (2 + i) := by
    intro k hk
    simp [ids] at hk
    rcases hk with rfl | hk
    · exact .inl tR1
    · exact .inr (tl1 k hk)
  have tv1 : ∀ k, v'.ownBlock = some k → tag who v' i k = some i := fun k hk => by simp [tag, hk]
  have q2 : Qv w2 (S i).Q (S i).H v' row' n' nw' := q1.kept a2 (fun k hk => by
    have ht := tX k hk
    refine ⟨fun e => ?_, fun e => ?_, fun e => ?_⟩
    · subst e; rw [e1 _ _ o.tQ] at ht; simp at ht; omega
    · subst e; rw [e1 _ _ o.tH] at ht; simp at ht; omega
    · rw [tv1 k e] at ht; simp at ht; omega)
  refine ⟨tag (tag who v' i) lv' (2 + i), ⟨?_, e2 _ _ tR1, ?_, e2 _ _ (e1 _ _ h.tP), ?_, ?_, old2, ?_, ?_, h.m2⟩⟩
  · rw [← hcs]; exact r2.hR
  · have hpc : pc (upd S i ⟨(S i).Q, (S i).H, v', row', n', nw', lv', L', (S i).pv⟩) = pc S := by
      unfold pc
      have : ∀ j, (upd S i ⟨(S i).Q, (S i).H, v', row', n', nw', lv', L', (S i).pv⟩ j).pv = (S j).pv := by
        intro j
        by_cases e : j = i
        · subst e; rw [upd_same]
        · rw [upd_other _ _ _ _ e]
      rw [this 0, this 1]
    rw [hpc]
    have b1 := (c1.ap.block PB (lt_of_heap h.hP) (fun m => by have := tid _ m; rw [h.tP] at this; simp at this; omega)).trans h.hP
    refine (a2.block PB (lt_of_heap b1) (fun m => ?_)).trans b1
    have := tX _ m
    rw [e1 _ _ h.tP] at this
    simp at this
    omega
  · intro j hj
    by_cases e : j = i
    · subst e
      rw [upd_same]
      exact ⟨q2, r2.own, inc, perm, len, o.hp, e2 _ _ (e1 _ _ o.tQ), e2 _ _ (e1 _ _ o.tH), fun k hk => e2 _ _ (tv1 k hk), fun k hk => by simp [tag, hk]⟩
    · rw [upd_other _ _ _ _ e]
      have k1 := (h.one j hj).kept c1.ap (fun k hk => by rw [tid k hk]; simp; omega) e1
      refine k1.kept a2 (fun k hk => ?_) e2
      have hj2 : j < 2 := Nat.lt_of_lt_of_le hj h.m2
      rcases tX k hk with t | t <;> rw [t] <;> simp <;> omega
  · intro j hj hj2
    by_cases e : j = i
    · omega
    · rw [upd_other _ _ _ _ e]; exact h.zz j hj hj2
  · refine (h.ap.trans' c1.ap (fun y hy => .inr (h.old y i (tid y hy)).1)).trans' a2 (fun y hy => .inr ?_)
    rcases tX y hy with t | t
    · exact (old1 y _ t).1
    · exact (old1 y _ t).1
  · intro j hj
    by_cases e : j = i
    · subst e; rw [upd_same]; exact hn
    · rw [upd_other _ _ _ _ e]; exact Nat.le_trans (h.bd j hj) hN
end Go.Proofs.Ytopmhacnopfifaa.tm
