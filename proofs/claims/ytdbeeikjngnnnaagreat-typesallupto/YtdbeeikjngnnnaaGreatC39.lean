import Derived.Test.YtdbeeikjngnnnaaGreatC26
import Derived.Test.YtdbeeikjngnnnaaGreatC28
namespace Go.Proofs.YtdbeeikjngnnnaaGreat.ty
open Go.ChangeShapes Go.WideShapes Go.ChangeAt Go.RowKit
set_option linter.unusedVariables false
set_option linter.unusedSimpArgs false
set_option maxRecDepth 100000
set_option maxHeartbeats 8000000
/-! ### the table -/
def ptV (b : Nat) : Value := .pointer (some ⟨b, 0, none⟩)
def tbG (k : Nat) (p r : Nat → Value) (sH sL : Sl) : List Value := [.int .i64 (k : Int), p 0, p 1, p 2, p 3, r 0, r 1, r 2, r 3, .slice sH.p sH.n sH.c, .slice sL.p sL.n sL.c]
def tbC (k : Nat) (p r : Nat → Nat) (sH sL : Sl) : List Value := tbG k (fun i => ptV (p i)) (fun i => ptV (r i)) sH sL
def upd {α : Type} (f : Nat → α) (i : Nat) (x : α) : Nat → α := fun j => if j = i then x else f j
theorem upd_same {α : Type} (f : Nat → α) (i : Nat) (x : α) : upd f i x i = x := by simp [upd]
theorem upd_other {α : Type} (f : Nat → α) {i j : Nat} (x : α) (h : j ≠ i) : upd f i x j = f j := by simp [upd, h]
theorem upd_self {α : Type} (f : Nat → α) (i : Nat) : upd f i (f i) = f := by
 funext j
 unfold upd
 split
 ·rename_i h; rw [h]
 ·rfl
def mkN (q : Nat) : Nat := q % 250 + 1
structure Tb (wB w : World) (T k : Nat) (p r : Nat → Nat) (v : Nat → Vl) (ts : Nat → List Tg) (H L : List Sl) (sH sL : Sl) (h : Nat → Prop) : Prop where
 blk : w.heap[T]? = some (.cells (tbC k p r sH sL).toArray 49 (0, 0))
 tn : wB.heap.size ≤ T
 pn : ∀ i, i < 4 → wB.heap.size ≤ p i
 rn : ∀ i, i < 4 → wB.heap.size ≤ r i
 pd : ∀ i j, i < 4 → j < 4 → i ≠ j → p i ≠ p j
 rd : ∀ i j, i < 4 → j < 4 → i ≠ j → r i ≠ r j
 pv : ∀ i, i < 4 → Ho w (p i) (v i)
 rv : ∀ i, i < 4 → ∃ s, Dk w (r i) (rvO (v i) (ts i)) s
 iv : ∀ i, i < 4 → Iv (v i)
 kd : ∀ i, i < 4 → (v i).kd = k
 rl : ∀ i, i < 4 → Rl (v i) (ts i)
 nh : Nw wB w 29 1 sH (svs H)
 hn : sH.n = H.length
 nl : Nw wB w 46 1 sL (svs L)
 ln : sL.n = L.length
 hd : ∀ i x, H[i]? = some x → RdT w x.p 5 (byts (List.replicate x.n (mkN (i / 2)))) ∧ ∀ P o, x.p = some ⟨P, o, none⟩ → h P
 ld : ∀ i x, L[i]? = some x → ∀ j, j < x.n → ∃ P o cur m q c, x.p = some ⟨P, o, none⟩ ∧ h P ∧ w.heap[P]? = some (.cells cur 29 m) ∧ w.cell? ⟨P, o + j, none⟩ = some (.slice q (i + 1) c)
 hh : ∀ P, h P → wB.heap.size ≤ P ∧ (∃ cur m, w.heap[P]? = some (.cells cur 5 m) ∨ w.heap[P]? = some (.cells cur 29 m)) ∧ sH.v.ownBlock ≠ some P
 ev : ∃ q, H.length = 2 * q
def Fr (w : World) (sH : Sl) (h : Nat → Prop) (P : Nat) : Prop := (∃ cur m, w.heap[P]? = some (.cells cur 5 m) ∨ w.heap[P]? = some (.cells cur 29 m)) ∧ ¬ h P ∧ sH.v.ownBlock ≠ some P
theorem Fr.ne {w : World} {sH : Sl} {h : Nat → Prop} {P : Nat} (f : Fr w sH h P) {t : Nat} (h5 : t ≠ 5) (h29 : t ≠ 29) (cur : Array Value) (m : Nat × Nat) : w.heap[P]? ≠ some (.cells cur t m) := by
 intro e
 obtain ⟨⟨cu, m', hc | hc⟩, -⟩ := f
 ·rw [hc] at e; simp only [Option.some.injEq, Obj.cells.injEq] at e; exact h5 e.2.1.symm
 ·rw [hc] at e; simp only [Option.some.injEq, Obj.cells.injEq] at e; exact h29 e.2.1.symm
theorem Ho.keptX {w w' : World} {V : Nat} {v : Vl} {X : List Nat} (h : Ho w V v) (a : Apart X w w') (h71 : V ∉ X) (hX : ∀ k ∈ X, ∀ cur m, w.heap[k]? ≠ some (.cells cur 141 m)) : Ho w' V v := by
 have kB : ∀ {b : Value}, Bd w V b → Bd w' V b := fun {b} hb => (a.block V (lt_of_heap hb) h71).trans hb
 cases v using Vl.el with
 | cnt u d => exact kB h
 | set c es => obtain ⟨s, h1, h2⟩ := h; exact ⟨s, kB h1, h2.kept a hX⟩
 | flg c g => exact kB h
 | rgs s x t => exact kB h
theorem Nw.keptX {w0 w w' : World} {e size : Nat} {s : Sl} {us : List Value} {X : List Nat} (h : Nw w0 w e size s us) (a : Apart X w w') (hX : ∀ k, s.v.ownBlock = some k → k ∉ X) (ap : Apart [] w0 w') : Nw w0 w' e size s us := ⟨own_apart h.own a hX, h.new, ap⟩
variable {wB w w' : World} {T k : Nat} {p r : Nat → Nat} {v : Nat → Vl} {ts : Nat → List Tg} {H L : List Sl} {sH sL : Sl} {h : Nat → Prop}
theorem Tb.ap (t : Tb wB w T k p r v ts H L sH sL h) : Apart [] wB w := t.nh.ap
theorem Tb.bdP (t : Tb wB w T k p r v ts H L sH sL h) {i : Nat} (hi : i < 4) : ∃ b, w.heap[p i]? = some (.cells #[b] 71 (0, 0)) := by
 obtain ⟨b, hb⟩ := (t.pv i hi).bd
 exact ⟨b, hb⟩
theorem Tb.kept {X : List Nat} (t : Tb wB w T k p r v ts H L sH sL h) (a : Apart X w w') (hX : ∀ P ∈ X, Fr w sH h P ∧ wB.heap.size ≤ P) : Tb wB w' T k p r v ts H L sH sL h := by
 have hne : ∀ {P : Nat} {cur : Array Value} {t : Nat} {m : Nat × Nat}, w.heap[P]? = some (.cells cur t m) → t ≠ 5 → t ≠ 29 → P ∉ X := fun {P cur t m} e h5 h29 hm => (hX P hm).1.ne h5 h29 cur m e
 have hap : Apart [] wB w' := t.ap.trans' a (fun y hy => .inr (hX y hy).2)
 have hb : ∀ {P : Nat} {cur : Array Value} {m : Nat × Nat} {ty : Nat}, h P → w.heap[P]? = some (.cells cur ty m) → w'.heap[P]? = some (.cells cur ty m) := fun {P cur m ty} hp e => (a.block P (lt_of_heapM e) (fun hm => (hX P hm).1.2.1 hp)).trans e
 have hc : ∀ {P o : Nat} {cur : Array Value} {m : Nat × Nat} {ty : Nat}, h P → w.heap[P]? = some (.cells cur ty m) → w'.cell? ⟨P, o, none⟩ = w.cell? ⟨P, o, none⟩ := fun {P o cur m ty} hp e => a.cell (lt_of_heapM e) (fun hm => (hX P hm).1.2.1 hp)
 refine ⟨(a.block T (lt_of_heap t.blk) (hne t.blk (by decide) (by decide))).trans t.blk, t.tn, t.pn, t.rn, t.pd, t.rd, fun i hi => ?_, fun i hi => ?_, t.iv, t.kd, t.rl, ?_, t.hn, ?_, t.ln, fun i x hx => ?_, fun i x hx j hj => ?_, fun P hP => ?_, t.ev⟩
 ·obtain ⟨b, hb⟩ := t.bdP hi
  exact (t.pv i hi).keptX a (hne hb (by decide) (by decide)) (fun q hq cur m => (hX q hq).1.ne (by decide) (by decide) cur m)
 ·obtain ⟨s, hs⟩ := t.rv i hi
  exact ⟨s, hs.other a (hne hs.dv.blk (by decide) (by decide)) (fun q hq cur m => (hX q hq).1.ne (by decide) (by decide) cur m)⟩
 ·exact t.nh.keptX a (fun q hq hm => (hX q hm).1.2.2 hq) hap
 ·exact t.nl.keptX a (fun q hq hm => by
   obtain ⟨cur, e⟩ := own_typ t.nl.own hq
   exact (hX q hm).1.ne (by decide) (by decide) cur (0, 0) e) hap
 ·obtain ⟨h1, h2⟩ := t.hd i x hx
  refine ⟨fun h0 => ?_, h2⟩
  obtain ⟨P, o, e1, ⟨cur, m, e2⟩, e3⟩ := h1 h0
  have hP := h2 P o e1
  exact ⟨P, o, e1, ⟨cur, m, hb hP e2⟩, fun j u hj => (hc hP e2).trans (e3 j u hj)⟩
 ·obtain ⟨P, o, cur, m, q, c, e1, e2, e3, e4⟩ := t.ld i x hx j hj
  exact ⟨P, o, cur, m, q, c, e1, e2, hb e2 e3, (hc e2 e3).trans e4⟩
 ·obtain ⟨e1, ⟨cur, m, e2⟩, e3⟩ := t.hh P hP
  exact ⟨e1, ⟨cur, m, e2.imp (hb hP) (hb hP)⟩, e3⟩
theorem Tb.kept0 (t : Tb wB w T k p r v ts H L sH sL h) (a : Apart [] w w') : Tb wB w' T k p r v ts H L sH sL h := t.kept a (by simp)
theorem Tb.next (t : Tb wB w T k p r v ts H L sH sL h) {i : Nat} (hi : i < 4) {p' r' : Nat} {v' : Vl} {ts' : List Tg} {s' : Sl} (a : Apart [p i, r i, T] w w') (hb : w'.heap[T]? = some (.cells (tbC k (upd p i p') (upd r i r') sH sL).toArray 49 (0, 0))) (hp : p' = p i ∨ w.heap.size ≤ p') (hr : r' = r i ∨ w.heap.size ≤ r') (hv : Ho w' p' v') (hd : Dk w' r' (rvO v' ts') s') (iv : Iv v') (rl : Rl v' ts') (kd : v'.kd = k) : Tb wB w' T k (upd p i p') (upd r i r') (upd v i v') (upd ts i ts') H L sH sL h := by
 obtain ⟨b0, hb0⟩ := t.bdP hi
 obtain ⟨s0, hs0⟩ := t.rv i hi
 have hX : ∀ P ∈ [p i, r i, T], (∃ cur, w.heap[P]? = some (.cells cur 71 (0, 0))) ∨ (∃ cur, w.heap[P]? = some (.cells cur 63 (0, 0))) ∨ ∃ cur, w.heap[P]? = some (.cells cur 49 (0, 0)) := fun P hP => by
  simp only [List.mem_cons, List.not_mem_nil, _root_.or_false] at hP
  rcases hP with rfl | rfl | rfl
  ·exact .inl ⟨_, hb0⟩
  ·exact .inr (.inl ⟨_, hs0.dv.blk⟩)
  ·exact .inr (.inr ⟨_, t.blk⟩)
 have hne : ∀ {P : Nat} {cur : Array Value} {t : Nat} {m : Nat × Nat}, w.heap[P]? = some (.cells cur t m) → t ≠ 71 → t ≠ 63 → t ≠ 49 → P ∉ [p i, r i, T] := fun {P cur t m} e h1 h2 h3 hm => by
  rcases hX P hm with ⟨c, e'⟩ | ⟨c, e'⟩ | ⟨c, e'⟩
  all_goals
   rw [e'] at e
   simp only [Option.some.injEq, Obj.cells.injEq] at e
  ·exact h1 e.2.1.symm
  ·exact h2 e.2.1.symm
  ·exact h3 e.2.1.symm
 have hXn : ∀ {ty : Nat}, ty ≠ 71 → ty ≠ 63 → ty ≠ 49 → ∀ q ∈ [p i, r i, T], ∀ cur m, w.heap[q]? ≠ some (.cells cur ty m) := fun {ty} h1 h2 h3 q hq cur m e => hne e h1 h2 h3 hq
 have hsz := t.ap.size
 have hap : Apart [] wB w' := t.ap.trans' a (fun y hy => by
  simp only [List.mem_cons, List.not_mem_nil, _root_.or_false] at hy
  rcases hy with rfl | rfl | rfl
  ·exact .inr (t.pn i hi)
  ·exact .inr (t.rn i hi)
  ·exact .inr t.tn)
 have pne : ∀ j, j < 4 → j ≠ i → p j ∉ [p i, r i, T] ∧ p j ≠ p' := fun j hj hji => by
  obtain ⟨bj, hbj⟩ := t.bdP hj
  refine ⟨fun hm => ?_, fun e => ?_⟩
  ·simp only [List.mem_cons, List.not_mem_nil, _root_.or_false] at hm
   rcases hm with e | e | e
   ·exact t.pd j i hj hi hji e
   ·rw [e, hs0.dv.blk] at hbj; simp at hbj
   ·rw [e, t.blk] at hbj; simp at hbj
  ·rcases hp with hp | hp
   ·exact t.pd j i hj hi hji (e.trans hp)
   ·have := lt_of_heap hbj
    omega
 have rne : ∀ j, j < 4 → j ≠ i → r j ∉ [p i, r i, T] ∧ r j ≠ r' := fun j hj hji => by
  obtain ⟨sj, hsj⟩ := t.rv j hj
  refine ⟨fun hm => ?_, fun e => ?_⟩
  ·simp only [List.mem_cons, List.not_mem_nil, _root_.or_false] at hm
   have hbj := hsj.dv.blk
   rcases hm with e | e | e
   ·rw [e, hb0] at hbj; simp at hbj
   ·exact t.rd j i hj hi hji e
   ·rw [e, t.blk] at hbj; simp at hbj
  ·rcases hr with hr | hr
   ·exact t.rd j i hj hi hji (e.trans hr)
   ·have := lt_of_heap hsj.dv.blk
    omega
 have hnP : ∀ P, h P → P ∉ [p i, r i, T] := fun P hP => by
  obtain ⟨-, ⟨cur, m, e | e⟩, -⟩ := t.hh P hP
  ·exact hne e (by decide) (by decide) (by decide)
  ·exact hne e (by decide) (by decide) (by decide)
 have hbk : ∀ {P : Nat} {cur : Array Value} {m : Nat × Nat} {ty : Nat}, h P → w.heap[P]? = some (.cells cur ty m) → w'.heap[P]? = some (.cells cur ty m) := fun {P cur m ty} hp e => (a.block P (lt_of_heapM e) (hnP P hp)).trans e
 have hc : ∀ {P o : Nat} {cur : Array Value} {m : Nat × Nat} {ty : Nat}, h P → w.heap[P]? = some (.cells cur ty m) → w'.cell? ⟨P, o, none⟩ = w.cell? ⟨P, o, none⟩ := fun {P o cur m ty} hp e => a.cell (lt_of_heapM e) (hnP P hp)
 refine ⟨hb, t.tn, fun j hj => ?_, fun j hj => ?_, fun j l hj hl hjl => ?_, fun j l hj hl hjl => ?_, fun j hj => ?_, fun j hj => ?_, fun j hj => ?_, fun j hj => ?_, fun j hj => ?_, ?_, t.hn, ?_, t.ln, fun j x hx => ?_, fun j x hx q hq => ?_, fun P hP => ?_, t.ev⟩
 ·by_cases e : j = i
  ·subst e; rw [upd_same]
   rcases hp with hp | hp
   ·rw [hp]; exact t.pn _ hi
   ·omega
  ·rw [upd_other _ _ e]; exact t.pn j hj
 ·by_cases e : j = i
  ·subst e; rw [upd_same]
   rcases hr with hr | hr
   ·rw [hr]; exact t.rn _ hi
   ·omega
  ·rw [upd_other _ _ e]; exact t.rn j hj
 ·by_cases e : j = i
  ·subst e
   rw [upd_same, upd_other _ _ (fun e => hjl e.symm)]
   exact fun e => (pne l hl (fun e => hjl e.symm)).2 e.symm
  ·rw [upd_other _ _ e]
   by_cases e2 : l = i
   ·subst e2
    rw [upd_same]
    exact (pne j hj e).2
   ·rw [upd_other _ _ e2]; exact t.pd j l hj hl hjl
 ·by_cases e : j = i
  ·subst e
   rw [upd_same, upd_other _ _ (fun e => hjl e.symm)]
   exact fun e => (rne l hl (fun e => hjl e.symm)).2 e.symm
  ·rw [upd_other _ _ e]
   by_cases e2 : l = i
   ·subst e2
    rw [upd_same]
    exact (rne j hj e).2
   ·rw [upd_other _ _ e2]; exact t.rd j l hj hl hjl
 ·by_cases e : j = i
  ·subst e; rw [upd_same, upd_same]; exact hv
  ·rw [upd_other _ _ e, upd_other _ _ e]
   exact (t.pv j hj).keptX a (pne j hj e).1 (hXn (by decide) (by decide) (by decide))
 ·by_cases e : j = i
  ·subst e; rw [upd_same, upd_same, upd_same]; exact ⟨s', hd⟩
  ·rw [upd_other _ _ e, upd_other _ _ e, upd_other _ _ e]
   obtain ⟨s, hs⟩ := t.rv j hj
   exact ⟨s, hs.other a (rne j hj e).1 (hXn (by decide) (by decide) (by decide))⟩
 ·by_cases e : j = i
  ·subst e; rw [upd_same]; exact iv
  ·rw [upd_other _ _ e]; exact t.iv j hj
 ·by_cases e : j = i
  ·subst e; rw [upd_same]; exact kd
  ·rw [upd_other _ _ e]; exact t.kd j hj
 ·by_cases e : j = i
  ·subst e; rw [upd_same, upd_same]; exact rl
  ·rw [upd_other _ _ e, upd_other _ _ e]; exact t.rl j hj
 ·exact t.nh.keptX a (fun q hq hm => by
   obtain ⟨cur, e⟩ := own_typ t.nh.own hq
   exact hne e (by decide) (by decide) (by decide) hm) hap
 ·exact t.nl.keptX a (fun q hq hm => by
   obtain ⟨cur, e⟩ := own_typ t.nl.own hq
   exact hne e (by decide) (by decide) (by decide) hm) hap
 ·obtain ⟨h1, h2⟩ := t.hd j x hx
  refine ⟨fun h0 => ?_, h2⟩
  obtain ⟨P, o, e1, ⟨cur, m, e2⟩, e3⟩ := h1 h0
  have hP := h2 P o e1
  exact ⟨P, o, e1, ⟨cur, m, hbk hP e2⟩, fun q u hq => (hc hP e2).trans (e3 q u hq)⟩
 ·obtain ⟨P, o, cur, m, q', c, e1, e2, e3, e4⟩ := t.ld j x hx q hq
  exact ⟨P, o, cur, m, q', c, e1, e2, hbk e2 e3, (hc e2 e3).trans e4⟩
 ·obtain ⟨e1, ⟨cur, m, e2⟩, e3⟩ := t.hh P hP
  exact ⟨e1, ⟨cur, m, e2.imp (hbk hP) (hbk hP)⟩, e3⟩
theorem tb_p (k : Nat) (p r : Nat → Value) (sH sL : Sl) {i : Nat} (hi : i < 4) : (tbG k p r sH sL)[1 + i]? = some (p i) := by
 obtain rfl | rfl | rfl | rfl : i = 0 ∨ i = 1 ∨ i = 2 ∨ i = 3 := by omega
 all_goals rfl
theorem tb_r (k : Nat) (p r : Nat → Value) (sH sL : Sl) {i : Nat} (hi : i < 4) : (tbG k p r sH sL)[5 + i]? = some (r i) := by
 obtain rfl | rfl | rfl | rfl : i = 0 ∨ i = 1 ∨ i = 2 ∨ i = 3 := by omega
 all_goals rfl
theorem Tb.cp (t : Tb wB w T k p r v ts H L sH sL h) {i : Nat} (hi : i < 4) : w.cell? ⟨T, 1 + i, none⟩ = some (.pointer (some ⟨p i, 0, none⟩)) := dcell t.blk (tb_p _ _ _ _ _ hi)
theorem Tb.cr (t : Tb wB w T k p r v ts H L sH sL h) {i : Nat} (hi : i < 4) : w.cell? ⟨T, 5 + i, none⟩ = some (.pointer (some ⟨r i, 0, none⟩)) := dcell t.blk (tb_r _ _ _ _ _ hi)
theorem Tb.ch (t : Tb wB w T k p r v ts H L sH sL h) : w.cell? ⟨T, 9, none⟩ = some (.slice sH.p sH.n sH.c) := dcell t.blk rfl
theorem Tb.cl (t : Tb wB w T k p r v ts H L sH sL h) : w.cell? ⟨T, 10, none⟩ = some (.slice sL.p sL.n sL.c) := dcell t.blk rfl
theorem ex_idx29 {W : World} {eval : Operand → Value} {op : Oper} {p : Option Addr} {n c q : Nat} (x y : Operand) (P : Nat) (ho : op.op = .indexAddr 29 x y) (hx : eval x = .slice p n c) (hp : p = some ⟨P, 0, none⟩) (hy : eval y = .int .i64 (q : Int)) (hq : q < n) : (execOp eval op).run Tryz.prog W = .ok (.value (.pointer (some ⟨P, q, none⟩))) W := by
 subst hp
 unfold execOp
 simp only [ho, hx, hy]
 have hq2 : ((q : Nat) : Int) < ((n : Nat) : Int) := by omega
 go_simp
theorem info29 : (Tryz.prog.info? 29).map (fun i => (i.zero, i.size, i.bytes)) = some (some (.slice none 0 0), 1, 24) := by kernel_rfl
theorem svs_one {l : List Sl} : ∀ u ∈ svs l, u.oneCell' = true := by
 intro u hu
 simp only [svs, List.mem_map] at hu
 obtain ⟨x, _, rfl⟩ := hu
 rfl
theorem svs_app (a b : List Sl) : svs (a ++ b) = svs a ++ svs b := by simp [svs]
variable {wB w w' w2 : World} {T k : Nat} {p r : Nat → Nat} {v : Nat → Vl} {ts : Nat → List Tg} {H L : List Sl} {sH sL : Sl} {h : Nat → Prop}
theorem Tb.pushH {b far sN : Sl} (t : Tb wB w T k p r v ts H L sH sL h) (a2 : Apart sH.v.ownBlock.toList w w2) (n : Nw wB w2 29 1 sN (svs (H ++ [b, far]))) (hl : sN.n = H.length + 2) (hNw : ∀ P, sN.v.ownBlock = some P → sH.v.ownBlock = some P ∨ w.heap.size ≤ P) (hb : RdT w b.p 5 (byts (List.replicate b.n (mkN (H.length / 2))))) (hf : RdT w far.p 5 (byts (List.replicate far.n (mkN (H.length / 2))))) (eb : ∀ P, b.v.ownBlock = some P → wB.heap.size ≤ P ∧ ∃ cur m, w.heap[P]? = some (.cells cur 5 m)) (ef : ∀ P, far.v.ownBlock = some P → wB.heap.size ≤ P ∧ ∃ cur m, w.heap[P]? = some (.cells cur 5 m)) : Tb wB (w2.setCell ⟨T, 9, none⟩ (.slice sN.p sN.n sN.c)) T k p r v ts (H ++ [b, far]) L sN sL (fun P => h P ∨ b.v.ownBlock = some P ∨ far.v.ownBlock = some P) := by
 have a : Apart (T :: sH.v.ownBlock.toList) w (w2.setCell ⟨T, 9, none⟩ (.slice sN.p sN.n sN.c)) := (a2.mono (fun x hx => List.mem_cons_of_mem _ hx)).setCell (.inl (by simp)) _
 have hbk2 : w2.heap[T]? = some (.cells (tbC k p r sH sL).toArray 49 (0, 0)) := (a2.block T (lt_of_heap t.blk) (fun hm => by
  obtain ⟨cur, e⟩ := own_typ (t.nh).own (k := T) (by simpa using hm)
  rw [t.blk] at e
  simp at e)).trans t.blk
 have hblk : (w2.setCell ⟨T, 9, none⟩ (.slice sN.p sN.n sN.c)).heap[T]? = some (.cells (tbC k p r sN sL).toArray 49 (0, 0)) := by
  rw [heap_setCell_same w2 T 9 _ 49 _ hbk2, List.setIfInBounds_toArray]
  rfl
 have hap : Apart [] wB (w2.setCell ⟨T, 9, none⟩ (.slice sN.p sN.n sN.c)) := n.ap.setCell (.inr t.tn) _
 generalize hw' : w2.setCell ⟨T, 9, none⟩ (.slice sN.p sN.n sN.c) = w' at *
 have hX : ∀ P ∈ T :: sH.v.ownBlock.toList, (∃ cur, w.heap[P]? = some (.cells cur 49 (0, 0))) ∨ (∃ cur, w.heap[P]? = some (.cells cur 29 (0, 0)) ∧ sH.v.ownBlock = some P) := fun P hP => by
  rcases List.mem_cons.1 hP with rfl | hP
  ·exact .inl ⟨_, t.blk⟩
  ·have hP' : sH.v.ownBlock = some P := by simpa using hP
   obtain ⟨cur, e⟩ := own_typ (t.nh).own hP'
   exact .inr ⟨cur, e, hP'⟩
 have hne : ∀ {P : Nat} {cur : Array Value} {t : Nat} {m : Nat × Nat}, w.heap[P]? = some (.cells cur t m) → t ≠ 49 → t ≠ 29 → P ∉ T :: sH.v.ownBlock.toList := fun {P cur t m} e h1 h2 hm => by
  rcases hX P hm with ⟨c, e'⟩ | ⟨c, e', -⟩
  all_goals
   rw [e'] at e
   simp only [Option.some.injEq, Obj.cells.injEq] at e
  ·exact h1 e.2.1.symm
  ·exact h2 e.2.1.symm
 have hXn : ∀ {ty : Nat}, ty ≠ 49 → ty ≠ 29 → ∀ q ∈ T :: sH.v.ownBlock.toList, ∀ cur m, w.heap[q]? ≠ some (.cells cur ty m) := fun {ty} h1 h2 q hq cur m e => hne e h1 h2 hq
 have hnP : ∀ P, h P → P ∉ T :: sH.v.ownBlock.toList := fun P hP hm => by
  obtain ⟨-, ⟨cur, m, e⟩, e3⟩ := t.hh P hP
  rcases hX P hm with ⟨c, e'⟩ | ⟨c, e', q⟩
  ·rw [e'] at e; simp at e
  ·exact e3 q
 have hn5 : ∀ {P : Nat} {cur : Array Value} {m : Nat × Nat}, w.heap[P]? = some (.cells cur 5 m) → P ∉ T :: sH.v.ownBlock.toList := fun e => hne e (by decide) (by decide)
 have kB : ∀ {s : Sl} {us : List Value}, RdT w s.p 5 us → RdT w' s.p 5 us := fun {s us} hr => hr.kept a (hXn (by decide) (by decide))
 have hbk : ∀ {P : Nat} {cur : Array Value} {m : Nat × Nat} {ty : Nat}, h P → w.heap[P]? = some (.cells cur ty m) → w'.heap[P]? = some (.cells cur ty m) := fun {P cur m ty} hp e => (a.block P (lt_of_heapM e) (hnP P hp)).trans e
 have hc : ∀ {P o : Nat} {cur : Array Value} {m : Nat × Nat} {ty : Nat}, h P → w.heap[P]? = some (.cells cur ty m) → w'.cell? ⟨P, o, none⟩ = w.cell? ⟨P, o, none⟩ := fun {P o cur m ty} hp e => a.cell (lt_of_heapM e) (hnP P hp)
 have hsN : w'.ownsRow 0 29 1 sN.v sN.n (svs (H ++ [b, far])) := own_apart n.own (by rw [← hw']; exact (Apart.refl [T] w2).setCell (.inl (by simp)) _) (fun q hq hm => by
  obtain ⟨cur, e⟩ := own_typ n.own hq
  rw [List.mem_singleton.1 hm, hbk2] at e
  simp at e)
 have hNn : ∀ P, sN.v.ownBlock = some P → ∃ cur, w'.heap[P]? = some (.cells cur 29 (0, 0)) := fun P hP => own_typ hsN hP
 refine ⟨hblk, t.tn, t.pn, t.rn, t.pd, t.rd, fun i hi => ?_, fun i hi => ?_, t.iv, t.kd, t.rl, ⟨hsN, n.new, hap⟩, by rw [hl, List.length_append]; rfl, ?_, t.ln, fun i x hx => ?_, fun i x hx j hj => ?_, fun P hP => ?_, ?_⟩
 ·obtain ⟨b0, hb0⟩ := t.bdP hi
  exact (t.pv i hi).keptX a (hne hb0 (by decide) (by decide)) (hXn (by decide) (by decide))
 ·obtain ⟨s, hs⟩ := t.rv i hi
  exact ⟨s, hs.other a (hne hs.dv.blk (by decide) (by decide)) (hXn (by decide) (by decide))⟩
 ·exact t.nl.keptX a (fun q hq => by
   obtain ⟨cur, e⟩ := own_typ t.nl.own hq
   exact hne e (by decide) (by decide)) hap
 ·have old : ∀ {i : Nat}, H[i]? = some x → RdT w' x.p 5 (byts (List.replicate x.n (mkN (i / 2)))) ∧ ∀ P o, x.p = some ⟨P, o, none⟩ → (h P ∨ b.v.ownBlock = some P ∨ far.v.ownBlock = some P) := fun {i} hx => by
   obtain ⟨h1, h2⟩ := t.hd i x hx
   exact ⟨kB h1, fun P o e => .inl (h2 P o e)⟩
  by_cases hi : i < H.length
  ·rw [List.getElem?_append_left hi] at hx
   exact old hx
  ·rw [List.getElem?_append_right (by omega)] at hx
   obtain ⟨q, hq⟩ := t.ev
   obtain e | e : i - H.length = 0 ∨ i - H.length = 1 := by
    have := (List.getElem?_eq_some_iff.1 hx).1
    simp at this
    omega
   ·rw [e] at hx
    obtain rfl : b = x := by simpa using hx
    have e2 : i / 2 = H.length / 2 := by omega
    rw [e2]
    exact ⟨kB hb, fun P o e => .inr (.inl (by rw [Sl.v, e]; rfl))⟩
   ·rw [e] at hx
    obtain rfl : far = x := by simpa using hx
    have e2 : i / 2 = H.length / 2 := by omega
    rw [e2]
    exact ⟨kB hf, fun P o e => .inr (.inr (by rw [Sl.v, e]; rfl))⟩
 ·obtain ⟨P, o, cur, m, q, c, e1, e2, e3, e4⟩ := t.ld i x hx j hj
  exact ⟨P, o, cur, m, q, c, e1, .inl e2, hbk e2 e3, (hc e2 e3).trans e4⟩
 ·have new : ∀ {cur : Array Value} {m : Nat × Nat}, wB.heap.size ≤ P → w.heap[P]? = some (.cells cur 5 m) → wB.heap.size ≤ P ∧ (∃ cur m, w'.heap[P]? = some (.cells cur 5 m) ∨ w'.heap[P]? = some (.cells cur 29 m)) ∧ sN.v.ownBlock ≠ some P := fun {cur m} h1 e => by
   have e' := (a.block P (lt_of_heapM e) (hn5 e)).trans e
   refine ⟨h1, ⟨cur, m, .inl e'⟩, fun q => ?_⟩
   obtain ⟨c, e2⟩ := hNn P q
   rw [e'] at e2
   simp at e2
  rcases hP with hP | hP | hP
  ·obtain ⟨e1, ⟨cur, m, e2⟩, e3⟩ := t.hh P hP
   refine ⟨e1, ⟨cur, m, e2.imp (hbk hP) (hbk hP)⟩, fun q => ?_⟩
   rcases hNw P q with q | q
   ·exact e3 q
   ·have : P < w.heap.size := e2.elim lt_of_heapM lt_of_heapM
    omega
  ·obtain ⟨h1, cur, m, e⟩ := eb P hP
   exact new h1 e
  ·obtain ⟨h1, cur, m, e⟩ := ef P hP
   exact new h1 e
 ·obtain ⟨q, hq⟩ := t.ev
  exact ⟨q + 1, by rw [List.length_append, hq]; simp; omega⟩
variable {wB w w' w2 : World} {T k : Nat} {p r : Nat → Nat} {v : Nat → Vl} {ts : Nat → List Tg} {H L : List Sl} {sH sL : Sl} {h : Nat → Prop}
theorem svs_at {l : List Sl} {i : Nat} {x : Sl} (hx : l[i]? = some x) : (svs l)[i]? = some (.slice x.p x.n x.c) := by
 simp only [svs, List.getElem?_map, hx, Option.map_some]
theorem whole_ok (t : Tb wB w T k p r v ts H L sH sL h) (hH : H.length ≤ 600000000) (hL : L.length ≤ 600000000) (hHn : ∀ x ∈ H, x.n ≤ 4000000) (hLn : ∀ x ∈ L, x.n ≤ 4000000) : Calls Tryz.prog 13 #[.pointer (some ⟨T, 0, none⟩)] w fun x w' => x = .returned (.bool true) ∧ w' = w := by
 have HT := hid t
 have z9 := t.ch
 have z10 := t.cl
 obtain ⟨N, HN⟩ : ∃ N, Hid (N = H.length) := ⟨_, hid rfl⟩
 obtain ⟨K, HK⟩ : ∃ N, Hid (N = L.length) := ⟨_, hid rfl⟩
 have hsn : sH.n = N := by rw [HN.out]; exact t.hn
 have hsl : sL.n = K := by rw [HK.out]; exact t.ln
 have hN6 : N ≤ 600000000 := by rw [HN.out]; exact hH
 have hK6 : K ≤ 600000000 := by rw [HK.out]; exact hL
 rw [hsn] at z9
 rw [hsl] at z10
 have HHn := hid hHn
 have HLn := hid hLn
 clear hHn hLn hH hL t hsn hsl
 go_enter Tryz.func13, Tryz.ntmps13
 go_wp2_with fail
 go_loopw [3] (fun v3 wt => ∃ i : Nat, v3 = .int .i64 (i : Int) ∧ i ≤ N ∧ Hid (wt = w)) (fun v3 _ => N - natV v3)
 case atStart => exact ⟨0, rfl, Nat.zero_le _, hid rfl⟩
 case round =>
  obtain ⟨i, rfl, hi, Hw⟩ := hrel
  rw [Hw.out]
  clear Hw
  by_cases hlt : i < N
  ·have hlti : ((i : Nat) : Int) < ((N : Nat) : Int) := by omega
   obtain ⟨x, Hx⟩ : ∃ x, Hid (H[i]? = some x) := ⟨_, hid (List.getElem?_eq_getElem (by have := HN.out; omega))⟩
   obtain ⟨P, o, hp, hP, hc⟩ := HT.out.nh.rd (by simp only [svs, List.length_map]; have := HN.out; omega)
   have zi := hc i _ (svs_at Hx.out)
   have Hr := hid (HT.out.hd i x Hx.out).1
   have hx4 : x.n ≤ 4000000 := HHn.out x (List.mem_of_getElem? Hx.out)
   obtain ⟨M, HM⟩ : ∃ M, Hid (M = mkN (i / 2)) := ⟨_, hid rfl⟩
   rw [← HM.out] at Hr
   have eM : ((i : Nat) : Int) / 2 % 250 + 1 = (M : Int) := by rw [HM.out, mkN]; omega
   obtain ⟨n, Hn⟩ : ∃ n, Hid (n = x.n) := ⟨_, hid rfl⟩
   rw [← Hn.out] at zi hx4 Hr
   clear hc hP
   rw [hp] at z9
   have z9' := z9
   go_upto_region 5 with fail
   go_loopw [4] (fun v4 wt => ∃ j : Nat, v4 = .int .i64 (j : Int) ∧ j ≤ n ∧ Hid (wt = w)) (fun v4 _ => n - natV v4)
   case atStart => exact ⟨0, rfl, Nat.zero_le _, hid rfl⟩
   case round =>
    obtain ⟨j, rfl, hj, Hw⟩ := hrel
    rw [Hw.out]
    clear Hw
    by_cases hjt : j < n
    ·have hjti : ((j : Nat) : Int) < ((n : Nat) : Int) := by omega
     obtain ⟨Q, oq, hq, hQ, hcj⟩ := Hr.out (by simp [byts]; omega)
     have zj := hcj j (.int .u8 (M : Int)) (by simp [byts, hjt])
     rw [hq] at zi
     have heq : (((M : Nat) : Int) != ((M : Nat) : Int)) = false := by simp
     clear hcj hQ
     go_wp2_with fail
     exact ⟨⟨j + 1, by go_num, by omega, hid (by first | exact trivial | rfl)⟩, by simp [natV]; omega⟩
    ·have hjti : ¬ ((j : Nat) : Int) < ((n : Nat) : Int) := by omega
     go_wp2_with fail
     exact ⟨⟨i + 1, by go_num, by omega, hid (by first | exact trivial | rfl)⟩, by simp [natV]; omega⟩
  ·have hlti : ¬ ((i : Nat) : Int) < ((N : Nat) : Int) := by omega
   go_upto_region 10 with fail
   go_loopw [5] (fun v5 wt => ∃ i : Nat, v5 = .int .i64 (i : Int) ∧ i ≤ K ∧ Hid (wt = w)) (fun v5 _ => K - natV v5)
   case atStart => exact ⟨0, rfl, Nat.zero_le _, hid rfl⟩
   case round =>
    obtain ⟨l, rfl, hl, Hw⟩ := hrel
    rw [Hw.out]
    clear Hw
    by_cases hlt2 : l < K
    ·have hlt2i : ((l : Nat) : Int) < ((K : Nat) : Int) := by omega
     obtain ⟨x, Hx⟩ : ∃ x, Hid (L[l]? = some x) := ⟨_, hid (List.getElem?_eq_getElem (by have := HK.out; omega))⟩
     obtain ⟨P, o, hp, hP, hc⟩ := HT.out.nl.rd (by simp only [svs, List.length_map]; have := HK.out; omega)
     have zi := hc l _ (svs_at Hx.out)
     have Hld := hid (HT.out.ld l x Hx.out)
     have hx4 : x.n ≤ 4000000 := HLn.out x (List.mem_of_getElem? Hx.out)
     obtain ⟨n, Hn⟩ : ∃ n, Hid (n = x.n) := ⟨_, hid rfl⟩
     rw [← Hn.out] at zi hx4 Hld
     clear hc hP
     rw [hp] at z10
     go_upto_region 13 with fail
     go_loopw [6] (fun v6 wt => ∃ j : Nat, v6 = .int .i64 (j : Int) ∧ j ≤ n ∧ Hid (wt = w)) (fun v6 _ => n - natV v6)
     case atStart => exact ⟨0, rfl, Nat.zero_le _, hid rfl⟩
     case round =>
      obtain ⟨j, rfl, hj, Hw⟩ := hrel
      rw [Hw.out]
      clear Hw
      by_cases hjt : j < n
      ·have hjti : ((j : Nat) : Int) < ((n : Nat) : Int) := by omega
       obtain ⟨Q, oq, cur, m, a, c, hq, -, -, zj⟩ := Hld.out j hjt
       rw [hq] at zi
       go_wp2_with fail
       exact ⟨⟨j + 1, by go_num, by omega, hid (by first | exact trivial | rfl)⟩, by simp [natV]; omega⟩
      ·have hjti : ¬ ((j : Nat) : Int) < ((n : Nat) : Int) := by omega
       go_wp2_with fail
       exact ⟨⟨l + 1, by go_num, by omega, hid (by first | exact trivial | rfl)⟩, by simp [natV]; omega⟩
    ·have hlt2i : ¬ ((l : Nat) : Int) < ((K : Nat) : Int) := by omega
     go_wp2_with fail
     go_ret
     exact ⟨rfl, by first | exact trivial | rfl⟩
end Go.Proofs.YtdbeeikjngnnnaaGreat.ty
