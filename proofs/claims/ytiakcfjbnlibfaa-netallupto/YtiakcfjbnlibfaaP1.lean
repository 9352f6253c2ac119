import Derived.Test.YtiakcfjbnlibfaaP0
namespace Go.Proofs.Ytiakcfjbnlibfaa.nt
open Go.ChangeShapes Go.WideShapes Go.ChangeAt Go.RowKit
set_option linter.unusedVariables false
set_option linter.unusedSimpArgs false
/-- a row of somebody's -/
structure OB (w : World) (who : Nat → Option Nat) (tag : Nat) (s : Sl) (us : List Value) (e : TypeId) : Prop where
  o : w.ownsRow 0 e 1 s.v s.n us
  t : ∀ k, s.v.ownBlock = some k → who k = some tag
theorem OB.mv {w w' : World} {who who' : Nat → Option Nat} {tag : Nat} {s : Sl} {us : List Value} {e : TypeId} {X : List Nat} (h : OB w who tag s us e) (a : Apart X w w') (hX : ∀ k ∈ X, who k ≠ some tag) (hw : ∀ k s, who k = some s → who' k = some s) : OB w' who' tag s us e :=
  ⟨own_apart h.o a (fun k hk hm => hX k hm (h.t k hk)), fun k hk => hw k _ (h.t k hk)⟩
/-- the program's bag with other blocks changed -/
theorem Bag.out {w0 w w' : World} {Bg : Nat} {room : Int} {s : Sl} {ls : List LM} {xs : List Tx} {c : Cn} {X : List Nat} (h : Bag w0 w Bg room s ls xs c) (a : Apart X w w') (h1 : Bg ∉ X) (h2 : ∀ k, s.v.ownBlock = some k → k ∉ X) (h3 : ∀ j, j < s.n → ∀ k, (gL ls j).d.v.ownBlock = some k → k ∉ X) (h4 : ∀ k ∈ X, w0.heap.size ≤ k) : Bag w0 w' Bg room s ls xs c :=
  ⟨(a.block _ (lt_of_heap h.blk) h1).trans h.blk, h.hB, ⟨own_apart h.row.own a h2, h.row.new, h.row.ap.trans' a (fun y hy => .inr (h4 y hy))⟩, h.len, h.xl, h.le, fun j hj => { h.rd j hj with d := own_apart (h.rd j hj).d a (h3 j hj) }⟩
theorem RB.out {w0 w w' : World} {Bg : Nat} {room : Int} {s : Sl} {ls : List LM} {xs : List Tx} {c : Cn} {X : List Nat} (h : RB w0 w Bg room s ls xs c) (a : Apart X w w') (h1 : Bg ∉ X) (h2 : ∀ k, s.v.ownBlock = some k → k ∉ X) (h3 : ∀ j, j < s.n → ∀ k, (gL ls j).d.v.ownBlock = some k → k ∉ X) (h4 : ∀ k ∈ X, w0.heap.size ≤ k) : RB w0 w' Bg room s ls xs c :=
  ⟨(a.block _ (lt_of_heap h.blk) h1).trans h.blk, h.hB, ⟨own_apart h.row.own a h2, h.row.new, h.row.ap.trans' a (fun y hy => .inr (h4 y hy))⟩, h.len, h.xl, h.le, fun j hj => { h.rd j hj with d := own_apart (h.rd j hj).d a (h3 j hj) }⟩
/-- the program's bag, as plain data and where it lies -/
structure Bd where
  g : Nat
  s : Sl
  ls : List LM
structure Bt (wa w : World) (who : Nat → Option Nat) (d : Bd) (room : Int) (xs : List Tx) (c : Cn) : Prop where
  b : Bag wa w d.g room d.s d.ls xs c
  wB : who d.g = some 1
  wS : ∀ k, d.s.v.ownBlock = some k → who k = some 1
  wL : ∀ j, j < d.s.n → ∀ k, (gL d.ls j).d.v.ownBlock = some k → who k = some 1
structure Rt (wa w : World) (who : Nat → Option Nat) (d : Bd) (room : Int) (xs : List Tx) (c : Cn) : Prop where
  b : RB wa w d.g room d.s d.ls xs c
  wB : who d.g = some 2
  wS : ∀ k, d.s.v.ownBlock = some k → who k = some 2
  wL : ∀ j, j < d.s.n → ∀ k, (gL d.ls j).d.v.ownBlock = some k → who k = some 2
theorem Bt.mv {wa w w' : World} {who who' : Nat → Option Nat} {d : Bd} {room : Int} {xs : List Tx} {c : Cn} {X : List Nat} (h : Bt wa w who d room xs c) (a : Apart X w w') (hX : ∀ k ∈ X, who k ≠ some 1) (hlo : ∀ k ∈ X, wa.heap.size ≤ k) (hw : ∀ k s, who k = some s → who' k = some s) : Bt wa w' who' d room xs c :=
  ⟨h.b.out a (fun m => hX _ m h.wB) (fun k hk m => hX _ m (h.wS k hk)) (fun j hj k hk m => hX _ m (h.wL j hj k hk)) hlo, hw _ _ h.wB, fun k hk => hw _ _ (h.wS k hk), fun j hj k hk => hw _ _ (h.wL j hj k hk)⟩
theorem Rt.mv {wa w w' : World} {who who' : Nat → Option Nat} {d : Bd} {room : Int} {xs : List Tx} {c : Cn} {X : List Nat} (h : Rt wa w who d room xs c) (a : Apart X w w') (hX : ∀ k ∈ X, who k ≠ some 2) (hlo : ∀ k ∈ X, wa.heap.size ≤ k) (hw : ∀ k s, who k = some s → who' k = some s) : Rt wa w' who' d room xs c :=
  ⟨h.b.out a (fun m => hX _ m h.wB) (fun k hk m => hX _ m (h.wS k hk)) (fun j hj k hk m => hX _ m (h.wL j hj k hk)) hlo, hw _ _ h.wB, fun k hk => hw _ _ (h.wS k hk), fun j hj k hk => hw _ _ (h.wL j hj k hk)⟩
/-- the answers that are kept -/
structure Sx where
  kb : List (Sl × Nat)
  ki : List (Sl × Nat)
  lf : List (Sl × List Nat)
  nm : List (Sl × List Nat × Sl)
def Sx.cof (x : Sx) (f : Nat) : List Value :=
  if f = 2 then x.kb.map (fun e => e.1.v) else if f = 3 then x.ki.map (fun e => e.1.v) else if f = 5 then x.kb.map (fun e => .int .i64 (e.2 : Int)) else if f = 6 then x.ki.map (fun e => .int .i64 (e.2 : Int))
  else if f = 8 then x.lf.map (fun e => e.1.v) else if f = 9 then x.lf.map (fun e => .string (strB e.2)) else if f = 10 then x.nm.map (fun e => e.1.v) else x.nm.map (fun e => e.2.2.v)
/-- the answers in memory -/
structure An (w : World) (who : Nat → Option Nat) (x : Sx) : Prop where
  kb : ∀ e ∈ x.kb, OB w who 30 e.1 (List.replicate e.1.n (.int .u8 ((e.2 % 256 : Nat) : Int))) 5
  ki : ∀ e ∈ x.ki, OB w who 30 e.1 (List.replicate e.1.n (.int .i64 (-(e.2 : Int)))) 3
  lf : ∀ i e, x.lf[i]? = some e → OB w who (40 + 2 * i) e.1 (byts e.2) 5 ∧ ∀ b ∈ e.2, b < 256
  nm : ∀ i e, x.nm[i]? = some e → OB w who (41 + 2 * i) e.1 (nums e.2.1) 3 ∧ OB w who 31 e.2.2 (nums e.2.1) 3
theorem An.mv {w w' : World} {who who' : Nat → Option Nat} {x : Sx} {X : List Nat} (h : An w who x) (a : Apart X w w') (hX : ∀ k ∈ X, ∀ t, who k = some t → t < 30) (hw : ∀ k s, who k = some s → who' k = some s) : An w' who' x :=
  ⟨fun e he => (h.kb e he).mv a (fun k hk e => by have := hX k hk _ e; omega) hw, fun e he => (h.ki e he).mv a (fun k hk e => by have := hX k hk _ e; omega) hw,
    fun i e he => ⟨(h.lf i e he).1.mv a (fun k hk e => by have := hX k hk _ e; omega) hw, (h.lf i e he).2⟩, fun i e he => ⟨(h.nm i e he).1.mv a (fun k hk e => by have := hX k hk _ e; omega) hw, (h.nm i e he).2.mv a (fun k hk e => by have := hX k hk _ e; omega) hw⟩⟩
/-- a pair: where it lies and what it holds -/
structure Px where
  b : Bd
  r : Bd
  room : Int
  xs : List Tx
  c : Cn
  ys : List Tx
  e : Cn
  mark : Nat
  turns : Nat
  lent : Sl
  lb : List Nat
  x : Sx
def Px.oth (p : Px) : Oth := ⟨.pointer (some ⟨p.b.g, 0, none⟩), .pointer (some ⟨p.r.g, 0, none⟩), p.mark, .slice p.lent.p p.lent.n p.lent.c, p.turns⟩
structure PQ (wa w : World) (P : Nat) (p : Px) (who : Nat → Option Nat) (l : Nat → List Value) : Prop where
  sm : Sm w P p.oth l who
  lo : ∀ k t, who k = some t → wa.heap.size ≤ k
  ap : Apart [] wa w
  bt : Bt wa w who p.b p.room p.xs p.c
  rt : Rt wa w who p.r p.room p.ys p.e
  ln : OB w who 3 p.lent (byts p.lb) 5
  an : An w who p.x
theorem PQ.kept0 {wa w w' : World} {P : Nat} {p : Px} {who : Nat → Option Nat} {l : Nat → List Value} (h : PQ wa w P p who l) (a : Apart [] w w') : PQ wa w' P p who l :=
  ⟨h.sm.kept0 a, h.lo, h.ap.trans a, h.bt.mv a (by simp) (by simp) (fun _ _ h => h), h.rt.mv a (by simp) (by simp) (fun _ _ h => h), h.ln.mv a (by simp) (fun _ _ h => h), h.an.mv a (by simp) (fun _ _ h => h)⟩
/-- blocks that nobody has change (or new ones come) -/
theorem PQ.keptN {wa w w' : World} {P : Nat} {p : Px} {who : Nat → Option Nat} {l : Nat → List Value} {X : List Nat} (h : PQ wa w P p who l) (a : Apart X w w') (hX : ∀ k ∈ X, who k = none) (hlo : ∀ k ∈ X, wa.heap.size ≤ k) : PQ wa w' P p who l :=
  ⟨h.sm.kept a hX, h.lo, h.ap.trans' a (fun y hy => .inr (hlo y hy)), h.bt.mv a (fun k hk e => by rw [hX k hk] at e; cases e) hlo (fun _ _ h => h), h.rt.mv a (fun k hk e => by rw [hX k hk] at e; cases e) hlo (fun _ _ h => h), h.ln.mv a (fun k hk e => by rw [hX k hk] at e; cases e) (fun _ _ h => h), h.an.mv a (fun k hk t e => by rw [hX k hk] at e; cases e) (fun _ _ h => h)⟩
/-- a block from behind is nobody's -/
theorem PQ.free {wa w : World} {P : Nat} {p : Px} {who : Nat → Option Nat} {l : Nat → List Value} (h : PQ wa w P p who l) {k : Nat} (hk : w.heap.size ≤ k) : who k = none := by
  cases e : who k with
  | none => rfl
  | some t => have := h.sm.own k t e; omega
theorem whoP_new {who : Nat → Option Nat} {b : Option Nat} {t k s : Nat} (h : whoP who b t k = some s) : (b = some k ∧ s = t) ∨ who k = some s := by
  unfold whoP at h
  split at h
  · rename_i e; left; exact ⟨e, by simpa using h.symm⟩
  · exact .inr h
theorem whoP_at {who : Nat → Option Nat} {b : Option Nat} {t k : Nat} (h : b = some k) : whoP who b t k = some t := by
  unfold whoP; rw [if_pos h]
/-- who has what may grow -/
theorem PQ.grow {wa w : World} {P : Nat} {p : Px} {who who' : Nat → Option Nat} {l : Nat → List Value} (h : PQ wa w P p who l) (hw : ∀ k s, who k = some s → who' k = some s) (ho : ∀ k t, who' k = some t → k < w.heap.size) (hl : ∀ k t, who' k = some t → wa.heap.size ≤ k) : PQ wa w P p who' l :=
  ⟨h.sm.grow hw ho, hl, h.ap, h.bt.mv (Apart.refl [] w) (by simp) (by simp) hw, h.rt.mv (Apart.refl [] w) (by simp) (by simp) hw, h.ln.mv (Apart.refl [] w) (by simp) hw, h.an.mv (Apart.refl [] w) (by simp) hw⟩
/-- somebody gets a block that was nobody's -/
theorem PQ.tag {wa w : World} {P : Nat} {p : Px} {who : Nat → Option Nat} {l : Nat → List Value} (h : PQ wa w P p who l) (b : Option Nat) (t : Nat) (hb : ∀ k, b = some k → who k = none ∧ k < w.heap.size ∧ wa.heap.size ≤ k) : PQ wa w P p (whoP who b t) l ∧ (∀ k s, who k = some s → whoP who b t k = some s) := by
  have hm : ∀ k s, who k = some s → whoP who b t k = some s := fun k s hk => whoP_old (fun q hq => .inl (hb q hq).1) hk
  refine ⟨h.grow hm (fun k s hk => ?_) (fun k s hk => ?_), hm⟩
  · rcases whoP_new hk with ⟨e, _⟩ | e
    · exact (hb k e).2.1
    · exact h.sm.own k s e
  · rcases whoP_new hk with ⟨e, _⟩ | e
    · exact (hb k e).2.2
    · exact h.lo k s e
/-- who has what, with new blocks of somebody's -/
def whoQ (who : Nat → Option Nat) (lo hi : Nat) (q : Bool) (t : Nat) : Nat → Option Nat := fun k => if q = true ∧ lo ≤ k ∧ k < hi then some t else who k
theorem whoQ_old {who : Nat → Option Nat} {lo hi : Nat} {q : Bool} {t : Nat} (h : ∀ k s, who k = some s → k < lo) {k s : Nat} (hk : who k = some s) : whoQ who lo hi q t k = some s := by
  have := h k s hk
  unfold whoQ
  rw [if_neg (by omega)]; exact hk
theorem whoQ_new {who : Nat → Option Nat} {lo hi : Nat} {q : Bool} {t k s : Nat} (h : whoQ who lo hi q t k = some s) : (q = true ∧ lo ≤ k ∧ k < hi ∧ s = t) ∨ who k = some s := by
  unfold whoQ at h
  split at h
  · rename_i e; left; exact ⟨e.1, e.2.1, e.2.2, by simpa using h.symm⟩
  · exact .inr h
theorem whoQ_at {who : Nat → Option Nat} {lo hi : Nat} {q : Bool} {t k : Nat} (hq : q = true) (h1 : lo ≤ k) (h2 : k < hi) : whoQ who lo hi q t k = some t := by
  unfold whoQ; rw [if_pos ⟨hq, h1, h2⟩]
/-- a call on the program's bag -/
theorem PQ.bag {wa w w' : World} {P : Nat} {p : Px} {who : Nat → Option Nat} {l : Nat → List Value} {X : List Nat} (h : PQ wa w P p who l) (a : Apart X w w') (hX : ∀ k ∈ X, who k = some 1) (q : Bool) (d : Bd) (xs : List Tx) (c : Cn) (hd : d.g = p.b.g) (b : Bag wa w' d.g p.room d.s d.ls xs c)
    (hs : ∀ k, d.s.v.ownBlock = some k → who k = some 1 ∨ q = true ∧ w.heap.size ≤ k) (hl : ∀ j, j < d.s.n → ∀ k, (gL d.ls j).d.v.ownBlock = some k → who k = some 1 ∨ q = true ∧ w.heap.size ≤ k) :
    PQ wa w' P { p with b := d, xs := xs, c := c } (whoQ who w.heap.size w'.heap.size q 1) l := by
  have hsz := h.ap.size
  have hold : ∀ k s, who k = some s → whoQ who w.heap.size w'.heap.size q 1 k = some s := fun k s hk => whoQ_old (fun k s hk => h.sm.own k s hk) hk
  have hlt : ∀ k t, whoQ who w.heap.size w'.heap.size q 1 k = some t → k < w'.heap.size := fun k t hk => by
    rcases whoQ_new hk with ⟨_, _, e, _⟩ | e
    · exact e
    · exact Nat.lt_of_lt_of_le (h.sm.own k t e) a.size
  have hin : ∀ k, k < w'.heap.size → (who k = some 1 ∨ q = true ∧ w.heap.size ≤ k) → whoQ who w.heap.size w'.heap.size q 1 k = some 1 := fun k hk ho => by
    rcases ho with ho | ⟨hq, ho⟩
    · exact hold k 1 ho
    · exact whoQ_at hq ho hk
  have hlo1 : ∀ k ∈ X, wa.heap.size ≤ k := fun k hk => h.lo k 1 (hX k hk)
  have hne : ∀ (t : Nat), t ≠ 1 → ∀ k ∈ X, who k ≠ some t := fun t ht k hk e => by rw [hX k hk] at e; simp at e; exact ht e.symm
  have ho : Px.oth { p with b := d, xs := xs, c := c } = p.oth := by simp [Px.oth, hd]
  refine ⟨by rw [ho]; exact (h.sm.keptT a (fun k hk => ⟨hne 0 (by decide) k hk, fun f hf => hne (f + 10) (by omega) k hk⟩)).grow hold hlt, fun k t hk => ?_, h.ap.trans' a (fun y hy => .inr (hlo1 y hy)), ⟨b, by rw [hd]; exact hold _ _ h.bt.wB, fun k hk => hin k (b.row.own.lt k hk).2 (hs k hk), fun j hj k hk => hin k ((b.rd j hj).d.lt k hk).2 (hl j hj k hk)⟩, h.rt.mv a (hne 2 (by decide)) hlo1 hold, h.ln.mv a (hne 3 (by decide)) hold, h.an.mv a (fun k hk t e => by rw [hX k hk] at e; simp at e; omega) hold⟩
  rcases whoQ_new hk with ⟨_, e, _⟩ | e
  · omega
  · exact h.lo k t e
/-- a call on the document's bag -/
theorem PQ.ref {wa w w' : World} {P : Nat} {p : Px} {who : Nat → Option Nat} {l : Nat → List Value} {X : List Nat} (h : PQ wa w P p who l) (a : Apart X w w') (hX : ∀ k ∈ X, who k = some 2) (q : Bool) (d : Bd) (xs : List Tx) (c : Cn) (hd : d.g = p.r.g) (b : RB wa w' d.g p.room d.s d.ls xs c)
    (hs : ∀ k, d.s.v.ownBlock = some k → who k = some 2 ∨ q = true ∧ w.heap.size ≤ k) (hl : ∀ j, j < d.s.n → ∀ k, (gL d.ls j).d.v.ownBlock = some k → who k = some 2 ∨ q = true ∧ w.heap.size ≤ k) :
    PQ wa w' P { p with r := d, ys := xs, e := c } (whoQ who w.heap.size w'.heap.size q 2) l := by
  have hsz := h.ap.size
  have hold : ∀ k s, who k = some s → whoQ who w.heap.size w'.heap.size q 2 k = some s := fun k s hk => whoQ_old (fun k s hk => h.sm.own k s hk) hk
  have hlt : ∀ k t, whoQ who w.heap.size w'.heap.size q 2 k = some t → k < w'.heap.size := fun k t hk => by
    rcases whoQ_new hk with ⟨_, _, e, _⟩ | e
    · exact e
    · exact Nat.lt_of_lt_of_le (h.sm.own k t e) a.size
  have hin : ∀ k, k < w'.heap.size → (who k = some 2 ∨ q = true ∧ w.heap.size ≤ k) → whoQ who w.heap.size w'.heap.size q 2 k = some 2 := fun k hk ho => by
    rcases ho with ho | ⟨hq, ho⟩
    · exact hold k 2 ho
    · exact whoQ_at hq ho hk
  have hlo1 : ∀ k ∈ X, wa.heap.size ≤ k := fun k hk => h.lo k 2 (hX k hk)
  have hne : ∀ (t : Nat), t ≠ 2 → ∀ k ∈ X, who k ≠ some t := fun t ht k hk e => by rw [hX k hk] at e; simp at e; exact ht e.symm
  have ho : Px.oth { p with r := d, ys := xs, e := c } = p.oth := by simp [Px.oth, hd]
  refine ⟨by rw [ho]; exact (h.sm.keptT a (fun k hk => ⟨hne 0 (by decide) k hk, fun f hf => hne (f + 10) (by omega) k hk⟩)).grow hold hlt, fun k t hk => ?_, h.ap.trans' a (fun y hy => .inr (hlo1 y hy)), h.bt.mv a (hne 1 (by decide)) hlo1 hold, ⟨b, by rw [hd]; exact hold _ _ h.rt.wB, fun k hk => hin k (b.row.own.lt k hk).2 (hs k hk), fun j hj k hk => hin k ((b.rd j hj).d.lt k hk).2 (hl j hj k hk)⟩, h.ln.mv a (hne 3 (by decide)) hold, h.an.mv a (fun k hk t e => by rw [hX k hk] at e; simp at e; omega) hold⟩
  rcases whoQ_new hk with ⟨_, e, _⟩ | e
  · omega
  · exact h.lo k t e
/-- a cell of the pair's own row, or its lists -/
theorem PQ.row {wa w w' : World} {P : Nat} {p p' : Px} {who who' : Nat → Option Nat} {l l' : Nat → List Value} {X : List Nat} (h : PQ wa w P p who l) (a : Apart X w w') (hX : ∀ k ∈ X, ∃ t, who k = some t ∧ (t = 0 ∨ ∃ f ∈ fs, t = f + 10)) (s : Sm w' P p'.oth l' who') (hw : ∀ k s, who k = some s → who' k = some s) (hn : ∀ k s, who' k = some s → who k = some s ∨ w.heap.size ≤ k)
    (hp : p'.b = p.b ∧ p'.r = p.r ∧ p'.room = p.room ∧ p'.xs = p.xs ∧ p'.c = p.c ∧ p'.ys = p.ys ∧ p'.e = p.e ∧ p'.lent = p.lent ∧ p'.lb = p.lb ∧ p'.x = p.x) : PQ wa w' P p' who' l' := by
  obtain ⟨e1, e2, e3, e4, e5, e6, e7, e8, e9, e10⟩ := hp
  have hf : ∀ f ∈ fs, f ≤ 11 := by decide
  have hne : ∀ (t : Nat), (t = 1 ∨ t = 2 ∨ t = 3 ∨ 30 ≤ t) → ∀ k ∈ X, who k ≠ some t := fun t ht k hk e => by
    obtain ⟨u, hu, h0⟩ := hX k hk
    rw [hu] at e
    simp at e
    rcases h0 with h0 | ⟨f, hf1, h0⟩
    · omega
    · have hb : f ∈ ([2, 3, 5, 6, 8, 9, 10, 11] : List Nat) := hf1
      simp at hb
      omega
  have hlo1 : ∀ k ∈ X, wa.heap.size ≤ k := fun k hk => by obtain ⟨u, hu, _⟩ := hX k hk; exact h.lo k u hu
  have h30 : ∀ k ∈ X, ∀ t, who k = some t → t < 30 := fun k hk t e => by
    by_cases ht : t < 30
    · exact ht
    · exact absurd e (hne t (by omega) k hk)
  refine ⟨s, fun k t hk => ?_, h.ap.trans' a (fun y hy => .inr (hlo1 y hy)), by rw [e1, e3, e4, e5]; exact h.bt.mv a (hne 1 (by omega)) hlo1 hw, by rw [e2, e3, e6, e7]; exact h.rt.mv a (hne 2 (by omega)) hlo1 hw, by rw [e8, e9]; exact h.ln.mv a (hne 3 (by omega)) hw, by rw [e10]; exact h.an.mv a h30 hw⟩
  rcases hn k t hk with h1 | h1
  · exact h.lo k t h1
  · have := h.ap.size; omega
theorem PQ.mark {wa w : World} {P : Nat} {p : Px} {who : Nat → Option Nat} {l : Nat → List Value} (h : PQ wa w P p who l) (m : Nat) : PQ wa (w.setCell ⟨P, 4, none⟩ (.int .i64 (m : Int))) P { p with mark := m } who l :=
  h.row ((Apart.refl [P] w).setCell (by simp) _) (fun k hk => by simp at hk; subst hk; exact ⟨0, h.sm.wS, .inl rfl⟩) (h.sm.setO 4 _ _ (fun v => rfl)) (fun _ _ h => h) (fun _ _ h => .inl h) ⟨rfl, rfl, rfl, rfl, rfl, rfl, rfl, rfl, rfl, rfl⟩
theorem PQ.turn {wa w : World} {P : Nat} {p : Px} {who : Nat → Option Nat} {l : Nat → List Value} (h : PQ wa w P p who l) (m : Nat) : PQ wa (w.setCell ⟨P, 12, none⟩ (.int .i64 (m : Int))) P { p with turns := m } who l :=
  h.row ((Apart.refl [P] w).setCell (by simp) _) (fun k hk => by simp at hk; subst hk; exact ⟨0, h.sm.wS, .inl rfl⟩) (h.sm.setO 12 _ _ (fun v => rfl)) (fun _ _ h => h) (fun _ _ h => .inl h) ⟨rfl, rfl, rfl, rfl, rfl, rfl, rfl, rfl, rfl, rfl⟩
/-- a field's list has one more: the run of append, and the pair behind the store -/
theorem PQ.app {wa w : World} {P : Nat} {p : Px} {who : Nat → Option Nat} {l : Nat → List Value} (h : PQ wa w P p who l) (f : Nat) (hf : f ∈ fs) (x : Value) (hx : x.oneCell' = true) (hl : (l f).length ≤ 100000) {q : Option Addr} {cp : Nat} (hc : w.cell? ⟨P, f, none⟩ = some (.slice q (l f).length cp)) (ty : TypeId) :
    ∃ p' cp' w2 who', (Builtin.append_ #[sty f, sty f] ty #[.slice q (l f).length cp, .slice (some ⟨w.heap.size, 0, none⟩) 1 1]).run Try.prog (w.alloc (.cells #[x] (ety f))) = .ok (.slice p' ((l f).length + 1) cp') w2 ∧ (∃ y, w2.cell? ⟨P, f, none⟩ = some y) ∧ w2.frozen? ⟨P, f, none⟩ = false ∧
      PQ wa (w2.setCell ⟨P, f, none⟩ (.slice p' ((l f).length + 1) cp')) P p who' (updC l f (l f ++ [x])) ∧ (∀ k s, who k = some s → who' k = some s) ∧ (∀ k s, who' k = some s → who k = some s ∨ (w.heap.size ≤ k ∧ s = f + 10)) ∧ ∃ X, Apart X w (w2.setCell ⟨P, f, none⟩ (.slice p' ((l f).length + 1) cp')) ∧ ∀ k ∈ X, who k = some 0 ∨ who k = some (f + 10) := by
  obtain ⟨p', cp', w2, hrun, hy, hfz, who', X, hsm, hw, hn, ha, hX⟩ := h.sm.app f hf x hx hl hc ty
  exact ⟨p', cp', w2, who', hrun, hy, hfz, h.row (p' := p) ha (fun k hk => (hX k hk).elim (fun e => ⟨0, e, .inl rfl⟩) (fun e => ⟨f + 10, e, .inr ⟨f, hf, rfl⟩⟩)) hsm hw (fun k s hk => (hn k s hk).imp id (fun e => e.1)) ⟨rfl, rfl, rfl, rfl, rfl, rfl, rfl, rfl, rfl, rfl⟩, hw, hn, X, ha, hX⟩
/-- a field's list loses its first -/
theorem PQ.cut {wa w : World} {P : Nat} {p : Px} {who : Nat → Option Nat} {l : Nat → List Value} (h : PQ wa w P p who l) (f : Nat) (hf : f ∈ fs) (hl : 1 < (l f).length) :
    ∃ g o cp, w.cell? ⟨P, f, none⟩ = some (.slice (some ⟨g, o, none⟩) (l f).length cp) ∧ (l f).length ≤ cp ∧ PQ wa (w.setCell ⟨P, f, none⟩ (.slice (some ⟨g, o + 1, none⟩) ((l f).length - 1) (cp - 1))) P p who (updC l f (l f).tail) := by
  obtain ⟨g, o, cp, hc, hle, hsm⟩ := h.sm.cut f hf hl
  exact ⟨g, o, cp, hc, hle, h.row ((Apart.refl [P] w).setCell (by simp) _) (fun k hk => by simp at hk; subst hk; exact ⟨0, h.sm.wS, .inl rfl⟩) hsm (fun _ _ h => h) (fun _ _ h => .inl h) ⟨rfl, rfl, rfl, rfl, rfl, rfl, rfl, rfl, rfl, rfl⟩⟩
theorem PQ.setX {wa w : World} {P : Nat} {p : Px} {who : Nat → Option Nat} {l : Nat → List Value} (h : PQ wa w P p who l) (x : Sx) (hx : An w who x) : PQ wa w P { p with x := x } who l := ⟨h.sm, h.lo, h.ap, h.bt, h.rt, h.ln, hx⟩
theorem PQ.congr {wa w : World} {P : Nat} {p : Px} {who : Nat → Option Nat} {l l' : Nat → List Value} (h : PQ wa w P p who l) (hl : ∀ f, f ∈ fs → l f = l' f) : PQ wa w P p who l' := ⟨h.sm.congr hl, h.lo, h.ap, h.bt, h.rt, h.ln, h.an⟩
/-- the lent memory is other memory -/
theorem PQ.lend {wa w : World} {P : Nat} {p : Px} {who : Nat → Option Nat} {l : Nat → List Value} (h : PQ wa w P p who l) (s : Sl) (lb : List Nat) (o : OB w who 3 s (byts lb) 5) : PQ wa (w.setCell ⟨P, 7, none⟩ (.slice s.p s.n s.c)) P { p with lent := s, lb := lb } who l := by
  have a : Apart [P] w (w.setCell ⟨P, 7, none⟩ (.slice s.p s.n s.c)) := (Apart.refl [P] w).setCell (by simp) _
  have hne : ∀ (t : Nat), t ≠ 0 → ∀ k ∈ [P], who k ≠ some t := fun t ht k hk e => by
    simp at hk; subst hk
    rw [h.sm.wS] at e; simp at e; exact ht e.symm
  have hlo1 : ∀ k ∈ [P], wa.heap.size ≤ k := fun k hk => by simp at hk; subst hk; exact h.lo _ _ h.sm.wS
  exact ⟨h.sm.setO 7 _ _ (fun v => rfl), h.lo, h.ap.trans' a (fun y hy => .inr (hlo1 y hy)), h.bt.mv a (hne 1 (by decide)) hlo1 (fun _ _ h => h), h.rt.mv a (hne 2 (by decide)) hlo1 (fun _ _ h => h), o.mv a (hne 3 (by decide)) (fun _ _ h => h), h.an.mv a (fun k hk t e => by simp at hk; subst hk; rw [h.sm.wS] at e; simp at e; omega) (fun _ _ h => h)⟩
/-- the lent memory is written -/
theorem PQ.lentW {wa w w' : World} {P : Nat} {p : Px} {who : Nat → Option Nat} {l : Nat → List Value} {X : List Nat} (h : PQ wa w P p who l) (a : Apart X w w') (hX : ∀ k ∈ X, who k = some 3) (lb : List Nat) (o : w'.ownsRow 0 5 1 p.lent.v p.lent.n (byts lb)) : PQ wa w' P { p with lb := lb } who l := by
  have hne : ∀ (t : Nat), t ≠ 3 → ∀ k ∈ X, who k ≠ some t := fun t ht k hk e => by rw [hX k hk] at e; simp at e; exact ht e.symm
  have hlo1 : ∀ k ∈ X, wa.heap.size ≤ k := fun k hk => h.lo k 3 (hX k hk)
  exact ⟨h.sm.keptT a (fun k hk => ⟨hne 0 (by decide) k hk, fun f hf => hne (f + 10) (by have : f ∈ ([2, 3, 5, 6, 8, 9, 10, 11] : List Nat) := hf; simp at this; omega) k hk⟩), h.lo, h.ap.trans' a (fun y hy => .inr (hlo1 y hy)), h.bt.mv a (hne 1 (by decide)) hlo1 (fun _ _ h => h), h.rt.mv a (hne 2 (by decide)) hlo1 (fun _ _ h => h), ⟨o, h.ln.t⟩, h.an.mv a (fun k hk t e => by rw [hX k hk] at e; simp at e; omega) (fun _ _ h => h)⟩
end Go.Proofs.Ytiakcfjbnlibfaa.nt
