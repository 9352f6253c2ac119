import Derived.Test.YtiakcfjbnlibfaaT1
namespace Go.Proofs.Ytiakcfjbnlibfaa.nt
open Go.ChangeShapes Go.WideShapes Go.ChangeAt Go.RowKit
set_option linter.unusedVariables false
set_option linter.unusedSimpArgs false
theorem opDel_cb {xs : List Tx} {c : Cn} {i : Int} {K : Nat} (h : Cb c K) : Cb (opDel xs c i).c (K + 1) := by
  unfold opDel; split
  · exact h.a2
  · exact h.le (by omega)
theorem opSee_cb {xs : List Tx} {c : Cn} {i : Int} {K : Nat} (h : Cb c K) : Cb (opSee xs c i).c (K + 1) := h.le (by omega)
/-- behind a call that answers a letter: its memory is nobody's -/
structure DP2 (wa w w' : World) (r : Ending) (P : Nat) (p : Px) (who : Nat → Option Nat) (x : Tx) (o : OpR) : Prop where
  ex : ∃ l who' d, r = .returned (.tuple #[LM.agg l, .int .i64 o.code]) ∧ PQ wa w' P { p with b := d, xs := o.xs, c := o.c } who' p.x.cof ∧ Stp w w' who who' none ∧ d.g = p.b.g ∧ OwnL w' l x ∧ ∀ q, l.d.v.ownBlock = some q → w.heap.size ≤ q ∧ who' q = none
theorem deliverP2 {wa w : World} {P : Nat} {p : Px} {who : Nat → Option Nat} {K : Nat} (h : PQ wa w P p who p.x.cof) (i : Int) (hK : Cb p.c K) (hK2 : K ≤ 1000000) :
    Calls Try.prog 17 #[.pointer (some ⟨p.b.g, 0, none⟩), .int .i64 i] w fun r w' => DP2 wa w w' r P p who (opAt p.xs i) (opDel p.xs p.c i) := by
  have hxl : p.xs.length = p.b.s.n := h.bt.b.xl
  have hb2 := hK.b2
  by_cases hi : 0 ≤ i ∧ i < (p.xs.length : Int)
  · obtain ⟨G, m, cq, hs⟩ := h.bt.b.here (by omega)
    have hb := h.bt.b
    have hwS := h.bt.wS
    rw [hs] at hb hwS
    have hm : p.xs.length = m + 1 := by rw [hxl, hs]
    obtain ⟨I, rfl⟩ : ∃ I : Nat, i = (I : Int) := ⟨i.toNat, by omega⟩
    refine (deliver_ok hb I (by omega) (by omega) (by omega)).mono (fun r w' hh => ?_)
    obtain ⟨l, rfl, hb', hl, hq, a⟩ := hh.ex
    have e : opDel p.xs p.c (I : Int) = ⟨0, p.xs.eraseIdx I, { p.c with c2 := p.c.c2 + 1 }⟩ := by unfold opDel; rw [if_pos hi]; simp
    have e2 : opAt p.xs (I : Int) = gT p.xs I := by unfold opAt; rw [if_pos hi]; simp
    rw [e, e2]
    have hX : ∀ k ∈ [G, p.b.g], who k = some 1 := fun k hk => by
      simp at hk
      rcases hk with rfl | rfl
      · exact hwS _ rfl
      · exact h.bt.wB
    have h2 := h.bag a hX false ⟨p.b.g, ⟨some ⟨G, 0, none⟩, m, cq⟩, p.b.ls.eraseIdx I⟩ (p.xs.eraseIdx I) { p.c with c2 := p.c.c2 + 1 } rfl hb' (fun k hk => .inl (hwS k hk)) (fun j hj k hk => by
      have hj' : j < (p.b.ls.eraseIdx I).length := by rw [hb'.len]; exact hj
      exact .inl (h.bt.mem _ (List.mem_of_mem_eraseIdx (by dsimp only at hk ⊢; rw [gL_eq _ _ hj'] at hk ⊢; exact List.getElem_mem _)) k hk))
    refine ⟨l, _, _, rfl, h2, ⟨fun k s e => whoQ_old (fun k s hk => h.sm.own k s hk) e, fun k s e => ?_, _, a, fun k hk => ?_⟩, rfl, hl, fun q hq' => ⟨hq q hq', ?_⟩⟩
    · rcases whoQ_new e with ⟨e, _⟩ | e
      · cases e
      · exact .inl e
    · left; rw [hX k hk]; simp
    · cases e : whoQ who w.heap.size w'.heap.size false 1 q with
      | none => rfl
      | some s =>
        rcases whoQ_new e with ⟨e, _⟩ | e
        · cases e
        · have := h.sm.own q s e; have := hq q hq'; omega
  · refine (deliver_bad h.bt.b i (by omega)).mono (fun r w' hh => ?_)
    obtain ⟨rfl, a⟩ := hh
    have e : opDel p.xs p.c i = ⟨100, p.xs, p.c⟩ := by unfold opDel; rw [if_neg hi]
    have e2 : opAt p.xs i = Tx.z := by unfold opAt; rw [if_neg hi]
    rw [e, e2]
    exact ⟨LM.z, who, p.b, rfl, h.kept0 a, Stp.ap0 a, rfl, own_z _, fun q hq => by cases hq⟩
theorem atP2 {wa w : World} {P : Nat} {p : Px} {who : Nat → Option Nat} (h : PQ wa w P p who p.x.cof) (i : Int) :
    Calls Try.prog 15 #[.pointer (some ⟨p.b.g, 0, none⟩), .int .i64 i] w fun r w' => DP2 wa w w' r P p who (opAt p.xs i) (opSee p.xs p.c i) := by
  have hxl : p.xs.length = p.b.s.n := h.bt.b.xl
  by_cases hi : 0 ≤ i ∧ i < (p.xs.length : Int)
  · obtain ⟨I, rfl⟩ : ∃ I : Nat, i = (I : Int) := ⟨i.toNat, by omega⟩
    refine (at_ok h.bt.b I (by omega)).mono (fun r w' hh => ?_)
    obtain ⟨l, rfl, hl⟩ := hh
    have e : opSee p.xs p.c (I : Int) = ⟨0, p.xs, p.c⟩ := by unfold opSee; rw [if_pos hi]
    have e2 : opAt p.xs (I : Int) = gT p.xs I := by unfold opAt; rw [if_pos hi]; simp
    rw [e, e2]
    exact ⟨l, who, p.b, rfl, h.kept0 hl.d.ap, Stp.ap0 hl.d.ap, rfl, ⟨hl.f, hl.t, hl.d.own, hl.dn, hl.dl, hl.db⟩, fun q hq => ⟨hl.d.new q hq, h.free (hl.d.new q hq)⟩⟩
  · refine (at_bad h.bt.b i (by omega)).mono (fun r w' hh => ?_)
    obtain ⟨rfl, a⟩ := hh
    have e : opSee p.xs p.c i = ⟨100, p.xs, p.c⟩ := by unfold opSee; rw [if_neg hi]
    have e2 : opAt p.xs i = Tx.z := by unfold opAt; rw [if_neg hi]
    rw [e, e2]
    exact ⟨LM.z, who, p.b, rfl, h.kept0 a, Stp.ap0 a, rfl, own_z _, fun q hq => by cases hq⟩
/-- behind the program's call -/
structure E1 (wa w0 w : World) (P : Nat) (who0 : Nat → Option Nat) (bs : List (Nat × Obj)) (gb gr : Nat) (p : Px) (x : Tx) (op : OpR) (l : LM) : Prop where
  ex : ∃ p1 who1 d, Mid wa w0 w P who0 bs gb gr p1 who1 ∧ p1 = { p with b := d, xs := op.xs, c := op.c } ∧ OwnL w l x ∧ ∀ q, l.d.v.ownBlock = some q → w0.heap.size ≤ q ∧ who1 q = none
/-- behind the document's call -/
structure E2 (wa w0 w : World) (P : Nat) (who0 : Nat → Option Nat) (bs : List (Nat × Obj)) (gb gr : Nat) (p : Px) (x : Tx) (op : OpR) (l m : LM) : Prop where
  ex : ∃ p2 who2 d1 d2, Mid wa w0 w P who0 bs gb gr p2 who2 ∧ p2 = { p with b := d1, xs := op.xs, c := op.c, r := d2, ys := op.xs, e := op.c } ∧ OwnL w l x ∧ (∀ q, l.d.v.ownBlock = some q → w0.heap.size ≤ q ∧ who2 q = none) ∧ ReadsL w m x
structure C1 (wa w0 w : World) (r : Ending) (P : Nat) (who0 : Nat → Option Nat) (bs : List (Nat × Obj)) (gb gr : Nat) (p : Px) (x : Tx) (op : OpR) : Prop where
  ex : ∃ l, r = .returned (.tuple #[LM.agg l, .int .i64 op.code]) ∧ E1 wa w0 w P who0 bs gb gr p x op l
structure C2 (wa w0 w : World) (r : Ending) (P : Nat) (who0 : Nat → Option Nat) (bs : List (Nat × Obj)) (gb gr : Nat) (p : Px) (x : Tx) (op : OpR) (l : LM) : Prop where
  ex : ∃ m, r = .returned (.tuple #[LM.agg m, .int .i64 op.code]) ∧ E2 wa w0 w P who0 bs gb gr p x op l m
theorem Mid.c1 {wa w0 w w' : World} {r : Ending} {P : Nat} {who0 : Nat → Option Nat} {bs : List (Nat × Obj)} {gb gr : Nat} {p : Px} {who : Nat → Option Nat} {x : Tx} {op : OpR} (m : Mid wa w0 w P who0 bs gb gr p who) (h : DP2 wa w w' r P p who x op) : C1 wa w0 w' r P who0 bs gb gr p x op := by
  obtain ⟨l, who', d, rfl, hq, hs, hd, ho, hn⟩ := h.ex
  exact ⟨l, rfl, _, who', d, m.step (p' := { p with b := d, xs := op.xs, c := op.c }) hq hs hd rfl, rfl, ho, fun q hq => ⟨Nat.le_trans m.sz (hn q hq).1, (hn q hq).2⟩⟩
theorem own_stp {w w' : World} {who who' : Nat → Option Nat} {l : LM} {x : Tx} (hs : Stp w w' who who' none) (h : OwnL w l x) (hn : ∀ q, l.d.v.ownBlock = some q → who q = none) : OwnL w' l x := by
  obtain ⟨X, a, hX⟩ := hs.ap
  refine { h with d := own_apart h.d a (fun k hk hm => ?_) }
  have hl := (h.d.lt k hk).2
  rcases hX k hm with e | e | e
  · exact e (hn k hk)
  · omega
  · cases e
theorem E1.c2 {wa w0 w w' : World} {r : Ending} {P : Nat} {who0 : Nat → Option Nat} {bs : List (Nat × Obj)} {gb gr : Nat} {p : Px} {x : Tx} {op : OpR} {l : LM} {p1 : Px} {who1 : Nat → Option Nat} {d : Bd} (m : Mid wa w0 w P who0 bs gb gr p1 who1) (hp : p1 = { p with b := d, xs := op.xs, c := op.c }) (ho : OwnL w l x) (hn : ∀ q, l.d.v.ownBlock = some q → w0.heap.size ≤ q ∧ who1 q = none) (h : RDP wa w w' r P p1 who1 x op) : C2 wa w0 w' r P who0 bs gb gr p x op l := by
  obtain ⟨y, hr, hy⟩ := h.ex
  obtain ⟨who', d2, rfl, hq, hs, hd⟩ := hr.ex
  refine ⟨y, rfl, _, who', d, d2, m.step (p' := { p1 with r := d2, ys := op.xs, e := op.c }) hq hs rfl hd, by rw [hp], own_stp hs ho (fun q hq => (hn q hq).2), fun q hq => ⟨(hn q hq).1, hs.none' (ho.d.lt q hq).2 (hn q hq).2⟩, hy⟩
theorem E1.sp {wa w0 w : World} {P : Nat} {who0 : Nat → Option Nat} {bs : List (Nat × Obj)} {gb gr : Nat} {p : Px} {x : Tx} {op : OpR} {l : LM} {B : Nat} {o : OpC} (h : E1 wa w0 w P who0 bs gb gr p x op l) (hB : (B, boxO o) ∈ bs) : SP w B o P gb gr := by
  obtain ⟨p1, who1, d, m, _⟩ := h.ex; exact m.sp hB
theorem E2.sp {wa w0 w : World} {P : Nat} {who0 : Nat → Option Nat} {bs : List (Nat × Obj)} {gb gr : Nat} {p : Px} {x : Tx} {op : OpR} {l m : LM} {B : Nat} {o : OpC} (h : E2 wa w0 w P who0 bs gb gr p x op l m) (hB : (B, boxO o) ∈ bs) : SP w B o P gb gr := by
  obtain ⟨p1, who1, d, d2, m, _⟩ := h.ex; exact m.sp hB
theorem E1.kept {wa w0 w w' : World} {P : Nat} {who0 : Nat → Option Nat} {bs : List (Nat × Obj)} {gb gr : Nat} {p : Px} {x : Tx} {op : OpR} {l : LM} (h : E1 wa w0 w P who0 bs gb gr p x op l) (a : Apart [] w w') : E1 wa w0 w' P who0 bs gb gr p x op l := by
  obtain ⟨p1, who1, d, m, hp, ho, hn⟩ := h.ex; exact ⟨p1, who1, d, m.kept a, hp, ho.kept0 a, hn⟩
theorem E1.alloc {wa w0 w : World} {P : Nat} {who0 : Nat → Option Nat} {bs : List (Nat × Obj)} {gb gr : Nat} {p : Px} {x : Tx} {op : OpR} {l : LM} (h : E1 wa w0 w P who0 bs gb gr p x op l) (bx : Obj) : E1 wa w0 (w.alloc bx) P who0 ((w.heap.size, bx) :: bs) gb gr p x op l := by
  obtain ⟨p1, who1, d, m, hp, ho, hn⟩ := h.ex; exact ⟨p1, who1, d, m.alloc bx, hp, ho.kept0 ((Apart.refl [] w).alloc bx), hn⟩
theorem E2.alloc {wa w0 w : World} {P : Nat} {who0 : Nat → Option Nat} {bs : List (Nat × Obj)} {gb gr : Nat} {p : Px} {x : Tx} {op : OpR} {l m : LM} (h : E2 wa w0 w P who0 bs gb gr p x op l m) (bx : Obj) : E2 wa w0 (w.alloc bx) P who0 ((w.heap.size, bx) :: bs) gb gr p x op l m := by
  obtain ⟨p1, who1, d, d2, m, hp, ho, hn, hm⟩ := h.ex; exact ⟨p1, who1, d, d2, m.alloc bx, hp, ho.kept0 ((Apart.refl [] w).alloc bx), hn, hm.kept0 ((Apart.refl [] w).alloc bx)⟩
theorem own_box {w w' : World} {A : Nat} {l y : LM} {x : Tx} (h : OwnL w l x) (a : Apart [A] w w') (hb : w.heap[A]? = some (boxL y)) : OwnL w' l x :=
  h.keepT a (fun k hk cur => by simp at hk; subst hk; rw [hb]; simp [boxL])
theorem reads_box {w w' : World} {A : Nat} {l y : LM} {x : Tx} (h : ReadsL w l x) (a : Apart [A] w w') (hb : w.heap[A]? = some (boxL y)) : ReadsL w' l x := by
  refine { h with d := fun h0 => ?_ }
  obtain ⟨P, o, hp, hP, hc⟩ := h.d h0
  refine ⟨P, o, hp, Nat.lt_of_lt_of_le hP a.size, fun j u hj => (a.cell hP (fun hm => ?_)).trans (hc j u hj)⟩
  simp at hm; subst hm
  have h1 := hc j u hj
  have hu : ∃ b : Nat, u = .int .u8 (b : Int) := by
    have := List.mem_of_getElem? hj
    simp only [byts, List.mem_map] at this
    obtain ⟨b, _, rfl⟩ := this
    exact ⟨b, rfl⟩
  obtain ⟨b, rfl⟩ := hu
  unfold boxL at hb
  rw [cell_of_row _ _ _ _ _ _ hb] at h1
  have : ∀ k : Nat, (#[Value.int .i64 y.f, .int .i64 y.t, y.d.v] : Array Value)[k]? ≠ some (.int .u8 (b : Int)) := fun k hk => by
    match k, hk with
    | 0, hk => simp at hk
    | 1, hk => simp at hk
    | 2, hk => simp [Sl.v] at hk
    | k + 3, hk => simp at hk
  exact this _ h1
theorem E1.set {wa w0 w w' : World} {P : Nat} {who0 : Nat → Option Nat} {bs : List (Nat × Obj)} {A : Nat} {gb gr : Nat} {p : Px} {x : Tx} {op : OpR} {l y z : LM} (h : E1 wa w0 w P who0 ((A, boxL y) :: bs) gb gr p x op l) (a : Apart [A] w w') (hb : w'.heap[A]? = some (boxL z)) : E1 wa w0 w' P who0 ((A, boxL z) :: bs) gb gr p x op l := by
  obtain ⟨p1, who1, d, m, hp, ho, hn⟩ := h.ex
  exact ⟨p1, who1, d, m.set a hb, hp, own_box ho a (m.bb (A, boxL y) (by simp)).2.2, hn⟩
theorem E2.set {wa w0 w w' : World} {P : Nat} {who0 : Nat → Option Nat} {bs : List (Nat × Obj)} {A : Nat} {gb gr : Nat} {p : Px} {x : Tx} {op : OpR} {l m y z : LM} (h : E2 wa w0 w P who0 ((A, boxL y) :: bs) gb gr p x op l m) (a : Apart [A] w w') (hb : w'.heap[A]? = some (boxL z)) : E2 wa w0 w' P who0 ((A, boxL z) :: bs) gb gr p x op l m := by
  obtain ⟨p1, who1, d, d2, m, hp, ho, hn, hm⟩ := h.ex
  have hA := (m.bb (A, boxL y) (by simp)).2.2
  exact ⟨p1, who1, d, d2, m.set a hb, hp, own_box ho a hA, hn, reads_box hm a hA⟩
theorem E1.box {wa w0 w : World} {P : Nat} {who0 : Nat → Option Nat} {bs : List (Nat × Obj)} {A : Nat} {bx : Obj} {gb gr : Nat} {p : Px} {x : Tx} {op : OpR} {l : LM} (h : E1 wa w0 w P who0 bs gb gr p x op l) (hA : (A, bx) ∈ bs) : w.heap[A]? = some bx := by
  obtain ⟨p1, who1, d, m, _⟩ := h.ex; exact (m.bb _ hA).2.2
theorem E2.box {wa w0 w : World} {P : Nat} {who0 : Nat → Option Nat} {bs : List (Nat × Obj)} {A : Nat} {bx : Obj} {gb gr : Nat} {p : Px} {x : Tx} {op : OpR} {l m : LM} (h : E2 wa w0 w P who0 bs gb gr p x op l m) (hA : (A, bx) ∈ bs) : w.heap[A]? = some bx := by
  obtain ⟨p1, who1, d, d2, m, _⟩ := h.ex; exact (m.bb _ hA).2.2
/-- a letter is stored into its box -/
theorem set_box {w : World} {A : Nat} {y : LM} (l : LM) (hb : w.heap[A]? = some (boxL y)) : Apart [A] w (((w.setCell ⟨A, 0, none⟩ (.int .i64 l.f)).setCell ⟨A, 1, none⟩ (.int .i64 l.t)).setCell ⟨A, 2, none⟩ (.slice l.d.p l.d.n l.d.c)) ∧ (((w.setCell ⟨A, 0, none⟩ (.int .i64 l.f)).setCell ⟨A, 1, none⟩ (.int .i64 l.t)).setCell ⟨A, 2, none⟩ (.slice l.d.p l.d.n l.d.c)).heap[A]? = some (boxL l) := by
  refine ⟨(((Apart.refl [A] w).setCell (by simp) _).setCell (by simp) _).setCell (by simp) _, ?_⟩
  unfold boxL Sl.v at *
  have h1 := heap_setCell_same _ A 0 _ _ (.int .i64 l.f) hb
  have h2 := heap_setCell_same _ A 1 _ _ (.int .i64 l.t) h1
  have h3 := heap_setCell_same _ A 2 _ _ (.slice l.d.p l.d.n l.d.c) h2
  simpa using h3
theorem Stp.fin {w0 w w' : World} {who0 who who' : Nat → Option Nat} {q : Option Nat} (h : Stp w0 w who0 who none) (k : Stp w w' who who' q) (hq : ∀ b, q = some b → w0.heap.size ≤ b) : Stp w0 w' who0 who' none := by
  obtain ⟨X, aX, hX⟩ := h.ap
  obtain ⟨Y, aY, hY⟩ := k.ap
  have hs := aX.size
  refine ⟨fun j s e => k.old j s (h.old j s e), fun j s e => ?_, X ++ Y, (aX.mono (fun x hx => List.mem_append_left _ hx)).trans (aY.mono (fun x hx => List.mem_append_right _ hx)), fun j hj => ?_⟩
  · rcases k.new j s e with e | e | e
    · exact h.new j s e
    · exact .inr (.inl (by omega))
    · exact .inr (.inl (hq _ e))
  · rcases List.mem_append.1 hj with hj | hj
    · exact hX j hj
    · rcases hY j hj with e | e | e
      · cases ew : who j with
        | none => exact absurd ew e
        | some s =>
          rcases h.new j s ew with e | e | e
          · left; rw [e]; simp
          · exact .inr (.inl e)
          · exact .inr (.inr e)
      · exact .inr (.inl (by omega))
      · exact .inr (.inl (hq _ e))
/-- letter, behind both calls -/
theorem E2.letter {wa w0 w : World} {P : Nat} {who0 : Nat → Option Nat} {bs : List (Nat × Obj)} {gb gr : Nat} {p : Px} {x : Tx} {op : OpR} {l m : LM} {K : Nat} (h : E2 wa w0 w P who0 bs gb gr p x op l m) (hi : PI p K) (hK : K ≤ 50000) (hc : Cb op.c (K + 1)) :
    Calls Try.prog 36 #[.pointer (some ⟨P, 0, none⟩), LM.agg l, .int .i64 op.code, LM.agg m, .int .i64 op.code] w fun r w' => r = .returned (.bool true) ∧ PlPost wa w0 w' P p who0 K := by
  obtain ⟨p2, who2, d1, d2, mid, hp, ho, hn, hm⟩ := h.ex
  have hfree : ∀ k, l.d.v.ownBlock = some k → who2 k = none ∧ wa.heap.size ≤ k := fun k hk => ⟨(hn k hk).2, Nat.le_trans mid.lo (hn k hk).1⟩
  have ht := hi.turns
  have hmk := hi.mark
  have hlf := hi.lf
  have hnm := hi.nm
  have i2 : PI p2 (K + 1) := by rw [hp]; exact hi.both hc
  by_cases hodd : p.turns % 2 = 0
  · refine (letter_odd mid.q l x ho hfree m hm op.code (by rw [hp]; exact hodd) (by rw [hp]; dsimp only; omega) (by rw [hp]; dsimp only; omega)).mono (fun r w' hh => ?_)
    obtain ⟨rfl, hh⟩ := hh
    obtain ⟨who3, hq, hs⟩ := hh.ex
    refine ⟨rfl, who3, _, hq, ⟨i2.xy, i2.cb, i2.room, ?_, i2.mark, i2.kb, i2.ki, i2.km, ?_, i2.nm, fun e he => ?_, i2.nl⟩, ?_, mid.st.fin hs (fun b hb => (hn b hb).1)⟩
    · rw [hp]; dsimp only; omega
    · rw [hp]; simp; omega
    · dsimp only at he
      rcases List.mem_append.1 he with he | he
      · exact i2.ll e he
      · simp at he; subst he; exact ho.dl
    · rw [hp]
  · refine (letter_even mid.q l x ho hfree m hm op.code (by rw [hp]; dsimp only; omega) (by rw [hp]; dsimp only; omega) (by rw [hp]; dsimp only; omega) i2.kb).mono (fun r w' hh => ?_)
    obtain ⟨rfl, hh⟩ := hh
    obtain ⟨who3, hq, hs⟩ := hh.ex
    refine ⟨rfl, who3, _, hq, ⟨i2.xy, i2.cb, i2.room, ?_, ?_, push6_len i2.kb, i2.ki, i2.km, i2.lf, i2.nm, i2.ll, i2.nl⟩, ?_, mid.st.fin hs (fun b hb => (hn b hb).1)⟩
    · rw [hp]; dsimp only; omega
    · rw [hp]; dsimp only; omega
    · rw [hp]
end Go.Proofs.Ytiakcfjbnlibfaa.nt
