import Derived.Test.YtddffdcjhleejaaGreatG48
import Derived.Test.YtddffdcjhleejaaGreatG21
import Derived.Test.YtddffdcjhleejaaGreatG17
import Derived.Test.YtddffdcjhleejaaGreatG26
namespace Go.Proofs.YtddffdcjhleejaaGreat.ds
open Go.ChangeShapes Go.WideShapes Go.ChangeAt Go.RowKit Go.Sort
set_option linter.unusedVariables false
set_option linter.unusedSimpArgs false
/-- a part that is read if it is named -/
def ox {α β : Type} (b : Bool) (r : Except Nat (α × Nat)) (d : β) (f : Except Nat ((α × β) × Nat)) : Except Nat ((α × β) × Nat) := if b = true then f else rb r fun a q => .ok ((a, d), q)
theorem ox_no {α β : Type} (r : Except Nat (α × Nat)) (d : β) (f : Except Nat ((α × β) × Nat)) : plc (ox false r d f) = plc r := by
  cases r with
  | error y => rfl
  | ok t => rfl
theorem ox_val {α β : Type} {r : Except Nat (α × Nat)} {d : β} {f : Except Nat ((α × β) × Nat)} {a : α × β} {q : Nat} (h : ox false r d f = .ok (a, q)) : a.2 = d ∧ r = .ok (a.1, q) := by
  cases r with
  | error y => cases h
  | ok t => cases h; exact ⟨rfl, rfl⟩
def x3 (q : Nat) : Except Nat (Unit × Nat) := .ok ((), q)
def x4 (B : List Nat) (k q : Nat) := ox (hasF k 1) (x3 q) 0 (nx B (x3 q) (fun _ => 0) 4096)
def x5 (B : List Nat) (k q : Nat) := ox (hasF k 2) (x4 B k q) 0 (nx B (x4 B k q) (fun _ => 0) 7)
def x6 (B : List Nat) (k q : Nat) := ox (hasF k 4) (x5 B k q) 0 (nx B (x5 B k q) (fun _ => 0) 15)
def x7 (B : List Nat) (k q : Nat) := ox (hasF k 8) (x6 B k q) [] (tx B (x6 B k q) 1 16)
def x8 (B : List Nat) (k q : Nat) := ox (hasF k 16) (x7 B k q) 0 (nx B (x7 B k q) (fun _ => 0) 7)
def x8b (B : List Nat) (k q : Nat) := ox (hasF k 16) (x8 B k q) 0 (nx B (x8 B k q) (fun _ => 1) 1048576)
def mbK (k : Nat) : Nat := if k = 5 then 0 else 18446744073709551615
noncomputable def x9 (B : List Nat) (k q : Nat) := ox (hasF k 32) (x8b B k q) [] (st B (x8b B k q) (mbK k))
noncomputable def x10 (B : List Nat) (k q : Nat) := ox (decide (wrK k = 2)) (x9 B k q) (wrK k) (nx B (x9 B k q) (fun _ => 0) (moK k))
abbrev PA := ((((((((Unit × Nat) × Nat) × Nat) × List Nat) × Nat) × Nat) × List S) × Nat)
def keyX (k : Nat) (ky : List Nat) : ByteArray := if k = 5 ∨ k = 7 then strB ky else ⟨#[]⟩
def mkM (k f t : Nat) (a : PA) (ws : List Wr) : Mg := ⟨k, f, t, a.1.1.1.1.1.1.1.2, a.1.1.1.1.1.2, a.1.1.1.1.1.1.2, a.1.1.1.1.2, a.1.1.1.2, a.1.1.2, a.1.2, ws⟩
noncomputable def rmX (B : List Nat) (k f t q : Nat) : Except Nat (Mg × Nat) := rb (x10 B k q) fun a q1 => rb (rwritesA B (keyX k a.1.1.1.1.2) a.2 0 0 q1) fun ws q2 => .ok (mkM k f t a ws, q2)
theorem rm4_link (B : List Nat) (k f t q : Nat) (hk : 1 ≤ k ∧ k ≤ 11) : rm4 B k f t q = rb (rmX B k f t q) fun g q2 => if q2 = B.length then .ok (g, q2) else .error q2 := by
  have h : k = 1 ∨ k = 2 ∨ k = 3 ∨ k = 4 ∨ k = 5 ∨ k = 6 ∨ k = 7 ∨ k = 8 ∨ k = 9 ∨ k = 10 ∨ k = 11 := by omega
  unfold rmX x10 x9 x8b x8 x7 x6 x5 x4 x3 ox
  rcases h with rfl | rfl | rfl | rfl | rfl | rfl | rfl | rfl | rfl | rfl | rfl
  · have h1 : hasF 1 1 = true := by decide
    have h2 : hasF 1 2 = false := by decide
    have h4 : hasF 1 4 = false := by decide
    have h8 : hasF 1 8 = false := by decide
    have h16 : hasF 1 16 = false := by decide
    have h32 : hasF 1 32 = false := by decide
    have h64 : hasF 1 64 = true := by decide
    have h128 : hasF 1 128 = false := by decide
    have hw : wrK 1 = 1 := by decide
    have hm : mbK 1 = 18446744073709551615 := by decide
    have ho : moK 1 = mostK 1 := by decide
    simp [rm4, rm5, rm6, rm7, rm8, rm9, rm10, rmws, ropt, h1, h2, h4, h8, h16, h32, h64, h128, hw, hm, ho, nx, tx, st, rb_rb, rb_ok, rwritesA, rwrites, rlone, keyX, mkM, rsetOf, rset, rbases, rdot, strB_nil]
  · have h1 : hasF 2 1 = true := by decide
    have h2 : hasF 2 2 = true := by decide
    have h4 : hasF 2 4 = false := by decide
    have h8 : hasF 2 8 = false := by decide
    have h16 : hasF 2 16 = false := by decide
    have h32 : hasF 2 32 = false := by decide
    have h64 : hasF 2 64 = false := by decide
    have h128 : hasF 2 128 = false := by decide
    have hw : wrK 2 = 0 := by decide
    have hm : mbK 2 = 18446744073709551615 := by decide
    simp [rm4, rm5, rm6, rm7, rm8, rm9, rm10, rmws, ropt, h1, h2, h4, h8, h16, h32, h64, h128, hw, hm, nx, tx, st, rb_rb, rb_ok, rwritesA, rwrites, rlone, keyX, mkM, rsetOf, rset, rbases, rdot, strB_nil]
  · have h1 : hasF 3 1 = true := by decide
    have h2 : hasF 3 2 = true := by decide
    have h4 : hasF 3 4 = false := by decide
    have h8 : hasF 3 8 = false := by decide
    have h16 : hasF 3 16 = false := by decide
    have h32 : hasF 3 32 = false := by decide
    have h64 : hasF 3 64 = true := by decide
    have h128 : hasF 3 128 = false := by decide
    have hw : wrK 3 = 1 := by decide
    have hm : mbK 3 = 18446744073709551615 := by decide
    have ho : moK 3 = mostK 3 := by decide
    simp [rm4, rm5, rm6, rm7, rm8, rm9, rm10, rmws, ropt, h1, h2, h4, h8, h16, h32, h64, h128, hw, hm, ho, nx, tx, st, rb_rb, rb_ok, rwritesA, rwrites, rlone, keyX, mkM, rsetOf, rset, rbases, rdot, strB_nil]
  · have h1 : hasF 4 1 = true := by decide
    have h2 : hasF 4 2 = false := by decide
    have h4 : hasF 4 4 = false := by decide
    have h8 : hasF 4 8 = true := by decide
    have h16 : hasF 4 16 = false := by decide
    have h32 : hasF 4 32 = false := by decide
    have h64 : hasF 4 64 = false := by decide
    have h128 : hasF 4 128 = false := by decide
    have hw : wrK 4 = 0 := by decide
    have hm : mbK 4 = 18446744073709551615 := by decide
    simp [rm4, rm5, rm6, rm7, rm8, rm9, rm10, rmws, ropt, h1, h2, h4, h8, h16, h32, h64, h128, hw, hm, nx, tx, st, rb_rb, rb_ok, rwritesA, rwrites, rlone, keyX, mkM, rsetOf, rset, rbases, rdot, strB_nil]
  · have h1 : hasF 5 1 = true := by decide
    have h2 : hasF 5 2 = false := by decide
    have h4 : hasF 5 4 = false := by decide
    have h8 : hasF 5 8 = true := by decide
    have h16 : hasF 5 16 = false := by decide
    have h32 : hasF 5 32 = true := by decide
    have h64 : hasF 5 64 = false := by decide
    have h128 : hasF 5 128 = true := by decide
    have hw : wrK 5 = 2 := by decide
    have hm : mbK 5 = 0 := by decide
    have ho : moK 5 = mostK 5 := by decide
    simp [rm4, rm5, rm6, rm7, rm8, rm9, rm10, rmws, ropt, h1, h2, h4, h8, h16, h32, h64, h128, hw, hm, ho, nx, tx, st, rb_rb, rb_ok, rwritesA, rwrites, rlone, keyX, mkM, rsetOf, rset, rbases, rdot, strB_nil]
  · have h1 : hasF 6 1 = true := by decide
    have h2 : hasF 6 2 = true := by decide
    have h4 : hasF 6 4 = false := by decide
    have h8 : hasF 6 8 = true := by decide
    have h16 : hasF 6 16 = false := by decide
    have h32 : hasF 6 32 = false := by decide
    have h64 : hasF 6 64 = false := by decide
    have h128 : hasF 6 128 = false := by decide
    have hw : wrK 6 = 0 := by decide
    have hm : mbK 6 = 18446744073709551615 := by decide
    simp [rm4, rm5, rm6, rm7, rm8, rm9, rm10, rmws, ropt, h1, h2, h4, h8, h16, h32, h64, h128, hw, hm, nx, tx, st, rb_rb, rb_ok, rwritesA, rwrites, rlone, keyX, mkM, rsetOf, rset, rbases, rdot, strB_nil]
  · have h1 : hasF 7 1 = true := by decide
    have h2 : hasF 7 2 = true := by decide
    have h4 : hasF 7 4 = false := by decide
    have h8 : hasF 7 8 = true := by decide
    have h16 : hasF 7 16 = false := by decide
    have h32 : hasF 7 32 = false := by decide
    have h64 : hasF 7 64 = false := by decide
    have h128 : hasF 7 128 = true := by decide
    have hw : wrK 7 = 2 := by decide
    have hm : mbK 7 = 18446744073709551615 := by decide
    have ho : moK 7 = mostK 7 := by decide
    simp [rm4, rm5, rm6, rm7, rm8, rm9, rm10, rmws, ropt, h1, h2, h4, h8, h16, h32, h64, h128, hw, hm, ho, nx, tx, st, rb_rb, rb_ok, rwritesA, rwrites, rlone, keyX, mkM, rsetOf, rset, rbases, rdot, strB_nil]
  · have h1 : hasF 8 1 = false := by decide
    have h2 : hasF 8 2 = false := by decide
    have h4 : hasF 8 4 = true := by decide
    have h8 : hasF 8 8 = false := by decide
    have h16 : hasF 8 16 = false := by decide
    have h32 : hasF 8 32 = true := by decide
    have h64 : hasF 8 64 = false := by decide
    have h128 : hasF 8 128 = false := by decide
    have hw : wrK 8 = 0 := by decide
    have hm : mbK 8 = 18446744073709551615 := by decide
    simp [rm4, rm5, rm6, rm7, rm8, rm9, rm10, rmws, ropt, h1, h2, h4, h8, h16, h32, h64, h128, hw, hm, nx, tx, st, rb_rb, rb_ok, rwritesA, rwrites, rlone, keyX, mkM, rsetOf, rset, rbases, rdot, strB_nil]
  · have h1 : hasF 9 1 = false := by decide
    have h2 : hasF 9 2 = false := by decide
    have h4 : hasF 9 4 = true := by decide
    have h8 : hasF 9 8 = false := by decide
    have h16 : hasF 9 16 = false := by decide
    have h32 : hasF 9 32 = true := by decide
    have h64 : hasF 9 64 = false := by decide
    have h128 : hasF 9 128 = true := by decide
    have hw : wrK 9 = 2 := by decide
    have hm : mbK 9 = 18446744073709551615 := by decide
    have ho : moK 9 = mostK 9 := by decide
    simp [rm4, rm5, rm6, rm7, rm8, rm9, rm10, rmws, ropt, h1, h2, h4, h8, h16, h32, h64, h128, hw, hm, ho, nx, tx, st, rb_rb, rb_ok, rwritesA, rwrites, rlone, keyX, mkM, rsetOf, rset, rbases, rdot, strB_nil]
  · have h1 : hasF 10 1 = false := by decide
    have h2 : hasF 10 2 = false := by decide
    have h4 : hasF 10 4 = false := by decide
    have h8 : hasF 10 8 = false := by decide
    have h16 : hasF 10 16 = false := by decide
    have h32 : hasF 10 32 = false := by decide
    have h64 : hasF 10 64 = true := by decide
    have h128 : hasF 10 128 = false := by decide
    have hw : wrK 10 = 1 := by decide
    have hm : mbK 10 = 18446744073709551615 := by decide
    have ho : moK 10 = mostK 10 := by decide
    simp [rm4, rm5, rm6, rm7, rm8, rm9, rm10, rmws, ropt, h1, h2, h4, h8, h16, h32, h64, h128, hw, hm, ho, nx, tx, st, rb_rb, rb_ok, rwritesA, rwrites, rlone, keyX, mkM, rsetOf, rset, rbases, rdot, strB_nil]
  · have h1 : hasF 11 1 = false := by decide
    have h2 : hasF 11 2 = false := by decide
    have h4 : hasF 11 4 = false := by decide
    have h8 : hasF 11 8 = true := by decide
    have h16 : hasF 11 16 = true := by decide
    have h32 : hasF 11 32 = false := by decide
    have h64 : hasF 11 64 = false := by decide
    have h128 : hasF 11 128 = false := by decide
    have hw : wrK 11 = 0 := by decide
    have hm : mbK 11 = 18446744073709551615 := by decide
    simp [rm4, rm5, rm6, rm7, rm8, rm9, rm10, rmws, ropt, h1, h2, h4, h8, h16, h32, h64, h128, hw, hm, nx, tx, st, rb_rb, rb_ok, rwritesA, rwrites, rlone, keyX, mkM, rsetOf, rset, rbases, rdot, strB_nil]
noncomputable def rmD (B : List Nat) (q : Nat) : Except Nat (Mg × Nat) := rb (rbound B q 1 11) fun k q1 => rb (rbound B q1 0 7) fun f q2 => rb (rbound B q2 0 7) fun t q3 => rmX B k f t q3
theorem rb_congr {α β : Type} {r : Except Nat (α × Nat)} {f g : α → Nat → Except Nat (β × Nat)} (h : ∀ a q, r = .ok (a, q) → f a q = g a q) : rb r f = rb r g := by
  cases r with
  | error y => rfl
  | ok t => obtain ⟨a, q⟩ := t; exact h a q rfl
theorem rmsg_link (B : List Nat) (q : Nat) : rmsg B q = rb (rmD B q) fun g q2 => if q2 = B.length then .ok (g, q2) else .error q2 := by
  unfold rmsg rmD
  simp only [rb_rb]
  refine rb_congr fun k q1 e => ?_
  have hk := rbound_le e
  refine rb_congr fun f q2 _ => ?_
  refine rb_congr fun t q3 _ => ?_
  exact rm4_link B k f t q3 hk
def hd3 (B : List Nat) (q : Nat) : Except Nat ((((Unit × Nat) × Nat) × Nat) × Nat) := nx B (nx B (nx B (.ok ((), q)) (fun _ => 1) 11) (fun _ => 0) 7) (fun _ => 0) 7
theorem rmD_link (B : List Nat) (q : Nat) : rmD B q = rb (hd3 B q) fun a q3 => rmX B a.1.1.2 a.1.2 a.2 q3 := by
  unfold rmD hd3 nx
  simp only [rb_rb, rb_ok]
/-- the document's list of writes in memory -/
structure FX (wB w : World) (s : Sl) (es : List E) (rs : List Wr) : Prop where
  own : OwnE wB w s es
  len : rs.length = s.n
  fr : ∀ j, j < s.n → WX wB w (gE es j) (gR rs j)
theorem WX.gen {wB w w' : World} {e : E} {r : Wr} {X : List Nat} (h : WX wB w e r) (a : Apart X w w') (ap : Apart [] wB w') (hX : ∀ k ∈ X, ∃ cur t, w.heap[k]? = some (.cells cur t (0, 0)) ∧ t ≠ 5 ∧ t ≠ 48) : WX wB w' e r :=
  { h with v := h.v.kept a (by intro k hk cu m e; obtain ⟨cur, t, h1, h2, h3⟩ := hX k hk; rw [h1] at e; simp at e; exact h2 e.2.1), x := h.x.keepT a ap (by intro k hk cu e; obtain ⟨cur, t, h1, h2, h3⟩ := hX k hk; rw [h1] at e; simp at e; exact h3 e.2) }
theorem FX.gen {wB w w' : World} {s : Sl} {es : List E} {rs : List Wr} {X : List Nat} (h : FX wB w s es rs) (a : Apart X w w') (ap : Apart [] wB w') (hX : ∀ k ∈ X, ∃ cur t, w.heap[k]? = some (.cells cur t (0, 0)) ∧ t ≠ 5 ∧ t ≠ 48 ∧ t ≠ 37) : FX wB w' s es rs :=
  ⟨⟨h.own.nw.keepT a ap (by intro k hk cu e; obtain ⟨cur, t, h1, h2, h3, h4⟩ := hX k hk; rw [h1] at e; simp at e; exact h4 e.2), h.own.len⟩, h.len, fun j hj => (h.fr j hj).gen a ap (fun k hk => by obtain ⟨cur, t, h1, h2, h3, h4⟩ := hX k hk; exact ⟨cur, t, h1, h2, h3⟩)⟩
theorem FX.kept {wB w w' : World} {s : Sl} {es : List E} {rs : List Wr} (h : FX wB w s es rs) (a : Apart [] w w') : FX wB w' s es rs := h.gen a (h.own.nw.ap.trans a) (by simp)
theorem FX.nil (w wr : World) (a : Apart [] w wr) : FX w wr ⟨none, 0, 0⟩ [] [] := ⟨⟨⟨World.ownsRow_nil _ _ _ _, by simp [Sl.v, Value.ownBlock], a⟩, rfl⟩, rfl, fun j hj => absurd hj (by simp)⟩
/-- one write more, whatever it is -/
theorem app_any {wB wr : World} {s : Sl} {us : List Value} (h : Nw wB wr 37 6 s us) (hn : s.n ≤ 2000000) (e : E) :
    ∃ s' W', (Builtin.append_ #[27, 27] 27 #[.slice s.p s.n s.c, .slice (some ⟨wr.heap.size, 0, none⟩) 1 1]).run Tryz.prog (wr.alloc (.cells #[.int .i64 e.n, .int .i64 e.c, .string e.k, .bool e.d, .slice e.v.p e.v.n e.v.c, .slice e.x.p e.x.n e.x.c] 37)) = .ok (.slice s'.p s'.n s'.c) W' ∧ Nw wB W' 37 6 s' (us ++ E.cs e) ∧ s'.n = s.n + 1 ∧ Apart s.v.ownBlock.toList wr W' ∧ ∃ k, s'.p = some ⟨k, 0, none⟩ ∧ (s.v.ownBlock = some k ∨ wr.heap.size ≤ k) := by
  obtain ⟨i0, hif, hz0, hz1, hz2⟩ := info_parts infoW41
  obtain ⟨s', W', hrun, hnw, hsn, ap, k, hk1, -, hk2⟩ := run_appM (s := s) 27 27 37 i0 _ 6 88 Tryz.underlying27 hif hz0 hz1 hz2 rfl (by decide) h 1 (E.cs e) (by decide) rfl (fun u hu => by unfold E.cs at hu; simp at hu; rcases hu with rfl | rfl | rfl | rfl | rfl | rfl <;> rfl) (by unfold maxLen; omega) (by omega)
  exact ⟨s', W', hrun, hnw, hsn, ap, k, hk1, hk2⟩
theorem FX.push {wB wr W' : World} {s s' : Sl} {es : List E} {rs : List Wr} (h : FX wB wr s es rs) {e : E} {r : Wr} (hf : WX wB wr e r) (hnw : Nw wB W' 37 6 s' (flatE es ++ E.cs e)) (hsn : s'.n = s.n + 1) (ap : Apart s.v.ownBlock.toList wr W') : FX wB W' s' (es ++ [e]) (rs ++ [r]) := by
  have aw := hnw.ap
  have hX5 : ∀ k ∈ s.v.ownBlock.toList, ∃ cur t, wr.heap[k]? = some (.cells cur t (0, 0)) ∧ t ≠ 5 ∧ t ≠ 48 := fun k hk => by
    obtain ⟨cur, tG⟩ := own_typ h.own.nw.own (k := k) (by simpa using hk)
    exact ⟨cur, 37, tG, by decide, by decide⟩
  have hlen := h.own.len
  have hlen2 := h.len
  have e0 : flatE (es ++ [e]) = flatE es ++ E.cs e := by simp [flatE]
  refine ⟨⟨by rw [e0]; exact hnw, by rw [List.length_append, hlen, hsn]; rfl⟩, by rw [List.length_append, hlen2, hsn]; rfl, fun j hj => ?_⟩
  rw [hsn] at hj
  by_cases e1 : j = s.n
  · subst e1
    rw [show gE (es ++ [e]) s.n = e from by unfold gE; simp [List.getD_eq_getElem?_getD, ← hlen], show gR (rs ++ [r]) s.n = r from by unfold gR; simp [List.getD_eq_getElem?_getD, ← hlen2]]
    exact hf.gen ap aw hX5
  · rw [show gE (es ++ [e]) j = gE es j from by unfold gE; rw [List.getD_eq_getElem?_getD, List.getD_eq_getElem?_getD, List.getElem?_append_left (by omega)], show gR (rs ++ [r]) j = gR rs j from by unfold gR; rw [List.getD_eq_getElem?_getD, List.getD_eq_getElem?_getD, List.getElem?_append_left (by omega)]]
    exact (h.fr j (by omega)).gen ap aw hX5
theorem FX.rws {wB w : World} {s : Sl} {es : List E} {rs : List Wr} (h : FX wB w s es rs) (hn : s.n ≤ 2000000) : RWs w s es rs := ⟨h.own.nw.rd, h.own.len, h.len, fun j hj => (h.fr j hj).reads, hn, h.own.nw.ok⟩
theorem FX.last {wB w : World} {s : Sl} {es : List E} {rs : List Wr} {R : Nat} {cur : Array Value} (h : FX wB w s es rs) (hn : s.n ≤ 1000000) (hR : w.heap[R]? = some (.cells cur 100 (0, 0))) : LastAt w R s (la rs).1 (la rs).2 := by
  by_cases h0 : s.n = 0
  · have : rs = [] := List.length_eq_zero_iff.1 (by rw [h.len, h0])
    rw [this]
    exact .inl ⟨h0, rfl, rfl⟩
  · obtain ⟨P, o, hp, hP, c0, c1, _⟩ := (h.rws (by omega)).cells (s.n - 1) (by omega)
    have hl := h.len
    have hlast : la rs = ((gR rs (s.n - 1)).n, (gR rs (s.n - 1)).c) := by
      unfold la gR
      rw [List.getLast?_eq_getElem?, hl, List.getD_eq_getElem?_getD, List.getElem?_eq_getElem (by omega)]
      rfl
    have hf := h.fr (s.n - 1) (by omega)
    rw [hf.n] at c0
    rw [hf.c] at c1
    refine .inr ⟨by omega, hn, P, o, hp, fun e => ?_, hP, by rw [hlast]; exact c0, by rw [hlast]; exact c1⟩
    obtain ⟨cu, hcu⟩ := own_typ h.own.nw.own (k := P) (by unfold Sl.v; rw [hp]; rfl)
    rw [e, hR] at hcu
    simp at hcu
end Go.Proofs.YtddffdcjhleejaaGreat.ds
