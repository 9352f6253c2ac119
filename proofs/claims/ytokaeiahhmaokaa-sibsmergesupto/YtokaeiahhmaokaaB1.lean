import Derived.Test.YtokaeiahhmaokaaB0
namespace Go.Proofs.Ytokaeiahhmaokaa.ds
open Go.ChangeShapes Go.WideShapes Go.ChangeAt Go.RowKit
set_option linter.unusedVariables false
/-- a slice's values, as they read -/
def Rd (w : World) (p : Option Addr) (us : List Value) : Prop := 0 < us.length → ∃ P o, p = some ⟨P, o, none⟩ ∧ P < w.heap.size ∧ ∀ j u, us[j]? = some u → w.cell? ⟨P, o + j, none⟩ = some u
theorem Rd.nil (w : World) (p : Option Addr) : Rd w p [] := fun h => absurd h (by simp)
theorem Rd.kept {w w' : World} {p : Option Addr} {us : List Value} {X : List Nat} (h : Rd w p us) (a : Apart X w w') (hX : ∀ P o, p = some ⟨P, o, none⟩ → P ∉ X) : Rd w' p us := by
  intro h0
  obtain ⟨P, o, rfl, hP, hc⟩ := h h0
  exact ⟨P, o, rfl, Nat.lt_of_lt_of_le hP a.size, fun j u hj => (a.cell hP (hX P o rfl)).trans (hc j u hj)⟩
theorem Rd.kept0 {w w' : World} {p : Option Addr} {us : List Value} (h : Rd w p us) (a : Apart [] w w') : Rd w' p us := h.kept a (by simp)
theorem Rd.own {w : World} {p : Option Addr} {n cap size base : Nat} {e : TypeId} {us : List Value} (h : w.ownsRow base e size (.slice p n cap) n us) : Rd w p us := by
  intro h0
  have h' := h
  obtain ⟨hx, ⟨hv, hz⟩ | ⟨G, cap', cur, hv, hh, _⟩⟩ := h
  · exfalso
    subst hz
    simp at hx
    rw [hx] at h0
    simp at h0
  · simp at hv
    obtain ⟨rfl, rfl⟩ := hv
    refine ⟨G, 0, rfl, (h'.lt G rfl).2, fun j u hj => ?_⟩
    have := h'.cells rfl j u hj
    rwa [Addr.add_lit] at this
/-- the writes of a list, cell by cell -/
def flatE (es : List E) : List Value := es.flatMap E.cs
def gE (es : List E) (k : Nat) : E := es.getD k E.z
theorem gE_eq (es : List E) (k : Nat) (h : k < es.length) : gE es k = es[k] := by simp [gE, List.getD_eq_getElem?_getD, h]
theorem flatE_length (es : List E) : (flatE es).length = es.length * 6 := by
  induction es with
  | nil => rfl
  | cons e l ih => simp only [flatE, List.flatMap_cons, List.length_append, List.length_cons] at *; simp only [E.cs, List.length_cons, List.length_nil]; omega
theorem flatE_get (es : List E) : ∀ (k : Nat), k < es.length → (flatE es)[k * 6]? = some (.int .i64 (gE es k).n) ∧ (flatE es)[k * 6 + 1]? = some (.int .i64 (gE es k).c) ∧ (flatE es)[k * 6 + 2]? = some (.string (gE es k).k) ∧ (flatE es)[k * 6 + 3]? = some (.bool (gE es k).d) ∧ (flatE es)[k * 6 + 4]? = some (gE es k).v.v ∧ (flatE es)[k * 6 + 5]? = some (gE es k).x.v := by
  induction es with
  | nil => intro k hk; simp at hk
  | cons e l ih =>
    intro k hk
    match k with
    | 0 => exact ⟨rfl, rfl, rfl, rfl, rfl, rfl⟩
    | k + 1 =>
      have := ih k (by simpa using hk)
      rw [show (k + 1) * 6 = k * 6 + 6 from by omega]
      exact this
theorem flatE_snoc (es : List E) (e : E) : flatE es ++ E.cs e = flatE (es ++ [e]) := by simp [flatE]
theorem flatE_append (a b : List E) : flatE (a ++ b) = flatE a ++ flatE b := by simp [flatE]
theorem oneE (es : List E) : ∀ u ∈ flatE es, u.oneCell' = true := by
  intro u hu
  simp [flatE, E.cs, Sl.v] at hu
  obtain ⟨e, _, h | h | h | h | h | h⟩ := hu <;> subst h <;> rfl
/-- a list of writes that can be read -/
structure LE (w : World) (p : Option Addr) (N : Nat) (es : List E) : Prop where
  rd : Rd w p (flatE es)
  len : es.length = N
  lim : N ≤ 2000000
theorem LE.kept {w w' : World} {p : Option Addr} {N : Nat} {es : List E} {X : List Nat} (h : LE w p N es) (a : Apart X w w') (hX : ∀ P o, p = some ⟨P, o, none⟩ → P ∉ X) : LE w' p N es := { h with rd := h.rd.kept a hX }
theorem LE.kept0 {w w' : World} {p : Option Addr} {N : Nat} {es : List E} (h : LE w p N es) (a : Apart [] w w') : LE w' p N es := { h with rd := h.rd.kept0 a }
theorem LE.nil (w : World) (p : Option Addr) : LE w p 0 [] := ⟨Rd.nil w p, rfl, by omega⟩
/-- the cells of the i-th -/
theorem LE.at {w : World} {p : Option Addr} {N : Nat} {es : List E} (h : LE w p N es) (h0 : 0 < N) : ∃ P o, p = some ⟨P, o, none⟩ ∧ P < w.heap.size ∧ ∀ i, i < N → w.cell? ⟨P, o + i * 6, none⟩ = some (.int .i64 (gE es i).n) ∧ w.cell? ⟨P, o + i * 6 + 1, none⟩ = some (.int .i64 (gE es i).c) ∧ w.cell? ⟨P, o + i * 6 + 2, none⟩ = some (.string (gE es i).k) ∧ w.cell? ⟨P, o + i * 6 + 3, none⟩ = some (.bool (gE es i).d) ∧ w.cell? ⟨P, o + i * 6 + 4, none⟩ = some (gE es i).v.v ∧ w.cell? ⟨P, o + i * 6 + 5, none⟩ = some (gE es i).x.v := by
  obtain ⟨P, o, e, hP, hc⟩ := h.rd (by rw [flatE_length, h.len]; omega)
  refine ⟨P, o, e, hP, fun i hi => ?_⟩
  obtain ⟨a, b, c, d, f, g⟩ := flatE_get es i (by rw [h.len]; exact hi)
  simp only [Nat.add_assoc]
  exact ⟨hc _ _ a, hc _ _ b, hc _ _ c, hc _ _ d, hc _ _ f, hc _ _ g⟩
/-- bytes -/
def byts (bs : List Nat) : List Value := bs.map fun (b : Nat) => .int .u8 (b : Int)
/-- a write as it reads -/
structure Wr where
  n : Int
  c : Int
  k : ByteArray
  d : Bool
  vs : List Nat
  xs : List S
/-- nil has no length -/
def Sl.ok (s : Sl) : Prop := s.p = none → s.n = 0 ∧ s.c = 0
structure Reads (w : World) (e : E) (r : Wr) : Prop where
  n : e.n = r.n
  c : e.c = r.c
  k : e.k = r.k
  d : e.d = r.d
  v : Rd w e.v.p (byts r.vs)
  vn : r.vs.length = e.v.n
  vl : e.v.n ≤ 2000000
  vb : ∀ b ∈ r.vs, b < 256
  x : L w e.x.p e.x.n r.xs
  xl : e.x.n ≤ 2000000
  vo : e.v.ok
  xo : e.x.ok
theorem Reads.kept0 {w w' : World} {e : E} {r : Wr} (h : Reads w e r) (a : Apart [] w w') : Reads w' e r := { h with v := h.v.kept0 a, x := h.x.kept0 a }
theorem Reads.kept {w w' : World} {e : E} {r : Wr} {X : List Nat} (h : Reads w e r) (a : Apart X w w') (hv : ∀ P o, e.v.p = some ⟨P, o, none⟩ → P ∉ X) (hx : ∀ P o, e.x.p = some ⟨P, o, none⟩ → P ∉ X) : Reads w' e r := { h with v := h.v.kept a hv, x := h.x.kept a hx }
/-- does t know of w? -/
noncomputable def cov (t u : Wr) : Bool := t.k == u.k && hasd t.xs u.n u.c
end Go.Proofs.Ytokaeiahhmaokaa.ds
