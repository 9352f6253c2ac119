import Derived.Test.YtokaeiahhmaokaaDoorA4
import Derived.Test.YtokaeiahhmaokaaDoorA24
namespace Go.Proofs.YtokaeiahhmaokaaDoor.ds
open Go.ChangeShapes Go.WideShapes Go.ChangeAt Go.RowKit
set_option linter.unusedVariables false
theorem rcheck_yes {p : Option Addr} {N cap : Nat} {xs : List S} {gap : Int} {w : World} (h : L w p N xs) (hg : 1 ≤ gap ∧ gap ≤ 64) (k : OkL gap xs) : Calls Tryd.prog 26 #[.slice p N cap, .int .i64 gap] w fun r w' => r = .returned (.int .i64 0) ∧ Apart [] w w' := by
  have h1 : ¬ gap < 1 := by omega
  have h2 : ¬ 64 < gap := by omega
  go_enter Tryd.func26, Tryd.ntmps26
  go_wp2_with (go_at_call 62; refine (right_ok h hg).mono ?_; rintro r w1 ⟨⟨v, rfl, hv⟩, a1⟩; (obtain rfl : v = true := hv.2 k); clear hv)
  go_ret
  exact ⟨rfl, a1⟩
theorem rcheck_no {p : Option Addr} {N cap : Nat} {xs : List S} {gap : Int} {w : World} (h : L w p N xs) (hg : 1 ≤ gap ∧ gap ≤ 64) (k : ¬ OkL gap xs) : Calls Tryd.prog 26 #[.slice p N cap, .int .i64 gap] w fun r w' => r = .returned (.int .i64 30) ∧ Apart [] w w' := by
  have h1 : ¬ gap < 1 := by omega
  have h2 : ¬ 64 < gap := by omega
  go_enter Tryd.func26, Tryd.ntmps26
  go_wp2_with (go_at_call 62; refine (right_ok h hg).mono ?_; rintro r w1 ⟨⟨v, rfl, hv⟩, a1⟩; (obtain rfl : v = false := by (cases v; rfl; exact absurd (hv.1 rfl) k)); clear hv)
  go_ret
  exact ⟨rfl, a1⟩
theorem rcheck_arg {p : Option Addr} {N cap : Nat} {gap : Int} {w : World} (hg : ¬ (1 ≤ gap ∧ gap ≤ 64)) : Calls Tryd.prog 26 #[.slice p N cap, .int .i64 gap] w fun r w' => r = .returned (.int .i64 1) ∧ Apart [] w w' := by
  by_cases h1 : gap < 1
  · go_enter Tryd.func26, Tryd.ntmps26
    go_wp2
    go_ret
    exact ⟨rfl, Apart.refl _ _⟩
  · have h2 : 64 < gap := by omega
    go_enter Tryd.func26, Tryd.ntmps26
    go_wp2
    go_ret
    exact ⟨rfl, Apart.refl _ _⟩
end Go.Proofs.YtokaeiahhmaokaaDoor.ds

namespace Go.Proofs.YtokaeiahhmaokaaDoor.ds
open Go.ChangeShapes Go.WideShapes Go.ChangeAt Go.RowKit
set_option linter.unusedVariables false
open Classical in
/-- what Check answers -/
noncomputable def chk (xs : List S) (gap : Int) : Int := if 1 ≤ gap ∧ gap ≤ 64 then (if OkL gap xs then 0 else 30) else 1
theorem check_as {p : Option Addr} {N cap : Nat} {xs : List S} {gap : Int} {w : World} (h : L w p N xs) (e : Int) (he : e = chk xs gap) : Calls Tryd.prog 28 #[.slice p N cap, .int .i64 gap] w fun r w' => r = .returned (.int .i64 e) ∧ Apart [] w w' := by
  subst he
  unfold chk
  by_cases hg : 1 ≤ gap ∧ gap ≤ 64
  · rw [if_pos hg]
    by_cases k : OkL gap xs
    · rw [if_pos k]; exact check_yes h hg k
    · rw [if_neg k]; exact check_no h hg k
  · rw [if_neg hg]; exact check_arg (xs := xs) hg
theorem rcheck_as {p : Option Addr} {N cap : Nat} {xs : List S} {gap : Int} {w : World} (h : L w p N xs) (e : Int) (he : e = chk xs gap) : Calls Tryd.prog 26 #[.slice p N cap, .int .i64 gap] w fun r w' => r = .returned (.int .i64 e) ∧ Apart [] w w' := by
  subst he
  unfold chk
  by_cases hg : 1 ≤ gap ∧ gap ≤ 64
  · rw [if_pos hg]
    by_cases k : OkL gap xs
    · rw [if_pos k]; exact rcheck_yes h hg k
    · rw [if_neg k]; exact rcheck_no h hg k
  · rw [if_neg hg]; exact rcheck_arg hg
end Go.Proofs.YtokaeiahhmaokaaDoor.ds

namespace Go.Proofs.YtokaeiahhmaokaaDoor.ds
open Go.ChangeShapes Go.WideShapes Go.ChangeAt Go.RowKit
set_option linter.unusedVariables false
/-- a slice as a value -/
structure Sl where
  p : Option Addr
  n : Nat
  c : Nat
def Sl.v (s : Sl) : Value := .slice s.p s.n s.c
/-- a write as it lies in memory: its two slices by their places -/
structure E where
  n : Int
  c : Int
  k : ByteArray
  d : Bool
  v : Sl
  x : Sl
def E.z : E := ⟨0, 0, ⟨#[]⟩, false, ⟨none, 0, 0⟩, ⟨none, 0, 0⟩⟩
def E.cs (e : E) : List Value := [.int .i64 e.n, .int .i64 e.c, .string e.k, .bool e.d, e.v.v, e.x.v]
def E.agg (e : E) : Value := .agg #[.int .i64 e.n, .int .i64 e.c, .string e.k, .bool e.d, e.v.v, e.x.v]
/-- does a list of spans have a dot? -/
noncomputable def hasd (xs : List S) (n c : Int) : Bool := hasv (norm xs) n c
theorem hasd_nil (n c : Int) : hasd [] n c = false := by
  unfold hasd
  rw [norm_of (OkL.nil 64)]
  exact hasv_nil n c
theorem hasd_uni {a b : List S} (ha : OkL 64 a) (hb : OkL 64 b) (n c : Int) : hasd (uni a b) n c = (hasd a n c || hasd b n c) := by
  unfold hasd hasv
  rw [norm_of ha, norm_of hb, norm_of (uni_ok ha hb (by omega) (by omega))]
  by_cases h : 0 ≤ n ∧ n < 8
  · obtain ⟨k, rfl⟩ : ∃ k : Nat, (k : Int) = n := ⟨n.toNat, by omega⟩
    rw [ofn_uni a b k (by omega), join_dot, Bool.and_or_distrib_left]
  · simp [h]
theorem hasd_no {a : List S} (ha : ¬ OkL 64 a) (n c : Int) : hasd a n c = false := by
  unfold hasd
  rw [norm_no ha]
  exact hasv_nil n c
open Classical in
/-- the union of the known and a context, as the program makes it: a list that is no set is passed over -/
noncomputable def knows (a xs : List S) : List S := if OkL 64 xs then uni a xs else a
theorem knows_ok {a xs : List S} (ha : OkL 64 a) : OkL 64 (knows a xs) := by
  unfold knows; split
  · exact uni_ok ha ‹_› (by omega) (by omega)
  · exact ha
theorem hasd_knows {a xs : List S} (ha : OkL 64 a) (n c : Int) : hasd (knows a xs) n c = (hasd a n c || hasd xs n c) := by
  unfold knows; split
  · exact hasd_uni ha ‹_› n c
  · rename_i hx
    rw [hasd_no hx]; simp
end Go.Proofs.YtokaeiahhmaokaaDoor.ds
namespace Go.Proofs.YtokaeiahhmaokaaDoor.ds
open Go.ChangeShapes Go.WideShapes Go.ChangeAt Go.RowKit
set_option linter.unusedVariables false
/-- a slice's values, as they read -/
def Rd (w : World) (p : Option Addr) (us : List Value) : Prop := 0 < us.length → ∃ P o, p = some ⟨P, o, none⟩ ∧ P < w.heap.size ∧ ∀ j u, us[j]? = some u → w.cell? ⟨P, o + j, none⟩ = some u
theorem Rd.nil (w : World) (p : Option Addr) : Rd w p [] := fun h => absurd h (by simp)
theorem Rd.kept {w w' : World} {p : Option Addr} {us : List Value} {X : List Nat} (h : Rd w p us) (a : Apart X w w') (hX : ∀ P o, p = some ⟨P, o, none⟩ → P ∉ X) : Rd w' p us := by
  intro h0
  obtain ⟨P, o, rfl, hP, hc⟩ := h h0
  exact ⟨P, o, rfl, Nat.lt_of_lt_of_le hP a.size, fun j u hj => (a.cell hP (hX P o rfl)).trans (hc j u hj)⟩
theorem Rd.kept0 {w w' : World} {p : Option Addr} {us : List Value} (h : Rd w p us) (a : Apart [] w w') : Rd w' p us := h.kept a (by simp)
theorem Rd.own {w : World} {p : Option Addr} {n cap size base : Nat} {e : TypeId} {us : List Value} (h : w.ownsRow base e size (.slice p n cap) n us) : Rd w p us := by
  intro h0
  have h' := h
  obtain ⟨hx, ⟨hv, hz⟩ | ⟨G, cap', cur, hv, hh, _⟩⟩ := h
  · exfalso
    subst hz
    simp at hx
    rw [hx] at h0
    simp at h0
  · simp at hv
    obtain ⟨rfl, rfl⟩ := hv
    refine ⟨G, 0, rfl, (h'.lt G rfl).2, fun j u hj => ?_⟩
    have := h'.cells rfl j u hj
    rwa [Addr.add_lit] at this
/-- the writes of a list, cell by cell -/
def flatE (es : List E) : List Value := es.flatMap E.cs
def gE (es : List E) (k : Nat) : E := es.getD k E.z
theorem gE_eq (es : List E) (k : Nat) (h : k < es.length) : gE es k = es[k] := by simp [gE, List.getD_eq_getElem?_getD, h]
theorem flatE_length (es : List E) : (flatE es).length = es.length * 6 := by
  induction es with
  | nil => rfl
  | cons e l ih => simp only [flatE, List.flatMap_cons, List.length_append, List.length_cons] at *; simp only [E.cs, List.length_cons, List.length_nil]; omega
theorem flatE_get (es : List E) : ∀ (k : Nat), k < es.length → (flatE es)[k * 6]? = some (.int .i64 (gE es k).n) ∧ (flatE es)[k * 6 + 1]? = some (.int .i64 (gE es k).c) ∧ (flatE es)[k * 6 + 2]? = some (.string (gE es k).k) ∧ (flatE es)[k * 6 + 3]? = some (.bool (gE es k).d) ∧ (flatE es)[k * 6 + 4]? = some (gE es k).v.v ∧ (flatE es)[k * 6 + 5]? = some (gE es k).x.v := by
  induction es with
  | nil => intro k hk; simp at hk
  | cons e l ih =>
    intro k hk
    match k with
    | 0 => exact ⟨rfl, rfl, rfl, rfl, rfl, rfl⟩
    | k + 1 =>
      have := ih k (by simpa using hk)
      rw [show (k + 1) * 6 = k * 6 + 6 from by omega]
      exact this
theorem flatE_snoc (es : List E) (e : E) : flatE es ++ E.cs e = flatE (es ++ [e]) := by simp [flatE]
theorem flatE_append (a b : List E) : flatE (a ++ b) = flatE a ++ flatE b := by simp [flatE]
theorem oneE (es : List E) : ∀ u ∈ flatE es, u.oneCell' = true := by
  intro u hu
  simp [flatE, E.cs, Sl.v] at hu
  obtain ⟨e, _, h | h | h | h | h | h⟩ := hu <;> subst h <;> rfl
/-- a list of writes that can be read -/
structure LE (w : World) (p : Option Addr) (N : Nat) (es : List E) : Prop where
  rd : Rd w p (flatE es)
  len : es.length = N
  lim : N ≤ 2000000
theorem LE.kept {w w' : World} {p : Option Addr} {N : Nat} {es : List E} {X : List Nat} (h : LE w p N es) (a : Apart X w w') (hX : ∀ P o, p = some ⟨P, o, none⟩ → P ∉ X) : LE w' p N es := { h with rd := h.rd.kept a hX }
theorem LE.kept0 {w w' : World} {p : Option Addr} {N : Nat} {es : List E} (h : LE w p N es) (a : Apart [] w w') : LE w' p N es := { h with rd := h.rd.kept0 a }
theorem LE.nil (w : World) (p : Option Addr) : LE w p 0 [] := ⟨Rd.nil w p, rfl, by omega⟩
/-- the cells of the i-th -/
theorem LE.at {w : World} {p : Option Addr} {N : Nat} {es : List E} (h : LE w p N es) (h0 : 0 < N) : ∃ P o, p = some ⟨P, o, none⟩ ∧ P < w.heap.size ∧ ∀ i, i < N → w.cell? ⟨P, o + i * 6, none⟩ = some (.int .i64 (gE es i).n) ∧ w.cell? ⟨P, o + i * 6 + 1, none⟩ = some (.int .i64 (gE es i).c) ∧ w.cell? ⟨P, o + i * 6 + 2, none⟩ = some (.string (gE es i).k) ∧ w.cell? ⟨P, o + i * 6 + 3, none⟩ = some (.bool (gE es i).d) ∧ w.cell? ⟨P, o + i * 6 + 4, none⟩ = some (gE es i).v.v ∧ w.cell? ⟨P, o + i * 6 + 5, none⟩ = some (gE es i).x.v := by
  obtain ⟨P, o, e, hP, hc⟩ := h.rd (by rw [flatE_length, h.len]; omega)
  refine ⟨P, o, e, hP, fun i hi => ?_⟩
  obtain ⟨a, b, c, d, f, g⟩ := flatE_get es i (by rw [h.len]; exact hi)
  simp only [Nat.add_assoc]
  exact ⟨hc _ _ a, hc _ _ b, hc _ _ c, hc _ _ d, hc _ _ f, hc _ _ g⟩
/-- bytes -/
def byts (bs : List Nat) : List Value := bs.map fun (b : Nat) => .int .u8 (b : Int)
/-- a write as it reads -/
structure Wr where
  n : Int
  c : Int
  k : ByteArray
  d : Bool
  vs : List Nat
  xs : List S
/-- nil has no length -/
def Sl.ok (s : Sl) : Prop := s.p = none → s.n = 0 ∧ s.c = 0
structure Reads (w : World) (e : E) (r : Wr) : Prop where
  n : e.n = r.n
  c : e.c = r.c
  k : e.k = r.k
  d : e.d = r.d
  v : Rd w e.v.p (byts r.vs)
  vn : r.vs.length = e.v.n
  vl : e.v.n ≤ 2000000
  vb : ∀ b ∈ r.vs, b < 256
  x : L w e.x.p e.x.n r.xs
  xl : e.x.n ≤ 2000000
  vo : e.v.ok
  xo : e.x.ok
theorem Reads.kept0 {w w' : World} {e : E} {r : Wr} (h : Reads w e r) (a : Apart [] w w') : Reads w' e r := { h with v := h.v.kept0 a, x := h.x.kept0 a }
theorem Reads.kept {w w' : World} {e : E} {r : Wr} {X : List Nat} (h : Reads w e r) (a : Apart X w w') (hv : ∀ P o, e.v.p = some ⟨P, o, none⟩ → P ∉ X) (hx : ∀ P o, e.x.p = some ⟨P, o, none⟩ → P ∉ X) : Reads w' e r := { h with v := h.v.kept a hv, x := h.x.kept a hx }
/-- does t know of w? -/
noncomputable def cov (t u : Wr) : Bool := t.k == u.k && hasd t.xs u.n u.c
end Go.Proofs.YtokaeiahhmaokaaDoor.ds
