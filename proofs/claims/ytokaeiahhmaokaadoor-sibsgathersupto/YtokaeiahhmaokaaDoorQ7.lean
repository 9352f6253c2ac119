import Derived.Test.YtokaeiahhmaokaaDoorQ6
import Derived.Sort.WalkA
import Derived.Laws.Strings
import Derived.Laws.StructEq
import Derived.Deep.CutBlock
namespace Go.Proofs.YtokaeiahhmaokaaDoor.ds
open Go.ChangeShapes Go.WideShapes Go.ChangeAt Go.RowKit
set_option linter.unusedVariables false
/-- a slice as a value -/
structure Sl where
  p : Option Addr
  n : Nat
  c : Nat
def Sl.v (s : Sl) : Value := .slice s.p s.n s.c
/-- a write as it lies in memory: its two slices by their places -/
structure E where
  n : Int
  c : Int
  k : ByteArray
  d : Bool
  v : Sl
  x : Sl
def E.z : E := ⟨0, 0, ⟨#[]⟩, false, ⟨none, 0, 0⟩, ⟨none, 0, 0⟩⟩
def E.cs (e : E) : List Value := [.int .i64 e.n, .int .i64 e.c, .string e.k, .bool e.d, e.v.v, e.x.v]
def E.agg (e : E) : Value := .agg #[.int .i64 e.n, .int .i64 e.c, .string e.k, .bool e.d, e.v.v, e.x.v]
/-- does a list of spans have a dot? -/
noncomputable def hasd (xs : List S) (n c : Int) : Bool := hasv (norm xs) n c
theorem hasd_nil (n c : Int) : hasd [] n c = false := by
  unfold hasd
  rw [norm_of (OkL.nil 64)]
  exact hasv_nil n c
theorem hasd_uni {a b : List S} (ha : OkL 64 a) (hb : OkL 64 b) (n c : Int) : hasd (uni a b) n c = (hasd a n c || hasd b n c) := by
  unfold hasd hasv
  rw [norm_of ha, norm_of hb, norm_of (uni_ok ha hb (by omega) (by omega))]
  by_cases h : 0 ≤ n ∧ n < 8
  · obtain ⟨k, rfl⟩ : ∃ k : Nat, (k : Int) = n := ⟨n.toNat, by omega⟩
    rw [ofn_uni a b k (by omega), join_dot, Bool.and_or_distrib_left]
  · simp [h]
theorem hasd_no {a : List S} (ha : ¬ OkL 64 a) (n c : Int) : hasd a n c = false := by
  unfold hasd
  rw [norm_no ha]
  exact hasv_nil n c
open Classical in
/-- the union of the known and a context, as the program makes it: a list that is no set is passed over -/
noncomputable def knows (a xs : List S) : List S := if OkL 64 xs then uni a xs else a
theorem knows_ok {a xs : List S} (ha : OkL 64 a) : OkL 64 (knows a xs) := by
  unfold knows; split
  · exact uni_ok ha ‹_› (by omega) (by omega)
  · exact ha
theorem hasd_knows {a xs : List S} (ha : OkL 64 a) (n c : Int) : hasd (knows a xs) n c = (hasd a n c || hasd xs n c) := by
  unfold knows; split
  · exact hasd_uni ha ‹_› n c
  · rename_i hx
    rw [hasd_no hx]; simp
end Go.Proofs.YtokaeiahhmaokaaDoor.ds
namespace Go.Proofs.YtokaeiahhmaokaaDoor.ds
open Go.ChangeShapes Go.WideShapes Go.ChangeAt Go.RowKit
set_option linter.unusedVariables false
/-- a slice's values, as they read -/
def Rd (w : World) (p : Option Addr) (us : List Value) : Prop := 0 < us.length → ∃ P o, p = some ⟨P, o, none⟩ ∧ P < w.heap.size ∧ ∀ j u, us[j]? = some u → w.cell? ⟨P, o + j, none⟩ = some u
theorem Rd.nil (w : World) (p : Option Addr) : Rd w p [] := fun h => absurd h (by simp)
theorem Rd.kept {w w' : World} {p : Option Addr} {us : List Value} {X : List Nat} (h : Rd w p us) (a : Apart X w w') (hX : ∀ P o, p = some ⟨P, o, none⟩ → P ∉ X) : Rd w' p us := by
  intro h0
  obtain ⟨P, o, rfl, hP, hc⟩ := h h0
  exact ⟨P, o, rfl, Nat.lt_of_lt_of_le hP a.size, fun j u hj => (a.cell hP (hX P o rfl)).trans (hc j u hj)⟩
theorem Rd.kept0 {w w' : World} {p : Option Addr} {us : List Value} (h : Rd w p us) (a : Apart [] w w') : Rd w' p us := h.kept a (by simp)
theorem Rd.own {w : World} {p : Option Addr} {n cap size base : Nat} {e : TypeId} {us : List Value} (h : w.ownsRow base e size (.slice p n cap) n us) : Rd w p us := by
  intro h0
  have h' := h
  obtain ⟨hx, ⟨hv, hz⟩ | ⟨G, cap', cur, hv, hh, _⟩⟩ := h
  · exfalso
    subst hz
    simp at hx
    rw [hx] at h0
    simp at h0
  · simp at hv
    obtain ⟨rfl, rfl⟩ := hv
    refine ⟨G, 0, rfl, (h'.lt G rfl).2, fun j u hj => ?_⟩
    have := h'.cells rfl j u hj
    rwa [Addr.add_lit] at this
/-- the writes of a list, cell by cell -/
def flatE (es : List E) : List Value := es.flatMap E.cs
def gE (es : List E) (k : Nat) : E := es.getD k E.z
theorem gE_eq (es : List E) (k : Nat) (h : k < es.length) : gE es k = es[k] := by simp [gE, List.getD_eq_getElem?_getD, h]
theorem flatE_length (es : List E) : (flatE es).length = es.length * 6 := by
  induction es with
  | nil => rfl
  | cons e l ih => simp only [flatE, List.flatMap_cons, List.length_append, List.length_cons] at *; simp only [E.cs, List.length_cons, List.length_nil]; omega
theorem flatE_get (es : List E) : ∀ (k : Nat), k < es.length → (flatE es)[k * 6]? = some (.int .i64 (gE es k).n) ∧ (flatE es)[k * 6 + 1]? = some (.int .i64 (gE es k).c) ∧ (flatE es)[k * 6 + 2]? = some (.string (gE es k).k) ∧ (flatE es)[k * 6 + 3]? = some (.bool (gE es k).d) ∧ (flatE es)[k * 6 + 4]? = some (gE es k).v.v ∧ (flatE es)[k * 6 + 5]? = some (gE es k).x.v := by
  induction es with
  | nil => intro k hk; simp at hk
  | cons e l ih =>
    intro k hk
    match k with
    | 0 => exact ⟨rfl, rfl, rfl, rfl, rfl, rfl⟩
    | k + 1 =>
      have := ih k (by simpa using hk)
      rw [show (k + 1) * 6 = k * 6 + 6 from by omega]
      exact this
theorem flatE_snoc (es : List E) (e : E) : flatE es ++ E.cs e = flatE (es ++ [e]) := by simp [flatE]
theorem flatE_append (a b : List E) : flatE (a ++ b) = flatE a ++ flatE b := by simp [flatE]
theorem oneE (es : List E) : ∀ u ∈ flatE es, u.oneCell' = true := by
  intro u hu
  simp [flatE, E.cs, Sl.v] at hu
  obtain ⟨e, _, h | h | h | h | h | h⟩ := hu <;> subst h <;> rfl
/-- a list of writes that can be read -/
structure LE (w : World) (p : Option Addr) (N : Nat) (es : List E) : Prop where
  rd : Rd w p (flatE es)
  len : es.length = N
  lim : N ≤ 2000000
theorem LE.kept {w w' : World} {p : Option Addr} {N : Nat} {es : List E} {X : List Nat} (h : LE w p N es) (a : Apart X w w') (hX : ∀ P o, p = some ⟨P, o, none⟩ → P ∉ X) : LE w' p N es := { h with rd := h.rd.kept a hX }
theorem LE.kept0 {w w' : World} {p : Option Addr} {N : Nat} {es : List E} (h : LE w p N es) (a : Apart [] w w') : LE w' p N es := { h with rd := h.rd.kept0 a }
theorem LE.nil (w : World) (p : Option Addr) : LE w p 0 [] := ⟨Rd.nil w p, rfl, by omega⟩
/-- the cells of the i-th -/
theorem LE.at {w : World} {p : Option Addr} {N : Nat} {es : List E} (h : LE w p N es) (h0 : 0 < N) : ∃ P o, p = some ⟨P, o, none⟩ ∧ P < w.heap.size ∧ ∀ i, i < N → w.cell? ⟨P, o + i * 6, none⟩ = some (.int .i64 (gE es i).n) ∧ w.cell? ⟨P, o + i * 6 + 1, none⟩ = some (.int .i64 (gE es i).c) ∧ w.cell? ⟨P, o + i * 6 + 2, none⟩ = some (.string (gE es i).k) ∧ w.cell? ⟨P, o + i * 6 + 3, none⟩ = some (.bool (gE es i).d) ∧ w.cell? ⟨P, o + i * 6 + 4, none⟩ = some (gE es i).v.v ∧ w.cell? ⟨P, o + i * 6 + 5, none⟩ = some (gE es i).x.v := by
  obtain ⟨P, o, e, hP, hc⟩ := h.rd (by rw [flatE_length, h.len]; omega)
  refine ⟨P, o, e, hP, fun i hi => ?_⟩
  obtain ⟨a, b, c, d, f, g⟩ := flatE_get es i (by rw [h.len]; exact hi)
  simp only [Nat.add_assoc]
  exact ⟨hc _ _ a, hc _ _ b, hc _ _ c, hc _ _ d, hc _ _ f, hc _ _ g⟩
/-- bytes -/
def byts (bs : List Nat) : List Value := bs.map fun (b : Nat) => .int .u8 (b : Int)
/-- a write as it reads -/
structure Wr where
  n : Int
  c : Int
  k : ByteArray
  d : Bool
  vs : List Nat
  xs : List S
/-- nil has no length -/
def Sl.ok (s : Sl) : Prop := s.p = none → s.n = 0 ∧ s.c = 0
structure Reads (w : World) (e : E) (r : Wr) : Prop where
  n : e.n = r.n
  c : e.c = r.c
  k : e.k = r.k
  d : e.d = r.d
  v : Rd w e.v.p (byts r.vs)
  vn : r.vs.length = e.v.n
  vl : e.v.n ≤ 2000000
  vb : ∀ b ∈ r.vs, b < 256
  x : L w e.x.p e.x.n r.xs
  xl : e.x.n ≤ 2000000
  vo : e.v.ok
  xo : e.x.ok
theorem Reads.kept0 {w w' : World} {e : E} {r : Wr} (h : Reads w e r) (a : Apart [] w w') : Reads w' e r := { h with v := h.v.kept0 a, x := h.x.kept0 a }
theorem Reads.kept {w w' : World} {e : E} {r : Wr} {X : List Nat} (h : Reads w e r) (a : Apart X w w') (hv : ∀ P o, e.v.p = some ⟨P, o, none⟩ → P ∉ X) (hx : ∀ P o, e.x.p = some ⟨P, o, none⟩ → P ∉ X) : Reads w' e r := { h with v := h.v.kept a hv, x := h.x.kept a hx }
/-- does t know of w? -/
noncomputable def cov (t u : Wr) : Bool := t.k == u.k && hasd t.xs u.n u.c
end Go.Proofs.YtokaeiahhmaokaaDoor.ds
namespace Go.Proofs.YtokaeiahhmaokaaDoor.ds
open Go.ChangeShapes Go.WideShapes Go.ChangeAt Go.RowKit Go.Sort
set_option linter.unusedVariables false
set_option linter.unusedSimpArgs false
theorem hid {p : Prop} (h : p) : Hid p := h
def cmpI (a b : Int) : Int := if a < b then -1 else if b < a then 1 else 0
/-- how two writes stand by their dots -/
def cfE (x y : E) : Int := if cmpI x.n y.n ≠ 0 then cmpI x.n y.n else cmpI x.c y.c
/-- does the dot of a stand ahead of that of b? -/
def below (a b : E) : Bool := decide (a.n < b.n) || (decide (a.n = b.n) && decide (a.c < b.c))
theorem cfE_gt (x y : E) : decide (0 < cfE x y) = below y x := by
  unfold cfE cmpI below
  rcases Int.lt_trichotomy x.n y.n with h | h | h
  · have h1 : ¬ y.n < x.n := by omega
    have h2 : ¬ y.n = x.n := by omega
    simp [h, h1, h2]
  · have h1 : ¬ x.n < y.n := by omega
    have h2 : ¬ y.n < x.n := by omega
    simp only [h1, h2, if_false, h]
    rcases Int.lt_trichotomy x.c y.c with h3 | h3 | h3
    · have h4 : ¬ y.c < x.c := by omega
      simp [h3, h4]
    · simp [h3]
    · have h4 : ¬ x.c < y.c := by omega
      simp [h3, h4]
  · have h1 : ¬ x.n < y.n := by omega
    simp [h, h1]
theorem nan49 (a : Int) (w : World) : Calls Tryd.prog 117 #[.int .i64 a] w fun r w' => r = .returned (.bool false) ∧ w' = w := by
  go_enter Tryd.func117, Tryd.ntmps117
  go_wp2_with fail
  go_ret
  exact ⟨by simp, rfl⟩
theorem cmp40 (a b : Int) (w : World) : Calls Tryd.prog 99 #[.int .i64 a, .int .i64 b] w fun r w' => r = .returned (.int .i64 (cmpI a b)) ∧ w' = w := by
  unfold cmpI
  by_cases h1 : a < b
  · rw [if_pos h1]
    go_enter Tryd.func99, Tryd.ntmps99
    go_wp2_with (go_at_call 117; refine (nan49 _ _).mono ?_; rintro r w1 ⟨rfl, rfl⟩)
    go_ret
    exact ⟨rfl, rfl⟩
  · rw [if_neg h1]
    by_cases h2 : b < a
    · rw [if_pos h2]
      go_enter Tryd.func99, Tryd.ntmps99
      go_wp2_with (go_at_call 117; refine (nan49 _ _).mono ?_; rintro r w1 ⟨rfl, rfl⟩)
      go_ret
      exact ⟨rfl, rfl⟩
    · rw [if_neg h2]
      go_enter Tryd.func99, Tryd.ntmps99
      go_wp2_with (go_at_call 117; refine (nan49 _ _).mono ?_; rintro r w1 ⟨rfl, rfl⟩)
      go_ret
      exact ⟨rfl, rfl⟩
theorem or39 (G cap : Nat) (a b c : Int) (hc : c = if a ≠ 0 then a else b) (w : World) (h0 : w.cell? ⟨G, 0, none⟩ = some (.int .i64 a)) (h1 : w.cell? ⟨G, 1, none⟩ = some (.int .i64 b)) : Calls Tryd.prog 98 #[.slice (some ⟨G, 0, none⟩) 2 cap] w fun r w' => r = .returned (.int .i64 c) ∧ w' = w := by
  subst hc
  by_cases ha : a = 0
  · subst ha
    by_cases hb : b = 0
    · subst hb
      go_enter Tryd.func98, Tryd.ntmps98
      go_wp2_with fail
      refine wp_loop_rounds 3 ?_
      rw [rounds_succ]
      go_wp2_with fail
      rw [rounds_succ]
      go_wp2_with fail
      rw [rounds_succ]
      go_wp2_with fail
      go_ret
      exact ⟨rfl, rfl⟩
    · go_enter Tryd.func98, Tryd.ntmps98
      go_wp2_with fail
      refine wp_loop_rounds 2 ?_
      rw [rounds_succ]
      go_wp2_with fail
      rw [rounds_succ]
      go_wp2_with fail
      go_ret
      exact ⟨rfl, rfl⟩
  · go_enter Tryd.func98, Tryd.ntmps98
    go_wp2_with fail
    refine wp_loop_rounds 1 ?_
    rw [rounds_succ]
    go_wp2_with fail
    go_ret
    exact ⟨rfl, rfl⟩
/-- two writes in new boxes -/
theorem box2 (w : World) (a b : E) (W : World) (h : Apart [] ((w.alloc (.cells #[.int .i64 a.n, .int .i64 a.c, .string a.k, .bool a.d, a.v.v, a.x.v] 28)).alloc (.cells #[.int .i64 b.n, .int .i64 b.c, .string b.k, .bool b.d, b.v.v, b.x.v] 28)) W) : (W.heap[w.heap.size]? = some (.cells #[.int .i64 a.n, .int .i64 a.c, .string a.k, .bool a.d, a.v.v, a.x.v] 28 (0, 0))) ∧ (W.heap[w.heap.size + 1]? = some (.cells #[.int .i64 b.n, .int .i64 b.c, .string b.k, .bool b.d, b.v.v, b.x.v] 28 (0, 0))) := by
  have b1 : ((w.alloc (.cells #[.int .i64 a.n, .int .i64 a.c, .string a.k, .bool a.d, a.v.v, a.x.v] 28)).alloc (.cells #[.int .i64 b.n, .int .i64 b.c, .string b.k, .bool b.d, b.v.v, b.x.v] 28)).heap[w.heap.size]? = some (.cells #[.int .i64 a.n, .int .i64 a.c, .string a.k, .bool a.d, a.v.v, a.x.v] 28 (0, 0)) := by
    rw [Below.heap_alloc _ _ _ (by simp)]; exact heap_alloc_new w _
  have b2 := new2 w (.cells #[.int .i64 a.n, .int .i64 a.c, .string a.k, .bool a.d, a.v.v, a.x.v] 28) #[.int .i64 b.n, .int .i64 b.c, .string b.k, .bool b.d, b.v.v, b.x.v] 28
  exact ⟨(h.block _ (lt_of_heap b1) (by simp)).trans b1, (h.block _ (lt_of_heap b2) (by simp)).trans b2⟩
theorem row6 {w : World} {g : Nat} {a b c d e f : Value} {t : TypeId} (h : w.heap[g]? = some (.cells #[a, b, c, d, e, f] t (0, 0))) : w.cell? ⟨g, 0, none⟩ = some a ∧ w.cell? ⟨g, 1, none⟩ = some b ∧ w.cell? ⟨g, 2, none⟩ = some c ∧ w.cell? ⟨g, 3, none⟩ = some d ∧ w.cell? ⟨g, 4, none⟩ = some e ∧ w.cell? ⟨g, 5, none⟩ = some f := by
  refine ⟨?_, ?_, ?_, ?_, ?_, ?_⟩ <;> (rw [cell_of_row _ _ _ _ _ _ h]; rfl)
set_option maxHeartbeats 4000000 in
set_option maxRecDepth 100000 in
theorem compare_ok (a b : E) (w : World) : Calls Tryd.prog 59 #[a.agg, b.agg] w fun r w' => r = .returned (.int .i64 (cfE a b)) ∧ Apart [] w w' := by
  have HV : Hid (Apart [] w ((w.alloc (.cells #[.int .i64 a.n, .int .i64 a.c, .string a.k, .bool a.d, a.v.v, a.x.v] 28)).alloc (.cells #[.int .i64 b.n, .int .i64 b.c, .string b.k, .bool b.d, b.v.v, b.x.v] 28))) := ((Apart.refl [] w).alloc _).alloc _
  have k0 : ∀ W, Apart [] ((w.alloc (.cells #[.int .i64 a.n, .int .i64 a.c, .string a.k, .bool a.d, a.v.v, a.x.v] 28)).alloc (.cells #[.int .i64 b.n, .int .i64 b.c, .string b.k, .bool b.d, b.v.v, b.x.v] 28)) W → W.cell? ⟨w.heap.size, 0, none⟩ = some (.int .i64 a.n) ∧ W.cell? ⟨w.heap.size, 1, none⟩ = some (.int .i64 a.c) ∧ W.cell? ⟨w.heap.size + 1, 0, none⟩ = some (.int .i64 b.n) ∧ W.cell? ⟨w.heap.size + 1, 1, none⟩ = some (.int .i64 b.c) := by
    intro W hW
    obtain ⟨h1, h2⟩ := box2 w a b W hW
    exact ⟨(row6 h1).1, (row6 h1).2.1, (row6 h2).1, (row6 h2).2.1⟩
  unfold E.agg
  go_enter Tryd.func59, Tryd.ntmps59
  go_wp2_with fail
  generalize (w.alloc (.cells #[.int .i64 a.n, .int .i64 a.c, .string a.k, .bool a.d, a.v.v, a.x.v] 28)).alloc (.cells #[.int .i64 b.n, .int .i64 b.c, .string b.k, .bool b.d, b.v.v, b.x.v] 28) = V at *
  have r0 : ∀ W, Apart [] V W → W.cell? ⟨w.heap.size, 0, none⟩ = some (.int .i64 a.n) := fun W h => (k0 W h).1
  have r1 : ∀ W, Apart [] V W → W.cell? ⟨w.heap.size, 1, none⟩ = some (.int .i64 a.c) := fun W h => (k0 W h).2.1
  have r2 : ∀ W, Apart [] V W → W.cell? ⟨w.heap.size + 1, 0, none⟩ = some (.int .i64 b.n) := fun W h => (k0 W h).2.2.1
  have r3 : ∀ W, Apart [] V W → W.cell? ⟨w.heap.size + 1, 1, none⟩ = some (.int .i64 b.c) := fun W h => (k0 W h).2.2.2
  clear k0
  have gB : Apart [] V V.drew := (Apart.refl [] V).drew
  refine wp_region_held_drew (S := fun W => Apart [] V W) (by kernel_rfl) gB (fun hHeld => ?_)
  refine wpAnyH_take (i := 0) (oi := ⟨some 5, _, _, _, _, _⟩) (v := (.pointer (some ⟨w.heap.size, 0, none⟩))) rfl (by kernel_rfl) (by kernel_rfl) (by kernel_rfl) (fun _ _ _ h => h) (Or.inl ⟨by rfl, ?_⟩) (by assumption) ?_
  · intro W hSW; go_simp
  simp only [Act.put, List.setIfInBounds_toArray, List.set_cons_zero, List.set_cons_succ]
  refine wpAnyH_take (i := 1) (oi := ⟨some 6, _, _, _, _, _⟩) (v := (.pointer (some ⟨w.heap.size, 0, none⟩))) rfl (by kernel_rfl) (by kernel_rfl) (by kernel_rfl) (fun _ _ _ h => h) (Or.inl ⟨by rfl, ?_⟩) (by assumption) ?_
  · intro W hSW; go_simp
  simp only [Act.put, List.setIfInBounds_toArray, List.set_cons_zero, List.set_cons_succ]
  refine wpAnyH_take (i := 2) (oi := ⟨some 7, _, _, _, _, _⟩) (v := (.int .i64 a.n)) rfl (by kernel_rfl) (by kernel_rfl) (by kernel_rfl) (fun _ _ _ h => h) (Or.inl ⟨by rfl, ?_⟩) (by assumption) ?_
  · intro W hSW; go_simp
  simp only [Act.put, List.setIfInBounds_toArray, List.set_cons_zero, List.set_cons_succ]
  refine wpAnyH_take (i := 3) (oi := ⟨some 8, _, _, _, _, _⟩) (v := (.pointer (some ⟨(w.heap.size + 1), 0, none⟩))) rfl (by kernel_rfl) (by kernel_rfl) (by kernel_rfl) (fun _ _ _ h => h) (Or.inl ⟨by rfl, ?_⟩) (by assumption) ?_
  · intro W hSW; go_simp
  simp only [Act.put, List.setIfInBounds_toArray, List.set_cons_zero, List.set_cons_succ]
  refine wpAnyH_take (i := 4) (oi := ⟨some 9, _, _, _, _, _⟩) (v := (.pointer (some ⟨(w.heap.size + 1), 0, none⟩))) rfl (by kernel_rfl) (by kernel_rfl) (by kernel_rfl) (fun _ _ _ h => h) (Or.inl ⟨by rfl, ?_⟩) (by assumption) ?_
  · intro W hSW; go_simp
  simp only [Act.put, List.setIfInBounds_toArray, List.set_cons_zero, List.set_cons_succ]
  refine wpAnyH_take (i := 5) (oi := ⟨some 10, _, _, _, _, _⟩) (v := (.int .i64 b.n)) rfl (by kernel_rfl) (by kernel_rfl) (by kernel_rfl) (fun _ _ _ h => h) (Or.inl ⟨by rfl, ?_⟩) (by assumption) ?_
  · intro W hSW; go_simp
  simp only [Act.put, List.setIfInBounds_toArray, List.set_cons_zero, List.set_cons_succ]
  refine wpAnyH_take (i := 7) (oi := ⟨some 12, _, _, _, _, _⟩) (v := (.pointer (some ⟨w.heap.size, 0, none⟩))) rfl (by kernel_rfl) (by kernel_rfl) (by kernel_rfl) (fun _ _ _ h => h) (Or.inl ⟨by rfl, ?_⟩) (by assumption) ?_
  · intro W hSW; go_simp
  simp only [Act.put, List.setIfInBounds_toArray, List.set_cons_zero, List.set_cons_succ]
  refine wpAnyH_take (i := 8) (oi := ⟨some 13, _, _, _, _, _⟩) (v := (.pointer (some ⟨w.heap.size, 1, none⟩))) rfl (by kernel_rfl) (by kernel_rfl) (by kernel_rfl) (fun _ _ _ h => h) (Or.inl ⟨by rfl, ?_⟩) (by assumption) ?_
  · intro W hSW; go_simp
  simp only [Act.put, List.setIfInBounds_toArray, List.set_cons_zero, List.set_cons_succ]
  refine wpAnyH_take (i := 9) (oi := ⟨some 14, _, _, _, _, _⟩) (v := (.int .i64 a.c)) rfl (by kernel_rfl) (by kernel_rfl) (by kernel_rfl) (fun _ _ _ h => h) (Or.inl ⟨by rfl, ?_⟩) (by assumption) ?_
  · intro W hSW; go_simp
  simp only [Act.put, List.setIfInBounds_toArray, List.set_cons_zero, List.set_cons_succ]
  refine wpAnyH_take (i := 10) (oi := ⟨some 15, _, _, _, _, _⟩) (v := (.pointer (some ⟨(w.heap.size + 1), 0, none⟩))) rfl (by kernel_rfl) (by kernel_rfl) (by kernel_rfl) (fun _ _ _ h => h) (Or.inl ⟨by rfl, ?_⟩) (by assumption) ?_
  · intro W hSW; go_simp
  simp only [Act.put, List.setIfInBounds_toArray, List.set_cons_zero, List.set_cons_succ]
  refine wpAnyH_take (i := 11) (oi := ⟨some 16, _, _, _, _, _⟩) (v := (.pointer (some ⟨(w.heap.size + 1), 1, none⟩))) rfl (by kernel_rfl) (by kernel_rfl) (by kernel_rfl) (fun _ _ _ h => h) (Or.inl ⟨by rfl, ?_⟩) (by assumption) ?_
  · intro W hSW; go_simp
  simp only [Act.put, List.setIfInBounds_toArray, List.set_cons_zero, List.set_cons_succ]
  refine wpAnyH_take (i := 12) (oi := ⟨some 17, _, _, _, _, _⟩) (v := (.int .i64 b.c)) rfl (by kernel_rfl) (by kernel_rfl) (by kernel_rfl) (fun _ _ _ h => h) (Or.inl ⟨by rfl, ?_⟩) (by assumption) ?_
  · intro W hSW; go_simp
  simp only [Act.put, List.setIfInBounds_toArray, List.set_cons_zero, List.set_cons_succ]
  refine wpAnyH_ready (rs := [6]) (by kernel_rfl) (by simp) ?_
  refine AllReadyH.cons rfl (fun KK hKK => ?_) AllReadyH.nil
  go_simp
  refine (cmp40 _ _ _).mono ?_
  rintro r w1 ⟨rfl, rfl⟩
  dsimp only
  refine hKK.out _ _ (by assumption) (fun hHeld => ?_)
  clear hKK KK
  refine wpAnyH_ready (rs := [13]) (by kernel_rfl) (by simp) ?_
  refine AllReadyH.cons rfl (fun KK hKK => ?_) AllReadyH.nil
  go_simp
  refine (cmp40 _ _ _).mono ?_
  rintro r w1 ⟨rfl, rfl⟩
  dsimp only
  refine hKK.out _ _ (by assumption) (fun hHeld => ?_)
  clear hKK KK
  refine wpAnyH_ready (rs := [14]) (by kernel_rfl) (by simp) ?_
  refine AllReadyH.cons rfl (fun KK hKK => ?_) AllReadyH.nil
  go_simp
  have gA := gB.alloc (.cells #[.int .i64 (cmpI a.n b.n), .int .i64 (cmpI a.c b.c)] 3)
  refine hKK.out _ _ (by assumption) (fun hHeld => ?_)
  clear hKK KK
  refine wpAnyH_ready (rs := [15]) (by kernel_rfl) (by simp) ?_
  refine AllReadyH.cons rfl (fun KK hKK => ?_) AllReadyH.nil
  go_simp
  refine (or39 _ _ (cmpI a.n b.n) (cmpI a.c b.c) (cfE a b) rfl _ (by show (V.alloc _).cell? _ = _; simp) (by show (V.alloc _).cell? _ = _; simp)).mono ?_
  rintro r w1 ⟨rfl, rfl⟩
  dsimp only
  refine hKK.out _ _ (by assumption) (fun hHeld => ?_)
  clear hKK KK
  refine wpAnyH_take (i := 16) (oi := ⟨some 4, _, _, _, _, _⟩) (v := (.int .i64 (cfE a b))) rfl (by kernel_rfl) (by kernel_rfl) (by kernel_rfl) (fun _ _ _ h => h) (Or.inl ⟨by rfl, ?_⟩) (by assumption) ?_
  · intro W hSW; go_simp
  simp only [Act.put, List.setIfInBounds_toArray, List.set_cons_zero, List.set_cons_succ]
  refine wpAnyH_done (by kernel_rfl) ?_ _
  go_wp2_with fail
  go_ret
  exact ⟨rfl, HV.out.trans (by assumption)⟩
end Go.Proofs.YtokaeiahhmaokaaDoor.ds
namespace Go.Proofs.YtokaeiahhmaokaaDoor.ds
open Go.ChangeShapes Go.WideShapes Go.ChangeAt Go.RowKit Go.Sort
set_option linter.unusedVariables false
set_option linter.unusedSimpArgs false
/-- are two keys one? -/
def keq (a b : ByteArray) : Bool := a.toList == b.toList
theorem toList_inj {a b : ByteArray} (h : a.toList = b.toList) : a = b := by
  have := congrArg List.toArray h
  cases a with | mk a => cases b with | mk b =>
    simp [ByteArray.toList_eq] at this
    simpa using this
theorem keq_iff (a b : ByteArray) : keq a b = true ↔ a = b := by
  unfold keq
  rw [beq_iff_eq]
  exact ⟨toList_inj, fun h => by rw [h]⟩
abbrev boxE (e : E) : Obj := .cells #[.int .i64 e.n, .int .i64 e.c, .string e.k, .bool e.d, e.v.v, e.x.v] 28
/-- does t know of u, where t's context reads as xs? -/
noncomputable def cvE (xs : List S) (t u : E) : Bool := keq t.k u.k && hasd xs u.n u.c
set_option maxHeartbeats 2000000 in
theorem covers_ok (t u : E) (xs : List S) (w : World) (h : L w t.x.p t.x.n xs) (v : Bool) (hv : v = cvE xs t u) : Calls Tryd.prog 17 #[t.agg, u.agg] w fun r w' => r = .returned (.bool v) ∧ Apart [] w w' := by
  have aV : Apart [] w ((w.alloc (boxE t)).alloc (boxE u)) := ((Apart.refl [] w).alloc _).alloc _
  obtain ⟨q1, q2⟩ := box2 w t u _ (Apart.refl _ _)
  obtain ⟨t0, t1, t2, t3, t4, t5⟩ := row6 q1
  obtain ⟨u0, u1, u2, u3, u4, u5⟩ := row6 q2
  have hk : (t.k.toList == u.k.toList) = keq t.k u.k := rfl
  have HL := hid (h.kept0 aV)
  have HA := hid aV
  have HVV := hid hv
  clear q1 q2 h aV hv
  unfold E.agg
  cases hkq : keq t.k u.k
  · have hf : v = false := by rw [HVV.out]; unfold cvE; rw [hkq]; rfl
    subst hf
    rw [hkq] at hk
    clear hkq
    go_enter Tryd.func17, Tryd.ntmps17
    go_wp2_with fail
    go_ret
    exact ⟨rfl, HA.out⟩
  · have hf : v = hasv (norm xs) u.n u.c := by rw [HVV.out]; unfold cvE; rw [hkq]; rfl
    rw [hkq] at hk
    have hH := has_any (cap := t.x.c) u.n u.c HL.out v hf
    unfold Sl.v at t5
    clear hkq hf
    go_enter Tryd.func17, Tryd.ntmps17
    go_wp2_with fail
    refine hH.mono ?_
    clear hH
    rintro r w1 ⟨rfl, a1⟩
    go_wp2_with fail
    go_ret
    exact ⟨rfl, HA.out.trans a1⟩
/-- the captured write -/
def Cap (w : World) (B : Nat) (u : E) : Prop := w.heap[B]? = some (.cells #[.int .i64 u.n, .int .i64 u.c, .string u.k, .bool u.d, u.v.v, u.x.v] 28 (0, 0))
theorem Cap.kept0 {w w' : World} {B : Nat} {u : E} (h : Cap w B u) (a : Apart [] w w') : Cap w' B u := (a.block _ (lt_of_heap h) (by simp)).trans h
theorem Cap.new (w : World) (u : E) : Cap (w.alloc (boxE u)) w.heap.size u := heap_alloc_new w _
theorem key1_ok (t u : E) (B : Nat) (w : World) (h : Cap w B u) : Calls Tryd.prog 48 #[t.agg, .pointer (some ⟨B, 0, none⟩)] w fun r w' => r = .returned (.bool (!keq t.k u.k)) ∧ Apart [] w w' := by
  have aV : Apart [] w (w.alloc (boxE t)) := (Apart.refl [] w).alloc _
  obtain ⟨t0, t1, t2, t3, t4, t5⟩ := row6 (Cap.new w t)
  obtain ⟨u0, u1, u2, u3, u4, u5⟩ := row6 (h.kept0 aV)
  have hk : (t.k.toList == u.k.toList) = keq t.k u.k := rfl
  generalize keq t.k u.k = v at *
  unfold E.agg
  go_enter Tryd.func48, Tryd.ntmps48
  go_wp2_with fail
  go_ret
  exact ⟨by first | rfl | simp [hk], aV⟩
/-- have they one dot? -/
def deq (a b : E) : Bool := decide (a.n = b.n) && decide (a.c = b.c)
theorem eql24 (W : World) (a b c d : Int) : Sem.run Tryd.prog (binOp BinOp.eql 24 (.agg #[.int .i64 a, .int .i64 b]) (.agg #[.int .i64 c, .int .i64 d])) W = .ok (.bool (decide (a = c) && decide (b = d))) W := by
  have hS : Tryd.prog.underlying 24 = some (.struct (Tryd.prog.fieldsOf 24)) := by kernel_rfl
  have hp : Tryd.prog.stoodInHeld 24 = false := by kernel_rfl
  rw [run_eql_struct, show (10000 : Nat) = 9998 + 1 + 1 from rfl, run_equalIn_agg _ _ _ _ _ hS hp]
  simp only [Program.fieldsOf, Tryd.underlying24]
  by_cases h1 : a = c <;> by_cases h2 : b = d <;> simp [go_sem, Tryd.underlying3, h1, h2]
theorem guard24 : Tryd.prog.eqGuardType Tryd.prog.depth 24 = false := by kernel_rfl
theorem dot1_ok (t u : E) (B : Nat) (w : World) (h : Cap w B u) : Calls Tryd.prog 49 #[t.agg, .pointer (some ⟨B, 0, none⟩)] w fun r w' => r = .returned (.bool (deq t u)) ∧ Apart [] w w' := by
  have aV : Apart [] w (w.alloc (boxE t)) := (Apart.refl [] w).alloc _
  obtain ⟨t0, t1, t2, t3, t4, t5⟩ := row6 (Cap.new w t)
  obtain ⟨u0, u1, u2, u3, u4, u5⟩ := row6 (h.kept0 aV)
  have hq := fun W => eql24 W t.n t.c u.n u.c
  have hg := guard24
  unfold E.agg
  go_enter Tryd.func49, Tryd.ntmps49
  go_wp2_with fail
  go_ret
  exact ⟨rfl, aV⟩
end Go.Proofs.YtokaeiahhmaokaaDoor.ds
namespace Go.Proofs.YtokaeiahhmaokaaDoor.ds
open Go.ChangeShapes Go.WideShapes Go.ChangeAt Go.RowKit
set_option linter.unusedVariables false
set_option linter.unusedSimpArgs false
theorem pdot_ok (n c : Int) (w : World) : Calls Tryd.prog 97 #[.agg #[.int .i64 n, .int .i64 c]] w fun r w' => r = .returned (.bool (isd n c)) ∧ Apart [] w w' := by
  obtain ⟨v, HV⟩ : ∃ v, Hid (v = isd n c) := ⟨_, rfl⟩
  have hv := HV.out
  unfold isd at hv
  by_cases h1 : 0 ≤ n <;> by_cases h2 : n < 8 <;> by_cases h3 : 1 ≤ c <;> by_cases h4 : c ≤ 1048576
  all_goals first
  | (exfalso; omega)
  | skip
  all_goals
    simp only [h1, h2, h3, h4, and_self, and_true, true_and, and_false, false_and, decide_true, decide_false, Bool.and_self, Bool.and_true, Bool.true_and, Bool.and_false, Bool.false_and] at hv
    rw [← HV.out, hv]
    clear HV hv
    go_enter Tryd.func97, Tryd.ntmps97
    go_wp2
    go_ret
    exact ⟨by first | rfl | (simp; omega), (Apart.refl _ _).alloc _⟩
/-- short enough, and nothing where it is dead -/
def shortE (e : E) : Prop := (1 ≤ (e.k.size : Int) ∧ (e.k.size : Int) ≤ 16) ∧ (e.v.n : Int) ≤ 64 ∧ ¬ (e.d = true ∧ 0 < (e.v.n : Int))
set_option maxHeartbeats 8000000 in
theorem isW_walk (e : E) (gap : Int) (w : World) (b1 b2 : Bool) (c1 : Int) (hs : shortE e)
    (hd : ∀ W, Calls Tryd.prog 97 #[.agg #[.int .i64 e.n, .int .i64 e.c]] W fun r w' => r = .returned (.bool b1) ∧ Apart [] W w')
    (hc : ∀ W, Apart [] w W → Calls Tryd.prog 28 #[.slice e.x.p e.x.n e.x.c, .int .i64 gap] W fun r w' => r = .returned (.int .i64 c1) ∧ Apart [] W w')
    (hh : ∀ W, Apart [] w W → Calls Tryd.prog 46 #[.slice e.x.p e.x.n e.x.c, .agg #[.int .i64 e.n, .int .i64 e.c]] W fun r w' => r = .returned (.bool b2) ∧ Apart [] W w') :
    Calls Tryd.prog 58 #[e.agg, .int .i64 gap] w fun r w' => r = .returned (.bool (b1 && (decide (c1 = 0) && !b2))) ∧ Apart [] w w' := by
  obtain ⟨en, ec, ek, ed, ev, ex⟩ := e
  obtain ⟨wb, hwb⟩ : ∃ wb, wb = w.alloc (boxE ⟨en, ec, ek, ed, ev, ex⟩) := ⟨_, rfl⟩
  have a0 : Apart [] w wb := by rw [hwb]; exact (Apart.refl [] w).alloc _
  have q1 : wb.heap[w.heap.size]? = some (boxE ⟨en, ec, ek, ed, ev, ex⟩) := by rw [hwb]; exact heap_alloc_new w _
  unfold boxE at q1
  obtain ⟨t0, t1, t2, t3, t4, t5⟩ := row6 q1
  obtain ⟨⟨h1, h2⟩, h3, h4⟩ := hs
  have HD := hid hd
  have HC := hid hc
  have HH := hid hh
  have HA := hid a0
  have HQ := hid q1
  unfold boxE at hwb
  unfold E.agg
  unfold Sl.v at hwb t4 t5 ⊢
  dsimp only at *
  clear hd hc hh a0 q1
  cases ed with
  | false =>
    clear h4
    go_enter Tryd.func58, Tryd.ntmps58
    go_upto_region 1 with fail
    rw [← hwb]
    clear hwb
    go_wp2_with fail
    refine (HD.out wb).mono ?_
    clear HD
    rintro _ w1 ⟨rfl, a1⟩
    try dsimp only
    cases b1 with
    | false =>
      go_wp2_with fail
      go_ret
      exact ⟨rfl, HA.out.trans a1⟩
    | true =>
      have HA1 := hid (HA.out.trans a1)
      obtain ⟨t0, t1, t2, t3, t4, t5⟩ := row6 ((a1.block _ (lt_of_heap HQ.out) (by simp)).trans HQ.out)
      try dsimp only at t0 t1 t2 t3 t4 t5
      unfold Sl.v at t4 t5
      have HQ1 := hid ((a1.block _ (lt_of_heap HQ.out) (by simp)).trans HQ.out)
      clear a1 HA HQ
      try dsimp only
      go_wp2_with fail
      refine (HC.out _ HA1.out).mono ?_
      clear HC
      rintro _ w2 ⟨rfl, a2⟩
      obtain ⟨t0, t1, t2, t3, t4, t5⟩ := row6 ((a2.block _ (lt_of_heap HQ1.out) (by simp)).trans HQ1.out)
      try dsimp only at t0 t1 t2 t3 t4 t5
      unfold Sl.v at t4 t5
      have HA2 := hid (HA1.out.trans a2)
      clear a2 HA1 HQ1
      try dsimp only
      by_cases hc : c1 = 0
      · subst hc
        go_wp2_with fail
        refine (HH.out _ HA2.out).mono ?_
        clear HH
        rintro _ w3 ⟨rfl, a3⟩
        have HA3 := hid (HA2.out.trans a3)
        clear a3
        try dsimp only
        cases b2
        · go_wp2_with fail
          go_ret
          exact ⟨rfl, HA3.out⟩
        · go_wp2_with fail
          go_ret
          exact ⟨rfl, HA3.out⟩
      · go_wp2_with fail
        go_ret
        exact ⟨by simp [hc], HA2.out⟩
  | true =>
    have h5 : ¬ 0 < (ev.n : Int) := fun h => h4 ⟨rfl, h⟩
    clear h4
    go_enter Tryd.func58, Tryd.ntmps58
    go_upto_region 1 with fail
    rw [← hwb]
    clear hwb
    go_wp2_with fail
    refine (HD.out wb).mono ?_
    clear HD
    rintro _ w1 ⟨rfl, a1⟩
    try dsimp only
    cases b1 with
    | false =>
      go_wp2_with fail
      go_ret
      exact ⟨rfl, HA.out.trans a1⟩
    | true =>
      have HA1 := hid (HA.out.trans a1)
      obtain ⟨t0, t1, t2, t3, t4, t5⟩ := row6 ((a1.block _ (lt_of_heap HQ.out) (by simp)).trans HQ.out)
      try dsimp only at t0 t1 t2 t3 t4 t5
      unfold Sl.v at t4 t5
      have HQ1 := hid ((a1.block _ (lt_of_heap HQ.out) (by simp)).trans HQ.out)
      clear a1 HA HQ
      try dsimp only
      go_wp2_with fail
      refine (HC.out _ HA1.out).mono ?_
      clear HC
      rintro _ w2 ⟨rfl, a2⟩
      obtain ⟨t0, t1, t2, t3, t4, t5⟩ := row6 ((a2.block _ (lt_of_heap HQ1.out) (by simp)).trans HQ1.out)
      try dsimp only at t0 t1 t2 t3 t4 t5
      unfold Sl.v at t4 t5
      have HA2 := hid (HA1.out.trans a2)
      clear a2 HA1 HQ1
      try dsimp only
      by_cases hc : c1 = 0
      · subst hc
        go_wp2_with fail
        refine (HH.out _ HA2.out).mono ?_
        clear HH
        rintro _ w3 ⟨rfl, a3⟩
        have HA3 := hid (HA2.out.trans a3)
        clear a3
        try dsimp only
        cases b2
        · go_wp2_with fail
          go_ret
          exact ⟨rfl, HA3.out⟩
        · go_wp2_with fail
          go_ret
          exact ⟨rfl, HA3.out⟩
      · go_wp2_with fail
        go_ret
        exact ⟨by simp [hc], HA2.out⟩
set_option maxHeartbeats 8000000 in
theorem isW_short (e : E) (gap : Int) (w : World) (hs : ¬ shortE e) : Calls Tryd.prog 58 #[e.agg, .int .i64 gap] w fun r w' => r = .returned (.bool false) ∧ Apart [] w w' := by
  obtain ⟨en, ec, ek, ed, ev, ex⟩ := e
  obtain ⟨wb, hwb⟩ : ∃ wb, wb = w.alloc (boxE ⟨en, ec, ek, ed, ev, ex⟩) := ⟨_, rfl⟩
  have a0 : Apart [] w wb := by rw [hwb]; exact (Apart.refl [] w).alloc _
  have q1 : wb.heap[w.heap.size]? = some (boxE ⟨en, ec, ek, ed, ev, ex⟩) := by rw [hwb]; exact heap_alloc_new w _
  unfold boxE at q1
  obtain ⟨t0, t1, t2, t3, t4, t5⟩ := row6 q1
  have HA := hid a0
  unfold boxE at hwb
  unfold E.agg
  unfold Sl.v at hwb t4 t5 ⊢
  unfold shortE at hs
  dsimp only at *
  clear a0 q1
  by_cases h1 : ¬ 1 ≤ (ek.size : Int)
  · clear hs
    go_enter Tryd.func58, Tryd.ntmps58
    go_upto_region 1 with fail
    rw [← hwb]
    clear hwb
    go_wp2_with fail
    go_ret
    exact ⟨rfl, HA.out⟩
  have h1 := Classical.not_not.1 h1
  by_cases h2 : ¬ (ek.size : Int) ≤ 16
  · clear hs
    go_enter Tryd.func58, Tryd.ntmps58
    go_upto_region 1 with fail
    rw [← hwb]
    clear hwb
    go_wp2_with fail
    go_ret
    exact ⟨rfl, HA.out⟩
  have h2 := Classical.not_not.1 h2
  by_cases h3 : ¬ (ev.n : Int) ≤ 64
  · clear hs
    go_enter Tryd.func58, Tryd.ntmps58
    go_upto_region 1 with fail
    rw [← hwb]
    clear hwb
    go_wp2_with fail
    go_ret
    exact ⟨rfl, HA.out⟩
  have h3 := Classical.not_not.1 h3
  have h4 : ed = true ∧ 0 < (ev.n : Int) := Classical.byContradiction fun h => hs ⟨⟨h1, h2⟩, h3, h⟩
  obtain ⟨rfl, h5⟩ := h4
  clear hs
  go_enter Tryd.func58, Tryd.ntmps58
  go_upto_region 1 with fail
  rw [← hwb]
  clear hwb
  go_wp2_with fail
  go_ret
  exact ⟨rfl, HA.out⟩
end Go.Proofs.YtokaeiahhmaokaaDoor.ds
