import Derived.Test.YtopmhacnopfifaaKL
import Derived.Great.BuildSlice
namespace Go.Proofs.Ytopmhacnopfifaa.tm
open Go.ChangeShapes Go.WideShapes Go.ChangeAt Go.RowKit
set_option linter.unusedVariables false
set_option linter.unusedSimpArgs false
/-- an act with some slots told by f -/
def Cx (a : Act) (ds : List Nat) (f : Nat → Value) : Act := { a with tmps := a.tmps.mapIdx fun i v => if i ∈ ds then f i else v }
def upf (f : Nat → Value) (d : Nat) (v : Value) : Nat → Value := fun i => if i = d then v else f i
theorem Cx_put (a : Act) (ds : List Nat) (f : Nat → Value) (d : Nat) (v : Value) (hd : d ∈ ds) : (Cx a ds f).put (some d) v = Cx a ds (upf f d v) := by
  simp only [Cx, Act.put]
  congr 1
  refine Array.ext_getElem? fun i => ?_
  by_cases e : d = i
  · subst e
    simp [Array.getElem?_setIfInBounds_self, upf, hd]
    by_cases hs : d < a.tmps.size
    · simp [hs]
    · simp [hs]
  · have : ¬ (i = d) := fun h => e h.symm
    rw [Array.getElem?_setIfInBounds_ne e]
    simp [upf, this]
theorem Cx_in (a : Act) (ds : List Nat) (f : Nat → Value) (d : Nat) (hd : d ∈ ds) (hs : d < a.tmps.size) : (Cx a ds f).eval (.tmp d) = f d := by
  simp [Cx, Act.eval, hs, hd]
theorem Cx_out (a : Act) (ds : List Nat) (f : Nat → Value) (d : Nat) (hd : d ∉ ds) : (Cx a ds f).eval (.tmp d) = a.eval (.tmp d) := by
  by_cases hs : d < a.tmps.size
  · simp [Cx, Act.eval, hs, hd]
  · simp [Cx, Act.eval, hs]
theorem Cx_self (a : Act) (ds : List Nat) : Cx a ds (fun i => a.tmps.getD i undef) = a := by
  cases a with
  | mk t d =>
    simp only [Cx]
    congr 1
    apply Array.ext
    · simp
    · intro i h1 h2
      simp only [Array.getElem_mapIdx]
      split <;> simp [Array.getD, h2]
theorem Cx_nil (a : Act) (f : Nat → Value) : Cx a [] f = a := by
  cases a with
  | mk t d =>
    simp only [Cx]
    congr 1
    apply Array.ext
    · simp
    · intro i h1 h2
      simp
theorem Cx_cons (a : Act) (d : Nat) (ds : List Nat) (f : Nat → Value) : Cx a (d :: ds) f = Cx (a.put (some d) (f d)) ds f := by
  simp only [Cx, Act.put]
  congr 1
  refine Array.ext_getElem? fun i => ?_
  by_cases e : d = i
  · subst e
    simp [Array.getElem?_setIfInBounds_self]
    by_cases hs : d < a.tmps.size
    · simp [hs]
    · simp [hs]
  · have : ¬ (i = d) := fun h => e h.symm
    simp [Array.getElem?_setIfInBounds_ne e, this]
/-- the operations of the region -/
structure OpIs (ops : Array Oper) (i d : Nat) (op : Op) : Prop where
  ex : ∃ o, ops[i]? = some o ∧ o.dst = some d ∧ o.op = op ∧ o.guard = none
def apd (t : TypeId) (s x : Nat) : Op := .call { callee := .builtin .append, args := #[.tmp s, .tmp x], argTypes := #[t, t] }
structure Chains (ops : Array Oper) (b : Nat) : Prop where
  b1 : OpIs ops 4 (b + 4) (.buildSlice 49 1 #[(0, .tmp (b + 3))])
  b2 : OpIs ops 9 (b + 9) (.buildSlice 49 2 #[(0, .tmp (b + 7)), (1, .tmp (b + 8))])
  b3 : OpIs ops 15 (b + 15) (.buildSlice 49 3 #[(0, .tmp (b + 12)), (1, .tmp (b + 13)), (2, .tmp (b + 14))])
  a1 : OpIs ops 5 (b + 5) (apd 49 (b + 2) (b + 4))
  a2 : OpIs ops 10 (b + 10) (apd 49 (b + 6) (b + 9))
  a3 : OpIs ops 16 (b + 16) (apd 49 (b + 11) (b + 15))
  b4 : OpIs ops 17 (b + 17) (.buildSlice 63 4 #[(0, .tmp (b + 1)), (1, .tmp (b + 5)), (2, .tmp (b + 10)), (3, .tmp (b + 16))])
  a4 : OpIs ops 18 (b + 18) (apd 63 b (b + 17))
def lst (b1 a1 b2 a2 b3 a3 b4 a4 : Bool) : Array Bool := #[true, true, true, true, b1, a1, true, true, true, b2, a2, true, true, true, true, b3, a3, b4, a4, false]
def dsl (b : Nat) : List Nat := [b + 4, b + 5, b + 9, b + 10, b + 15, b + 16, b + 17, b + 18]
def rdy (b1 a1 b2 a2 b3 a3 : Bool) : List Nat := (if b1 then [] else [4]) ++ (if b1 && !a1 then [5] else []) ++ (if b2 then [] else [9]) ++ (if b2 && (a1 && !a2) then [10] else []) ++ (if b3 then [] else [15]) ++ (if b3 && (a2 && !a3) then [16] else [])
/-- a list that was built, to be read in every later world -/
structure Bd (W : World) (v : Value) (m : Nat) (xc : Int) : Prop where
  ex : ∃ s, v = .slice (some ⟨s, 0, none⟩) m m ∧ ∀ X, Apart [] W X → ∀ j u, (flat2 (alk m (mkE xc)))[j]? = some u → X.cell? (Addr.add ⟨s, 0, none⟩ j) = some u
theorem Bd.kept {W W' : World} {v : Value} {m : Nat} {xc : Int} (h : Bd W v m xc) (a : Apart [] W W') : Bd W' v m xc := by
  obtain ⟨s, hv, hx⟩ := h.ex
  exact ⟨s, hv, fun X aX => hx X (a.trans aX)⟩
structure St (V W0 W : World) (f : Nat → Value) (b : Nat) (hv : Value) (xc : Int) (b1 a1 b2 a2 b3 a3 : Bool) : Prop where
  aS : Apart hv.ownBlock.toList V W
  a0 : Apart [] W0 W
  h1 : b1 = true → Bd W (f (b + 4)) 1 xc
  h2 : b2 = true → Bd W (f (b + 9)) 2 xc
  h3 : b3 = true → Bd W (f (b + 15)) 3 xc
  g1 : a1 = true → Fl W (f (b + 5)) (mkE xc)
  g2 : a2 = true → Fl W (f (b + 10)) (mkE xc)
  g3 : a3 = true → Fl W (f (b + 16)) (mkE xc)
theorem St.step {V W0 W W' : World} {f : Nat → Value} {b : Nat} {hv : Value} {xc : Int} {b1 a1 b2 a2 b3 a3 : Bool} (h : St V W0 W f b hv xc b1 a1 b2 a2 b3 a3) (a : Apart [] W W') : St V W0 W' f b hv xc b1 a1 b2 a2 b3 a3 :=
  ⟨h.aS.trans (a.mono (by simp)), h.a0.trans a, fun e => (h.h1 e).kept a, fun e => (h.h2 e).kept a, fun e => (h.h3 e).kept a, fun e => (h.g1 e).kept0 a, fun e => (h.g2 e).kept0 a, fun e => (h.g3 e).kept0 a⟩
theorem wanted_of {ops : Array Oper} {o : Oper} {a : Act} (h : o.guard = none) : Region.wanted o (yielded ops a.tmps) = true := by simp [Region.wanted, h]
theorem step_build {w : World} {ops : Array Oper} {o : Oper} {a : Act} {K : Act → World → Prop} {Q : Exit → Act → World → Prop} {X : Prop} (hgd : o.guard = none) (m : Nat) (parts : Array (Nat × Operand)) (ho : o.op = .buildSlice 49 m parts) (xc : Int) (d : Nat) (hd : o.dst = some d)
    (hf : ∀ ie : TypeInfo, Try.prog.info? 46 = some ie → ie.zero = some (.agg #[.int .i64 0, .int .i64 0, .int .i64 0, .int .i64 0]) → ie.size = 4 → Instr.fill (fun i => some (i * 4, 4)) ((Array.range (m * 4)).map ((Value.agg #[.int .i64 0, .int .i64 0, .int .i64 0, .int .i64 0]).cells[· % (Value.agg #[.int .i64 0, .int .i64 0, .int .i64 0, .int .i64 0]).cells.size]!)) (parts.map fun (i, x) => (i, a.eval x)).toList = some (flat2 (alk m (mkE xc))).toArray) (hm : 0 < m) (hm3 : m ≤ 3)
    (hK : ∀ v W', Bd W' v m xc → Apart [] w W' → K (a.put (some d) v) W') : if Region.wanted o (yielded ops a.tmps) = true then Oper.wp Try.prog o a w K Q else X := by
  rw [if_pos (wanted_of hgd)]
  obtain ⟨ie, hi, hz0, hz1, hz2⟩ := info_parts info46
  refine wp_buildSlice 49 46 m parts ho (flat2 (alk m (mkE xc))).toArray ie _ Try.underlying49 hi hz0 (by rw [hz1]; omega) (by rw [hz1]; omega) (by rw [hz1]; exact hf ie hi hz0 hz1) ?_
  rw [hd]
  exact hK _ _ ⟨w.heap.size, rfl, fun X a => new_cells w (flat2 (alk m (mkE xc))) 46 a⟩ ((Apart.refl _ _).alloc _)
end Go.Proofs.Ytopmhacnopfifaa.tm
