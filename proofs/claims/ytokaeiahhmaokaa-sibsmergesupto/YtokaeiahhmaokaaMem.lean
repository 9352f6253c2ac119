import Derived.Test.YtokaeiahhmaokaaOnes
import Derived.Test.YtokaeiahhmaokaaChecked
import Derived.WalkKit
import Derived.ProofKit
import Derived.OpenShut
import Derived.Deep.QuietTactic
import Derived.BigQuiet
import Derived.BigRegion
import Derived.Laws.CopyOwn
import Derived.Laws.Bits64b
import Derived.Laws.MathBits
import Derived.Laws.ShiftsVarLaws
import Derived.WalkSmall
import Derived.Laws.ResultCell
namespace Go.Proofs.Ytokaeiahhmaokaa.ds
open Go.ChangeShapes Go.WideShapes Go.ChangeAt Go.RowKit
set_option linter.unusedVariables false
/-- Blocks outside of X are as they were. -/
structure Apart (X : List Nat) (w w' : World) : Prop where
  os : w'.os = w.os
  tape : w'.tape = w.tape
  output : w'.output = w.output
  size : w.heap.size ≤ w'.heap.size
  block : ∀ k, k < w.heap.size → k ∉ X → w'.heap[k]? = w.heap[k]?
theorem Apart.refl (X : List Nat) (w : World) : Apart X w w := ⟨rfl, rfl, rfl, Nat.le_refl _, fun _ _ _ => rfl⟩
theorem Apart.trans {X : List Nat} {a b c : World} (h : Apart X a b) (k : Apart X b c) : Apart X a c :=
  ⟨k.os.trans h.os, k.tape.trans h.tape, k.output.trans h.output, Nat.le_trans h.size k.size, fun i hi hx => (k.block i (Nat.lt_of_lt_of_le hi h.size) hx).trans (h.block i hi hx)⟩
theorem Apart.mono {X Y : List Nat} {a b : World} (h : Apart X a b) (hs : ∀ x ∈ X, x ∈ Y) : Apart Y a b :=
  ⟨h.os, h.tape, h.output, h.size, fun i hi hx => h.block i hi (fun m => hx (hs i m))⟩
theorem Apart.trans' {X Y : List Nat} {a b c : World} (h : Apart X a b) (k : Apart Y b c) (hy : ∀ y ∈ Y, y ∈ X ∨ a.heap.size ≤ y) : Apart X a c :=
  ⟨k.os.trans h.os, k.tape.trans h.tape, k.output.trans h.output, Nat.le_trans h.size k.size, fun i hi hx => (k.block i (Nat.lt_of_lt_of_le hi h.size) (fun m => by rcases hy i m with h1 | h1; exact hx h1; omega)).trans (h.block i hi hx)⟩
theorem Apart.drewN {X : List Nat} {a b : World} (h : Apart X a b) (n : Nat) : Apart X a (b.drewN n) := ⟨h.os, h.tape, h.output, h.size, h.block⟩
theorem Apart.drew {X : List Nat} {a b : World} (h : Apart X a b) : Apart X a b.drew := ⟨h.os, h.tape, h.output, h.size, h.block⟩
theorem Apart.alloc {X : List Nat} {a b : World} (h : Apart X a b) (o : Obj) : Apart X a (b.alloc o) :=
  h.trans ⟨rfl, rfl, rfl, by simp, fun k hk _ => Below.heap_alloc _ _ _ (by omega)⟩
theorem Apart.setCell {X : List Nat} {a b : World} (h : Apart X a b) {p : Addr} (hp : p.block ∈ X ∨ a.heap.size ≤ p.block) (u : Value) : Apart X a (b.setCell p u) := by
  refine h.trans' (Y := [p.block]) ⟨rfl, rfl, rfl, by simp [World.setCell], fun k _ hx => Below.heap_setCell _ _ _ _ (fun e => hx (e ▸ by simp))⟩ ?_
  intro y hy; simp at hy; subst hy; exact hp
theorem Apart.cell {X : List Nat} {w w' : World} (h : Apart X w w') {p : Addr} (hp : p.block < w.heap.size) (hx : p.block ∉ X) : w'.cell? p = w.cell? p := World.cell?_of_block (w := w) (h.block p.block hp hx)
theorem Apart.below {X : List Nat} {w w' : World} (h : Apart X w w') {B : Nat} (hB : B ≤ w.heap.size) (hx : ∀ x ∈ X, B ≤ x) : Below B w w' :=
  ⟨h.os, h.tape, h.output, h.size, fun k hk => h.block k (by omega) (fun m => by have := hx k m; omega)⟩
theorem lt_of_heap {w : World} {g : Nat} {o : Obj} (h : w.heap[g]? = some o) : g < w.heap.size := (Array.getElem?_eq_some_iff.1 h).1
theorem own_apart {w w' : World} {base : Nat} {e : TypeId} {size : Nat} {v : Value} {n : Nat} {xs : List Value} {X : List Nat} (h : w.ownsRow base e size v n xs) (a : Apart X w w') (hx : ∀ k, v.ownBlock = some k → k ∉ X) : w'.ownsRow base e size v n xs := by
  obtain ⟨hl, ⟨hv, hz⟩ | ⟨g, cap, cur, rfl, hb, hr, hrest⟩⟩ := h
  · exact ⟨hl, .inl ⟨hv, hz⟩⟩
  · exact ⟨hl, .inr ⟨g, cap, cur, rfl, hb, (a.block g (lt_of_heap hr) (hx g rfl)).trans hr, hrest⟩⟩
theorem apart_grown {w w' : World} {row : Option Nat} (h : w.grownBy w' row) : Apart row.toList w w' :=
  ⟨h.os, h.tape, h.output, h.size, fun k hk hx => h.block k hk (fun e => hx (by simp [← e]))⟩
/-- the table of math/bits in its variable -/
structure Tab (w : World) : Prop where
  at' : ∀ j, j < 64 → w.cell? ⟨0, j, none⟩ = some (.int .u8 (Lib.deBruijn64tab.getD j 0))
theorem Tab.lt {w : World} (h : Tab w) : 0 < w.heap.size := block_lt_of_cell (h.at' 0 (by decide))
theorem Tab.kept {w w' : World} {X : List Nat} (h : Tab w) (a : Apart X w w') (hX : 0 ∉ X) : Tab w' := ⟨fun j hj => (a.cell h.lt hX).trans (h.at' j hj)⟩
theorem Tab.kept0 {w w' : World} (h : Tab w) (a : Apart [] w w') : Tab w' := h.kept a (by simp)
/-- a span as a value -/
def spv (x : S) : Value := .agg #[.int .i64 x.n, .int .i64 x.b, .int .u64 (x.t : Int)]
def ec (x : S) : List Value := [.int .i64 x.n, .int .i64 x.b, .int .u64 (x.t : Int)]
def flat (es : List S) : List Value := es.flatMap ec
theorem flat_length (es : List S) : (flat es).length = es.length * 3 := by
  induction es with
  | nil => rfl
  | cons e l ih => simp only [flat, List.flatMap_cons, List.length_append, List.length_cons] at *; simp only [ec, List.length_cons, List.length_nil]; omega
def g (es : List S) (k : Nat) : S := es.getD k default
theorem g_mem {es : List S} {k : Nat} (h : k < es.length) : g es k ∈ es := by
  unfold g; rw [List.getD_eq_getElem?_getD, List.getElem?_eq_getElem h]; exact List.getElem_mem h
theorem flat_get (es : List S) : ∀ (k : Nat), k < es.length → (flat es)[k * 3]? = some (.int .i64 (g es k).n) ∧ (flat es)[k * 3 + 1]? = some (.int .i64 (g es k).b) ∧ (flat es)[k * 3 + 2]? = some (.int .u64 ((g es k).t : Int)) := by
  induction es with
  | nil => intro k hk; simp at hk
  | cons e l ih =>
    intro k hk
    match k with
    | 0 => exact ⟨rfl, rfl, rfl⟩
    | k + 1 =>
      have := ih k (by simpa using hk)
      rw [show (k + 1) * 3 = k * 3 + 3 from by omega]
      exact this
theorem flat_snoc (es : List S) (e : S) : flat es ++ [.int .i64 e.n, .int .i64 e.b, .int .u64 (e.t : Int)] = flat (es ++ [e]) := by simp [flat, ec]
/-- a slice of spans, as it reads -/
def Sp (w : World) (p : Option Addr) (xs : List S) : Prop :=
  0 < xs.length → ∃ P o, p = some ⟨P, o, none⟩ ∧ P < w.heap.size ∧ ∀ i, i < xs.length → w.cell? ⟨P, o + i * 3, none⟩ = some (.int .i64 (g xs i).n) ∧ w.cell? ⟨P, o + i * 3 + 1, none⟩ = some (.int .i64 (g xs i).b) ∧ w.cell? ⟨P, o + i * 3 + 2, none⟩ = some (.int .u64 ((g xs i).t : Int))
theorem Sp.kept {w w' : World} {p : Option Addr} {xs : List S} {X : List Nat} (h : Sp w p xs) (a : Apart X w w') (hX : ∀ P o, p = some ⟨P, o, none⟩ → P ∉ X) : Sp w' p xs := by
  intro h0
  obtain ⟨P, o, rfl, hP, hc⟩ := h h0
  refine ⟨P, o, rfl, Nat.lt_of_lt_of_le hP a.size, fun i hi => ?_⟩
  have hx := hX P o rfl
  obtain ⟨c0, c1, c2⟩ := hc i hi
  exact ⟨(a.cell hP hx).trans c0, (a.cell hP hx).trans c1, (a.cell hP hx).trans c2⟩
theorem Sp.kept0 {w w' : World} {p : Option Addr} {xs : List S} (h : Sp w p xs) (a : Apart [] w w') : Sp w' p xs := h.kept a (by simp)
theorem Sp.nil (w : World) (p : Option Addr) : Sp w p [] := fun h => absurd h (by simp)
theorem Sp.own {w : World} {p : Option Addr} {n cap : Nat} {xs : List S} {base : Nat} (h : w.ownsRow base 38 3 (.slice p n cap) n (flat xs)) (hn : n = xs.length) : Sp w p xs := by
  subst hn
  intro h0
  obtain ⟨hl, ⟨hv, hz⟩ | ⟨G, cap', cur, hv, hb, hr, hle, _⟩⟩ := id h
  · omega
  · simp only [Value.slice.injEq] at hv
    obtain ⟨rfl, _, rfl⟩ := hv
    refine ⟨G, 0, rfl, lt_of_heap hr, fun i hi => ?_⟩
    obtain ⟨c0, c1, c2⟩ := flat_get xs i hi
    rw [Nat.zero_add]
    have hfl := flat_length xs
    exact ⟨by rw [h.cellAt _ (by omega)]; exact c0, by rw [h.cellAt _ (by omega)]; exact c1, by rw [h.cellAt _ (by omega)]; exact c2⟩
/-- numbers that fit -/
structure Fit (x : S) : Prop where
  n0 : -9223372036854775808 ≤ x.n
  n1 : x.n ≤ 9223372036854775807
  b0 : -9223372036854775808 ≤ x.b
  b1 : x.b ≤ 9223372036854775807
  t1 : x.t < 2 ^ 64
theorem size52 : (Try.prog.info? 38).map (·.size) = some 3 := by kernel_rfl
theorem info52 : (Try.prog.info? 38).map (fun i => (i.zero, i.size, i.bytes)) = some (some (.agg #[.int .i64 0, .int .i64 0, .int .u64 0]), 3, 24) := by kernel_rfl
theorem row3 {w : World} {g : Nat} {t : TypeId} {a b c : Value} (h : w.heap[g]? = some (.cells #[a, b, c] t (0, 0))) (x y u : Value) : (((w.setCell ⟨g, 0, none⟩ x).setCell ⟨g, 1, none⟩ y).setCell ⟨g, 2, none⟩ u).heap[g]? = some (.cells #[x, y, u] t (0, 0)) := by
  have h1 := heap_setCell_same w g 0 _ t x h
  have h2 := heap_setCell_same _ g 1 _ t y h1
  have h3 := heap_setCell_same _ g 2 _ t u h2
  simpa using h3
end Go.Proofs.Ytokaeiahhmaokaa.ds
