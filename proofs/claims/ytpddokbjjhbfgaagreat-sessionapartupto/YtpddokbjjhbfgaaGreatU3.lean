import Derived.Test.YtpddokbjjhbfgaaGreatChecked
import Derived.WalkKit
import Derived.ProofKit
import Derived.Maps.OwnSet
import Derived.Maps.RangeWalk
import Derived.DeepKeys4
import Derived.MapViews
import Derived.StringKeys
import Derived.Lib.TrailingZeros
import Derived.OpenShut
import Derived.Deep.QuietTactic
import Derived.BigQuiet
import Derived.BigRegion
import Derived.Laws.CopyOwn
import Derived.Laws.Bits64b
import Derived.Laws.MathBits
import Derived.Laws.ShiftsVarLaws
import Derived.WalkSmall
import Derived.Laws.ResultCell
import Derived.Lib.BitFns
import Derived.Laws.StructEq
import Derived.Deep.RegionHeld
import Derived.ArgAppend
import Derived.Deep.RegionLaw
import Derived.Deep.DeepAppendRoom
import Derived.Sort.WalkA
import Derived.Laws.Strings
import Derived.Deep.CutBlock
import Derived.Great.BuildSlice
import Derived.Laws.BytesString
import Derived.Laws.AppendOwnNone
import Derived.Lib.Overlaps
import Derived.Lib.AppendZerosOnto
import Derived.Laws.NewBlocks
import Derived.Laws.Externs
import Derived.Laws.IdiomCopy
import Derived.RangeFuncNested
import Derived.RangeFuncBound
import Derived.RangeFuncCalls
import Derived.RangeFuncLeaves
import Derived.Shelf.Abstract
import Derived.Shelf.RegionOpen
import Derived.OwnWalkIn
import Derived.TacticsInMore
import Derived.LoopNIn
import Derived.LoopIn
import Derived.Deep.CutRange
import Derived.Deep.OwnRows
import Derived.Lib.Walk
import Derived.Lib.SliceRun
import GoSem.Claim
import GoSem.ClaimJoined
import GoSem.ClaimMapViews
import Derived.JoinedTies
import Derived.KernelRfl
import Derived.Lib.LaidTab
import Derived.JoinedCond
import Derived.ShutString
import Derived.ChangeOld
import Derived.Below
import Derived.Carry
import Derived.ChangeSlices
import Derived.Deep.Slices
import Derived.Deep.DeepHandedRow
import Derived.RowKit
import Derived.ChangeShapes
import Derived.SizedLaws
import Derived.ChangeMaps5
import Derived.OrdersHeld
import Derived.Lib.AppendStr
import Derived.Lib.ConvBytes
import Derived.Deep.RegionHeld3
import Derived.Deep.MidRow
import Derived.Laws.BitsAllLaws
import Derived.Sort.Grow
import Derived.Shelf.SlSortCmp.WholeK
import Derived.Shelf.Lay
import Derived.Ground.SlsfProg
import Derived.Sort.LotA
import Derived.Sort.MapsRangeIn
import Derived.RangeFuncSeq
import Derived.RangeFuncKeeps
import Derived.Maps.AppendAt
import Derived.OwnWalk
import Derived.Test.YtpddokbjjhbfgaaGreatRows
import Derived.Test.YtpddokbjjhbfgaaGreatU1
import Derived.Test.YtpddokbjjhbfgaaGreatU2

namespace Go.Proofs.YtpddokbjjhbfgaaGreat.ds
set_option linter.unusedVariables false
set_option linter.unusedSimpArgs false
/-- a span: node, base, bits -/
structure S where
  n : Int
  b : Int
  t : Nat
deriving DecidableEq, Inhabited
def bl (t : Nat) : Nat := if t = 0 then 0 else t.log2 + 1
/-- a count of a span -/
def dot (x : S) (c : Int) : Bool := decide (c ≤ x.b) || x.t.testBit (c - x.b - 1).toNat
def none0 (n : Int) : S := ⟨n, 0, 0⟩
/-- a span for a gap -/
structure Ok (gap : Int) (x : S) : Prop where
  n0 : 0 ≤ x.n
  n8 : x.n < 8
  b0 : 0 ≤ x.b
  bM : x.b ≤ 1048576
  ne : ¬ (x.b = 0 ∧ x.t = 0)
  ev : x.t % 2 = 0
  gp : (bl x.t : Int) ≤ gap
  mx : x.b + bl x.t ≤ 1048576
/-- base not below nothing, bit 0 clear, 64 bits -/
structure Wf (x : S) : Prop where
  b0 : 0 ≤ x.b
  ev : x.t % 2 = 0
  lt : x.t < 2 ^ 64
theorem bl_le {t k : Nat} : bl t ≤ k ↔ t < 2 ^ k := by
  unfold bl
  split
  · subst_vars; simp [Nat.two_pow_pos]
  · rename_i h
    rw [← Nat.log2_lt h]; omega
theorem bl_le' {t k : Nat} : bl t ≤ k ↔ ∀ i, k ≤ i → t.testBit i = false := by
  rw [bl_le]
  constructor
  · intro h i hi
    exact Nat.testBit_lt_two_pow (Nat.lt_of_lt_of_le h (Nat.pow_le_pow_right (by omega) hi))
  · intro h
    exact Nat.lt_pow_two_of_testBit _ h
theorem Ok.wf {gap : Int} {x : S} (h : Ok gap x) (hg : gap ≤ 64) : Wf x := ⟨h.b0, h.ev, bl_le.1 (by have := h.gp; omega)⟩
theorem wf_none (n : Int) : Wf (none0 n) := ⟨Int.le_refl _, rfl, by show 0 < 2 ^ 64; decide⟩
theorem dot_none (n c : Int) (h : 1 ≤ c) : dot (none0 n) c = false := by
  have : decide (c ≤ 0) = false := decide_eq_false (by omega)
  show (decide (c ≤ 0) || Nat.testBit 0 _) = false
  rw [this, Nat.zero_testBit]; rfl
theorem ev_bit {t : Nat} : t % 2 = 0 ↔ t.testBit 0 = false := by
  rw [Nat.testBit_zero]; simp
theorem shr_lt {t k : Nat} (h : t < 2 ^ 64) : t >>> k < 2 ^ 64 := by
  rw [Nat.shiftRight_eq_div_pow]; exact Nat.lt_of_le_of_lt (Nat.div_le_self _ _) h
/-- the greatest count -/
def top (x : S) : Int := x.b + bl x.t
/-- a span for the gap, or nothing -/
structure Okn (gap : Int) (n : Int) (x : S) : Prop where
  n : x.n = n
  wf : Wf x
  gp : (bl x.t : Int) ≤ gap
  mx : top x ≤ 1048576
theorem Ok.okn {gap : Int} {x : S} (h : Ok gap x) (hg : gap ≤ 64) : Okn gap x.n x := ⟨rfl, h.wf hg, h.gp, h.mx⟩
theorem okn_none (gap n : Int) (hg : 0 ≤ gap) : Okn gap n (none0 n) := ⟨rfl, wf_none n, by simpa [none0, bl] using hg, by simp [top, none0, bl]⟩
end Go.Proofs.YtpddokbjjhbfgaaGreat.ds
namespace Go.Proofs.YtpddokbjjhbfgaaGreat.ds
set_option linter.unusedVariables false
set_option linter.unusedSimpArgs false
/-- a set for a gap -/
structure OkL (gap : Int) (s : List S) : Prop where
  ok : ∀ x ∈ s, Ok gap x
  up : s.Pairwise (fun x y => x.n < y.n)
theorem OkL.nil (gap : Int) : OkL gap [] := ⟨by simp, List.Pairwise.nil⟩
theorem OkL.tail {g : Int} {x : S} {s : List S} (h : OkL g (x :: s)) : OkL g s := ⟨fun y hy => h.ok y (List.mem_cons_of_mem _ hy), (List.pairwise_cons.1 h.up).2⟩
def ofn : List S → Int → S
  | [], n => none0 n
  | x :: l, n => if x.n = n then x else ofn l n
theorem ofn_n : ∀ (s : List S) (n : Int), (ofn s n).n = n
  | [], n => rfl
  | x :: l, n => by unfold ofn; split; assumption; exact ofn_n l n
theorem ofn_out : ∀ (s : List S) (n : Int), (∀ x ∈ s, x.n ≠ n) → ofn s n = none0 n
  | [], n, _ => rfl
  | x :: l, n, h => by rw [ofn, if_neg (h x List.mem_cons_self)]; exact ofn_out l n fun y hy => h y (List.mem_cons_of_mem _ hy)
theorem ofn_or : ∀ (s : List S) (n : Int), ofn s n = none0 n ∨ ofn s n ∈ s
  | [], n => .inl rfl
  | x :: l, n => by
    unfold ofn
    split
    · exact .inr List.mem_cons_self
    · rcases ofn_or l n with h | h
      · exact .inl h
      · exact .inr (List.mem_cons_of_mem _ h)
theorem OkL.okn {g : Int} {s : List S} (h : OkL g s) (h0 : 0 ≤ g) (hg : g ≤ 64) (n : Int) : Okn g n (ofn s n) := by
  rcases ofn_or s n with e | e
  · rw [e]; exact okn_none g n h0
  · have := (h.ok _ e).okn hg
    rw [ofn_n] at this; exact this
theorem ofn_append (s t : List S) (n : Int) (h : ∀ x ∈ s, x.n ≠ n) : ofn (s ++ t) n = ofn t n := by
  induction s with
  | nil => rfl
  | cons x l ih => rw [List.cons_append, ofn, if_neg (h x List.mem_cons_self)]; exact ih fun y hy => h y (List.mem_cons_of_mem _ hy)
end Go.Proofs.YtpddokbjjhbfgaaGreat.ds
namespace Go.Proofs.YtpddokbjjhbfgaaGreat.ds
open Go.ChangeShapes Go.WideShapes Go.ChangeAt Go.RowKit
set_option linter.unusedVariables false
theorem bl_shift (x k : Nat) (h : 0 < x / 2 ^ k) : bl x = k + bl (x / 2 ^ k) := by
  have h1 := (bl_le (t := x / 2 ^ k) (k := bl (x / 2 ^ k))).1 (Nat.le_refl _)
  have hp := Nat.two_pow_pos k
  apply Nat.le_antisymm
  · rw [bl_le, Nat.pow_add, Nat.mul_comm]
    exact (Nat.div_lt_iff_lt_mul hp).1 h1
  · by_cases hc : k + bl (x / 2 ^ k) ≤ bl x
    · exact hc
    · have hb : 1 ≤ bl (x / 2 ^ k) := by
        by_cases h0 : 1 ≤ bl (x / 2 ^ k)
        · exact h0
        · have := (bl_le (t := x / 2 ^ k) (k := 0)).1 (by omega)
          have h2 : x / 2 ^ k < 1 := this
          omega
      have h2 := (bl_le (t := x) (k := k + (bl (x / 2 ^ k) - 1))).1 (by omega)
      rw [Nat.pow_add, Nat.mul_comm] at h2
      have h3 := (Nat.div_lt_iff_lt_mul hp).2 h2
      have := (bl_le (t := x / 2 ^ k) (k := bl (x / 2 ^ k) - 1)).2 h3
      omega
theorem tabs : ∀ j : Fin 256, (Lib.len8tab[j.val]?).map (·.toNat) = some (bl j.val) := by decide +kernel
theorem tabsize : Lib.len8tab.size = 256 := by decide +kernel
theorem tabv (i : Nat) (h : i < Lib.len8tab.size) : (Lib.len8tab[i]'h).toNat = bl i := by
  have := tabs ⟨i, by rw [← tabsize]; exact h⟩
  rw [getElem?_pos Lib.len8tab i h] at this
  simpa using this
theorem bl8 {i : Nat} (h : i < 256) : bl i ≤ 8 := bl_le.2 h
theorem arm (x y : Nat) (k : Nat) (e : y = x / 2 ^ k) (h0 : 0 < y) (h8 : y < 256) (hk : k ≤ 56) : wrap64 ((k : Int) + wrap64 (bl y : Int)) = (bl x : Int) := by
  have h := bl_shift x k (by omega)
  rw [← e] at h
  have := bl8 h8
  unfold wrap64
  omega
theorem arm0 (y : Nat) (h8 : y < 256) : wrap64 (wrap64 (bl y : Int)) = (bl y : Int) := by
  have := bl8 h8
  unfold wrap64
  omega
set_option maxHeartbeats 4000000 in
set_option maxRecDepth 100000 in
theorem len64i (x : Int) (w : World) (h0 : 0 ≤ x) (h1 : x ≤ 18446744073709551615) :
    Calls Tryz.prog 78 #[.int .u64 x] w fun e w' => e = .returned (.int .i64 (bl x.toNat)) ∧ w' = w := by
  go_enter Tryz.func78, Tryz.ntmps78
  go_wp2
  all_goals first
    | (go_ret; refine ⟨congrArg Ending.returned (congrArg (Value.int IntKind.i64) ?_), rfl⟩; rw [tabv])
    | (exfalso; have hs := tabsize; omega)
  all_goals first
    | (refine arm x.toNat (x / 4294967296 / 65536 / 256).toNat 56 ?_ ?_ ?_ ?_ <;> omega)
    | (refine arm x.toNat (x / 4294967296 / 65536).toNat 48 ?_ ?_ ?_ ?_ <;> omega)
    | (refine arm x.toNat (x / 4294967296 / 256).toNat 40 ?_ ?_ ?_ ?_ <;> omega)
    | (refine arm x.toNat (x / 4294967296).toNat 32 ?_ ?_ ?_ ?_ <;> omega)
    | (refine arm x.toNat (x / 65536 / 256).toNat 24 ?_ ?_ ?_ ?_ <;> omega)
    | (refine arm x.toNat (x / 65536).toNat 16 ?_ ?_ ?_ ?_ <;> omega)
    | (refine arm x.toNat (x / 256).toNat 8 ?_ ?_ ?_ ?_ <;> omega)
    | (refine arm0 x.toNat ?_; omega)
theorem len64 (x : Nat) (hx : x < 2 ^ 64) (w : World) : Calls Tryz.prog 78 #[.int .u64 x] w fun e w' => e = .returned (.int .i64 (bl x)) ∧ w' = w := by
  have := len64i x w (by omega) (by omega)
  simpa using this
end Go.Proofs.YtpddokbjjhbfgaaGreat.ds
namespace Go.Proofs.YtpddokbjjhbfgaaGreat.ds
open Go.ChangeShapes Go.WideShapes Go.ChangeAt Go.RowKit
set_option linter.unusedVariables false
/-- Blocks outside of X are as they were. -/
structure Apart (X : List Nat) (w w' : World) : Prop where
  os : w'.os = w.os
  tape : w'.tape = w.tape
  output : w'.output = w.output
  size : w.heap.size ≤ w'.heap.size
  block : ∀ k, k < w.heap.size → k ∉ X → w'.heap[k]? = w.heap[k]?
theorem Apart.refl (X : List Nat) (w : World) : Apart X w w := ⟨rfl, rfl, rfl, Nat.le_refl _, fun _ _ _ => rfl⟩
theorem Apart.trans {X : List Nat} {a b c : World} (h : Apart X a b) (k : Apart X b c) : Apart X a c :=
  ⟨k.os.trans h.os, k.tape.trans h.tape, k.output.trans h.output, Nat.le_trans h.size k.size, fun i hi hx => (k.block i (Nat.lt_of_lt_of_le hi h.size) hx).trans (h.block i hi hx)⟩
theorem Apart.mono {X Y : List Nat} {a b : World} (h : Apart X a b) (hs : ∀ x ∈ X, x ∈ Y) : Apart Y a b :=
  ⟨h.os, h.tape, h.output, h.size, fun i hi hx => h.block i hi (fun m => hx (hs i m))⟩
theorem Apart.trans' {X Y : List Nat} {a b c : World} (h : Apart X a b) (k : Apart Y b c) (hy : ∀ y ∈ Y, y ∈ X ∨ a.heap.size ≤ y) : Apart X a c :=
  ⟨k.os.trans h.os, k.tape.trans h.tape, k.output.trans h.output, Nat.le_trans h.size k.size, fun i hi hx => (k.block i (Nat.lt_of_lt_of_le hi h.size) (fun m => by rcases hy i m with h1 | h1; exact hx h1; omega)).trans (h.block i hi hx)⟩
theorem Apart.drewN {X : List Nat} {a b : World} (h : Apart X a b) (n : Nat) : Apart X a (b.drewN n) := ⟨h.os, h.tape, h.output, h.size, h.block⟩
theorem Apart.drew {X : List Nat} {a b : World} (h : Apart X a b) : Apart X a b.drew := ⟨h.os, h.tape, h.output, h.size, h.block⟩
theorem Apart.alloc {X : List Nat} {a b : World} (h : Apart X a b) (o : Obj) : Apart X a (b.alloc o) :=
  h.trans ⟨rfl, rfl, rfl, by simp, fun k hk _ => Below.heap_alloc _ _ _ (by omega)⟩
theorem Apart.setCell {X : List Nat} {a b : World} (h : Apart X a b) {p : Addr} (hp : p.block ∈ X ∨ a.heap.size ≤ p.block) (u : Value) : Apart X a (b.setCell p u) := by
  refine h.trans' (Y := [p.block]) ⟨rfl, rfl, rfl, by simp [World.setCell], fun k _ hx => Below.heap_setCell _ _ _ _ (fun e => hx (e ▸ by simp))⟩ ?_
  intro y hy; simp at hy; subst hy; exact hp
theorem Apart.cell {X : List Nat} {w w' : World} (h : Apart X w w') {p : Addr} (hp : p.block < w.heap.size) (hx : p.block ∉ X) : w'.cell? p = w.cell? p := World.cell?_of_block (w := w) (h.block p.block hp hx)
theorem lt_of_heap {w : World} {g : Nat} {o : Obj} (h : w.heap[g]? = some o) : g < w.heap.size := (Array.getElem?_eq_some_iff.1 h).1
theorem own_apart {w w' : World} {base : Nat} {e : TypeId} {size : Nat} {v : Value} {n : Nat} {xs : List Value} {X : List Nat} (h : w.ownsRow base e size v n xs) (a : Apart X w w') (hx : ∀ k, v.ownBlock = some k → k ∉ X) : w'.ownsRow base e size v n xs := by
  obtain ⟨hl, ⟨hv, hz⟩ | ⟨g, cap, cur, rfl, hb, hr, hrest⟩⟩ := h
  · exact ⟨hl, .inl ⟨hv, hz⟩⟩
  · exact ⟨hl, .inr ⟨g, cap, cur, rfl, hb, (a.block g (lt_of_heap hr) (hx g rfl)).trans hr, hrest⟩⟩
theorem apart_grown {w w' : World} {row : Option Nat} (h : w.grownBy w' row) : Apart row.toList w w' :=
  ⟨h.os, h.tape, h.output, h.size, fun k hk hx => h.block k hk (fun e => hx (by simp [← e]))⟩
/-- a span as a value -/
def spv (x : S) : Value := .agg #[.int .i64 x.n, .int .i64 x.b, .int .u64 (x.t : Int)]
def ec (x : S) : List Value := [.int .i64 x.n, .int .i64 x.b, .int .u64 (x.t : Int)]
def flat (es : List S) : List Value := es.flatMap ec
theorem flat_length (es : List S) : (flat es).length = es.length * 3 := by
  induction es with
  | nil => rfl
  | cons e l ih => simp only [flat, List.flatMap_cons, List.length_append, List.length_cons] at *; simp only [ec, List.length_cons, List.length_nil]; omega
def g (es : List S) (k : Nat) : S := es.getD k default
theorem g_mem {es : List S} {k : Nat} (h : k < es.length) : g es k ∈ es := by
  unfold g; rw [List.getD_eq_getElem?_getD, List.getElem?_eq_getElem h]; exact List.getElem_mem h
theorem flat_get (es : List S) : ∀ (k : Nat), k < es.length → (flat es)[k * 3]? = some (.int .i64 (g es k).n) ∧ (flat es)[k * 3 + 1]? = some (.int .i64 (g es k).b) ∧ (flat es)[k * 3 + 2]? = some (.int .u64 ((g es k).t : Int)) := by
  induction es with
  | nil => intro k hk; simp at hk
  | cons e l ih =>
    intro k hk
    match k with
    | 0 => exact ⟨rfl, rfl, rfl⟩
    | k + 1 =>
      have := ih k (by simpa using hk)
      rw [show (k + 1) * 3 = k * 3 + 3 from by omega]
      exact this
/-- a slice of spans, as it reads -/
def Sp (w : World) (p : Option Addr) (xs : List S) : Prop :=
  0 < xs.length → ∃ P o, p = some ⟨P, o, none⟩ ∧ P < w.heap.size ∧ ∀ i, i < xs.length → w.cell? ⟨P, o + i * 3, none⟩ = some (.int .i64 (g xs i).n) ∧ w.cell? ⟨P, o + i * 3 + 1, none⟩ = some (.int .i64 (g xs i).b) ∧ w.cell? ⟨P, o + i * 3 + 2, none⟩ = some (.int .u64 ((g xs i).t : Int))
theorem Sp.kept {w w' : World} {p : Option Addr} {xs : List S} {X : List Nat} (h : Sp w p xs) (a : Apart X w w') (hX : ∀ P o, p = some ⟨P, o, none⟩ → P ∉ X) : Sp w' p xs := by
  intro h0
  obtain ⟨P, o, rfl, hP, hc⟩ := h h0
  refine ⟨P, o, rfl, Nat.lt_of_lt_of_le hP a.size, fun i hi => ?_⟩
  have hx := hX P o rfl
  obtain ⟨c0, c1, c2⟩ := hc i hi
  exact ⟨(a.cell hP hx).trans c0, (a.cell hP hx).trans c1, (a.cell hP hx).trans c2⟩
theorem Sp.kept0 {w w' : World} {p : Option Addr} {xs : List S} (h : Sp w p xs) (a : Apart [] w w') : Sp w' p xs := h.kept a (by simp)
theorem Sp.nil (w : World) (p : Option Addr) : Sp w p [] := fun h => absurd h (by simp)
theorem Sp.own {w : World} {p : Option Addr} {n cap : Nat} {xs : List S} {base : Nat} (h : w.ownsRow base 94 3 (.slice p n cap) n (flat xs)) (hn : n = xs.length) : Sp w p xs := by
  subst hn
  intro h0
  obtain ⟨hl, ⟨hv, hz⟩ | ⟨G, cap', cur, hv, hb, hr, hle, _⟩⟩ := id h
  · omega
  · simp only [Value.slice.injEq] at hv
    obtain ⟨rfl, _, rfl⟩ := hv
    refine ⟨G, 0, rfl, lt_of_heap hr, fun i hi => ?_⟩
    obtain ⟨c0, c1, c2⟩ := flat_get xs i hi
    rw [Nat.zero_add]
    have hfl := flat_length xs
    exact ⟨by rw [h.cellAt _ (by omega)]; exact c0, by rw [h.cellAt _ (by omega)]; exact c1, by rw [h.cellAt _ (by omega)]; exact c2⟩
theorem size52 : (Tryz.prog.info? 94).map (·.size) = some 3 := by kernel_rfl
theorem info52 : (Tryz.prog.info? 94).map (fun i => (i.zero, i.size, i.bytes)) = some (some (.agg #[.int .i64 0, .int .i64 0, .int .u64 0]), 3, 24) := by kernel_rfl
theorem row3 {w : World} {g : Nat} {t : TypeId} {a b c : Value} (h : w.heap[g]? = some (.cells #[a, b, c] t (0, 0))) (x y u : Value) : (((w.setCell ⟨g, 0, none⟩ x).setCell ⟨g, 1, none⟩ y).setCell ⟨g, 2, none⟩ u).heap[g]? = some (.cells #[x, y, u] t (0, 0)) := by
  have h1 := heap_setCell_same w g 0 _ t x h
  have h2 := heap_setCell_same _ g 1 _ t y h1
  have h3 := heap_setCell_same _ g 2 _ t u h2
  simpa using h3
end Go.Proofs.YtpddokbjjhbfgaaGreat.ds
namespace Go.Proofs.YtpddokbjjhbfgaaGreat.ds
open Go.ChangeShapes Go.WideShapes Go.ChangeAt Go.RowKit
set_option linter.unusedVariables false
theorem and_nat (a b : Nat) (ha : a < 18446744073709551616) (hb : b < 18446744073709551616) : bits .and .u64 (a : Int) (b : Int) = ((a &&& b : Nat) : Int) := bits_and_u64_nat a b ha hb
theorem new1 (w : World) (c : Array Value) (t : TypeId) : (w.alloc (.cells c t)).heap[w.heap.size]? = some (.cells c t (0, 0)) := heap_alloc_new w _
theorem rowc {w : World} {g : Nat} {a b c : Value} {t : TypeId} (h : w.heap[g]? = some (.cells #[a, b, c] t (0, 0))) : (w.cell? ⟨g, 0, none⟩ = some a ∧ w.cell? ⟨g, 1, none⟩ = some b ∧ w.cell? ⟨g, 2, none⟩ = some c) ∧ (w.frozen? ⟨g, 0, none⟩ = false ∧ w.frozen? ⟨g, 1, none⟩ = false ∧ w.frozen? ⟨g, 2, none⟩ = false) :=
  ⟨⟨by rw [cell_of_row _ _ _ _ _ _ h]; rfl, by rw [cell_of_row _ _ _ _ _ _ h]; rfl, by rw [cell_of_row _ _ _ _ _ _ h]; rfl⟩, frozen_of_row _ _ _ _ _ h, frozen_of_row _ _ _ _ _ h, frozen_of_row _ _ _ _ _ h⟩
theorem none_ok (n : Int) (w : World) : Calls Tryz.prog 98 #[.int .i64 n] w fun r w' => r = .returned (.agg #[.int .i64 n, .int .i64 0, .int .u64 0]) ∧ Apart [] w w' := by
  go_enter Tryz.func98, Tryz.ntmps98
  go_wp2
  refine bodyPost_ret (results_cell_row rfl _ _ w.heap.size 94 _ _ _ rfl (new1 w _ _) Tryz.underlying94 rfl size52) rfl ?_
  exact ⟨rfl, (Apart.refl _ _).alloc _⟩
theorem node_ok (n : Int) (w : World) : Calls Tryz.prog 97 #[.int .i64 n] w fun r w' => r = .returned (.bool (decide (0 ≤ n ∧ n < 8))) ∧ w' = w := by
  by_cases h1 : 0 ≤ n <;> by_cases h2 : n < 8
  all_goals
    go_enter Tryz.func97, Tryz.ntmps97
    go_wp2
    go_ret
    exact ⟨by simp [h1, h2], rfl⟩
theorem shr64 (t k : Nat) : ((t : Int) / 2 ^ min k 64 = ((t >>> k : Nat) : Int)) ∨ ¬ t < 2 ^ 64 := by
  by_cases ht : t < 2 ^ 64
  · left
    rw [Nat.shiftRight_eq_div_pow]
    by_cases hk : k ≤ 64
    · rw [Nat.min_eq_left hk]; simp
    · rw [Nat.min_eq_right (by omega), Nat.div_eq_of_lt (Nat.lt_of_lt_of_le ht (Nat.pow_le_pow_right (by omega) (by omega)))]
      have : ((t : Int) / 2 ^ 64) = ((t / 2 ^ 64 : Nat) : Int) := by simp
      rw [this, Nat.div_eq_of_lt ht]
  · exact .inr ht
end Go.Proofs.YtpddokbjjhbfgaaGreat.ds

namespace Go.Proofs.YtpddokbjjhbfgaaGreat.ds
open Go.ChangeShapes Go.WideShapes Go.ChangeAt Go.RowKit
set_option linter.unusedVariables false
theorem equal52 (W : World) (n b m c : Int) (t u : Int) : Sem.run Tryz.prog (Op.equalIn 10000 94 (.agg #[.int .i64 n, .int .i64 b, .int .u64 t]) (.agg #[.int .i64 m, .int .i64 c, .int .u64 u])) W = .ok (decide (n = m ∧ b = c ∧ t = u)) W := by
  have hS : Tryz.prog.underlying 94 = some (.struct (Tryz.prog.fieldsOf 94)) := by kernel_rfl
  have hp : Tryz.prog.stoodInHeld 94 = false := by kernel_rfl
  rw [show (10000 : Nat) = 9998 + 1 + 1 from rfl, run_equalIn_agg _ _ _ _ _ hS hp]
  simp only [Program.fieldsOf, Tryz.underlying94]
  simp [go_sem, Tryz.underlying3, Tryz.underlying92]
  by_cases h1 : n = m <;> by_cases h2 : b = c <;> by_cases h3 : t = u <;> simp [h1, h2, h3, go_sem]
theorem guard52 : Tryz.prog.eqGuardType Tryz.prog.depth 94 = false := by kernel_rfl
theorem eql52 (W : World) (n b m c : Int) (t u : Int) : Sem.run Tryz.prog (binOp BinOp.eql 94 (.agg #[.int .i64 n, .int .i64 b, .int .u64 t]) (.agg #[.int .i64 m, .int .i64 c, .int .u64 u])) W = .ok (.bool (decide (n = m ∧ b = c ∧ t = u))) W := by
  rw [run_eql_struct, equal52]; rfl
theorem node_yes (n : Int) (w : World) (h0 : 0 ≤ n) (h8 : n < 8) : Calls Tryz.prog 97 #[.int .i64 n] w fun r w' => r = .returned (.bool true) ∧ w' = w := by
  have := node_ok n w
  rwa [decide_eq_true ⟨h0, h8⟩] at this
theorem node_no (n : Int) (w : World) (h : ¬ (0 ≤ n ∧ n < 8)) : Calls Tryz.prog 97 #[.int .i64 n] w fun r w' => r = .returned (.bool false) ∧ w' = w := by
  have := node_ok n w
  rwa [decide_eq_false h] at this
theorem span_a (n b gap : Int) (t : Nat) (w : World) (h : ¬ (0 ≤ n ∧ n < 8)) : Calls Tryz.prog 99 #[.agg #[.int .i64 n, .int .i64 b, .int .u64 t], .int .i64 gap] w fun r w' => r = .returned (.bool false) ∧ Apart [] w w' := by
  go_enter Tryz.func99, Tryz.ntmps99
  go_wp2_with fail
  go_quiet (first | (go_at_call 97; exact Calls.quiet_of_same (node_no n _ h)))
  go_wp2
  go_ret
  exact ⟨rfl, ((Apart.refl _ _).alloc _).drewN _⟩
theorem span_b (n b gap : Int) (t : Nat) (w : World) (h0 : 0 ≤ n) (h8 : n < 8) (hb : b < 0) : Calls Tryz.prog 99 #[.agg #[.int .i64 n, .int .i64 b, .int .u64 t], .int .i64 gap] w fun r w' => r = .returned (.bool false) ∧ Apart [] w w' := by
  have hd : decide (b < 0) = true := decide_eq_true hb
  go_enter Tryz.func99, Tryz.ntmps99
  go_wp2_with fail
  go_quiet (first | (go_at_call 97; exact Calls.quiet_of_same (node_yes n _ h0 h8)))
  go_wp2
  go_ret
  exact ⟨rfl, ((Apart.refl _ _).alloc _).drewN _⟩
theorem span_c (n b gap : Int) (t : Nat) (w : World) (h0 : 0 ≤ n) (h8 : n < 8) (hb0 : 0 ≤ b) (hb : 1048576 < b) : Calls Tryz.prog 99 #[.agg #[.int .i64 n, .int .i64 b, .int .u64 t], .int .i64 gap] w fun r w' => r = .returned (.bool false) ∧ Apart [] w w' := by
  have hd : decide (b < 0) = false := decide_eq_false (by omega)
  have hd2 : decide (1048576 < b) = true := decide_eq_true hb
  go_enter Tryz.func99, Tryz.ntmps99
  go_wp2_with fail
  go_quiet (first | (go_at_call 97; exact Calls.quiet_of_same (node_yes n _ h0 h8)))
  go_wp2
  go_ret
  exact ⟨rfl, ((Apart.refl _ _).alloc _).drewN _⟩
/-- a bool that says p -/
def Tells (r : Ending) (p : Prop) : Prop := ∃ v : Bool, r = .returned (.bool v) ∧ (v = true ↔ p)
theorem Tells.yes {p : Prop} (h : p) : Tells (.returned (.bool true)) p := ⟨true, rfl, by simp [h]⟩
theorem Tells.no {p : Prop} (h : ¬ p) : Tells (.returned (.bool false)) p := ⟨false, rfl, by simp [h]⟩
theorem low1 (t : Nat) (ht : t < 2 ^ 64) : (bits BinOp.and IntKind.u64 (t : Int) 1 == 0) = decide (t % 2 = 0) := by
  have e : bits BinOp.and IntKind.u64 (t : Int) 1 = _ := and_nat t 1 (by omega) (by omega)
  rw [e, Nat.and_one_is_mod]
  by_cases h : t % 2 = 0
  · rw [h]; rfl
  · rw [decide_eq_false h]; simp; omega
theorem bl64 {t : Nat} (ht : t < 2 ^ 64) : bl t ≤ 64 := bl_le.2 ht
set_option maxHeartbeats 1000000 in
theorem span_d (n b gap : Int) (t : Nat) (w : World) (h0 : 0 ≤ n) (h8 : n < 8) (hb0 : 0 ≤ b) (hb : b ≤ 1048576) (ht : t < 2 ^ 64) : Calls Tryz.prog 99 #[.agg #[.int .i64 n, .int .i64 b, .int .u64 t], .int .i64 gap] w fun r w' => Tells r (Ok gap ⟨n, b, t⟩) ∧ Apart [] w w' := by
  have hd : decide (b < 0) = false := decide_eq_false (by omega)
  have hd2 : decide (1048576 < b) = false := decide_eq_false (by omega)
  have hbl := bl64 ht
  obtain ⟨z, HZ⟩ : ∃ z, Hid (z = decide (b = 0 ∧ t = 0)) := ⟨_, rfl⟩
  have heq : ∀ W, Sem.run Tryz.prog (binOp BinOp.eql 94 (.agg #[.int .i64 n, .int .i64 b, .int .u64 t]) (.agg #[.int .i64 n, .int .i64 0, .int .u64 0])) W = .ok (.bool z) W := by
    intro W
    rw [eql52, HZ.out]
    congr 2
    simp
  have hl1 := low1 t ht
  have hgd := guard52
  go_enter Tryz.func99, Tryz.ntmps99
  go_wp2_with fail
  have bV := new1 w #[.int .i64 n, .int .i64 b, .int .u64 t] 94
  have aV : Apart [] w (w.alloc (.cells #[.int .i64 n, .int .i64 b, .int .u64 t] 94)) := (Apart.refl _ _).alloc _
  generalize w.alloc (.cells #[.int .i64 n, .int .i64 b, .int .u64 t] 94) = V at *
  have r0 : ∀ W, Apart [] V W → W.cell? ⟨w.heap.size, 0, none⟩ = some (.int .i64 n) := fun W a => (rowc ((a.block _ (lt_of_heap bV) (by simp)).trans bV)).1.1
  have r1 : ∀ W, Apart [] V W → W.cell? ⟨w.heap.size, 1, none⟩ = some (.int .i64 b) := fun W a => (rowc ((a.block _ (lt_of_heap bV) (by simp)).trans bV)).1.2.1
  have r2 : ∀ W, Apart [] V W → W.cell? ⟨w.heap.size, 2, none⟩ = some (.int .u64 t) := fun W a => (rowc ((a.block _ (lt_of_heap bV) (by simp)).trans bV)).1.2.2
  have a1 : Apart [] V V.drew := (Apart.refl _ _).drew
  go_region_held (fun W => Apart [] V W) (assumption) (first
    | (go_at_call 97; refine (node_yes n _ h0 h8).mono ?_; rintro r w2 ⟨rfl, rfl⟩)
    | (go_at_call 98; refine (none_ok n _).mono ?_; rintro r w3 ⟨rfl, a3⟩; have a4 := a1.trans a3))
  have a5 : Apart [] w w3 := aV.trans a4
  have R1 := r1 w3 a4
  have R2 := r2 w3 a4
  clear r0 r1 r2 a1 a3 a4 bV heq hgd hd hd2
  have hwb : IntKind.i64.wrap (b + (bl t : Int)) = b + (bl t : Int) := by rw [IntKind.wrap_i64]; omega
  cases z
  case true =>
    have hz := of_decide_eq_true HZ.out.symm
    go_wp2
    go_ret
    exact ⟨.no fun k => k.ne hz, a5⟩
  case false =>
    have hz := of_decide_eq_false HZ.out.symm
    clear HZ
    by_cases h1 : t % 2 = 0
    · by_cases h2 : (bl t : Int) ≤ gap
      · by_cases h3 : b + bl t ≤ 1048576
        · go_wp2_with (go_at_call 78; refine (len64 t ht _).mono ?_; rintro r w4 ⟨rfl, rfl⟩)
          go_ret
          exact ⟨.yes ⟨h0, h8, hb0, hb, hz, h1, h2, h3⟩, a5⟩
        · have H3 : Hid (¬ b + bl t ≤ 1048576) := h3
          go_wp2_with (go_at_call 78; refine (len64 t ht _).mono ?_; rintro r w4 ⟨rfl, rfl⟩)
          go_ret
          exact ⟨⟨decide (b + bl t ≤ 1048576), rfl, by rw [decide_eq_true_eq]; exact ⟨fun h => absurd h (Int.not_le.2 H3.out), fun k => k.mx⟩⟩, a5⟩
      · have H2 : Hid (¬ (bl t : Int) ≤ gap) := h2
        go_wp2_with (go_at_call 78; refine (len64 t ht _).mono ?_; rintro r w4 ⟨rfl, rfl⟩)
        go_ret
        exact ⟨.no fun k => Int.not_le.2 H2.out k.gp, a5⟩
    · have H1 : Hid (¬ t % 2 = 0) := h1
      go_wp2_with (go_at_call 78; refine (len64 t ht _).mono ?_; rintro r w4 ⟨rfl, rfl⟩)
      go_ret
      exact ⟨.no fun k => H1.out k.ev, a5⟩
theorem isSpan_ok (x : S) (gap : Int) (w : World) (ht : x.t < 2 ^ 64) : Calls Tryz.prog 99 #[spv x, .int .i64 gap] w fun r w' => Tells r (Ok gap x) ∧ Apart [] w w' := by
  by_cases h : 0 ≤ x.n ∧ x.n < 8
  · by_cases hb : 0 ≤ x.b
    · by_cases hb1 : x.b ≤ 1048576
      · exact span_d x.n x.b gap x.t w h.1 h.2 hb hb1 ht
      · refine (span_c x.n x.b gap x.t w h.1 h.2 hb (by omega)).mono ?_
        rintro r w1 ⟨rfl, a1⟩
        exact ⟨.no fun k => hb1 k.bM, a1⟩
    · refine (span_b x.n x.b gap x.t w h.1 h.2 (by omega)).mono ?_
      rintro r w1 ⟨rfl, a1⟩
      exact ⟨.no fun k => hb k.b0, a1⟩
  · refine (span_a x.n x.b gap x.t w h).mono ?_
    rintro r w1 ⟨rfl, a1⟩
    exact ⟨.no fun k => h ⟨k.n0, k.n8⟩, a1⟩
end Go.Proofs.YtpddokbjjhbfgaaGreat.ds

namespace Go.Proofs.YtpddokbjjhbfgaaGreat.ds
open Go.ChangeShapes Go.WideShapes Go.ChangeAt Go.RowKit Go.Sort
set_option linter.unusedVariables false
set_option linter.unusedSimpArgs false
/-- does the dot of a stand ahead of that of b? -/
def below (a b : E) : Bool := decide (a.n < b.n) || (decide (a.n = b.n) && decide (a.c < b.c))
end Go.Proofs.YtpddokbjjhbfgaaGreat.ds
namespace Go.Proofs.YtpddokbjjhbfgaaGreat.ds
open Go.ChangeShapes Go.WideShapes Go.ChangeAt Go.RowKit Go.Shelf
set_option linter.unusedVariables false
set_option linter.unusedSimpArgs false
attribute [local go_sem] Oper.semAt_some
/-- the first m of the numbers below N, downward -/
def dn (N : Nat) : Nat → List (Fin N)
  | 0 => []
  | m + 1 => dn N m ++ (if h : N - 1 - m < N then [⟨N - 1 - m, h⟩] else [])
end Go.Proofs.YtpddokbjjhbfgaaGreat.ds
namespace Go.Proofs.YtpddokbjjhbfgaaGreat.ds
open Go.ChangeShapes Go.WideShapes Go.ChangeAt Go.RowKit
set_option linter.unusedVariables false
theorem holds_le (n b c : Int) (t : Nat) (w : World) (h : c ≤ b) : Calls Tryz.prog 72 #[.agg #[.int .i64 n, .int .i64 b, .int .u64 t], .int .i64 c] w fun r w' => r = .returned (.bool true) ∧ Apart [] w w' := by
  go_enter Tryz.func72, Tryz.ntmps72
  go_wp2
  go_ret
  exact ⟨rfl, (Apart.refl _ _).alloc _⟩
theorem bit64 (t k : Nat) (ht : t < 2 ^ 64) : (bits BinOp.and IntKind.u64 ((t >>> k : Nat) : Int) 1 != 0) = t.testBit k := by
  have e : bits BinOp.and IntKind.u64 ((t >>> k : Nat) : Int) 1 = _ := and_nat (t >>> k) 1 (shr_lt ht) (by omega)
  rw [e, Nat.testBit, Nat.and_comm 1]
  generalize t >>> k &&& 1 = y
  by_cases h : y = 0
  · subst h; rfl
  · have h1 : ((y : Int) != 0) = true := by simp; omega
    have h2 : (y != 0) = true := by simp; omega
    rw [h1, h2]
theorem run_shr (t : Nat) (k : Int) (hk : 0 ≤ k) (ht : t < 2 ^ 64) (W : World) : Sem.run Tryz.prog (Op.shift BinOp.shr IntKind.u64 (t : Int) IntKind.i64 k) W = .ok (.int .u64 ((t >>> k.toNat : Nat) : Int)) W := by
  have e := (shr64 t k.toNat).resolve_right (by omega)
  have h0 : ¬ k < 0 := by omega
  have e3 : (t : Int).fdiv (2 ^ min k.toNat 64) = (t : Int) / 2 ^ min k.toNat 64 := by
    rw [Int.fdiv_eq_ediv_of_nonneg]; exact Int.pow_nonneg (by decide)
  unfold Op.shift
  rw [if_neg h0]
  show Result.ok (Value.int IntKind.u64 ((t : Int).fdiv (2 ^ min k.toNat 64))) W = _
  rw [e3, e]
set_option maxHeartbeats 1000000 in
theorem holds_gt (n b c : Int) (t : Nat) (w : World) (h : b < c) (ht : t < 2 ^ 64) (hb0 : 0 ≤ b) (hc : c ≤ 9223372036854775807) : Calls Tryz.prog 72 #[.agg #[.int .i64 n, .int .i64 b, .int .u64 t], .int .i64 c] w fun r w' => r = .returned (.bool (t.testBit (c - b - 1).toNat)) ∧ Apart [] w w' := by
  have h' : ¬ c ≤ b := by omega
  have hd : decide (c ≤ b) = false := by simp; omega
  have hnn : (0 : Int) ≤ c - b - 1 := by omega
  have hsub : IntKind.i64.wrap (c - b) = c - b := by rw [IntKind.wrap_i64]; omega
  have hsub2 : IntKind.i64.wrap (c - b - 1) = c - b - 1 := by rw [IntKind.wrap_i64]; omega
  have hsh := run_shr t (c - b - 1) hnn ht
  have hbit := bit64 t (c - b - 1).toNat ht
  go_enter Tryz.func72, Tryz.ntmps72
  go_wp2
  go_ret
  refine ⟨?_, (Apart.refl _ _).alloc _⟩
  show Ending.returned (Value.bool (bits BinOp.and IntKind.u64 ((t >>> ((c - b).toNat - 1) : Nat) : Int) 1 != 0)) = Ending.returned (Value.bool (t.testBit ((c - b).toNat - 1)))
  rw [bit64 t _ ht]
theorem holds_ok (x : S) (c : Int) (w : World) (hx0 : 0 ≤ x.b) (hxt : x.t < 2 ^ 64) (hc : c ≤ 9223372036854775807) : Calls Tryz.prog 72 #[spv x, .int .i64 c] w fun r w' => r = .returned (.bool (dot x c)) ∧ Apart [] w w' := by
  unfold dot
  by_cases h : c ≤ x.b
  · have := holds_le x.n x.b c x.t w h
    rw [decide_eq_true h, Bool.true_or]; exact this
  · have := holds_gt x.n x.b c x.t w (by omega) hxt hx0 hc
    rw [decide_eq_false h, Bool.false_or]; exact this
end Go.Proofs.YtpddokbjjhbfgaaGreat.ds
namespace Go.Proofs.YtpddokbjjhbfgaaGreat.ds
open Go.ChangeShapes Go.WideShapes Go.ChangeAt Go.RowKit
set_option linter.unusedVariables false
theorem ofn_take {xs : List S} {i : Nat} {n : Int} (hi : i ≤ xs.length) (h : ∀ j, j < i → (g xs j).n ≠ n) : ofn xs n = ofn (xs.drop i) n := by
  have e := List.take_append_drop i xs
  conv => lhs; rw [← e]
  refine ofn_append _ _ _ fun x hx => ?_
  obtain ⟨j, hj, rfl⟩ := List.getElem_of_mem hx
  have hl : j < i := by simp at hj; omega
  have := h j hl
  rw [List.getElem_take]
  unfold g at this
  rw [List.getD_eq_getElem?_getD, List.getElem?_eq_getElem (by omega)] at this
  exact this
theorem drop_g {xs : List S} {i : Nat} (hi : i < xs.length) : xs.drop i = g xs i :: xs.drop (i + 1) := by
  rw [List.drop_eq_getElem_cons hi]
  unfold g
  rw [List.getD_eq_getElem?_getD, List.getElem?_eq_getElem hi]; rfl
set_option maxHeartbeats 1000000 in
set_option maxRecDepth 100000 in
theorem spanOf_ok (p : Option Addr) (N cap : Nat) (xs : List S) (node : Int) (w : World) (hp : Sp w p xs) (hN : xs.length = N) (hl : N ≤ 9223372036854775807) : Calls Tryz.prog 73 #[.slice p N cap, .int .i64 node] w fun r w' => r = .returned (spv (ofn xs node)) ∧ Apart [] w w' := by
  have HN : Hid (xs.length = N) := hN
  clear hN
  have b0 := new1 w #[.int .i64 0, .int .i64 0, .int .u64 0] 94
  go_enter Tryz.func73, Tryz.ntmps73
  go_wp2_with fail
  go_loopw [9] (fun v wr => ∃ i : Nat, i ≤ N ∧ v = .int .i64 i ∧ wr.heap[w.heap.size]? = some (.cells #[.int .i64 0, .int .i64 0, .int .u64 0] 94 (0, 0)) ∧ Apart [] w wr ∧ (∀ j, j < i → (g xs j).n ≠ node)) (fun v _ => N - (intOf v).toNat)
  case atStart => exact ⟨0, Nat.zero_le _, rfl, b0, (Apart.refl _ _).alloc _, fun j hj => absurd hj (by omega)⟩
  case round =>
    obtain ⟨i, hi, rfl, bR, aR, hno⟩ := hrel
    by_cases hlt : i < N
    · obtain ⟨P, o, rfl, hP, hc⟩ := (hp.kept0 aR) (by rw [HN.out]; omega)
      obtain ⟨c0, c1, c2⟩ := hc i (by rw [HN.out]; omega)
      obtain ⟨⟨d0, d1, d2⟩, f0, f1, f2⟩ := rowc bR
      have hs := lt_of_heap bR
      clear hc
      by_cases he : (g xs i).n = node
      · have HE : Hid (ofn xs node = g xs i) := by
          show ofn xs node = g xs i
          rw [ofn_take (i := i) (by rw [HN.out]; omega) hno, drop_g (by rw [HN.out]; omega), ofn, if_pos he]
        generalize g xs i = x at *
        obtain ⟨xn, xb, xt⟩ := x
        simp only at c0 c1 c2 he
        subst he
        go_wp2
        refine bodyPost_ret (results_cell_row rfl _ _ w.heap.size 94 _ _ _ rfl ((Below.heap_alloc _ _ _ (by simpa [World.setCell] using hs)).trans (row3 bR _ _ _)) Tryz.underlying94 rfl size52) rfl ?_
        refine ⟨?_, (((aR.setCell (.inr (Nat.le_refl _)) _).setCell (.inr (Nat.le_refl _)) _).setCell (.inr (Nat.le_refl _)) _).alloc _⟩
        rw [HE.out]; rfl
      · have HE : Hid ((g xs i).n ≠ node) := he
        go_wp2
        go_roundw
        case rel => exact ⟨i + 1, by omega, rfl, (Below.heap_alloc _ _ _ hs).trans bR, aR.alloc _, fun j hj => by
          by_cases hji : j = i
          · subst hji; exact HE.out
          · exact hno j (by omega)⟩
        case measure => simp [intOf]; omega
    · have HE : Hid (ofn xs node = none0 node) := by
        show ofn xs node = none0 node
        refine ofn_out _ _ fun x hx => ?_
        obtain ⟨j, hj, rfl⟩ := List.getElem_of_mem hx
        have := hno j (by have := HN.out; omega)
        unfold g at this
        rw [List.getD_eq_getElem?_getD, List.getElem?_eq_getElem hj] at this
        exact this
      go_wp2_with fail
      refine (none_ok node wr).mono ?_
      rintro r w1 ⟨rfl, a1⟩
      dsimp only
      have b1 := (a1.block w.heap.size (lt_of_heap bR) (by simp)).trans bR
      obtain ⟨⟨d0, d1, d2⟩, f0, f1, f2⟩ := rowc b1
      go_wp2
      refine bodyPost_ret (results_cell_row rfl _ _ w.heap.size 94 _ _ _ rfl (row3 b1 _ _ _) Tryz.underlying94 rfl size52) rfl ?_
      refine ⟨?_, (((aR.trans a1).setCell (.inr (Nat.le_refl _)) _).setCell (.inr (Nat.le_refl _)) _).setCell (.inr (Nat.le_refl _)) _⟩
      rw [HE.out]; rfl
end Go.Proofs.YtpddokbjjhbfgaaGreat.ds
namespace Go.Proofs.YtpddokbjjhbfgaaGreat.ds
open Go.ChangeShapes Go.WideShapes Go.ChangeAt Go.RowKit
set_option linter.unusedVariables false
set_option maxRecDepth 100000
set_option linter.unusedSimpArgs false
/-- the cells of a list that can be read -/
theorem Sp.cells {w : World} {P o : Nat} {xs : List S} (h : Sp w (some ⟨P, o, none⟩) xs) : ∀ j u, (flat xs)[j]? = some u → w.cell? ((⟨P, o, none⟩ : Addr).add j) = some u := by
  intro j u hj
  have hjl : j < (flat xs).length := by
    by_cases hc : j < (flat xs).length
    · exact hc
    · rw [List.getElem?_eq_none (by omega)] at hj; cases hj
  have hfl := flat_length xs
  have hk : j / 3 < xs.length := by omega
  obtain ⟨P', o', e, hP, hc⟩ := h (by omega)
  simp only [Option.some.injEq, Addr.mk.injEq, and_true] at e
  obtain ⟨rfl, rfl⟩ := e
  obtain ⟨c0, c1, c2⟩ := hc (j / 3) hk
  obtain ⟨g0, g1, g2⟩ := flat_get xs (j / 3) hk
  rw [Addr.add_lit]
  have h3 : j % 3 = 0 ∨ j % 3 = 1 ∨ j % 3 = 2 := by omega
  rcases h3 with h3 | h3 | h3
  · have e : j = j / 3 * 3 := by omega
    rw [e] at hj ⊢
    rw [g0] at hj; cases hj
    exact c0
  · have e : j = j / 3 * 3 + 1 := by omega
    rw [e] at hj
    rw [g1] at hj; cases hj
    rw [show o + j = o + j / 3 * 3 + 1 by omega]; exact c1
  · have e : j = j / 3 * 3 + 2 := by omega
    rw [e] at hj
    rw [g2] at hj; cases hj
    rw [show o + j = o + j / 3 * 3 + 2 by omega]; exact c2
end Go.Proofs.YtpddokbjjhbfgaaGreat.ds
namespace Go.Proofs.YtpddokbjjhbfgaaGreat.ds
open Go.ChangeShapes Go.WideShapes Go.ChangeAt Go.RowKit
set_option linter.unusedVariables false
set_option maxHeartbeats 1000000 in
theorem bit_ok (n b : Int) (t i : Nat) (w : World) (ht : t < 2 ^ 64) (hi : i < 64) : Calls Tryz.prog 129 #[.agg #[.int .i64 n, .int .i64 b, .int .u64 t], .int .i64 i] w fun r w' => r = .returned (.bool (t.testBit i)) ∧ Apart [] w w' := by
  have hsh := run_shr t (i : Int) (by omega) ht
  have h64 : (i : Int) < 64 := by omega
  go_enter Tryz.func129, Tryz.ntmps129
  go_wp2
  go_ret
  refine ⟨?_, (Apart.refl _ _).alloc _⟩
  show Ending.returned (Value.bool (((t : Int) / 2 ^ i).tmod 2 == 1)) = _
  have e : (t : Int) / 2 ^ i = ((t / 2 ^ i : Nat) : Int) := by simp
  rw [e, Nat.testBit_eq_decide_div_mod_eq]
  generalize t / 2 ^ i = y
  have e2 : (y : Int).tmod 2 = ((y % 2 : Nat) : Int) := rfl
  rw [e2]
  refine congrArg Ending.returned (congrArg Value.bool ?_)
  by_cases h : y % 2 = 1
  · rw [h]; rfl
  · rw [decide_eq_false h]; simp; omega
end Go.Proofs.YtpddokbjjhbfgaaGreat.ds

