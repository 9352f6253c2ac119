import Derived.Test.YtopmhacnopfifaaQPlain
import Derived.WalkKit
import Derived.ProofKit
import Derived.OpenShut
import Derived.Deep.QuietTactic
import Derived.BigQuiet
import Derived.BigRegion
import Derived.Laws.CopyOwn
namespace Go.Proofs.Ytopmhacnopfifaa.tm
open Go.ChangeShapes Go.WideShapes Go.ChangeAt Go.RowKit

/-- Blocks outside of X are as they were. -/
structure Apart (X : List Nat) (w w' : World) : Prop where
  os : w'.os = w.os
  tape : w'.tape = w.tape
  output : w'.output = w.output
  size : w.heap.size ≤ w'.heap.size
  block : ∀ k, k < w.heap.size → k ∉ X → w'.heap[k]? = w.heap[k]?
theorem Apart.refl (X : List Nat) (w : World) : Apart X w w := ⟨rfl, rfl, rfl, Nat.le_refl _, fun _ _ _ => rfl⟩
theorem Apart.trans {X : List Nat} {a b c : World} (h : Apart X a b) (k : Apart X b c) : Apart X a c :=
  ⟨k.os.trans h.os, k.tape.trans h.tape, k.output.trans h.output, Nat.le_trans h.size k.size, fun i hi hx => (k.block i (Nat.lt_of_lt_of_le hi h.size) hx).trans (h.block i hi hx)⟩
theorem Apart.mono {X Y : List Nat} {a b : World} (h : Apart X a b) (hs : ∀ x ∈ X, x ∈ Y) : Apart Y a b :=
  ⟨h.os, h.tape, h.output, h.size, fun i hi hx => h.block i hi (fun m => hx (hs i m))⟩
/-- behind a step that may touch blocks that are new besides -/
theorem Apart.trans' {X Y : List Nat} {a b c : World} (h : Apart X a b) (k : Apart Y b c) (hy : ∀ y ∈ Y, y ∈ X ∨ a.heap.size ≤ y) : Apart X a c :=
  ⟨k.os.trans h.os, k.tape.trans h.tape, k.output.trans h.output, Nat.le_trans h.size k.size, fun i hi hx => (k.block i (Nat.lt_of_lt_of_le hi h.size) (fun m => by rcases hy i m with h1 | h1; exact hx h1; omega)).trans (h.block i hi hx)⟩
theorem Apart.drewN {X : List Nat} {a b : World} (h : Apart X a b) (n : Nat) : Apart X a (b.drewN n) := ⟨h.os, h.tape, h.output, h.size, h.block⟩
theorem Apart.alloc {X : List Nat} {a b : World} (h : Apart X a b) (o : Obj) : Apart X a (b.alloc o) :=
  h.trans ⟨rfl, rfl, rfl, by simp, fun k hk _ => Below.heap_alloc _ _ _ (by omega)⟩
theorem Apart.setCell {X : List Nat} {a b : World} (h : Apart X a b) {p : Addr} (hp : p.block ∈ X) (u : Value) : Apart X a (b.setCell p u) :=
  h.trans ⟨rfl, rfl, rfl, by simp [World.setCell], fun k _ hx => Below.heap_setCell _ _ _ _ (fun e => hx (e ▸ hp))⟩
theorem Apart.cell {X : List Nat} {w w' : World} (h : Apart X w w') {p : Addr} (hp : p.block < w.heap.size) (hx : p.block ∉ X) : w'.cell? p = w.cell? p := World.cell?_of_block (w := w) (h.block p.block hp hx)
theorem Apart.below {X : List Nat} {w w' : World} (h : Apart X w w') {B : Nat} (hB : B ≤ w.heap.size) (hx : ∀ x ∈ X, B ≤ x) : Below B w w' :=
  ⟨h.os, h.tape, h.output, h.size, fun k hk => h.block k (by omega) (fun m => by have := hx k m; omega)⟩
theorem lt_of_heap {w : World} {g : Nat} {o : Obj} (h : w.heap[g]? = some o) : g < w.heap.size := (Array.getElem?_eq_some_iff.1 h).1
theorem own_apart {w w' : World} {base : Nat} {e : TypeId} {size : Nat} {v : Value} {n : Nat} {xs : List Value} {X : List Nat} (h : w.ownsRow base e size v n xs) (a : Apart X w w') (hx : ∀ k, v.ownBlock = some k → k ∉ X) : w'.ownsRow base e size v n xs := by
  obtain ⟨hl, ⟨hv, hz⟩ | ⟨g, cap, cur, rfl, hb, hr, hrest⟩⟩ := h
  · exact ⟨hl, .inl ⟨hv, hz⟩⟩
  · exact ⟨hl, .inr ⟨g, cap, cur, rfl, hb, (a.block g (lt_of_heap hr) (hx g rfl)).trans hr, hrest⟩⟩
theorem own_typ {w : World} {base : Nat} {e : TypeId} {size : Nat} {v : Value} {n : Nat} {xs : List Value} (h : w.ownsRow base e size v n xs) {k : Nat} (hk : v.ownBlock = some k) : ∃ cur, w.heap[k]? = some (.cells cur e (0, 0)) := by
  obtain ⟨hl, ⟨hv, hz⟩ | ⟨g, cap, cur, rfl, hb, hr, hrest⟩⟩ := h
  · subst hv; cases hk
  · simp [Value.ownBlock] at hk; subst hk; exact ⟨cur, hr⟩
theorem apart_grown {w w' : World} {row : Option Nat} (h : w.grownBy w' row) : Apart row.toList w w' :=
  ⟨h.os, h.tape, h.output, h.size, fun k hk hx => h.block k hk (fun e => hx (by simp [← e]))⟩

def ec (e : E) : List Value := [.int .i64 e.r, .int .i64 e.m, .int .i64 e.k, .int .i64 e.c, .int .i64 e.a]
def flat (es : List E) : List Value := es.flatMap ec
theorem flat_length (es : List E) : (flat es).length = es.length * 5 := by
  induction es with
  | nil => rfl
  | cons e l ih => simp only [flat, List.flatMap_cons, List.length_append, List.length_cons] at *; simp only [ec, List.length_cons, List.length_nil]; omega
theorem flat_get (es : List E) : ∀ (k : Nat), k < es.length → (flat es)[k * 5]? = some (.int .i64 (g es k).r) ∧ (flat es)[k * 5 + 1]? = some (.int .i64 (g es k).m) ∧ (flat es)[k * 5 + 2]? = some (.int .i64 (g es k).k) ∧ (flat es)[k * 5 + 3]? = some (.int .i64 (g es k).c) ∧ (flat es)[k * 5 + 4]? = some (.int .i64 (g es k).a) := by
  induction es with
  | nil => intro k hk; simp at hk
  | cons e l ih =>
    intro k hk
    match k with
    | 0 => exact ⟨rfl, rfl, rfl, rfl, rfl⟩
    | k + 1 =>
      have := ih k (by simpa using hk)
      rw [show (k + 1) * 5 = k * 5 + 5 from by omega]
      exact this
theorem flat_set (es : List E) (e : E) : ∀ (k : Nat), flat (es.set k e) = (((((flat es).set (k * 5) (.int .i64 e.r)).set (k * 5 + 1) (.int .i64 e.m)).set (k * 5 + 2) (.int .i64 e.k)).set (k * 5 + 3) (.int .i64 e.c)).set (k * 5 + 4) (.int .i64 e.a) := by
  induction es with
  | nil => intro k; simp [flat]
  | cons x l ih =>
    intro k
    match k with
    | 0 => rfl
    | k + 1 =>
      have := ih k
      rw [show (k + 1) * 5 = k * 5 + 5 from by omega]
      show ec x ++ flat (l.set k e) = _
      rw [this]; rfl

/-- a heap in memory: H its block, F its less, C what F has captured, v its entries, n how many ever came -/
structure At (w : World) (H : Nat) (F : Value) (C : List (Nat × Int)) (v : Value) (es : List E) (n : Nat) : Prop where
  hh : w.heap[H]? = some (.cells #[F, v, .int .i64 n] 102 (0, 0))
  own : w.ownsRow 0 100 5 v es.length (flat es)
  hc : ∀ b ∈ C, w.heap[b.1]? = some (.cells #[.int .u64 b.2] 34 (0, 0))
  hn : n ≤ 4000000
  hl : es.length ≤ 4000000
def ids (H : Nat) (v : Value) : List Nat := H :: v.ownBlock.toList
theorem At.kept {w w' : World} {H : Nat} {F : Value} {C : List (Nat × Int)} {v : Value} {es : List E} {n : Nat} {X : List Nat} (h : At w H F C v es n) (a : Apart X w w') (hx : ∀ k ∈ X, k ≠ H ∧ v.ownBlock ≠ some k ∧ ∀ b ∈ C, b.1 ≠ k) : At w' H F C v es n :=
  { h with
    hh := (a.block H (lt_of_heap h.hh) (fun m => (hx H m).1 rfl)).trans h.hh
    own := own_apart h.own a (fun k hk m => (hx k m).2.1 hk)
    hc := fun b hb => (a.block b.1 (lt_of_heap (h.hc b hb)) (fun m => (hx _ m).2.2 b hb rfl)).trans (h.hc b hb) }
theorem At.kept0 {w w' : World} {H : Nat} {F : Value} {C : List (Nat × Int)} {v : Value} {es : List E} {n : Nat} (h : At w H F C v es n) (a : Apart [] w w') : At w' H F C v es n := h.kept a (by simp)
theorem At.drewN {w : World} {H : Nat} {F : Value} {C : List (Nat × Int)} {v : Value} {es : List E} {n : Nat} (h : At w H F C v es n) (k : Nat) : At (w.drewN k) H F C v es n := h.kept0 ((Apart.refl _ _).drewN k)
theorem At.c0 {w : World} {H : Nat} {F : Value} {C : List (Nat × Int)} {v : Value} {es : List E} {n : Nat} (h : At w H F C v es n) : w.cell? ⟨H, 0, none⟩ = some F := by rw [cell_of_row _ _ _ _ _ _ h.hh]; rfl
theorem At.c1 {w : World} {H : Nat} {F : Value} {C : List (Nat × Int)} {v : Value} {es : List E} {n : Nat} (h : At w H F C v es n) : w.cell? ⟨H, 1, none⟩ = some v := by rw [cell_of_row _ _ _ _ _ _ h.hh]; rfl
theorem At.c2 {w : World} {H : Nat} {F : Value} {C : List (Nat × Int)} {v : Value} {es : List E} {n : Nat} (h : At w H F C v es n) : w.cell? ⟨H, 2, none⟩ = some (.int .i64 n) := by rw [cell_of_row _ _ _ _ _ _ h.hh]; rfl
theorem At.fr {w : World} {H : Nat} {F : Value} {C : List (Nat × Int)} {v : Value} {es : List E} {n : Nat} (h : At w H F C v es n) (i : Nat) : w.frozen? ⟨H, i, none⟩ = false := frozen_of_row _ _ _ _ _ h.hh
theorem At.shape {w : World} {H : Nat} {F : Value} {C : List (Nat × Int)} {v : Value} {es : List E} {n : Nat} (h : At w H F C v es n) (hp : 0 < es.length) : ∃ G cap, v = .slice (some ⟨G, 0, none⟩) es.length cap ∧ es.length ≤ cap := by
  obtain ⟨hl, ⟨hv, hz⟩ | ⟨g, cap, cur, rfl, hb, hr, hle, _⟩⟩ := h.own
  · omega
  · exact ⟨g, cap, rfl, hle⟩
theorem At.shape0 {w : World} {H : Nat} {F : Value} {C : List (Nat × Int)} {v : Value} {es : List E} {n : Nat} (h : At w H F C v es n) : ∃ p cap, v = .slice p es.length cap := by
  obtain ⟨hl, ⟨hv, hz⟩ | ⟨g, cap, cur, rfl, hb, hr, hle, _⟩⟩ := h.own
  · exact ⟨none, 0, by rw [hv, hz]⟩
  · exact ⟨_, cap, rfl⟩
theorem At.ne {w : World} {H : Nat} {F : Value} {C : List (Nat × Int)} {v : Value} {es : List E} {n : Nat} (h : At w H F C v es n) : v.ownBlock ≠ some H := by
  intro e
  obtain ⟨cur, h2⟩ := own_typ h.own e
  rw [h.hh] at h2; simp at h2
theorem At.neC {w : World} {H : Nat} {F : Value} {C : List (Nat × Int)} {v : Value} {es : List E} {n : Nat} (h : At w H F C v es n) (b : Nat × Int) (hb : b ∈ C) : b.1 ∉ ids H v := by
  intro m
  have h1 := h.hc b hb
  simp [ids] at m
  rcases m with m | m
  · rw [m, h.hh] at h1; simp at h1
  · obtain ⟨cur, h2⟩ := own_typ h.own m
    rw [h1] at h2; simp at h2
section
variable {w : World} {H : Nat} {F : Value} {C : List (Nat × Int)} {es : List E} {n G cap : Nat}
theorem At.e0 (h : At w H F C (.slice (some ⟨G, 0, none⟩) es.length cap) es n) (k : Nat) (hk : k < es.length) : w.cell? ⟨G, k * 5, none⟩ = some (.int .i64 (g es k).r) := by rw [h.own.cellAt _ (by omega)]; exact (flat_get es k hk).1
theorem At.e1 (h : At w H F C (.slice (some ⟨G, 0, none⟩) es.length cap) es n) (k : Nat) (hk : k < es.length) : w.cell? ⟨G, k * 5 + 1, none⟩ = some (.int .i64 (g es k).m) := by rw [h.own.cellAt _ (by omega)]; exact (flat_get es k hk).2.1
theorem At.e2 (h : At w H F C (.slice (some ⟨G, 0, none⟩) es.length cap) es n) (k : Nat) (hk : k < es.length) : w.cell? ⟨G, k * 5 + 2, none⟩ = some (.int .i64 (g es k).k) := by rw [h.own.cellAt _ (by omega)]; exact (flat_get es k hk).2.2.1
theorem At.e3 (h : At w H F C (.slice (some ⟨G, 0, none⟩) es.length cap) es n) (k : Nat) (hk : k < es.length) : w.cell? ⟨G, k * 5 + 3, none⟩ = some (.int .i64 (g es k).c) := by rw [h.own.cellAt _ (by omega)]; exact (flat_get es k hk).2.2.2.1
theorem At.e4 (h : At w H F C (.slice (some ⟨G, 0, none⟩) es.length cap) es n) (k : Nat) (hk : k < es.length) : w.cell? ⟨G, k * 5 + 4, none⟩ = some (.int .i64 (g es k).a) := by rw [h.own.cellAt _ (by omega)]; exact (flat_get es k hk).2.2.2.2
theorem At.ef (h : At w H F C (.slice (some ⟨G, 0, none⟩) es.length cap) es n) (k : Nat) : w.frozen? ⟨G, k, none⟩ = false := h.own.frozenAt k
/-- an entry written -/
def put3 (w : World) (G k : Nat) (e : E) : World := ((((w.setCell ⟨G, k * 5, none⟩ (.int .i64 e.r)).setCell ⟨G, k * 5 + 1, none⟩ (.int .i64 e.m)).setCell ⟨G, k * 5 + 2, none⟩ (.int .i64 e.k)).setCell ⟨G, k * 5 + 3, none⟩ (.int .i64 e.c)).setCell ⟨G, k * 5 + 4, none⟩ (.int .i64 e.a)
theorem put3_apart (w : World) (G k : Nat) (e : E) : Apart [G] w (put3 w G k e) := (((((Apart.refl _ _).setCell (by simp) _).setCell (by simp) _).setCell (by simp) _).setCell (by simp) _).setCell (by simp) _
theorem At.put (h : At w H F C (.slice (some ⟨G, 0, none⟩) es.length cap) es n) (k : Nat) (e : E) : At (put3 w G k e) H F C (.slice (some ⟨G, 0, none⟩) es.length cap) (es.set k e) n := by
  have a := put3_apart w G k e
  have h1 := ((((h.own.stored (k * 5) (.int .i64 e.r)).1.stored (k * 5 + 1) (.int .i64 e.m)).1.stored (k * 5 + 2) (.int .i64 e.k)).1.stored (k * 5 + 3) (.int .i64 e.c)).1.stored (k * 5 + 4) (.int .i64 e.a)
  refine ⟨(a.block H (lt_of_heap h.hh) (fun m => h.ne (by simp at m; simp [Value.ownBlock, m]))).trans h.hh, ?_, fun b hb => (a.block b.1 (lt_of_heap (h.hc b hb)) (fun m => h.neC b hb (by simp at m; simp [ids, Value.ownBlock, m]))).trans (h.hc b hb), h.hn, by simpa using h.hl⟩
  rw [flat_set]
  simpa [put3] using h1.1
end
end Go.Proofs.Ytopmhacnopfifaa.tm
