import Derived.Test.YthmloakkefiicaaRows
import Derived.WalkKit
import Derived.ProofKit
import Derived.OpenShut
import Derived.Deep.QuietTactic
import Derived.BigQuiet
import Derived.Laws.CopyOwn
namespace Go.Proofs.Ythmloakkefiicaa.dk
open Go.ChangeShapes Go.WideShapes Go.ChangeAt Go.RowKit

/-- A disk as plain data. -/
structure Dk where
  n : Nat
  on : Bool
  armed : Bool
  after : Int
  torn : Int
  writes : Nat
  tr : List Int
  mem : List Int

def dcells (S : Nat) (d : Dk) : List Value :=
  .slice (some ⟨S, 0, none⟩) d.n d.n :: .bool d.on :: .bool d.armed :: .int .i64 d.after :: .int .i64 d.torn :: .int .i64 d.writes :: d.tr.map (Value.int .i64)
def u8s (l : List Int) : List Value := l.map (Value.int .u8)
theorem u8s_length (l : List Int) : (u8s l).length = l.length := by simp [u8s]

structure DiskAt (w : World) (D S : Nat) (d : Dk) : Prop where
  hd : w.heap[D]? = some (.cells (dcells S d).toArray 72 (0, 0))
  hs : w.heap[S]? = some (.cells (u8s d.mem).toArray 75 (0, 0))
  ne : D ≠ S
  ltr : d.tr.length = 64
  lmem : d.mem.length = 512 * d.n
  hn : d.n ≤ 4096
  hw : d.writes ≤ 1000000

/-- Blocks outside of X are as they were. -/
structure Apart (X : List Nat) (w w' : World) : Prop where
  os : w'.os = w.os
  tape : w'.tape = w.tape
  output : w'.output = w.output
  size : w.heap.size ≤ w'.heap.size
  block : ∀ k, k < w.heap.size → k ∉ X → w'.heap[k]? = w.heap[k]?

theorem Apart.refl (X : List Nat) (w : World) : Apart X w w := ⟨rfl, rfl, rfl, Nat.le_refl _, fun _ _ _ => rfl⟩
theorem Apart.trans {X : List Nat} {a b c : World} (h : Apart X a b) (k : Apart X b c) : Apart X a c :=
  ⟨k.os.trans h.os, k.tape.trans h.tape, k.output.trans h.output, Nat.le_trans h.size k.size, fun i hi hx => (k.block i (Nat.lt_of_lt_of_le hi h.size) hx).trans (h.block i hi hx)⟩
theorem Apart.mono {X Y : List Nat} {a b : World} (h : Apart X a b) (hs : ∀ x ∈ X, x ∈ Y) : Apart Y a b :=
  ⟨h.os, h.tape, h.output, h.size, fun i hi hx => h.block i hi (fun m => hx (hs i m))⟩
theorem Apart.drewN {X : List Nat} {a b : World} (h : Apart X a b) (n : Nat) : Apart X a (b.drewN n) := ⟨h.os, h.tape, h.output, h.size, h.block⟩
theorem Apart.alloc {X : List Nat} {a b : World} (h : Apart X a b) (o : Obj) : Apart X a (b.alloc o) :=
  h.trans ⟨rfl, rfl, rfl, by simp, fun k hk _ => Below.heap_alloc _ _ _ (by omega)⟩
theorem Apart.setCell {X : List Nat} {a b : World} (h : Apart X a b) {p : Addr} (hp : p.block ∈ X) (u : Value) : Apart X a (b.setCell p u) :=
  h.trans ⟨rfl, rfl, rfl, by simp [World.setCell], fun k _ hx => Below.heap_setCell _ _ _ _ (fun e => hx (e ▸ hp))⟩
theorem Apart.setRow {X : List Nat} {a b : World} (h : Apart X a b) {g : Nat} (hp : g ∈ X) (cs : Array Value) : Apart X a (b.setRow g cs) :=
  h.trans ⟨rfl, rfl, rfl, by simp, fun k _ hx => setRow_other _ _ _ _ (fun e => hx (e ▸ hp))⟩
theorem Apart.cell {X : List Nat} {w w' : World} (h : Apart X w w') {p : Addr} (hp : p.block < w.heap.size) (hx : p.block ∉ X) : w'.cell? p = w.cell? p := World.cell?_of_block (w := w) (h.block p.block hp hx)
theorem Apart.below {X : List Nat} {w w' : World} (h : Apart X w w') {B : Nat} (hB : B ≤ w.heap.size) (hx : ∀ x ∈ X, B ≤ x) : Below B w w' :=
  ⟨h.os, h.tape, h.output, h.size, fun k hk => h.block k (by omega) (fun m => by have := hx k m; omega)⟩
theorem lt_of_heap {w : World} {g : Nat} {o : Obj} (h : w.heap[g]? = some o) : g < w.heap.size := (Array.getElem?_eq_some_iff.1 h).1
theorem DiskAt.kept {w w' : World} {D S : Nat} {d : Dk} {X : List Nat} (h : DiskAt w D S d) (a : Apart X w w') (hD : D ∉ X) (hS : S ∉ X) : DiskAt w' D S d :=
  { h with hd := (a.block D (lt_of_heap h.hd) hD).trans h.hd, hs := (a.block S (lt_of_heap h.hs) hS).trans h.hs }

theorem DiskAt.c0 {w : World} {D S : Nat} {d : Dk} (h : DiskAt w D S d) : w.cell? ⟨D, 0, none⟩ = some (.slice (some ⟨S, 0, none⟩) d.n d.n) := by rw [cell_of_row _ _ _ _ _ _ h.hd]; rfl
theorem DiskAt.c1 {w : World} {D S : Nat} {d : Dk} (h : DiskAt w D S d) : w.cell? ⟨D, 1, none⟩ = some (.bool d.on) := by rw [cell_of_row _ _ _ _ _ _ h.hd]; rfl
theorem DiskAt.c2 {w : World} {D S : Nat} {d : Dk} (h : DiskAt w D S d) : w.cell? ⟨D, 2, none⟩ = some (.bool d.armed) := by rw [cell_of_row _ _ _ _ _ _ h.hd]; rfl
theorem DiskAt.c3 {w : World} {D S : Nat} {d : Dk} (h : DiskAt w D S d) : w.cell? ⟨D, 3, none⟩ = some (.int .i64 d.after) := by rw [cell_of_row _ _ _ _ _ _ h.hd]; rfl
theorem DiskAt.c4 {w : World} {D S : Nat} {d : Dk} (h : DiskAt w D S d) : w.cell? ⟨D, 4, none⟩ = some (.int .i64 d.torn) := by rw [cell_of_row _ _ _ _ _ _ h.hd]; rfl
theorem DiskAt.c5 {w : World} {D S : Nat} {d : Dk} (h : DiskAt w D S d) : w.cell? ⟨D, 5, none⟩ = some (.int .i64 d.writes) := by rw [cell_of_row _ _ _ _ _ _ h.hd]; rfl
theorem DiskAt.ct {w : World} {D S : Nat} {d : Dk} (h : DiskAt w D S d) (i : Nat) (hi : i < 64) : w.cell? ⟨D, 6 + i, none⟩ = some (.int .i64 (d.tr.getD i 0)) := by
  rw [cell_of_row _ _ _ _ _ _ h.hd]
  have := h.ltr
  rw [show 6 + i = i + 6 from by omega]
  simp [dcells, List.getD, show i < d.tr.length by omega]
theorem DiskAt.fr {w : World} {D S : Nat} {d : Dk} (h : DiskAt w D S d) (i : Nat) : w.frozen? ⟨D, i, none⟩ = false := frozen_of_row _ _ _ _ _ h.hd
theorem DiskAt.ms {w : World} {D S : Nat} {d : Dk} (h : DiskAt w D S d) (i : Nat) (hi : i < 512 * d.n) : w.cell? ⟨S, i, none⟩ = some (.int .u8 (d.mem.getD i 0)) := by
  rw [cell_of_row _ _ _ _ _ _ h.hs]
  have := h.lmem
  simp [u8s, List.getD, show i < d.mem.length by omega]

/-! the small calls -/
theorem num_any (e : Int) (w : World) : Calls Try.prog 12 #[.int .i64 e] w fun r w' => r = .returned (.int .i64 e) ∧ w' = w := by
  go_enter Try.func12, Try.ntmps12
  go_wp2
  go_ret
  exact ⟨rfl, rfl⟩

def reachE (on : Bool) (n : Nat) (s : Int) : Int := if on = false then 3 else if s < 0 ∨ (n : Int) ≤ s then 10 else 0
set_option maxHeartbeats 400000 in
theorem reach_any (w : World) (D S n : Nat) (on : Bool) (s : Int) (h0 : w.cell? ⟨D, 0, none⟩ = some (.slice (some ⟨S, 0, none⟩) n n)) (h1 : w.cell? ⟨D, 1, none⟩ = some (.bool on)) :
    Calls Try.prog 36 #[.pointer (some ⟨D, 0, none⟩), .int .i64 s] w fun r w' => r = .returned (.int .i64 (reachE on n s)) ∧ w' = w := by
  cases on
  · go_enter Try.func36, Try.ntmps36
    go_wp2
    go_ret
    exact ⟨rfl, rfl⟩
  · by_cases hs : s < 0
    · go_enter Try.func36, Try.ntmps36
      go_wp2
      go_ret
      exact ⟨by simp [reachE, hs], rfl⟩
    · by_cases hl : (n : Int) ≤ s
      · go_enter Try.func36, Try.ntmps36
        go_wp2
        go_ret
        exact ⟨by simp [reachE, hl], rfl⟩
      · go_enter Try.func36, Try.ntmps36
        go_wp2
        go_ret
        exact ⟨by simp [reachE, hl, hs], rfl⟩

theorem off_any (w : World) (D : Nat) (b1 b2 : Bool) (h1 : w.cell? ⟨D, 1, none⟩ = some (.bool b1)) (h2 : w.cell? ⟨D, 2, none⟩ = some (.bool b2)) (hf : ∀ i, w.frozen? ⟨D, i, none⟩ = false) :
    Calls Try.prog 16 #[.pointer (some ⟨D, 0, none⟩)] w fun r w' => r = .returned (.tuple #[]) ∧ w' = (w.setCell ⟨D, 1, none⟩ (.bool false)).setCell ⟨D, 2, none⟩ (.bool false) := by
  have f1 := hf 1
  have f2 := hf 2
  go_enter Try.func16, Try.ntmps16
  go_wp2
  go_end0
  exact ⟨rfl, rfl⟩
theorem on_any (w : World) (D : Nat) (b1 : Bool) (h1 : w.cell? ⟨D, 1, none⟩ = some (.bool b1)) (hf : ∀ i, w.frozen? ⟨D, i, none⟩ = false) :
    Calls Try.prog 19 #[.pointer (some ⟨D, 0, none⟩)] w fun r w' => r = .returned (.tuple #[]) ∧ w' = w.setCell ⟨D, 1, none⟩ (.bool true) := by
  have f1 := hf 1
  go_enter Try.func19, Try.ntmps19
  go_wp2
  go_end0
  exact ⟨rfl, rfl⟩
theorem isOn_any (w : World) (D : Nat) (b1 : Bool) (h1 : w.cell? ⟨D, 1, none⟩ = some (.bool b1)) :
    Calls Try.prog 18 #[.pointer (some ⟨D, 0, none⟩)] w fun r w' => r = .returned (.bool b1) ∧ w' = w := by
  go_enter Try.func18, Try.ntmps18
  go_wp2
  go_ret
  exact ⟨rfl, rfl⟩
theorem writes_any (w : World) (D : Nat) (x : Int) (h1 : w.cell? ⟨D, 5, none⟩ = some (.int .i64 x)) :
    Calls Try.prog 21 #[.pointer (some ⟨D, 0, none⟩)] w fun r w' => r = .returned (.int .i64 x) ∧ w' = w := by
  go_enter Try.func21, Try.ntmps21
  go_wp2
  go_ret
  exact ⟨rfl, rfl⟩
end Go.Proofs.Ythmloakkefiicaa.dk
