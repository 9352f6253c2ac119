import Derived.Test.YtiakcfjbnlibfaaN2
namespace Go.Proofs.Ytiakcfjbnlibfaa.nt
open Go.ChangeShapes Go.WideShapes Go.ChangeAt Go.RowKit
set_option linter.unusedVariables false
set_option linter.unusedSimpArgs false
theorem results_ct {fn : Func} {p u : Tmp} (h : fn.results = #[.cell p 30, .tmp u]) (tmps : Array Value) (w : World) (g : Nat) (t : TypeId) (x y z : Value) (fr : Nat × Nat)
    (hp : tmps.getD p undef = .pointer (some ⟨g, 0, none⟩)) (hg : w.heap[g]? = some (.cells #[x, y, z] t fr)) :
    (results fn tmps).run Try.prog w = .ok (.tuple #[.agg #[x, y, z], tmps.getD u undef]) w := by
  rw [results_cell_tmp h, hp]
  simp [asAddr, run_loadVar_row w g t 30 #[x, y, z] fr _ hg Try.underlying30 rfl size30]
/-- a letter with its own bytes -/
structure OwnL (w : World) (l : LM) (x : Tx) : Prop where
  f : l.f = x.f
  t : l.t = x.t
  d : w.ownsRow 0 5 1 l.d.v l.d.n (byts x.b)
  dn : x.b.length = l.d.n
  dl : l.d.n ≤ 2000000
  db : ∀ b ∈ x.b, b < 256
theorem OwnL.reads {w : World} {l : LM} {x : Tx} (h : OwnL w l x) : ReadsL w l x := ⟨h.f, h.t, Rd.own h.d, h.dn, h.dl, h.db, by
  intro hp
  obtain ⟨_, ⟨hv, hz⟩ | ⟨g, cap, cur, hv, _⟩⟩ := h.d
  · unfold Sl.v at hv; simp at hv; exact ⟨hz, hv.2.2⟩
  · unfold Sl.v at hv; simp [hp] at hv⟩
theorem FreshL.own {w w' : World} {l : LM} {x : Tx} (h : FreshL w w' l x) : OwnL w' l x := ⟨h.f, h.t, h.d.own, h.dn, h.dl, h.db⟩
theorem OwnL.keepT {w w' : World} {l : LM} {x : Tx} {X : List Nat} (h : OwnL w l x) (a : Apart X w w') (hX : ∀ k ∈ X, ∀ cur, w.heap[k]? ≠ some (.cells cur 5 (0, 0))) : OwnL w' l x :=
  { h with d := own_apart h.d a (fun k hk hm => by obtain ⟨cur, e1⟩ := own_typ h.d hk; exact hX k hm cur e1) }
theorem OwnL.kept0 {w w' : World} {l : LM} {x : Tx} (h : OwnL w l x) (a : Apart [] w w') : OwnL w' l x := h.keepT a (by simp)
def gT (xs : List Tx) (k : Nat) : Tx := xs.getD k Tx.z
/-- the five counts -/
structure Cn where
  c0 : Int
  c1 : Int
  c2 : Int
  c3 : Int
  c4 : Int
/-- a bag -/
structure Bag (w0 w : World) (Bg : Nat) (room : Int) (s : Sl) (ls : List LM) (xs : List Tx) (c : Cn) : Prop where
  blk : w.heap[Bg]? = some (.cells #[.int .i64 room, s.v, .int .i64 c.c0, .int .i64 c.c1, .int .i64 c.c2, .int .i64 c.c3, .int .i64 c.c4] 57 (0, 0))
  hB : w0.heap.size ≤ Bg
  row : Nw w0 w 30 3 s (flatL ls)
  len : ls.length = s.n
  xl : xs.length = s.n
  le : s.n ≤ 256
  rd : ∀ j, j < s.n → OwnL w (gL ls j) (gT xs j)
theorem Bag.kept0 {w0 w w' : World} {Bg : Nat} {room : Int} {s : Sl} {ls : List LM} {xs : List Tx} {c : Cn} (h : Bag w0 w Bg room s ls xs c) (a : Apart [] w w') : Bag w0 w' Bg room s ls xs c :=
  ⟨(a.block _ (lt_of_heap h.blk) (by simp)).trans h.blk, h.hB, h.row.kept a, h.len, h.xl, h.le, fun j hj => (h.rd j hj).kept0 a⟩
theorem Bag.cells {w0 w : World} {Bg : Nat} {room : Int} {s : Sl} {ls : List LM} {xs : List Tx} {c : Cn} (h : Bag w0 w Bg room s ls xs c) : w.cell? ⟨Bg, 0, none⟩ = some (.int .i64 room) ∧ w.cell? ⟨Bg, 1, none⟩ = some (.slice s.p s.n s.c) ∧ w.cell? ⟨Bg, 2, none⟩ = some (.int .i64 c.c0) ∧ w.cell? ⟨Bg, 3, none⟩ = some (.int .i64 c.c1) ∧ w.cell? ⟨Bg, 4, none⟩ = some (.int .i64 c.c2) ∧ w.cell? ⟨Bg, 5, none⟩ = some (.int .i64 c.c3) ∧ w.cell? ⟨Bg, 6, none⟩ = some (.int .i64 c.c4) := by
  refine ⟨?_, ?_, ?_, ?_, ?_, ?_, ?_⟩ <;> (rw [cell_of_row _ _ _ _ _ _ h.blk]; rfl)
/-- the cells of the i-th letter -/
theorem Bag.at {w0 w : World} {Bg : Nat} {room : Int} {s : Sl} {ls : List LM} {xs : List Tx} {c : Cn} (h : Bag w0 w Bg room s ls xs c) {i : Nat} (hi : i < s.n) : ∃ G, s.p = some ⟨G, 0, none⟩ ∧ w.cell? ⟨G, i * 3, none⟩ = some (.int .i64 (gL ls i).f) ∧ w.cell? ⟨G, i * 3 + 1, none⟩ = some (.int .i64 (gL ls i).t) ∧ w.cell? ⟨G, i * 3 + 2, none⟩ = some (gL ls i).d.v := by
  have ho := h.row.own
  obtain ⟨G, hG⟩ : ∃ G, s.p = some ⟨G, 0, none⟩ := by
    obtain ⟨_, ⟨hv, hz⟩ | ⟨g, cap, cur, hv, _⟩⟩ := ho
    · omega
    · unfold Sl.v at hv; simp at hv; exact ⟨g, hv.1⟩
  have hv : s.v = .slice (some ⟨G, 0, none⟩) s.n s.c := by unfold Sl.v; rw [hG]
  rw [hv] at ho
  obtain ⟨g0, g1, g2⟩ := flatL_get ls i (by rw [h.len]; exact hi)
  exact ⟨G, hG, (ho.cellAt _ (by omega)).trans g0, (ho.cellAt _ (by omega)).trans g1, (ho.cellAt _ (by omega)).trans g2⟩
set_option maxHeartbeats 2000000 in
theorem new_ok (w : World) (room : Int) (h1 : 1 ≤ room) (h2 : room ≤ 256) : Calls Try.prog 9 #[.int .i64 room] w fun r w' => r = .returned (.tuple #[.pointer (some ⟨w.heap.size, 0, none⟩), .int .i64 0]) ∧ Bag w w' w.heap.size room ⟨none, 0, 0⟩ [] [] ⟨0, 0, 0, 0, 0⟩ ∧ Apart [] w w' := by
  have a : Apart [] w (w.alloc (.cells #[.int .i64 room, .slice none 0 0, .int .i64 0, .int .i64 0, .int .i64 0, .int .i64 0, .int .i64 0] 57)) := (Apart.refl [] w).alloc _
  have hB : Bag w (w.alloc (.cells #[.int .i64 room, .slice none 0 0, .int .i64 0, .int .i64 0, .int .i64 0, .int .i64 0, .int .i64 0] 57)) w.heap.size room ⟨none, 0, 0⟩ [] [] ⟨0, 0, 0, 0, 0⟩ :=
    ⟨heap_alloc_new w _, Nat.le_refl _, ⟨World.ownsRow_nil _ _ _ _, by simp [Sl.v, Value.ownBlock], a⟩, rfl, rfl, by simp, fun j hj => absurd hj (by simp)⟩
  have HB := hid hB
  have HA := hid a
  clear a hB
  go_enter Try.func9, Try.ntmps9
  go_wp2
  go_ret2
  exact ⟨rfl, HB.out, HA.out⟩
theorem new_bad (w : World) (room : Int) (h : room < 1 ∨ 256 < room) : Calls Try.prog 9 #[.int .i64 room] w fun r w' => r = .returned (.tuple #[.pointer none, .int .i64 1]) ∧ Apart [] w w' := by
  by_cases h1 : room < 1
  · clear h
    go_enter Try.func9, Try.ntmps9
    go_wp2
    go_ret2
    exact ⟨rfl, Apart.refl _ _⟩
  · have h2 : 256 < room := by omega
    clear h
    go_enter Try.func9, Try.ntmps9
    go_wp2
    go_ret2
    exact ⟨rfl, Apart.refl _ _⟩
theorem full_ok {w0 w : World} {Bg : Nat} {room : Int} {s : Sl} {ls : List LM} {xs : List Tx} {c : Cn} (h : Bag w0 w Bg room s ls xs c) : Calls Try.prog 29 #[.pointer (some ⟨Bg, 0, none⟩)] w fun r w' => r = .returned (.bool (decide (room ≤ (s.n : Int)))) ∧ Apart [] w w' := by
  obtain ⟨b0, b1, _⟩ := h.cells
  clear h
  go_enter Try.func29, Try.ntmps29
  go_wp2_with fail
  go_quiet (fail)
  go_wp2
  go_ret
  exact ⟨rfl, (Apart.refl [] w).drewN _⟩
theorem len_ok {w0 w : World} {Bg : Nat} {room : Int} {s : Sl} {ls : List LM} {xs : List Tx} {c : Cn} (h : Bag w0 w Bg room s ls xs c) : Calls Try.prog 14 #[.pointer (some ⟨Bg, 0, none⟩)] w fun r w' => r = .returned (.int .i64 (s.n : Int)) ∧ Apart [] w w' := by
  obtain ⟨b0, b1, _⟩ := h.cells
  clear h
  go_enter Try.func14, Try.ntmps14
  go_wp2
  go_ret
  exact ⟨rfl, Apart.refl [] w⟩
theorem has_ok {w0 w : World} {Bg : Nat} {room : Int} {s : Sl} {ls : List LM} {xs : List Tx} {c : Cn} (h : Bag w0 w Bg room s ls xs c) (i : Int) : Calls Try.prog 31 #[.pointer (some ⟨Bg, 0, none⟩), .int .i64 i] w fun r w' => r = .returned (.bool (decide (0 ≤ i ∧ i < (s.n : Int)))) ∧ Apart [] w w' := by
  obtain ⟨b0, b1, _⟩ := h.cells
  clear h
  by_cases h0 : 0 ≤ i
  · by_cases h1 : i < (s.n : Int)
    · rw [show decide (0 ≤ i ∧ i < (s.n : Int)) = true from by simp [h0, h1]]
      go_enter Try.func31, Try.ntmps31
      go_wp2
      go_ret
      exact ⟨rfl, Apart.refl [] w⟩
    · rw [show decide (0 ≤ i ∧ i < (s.n : Int)) = false from by simp [h1]]
      go_enter Try.func31, Try.ntmps31
      go_wp2
      go_ret
      exact ⟨rfl, Apart.refl [] w⟩
  · rw [show decide (0 ≤ i ∧ i < (s.n : Int)) = false from by simp [h0]]
    go_enter Try.func31, Try.ntmps31
    go_wp2
    go_ret
    exact ⟨rfl, Apart.refl [] w⟩
end Go.Proofs.Ytiakcfjbnlibfaa.nt
