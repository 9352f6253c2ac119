import Derived.Test.YtopmhacnopfifaaQPH
namespace Go.Proofs.Ytopmhacnopfifaa.tm
open Go.ChangeShapes Go.WideShapes Go.ChangeAt Go.RowKit
set_option linter.unusedVariables false
set_option maxHeartbeats 1000000 in
set_option maxRecDepth 100000 in
theorem swap_cells (w : World) (H G n cap i j : Nat) (x y : E) (hi : i < n) (hj : j < n) (hn : n ≤ 4000000) (h1 : w.cell? ⟨H, 1, none⟩ = some (.slice (some ⟨G, 0, none⟩) n cap)) (hne : H ≠ G)
    (i0 : w.cell? ⟨G, i * 5, none⟩ = some (.int .i64 x.r)) (i1 : w.cell? ⟨G, i * 5 + 1, none⟩ = some (.int .i64 x.m)) (i2 : w.cell? ⟨G, i * 5 + 2, none⟩ = some (.int .i64 x.k)) (i3 : w.cell? ⟨G, i * 5 + 3, none⟩ = some (.int .i64 x.c)) (i4 : w.cell? ⟨G, i * 5 + 4, none⟩ = some (.int .i64 x.a))
    (j0 : w.cell? ⟨G, j * 5, none⟩ = some (.int .i64 y.r)) (j1 : w.cell? ⟨G, j * 5 + 1, none⟩ = some (.int .i64 y.m)) (j2 : w.cell? ⟨G, j * 5 + 2, none⟩ = some (.int .i64 y.k)) (j3 : w.cell? ⟨G, j * 5 + 3, none⟩ = some (.int .i64 y.c)) (j4 : w.cell? ⟨G, j * 5 + 4, none⟩ = some (.int .i64 y.a))
    (f : ∀ k, w.frozen? ⟨G, k, none⟩ = false) :
    Calls Try.prog 66 #[.pointer (some ⟨H, 0, none⟩), .int .i64 i, .int .i64 j] w fun r w' => r = .returned (.tuple #[]) ∧ ∃ k, w' = (put3 (put3 w G i y) G j x).drewN k := by
  have fi0 := f (i * 5)
  have fi1 := f (i * 5 + 1)
  have fi2 := f (i * 5 + 2)
  have fi3 := f (i * 5 + 3)
  have fi4 := f (i * 5 + 4)
  have fj0 := f (j * 5)
  have fj1 := f (j * 5 + 1)
  have fj2 := f (j * 5 + 2)
  have fj3 := f (j * 5 + 3)
  have fj4 := f (j * 5 + 4)
  clear f
  obtain ⟨t00, J0⟩ := cell?_setCell_some (p := ⟨G, i * 5, none⟩) (x := .int .i64 y.r) j0
  obtain ⟨t10, K10⟩ := cell?_setCell_some (p := ⟨G, i * 5, none⟩) (x := .int .i64 y.r) j1
  obtain ⟨t11, J1⟩ := cell?_setCell_some (p := ⟨G, i * 5 + 1, none⟩) (x := .int .i64 y.m) K10
  obtain ⟨t20, K20⟩ := cell?_setCell_some (p := ⟨G, i * 5, none⟩) (x := .int .i64 y.r) j2
  obtain ⟨t21, K21⟩ := cell?_setCell_some (p := ⟨G, i * 5 + 1, none⟩) (x := .int .i64 y.m) K20
  obtain ⟨t22, J2⟩ := cell?_setCell_some (p := ⟨G, i * 5 + 2, none⟩) (x := .int .i64 y.k) K21
  obtain ⟨t30, K30⟩ := cell?_setCell_some (p := ⟨G, i * 5, none⟩) (x := .int .i64 y.r) j3
  obtain ⟨t31, K31⟩ := cell?_setCell_some (p := ⟨G, i * 5 + 1, none⟩) (x := .int .i64 y.m) K30
  obtain ⟨t32, K32⟩ := cell?_setCell_some (p := ⟨G, i * 5 + 2, none⟩) (x := .int .i64 y.k) K31
  obtain ⟨t33, J3⟩ := cell?_setCell_some (p := ⟨G, i * 5 + 3, none⟩) (x := .int .i64 y.c) K32
  obtain ⟨t40, K40⟩ := cell?_setCell_some (p := ⟨G, i * 5, none⟩) (x := .int .i64 y.r) j4
  obtain ⟨t41, K41⟩ := cell?_setCell_some (p := ⟨G, i * 5 + 1, none⟩) (x := .int .i64 y.m) K40
  obtain ⟨t42, K42⟩ := cell?_setCell_some (p := ⟨G, i * 5 + 2, none⟩) (x := .int .i64 y.k) K41
  obtain ⟨t43, K43⟩ := cell?_setCell_some (p := ⟨G, i * 5 + 3, none⟩) (x := .int .i64 y.c) K42
  obtain ⟨t44, J4⟩ := cell?_setCell_some (p := ⟨G, i * 5 + 4, none⟩) (x := .int .i64 y.a) K43
  clear K10 K20 K21 K30 K31 K32 K40 K41 K42 K43
  go_enter Try.func66, Try.ntmps66
  go_wp2_with fail
  go_region
  go_wp2
  go_end0
  exact ⟨rfl, 1, rfl⟩
theorem swap_at {w : World} {H : Nat} {F : Value} {C : List (Nat × Int)} {es : List E} {n G cap : Nat} (h : At w H F C (.slice (some ⟨G, 0, none⟩) es.length cap) es n) (i j : Nat) (hi : i < es.length) (hj : j < es.length) :
    Calls Try.prog 66 #[.pointer (some ⟨H, 0, none⟩), .int .i64 i, .int .i64 j] w fun r w' => r = .returned (.tuple #[]) ∧ At w' H F C (.slice (some ⟨G, 0, none⟩) es.length cap) (sw es i j) n ∧ Apart [G] w w' := by
  refine (swap_cells w H G es.length cap i j (g es i) (g es j) hi hj h.hl h.c1 (fun e => h.ne (by simp [Value.ownBlock, e])) (h.e0 i hi) (h.e1 i hi) (h.e2 i hi) (h.e3 i hi) (h.e4 i hi) (h.e0 j hj) (h.e1 j hj) (h.e2 j hj) (h.e3 j hj) (h.e4 j hj) h.ef).mono ?_
  rintro r w' ⟨rfl, k, rfl⟩
  have h1 := h.put i (g es j)
  rw [show es.length = (es.set i (g es j)).length from by simp] at h1
  have h2 := (h1.put j (g es i)).drewN k
  refine ⟨rfl, by simpa [sw] using h2, ((put3_apart _ _ _ _).trans (put3_apart _ _ _ _)).drewN k⟩

end Go.Proofs.Ytopmhacnopfifaa.tm
