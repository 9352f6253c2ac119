import Derived.Test.YtopmhacnopfifaaNPH
namespace Go.Proofs.Ytopmhacnopfifaa.nm
open Go.ChangeShapes Go.WideShapes Go.ChangeAt Go.RowKit
set_option linter.unusedVariables false
set_option maxHeartbeats 1000000 in
set_option maxRecDepth 100000 in
theorem swap_cells (w : World) (H G n cap i j : Nat) (x y : E) (hi : i < n) (hj : j < n) (hn : n ≤ 4000000) (h1 : w.cell? ⟨H, 1, none⟩ = some (.slice (some ⟨G, 0, none⟩) n cap)) (hne : H ≠ G)
    (i0 : w.cell? ⟨G, i * 3, none⟩ = some (.string x.r)) (i1 : w.cell? ⟨G, i * 3 + 1, none⟩ = some (.slice x.m.p x.m.n x.m.c)) (i2 : w.cell? ⟨G, i * 3 + 2, none⟩ = some (.int .i64 x.a))
    (j0 : w.cell? ⟨G, j * 3, none⟩ = some (.string y.r)) (j1 : w.cell? ⟨G, j * 3 + 1, none⟩ = some (.slice y.m.p y.m.n y.m.c)) (j2 : w.cell? ⟨G, j * 3 + 2, none⟩ = some (.int .i64 y.a))
    (f : ∀ k, w.frozen? ⟨G, k, none⟩ = false) :
    Calls Try.prog 73 #[.pointer (some ⟨H, 0, none⟩), .int .i64 i, .int .i64 j] w fun r w' => r = .returned (.tuple #[]) ∧ ∃ k, w' = (put3 (put3 w G i y) G j x).drewN k := by
  have fi0 := f (i * 3)
  have fi1 := f (i * 3 + 1)
  have fi2 := f (i * 3 + 2)
  have fj0 := f (j * 3)
  have fj1 := f (j * 3 + 1)
  have fj2 := f (j * 3 + 2)
  clear f
  obtain ⟨u0, J0⟩ := cell?_setCell_some (p := ⟨G, i * 3, none⟩) (x := .string y.r) j0
  obtain ⟨t1, K1⟩ := cell?_setCell_some (p := ⟨G, i * 3, none⟩) (x := .string y.r) j1
  obtain ⟨u1, J1⟩ := cell?_setCell_some (p := ⟨G, i * 3 + 1, none⟩) (x := .slice y.m.p y.m.n y.m.c) K1
  obtain ⟨t2, K2⟩ := cell?_setCell_some (p := ⟨G, i * 3, none⟩) (x := .string y.r) j2
  obtain ⟨t3, K3⟩ := cell?_setCell_some (p := ⟨G, i * 3 + 1, none⟩) (x := .slice y.m.p y.m.n y.m.c) K2
  obtain ⟨u2, J2⟩ := cell?_setCell_some (p := ⟨G, i * 3 + 2, none⟩) (x := .int .i64 y.a) K3
  clear K1 K2 K3
  go_enter Try.func73, Try.ntmps73
  go_wp2_with fail
  go_region
  go_wp2
  go_end0
  exact ⟨rfl, 1, rfl⟩
theorem swap_at {w : World} {H : Nat} {F : Value} {C : List (Nat × Int)} {es : List E} {n G cap : Nat} (h : At w H F C (.slice (some ⟨G, 0, none⟩) es.length cap) es n) (i j : Nat) (hi : i < es.length) (hj : j < es.length) :
    Calls Try.prog 73 #[.pointer (some ⟨H, 0, none⟩), .int .i64 i, .int .i64 j] w fun r w' => r = .returned (.tuple #[]) ∧ At w' H F C (.slice (some ⟨G, 0, none⟩) es.length cap) (sw es i j) n ∧ Apart [G] w w' := by
  refine (swap_cells w H G es.length cap i j (g es i) (g es j) hi hj h.hl h.c1 (fun e => h.ne (by simp [Value.ownBlock, e])) (h.e0 i hi) (h.e1 i hi) (h.e2 i hi) (h.e0 j hj) (h.e1 j hj) (h.e2 j hj) h.ef).mono ?_
  rintro r w' ⟨rfl, k, rfl⟩
  have h1 := h.put i (g es j)
  rw [show es.length = (es.set i (g es j)).length from by simp] at h1
  have h2 := (h1.put j (g es i)).drewN k
  refine ⟨rfl, by simpa [sw] using h2, ((put3_apart _ _ _ _).trans (put3_apart _ _ _ _)).drewN k⟩

end Go.Proofs.Ytopmhacnopfifaa.nm
