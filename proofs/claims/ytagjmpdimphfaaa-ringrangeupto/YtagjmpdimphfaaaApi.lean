import Derived.Test.YtagjmpdimphfaaaMeet
import Derived.OwnWalk
namespace Go.Proofs.Ytagjmpdimphfaaa.rg
open Go.ChangeShapes Go.WideShapes Go.ChangeAt Go.RowKit Go.Sort
set_option linter.unusedVariables false
set_option linter.unusedSimpArgs false
theorem own_some {e : TypeId} {size : Nat} {w w' : World} {p : Option Addr} {n cap : Nat} {xs : List Value} (h : OwnR e size w w' p n cap xs) (hn : 1 ≤ n) : ∃ P, p = some ⟨P, 0, none⟩ ∧ P < w'.heap.size ∧ w.heap.size ≤ P ∧ n ≤ cap ∧ cap ≤ 9223372036854775807 := by
  obtain ⟨_, ⟨_, hz⟩ | ⟨g, cap', cur, hv, hb, hr, hle, hcm, _⟩⟩ := id h.own
  · omega
  · simp only [Value.slice.injEq, true_and] at hv
    obtain ⟨rfl, rfl⟩ := hv
    exact ⟨g, rfl, lt_of_heap hr, h.new g rfl, hle, by unfold maxLen at hcm; omega⟩
theorem points_all (n : Nat) (h1 : 1 ≤ n) (h8 : n ≤ 8) (w : World) : Calls Try.prog 25 #[.int .i64 n] w fun r w' => PtsPost w w' r n :=
  points_ok n h8 w fun p cap W O => by
    obtain ⟨P, rfl, _⟩ := own_some O (by omega)
    exact sort_ok O (by rw [pts_len]) (by omega)
theorem pts_node (n : Nat) : ∀ x ∈ srtP (pts n), x.2 < n := by
  intro x hx
  have := (srtP_perm (pts n)).mem_iff.1 hx
  unfold pts at this
  simp only [List.mem_flatMap, List.mem_range, List.mem_map] at this
  obtain ⟨i, hi, k, hk, rfl⟩ := this
  exact hi
theorem byte3 {w : World} {B : Nat} (r : Nat) (hr : r < 256) (hB : B < w.heap.size) (h0 : w.cell? ⟨B, 0, none⟩ = some (.int .u8 255)) (h1 : w.cell? ⟨B, 1, none⟩ = some (.int .u8 255)) (h2 : w.cell? ⟨B, 2, none⟩ = some (.int .u8 (r : Nat))) : By w (some ⟨B, 0, none⟩) 3 [255, 255, r] := by
  refine ⟨rfl, by simp; omega, fun _ => ⟨B, 0, rfl, hB, fun j hj => ?_⟩⟩
  match j, hj with
  | 0, _ => exact h0
  | 1, _ => exact h1
  | 2, _ => exact h2
theorem place_ok (r : Nat) (hr : r < 16) (w : World) : Calls Try.prog 26 #[.int .i64 r] w fun e w' => e = .returned (.int .u32 (placeN r : Nat)) ∧ Apart [] w w' := by
  go_enter Try.func26, Try.ntmps26
  go_wp2_with fail
  refine (hash_ok (byte3 r (by omega) (by simp) (by simp) (by simp) (by simp)) (by omega)).mono ?_
  rintro e w1 ⟨rfl, rfl⟩
  dsimp only
  go_wp2_with fail
  go_ret
  exact ⟨rfl, (Apart.refl _ _).alloc _⟩
/-- a ring in memory -/
structure Rg (w : World) (R n m : Nat) : Prop where
  c0 : w.cell? ⟨R, 0, none⟩ = some (.int .i64 n)
  c1 : w.cell? ⟨R, 1, none⟩ = some (.int .i64 m)
  n1 : 1 ≤ n
  n8 : n ≤ 8
  m1 : 1 ≤ m
  m16 : m ≤ 16
theorem Rg.lt {w : World} {R n m : Nat} (h : Rg w R n m) : R < w.heap.size := block_lt_of_cell h.c0
theorem Rg.kept {w w' : World} {R n m : Nat} {X : List Nat} (h : Rg w R n m) (a : Apart X w w') (hx : R ∉ X) : Rg w' R n m := { h with c0 := (a.cell (p := ⟨R, 0, none⟩) h.lt hx).trans h.c0, c1 := (a.cell (p := ⟨R, 1, none⟩) h.lt hx).trans h.c1 }
theorem Rg.kept0 {w w' : World} {R n m : Nat} (h : Rg w R n m) (a : Apart [] w w') : Rg w' R n m := h.kept a (by simp)
theorem new_ok (n m : Nat) (h1 : 1 ≤ n) (h2 : n ≤ 8) (h3 : 1 ≤ m) (h4 : m ≤ 16) (w : World) : Calls Try.prog 10 #[.int .i64 n, .int .i64 m] w fun r w' => (r = .returned (.tuple #[.pointer (some ⟨w.heap.size, 0, none⟩), .int .i64 0]) ∧ Rg w' w.heap.size n m) ∧ Apart [] w w' := by
  have k1 : ¬ ((n : Int) < 1) := by omega
  have k2 : ¬ ((n : Int) > 8) := by omega
  have k3 : ¬ ((m : Int) < 1) := by omega
  have k4 : ¬ ((m : Int) > 16) := by omega
  go_enter Try.func10, Try.ntmps10
  go_wp2_with fail
  go_ret2
  exact ⟨⟨rfl, ⟨by simp, by simp, h1, h2, h3, h4⟩⟩, (Apart.refl _ _).alloc _⟩
theorem new_bad (n m : Int) (h : n < 1 ∨ 8 < n ∨ m < 1 ∨ 16 < m) (w : World) : Calls Try.prog 10 #[.int .i64 n, .int .i64 m] w fun r w' => r = .returned (.tuple #[.pointer none, .int .i64 1]) ∧ w' = w := by
  by_cases k1 : n < 1
  · go_enter Try.func10, Try.ntmps10
    go_wp2_with fail
    go_ret2
    exact ⟨rfl, rfl⟩
  by_cases k2 : n > 8
  · go_enter Try.func10, Try.ntmps10
    go_wp2_with fail
    go_ret2
    exact ⟨rfl, rfl⟩
  by_cases k3 : m < 1
  · go_enter Try.func10, Try.ntmps10
    go_wp2_with fail
    go_ret2
    exact ⟨rfl, rfl⟩
  have k4 : m > 16 := by omega
  go_enter Try.func10, Try.ntmps10
  go_wp2_with fail
  go_ret2
  exact ⟨rfl, rfl⟩
structure OrdPost (w w' : World) (r : Ending) (n : Nat) (xs : List Nat) : Prop where
  ex : ∃ P cap, r = .returned (.tuple #[.slice (some ⟨P, 0, none⟩) n cap, .int .i64 0]) ∧ OwnI w w' (some ⟨P, 0, none⟩) n cap xs ∧ n ≤ cap ∧ cap ≤ 9223372036854775807
theorem order_bad {w : World} {R n m : Nat} (G : Rg w R n m) (rng : Int) (h : rng < 0 ∨ (m : Int) ≤ rng) : Calls Try.prog 12 #[.pointer (some ⟨R, 0, none⟩), .int .i64 rng] w fun r w' => r = .returned (.tuple #[.slice none 0 0, .int .i64 40]) ∧ w' = w := by
  have c1 := G.c1
  by_cases k1 : rng < 0
  · go_enter Try.func12, Try.ntmps12
    go_wp2_with fail
    go_ret2
    exact ⟨rfl, rfl⟩
  have k2 : rng ≥ (m : Int) := by omega
  go_enter Try.func12, Try.ntmps12
  go_wp2_with fail
  go_ret2
  exact ⟨rfl, rfl⟩
set_option maxHeartbeats 1000000 in
theorem order_ok {w : World} {R n m : Nat} (G : Rg w R n m) (r : Nat) (h : r < m) : Calls Try.prog 12 #[.pointer (some ⟨R, 0, none⟩), .int .i64 r] w fun e w' => OrdPost w w' e n (ord n r) := by
  have c0 := G.c0
  have c1 := G.c1
  have := G.n1; have := G.n8; have := G.m16
  have k1 : ¬ ((r : Int) < 0) := by omega
  have k2 : ¬ ((r : Int) ≥ (m : Int)) := by omega
  go_enter Try.func12, Try.ntmps12
  go_wp2_with fail
  refine (points_all n (by omega) (by omega) w).mono ?_
  rintro e w1 ⟨⟨p, cap, rfl, O⟩⟩
  dsimp only
  obtain ⟨P, rfl, hP, hPn, hle, hc63⟩ := own_some O (by omega)
  go_wp2_with fail
  refine (place_ok r (by omega) w1).mono ?_
  rintro e w2 ⟨rfl, a2⟩
  dsimp only
  replace O := O.kept a2
  go_wp2_with fail
  refine (meet_ok (placeN r) O (by show 4 * n = _; rw [(srtP_perm _).length_eq, pts_len]) (by omega) (by omega) (srtP_sorted _) (fun x hx => by have := pts_node n x hx; omega)).mono ?_
  rintro e w3 ⟨⟨q, c3, rfl, O3⟩⟩
  dsimp only
  have hl : (metN [] (rotN (srtP (pts n)) (placeN r))).length = n := ord_len n (by omega) r (by omega)
  rw [hl] at O3 ⊢
  obtain ⟨Q, rfl, hQ, hQn, hle3, hc3⟩ := own_some O3 (by omega)
  go_wp2_with fail
  go_ret2
  exact ⟨⟨Q, c3, rfl, ⟨O3.own, fun b hb => Nat.le_trans O.ap.size (O3.new b hb), O.ap.trans O3.ap⟩, hle3, hc3⟩⟩
end Go.Proofs.Ytagjmpdimphfaaa.rg
