import Derived.Test.YthmloakkefiicaaApart
import Derived.Test.YthmloakkefiicaaSpoil
import Derived.Test.YthmloakkefiicaaRel
namespace Go.Proofs.Ythmloakkefiicaa.dk
open Go.ChangeShapes Go.WideShapes Go.ChangeAt Go.RowKit
theorem new_row (w : World) (o : Obj) : (w.alloc o).heap[w.heap.size]? = some o := by
  rw [World.alloc.eq_1]; simp only [Array.getElem?_push_size]
/-- the cells of a new pair -/
def pair0 (D R : Nat) : Array Value := #[.pointer (some ⟨D, 0, none⟩), .pointer (some ⟨R, 0, none⟩), .slice none 0 0, .slice none 0 0, .slice none 0 0, .slice none 0 0, .int .i64 0, .slice none 0 0, .slice none 0 0, .slice none 0 0, .slice none 0 0, .int .i64 0, .slice none 0 0, .int .i64 0]
theorem made_bad (w : World) (s : Int) (hs : s < 1 ∨ 4096 < s) :
    Calls Try.prog 31 #[.int .i64 s] w fun r w' => r = .returned (.tuple #[.pointer none, .bool true]) ∧ w' = w := by
  have c1 := new_bad w s hs
  have c2 := rnew_bad w s hs
  clear hs
  go_enter Try.func31, Try.ntmps31
  go_wp2_with fail
  refine c1.mono ?_
  rintro r w1 ⟨rfl, rfl⟩
  go_wp2_with fail
  refine c2.mono ?_
  rintro r w1 ⟨rfl, rfl⟩
  go_wp2_with fail
  refine (num_any _ _).mono ?_
  rintro r w1 ⟨rfl, rfl⟩
  go_wp2
  go_ret2
  exact ⟨rfl, rfl⟩
theorem made_good (w : World) (n : Nat) (h1 : 1 ≤ n) (h2 : n ≤ 4096) :
    Calls Try.prog 31 #[.int .i64 n] w fun r w' => ∃ P D R S, r = .returned (.tuple #[.pointer (some ⟨P, 0, none⟩), .bool true]) ∧ PRow w' P (pair0 D R) ∧ DiskAt w' D S (Dk.fresh n (List.replicate (n * 512) 0)) ∧ RefAt w' R (Rf.fresh n [] (.slice none 0 0)) ∧ Apart [] w w' ∧
      [P, D, R, S].Nodup ∧ w.heap.size ≤ P ∧ w.heap.size ≤ D ∧ w.heap.size ≤ R ∧ w.heap.size ≤ S := by
  have c1 := new_good w n h1 h2
  go_enter Try.func31, Try.ntmps31
  go_wp2_with fail
  refine c1.mono ?_
  rintro r w1 ⟨rfl, hD, a1⟩
  clear c1
  go_wp2_with fail
  refine (rnew_good w1 n h1 h2).mono ?_
  rintro r w2 ⟨rfl, hR, a2⟩
  go_wp2_with fail
  refine (num_any _ _).mono ?_
  rintro r w3 ⟨rfl, rfl⟩
  go_wp2
  go_ret2
  have hDl := lt_of_heap hD.hd
  have hRl := lt_of_heap hR.hr
  have q1 := a1.size
  have q2 := a2.size
  refine ⟨_, w.heap.size + 1, w1.heap.size, w.heap.size, rfl, ⟨new_row _ _, rfl⟩, (hD.kept a2 (by simp) (by simp)).kept ((Apart.refl [] _).alloc _) (by simp) (by simp), hR.kept ((Apart.refl [] _).alloc _) (by simp) (by simp) (by simp), (a1.trans a2).alloc _, ?_, by omega, by omega, by omega, by omega⟩
  simp
  omega
end Go.Proofs.Ythmloakkefiicaa.dk
