import Derived.Test.YtckkjdgeandhgabRows
import Derived.WalkKit
import Derived.ProofKit
import Derived.OpenShut
import Derived.Deep.QuietTactic
import Derived.BigQuiet
namespace Go.Proofs.Ytckkjdgeandhgab.topNames
open Go.ChangeShapes Go.WideShapes Go.ChangeAt Go.RowKit

def dbl : List Int → List Value
  | [] => []
  | x :: r => .int .i64 x :: .int .i64 x :: dbl r
theorem dbl_at : ∀ (l : List Int) (i : Nat), i < l.length → (dbl l)[i * 2]? = some (.int .i64 (l.getD i 0)) ∧ (dbl l)[i * 2 + 1]? = some (.int .i64 (l.getD i 0)) := by
  intro l
  induction l with
  | nil => intro i h; simp at h
  | cons x r ih =>
    intro i h
    cases i with
    | zero => simp [dbl]
    | succ i =>
      have := ih i (by simpa using h)
      rw [show (i + 1) * 2 = i * 2 + 2 from by omega]
      simpa [dbl] using this
def L1 : List Int := [0, 1, 2, 3, 4, 10, 20, 30, 31, 40, 50, 51, 52, 60, 61, 70, 71, 80, 90, 91, 92, 93, 100, 101, 110, 111, 112, 113, 130, 150, 160, 161, 170, 512, 4096, 64, 2048, 100, 1, 65, 8, 5, 16, 8, 64]
def L2 : List Int := [1048576, 64, 32, 16, 64, 512, 256, 4096, 10000, 1048576, 8, 4, 20, 50, 30, 1, 2, 3, 4, 5, 6, 7, 8, 9, 10, 11, 1, 2, 3, 1, 2, 3, 4, 5, 6, 7, 8, 9, 10, 11, 12, 13, 14, 15, 16]

set_option maxHeartbeats 400000 in
set_option maxRecDepth 100000 in
theorem names1_any (w : World) : Calls Try.prog 7 #[] w fun e w' => e = .returned (.slice (some ⟨w.heap.size, 0, none⟩) 45 45) ∧ w' = w.alloc (.cells (dbl L1).toArray 49) := by
  go_enter Try.func7, Try.ntmps7
  go_wp2
  go_ret
  exact ⟨rfl, rfl⟩
set_option maxHeartbeats 400000 in
set_option maxRecDepth 100000 in
theorem names2_any (w : World) : Calls Try.prog 8 #[] w fun e w' => e = .returned (.slice (some ⟨w.heap.size, 0, none⟩) 45 45) ∧ w' = w.alloc (.cells (dbl L2).toArray 49) := by
  go_enter Try.func8, Try.ntmps8
  go_wp2
  go_ret
  exact ⟨rfl, rfl⟩

set_option maxHeartbeats 400000 in
theorem named_any (w : World) (b n : Nat) (f : Nat → Int) (hn : n < 1000) (hn0 : 0 < n)
   (hc0 : ∀ i : Nat, i < n → w.cell? ⟨b, i*2, none⟩ = some (.int .i64 (f i))) (hc1 : ∀ i, i < n → w.cell? ⟨b, i*2+1, none⟩ = some (.int .i64 (f i))) :
   Calls Try.prog 6 #[.slice (some ⟨b,0,none⟩) n n] w fun e w' => e = .returned (.bool true) ∧ ∃ k, w' = w.drewN k := by
  go_enter Try.func6, Try.ntmps6
  go_wp2
  go_loopw [3] (fun i w' => ∃ k : Nat, k ≤ n ∧ i = .int .i64 k ∧ ∃ q, w' = w.drewN q) (fun i _ => n - (intOf i).toNat)
  case atStart => exact ⟨0, Nat.zero_le _, rfl, 0, rfl⟩
  case round =>
    obtain ⟨k, hk, rfl, q, rfl⟩ := hrel
    by_cases hlt : k < n
    · have h0 := hc0 k hlt
      have h1 := hc1 k hlt
      go_wp2_with fail
      go_quiet (fail)
      go_wp2
      go_roundw
      case rel => exact ⟨k + 1, by omega, by go_num, q + nq, rfl⟩
      case measure => simp [intOf]; omega
    · go_wp2
      go_ret
      exact ⟨rfl, q, rfl⟩
end Go.Proofs.Ytckkjdgeandhgab.topNames
