import Derived.Test.YtiakcfjbnlibfaaN12
namespace Go.Proofs.Ytiakcfjbnlibfaa.nt
open Go.ChangeShapes Go.WideShapes Go.ChangeAt Go.RowKit
/-- Move of two places that there are. -/
theorem move_ok {w0 w : World} {Bg G n c : Nat} {room : Int} {ls : List LM} {xs : List Tx} {k : Cn} (h : Bag w0 w Bg room ⟨some ⟨G, 0, none⟩, n, c⟩ ls xs k) (i j : Nat) (hi : i < n) (hj : j < n) : Calls Try.prog 13 #[.pointer (some ⟨Bg, 0, none⟩), .int .i64 (i : Int), .int .i64 (j : Int)] w fun r w' => r = .returned (.int .i64 0) ∧ Hid (Bag w0 w' Bg room ⟨some ⟨G, 0, none⟩, n, c⟩ (mvD LM.z i j ls) (mvD Tx.z i j xs) k ∧ Apart [G] w w') := by
  have hcap : n ≤ c := by
    obtain ⟨_, ⟨hv, hz⟩ | ⟨g, cp, cur, hv, _, _, hle2, hmx, _⟩⟩ := h.row.own
    · simp [Sl.v] at hv
    · simp [Sl.v] at hv
      rw [hv.2]
      exact hle2
  by_cases h1 : i < j
  · exact move_fwd h i j hi hj h1
  by_cases h2 : c = j + 1
  · by_cases h3 : j = i
    · subst h3
      have h4 : n = j + 1 := by omega
      subst h4 h2
      exact move_end h
    · exact move_bwd h i j hi hj (by omega)
  · exact move_le h i j hi hj (by omega) h2
end Go.Proofs.Ytiakcfjbnlibfaa.nt
