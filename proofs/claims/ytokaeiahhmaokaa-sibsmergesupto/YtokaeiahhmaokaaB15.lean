import Derived.Test.YtokaeiahhmaokaaB14
namespace Go.Proofs.Ytokaeiahhmaokaa.ds
open Go.ChangeShapes Go.WideShapes Go.ChangeAt Go.RowKit Go.Sort
set_option linter.unusedVariables false
set_option linter.unusedSimpArgs false
theorem in_ok (w : World) (LB G n c : Nat) (vv xx : Value) (h : w.heap[LB]? = some (.cells #[.slice (some ⟨G, 0, none⟩) (n + 2) c, vv, xx] 58 (0, 0))) (hc : n + 2 ≤ c) (hn : n ≤ 2000000) :
    Calls Try.prog 9 #[.pointer (some ⟨LB, 0, none⟩)] w fun r w' => r = .returned (.slice (some ⟨G, 0, none⟩) n c) ∧ Apart [] w w' := by
  have l0 : w.cell? ⟨LB, 0, none⟩ = some (.slice (some ⟨G, 0, none⟩) (n + 2) c) := by rw [cell_of_row _ _ _ _ _ _ h]; rfl
  have hx : ((n : Int) + 2) - 2 = (n : Int) := by omega
  clear h
  go_enter Try.func9, Try.ntmps9
  go_wp2_with fail
  go_quiet (fail)
  go_wp2
  go_ret
  exact ⟨rfl, (Apart.refl [] w).drewN _⟩
end Go.Proofs.Ytokaeiahhmaokaa.ds
namespace Go.Proofs.Ytokaeiahhmaokaa.ds
open Go.ChangeShapes Go.WideShapes Go.ChangeAt Go.RowKit Go.Sort
set_option linter.unusedVariables false
/-- where the program puts it: at the first that stands behind, or at the end -/
def atE (u : E) (l : List E) : Nat := (l.findIdx? (below u)).getD l.length
theorem atE_le (u : E) (l : List E) : atE u l ≤ l.length := by
  unfold atE
  cases h : l.findIdx? (below u) with
  | none => simp
  | some k =>
    rw [List.findIdx?_eq_some_iff_getElem] at h
    obtain ⟨hk, _⟩ := h
    simp; omega
theorem insE_at (u : E) : ∀ l : List E, insE u l = l.take (atE u l) ++ [u] ++ l.drop (atE u l)
  | [] => by simp [insE, atE]
  | x :: l => by
    have ih := insE_at u l
    unfold insE
    by_cases hx : below u x = true
    · rw [if_pos hx]
      have : atE u (x :: l) = 0 := by unfold atE; rw [List.findIdx?_cons]; simp [hx]
      rw [this]; simp
    · rw [if_neg hx]
      have : atE u (x :: l) = atE u l + 1 := by
        unfold atE
        rw [List.findIdx?_cons]
        simp only [hx]
        cases l.findIdx? (below u) <;> simp
      rw [this, ih]
      simp
theorem idx_at (u : E) (l : List E) : (if idxE (below u) l < 0 then (l.length : Int) else idxE (below u) l) = (atE u l : Int) := by
  unfold idxE atE
  cases l.findIdx? (below u) with
  | none => simp
  | some k => simp; omega
end Go.Proofs.Ytokaeiahhmaokaa.ds
