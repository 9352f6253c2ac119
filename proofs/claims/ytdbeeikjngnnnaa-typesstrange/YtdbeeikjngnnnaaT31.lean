import Derived.Test.YtdbeeikjngnnnaaT30
namespace Go.Proofs.Ytdbeeikjngnnnaa.ty
open Go.ChangeShapes Go.WideShapes Go.ChangeAt Go.RowKit
set_option linter.unusedVariables false
set_option linter.unusedSimpArgs false
theorem Elements_t {w : World} {V n : Nat} {v : Vl} (hV : Ho w V v) (ok : Ok v) (e : (elsR v).length = n) : Calls Try.prog 22 #[.pointer (some ⟨V, 0, none⟩)] w fun r w' => ∃ p c, r = .returned (.slice p n c) ∧ Apart [] w w' := by
  refine (Elements_v hV ok).mono ?_
  rintro _ w' ⟨s, rfl, l, h1, h2, h3⟩
  exact ⟨s.p, s.c, by rw [h2, e], h1.ap⟩
theorem Text_t {w : World} {V : Nat} {v : Vl} {bs : List Nat} {x : ByteArray} (hV : Ho w V v) (ok : Ok v) (e : textR v = bs) (hx : strB bs = x) : Calls Try.prog 24 #[.pointer (some ⟨V, 0, none⟩)] w fun r w' => ∃ sl : Sl, r = .returned (.slice sl.p sl.n sl.c) ∧ Apart [] w w' ∧ Sem.run Try.prog (convert 22 9 (.slice sl.p sl.n sl.c)) w' = .ok (.string x) w' := by
  refine (Text_v hV ok).mono ?_
  rintro _ w' ⟨s, rfl, a, h1, h2, h3⟩
  rw [e] at h2 h3
  exact ⟨s, rfl, a, by rw [← hx]; exact conv_bytes h2.rd h3 h1⟩
theorem strB_nil : strB [] = ⟨#[]⟩ := rfl
theorem strB_t : strB [116] = ⟨#[116]⟩ := rfl
theorem t_ne : ((⟨#[]⟩ : ByteArray).toList == (⟨#[116]⟩ : ByteArray).toList) = false := by
  rw [ByteArray.toList_eq, ByteArray.toList_eq]
  rfl
end Go.Proofs.Ytdbeeikjngnnnaa.ty
