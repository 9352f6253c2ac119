import Derived.Test.YtdggkofihppcmaaDoorBoth
namespace Go.Proofs.YtdggkofihppcmaaDoor.ds
open Go.ChangeShapes Go.WideShapes Go.ChangeAt Go.RowKit
set_option linter.unusedVariables false
set_option linter.unusedSimpArgs false
theorem target_uni {gp : Int} {xs ys : List S} (ka : OkL gp xs) (kb : OkL gp ys) (h0 : 0 ≤ gp) (hg : gp ≤ 64) : Target xs ys (fun k => join (ofn xs k) (ofn ys k)) := by
  have okn := fun k : Nat => join_okn (ka.okn h0 hg k) (kb.okn h0 hg k)
  refine ⟨fun k => (okn k).n, fun k _ => (okn k).wf, fun k _ => ?_, fun k _ c hc => ?_, fun k _ => ⟨(ka.wf h0 hg k).b0, join_base.1⟩, fun k _ => ⟨(kb.wf h0 hg k).b0, join_base.2⟩⟩
  · have := (okn k).mx
    unfold top at this
    show (join (ofn xs k) (ofn ys k)).b ≤ 2097152
    omega
  · rw [inL_ofn ka _ _ hc, inL_ofn kb _ _ hc, join_dot]
section
variable {p q : Option Addr} {N cap M cb : Nat} {xs ys : List S} {w : World} (gap : Int)
theorem runion_arg (hg : ¬ (1 ≤ gap ∧ gap ≤ 64)) : Calls Tryd.prog 55 #[.slice p N cap, .slice q M cb, .int .i64 gap] w fun r w' => r = .returned (.tuple #[.slice none 0 0, .int .i64 1]) ∧ Apart [] w w' := by
  by_cases h1 : gap < 1
  · go_enter Tryd.func55, Tryd.ntmps55
    go_wp2
    go_ret2
    exact ⟨rfl, Apart.refl _ _⟩
  · have h2 : 64 < gap := by omega
    go_enter Tryd.func55, Tryd.ntmps55
    go_wp2
    go_ret2
    exact ⟨rfl, Apart.refl _ _⟩
theorem runion_set1 (h : L w p N xs) (h2 : L w q M ys) (hg : 1 ≤ gap ∧ gap ≤ 64) (k : ¬ OkL gap xs) : Calls Tryd.prog 55 #[.slice p N cap, .slice q M cb, .int .i64 gap] w fun r w' => r = .returned (.tuple #[.slice none 0 0, .int .i64 30]) ∧ Apart [] w w' := by
  have g1 : ¬ gap < 1 := by omega
  have g2 : ¬ 64 < gap := by omega
  go_enter Tryd.func55, Tryd.ntmps55
  go_wp2_with fail
  refine (right_no h hg k).mono ?_
  rintro r w1 ⟨rfl, a1⟩
  dsimp only
  go_wp2_with fail
  refine (right_ok (h2.kept0 a1) hg).mono ?_
  rintro r w2 ⟨⟨v, rfl, _⟩, a2⟩
  dsimp only
  go_wp2
  go_ret2
  exact ⟨rfl, a1.trans a2⟩
theorem runion_set2 (h : L w p N xs) (h2 : L w q M ys) (hg : 1 ≤ gap ∧ gap ≤ 64) (k : OkL gap xs) (k2 : ¬ OkL gap ys) : Calls Tryd.prog 55 #[.slice p N cap, .slice q M cb, .int .i64 gap] w fun r w' => r = .returned (.tuple #[.slice none 0 0, .int .i64 30]) ∧ Apart [] w w' := by
  have g1 : ¬ gap < 1 := by omega
  have g2 : ¬ 64 < gap := by omega
  go_enter Tryd.func55, Tryd.ntmps55
  go_wp2_with fail
  refine (right_yes h hg k).mono ?_
  rintro r w1 ⟨rfl, a1⟩
  dsimp only
  go_wp2_with fail
  refine (right_no (h2.kept0 a1) hg k2).mono ?_
  rintro r w2 ⟨rfl, a2⟩
  dsimp only
  go_wp2
  go_ret2
  exact ⟨rfl, a1.trans a2⟩
theorem runion_ok (h : L w p N xs) (h2 : L w q M ys) (hg : 1 ≤ gap ∧ gap ≤ 64) (k : OkL gap xs) (k2 : OkL gap ys) : Calls Tryd.prog 55 #[.slice p N cap, .slice q M cb, .int .i64 gap] w fun r w' => RPost w w' r (uni xs ys) := by
  have g1 : ¬ gap < 1 := by omega
  have g2 : ¬ 64 < gap := by omega
  go_enter Tryd.func55, Tryd.ntmps55
  go_wp2_with fail
  refine (right_yes h hg k).mono ?_
  rintro r w1 ⟨rfl, a1⟩
  dsimp only
  go_wp2_with fail
  refine (right_yes (h2.kept0 a1) hg k2).mono ?_
  rintro r w2 ⟨rfl, a2⟩
  dsimp only
  have a3 := a1.trans a2
  go_wp2_with fail
  refine (both_ok _ (target_uni k k2 (by omega) hg.2) (h.kept0 a3) (h2.kept0 a3) k.bases k2.bases).mono ?_
  rintro r w4 ⟨⟨p4, n4, c4, rfl, own, hn⟩⟩
  dsimp only
  go_wp2
  go_ret2
  exact ⟨p4, n4, c4, rfl, own.from a3, hn⟩
end
/-- what Union answers: a list and an error -/
structure UPost (w w' : World) (r : Ending) (e : Int) (zs : List S) : Prop where
  ex : ∃ p n cap, r = .returned (.tuple #[.slice p n cap, .int .i64 e]) ∧ L w' p n zs ∧ Apart [] w w'
theorem UPost.of {w w' : World} {r : Ending} {xs : List S} (h : RPost w w' r xs) (k : OkL 64 xs) : UPost w w' r 0 xs := by
  obtain ⟨p, n, cap, rfl, l, a⟩ := h.parts k
  exact ⟨p, n, cap, rfl, l, a⟩
theorem UPost.err {w w' : World} {r : Ending} {e : Int} (h : r = .returned (.tuple #[.slice none 0 0, .int .i64 e]) ∧ Apart [] w w') : UPost w w' r e [] := ⟨none, 0, 0, h.1, L.nil _ _, h.2⟩
/-- both Unions answer the same -/
theorem unions {p q p' q' : Option Addr} {N cap M cb N' cap' M' cb' : Nat} {xs ys : List S} (gap : Int) : ∃ e zs, (∀ w, Tab w → L w p N xs → L w q M ys → Calls Tryd.prog 22 #[.slice p N cap, .slice q M cb, .int .i64 gap] w fun r w' => UPost w w' r e zs) ∧ (∀ w, L w p' N' xs → L w q' M' ys → Calls Tryd.prog 55 #[.slice p' N' cap', .slice q' M' cb', .int .i64 gap] w fun r w' => UPost w w' r e zs) := by
  by_cases hg : 1 ≤ gap ∧ gap ≤ 64
  · by_cases k : OkL gap xs
    · by_cases k2 : OkL gap ys
      · have ku := (uni_ok k k2 (by omega) hg.2).mono hg.2
        exact ⟨0, uni xs ys, fun w T l l2 => (union_ok gap T l l2 hg k k2).mono fun r w' h => .of h ku, fun w l l2 => (runion_ok gap l l2 hg k k2).mono fun r w' h => .of h ku⟩
      · exact ⟨30, [], fun w T l l2 => (union_set2 gap l l2 hg k k2).mono fun r w' h => .err h, fun w l l2 => (runion_set2 gap l l2 hg k k2).mono fun r w' h => .err h⟩
    · exact ⟨30, [], fun w T l l2 => (union_set1 gap l hg k).mono fun r w' h => .err h, fun w l l2 => (runion_set1 gap l l2 hg k).mono fun r w' h => .err h⟩
  · exact ⟨1, [], fun w T l l2 => (union_arg gap hg).mono fun r w' h => .err h, fun w l l2 => (runion_arg gap hg).mono fun r w' h => .err h⟩
end Go.Proofs.YtdggkofihppcmaaDoor.ds
