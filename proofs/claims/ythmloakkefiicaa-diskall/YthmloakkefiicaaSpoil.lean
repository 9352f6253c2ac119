import Derived.Test.YthmloakkefiicaaLeaveI
namespace Go.Proofs.Ythmloakkefiicaa.dk
open Go.ChangeShapes Go.WideShapes Go.ChangeAt Go.RowKit
set_option maxHeartbeats 1000000 in
theorem spoil_nil (w : World) :
    Calls Try.prog 27 #[.slice none 0 0] w fun r w' => r = .returned (.tuple #[]) ∧ Apart [] w w' := by
  obtain ⟨i0, hi, hz0, hz1, hz2⟩ := info_parts info5
  go_enter Try.func27, Try.ntmps27
  go_wp2
  go_loopw [2] (fun i wr => i = .int .i64 0 ∧ wr = w) (fun _ _ => 0)
  case atStart => exact ⟨rfl, rfl⟩
  case round =>
    obtain ⟨rfl, rfl⟩ := hrel
    go_wp2_with (at_builtin; refine wpList_append_own _ rfl _ _ 30 rfl wr.heap.size 5 i0 (.int .u8 0) 1 1 Try.underlying30 hi hz0 hz1 hz2 rfl (by decide) (.slice none 0 0) 0 [] rfl (World.ownsRow_nil _ _ 5 1) ⟨wr.heap.size, 0, none⟩ 3 3 [.int .u8 7, .int .u8 7, .int .u8 7] rfl rfl ?c1 ?c2 ?c3 ?c4 ?c5 ?_)
    case c1 =>
      intro j u hj
      match j, hj with
      | 0, hj => simp at hj; subst hj; simp [Addr.add]
      | 1, hj => simp at hj; subst hj; simp [Addr.add]
      | 2, hj => simp at hj; subst hj; simp [Addr.add]
    case c2 => intro u hu; simp at hu; subst hu; rfl
    case c3 => unfold maxLen; omega
    case c4 => omega
    case c5 => simp
    · intro v' w1 hown hgrow _
      have ap : Apart [] wr w1 := ((Apart.refl [] wr).alloc _).trans (apart_grown hgrow)
      have hown2 := hown
      obtain ⟨_, ⟨hx, hx2⟩ | ⟨g', cap', cur2, rfl, hb2, hg2, _, _, hs2, _⟩⟩ := hown
      · omega
      · have e1 := hown2.cellAt 2 (by omega)
        have e1' : w1.cell? ⟨g', 2, none⟩ = some (.int .u8 7) := e1
        clear e1
        have e2 := hown2.frozenAt 2
        clear hgrow hown2 hg2
        go_wp2
        go_end0
        refine ⟨rfl, ap.os, ap.tape, ap.output, by simpa [World.setCell] using ap.size, fun i hi hx => ?_⟩
        rw [heap_setCell_other _ _ _ _ (by show i ≠ g'; omega)]; exact ap.block i hi hx
end Go.Proofs.Ythmloakkefiicaa.dk
