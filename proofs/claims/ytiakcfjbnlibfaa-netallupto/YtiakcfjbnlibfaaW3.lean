import Derived.Test.YtiakcfjbnlibfaaW2
namespace Go.Proofs.Ytiakcfjbnlibfaa.nt
open Go.ChangeShapes Go.WideShapes Go.ChangeAt Go.RowKit
set_option linter.unusedVariables false
set_option linter.unusedSimpArgs false
/-- a new pair -/
def px0 (Bg Rg : Nat) (room : Int) : Px := ⟨⟨Bg, ⟨none, 0, 0⟩, []⟩, ⟨Rg, ⟨none, 0, 0⟩, []⟩, room, [], ⟨0, 0, 0, 0, 0⟩, [], ⟨0, 0, 0, 0, 0⟩, 0, 0, ⟨none, 0, 0⟩, [], ⟨[], [], [], []⟩⟩
def pairO (Bg Rg : Nat) : Obj := .cells #[.pointer (some ⟨Bg, 0, none⟩), .pointer (some ⟨Rg, 0, none⟩), .slice none 0 0, .slice none 0 0, .int .i64 0, .slice none 0 0, .slice none 0 0, .slice none 0 0, .slice none 0 0, .slice none 0 0, .slice none 0 0, .slice none 0 0, .int .i64 0] 69
theorem pair_new {wa w : World} {Bg Rg : Nat} {room : Int} (ap : Apart [] wa w) (hb : Bag wa w Bg room ⟨none, 0, 0⟩ [] [] ⟨0, 0, 0, 0, 0⟩) (hr : RB wa w Rg room ⟨none, 0, 0⟩ [] [] ⟨0, 0, 0, 0, 0⟩) :
    ∃ who, PQ wa (w.alloc (pairO Bg Rg)) w.heap.size (px0 Bg Rg room) who (px0 Bg Rg room).x.cof ∧ ∀ k t, who k = some t → wa.heap.size ≤ k := by
  have a : Apart [] w (w.alloc (pairO Bg Rg)) := (Apart.refl [] w).alloc _
  have h1 := lt_of_heap hb.blk
  have h2 := lt_of_heap hr.blk
  have hne : Bg ≠ Rg := fun e => by
    have := hb.blk
    rw [e, hr.blk] at this
    simp at this
  have hsz : (w.alloc (pairO Bg Rg)).heap.size = w.heap.size + 1 := by simp
  let who : Nat → Option Nat := fun k => if k = Bg then some 1 else if k = Rg then some 2 else if k = w.heap.size then some 0 else none
  have wB : who Bg = some 1 := by show (if Bg = Bg then some 1 else _) = _; rw [if_pos rfl]
  have wR : who Rg = some 2 := by show (if Rg = Bg then some 1 else if Rg = Rg then some 2 else _) = _; rw [if_neg (fun e => hne e.symm), if_pos rfl]
  have wP : who w.heap.size = some 0 := by
    show (if w.heap.size = Bg then some 1 else if w.heap.size = Rg then some 2 else if w.heap.size = w.heap.size then some 0 else none) = _
    rw [if_neg (by omega), if_neg (by omega), if_pos rfl]
  have hall : ∀ k t, who k = some t → k = Bg ∨ k = Rg ∨ k = w.heap.size := fun k t hk => by
    by_cases e1 : k = Bg
    · exact .inl e1
    · by_cases e2 : k = Rg
      · exact .inr (.inl e2)
      · by_cases e3 : k = w.heap.size
        · exact .inr (.inr e3)
        · have : (if k = Bg then some 1 else if k = Rg then some 2 else if k = w.heap.size then some 0 else none) = some t := hk
          rw [if_neg e1, if_neg e2, if_neg e3] at this
          cases this
  have hlo : ∀ k t, who k = some t → wa.heap.size ≤ k := fun k t hk => by
    rcases hall k t hk with rfl | rfl | rfl
    · exact hb.hB
    · exact hr.hB
    · exact ap.size
  refine ⟨who, ⟨⟨fun k t hk => ?_, wP, fun _ => .slice none 0 0, fun _ => none, heap_alloc_new w (pairO Bg Rg), fun f hf => ⟨⟨rfl, ?_⟩, by simp⟩⟩, hlo, ap.trans a, ⟨hb.kept0 a, wB, by simp [px0, Sl.v, Value.ownBlock], fun j hj => absurd hj (by simp [px0])⟩, ⟨hr.kept0 a, wR, by simp [px0, Sl.v, Value.ownBlock], fun j hj => absurd hj (by simp [px0])⟩, ⟨World.ownsRow_nil _ _ _ _, by simp [px0, Sl.v, Value.ownBlock]⟩, ⟨by simp [px0], by simp [px0], by simp [px0], by simp [px0]⟩⟩, hlo⟩
  · rcases hall k t hk with rfl | rfl | rfl <;> omega
  · simp only [fs, List.mem_cons, List.not_mem_nil, or_false] at hf
    rcases hf with rfl | rfl | rfl | rfl | rfl | rfl | rfl | rfl <;> simp [px0, Sx.cof]
/-- what made answers -/
structure MadePost (w w' : World) (r : Ending) (room : Int) : Prop where
  ap : Apart [] w w'
  ex : (r = .returned (.tuple #[.pointer none, .bool true])) ∨ (∃ P Bg Rg who, r = .returned (.tuple #[.pointer (some ⟨P, 0, none⟩), .bool true]) ∧ PQ w w' P (px0 Bg Rg room) who (px0 Bg Rg room).x.cof)
set_option maxHeartbeats 4000000 in
theorem made_ok (w : World) (room : Int) : Calls Try.prog 24 #[.int .i64 room] w fun r w' => MadePost w w' r room := by
  by_cases hr : 1 ≤ room ∧ room ≤ 256
  · have h1 := new_ok w room hr.1 hr.2
    go_enter Try.func24, Try.ntmps24
    go_wp2_with fail
    refine h1.mono ?_
    clear h1
    rintro _ w1 ⟨rfl, hB, a1⟩
    have h2 := rnew_ok w1 room hr.1 hr.2
    have HB := hid hB
    have HA := hid a1
    clear hB a1
    dsimp only
    go_wp2_with fail
    refine h2.mono ?_
    clear h2
    rintro _ w2 ⟨rfl, hR, a2⟩
    have HR : Hid (RB w w2 w1.heap.size room ⟨none, 0, 0⟩ [] [] ⟨0, 0, 0, 0, 0⟩) := ⟨hR.blk, Nat.le_trans HA.out.size hR.hB, ⟨hR.row.own, fun k hk => Nat.le_trans HA.out.size (hR.row.new k hk), HA.out.trans hR.row.ap⟩, hR.len, hR.xl, hR.le, hR.rd⟩
    have HP := hid (pair_new (HA.out.trans a2) (HB.out.kept0 a2) HR.out)
    have HA2 := hid ((HA.out.trans a2).alloc (pairO w.heap.size w1.heap.size))
    unfold pairO at HP HA2
    clear hR a2
    dsimp only
    go_wp2_with fail
    refine (num_ok 0 w2).mono ?_
    rintro _ w2 ⟨rfl, rfl⟩
    dsimp only
    go_wp2
    go_ret2
    obtain ⟨who, hp, _⟩ := HP.out
    exact ⟨HA2.out, .inr ⟨_, _, _, who, rfl, hp⟩⟩
  · have hr' : room < 1 ∨ 256 < room := by omega
    have h1 := new_bad w room hr'
    have HR := hid hr'
    clear hr hr'
    go_enter Try.func24, Try.ntmps24
    go_wp2_with fail
    refine h1.mono ?_
    clear h1
    rintro _ w1 ⟨rfl, a1⟩
    have h2 := rnew_bad w1 room HR.out
    have HA := hid a1
    clear a1
    dsimp only
    go_wp2_with fail
    refine h2.mono ?_
    clear h2
    rintro _ w2 ⟨rfl, a2⟩
    have HA2 := hid (HA.out.trans a2)
    clear a2
    dsimp only
    go_wp2_with fail
    refine (num_ok 1 w2).mono ?_
    rintro _ w2 ⟨rfl, rfl⟩
    dsimp only
    go_wp2
    go_ret2
    exact ⟨HA2.out, .inl rfl⟩
end Go.Proofs.Ytiakcfjbnlibfaa.nt
