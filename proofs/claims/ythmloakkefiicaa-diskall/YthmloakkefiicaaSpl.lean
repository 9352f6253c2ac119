import Derived.Test.YthmloakkefiicaaMade
namespace Go.Proofs.Ythmloakkefiicaa.dk
open Go.ChangeShapes Go.WideShapes Go.ChangeAt Go.RowKit
theorem lent_own {w : World} {g n c : Nat} {bs : List Int} (h : Lent w g n c bs) (hc : c ≤ 4194304) : w.ownsRow 0 5 1 (.slice (some ⟨g, 0, none⟩) n c) n (u8s bs) := by
  obtain ⟨cur, hr, hs⟩ := h.row
  have hl := h.len
  have hle := h.le
  refine ⟨by simp [u8s, hl], .inr ⟨g, c, cur, rfl, Nat.zero_le _, hr, hle, by unfold maxLen; omega, by omega, ?_⟩⟩
  apply List.ext_getElem?
  intro i
  by_cases hi : i < n
  · have e := h.cells i hi
    rw [cell_of_row _ _ _ _ _ _ hr] at e
    rw [List.getElem?_take, if_pos (by omega), Array.getElem?_toList, e]
    simp [u8s, show i < bs.length by omega]
  · rw [List.getElem?_eq_none (by simp; omega), List.getElem?_eq_none (by simp [u8s]; omega)]
set_option maxHeartbeats 1000000 in
theorem spoil_ans (w : World) (g len cap : Nat) (bs : List Int) (hL : Lent w g len cap bs) (hcap : cap ≤ 4194304) (hpos : 0 < len) :
    Calls Try.prog 27 #[.slice (some ⟨g, 0, none⟩) len cap] w fun r w' => r = .returned (.tuple #[]) ∧ Apart [g] w w' ∧ ∃ bs', Lent w' g len cap bs' := by
  obtain ⟨i0, hi, hz0, hz1, hz2⟩ := info_parts info5
  have hl := hL.le
  have HL : Hid (Lent w g len cap bs) := hL
  clear hL
  go_enter Try.func27, Try.ntmps27
  go_wp2
  go_loopw [2] (fun i wr => ∃ k : Nat, k ≤ len ∧ i = .int .i64 k ∧ Apart [g] w wr ∧ ∃ bs', Lent wr g len cap bs') (fun i _ => len - (intOf i).toNat)
  case atStart => exact ⟨0, Nat.zero_le _, rfl, Apart.refl _ _, bs, HL.out⟩
  case round =>
    clear HL
    obtain ⟨k, hk, rfl, ha, bs', hL'⟩ := hrel
    have HG : Hid (Lent wr g len cap bs') := hL'
    by_cases hlt : k < len
    · have e1 := hL'.cells k hlt
      have e2 := hL'.free k
      clear hL'
      go_wp2
      go_roundw
      case rel =>
        refine ⟨k + 1, by omega, by go_num, ha.setCell (by simp) _, _, HG.out.set k hlt _⟩
      case measure => simp [intOf]; omega
    · have hbl : bs'.length = len := hL'.len
      have HBL : Hid (bs'.length = len) := hbl
      have hown := lent_own hL' hcap
      have hlw : g < wr.heap.size := by obtain ⟨c, hr, _⟩ := hL'.row; exact lt_of_heap hr
      clear hL' hbl
      by_cases hf : len + 3 ≤ cap
      · go_wp2_with (at_builtin; refine wpList_append_fits _ rfl _ _ 30 rfl 0 5 i0 1 Try.underlying30 hi hz1 g len cap _ rfl (hown.alloc _) ⟨wr.heap.size, 0, none⟩ 3 3 [.int .u8 7, .int .u8 7, .int .u8 7] rfl rfl ?c1 ?c2 hf ?_)
        case c1 =>
          intro j u hj
          match j, hj with
          | 0, hj => simp at hj; subst hj; simp [Addr.add]
          | 1, hj => simp at hj; subst hj; simp [Addr.add]
          | 2, hj => simp at hj; subst hj; simp [Addr.add]
        case c2 => intro u hu; simp at hu; subst hu; rfl
        · intro w1 hown' hgrow
          have e1 := hown'.cellAt (len + 2) (by omega)
          have ev : (u8s bs' ++ [.int .u8 7, .int .u8 7, .int .u8 7])[len + 2]? = some (Value.int .u8 7) := by
            rw [List.getElem?_append_right (by simp [u8s, HBL.out])]
            simp only [u8s_length, HBL.out]
            rw [show len + 2 - len = 2 from by omega]; rfl
          rw [ev] at e1
          have e2 := hown'.frozenAt (len + 2)
          have ap : Apart [g] w w1 := ((ha.alloc _).trans (apart_grown hgrow))
          have HC : Hid (∀ j, j < len → w1.cell? ⟨g, j, none⟩ = some (.int .u8 (bs'.getD j 0))) := fun j hj => by
            have hb := HBL.out
            rw [hown'.cellAt j (by omega), List.getElem?_append_left (by simp [u8s]; omega)]
            simp [u8s, show j < bs'.length by omega]
          obtain ⟨_, ⟨hx, _⟩ | ⟨g', cap', cur2, hx, _, hg2, _, _, hs2, _⟩⟩ := hown'
          · simp at hx
          · simp at hx
            obtain ⟨rfl, rfl⟩ := hx
            have HG2 : Hid (w1.heap[g]? = some (.cells cur2 5 (0, 0))) := hg2
            clear hg2 hgrow hown
            go_wp2
            go_end0
            refine ⟨rfl, ap.setCell (by simp) _, bs', ⟨_, heap_setCell_same _ _ _ _ _ _ HG2.out, by simpa using hs2⟩, fun j hj => ?_, HBL.out, hl⟩
            exact (World.cell?_setCell_other w1 ⟨g, len + 2, none⟩ ⟨g, j, none⟩ _ (by intro e; have := congrArg Addr.off e; simp only at this; omega)).trans (HC.out j hj)
      · go_wp2_with (at_builtin; refine wpList_append_grows _ rfl _ _ 30 rfl 5 i0 (.int .u8 0) 1 1 Try.underlying30 hi hz0 hz1 hz2 rfl (by decide) (some ⟨g, 0, none⟩) len cap (u8s bs') rfl (by simp) (by simp [u8s, HBL.out]) ?c0 ⟨wr.heap.size, 0, none⟩ 3 3 [.int .u8 7, .int .u8 7, .int .u8 7] rfl rfl ?c1 ?c2 (by omega) (by unfold maxLen; omega) (by omega) ?_)
        case c0 =>
          intro b hb j u hu
          simp at hb; subst hb
          have hj : j < bs'.length := by have := (List.getElem?_eq_some_iff.1 hu).1; simpa [u8s] using this
          have hjl : j < len := by have := HBL.out; omega
          rw [Addr.add_lit, World.cell?_alloc_past _ _ _ hlw, Nat.zero_add, HG.out.cells j hjl]
          rw [← hu]; simp [u8s, hj]
        case c1 =>
          intro j u hj
          match j, hj with
          | 0, hj => simp at hj; subst hj; simp [Addr.add]
          | 1, hj => simp at hj; subst hj; simp [Addr.add]
          | 2, hj => simp at hj; subst hj; simp [Addr.add]
        case c2 => intro u hu; simp at hu; subst hu; rfl
        · intro v' w1 hown' hgrow
          have aw1 : Apart [] wr w1 := ((Apart.refl [] wr).alloc _).trans (apart_grown hgrow)
          have ap : Apart [g] w w1 := ha.trans (aw1.mono (by simp))
          have hown2 := hown'
          obtain ⟨_, ⟨hx, hx2⟩ | ⟨g', cap', cur2, rfl, hb2, hg2, _, _, hs2, _⟩⟩ := hown'
          · omega
          · have e1 := hown2.cellAt (len + 2) (by omega)
            have ev : (u8s bs' ++ [.int .u8 7, .int .u8 7, .int .u8 7])[len + 2]? = some (Value.int .u8 7) := by
              rw [List.getElem?_append_right (by simp [u8s, HBL.out])]
              simp only [u8s_length, HBL.out]
              rw [show len + 2 - len = 2 from by omega]; rfl
            rw [ev] at e1
            have e2 := hown2.frozenAt (len + 2)
            have hsz := ap.size
            have hsz2 := ha.size
            have hbb : wr.heap.size ≤ g' := by omega
            have HGK : Hid (Lent w1 g len cap bs') := HG.out.kept aw1 (by simp)
            clear hgrow hown hown2 hg2 aw1
            go_wp2
            go_end0
            refine ⟨rfl, ?_, bs', HGK.out.kept (X := [g']) ((Apart.refl _ _).setCell (by simp) _) (by simp; omega)⟩
            refine ⟨ap.os, ap.tape, ap.output, by simpa [World.setCell] using ap.size, fun i hi hx => ?_⟩
            rw [heap_setCell_other _ _ _ _ (by show i ≠ g'; omega)]; exact ap.block i hi hx
end Go.Proofs.Ythmloakkefiicaa.dk
