import Derived.Test.YthmloakkefiicaaLasts
import Derived.ArgAppend
namespace Go.Proofs.Ythmloakkefiicaa.dk
open Go.ChangeShapes Go.WideShapes Go.ChangeAt Go.RowKit

def imgL (bs : List Int) (n k : Nat) : List Int := bs.take (k * 512) ++ rep (n * 512 - k * 512) 0
def secL (bs : List Int) (k : Nat) : List Int := (bs.drop (k * 512)).take 512
theorem imgL_length (bs : List Int) (n k : Nat) (hb : bs.length = n * 512) (hk : k ≤ n) : (imgL bs n k).length = n * 512 := by
  simp [imgL, rep]; omega
theorem imgL_next (bs : List Int) (n k : Nat) (hb : bs.length = n * 512) (hk : k < n) : splice (imgL bs n k) (k * 512) (secL bs k) = imgL bs n (k + 1) := by
  have e1 : (imgL bs n k).take (k * 512) = bs.take (k * 512) := by
    rw [imgL, List.take_append_of_le_length (by simp; omega), List.take_take, Nat.min_self]
  have e2 : (imgL bs n k).drop (k * 512 + 512) = rep (n * 512 - (k + 1) * 512) 0 := by
    rw [imgL, List.drop_append, List.drop_eq_nil_of_le (by simp; omega)]
    simp [rep]; omega
  have e3 : (secL bs k).length = 512 := by simp [secL]; omega
  unfold splice
  rw [e1, e3, e2, ← List.append_assoc]
  congr 1
  rw [show (k + 1) * 512 = k * 512 + 512 from by omega, List.take_add]
  rfl
theorem from_copy {wr : World} {D S n : Nat} {bs : List Int} (k : Nat) (h : DiskAt wr D S (Dk.fresh n (imgL bs n k))) (hb : bs.length = n * 512) (hk : k < n) (g o c : Nat) (hsrc : ∀ j, j < n * 512 → wr.cell? ⟨g, o + j, none⟩ = some (.int .u8 (bs.getD j 0))) :
    Sem.run Try.prog (Builtin.copy_ #[30, 30] 3 #[Value.slice (some ⟨S, k * 512, none⟩) 512 512, Value.slice (some ⟨g, o + k * 512, none⟩) (n * 512 - k * 512) c]) wr.drew =
      .ok (goInt 512) (wr.drew.setRow S (u8s (imgL bs n (k + 1))).toArray) := by
  have hl : (secL bs k).length = 512 := by simp [secL]; omega
  have hi := imgL_length bs n k hb (by omega)
  have hcp := run_copy_row Try.prog wr.drew 30 30 3 5 S (k * 512) 512 512 ⟨g, o + k * 512, none⟩ (n * 512 - k * 512) c (u8s (imgL bs n k)).toArray 75 (u8s (secL bs k)) Try.underlying30 (by kernel_rfl) h.hs (by rw [u8s_length, hl]; exact (Nat.min_eq_right (by omega)).symm) (fun j v hv => by
      obtain ⟨hj, rfl⟩ := u8s_at _ j v hv
      rw [Addr.add_lit, Nat.add_assoc]
      have e : (secL bs k).getD j 0 = bs.getD (k * 512 + j) 0 := by
        simp [secL, List.getD_eq_getElem?_getD, List.getElem?_take_of_lt (show j < 512 by omega), List.getElem?_drop]
      rw [e]
      exact hsrc (k * 512 + j) (by omega)) (by rw [List.size_toArray, u8s_length, u8s_length, hl, hi]; omega) (u8s_one _)
  rw [hcp, u8s_length, hl, ← imgL_next bs n k hb hk, ← splice_u8s, u8s_length, hl, List.append_assoc]
  rfl
set_option maxHeartbeats 400000 in
theorem from_good (w : World) (n g o c : Nat) (bs : List Int) (hn1 : 1 ≤ n) (hn2 : n ≤ 4096) (hc : n * 512 ≤ c) (hb : bs.length = n * 512) (hsrc : ∀ j, j < n * 512 → w.cell? ⟨g, o + j, none⟩ = some (.int .u8 (bs.getD j 0))) :
    Calls Try.prog 25 #[.slice (some ⟨g, o, none⟩) (n * 512) c] w fun r w' => r = .returned (.tuple #[.pointer (some ⟨w.heap.size + 1, 0, none⟩), .int .i64 0]) ∧
      DiskAt w' (w.heap.size + 1) w.heap.size (Dk.fresh n bs) ∧ Apart [] w w' := by
  have hg : g < w.heap.size := block_lt_of_cell (hsrc 0 (by omega))
  have m1 : ((n : Int) * 512) % 512 = 0 := by omega
  have m2 : ((n : Int) * 512) / 512 = n := by omega
  go_enter Try.func25, Try.ntmps25
  go_wp2_with fail
  refine (new_good _ n hn1 hn2).mono ?_
  rintro r w1 ⟨rfl, hd1, a1⟩
  have k0 : w1.cell? ⟨w.heap.size + 1, 0, none⟩ = some (.slice (some ⟨w.heap.size, 0, none⟩) n n) := hd1.c0
  go_wp2
  go_loopw [26] (fun i wr => ∃ k : Nat, k ≤ n ∧ i = .int .i64 k ∧ DiskAt wr (w.heap.size + 1) w.heap.size (Dk.fresh n (imgL bs n k)) ∧ Apart [] w wr) (fun i _ => n - (intOf i).toNat)
  case atStart =>
    refine ⟨0, Nat.zero_le _, rfl, ?_, a1⟩
    have e : imgL bs n 0 = List.replicate (n * 512) 0 := by simp [imgL, rep]
    rw [e]; exact hd1
  case round =>
    clear k0 hd1 a1
    obtain ⟨k, hk, rfl, hd, ha⟩ := hrel
    have k0 : wr.cell? ⟨w.heap.size + 1, 0, none⟩ = some (.slice (some ⟨w.heap.size, 0, none⟩) n n) := hd.c0
    by_cases hlt : k < n
    · have hcp := from_copy k hd hb hlt g o (c - k * 512) (fun j hj => (ha.cell (p := ⟨g, o + j, none⟩) hg (by simp)).trans (hsrc j hj))
      have hne : ¬ (c = k * 512) := by omega
      have hle : (k : Int) * 512 ≤ (n : Int) * 512 := by omega
      go_wp2_with fail
      go_region
      have hb2 : DiskAt (wr.drew.setRow w.heap.size (u8s (imgL bs n (k + 1))).toArray) (w.heap.size + 1) w.heap.size (Dk.fresh n (imgL bs n (k + 1))) := (hd.drewN 1).putS (imgL bs n (k + 1)) (by rw [imgL_length bs n _ hb (by omega)]; show _ = 512 * n; omega)
      have ha2 : Apart [] w (wr.drew.setRow w.heap.size (u8s (imgL bs n (k + 1))).toArray) := by
        refine ⟨ha.os, ha.tape, ha.output, by simpa using ha.size, fun i hi hx => ?_⟩
        rw [setRow_other _ _ _ _ (by omega)]
        exact ha.block i hi hx
      generalize wr.drew.setRow w.heap.size (u8s (imgL bs n (k + 1))).toArray = W at *
      clear hcp
      go_wp2
      go_roundw
      case rel => exact ⟨k + 1, by omega, by go_num, hb2, ha2⟩
      case measure => simp [intOf]; omega
    · have e : k = n := by omega
      subst e
      go_wp2
      go_ret2
      have e : imgL bs k k = bs := by rw [imgL, List.take_of_length_le (by omega)]; simp [rep]
      rw [e] at hd
      exact ⟨rfl, hd, ha⟩

/-! spoil: written full, and appended to -/
set_option maxHeartbeats 400000 in
theorem spoil_any (w : World) (g len cap : Nat) (cur : Array Value) (hg : w.heap[g]? = some (.cells cur 5 (0, 0))) (hl : len ≤ cap) (hc : cur.size = cap) (hcap : cap ≤ 4194304) (hpos : 0 < len) :
    Calls Try.prog 27 #[.slice (some ⟨g, 0, none⟩) len cap] w fun r w' => r = .returned (.tuple #[]) ∧ Apart [g] w w' ∧ ∃ cur', w'.heap[g]? = some (.cells cur' 5 (0, 0)) ∧ cur'.size = cap := by
  obtain ⟨i0, hi, hz0, hz1, hz2⟩ := info_parts info5
  go_enter Try.func27, Try.ntmps27
  go_wp2
  go_loopw [2] (fun i wr => ∃ k : Nat, k ≤ len ∧ i = .int .i64 k ∧ Apart [g] w wr ∧ ∃ cur', wr.heap[g]? = some (.cells cur' 5 (0, 0)) ∧ cur'.size = cap) (fun i _ => len - (intOf i).toNat)
  case atStart => exact ⟨0, Nat.zero_le _, rfl, Apart.refl _ _, cur, hg, hc⟩
  case round =>
    obtain ⟨k, hk, rfl, ha, cur', hg', hc'⟩ := hrel
    have HG : Hid (wr.heap[g]? = some (.cells cur' 5 (0, 0))) := hg'
    clear hg hc
    by_cases hlt : k < len
    · have e1 : wr.cell? ⟨g, k, none⟩ = some (cur'[k]'(by omega)) := by rw [cell_of_row _ _ _ _ _ _ hg']; simp
      have e2 := frozen_of_row wr g k _ _ hg'
      clear hg'
      go_wp2
      go_roundw
      case rel =>
        refine ⟨k + 1, by omega, by go_num, ha.setCell (by simp) _, _, heap_setCell_same _ _ _ _ _ _ HG.out, by simpa using hc'⟩
      case measure => simp [intOf]; omega
    · have hlw := lt_of_heap hg'
      have hown : wr.ownsRow 0 5 1 (.slice (some ⟨g, 0, none⟩) len cap) len (cur'.toList.take len) :=
        ⟨by simp; omega, .inr ⟨g, cap, cur', rfl, Nat.zero_le _, hg', hl, by unfold maxLen; omega, by omega, by simp⟩⟩
      clear hg'
      by_cases hf : len + 3 ≤ cap
      · go_wp2_with (at_builtin; refine wpList_append_fits _ rfl _ _ 30 rfl 0 5 i0 1 Try.underlying30 hi hz1 g len cap _ rfl (hown.alloc _) ⟨wr.heap.size, 0, none⟩ 3 3 [.int .u8 7, .int .u8 7, .int .u8 7] rfl rfl ?c1 ?c2 hf ?_)
        case c1 =>
          intro j u hj
          match j, hj with
          | 0, hj => simp at hj; subst hj; simp [Addr.add]
          | 1, hj => simp at hj; subst hj; simp [Addr.add]
          | 2, hj => simp at hj; subst hj; simp [Addr.add]
        case c2 => intro u hu; simp at hu; subst hu; rfl
        · intro w1 hown' hgrow
          have e1 := hown'.cellAt (len + 2) (by omega)
          have ev : (cur'.toList.take len ++ [.int .u8 7, .int .u8 7, .int .u8 7])[len + 2]? = some (Value.int .u8 7) := by
            rw [List.getElem?_append_right (by simp; omega)]
            simp only [List.length_take, Array.length_toList]
            rw [show len + 2 - min len cur'.size = 2 from by omega]; rfl
          rw [ev] at e1
          have e2 := hown'.frozenAt (len + 2)
          have ap : Apart [g] w w1 := ((ha.alloc _).trans (apart_grown hgrow))
          obtain ⟨_, ⟨hx, _⟩ | ⟨g', cap', cur2, hx, _, hg2, _, _, hs2, _⟩⟩ := hown'
          · simp at hx
          · simp at hx
            obtain ⟨rfl, rfl⟩ := hx
            have HG2 : Hid (w1.heap[g]? = some (.cells cur2 5 (0, 0))) := hg2
            clear hg2 hgrow hown
            go_wp2
            go_end0
            exact ⟨rfl, ap.setCell (by simp) _, _, heap_setCell_same _ _ _ _ _ _ HG2.out, by simpa using hs2⟩
      · go_wp2_with (at_builtin; refine wpList_append_grows _ rfl _ _ 30 rfl 5 i0 (.int .u8 0) 1 1 Try.underlying30 hi hz0 hz1 hz2 rfl (by decide) (some ⟨g, 0, none⟩) len cap (cur'.toList.take len) rfl (by simp) (by simp; omega) ?c0 ⟨wr.heap.size, 0, none⟩ 3 3 [.int .u8 7, .int .u8 7, .int .u8 7] rfl rfl ?c1 ?c2 (by omega) (by unfold maxLen; omega) (by omega) ?_)
        case c0 =>
          intro b hb j u hu
          simp at hb; subst hb
          rw [Addr.add_lit, World.cell?_alloc_past _ _ _ hlw, cell_of_row _ _ _ _ _ _ HG.out, Nat.zero_add]
          rw [List.getElem?_take] at hu
          split at hu
          · simpa using hu
          · cases hu
        case c1 =>
          intro j u hj
          match j, hj with
          | 0, hj => simp at hj; subst hj; simp [Addr.add]
          | 1, hj => simp at hj; subst hj; simp [Addr.add]
          | 2, hj => simp at hj; subst hj; simp [Addr.add]
        case c2 => intro u hu; simp at hu; subst hu; rfl
        · intro v' w1 hown' hgrow
          have hgk : w1.heap[g]? = some (.cells cur' 5 (0, 0)) := by
            rw [hgrow.block g (by simp; omega) (by simp), Below.heap_alloc _ _ _ hlw]; exact HG.out
          have ap : Apart [g] w w1 := ((ha.alloc _).trans ((apart_grown hgrow).mono (by simp)))
          have hown2 := hown'
          obtain ⟨_, ⟨hx, hx2⟩ | ⟨g', cap', cur2, rfl, hb2, hg2, _, _, hs2, _⟩⟩ := hown'
          · omega
          · have e1 := hown2.cellAt (len + 2) (by omega)
            have ev : (cur'.toList.take len ++ [.int .u8 7, .int .u8 7, .int .u8 7])[len + 2]? = some (Value.int .u8 7) := by
              rw [List.getElem?_append_right (by simp; omega)]
              simp only [List.length_take, Array.length_toList]
              rw [show len + 2 - min len cur'.size = 2 from by omega]; rfl
            rw [ev] at e1
            have e2 := hown2.frozenAt (len + 2)
            have hne : g ≠ g' := by omega
            have HGK : Hid (w1.heap[g]? = some (.cells cur' 5 (0, 0))) := hgk
            have hsz := ap.size
            have hsz2 := ha.size
            have hbb : w.heap.size ≤ g' := by omega
            clear hgk hgrow hown hown2 hg2
            go_wp2
            go_end0
            refine ⟨rfl, ?_, cur', ?_, hc'⟩
            · refine ⟨ap.os, ap.tape, ap.output, by simpa [World.setCell] using ap.size, fun i hi hx => ?_⟩
              rw [heap_setCell_other _ _ _ _ (by show i ≠ g'; omega)]; exact ap.block i hi hx
            · rw [heap_setCell_other _ _ _ _ hne]; exact HGK.out
end Go.Proofs.Ythmloakkefiicaa.dk
