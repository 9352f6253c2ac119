import Derived.Test.YtopmhacnopfifaaRL0
namespace Go.Proofs.Ytopmhacnopfifaa.tm
open Go.ChangeShapes Go.WideShapes Go.ChangeAt Go.RowKit
set_option linter.unusedVariables false
set_option linter.unusedSimpArgs false
def cutN (k : Int) (L : List E) : List E := L.filter (fun e => decide (e.m ≠ k))
theorem cutN_no (L : List E) (k : Int) (j : Nat) (hj : j < L.length) (h : (g L j).m = k) : cutN k (L.take (j + 1)) = cutN k (L.take j) := by
  have e : L.take (j + 1) = L.take j ++ [g L j] := by rw [List.take_add_one, List.getElem?_eq_getElem hj, g_eq _ _ hj]; rfl
  rw [e]; simp [cutN, h]
theorem cutN_yes (L : List E) (k : Int) (j : Nat) (hj : j < L.length) (h : (g L j).m ≠ k) : cutN k (L.take (j + 1)) = cutN k (L.take j) ++ [g L j] := by
  have e : L.take (j + 1) = L.take j ++ [g L j] := by rw [List.take_add_one, List.getElem?_eq_getElem hj, g_eq _ _ hj]; rfl
  rw [e]; simp [cutN, h]
theorem cutN_len (L : List E) (k : Int) (j : Nat) : (cutN k (L.take j)).length ≤ j := Nat.le_trans (List.length_filter_le _ _) (by simp; omega)
structure CI (w wr : World) (j : Nat) (v : Value) (L : List E) (k : Int) : Prop where
  ap : Apart [] w wr
  own : wr.ownsRow w.heap.size 46 4 v (cutN k (L.take j)).length (flat2 (cutN k (L.take j)))
structure RCan (w w' : World) (r : Ending) (R o : Nat) (cs : Array Value) (lv : Value) (L : List E) (n : Nat) (nw k : Int) : Prop where
  ex : r = .returned (.bool (decide ((cutN k L).length < L.length))) ∧ ∃ lv', Rq w' R o (cs.setIfInBounds o lv') lv' (cutN k L) n nw ∧ Apart [R] w w' ∧ NewB w lv lv'
set_option maxHeartbeats 2000000 in
set_option maxRecDepth 100000 in
theorem rcancel_ok {w : World} {R o : Nat} {cs : Array Value} {lv : Value} {L : List E} {n : Nat} {nw : Int} (h : Rq w R o cs lv L n nw) (k : Int) :
    Calls Try.prog 51 #[.pointer (some ⟨R, o, none⟩), .int .i64 k] w fun r w' => RCan w w' r R o cs lv L n nw k := by
  have hRs := lt_of_heap h.hR
  obtain ⟨N, hLN⟩ : ∃ N, L.length = N := ⟨_, rfl⟩
  obtain ⟨pl, c, hv⟩ := h.shape0
  rw [hLN] at hv
  have cR : ∀ X, Apart [] w X → X.cell? ⟨R, o, none⟩ = some (.slice pl N c) := fun X a => by rw [a.cell (p := ⟨R, o, none⟩) hRs (by simp), cell_of_row _ _ _ _ _ _ h.hR, h.h0, hv]
  have hN12 : N ≤ 1200000 := by rw [← hLN]; exact h.hl
  have hown := h.own
  rw [hLN, hv] at hown
  have HOW := hid hown
  have HLN := hid hLN
  have HRQ := hid h
  clear h hown hLN hv
  go_enter Try.func51, Try.ntmps51
  go_wp2_with fail
  go_loopw [5, 6] (fun v x wr => ∃ j : Nat, j ≤ N ∧ x = .int .i64 j ∧ CI w wr j v L k) (fun _ x _ => N - (intOf x).toNat)
  case atStart => exact ⟨0, Nat.zero_le _, rfl, Apart.refl _ _, World.ownsRow_nil w _ 46 4⟩
  case round =>
    obtain ⟨j, hj, rfl, hI⟩ := hrel
    have cW := cR wr hI.ap
    obtain ⟨ov, oc, rfl⟩ := own_shape hI.own
    have HI := hid hI
    clear hI
    by_cases hlt : j < N
    · obtain ⟨G, rfl⟩ : ∃ G, pl = some ⟨G, 0, none⟩ := by
        obtain ⟨_, ⟨hv, hz⟩ | ⟨g', cap', cur, hv, _⟩⟩ := HOW.out
        · omega
        · simp at hv; exact ⟨g', hv.1⟩
      obtain ⟨g0, g1, g2, g3⟩ := own4_get (own_apart HOW.out HI.out.ap (by simp)) HLN.out rfl j hlt
      by_cases hm : (g L j).m = k
      · have ec := cutN_no L k j (by rw [HLN.out]; exact hlt) hm
        have HEC := hid ec
        rw [hm] at g1
        clear ec hm cR
        go_wp2
        go_roundw
        case rel => exact ⟨j + 1, by omega, by go_num, HI.out.ap, by rw [HEC.out]; exact HI.out.own⟩
        case measure => simp [intOf]; omega
      · have ec := cutN_yes L k j (by rw [HLN.out]; exact hlt) hm
        have hcl := cutN_len L k j
        have aw : Apart [] wr (wr.alloc (.cells #[.int .i64 (g L j).r, .int .i64 (g L j).m, .int .i64 (g L j).k, .int .i64 (g L j).c] 46)) := (Apart.refl _ _).alloc _
        obtain ⟨e, He⟩ : ∃ e, Hid (g L j = e) := ⟨_, rfl⟩
        rw [He.out] at g0 g1 g2 g3 ec hm aw
        obtain ⟨v2, w3, q2, o2, a2⟩ := app_src (wr.alloc (.cells #[.int .i64 e.r, .int .i64 e.m, .int .i64 e.k, .int .i64 e.c] 46)) w.heap.size (.slice ov (cutN k (L.take j)).length oc) (cutN k (L.take j)) (own_apart HI.out.own aw (by simp)) (.slice (some ⟨wr.heap.size, 0, none⟩) 1 1) [e] (.inr ⟨_, _, _, rfl, rfl, fun j u hj => by
          have : flat2 [e] = [.int .i64 e.r, .int .i64 e.m, .int .i64 e.k, .int .i64 e.c] := by simp [flat2, ec2]
          rw [this] at hj
          match j, hj with
          | 0, hj => (simp at hj; subst hj; simp [Addr.add])
          | 1, hj => (simp at hj; subst hj; simp [Addr.add])
          | 2, hj => (simp at hj; subst hj; simp [Addr.add])
          | 3, hj => (simp at hj; subst hj; simp [Addr.add])⟩) (Nat.le_trans HI.out.ap.size aw.size) (by simp; omega)
        have CN : Hid (CI w w3 (j + 1) v2 L k) := ⟨(HI.out.ap.trans aw).trans' a2 (fun y hy => .inr (own_blockB HI.out.own y (by simpa using hy)).1), by rw [ec]; exact o2⟩
        have hb : (e.m != k) = true := by simpa using hm
        clear ec hcl aw o2 a2 cR
        generalize (cutN k (L.take j)).length = M at *
        go_wp2_with (at_builtin; refine wpList_append3 rfl (.tmp 27) (.tmp 35) 49 rfl _ _ rfl rfl _ _ q2 ?_)
        clear q2
        go_wp2
        go_roundw
        case rel => exact ⟨j + 1, by omega, by go_num, CN.out⟩
        case measure => simp [intOf]; omega
    · obtain rfl : j = N := by omega
      have te : L.take j = L := List.take_of_length_le (by rw [HLN.out]; exact Nat.le_refl _)
      rw [te] at HI ⊢
      have own' := HI.out.own
      rw [te] at own'
      have bR := (HI.out.ap.block R hRs (by simp)).trans HRQ.out.hR
      have f4 := frozen_of_row wr R o _ _ bR
      have a5 : Apart [R] wr (wr.setCell ⟨R, o, none⟩ (.slice ov (cutN k L).length oc)) := (Apart.refl _ _).setCell (by simp) _
      have b5 : (wr.setCell ⟨R, o, none⟩ (.slice ov (cutN k L).length oc)).heap[R]? = some (.cells (cs.setIfInBounds o (.slice ov (cutN k L).length oc)) 56 (0, 0)) := heap_setCell_same _ _ _ _ _ _ bR
      have o1s : o < cs.size := (Array.getElem?_eq_some_iff.1 HRQ.out.h0).1
      have hll : (cutN k L).length ≤ L.length := List.length_filter_le _ _
      have P : Hid (RCan w (wr.setCell ⟨R, o, none⟩ (.slice ov (cutN k L).length oc)) (.returned (.bool (decide ((cutN k L).length < L.length)))) R o cs lv L n nw k) := by
        refine ⟨rfl, _, ⟨b5, Array.getElem?_setIfInBounds_self_of_lt o1s, ?_, ?_, ?_, by rw [HLN.out] at hll; omega⟩, (HI.out.ap.mono (by simp)).trans a5, fun k' hk' => .inr (own_blockB own' k' hk').1⟩
        · rw [Array.getElem?_setIfInBounds_ne (by omega)]; exact HRQ.out.h1
        · rw [Array.getElem?_setIfInBounds_ne (by omega)]; exact HRQ.out.h2
        · exact own_base (own_apart own' a5 (fun q hq m => by
            simp at m; subst m
            obtain ⟨cur, h2⟩ := own_typ (own_base own' (Nat.zero_le _)) hq
            rw [bR] at h2; simp at h2)) (Nat.zero_le _)
      rw [HLN.out] at P
      obtain ⟨M, HMM⟩ : ∃ M, Hid ((cutN k L).length = M) := ⟨_, rfl⟩
      rw [HMM.out] at P ⊢
      have hM : M ≤ 1200000 := by have := HMM.out; rw [HLN.out] at hll; omega
      clear te own' bR a5 b5 o1s hll cR
      by_cases hMj : M < j
      · rw [decide_eq_true hMj] at P
        go_wp2
        go_ret
        exact P.out
      · rw [decide_eq_false hMj] at P
        go_wp2
        go_ret
        exact P.out
end Go.Proofs.Ytopmhacnopfifaa.tm
