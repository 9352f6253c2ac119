import Derived.Test.YthfjkddninlbcaaRef
namespace Go.Proofs.Ythfjkddninlbcaa.hp
open Go.ChangeShapes Go.WideShapes Go.ChangeAt Go.RowKit
set_option linter.unusedVariables false
theorem info75 : (Try.prog.info? 75).map (fun i => (i.zero, i.size, i.bytes)) = some (some (.agg #[.int .i64 0, .int .i64 0]), 2, 16) := by kernel_rfl
theorem flat2_snoc (L : List E) (e : E) : flat2 L ++ [.int .i64 e.r, .int .i64 e.m] = flat2 (L ++ [e]) := by simp [flat2, ec2]
/-- the world's block: the list lies in its cell q -/
structure WL (w : World) (W q : Nat) (cs : Array Value) (lv : Value) (L : List E) : Prop where
  hW : w.heap[W]? = some (.cells cs 61 (0, 0))
  hq : cs[q]? = some lv
  own : w.ownsRow 0 75 2 lv L.length (flat2 L)
  hl : L.length ≤ 1200000
theorem WL.at_ {w : World} {W q : Nat} {cs : Array Value} {lv : Value} {L : List E} (h : WL w W q cs lv L) : LAt w W q lv L := ⟨by rw [cell_of_row _ _ _ _ _ _ h.hW]; exact h.hq, h.own, h.hl⟩
theorem WL.ne {w : World} {W q : Nat} {cs : Array Value} {lv : Value} {L : List E} (h : WL w W q cs lv L) : lv.ownBlock ≠ some W := by
  intro e
  obtain ⟨cur, h2⟩ := own_typ h.own e
  rw [h.hW] at h2; simp at h2
/-- a new list laid into the cell -/
theorem WL.store {w w2 : World} {W q : Nat} {cs : Array Value} {lv lv' : Value} {L L' : List E} {X : List Nat} (h : WL w W q cs lv L) (a : Apart X w w2) (hX : W ∉ X) (own : w2.ownsRow 0 75 2 lv' L'.length (flat2 L')) (hl : L'.length ≤ 1200000) :
    w2.heap[W]? = some (.cells cs 61 (0, 0)) ∧ WL (w2.setCell ⟨W, q, none⟩ lv') W q (cs.setIfInBounds q lv') lv' L' ∧ Apart [W] w2 (w2.setCell ⟨W, q, none⟩ lv') := by
  have hW2 := (a.block W (lt_of_heap h.hW) hX).trans h.hW
  have a2 : Apart [W] w2 (w2.setCell ⟨W, q, none⟩ lv') := (Apart.refl _ _).setCell (by simp) _
  have hqs : q < cs.size := (Array.getElem?_eq_some_iff.1 h.hq).1
  refine ⟨hW2, ⟨heap_setCell_same _ _ _ _ _ _ hW2, by rw [Array.getElem?_setIfInBounds_self_of_lt hqs], own_apart own a2 (fun k hk hm => ?_), hl⟩, a2⟩
  simp at hm
  subst hm
  obtain ⟨cur, h2⟩ := own_typ own hk
  rw [hW2] at h2; simp at h2
set_option maxHeartbeats 400000 in
theorem rpush_at (w : World) (W q : Nat) (cs : Array Value) (lv : Value) (L : List E) (h : WL w W q cs lv L) (e : E) (hl : L.length < 1200000) :
    Calls Try.prog 29 #[.pointer (some ⟨W, q, none⟩), .int .i64 e.r, .int .i64 e.m] w fun r w' => r = .returned (.tuple #[]) ∧ ∃ lv', WL w' W q (cs.setIfInBounds q lv') lv' (L ++ [e]) ∧ Apart (ids W lv) w w' ∧ NewOr w lv lv' := by
  obtain ⟨i0, hi, hz0, hz1, hz2⟩ := info_parts info75
  obtain ⟨p, c, hv⟩ := h.at_.shape0
  have c0 := h.at_.hc
  have hWs := lt_of_heap h.hW
  have aW : Apart [] w (w.alloc (.cells #[.int .i64 e.r, .int .i64 e.m] 75)) := (Apart.refl _ _).alloc _
  obtain ⟨v', w4, hrun, r1, r2, r3⟩ := run_append2 (w.alloc (.cells #[.int .i64 e.r, .int .i64 e.m] 75)) 56 56 75 i0 _ 2 16 Try.underlying56 hi hz0 hz1 hz2 rfl (by decide) lv L.length (flat2 L) (h.own.alloc _) ⟨w.heap.size, 0, none⟩ 1 1 [.int .i64 e.r, .int .i64 e.m] (by decide) rfl (by intro j u hj; match j, hj with | 0, hj => (simp at hj; subst hj; simp [Addr.add]) | 1, hj => (simp at hj; subst hj; simp [Addr.add])) (by intro u hu; simp at hu; rcases hu with rfl | rfl <;> rfl) (by unfold maxLen; omega) (by omega)
  rw [flat2_snoc] at r1
  have ap4 : Apart lv.ownBlock.toList w w4 := (aW.mono (by simp)).trans (apart_grown r2)
  have hS := h.store ap4 (fun m => h.ne (by simpa using m)) (L' := L ++ [e]) (lv' := v') (by simpa using r1) (by simp; omega)
  have c4 := cell_of_row w4 W q _ _ _ hS.1
  rw [h.hq] at c4
  have f4 := frozen_of_row w4 W q _ _ hS.1
  obtain ⟨p2, c2, hv2⟩ := hS.2.1.at_.shape0
  rw [List.length_append, List.length_singleton] at hv2
  have nw := r3.sub aW.size
  rw [hv] at c0 hrun c4
  have hpost : ∃ lv', WL (w4.setCell ⟨W, q, none⟩ v') W q (cs.setIfInBounds q lv') lv' (L ++ [e]) ∧ Apart (ids W lv) w (w4.setCell ⟨W, q, none⟩ v') ∧ NewOr w lv lv' := ⟨v', hS.2.1, (ap4.mono (by simp +contextual [ids])).trans (hS.2.2.mono (by simp [ids])), nw⟩
  rw [hv2] at hrun hpost
  clear hS r1 r2 r3 ap4 aW nw hv hv2 h
  generalize L.length = N at *
  go_enter Try.func29, Try.ntmps29
  go_wp2_with (at_builtin; refine wpList_append3 rfl (.tmp 10) (.tmp 14) 56 rfl _ _ rfl rfl _ _ hrun ?_)
  go_wp2
  go_end0
  exact ⟨rfl, hpost⟩
theorem rleast_none (w : World) (W q : Nat) (cs : Array Value) (lv : Value) (L row : List E) (h : WL w W q cs lv L) (inc : Inc L) (p : L.Perm row) (up : Up row) (di : Dist row) (h0 : row.length = 0) :
    Calls Try.prog 30 #[.pointer (some ⟨W, q, none⟩)] w fun r w' => r = .returned (.tuple #[.int .i64 0, .bool false]) ∧ ∃ z, w' = w.drewN z := by
  have hP := place_at w W q lv L h.at_ inc 0
  have hl0 : L.length = 0 := by rw [p.length_eq, h0]
  go_enter Try.func30, Try.ntmps30
  go_wp2_with fail
  refine hP.mono ?_
  clear hP
  rintro r w' ⟨hz, ⟨i, hi, _⟩ | ⟨_, rfl⟩⟩
  · omega
  · go_wp2
    go_ret2
    exact ⟨rfl, hz⟩
theorem rleast_some (w : World) (W q : Nat) (cs : Array Value) (lv : Value) (L row : List E) (h : WL w W q cs lv L) (inc : Inc L) (p : L.Perm row) (up : Up row) (di : Dist row) (h0 : 0 < row.length) :
    Calls Try.prog 30 #[.pointer (some ⟨W, q, none⟩)] w fun r w' => r = .returned (.tuple #[.int .i64 (g row 0).m, .bool true]) ∧ ∃ z, w' = w.drewN z := by
  have hP := place_at w W q lv L h.at_ inc 0
  have hl0 : 0 < L.length := by rw [p.length_eq]; exact h0
  obtain ⟨G, c, rfl⟩ := h.at_.shape hl0
  have c0 := h.at_.hc
  go_enter Try.func30, Try.ntmps30
  go_wp2_with fail
  refine hP.mono ?_
  clear hP
  rintro r w' ⟨⟨z, rfl⟩, ⟨i, hi, hc, rfl⟩ | ⟨hno, rfl⟩⟩
  · have hg := (place_some p up di i 0 hi (by omega)).2
    have e1 := h.at_.e1 i hi
    rw [hg] at e1
    have hi0 : ¬ ((i : Int) < 0) := by omega
    have hiI : (i : Int) < (L.length : Int) := by omega
    clear hg h hc
    generalize L.length = N at *
    go_wp2
    go_ret2
    exact ⟨rfl, z, rfl⟩
  · obtain ⟨i, hi, hc⟩ := place_ex p up di 0 h0
    exact absurd (by omega) (hno i hi)
theorem rtake_none (w : World) (W q : Nat) (cs : Array Value) (lv : Value) (L row : List E) (h : WL w W q cs lv L) (inc : Inc L) (p : L.Perm row) (up : Up row) (di : Dist row) (k : Int) (hk : k < 0 ∨ (row.length : Int) ≤ k) :
    Calls Try.prog 32 #[.pointer (some ⟨W, q, none⟩), .int .i64 k] w fun r w' => r = .returned (.tuple #[.int .i64 0, .bool false]) ∧ ∃ z, w' = w.drewN z := by
  have hP := place_at w W q lv L h.at_ inc k
  go_enter Try.func32, Try.ntmps32
  go_wp2_with fail
  refine hP.mono ?_
  clear hP
  rintro r w' ⟨hz, ⟨i, hi, hc, _⟩ | ⟨_, rfl⟩⟩
  · have := (place_some p up di i _ hi rfl).1
    omega
  · clear hk
    go_wp2
    go_ret2
    exact ⟨rfl, hz⟩
theorem take_erase_same (L : List E) (i : Nat) (hi : i < L.length) : (L.take (i + 1)).eraseIdx i = (L.take i).eraseIdx i := by
  rw [List.eraseIdx_eq_take_drop_succ, List.take_take, List.drop_eq_nil_of_le (by rw [List.length_take]; omega), List.append_nil, List.eraseIdx_of_length_le (by rw [List.length_take]; omega)]
  congr 1
  omega
theorem take_erase_other (L : List E) (i j : Nat) (hj : j < L.length) (h : j ≠ i) : (L.take (j + 1)).eraseIdx i = (L.take j).eraseIdx i ++ [g L j] := by
  have e : L.take (j + 1) = L.take j ++ [g L j] := by rw [List.take_add_one, List.getElem?_eq_getElem hj, g_eq _ _ hj]; rfl
  rw [e]
  by_cases hlt : i < j
  · rw [List.eraseIdx_append_of_lt_length (by rw [List.length_take]; omega)]
  · rw [List.eraseIdx_of_length_le (by rw [List.length_append, List.length_take, List.length_singleton]; omega), List.eraseIdx_of_length_le (by rw [List.length_take]; omega)]
theorem NewOr.past {w : World} {v v' : Value} {B : Nat} (h : NewOr w v v') (hB : B ≤ w.heap.size) (hv : ∀ k, v.ownBlock = some k → B ≤ k) : ∀ k, v'.ownBlock = some k → B ≤ k := by
  intro k hk
  rcases h with e | ⟨q, e, hq⟩
  · exact hv k (e ▸ hk)
  · rw [e] at hk; simp at hk; subst hk; omega
set_option maxHeartbeats 1000000 in
theorem rtake_some (w : World) (W q : Nat) (cs : Array Value) (lv : Value) (L row : List E) (h : WL w W q cs lv L) (inc : Inc L) (p : L.Perm row) (up : Up row) (di : Dist row) (k : Nat) (hk : k < row.length) :
    Calls Try.prog 32 #[.pointer (some ⟨W, q, none⟩), .int .i64 k] w fun r w' => r = .returned (.tuple #[.int .i64 (g row k).m, .bool true]) ∧ ∃ i lv', i < L.length ∧ g L i = g row k ∧ WL w' W q (cs.setIfInBounds q lv') lv' (L.eraseIdx i) ∧ Apart [W] w w' ∧ (∀ b, lv'.ownBlock = some b → w.heap.size ≤ b) := by
  obtain ⟨i0, hi0, hz0, hz1, hz2⟩ := info_parts info75
  have hP := place_at w W q lv L h.at_ inc k
  have hl0 : 0 < L.length := by rw [p.length_eq]; omega
  obtain ⟨G, c, rfl⟩ := h.at_.shape hl0
  have c0 := h.at_.hc
  have hWs := lt_of_heap h.hW
  have hGs : G < w.heap.size := (h.own.lt G rfl).2
  have hll := h.hl
  go_enter Try.func32, Try.ntmps32
  go_wp2_with fail
  refine hP.mono ?_
  clear hP
  rintro r w' ⟨⟨z, rfl⟩, ⟨i, hi, hc, rfl⟩ | ⟨hno, rfl⟩⟩
  · have hg := (place_some p up di i k hi (by omega)).2
    have e1 := h.at_.e1 i hi
    rw [hg] at e1
    have HG : Hid (g L i = g row k) := hg
    have hi1 : ¬ ((i : Int) < 0) := by omega
    obtain ⟨N, hN⟩ : ∃ N, L.length = N := ⟨_, rfl⟩
    have HN : Hid (L.length = N) := hN
    have h' := h
    have hcellN : ∀ Wd, Apart [] w Wd → Wd.cell? ⟨W, q, none⟩ = some (.slice (some ⟨G, 0, none⟩) N c) := fun Wd a => by rw [a.cell (p := ⟨W, q, none⟩) hWs (by simp), ← hN]; exact c0
    rw [hN] at c0 hi hll
    have hiI : (i : Int) < (N : Int) := by omega
    clear hg hc hN
    go_wp2
    go_loopw [8, 9] (fun v x wr => ∃ j : Nat, j ≤ N ∧ x = .int .i64 j ∧ Apart [] w wr ∧ (∃ pp cc, v = .slice pp ((L.take j).eraseIdx i).length cc) ∧ wr.ownsRow 0 75 2 v ((L.take j).eraseIdx i).length (flat2 ((L.take j).eraseIdx i)) ∧ (∀ b, v.ownBlock = some b → w.heap.size ≤ b)) (fun _ x _ => N - (intOf x).toNat)
    case atStart => exact ⟨0, Nat.zero_le _, rfl, (Apart.refl _ _).drewN _, ⟨none, 0, by simp⟩, by simpa [flat2] using World.ownsRow_nil (w.drewN z) 0 75 2, by simp [Value.ownBlock]⟩
    case round =>
      obtain ⟨j, hj, rfl, ap, ⟨pp, cc, rfl⟩, own, hnw⟩ := hrel
      have cW := hcellN wr ap
      by_cases hlt : j < N
      · by_cases hji : j = i
        · subst hji
          have te := take_erase_same L j (by rw [HN.out]; exact hlt)
          have HTE : Hid ((L.take (j + 1)).eraseIdx j = (L.take j).eraseIdx j) := te
          clear te c0 e1
          go_wp2
          go_roundw
          case rel => exact ⟨j + 1, by omega, by go_num, ap, ⟨pp, cc, by rw [HTE.out]⟩, by rw [HTE.out]; exact own, hnw⟩
          case measure => simp [intOf]; omega
        · have te := take_erase_other L i j (by rw [HN.out]; exact hlt) hji
          have hjl : ((L.take j).eraseIdx i).length ≤ N := Nat.le_trans (List.length_eraseIdx_le _ _) (by simp; omega)
          have q0 := (ap.cell (p := ⟨G, j * 2, none⟩) hGs (by simp)).trans (h'.at_.e0 j (by rw [HN.out]; exact hlt))
          have q1 := (ap.cell (p := ⟨G, j * 2 + 1, none⟩) hGs (by simp)).trans (h'.at_.e1 j (by rw [HN.out]; exact hlt))
          have jI : (j : Int) < (N : Int) := by omega
          have hne : ((j : Int) != (i : Int)) = true := by rw [bne_iff_ne]; omega
          have aW : Apart [] wr (wr.alloc (.cells #[.int .i64 (g L j).r, .int .i64 (g L j).m] 75)) := (Apart.refl _ _).alloc _
          obtain ⟨v', w4, hrun, r1, r2, r3⟩ := run_append2 (wr.alloc (.cells #[.int .i64 (g L j).r, .int .i64 (g L j).m] 75)) 56 56 75 i0 _ 2 16 Try.underlying56 hi0 hz0 hz1 hz2 rfl (by decide) (.slice pp ((L.take j).eraseIdx i).length cc) ((L.take j).eraseIdx i).length (flat2 ((L.take j).eraseIdx i)) (own.alloc _) ⟨wr.heap.size, 0, none⟩ 1 1 [.int .i64 (g L j).r, .int .i64 (g L j).m] (by decide) rfl (by intro j u hj; match j, hj with | 0, hj => (simp at hj; subst hj; simp [Addr.add]) | 1, hj => (simp at hj; subst hj; simp [Addr.add])) (by intro u hu; simp at hu; rcases hu with rfl | rfl <;> rfl) (by unfold maxLen; omega) (by omega)
          rw [flat2_snoc, ← te] at r1
          have hlen : ((L.take (j + 1)).eraseIdx i).length = ((L.take j).eraseIdx i).length + 1 := by rw [te]; simp
          rw [← hlen] at r1
          have ap4 : Apart [] w w4 := (ap.trans aW).trans' (apart_grown r2) (by intro y hy; right; exact hnw y (by simpa using hy))
          have hnw4 := (r3.sub aW.size).past ap.size hnw
          obtain ⟨pp2, cc2, hv2⟩ : ∃ pp cc, v' = .slice pp ((L.take (j + 1)).eraseIdx i).length cc := by
            obtain ⟨_, ⟨hv, hz⟩ | ⟨g', cap', cur, hv, _⟩⟩ := r1
            · exact ⟨none, 0, by rw [hv, hz]⟩
            · exact ⟨_, _, hv⟩
          subst hv2
          have HTE : Hid ((L.take (j + 1)).eraseIdx i = (L.take j).eraseIdx i ++ [g L j]) := te
          clear te hlen r2 r3 aW own hnw ap c0 e1
          go_wp2_with (at_builtin; refine wpList_append3 rfl (.tmp 35) (.tmp 43) 56 rfl _ _ rfl rfl _ _ hrun ?_)
          clear hrun
          go_wp2
          go_roundw
          case rel => exact ⟨j + 1, by omega, by go_num, ap4, ⟨_, _, rfl⟩, r1, hnw4⟩
          case measure => simp [intOf]; omega
      · obtain rfl : j = N := by omega
        have te : L.take j = L := List.take_of_length_le (by rw [HN.out]; exact Nat.le_refl _)
        rw [te] at own hnw
        have hS := h'.store ap (by simp) (L' := L.eraseIdx i) own (Nat.le_trans (List.length_eraseIdx_le _ _) (by rw [HN.out]; exact hll))
        have f4 := frozen_of_row wr W q _ _ hS.1
        have hpost : ∃ i' lv', i' < L.length ∧ g L i' = g row k ∧ WL (wr.setCell ⟨W, q, none⟩ (.slice pp (L.eraseIdx i).length cc)) W q (cs.setIfInBounds q lv') lv' (L.eraseIdx i') ∧ Apart [W] w (wr.setCell ⟨W, q, none⟩ (.slice pp (L.eraseIdx i).length cc)) ∧ (∀ b, lv'.ownBlock = some b → w.heap.size ≤ b) :=
          ⟨i, _, by rw [HN.out]; exact hi, HG.out, hS.2.1, (ap.mono (by simp)).trans hS.2.2, hnw⟩
        rw [te]
        clear hS own hnw ap h' h c0 e1 hcellN te
        go_wp2
        go_ret2
        exact ⟨rfl, hpost⟩
  · obtain ⟨i, hi, hc⟩ := place_ex p up di k hk
    exact absurd (by omega) (hno i hi)
end Go.Proofs.Ythfjkddninlbcaa.hp
