import Derived.Test.YthfjkddninlbcaaRef2
namespace Go.Proofs.Ythfjkddninlbcaa.hp
open Go.ChangeShapes Go.WideShapes Go.ChangeAt Go.RowKit
set_option linter.unusedVariables false
theorem info3 : (Try.prog.info? 3).map (fun i => (i.zero, i.size, i.bytes)) = some (some (.int .i64 0), 1, 8) := by kernel_rfl
def marks (l : List E) : List Value := l.map (fun e => .int .i64 e.m)
theorem marks_length (l : List E) : (marks l).length = l.length := by simp [marks]
theorem marks_take (row : List E) (j : Nat) (hj : j < row.length) : marks (row.take j) ++ [.int .i64 (g row j).m] = marks (row.take (j + 1)) := by
  have e : row.take (j + 1) = row.take j ++ [g row j] := by rw [List.take_add_one, List.getElem?_eq_getElem hj, g_eq _ _ hj]; rfl
  rw [e]
  simp only [marks, List.map_append, List.map_cons, List.map_nil]
theorem one_news {w : World} {ad : Addr} {x : Value} (h : w.cell? (ad.add 0) = some x) : ∀ j u, [x][j]? = some u → w.cell? (ad.add j) = some u := by
  intro j u hj
  match j, hj with
  | 0, hj => simp at hj; subst hj; exact h
theorem new_cell (w : World) (n : Nat) (hn : n = w.heap.size) (x : Value) (t : TypeId) : (w.alloc (.cells #[x] t)).cell? ⟨n, 0, none⟩ = some x := by
  subst hn
  rw [cell_of_row _ _ _ _ _ _ (heap_alloc_new w (.cells #[x] t))]; rfl
theorem own_slice {w : World} {b : Nat} {e : TypeId} {size : Nat} {v : Value} {n : Nat} {xs : List Value} (h : w.ownsRow b e size v n xs) : ∃ p c, v = .slice p n c := by
  obtain ⟨_, ⟨hv, hz⟩ | ⟨g', cap', cur, hv, _⟩⟩ := h
  · exact ⟨none, 0, by rw [hv, hz]⟩
  · exact ⟨_, _, hv⟩
theorem place_row (w : World) (W q : Nat) (lv : Value) (L row : List E) (h : LAt w W q lv L) (inc : Inc L) (p : L.Perm row) (up : Up row) (di : Dist row) (k : Nat) (hk : k < row.length) :
    Calls Try.prog 35 #[.pointer (some ⟨W, q, none⟩), .int .i64 k] w fun r w' => ∃ z i : Nat, w' = w.drewN z ∧ r = .returned (.int .i64 i) ∧ i < L.length ∧ g L i = g row k := by
  refine (place_at w W q lv L h inc k).mono ?_
  rintro r w' ⟨⟨z, rfl⟩, ⟨i, hi, hc, rfl⟩ | ⟨hno, rfl⟩⟩
  · exact ⟨z, i, rfl, rfl, hi, (place_some p up di i k hi (by omega)).2⟩
  · obtain ⟨i, hi, hc⟩ := place_ex p up di k hk
    exact absurd (by omega) (hno i hi)
set_option maxHeartbeats 1000000 in
theorem rall_at (w : World) (W q : Nat) (lv : Value) (L row : List E) (h : LAt w W q lv L) (inc : Inc L) (p : L.Perm row) (up : Up row) (di : Dist row) (hWs : W < w.heap.size) (N : Nat) (hN : row.length = N) :
    Calls Try.prog 33 #[.pointer (some ⟨W, q, none⟩)] w fun r w' => ∃ pp cc, r = .returned (.slice pp N cc) ∧ w'.ownsRow 0 3 1 (.slice pp N cc) N (marks row) ∧ Apart [] w w' := by
  obtain ⟨i0, hi0, hz0, hz1, hz2⟩ := info_parts info3
  have hLN : L.length = N := by rw [p.length_eq, hN]
  obtain ⟨p0, c0, hv⟩ := h.shape0
  have hc := h.hc
  rw [hv, hLN] at hc
  have hll := h.hl
  rw [hLN] at hll
  have HV : Hid (lv = .slice p0 L.length c0) := hv
  have HLN : Hid (L.length = N) := hLN
  have HN : Hid (row.length = N) := hN
  clear hLN hN hv
  have hcellN : ∀ Wd, Apart [] w Wd → Wd.cell? ⟨W, q, none⟩ = some (.slice p0 N c0) := fun Wd a => (a.cell (p := ⟨W, q, none⟩) hWs (by simp)).trans hc
  go_enter Try.func33, Try.ntmps33
  go_wp2
  go_loopw [3, 4] (fun v x wr => ∃ j : Nat, j ≤ N ∧ x = .int .i64 j ∧ Apart [] w wr ∧ (∃ pp cc, v = .slice pp j cc) ∧ wr.ownsRow 0 3 1 v j (marks (row.take j)) ∧ (∀ b, v.ownBlock = some b → w.heap.size ≤ b)) (fun _ x _ => N - (intOf x).toNat)
  case atStart => exact ⟨0, Nat.zero_le _, rfl, Apart.refl _ _, ⟨none, 0, rfl⟩, by simpa [marks] using World.ownsRow_nil w 0 3 1, by simp [Value.ownBlock]⟩
  case round =>
    obtain ⟨j, hj, rfl, ap, ⟨pp, cc, rfl⟩, own, hnw⟩ := hrel
    have cW := hcellN wr ap
    by_cases hlt : j < N
    · have hl0 : 0 < L.length := by rw [HLN.out]; omega
      obtain ⟨G, c', hv2⟩ := h.shape hl0
      have hpG : p0 = some ⟨G, 0, none⟩ := by
        have := HV.out.symm.trans hv2
        simp at this; exact this.1
      subst hpG
      have hGs : G < w.heap.size := by
        have ho := h.own
        rw [hv2] at ho
        exact (ho.lt G rfl).2
      have hLr : LAt wr W q lv L := ⟨by rw [cW, HV.out, HLN.out], own_apart h.own ap (by simp), h.hl⟩
      have hP := fun Wd (e : ∃ z, Wd = wr.drewN z) => place_row Wd W q lv L row (by obtain ⟨z, rfl⟩ := e; exact hLr.drewN z) inc p up di j (by rw [HN.out]; exact hlt)
      have hcell : ∀ i, i < L.length → wr.cell? ⟨G, i * 2 + 1, none⟩ = some (.int .i64 (g L i).m) := by
        intro i hi
        have h2 := hLr
        rw [hv2] at h2
        exact h2.e1 i hi
      clear hv2
      go_wp2_with fail
      go_region_law (first | (refine step_append2 rfl (.tmp 14) (.tmp 25) 22 rfl 3 i0 (.int .i64 0) 1 8 Try.underlying22 hi0 hz0 hz1 hz2 rfl (by decide) (.slice pp j cc) j (marks (row.take j)) rfl (World.ownsRow.alloc own _) ⟨wr.heap.size, 0, none⟩ 1 1 [.int .i64 (g row j).m] rfl (by decide) rfl (one_news (new_cell _ _ rfl _ _)) (by intro u hu; simp at hu; subst hu; rfl) (by unfold maxLen; omega) (by omega) ?_; intro v' w4 own4 gr4 nw4; rw [marks_take row j (by rw [HN.out]; exact hlt)] at own4; obtain ⟨pp2, cc2, hv4⟩ := own_slice own4; subst hv4) | (go_simp; refine (hP _ ⟨1, rfl⟩).mono ?_; rintro r w5 ⟨z, i, rfl, rfl, hi, hg⟩; have e1 := hcell i hi; rw [hg] at e1; have hiI : (i : Int) < (N : Int) := (by have := HLN.out; omega); dsimp only))
      all_goals
        have ap4 : Apart [] w w4 := ((ap.drewN (1 + z)).alloc (.cells #[.int .i64 (g row j).m] 3)).trans' (apart_grown gr4) (by intro y hy; right; exact hnw y (by simpa using hy))
        have hnw4 := (NewOr.sub (w' := wr) nw4 (by simp)).past ap.size hnw
        clear gr4 nw4 own hnw ap hP hcell e1
        go_wp2
        go_roundw
        case rel => exact ⟨j + 1, by omega, by go_num, ap4, ⟨_, _, rfl⟩, own4, hnw4⟩
        case measure => simp [intOf]; omega
    · obtain rfl : j = N := by omega
      rw [List.take_of_length_le (by rw [HN.out]; exact Nat.le_refl _)] at own
      clear hnw h hcellN
      go_wp2
      go_ret
      exact ⟨_, _, rfl, own, ap⟩
end Go.Proofs.Ythfjkddninlbcaa.hp
