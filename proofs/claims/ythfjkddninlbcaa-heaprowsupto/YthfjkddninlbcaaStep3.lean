import Derived.Test.YthfjkddninlbcaaStep2
namespace Go.Proofs.Ythfjkddninlbcaa.hp
open Go.ChangeShapes Go.WideShapes Go.ChangeAt Go.RowKit
set_option linter.unusedVariables false
section
variable {w0 w : World} {W : Nat} {S : Nat → SD} {av : Value} {A : List E}
set_option maxHeartbeats 2000000 in
set_option maxRecDepth 100000 in
theorem step2_ok (h : WS w0 w W S av A) (gd : ∀ i, i < 2 → Good A (S i)) (t : Nat) (hA : A.length ≤ t) (hn : ∀ i, i < 2 → (S i).n ≤ t ∧ (S i).L.length ≤ t) (who a b : Int) :
    Calls Try.prog 24 #[.pointer (some ⟨W, 0, none⟩), .agg #[.int .i64 who, .int .i64 2, .int .i64 a, .int .i64 b]] w fun r w' => r = .returned (.bool true) ∧ SP w0 w' W (t + 1) := by
  obtain ⟨i, hi, hbi⟩ := who2 who
  have iI : (i : Int) < 2 := by omega
  have hWs := lt_of_heap h.hW
  have a1 : Apart [] w (w.alloc (.cells #[.int .i64 who, .int .i64 2, .int .i64 a, .int .i64 b] 63)) := (Apart.refl [] w).alloc _
  have h1 := h.kept a1
  obtain ⟨N, hN⟩ : ∃ N, (S i).L.length = N := ⟨_, rfl⟩
  have hrow : (S i).row.length = N := by rw [(gd i hi).rel, List.length_map, ← (h.rp i hi).perm.length_eq, hN]
  have hL := fun z => hp_len ((h1.hp i hi).kept ((Apart.refl [] (w.alloc (.cells #[.int .i64 who, .int .i64 2, .int .i64 a, .int .i64 b] 63))).drewN z) (by simp)) N hrow
  have cp := h1.cp i hi
  have cl := h1.cl i hi
  obtain ⟨pl, cl2, hlv⟩ := own_slice (h.rp i hi).own
  rw [hlv, hN] at cl
  have post := fun z => SP.same h gd t hA hn (a1.drewN z)
  have d1 : ((N : Int) == (N : Int)) = true := by simp
  clear h h1 hrow hN hlv
  go_enter Try.func24, Try.ntmps24
  go_wp2_with fail
  go_quiet (first | (go_at_call 14; refine Calls.quiet_of_same (hL _)))
  go_wp2
  go_ret
  exact ⟨rfl, post _⟩
/-- both have taken the k-th out -/
theorem SP.taken {w1 w2 w3 : World} (h1 : WS w0 w1 W S av A) (gd : ∀ i, i < 2 → Good A (S i)) (t : Nat) (hA : A.length ≤ t) (hn : ∀ i, i < 2 → (S i).n ≤ t ∧ (S i).L.length ≤ t) (i : Nat) (hi : i < 2) (k : Nat) (hk : k < (S i).rl.length) (v6 : Value) (hw2 : WS w0 w2 W (upd S i { S i with v := v6, row := (S i).row.eraseIdx k, n := (S i).n }) av A)
    (q : Nat) (lv' : Value) (hq : q < (S i).L.length) (hg : g (S i).L q = g (S i).rl k) (hwl : WL w3 W (2 + i) ((wc (upd S i { S i with v := v6, row := (S i).row.eraseIdx k, n := (S i).n }) av).setIfInBounds (2 + i) lv') lv' ((S i).L.eraseIdx q)) (a3 : Apart [W] w2 w3) (hnw : ∀ b, lv'.ownBlock = some b → w2.heap.size ≤ b) :
    WS w0 w3 W (upd S i { S i with v := v6, row := (S i).row.eraseIdx k, lv := lv', L := (S i).L.eraseIdx q, rl := (S i).rl.eraseIdx k }) av A ∧ (∀ j, j < 2 → Good A (upd S i { S i with v := v6, row := (S i).row.eraseIdx k, lv := lv', L := (S i).L.eraseIdx q, rl := (S i).rl.eraseIdx k } j)) ∧ ∀ j, j < 2 → (upd S i { S i with v := v6, row := (S i).row.eraseIdx k, lv := lv', L := (S i).L.eraseIdx q, rl := (S i).rl.eraseIdx k } j).n ≤ t ∧ (upd S i { S i with v := v6, row := (S i).row.eraseIdx k, lv := lv', L := (S i).L.eraseIdx q, rl := (S i).rl.eraseIdx k } j).L.length ≤ t := by
  have rp := h1.rp i hi
  have hws := hw2.ref i hi a3 (by intro x hx; simp at hx; exact .inl hx) lv' ((S i).L.eraseIdx q) ((S i).rl.eraseIdx k) hwl (List.Pairwise.sublist (List.eraseIdx_sublist _ _) rp.inc) (perm_erase rp.perm q k hq hk hg) (rp.up.erase k) (rp.di.erase k) (fun b hb => .inr (hnw b hb))
  rw [upd_same, upd_upd] at hws
  refine ⟨hws, good_upd gd ((gd i hi).erase k v6 lv' _), fun j hj => ?_⟩
  by_cases e : j = i
  · subst e
    rw [upd_same]
    have := hn j hj
    refine ⟨this.1, ?_⟩
    exact Nat.le_trans (List.length_eraseIdx_le _ _) this.2
  · rw [upd_other _ _ _ _ e]; exact hn j hj
set_option maxHeartbeats 2000000 in
set_option maxRecDepth 100000 in
theorem step4_ok (h : WS w0 w W S av A) (gd : ∀ i, i < 2 → Good A (S i)) (t : Nat) (hA : A.length ≤ t) (hn : ∀ i, i < 2 → (S i).n ≤ t ∧ (S i).L.length ≤ t) (who a b : Int) :
    Calls Try.prog 24 #[.pointer (some ⟨W, 0, none⟩), .agg #[.int .i64 who, .int .i64 4, .int .i64 a, .int .i64 b]] w fun r w' => r = .returned (.bool true) ∧ SP w0 w' W (t + 1) := by
  obtain ⟨i, hi, hbi⟩ := who2 who
  have iI : (i : Int) < 2 := by omega
  have hWs := lt_of_heap h.hW
  have cp := h.cp i hi
  have a1 : Apart [] w (w.alloc (.cells #[.int .i64 who, .int .i64 4, .int .i64 a, .int .i64 b] 63)) := (Apart.refl [] w).alloc _
  have h1 := h.kept a1
  have hrow : (S i).row.length = (S i).rl.length := by rw [(gd i hi).rel, List.length_map]
  by_cases h0 : (S i).rl.length = 0
  · have hL := hp_pop_none (h1.hp i hi) (by rw [hrow]; exact h0)
    go_enter Try.func24, Try.ntmps24
    go_wp2_with fail
    refine hL.mono ?_
    clear hL
    rintro r w2 ⟨rfl, a2⟩
    have a2' : Apart [] _ (w2.alloc (.cells #[.int .i64 0, .int .i64 0] 28)) := a2.alloc _
    have h2 := h1.kept a2'
    have hR := rtake_none _ W (2 + i) _ _ _ _ (h2.wl i hi) (h2.rp i hi).inc (h2.rp i hi).perm (h2.rp i hi).up (h2.rp i hi).di 0 (.inr (by omega))
    go_wp2_with fail
    refine hR.mono ?_
    clear hR
    rintro r w3 ⟨rfl, z, rfl⟩
    have hI := item_none ((w2.alloc (.cells #[.int .i64 0, .int .i64 0] 28)).drewN z) W 0
    go_wp2_with fail
    refine hI.mono ?_
    rintro r w4 ⟨rfl, a4⟩
    have post := SP.same h gd t hA hn (((a1.trans a2').drewN z).trans a4)
    clear hI h h1 h2 a1 a2 a2' a4
    go_wp2
    go_ret
    exact ⟨rfl, post⟩
  · have hL := hp_pop (h1.hp i hi) (by rw [hrow]; omega)
    have hg : g (S i).row 0 = cv A (g (S i).rl 0) := by rw [(gd i hi).rel]; exact g_map A _ 0 (by omega)
    rw [hg] at hL
    clear hg
    go_enter Try.func24, Try.ntmps24
    go_wp2_with fail
    refine hL.mono ?_
    clear hL
    rintro r w2 ⟨rfl, v6, hp6, a2, nw6⟩
    have h2 := h1.heap i hi a2 v6 _ _ nw6 hp6
    have a2' : Apart [] w2 (w2.alloc (.cells #[.int .i64 (cv A (g (S i).rl 0)).r, .int .i64 (cv A (g (S i).rl 0)).m] 28)) := (Apart.refl _ _).alloc _
    have h2' := h2.kept a2'
    have bX := heap_alloc_new w2 (.cells #[.int .i64 (cv A (g (S i).rl 0)).r, .int .i64 (cv A (g (S i).rl 0)).m] 28)
    have hwl := h2'.wl i hi
    rw [upd_same] at hwl
    have rp2 := h1.rp i hi
    have hR : Calls Try.prog 32 #[.pointer (some ⟨W, 2 + i, none⟩), .int .i64 0] _ _ := rtake_some _ W (2 + i) _ _ _ (S i).rl hwl rp2.inc rp2.perm rp2.up rp2.di 0 (by omega)
    have hWs2 := lt_of_heap h2.hW
    clear hwl
    go_wp2_with fail
    refine hR.mono ?_
    clear hR
    rintro r w3 ⟨rfl, q, lv', hq, hgq, hwl3, a3, hnw3⟩
    obtain ⟨h3, gd3, hn3⟩ := SP.taken h1 gd t hA hn i hi 0 (by omega) v6 h2' q lv' hq hgq hwl3 a3 hnw3
    have bX3 := (a3.block _ (lt_of_heap bX) (by simp; omega)).trans bX
    have y0 := cell_of_row w3 w2.heap.size 0 _ _ _ bX3
    have y1 := cell_of_row w3 w2.heap.size 1 _ _ _ bX3
    simp only [List.getElem?_toArray, List.getElem?_cons_zero, List.getElem?_cons_succ] at y0 y1
    have hI := h3.item (g (S i).rl 0) ((gd i hi).idx _ (by rw [g_eq _ _ (by omega)]; exact List.getElem_mem _))
    go_wp2_with fail
    refine hI.mono ?_
    rintro r w4 ⟨rfl, a4⟩
    have post : SP w0 w4 W (t + 1) := SP.same h3 gd3 t hA hn3 a4
    clear hI h h1 h2 h2' h3 gd3 a1 a2 a2' a3 a4 bX bX3 hp6 nw6 hwl3
    go_wp2
    go_ret
    exact ⟨rfl, post⟩
end
end Go.Proofs.Ythfjkddninlbcaa.hp
