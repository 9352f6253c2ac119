import Derived.Test.YtmjfocbjkngniaaStep3
namespace Go.Proofs.Ytmjfocbjkngniaa.hp
open Go.ChangeShapes Go.WideShapes Go.ChangeAt Go.RowKit
set_option linter.unusedVariables false
section
variable {w0 w : World} {W : Nat} {S : Nat → SD} {av : Value} {A : List E}
theorem WS.put28 (h : WS w0 w W S av A) {X : Nat} {x y : Value} (hX : w.heap[X]? = some (.cells #[x, y] 28 (0, 0))) (hXn : w0.heap.size ≤ X) (hXa : av.ownBlock ≠ some X) (u v : Value) : WS w0 ((w.setCell ⟨X, 0, none⟩ u).setCell ⟨X, 1, none⟩ v) W S av A := by
  have a : Apart [X] w ((w.setCell ⟨X, 0, none⟩ u).setCell ⟨X, 1, none⟩ v) := ((Apart.refl _ _).setCell (by simp) _).setCell (by simp) _
  have nid : ∀ (k : Nat) (c : Array Value) (t : TypeId), w.heap[k]? = some (.cells c t (0, 0)) → t ≠ 28 → k ∉ [X] := by
    intro k c t hk h1 m
    simp at m
    subst m
    rw [hX] at hk; simp at hk; exact h1 hk.2.symm
  exact { h with
    hW := (a.block W (lt_of_heap h.hW) (nid W _ _ h.hW (by decide))).trans h.hW
    hp := fun i hi => (h.hp i hi).kept a (fun k hk => ⟨fun e => by subst e; obtain ⟨c, e⟩ := (h.hp i hi).typ.1; exact nid _ c _ e (by decide) hk, fun e => by obtain ⟨c, e⟩ := (h.hp i hi).typ.2 k e; exact nid _ c _ e (by decide) hk⟩)
    rp := fun i hi => (h.rp i hi).kept a (fun k hk e => by obtain ⟨c, e⟩ := (h.rp i hi).typ k e; exact nid _ c _ e (by decide) hk)
    all := own_apart h.all a (fun k hk m => by simp at m; subst m; exact hXa hk)
    ap := h.ap.trans' a (by simp; exact hXn) }
set_option maxHeartbeats 4000000 in
set_option maxRecDepth 100000 in
theorem step5_none (h : WS w0 w W S av A) (gd : ∀ i, i < 2 → Good A (S i)) (t : Nat) (hA : A.length ≤ t) (hn : ∀ i, i < 2 → (S i).n ≤ t ∧ (S i).L.length ≤ t) (who a b : Int) (i : Nat) (hi : i < 2) (hbi : bits .and .i64 who 1 = (i : Int)) (hk : a < 0 ∨ ((S i).rl.length : Int) ≤ a) :
    Calls Try.prog 24 #[.pointer (some ⟨W, 0, none⟩), .agg #[.int .i64 who, .int .i64 5, .int .i64 a, .int .i64 b]] w fun r w' => r = .returned (.bool true) ∧ SP w0 w' W (t + 1) := by
  have iI : (i : Int) < 2 := by omega
  have hWs := lt_of_heap h.hW
  have cp := h.cp i hi
  have a1 : Apart [] w (w.alloc (.cells #[.int .i64 who, .int .i64 5, .int .i64 a, .int .i64 b] 63)) := (Apart.refl [] w).alloc _
  have h1 := h.kept a1
  have hrow : (S i).row.length = (S i).rl.length := by rw [(gd i hi).rel, List.length_map]
  have hL := fun Wd (e : Apart [] (w.alloc (.cells #[.int .i64 who, .int .i64 5, .int .i64 a, .int .i64 b] 63)) Wd) => hp_take_none (((h1.kept e).hp i hi)) a (by rw [hrow]; exact hk)
  have o1 : Op4 (w.alloc (.cells #[.int .i64 who, .int .i64 5, .int .i64 a, .int .i64 b] 63)) w.heap.size who 5 a b := ⟨heap_alloc_new w _⟩
  go_enter Try.func24, Try.ntmps24
  go_wp2_with fail
  generalize hO : w.alloc (.cells #[.int .i64 who, .int .i64 5, .int .i64 a, .int .i64 b] 63) = O at *
  have cpO := h1.cp i hi
  have x2 := o1.c2
  have hOs : w.heap.size < O.heap.size := lt_of_heap o1.hb
  have hWO : W < O.heap.size := lt_of_heap h1.hW
  go_cut [14, 15] from 139 to 150 (fun s14 s15 wx => ∃ X, s14 = .pointer (some ⟨X, 0, none⟩) ∧ s15 = .bool false ∧ Apart [] O wx ∧ wx.heap[X]? = some (.cells #[.int .i64 0, .int .i64 0] 28 (0, 0)))
  case first =>
    go_region_with (first | (go_at_call 18; refine (hL _ (by first | exact (Apart.refl _ _).drewN 1 | exact ((Apart.refl _ _).alloc _).drewN 1)).mono ?_; rintro r w2 ⟨rfl, a2⟩; have aO2 : Apart [] O w2 := (by first | exact ((Apart.refl _ _).drewN 1).trans a2 | exact (((Apart.refl _ _).alloc _).drewN 1).trans a2); try (have bQ := (a2.block O.heap.size (by simp) (by simp)).trans (heap_alloc_new O (.cells #[.int .i64 0, .int .i64 0] 28)); have q0 := cell_of_row w2 O.heap.size 0 _ _ _ bQ; have q1 := cell_of_row w2 O.heap.size 1 _ _ _ bQ; have f0 := frozen_of_row w2 O.heap.size 0 _ _ bQ; have f1 := frozen_of_row w2 O.heap.size 1 _ _ bQ; simp only [List.getElem?_toArray, List.getElem?_cons_zero, List.getElem?_cons_succ] at q0 q1)))
    all_goals
      go_wp2_with fail
      go_meet
    all_goals first
      | exact ⟨w2.heap.size, rfl, rfl, aO2.alloc _, heap_alloc_new w2 _⟩
      | exact ⟨O.heap.size, rfl, rfl, aO2.trans' (((Apart.refl [O.heap.size] w2).setCell (p := ⟨O.heap.size, 0, none⟩) (by simp) (.int .i64 0)).setCell (p := ⟨O.heap.size, 1, none⟩) (by simp) (.int .i64 0)) (by simp), row2 bQ _ _⟩
  case rest =>
    obtain ⟨X, rfl, rfl, aO, bX⟩ := hcut
    have h2 := h1.kept aO
    have x2' := (aO.cell (p := ⟨w.heap.size, 2, none⟩) hOs (by simp)).trans x2
    have X0 : wc.cell? ⟨X, 0, none⟩ = some (.int .i64 0) := by rw [cell_of_row _ _ _ _ _ _ bX]; rfl
    have X1 : wc.cell? ⟨X, 1, none⟩ = some (.int .i64 0) := by rw [cell_of_row _ _ _ _ _ _ bX]; rfl
    have h2d := h2.kept ((Apart.refl [] wc).drewN 1)
    have hR := rtake_none (wc.drewN 1) W (2 + i) _ _ _ _ (h2d.wl i hi) (h2d.rp i hi).inc (h2d.rp i hi).perm (h2d.rp i hi).up (h2d.rp i hi).di a hk
    have post : ∀ w4 z, Apart [] (wc.drewN (1 + z)) w4 → SP w0 w4 W (t + 1) := fun w4 z a4 => SP.same h2 gd t hA hn (((Apart.refl [] wc).drewN (1 + z)).trans a4)
    have hI := fun z => item_none (wc.drewN (1 + z)) W 0
    clear h h1 h2 h2d aO bX cp cpO x2 hk
    go_wp2_with fail
    go_region_with (first | (go_at_call 32; refine hR.mono ?_; rintro r w3 ⟨rfl, z, rfl⟩))
    all_goals
      go_wp2_with fail
      refine (hI z).mono ?_
      rintro r w4 ⟨rfl, a4⟩
      have pp := post w4 z a4
      clear hI post hR a4
      go_wp2
      go_ret
      exact ⟨rfl, pp⟩
set_option maxHeartbeats 4000000 in
set_option maxRecDepth 100000 in
theorem step5_some (h : WS w0 w W S av A) (gd : ∀ i, i < 2 → Good A (S i)) (t : Nat) (hA : A.length ≤ t) (hn : ∀ i, i < 2 → (S i).n ≤ t ∧ (S i).L.length ≤ t) (who b : Int) (i : Nat) (hi : i < 2) (hbi : bits .and .i64 who 1 = (i : Int)) (k : Nat) (hk : k < (S i).rl.length) :
    Calls Try.prog 24 #[.pointer (some ⟨W, 0, none⟩), .agg #[.int .i64 who, .int .i64 5, .int .i64 k, .int .i64 b]] w fun r w' => r = .returned (.bool true) ∧ SP w0 w' W (t + 1) := by
  have iI : (i : Int) < 2 := by omega
  have hWs := lt_of_heap h.hW
  have a1 : Apart [] w (w.alloc (.cells #[.int .i64 who, .int .i64 5, .int .i64 k, .int .i64 b] 63)) := (Apart.refl [] w).alloc _
  have h1 := h.kept a1
  have hrow : (S i).row.length = (S i).rl.length := by rw [(gd i hi).rel, List.length_map]
  have hg : g (S i).row k = cv A (g (S i).rl k) := by rw [(gd i hi).rel]; exact g_map A _ k hk
  have hL := fun Wd (e : Apart [] (w.alloc (.cells #[.int .i64 who, .int .i64 5, .int .i64 k, .int .i64 b] 63)) Wd) => hp_take (((h1.kept e).hp i hi)) k (by rw [hrow]; exact hk)
  have o1 : Op4 (w.alloc (.cells #[.int .i64 who, .int .i64 5, .int .i64 k, .int .i64 b] 63)) w.heap.size who 5 k b := ⟨heap_alloc_new w _⟩
  rw [hg] at hL
  obtain ⟨er, her⟩ : ∃ er, (cv A (g (S i).rl k)).r = er := ⟨_, rfl⟩
  obtain ⟨em, hem⟩ : ∃ em, (cv A (g (S i).rl k)).m = em := ⟨_, rfl⟩
  rw [her, hem] at hL
  have HER : Hid ((cv A (g (S i).rl k)).r = er) := her
  have HEM : Hid ((cv A (g (S i).rl k)).m = em) := hem
  clear her hem hg
  go_enter Try.func24, Try.ntmps24
  go_wp2_with fail
  generalize hO : w.alloc (.cells #[.int .i64 who, .int .i64 5, .int .i64 k, .int .i64 b] 63) = O at *
  have cpO := h1.cp i hi
  have x2 := o1.c2
  have hOs : w.heap.size < O.heap.size := lt_of_heap o1.hb
  have hWO : W < O.heap.size := lt_of_heap h1.hW
  have havO : av.ownBlock ≠ some O.heap.size := fun e => by have := (h1.all.lt _ e).2; omega
  have hw0O : w0.heap.size ≤ O.heap.size := h1.ap.size
  go_cut [14, 15] from 139 to 150 (fun s14 s15 wx => ∃ X v6, s14 = .pointer (some ⟨X, 0, none⟩) ∧ s15 = .bool true ∧ WS w0 wx W (upd S i { S i with v := v6, row := (S i).row.eraseIdx k, n := (S i).n }) av A ∧ Op4 wx w.heap.size who 5 k b ∧ wx.heap[X]? = some (.cells #[.int .i64 er, .int .i64 em] 28 (0, 0)))
  case first =>
    go_region_with (first | (go_at_call 18; refine (hL (O.drewN 1) ((Apart.refl _ _).drewN 1)).mono ?_; rintro r w2 ⟨rfl, v6, hp6, a2, nw6⟩; have ws2 := (h1.kept ((Apart.refl [] O).drewN 1)).heap i hi a2 v6 _ _ nw6 hp6; have op2 := ((h1.kept ((Apart.refl [] O).drewN 1)).hp i hi).keeps a2 o1.hb (by decide) (by decide)) | (go_at_call 18; refine (hL ((O.alloc (.cells #[.int .i64 0, .int .i64 0] 28)).drewN 1) (((Apart.refl _ _).alloc _).drewN 1)).mono ?_; rintro r w2 ⟨rfl, v6, hp6, a2, nw6⟩; have ws2 := (h1.kept (((Apart.refl [] O).alloc (.cells #[.int .i64 0, .int .i64 0] 28)).drewN 1)).heap i hi a2 v6 _ _ nw6 hp6; have op2 := ((h1.kept (((Apart.refl [] O).alloc (.cells #[.int .i64 0, .int .i64 0] 28)).drewN 1)).hp i hi).keeps a2 (t := 63) ((Below.heap_alloc _ _ _ hOs).trans o1.hb) (by decide) (by decide); have bQ := ((h1.kept (((Apart.refl [] O).alloc (.cells #[.int .i64 0, .int .i64 0] 28)).drewN 1)).hp i hi).keeps a2 (t := 28) (heap_alloc_new O (.cells #[.int .i64 0, .int .i64 0] 28)) (by decide) (by decide); have q0 := cell_of_row w2 O.heap.size 0 _ _ _ bQ; have q1 := cell_of_row w2 O.heap.size 1 _ _ _ bQ; have f0 := frozen_of_row w2 O.heap.size 0 _ _ bQ; have f1 := frozen_of_row w2 O.heap.size 1 _ _ bQ; simp only [List.getElem?_toArray, List.getElem?_cons_zero, List.getElem?_cons_succ] at q0 q1))
    all_goals
      go_wp2_with fail
      go_meet
    all_goals first
      | exact ⟨w2.heap.size, v6, rfl, rfl, ws2.kept ((Apart.refl _ _).alloc _), ⟨(Below.heap_alloc _ _ _ (lt_of_heap op2)).trans op2⟩, heap_alloc_new w2 _⟩
      | exact ⟨O.heap.size, v6, rfl, rfl, ws2.put28 bQ hw0O havO _ _, ⟨(heap_setCell_other _ ⟨O.heap.size, 1, none⟩ w.heap.size _ (by simp; omega)).trans ((heap_setCell_other _ ⟨O.heap.size, 0, none⟩ w.heap.size _ (by simp; omega)).trans op2)⟩, row2 bQ _ _⟩
  case rest =>
    obtain ⟨X, v6, rfl, rfl, h2, op2, bX⟩ := hcut
    have x2' := op2.c2
    have hXs := lt_of_heap bX
    have h2d := h2.kept ((Apart.refl [] wc).drewN 1)
    have hwl := h2d.wl i hi
    rw [upd_same] at hwl
    have rp2 := h1.rp i hi
    have hR := rtake_some (wc.drewN 1) W (2 + i) _ _ _ (S i).rl hwl rp2.inc rp2.perm rp2.up rp2.di k hk
    have hXW : X ≠ W := by
      rintro rfl
      rw [h2.hW] at bX; simp at bX
    have hfin : ∀ w3 q lv', q < (S i).L.length → g (S i).L q = g (S i).rl k → WL w3 W (2 + i) ((hp.wc (upd S i { S i with v := v6, row := (S i).row.eraseIdx k, n := (S i).n }) av).setIfInBounds (2 + i) lv') lv' ((S i).L.eraseIdx q) → Apart [W] (wc.drewN 1) w3 → (∀ b, lv'.ownBlock = some b → (wc.drewN 1).heap.size ≤ b) →
        Calls Try.prog 31 #[.pointer (some ⟨W, 0, none⟩), .agg #[.int .i64 er, .int .i64 em], .bool true, .int .i64 (g (S i).rl k).m, .bool true] w3 (fun r w' => r = .returned (.bool true) ∧ SP w0 w' W (t + 1)) ∧ w3.cell? ⟨X, 0, none⟩ = some (.int .i64 er) ∧ w3.cell? ⟨X, 1, none⟩ = some (.int .i64 em) := by
      intro w3 q lv' hq hgq hwl3 a3 hnw3
      obtain ⟨h3, gd3, hn3⟩ := SP.taken h1 gd t hA hn i hi k hk v6 h2d q lv' hq hgq hwl3 a3 hnw3
      have bX3 := (a3.block X hXs (by simp; exact hXW)).trans bX
      refine ⟨?_, by rw [cell_of_row _ _ _ _ _ _ bX3]; rfl, by rw [cell_of_row _ _ _ _ _ _ bX3]; rfl⟩
      have hI := h3.item (g (S i).rl k) ((gd i hi).idx _ (by rw [g_eq _ _ hk]; exact List.getElem_mem _))
      rw [HER.out, HEM.out] at hI
      refine hI.mono ?_
      rintro r w4 ⟨rfl, a4⟩
      exact ⟨rfl, SP.same h3 gd3 t hA hn3 a4⟩
    clear h h1 h2 h2d bX cpO x2 hwl rp2 hL o1 op2
    go_wp2_with fail
    go_region_with (first | (go_at_call 32; refine hR.mono ?_; rintro r w3 ⟨rfl, q, lv', hq, hgq, hwl3, a3, hnw3⟩))
    all_goals
      obtain ⟨hI, y0, y1⟩ := hfin w3 q lv' hq hgq hwl3 a3 hnw3
      clear hfin hwl3 a3 hnw3 hR hgq hq
      go_wp2_with fail
      refine hI.mono ?_
      rintro r w4 ⟨rfl, pp⟩
      clear hI y0 y1
      go_wp2
      go_ret
      exact ⟨rfl, pp⟩
theorem step5_ok (h : WS w0 w W S av A) (gd : ∀ i, i < 2 → Good A (S i)) (t : Nat) (hA : A.length ≤ t) (hn : ∀ i, i < 2 → (S i).n ≤ t ∧ (S i).L.length ≤ t) (who a b : Int) :
    Calls Try.prog 24 #[.pointer (some ⟨W, 0, none⟩), .agg #[.int .i64 who, .int .i64 5, .int .i64 a, .int .i64 b]] w fun r w' => r = .returned (.bool true) ∧ SP w0 w' W (t + 1) := by
  obtain ⟨i, hi, hbi⟩ := who2 who
  by_cases hk : a < 0 ∨ ((S i).rl.length : Int) ≤ a
  · exact step5_none h gd t hA hn who a b i hi hbi hk
  · obtain ⟨k, rfl⟩ : ∃ k : Nat, a = k := ⟨a.toNat, by omega⟩
    exact step5_some h gd t hA hn who b i hi hbi k (by omega)
end
end Go.Proofs.Ytmjfocbjkngniaa.hp
