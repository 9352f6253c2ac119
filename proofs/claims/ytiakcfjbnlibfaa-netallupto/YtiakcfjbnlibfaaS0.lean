import Derived.Test.YtiakcfjbnlibfaaN26
namespace Go.Proofs.Ytiakcfjbnlibfaa.nt
open Go.ChangeShapes Go.WideShapes Go.ChangeAt Go.RowKit
set_option linter.unusedVariables false
set_option linter.unusedSimpArgs false
/-- a bag -/
structure RB (w0 w : World) (Bg : Nat) (room : Int) (s : Sl) (ls : List LM) (xs : List Tx) (c : Cn) : Prop where
  blk : w.heap[Bg]? = some (.cells #[.int .i64 room, s.v, .int .i64 c.c0, .int .i64 c.c1, .int .i64 c.c2, .int .i64 c.c3, .int .i64 c.c4] 77 (0, 0))
  hB : w0.heap.size ≤ Bg
  row : Nw w0 w 30 3 s (flatL ls)
  len : ls.length = s.n
  xl : xs.length = s.n
  le : s.n ≤ 256
  rd : ∀ j, j < s.n → OwnL w (gL ls j) (gT xs j)
theorem RB.kept0 {w0 w w' : World} {Bg : Nat} {room : Int} {s : Sl} {ls : List LM} {xs : List Tx} {c : Cn} (h : RB w0 w Bg room s ls xs c) (a : Apart [] w w') : RB w0 w' Bg room s ls xs c :=
  ⟨(a.block _ (lt_of_heap h.blk) (by simp)).trans h.blk, h.hB, h.row.kept a, h.len, h.xl, h.le, fun j hj => (h.rd j hj).kept0 a⟩
theorem RB.cells {w0 w : World} {Bg : Nat} {room : Int} {s : Sl} {ls : List LM} {xs : List Tx} {c : Cn} (h : RB w0 w Bg room s ls xs c) : w.cell? ⟨Bg, 0, none⟩ = some (.int .i64 room) ∧ w.cell? ⟨Bg, 1, none⟩ = some (.slice s.p s.n s.c) ∧ w.cell? ⟨Bg, 2, none⟩ = some (.int .i64 c.c0) ∧ w.cell? ⟨Bg, 3, none⟩ = some (.int .i64 c.c1) ∧ w.cell? ⟨Bg, 4, none⟩ = some (.int .i64 c.c2) ∧ w.cell? ⟨Bg, 5, none⟩ = some (.int .i64 c.c3) ∧ w.cell? ⟨Bg, 6, none⟩ = some (.int .i64 c.c4) := by
  refine ⟨?_, ?_, ?_, ?_, ?_, ?_, ?_⟩ <;> (rw [cell_of_row _ _ _ _ _ _ h.blk]; rfl)
/-- the cells of the i-th letter -/
theorem RB.at {w0 w : World} {Bg : Nat} {room : Int} {s : Sl} {ls : List LM} {xs : List Tx} {c : Cn} (h : RB w0 w Bg room s ls xs c) {i : Nat} (hi : i < s.n) : ∃ G, s.p = some ⟨G, 0, none⟩ ∧ w.cell? ⟨G, i * 3, none⟩ = some (.int .i64 (gL ls i).f) ∧ w.cell? ⟨G, i * 3 + 1, none⟩ = some (.int .i64 (gL ls i).t) ∧ w.cell? ⟨G, i * 3 + 2, none⟩ = some (gL ls i).d.v := by
  have ho := h.row.own
  obtain ⟨G, hG⟩ : ∃ G, s.p = some ⟨G, 0, none⟩ := by
    obtain ⟨_, ⟨hv, hz⟩ | ⟨g, cap, cur, hv, _⟩⟩ := ho
    · omega
    · unfold Sl.v at hv; simp at hv; exact ⟨g, hv.1⟩
  have hv : s.v = .slice (some ⟨G, 0, none⟩) s.n s.c := by unfold Sl.v; rw [hG]
  rw [hv] at ho
  obtain ⟨g0, g1, g2⟩ := flatL_get ls i (by rw [h.len]; exact hi)
  exact ⟨G, hG, (ho.cellAt _ (by omega)).trans g0, (ho.cellAt _ (by omega)).trans g1, (ho.cellAt _ (by omega)).trans g2⟩
/-- a letter is put in: the run of append, and the bag behind the two stores -/
theorem RB.add {w0 w : World} {Bg : Nat} {room : Int} {s : Sl} {ls : List LM} {xs : List Tx} {c : Cn} (h : RB w0 w Bg room s ls xs c) (l : LM) (x : Tx) (hl : OwnL w l x) (hn : s.n < 256) :
    ∃ s' w', (Builtin.append_ #[22, 22] 22 #[s.v, .slice (some ⟨w.heap.size, 0, none⟩) 1 1]).run Try.prog (w.alloc (boxL l)) = .ok (Sl.v s') w' ∧ w'.heap[Bg]? = some (.cells #[.int .i64 room, s.v, .int .i64 c.c0, .int .i64 c.c1, .int .i64 c.c2, .int .i64 c.c3, .int .i64 c.c4] 77 (0, 0)) ∧
      RB w0 (w'.setCell ⟨Bg, 1, none⟩ s'.v) Bg room s' (ls ++ [l]) (xs ++ [x]) c ∧ Apart [] w0 (w'.setCell ⟨Bg, 1, none⟩ s'.v) ∧ Apart s.v.ownBlock.toList w w' ∧ Apart (Bg :: s.v.ownBlock.toList) w (w'.setCell ⟨Bg, 1, none⟩ s'.v) ∧ (∀ k, s'.v.ownBlock = some k → s.v.ownBlock = some k ∨ w.heap.size ≤ k) := by
  obtain ⟨i0, hi, hz0, hz1, hz2⟩ := info_parts infoL
  obtain ⟨s', w', hrun, n5, hs5, ap5, k5, hk5, hc5, hkk⟩ := run_appM 22 22 30 i0 _ 3 40 Try.underlying22 hi hz0 hz1 hz2 rfl (by decide) h.row 1 (LM.cs l) (by decide) rfl (fun v hv => oneL [l] v (by simpa [flatL] using hv)) (by unfold maxLen; omega) (by omega)
  have b5 := (ap5.block Bg (lt_of_heap h.blk) (fun m => own_ne h.row.own m _ (by decide) h.blk)).trans h.blk
  have ag : Apart [Bg] w' (w'.setCell ⟨Bg, 1, none⟩ s'.v) := (Apart.refl _ _).setCell (.inl (by simp)) _
  have b6 : (w'.setCell ⟨Bg, 1, none⟩ s'.v).heap[Bg]? = some (.cells #[.int .i64 room, s'.v, .int .i64 c.c0, .int .i64 c.c1, .int .i64 c.c2, .int .i64 c.c3, .int .i64 c.c4] 77 (0, 0)) := by
    have := heap_setCell_same w' Bg 1 _ 77 s'.v b5
    simpa using this
  have apw := n5.ap.trans' ag (by simp; exact h.hB)
  have kp : ∀ y z, OwnL w y z → OwnL (w'.setCell ⟨Bg, 1, none⟩ s'.v) y z := fun y z o => (o.keepT ap5 (fun k hk cur => own_ne h.row.own hk cur (by decide))).keepT ag (fun k hk cur => by simp at hk; subst hk; exact blk_ne b5 cur (by decide))
  refine ⟨s', w', hrun, b5, ⟨b6, h.hB, ?_, by simp [h.len, hs5], by simp [h.xl, hs5], by omega, fun j hj => ?_⟩, apw, ap5, (ap5.mono (fun y hy => List.mem_cons_of_mem _ hy)).trans (ag.mono (by simp)), fun k hk => by simp [Sl.v, hk5, Value.ownBlock] at hk; subst hk; exact hkk⟩
  · rw [← flatL_snoc]
    exact n5.keepT ag apw (fun k hk cur => by simp at hk; subst hk; exact blk_ne b5 cur (by decide))
  · by_cases e : j = s.n
    · have e1 : gL (ls ++ [l]) j = l := by rw [e, ← h.len]; exact gL_at ls l
      have e2 : gT (xs ++ [x]) j = x := by rw [e, ← h.xl]; exact gT_at xs x
      rw [e1, e2]
      exact kp _ _ hl
    · rw [gL_left _ _ _ (by rw [h.len]; omega), gT_left _ _ _ (by rw [h.xl]; omega)]
      exact kp _ _ (h.rd j (by omega))
theorem RB.drew {w0 w : World} {Bg : Nat} {room : Int} {s : Sl} {ls : List LM} {xs : List Tx} {c : Cn} (h : RB w0 w Bg room s ls xs c) : RB w0 w.drew Bg room s ls xs c := h.kept0 (Apart.refl [] w).drew
theorem RB.count0 {w0 w : World} {Bg : Nat} {room : Int} {s : Sl} {ls : List LM} {xs : List Tx} {c : Cn} (h : RB w0 w Bg room s ls xs c) (v : Int) : RB w0 (w.setCell ⟨Bg, 2, none⟩ (.int .i64 v)) Bg room s ls xs { c with c0 := v } := by
  have ag : Apart [Bg] w (w.setCell ⟨Bg, 2, none⟩ (.int .i64 v)) := (Apart.refl _ _).setCell (.inl (by simp)) _
  have hX : ∀ (t : TypeId), t ≠ 77 → ∀ k ∈ [Bg], ∀ cur : Array Value, w.heap[k]? ≠ some (.cells cur t (0, 0)) := fun t ht k hk cur => by simp at hk; subst hk; exact blk_ne h.blk cur ht
  refine ⟨?_, h.hB, h.row.keepT ag (h.row.ap.trans' ag (by simp; exact h.hB)) (hX 30 (by decide)), h.len, h.xl, h.le, fun j hj => (h.rd j hj).keepT ag (hX 5 (by decide))⟩
  have := heap_setCell_same w Bg 2 _ 77 (.int .i64 v) h.blk
  simpa using this
theorem RB.count1 {w0 w : World} {Bg : Nat} {room : Int} {s : Sl} {ls : List LM} {xs : List Tx} {c : Cn} (h : RB w0 w Bg room s ls xs c) (v : Int) : RB w0 (w.setCell ⟨Bg, 3, none⟩ (.int .i64 v)) Bg room s ls xs { c with c1 := v } := by
  have ag : Apart [Bg] w (w.setCell ⟨Bg, 3, none⟩ (.int .i64 v)) := (Apart.refl _ _).setCell (.inl (by simp)) _
  have hX : ∀ (t : TypeId), t ≠ 77 → ∀ k ∈ [Bg], ∀ cur : Array Value, w.heap[k]? ≠ some (.cells cur t (0, 0)) := fun t ht k hk cur => by simp at hk; subst hk; exact blk_ne h.blk cur ht
  refine ⟨?_, h.hB, h.row.keepT ag (h.row.ap.trans' ag (by simp; exact h.hB)) (hX 30 (by decide)), h.len, h.xl, h.le, fun j hj => (h.rd j hj).keepT ag (hX 5 (by decide))⟩
  have := heap_setCell_same w Bg 3 _ 77 (.int .i64 v) h.blk
  simpa using this
theorem RB.count2 {w0 w : World} {Bg : Nat} {room : Int} {s : Sl} {ls : List LM} {xs : List Tx} {c : Cn} (h : RB w0 w Bg room s ls xs c) (v : Int) : RB w0 (w.setCell ⟨Bg, 4, none⟩ (.int .i64 v)) Bg room s ls xs { c with c2 := v } := by
  have ag : Apart [Bg] w (w.setCell ⟨Bg, 4, none⟩ (.int .i64 v)) := (Apart.refl _ _).setCell (.inl (by simp)) _
  have hX : ∀ (t : TypeId), t ≠ 77 → ∀ k ∈ [Bg], ∀ cur : Array Value, w.heap[k]? ≠ some (.cells cur t (0, 0)) := fun t ht k hk cur => by simp at hk; subst hk; exact blk_ne h.blk cur ht
  refine ⟨?_, h.hB, h.row.keepT ag (h.row.ap.trans' ag (by simp; exact h.hB)) (hX 30 (by decide)), h.len, h.xl, h.le, fun j hj => (h.rd j hj).keepT ag (hX 5 (by decide))⟩
  have := heap_setCell_same w Bg 4 _ 77 (.int .i64 v) h.blk
  simpa using this
theorem RB.count3 {w0 w : World} {Bg : Nat} {room : Int} {s : Sl} {ls : List LM} {xs : List Tx} {c : Cn} (h : RB w0 w Bg room s ls xs c) (v : Int) : RB w0 (w.setCell ⟨Bg, 5, none⟩ (.int .i64 v)) Bg room s ls xs { c with c3 := v } := by
  have ag : Apart [Bg] w (w.setCell ⟨Bg, 5, none⟩ (.int .i64 v)) := (Apart.refl _ _).setCell (.inl (by simp)) _
  have hX : ∀ (t : TypeId), t ≠ 77 → ∀ k ∈ [Bg], ∀ cur : Array Value, w.heap[k]? ≠ some (.cells cur t (0, 0)) := fun t ht k hk cur => by simp at hk; subst hk; exact blk_ne h.blk cur ht
  refine ⟨?_, h.hB, h.row.keepT ag (h.row.ap.trans' ag (by simp; exact h.hB)) (hX 30 (by decide)), h.len, h.xl, h.le, fun j hj => (h.rd j hj).keepT ag (hX 5 (by decide))⟩
  have := heap_setCell_same w Bg 5 _ 77 (.int .i64 v) h.blk
  simpa using this
theorem RB.count4 {w0 w : World} {Bg : Nat} {room : Int} {s : Sl} {ls : List LM} {xs : List Tx} {c : Cn} (h : RB w0 w Bg room s ls xs c) (v : Int) : RB w0 (w.setCell ⟨Bg, 6, none⟩ (.int .i64 v)) Bg room s ls xs { c with c4 := v } := by
  have ag : Apart [Bg] w (w.setCell ⟨Bg, 6, none⟩ (.int .i64 v)) := (Apart.refl _ _).setCell (.inl (by simp)) _
  have hX : ∀ (t : TypeId), t ≠ 77 → ∀ k ∈ [Bg], ∀ cur : Array Value, w.heap[k]? ≠ some (.cells cur t (0, 0)) := fun t ht k hk cur => by simp at hk; subst hk; exact blk_ne h.blk cur ht
  refine ⟨?_, h.hB, h.row.keepT ag (h.row.ap.trans' ag (by simp; exact h.hB)) (hX 30 (by decide)), h.len, h.xl, h.le, fun j hj => (h.rd j hj).keepT ag (hX 5 (by decide))⟩
  have := heap_setCell_same w Bg 6 _ 77 (.int .i64 v) h.blk
  simpa using this
/-- a box that is none of the bag's is written -/
theorem RB.apart1 {w0 w w' : World} {Bg : Nat} {room : Int} {s : Sl} {ls : List LM} {xs : List Tx} {c : Cn} {B : Nat} (h : RB w0 w Bg room s ls xs c) (a : Apart [B] w w') (hB : B ≠ Bg) (hs : s.v.ownBlock ≠ some B) (ht : ∀ (cur : Array Value) {t : TypeId}, t ≠ 30 → w.heap[B]? ≠ some (.cells cur t (0, 0))) (hw : w0.heap.size ≤ B) : RB w0 w' Bg room s ls xs c :=
  ⟨(a.block _ (lt_of_heap h.blk) (by simpa using fun e => hB e.symm)).trans h.blk, h.hB, ⟨own_apart h.row.own a (fun k hk hm => by simp at hm; subst hm; exact hs hk), h.row.new, h.row.ap.trans' a (by simp; exact hw)⟩, h.len, h.xl, h.le, fun j hj => (h.rd j hj).keepT a (fun k hk cur => by simp at hk; subst hk; exact ht cur (by decide))⟩
/-- a bag that has a letter has a row -/
theorem RB.ptr {w0 w : World} {Bg : Nat} {room : Int} {s : Sl} {ls : List LM} {xs : List Tx} {c : Cn} (h : RB w0 w Bg room s ls xs c) (hn : 0 < s.n) : ∃ G, s = ⟨some ⟨G, 0, none⟩, s.n, s.c⟩ := by
  obtain ⟨G, hG, _⟩ := h.at hn
  exact ⟨G, by cases s; simp at hG ⊢; exact hG⟩
theorem RB.nin {w0 w : World} {Bg : Nat} {room : Int} {s : Sl} {ls : List LM} {xs : List Tx} {c : Cn} (h : RB w0 w Bg room s ls xs c) {B : Nat} {cs : Array Value} {t : TypeId} {fr : Nat × Nat} (hb : w.heap[B]? = some (.cells cs t fr)) (h1 : t ≠ 77) (h2 : t ≠ 30) : B ∉ Bg :: s.v.ownBlock.toList := fun m => by
  simp only [List.mem_cons] at m
  rcases m with rfl | m
  · exact blk_ne' h.blk cs fr h1 hb
  · obtain ⟨cu, tG⟩ := own_typ h.row.own (k := B) (by simpa using m)
    exact blk_ne' tG cs fr h2 hb
theorem RB.far {w0 w : World} {Bg : Nat} {room : Int} {s : Sl} {ls : List LM} {xs : List Tx} {c : Cn} (h : RB w0 w Bg room s ls xs c) {B : Nat} (hB : w.heap.size ≤ B) : B ∉ Bg :: s.v.ownBlock.toList := fun m => by
  simp only [List.mem_cons] at m
  rcases m with rfl | m
  · have := lt_of_heap h.blk
    omega
  · have := (h.row.own.lt B (by simpa using m)).2
    omega
set_option maxHeartbeats 2000000 in
theorem rnew_ok (w : World) (room : Int) (h1 : 1 ≤ room) (h2 : room ≤ 256) : Calls Try.prog 33 #[.int .i64 room] w fun r w' => r = .returned (.tuple #[.pointer (some ⟨w.heap.size, 0, none⟩), .int .i64 0]) ∧ RB w w' w.heap.size room ⟨none, 0, 0⟩ [] [] ⟨0, 0, 0, 0, 0⟩ ∧ Apart [] w w' := by
  have a : Apart [] w (w.alloc (.cells #[.int .i64 room, .slice none 0 0, .int .i64 0, .int .i64 0, .int .i64 0, .int .i64 0, .int .i64 0] 77)) := (Apart.refl [] w).alloc _
  have hB : RB w (w.alloc (.cells #[.int .i64 room, .slice none 0 0, .int .i64 0, .int .i64 0, .int .i64 0, .int .i64 0, .int .i64 0] 77)) w.heap.size room ⟨none, 0, 0⟩ [] [] ⟨0, 0, 0, 0, 0⟩ :=
    ⟨heap_alloc_new w _, Nat.le_refl _, ⟨World.ownsRow_nil _ _ _ _, by simp [Sl.v, Value.ownBlock], a⟩, rfl, rfl, by simp, fun j hj => absurd hj (by simp)⟩
  have HB := hid hB
  have HA := hid a
  clear a hB
  go_enter Try.func33, Try.ntmps33
  go_wp2
  go_ret2
  exact ⟨rfl, HB.out, HA.out⟩
theorem rnew_bad (w : World) (room : Int) (h : room < 1 ∨ 256 < room) : Calls Try.prog 33 #[.int .i64 room] w fun r w' => r = .returned (.tuple #[.pointer none, .int .i64 1]) ∧ Apart [] w w' := by
  by_cases h1 : room < 1
  · clear h
    go_enter Try.func33, Try.ntmps33
    go_wp2
    go_ret2
    exact ⟨rfl, Apart.refl _ _⟩
  · have h2 : 256 < room := by omega
    clear h
    go_enter Try.func33, Try.ntmps33
    go_wp2
    go_ret2
    exact ⟨rfl, Apart.refl _ _⟩
theorem rhas_ok {w0 w : World} {Bg : Nat} {room : Int} {s : Sl} {ls : List LM} {xs : List Tx} {c : Cn} (h : RB w0 w Bg room s ls xs c) (i : Int) : Calls Try.prog 48 #[.pointer (some ⟨Bg, 0, none⟩), .int .i64 i] w fun r w' => r = .returned (.bool (decide (0 ≤ i ∧ i < (s.n : Int)))) ∧ Apart [] w w' := by
  obtain ⟨b0, b1, _⟩ := h.cells
  clear h
  by_cases h0 : 0 ≤ i
  · by_cases h1 : i < (s.n : Int)
    · rw [show decide (0 ≤ i ∧ i < (s.n : Int)) = true from by simp [h0, h1]]
      go_enter Try.func48, Try.ntmps48
      go_wp2
      go_ret
      exact ⟨rfl, Apart.refl [] w⟩
    · rw [show decide (0 ≤ i ∧ i < (s.n : Int)) = false from by simp [h1]]
      go_enter Try.func48, Try.ntmps48
      go_wp2
      go_ret
      exact ⟨rfl, Apart.refl [] w⟩
  · rw [show decide (0 ≤ i ∧ i < (s.n : Int)) = false from by simp [h0]]
    go_enter Try.func48, Try.ntmps48
    go_wp2
    go_ret
    exact ⟨rfl, Apart.refl [] w⟩
set_option maxHeartbeats 4000000 in
/-- own: a letter with bytes of its own, one by one -/
theorem rown_ok (l : LM) (x : Tx) (w : World) (h : ReadsL w l x) : Calls Try.prog 49 #[l.agg] w fun q w' => ∃ l', q = .returned (LM.agg l') ∧ FreshL w w' l' x := by
  obtain ⟨W1, hW1⟩ : ∃ W1, W1 = (w.alloc (boxL l)).alloc (boxL LM.z) := ⟨_, rfl⟩
  have a1 : Apart [] w W1 := by rw [hW1]; exact ((Apart.refl [] w).alloc _).alloc _
  have q1 : W1.heap[w.heap.size]? = some (.cells #[.int .i64 l.f, .int .i64 l.t, .slice l.d.p l.d.n l.d.c] 30 (0, 0)) := by rw [hW1, Below.heap_alloc _ _ _ (by simp)]; exact heap_alloc_new w (boxL l)
  have q2 : W1.heap[w.heap.size + 1]? = some (.cells #[.int .i64 0, .int .i64 0, .slice none 0 0] 30 (0, 0)) := by
    have := heap_alloc_new (w.alloc (boxL l)) (boxL LM.z)
    rw [hW1]
    have e1 : (w.alloc (boxL l)).heap.size = w.heap.size + 1 := by simp
    rw [e1] at this
    exact this
  have HQ1 := hid q1
  have HQ2 := hid q2
  have HA := hid a1
  have HH := hid h
  have hdl := h.dl
  have hdn := h.dn
  have hok := hid h.ok
  unfold boxL at hW1
  unfold LM.z Sl.v at hW1
  unfold LM.agg Sl.v
  dsimp only at hW1
  clear a1 q1 q2 h
  go_enter Try.func49, Try.ntmps49
  go_upto_region 1 with fail
  rw [← hW1]
  clear hW1
  go_wp2_with fail
  go_loopw [3, 4] (fun u v wr => ∃ (k : Nat) (s : Sl), v = .int .i64 (k : Nat) ∧ u = .slice s.p s.n s.c ∧ k ≤ l.d.n ∧ s.n = k ∧ Nw W1 wr 5 1 s (byts (x.b.take k))) (fun _ v _ => l.d.n - (intOf v).toNat)
  case atStart => exact ⟨0, ⟨none, 0, 0⟩, rfl, rfl, Nat.zero_le _, rfl, ⟨World.ownsRow_nil _ _ _ _, by simp [Sl.v, Value.ownBlock], Apart.refl _ _⟩⟩
  case round =>
    obtain ⟨k, s, rfl, rfl, hk, hsk, hN⟩ := hrel
    have HN := hid hN
    have HSK := hid hsk
    obtain ⟨b0, b1, b2⟩ := row3 ((hN.ap.block _ (lt_of_heap HQ1.out) (by simp)).trans HQ1.out)
    clear hN hsk
    by_cases hlt : k < l.d.n
    · obtain ⟨P, o, hp, hP, hc⟩ := (HH.out.d.kept0 (HA.out.trans HN.out.ap)) (by simp [byts]; omega)
      obtain ⟨b, hb⟩ : ∃ b, x.b[k]? = some b := ⟨_, List.getElem?_eq_getElem (by omega)⟩
      have hcell := hc k (.int .u8 (b : Int)) (by simp [byts, hb])
      rw [hp] at b2
      clear hp
      obtain ⟨i0, hi, hz0, hz1, hz2⟩ := info_parts infoB
      obtain ⟨s', W', hrun, r1, r2, r3, k', r4, r5, r6⟩ := run_appM 28 28 5 i0 _ 1 1 Try.underlying28 hi hz0 hz1 hz2 rfl (by decide) HN.out 1 [.int .u8 (b : Int)] (by decide) rfl (by simp; rfl) (by rw [HSK.out]; unfold maxLen; omega) (by rw [HSK.out]; omega)
      have HR : Hid (s'.n = k + 1 ∧ Nw W1 W' 5 1 s' (byts (x.b.take (k + 1)))) := ⟨by rw [r2, HSK.out], by
        rw [show byts (x.b.take (k + 1)) = byts (x.b.take k) ++ [.int .u8 (b : Int)] from by
          rw [List.take_add_one, hb]; simp [byts]]
        exact r1⟩
      have hz : ((k : Nat) : Int) < ((l.d.n : Nat) : Int) := by omega
      unfold Sl.v at hrun
      clear r1 r2 r3 r4 r5 r6 hc hb
      go_wp2_with (at_builtin; refine wpList_append3 rfl (.tmp 12) (.tmp 18) 28 rfl _ _ rfl rfl _ _ hrun ?_)
      go_roundw
      case rel => exact ⟨k + 1, s', by go_num, rfl, by omega, HR.out.1, HR.out.2⟩
      case measure => simp [intOf]; omega
    · have e : k = l.d.n := by omega
      subst e
      have r3 := (HN.out.ap.block _ (lt_of_heap HQ2.out) (by simp)).trans HQ2.out
      have p3 := row3s r3 (.int .i64 l.f) (.int .i64 l.t) (.slice s.p s.n s.c)
      have ag := ap3 wr (w.heap.size + 1) (.int .i64 l.f) (.int .i64 l.t) (.slice s.p s.n s.c)
      have HP := hid p3
      have HF : Hid (FreshL w (put3 wr (w.heap.size + 1) (.int .i64 l.f) (.int .i64 l.t) (.slice s.p s.n s.c)) ⟨l.f, l.t, s⟩ x) := by
        have hn2 : Nw w wr 5 1 s (byts x.b) := ⟨by have := HN.out.own; rwa [List.take_of_length_le (by omega)] at this, fun q hq => Nat.le_trans HA.out.size (HN.out.new q hq), HA.out.trans HN.out.ap⟩
        exact ⟨HH.out.f, HH.out.t, hn2.keepT ag (hn2.ap.trans' ag (by simp)) (fun q hq cur => by simp at hq; subst hq; exact blk_ne r3 cur (by decide)), by show x.b.length = s.n; rw [HSK.out]; exact hdn, by show s.n ≤ _; rw [HSK.out]; exact hdl, HH.out.db⟩
      obtain ⟨d0, d1, d2⟩ := row3 r3
      have k0 := frozen_of_row _ _ 0 _ _ r3
      have k1 := frozen_of_row _ _ 1 _ _ r3
      have k2 := frozen_of_row _ _ 2 _ _ r3
      clear r3 p3 ag
      go_wp2
      refine bodyPost_ret (results_cell_row rfl _ _ (w.heap.size + 1) 30 _ _ _ rfl HP.out Try.underlying30 rfl size30) rfl ?_
      exact ⟨⟨l.f, l.t, s⟩, rfl, HF.out⟩
end Go.Proofs.Ytiakcfjbnlibfaa.nt
