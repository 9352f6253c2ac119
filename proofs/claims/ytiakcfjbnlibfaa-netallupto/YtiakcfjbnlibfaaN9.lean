import Derived.Test.YtiakcfjbnlibfaaN8
namespace Go.Proofs.Ytiakcfjbnlibfaa.nt
open Go.ChangeShapes Go.WideShapes Go.ChangeAt Go.RowKit
set_option linter.unusedVariables false
set_option linter.unusedSimpArgs false
def set3 (w : World) (g o : Nat) (l : LM) : World := ((w.setCell ⟨g, o, none⟩ (.int .i64 l.f)).setCell ⟨g, o + 1, none⟩ (.int .i64 l.t)).setCell ⟨g, o + 2, none⟩ l.d.v
theorem apart_set3 (w : World) (g o : Nat) (l : LM) : Apart [g] w (set3 w g o l) := (((Apart.refl _ _).setCell (.inl (by simp)) _).setCell (.inl (by simp)) _).setCell (.inl (by simp)) _
theorem own_set3 {w : World} {G n c : Nat} {es : List LM} (h : w.ownsRow 0 30 3 (.slice (some ⟨G, 0, none⟩) n c) n (flatL es)) (i : Nat) (hi : i < es.length) (e : LM) : (set3 w G (i * 3) e).ownsRow 0 30 3 (.slice (some ⟨G, 0, none⟩) n c) n (flatL (es.set i e)) := by
  rw [flatL_set es e i hi]
  exact (((h.stored (i * 3) _).1.stored (i * 3 + 1) _).1.stored (i * 3 + 2) _).1
/-- the row behind a move, the letters still as they were -/
theorem Bag.moved {w0 w W : World} {Bg G n c : Nat} {room : Int} {ls : List LM} {xs : List Tx} {k : Cn} (h : Bag w0 w Bg room ⟨some ⟨G, 0, none⟩, n, c⟩ ls xs k) (i j : Nat) (hi : i < n) (hj : j < n) (a : Apart [G] w W) (o : W.ownsRow 0 30 3 (.slice (some ⟨G, 0, none⟩) n c) n (flatL (mvD LM.z i j ls))) : Bag w0 W Bg room ⟨some ⟨G, 0, none⟩, n, c⟩ (mvD LM.z i j ls) (mvD Tx.z i j xs) k := by
  have hl : ls.length = n := h.len
  have hx : xs.length = n := h.xl
  obtain ⟨cu, tG⟩ := own_typ h.row.own (k := G) rfl
  have hne : ∀ (t : TypeId), t ≠ 30 → ∀ k ∈ [G], ∀ cur : Array Value, w.heap[k]? ≠ some (.cells cur t (0, 0)) := fun t ht k hk cur => by simp at hk; subst hk; exact blk_ne tG cur ht
  have hGw : w0.heap.size ≤ G := h.row.new G rfl
  refine ⟨(a.block Bg (lt_of_heap h.blk) (fun m => hne 57 (by decide) Bg m _ h.blk)).trans h.blk, h.hB, ⟨o, h.row.new, h.row.ap.trans' a (by simp; exact hGw)⟩, by rw [mv_len _ _ _ _ (by omega) (by omega)]; exact hl, by rw [mv_len _ _ _ _ (by omega) (by omega)]; exact hx, h.le, fun q hq => ?_⟩
  have hq' : q < n := hq
  have e1 : gL (mvD LM.z i j ls) q = gL ls (sg i j q) := mv_get LM.z i j q ls (by omega) (by omega) (by omega)
  have e2 : gT (mvD Tx.z i j xs) q = gT xs (sg i j q) := mv_get Tx.z i j q xs (by omega) (by omega) (by omega)
  rw [e1, e2]
  exact (h.rd (sg i j q) (sg_lt hi hj hq')).keepT a (hne 5 (by decide))
theorem flat_cut (ls : List LM) (a b : Nat) : flatL ((ls.drop a).take b) = ((flatL ls).drop (a * 3)).take (b * 3) := by
  have hd : ∀ (l : List LM) (k : Nat), (flatL l).drop (k * 3) = flatL (l.drop k) := by
    intro l
    induction l with
    | nil => intro k; simp [flatL]
    | cons e l ih =>
      intro k
      match k with
      | 0 => simp
      | k + 1 =>
        rw [show (k + 1) * 3 = k * 3 + 3 from by omega, List.drop_succ_cons, ← ih k]
        rfl
  have ht : ∀ (l : List LM) (k : Nat), (flatL l).take (k * 3) = flatL (l.take k) := by
    intro l
    induction l with
    | nil => intro k; simp [flatL]
    | cons e l ih =>
      intro k
      match k with
      | 0 => simp [flatL]
      | k + 1 =>
        rw [show (k + 1) * 3 = k * 3 + 3 from by omega, List.take_succ_cons]
        show _ = LM.cs e ++ flatL (l.take k)
        rw [← ih k]
        rfl
  rw [hd, ht]
theorem flat_splice (ls ms : List LM) (a : Nat) (h : a + ms.length ≤ ls.length) : splice (flatL ls) (a * 3) (flatL ms) = flatL (ls.take a ++ ms ++ ls.drop (a + ms.length)) := by
  have e1 := flat_cut ls 0 a
  have e2 := flat_cut ls (a + ms.length) ls.length
  simp only [List.drop_zero, Nat.zero_mul] at e1
  rw [List.take_of_length_le (by simp), List.take_of_length_le (by rw [List.length_drop, flatL_length]; omega)] at e2
  unfold splice
  rw [flatL_append, flatL_append, e1, e2, flatL_length, List.append_assoc, show a * 3 + ms.length * 3 = (a + ms.length) * 3 from by omega]
set_option maxHeartbeats 8000000 in
set_option maxRecDepth 100000 in
theorem move_fwd {w0 w : World} {Bg G n c : Nat} {room : Int} {ls : List LM} {xs : List Tx} {k : Cn} (h : Bag w0 w Bg room ⟨some ⟨G, 0, none⟩, n, c⟩ ls xs k) (i j : Nat) (hi : i < n) (hj : j < n) (hij : i < j) : Calls Try.prog 13 #[.pointer (some ⟨Bg, 0, none⟩), .int .i64 (i : Int), .int .i64 (j : Int)] w fun r w' => r = .returned (.int .i64 0) ∧ Hid (Bag w0 w' Bg room ⟨some ⟨G, 0, none⟩, n, c⟩ (mvD LM.z i j ls) (mvD Tx.z i j xs) k ∧ Apart [G] w w') := by
  have hle : n ≤ 256 := h.le
  have hll : ls.length = n := h.len
  have hcap : n ≤ c ∧ c ≤ 9223372036854775807 := by
    obtain ⟨_, ⟨hv, hz⟩ | ⟨g, cp, cur, hv, _, _, hle2, hmx, _⟩⟩ := h.row.own
    · simp [Sl.v] at hv
    · simp [Sl.v] at hv
      rw [hv.2]
      unfold maxLen at hmx
      exact ⟨hle2, by omega⟩
  obtain ⟨hc1, hc2⟩ := hcap
  have hh1 := has_ok h (i : Int)
  rw [show decide (0 ≤ (i : Int) ∧ (i : Int) < ((⟨some ⟨G, 0, none⟩, n, c⟩ : Sl).n : Int)) = true from by simp; omega] at hh1
  have HH := hid h
  have hGs : G < w.heap.size := (h.row.own.lt G rfl).2
  have hBs : Bg < w.heap.size := lt_of_heap h.blk
  have hGB : G ≠ Bg := fun e => by
    obtain ⟨cu, tG⟩ := own_typ h.row.own (k := G) rfl
    have := h.blk
    rw [← e, tG] at this
    simp at this
  have HGB := hid hGB
  clear h hGB
  go_enter Try.func13, Try.ntmps13
  go_wp2_with fail
  refine hh1.mono ?_
  clear hh1
  rintro _ w1 ⟨rfl, a1⟩
  have hh2 := has_ok (HH.out.kept0 a1) (j : Int)
  rw [show decide (0 ≤ (j : Int) ∧ (j : Int) < ((⟨some ⟨G, 0, none⟩, n, c⟩ : Sl).n : Int)) = true from by simp; omega] at hh2
  have HA1 := hid a1
  clear a1
  dsimp only
  go_wp2_with fail
  refine hh2.mono ?_
  clear hh2
  rintro _ w2 ⟨rfl, a2⟩
  have HA2 := hid (HA1.out.trans a2)
  clear a2 HA1
  dsimp only
  have hB2 := HH.out.kept0 HA2.out
  obtain ⟨_, b1, _⟩ := hB2.cells
  obtain ⟨G', hG', g0, g1, g2⟩ := hB2.at (show i < (⟨some ⟨G, 0, none⟩, n, c⟩ : Sl).n from hi)
  simp at hG'
  subst hG'
  obtain ⟨y, hy⟩ : ∃ y, y = gL ls i := ⟨_, rfl⟩
  rw [← hy] at g0 g1 g2
  have HY := hid hy
  obtain ⟨w3, hw3⟩ : ∃ w3, w3 = w2.alloc (boxL y) := ⟨_, rfl⟩
  have a3 : Apart [] w2 w3 := by rw [hw3]; exact (Apart.refl [] w2).alloc _
  have hBx3 : w3.heap[w2.heap.size]? = some (.cells #[.int .i64 y.f, .int .i64 y.t, .slice y.d.p y.d.n y.d.c] 30 (0, 0)) := by rw [hw3]; exact heap_alloc_new w2 _
  have hB3 := hB2.kept0 a3
  have HB3 := hid (hB2.kept0 a3)
  have hS : w3.drew.cell? ⟨Bg, 1, none⟩ = some (.slice (some ⟨G, 0, none⟩) n c) := (hB3.drew.cells).2.1
  have ho : w3.ownsRow 0 30 3 (.slice (some ⟨G, 0, none⟩) n c) n (flatL ls) := hB3.row.own
  obtain ⟨cur, hcur, hspl⟩ := own_splice ho
  have hml : (((ls.drop (i + 1)).take (j - i))).length = (j - i) := by simp; omega
  have hmf := flatL_length (((ls.drop (i + 1)).take (j - i)))
  rw [hml] at hmf
  have hfl := flatL_length ls
  have hcell : ∀ q v, (flatL (((ls.drop (i + 1)).take (j - i))))[q]? = some v → w3.drew.cell? ((⟨G, (i + 1) * 3, none⟩ : Addr).add q) = some v := fun q v hq => by
    rw [flat_cut ls (i + 1) (j - i), List.getElem?_take] at hq
    split at hq
    · rw [List.getElem?_drop] at hq
      rw [Addr.add_lit]
      exact (ho.cellAt _ (by omega)).trans hq
    · cases hq
  obtain ⟨hfit, ho4⟩ := hspl w3.drew (i * 3) (flatL (((ls.drop (i + 1)).take (j - i)))) rfl (by omega)
  have hcp : (Builtin.copy_ #[22, 22] 3 #[.slice (some ⟨G, i * 3, none⟩) (j - i) (c - i), .slice (some ⟨G, (i + 1) * 3, none⟩) (j + 1 - (i + 1)) (c - (i + 1))]).run Try.prog w3.drew = .ok (goInt (((j - i) : Nat) : Int)) (w3.drew.setRow G (splice cur (i * 3) (flatL (((ls.drop (i + 1)).take (j - i))))).toArray) := by
    exact run_copy_rowN w3.drew 22 22 3 30 3 G (i * 3) (j - i) (c - i) ⟨G, (i + 1) * 3, none⟩ (j + 1 - (i + 1)) (c - (i + 1)) (j - i) cur 30 (flatL (((ls.drop (i + 1)).take (j - i)))) Try.underlying22 size30 hcur (by simp only [Nat.min_def]; split <;> omega) hmf hcell hfit (oneL _)
  obtain ⟨w4, hw4⟩ : ∃ w4, w4 = w3.drew.setRow G (splice cur (i * 3) (flatL (((ls.drop (i + 1)).take (j - i))))).toArray := ⟨_, rfl⟩
  rw [← hw4] at hcp ho4
  have a4 : Apart [G] w3 w4 := by rw [hw4]; exact (Apart.refl [G] w3).drew.trans (apart_setRow _ _ _)
  have hBs3 : Bg < w3.heap.size := lt_of_heap hB3.blk
  have hS4 : w4.cell? ⟨Bg, 1, none⟩ = some (.slice (some ⟨G, 0, none⟩) n c) := (a4.cell hBs3 (by simpa using fun e => HGB.out e.symm)).trans ((hB3.cells).2.1)
  have hGB2 : w2.heap.size ≠ G := by have := HA2.out.size; omega
  have hBx : w4.heap[w2.heap.size]? = some (.cells #[.int .i64 y.f, .int .i64 y.t, .slice y.d.p y.d.n y.d.c] 30 (0, 0)) := (a4.block _ (lt_of_heap hBx3) (by simpa using hGB2)).trans hBx3
  rw [flat_splice ls (((ls.drop (i + 1)).take (j - i))) i (by rw [hml]; omega)] at ho4
  have hln : (ls.take i ++ ((ls.drop (i + 1)).take (j - i)) ++ ls.drop (i + (((ls.drop (i + 1)).take (j - i))).length)).length = n := by rw [hml]; simp; omega
  have ho4d : w4.drew.ownsRow 0 30 3 (.slice (some ⟨G, 0, none⟩) n c) n (flatL (ls.take i ++ ((ls.drop (i + 1)).take (j - i)) ++ ls.drop (i + (((ls.drop (i + 1)).take (j - i))).length))) := ho4
  have ho5 := own_set3 ho4d j (by omega) y
  have hmv : (ls.take i ++ ((ls.drop (i + 1)).take (j - i)) ++ ls.drop (i + (((ls.drop (i + 1)).take (j - i))).length)).set j y = mvD LM.z i j ls := by
    rw [hy]
    show List.set _ j (ls.getD i LM.z) = _
    exact by rw [← mv_fwd LM.z i j ls hij (by omega)]; congr 2; rw [hml, show i + (j - i) = j from by omega]
  rw [hmv] at ho5
  have a5 : Apart [G] w4 (set3 w4.drew G (j * 3) y) := (Apart.refl [G] w4).drew.trans (apart_set3 _ _ _ _)
  have HEND : Hid (Hid (Bag w0 (set3 w4.drew G (j * 3) y) Bg room ⟨some ⟨G, 0, none⟩, n, c⟩ (mvD LM.z i j ls) (mvD Tx.z i j xs) k ∧ Apart [G] w (set3 w4.drew G (j * 3) y))) := ⟨hB3.moved i j hi hj (a4.trans a5) ho5, ((HA2.out.trans a3).mono (by simp)).trans (a4.trans a5)⟩
  have HS5 : Hid ((set3 w4.drew G (j * 3) y).cell? ⟨Bg, 1, none⟩ = some (.slice (some ⟨G, 0, none⟩) n c) ∧ (set3 w4.drew G (j * 3) y).heap[w2.heap.size]? = some (.cells #[.int .i64 y.f, .int .i64 y.t, .slice y.d.p y.d.n y.d.c] 30 (0, 0))) := ⟨(a5.cell (Nat.lt_of_lt_of_le hBs3 a4.size) (by simpa using fun e => HGB.out e.symm)).trans hS4, (a5.block _ (lt_of_heap hBx) (by simpa using hGB2)).trans hBx⟩
  obtain ⟨z0, z1, z2⟩ := flatL_get _ j (show j < (ls.take i ++ ((ls.drop (i + 1)).take (j - i)) ++ ls.drop (i + (((ls.drop (i + 1)).take (j - i))).length)).length by omega)
  have d0 := (ho4d.cellAt (j * 3) (by omega)).trans z0
  have d1 := (ho4d.cellAt (j * 3 + 1) (by omega)).trans z1
  have d2 := (ho4d.cellAt (j * 3 + 2) (by omega)).trans z2
  have k0 := ho4d.frozenAt (j * 3)
  have k1 := ho4d.frozenAt (j * 3 + 1)
  have k2 := ho4d.frozenAt (j * 3 + 2)
  have d0' := (ho4.cellAt (j * 3) (by omega)).trans z0
  have d1' := (ho4.cellAt (j * 3 + 1) (by omega)).trans z1
  have d2' := (ho4.cellAt (j * 3 + 2) (by omega)).trans z2
  have k0' := ho4.frozenAt (j * 3)
  have k1' := ho4.frozenAt (j * 3 + 1)
  have k2' := ho4.frozenAt (j * 3 + 2)
  generalize gL (ls.take i ++ ((ls.drop (i + 1)).take (j - i)) ++ ls.drop (i + (((ls.drop (i + 1)).take (j - i))).length)) j = q at *
  unfold set3 Sl.v at HEND HS5
  unfold boxL Sl.v at hw3
  unfold Sl.v at g2 d2 d2'
  have hlt : (i : Int) < (n : Int) := by omega
  clear hmv ho5 ho4d ho4 hln a5 a4 hfit hcell hspl hcur hml hmf hfl ho hB3 hB2 hBx3 a3 hw4 z0 z1 z2 hy HY HB3
  go_upto_region 4 with fail
  rw [← hw3]
  clear hw3 g0 g1 g2 b1
  generalize w2.heap.size = B at *
  have hbA : ¬ (c = i) := by omega
  have hbB : ¬ (c = i + 1) := by omega
  have hbC : (i : Int) ≤ (j : Int) := by omega
  have hbD : (j : Int) ≤ (c : Int) := by omega
  have hbE : (j : Int) + 1 ≤ (c : Int) := by omega
  have hbF : (i : Int) + 1 ≤ (j : Int) + 1 := by omega
  have hbG : (0 : Int) ≤ (i : Int) + 1 := by omega
  have hbH : ((i : Int) + 1).toNat = i + 1 := by omega
  have hbI : ((j : Int) + 1).toNat = j + 1 := by omega
  have hbJ : (0 : Int) ≤ (j : Int) + 1 := by omega
  go_upto_region 5 with fail
  refine wp_region_held_drew (S := fun X => X.cell? ⟨Bg, 1, none⟩ = some (.slice (some ⟨G, 0, none⟩) n c)) (by kernel_rfl) hS (fun hHeld => ?_)
  refine wpAnyH_take (i := 0) (oi := ⟨some 28, _, _, _, _, _⟩) (v := (.pointer (some ⟨Bg, 0, none⟩))) rfl (by kernel_rfl) (by kernel_rfl) (by kernel_rfl) (fun _ _ _ h => h) (Or.inl ⟨by rfl, ?_⟩) (by assumption) ?_
  · intro W hSW; go_simp
  simp only [Act.put, List.setIfInBounds_toArray, List.set_cons_zero, List.set_cons_succ]
  refine wpAnyH_take (i := 1) (oi := ⟨some 29, _, _, _, _, _⟩) (v := (.pointer (some ⟨Bg, 0, none⟩))) rfl (by kernel_rfl) (by kernel_rfl) (by kernel_rfl) (fun _ _ _ h => h) (Or.inl ⟨by rfl, ?_⟩) (by assumption) ?_
  · intro W hSW; go_simp
  simp only [Act.put, List.setIfInBounds_toArray, List.set_cons_zero, List.set_cons_succ]
  refine wpAnyH_take (i := 2) (oi := ⟨some 30, _, _, _, _, _⟩) (v := (.pointer (some ⟨Bg, 1, none⟩))) rfl (by kernel_rfl) (by kernel_rfl) (by kernel_rfl) (fun _ _ _ h => h) (Or.inl ⟨by rfl, ?_⟩) (by assumption) ?_
  · intro W hSW; go_simp
  simp only [Act.put, List.setIfInBounds_toArray, List.set_cons_zero, List.set_cons_succ]
  refine wpAnyH_take (i := 3) (oi := ⟨some 31, _, _, _, _, _⟩) (v := (.slice (some ⟨G, 0, none⟩) n c)) rfl (by kernel_rfl) (by kernel_rfl) (by kernel_rfl) (fun _ _ _ h => h) (Or.inl ⟨by rfl, ?_⟩) (by assumption) ?_
  · intro W hSW; go_simp
  simp only [Act.put, List.setIfInBounds_toArray, List.set_cons_zero, List.set_cons_succ]
  refine wpAnyH_take (i := 4) (oi := ⟨some 32, _, _, _, _, _⟩) (v := (.int .i64 (i : Int))) rfl (by kernel_rfl) (by kernel_rfl) (by kernel_rfl) (fun _ _ _ h => h) (Or.inl ⟨by rfl, ?_⟩) (by assumption) ?_
  · intro W hSW; go_simp
  simp only [Act.put, List.setIfInBounds_toArray, List.set_cons_zero, List.set_cons_succ]
  refine wpAnyH_take (i := 5) (oi := ⟨some 33, _, _, _, _, _⟩) (v := (.int .i64 (j : Int))) rfl (by kernel_rfl) (by kernel_rfl) (by kernel_rfl) (fun _ _ _ h => h) (Or.inl ⟨by rfl, ?_⟩) (by assumption) ?_
  · intro W hSW; go_simp
  simp only [Act.put, List.setIfInBounds_toArray, List.set_cons_zero, List.set_cons_succ]
  refine wpAnyH_take (i := 6) (oi := ⟨some 34, _, _, _, _, _⟩) (v := (.slice (some ⟨G, i * 3, none⟩) (j - i) (c - i))) rfl (by kernel_rfl) (by kernel_rfl) (by kernel_rfl) (fun _ _ _ h => h) (Or.inl ⟨by rfl, ?_⟩) (by assumption) ?_
  · intro W hSW; go_simp
  simp only [Act.put, List.setIfInBounds_toArray, List.set_cons_zero, List.set_cons_succ]
  refine wpAnyH_take (i := 7) (oi := ⟨some 35, _, _, _, _, _⟩) (v := (.pointer (some ⟨Bg, 0, none⟩))) rfl (by kernel_rfl) (by kernel_rfl) (by kernel_rfl) (fun _ _ _ h => h) (Or.inl ⟨by rfl, ?_⟩) (by assumption) ?_
  · intro W hSW; go_simp
  simp only [Act.put, List.setIfInBounds_toArray, List.set_cons_zero, List.set_cons_succ]
  refine wpAnyH_take (i := 8) (oi := ⟨some 36, _, _, _, _, _⟩) (v := (.pointer (some ⟨Bg, 0, none⟩))) rfl (by kernel_rfl) (by kernel_rfl) (by kernel_rfl) (fun _ _ _ h => h) (Or.inl ⟨by rfl, ?_⟩) (by assumption) ?_
  · intro W hSW; go_simp
  simp only [Act.put, List.setIfInBounds_toArray, List.set_cons_zero, List.set_cons_succ]
  refine wpAnyH_take (i := 9) (oi := ⟨some 37, _, _, _, _, _⟩) (v := (.pointer (some ⟨Bg, 1, none⟩))) rfl (by kernel_rfl) (by kernel_rfl) (by kernel_rfl) (fun _ _ _ h => h) (Or.inl ⟨by rfl, ?_⟩) (by assumption) ?_
  · intro W hSW; go_simp
  simp only [Act.put, List.setIfInBounds_toArray, List.set_cons_zero, List.set_cons_succ]
  refine wpAnyH_take (i := 10) (oi := ⟨some 38, _, _, _, _, _⟩) (v := (.slice (some ⟨G, 0, none⟩) n c)) rfl (by kernel_rfl) (by kernel_rfl) (by kernel_rfl) (fun _ _ _ h => h) (Or.inl ⟨by rfl, ?_⟩) (by assumption) ?_
  · intro W hSW; go_simp
  simp only [Act.put, List.setIfInBounds_toArray, List.set_cons_zero, List.set_cons_succ]
  refine wpAnyH_take (i := 11) (oi := ⟨some 39, _, _, _, _, _⟩) (v := (.int .i64 (i : Int))) rfl (by kernel_rfl) (by kernel_rfl) (by kernel_rfl) (fun _ _ _ h => h) (Or.inl ⟨by rfl, ?_⟩) (by assumption) ?_
  · intro W hSW; go_simp
  simp only [Act.put, List.setIfInBounds_toArray, List.set_cons_zero, List.set_cons_succ]
  refine wpAnyH_take (i := 12) (oi := ⟨some 40, _, _, _, _, _⟩) (v := (.int .i64 ((i : Int) + 1))) rfl (by kernel_rfl) (by kernel_rfl) (by kernel_rfl) (fun _ _ _ h => h) (Or.inl ⟨by rfl, ?_⟩) (by assumption) ?_
  · intro W hSW; go_simp <;> (rw [IntKind.wrap_i64]; omega)
  simp only [Act.put, List.setIfInBounds_toArray, List.set_cons_zero, List.set_cons_succ]
  refine wpAnyH_take (i := 13) (oi := ⟨some 41, _, _, _, _, _⟩) (v := (.int .i64 (j : Int))) rfl (by kernel_rfl) (by kernel_rfl) (by kernel_rfl) (fun _ _ _ h => h) (Or.inl ⟨by rfl, ?_⟩) (by assumption) ?_
  · intro W hSW; go_simp
  simp only [Act.put, List.setIfInBounds_toArray, List.set_cons_zero, List.set_cons_succ]
  refine wpAnyH_take (i := 14) (oi := ⟨some 42, _, _, _, _, _⟩) (v := (.int .i64 ((j : Int) + 1))) rfl (by kernel_rfl) (by kernel_rfl) (by kernel_rfl) (fun _ _ _ h => h) (Or.inl ⟨by rfl, ?_⟩) (by assumption) ?_
  · intro W hSW; go_simp <;> (rw [IntKind.wrap_i64]; omega)
  simp only [Act.put, List.setIfInBounds_toArray, List.set_cons_zero, List.set_cons_succ]
  refine wpAnyH_take (i := 15) (oi := ⟨some 43, _, _, _, _, _⟩) (v := (.slice (some ⟨G, (i + 1) * 3, none⟩) (j + 1 - (i + 1)) (c - (i + 1)))) rfl (by kernel_rfl) (by kernel_rfl) (by kernel_rfl) (fun _ _ _ h => h) (Or.inl ⟨by rfl, ?_⟩) (by assumption) ?_
  · intro W hSW; go_simp
  simp only [Act.put, List.setIfInBounds_toArray, List.set_cons_zero, List.set_cons_succ]
  refine wpAnyH_ready (rs := [16]) (by kernel_rfl) (by simp) ?_
  refine AllReadyH.cons rfl (fun KK hKK => ?_) AllReadyH.nil
  refine step_copy2 (o := ⟨some 44, _, _, _, _, _⟩) rfl (.tmp 34) (.tmp 43) 22 22 rfl _ _ rfl rfl _ _ hcp ?_
  refine hKK.out _ _ hS4 (fun hHeld => ?_)
  clear hKK KK
  refine wpAnyH_done (by kernel_rfl) ?_ _
  simp only [Act.put, List.setIfInBounds_toArray, List.set_cons_zero, List.set_cons_succ]
  go_wp2_with fail
  refine wp_region_held_drew (S := fun X => X.cell? ⟨Bg, 1, none⟩ = some (.slice (some ⟨G, 0, none⟩) n c) ∧ X.heap[B]? = some (.cells #[.int .i64 y.f, .int .i64 y.t, .slice y.d.p y.d.n y.d.c] 30 (0, 0))) (by kernel_rfl) ⟨hS4, hBx⟩ (fun hHeld => ?_)
  refine wpAnyH_take (i := 0) (oi := ⟨some 62, _, _, _, _, _⟩) (v := (.pointer (some ⟨Bg, 0, none⟩))) rfl (by kernel_rfl) (by kernel_rfl) (by kernel_rfl) (fun _ _ _ h => h) (Or.inl ⟨by rfl, ?_⟩) (by assumption) ?_
  · intro W hSW; go_simp
  simp only [Act.put, List.setIfInBounds_toArray, List.set_cons_zero, List.set_cons_succ]
  refine wpAnyH_take (i := 1) (oi := ⟨some 63, _, _, _, _, _⟩) (v := (.pointer (some ⟨Bg, 0, none⟩))) rfl (by kernel_rfl) (by kernel_rfl) (by kernel_rfl) (fun _ _ _ h => h) (Or.inl ⟨by rfl, ?_⟩) (by assumption) ?_
  · intro W hSW; go_simp
  simp only [Act.put, List.setIfInBounds_toArray, List.set_cons_zero, List.set_cons_succ]
  refine wpAnyH_take (i := 2) (oi := ⟨some 64, _, _, _, _, _⟩) (v := (.pointer (some ⟨Bg, 1, none⟩))) rfl (by kernel_rfl) (by kernel_rfl) (by kernel_rfl) (fun _ _ _ h => h) (Or.inl ⟨by rfl, ?_⟩) (by assumption) ?_
  · intro W hSW; go_simp
  simp only [Act.put, List.setIfInBounds_toArray, List.set_cons_zero, List.set_cons_succ]
  refine wpAnyH_take (i := 3) (oi := ⟨some 65, _, _, _, _, _⟩) (v := (.slice (some ⟨G, 0, none⟩) n c)) rfl (by kernel_rfl) (by kernel_rfl) (by kernel_rfl) (fun _ _ _ h => h) (Or.inl ⟨by rfl, ?_⟩) (by assumption) ?_
  · intro W hSW; obtain ⟨t0, _⟩ := hSW; go_simp
  simp only [Act.put, List.setIfInBounds_toArray, List.set_cons_zero, List.set_cons_succ]
  refine wpAnyH_take (i := 4) (oi := ⟨some 66, _, _, _, _, _⟩) (v := (.int .i64 (j : Int))) rfl (by kernel_rfl) (by kernel_rfl) (by kernel_rfl) (fun _ _ _ h => h) (Or.inl ⟨by rfl, ?_⟩) (by assumption) ?_
  · intro W hSW; go_simp
  simp only [Act.put, List.setIfInBounds_toArray, List.set_cons_zero, List.set_cons_succ]
  refine wpAnyH_take (i := 5) (oi := ⟨some 67, _, _, _, _, _⟩) (v := (.agg #[.int .i64 y.f, .int .i64 y.t, .slice y.d.p y.d.n y.d.c])) rfl (by kernel_rfl) (by kernel_rfl) (by kernel_rfl) (fun _ _ _ h => h) (Or.inl ⟨by rfl, ?_⟩) (by assumption) ?_
  · intro W hSW; obtain ⟨_, t1⟩ := hSW; obtain ⟨u0, u1, u2⟩ := row3 t1; go_simp
  simp only [Act.put, List.setIfInBounds_toArray, List.set_cons_zero, List.set_cons_succ]
  refine wpAnyH_take (i := 6) (oi := ⟨some 68, _, _, _, _, _⟩) (v := (.pointer (some ⟨G, j * 3, none⟩))) rfl (by kernel_rfl) (by kernel_rfl) (by kernel_rfl) (fun _ _ _ h => h) (Or.inl ⟨by rfl, ?_⟩) (by assumption) ?_
  · intro W hSW; go_simp <;> (intro hq; exfalso; omega)
  simp only [Act.put, List.setIfInBounds_toArray, List.set_cons_zero, List.set_cons_succ]
  refine wpAnyH_ready (rs := [7]) (by kernel_rfl) (by simp) ?_
  refine AllReadyH.cons rfl (fun KK hKK => ?_) AllReadyH.nil
  go_simp
  refine hKK.out _ _ ?_ (fun hHeld => ?_)
  · exact HS5.out
  clear hKK KK
  refine wpAnyH_done (by kernel_rfl) ?_ _
  go_wp2
  go_ret
  exact ⟨rfl, HEND.out⟩
end Go.Proofs.Ytiakcfjbnlibfaa.nt
