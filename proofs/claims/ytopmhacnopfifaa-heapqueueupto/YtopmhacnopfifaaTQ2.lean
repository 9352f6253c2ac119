import Derived.Test.YtopmhacnopfifaaTQ1
namespace Go.Proofs.Ytopmhacnopfifaa.tm
open Go.ChangeShapes Go.WideShapes Go.ChangeAt Go.RowKit
set_option linter.unusedVariables false
set_option linter.unusedSimpArgs false
theorem cancel1_ok (w : World) (NB : Nat) (e : E) (k : Int) (hk : w.cell? ⟨NB, 0, none⟩ = some (.int .i64 k)) :
    Calls Try.prog 49 #[.agg #[.int .i64 e.r, .int .i64 e.m, .int .i64 e.k, .int .i64 e.c, .int .i64 e.a], .pointer (some ⟨NB, 0, none⟩)] w fun r w' => r = .returned (.bool (e.m == k)) ∧ Apart [] w w' := by
  have hs := block_lt_of_cell hk
  simp only at hs
  go_enter Try.func49, Try.ntmps49
  go_wp2
  go_ret
  exact ⟨rfl, (Apart.refl _ _).alloc _⟩
structure IdxP (w w' : World) (r : Ending) (es : List E) (k : Int) : Prop where
  ex : ((r = .returned (.int .i64 (-1)) ∧ ∀ e ∈ es, e.m ≠ k) ∨ (∃ i : Nat, i < es.length ∧ r = .returned (.int .i64 i) ∧ (g es i).m = k)) ∧ Apart [] w w'
set_option maxHeartbeats 1000000 in
theorem index_nil (w : World) (NB : Nat) : Calls Try.prog 48 #[.slice none 0 0, .func (.func 49) #[] #[.pointer (some ⟨NB, 0, none⟩)]] w fun r w' => r = .returned (.int .i64 (-1)) ∧ w' = w := by
  go_enter Try.func48, Try.ntmps48
  go_wp2
  go_loopw [8] (fun v wr => v = .int .i64 0 ∧ wr = w) (fun v _ => 0)
  case atStart => exact ⟨rfl, rfl⟩
  case round =>
    obtain ⟨rfl, rfl⟩ := hrel
    go_wp2
    go_ret
    exact ⟨rfl, rfl⟩
set_option maxHeartbeats 1000000 in
theorem index_some (w : World) (H : Nat) (F : Value) (G cap N n : Nat) (es : List E) (h : At w H F [] (.slice (some ⟨G, 0, none⟩) N cap) es n) (hN : es.length = N) (NB : Nat) (k : Int) (hk : w.cell? ⟨NB, 0, none⟩ = some (.int .i64 k)) :
    Calls Try.prog 48 #[.slice (some ⟨G, 0, none⟩) N cap, .func (.func 49) #[] #[.pointer (some ⟨NB, 0, none⟩)]] w fun r w' => IdxP w w' r es k := by
  have hl := h.hl
  rw [hN] at hl
  have hNB := block_lt_of_cell hk
  simp only at hNB
  have HK : ∀ X, Apart [] w X → X.cell? ⟨NB, 0, none⟩ = some (.int .i64 k) := fun X a => (a.cell (p := ⟨NB, 0, none⟩) hNB (by simp)).trans hk
  have HH := hid h
  have HN := hid hN
  clear h hk hN
  go_enter Try.func48, Try.ntmps48
  go_wp2
  go_loopw [8] (fun v wr => ∃ j : Nat, j ≤ N ∧ v = .int .i64 j ∧ Apart [] w wr ∧ ∀ i, i < j → (g es i).m ≠ k) (fun v _ => N - (intOf v).toNat)
  case atStart => exact ⟨0, Nat.zero_le _, rfl, Apart.refl _ _, fun i hi => by omega⟩
  case round =>
    obtain ⟨j, hj, rfl, a, hne⟩ := hrel
    have HNE := hid hne
    clear hne
    by_cases hlt : j < N
    · have h1 := HH.out.kept0 a
      rw [← HN.out] at h1
      have e0 := h1.e0 j (by rw [HN.out]; exact hlt)
      have e1 := h1.e1 j (by rw [HN.out]; exact hlt)
      have e2 := h1.e2 j (by rw [HN.out]; exact hlt)
      have e3 := h1.e3 j (by rw [HN.out]; exact hlt)
      have e4 := h1.e4 j (by rw [HN.out]; exact hlt)
      have hC := cancel1_ok wr NB (g es j) k (HK _ a)
      clear h1
      go_wp2_with fail
      refine hC.mono ?_
      rintro r w2 ⟨rfl, a2⟩
      dsimp only
      have a3 := a.trans a2
      clear hC e0 e1 e2 e3 e4
      by_cases hm : (g es j).m = k
      · have hb : ((g es j).m == k) = true := by simpa using hm
        rw [hb]
        have P : Hid (IdxP w w2 (.returned (.int .i64 j)) es k) := ⟨.inr ⟨j, by rw [HN.out]; exact hlt, rfl, hm⟩, a3⟩
        clear a a2 a3 HK
        go_wp2
        go_ret
        exact P.out
      · have hb : ((g es j).m == k) = false := by simpa using hm
        rw [hb]
        clear a a2
        go_wp2
        go_roundw
        case rel => exact ⟨j + 1, by omega, by go_num, a3, fun i hi => by
          by_cases e : i = j
          · subst e; exact hm
          · exact HNE.out i (by omega)⟩
        case measure => simp [intOf]; omega
    · obtain rfl : j = N := by omega
      have P : Hid (IdxP w wr (.returned (.int .i64 (-1))) es k) := ⟨.inl ⟨rfl, fun e he => by
        obtain ⟨i, hi, rfl⟩ := mem_g he
        exact HNE.out i (by rw [HN.out] at hi; exact hi)⟩, a⟩
      clear a HK
      go_wp2
      go_ret
      exact P.out
theorem index_any (w : World) (H : Nat) (F v : Value) (n : Nat) (es : List E) (h : At w H F [] v es n) (NB : Nat) (k : Int) (hk : w.cell? ⟨NB, 0, none⟩ = some (.int .i64 k)) :
    Calls Try.prog 48 #[v, .func (.func 49) #[] #[.pointer (some ⟨NB, 0, none⟩)]] w fun r w' => IdxP w w' r es k := by
  by_cases h0 : 0 < es.length
  · obtain ⟨G, cap, rfl, _⟩ := h.shape h0
    exact index_some w H F G cap _ n es h rfl NB k hk
  · obtain rfl : es = [] := List.length_eq_zero_iff.1 (by omega)
    have h' := h
    obtain ⟨_, ⟨hv, hz⟩ | ⟨g', cap', cur, hv, hb, hr, hle, _⟩⟩ := h.own
    · subst hv
      refine (index_nil w NB).mono ?_
      rintro r w' ⟨rfl, rfl⟩
      exact ⟨.inl ⟨rfl, by simp⟩, Apart.refl _ _⟩
    · subst hv
      exact index_some w H F g' cap' 0 n [] h' rfl NB k hk
structure CanP (w0 w w' : World) (r : Ending) (Q H : Nat) (row : List E) (n : Nat) (nw k : Int) : Prop where
  ex : ((r = .returned (.bool false) ∧ ∀ e ∈ row, e.m ≠ k) ∨ (r = .returned (.bool true) ∧ ∃ e ∈ row, e.m = k)) ∧ Qu w0 w' Q H (row.filter (fun e => decide (e.m ≠ k))) n nw ∧ Apart [] w0 w' ∧ KeptQ Q w w'
theorem filter_all {row : List E} {k : Int} (h : ∀ e ∈ row, e.m ≠ k) : row.filter (fun e => decide (e.m ≠ k)) = row := List.filter_eq_self.2 (fun e he => decide_eq_true (h e he))
theorem filter_perm {row cs : List E} {e : E} {k : Int} (hp : (e :: cs).Perm row) (he : e.m = k) (di : Dist row) (hm : ∀ e ∈ row, e.m = e.a + 1) : cs.Perm (row.filter (fun e => decide (e.m ≠ k))) := by
  have h1 := (hp.filter (fun e => decide (e.m ≠ k))).symm
  have d1 := di.perm hp
  unfold Dist at d1
  rw [List.pairwise_cons] at d1
  have h2 : (e :: cs).filter (fun e => decide (e.m ≠ k)) = cs := by
    rw [List.filter_cons_of_neg (by simp [he])]
    refine filter_all (fun x hx hxk => ?_)
    have h3 := hm e (hp.subset (by simp))
    have h4 := hm x (hp.subset (by simp [hx]))
    exact d1.1 x hx (by omega)
  rw [h2] at h1
  exact h1.symm
set_option maxHeartbeats 2000000 in
set_option maxRecDepth 100000 in
theorem cancel_ok {w0 w : World} {Q H : Nat} {row : List E} {n : Nat} {nw : Int} (q : Qu w0 w Q H row n nw) (a0 : Apart [] w0 w) (k : Int) :
    Calls Try.prog 17 #[.pointer (some ⟨Q, 0, none⟩), .int .i64 k] w fun r w' => CanP w0 w w' r Q H row n nw k := by
  have aV : Apart [] w (w.alloc (.cells #[.int .i64 k] 3)) := (Apart.refl _ _).alloc _
  have q1 := q.kept aV
  obtain ⟨es, o, p⟩ := q1.hr.ex
  obtain ⟨v, h1, h2⟩ := o.ex
  have hqs := lt_of_heap q.hq
  have c0 : w.cell? ⟨Q, 0, none⟩ = some (.pointer (some ⟨H, 0, none⟩)) := by rw [cell_of_row _ _ _ _ _ _ q.hq]; rfl
  have c1 : (w.alloc (.cells #[.int .i64 k] 3)).cell? ⟨Q, 0, none⟩ = some (.pointer (some ⟨H, 0, none⟩)) := by rw [cell_of_row _ _ _ _ _ _ q1.hq]; rfl
  have d1 := h1.c1
  have hHs : H < w.heap.size := by
    obtain ⟨es', o', _⟩ := q.hr.ex
    obtain ⟨v', h1', _⟩ := o'.ex
    exact lt_of_heap h1'.hh
  have d1' : w.cell? ⟨H, 1, none⟩ = some v := (aV.cell (p := ⟨H, 1, none⟩) hHs (by simp)).symm.trans d1
  have hI := index_any _ H freshF v n es h1 w.heap.size k (by simp)
  have HQ := hid q
  have HQ1 := hid q1
  have HO := hid o
  have HP := hid p
  have HAV := hid aV
  have HAT := hid h1
  have HV := hid h2
  have HA0 := hid a0
  obtain ⟨V1, hV1⟩ : ∃ V1, Hid (w.alloc (.cells #[.int .i64 k] 3) = V1) := ⟨_, rfl⟩
  clear q q1 o p aV h1 h2 a0 d1
  go_enter Try.func17, Try.ntmps17
  go_wp2_with fail
  refine hI.mono ?_
  rintro r w2 ⟨hres, a2⟩
  have A2 := hid (HAV.out.trans a2)
  have q2 := HQ.out.kept A2.out
  have at2 := HAT.out.kept0 a2
  have c2 : w2.cell? ⟨Q, 0, none⟩ = some (.pointer (some ⟨H, 0, none⟩)) := by rw [cell_of_row _ _ _ _ _ _ q2.hq]; rfl
  have Q2 := hid q2
  have AT2 := hid at2
  clear hI a2 q2 at2 c1 c0
  rcases hres with ⟨rfl, hno⟩ | ⟨i, hi, rfl, hm⟩
  · dsimp only
    have hno' : ∀ e ∈ row, e.m ≠ k := fun e he => hno e (HP.out.symm.subset he)
    have P : Hid (CanP w0 w w2 (.returned (.bool false)) Q H row n nw k) := ⟨.inl ⟨rfl, hno'⟩, by rw [filter_all hno']; exact Q2.out, HA0.out.trans A2.out, KeptQ.of A2.out⟩
    clear hno hno'
    go_wp2
    go_ret
    exact P.out
  · dsimp only
    obtain ⟨M, hM⟩ : ∃ M, es.length = M + 1 := ⟨es.length - 1, by omega⟩
    have hsh := AT2.out.shape (by omega)
    obtain ⟨G, cap, rfl, hcap⟩ := hsh
    rw [hM] at AT2 HAT
    have hi' : i ≤ M := by omega
    have hR := remove_at kindLex w2 H G cap M es n i AT2.out hM hi'
    have HM := hid hM
    have HMK := hid hm
    clear hM hm hi hcap
    go_wp2_with fail
    refine hR.mono ?_
    rintro r w3 ⟨rfl, ⟨cs, hcl, at3, perm3, hp3, a3⟩⟩
    dsimp only
    have P : Hid (CanP w0 w w3 (.returned (.bool true)) Q H row n nw k) := by
      have pr : (g es i :: cs).Perm row := perm3.trans HP.out
      have hH3 : w0.heap.size ≤ H := HO.out.hH
      have hG3 : w0.heap.size ≤ G := HV.out G rfl
      have hids : Apart (ids H (.slice (some ⟨G, 0, none⟩) (M + 1) cap)) w2 w3 := a3.mono (by simp [ids, Value.ownBlock])
      have kk := Kept.at AT2.out hids
      refine ⟨.inr ⟨rfl, g es i, pr.subset (by simp), HMK.out⟩, ⟨kk Q _ _ _ Q2.out.hq (by decide) (by decide), ⟨⟨cs, ⟨⟨_, at3, ?_⟩, hp3 lex lexFits HO.out.hp, hH3⟩, filter_perm pr HMK.out Q2.out.hr.di (fun e he => (Q2.out.hm e he).1)⟩, ?_, ?_⟩, Q2.out.hQ, fun e he => Q2.out.hm e (List.mem_filter.1 he).1⟩, ?_, (KeptQ.of A2.out).trans (KeptQ.kept kk a3.size)⟩
      · intro k' hk'; simp [Value.ownBlock] at hk'; subst hk'; exact hG3
      · exact List.Pairwise.filter _ Q2.out.hr.up
      · exact List.Pairwise.filter _ Q2.out.hr.di
      · exact (HA0.out.trans A2.out).trans' a3 (by simp; omega)
    clear at3 perm3 hp3 a3 hR
    go_wp2
    go_ret
    exact P.out
end Go.Proofs.Ytopmhacnopfifaa.tm
