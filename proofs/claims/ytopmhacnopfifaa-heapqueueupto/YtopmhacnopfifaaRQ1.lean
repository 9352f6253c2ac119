import Derived.Test.YtopmhacnopfifaaVW
import Derived.Test.YtopmhacnopfifaaKL
namespace Go.Proofs.Ytopmhacnopfifaa.tm
open Go.ChangeShapes Go.WideShapes Go.ChangeAt Go.RowKit
set_option linter.unusedVariables false
set_option linter.unusedSimpArgs false
theorem flat2_snoc (L : List E) (e : E) : flat2 L ++ [.int .i64 e.r, .int .i64 e.m, .int .i64 e.k, .int .i64 e.c] = flat2 (L ++ [e]) := by simp [flat2, ec2]
/-- a list with one more, out of a new row of one -/
theorem run_one (w : World) (v : Value) (L : List E) (own : w.ownsRow 0 46 4 v L.length (flat2 L)) (e : E) (hl : L.length < 1300000) :
    ∃ v' w4, (Builtin.append_ #[49, 49] 49 #[v, .slice (some ⟨w.heap.size, 0, none⟩) 1 1]).run Try.prog (w.alloc (.cells #[.int .i64 e.r, .int .i64 e.m, .int .i64 e.k, .int .i64 e.c] 46)) = .ok v' w4 ∧ w4.ownsRow 0 46 4 v' (L ++ [e]).length (flat2 (L ++ [e])) ∧ Apart v.ownBlock.toList w w4 ∧ NewOr w v v' ∧ ∃ p c, v' = .slice p (L.length + 1) c := by
  obtain ⟨i0, hi, hz0, hz1, hz2⟩ := info_parts info46
  have aW : Apart [] w (w.alloc (.cells #[.int .i64 e.r, .int .i64 e.m, .int .i64 e.k, .int .i64 e.c] 46)) := (Apart.refl _ _).alloc _
  obtain ⟨v', w4, hrun, r1, r2, r3⟩ := run_append2 (w.alloc (.cells #[.int .i64 e.r, .int .i64 e.m, .int .i64 e.k, .int .i64 e.c] 46)) 49 49 46 i0 _ 4 32 Try.underlying49 hi hz0 hz1 hz2 rfl (by decide) v L.length (flat2 L) (own.alloc _) ⟨w.heap.size, 0, none⟩ 1 1 [.int .i64 e.r, .int .i64 e.m, .int .i64 e.k, .int .i64 e.c] (by decide) rfl (by intro j u hj; match j, hj with | 0, hj => (simp at hj; subst hj; simp [Addr.add]) | 1, hj => (simp at hj; subst hj; simp [Addr.add]) | 2, hj => (simp at hj; subst hj; simp [Addr.add]) | 3, hj => (simp at hj; subst hj; simp [Addr.add])) (by intro u hu; simp at hu; rcases hu with rfl | rfl | rfl | rfl <;> rfl) (by unfold maxLen; omega) (by omega)
  rw [flat2_snoc] at r1
  have r1' : w4.ownsRow 0 46 4 v' (L ++ [e]).length (flat2 (L ++ [e])) := by simpa using r1
  refine ⟨v', w4, hrun, r1', (aW.mono (by simp)).trans (apart_grown r2), r3.sub aW.size, ?_⟩
  obtain ⟨_, ⟨hv, hz⟩ | ⟨g', cap', cur, hv, _⟩⟩ := r1
  · omega
  · exact ⟨_, _, hv⟩
theorem step_append3 {w : World} {ops : Array Oper} {o : Oper} {a : Act} {K : Act → World → Prop} {Q : Exit → Act → World → Prop} {E : Prop} (hgd : o.guard = none) (s x : Operand) (t : TypeId)
    (ho : o.op = .call { callee := .builtin .append, args := #[s, x], argTypes := #[t, t] }) (v u : Value) (hs : a.eval s = v) (hx : a.eval x = u) (v' : Value) (w' : World)
    (hrun : (Builtin.append_ #[t, t] o.type #[v, u]).run Try.prog w = .ok v' w') (hK : K (a.put o.dst v') w') : if Region.wanted o (yielded ops a.tmps) = true then Oper.wp Try.prog o a w K Q else E := by
  have hw : Region.wanted o (yielded ops a.tmps) = true := by simp [Region.wanted, hgd]
  rw [if_pos hw]
  unfold Oper.wp
  simp [execOp, ho, resolve, invoke, builtin, hs, hx, hrun, Result.andThen]
  exact hK
theorem Rq.ne {w : World} {R o : Nat} {cs : Array Value} {lv : Value} {L : List E} {n : Nat} {nw : Int} (h : Rq w R o cs lv L n nw) : lv.ownBlock ≠ some R := by
  intro e
  obtain ⟨cur, h2⟩ := own_typ h.own e
  rw [h.hR] at h2; simp at h2
theorem Rq.shape0 {w : World} {R o : Nat} {cs : Array Value} {lv : Value} {L : List E} {n : Nat} {nw : Int} (h : Rq w R o cs lv L n nw) : ∃ p c, lv = .slice p L.length c := by
  obtain ⟨hl, ⟨hv, hz⟩ | ⟨g, cap, cur, rfl, hb, hr, hle, _⟩⟩ := h.own
  · exact ⟨none, 0, by rw [hv, hz]⟩
  · exact ⟨_, cap, rfl⟩
structure RArm (w w' : World) (r : Ending) (R o : Nat) (cs : Array Value) (lv : Value) (L : List E) (n : Nat) (nw due kind call : Int) : Prop where
  ex : r = .returned (.int .i64 ((n : Int) + 1)) ∧ ∃ lv', Rq w' R o ((cs.setIfInBounds (o + 1) (.int .i64 ((n + 1 : Nat) : Int))).setIfInBounds o lv') lv' (L ++ [⟨due, (n : Int) + 1, kind, call, n⟩]) (n + 1) nw ∧ Apart (ids R lv) w w' ∧ NewOr w lv lv'
set_option maxHeartbeats 2000000 in
set_option maxRecDepth 100000 in
theorem rarm_ok {w : World} {R o : Nat} {cs : Array Value} {lv : Value} {L : List E} {n : Nat} {nw : Int} (h : Rq w R o cs lv L n nw) (due kind call : Int) (hn : n < 3000000) (hl : L.length < 1200000) :
    Calls Try.prog 21 #[.pointer (some ⟨R, o, none⟩), .int .i64 due, .int .i64 kind, .int .i64 call] w fun r w' => RArm w w' r R o cs lv L n nw due kind call := by
  have hRs := lt_of_heap h.hR
  have c1 : w.cell? ⟨R, o + 1, none⟩ = some (.int .i64 (n : Int)) := by rw [cell_of_row _ _ _ _ _ _ h.hR]; exact h.h1
  have f1 := frozen_of_row w R (o + 1) _ _ h.hR
  obtain ⟨p, c, hv⟩ := h.shape0
  have b1 : (w.setCell ⟨R, o + 1, none⟩ (.int .i64 ((n : Int) + 1))).heap[R]? = some (.cells (cs.setIfInBounds (o + 1) (.int .i64 ((n : Int) + 1))) 56 (0, 0)) := heap_setCell_same _ _ _ _ _ _ h.hR
  have a1 : Apart [R] w (w.setCell ⟨R, o + 1, none⟩ (.int .i64 ((n : Int) + 1))) := (Apart.refl _ _).setCell (by simp) _
  obtain ⟨W1, hW1⟩ : ∃ W1, w.setCell ⟨R, o + 1, none⟩ (.int .i64 ((n : Int) + 1)) = W1 := ⟨_, rfl⟩
  rw [hW1] at b1 a1
  have o1s : o < cs.size := (Array.getElem?_eq_some_iff.1 h.h0).1
  have o2s : o + 1 < cs.size := (Array.getElem?_eq_some_iff.1 h.h1).1
  have cL : W1.drew.cell? ⟨R, o, none⟩ = some lv := by rw [cell_of_row _ _ _ _ _ _ (show W1.drew.heap[R]? = _ from b1), Array.getElem?_setIfInBounds_ne (by omega)]; exact h.h0
  have cN : W1.drew.cell? ⟨R, o + 1, none⟩ = some (.int .i64 ((n : Int) + 1)) := by rw [cell_of_row _ _ _ _ _ _ (show W1.drew.heap[R]? = _ from b1), Array.getElem?_setIfInBounds_self_of_lt o2s]
  have aD : Apart [R] w W1.drew := a1.trans ((Apart.refl _ _).drewN 1)
  have ownD : W1.drew.ownsRow 0 46 4 lv L.length (flat2 L) := own_apart h.own aD (fun k hk m => h.ne (by simp at m; rw [← m]; exact hk))
  obtain ⟨v', w4, hrun, r1, ap4, nw4, p4, c4, hv4⟩ := run_one W1.drew lv L ownD ⟨due, (n : Int) + 1, kind, call, n⟩ (by omega)
  dsimp only at hrun
  have b4 : w4.heap[R]? = some (.cells (cs.setIfInBounds (o + 1) (.int .i64 ((n : Int) + 1))) 56 (0, 0)) := (ap4.block R (Nat.lt_of_lt_of_le hRs aD.size) (fun m => h.ne (by simpa using m))).trans b1
  have k4 : w4.cell? ⟨R, o, none⟩ = some lv := by rw [cell_of_row _ _ _ _ _ _ b4, Array.getElem?_setIfInBounds_ne (by omega)]; exact h.h0
  have k4n : w4.cell? ⟨R, o + 1, none⟩ = some (.int .i64 ((n : Int) + 1)) := by rw [cell_of_row _ _ _ _ _ _ b4, Array.getElem?_setIfInBounds_self_of_lt o2s]
  have f4 := frozen_of_row w4 R o _ _ b4
  have b5 : (w4.setCell ⟨R, o, none⟩ v').heap[R]? = some (.cells ((cs.setIfInBounds (o + 1) (.int .i64 ((n : Int) + 1))).setIfInBounds o v') 56 (0, 0)) := heap_setCell_same _ _ _ _ _ _ b4
  have a5 : Apart [R] w4 (w4.setCell ⟨R, o, none⟩ v') := (Apart.refl _ _).setCell (by simp) _
  have k5n : (w4.setCell ⟨R, o, none⟩ v').cell? ⟨R, o + 1, none⟩ = some (.int .i64 ((n : Int) + 1)) := by rw [cell_of_row _ _ _ _ _ _ b5, Array.getElem?_setIfInBounds_ne (by omega), Array.getElem?_setIfInBounds_self_of_lt o2s]
  have P : Hid (RArm w (w4.setCell ⟨R, o, none⟩ v') (.returned (.int .i64 ((n : Int) + 1))) R o cs lv L n nw due kind call) := by
    refine ⟨rfl, v', ⟨?_, ?_, ?_, ?_, ?_, ?_⟩, ?_, ?_⟩
    · rw [b5]; rfl
    · exact Array.getElem?_setIfInBounds_self_of_lt (by simpa using o1s)
    · rw [Array.getElem?_setIfInBounds_ne (by omega)]; exact Array.getElem?_setIfInBounds_self_of_lt o2s
    · rw [Array.getElem?_setIfInBounds_ne (by omega), Array.getElem?_setIfInBounds_ne (by omega)]; exact h.h2
    · exact own_apart r1 a5 (fun k hk m => by
        simp at m; subst m
        obtain ⟨cur, h2⟩ := own_typ r1 hk
        rw [b4] at h2; simp at h2)
    · simp; omega
    · exact ((aD.mono (by simp [ids])).trans (ap4.mono (by simp +contextual [ids]))).trans (a5.mono (by simp [ids]))
    · exact nw4.sub aD.size

  have cLA : ∀ O, (W1.drew.alloc O).cell? ⟨R, o, none⟩ = some lv := fun O => (((Apart.refl [] W1.drew).alloc O).cell (p := ⟨R, o, none⟩) (Nat.lt_of_lt_of_le hRs aD.size) (by simp)).trans cL
  have cNA : ∀ O, (W1.drew.alloc O).cell? ⟨R, o + 1, none⟩ = some (.int .i64 ((n : Int) + 1)) := fun O => (((Apart.refl [] W1.drew).alloc O).cell (p := ⟨R, o + 1, none⟩) (Nat.lt_of_lt_of_le hRs aD.size) (by simp)).trans cN
  subst hv4
  subst hv
  clear h ownD r1 ap4 nw4 b1 a1 aD b4 b5 a5 o1s o2s
  generalize L.length = N at *
  go_enter Try.func21, Try.ntmps21
  go_wp2_with fail

  refine wp_region_held_drew (S := fun X => X.cell? ⟨R, o + 1, none⟩ = some (.int .i64 ((n : Int) + 1))) (by kernel_rfl) cN (fun hHeld => ?_)
  generalize W1.drew = W2 at *
  refine wpAnyH_take (i := 0) (oi := ⟨some 16, _, _, _, _, _⟩) (v := (.pointer (some ⟨R, o, none⟩))) rfl (by kernel_rfl) (by kernel_rfl) (by kernel_rfl) (fun _ _ _ h => h) (Or.inl ⟨by rfl, ?_⟩) (by assumption) ?_
  · intro W hSW; go_simp
  simp only [Act.put, List.setIfInBounds_toArray, List.set_cons_zero, List.set_cons_succ]
  refine wpAnyH_take (i := 1) (oi := ⟨some 17, _, _, _, _, _⟩) (v := (.pointer (some ⟨R, o, none⟩))) rfl (by kernel_rfl) (by kernel_rfl) (by kernel_rfl) (fun _ _ _ h => h) (Or.inl ⟨by rfl, ?_⟩) (by assumption) ?_
  · intro W hSW; go_simp
  simp only [Act.put, List.setIfInBounds_toArray, List.set_cons_zero, List.set_cons_succ]
  refine wpAnyH_take (i := 2) (oi := ⟨some 18, _, _, _, _, _⟩) (v := (.pointer (some ⟨R, o, none⟩))) rfl (by kernel_rfl) (by kernel_rfl) (by kernel_rfl) (fun _ _ _ h => h) (Or.inl ⟨by rfl, ?_⟩) (by assumption) ?_
  · intro W hSW; go_simp
  simp only [Act.put, List.setIfInBounds_toArray, List.set_cons_zero, List.set_cons_succ]
  refine wpAnyH_take (i := 3) (oi := ⟨some 19, _, _, _, _, _⟩) (v := (.pointer (some ⟨R, o, none⟩))) rfl (by kernel_rfl) (by kernel_rfl) (by kernel_rfl) (fun _ _ _ h => h) (Or.inl ⟨by rfl, ?_⟩) (by assumption) ?_
  · intro W hSW; go_simp
  simp only [Act.put, List.setIfInBounds_toArray, List.set_cons_zero, List.set_cons_succ]
  refine wpAnyH_take (i := 5) (oi := ⟨some 21, _, _, _, _, _⟩) (v := (.int .i64 due)) rfl (by kernel_rfl) (by kernel_rfl) (by kernel_rfl) (fun _ _ _ h => h) (Or.inl ⟨by rfl, ?_⟩) (by assumption) ?_
  · intro W hSW; go_simp
  simp only [Act.put, List.setIfInBounds_toArray, List.set_cons_zero, List.set_cons_succ]
  refine wpAnyH_take (i := 6) (oi := ⟨some 22, _, _, _, _, _⟩) (v := (.pointer (some ⟨R, o, none⟩))) rfl (by kernel_rfl) (by kernel_rfl) (by kernel_rfl) (fun _ _ _ h => h) (Or.inl ⟨by rfl, ?_⟩) (by assumption) ?_
  · intro W hSW; go_simp
  simp only [Act.put, List.setIfInBounds_toArray, List.set_cons_zero, List.set_cons_succ]
  refine wpAnyH_take (i := 7) (oi := ⟨some 23, _, _, _, _, _⟩) (v := (.pointer (some ⟨R, o, none⟩))) rfl (by kernel_rfl) (by kernel_rfl) (by kernel_rfl) (fun _ _ _ h => h) (Or.inl ⟨by rfl, ?_⟩) (by assumption) ?_
  · intro W hSW; go_simp
  simp only [Act.put, List.setIfInBounds_toArray, List.set_cons_zero, List.set_cons_succ]
  refine wpAnyH_take (i := 8) (oi := ⟨some 24, _, _, _, _, _⟩) (v := (.pointer (some ⟨R, o + 1, none⟩))) rfl (by kernel_rfl) (by kernel_rfl) (by kernel_rfl) (fun _ _ _ h => h) (Or.inl ⟨by rfl, ?_⟩) (by assumption) ?_
  · intro W hSW; go_simp
  simp only [Act.put, List.setIfInBounds_toArray, List.set_cons_zero, List.set_cons_succ]
  refine wpAnyH_take (i := 9) (oi := ⟨some 25, _, _, _, _, _⟩) (v := (.int .i64 ((n : Int) + 1))) rfl (by kernel_rfl) (by kernel_rfl) (by kernel_rfl) (fun _ _ _ h => h) (Or.inl ⟨by rfl, ?_⟩) (by assumption) ?_
  · intro W hSW; go_simp
  simp only [Act.put, List.setIfInBounds_toArray, List.set_cons_zero, List.set_cons_succ]
  refine wpAnyH_take (i := 10) (oi := ⟨some 26, _, _, _, _, _⟩) (v := (.int .i64 kind)) rfl (by kernel_rfl) (by kernel_rfl) (by kernel_rfl) (fun _ _ _ h => h) (Or.inl ⟨by rfl, ?_⟩) (by assumption) ?_
  · intro W hSW; go_simp
  simp only [Act.put, List.setIfInBounds_toArray, List.set_cons_zero, List.set_cons_succ]
  refine wpAnyH_take (i := 11) (oi := ⟨some 27, _, _, _, _, _⟩) (v := (.int .i64 call)) rfl (by kernel_rfl) (by kernel_rfl) (by kernel_rfl) (fun _ _ _ h => h) (Or.inl ⟨by rfl, ?_⟩) (by assumption) ?_
  · intro W hSW; go_simp
  simp only [Act.put, List.setIfInBounds_toArray, List.set_cons_zero, List.set_cons_succ]
  refine wpAnyH_take (i := 12) (oi := ⟨some 28, _, _, _, _, _⟩) (v := (.agg #[.int .i64 due, .int .i64 ((n : Int) + 1), .int .i64 kind, .int .i64 call])) rfl (by kernel_rfl) (by kernel_rfl) (by kernel_rfl) (fun _ _ _ h => h) (Or.inl ⟨by rfl, ?_⟩) (by assumption) ?_
  · intro W hSW; go_simp
  simp only [Act.put, List.setIfInBounds_toArray, List.set_cons_zero, List.set_cons_succ]
  refine wpAnyH_ready (rs := [4, 13]) (by kernel_rfl) (by simp) ?_
  refine AllReadyH.cons rfl (fun KK hKK => ?_) (AllReadyH.cons rfl (fun KK hKK => ?_) AllReadyH.nil)
  · go_simp
    refine hKK.out _ _ cN (fun hHeld => ?_)
    clear hKK KK
    refine wpAnyH_ready (rs := [13]) (by kernel_rfl) (by simp) ?_
    refine AllReadyH.cons rfl (fun KK hKK => ?_) AllReadyH.nil
    go_simp
    refine hKK.out _ _ (cNA _) (fun hHeld => ?_)
    clear hKK KK
    refine wpAnyH_ready (rs := [14]) (by kernel_rfl) (by simp) ?_
    refine AllReadyH.cons rfl (fun KK hKK => ?_) AllReadyH.nil
    refine step_append3 rfl (.tmp 20) (.tmp 29) 49 rfl _ _ rfl rfl _ _ hrun ?_
    clear hrun
    simp only [Act.put, List.setIfInBounds_toArray, List.set_cons_zero, List.set_cons_succ]
    refine hKK.out _ _ k4n (fun hHeld => ?_)
    clear hKK KK cLA cNA
    refine wpAnyH_take (i := 15) (oi := ⟨some 31, _, _, _, _, _⟩) (v := (.pointer (some ⟨R, o, none⟩))) rfl (by kernel_rfl) (by kernel_rfl) (by kernel_rfl) (fun _ _ _ h => h) (Or.inl ⟨by rfl, ?_⟩) (by assumption) ?_
    · intro W hSW; go_simp
    simp only [Act.put, List.setIfInBounds_toArray, List.set_cons_zero, List.set_cons_succ]
    refine wpAnyH_take (i := 16) (oi := ⟨some 32, _, _, _, _, _⟩) (v := (.pointer (some ⟨R, o, none⟩))) rfl (by kernel_rfl) (by kernel_rfl) (by kernel_rfl) (fun _ _ _ h => h) (Or.inl ⟨by rfl, ?_⟩) (by assumption) ?_
    · intro W hSW; go_simp
    simp only [Act.put, List.setIfInBounds_toArray, List.set_cons_zero, List.set_cons_succ]
    refine wpAnyH_ready (rs := [17]) (by kernel_rfl) (by simp) ?_
    refine AllReadyH.cons rfl (fun KK hKK => ?_) AllReadyH.nil
    go_simp
    refine hKK.out _ _ k5n (fun hHeld => ?_)
    clear hKK KK
    refine wpAnyH_done (by kernel_rfl) ?_ _
    go_wp2
    go_ret
    exact P.out
  · go_simp
    refine hKK.out _ _ (cNA _) (fun hHeld => ?_)
    clear hKK KK
    have cLx := cLA
    refine wpAnyH_ready (rs := [4]) (by kernel_rfl) (by simp) ?_
    refine AllReadyH.cons rfl (fun KK hKK => ?_) AllReadyH.nil
    go_simp
    refine hKK.out _ _ (cNA _) (fun hHeld => ?_)
    clear hKK KK
    refine wpAnyH_ready (rs := [14]) (by kernel_rfl) (by simp) ?_
    refine AllReadyH.cons rfl (fun KK hKK => ?_) AllReadyH.nil
    refine step_append3 rfl (.tmp 20) (.tmp 29) 49 rfl _ _ rfl rfl _ _ hrun ?_
    clear hrun
    simp only [Act.put, List.setIfInBounds_toArray, List.set_cons_zero, List.set_cons_succ]
    refine hKK.out _ _ k4n (fun hHeld => ?_)
    clear hKK KK cLA cNA
    refine wpAnyH_take (i := 15) (oi := ⟨some 31, _, _, _, _, _⟩) (v := (.pointer (some ⟨R, o, none⟩))) rfl (by kernel_rfl) (by kernel_rfl) (by kernel_rfl) (fun _ _ _ h => h) (Or.inl ⟨by rfl, ?_⟩) (by assumption) ?_
    · intro W hSW; go_simp
    simp only [Act.put, List.setIfInBounds_toArray, List.set_cons_zero, List.set_cons_succ]
    refine wpAnyH_take (i := 16) (oi := ⟨some 32, _, _, _, _, _⟩) (v := (.pointer (some ⟨R, o, none⟩))) rfl (by kernel_rfl) (by kernel_rfl) (by kernel_rfl) (fun _ _ _ h => h) (Or.inl ⟨by rfl, ?_⟩) (by assumption) ?_
    · intro W hSW; go_simp
    simp only [Act.put, List.setIfInBounds_toArray, List.set_cons_zero, List.set_cons_succ]
    refine wpAnyH_ready (rs := [17]) (by kernel_rfl) (by simp) ?_
    refine AllReadyH.cons rfl (fun KK hKK => ?_) AllReadyH.nil
    go_simp
    refine hKK.out _ _ k5n (fun hHeld => ?_)
    clear hKK KK
    refine wpAnyH_done (by kernel_rfl) ?_ _
    go_wp2
    go_ret
    exact P.out
end Go.Proofs.Ytopmhacnopfifaa.tm
