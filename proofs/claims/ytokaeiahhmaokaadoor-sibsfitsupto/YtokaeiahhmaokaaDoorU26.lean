import Derived.Test.YtokaeiahhmaokaaDoorU6
import Derived.Test.YtokaeiahhmaokaaDoorU25
import Derived.Test.YtokaeiahhmaokaaDoorU14
import Derived.Test.YtokaeiahhmaokaaDoorU11
namespace Go.Proofs.YtokaeiahhmaokaaDoor.ds
open Go.ChangeShapes Go.WideShapes Go.ChangeAt Go.RowKit
set_option linter.unusedVariables false
theorem Ok.small {g : Int} {x : S} (h : Ok g x) (hg : g ≤ 64) : Small x := ⟨h.b0, by have := h.bM; omega, (h.wf hg).lt⟩
set_option maxHeartbeats 2000000 in
set_option maxRecDepth 100000 in
theorem within_ok {p q : Option Addr} {N cap M cb : Nat} {xs ys : List S} {w : World} (T : Tab w) (h : L w p N xs) (h2 : L w q M ys) : Calls Tryd.prog 29 #[.slice p N cap, .slice q M cb] w fun r w' => Tells r (Win (norm xs) (norm ys)) ∧ Apart [] w w' := by
  have ka := norm_ok xs
  have kb := norm_ok ys
  go_enter Tryd.func29, Tryd.ntmps29
  go_wp2_with fail
  refine (asSet_ok h2).mono ?_
  rintro r w1 ⟨⟨q', M', cb', rfl, lb, a1⟩⟩
  dsimp only
  go_wp2_with fail
  refine (asSet_ok (h.kept0 a1)).mono ?_
  rintro r w2 ⟨⟨p', N', ca', rfl, la, a2⟩⟩
  dsimp only
  replace lb := lb.kept0 a2
  have HW : Hid ((∀ x ∈ norm xs, join x (ofn (norm ys) x.n) = ofn (norm ys) x.n) ↔ Win (norm xs) (norm ys)) := win_iff ka kb (by decide) (by decide) (by decide) (by decide)
  have a3 := a1.trans a2
  clear h h2 a1 a2
  obtain ⟨A, HA⟩ : ∃ A, Hid (norm xs = A) := ⟨_, rfl⟩
  obtain ⟨B, HB⟩ : ∃ B, Hid (norm ys = B) := ⟨_, rfl⟩
  rw [HA.out] at ka la HW
  rw [HB.out] at kb lb HW
  have hlim := la.lim
  go_wp2_with fail
  go_loopw [13] (fun v wr => ∃ i : Nat, i ≤ N' ∧ v = .int .i64 i ∧ Apart [] w2 wr ∧ (∀ j, j < i → join (g A j) (ofn B (g A j).n) = ofn B (g A j).n)) (fun v _ => N' - (intOf v).toNat)
  case atStart => exact ⟨0, Nat.zero_le _, rfl, Apart.refl _ _, fun j hj => absurd hj (by omega)⟩
  case round =>
    obtain ⟨i, hi, rfl, aR, hno⟩ := hrel
    by_cases hlt : i < N'
    · have HI : Hid (i < A.length) := by show i < A.length; rw [la.len]; omega
      obtain ⟨P, o, rfl, hP, hc⟩ := (la.kept0 aR).sp (by rw [la.len]; omega)
      obtain ⟨c0, c1, c2⟩ := hc i HI.out
      obtain ⟨⟨xn, xb, xt⟩, HX⟩ : ∃ x, Hid (x = g A i) := ⟨_, rfl⟩
      have sx := (ka.ok _ (g_mem HI.out)).small (by decide)
      rw [← HX.out] at c0 c1 c2 sx
      simp only at c0 c1 c2
      clear hc
      go_wp2_with fail
      have aX : Apart [] wr (wr.alloc (.cells #[.int .i64 xn, .int .i64 xb, .int .u64 xt] 80)) := (Apart.refl _ _).alloc _
      have bX := new1 wr #[.int .i64 xn, .int .i64 xb, .int .u64 xt] 80
      obtain ⟨⟨yn, yb, yt⟩, HY⟩ : ∃ y, Hid (y = ofn B xn) := ⟨_, rfl⟩
      have sy := kb.small (by decide) (by decide) xn
      have hsp := spanOf_ok q' M' cb' B xn _ ((lb.kept0 aR).kept0 aX).sp lb.len lb.lim
      rw [← HY.out] at sy hsp
      refine hsp.mono ?_
      rintro r w3 ⟨rfl, a4⟩
      dsimp only [spv]
      clear hsp
      have bX3 := (a4.block wr.heap.size (lt_of_heap bX) (by simp)).trans bX
      go_wp2_with fail
      have bY := new1 w3 #[.int .i64 yn, .int .i64 yb, .int .u64 yt] 80
      have aY : Apart [] w3 (w3.alloc (.cells #[.int .i64 yn, .int .i64 yb, .int .u64 yt] 80)) := (Apart.refl _ _).alloc _
      have bX4 := (aY.block wr.heap.size (lt_of_heap bX3) (by simp)).trans bX3
      have TV : Tab (w3.alloc (.cells #[.int .i64 yn, .int .i64 yb, .int .u64 yt] 80)) := ((((T.kept0 a3).kept0 aR).kept0 aX).kept0 a4).kept0 aY
      have aWV : Apart [] w2 (w3.alloc (.cells #[.int .i64 yn, .int .i64 yb, .int .u64 yt] 80)) := ((aR.trans aX).trans a4).trans aY
      generalize w3.alloc (.cells #[.int .i64 yn, .int .i64 yb, .int .u64 yt] 80) = V at *
      have r0 : ∀ W, Apart [] V W → W.cell? ⟨wr.heap.size, 0, none⟩ = some (.int .i64 xn) := fun W a => (rowc ((a.block _ (lt_of_heap bX4) (by simp)).trans bX4)).1.1
      have r1 : ∀ W, Apart [] V W → W.cell? ⟨wr.heap.size, 1, none⟩ = some (.int .i64 xb) := fun W a => (rowc ((a.block _ (lt_of_heap bX4) (by simp)).trans bX4)).1.2.1
      have r2 : ∀ W, Apart [] V W → W.cell? ⟨wr.heap.size, 2, none⟩ = some (.int .u64 xt) := fun W a => (rowc ((a.block _ (lt_of_heap bX4) (by simp)).trans bX4)).1.2.2
      have r3 : ∀ W, Apart [] V W → W.cell? ⟨w3.heap.size, 0, none⟩ = some (.int .i64 yn) := fun W a => (rowc ((a.block _ (lt_of_heap bY) (by simp)).trans bY)).1.1
      have r4 : ∀ W, Apart [] V W → W.cell? ⟨w3.heap.size, 1, none⟩ = some (.int .i64 yb) := fun W a => (rowc ((a.block _ (lt_of_heap bY) (by simp)).trans bY)).1.2.1
      have r5 : ∀ W, Apart [] V W → W.cell? ⟨w3.heap.size, 2, none⟩ = some (.int .u64 yt) := fun W a => (rowc ((a.block _ (lt_of_heap bY) (by simp)).trans bY)).1.2.2
      have aV : Apart [] V V.drew := (Apart.refl _ _).drew
      have hgd := guard52
      obtain ⟨⟨zn, zb, zt⟩, HZ⟩ : ∃ z, Hid (z = join ⟨xn, xb, xt⟩ ⟨yn, yb, yt⟩) := ⟨_, rfl⟩
      have hjn : ∀ w, Tab w → Calls Tryd.prog 69 #[.agg #[.int .i64 xn, .int .i64 xb, .int .u64 xt], .agg #[.int .i64 yn, .int .i64 yb, .int .u64 yt]] w fun r w' => r = .returned (.agg #[.int .i64 zn, .int .i64 zb, .int .u64 zt]) ∧ Apart [] w w' := by
        intro W TW
        have := joined_ok ⟨xn, xb, xt⟩ ⟨yn, yb, yt⟩ W TW sx.1 sx.2.1 sx.2.2 sy.1 sy.2.1 sy.2.2
        rw [← HZ.out] at this
        exact this
      by_cases hz : (⟨zn, zb, zt⟩ : S) = ⟨yn, yb, yt⟩
      · have HE : Hid (join (g A i) (ofn B (g A i).n) = ofn B (g A i).n) := by
          show join (g A i) (ofn B (g A i).n) = ofn B (g A i).n
          rw [← HX.out]
          simp only
          rw [← HY.out, ← HZ.out]; exact hz
        have hneq : ∀ W, Sem.run Tryd.prog (binOp BinOp.neq 80 (.agg #[.int .i64 zn, .int .i64 zb, .int .u64 zt]) (.agg #[.int .i64 yn, .int .i64 yb, .int .u64 yt])) W = .ok (.bool false) W := by
          intro W
          rw [neq52]
          simp only [S.mk.injEq] at hz
          rw [decide_eq_true ⟨hz.1, hz.2.1, by omega⟩]; rfl
        clear hz
        refine wp_region_held_drew (S := fun W => Apart [] V W) (by kernel_rfl) aV (fun hHeld => ?_)
        refine wpAnyH_take (i := 0) (oi := ⟨some 21, _, _, _, _, _⟩) (v := (.agg #[.int .i64 xn, .int .i64 xb, .int .u64 xt])) rfl (by kernel_rfl) (by kernel_rfl) (by kernel_rfl) (fun _ _ _ h => h) (Or.inl ⟨by rfl, ?_⟩) (by assumption) ?_
        · intro W hSW; go_simp
        simp only [Act.put, List.setIfInBounds_toArray, List.set_cons_zero, List.set_cons_succ]
        refine wpAnyH_take (i := 1) (oi := ⟨some 22, _, _, _, _, _⟩) (v := (.agg #[.int .i64 yn, .int .i64 yb, .int .u64 yt])) rfl (by kernel_rfl) (by kernel_rfl) (by kernel_rfl) (fun _ _ _ h => h) (Or.inl ⟨by rfl, ?_⟩) (by assumption) ?_
        · intro W hSW; go_simp
        simp only [Act.put, List.setIfInBounds_toArray, List.set_cons_zero, List.set_cons_succ]
        refine wpAnyH_take (i := 3) (oi := ⟨some 24, _, _, _, _, _⟩) (v := (.agg #[.int .i64 yn, .int .i64 yb, .int .u64 yt])) rfl (by kernel_rfl) (by kernel_rfl) (by kernel_rfl) (fun _ _ _ h => h) (Or.inl ⟨by rfl, ?_⟩) (by assumption) ?_
        · intro W hSW; go_simp
        simp only [Act.put, List.setIfInBounds_toArray, List.set_cons_zero, List.set_cons_succ]
        refine wpAnyH_ready (rs := [2]) (by kernel_rfl) (by simp) ?_
        refine AllReadyH.cons rfl (fun KK hKK => ?_) AllReadyH.nil
        go_simp
        refine (hjn _ (TV.kept0 aV)).mono ?_
        rintro r w4 ⟨rfl, a4⟩
        dsimp only [spv]
        have a5 := aV.trans a4
        refine hKK.out _ _ (by assumption) (fun hHeld => ?_)
        clear hKK KK
        refine wpAnyH_take (i := 4) (oi := ⟨some 25, _, _, _, _, _⟩) (v := (.bool false)) rfl (by kernel_rfl) (by kernel_rfl) (by kernel_rfl) (fun _ _ _ h => h) (Or.inl ⟨by rfl, ?_⟩) (by assumption) ?_
        · intro W hSW; go_simp
        simp only [Act.put, List.setIfInBounds_toArray, List.set_cons_zero, List.set_cons_succ]
        refine wpAnyH_done (by kernel_rfl) ?_ _
        have a6 := aWV.trans a5
        clear r0 r1 r2 r3 r4 r5 hneq hgd
        go_wp2
        go_roundw
        case rel => exact ⟨i + 1, by omega, rfl, a6, fun j hj => by
          by_cases hji : j = i
          · subst hji; exact HE.out
          · exact hno j (by omega)⟩
        case measure => simp [intOf]; omega
      · have HE : Hid (join (g A i) (ofn B (g A i).n) ≠ ofn B (g A i).n) := by
          show join (g A i) (ofn B (g A i).n) ≠ ofn B (g A i).n
          rw [← HX.out]
          simp only
          rw [← HY.out, ← HZ.out]; exact hz
        have hneq : ∀ W, Sem.run Tryd.prog (binOp BinOp.neq 80 (.agg #[.int .i64 zn, .int .i64 zb, .int .u64 zt]) (.agg #[.int .i64 yn, .int .i64 yb, .int .u64 yt])) W = .ok (.bool true) W := by
          intro W
          rw [neq52]
          simp only [S.mk.injEq] at hz
          rw [decide_eq_false (fun h => hz ⟨h.1, h.2.1, by omega⟩)]; rfl
        clear hz
        refine wp_region_held_drew (S := fun W => Apart [] V W) (by kernel_rfl) aV (fun hHeld => ?_)
        refine wpAnyH_take (i := 0) (oi := ⟨some 21, _, _, _, _, _⟩) (v := (.agg #[.int .i64 xn, .int .i64 xb, .int .u64 xt])) rfl (by kernel_rfl) (by kernel_rfl) (by kernel_rfl) (fun _ _ _ h => h) (Or.inl ⟨by rfl, ?_⟩) (by assumption) ?_
        · intro W hSW; go_simp
        simp only [Act.put, List.setIfInBounds_toArray, List.set_cons_zero, List.set_cons_succ]
        refine wpAnyH_take (i := 1) (oi := ⟨some 22, _, _, _, _, _⟩) (v := (.agg #[.int .i64 yn, .int .i64 yb, .int .u64 yt])) rfl (by kernel_rfl) (by kernel_rfl) (by kernel_rfl) (fun _ _ _ h => h) (Or.inl ⟨by rfl, ?_⟩) (by assumption) ?_
        · intro W hSW; go_simp
        simp only [Act.put, List.setIfInBounds_toArray, List.set_cons_zero, List.set_cons_succ]
        refine wpAnyH_take (i := 3) (oi := ⟨some 24, _, _, _, _, _⟩) (v := (.agg #[.int .i64 yn, .int .i64 yb, .int .u64 yt])) rfl (by kernel_rfl) (by kernel_rfl) (by kernel_rfl) (fun _ _ _ h => h) (Or.inl ⟨by rfl, ?_⟩) (by assumption) ?_
        · intro W hSW; go_simp
        simp only [Act.put, List.setIfInBounds_toArray, List.set_cons_zero, List.set_cons_succ]
        refine wpAnyH_ready (rs := [2]) (by kernel_rfl) (by simp) ?_
        refine AllReadyH.cons rfl (fun KK hKK => ?_) AllReadyH.nil
        go_simp
        refine (hjn _ (TV.kept0 aV)).mono ?_
        rintro r w4 ⟨rfl, a4⟩
        dsimp only [spv]
        have a5 := aV.trans a4
        refine hKK.out _ _ (by assumption) (fun hHeld => ?_)
        clear hKK KK
        refine wpAnyH_take (i := 4) (oi := ⟨some 25, _, _, _, _, _⟩) (v := (.bool true)) rfl (by kernel_rfl) (by kernel_rfl) (by kernel_rfl) (fun _ _ _ h => h) (Or.inl ⟨by rfl, ?_⟩) (by assumption) ?_
        · intro W hSW; go_simp
        simp only [Act.put, List.setIfInBounds_toArray, List.set_cons_zero, List.set_cons_succ]
        refine wpAnyH_done (by kernel_rfl) ?_ _
        have a6 := aWV.trans a5
        clear r0 r1 r2 r3 r4 r5 hneq hgd
        go_wp2
        go_ret
        refine ⟨.no fun k => ?_, a3.trans a6⟩
        rw [HA.out, HB.out] at k
        exact HE.out (HW.out.2 k _ (g_mem HI.out))
    · go_wp2
      go_ret
      rw [HA.out, HB.out]
      refine ⟨.yes (HW.out.1 fun x hx => ?_), a3.trans aR⟩
      obtain ⟨j, hj, rfl⟩ := List.getElem_of_mem hx
      have := hno j (by have := la.len; omega)
      unfold g at this
      rw [List.getD_eq_getElem?_getD, List.getElem?_eq_getElem hj] at this
      exact this
end Go.Proofs.YtokaeiahhmaokaaDoor.ds

namespace Go.Proofs.YtokaeiahhmaokaaDoor.ds
open Go.ChangeShapes Go.WideShapes Go.ChangeAt Go.RowKit
set_option linter.unusedVariables false
theorem gath_len (F : Nat → S) : ∀ k, (gath F k).length ≤ k
  | 0 => Nat.le_refl _
  | k + 1 => by
    have := gath_len F k
    simp only [gath, List.length_append]
    split <;> simp <;> omega
theorem OkL.len {gp : Int} {s : List S} (h : OkL gp s) (h0 : 0 ≤ gp) (hg : gp ≤ 64) : s.length ≤ 8 := by
  have := gath_len (fun k => ofn s k) 8
  rwa [gath_ofn h h0 hg] at this
theorem nd_le (p : Nat → Bool) : ∀ M, nd p M ≤ M
  | 0 => Nat.le_refl _
  | M + 1 => by have := nd_le p M; have : (p M).toNat ≤ 1 := Bool.toNat_le _; simp only [nd]; omega
theorem cnt_le {gp : Int} {x : S} (h : Ok gp x) : cnt x ≤ 1048640 := by
  have := h.bM; have := nd_le x.t.testBit 64
  unfold cnt; omega
set_option maxHeartbeats 2000000 in
set_option maxRecDepth 100000 in
theorem count_ok {p : Option Addr} {N cap : Nat} {xs : List S} {w : World} (h : L w p N xs) : Calls Tryd.prog 31 #[.slice p N cap] w fun r w' => r = .returned (.int .i64 (tot (norm xs))) ∧ Apart [] w w' := by
  have ka := norm_ok xs
  go_enter Tryd.func31, Tryd.ntmps31
  go_wp2_with fail
  refine (asSet_ok h).mono ?_
  rintro r w2 ⟨⟨p', N', ca', rfl, la, a2⟩⟩
  dsimp only
  obtain ⟨A, HA⟩ : ∃ A, Hid (norm xs = A) := ⟨_, rfl⟩
  rw [HA.out] at ka la
  have hN8 : N' ≤ 8 := by have := ka.len (by decide) (by decide); have := la.len; omega
  clear h
  go_wp2_with fail
  go_loopw [3, 9] (fun x v wr => ∃ i : Nat, i ≤ N' ∧ v = .int .i64 i ∧ Apart [] w2 wr ∧ x = .int .i64 (tot (A.take i)) ∧ tot (A.take i) ≤ i * 1048640) (fun _ v _ => N' - (intOf v).toNat)
  case atStart => exact ⟨0, Nat.zero_le _, rfl, Apart.refl _ _, rfl, Nat.zero_le _⟩
  case round =>
    obtain ⟨i, hi, rfl, aR, rfl, hb⟩ := hrel
    by_cases hlt : i < N'
    · have HI : Hid (i < A.length) := by show i < A.length; rw [la.len]; omega
      obtain ⟨P, o, rfl, hP, hc⟩ := (la.kept0 aR).sp (by rw [la.len]; omega)
      obtain ⟨c0, c1, c2⟩ := hc i HI.out
      obtain ⟨⟨xn, xb, xt⟩, HX⟩ : ∃ x, Hid (x = g A i) := ⟨_, rfl⟩
      have kx := ka.ok _ (g_mem HI.out)
      have HT : Hid (tot (A.take (i + 1)) = tot (A.take i) + cnt (g A i)) := by
        show tot (A.take (i + 1)) = tot (A.take i) + cnt (g A i)
        rw [take_g HI.out, tot_append]; simp [tot]
      rw [← HX.out] at c0 c1 c2 kx HT
      simp only at c0 c1 c2
      have sx := kx.small (by decide)
      have hct := cnt_le kx
      have HC : Hid (cnt ⟨xn, xb, xt⟩ = xb.toNat + nd xt.testBit 64) := rfl
      have hx0 := kx.b0
      have hxM := kx.bM
      have hnd := nd_le xt.testBit 64
      simp only at hx0 hxM
      clear hc kx
      obtain ⟨t, Ht⟩ : ∃ t, Hid (t = tot (A.take i)) := ⟨_, rfl⟩
      rw [← Ht.out] at hb HT ⊢
      obtain ⟨c, Hc⟩ : ∃ c, Hid (c = nd xt.testBit 64) := ⟨_, rfl⟩
      have hones := fun w => ones64 xt sx.2.2 w
      rw [← Hc.out] at hnd HC
      simp only [← Hc.out] at hones
      have hw1 : IntKind.i64.wrap (xb + (c : Int)) = xb + (c : Int) := by rw [IntKind.wrap_i64]; omega
      have hw2 : IntKind.i64.wrap ((t : Int) + (xb + (c : Int))) = (t : Int) + (xb + (c : Int)) := by rw [IntKind.wrap_i64]; omega
      go_wp2_with fail
      have aX : Apart [] wr (wr.alloc (.cells #[.int .i64 xn, .int .i64 xb, .int .u64 xt] 80)) := (Apart.refl _ _).alloc _
      go_quiet (first | (go_at_call 70; exact Calls.quiet_of_same (hones _)))
      go_wp2
      go_roundw
      case rel =>
        refine ⟨i + 1, by omega, rfl, (aR.trans aX).drewN _, ?_, ?_⟩
        · rw [HT.out, HC.out]
          congr 1
          push_cast
          omega
        · rw [HT.out]; omega
      case measure => simp [intOf]; omega
    · go_wp2
      go_ret
      refine ⟨?_, a2.trans aR⟩
      rw [HA.out]
      obtain rfl : i = N' := by omega
      have : A.take i = A := List.take_of_length_le (by rw [la.len]; omega)
      rw [this]; rfl
end Go.Proofs.YtokaeiahhmaokaaDoor.ds

namespace Go.Proofs.YtokaeiahhmaokaaDoor.ds
open Go.ChangeShapes Go.WideShapes Go.ChangeAt Go.RowKit Go.Sort
set_option linter.unusedVariables false
set_option linter.unusedSimpArgs false
/-- a write that is right for the gap 64: what counts of it here -/
structure Vw (r : Wr) : Prop where
  ok : OkL 64 r.xs
  dt : IsDot r.n r.c
theorem gR_one (r : Wr) : gR [r] 0 = r := rfl
theorem Vw.of {r : Wr} (h : rvalP [r] 1 64) : Vw r := by
  obtain ⟨hg, h⟩ := h
  obtain ⟨⟨_, hr, _⟩, _⟩ := h 0 (by omega)
  rw [gR_one] at hr
  obtain ⟨_, hd, hc, _⟩ := hr
  refine ⟨?_, (isd_iff _ _).1 hd⟩
  unfold chk at hc
  rw [if_pos hg] at hc
  by_cases k : OkL 64 r.xs
  · exact k
  · rw [if_neg k] at hc; cases hc
theorem insWb_mem (u x : Wr) : ∀ l, x ∈ insWb u l ↔ x = u ∨ x ∈ l
  | [] => by simp [insWb]
  | y :: l => by
    unfold insWb
    split
    · simp
    · simp only [List.mem_cons, insWb_mem u x l]
      constructor
      · rintro (h | h | h) <;> simp [h]
      · rintro (h | h | h) <;> simp [h]
theorem eachW_foldA : ∀ (ls out : List Wr), (∀ x ∈ ls.foldl (fun out w => if out.any (fun o => deqW o w) = true then out else insWb w out) out, x ∈ out ∨ x ∈ ls) ∧ (∀ x ∈ out, x ∈ ls.foldl (fun out w => if out.any (fun o => deqW o w) = true then out else insWb w out) out) ∧ (∀ x ∈ ls, ∃ e ∈ ls.foldl (fun out w => if out.any (fun o => deqW o w) = true then out else insWb w out) out, deqW e x = true)
  | [], out => ⟨fun x hx => .inl hx, fun x hx => hx, fun x hx => by simp at hx⟩
  | u :: ls, out => by
    rw [List.foldl_cons]
    obtain ⟨h1, h2, h3⟩ := eachW_foldA ls (if out.any (fun o => deqW o u) = true then out else insWb u out)
    refine ⟨fun x hx => ?_, fun x hx => ?_, fun x hx => ?_⟩
    · rcases h1 x hx with h | h
      · split at h
        · exact .inl h
        · rcases (insWb_mem u x out).1 h with rfl | h
          · exact .inr (by simp)
          · exact .inl h
      · exact .inr (List.mem_cons_of_mem _ h)
    · refine h2 x ?_
      split
      · exact hx
      · exact (insWb_mem u x out).2 (.inr hx)
    · rcases List.mem_cons.1 hx with rfl | hx
      · by_cases ha : out.any (fun o => deqW o x) = true
        · obtain ⟨o, ho, hd⟩ := List.any_eq_true.1 ha
          exact ⟨o, h2 o (by rw [if_pos ha]; exact ho), hd⟩
        · exact ⟨x, h2 x (by rw [if_neg ha]; exact (insWb_mem x x out).2 (.inl rfl)), by simp [deqW]⟩
      · exact h3 x hx
theorem eachW_sub (rs : List Wr) : ∀ x ∈ eachW rs, x ∈ rs := fun x hx => by
  rcases (eachW_foldA rs []).1 x hx with h | h
  · simp at h
  · exact h
theorem eachW_dot (rs : List Wr) : ∀ x ∈ rs, ∃ e ∈ eachW rs, deqW e x = true := (eachW_foldA rs []).2.2
theorem totW_ins (u : Wr) : ∀ l, totW (insWb u l) = 1 + tot u.xs + totW l
  | [] => by simp [insWb, totW]
  | x :: l => by
    unfold insWb
    split
    · simp [totW]
    · have := totW_ins u l
      unfold totW at *
      simp only [List.map_cons, List.sum_cons] at *
      omega
theorem totW_eachA : ∀ (ls out : List Wr), totW (ls.foldl (fun out w => if out.any (fun o => deqW o w) = true then out else insWb w out) out) ≤ totW out + totW ls
  | [], out => by simp [totW]
  | u :: ls, out => by
    rw [List.foldl_cons]
    have h := totW_eachA ls (if out.any (fun o => deqW o u) = true then out else insWb u out)
    have e : totW (u :: ls) = (1 + tot u.xs) + totW ls := by simp [totW]
    rw [e]
    split at h
    · rename_i ha
      rw [if_pos ha]
      omega
    · rename_i ha
      rw [if_neg ha]
      rw [totW_ins] at h
      omega
theorem totW_each (rs : List Wr) : totW (eachW rs) ≤ totW rs := by
  have := totW_eachA rs []
  simpa [totW, eachW] using this
/-- what a token of right writes and sets has -/
structure Fits (bs : List (List S)) (rs : List Wr) : Prop where
  ok : OkL 64 (tokT 64 bs rs)
  win : ∀ b ∈ bs, Win b (tokT 64 bs rs)
  fit : ∀ x ∈ rs, ¬ ((∃ o ∈ tokO 64 bs rs, deqW o x = true) ∧ (x.c ≤ 64 ∨ ∃ b ∈ bs, dot (ofn b x.n) x.c = true))
  has : ∀ x ∈ rs, ¬ (∃ o ∈ tokO 64 bs rs, deqW o x = true) → dot (ofn (tokT 64 bs rs) x.n) x.c = true
  tot : tot (tokT 64 bs rs) ≤ totW rs + (bs.map tot).sum
theorem deqW_iff {a b : Wr} : deqW a b = true ↔ a.n = b.n ∧ a.c = b.c := by simp [deqW]
theorem fits_all {bs : List (List S)} {rs : List Wr} (hb : ∀ b ∈ bs, OkL 64 b) (hr : ∀ r ∈ rs, Vw r) : Fits bs rs := by
  have hg : (1 : Int) ≤ 64 ∧ (64 : Int) ≤ 64 := by omega
  have hT := unis_ok hg bs
  have hE : ∀ i, i < (eachW rs).length → Vw (gR (eachW rs) i) := fun i hi => by
    rw [gR_eq _ i hi]; exact hr _ (eachW_sub rs _ (List.getElem_mem hi))
  refine ⟨tkT_ok hg hT _ _, fun b h => ?_, fun x hx h => ?_, fun x hx h => ?_, ?_⟩
  · have h1 := unis_win hg bs b h (hb b h)
    have h2 := tkT_win (gap := 64) (T := unis 64 bs) (eachW rs) 0 (eachW rs).length
    rw [Nat.zero_add] at h2
    exact win_trans h1 h2
  · obtain ⟨⟨o, ho, hd⟩, hn⟩ := h
    obtain ⟨i, hi, rfl, hnc⟩ := (tkO_mem _ _).1 ho
    obtain ⟨e1, e2⟩ := deqW_iff.1 hd
    refine hnc (tk_near (eachW rs) hT i (hE i hi).ok (hE i hi).dt ?_)
    rw [e1, e2]
    rcases hn with hn | ⟨b, hb1, hb2⟩
    · exact .inl hn
    · exact .inr ⟨b, hb b hb1, unis_win hg bs b hb1 (hb b hb1), hb2⟩
  · obtain ⟨e, he, hd⟩ := eachW_dot rs x hx
    obtain ⟨i, hi, rfl⟩ := List.getElem_of_mem he
    rw [← gR_eq _ i hi] at hd
    obtain ⟨e1, e2⟩ := deqW_iff.1 hd
    by_cases hc : TkC 64 (tkT 64 (unis 64 bs) (eachW rs) i) (gR (eachW rs) i)
    · have := tkT_has hc (eachW rs).length hi
      rw [e1, e2] at this
      exact this
    · exact absurd ⟨_, (tkO_mem _ _).2 ⟨i, hi, rfl, hc⟩, hd⟩ h
  · have h1 := tkT_tot hg hT (eachW rs) (eachW rs).length (Nat.le_refl _)
    rw [List.take_length] at h1
    have h2 := unis_tot hg bs
    have h3 := totW_each rs
    unfold tokT
    omega
theorem tot_le {g : Int} {s : List S} (h : OkL g s) (h0 : 0 ≤ g) (hg : g ≤ 64) : tot s ≤ 8389120 := by
  have hl := h.len h0 hg
  have : ∀ l : List S, (∀ x ∈ l, cnt x ≤ 1048640) → tot l ≤ l.length * 1048640 := fun l => by
    induction l with
    | nil => intro _; simp [ds.tot]
    | cons x l ih =>
      intro hx
      have h1 := ih (fun y hy => hx y (List.mem_cons_of_mem _ hy))
      have h2 := hx x (by simp)
      unfold ds.tot at *
      simp only [List.map_cons, List.sum_cons, List.length_cons]
      omega
  have := this s (fun x hx => cnt_le (h.ok x hx))
  have : s.length * 1048640 ≤ 8 * 1048640 := Nat.mul_le_mul_right _ hl
  omega
end Go.Proofs.YtokaeiahhmaokaaDoor.ds
namespace Go.Proofs.YtokaeiahhmaokaaDoor.ds
open Go.ChangeShapes Go.WideShapes Go.ChangeAt Go.RowKit Go.Sort
set_option linter.unusedVariables false
set_option linter.unusedSimpArgs false
/-- a list of new writes, in new memory -/
structure FL (w wr : World) (s : Sl) (es : List E) (rs : List Wr) : Prop where
  own : OwnE w wr s es
  len : rs.length = s.n
  fr : ∀ j, j < s.n → Fresh w wr (gE es j) (gR rs j)
theorem FL.nil (w wr : World) (a : Apart [] w wr) : FL w wr ⟨none, 0, 0⟩ [] [] := ⟨OwnE.nil w wr a, rfl, fun j hj => absurd hj (by simp)⟩
theorem FL.kept {w wr wx : World} {s : Sl} {es : List E} {rs : List Wr} (h : FL w wr s es rs) (a : Apart [] wr wx) : FL w wx s es rs := ⟨h.own.kept a, h.len, fun j hj => (h.fr j hj).kept0 a⟩
theorem FL.push {w wr : World} {s : Sl} {es : List E} {rs : List Wr} (h : FL w wr s es rs) (hn : s.n ≤ 2000000) {e : E} {r : Wr} (hf : Fresh w wr e r) (ty : TypeId) :
    ∃ s' W', (Builtin.append_ #[39, 39] ty #[s.v, .slice (some ⟨wr.heap.size, 0, none⟩) 1 1]).run Tryd.prog (wr.alloc (boxE e)) = .ok (Sl.v s') W' ∧ FL w W' s' (es ++ [e]) (rs ++ [r]) ∧ s'.n = s.n + 1 := by
  obtain ⟨s', W', hrun, own', hn', ap'⟩ := run_appE h.own hn e ty
  have hX : ∀ k ∈ s.v.ownBlock.toList, ∀ cur, wr.heap[k]? ≠ some (.cells cur 5 (0, 0)) ∧ wr.heap[k]? ≠ some (.cells cur 80 (0, 0)) := by
    intro k hk cu
    obtain ⟨cur, tG⟩ := own_typ h.own.nw.own (k := k) (by simpa using hk)
    rw [tG]
    simp
  have hlen := h.own.len
  have hlen2 := h.len
  refine ⟨s', W', hrun, ⟨own', by rw [List.length_append, hlen2, hn']; rfl, fun j hj => ?_⟩, hn'⟩
  rw [hn'] at hj
  by_cases e1 : j = s.n
  · subst e1
    rw [show gE (es ++ [e]) s.n = e from by unfold gE; simp [List.getD_eq_getElem?_getD, ← hlen], show gR (rs ++ [r]) s.n = r from by unfold gR; simp [List.getD_eq_getElem?_getD, ← hlen2]]
    exact hf.kept ap' own'.nw.ap hX
  · rw [show gE (es ++ [e]) j = gE es j from by unfold gE; rw [List.getD_eq_getElem?_getD, List.getD_eq_getElem?_getD, List.getElem?_append_left (by omega)], show gR (rs ++ [r]) j = gR rs j from by unfold gR; rw [List.getD_eq_getElem?_getD, List.getD_eq_getElem?_getD, List.getElem?_append_left (by omega)]]
    exact (h.fr j (by omega)).kept ap' own'.nw.ap hX
/-- sets of dots in new memory, and the list of them -/
structure Nb (w wr : World) (u : Sl) (B : Nat → Sl × List S) (m : Nat) : Prop where
  nw : Nw w wr 26 1 u ((List.range m).map fun i => (B i).1.v)
  un : u.n = m
  own : ∀ i, i < m → Nw w wr 80 3 (B i).1 (flat (B i).2)
  ln : ∀ i, i < m → (B i).2.length = (B i).1.n ∧ (B i).1.n ≤ 1048576
  ok : ∀ i, i < m → OkL 64 (B i).2
theorem Nb.nil (w wr : World) (a : Apart [] w wr) (B : Nat → Sl × List S) : Nb w wr ⟨none, 0, 0⟩ B 0 :=
  ⟨⟨World.ownsRow_nil _ _ _ _, by simp [Sl.v, Value.ownBlock], a⟩, rfl, fun _ h => absurd h (by omega), fun _ h => absurd h (by omega), fun _ h => absurd h (by omega)⟩
theorem Nb.kept0 {w wr wx : World} {u : Sl} {B : Nat → Sl × List S} {m : Nat} (h : Nb w wr u B m) (a : Apart [] wr wx) : Nb w wx u B m := ⟨h.nw.kept a, h.un, fun i hi => (h.own i hi).kept a, h.ln, h.ok⟩
def updB (T : Nat → Sl × List S) (m : Nat) (d : Sl × List S) (i : Nat) : Sl × List S := if i = m then d else T i
theorem updB_lt (T : Nat → Sl × List S) (d : Sl × List S) {i m : Nat} (h : i < m) : updB T m d i = T i := if_neg (by omega)
theorem updB_eq (T : Nat → Sl × List S) (d : Sl × List S) (m : Nat) : updB T m d m = d := if_pos rfl
theorem Nb.push {w wr : World} {u : Sl} {B : Nat → Sl × List S} {m : Nat} (h : Nb w wr u B m) (hm : m ≤ 2000000) (s : Sl) (xs : List S) (ho : Nw w wr 80 3 s (flat xs)) (hl : xs.length = s.n ∧ s.n ≤ 1048576) (hk : OkL 64 xs) (ty : TypeId) :
    ∃ u' w6, (Builtin.append_ #[29, 29] ty #[u.v, .slice (some ⟨wr.heap.size, 0, none⟩) 1 1]).run Tryd.prog (wr.alloc (.cells #[s.v] 26)) = .ok (Sl.v u') w6 ∧ Nb w w6 u' (updB B m (s, xs)) (m + 1) := by
  obtain ⟨i0, hif, hz0, hz1, hz2⟩ := info_parts infoSS
  have hun := h.un
  obtain ⟨u', w6, hrun, hnw, hsn, ap, k, hp, hc, hkk⟩ := run_appM (s := u) 29 ty 26 i0 _ 1 24 Tryd.underlying29 hif hz0 hz1 hz2 rfl (by decide) h.nw 1 [s.v] (by decide) rfl (fun u hu => by simp at hu; rw [hu]; rfl) (by unfold maxLen; omega) (by omega)
  have e1 : (List.range m).map (fun i => (updB B m (s, xs) i).1.v) = (List.range m).map fun i => (B i).1.v := List.map_congr_left (fun i hi => by rw [updB_lt B _ (List.mem_range.1 hi)])
  have kO : ∀ {s : Sl} {us : List Value}, Nw w wr 80 3 s us → Nw w w6 80 3 s us := fun o => o.keepT ap hnw.ap (fun k hk cur hcur => by
    obtain ⟨c1, e1⟩ := own_typ h.nw.own (k := k) (by simpa using hk)
    rw [e1] at hcur
    simp at hcur)
  refine ⟨u', w6, hrun, ⟨by rw [List.range_succ, List.map_append, e1]; simp only [List.map_cons, List.map_nil, updB_eq]; exact hnw, by omega, fun i hi => ?_, fun i hi => ?_, fun i hi => ?_⟩⟩
  · by_cases him : i = m
    · subst him; rw [updB_eq]; exact kO ho
    · rw [updB_lt B _ (by omega)]; exact kO (h.own i (by omega))
  · by_cases him : i = m
    · subst him; rw [updB_eq]; exact hl
    · rw [updB_lt B _ (by omega)]; exact h.ln i (by omega)
  · by_cases him : i = m
    · subst him; rw [updB_eq]; exact hk
    · rw [updB_lt B _ (by omega)]; exact h.ok i (by omega)
theorem Nb.L {w wr : World} {u : Sl} {B : Nat → Sl × List S} {m : Nat} (h : Nb w wr u B m) (i : Nat) (hi : i < m) : ds.L wr (B i).1.p (B i).1.n (B i).2 := by
  obtain ⟨h1, h2⟩ := h.ln i hi
  exact ⟨Sp.of_rd (h.own i hi).rd, h1, by omega, (h.ok i hi).fit (by omega)⟩
theorem Nb.lx {w wr : World} {u : Sl} {B : Nat → Sl × List S} {m : Nat} (h : Nb w wr u B m) : LX wr u.p m ((List.range m).map fun i => (B i).1) (bsX B m) := by
  refine ⟨?_, by simp, bsX_len B m, fun j hj => ?_⟩
  · have := h.nw.rd
    rw [List.map_map]
    exact this
  · rw [gS_range _ _ _ hj, bsX_at _ _ _ hj]; exact h.L j hj
theorem totW_append (a b : List Wr) : totW (a ++ b) = totW a + totW b := by simp [totW]
theorem totW_take (rs : List Wr) (j : Nat) (hj : j < rs.length) : totW (rs.take (j + 1)) = totW (rs.take j) + (1 + tot (gR rs j).xs) := by
  unfold totW
  rw [List.take_add_one, List.getElem?_eq_getElem hj, List.map_append, List.sum_append, gR_eq rs j hj]
  simp
theorem totW_le : ∀ rs : List Wr, (∀ r ∈ rs, Vw r) → totW rs ≤ rs.length * 8389121
  | [], _ => by simp [totW]
  | r :: rs, h => by
    have h1 := totW_le rs (fun x hx => h x (List.mem_cons_of_mem _ hx))
    have h2 := tot_le (h r (by simp)).ok (by omega) (by omega)
    unfold totW at *
    simp only [List.map_cons, List.sum_cons, List.length_cons]
    omega
def totB (B : Nat → Sl × List S) : Nat → Nat
  | 0 => 0
  | m + 1 => totB B m + tot (B m).2
theorem totB_sum (B : Nat → Sl × List S) : ∀ m, ((bsX B m).map tot).sum = totB B m
  | 0 => rfl
  | m + 1 => by
    have := totB_sum B m
    unfold bsX at *
    rw [List.range_succ]
    simp only [List.map_append, List.sum_append, List.map_cons, List.map_nil, List.sum_cons, List.sum_nil]
    rw [this]
    simp [totB]
theorem totB_le (B : Nat → Sl × List S) : ∀ m, (∀ i, i < m → OkL 64 (B i).2) → totB B m ≤ m * 8389120
  | 0, _ => by simp [totB]
  | m + 1, h => by
    have h1 := totB_le B m (fun i hi => h i (by omega))
    have h2 := tot_le (h m (by omega)) (by omega) (by omega)
    simp only [totB]
    omega
set_option maxHeartbeats 8000000 in
set_option maxRecDepth 100000 in
theorem total_ok (w : World) (p : Option Addr) (n cc : Nat) (T : Nat → Sl × List E × List Wr) (hS : Sets w p n T) (hV : ∀ i, i < n → ∀ r ∈ (T i).2.2, Vw r) (hn : n ≤ 1048576) (hT : ∀ i, i ≤ n → (catR T i).length ≤ 1048576) (bp : Option Addr) (m bc : Nat) (B : Nat → Sl × List S) (hX : LX w bp m ((List.range m).map fun i => (B i).1) (bsX B m)) (hk : ∀ i, i < m → OkL 64 (B i).2) (hm : m ≤ 1048576) :
    Calls Tryd.prog 32 #[.slice p n cc, .slice bp m bc] w fun r w' => r = .returned (.int .i64 ((totW (catR T n) + totB B m : Nat) : Int)) ∧ Apart [] w w' := by
  have HS := hid hS
  have HV := hid hV
  have HT := hid hT
  have HX := hid hX
  have HK := hid hk
  have HVC : Hid (∀ i, i ≤ n → ∀ r ∈ catR T i, Vw r) := by
    intro i
    induction i with
    | zero => intro _ r hr; simp [catR] at hr
    | succ i ih =>
      intro hi r hr
      rcases List.mem_append.1 (show r ∈ catR T i ++ (T i).2.2 from hr) with h | h
      · exact ih (by omega) r h
      · exact HV.out i (by omega) r h
  have HBD : Hid (∀ i, i ≤ n → totW (catR T i) ≤ 1048576 * 8389121) := fun i hi => Nat.le_trans (totW_le _ (HVC.out i hi)) (Nat.mul_le_mul_right _ (HT.out i hi))
  clear hS hV hT hX hk
  go_enter Tryd.func32, Tryd.ntmps32
  go_wp2_with fail
  go_loopw [5, 6] (fun a v wr => ∃ i : Nat, a = .int .i64 ((totW (catR T i) : Nat) : Int) ∧ v = .int .i64 (i : Nat) ∧ i ≤ n ∧ Apart [] w wr) (fun _ v _ => n - (intOf v).toNat)
  case atStart => exact ⟨0, rfl, rfl, Nat.zero_le _, Apart.refl _ _⟩
  case round =>
    obtain ⟨i, rfl, rfl, hi, ap⟩ := hrel
    have HA := hid ap
    clear ap
    by_cases hlt : i < n
    · have hin : ((i : Nat) : Int) < (n : Int) := by omega
      obtain ⟨P, o, rfl, hP, hc⟩ := HS.out (by omega)
      have HPc : Hid (∀ X, Apart [] w X → X.cell? ⟨P, o + i, none⟩ = some (.slice (T i).1.p (T i).1.n (T i).1.c)) := fun X a => (a.cell hP (by simp)).trans (hc i hlt).1
      have HI := hid (hc i hlt).2
      have hFn := HI.out.n
      obtain ⟨fn, Hfn⟩ : ∃ fn, Hid (fn = (T i).1.n) := ⟨_, rfl⟩
      obtain ⟨fp, Hfp⟩ : ∃ fp, Hid (fp = (T i).1.p) := ⟨_, rfl⟩
      obtain ⟨fc, Hfc⟩ : ∃ fc, Hid (fc = (T i).1.c) := ⟨_, rfl⟩
      rw [← Hfn.out] at HPc hFn
      rw [← Hfp.out] at HPc
      rw [← Hfc.out] at HPc
      have HNX : Hid (totW (catR T (i + 1)) = totW (catR T i) + totW (T i).2.2) := totW_append _ _
      have HB1 := hid (HBD.out (i + 1) (by omega))
      obtain ⟨A, HAA⟩ : ∃ A, Hid (A = totW (catR T i)) := ⟨_, rfl⟩
      rw [← HAA.out] at HNX ⊢
      clear hc
      go_wp2_with fail
      go_loopw [5, 7] (fun a v wr => ∃ j : Nat, a = .int .i64 ((A + totW ((T i).2.2.take j) : Nat) : Int) ∧ v = .int .i64 (j : Nat) ∧ j ≤ fn ∧ Apart [] w wr) (fun _ v _ => fn - (intOf v).toNat)
      case atStart => exact ⟨0, by simp [totW], rfl, Nat.zero_le _, HA.out⟩
      case round =>
        obtain ⟨j, rfl, rfl, hj, ap⟩ := hrel
        have HA2 := hid ap
        clear ap HA
        have z0 := HPc.out wr HA2.out
        by_cases hlt2 : j < fn
        · have hjn : ((j : Nat) : Int) < (fn : Int) := by omega
          have hjT : j < (T i).1.n := by rw [← Hfn.out]; exact hlt2
          have hI := HI.out.kept0 HA2.out
          obtain ⟨Q, o2, hQ, hQl, hcs⟩ := hI.le.at (by omega)
          obtain ⟨k0, k1, k2, k3, k4, k5⟩ := hcs j hjT
          have hR := hI.rd j hjT
          have HVx := hid (HV.out i hlt (gR (T i).2.2 j) (by rw [gR_eq _ j (by rw [HI.out.len]; exact hjT)]; exact List.getElem_mem _))
          have hC := count_ok (cap := (gE (T i).2.1 j).x.c) hR.x
          rw [norm_of HVx.out.ok] at hC
          have HTK := hid (totW_take (T i).2.2 j (by rw [HI.out.len]; exact hjT))
          have HLE : Hid (totW ((T i).2.2.take (j + 1)) ≤ totW (T i).2.2) := by
            unfold Hid
            have := totW_append ((T i).2.2.take (j + 1)) ((T i).2.2.drop (j + 1))
            rw [List.take_append_drop] at this
            omega
          have htl := tot_le HVx.out.ok (by omega) (by omega)
          obtain ⟨t, Ht⟩ : ∃ t, Hid (t = tot (gR (T i).2.2 j).xs) := ⟨_, rfl⟩
          rw [← Ht.out] at hC htl HTK
          obtain ⟨x, Hx⟩ : ∃ x, Hid (x = gE (T i).2.1 j) := ⟨_, rfl⟩
          rw [← Hx.out] at k5 hC
          unfold Sl.v at k5
          rw [← Hfp.out] at hQ
          subst hQ
          obtain ⟨B0, HB0⟩ : ∃ B0, Hid (B0 = A + totW ((T i).2.2.take j)) := ⟨_, rfl⟩
          have hB0 : B0 ≤ 1048576 * 8389121 := by have h1 := HB1.out; have h2 := HNX.out; have h3 := HLE.out; have h4 := HTK.out; have h5 := HB0.out; omega
          obtain ⟨t1, Ht1⟩ : ∃ t1, Hid (t1 = 1 + t) := ⟨_, rfl⟩
          obtain ⟨B1, HB11⟩ : ∃ B1, Hid (B1 = B0 + t1) := ⟨_, rfl⟩
          have w1 : IntKind.i64.wrap (1 + (t : Int)) = (t1 : Int) := by have := Ht1.out; rw [IntKind.wrap_i64]; omega
          have w2 : IntKind.i64.wrap ((B0 : Int) + (t1 : Int)) = (B1 : Int) := by have h1 := Ht1.out; have h2 := HB11.out; rw [IntKind.wrap_i64]; omega
          rw [← HB0.out]
          have HEQ : Hid (B1 = A + totW ((T i).2.2.take (j + 1))) := by have h1 := Ht1.out; have h2 := HB11.out; have h3 := HTK.out; have h4 := HB0.out; unfold Hid; omega
          clear hcs k0 k1 k2 k3 k4 hR hI htl hB0
          go_wp2_with fail
          refine hC.mono ?_
          clear hC k5 z0
          rintro _ w3 ⟨rfl, a3⟩
          have HA3 := hid (HA2.out.trans a3)
          clear a3
          dsimp only
          go_wp2_with fail
          go_roundw
          case rel => exact ⟨j + 1, by rw [HEQ.out], by go_num, by omega, HA3.out⟩
          case measure => simp [intOf]; omega
        · obtain rfl : fn = j := by omega
          have HE : Hid (A + totW ((T i).2.2.take fn) = totW (catR T (i + 1))) := by
            unfold Hid
            rw [List.take_of_length_le (by rw [HI.out.len, ← Hfn.out]; exact Nat.le_refl _), HNX.out]
          rw [HE.out]
          go_wp2_with fail
          go_roundw
          case rel => exact ⟨i + 1, rfl, by go_num, by omega, HA2.out⟩
          case measure => simp [intOf]; omega
    · obtain rfl : n = i := by omega
      have HBN := hid (HBD.out n (Nat.le_refl _))
      obtain ⟨A, HAA⟩ : ∃ A, Hid (A = totW (catR T n)) := ⟨_, rfl⟩
      rw [← HAA.out] at HBN ⊢
      go_wp2_with fail
      go_loopw [5, 8] (fun a v wr => ∃ j : Nat, a = .int .i64 ((A + totB B j : Nat) : Int) ∧ v = .int .i64 (j : Nat) ∧ j ≤ m ∧ Apart [] w wr) (fun _ v _ => m - (intOf v).toNat)
      case atStart => exact ⟨0, rfl, rfl, Nat.zero_le _, HA.out⟩
      case round =>
        obtain ⟨j, rfl, rfl, hj, ap⟩ := hrel
        have HA2 := hid ap
        clear ap HA
        by_cases hlt : j < m
        · have hjn : ((j : Nat) : Int) < (m : Int) := by omega
          have hX := HX.out.kept0 HA2.out
          obtain ⟨P, o, hp, hP, hc⟩ := hX.rd (by rw [List.length_map, hX.len]; omega)
          have c0 := hc j (B j).1.v (by rw [List.map_map, List.getElem?_map, List.getElem?_range hlt]; rfl)
          have hL := hX.l j hlt
          rw [gS_range _ _ _ hlt, bsX_at _ _ _ hlt] at hL
          have hC := count_ok (cap := (B j).1.c) hL
          rw [norm_of (HK.out j hlt)] at hC
          have htl := tot_le (HK.out j hlt) (by omega) (by omega)
          have hbl := totB_le B j (fun i hi => HK.out i (by omega))
          have hbm : j * 8389120 ≤ 1048576 * 8389120 := Nat.mul_le_mul_right _ (by omega)
          unfold Sl.v at c0
          obtain ⟨t, Ht⟩ : ∃ t, Hid (t = tot (B j).2) := ⟨_, rfl⟩
          rw [← Ht.out] at hC htl
          generalize (B j).1 = s at *
          subst hp
          obtain ⟨B0, HB0⟩ : ∃ B0, Hid (B0 = A + totB B j) := ⟨_, rfl⟩
          obtain ⟨B1, HB1⟩ : ∃ B1, Hid (B1 = B0 + t) := ⟨_, rfl⟩
          have w2 : IntKind.i64.wrap ((B0 : Int) + (t : Int)) = (B1 : Int) := by have h1 := HB0.out; have h2 := HB1.out; have h3 := HBN.out; rw [IntKind.wrap_i64]; omega
          have HEQ : Hid (B1 = A + totB B (j + 1)) := by have h1 := HB0.out; have h2 := HB1.out; have h3 := Ht.out; unfold Hid; simp only [totB]; omega
          rw [← HB0.out]
          clear hX hc hL htl hbl hbm
          go_wp2_with fail
          refine hC.mono ?_
          clear hC c0
          rintro _ w3 ⟨rfl, a3⟩
          have HA3 := hid (HA2.out.trans a3)
          clear a3
          dsimp only
          go_wp2_with fail
          go_roundw
          case rel => exact ⟨j + 1, by rw [HEQ.out], by go_num, by omega, HA3.out⟩
          case measure => simp [intOf]; omega
        · obtain rfl : m = j := by omega
          go_wp2_with fail
          go_ret
          exact ⟨by rw [HAA.out]; rfl, HA2.out⟩
end Go.Proofs.YtokaeiahhmaokaaDoor.ds
