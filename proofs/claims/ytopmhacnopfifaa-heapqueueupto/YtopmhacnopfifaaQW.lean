import Derived.Test.YtopmhacnopfifaaAS
namespace Go.Proofs.Ytopmhacnopfifaa.tm
open Go.ChangeShapes Go.WideShapes Go.ChangeAt Go.RowKit
set_option linter.unusedVariables false
set_option linter.unusedSimpArgs false
theorem bits1 (n : Int) : bits .and .i64 n 1 = n % 2 := by
  have h1 : (BitVec.ofInt 64 1).toNat = 2 ^ 1 - 1 := by decide
  have key : (BitVec.ofInt 64 n &&& BitVec.ofInt 64 1).toNat = (n % ((2 ^ 64 : Nat) : Int)).toNat % 2 ^ 1 := by
    rw [BitVec.toNat_and, BitVec.toNat_ofInt, h1, Nat.and_two_pow_sub_one_eq_mod]
  show IntKind.i64.wrap ((BitVec.ofInt 64 n &&& BitVec.ofInt 64 1).toNat : Nat) = n % 2
  rw [key, IntKind.wrap_i64]
  omega
theorem who2 (who : Int) : ∃ i : Nat, i < 2 ∧ bits .and .i64 who 1 = (i : Int) := ⟨(who % 2).toNat, by omega, by rw [bits1]; omega⟩
def qd0 : QD := ⟨0, 0, .slice none 0 0, [], 0, 0, .slice none 0 0, [], .pointer none⟩
theorem QS.start (w : World) : QS w ((w.alloc (.cells #[.pointer none, .pointer none] 53)).alloc (.cells #[.slice none 0 0, .int .i64 0, .int .i64 0, .slice none 0 0, .int .i64 0, .int .i64 0] 56)) w.heap.size (w.heap.size + 1) 0 (fun _ => qd0) (fun k => if k = w.heap.size then some 5 else if k = w.heap.size + 1 then some 4 else none) 0 := by
  have a1 : Apart [] w (w.alloc (.cells #[.pointer none, .pointer none] 53)) := (Apart.refl _ _).alloc _
  have b1 : (w.alloc (.cells #[.pointer none, .pointer none] 53)).heap[w.heap.size]? = some (.cells #[.pointer none, .pointer none] 53 (0, 0)) := heap_alloc_new w _
  have s1 : (w.alloc (.cells #[.pointer none, .pointer none] 53)).heap.size = w.heap.size + 1 := by simp
  have b2 := heap_alloc_new (w.alloc (.cells #[.pointer none, .pointer none] 53)) (.cells #[.slice none 0 0, .int .i64 0, .int .i64 0, .slice none 0 0, .int .i64 0, .int .i64 0] 56)
  rw [s1] at b2
  have a2 : Apart [] (w.alloc (.cells #[.pointer none, .pointer none] 53)) ((w.alloc (.cells #[.pointer none, .pointer none] 53)).alloc (.cells #[.slice none 0 0, .int .i64 0, .int .i64 0, .slice none 0 0, .int .i64 0, .int .i64 0] 56)) := (Apart.refl _ _).alloc _
  refine ⟨b2, by simp, (a2.block _ (lt_of_heap b1) (by simp)).trans b1, by simp, fun i hi => by omega, fun i _ _ => ⟨rfl, rfl, rfl, rfl, rfl⟩, ?_, a1.trans a2, fun i _ => Nat.le_refl 0, by omega⟩
  intro k t e
  have s2 := lt_of_heap b2
  by_cases h1 : k = w.heap.size
  · omega
  · by_cases h2 : k = w.heap.size + 1
    · omega
    · simp [h1, h2] at e
theorem QS.new {w0 w w1 : World} {PB RB m : Nat} {S : Nat → QD} {who : Nat → Option Nat} {N : Nat} (h : QS w0 w PB RB m S who N) (hm : m < 2) (a1 : Apart [] w w1) (Q H : Nat) (v : Value) (q : Qv w1 Q H v [] 0 0) (hQ : w.heap.size ≤ Q) (hH : w.heap.size ≤ H) (hv : ∀ k, v.ownBlock = some k → w.heap.size ≤ k) :
    ∃ who', QS w0 (w1.setCell ⟨PB, m, none⟩ (.pointer (some ⟨Q, 0, none⟩))) PB RB (m + 1) (upd S m ⟨Q, H, v, [], 0, 0, .slice none 0 0, [], .pointer (some ⟨Q, 0, none⟩)⟩) who' N := by
  have h1 := h.kept a1
  have hPs := lt_of_heap h.hP
  have aP : Apart [PB] w1 (w1.setCell ⟨PB, m, none⟩ (.pointer (some ⟨Q, 0, none⟩))) := (Apart.refl _ _).setCell (by simp) _
  have fresh : ∀ k, (k = Q ∨ k = H ∨ v.ownBlock = some k) → w.heap.size ≤ k := by
    rintro k (rfl | rfl | e)
    · exact hQ
    · exact hH
    · exact hv k e
  obtain ⟨⟨_, eQ⟩, ⟨_, eH⟩, eV⟩ := q.typ
  have old1 : ∀ k, (k = Q ∨ k = H ∨ v.ownBlock = some k) → k < w1.heap.size := by
    rintro k (rfl | rfl | e)
    · exact lt_of_heap eQ
    · exact lt_of_heap eH
    · obtain ⟨c, e2⟩ := eV k e; exact lt_of_heap e2
  obtain ⟨who', hw1, hw2⟩ : ∃ who' : Nat → Option Nat, (∀ k, (k = Q ∨ k = H ∨ v.ownBlock = some k) → who' k = some m) ∧ ∀ k, ¬ (k = Q ∨ k = H ∨ v.ownBlock = some k) → who' k = who k := by
    classical
    exact ⟨fun k => if (k = Q ∨ k = H ∨ v.ownBlock = some k) then some m else who k, fun k hk => if_pos hk, fun k hk => if_neg hk⟩
  have ext : ∀ k t, who k = some t → who' k = some t := by
    intro k t e
    rw [hw2 k (fun hk => by have := fresh k hk; have := (h.old k t e).2; omega)]
    exact e
  have z := h.zz m (Nat.le_refl _) hm
  refine ⟨who', ⟨?_, ext _ _ h.tR, ?_, ext _ _ h.tP, ?_, ?_, ?_, ?_, ?_, by omega⟩⟩
  · rw [rc_upd _ _ _ z.1.symm z.2.1.symm z.2.2.1.symm]
    refine (aP.block RB (lt_of_heap h1.hR) (fun e => ?_)).trans h1.hR
    simp at e
    have t1 := h.tR
    rw [e, h.tP] at t1
    simp at t1
  · rw [heap_setCell_same _ _ _ _ _ _ h1.hP]
    match m, hm with
    | 0, _ => simp [pc, upd]
    | 1, _ => simp [pc, upd]
  · intro j hj
    by_cases e : j = m
    · subst e
      rw [upd_same]
      refine ⟨q.kept aP (fun k hk => ?_), ⟨by simp [flat2], .inl ⟨rfl, rfl⟩⟩, List.Pairwise.nil, List.Perm.nil, Nat.le_refl _, rfl, hw1 _ (.inl rfl), hw1 _ (.inr (.inl rfl)), fun k hk => hw1 _ (.inr (.inr hk)), by simp [Value.ownBlock]⟩
      simp at hk; subst hk
      exact ⟨by omega, by omega, fun e => by have := hv _ e; omega⟩
    · rw [upd_other _ _ _ _ e]
      refine (h1.one j (by omega)).kept aP (fun k hk => ?_) ext
      simp at hk; subst hk
      rw [h.tP]; simp; omega
  · intro j hj hj2
    rw [upd_other _ _ _ _ (by omega)]; exact h.zz j (by omega) hj2
  · intro k t e
    have sz : (w1.setCell ⟨PB, m, none⟩ (.pointer (some ⟨Q, 0, none⟩))).heap.size = w1.heap.size := by simp [World.setCell]
    rw [sz]
    have := h.ap.size
    by_cases hk : (k = Q ∨ k = H ∨ v.ownBlock = some k)
    · have := fresh k hk
      exact ⟨by omega, old1 k hk⟩
    · rw [hw2 k hk] at e
      have := h1.old k t e
      exact this
  · exact h1.ap.trans' aP (fun y hy => by simp at hy; subst hy; exact .inr (h.old _ _ h.tP).1)
  · intro j hj
    by_cases e : j = m
    · subst e; rw [upd_same]; exact Nat.zero_le _
    · rw [upd_other _ _ _ _ e]; exact h.bd j hj
set_option maxHeartbeats 8000000 in
set_option maxRecDepth 100000 in
theorem queue_walk (w : World) (p : Option Addr) (N cap : Nat) (f : Nat → AskC) (hN : N ≤ 1100000) (hp : IsAsk w p N f) :
    Calls Try.prog 5 #[.slice p N cap] w fun r w' => r = .returned (.bool true) ∧ Below w.heap.size w w' := by
  have hnil := nilq2
  have HP := hid hp
  have HS := hid (QS.start w)
  obtain ⟨PB, hPB⟩ : ∃ PB, w.heap.size = PB := ⟨_, rfl⟩
  obtain ⟨RB, hRB⟩ : ∃ RB, PB + 1 = RB := ⟨_, rfl⟩
  have HS0 : Hid (∃ S who, QS w ((w.alloc (.cells #[.pointer none, .pointer none] 53)).alloc (.cells #[.slice none 0 0, .int .i64 0, .int .i64 0, .slice none 0 0, .int .i64 0, .int .i64 0] 56)) PB RB 0 S who 0) := by
    rw [← hRB, ← hPB]; exact ⟨_, _, HS.out⟩
  clear hp HS
  go_enter Try.func5, Try.ntmps5
  go_wp2_with fail
  generalize hWW : ((w.alloc (.cells #[.pointer none, .pointer none] 53)).alloc (.cells #[.slice none 0 0, .int .i64 0, .int .i64 0, .slice none 0 0, .int .i64 0, .int .i64 0] 56)) = W at HS0 ⊢
  try rw [hPB]
  try rw [hRB]
  go_loopw [5] (fun vi wr => ∃ (i : Nat) (S : Nat → QD) (who : Nat → Option Nat), i ≤ 2 ∧ vi = .int .i64 i ∧ QS w wr PB RB i S who i) (fun vi _ => 2 - (intOf vi).toNat)
  case atStart => obtain ⟨S, who, h⟩ := HS0.out; exact ⟨0, S, who, by omega, rfl, h⟩
  case round =>
    clear HS0
    obtain ⟨i, S, who, hi, rfl, hK⟩ := hrel
    by_cases hi2 : i < 2
    · have hn := newV_ok wr
      have HK := hid hK
      clear hK
      go_wp2_with fail
      refine hn.mono ?_
      rintro r w1 ⟨rfl, ⟨v, q1, hv⟩, a1⟩
      obtain ⟨Q, hQ⟩ : ∃ Q, wr.heap.size + 1 = Q := ⟨_, rfl⟩
      have hnew := HK.out.new hi2 a1 Q wr.heap.size v (by rw [← hQ]; exact q1) (by omega) (Nat.le_refl _) hv
      rw [hQ]
      dsimp only
      have cP : w1.cell? ⟨PB, i, none⟩ = some (S i).pv := HK.out.cellP a1 i hi2
      have fP : w1.frozen? ⟨PB, i, none⟩ = false := frozen_of_row w1 PB i _ _ (HK.out.kept a1).hP
      obtain ⟨X, hX⟩ : ∃ X, w1.setCell ⟨PB, i, none⟩ (.pointer (some ⟨Q, 0, none⟩)) = X := ⟨_, rfl⟩
      rw [hX] at hnew
      obtain ⟨S', hS'⟩ : ∃ S', upd S i ⟨Q, wr.heap.size, v, [], 0, 0, .slice none 0 0, [], .pointer (some ⟨Q, 0, none⟩)⟩ = S' := ⟨_, rfl⟩
      have hS'i : S' i = ⟨Q, wr.heap.size, v, [], 0, 0, .slice none 0 0, [], .pointer (some ⟨Q, 0, none⟩)⟩ := by rw [← hS', upd_same]
      rw [hS'] at hnew
      obtain ⟨who', hX1⟩ := hnew
      have oX := hX1.one i (by omega)
      have cX : X.cell? ⟨PB, i, none⟩ = some (.pointer (some ⟨Q, 0, none⟩)) := by rw [hX1.cellP (Apart.refl _ _) i hi2, hS'i]
      have qX := oX.qv
      rw [hS'i] at qX
      dsimp only at qX
      have hLi := list_v qX 0 rfl
      have HX := hid hX1
      have HSI := hid hS'i
      clear hn q1 hv a1 oX hX1 hS' qX
      go_wp2_with fail
      refine hLi.mono ?_
      rintro r X2 ⟨B, rfl, _, _, a2⟩
      dsimp only
      have h2 := HX.out.kept a2
      have o2 := h2.one i (by omega)
      have c2 : X2.cell? ⟨PB, i, none⟩ = some (.pointer (some ⟨Q, 0, none⟩)) := by rw [h2.cellP (Apart.refl _ _) i hi2, HSI.out]
      have q2 := o2.qv
      rw [HSI.out] at q2
      dsimp only at q2
      have hNo := now_v q2
      have H2 := hid h2
      clear hLi a2 h2 o2 q2 HX
      go_wp2_with fail
      refine hNo.mono ?_
      rintro r X3 ⟨rfl, rfl⟩
      dsimp only
      have aD : Apart [] X3 X3.drew := (Apart.refl _ _).drewN 1
      have h3 := H2.out.kept aD
      have o3 := h3.one i (by omega)
      have hA := arm_v o3.qv (by rw [HSI.out]; exact (by decide : (0 : Nat) < 3000000)) o3.len 3 i 4
      have e1 : (S' i).Q = Q := by rw [HSI.out]
      have cD : X3.drew.cell? ⟨PB, i, none⟩ = some (.pointer (some ⟨Q, 0, none⟩)) := by rw [h3.cellP (Apart.refl _ _) i hi2, HSI.out]
      rw [e1] at hA
      have H3 := hid h3
      clear hNo aD h3 o3 H2 c2 cX cP fP
      go_wp2_with fail
      refine wp_region_held_drew (S := fun X => X.cell? ⟨PB, i, none⟩ = some (.pointer (some ⟨Q, 0, none⟩))) (by kernel_rfl) cD (fun hHeld => ?_)
      refine wpAnyH_take (i := 0) (oi := ⟨some 34, _, _, _, _, _⟩) (v := (.int .i64 (i : Nat))) rfl (by kernel_rfl) (by kernel_rfl) (by kernel_rfl) (fun _ _ _ h => h) (Or.inl ⟨by rfl, ?_⟩) (by assumption) ?_
      · intro W hSW; go_simp
      simp only [Act.put, List.setIfInBounds_toArray, List.set_cons_zero, List.set_cons_succ]
      refine wpAnyH_take (i := 1) (oi := ⟨some 35, _, _, _, _, _⟩) (v := (.pointer (some ⟨PB, i, none⟩))) rfl (by kernel_rfl) (by kernel_rfl) (by kernel_rfl) (fun _ _ _ h => h) (Or.inl ⟨by rfl, ?_⟩) (by assumption) ?_
      · intro W hSW; go_simp
      simp only [Act.put, List.setIfInBounds_toArray, List.set_cons_zero, List.set_cons_succ]
      refine wpAnyH_take (i := 2) (oi := ⟨some 36, _, _, _, _, _⟩) (v := (.pointer (some ⟨Q, 0, none⟩))) rfl (by kernel_rfl) (by kernel_rfl) (by kernel_rfl) (fun _ _ _ h => h) (Or.inl ⟨by rfl, ?_⟩) (by assumption) ?_
      · intro W hSW; go_simp
      simp only [Act.put, List.setIfInBounds_toArray, List.set_cons_zero, List.set_cons_succ]
      refine wpAnyH_take (i := 3) (oi := ⟨some 37, _, _, _, _, _⟩) (v := (.int .i64 (i : Nat))) rfl (by kernel_rfl) (by kernel_rfl) (by kernel_rfl) (fun _ _ _ h => h) (Or.inl ⟨by rfl, ?_⟩) (by assumption) ?_
      · intro W hSW; go_simp
      simp only [Act.put, List.setIfInBounds_toArray, List.set_cons_zero, List.set_cons_succ]
      refine wpAnyH_take (i := 5) (oi := ⟨some 39, _, _, _, _, _⟩) (v := (.int .i64 (i : Nat))) rfl (by kernel_rfl) (by kernel_rfl) (by kernel_rfl) (fun _ _ _ h => h) (Or.inl ⟨by rfl, ?_⟩) (by assumption) ?_
      · intro W hSW; go_simp
      simp only [Act.put, List.setIfInBounds_toArray, List.set_cons_zero, List.set_cons_succ]
      refine wpAnyH_take (i := 6) (oi := ⟨some 40, _, _, _, _, _⟩) (v := (.pointer (some ⟨RB, i * 3, none⟩))) rfl (by kernel_rfl) (by kernel_rfl) (by kernel_rfl) (fun _ _ _ h => h) (Or.inl ⟨by rfl, ?_⟩) (by assumption) ?_
      · intro W hSW; go_simp
      simp only [Act.put, List.setIfInBounds_toArray, List.set_cons_zero, List.set_cons_succ]
      refine wpAnyH_take (i := 7) (oi := ⟨some 41, _, _, _, _, _⟩) (v := (.int .i64 (i : Nat))) rfl (by kernel_rfl) (by kernel_rfl) (by kernel_rfl) (fun _ _ _ h => h) (Or.inl ⟨by rfl, ?_⟩) (by assumption) ?_
      · intro W hSW; go_simp
      simp only [Act.put, List.setIfInBounds_toArray, List.set_cons_zero, List.set_cons_succ]
      refine wpAnyH_ready (rs := [4]) (by kernel_rfl) (by simp) ?_
      refine AllReadyH.cons rfl (fun KK hKK => ?_) AllReadyH.nil
      go_simp
      refine hA.mono ?_
      rintro r X4 A4
      obtain ⟨rfl, v4, q4, c4⟩ := A4.ex
      have hn4 : (S' i).n = 0 := by rw [HSI.out]
      have hL4 : (S' i).L.length < 1200000 := by rw [HSI.out]; exact (by decide : (0 : Nat) < 1200000)
      have lP := H3.out.tP
      have tid := Qv.ids_tag (w := X3.drew) (H3.out.one i (by omega)).tQ (H3.out.one i (by omega)).tH (H3.out.one i (by omega)).tv
      have cX4 : X4.cell? ⟨PB, i, none⟩ = some (.pointer (some ⟨Q, 0, none⟩)) := (c4.ap.cell (p := ⟨PB, i, none⟩) (lt_of_heap H3.out.hP) (fun m => by have := tid _ (by rw [e1]; exact m); rw [lP] at this; simp at this; omega)).trans cD
      have hR := rarm_ok (H3.out.rq1 i hi2 (by omega) (by omega) (v' := v4) (by rw [e1]; exact c4)) 3 i 4 (by rw [hn4]; decide) hL4
      have HA4 := hid A4
      dsimp only
      clear A4 q4 c4 hA cD tid lP
      refine hKK.out _ _ cX4 (fun hHeld => ?_)
      clear hKK KK
      refine wpAnyH_ready (rs := [8]) (by kernel_rfl) (by simp) ?_
      refine AllReadyH.cons rfl (fun KK hKK => ?_) AllReadyH.nil
      go_simp
      refine hR.mono ?_
      rintro r X5 A5
      have P : Hid (∃ S'' who', QS w X5 PB RB (i + 1) S'' who' (i + 1) ∧ ∀ j, (S'' j).pv = (S' j).pv) := step_arm H3.out i hi2 (by omega) 3 i 4 _ _ (by rw [e1]; exact HA4.out) A5
      obtain ⟨rfl, lv', q5, a5, n5⟩ := A5.ex
      have t5 : X5.cell? ⟨PB, i, none⟩ = some (.pointer (some ⟨Q, 0, none⟩)) := by
        refine (a5.cell (p := ⟨PB, i, none⟩) (block_lt_of_cell cX4) (fun m => ?_)).trans cX4
        have o3 := H3.out.one i (by omega)
        simp [ids] at m
        have lP := H3.out.tP
        rcases m with e | e
        · rw [e, H3.out.tR] at lP; simp at lP
        · rw [o3.tl _ e] at lP; simp at lP; omega
      rw [hn4]
      dsimp only
      clear A5 q5 a5 n5 hR cX4
      refine hKK.out _ _ t5 (fun hHeld => ?_)
      clear hKK KK
      refine wpAnyH_take (i := 9) (oi := ⟨some 43, _, _, _, _, _⟩) (v := (.bool false)) rfl (by kernel_rfl) (by kernel_rfl) (by kernel_rfl) (fun _ _ _ h => h) (Or.inl ⟨by rfl, ?_⟩) (by assumption) ?_
      · intro W hSW; go_simp
      simp only [Act.put, List.setIfInBounds_toArray, List.set_cons_zero, List.set_cons_succ]
      refine wpAnyH_done (by kernel_rfl) ?_ _
      go_wp2_with fail
      obtain ⟨S5, who5, h5, _⟩ := P.out
      exact ⟨⟨i + 1, S5, who5, by omega, by simp, h5⟩, by simp only [intOf]; omega⟩
    · have HK : Hid (QS w wr PB RB 2 S who 2) := by
        have e : i = 2 := by omega
        rw [e] at hK
        exact hK
      have hi3 : (i : Int) = 2 := by omega
      rw [hi3]
      clear hK hi3
      go_wp2_with fail
      go_loopw [6] (fun vk wr => ∃ (k : Nat) (S : Nat → QD) (who : Nat → Option Nat), k ≤ N ∧ vk = .int .i64 k ∧ QS w wr PB RB 2 S who (2 + k)) (fun vk _ => N - (intOf vk).toNat)
      case atStart => exact ⟨0, S, who, by omega, rfl, HK.out⟩
      case round =>
        clear HK
        obtain ⟨k, S, who, hk, rfl, hK⟩ := hrel
        by_cases hkN : k < N
        · obtain ⟨P, o, rfl, hP, hc⟩ := HP.out (by omega)
          obtain ⟨e0, e1, e2, e3, e4⟩ := hc k hkN
          obtain ⟨i, hi2, hbi⟩ := who2 (f k).who
          have iI : (i : Int) < 2 := by omega
          have aD : Apart [] wr wr.drew := (Apart.refl _ _).drewN 1
          have hD := hK.kept aD
          have x0 := (hK.ap.cell (p := ⟨P, o + k * 5, none⟩) hP (by simp)).trans e0
          have d0 := (hD.ap.cell (p := ⟨P, o + k * 5, none⟩) hP (by simp)).trans e0
          have d1 := (hD.ap.cell (p := ⟨P, o + k * 5 + 1, none⟩) hP (by simp)).trans e1
          have d2 := (hD.ap.cell (p := ⟨P, o + k * 5 + 2, none⟩) hP (by simp)).trans e2
          have d3 := (hD.ap.cell (p := ⟨P, o + k * 5 + 3, none⟩) hP (by simp)).trans e3
          have d4 := (hD.ap.cell (p := ⟨P, o + k * 5 + 4, none⟩) hP (by simp)).trans e4
          have cP := hD.cellP (Apart.refl _ _) i hi2
          have hA := asked_ok hD (by omega) i hi2 (f k).who (f k).kind (f k).a (f k).b (f k).c
          have SS : (wr.drew.cell? ⟨PB, i, none⟩ = some (S i).pv ∧ wr.drew.cell? ⟨P, o + k * 5, none⟩ = some (.int .i64 (f k).who) ∧ wr.drew.cell? ⟨P, o + k * 5 + 1, none⟩ = some (.int .i64 (f k).kind) ∧ wr.drew.cell? ⟨P, o + k * 5 + 2, none⟩ = some (.int .i64 (f k).a) ∧ wr.drew.cell? ⟨P, o + k * 5 + 3, none⟩ = some (.int .i64 (f k).b) ∧ wr.drew.cell? ⟨P, o + k * 5 + 4, none⟩ = some (.int .i64 (f k).c)) := ⟨cP, d0, d1, d2, d3, d4⟩
          have E0 := hid e0
          have E1 := hid e1
          have E2 := hid e2
          have E3 := hid e3
          have E4 := hid e4
          clear hK hD aD e0 e1 e2 e3 e4 hc d0 d1 d2 d3 d4 cP
          go_wp2_with fail
          refine wp_region_held_drew (S := fun X => X.cell? ⟨PB, i, none⟩ = some (S i).pv ∧ X.cell? ⟨P, o + k * 5, none⟩ = some (.int .i64 (f k).who) ∧ X.cell? ⟨P, o + k * 5 + 1, none⟩ = some (.int .i64 (f k).kind) ∧ X.cell? ⟨P, o + k * 5 + 2, none⟩ = some (.int .i64 (f k).a) ∧ X.cell? ⟨P, o + k * 5 + 3, none⟩ = some (.int .i64 (f k).b) ∧ X.cell? ⟨P, o + k * 5 + 4, none⟩ = some (.int .i64 (f k).c)) (by kernel_rfl) SS (fun hHeld => ?_)
          refine wpAnyH_take (i := 0) (oi := ⟨some 56, _, _, _, _, _⟩) (v := (.int .i64 (i : Nat))) rfl (by kernel_rfl) (by kernel_rfl) (by kernel_rfl) (fun _ _ _ h => h) (Or.inl ⟨by rfl, ?_⟩) (by assumption) ?_
          · intro W hSW; go_simp
          simp only [Act.put, List.setIfInBounds_toArray, List.set_cons_zero, List.set_cons_succ]
          refine wpAnyH_take (i := 1) (oi := ⟨some 57, _, _, _, _, _⟩) (v := (.pointer (some ⟨PB, i, none⟩))) rfl (by kernel_rfl) (by kernel_rfl) (by kernel_rfl) (fun _ _ _ h => h) (Or.inl ⟨by rfl, ?_⟩) (by assumption) ?_
          · intro W hSW; go_simp
          simp only [Act.put, List.setIfInBounds_toArray, List.set_cons_zero, List.set_cons_succ]
          refine wpAnyH_take (i := 2) (oi := ⟨some 58, _, _, _, _, _⟩) (v := ((S i).pv)) rfl (by kernel_rfl) (by kernel_rfl) (by kernel_rfl) (fun _ _ _ h => h) (Or.inl ⟨by rfl, ?_⟩) (by assumption) ?_
          · intro W hSW; go_simp
          simp only [Act.put, List.setIfInBounds_toArray, List.set_cons_zero, List.set_cons_succ]
          refine wpAnyH_take (i := 3) (oi := ⟨some 59, _, _, _, _, _⟩) (v := (.int .i64 (i : Nat))) rfl (by kernel_rfl) (by kernel_rfl) (by kernel_rfl) (fun _ _ _ h => h) (Or.inl ⟨by rfl, ?_⟩) (by assumption) ?_
          · intro W hSW; go_simp
          simp only [Act.put, List.setIfInBounds_toArray, List.set_cons_zero, List.set_cons_succ]
          refine wpAnyH_take (i := 4) (oi := ⟨some 60, _, _, _, _, _⟩) (v := (.pointer (some ⟨RB, i * 3, none⟩))) rfl (by kernel_rfl) (by kernel_rfl) (by kernel_rfl) (fun _ _ _ h => h) (Or.inl ⟨by rfl, ?_⟩) (by assumption) ?_
          · intro W hSW; go_simp
          simp only [Act.put, List.setIfInBounds_toArray, List.set_cons_zero, List.set_cons_succ]
          refine wpAnyH_take (i := 5) (oi := ⟨some 61, _, _, _, _, _⟩) (v := (.slice (some ⟨P, o, none⟩) N cap)) rfl (by kernel_rfl) (by kernel_rfl) (by kernel_rfl) (fun _ _ _ h => h) (Or.inl ⟨by rfl, ?_⟩) (by assumption) ?_
          · intro W hSW; go_simp
          simp only [Act.put, List.setIfInBounds_toArray, List.set_cons_zero, List.set_cons_succ]
          refine wpAnyH_take (i := 6) (oi := ⟨some 62, _, _, _, _, _⟩) (v := (.int .i64 (k : Nat))) rfl (by kernel_rfl) (by kernel_rfl) (by kernel_rfl) (fun _ _ _ h => h) (Or.inl ⟨by rfl, ?_⟩) (by assumption) ?_
          · intro W hSW; go_simp
          simp only [Act.put, List.setIfInBounds_toArray, List.set_cons_zero, List.set_cons_succ]
          refine wpAnyH_take (i := 7) (oi := ⟨some 63, _, _, _, _, _⟩) (v := (.pointer (some ⟨P, o + k * 5, none⟩))) rfl (by kernel_rfl) (by kernel_rfl) (by kernel_rfl) (fun _ _ _ h => h) (Or.inl ⟨by rfl, ?_⟩) (by assumption) ?_
          · intro W hSW; go_simp
          simp only [Act.put, List.setIfInBounds_toArray, List.set_cons_zero, List.set_cons_succ]
          refine wpAnyH_take (i := 8) (oi := ⟨some 64, _, _, _, _, _⟩) (v := (.agg #[.int .i64 (f k).who, .int .i64 (f k).kind, .int .i64 (f k).a, .int .i64 (f k).b, .int .i64 (f k).c])) rfl (by kernel_rfl) (by kernel_rfl) (by kernel_rfl) (fun _ _ _ h => h) (Or.inl ⟨by rfl, ?_⟩) (by assumption) ?_
          · intro W hSW; go_simp
          simp only [Act.put, List.setIfInBounds_toArray, List.set_cons_zero, List.set_cons_succ]
          refine wpAnyH_ready (rs := [9]) (by kernel_rfl) (by simp) ?_
          refine AllReadyH.cons rfl (fun KK hKK => ?_) AllReadyH.nil
          go_simp
          refine hA.mono ?_
          rintro r X2 ⟨rfl, S2, who2', h2, hpv⟩
          dsimp only
          have H2 := hid h2
          have CP2 : X2.cell? ⟨PB, i, none⟩ = some (S i).pv := by rw [h2.cellP (Apart.refl _ _) i hi2, hpv i]
          have y0 := (h2.ap.cell (p := ⟨P, o + k * 5, none⟩) hP (by simp)).trans E0.out
          have y1 := (h2.ap.cell (p := ⟨P, o + k * 5 + 1, none⟩) hP (by simp)).trans E1.out
          have y2 := (h2.ap.cell (p := ⟨P, o + k * 5 + 2, none⟩) hP (by simp)).trans E2.out
          have y3 := (h2.ap.cell (p := ⟨P, o + k * 5 + 3, none⟩) hP (by simp)).trans E3.out
          have y4 := (h2.ap.cell (p := ⟨P, o + k * 5 + 4, none⟩) hP (by simp)).trans E4.out
          clear h2 hA SS hpv
          refine hKK.out _ _ ⟨CP2, y0, y1, y2, y3, y4⟩ (fun hHeld => ?_)
          clear hKK KK
          refine wpAnyH_take (i := 10) (oi := ⟨some 66, _, _, _, _, _⟩) (v := (.bool false)) rfl (by kernel_rfl) (by kernel_rfl) (by kernel_rfl) (fun _ _ _ h => h) (Or.inl ⟨by rfl, ?_⟩) (by assumption) ?_
          · intro W hSW; go_simp
          simp only [Act.put, List.setIfInBounds_toArray, List.set_cons_zero, List.set_cons_succ]
          refine wpAnyH_done (by kernel_rfl) ?_ _
          go_wp2
          go_roundw
          case rel => exact ⟨k + 1, S2, who2', by omega, by go_num, H2.out⟩
          case measure => simp [intOf]; omega
        · obtain rfl : k = N := by omega
          have o0 := hK.one 0 (by omega)
          have c0 := hK.cellP (Apart.refl _ _) 0 (by omega)
          rw [o0.hp] at c0
          have hL := listed_ok o0.qv (hK.rq 0 (by omega) (by omega) (by omega)) o0.inc o0.perm
          have HK2 := hid hK
          clear hK o0
          go_wp2_with fail
          simp only [Nat.zero_mul] at hL
          refine hL.mono ?_
          rintro r X2 ⟨rfl, a2⟩
          dsimp only
          have h2 := HK2.out.kept a2
          have o1 := h2.one 1 (by omega)
          have c1 := h2.cellP (Apart.refl _ _) 1 (by omega)
          rw [o1.hp] at c1
          have hL1 := listed_ok o1.qv (h2.rq 1 (by omega) (by omega) (by omega)) o1.inc o1.perm
          simp only [Nat.one_mul] at hL1
          have H2 := hid h2
          clear hL h2 o1 a2 c0
          go_wp2_with fail
          refine hL1.mono ?_
          rintro r X3 ⟨rfl, a3⟩
          have bel : Hid (Below w.heap.size w X3) := (H2.out.kept a3).ap.below (Nat.le_refl _) (by simp)
          clear hL1 a3
          dsimp only
          go_wp2
          go_ret
          exact ⟨rfl, bel.out⟩
end Go.Proofs.Ytopmhacnopfifaa.tm
