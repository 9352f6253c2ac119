import Derived.Test.YtiakcfjbnlibfaaW4
namespace Go.Proofs.Ytiakcfjbnlibfaa.nt
open Go.ChangeShapes Go.WideShapes Go.ChangeAt Go.RowKit
set_option linter.unusedVariables false
set_option linter.unusedSimpArgs false
structure LOPost (wa w w' : World) (P : Nat) (p : Px) (who : Nat → Option Nat) (l : LM) (x : Tx) : Prop where
  ex : ∃ who', PQ wa w' P { p with turns := p.turns + 1, x := { p.x with lf := p.x.lf ++ [(l.d, x.b)] } } who' (Sx.cof { p.x with lf := p.x.lf ++ [(l.d, x.b)] }) ∧ Stp w w' who who' l.d.v.ownBlock
set_option maxHeartbeats 8000000 in
set_option maxRecDepth 100000 in
theorem letter_odd {wa w : World} {P : Nat} {p : Px} {who : Nat → Option Nat} (h : PQ wa w P p who p.x.cof) (l : LM) (x : Tx) (hl : OwnL w l x) (hfree : ∀ k, l.d.v.ownBlock = some k → who k = none ∧ wa.heap.size ≤ k) (m : LM) (hm : ReadsL w m x) (e : Int) (hodd : p.turns % 2 = 0) (hb : p.turns ≤ 100000) (hlf : p.x.lf.length ≤ 50000) :
    Calls Try.prog 36 #[.pointer (some ⟨P, 0, none⟩), l.agg, .int .i64 e, m.agg, .int .i64 e] w fun r w' => r = .returned (.bool true) ∧ LOPost wa w w' P p who l x := by
  obtain ⟨W1, hW1⟩ : ∃ W1, W1 = (w.alloc (boxL l)).alloc (boxL m) := ⟨_, rfl⟩
  have a1 : Apart [] w W1 := by rw [hW1]; exact ((Apart.refl [] w).alloc _).alloc _
  have q1 : W1.heap[w.heap.size]? = some (.cells #[.int .i64 l.f, .int .i64 l.t, .slice l.d.p l.d.n l.d.c] 30 (0, 0)) := by rw [hW1, Below.heap_alloc _ _ _ (by simp)]; exact heap_alloc_new w (boxL l)
  have q2 : W1.heap[w.heap.size + 1]? = some (.cells #[.int .i64 m.f, .int .i64 m.t, .slice m.d.p m.d.n m.d.c] 30 (0, 0)) := by
    have := heap_alloc_new (w.alloc (boxL l)) (boxL m)
    rw [hW1]
    have e1 : (w.alloc (boxL l)).heap.size = w.heap.size + 1 := by simp
    rw [e1] at this
    exact this
  have hAl := alike_yes l m x W1 (hl.reads.kept0 a1) (hm.kept0 a1)
  have HH := hid (h.kept0 a1)
  have HL := hid (hl.kept0 a1)
  have HF := hid hfree
  have HA1 := hid a1
  have HQ1 := hid q1
  have HQ2 := hid q2
  have HLK := hid (fun k (hk : l.d.v.ownBlock = some k) => (hl.d.lt k hk).2)
  have hB1 : Hid (who w.heap.size = none) := h.free (Nat.le_refl _)
  have hB2 : Hid (who (w.heap.size + 1) = none) := h.free (by omega)
  have hdn := hl.dn
  have hdl := hl.dl
  have HMD := hid (And.intro hm.dn hm.dl)
  obtain ⟨x0, x1, x2⟩ := row3 q1
  obtain ⟨y0, y1, y2⟩ := row3 q2
  unfold boxL Sl.v at hW1
  unfold LM.agg Sl.v at hAl ⊢
  clear a1 q1 q2 h hl hm hfree
  go_enter Try.func36, Try.ntmps36
  go_upto_region 1 with fail
  rw [← hW1]
  clear hW1
  go_wp2_with fail
  refine (num_ok e W1).mono ?_
  rintro _ W1 ⟨rfl, rfl⟩
  dsimp only
  go_wp2_with fail
  refine hAl.mono ?_
  clear hAl x0 x1 x2 y0 y1 y2
  rintro _ w2 ⟨rfl, a2⟩
  have HP2 := hid (HH.out.kept0 a2)
  have HL2 := hid (HL.out.kept0 a2)
  have HS2 : Hid (Stp w w2 who who l.d.v.ownBlock) := Stp.ap0 (HA1.out.trans a2)
  have HR1 := hid ((a2.block _ (lt_of_heap HQ1.out) (by simp)).trans HQ1.out)
  have HR2 := hid ((a2.block _ (lt_of_heap HQ2.out) (by simp)).trans HQ2.out)
  have o12 : w2.cell? ⟨P, 12, none⟩ = some (.int .i64 (p.turns : Int)) := (HP2.out.sm.oth).2.2.2.2.1
  have f12 := (HP2.out.sm.oth).2.2.2.2.2 12
  obtain ⟨w3, hw3⟩ : ∃ w3, w3 = w2.setCell ⟨P, 12, none⟩ (.int .i64 ((p.turns : Int) + 1)) := ⟨_, rfl⟩
  have HP3 : Hid (PQ wa w3 P { p with turns := p.turns + 1 } who p.x.cof) := by rw [hw3]; exact HP2.out.turn (p.turns + 1)
  have a3 : Apart [P] w2 w3 := by rw [hw3]; exact (Apart.refl [P] w2).setCell (by simp) _
  have hPw : who P = some 0 := HP2.out.sm.wS
  have HL3 : Hid (OwnL w3 l x) := { HL2.out with d := own_apart HL2.out.d a3 (fun k hk hm => by simp at hm; subst hm; have := (HF.out _ hk).1; rw [hPw] at this; cases this) }
  have HS3 : Hid (Stp w w3 who who l.d.v.ownBlock) := HS2.out.trans (Stp.row a3 (fun k hk => by simp at hk; subst hk; left; rw [hPw]; simp))
  have HB1 := hid ((a3.block _ (lt_of_heap HR1.out) (fun m => by simp at m; have := hB1.out; rw [m, hPw] at this; cases this)).trans HR1.out)
  have HB2 := hid ((a3.block _ (lt_of_heap HR2.out) (fun m => by simp at m; have := hB2.out; rw [m, hPw] at this; cases this)).trans HR2.out)
  have o12' : w3.cell? ⟨P, 12, none⟩ = some (.int .i64 ((p.turns : Int) + 1)) := (HP3.out.sm.oth).2.2.2.2.1
  clear a2 a3 hPw
  dsimp only
  go_upto_region 3 with fail
  rw [← hw3]
  clear hw3 o12 f12
  have htm : ((p.turns : Int) + 1).tmod 2 = 1 := by rw [Int.tmod_eq_emod_of_nonneg (by omega)]; omega
  have hTag := HP3.out.tag l.d.v.ownBlock (40 + 2 * p.x.lf.length) (fun k hk => ⟨(HF.out k hk).1, (HL3.out.d.lt k hk).2, (HF.out k hk).2⟩)
  obtain ⟨hT, hTw⟩ := hTag
  have hTd := hT.kept0 (Apart.refl [] w3).drew
  have hWB : whoP who l.d.v.ownBlock (40 + 2 * p.x.lf.length) w.heap.size = none := by
    unfold whoP
    rw [if_neg (fun e => by have := HLK.out _ e; omega)]
    exact hB1.out
  have HS4 : Hid (Stp w w3.drew who (whoP who l.d.v.ownBlock (40 + 2 * p.x.lf.length)) l.d.v.ownBlock) := (HS3.out.trans (Stp.tag hTw)).trans (Stp.ap0 (Apart.refl [] w3).drew)
  have hO4 : OB w3.drew (whoP who l.d.v.ownBlock (40 + 2 * p.x.lf.length)) (40 + 2 * p.x.lf.length) l.d (byts x.b) 5 := ⟨(HL3.out.kept0 (Apart.refl [] w3).drew).d, fun k hk => whoP_at hk⟩
  have hL8 : (p.x.cof 8).length = p.x.lf.length := by simp [Sx.cof]
  have hL9 : (p.x.cof 9).length = p.x.lf.length := by simp [Sx.cof]
  obtain ⟨p8, cp8, c8, f8, _⟩ := hTd.sm.field 8 (by decide)
  obtain ⟨p8', cp8', w4, who4, hrun8, ⟨y8, hy8⟩, hfz8, hPQ5, hst5, X5, aX5, aY5, hX5⟩ := hTd.app2 8 (by decide) (.slice l.d.p l.d.n l.d.c) rfl (by omega) c8 63 l.d.v.ownBlock
  have hr8 : (Builtin.append_ #[63, 63] 63 #[.slice p8 (p.x.cof 8).length cp8, .slice (some ⟨w3.drew.heap.size, 0, none⟩) 1 1]).run Try.prog (w3.drew.alloc (.cells #[.slice l.d.p l.d.n l.d.c] 28)) = .ok (.slice p8' ((p.x.cof 8).length + 1) cp8') w4 := hrun8
  obtain ⟨w5, hw5⟩ : ∃ w5, w5 = w4.setCell ⟨P, 8, none⟩ (.slice p8' ((p.x.cof 8).length + 1) cp8') := ⟨_, rfl⟩
  rw [← hw5] at hPQ5 hst5 aY5
  have hBn5 : w.heap.size ∉ X5 := fun m => by rcases hX5 _ m with e | e <;> rw [hWB] at e <;> cases e
  have hln5 : ∀ k ∈ X5, (whoP who l.d.v.ownBlock (40 + 2 * p.x.lf.length)) k ≠ some (40 + 2 * p.x.lf.length) := fun k hk e => by rcases hX5 k hk with h | h <;> (rw [h] at e; have := Option.some.inj e; omega)
  have hS : w3.drew.heap[w.heap.size]? = some (.cells #[.int .i64 l.f, .int .i64 l.t, .slice l.d.p l.d.n l.d.c] 30 (0, 0)) := HB1.out
  have hSA : (w3.drew.alloc (.cells #[.slice l.d.p l.d.n l.d.c] 28)).heap[w.heap.size]? = some (.cells #[.int .i64 l.f, .int .i64 l.t, .slice l.d.p l.d.n l.d.c] 30 (0, 0)) := (((Apart.refl [] w3.drew).alloc _).block _ (lt_of_heap hS) (by simp)).trans hS
  have xA : (w3.drew.alloc (.cells #[.slice l.d.p l.d.n l.d.c] 28)).cell? ⟨P, 8, none⟩ = some (.slice p8 (p.x.cof 8).length cp8) := (((Apart.refl [] w3.drew).alloc _).cell hTd.sm.lt (by simp)).trans c8
  have z15 := (aX5.block _ (lt_of_heap hS) hBn5).trans hS
  have z16 := (aY5.block _ (lt_of_heap hS) hBn5).trans hS
  have hO5 := hO4.mv aY5 hln5 hst5.old
  have HP5 := hid hPQ5
  have HS5 := hid (HS4.out.trans hst5)
  have HO5 := hid hO5
  have HW5 := hid (hst5.old)
  have HBX5 := hid z16
  have HWB := hid hWB
  have HN5 := hid hst5.new
  have hsz5 : Hid (w3.drew.heap.size ≤ w5.heap.size ∧ w.heap.size < w3.drew.heap.size) := ⟨aY5.size, lt_of_heap hS⟩
  have HL9 := hid hL9
  clear hL8 hL9 hT hTw hTd hWB hO4 hrun8 hPQ5 hst5 aX5 aY5 hX5 hBn5 hln5 hO5
  go_wp2_with fail
  refine wp_region_held_drew (S := fun X => X.heap[w.heap.size]? = some (.cells #[.int .i64 l.f, .int .i64 l.t, .slice l.d.p l.d.n l.d.c] 30 (0, 0))) (by kernel_rfl) hS (fun hHeld => ?_)
  generalize w.heap.size = B at *
  generalize w3.drew = wd at *
  refine wpAnyH_take (i := 0) (oi := ⟨some 37, _, _, _, _, _⟩) (v := (.pointer (some ⟨P, 0, none⟩))) rfl (by kernel_rfl) (by kernel_rfl) (by kernel_rfl) (fun _ _ _ h => h) (Or.inl ⟨by rfl, ?_⟩) (by assumption) ?_
  · intro W hSW; go_simp
  simp only [Act.put, List.setIfInBounds_toArray, List.set_cons_zero, List.set_cons_succ]
  refine wpAnyH_take (i := 1) (oi := ⟨some 38, _, _, _, _, _⟩) (v := (.pointer (some ⟨P, 0, none⟩))) rfl (by kernel_rfl) (by kernel_rfl) (by kernel_rfl) (fun _ _ _ h => h) (Or.inl ⟨by rfl, ?_⟩) (by assumption) ?_
  · intro W hSW; go_simp
  simp only [Act.put, List.setIfInBounds_toArray, List.set_cons_zero, List.set_cons_succ]
  refine wpAnyH_take (i := 2) (oi := ⟨some 39, _, _, _, _, _⟩) (v := (.pointer (some ⟨P, 0, none⟩))) rfl (by kernel_rfl) (by kernel_rfl) (by kernel_rfl) (fun _ _ _ h => h) (Or.inl ⟨by rfl, ?_⟩) (by assumption) ?_
  · intro W hSW; go_simp
  simp only [Act.put, List.setIfInBounds_toArray, List.set_cons_zero, List.set_cons_succ]
  refine wpAnyH_take (i := 3) (oi := ⟨some 40, _, _, _, _, _⟩) (v := (.pointer (some ⟨P, 8, none⟩))) rfl (by kernel_rfl) (by kernel_rfl) (by kernel_rfl) (fun _ _ _ h => h) (Or.inl ⟨by rfl, ?_⟩) (by assumption) ?_
  · intro W hSW; go_simp
  simp only [Act.put, List.setIfInBounds_toArray, List.set_cons_zero, List.set_cons_succ]
  refine wpAnyH_take (i := 5) (oi := ⟨some 42, _, _, _, _, _⟩) (v := (.pointer (some ⟨B, 2, none⟩))) rfl (by kernel_rfl) (by kernel_rfl) (by kernel_rfl) (fun _ _ _ h => h) (Or.inl ⟨by rfl, ?_⟩) (by assumption) ?_
  · intro W hSW; go_simp
  simp only [Act.put, List.setIfInBounds_toArray, List.set_cons_zero, List.set_cons_succ]
  refine wpAnyH_take (i := 6) (oi := ⟨some 43, _, _, _, _, _⟩) (v := (.slice l.d.p l.d.n l.d.c)) rfl (by kernel_rfl) (by kernel_rfl) (by kernel_rfl) (fun _ _ _ h => h) (Or.inl ⟨by rfl, ?_⟩) (by assumption) ?_
  · intro W hSW; obtain ⟨u0, u1, u2⟩ := row3 hSW; go_simp
  simp only [Act.put, List.setIfInBounds_toArray, List.set_cons_zero, List.set_cons_succ]
  refine wpAnyH_ready (rs := [4, 7]) (by kernel_rfl) (by simp) ?_
  refine AllReadyH.cons rfl (fun KK hKK => ?_) (AllReadyH.cons rfl (fun KK hKK => ?_) AllReadyH.nil)
  · go_simp
    refine hKK.out _ _ hS (fun hHeld => ?_)
    clear hKK KK
    refine wpAnyH_ready (rs := [7]) (by kernel_rfl) (by simp) ?_
    refine AllReadyH.cons rfl (fun KK hKK => ?_) AllReadyH.nil
    go_simp
    refine hKK.out _ _ hSA (fun hHeld => ?_)
    clear hKK KK
    refine wpAnyH_ready (rs := [8]) (by kernel_rfl) (by simp) ?_
    refine AllReadyH.cons rfl (fun KK hKK => ?_) AllReadyH.nil
    refine step_app2 (o := ⟨some 45, _, _, _, _, _⟩) rfl (.tmp 41) (.tmp 44) 63 63 rfl _ _ rfl rfl _ _ hr8 ?_
    refine hKK.out _ _ z15 (fun hHeld => ?_)
    clear hKK KK
    refine wpAnyH_take (i := 9) (oi := ⟨some 46, _, _, _, _, _⟩) (v := (.pointer (some ⟨P, 0, none⟩))) rfl (by kernel_rfl) (by kernel_rfl) (by kernel_rfl) (fun _ _ _ h => h) (Or.inl ⟨by rfl, ?_⟩) (by assumption) ?_
    · intro W hSW; go_simp
    simp only [Act.put, List.setIfInBounds_toArray, List.set_cons_zero, List.set_cons_succ]
    refine wpAnyH_take (i := 10) (oi := ⟨some 47, _, _, _, _, _⟩) (v := (.pointer (some ⟨P, 8, none⟩))) rfl (by kernel_rfl) (by kernel_rfl) (by kernel_rfl) (fun _ _ _ h => h) (Or.inl ⟨by rfl, ?_⟩) (by assumption) ?_
    · intro W hSW; go_simp
    simp only [Act.put, List.setIfInBounds_toArray, List.set_cons_zero, List.set_cons_succ]
    refine wpAnyH_ready (rs := [11]) (by kernel_rfl) (by simp) ?_
    refine AllReadyH.cons rfl (fun KK hKK => ?_) AllReadyH.nil
    go_simp
    rw [← hw5]
    refine hKK.out _ _ z16 (fun hHeld => ?_)
    clear hKK KK
    refine wpAnyH_done (by kernel_rfl) ?_ _
    clear hr8 hw5 xA hSA hS z15 z16 c8 f8 hy8 hfz8
    have hPd := HP5.out.kept0 (Apart.refl [] w5).drew
    have e9 : updC p.x.cof 8 (p.x.cof 8 ++ [.slice l.d.p l.d.n l.d.c]) 9 = p.x.cof 9 := by simp [updC]
    obtain ⟨p9, cp9, c9, f9, _⟩ := hPd.sm.field 9 (by decide)
    rw [e9] at c9
    obtain ⟨p9', cp9', w6, who6, hrun9, ⟨y9, hy9⟩, hfz9, hPQ7, hst7, X7, aX7, aY7, hX7⟩ := hPd.app2 9 (by decide) (.string (strB x.b)) rfl (by rw [e9, HL9.out]; omega) (by rw [e9]; exact c9) 67 l.d.v.ownBlock
    rw [e9] at hrun9 hPQ7 hst7 aY7
    have hr9 : (Builtin.append_ #[67, 67] 67 #[.slice p9 (p.x.cof 9).length cp9, .slice (some ⟨w5.drew.heap.size, 0, none⟩) 1 1]).run Try.prog (w5.drew.alloc (.cells #[.string (strB x.b)] 9)) = .ok (.slice p9' ((p.x.cof 9).length + 1) cp9') w6 := hrun9
    obtain ⟨w7, hw7⟩ : ∃ w7, w7 = w6.setCell ⟨P, 9, none⟩ (.slice p9' ((p.x.cof 9).length + 1) cp9') := ⟨_, rfl⟩
    rw [← hw7] at hPQ7 hst7 aY7
    have hW4B : who4 B = none := by
      cases e : who4 B with
      | none => rfl
      | some s =>
        rcases HN5.out B s e with h1 | h1 | h1
        · rw [HWB.out] at h1; cases h1
        · have := hsz5.out; omega
        · have := HLK.out B h1; omega
    have hBn7 : B ∉ X7 := fun m => by rcases hX7 _ m with e | e <;> rw [hW4B] at e <;> cases e
    have hln7 : ∀ k ∈ X7, who4 k ≠ some (40 + 2 * p.x.lf.length) := fun k hk e => by rcases hX7 k hk with h | h <;> (rw [h] at e; have := Option.some.inj e; omega)
    have hOd := HO5.out.mv ((Apart.refl [] w5).drew) (by simp) (fun _ _ h => h)
    have rdl : ∀ W : World, ∀ X : List Nat, Apart X w5.drew W → (∀ k ∈ X, who4 k ≠ some (40 + 2 * p.x.lf.length)) → ReadsL W l x := fun W X a hX => ({ HL3.out with d := (hOd.mv a hX (fun _ _ h => h)).o } : OwnL W l x).reads
    have hS7 : w5.drew.heap[B]? = some (.cells #[.int .i64 l.f, .int .i64 l.t, .slice l.d.p l.d.n l.d.c] 30 (0, 0)) ∧ ReadsL w5.drew l x := ⟨HBX5.out, rdl _ [] (Apart.refl _ _) (by simp)⟩
    have hSA7 : (w5.drew.alloc (.cells #[.string (strB x.b)] 9)).heap[B]? = some (.cells #[.int .i64 l.f, .int .i64 l.t, .slice l.d.p l.d.n l.d.c] 30 (0, 0)) ∧ ReadsL (w5.drew.alloc (.cells #[.string (strB x.b)] 9)) l x := ⟨(((Apart.refl [] w5.drew).alloc _).block _ (lt_of_heap hS7.1) (by simp)).trans hS7.1, rdl _ [] ((Apart.refl [] w5.drew).alloc _) (by simp)⟩
    have xA7 : (w5.drew.alloc (.cells #[.string (strB x.b)] 9)).cell? ⟨P, 9, none⟩ = some (.slice p9 (p.x.cof 9).length cp9) := (((Apart.refl [] w5.drew).alloc _).cell hPd.sm.lt (by simp)).trans c9
    have z157 : w6.heap[B]? = some (.cells #[.int .i64 l.f, .int .i64 l.t, .slice l.d.p l.d.n l.d.c] 30 (0, 0)) ∧ ReadsL w6 l x := ⟨(aX7.block _ (lt_of_heap hS7.1) hBn7).trans hS7.1, rdl _ X7 aX7 hln7⟩
    have z167 : w7.heap[B]? = some (.cells #[.int .i64 l.f, .int .i64 l.t, .slice l.d.p l.d.n l.d.c] 30 (0, 0)) ∧ ReadsL w7 l x := ⟨(aY7.block _ (lt_of_heap hS7.1) hBn7).trans hS7.1, rdl _ X7 aY7 hln7⟩
    have hO7 := hOd.mv aY7 hln7 hst7.old
    have HFIN : Hid (LOPost wa w w7 P p who l x) := ⟨who6, (hPQ7.congr (fun f hf => cof_lf p.x (l.d, x.b) f hf)).setX _ ⟨hPQ7.an.kb, hPQ7.an.ki, fun i e he => by
      by_cases hi : i < p.x.lf.length
      · rw [List.getElem?_append_left hi] at he; exact hPQ7.an.lf i e he
      · have hil : i = p.x.lf.length := by
          have := (List.getElem?_eq_some_iff.1 he).1
          simp at this
          omega
        subst hil
        simp at he
        subst he
        exact ⟨hO7, HL3.out.db⟩, hPQ7.an.nm⟩, (HS5.out.trans (Stp.ap0 (Apart.refl [] w5).drew)).trans hst7⟩
    clear e9 hrun9 hPQ7 hst7 aX7 aY7 hX7 hW4B hBn7 hln7 hOd rdl hO7 hPd
    go_wp2_with fail
    refine wp_region_held_drew (S := fun X => X.heap[B]? = some (.cells #[.int .i64 l.f, .int .i64 l.t, .slice l.d.p l.d.n l.d.c] 30 (0, 0)) ∧ ReadsL X l x) (by kernel_rfl) hS7 (fun hHeld => ?_)
    generalize w5.drew = we at *
    refine wpAnyH_take (i := 0) (oi := ⟨some 48, _, _, _, _, _⟩) (v := (.pointer (some ⟨P, 0, none⟩))) rfl (by kernel_rfl) (by kernel_rfl) (by kernel_rfl) (fun _ _ _ h => h) (Or.inl ⟨by rfl, ?_⟩) (by assumption) ?_
    · intro W hSW; go_simp
    simp only [Act.put, List.setIfInBounds_toArray, List.set_cons_zero, List.set_cons_succ]
    refine wpAnyH_take (i := 1) (oi := ⟨some 49, _, _, _, _, _⟩) (v := (.pointer (some ⟨P, 0, none⟩))) rfl (by kernel_rfl) (by kernel_rfl) (by kernel_rfl) (fun _ _ _ h => h) (Or.inl ⟨by rfl, ?_⟩) (by assumption) ?_
    · intro W hSW; go_simp
    simp only [Act.put, List.setIfInBounds_toArray, List.set_cons_zero, List.set_cons_succ]
    refine wpAnyH_take (i := 2) (oi := ⟨some 50, _, _, _, _, _⟩) (v := (.pointer (some ⟨P, 0, none⟩))) rfl (by kernel_rfl) (by kernel_rfl) (by kernel_rfl) (fun _ _ _ h => h) (Or.inl ⟨by rfl, ?_⟩) (by assumption) ?_
    · intro W hSW; go_simp
    simp only [Act.put, List.setIfInBounds_toArray, List.set_cons_zero, List.set_cons_succ]
    refine wpAnyH_take (i := 3) (oi := ⟨some 51, _, _, _, _, _⟩) (v := (.pointer (some ⟨P, 9, none⟩))) rfl (by kernel_rfl) (by kernel_rfl) (by kernel_rfl) (fun _ _ _ h => h) (Or.inl ⟨by rfl, ?_⟩) (by assumption) ?_
    · intro W hSW; go_simp
    simp only [Act.put, List.setIfInBounds_toArray, List.set_cons_zero, List.set_cons_succ]
    refine wpAnyH_take (i := 5) (oi := ⟨some 53, _, _, _, _, _⟩) (v := (.pointer (some ⟨B, 2, none⟩))) rfl (by kernel_rfl) (by kernel_rfl) (by kernel_rfl) (fun _ _ _ h => h) (Or.inl ⟨by rfl, ?_⟩) (by assumption) ?_
    · intro W hSW; go_simp
    simp only [Act.put, List.setIfInBounds_toArray, List.set_cons_zero, List.set_cons_succ]
    refine wpAnyH_take (i := 6) (oi := ⟨some 54, _, _, _, _, _⟩) (v := (.slice l.d.p l.d.n l.d.c)) rfl (by kernel_rfl) (by kernel_rfl) (by kernel_rfl) (fun _ _ _ h => h) (Or.inl ⟨by rfl, ?_⟩) (by assumption) ?_
    · intro W hSW; obtain ⟨u0, u1, u2⟩ := row3 hSW.1; go_simp
    simp only [Act.put, List.setIfInBounds_toArray, List.set_cons_zero, List.set_cons_succ]
    refine wpAnyH_take (i := 7) (oi := ⟨some 55, _, _, _, _, _⟩) (v := (.string (strB x.b))) rfl (by kernel_rfl) (by kernel_rfl) (by kernel_rfl) (fun _ _ _ h => h) (Or.inl ⟨by rfl, ?_⟩) (by assumption) ?_
    · intro W hSW; have cv := conv_bytes hSW.2.d hSW.2.dn hSW.2.ok; go_simp
    simp only [Act.put, List.setIfInBounds_toArray, List.set_cons_zero, List.set_cons_succ]
    refine wpAnyH_ready (rs := [4, 8]) (by kernel_rfl) (by simp) ?_
    refine AllReadyH.cons rfl (fun KK hKK => ?_) (AllReadyH.cons rfl (fun KK hKK => ?_) AllReadyH.nil)
    · go_simp
      refine hKK.out _ _ hS7 (fun hHeld => ?_)
      clear hKK KK
      refine wpAnyH_ready (rs := [8]) (by kernel_rfl) (by simp) ?_
      refine AllReadyH.cons rfl (fun KK hKK => ?_) AllReadyH.nil
      go_simp
      refine hKK.out _ _ hSA7 (fun hHeld => ?_)
      clear hKK KK
      refine wpAnyH_ready (rs := [9]) (by kernel_rfl) (by simp) ?_
      refine AllReadyH.cons rfl (fun KK hKK => ?_) AllReadyH.nil
      refine step_app2 (o := ⟨some 57, _, _, _, _, _⟩) rfl (.tmp 52) (.tmp 56) 67 67 rfl _ _ rfl rfl _ _ hr9 ?_
      refine hKK.out _ _ z157 (fun hHeld => ?_)
      clear hKK KK
      refine wpAnyH_take (i := 10) (oi := ⟨some 58, _, _, _, _, _⟩) (v := (.pointer (some ⟨P, 0, none⟩))) rfl (by kernel_rfl) (by kernel_rfl) (by kernel_rfl) (fun _ _ _ h => h) (Or.inl ⟨by rfl, ?_⟩) (by assumption) ?_
      · intro W hSW; go_simp
      simp only [Act.put, List.setIfInBounds_toArray, List.set_cons_zero, List.set_cons_succ]
      refine wpAnyH_take (i := 11) (oi := ⟨some 59, _, _, _, _, _⟩) (v := (.pointer (some ⟨P, 9, none⟩))) rfl (by kernel_rfl) (by kernel_rfl) (by kernel_rfl) (fun _ _ _ h => h) (Or.inl ⟨by rfl, ?_⟩) (by assumption) ?_
      · intro W hSW; go_simp
      simp only [Act.put, List.setIfInBounds_toArray, List.set_cons_zero, List.set_cons_succ]
      refine wpAnyH_ready (rs := [12]) (by kernel_rfl) (by simp) ?_
      refine AllReadyH.cons rfl (fun KK hKK => ?_) AllReadyH.nil
      go_simp
      rw [← hw7]
      refine hKK.out _ _ z167 (fun hHeld => ?_)
      clear hKK KK
      refine wpAnyH_done (by kernel_rfl) ?_ _
      go_wp2
      go_ret
      exact ⟨rfl, HFIN.out⟩
    · go_simp
      refine hKK.out _ _ hSA7 (fun hHeld => ?_)
      clear hKK KK
      refine wpAnyH_ready (rs := [4]) (by kernel_rfl) (by simp) ?_
      refine AllReadyH.cons rfl (fun KK hKK => ?_) AllReadyH.nil
      go_simp
      refine hKK.out _ _ hSA7 (fun hHeld => ?_)
      clear hKK KK
      refine wpAnyH_ready (rs := [9]) (by kernel_rfl) (by simp) ?_
      refine AllReadyH.cons rfl (fun KK hKK => ?_) AllReadyH.nil
      refine step_app2 (o := ⟨some 57, _, _, _, _, _⟩) rfl (.tmp 52) (.tmp 56) 67 67 rfl _ _ rfl rfl _ _ hr9 ?_
      refine hKK.out _ _ z157 (fun hHeld => ?_)
      clear hKK KK
      refine wpAnyH_take (i := 10) (oi := ⟨some 58, _, _, _, _, _⟩) (v := (.pointer (some ⟨P, 0, none⟩))) rfl (by kernel_rfl) (by kernel_rfl) (by kernel_rfl) (fun _ _ _ h => h) (Or.inl ⟨by rfl, ?_⟩) (by assumption) ?_
      · intro W hSW; go_simp
      simp only [Act.put, List.setIfInBounds_toArray, List.set_cons_zero, List.set_cons_succ]
      refine wpAnyH_take (i := 11) (oi := ⟨some 59, _, _, _, _, _⟩) (v := (.pointer (some ⟨P, 9, none⟩))) rfl (by kernel_rfl) (by kernel_rfl) (by kernel_rfl) (fun _ _ _ h => h) (Or.inl ⟨by rfl, ?_⟩) (by assumption) ?_
      · intro W hSW; go_simp
      simp only [Act.put, List.setIfInBounds_toArray, List.set_cons_zero, List.set_cons_succ]
      refine wpAnyH_ready (rs := [12]) (by kernel_rfl) (by simp) ?_
      refine AllReadyH.cons rfl (fun KK hKK => ?_) AllReadyH.nil
      go_simp
      rw [← hw7]
      refine hKK.out _ _ z167 (fun hHeld => ?_)
      clear hKK KK
      refine wpAnyH_done (by kernel_rfl) ?_ _
      go_wp2
      go_ret
      exact ⟨rfl, HFIN.out⟩
  · go_simp
    refine hKK.out _ _ hSA (fun hHeld => ?_)
    clear hKK KK
    refine wpAnyH_ready (rs := [4]) (by kernel_rfl) (by simp) ?_
    refine AllReadyH.cons rfl (fun KK hKK => ?_) AllReadyH.nil
    go_simp
    refine hKK.out _ _ hSA (fun hHeld => ?_)
    clear hKK KK
    refine wpAnyH_ready (rs := [8]) (by kernel_rfl) (by simp) ?_
    refine AllReadyH.cons rfl (fun KK hKK => ?_) AllReadyH.nil
    refine step_app2 (o := ⟨some 45, _, _, _, _, _⟩) rfl (.tmp 41) (.tmp 44) 63 63 rfl _ _ rfl rfl _ _ hr8 ?_
    refine hKK.out _ _ z15 (fun hHeld => ?_)
    clear hKK KK
    refine wpAnyH_take (i := 9) (oi := ⟨some 46, _, _, _, _, _⟩) (v := (.pointer (some ⟨P, 0, none⟩))) rfl (by kernel_rfl) (by kernel_rfl) (by kernel_rfl) (fun _ _ _ h => h) (Or.inl ⟨by rfl, ?_⟩) (by assumption) ?_
    · intro W hSW; go_simp
    simp only [Act.put, List.setIfInBounds_toArray, List.set_cons_zero, List.set_cons_succ]
    refine wpAnyH_take (i := 10) (oi := ⟨some 47, _, _, _, _, _⟩) (v := (.pointer (some ⟨P, 8, none⟩))) rfl (by kernel_rfl) (by kernel_rfl) (by kernel_rfl) (fun _ _ _ h => h) (Or.inl ⟨by rfl, ?_⟩) (by assumption) ?_
    · intro W hSW; go_simp
    simp only [Act.put, List.setIfInBounds_toArray, List.set_cons_zero, List.set_cons_succ]
    refine wpAnyH_ready (rs := [11]) (by kernel_rfl) (by simp) ?_
    refine AllReadyH.cons rfl (fun KK hKK => ?_) AllReadyH.nil
    go_simp
    rw [← hw5]
    refine hKK.out _ _ z16 (fun hHeld => ?_)
    clear hKK KK
    refine wpAnyH_done (by kernel_rfl) ?_ _
    clear hr8 hw5 xA hSA hS z15 z16 c8 f8 hy8 hfz8
    have hPd := HP5.out.kept0 (Apart.refl [] w5).drew
    have e9 : updC p.x.cof 8 (p.x.cof 8 ++ [.slice l.d.p l.d.n l.d.c]) 9 = p.x.cof 9 := by simp [updC]
    obtain ⟨p9, cp9, c9, f9, _⟩ := hPd.sm.field 9 (by decide)
    rw [e9] at c9
    obtain ⟨p9', cp9', w6, who6, hrun9, ⟨y9, hy9⟩, hfz9, hPQ7, hst7, X7, aX7, aY7, hX7⟩ := hPd.app2 9 (by decide) (.string (strB x.b)) rfl (by rw [e9, HL9.out]; omega) (by rw [e9]; exact c9) 67 l.d.v.ownBlock
    rw [e9] at hrun9 hPQ7 hst7 aY7
    have hr9 : (Builtin.append_ #[67, 67] 67 #[.slice p9 (p.x.cof 9).length cp9, .slice (some ⟨w5.drew.heap.size, 0, none⟩) 1 1]).run Try.prog (w5.drew.alloc (.cells #[.string (strB x.b)] 9)) = .ok (.slice p9' ((p.x.cof 9).length + 1) cp9') w6 := hrun9
    obtain ⟨w7, hw7⟩ : ∃ w7, w7 = w6.setCell ⟨P, 9, none⟩ (.slice p9' ((p.x.cof 9).length + 1) cp9') := ⟨_, rfl⟩
    rw [← hw7] at hPQ7 hst7 aY7
    have hW4B : who4 B = none := by
      cases e : who4 B with
      | none => rfl
      | some s =>
        rcases HN5.out B s e with h1 | h1 | h1
        · rw [HWB.out] at h1; cases h1
        · have := hsz5.out; omega
        · have := HLK.out B h1; omega
    have hBn7 : B ∉ X7 := fun m => by rcases hX7 _ m with e | e <;> rw [hW4B] at e <;> cases e
    have hln7 : ∀ k ∈ X7, who4 k ≠ some (40 + 2 * p.x.lf.length) := fun k hk e => by rcases hX7 k hk with h | h <;> (rw [h] at e; have := Option.some.inj e; omega)
    have hOd := HO5.out.mv ((Apart.refl [] w5).drew) (by simp) (fun _ _ h => h)
    have rdl : ∀ W : World, ∀ X : List Nat, Apart X w5.drew W → (∀ k ∈ X, who4 k ≠ some (40 + 2 * p.x.lf.length)) → ReadsL W l x := fun W X a hX => ({ HL3.out with d := (hOd.mv a hX (fun _ _ h => h)).o } : OwnL W l x).reads
    have hS7 : w5.drew.heap[B]? = some (.cells #[.int .i64 l.f, .int .i64 l.t, .slice l.d.p l.d.n l.d.c] 30 (0, 0)) ∧ ReadsL w5.drew l x := ⟨HBX5.out, rdl _ [] (Apart.refl _ _) (by simp)⟩
    have hSA7 : (w5.drew.alloc (.cells #[.string (strB x.b)] 9)).heap[B]? = some (.cells #[.int .i64 l.f, .int .i64 l.t, .slice l.d.p l.d.n l.d.c] 30 (0, 0)) ∧ ReadsL (w5.drew.alloc (.cells #[.string (strB x.b)] 9)) l x := ⟨(((Apart.refl [] w5.drew).alloc _).block _ (lt_of_heap hS7.1) (by simp)).trans hS7.1, rdl _ [] ((Apart.refl [] w5.drew).alloc _) (by simp)⟩
    have xA7 : (w5.drew.alloc (.cells #[.string (strB x.b)] 9)).cell? ⟨P, 9, none⟩ = some (.slice p9 (p.x.cof 9).length cp9) := (((Apart.refl [] w5.drew).alloc _).cell hPd.sm.lt (by simp)).trans c9
    have z157 : w6.heap[B]? = some (.cells #[.int .i64 l.f, .int .i64 l.t, .slice l.d.p l.d.n l.d.c] 30 (0, 0)) ∧ ReadsL w6 l x := ⟨(aX7.block _ (lt_of_heap hS7.1) hBn7).trans hS7.1, rdl _ X7 aX7 hln7⟩
    have z167 : w7.heap[B]? = some (.cells #[.int .i64 l.f, .int .i64 l.t, .slice l.d.p l.d.n l.d.c] 30 (0, 0)) ∧ ReadsL w7 l x := ⟨(aY7.block _ (lt_of_heap hS7.1) hBn7).trans hS7.1, rdl _ X7 aY7 hln7⟩
    have hO7 := hOd.mv aY7 hln7 hst7.old
    have HFIN : Hid (LOPost wa w w7 P p who l x) := ⟨who6, (hPQ7.congr (fun f hf => cof_lf p.x (l.d, x.b) f hf)).setX _ ⟨hPQ7.an.kb, hPQ7.an.ki, fun i e he => by
      by_cases hi : i < p.x.lf.length
      · rw [List.getElem?_append_left hi] at he; exact hPQ7.an.lf i e he
      · have hil : i = p.x.lf.length := by
          have := (List.getElem?_eq_some_iff.1 he).1
          simp at this
          omega
        subst hil
        simp at he
        subst he
        exact ⟨hO7, HL3.out.db⟩, hPQ7.an.nm⟩, (HS5.out.trans (Stp.ap0 (Apart.refl [] w5).drew)).trans hst7⟩
    clear e9 hrun9 hPQ7 hst7 aX7 aY7 hX7 hW4B hBn7 hln7 hOd rdl hO7 hPd
    go_wp2_with fail
    refine wp_region_held_drew (S := fun X => X.heap[B]? = some (.cells #[.int .i64 l.f, .int .i64 l.t, .slice l.d.p l.d.n l.d.c] 30 (0, 0)) ∧ ReadsL X l x) (by kernel_rfl) hS7 (fun hHeld => ?_)
    generalize w5.drew = we at *
    refine wpAnyH_take (i := 0) (oi := ⟨some 48, _, _, _, _, _⟩) (v := (.pointer (some ⟨P, 0, none⟩))) rfl (by kernel_rfl) (by kernel_rfl) (by kernel_rfl) (fun _ _ _ h => h) (Or.inl ⟨by rfl, ?_⟩) (by assumption) ?_
    · intro W hSW; go_simp
    simp only [Act.put, List.setIfInBounds_toArray, List.set_cons_zero, List.set_cons_succ]
    refine wpAnyH_take (i := 1) (oi := ⟨some 49, _, _, _, _, _⟩) (v := (.pointer (some ⟨P, 0, none⟩))) rfl (by kernel_rfl) (by kernel_rfl) (by kernel_rfl) (fun _ _ _ h => h) (Or.inl ⟨by rfl, ?_⟩) (by assumption) ?_
    · intro W hSW; go_simp
    simp only [Act.put, List.setIfInBounds_toArray, List.set_cons_zero, List.set_cons_succ]
    refine wpAnyH_take (i := 2) (oi := ⟨some 50, _, _, _, _, _⟩) (v := (.pointer (some ⟨P, 0, none⟩))) rfl (by kernel_rfl) (by kernel_rfl) (by kernel_rfl) (fun _ _ _ h => h) (Or.inl ⟨by rfl, ?_⟩) (by assumption) ?_
    · intro W hSW; go_simp
    simp only [Act.put, List.setIfInBounds_toArray, List.set_cons_zero, List.set_cons_succ]
    refine wpAnyH_take (i := 3) (oi := ⟨some 51, _, _, _, _, _⟩) (v := (.pointer (some ⟨P, 9, none⟩))) rfl (by kernel_rfl) (by kernel_rfl) (by kernel_rfl) (fun _ _ _ h => h) (Or.inl ⟨by rfl, ?_⟩) (by assumption) ?_
    · intro W hSW; go_simp
    simp only [Act.put, List.setIfInBounds_toArray, List.set_cons_zero, List.set_cons_succ]
    refine wpAnyH_take (i := 5) (oi := ⟨some 53, _, _, _, _, _⟩) (v := (.pointer (some ⟨B, 2, none⟩))) rfl (by kernel_rfl) (by kernel_rfl) (by kernel_rfl) (fun _ _ _ h => h) (Or.inl ⟨by rfl, ?_⟩) (by assumption) ?_
    · intro W hSW; go_simp
    simp only [Act.put, List.setIfInBounds_toArray, List.set_cons_zero, List.set_cons_succ]
    refine wpAnyH_take (i := 6) (oi := ⟨some 54, _, _, _, _, _⟩) (v := (.slice l.d.p l.d.n l.d.c)) rfl (by kernel_rfl) (by kernel_rfl) (by kernel_rfl) (fun _ _ _ h => h) (Or.inl ⟨by rfl, ?_⟩) (by assumption) ?_
    · intro W hSW; obtain ⟨u0, u1, u2⟩ := row3 hSW.1; go_simp
    simp only [Act.put, List.setIfInBounds_toArray, List.set_cons_zero, List.set_cons_succ]
    refine wpAnyH_take (i := 7) (oi := ⟨some 55, _, _, _, _, _⟩) (v := (.string (strB x.b))) rfl (by kernel_rfl) (by kernel_rfl) (by kernel_rfl) (fun _ _ _ h => h) (Or.inl ⟨by rfl, ?_⟩) (by assumption) ?_
    · intro W hSW; have cv := conv_bytes hSW.2.d hSW.2.dn hSW.2.ok; go_simp
    simp only [Act.put, List.setIfInBounds_toArray, List.set_cons_zero, List.set_cons_succ]
    refine wpAnyH_ready (rs := [4, 8]) (by kernel_rfl) (by simp) ?_
    refine AllReadyH.cons rfl (fun KK hKK => ?_) (AllReadyH.cons rfl (fun KK hKK => ?_) AllReadyH.nil)
    · go_simp
      refine hKK.out _ _ hS7 (fun hHeld => ?_)
      clear hKK KK
      refine wpAnyH_ready (rs := [8]) (by kernel_rfl) (by simp) ?_
      refine AllReadyH.cons rfl (fun KK hKK => ?_) AllReadyH.nil
      go_simp
      refine hKK.out _ _ hSA7 (fun hHeld => ?_)
      clear hKK KK
      refine wpAnyH_ready (rs := [9]) (by kernel_rfl) (by simp) ?_
      refine AllReadyH.cons rfl (fun KK hKK => ?_) AllReadyH.nil
      refine step_app2 (o := ⟨some 57, _, _, _, _, _⟩) rfl (.tmp 52) (.tmp 56) 67 67 rfl _ _ rfl rfl _ _ hr9 ?_
      refine hKK.out _ _ z157 (fun hHeld => ?_)
      clear hKK KK
      refine wpAnyH_take (i := 10) (oi := ⟨some 58, _, _, _, _, _⟩) (v := (.pointer (some ⟨P, 0, none⟩))) rfl (by kernel_rfl) (by kernel_rfl) (by kernel_rfl) (fun _ _ _ h => h) (Or.inl ⟨by rfl, ?_⟩) (by assumption) ?_
      · intro W hSW; go_simp
      simp only [Act.put, List.setIfInBounds_toArray, List.set_cons_zero, List.set_cons_succ]
      refine wpAnyH_take (i := 11) (oi := ⟨some 59, _, _, _, _, _⟩) (v := (.pointer (some ⟨P, 9, none⟩))) rfl (by kernel_rfl) (by kernel_rfl) (by kernel_rfl) (fun _ _ _ h => h) (Or.inl ⟨by rfl, ?_⟩) (by assumption) ?_
      · intro W hSW; go_simp
      simp only [Act.put, List.setIfInBounds_toArray, List.set_cons_zero, List.set_cons_succ]
      refine wpAnyH_ready (rs := [12]) (by kernel_rfl) (by simp) ?_
      refine AllReadyH.cons rfl (fun KK hKK => ?_) AllReadyH.nil
      go_simp
      rw [← hw7]
      refine hKK.out _ _ z167 (fun hHeld => ?_)
      clear hKK KK
      refine wpAnyH_done (by kernel_rfl) ?_ _
      go_wp2
      go_ret
      exact ⟨rfl, HFIN.out⟩
    · go_simp
      refine hKK.out _ _ hSA7 (fun hHeld => ?_)
      clear hKK KK
      refine wpAnyH_ready (rs := [4]) (by kernel_rfl) (by simp) ?_
      refine AllReadyH.cons rfl (fun KK hKK => ?_) AllReadyH.nil
      go_simp
      refine hKK.out _ _ hSA7 (fun hHeld => ?_)
      clear hKK KK
      refine wpAnyH_ready (rs := [9]) (by kernel_rfl) (by simp) ?_
      refine AllReadyH.cons rfl (fun KK hKK => ?_) AllReadyH.nil
      refine step_app2 (o := ⟨some 57, _, _, _, _, _⟩) rfl (.tmp 52) (.tmp 56) 67 67 rfl _ _ rfl rfl _ _ hr9 ?_
      refine hKK.out _ _ z157 (fun hHeld => ?_)
      clear hKK KK
      refine wpAnyH_take (i := 10) (oi := ⟨some 58, _, _, _, _, _⟩) (v := (.pointer (some ⟨P, 0, none⟩))) rfl (by kernel_rfl) (by kernel_rfl) (by kernel_rfl) (fun _ _ _ h => h) (Or.inl ⟨by rfl, ?_⟩) (by assumption) ?_
      · intro W hSW; go_simp
      simp only [Act.put, List.setIfInBounds_toArray, List.set_cons_zero, List.set_cons_succ]
      refine wpAnyH_take (i := 11) (oi := ⟨some 59, _, _, _, _, _⟩) (v := (.pointer (some ⟨P, 9, none⟩))) rfl (by kernel_rfl) (by kernel_rfl) (by kernel_rfl) (fun _ _ _ h => h) (Or.inl ⟨by rfl, ?_⟩) (by assumption) ?_
      · intro W hSW; go_simp
      simp only [Act.put, List.setIfInBounds_toArray, List.set_cons_zero, List.set_cons_succ]
      refine wpAnyH_ready (rs := [12]) (by kernel_rfl) (by simp) ?_
      refine AllReadyH.cons rfl (fun KK hKK => ?_) AllReadyH.nil
      go_simp
      rw [← hw7]
      refine hKK.out _ _ z167 (fun hHeld => ?_)
      clear hKK KK
      refine wpAnyH_done (by kernel_rfl) ?_ _
      go_wp2
      go_ret
      exact ⟨rfl, HFIN.out⟩
end Go.Proofs.Ytiakcfjbnlibfaa.nt
