import Derived.Test.YtiakcfjbnlibfaaU0
namespace Go.Proofs.Ytiakcfjbnlibfaa.nt
open Go.ChangeShapes Go.WideShapes Go.ChangeAt Go.RowKit
set_option linter.unusedVariables false
set_option linter.unusedSimpArgs false
/-- behind the choice of the memory -/
structure Sc (wa w wx : World) (P : Nat) (p : Px) (who : Nat → Option Nat) (v : Value) (x : Tx) (n : Nat) : Prop where
  ex : ∃ g cp who' s lb, v = .slice (some ⟨g, 0, none⟩) (n + 2) cp ∧ PQ wa wx P { p with lent := s, lb := lb } who' p.x.cof ∧ OB wx who' 3 ⟨some ⟨g, 0, none⟩, n + 2, cp⟩ (byts (lnt x.b)) 5 ∧ Stp w wx who who' none
/-- the lent memory, without its two last -/
theorem lnt_reads {w w' : World} {g cp : Nat} {l : LM} {x : Tx} (o : w.ownsRow 0 5 1 (.slice (some ⟨g, 0, none⟩) (l.d.n + 2) cp) (l.d.n + 2) (byts (lnt x.b))) (hl : ReadsL w' l x) : ReadsL w ⟨l.f, l.t, ⟨some ⟨g, 0, none⟩, l.d.n, cp⟩⟩ x :=
  ⟨hl.f, hl.t, fun h0 => ⟨g, 0, rfl, (o.lt g rfl).2, fun j u hj => by
    have hj' : j < (byts x.b).length := (List.getElem?_eq_some_iff.1 hj).1
    have hbl : (byts x.b).length = l.d.n := by simp [byts]; exact hl.dn
    rw [Nat.zero_add, o.cellAt j (by omega), byts_lnt, List.getElem?_append_left hj']
    exact hj⟩, hl.dn, hl.dl, hl.db, fun e => by cases e⟩
theorem own_cap {w : World} {g n cp : Nat} {xs : List Value} (o : w.ownsRow 0 5 1 (.slice (some ⟨g, 0, none⟩) n cp) n xs) : n ≤ cp := by
  obtain ⟨_, ⟨hv, hz⟩ | ⟨g, cap, cur, hv, _, _, hle, hmx, _⟩⟩ := o
  · cases hv
  · simp at hv; omega
structure SnL (wa W1 w : World) (P : Nat) (p : Px) (who who3 : Nat → Option Nat) : Prop where
  ex : ∃ lb, PQ wa w P { p with lb := lb } who3 p.x.cof ∧ Stp W1 w who who3 none
theorem own_cell_fz {w : World} {g n cp : Nat} {xs : List Value} (o : w.ownsRow 0 5 1 (.slice (some ⟨g, 0, none⟩) n cp) n xs) (i : Nat) (hi : i < n) : ∃ y, w.cell? ⟨g, i, none⟩ = some y ∧ w.frozen? ⟨g, i, none⟩ = false := by
  have hl : xs.length = n * 1 := o.1
  refine ⟨xs[i], (o.cellAt i (by omega)).trans (List.getElem?_eq_getElem (by omega)), ?_⟩
  obtain ⟨_, ⟨hv, hz⟩ | ⟨g, cap, cur, hv, _, hr, hle, hmx, _⟩⟩ := o
  · cases hv
  · simp at hv
    obtain ⟨rfl, rfl⟩ := hv
    exact frozen_of_row _ _ _ _ _ hr
theorem byts_set (lb : List Nat) (i m : Nat) : byts (lb.set i m) = (byts lb).set i (.int .u8 (m : Int)) := by simp [byts, List.map_set]
structure S10 (W : World) (l : LM) (x : Tx) (g cp B : Nat) : Prop where
  o : W.ownsRow 0 5 1 (.slice (some ⟨g, 0, none⟩) (l.d.n + 2) cp) (l.d.n + 2) (byts (lnt x.b))
  r : ReadsL W l x
  b : W.heap[B]? = some (.cells #[.int .i64 l.f, .int .i64 l.t, .slice l.d.p l.d.n l.d.c] 30 (0, 0))
theorem s10_use {W : World} {l : LM} {x : Tx} {g cp B : Nat} (h : S10 W l x g cp B) : W.cell? ⟨g, l.d.n, none⟩ = some (.int .u8 167) ∧ W.cell? ⟨g, l.d.n + 1, none⟩ = some (.int .u8 182) ∧ W.cell? ⟨B, 2, none⟩ = some (.slice l.d.p l.d.n l.d.c) ∧ Sem.run Try.prog (convert 28 9 (.slice (some ⟨g, 0, none⟩) l.d.n cp)) W = .ok (.string (strB x.b)) W ∧ Sem.run Try.prog (convert 28 9 (.slice l.d.p l.d.n l.d.c)) W = .ok (.string (strB x.b)) W := by
  have hbl : (byts x.b).length = l.d.n := by simp [byts]; exact h.r.dn
  have h2 := lnt_reads h.o h.r
  refine ⟨?_, ?_, (row3 h.b).2.2, conv_bytes (s := ⟨some ⟨g, 0, none⟩, l.d.n, cp⟩) h2.d h2.dn h2.ok, conv_bytes h.r.d h.r.dn h.r.ok⟩
  · rw [h.o.cellAt l.d.n (by omega), byts_lnt, List.getElem?_append_right (by omega)]; simp [hbl]
  · rw [h.o.cellAt (l.d.n + 1) (by omega), byts_lnt, List.getElem?_append_right (by omega)]; simp [hbl]
structure SnPost (wa w w' : World) (P : Nat) (p : Px) (who : Nat → Option Nat) (K : Nat) : Prop where
  ex : ∃ who' p', PQ wa w' P p' who' p.x.cof ∧ p'.ys = p'.xs ∧ p'.e = p'.c ∧ p'.x = p.x ∧ p'.mark = p.mark ∧ p'.turns = p.turns ∧ p'.room = p.room ∧ Cb p'.c (K + 1) ∧ Stp w w' who who' none
set_option maxHeartbeats 8000000 in
set_option maxRecDepth 100000 in
theorem sends_ok {wa w : World} {P : Nat} {p : Px} {who : Nat → Option Nat} {K : Nat} (h : PQ wa w P p who p.x.cof) (hxy : p.ys = p.xs ∧ p.e = p.c) (l : LM) (x : Tx) (hl : ReadsL w l x) (hln : ∀ A o, 0 < l.d.n → l.d.p = some ⟨A, o, none⟩ → who A = none ∧ A < w.heap.size) (hK : Cb p.c K) (hK2 : K ≤ 1000000) (hr : p.room ≤ 256) :
    Calls Try.prog 34 #[.pointer (some ⟨P, 0, none⟩), l.agg] w fun r w' => r = .returned (.bool true) ∧ SnPost wa w w' P p who K := by
  obtain ⟨W1, hW1⟩ : ∃ W1, W1 = w.alloc (boxL l) := ⟨_, rfl⟩
  have a1 : Apart [] w W1 := by rw [hW1]; exact (Apart.refl [] w).alloc _
  have q1 : W1.heap[w.heap.size]? = some (.cells #[.int .i64 l.f, .int .i64 l.t, .slice l.d.p l.d.n l.d.c] 30 (0, 0)) := by rw [hW1]; exact heap_alloc_new w (boxL l)
  have HH := hid (h.kept0 a1)
  have HB1 : Hid (who w.heap.size = none) := h.free (Nat.le_refl _)
  have HL1 := hid (hl.kept0 a1)
  have HLN : Hid (∀ A o, 0 < l.d.n → l.d.p = some ⟨A, o, none⟩ → who A = none ∧ A < W1.heap.size) := fun A o e0 e => ⟨(hln A o e0 e).1, Nat.lt_of_lt_of_le (hln A o e0 e).2 a1.size⟩
  have HBL : Hid (w.heap.size < W1.heap.size) := lt_of_heap q1
  have HK := hid hK
  have HR := hid hr
  have HXY := hid hxy
  have HS1 : Hid (Stp w W1 who who none) := Stp.ap0 a1
  have hdn := hl.dn
  have hdl := hl.dl
  have HQ1 := hid q1
  obtain ⟨i0, hi0, hz0, hz1, hz2⟩ := info_parts infoB
  obtain ⟨s1, W2, hrun1, nw1, hs1⟩ := run_appNil W1 28 28 5 i0 _ 1 1 Try.underlying28 hi0 hz0 hz1 hz2 rfl (by decide) l.d (byts x.b) HL1.out.d (by simp [byts]; omega) (oneB _) hdl (by omega) hl.ok
  obtain ⟨s2, W3, hrun2, nw2, hs2, ap2, g, hg, hcp, _⟩ := run_appM 28 28 5 i0 _ 1 1 Try.underlying28 hi0 hz0 hz1 hz2 rfl (by decide) nw1 2 [.int .u8 167, .int .u8 182] (by decide) rfl (fun u hu => by simp at hu; rcases hu with rfl | rfl <;> rfl) (by unfold maxLen; omega) (by omega)
  obtain ⟨sp2, sn2, sc2⟩ := s2
  dsimp only at hs2 hg hcp
  subst hg
  have hn2 : sn2 = l.d.n + 2 := by omega
  subst hn2
  have HN2 : Hid (Nw W1 W3 5 1 ⟨some ⟨g, 0, none⟩, l.d.n + 2, sc2⟩ (byts (lnt x.b))) := by rw [byts_lnt]; exact nw2
  have HP3 := hid (HH.out.kept0 nw2.ap)
  have HS3 : Hid (Stp W1 W3 who who none) := Stp.ap0 nw2.ap
  have HQ3 := hid ((nw2.ap.block _ (lt_of_heap q1) (by simp)).trans q1)
  have hr2 : (Builtin.append_ #[28, 28] 28 #[.slice s1.p s1.n s1.c, .slice (some ⟨W2.heap.size, 0, none⟩) 2 2]).run Try.prog (W2.alloc (.cells #[.int .u8 167, .int .u8 182] 5)) = .ok (.slice (some ⟨g, 0, none⟩) (l.d.n + 2) sc2) W3 := hrun2
  have hr1 : (Builtin.append_ #[28, 28] 28 #[.slice none 0 0, .slice l.d.p l.d.n l.d.c]).run Try.prog W1 = .ok (.slice s1.p s1.n s1.c) W2 := hrun1
  have o7 : W3.cell? ⟨P, 7, none⟩ = some (.slice p.lent.p p.lent.n p.lent.c) := (HP3.out.sm.oth).2.2.2.1
  obtain ⟨x0, x1, x2⟩ := row3 q1
  have HHW := hid h
  unfold boxL Sl.v at hW1
  unfold LM.agg Sl.v
  clear a1 h q1 hl hln hK hr hxy hrun1 hrun2 nw1 nw2 ap2 hs1 hs2 hcp
  go_enter Try.func34, Try.ntmps34
  go_upto_region 1 with fail
  rw [← hW1]
  clear hW1
  go_upto_region 3 with (at_builtin; refine wpList_append3 rfl (.const (.slice none 0 0)) (.tmp 15) 28 rfl _ _ rfl rfl _ _ hr1 ?_)
  go_upto_region 4 with (at_builtin; refine wpList_append3 rfl (.tmp 17) (.tmp 18) 28 rfl _ _ rfl rfl _ _ hr2 ?_)
  clear hr1 hr2 x0 x1 x2
  go_upto_if 27 with fail
  go_cut [6] from 24 to 37 (fun v wx => Sc wa W1 wx P p who v x l.d.n)
  case first =>
    by_cases hle : p.lent.n = l.d.n + 2
    · have hle' : p.lent.n = (⟨some ⟨g, 0, none⟩, l.d.n + 2, sc2⟩ : Sl).n := hle
      have hlz : ((p.lent.n : Int) = (l.d.n : Int) + 2) := by omega
      obtain ⟨k, W4, hpl, hrc, ow4, ap4⟩ := copy_over HP3.out.ln.o HN2.out.own hle' (by omega) (oneB _) 3
      have hwk : who k = some 3 := HP3.out.ln.t k (by unfold Sl.v; rw [hpl]; rfl)
      have HP4 := hid (HP3.out.lentW ap4 (fun j hj => by simp at hj; subst hj; exact hwk) (lnt x.b) ow4)
      have HFIN : Hid (Sc wa W1 W4 P p who (.slice (some ⟨k, 0, none⟩) (l.d.n + 2) p.lent.c) x l.d.n) := by
        have ht := HP3.out.ln.t
        have hpe : p.lent = ⟨some ⟨k, 0, none⟩, l.d.n + 2, p.lent.c⟩ := by
          generalize p.lent = q at *
          obtain ⟨qp, qn, qc⟩ := q
          dsimp only at *
          rw [hpl, hle]
        refine ⟨⟨k, p.lent.c, who, p.lent, lnt x.b, rfl, HP4.out, ?_, HS3.out.trans (Stp.row ap4 (fun j hj => by simp at hj; subst hj; left; rw [hwk]; simp))⟩⟩
        rw [hpe] at ow4 ht
        exact ⟨ow4, ht⟩
      have o7' : W4.cell? ⟨P, 7, none⟩ = some (.slice p.lent.p p.lent.n p.lent.c) := (HP4.out.sm.oth).2.2.2.1
      rw [hpl, hle] at o7 hrc o7'
      clear hle' hle hpl ow4 ap4 hwk
      go_upto_region 6 with (at_builtin; refine wpList_copy2 rfl (.tmp 31) (.tmp 32) 28 28 rfl _ _ rfl rfl _ _ hrc ?_)
      go_wp2_with fail
      go_meet
      exact HFIN.out
    · have hlz : ¬ ((p.lent.n : Int) = (l.d.n : Int) + 2) := by omega
      have HFIN : Hid (Sc wa W1 W3 P p who (.slice (some ⟨g, 0, none⟩) (l.d.n + 2) sc2) x l.d.n) := by
        have hgn : W1.heap.size ≤ g := HN2.out.new g rfl
        obtain ⟨h2, hw⟩ := HP3.out.tag (some g) 3 (fun k hk => by
          simp at hk; subst hk
          exact ⟨HH.out.free hgn, (HN2.out.own.lt _ rfl).2, Nat.le_trans HH.out.ap.size hgn⟩)
        refine ⟨⟨g, sc2, _, p.lent, p.lb, rfl, h2, ⟨HN2.out.own, fun k hk => whoP_at (by simpa [Sl.v, Value.ownBlock] using hk)⟩, ⟨hw, fun k s e => ?_, HS3.out.ap⟩⟩⟩
        exact (whoP_new e).elim (fun e => by
          have h1 : g = k := by simpa using e.1
          exact .inr (.inl (by omega))) .inl
      go_wp2_with fail
      go_meet
      exact HFIN.out
  obtain ⟨g1, cp, who1, s0, lb0, rfl, hPQ4, hOB4, hSt4⟩ := hcut.ex
  clear hcut
  have hsz4 : W1.heap.size ≤ wc.heap.size := by obtain ⟨X, aX, _⟩ := hSt4.ap; exact aX.size
  have hB4 := (hSt4.keeps HBL.out HB1.out).trans HQ1.out
  have hPw1 : who1 P = some 0 := hPQ4.sm.wS
  have hBw1 : who1 w.heap.size = none := hSt4.none' HBL.out HB1.out
  have hBP : w.heap.size ≠ P := fun e => by rw [e, hPw1] at hBw1; cases hBw1
  have hL4 : ReadsL wc l x := hSt4.reads HL1.out (fun A o e0 e => (HLN.out A o e0 e).1)
  have HLN1 : Hid (∀ A o, 0 < l.d.n → l.d.p = some ⟨A, o, none⟩ → who1 A = none ∧ A < wc.heap.size) := fun A o e0 e => ⟨hSt4.none' (HLN.out A o e0 e).2 (HLN.out A o e0 e).1, Nat.lt_of_lt_of_le (HLN.out A o e0 e).2 hsz4⟩
  have o7 : wc.cell? ⟨P, 7, none⟩ = some (.slice s0.p s0.n s0.c) := (hPQ4.sm.oth).2.2.2.1
  have f7 := (hPQ4.sm.oth).2.2.2.2.2 7
  obtain ⟨w5, hw5⟩ : ∃ w5, w5 = wc.setCell ⟨P, 7, none⟩ (.slice (some ⟨g1, 0, none⟩) (l.d.n + 2) cp) := ⟨_, rfl⟩
  obtain ⟨p5, hp5⟩ : ∃ p5 : Px, p5 = { p with lent := ⟨some ⟨g1, 0, none⟩, l.d.n + 2, cp⟩, lb := lnt x.b } := ⟨_, rfl⟩
  have hP5 : PQ wa w5 P p5 who1 p5.x.cof := by rw [hw5, hp5]; exact hPQ4.lend _ _ hOB4
  have a5 : Apart [P] wc w5 := by rw [hw5]; exact (Apart.refl [P] wc).setCell (by simp) _
  have hS5 : Stp wc w5 who1 who1 none := Stp.row a5 (fun k hk => by simp at hk; subst hk; left; rw [hPw1]; simp)
  have hB5 := (a5.block _ (lt_of_heap hB4) (by simpa using hBP)).trans hB4
  have HL5 : Hid (ReadsL w5 l x) := hS5.reads hL4 (fun A o e0 e => (HLN1.out A o e0 e).1)
  have HS5 : Hid (Stp W1 w5 who who1 none) := hSt4.trans hS5
  have HBw1 := hid hBw1
  have HP5 := hid hP5
  have HB5 := hid hB5
  have HSZ5 : Hid (wc.heap.size ≤ w5.heap.size) := a5.size
  have HEQ5 := hid hp5
  have hcp : l.d.n + 2 ≤ cp := own_cap hOB4.o
  clear hp5
  clear hPQ4 hOB4 hSt4 hB4 hL4 hPw1 hBw1 hBP hsz4 a5 hS5 hB5 hP5
  go_upto_region 8 with fail
  rw [← hw5]
  clear hw5 o7 f7
  have hPd := HP5.out.kept0 (Apart.refl [] w5).drew
  have hS : w5.drew.heap[w.heap.size]? = some (.cells #[.int .i64 l.f, .int .i64 l.t, .slice l.d.p l.d.n l.d.c] 30 (0, 0)) ∧ w5.drew.cell? ⟨P, 0, none⟩ = some (.pointer (some ⟨p5.b.g, 0, none⟩)) := ⟨HB5.out, (hPd.sm.oth).1⟩
  have hKp : Cb p5.c K := by rw [HEQ5.out]; exact HK.out
  have hrp : p5.room ≤ 256 := by rw [HEQ5.out]; exact HR.out
  have hcall := sendP hPd ⟨l.f, l.t, ⟨some ⟨g1, 0, none⟩, l.d.n, cp⟩⟩ x (lnt_reads (by have := hPd.ln.o; rw [HEQ5.out] at this; exact this) HL5.out) hKp hK2 hrp
  have HPD := hid hPd
  unfold LM.agg Sl.v at hcall
  clear hPd hKp hrp
  dsimp only at hcall
  refine wp_region_held_drew (S := fun X => X.heap[w.heap.size]? = some (.cells #[.int .i64 l.f, .int .i64 l.t, .slice l.d.p l.d.n l.d.c] 30 (0, 0)) ∧ X.cell? ⟨P, 0, none⟩ = some (.pointer (some ⟨p5.b.g, 0, none⟩))) (by kernel_rfl) hS (fun hHeld => ?_)
  refine wpAnyH_take (i := 0) (oi := ⟨some 42, _, _, _, _, _⟩) (v := (.pointer (some ⟨P, 0, none⟩))) rfl (by kernel_rfl) (by kernel_rfl) (by kernel_rfl) (fun _ _ _ h => h) (Or.inl ⟨by rfl, ?_⟩) (by assumption) ?_
  · intro W hSW; go_simp
  simp only [Act.put, List.setIfInBounds_toArray, List.set_cons_zero, List.set_cons_succ]
  refine wpAnyH_take (i := 1) (oi := ⟨some 43, _, _, _, _, _⟩) (v := (.pointer (some ⟨P, 0, none⟩))) rfl (by kernel_rfl) (by kernel_rfl) (by kernel_rfl) (fun _ _ _ h => h) (Or.inl ⟨by rfl, ?_⟩) (by assumption) ?_
  · intro W hSW; go_simp
  simp only [Act.put, List.setIfInBounds_toArray, List.set_cons_zero, List.set_cons_succ]
  refine wpAnyH_take (i := 2) (oi := ⟨some 44, _, _, _, _, _⟩) (v := (.pointer (some ⟨P, 0, none⟩))) rfl (by kernel_rfl) (by kernel_rfl) (by kernel_rfl) (fun _ _ _ h => h) (Or.inl ⟨by rfl, ?_⟩) (by assumption) ?_
  · intro W hSW; go_simp
  simp only [Act.put, List.setIfInBounds_toArray, List.set_cons_zero, List.set_cons_succ]
  refine wpAnyH_take (i := 3) (oi := ⟨some 45, _, _, _, _, _⟩) (v := (.pointer (some ⟨p5.b.g, 0, none⟩))) rfl (by kernel_rfl) (by kernel_rfl) (by kernel_rfl) (fun _ _ _ h => h) (Or.inl ⟨by rfl, ?_⟩) (by assumption) ?_
  · intro W hSW; obtain ⟨⟨u0, u1, u2⟩, u3⟩ := And.intro (row3 hSW.1) hSW.2; go_simp
  simp only [Act.put, List.setIfInBounds_toArray, List.set_cons_zero, List.set_cons_succ]
  refine wpAnyH_take (i := 4) (oi := ⟨some 46, _, _, _, _, _⟩) (v := (.pointer (some ⟨w.heap.size, 0, none⟩))) rfl (by kernel_rfl) (by kernel_rfl) (by kernel_rfl) (fun _ _ _ h => h) (Or.inl ⟨by rfl, ?_⟩) (by assumption) ?_
  · intro W hSW; go_simp
  simp only [Act.put, List.setIfInBounds_toArray, List.set_cons_zero, List.set_cons_succ]
  refine wpAnyH_take (i := 5) (oi := ⟨some 47, _, _, _, _, _⟩) (v := (.int .i64 l.f)) rfl (by kernel_rfl) (by kernel_rfl) (by kernel_rfl) (fun _ _ _ h => h) (Or.inl ⟨by rfl, ?_⟩) (by assumption) ?_
  · intro W hSW; obtain ⟨⟨u0, u1, u2⟩, u3⟩ := And.intro (row3 hSW.1) hSW.2; go_simp
  simp only [Act.put, List.setIfInBounds_toArray, List.set_cons_zero, List.set_cons_succ]
  refine wpAnyH_take (i := 6) (oi := ⟨some 48, _, _, _, _, _⟩) (v := (.pointer (some ⟨w.heap.size, 1, none⟩))) rfl (by kernel_rfl) (by kernel_rfl) (by kernel_rfl) (fun _ _ _ h => h) (Or.inl ⟨by rfl, ?_⟩) (by assumption) ?_
  · intro W hSW; go_simp
  simp only [Act.put, List.setIfInBounds_toArray, List.set_cons_zero, List.set_cons_succ]
  refine wpAnyH_take (i := 7) (oi := ⟨some 49, _, _, _, _, _⟩) (v := (.int .i64 l.t)) rfl (by kernel_rfl) (by kernel_rfl) (by kernel_rfl) (fun _ _ _ h => h) (Or.inl ⟨by rfl, ?_⟩) (by assumption) ?_
  · intro W hSW; obtain ⟨⟨u0, u1, u2⟩, u3⟩ := And.intro (row3 hSW.1) hSW.2; go_simp
  simp only [Act.put, List.setIfInBounds_toArray, List.set_cons_zero, List.set_cons_succ]
  refine wpAnyH_take (i := 8) (oi := ⟨some 50, _, _, _, _, _⟩) (v := (.slice (some ⟨g1, 0, none⟩) (l.d.n + 2) cp)) rfl (by kernel_rfl) (by kernel_rfl) (by kernel_rfl) (fun _ _ _ h => h) (Or.inl ⟨by rfl, ?_⟩) (by assumption) ?_
  · intro W hSW; go_simp
  simp only [Act.put, List.setIfInBounds_toArray, List.set_cons_zero, List.set_cons_succ]
  refine wpAnyH_take (i := 9) (oi := ⟨some 51, _, _, _, _, _⟩) (v := (.int .i64 (l.d.n : Int))) rfl (by kernel_rfl) (by kernel_rfl) (by kernel_rfl) (fun _ _ _ h => h) (Or.inl ⟨by rfl, ?_⟩) (by assumption) ?_
  · intro W hSW; go_simp
  simp only [Act.put, List.setIfInBounds_toArray, List.set_cons_zero, List.set_cons_succ]
  refine wpAnyH_take (i := 10) (oi := ⟨some 52, _, _, _, _, _⟩) (v := (.slice (some ⟨g1, 0, none⟩) l.d.n cp)) rfl (by kernel_rfl) (by kernel_rfl) (by kernel_rfl) (fun _ _ _ h => h) (Or.inl ⟨by rfl, ?_⟩) (by assumption) ?_
  · intro W hSW; go_simp <;> omega
  simp only [Act.put, List.setIfInBounds_toArray, List.set_cons_zero, List.set_cons_succ]
  refine wpAnyH_take (i := 11) (oi := ⟨some 53, _, _, _, _, _⟩) (v := (.agg #[.int .i64 l.f, .int .i64 l.t, .slice (some ⟨g1, 0, none⟩) l.d.n cp])) rfl (by kernel_rfl) (by kernel_rfl) (by kernel_rfl) (fun _ _ _ h => h) (Or.inl ⟨by rfl, ?_⟩) (by assumption) ?_
  · intro W hSW; go_simp
  simp only [Act.put, List.setIfInBounds_toArray, List.set_cons_zero, List.set_cons_succ]
  refine wpAnyH_ready (rs := [12]) (by kernel_rfl) (by simp) ?_
  refine AllReadyH.cons rfl (fun KK hKK => ?_) AllReadyH.nil
  go_simp
  refine hcall.mono ?_
  clear hcall
  rintro _ w6 hh
  obtain ⟨who2, d2, rfl, hPQ6, hSt6, hd6⟩ := hh.ex
  have hB6 := (hSt6.keeps (lt_of_heap hS.1) HBw1.out).trans hS.1
  have hP6c : w6.cell? ⟨P, 0, none⟩ = some (.pointer (some ⟨p5.b.g, 0, none⟩)) := by rw [← hd6]; exact (hPQ6.sm.oth).1
  obtain ⟨p6, hp6⟩ : ∃ p6 : Px, p6 = { p5 with b := d2, xs := sXs p5 x, c := sC p5 } := ⟨_, rfl⟩
  have HP6 : Hid (PQ wa w6 P p6 who2 p6.x.cof) := by rw [hp6]; exact hPQ6
  have HEQ6 := hid hp6
  have hst6' : Stp w5 w6 who1 who2 none := (Stp.ap0 (Apart.refl [] w5).drew).trans hSt6
  have HS6 : Hid (Stp W1 w6 who who2 none) := HS5.out.trans hst6'
  have hln5 : ∀ A o, 0 < l.d.n → l.d.p = some ⟨A, o, none⟩ → who1 A = none ∧ A < w5.heap.size := fun A o e0 e => ⟨(HLN1.out A o e0 e).1, Nat.lt_of_lt_of_le (HLN1.out A o e0 e).2 HSZ5.out⟩
  have HL6 : Hid (ReadsL w6 l x) := hst6'.reads HL5.out (fun A o e0 e => (hln5 A o e0 e).1)
  have HLN2 : Hid (∀ A o, 0 < l.d.n → l.d.p = some ⟨A, o, none⟩ → who2 A = none ∧ A < w6.heap.size) := fun A o e0 e => ⟨hst6'.none' (hln5 A o e0 e).2 (hln5 A o e0 e).1, Nat.lt_of_lt_of_le (hln5 A o e0 e).2 (by obtain ⟨X, aX, _⟩ := hst6'.ap; exact aX.size)⟩
  have HBw2 : Hid (who2 w.heap.size = none) := hSt6.none' (lt_of_heap hS.1) HBw1.out
  have HB6 := hid hB6
  have hSS : w6.heap[w.heap.size]? = some (.cells #[.int .i64 l.f, .int .i64 l.t, .slice l.d.p l.d.n l.d.c] 30 (0, 0)) ∧ w6.cell? ⟨P, 0, none⟩ = some (.pointer (some ⟨p5.b.g, 0, none⟩)) := ⟨hB6, hP6c⟩
  clear hPQ6 hSt6 hh hp6 hst6' hln5 hd6 hB6 hP6c
  try dsimp only
  refine hKK.out _ _ hSS (fun hHeld => ?_)
  clear hKK KK
  refine wpAnyH_take (i := 13) (oi := ⟨some 7, _, _, _, _, _⟩) (v := (.int .i64 (sCode p5))) rfl (by kernel_rfl) (by kernel_rfl) (by kernel_rfl) (fun _ _ _ h => h) (Or.inl ⟨by rfl, ?_⟩) (by assumption) ?_
  · intro W hSW; go_simp
  simp only [Act.put, List.setIfInBounds_toArray, List.set_cons_zero, List.set_cons_succ]
  refine wpAnyH_done (by kernel_rfl) ?_ _
  clear hSS hS
  go_upto_region 9 with fail
  have hPd := HP6.out.kept0 (Apart.refl [] w6).drew
  have hS : w6.drew.heap[w.heap.size]? = some (.cells #[.int .i64 l.f, .int .i64 l.t, .slice l.d.p l.d.n l.d.c] 30 (0, 0)) ∧ w6.drew.cell? ⟨P, 1, none⟩ = some (.pointer (some ⟨p6.r.g, 0, none⟩)) := ⟨HB6.out, (hPd.sm.oth).2.1⟩
  have hKp : Cb p5.c K := by rw [HEQ5.out]; exact HK.out
  have hrp : p6.room ≤ 256 := by rw [HEQ6.out, HEQ5.out]; exact HR.out
  have hL6d : ReadsL w6.drew l x := HL6.out.kept0 (Apart.refl [] w6).drew
  have hcall := rsendP (q := p5) hPd l x hL6d (fun A o e0 e => (HLN2.out A o e0 e).1) (by rw [HEQ6.out, HEQ5.out]; exact ⟨HXY.out.1, HXY.out.2, rfl⟩) hKp hK2 hrp
  unfold LM.agg Sl.v at hcall
  clear hPd hKp hrp hL6d
  try dsimp only at hcall
  refine wp_region_held_drew (S := fun X => X.heap[w.heap.size]? = some (.cells #[.int .i64 l.f, .int .i64 l.t, .slice l.d.p l.d.n l.d.c] 30 (0, 0)) ∧ X.cell? ⟨P, 1, none⟩ = some (.pointer (some ⟨p6.r.g, 0, none⟩))) (by kernel_rfl) hS (fun hHeld => ?_)
  refine wpAnyH_take (i := 0) (oi := ⟨some 55, _, _, _, _, _⟩) (v := (.pointer (some ⟨P, 0, none⟩))) rfl (by kernel_rfl) (by kernel_rfl) (by kernel_rfl) (fun _ _ _ h => h) (Or.inl ⟨by rfl, ?_⟩) (by assumption) ?_
  · intro W hSW; go_simp
  simp only [Act.put, List.setIfInBounds_toArray, List.set_cons_zero, List.set_cons_succ]
  refine wpAnyH_take (i := 1) (oi := ⟨some 56, _, _, _, _, _⟩) (v := (.pointer (some ⟨P, 0, none⟩))) rfl (by kernel_rfl) (by kernel_rfl) (by kernel_rfl) (fun _ _ _ h => h) (Or.inl ⟨by rfl, ?_⟩) (by assumption) ?_
  · intro W hSW; go_simp
  simp only [Act.put, List.setIfInBounds_toArray, List.set_cons_zero, List.set_cons_succ]
  refine wpAnyH_take (i := 2) (oi := ⟨some 57, _, _, _, _, _⟩) (v := (.pointer (some ⟨P, 1, none⟩))) rfl (by kernel_rfl) (by kernel_rfl) (by kernel_rfl) (fun _ _ _ h => h) (Or.inl ⟨by rfl, ?_⟩) (by assumption) ?_
  · intro W hSW; go_simp
  simp only [Act.put, List.setIfInBounds_toArray, List.set_cons_zero, List.set_cons_succ]
  refine wpAnyH_take (i := 3) (oi := ⟨some 58, _, _, _, _, _⟩) (v := (.pointer (some ⟨p6.r.g, 0, none⟩))) rfl (by kernel_rfl) (by kernel_rfl) (by kernel_rfl) (fun _ _ _ h => h) (Or.inl ⟨by rfl, ?_⟩) (by assumption) ?_
  · intro W hSW; obtain ⟨⟨u0, u1, u2⟩, u3⟩ := And.intro (row3 hSW.1) hSW.2; go_simp
  simp only [Act.put, List.setIfInBounds_toArray, List.set_cons_zero, List.set_cons_succ]
  refine wpAnyH_take (i := 4) (oi := ⟨some 59, _, _, _, _, _⟩) (v := (.agg #[.int .i64 l.f, .int .i64 l.t, .slice l.d.p l.d.n l.d.c])) rfl (by kernel_rfl) (by kernel_rfl) (by kernel_rfl) (fun _ _ _ h => h) (Or.inl ⟨by rfl, ?_⟩) (by assumption) ?_
  · intro W hSW; obtain ⟨⟨u0, u1, u2⟩, u3⟩ := And.intro (row3 hSW.1) hSW.2; go_simp
  simp only [Act.put, List.setIfInBounds_toArray, List.set_cons_zero, List.set_cons_succ]
  refine wpAnyH_ready (rs := [5]) (by kernel_rfl) (by simp) ?_
  refine AllReadyH.cons rfl (fun KK hKK => ?_) AllReadyH.nil
  go_simp
  refine hcall.mono ?_
  clear hcall
  rintro _ w7 hh
  obtain ⟨who3, d3, rfl, hPQ7, hSt7, hd7⟩ := hh.ex
  have hB7 := (hSt7.keeps (lt_of_heap hS.1) HBw2.out).trans hS.1
  have hP7c : w7.cell? ⟨P, 1, none⟩ = some (.pointer (some ⟨p6.r.g, 0, none⟩)) := by rw [← hd7]; exact (hPQ7.sm.oth).2.1
  obtain ⟨p7, hp7⟩ : ∃ p7 : Px, p7 = { p6 with r := d3, ys := sXs p5 x, e := sC p5 } := ⟨_, rfl⟩
  have HP7 : Hid (PQ wa w7 P p7 who3 p7.x.cof) := by rw [hp7]; exact hPQ7
  have HEQ7 := hid hp7
  have hst7' : Stp w6 w7 who2 who3 none := (Stp.ap0 (Apart.refl [] w6).drew).trans hSt7
  have HS7 : Hid (Stp W1 w7 who who3 none) := HS6.out.trans hst7'
  have HL7 : Hid (ReadsL w7 l x) := hst7'.reads HL6.out (fun A o e0 e => (HLN2.out A o e0 e).1)
  have HB7 := hid hB7
  have hSS : w7.heap[w.heap.size]? = some (.cells #[.int .i64 l.f, .int .i64 l.t, .slice l.d.p l.d.n l.d.c] 30 (0, 0)) ∧ w7.cell? ⟨P, 1, none⟩ = some (.pointer (some ⟨p6.r.g, 0, none⟩)) := ⟨hB7, hP7c⟩
  clear hPQ7 hSt7 hh hp7 hst7' hd7 hB7 hP7c
  try dsimp only
  refine hKK.out _ _ hSS (fun hHeld => ?_)
  clear hKK KK
  refine wpAnyH_take (i := 6) (oi := ⟨some 8, _, _, _, _, _⟩) (v := (.int .i64 (sCode p5))) rfl (by kernel_rfl) (by kernel_rfl) (by kernel_rfl) (fun _ _ _ h => h) (Or.inl ⟨by rfl, ?_⟩) (by assumption) ?_
  · intro W hSW; go_simp
  simp only [Act.put, List.setIfInBounds_toArray, List.set_cons_zero, List.set_cons_succ]
  refine wpAnyH_done (by kernel_rfl) ?_ _
  clear hSS hS
  go_upto_region 10 with fail
  have HO7 : Hid (OB w7 who3 3 ⟨some ⟨g1, 0, none⟩, l.d.n + 2, cp⟩ (byts (lnt x.b)) 5) := by have := HP7.out.ln; rw [HEQ7.out, HEQ6.out, HEQ5.out] at this; exact this
  have HW : Hid (∀ W, S10 W l x g1 cp w.heap.size → W.cell? ⟨g1, l.d.n, none⟩ = some (.int .u8 167) ∧ W.cell? ⟨g1, l.d.n + 1, none⟩ = some (.int .u8 182) ∧ W.cell? ⟨w.heap.size, 2, none⟩ = some (.slice l.d.p l.d.n l.d.c) ∧ Sem.run Try.prog (convert 28 9 (.slice (some ⟨g1, 0, none⟩) l.d.n cp)) W = .ok (.string (strB x.b)) W ∧ Sem.run Try.prog (convert 28 9 (.slice l.d.p l.d.n l.d.c)) W = .ok (.string (strB x.b)) W) := fun W h => s10_use h
  have hS : S10 w7.drew l x g1 cp w.heap.size := ⟨own_apart HO7.out.o (Apart.refl [] w7).drew (by simp), HL7.out.kept0 (Apart.refl [] w7).drew, HB7.out⟩
  refine wp_region_held_drew (S := fun X => S10 X l x g1 cp w.heap.size) (by kernel_rfl) hS (fun hHeld => ?_)
  refine wpAnyH_take (i := 0) (oi := ⟨some 61, _, _, _, _, _⟩) (v := (.slice (some ⟨g1, 0, none⟩) (l.d.n + 2) cp)) rfl (by kernel_rfl) (by kernel_rfl) (by kernel_rfl) (fun _ _ _ h => h) (Or.inl ⟨by rfl, ?_⟩) (by assumption) ?_
  · intro W hSW; go_simp
  simp only [Act.put, List.setIfInBounds_toArray, List.set_cons_zero, List.set_cons_succ]
  refine wpAnyH_take (i := 1) (oi := ⟨some 62, _, _, _, _, _⟩) (v := (.int .i64 (l.d.n : Int))) rfl (by kernel_rfl) (by kernel_rfl) (by kernel_rfl) (fun _ _ _ h => h) (Or.inl ⟨by rfl, ?_⟩) (by assumption) ?_
  · intro W hSW; go_simp
  simp only [Act.put, List.setIfInBounds_toArray, List.set_cons_zero, List.set_cons_succ]
  refine wpAnyH_take (i := 2) (oi := ⟨some 63, _, _, _, _, _⟩) (v := (.slice (some ⟨g1, 0, none⟩) l.d.n cp)) rfl (by kernel_rfl) (by kernel_rfl) (by kernel_rfl) (fun _ _ _ h => h) (Or.inl ⟨by rfl, ?_⟩) (by assumption) ?_
  · intro W hSW; go_simp <;> omega
  simp only [Act.put, List.setIfInBounds_toArray, List.set_cons_zero, List.set_cons_succ]
  refine wpAnyH_take (i := 3) (oi := ⟨some 64, _, _, _, _, _⟩) (v := (.string (strB x.b))) rfl (by kernel_rfl) (by kernel_rfl) (by kernel_rfl) (fun _ _ _ h => h) (Or.inl ⟨by rfl, ?_⟩) (by assumption) ?_
  · intro W hSW; obtain ⟨v1, v2, v3, v4, v5⟩ := HW.out W hSW; go_simp
  simp only [Act.put, List.setIfInBounds_toArray, List.set_cons_zero, List.set_cons_succ]
  refine wpAnyH_take (i := 4) (oi := ⟨some 65, _, _, _, _, _⟩) (v := (.pointer (some ⟨w.heap.size, 2, none⟩))) rfl (by kernel_rfl) (by kernel_rfl) (by kernel_rfl) (fun _ _ _ h => h) (Or.inl ⟨by rfl, ?_⟩) (by assumption) ?_
  · intro W hSW; go_simp
  simp only [Act.put, List.setIfInBounds_toArray, List.set_cons_zero, List.set_cons_succ]
  refine wpAnyH_take (i := 5) (oi := ⟨some 66, _, _, _, _, _⟩) (v := (.slice l.d.p l.d.n l.d.c)) rfl (by kernel_rfl) (by kernel_rfl) (by kernel_rfl) (fun _ _ _ h => h) (Or.inl ⟨by rfl, ?_⟩) (by assumption) ?_
  · intro W hSW; obtain ⟨v1, v2, v3, v4, v5⟩ := HW.out W hSW; go_simp
  simp only [Act.put, List.setIfInBounds_toArray, List.set_cons_zero, List.set_cons_succ]
  refine wpAnyH_take (i := 6) (oi := ⟨some 67, _, _, _, _, _⟩) (v := (.string (strB x.b))) rfl (by kernel_rfl) (by kernel_rfl) (by kernel_rfl) (fun _ _ _ h => h) (Or.inl ⟨by rfl, ?_⟩) (by assumption) ?_
  · intro W hSW; obtain ⟨v1, v2, v3, v4, v5⟩ := HW.out W hSW; go_simp
  simp only [Act.put, List.setIfInBounds_toArray, List.set_cons_zero, List.set_cons_succ]
  refine wpAnyH_take (i := 7) (oi := ⟨some 68, _, _, _, _, _⟩) (v := (.bool true)) rfl (by kernel_rfl) (by kernel_rfl) (by kernel_rfl) (fun _ _ _ h => h) (Or.inl ⟨by rfl, ?_⟩) (by assumption) ?_
  · intro W hSW; go_simp
  simp only [Act.put, List.setIfInBounds_toArray, List.set_cons_zero, List.set_cons_succ]
  refine wpAnyH_take (i := 8) (oi := ⟨some 69, _, _, _, _, _⟩) (v := (.bool true)) rfl (by kernel_rfl) (by kernel_rfl) (by kernel_rfl) (fun _ _ _ h => h) (Or.inl ⟨by rfl, ?_⟩) (by assumption) ?_
  · intro W hSW; go_simp
  simp only [Act.put, List.setIfInBounds_toArray, List.set_cons_zero, List.set_cons_succ]
  refine wpAnyH_take (i := 9) (oi := ⟨some 70, _, _, _, _, _⟩) (v := (.slice (some ⟨g1, 0, none⟩) (l.d.n + 2) cp)) rfl (by kernel_rfl) (by kernel_rfl) (by kernel_rfl) (fun _ _ _ h => h) (Or.inl ⟨by rfl, ?_⟩) (by assumption) ?_
  · intro W hSW; go_simp
  simp only [Act.put, List.setIfInBounds_toArray, List.set_cons_zero, List.set_cons_succ]
  refine wpAnyH_take (i := 10) (oi := ⟨some 71, _, _, _, _, _⟩) (v := (.int .i64 (l.d.n : Int))) rfl (by kernel_rfl) (by kernel_rfl) (by kernel_rfl) (fun _ _ _ h => h) (Or.inl ⟨by rfl, ?_⟩) (by assumption) ?_
  · intro W hSW; go_simp
  simp only [Act.put, List.setIfInBounds_toArray, List.set_cons_zero, List.set_cons_succ]
  refine wpAnyH_take (i := 11) (oi := ⟨some 72, _, _, _, _, _⟩) (v := (.pointer (some ⟨g1, l.d.n, none⟩))) rfl (by kernel_rfl) (by kernel_rfl) (by kernel_rfl) (fun _ _ _ h => h) (Or.inl ⟨by rfl, ?_⟩) (by assumption) ?_
  · intro W hSW; go_simp <;> omega
  simp only [Act.put, List.setIfInBounds_toArray, List.set_cons_zero, List.set_cons_succ]
  refine wpAnyH_take (i := 12) (oi := ⟨some 73, _, _, _, _, _⟩) (v := (.int .u8 167)) rfl (by kernel_rfl) (by kernel_rfl) (by kernel_rfl) (fun _ _ _ h => h) (Or.inl ⟨by rfl, ?_⟩) (by assumption) ?_
  · intro W hSW; obtain ⟨v1, v2, v3, v4, v5⟩ := HW.out W hSW; go_simp
  simp only [Act.put, List.setIfInBounds_toArray, List.set_cons_zero, List.set_cons_succ]
  refine wpAnyH_take (i := 13) (oi := ⟨some 74, _, _, _, _, _⟩) (v := (.bool true)) rfl (by kernel_rfl) (by kernel_rfl) (by kernel_rfl) (fun _ _ _ h => h) (Or.inl ⟨by rfl, ?_⟩) (by assumption) ?_
  · intro W hSW; go_simp
  simp only [Act.put, List.setIfInBounds_toArray, List.set_cons_zero, List.set_cons_succ]
  refine wpAnyH_take (i := 14) (oi := ⟨some 75, _, _, _, _, _⟩) (v := (.bool true)) rfl (by kernel_rfl) (by kernel_rfl) (by kernel_rfl) (fun _ _ _ h => h) (Or.inl ⟨by rfl, ?_⟩) (by assumption) ?_
  · intro W hSW; go_simp
  simp only [Act.put, List.setIfInBounds_toArray, List.set_cons_zero, List.set_cons_succ]
  refine wpAnyH_take (i := 15) (oi := ⟨some 76, _, _, _, _, _⟩) (v := (.bool true)) rfl (by kernel_rfl) (by kernel_rfl) (by kernel_rfl) (fun _ _ _ h => h) (Or.inl ⟨by rfl, ?_⟩) (by assumption) ?_
  · intro W hSW; go_simp
  simp only [Act.put, List.setIfInBounds_toArray, List.set_cons_zero, List.set_cons_succ]
  refine wpAnyH_take (i := 16) (oi := ⟨some 77, _, _, _, _, _⟩) (v := (.slice (some ⟨g1, 0, none⟩) (l.d.n + 2) cp)) rfl (by kernel_rfl) (by kernel_rfl) (by kernel_rfl) (fun _ _ _ h => h) (Or.inl ⟨by rfl, ?_⟩) (by assumption) ?_
  · intro W hSW; go_simp
  simp only [Act.put, List.setIfInBounds_toArray, List.set_cons_zero, List.set_cons_succ]
  refine wpAnyH_take (i := 17) (oi := ⟨some 78, _, _, _, _, _⟩) (v := (.int .i64 (l.d.n : Int))) rfl (by kernel_rfl) (by kernel_rfl) (by kernel_rfl) (fun _ _ _ h => h) (Or.inl ⟨by rfl, ?_⟩) (by assumption) ?_
  · intro W hSW; go_simp
  simp only [Act.put, List.setIfInBounds_toArray, List.set_cons_zero, List.set_cons_succ]
  refine wpAnyH_take (i := 18) (oi := ⟨some 79, _, _, _, _, _⟩) (v := (.int .i64 ((l.d.n : Int) + 1))) rfl (by kernel_rfl) (by kernel_rfl) (by kernel_rfl) (fun _ _ _ h => h) (Or.inl ⟨by rfl, ?_⟩) (by assumption) ?_
  · intro W hSW; go_simp <;> (first | go_num | (rw [IntKind.wrap_i64]; omega))
  simp only [Act.put, List.setIfInBounds_toArray, List.set_cons_zero, List.set_cons_succ]
  refine wpAnyH_take (i := 19) (oi := ⟨some 80, _, _, _, _, _⟩) (v := (.pointer (some ⟨g1, l.d.n + 1, none⟩))) rfl (by kernel_rfl) (by kernel_rfl) (by kernel_rfl) (fun _ _ _ h => h) (Or.inl ⟨by rfl, ?_⟩) (by assumption) ?_
  · intro W hSW; go_simp <;> omega
  simp only [Act.put, List.setIfInBounds_toArray, List.set_cons_zero, List.set_cons_succ]
  refine wpAnyH_take (i := 20) (oi := ⟨some 81, _, _, _, _, _⟩) (v := (.int .u8 182)) rfl (by kernel_rfl) (by kernel_rfl) (by kernel_rfl) (fun _ _ _ h => h) (Or.inl ⟨by rfl, ?_⟩) (by assumption) ?_
  · intro W hSW; obtain ⟨v1, v2, v3, v4, v5⟩ := HW.out W hSW; go_simp
  simp only [Act.put, List.setIfInBounds_toArray, List.set_cons_zero, List.set_cons_succ]
  refine wpAnyH_take (i := 21) (oi := ⟨some 82, _, _, _, _, _⟩) (v := (.bool true)) rfl (by kernel_rfl) (by kernel_rfl) (by kernel_rfl) (fun _ _ _ h => h) (Or.inl ⟨by rfl, ?_⟩) (by assumption) ?_
  · intro W hSW; go_simp
  simp only [Act.put, List.setIfInBounds_toArray, List.set_cons_zero, List.set_cons_succ]
  refine wpAnyH_take (i := 22) (oi := ⟨some 83, _, _, _, _, _⟩) (v := (.bool true)) rfl (by kernel_rfl) (by kernel_rfl) (by kernel_rfl) (fun _ _ _ h => h) (Or.inl ⟨by rfl, ?_⟩) (by assumption) ?_
  · intro W hSW; go_simp
  simp only [Act.put, List.setIfInBounds_toArray, List.set_cons_zero, List.set_cons_succ]
  refine wpAnyH_take (i := 23) (oi := ⟨some 9, _, _, _, _, _⟩) (v := (.bool true)) rfl (by kernel_rfl) (by kernel_rfl) (by kernel_rfl) (fun _ _ _ h => h) (Or.inl ⟨by rfl, ?_⟩) (by assumption) ?_
  · intro W hSW; go_simp
  simp only [Act.put, List.setIfInBounds_toArray, List.set_cons_zero, List.set_cons_succ]
  refine wpAnyH_done (by kernel_rfl) ?_ _
  clear hS HW
  have HLT : Hid (p7.lent = ⟨some ⟨g1, 0, none⟩, l.d.n + 2, cp⟩) := by show _ = _; rw [HEQ7.out, HEQ6.out, HEQ5.out]
  have HOT : Hid (who3 g1 = some 3) := HO7.out.t g1 rfl
  go_wp2_with fail
  go_loopw [10] (fun v wr => ∃ i : Nat, v = .int .i64 (i : Nat) ∧ i ≤ l.d.n + 2 ∧ SnL wa W1 wr P p7 who who3) (fun v _ => l.d.n + 2 - (intOf v).toNat)
  case atStart => exact ⟨0, rfl, Nat.zero_le _, ⟨p7.lb, HP7.out.kept0 (Apart.refl [] w7).drew, HS7.out.trans (Stp.ap0 (Apart.refl [] w7).drew)⟩⟩
  case round =>
    obtain ⟨i, rfl, hi, hL⟩ := hrel
    by_cases hlt : i < l.d.n + 2
    · have hz : ((i : Nat) : Int) < (l.d.n : Int) + 2 := by omega
      obtain ⟨lb, hPr, hSr⟩ := hL.ex
      have ow := hPr.ln.o
      dsimp only at ow
      rw [HLT.out] at ow
      obtain ⟨y, cg, fg⟩ := own_cell_fz ow i hlt
      obtain ⟨m8, hm8⟩ : ∃ m8 : Nat, m8 = (50 + i) % 256 := ⟨_, rfl⟩
      have hum : IntKind.u8.wrap (50 + (i : Int)) = (m8 : Int) := by rw [hm8, ← u8m (50 + i)]; simp
      have HE : Hid (SnL wa W1 (wr.setCell ⟨g1, i, none⟩ (.int .u8 (m8 : Int))) P p7 who who3) := by
        have a9 : Apart [g1] wr (wr.setCell ⟨g1, i, none⟩ (.int .u8 (m8 : Int))) := (Apart.refl [g1] wr).setCell (by simp) _
        refine ⟨lb.set i m8, hPr.lentW a9 (fun k hk => by simp at hk; subst hk; exact HOT.out) _ ?_, hSr.trans (Stp.row a9 (fun k hk => by simp at hk; subst hk; left; rw [HOT.out]; simp))⟩
        dsimp only
        rw [HLT.out]
        have := (ow.stored i (.int .u8 (m8 : Int))).1
        rw [byts_set]
        exact this
      clear hPr hSr ow hL hm8
      go_wp2_with fail
      go_roundw
      case rel => exact ⟨i + 1, by go_num, by omega, HE.out⟩
      case measure => simp [intOf]; omega
    · have hz : ¬ ((i : Nat) : Int) < (l.d.n : Int) + 2 := by omega
      have HL := hid hL
      clear hL
      go_wp2_with fail
      refine (num_ok _ wr).mono ?_
      rintro _ w9 ⟨rfl, rfl⟩
      try dsimp only
      go_wp2
      go_ret
      obtain ⟨lb, hPr, hSr⟩ := HL.out.ex
      have hx7 : p7.x = p.x := by rw [HEQ7.out, HEQ6.out, HEQ5.out]
      refine ⟨rfl, ⟨who3, { p7 with lb := lb }, by rw [← hx7]; exact hPr, ?_, ?_, hx7, ?_, ?_, ?_, ?_, HS1.out.trans hSr⟩⟩
      · show p7.ys = p7.xs; rw [HEQ7.out, HEQ6.out]
      · show p7.e = p7.c; rw [HEQ7.out, HEQ6.out]
      · show p7.mark = p.mark; rw [HEQ7.out, HEQ6.out, HEQ5.out]
      · show p7.turns = p.turns; rw [HEQ7.out, HEQ6.out, HEQ5.out]
      · show p7.room = p.room; rw [HEQ7.out, HEQ6.out, HEQ5.out]
      · show Cb p7.c (K + 1); rw [HEQ7.out, HEQ6.out]; exact sC_cb (by rw [HEQ5.out]; exact HK.out)
end Go.Proofs.Ytiakcfjbnlibfaa.nt
