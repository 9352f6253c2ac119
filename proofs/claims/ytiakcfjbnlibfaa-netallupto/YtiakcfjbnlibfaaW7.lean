import Derived.Test.YtiakcfjbnlibfaaW6
namespace Go.Proofs.Ytiakcfjbnlibfaa.nt
open Go.ChangeShapes Go.WideShapes Go.ChangeAt Go.RowKit
set_option linter.unusedVariables false
set_option linter.unusedSimpArgs false
theorem Stp.weak {w w' : World} {who who' : Nat → Option Nat} (q : Option Nat) (h : Stp w w' who who' none) : Stp w w' who who' q := by
  obtain ⟨X, a, hX⟩ := h.ap
  exact ⟨h.old, fun k s e => (h.new k s e).imp id (fun e => e.elim .inl (fun e => by cases e)), X, a, fun k hk => (hX k hk).imp id (fun e => e.elim .inl (fun e => by cases e))⟩
structure LEPost (wa w w' : World) (P : Nat) (p : Px) (who : Nat → Option Nat) (l : LM) : Prop where
  ex : ∃ who', PQ wa w' P { p with turns := p.turns + 1, mark := p.mark + 1, x := { p.x with kb := push6 p.x.kb (l.d, p.mark + 1) } } who' (Sx.cof { p.x with kb := push6 p.x.kb (l.d, p.mark + 1) }) ∧ Stp w w' who who' l.d.v.ownBlock
theorem cof_kb (x : Sx) (e : Sl × Nat) (f : Nat) (hf : f ∈ fs) : updC (updC x.cof 2 (push6 (x.cof 2) (.slice e.1.p e.1.n e.1.c))) 5 (push6 (x.cof 5) (.int .i64 (e.2 : Int))) f = Sx.cof { x with kb := push6 x.kb e } f := by
  have h3 : push6 (x.kb.map (fun e => e.1.v)) (.slice e.1.p e.1.n e.1.c) = (push6 x.kb e).map (fun e => e.1.v) := push6_map (fun e : Sl × Nat => e.1.v) x.kb e
  have h6 : push6 (x.kb.map (fun e => Value.int .i64 (e.2 : Int))) (.int .i64 (e.2 : Int)) = (push6 x.kb e).map (fun e => .int .i64 (e.2 : Int)) := push6_map (fun e : Sl × Nat => Value.int .i64 (e.2 : Int)) x.kb e
  simp only [fs, List.mem_cons, List.not_mem_nil, or_false] at hf
  rcases hf with rfl | rfl | rfl | rfl | rfl | rfl | rfl | rfl <;> simp [updC, Sx.cof, h3, h6]
/-- the answer is kept, not yet tagged -/
structure LE1 (wa w wx : World) (P : Nat) (p : Px) (who who7 : Nat → Option Nat) (B : Nat) (lf lt : Int) (s : Sl) (m8 : Nat) (m : LM) : Prop where
  pq : PQ wa wx P { p with turns := p.turns + 1, mark := p.mark + 1 } who7 (Sx.cof { p.x with kb := push6 p.x.kb (s, p.mark + 1) })
  b1 : wx.heap[B]? = some (.cells #[.int .i64 lf, .int .i64 lt, .slice s.p s.n s.c] 30 (0, 0))
  b2 : wx.heap[B + 1]? = some (.cells #[.int .i64 m.f, .int .i64 m.t, .slice m.d.p m.d.n m.d.c] 30 (0, 0))
  ow : wx.ownsRow 0 5 1 s.v s.n (List.replicate s.n (.int .u8 (m8 : Int)))
  st : Stp w wx who who7 s.v.ownBlock
theorem le1_of {wa w w8 wx : World} {P : Nat} {p : Px} {who who7 : Nat → Option Nat} {B : Nat} {lf lt : Int} {s : Sl} {m8 : Nat} {m : LM} {L : Nat → List Value} (hPQ : PQ wa wx P { p with turns := p.turns + 1, mark := p.mark + 1 } who7 L) (hL : ∀ f, f ∈ fs → L f = Sx.cof { p.x with kb := push6 p.x.kb (s, p.mark + 1) } f) (a : Apart [P] w8 wx) (hP : who7 P = some 0) (hB : who7 B = none) (hB2 : who7 (B + 1) = none)
    (b1 : w8.heap[B]? = some (.cells #[.int .i64 lf, .int .i64 lt, .slice s.p s.n s.c] 30 (0, 0))) (b2 : w8.heap[B + 1]? = some (.cells #[.int .i64 m.f, .int .i64 m.t, .slice m.d.p m.d.n m.d.c] 30 (0, 0))) (ow : w8.ownsRow 0 5 1 s.v s.n (List.replicate s.n (.int .u8 (m8 : Int)))) (hs : ∀ k, s.v.ownBlock = some k → who7 k = none) (st : Stp w w8 who who7 s.v.ownBlock) : LE1 wa w wx P p who who7 B lf lt s m8 m := by
  have hne : ∀ k, who7 k = none → k ∉ [P] := fun k hk hm => by simp at hm; subst hm; rw [hP] at hk; cases hk
  exact ⟨hPQ.congr hL, (a.block _ (lt_of_heap b1) (hne B hB)).trans b1, (a.block _ (lt_of_heap b2) (hne _ hB2)).trans b2, own_apart ow a (fun k hk => hne k (hs k hk)), st.trans (Stp.row a (fun k hk => by simp at hk; subst hk; left; rw [hP]; simp))⟩
theorem le_fin {wa w wc wr : World} {P : Nat} {p : Px} {who who7 : Nat → Option Nat} {B : Nat} {lf lt : Int} {s : Sl} {m8 : Nat} {m : LM} (h : LE1 wa w wc P p who who7 B lf lt s m8 m) (a : Apart s.v.ownBlock.toList wc wr) (ow : wr.ownsRow 0 5 1 s.v s.n (List.replicate s.n (.int .u8 (m8 : Int)))) (hs : ∀ k, s.v.ownBlock = some k → who7 k = none) (hlo : ∀ k, s.v.ownBlock = some k → wa.heap.size ≤ k) (hm8 : m8 = (p.mark + 1) % 256) : LEPost wa w wr P p who ⟨lf, lt, s⟩ := by
  have h1 := h.pq.keptN a (fun k hk => hs k (by simpa using hk)) (fun k hk => hlo k (by simpa using hk))
  obtain ⟨h2, hw⟩ := h1.tag s.v.ownBlock 30 (fun k hk => ⟨hs k hk, (ow.lt k hk).2, hlo k hk⟩)
  refine ⟨⟨_, h2.setX _ ⟨fun e he => ?_, h2.an.ki, h2.an.lf, h2.an.nm⟩, (h.st.trans (Stp.row a (fun k hk => .inr (.inr (by simpa using hk))))).trans (Stp.tag hw)⟩⟩
  rcases push6_mem he with h3 | rfl
  · exact h2.an.kb e h3
  · exact ⟨by rw [hm8] at ow; exact ow, fun k hk => whoP_at hk⟩
set_option maxHeartbeats 8000000 in
set_option maxRecDepth 100000 in
theorem letter_even {wa w : World} {P : Nat} {p : Px} {who : Nat → Option Nat} (h : PQ wa w P p who p.x.cof) (l : LM) (x : Tx) (hl : OwnL w l x) (hfree : ∀ k, l.d.v.ownBlock = some k → who k = none ∧ wa.heap.size ≤ k) (m : LM) (hm : ReadsL w m x) (e : Int) (hodd : p.turns % 2 = 1) (hb : p.turns ≤ 100000) (hmk : p.mark ≤ 100000) (hkb : p.x.kb.length ≤ 6) :
    Calls Try.prog 36 #[.pointer (some ⟨P, 0, none⟩), l.agg, .int .i64 e, m.agg, .int .i64 e] w fun r w' => r = .returned (.bool true) ∧ LEPost wa w w' P p who l := by
  obtain ⟨W1, hW1⟩ : ∃ W1, W1 = (w.alloc (boxL l)).alloc (boxL m) := ⟨_, rfl⟩
  have a1 : Apart [] w W1 := by rw [hW1]; exact ((Apart.refl [] w).alloc _).alloc _
  have q1 : W1.heap[w.heap.size]? = some (.cells #[.int .i64 l.f, .int .i64 l.t, .slice l.d.p l.d.n l.d.c] 30 (0, 0)) := by rw [hW1, Below.heap_alloc _ _ _ (by simp)]; exact heap_alloc_new w (boxL l)
  have q2 : W1.heap[w.heap.size + 1]? = some (.cells #[.int .i64 m.f, .int .i64 m.t, .slice m.d.p m.d.n m.d.c] 30 (0, 0)) := by
    have := heap_alloc_new (w.alloc (boxL l)) (boxL m)
    rw [hW1]
    have e1 : (w.alloc (boxL l)).heap.size = w.heap.size + 1 := by simp
    rw [e1] at this
    exact this
  have hAl := alike_yes l m x W1 (hl.reads.kept0 a1) (hm.kept0 a1)
  have HH := hid (h.kept0 a1)
  have HL := hid (hl.kept0 a1)
  have HF := hid hfree
  have HA1 := hid a1
  have HQ1 := hid q1
  have HQ2 := hid q2
  have HLK := hid (fun k (hk : l.d.v.ownBlock = some k) => (hl.d.lt k hk).2)
  have hB1 : Hid (who w.heap.size = none) := h.free (Nat.le_refl _)
  have hB2 : Hid (who (w.heap.size + 1) = none) := h.free (by omega)
  have hdn := hl.dn
  have hdl := hl.dl
  have HMD := hid (And.intro hm.dn hm.dl)
  obtain ⟨x0, x1, x2⟩ := row3 q1
  obtain ⟨y0, y1, y2⟩ := row3 q2
  unfold boxL Sl.v at hW1
  unfold LM.agg Sl.v at hAl ⊢
  clear a1 q1 q2 h hl hm hfree
  go_enter Try.func36, Try.ntmps36
  go_upto_region 1 with fail
  rw [← hW1]
  clear hW1
  go_wp2_with fail
  refine (num_ok e W1).mono ?_
  rintro _ W1 ⟨rfl, rfl⟩
  dsimp only
  go_wp2_with fail
  refine hAl.mono ?_
  clear hAl x0 x1 x2 y0 y1 y2
  rintro _ w2 ⟨rfl, a2⟩
  have HP2 := hid (HH.out.kept0 a2)
  have HL2 := hid (HL.out.kept0 a2)
  have HS2 : Hid (Stp w w2 who who l.d.v.ownBlock) := Stp.ap0 (HA1.out.trans a2)
  have HR1 := hid ((a2.block _ (lt_of_heap HQ1.out) (by simp)).trans HQ1.out)
  have HR2 := hid ((a2.block _ (lt_of_heap HQ2.out) (by simp)).trans HQ2.out)
  have o12 : w2.cell? ⟨P, 12, none⟩ = some (.int .i64 (p.turns : Int)) := (HP2.out.sm.oth).2.2.2.2.1
  have f12 := (HP2.out.sm.oth).2.2.2.2.2 12
  obtain ⟨w3, hw3⟩ : ∃ w3, w3 = w2.setCell ⟨P, 12, none⟩ (.int .i64 ((p.turns : Int) + 1)) := ⟨_, rfl⟩
  have HP3 : Hid (PQ wa w3 P { p with turns := p.turns + 1 } who p.x.cof) := by rw [hw3]; exact HP2.out.turn (p.turns + 1)
  have a3 : Apart [P] w2 w3 := by rw [hw3]; exact (Apart.refl [P] w2).setCell (by simp) _
  have hPw : who P = some 0 := HP2.out.sm.wS
  have HL3 : Hid (OwnL w3 l x) := { HL2.out with d := own_apart HL2.out.d a3 (fun k hk hm => by simp at hm; subst hm; have := (HF.out _ hk).1; rw [hPw] at this; cases this) }
  have HS3 : Hid (Stp w w3 who who l.d.v.ownBlock) := HS2.out.trans (Stp.row a3 (fun k hk => by simp at hk; subst hk; left; rw [hPw]; simp))
  have HB1 := hid ((a3.block _ (lt_of_heap HR1.out) (fun m => by simp at m; have := hB1.out; rw [m, hPw] at this; cases this)).trans HR1.out)
  have HB2 := hid ((a3.block _ (lt_of_heap HR2.out) (fun m => by simp at m; have := hB2.out; rw [m, hPw] at this; cases this)).trans HR2.out)
  have o12' : w3.cell? ⟨P, 12, none⟩ = some (.int .i64 ((p.turns : Int) + 1)) := (HP3.out.sm.oth).2.2.2.2.1
  clear a2 a3 hPw
  dsimp only
  go_upto_region 3 with fail
  rw [← hw3]
  clear hw3 o12 f12
  have htm : ((p.turns : Int) + 1).tmod 2 = 0 := by rw [Int.tmod_eq_emod_of_nonneg (by omega)]; omega
  obtain ⟨m8, hm8⟩ : ∃ m8 : Nat, m8 = (p.mark + 1) % 256 := ⟨_, rfl⟩
  have hum : IntKind.u8.wrap ((p.mark : Int) + 1) = (m8 : Int) := by rw [hm8]; exact u8m (p.mark + 1)
  have HM8 := hid hm8
  clear hm8
  obtain ⟨lf, lt, lp, ln, lc⟩ := l
  dsimp only at hdn hdl HL3 HF HLK HS3 HB1
  generalize hBe : w.heap.size = B at *
  have c4 : w3.cell? ⟨P, 4, none⟩ = some (.int .i64 (p.mark : Int)) := (HP3.out.sm.oth).2.2.1
  have f4 := (HP3.out.sm.oth).2.2.2.2.2 4
  obtain ⟨w4, hw4⟩ : ∃ w4, w4 = w3.setCell ⟨P, 4, none⟩ (.int .i64 ((p.mark : Int) + 1)) := ⟨_, rfl⟩
  have HP4 : Hid (PQ wa w4 P { p with turns := p.turns + 1, mark := p.mark + 1 } who p.x.cof) := by rw [hw4]; exact HP3.out.mark (p.mark + 1)
  have a4 : Apart [P] w3 w4 := by rw [hw4]; exact (Apart.refl [P] w3).setCell (by simp) _
  have hPw : who P = some 0 := HP3.out.sm.wS
  have HO4 : Hid (w4.ownsRow 0 5 1 (.slice lp ln lc) ln (byts x.b)) := own_apart HL3.out.d a4 (fun k hk hm => by simp at hm; subst hm; have := (HF.out _ hk).1; rw [hPw] at this; cases this)
  have HS4 : Hid (Stp w w4 who who (⟨lp, ln, lc⟩ : Sl).v.ownBlock) := HS3.out.trans (Stp.row a4 (fun k hk => by simp at hk; subst hk; left; rw [hPw]; simp))
  have HC1 := hid ((a4.block _ (lt_of_heap HB1.out) (fun m => by simp at m; have := hB1.out; rw [m, hPw] at this; cases this)).trans HB1.out)
  have HC2 := hid ((a4.block _ (lt_of_heap HB2.out) (fun m => by simp at m; have := hB2.out; rw [m, hPw] at this; cases this)).trans HB2.out)
  have hbl : (byts x.b).length = ln := by simp [byts]; exact hdn
  have HBL := hid hbl
  clear a4 hPw hbl
  go_upto_region 8 with fail
  rw [← hw4]
  clear hw4 c4 f4
  go_wp2_with fail
  go_loopw [12] (fun v wr => ∃ k : Nat, v = .int .i64 (k : Nat) ∧ k ≤ ln ∧ PQ wa wr P { p with turns := p.turns + 1, mark := p.mark + 1 } who p.x.cof ∧ wr.ownsRow 0 5 1 (.slice lp ln lc) ln (List.replicate k (.int .u8 (m8 : Int)) ++ (byts x.b).drop k) ∧ Stp w wr who who (⟨lp, ln, lc⟩ : Sl).v.ownBlock ∧ wr.heap[B]? = some (.cells #[.int .i64 lf, .int .i64 lt, .slice lp ln lc] 30 (0, 0)) ∧ wr.heap[B + 1]? = some (.cells #[.int .i64 m.f, .int .i64 m.t, .slice m.d.p m.d.n m.d.c] 30 (0, 0))) (fun v _ => ln - (intOf v).toNat)
  case atStart => exact ⟨0, rfl, Nat.zero_le _, HP4.out, by simpa using HO4.out, HS4.out, HC1.out, HC2.out⟩
  case round =>
    obtain ⟨k, rfl, hk, hPr, hOr, hSr, hBr, hCr⟩ := hrel
    have HPr := hid hPr
    have HOr := hid hOr
    have HSr := hid hSr
    have HBr := hid hBr
    have HCr := hid hCr
    obtain ⟨b0, b1, b2⟩ := row3 hBr
    clear hPr hOr hSr hBr hCr HP4 HO4 HS4 HC1 HC2
    by_cases hlt : k < ln
    · obtain ⟨g, hg⟩ : ∃ g, lp = some ⟨g, 0, none⟩ := by
        obtain ⟨_, ⟨hv, hz⟩ | ⟨g, cap, cur, hv, _⟩⟩ := HOr.out
        · omega
        · simp at hv; exact ⟨g, hv.1⟩
      subst hg
      have hlen : (List.replicate k (.int .u8 (m8 : Int)) ++ (byts x.b).drop k : List Value).length = ln := by simp [HBL.out]; omega
      have hgw : who g = none ∧ wa.heap.size ≤ g := HF.out g rfl
      have hgB : g < B := HLK.out g rfl
      have HPd := hid (HPr.out.kept0 (Apart.refl [] wr).drew)
      have hOd := own_apart HOr.out (Apart.refl [] wr).drew (by simp)
      have cg : ∃ y, wr.drew.cell? ⟨g, k, none⟩ = some y := by
        have := hOd.cellAt k (by omega)
        rw [List.getElem?_eq_getElem (by omega)] at this
        exact ⟨_, this⟩
      obtain ⟨y, cg⟩ := cg
      have fg := hOd.frozenAt k
      have st := hOd.stored k (.int .u8 (m8 : Int))
      obtain ⟨wz, hwz⟩ : ∃ wz, wz = wr.drew.setCell ⟨g, k, none⟩ (.int .u8 (m8 : Int)) := ⟨_, rfl⟩
      rw [← hwz] at st
      have aG : Apart [g] wr.drew wz := by rw [hwz]; exact (Apart.refl [g] wr.drew).setCell (by simp) _
      have hmk : wr.drew.cell? ⟨P, 4, none⟩ = some (.int .i64 ((p.mark : Int) + 1)) := (HPd.out.sm.oth).2.2.1
      have hPz := HPd.out.keptN aG (by simpa using hgw.1) (by simpa using hgw.2)
      have hmz : wz.cell? ⟨P, 4, none⟩ = some (.int .i64 ((p.mark : Int) + 1)) := (hPz.sm.oth).2.2.1
      have hBz := (aG.block B (lt_of_heap HBr.out) (by simp; omega)).trans HBr.out
      have hCz := (aG.block (B + 1) (lt_of_heap HCr.out) (by simp; omega)).trans HCr.out
      have hSd : wr.drew.heap[B]? = some (.cells #[.int .i64 lf, .int .i64 lt, .slice (some ⟨g, 0, none⟩) ln lc] 30 (0, 0)) ∧ wr.drew.cell? ⟨P, 4, none⟩ = some (.int .i64 ((p.mark : Int) + 1)) := ⟨HBr.out, hmk⟩
      have hSz : wz.heap[B]? = some (.cells #[.int .i64 lf, .int .i64 lt, .slice (some ⟨g, 0, none⟩) ln lc] 30 (0, 0)) ∧ wz.cell? ⟨P, 4, none⟩ = some (.int .i64 ((p.mark : Int) + 1)) := ⟨hBz, hmz⟩
      have HE : Hid (PQ wa wz P { p with turns := p.turns + 1, mark := p.mark + 1 } who p.x.cof ∧ wz.ownsRow 0 5 1 (.slice (some ⟨g, 0, none⟩) ln lc) ln (List.replicate (k + 1) (.int .u8 (m8 : Int)) ++ (byts x.b).drop (k + 1)) ∧ Stp w wz who who (⟨some ⟨g, 0, none⟩, ln, lc⟩ : Sl).v.ownBlock ∧ wz.heap[B]? = some (.cells #[.int .i64 lf, .int .i64 lt, .slice (some ⟨g, 0, none⟩) ln lc] 30 (0, 0)) ∧ wz.heap[B + 1]? = some (.cells #[.int .i64 m.f, .int .i64 m.t, .slice m.d.p m.d.n m.d.c] 30 (0, 0))) := by
        refine ⟨hPz, ?_, (HSr.out.trans (Stp.ap0 (Apart.refl [] wr).drew)).trans (Stp.row aG (fun j hj => by simp at hj; subst hj; exact .inr (.inr rfl))), hBz, hCz⟩
        have := st.1
        rwa [rep_set k _ (byts x.b) (by rw [HBL.out]; omega)] at this
      have hkz : ((k : Nat) : Int) < ((ln : Nat) : Int) := by omega
      clear st aG hlen hOd hPz hmz hBz hCz hmk hgw
      go_wp2_with fail
      refine wp_region_held_drew (S := fun X => X.heap[B]? = some (.cells #[.int .i64 lf, .int .i64 lt, .slice (some ⟨g, 0, none⟩) ln lc] 30 (0, 0)) ∧ X.cell? ⟨P, 4, none⟩ = some (.int .i64 ((p.mark : Int) + 1))) (by kernel_rfl) hSd (fun hHeld => ?_)
      generalize wr.drew = wd at *
      refine wpAnyH_take (i := 0) (oi := ⟨some 75, _, _, _, _, _⟩) (v := (.pointer (some ⟨B, 2, none⟩))) rfl (by kernel_rfl) (by kernel_rfl) (by kernel_rfl) (fun _ _ _ h => h) (Or.inl ⟨by rfl, ?_⟩) (by assumption) ?_
      · intro W hSW; go_simp
      simp only [Act.put, List.setIfInBounds_toArray, List.set_cons_zero, List.set_cons_succ]
      refine wpAnyH_take (i := 1) (oi := ⟨some 76, _, _, _, _, _⟩) (v := (.slice (some ⟨g, 0, none⟩) ln lc)) rfl (by kernel_rfl) (by kernel_rfl) (by kernel_rfl) (fun _ _ _ h => h) (Or.inl ⟨by rfl, ?_⟩) (by assumption) ?_
      · intro W hSW; obtain ⟨u0, u1, u2⟩ := row3 hSW.1; have u4 := hSW.2; go_simp
      simp only [Act.put, List.setIfInBounds_toArray, List.set_cons_zero, List.set_cons_succ]
      refine wpAnyH_take (i := 2) (oi := ⟨some 77, _, _, _, _, _⟩) (v := (.int .i64 ((k : Nat) : Int))) rfl (by kernel_rfl) (by kernel_rfl) (by kernel_rfl) (fun _ _ _ h => h) (Or.inl ⟨by rfl, ?_⟩) (by assumption) ?_
      · intro W hSW; go_simp
      simp only [Act.put, List.setIfInBounds_toArray, List.set_cons_zero, List.set_cons_succ]
      refine wpAnyH_take (i := 3) (oi := ⟨some 78, _, _, _, _, _⟩) (v := (.pointer (some ⟨P, 0, none⟩))) rfl (by kernel_rfl) (by kernel_rfl) (by kernel_rfl) (fun _ _ _ h => h) (Or.inl ⟨by rfl, ?_⟩) (by assumption) ?_
      · intro W hSW; go_simp
      simp only [Act.put, List.setIfInBounds_toArray, List.set_cons_zero, List.set_cons_succ]
      refine wpAnyH_take (i := 4) (oi := ⟨some 79, _, _, _, _, _⟩) (v := (.pointer (some ⟨P, 0, none⟩))) rfl (by kernel_rfl) (by kernel_rfl) (by kernel_rfl) (fun _ _ _ h => h) (Or.inl ⟨by rfl, ?_⟩) (by assumption) ?_
      · intro W hSW; go_simp
      simp only [Act.put, List.setIfInBounds_toArray, List.set_cons_zero, List.set_cons_succ]
      refine wpAnyH_take (i := 5) (oi := ⟨some 80, _, _, _, _, _⟩) (v := (.pointer (some ⟨P, 4, none⟩))) rfl (by kernel_rfl) (by kernel_rfl) (by kernel_rfl) (fun _ _ _ h => h) (Or.inl ⟨by rfl, ?_⟩) (by assumption) ?_
      · intro W hSW; go_simp
      simp only [Act.put, List.setIfInBounds_toArray, List.set_cons_zero, List.set_cons_succ]
      refine wpAnyH_take (i := 6) (oi := ⟨some 81, _, _, _, _, _⟩) (v := (.int .i64 ((p.mark : Int) + 1))) rfl (by kernel_rfl) (by kernel_rfl) (by kernel_rfl) (fun _ _ _ h => h) (Or.inl ⟨by rfl, ?_⟩) (by assumption) ?_
      · intro W hSW; obtain ⟨u0, u1, u2⟩ := row3 hSW.1; have u4 := hSW.2; go_simp
      simp only [Act.put, List.setIfInBounds_toArray, List.set_cons_zero, List.set_cons_succ]
      refine wpAnyH_take (i := 7) (oi := ⟨some 82, _, _, _, _, _⟩) (v := (.int .u8 (m8 : Int))) rfl (by kernel_rfl) (by kernel_rfl) (by kernel_rfl) (fun _ _ _ h => h) (Or.inl ⟨by rfl, ?_⟩) (by assumption) ?_
      · intro W hSW; go_simp
      simp only [Act.put, List.setIfInBounds_toArray, List.set_cons_zero, List.set_cons_succ]
      refine wpAnyH_take (i := 8) (oi := ⟨some 83, _, _, _, _, _⟩) (v := (.pointer (some ⟨g, k, none⟩))) rfl (by kernel_rfl) (by kernel_rfl) (by kernel_rfl) (fun _ _ _ h => h) (Or.inl ⟨by rfl, ?_⟩) (by assumption) ?_
      · intro W hSW; go_simp
      simp only [Act.put, List.setIfInBounds_toArray, List.set_cons_zero, List.set_cons_succ]
      refine wpAnyH_ready (rs := [9]) (by kernel_rfl) (by simp) ?_
      refine AllReadyH.cons rfl (fun KK hKK => ?_) AllReadyH.nil
      go_simp
      rw [← hwz]
      refine hKK.out _ _ hSz (fun hHeld => ?_)
      clear hKK KK
      refine wpAnyH_done (by kernel_rfl) ?_ _
      clear hwz cg fg
      go_wp2_with fail
      go_roundw
      case rel => exact ⟨k + 1, by go_num, by omega, HE.out.1, HE.out.2.1, HE.out.2.2.1, HE.out.2.2.2.1, HE.out.2.2.2.2⟩
      case measure => simp [intOf]; omega
    · obtain rfl : ln = k := by omega
      have hkz : ¬ ((ln : Nat) : Int) < ((ln : Nat) : Int) := by omega
      have HOz : Hid (wr.ownsRow 0 5 1 (.slice lp ln lc) ln (List.replicate ln (.int .u8 (m8 : Int)))) := by
        have := HOr.out
        rwa [List.drop_eq_nil_of_le (by rw [HBL.out]; omega), List.append_nil] at this
      go_upto_region 12 with fail
      clear b0 b1 b2 hkz HOr
      have hPd := HPr.out.kept0 (Apart.refl [] wr).drew
      have hl2 : (p.x.cof 2).length ≤ 6 := by simpa [Sx.cof] using hkb
      have hl5 : (p.x.cof 5).length ≤ 6 := by simpa [Sx.cof] using hkb
      obtain ⟨p2, cp2, c2, f2, _⟩ := hPd.sm.field 2 (by decide)
      obtain ⟨p2', cp2', w5, who5, hrun2, ⟨y2, hy2⟩, hfz2, hPQ6, hst6, X6, aX6, aY6, hX6⟩ := hPd.app2 2 (by decide) (.slice lp ln lc) rfl (by omega) c2 63 none
      have hr2 : (Builtin.append_ #[63, 63] 63 #[.slice p2 (p.x.cof 2).length cp2, .slice (some ⟨wr.drew.heap.size, 0, none⟩) 1 1]).run Try.prog (wr.drew.alloc (.cells #[.slice lp ln lc] 28)) = .ok (.slice p2' ((p.x.cof 2).length + 1) cp2') w5 := hrun2
      obtain ⟨w6, hw6⟩ : ∃ w6, w6 = w5.setCell ⟨P, 2, none⟩ (.slice p2' ((p.x.cof 2).length + 1) cp2') := ⟨_, rfl⟩
      rw [← hw6] at hPQ6 hst6 aY6
      have hnX6 : ∀ k, who k = none → k ∉ X6 := fun k hk hm => by rcases hX6 k hm with h | h <;> rw [hk] at h <;> cases h
      have hS : wr.drew.heap[B]? = some (.cells #[.int .i64 lf, .int .i64 lt, .slice lp ln lc] 30 (0, 0)) := HBr.out
      have hSA : (wr.drew.alloc (.cells #[.slice lp ln lc] 28)).heap[B]? = some (.cells #[.int .i64 lf, .int .i64 lt, .slice lp ln lc] 30 (0, 0)) := (((Apart.refl [] wr.drew).alloc _).block _ (lt_of_heap hS) (by simp)).trans hS
      have xA : (wr.drew.alloc (.cells #[.slice lp ln lc] 28)).cell? ⟨P, 2, none⟩ = some (.slice p2 (p.x.cof 2).length cp2) := (((Apart.refl [] wr.drew).alloc _).cell hPd.sm.lt (by simp)).trans c2
      have z15 := (aX6.block _ (lt_of_heap hS) (hnX6 B hB1.out)).trans hS
      have z16 := (aY6.block _ (lt_of_heap hS) (hnX6 B hB1.out)).trans hS
      have HD1 := hid z16
      have HD2 := hid ((aY6.block _ (lt_of_heap HCr.out) (hnX6 (B + 1) hB2.out)).trans HCr.out)
      have HO6 := hid (own_apart HOz.out ((Apart.refl [] wr).drew) (by simp))
      have HO6' := hid (own_apart HO6.out aY6 (fun k hk => hnX6 k (HF.out k hk).1))
      have HS6 := hid ((HSr.out.trans (Stp.ap0 (Apart.refl [] wr).drew)).trans (hst6.weak _))
      have HP6 := hid hPQ6
      have hlw : ∀ k, (⟨lp, ln, lc⟩ : Sl).v.ownBlock = some k → who5 k = none := fun k hk => by
        cases e : who5 k with
        | none => rfl
        | some s =>
          rcases hst6.new k s e with h1 | h1 | h1
          · rw [(HF.out k hk).1] at h1; cases h1
          · have := (HO6.out.lt k hk).2; omega
          · cases h1
      have HLW := hid hlw
      have hBw : Hid (who5 B = none ∧ who5 (B + 1) = none) := by
        refine ⟨?_, ?_⟩
        · cases e : who5 B with
          | none => rfl
          | some s =>
            rcases hst6.new B s e with h1 | h1 | h1
            · rw [hB1.out] at h1; cases h1
            · have := lt_of_heap hS; omega
            · cases h1
        · cases e : who5 (B + 1) with
          | none => rfl
          | some s =>
            rcases hst6.new (B + 1) s e with h1 | h1 | h1
            · rw [hB2.out] at h1; cases h1
            · have h3 : B + 1 < wr.drew.heap.size := lt_of_heap HCr.out
              omega
            · cases h1
      clear hPd hrun2 hPQ6 hst6 aX6 aY6 hX6 hnX6 hlw
      go_cut [] from 84 to 94 (fun wx => wx = w6)
      case first =>
        refine wp_region_held_drew (S := fun X => X.heap[B]? = some (.cells #[.int .i64 lf, .int .i64 lt, .slice lp ln lc] 30 (0, 0))) (by kernel_rfl) hS (fun hHeld => ?_)
        generalize wr.drew = wd at *
        refine wpAnyH_take (i := 0) (oi := ⟨some 84, _, _, _, _, _⟩) (v := (.pointer (some ⟨P, 0, none⟩))) rfl (by kernel_rfl) (by kernel_rfl) (by kernel_rfl) (fun _ _ _ h => h) (Or.inl ⟨by rfl, ?_⟩) (by assumption) ?_
        · intro W hSW; go_simp
        simp only [Act.put, List.setIfInBounds_toArray, List.set_cons_zero, List.set_cons_succ]
        refine wpAnyH_take (i := 1) (oi := ⟨some 85, _, _, _, _, _⟩) (v := (.pointer (some ⟨P, 0, none⟩))) rfl (by kernel_rfl) (by kernel_rfl) (by kernel_rfl) (fun _ _ _ h => h) (Or.inl ⟨by rfl, ?_⟩) (by assumption) ?_
        · intro W hSW; go_simp
        simp only [Act.put, List.setIfInBounds_toArray, List.set_cons_zero, List.set_cons_succ]
        refine wpAnyH_take (i := 2) (oi := ⟨some 86, _, _, _, _, _⟩) (v := (.pointer (some ⟨P, 0, none⟩))) rfl (by kernel_rfl) (by kernel_rfl) (by kernel_rfl) (fun _ _ _ h => h) (Or.inl ⟨by rfl, ?_⟩) (by assumption) ?_
        · intro W hSW; go_simp
        simp only [Act.put, List.setIfInBounds_toArray, List.set_cons_zero, List.set_cons_succ]
        refine wpAnyH_take (i := 3) (oi := ⟨some 87, _, _, _, _, _⟩) (v := (.pointer (some ⟨P, 2, none⟩))) rfl (by kernel_rfl) (by kernel_rfl) (by kernel_rfl) (fun _ _ _ h => h) (Or.inl ⟨by rfl, ?_⟩) (by assumption) ?_
        · intro W hSW; go_simp
        simp only [Act.put, List.setIfInBounds_toArray, List.set_cons_zero, List.set_cons_succ]
        refine wpAnyH_take (i := 5) (oi := ⟨some 89, _, _, _, _, _⟩) (v := (.pointer (some ⟨B, 2, none⟩))) rfl (by kernel_rfl) (by kernel_rfl) (by kernel_rfl) (fun _ _ _ h => h) (Or.inl ⟨by rfl, ?_⟩) (by assumption) ?_
        · intro W hSW; go_simp
        simp only [Act.put, List.setIfInBounds_toArray, List.set_cons_zero, List.set_cons_succ]
        refine wpAnyH_take (i := 6) (oi := ⟨some 90, _, _, _, _, _⟩) (v := (.slice lp ln lc)) rfl (by kernel_rfl) (by kernel_rfl) (by kernel_rfl) (fun _ _ _ h => h) (Or.inl ⟨by rfl, ?_⟩) (by assumption) ?_
        · intro W hSW; obtain ⟨u0, u1, u2⟩ := row3 hSW; go_simp
        simp only [Act.put, List.setIfInBounds_toArray, List.set_cons_zero, List.set_cons_succ]
        refine wpAnyH_ready (rs := [4, 7]) (by kernel_rfl) (by simp) ?_
        refine AllReadyH.cons rfl (fun KK hKK => ?_) (AllReadyH.cons rfl (fun KK hKK => ?_) AllReadyH.nil)
        · go_simp
          refine hKK.out _ _ hS (fun hHeld => ?_)
          clear hKK KK
          refine wpAnyH_ready (rs := [7]) (by kernel_rfl) (by simp) ?_
          refine AllReadyH.cons rfl (fun KK hKK => ?_) AllReadyH.nil
          go_simp
          refine hKK.out _ _ hSA (fun hHeld => ?_)
          clear hKK KK
          refine wpAnyH_ready (rs := [8]) (by kernel_rfl) (by simp) ?_
          refine AllReadyH.cons rfl (fun KK hKK => ?_) AllReadyH.nil
          refine step_app2 (o := ⟨some 92, _, _, _, _, _⟩) rfl (.tmp 88) (.tmp 91) 63 63 rfl _ _ rfl rfl _ _ hr2 ?_
          refine hKK.out _ _ z15 (fun hHeld => ?_)
          clear hKK KK
          refine wpAnyH_take (i := 9) (oi := ⟨some 93, _, _, _, _, _⟩) (v := (.pointer (some ⟨P, 0, none⟩))) rfl (by kernel_rfl) (by kernel_rfl) (by kernel_rfl) (fun _ _ _ h => h) (Or.inl ⟨by rfl, ?_⟩) (by assumption) ?_
          · intro W hSW; go_simp
          simp only [Act.put, List.setIfInBounds_toArray, List.set_cons_zero, List.set_cons_succ]
          refine wpAnyH_take (i := 10) (oi := ⟨some 94, _, _, _, _, _⟩) (v := (.pointer (some ⟨P, 2, none⟩))) rfl (by kernel_rfl) (by kernel_rfl) (by kernel_rfl) (fun _ _ _ h => h) (Or.inl ⟨by rfl, ?_⟩) (by assumption) ?_
          · intro W hSW; go_simp
          simp only [Act.put, List.setIfInBounds_toArray, List.set_cons_zero, List.set_cons_succ]
          refine wpAnyH_ready (rs := [11]) (by kernel_rfl) (by simp) ?_
          refine AllReadyH.cons rfl (fun KK hKK => ?_) AllReadyH.nil
          go_simp
          rw [← hw6]
          refine hKK.out _ _ z16 (fun hHeld => ?_)
          clear hKK KK
          refine wpAnyH_done (by kernel_rfl) ?_ _
          go_wp2_with fail
          go_meet
          exact rfl
        · go_simp
          refine hKK.out _ _ hSA (fun hHeld => ?_)
          clear hKK KK
          refine wpAnyH_ready (rs := [4]) (by kernel_rfl) (by simp) ?_
          refine AllReadyH.cons rfl (fun KK hKK => ?_) AllReadyH.nil
          go_simp
          refine hKK.out _ _ hSA (fun hHeld => ?_)
          clear hKK KK
          refine wpAnyH_ready (rs := [8]) (by kernel_rfl) (by simp) ?_
          refine AllReadyH.cons rfl (fun KK hKK => ?_) AllReadyH.nil
          refine step_app2 (o := ⟨some 92, _, _, _, _, _⟩) rfl (.tmp 88) (.tmp 91) 63 63 rfl _ _ rfl rfl _ _ hr2 ?_
          refine hKK.out _ _ z15 (fun hHeld => ?_)
          clear hKK KK
          refine wpAnyH_take (i := 9) (oi := ⟨some 93, _, _, _, _, _⟩) (v := (.pointer (some ⟨P, 0, none⟩))) rfl (by kernel_rfl) (by kernel_rfl) (by kernel_rfl) (fun _ _ _ h => h) (Or.inl ⟨by rfl, ?_⟩) (by assumption) ?_
          · intro W hSW; go_simp
          simp only [Act.put, List.setIfInBounds_toArray, List.set_cons_zero, List.set_cons_succ]
          refine wpAnyH_take (i := 10) (oi := ⟨some 94, _, _, _, _, _⟩) (v := (.pointer (some ⟨P, 2, none⟩))) rfl (by kernel_rfl) (by kernel_rfl) (by kernel_rfl) (fun _ _ _ h => h) (Or.inl ⟨by rfl, ?_⟩) (by assumption) ?_
          · intro W hSW; go_simp
          simp only [Act.put, List.setIfInBounds_toArray, List.set_cons_zero, List.set_cons_succ]
          refine wpAnyH_ready (rs := [11]) (by kernel_rfl) (by simp) ?_
          refine AllReadyH.cons rfl (fun KK hKK => ?_) AllReadyH.nil
          go_simp
          rw [← hw6]
          refine hKK.out _ _ z16 (fun hHeld => ?_)
          clear hKK KK
          refine wpAnyH_done (by kernel_rfl) ?_ _
          go_wp2_with fail
          go_meet
          exact rfl
      rw [hcut]
      clear hcut
      clear hr2 hw6 xA hSA hS z15 z16 c2 f2 hy2 hfz2 HPr HSr HBr HCr HO6 HOz
      go_wp2_with fail
      have hPd := HP6.out.kept0 (Apart.refl [] w6).drew
      have e5 : updC p.x.cof 2 (p.x.cof 2 ++ [.slice lp ln lc]) 5 = p.x.cof 5 := by simp [updC]
      obtain ⟨p5, cp5, c5, f5, _⟩ := hPd.sm.field 5 (by decide)
      rw [e5] at c5
      obtain ⟨p5', cp5', w7, who7, hrun5, ⟨y5, hy5⟩, hfz5, hPQ8, hst8, X8, aX8, aY8, hX8⟩ := hPd.app2 5 (by decide) (.int .i64 ((p.mark : Int) + 1)) rfl (by rw [e5]; omega) (by rw [e5]; exact c5) 65 none
      rw [e5] at hrun5 hPQ8 hst8 aY8
      have hr5 : (Builtin.append_ #[65, 65] 65 #[.slice p5 (p.x.cof 5).length cp5, .slice (some ⟨w6.drew.heap.size, 0, none⟩) 1 1]).run Try.prog (w6.drew.alloc (.cells #[.int .i64 ((p.mark : Int) + 1)] 3)) = .ok (.slice p5' ((p.x.cof 5).length + 1) cp5') w7 := hrun5
      obtain ⟨w8, hw8⟩ : ∃ w8, w8 = w7.setCell ⟨P, 5, none⟩ (.slice p5' ((p.x.cof 5).length + 1) cp5') := ⟨_, rfl⟩
      rw [← hw8] at hPQ8 hst8 aY8
      have hnX8 : ∀ k, who5 k = none → k ∉ X8 := fun k hk hm => by rcases hX8 k hm with h | h <;> rw [hk] at h <;> cases h
      have hS : w6.drew.cell? ⟨P, 4, none⟩ = some (.int .i64 ((p.mark : Int) + 1)) := (hPd.sm.oth).2.2.1
      have hSA : (w6.drew.alloc (.cells #[.int .i64 ((p.mark : Int) + 1)] 3)).cell? ⟨P, 4, none⟩ = some (.int .i64 ((p.mark : Int) + 1)) := ((hPd.kept0 ((Apart.refl [] _).alloc _)).sm.oth).2.2.1
      have xA : (w6.drew.alloc (.cells #[.int .i64 ((p.mark : Int) + 1)] 3)).cell? ⟨P, 5, none⟩ = some (.slice p5 (p.x.cof 5).length cp5) := (((Apart.refl [] w6.drew).alloc _).cell hPd.sm.lt (by simp)).trans c5
      have z16 : w8.cell? ⟨P, 4, none⟩ = some (.int .i64 ((p.mark : Int) + 1)) := (hPQ8.sm.oth).2.2.1
      have z15 : w7.cell? ⟨P, 4, none⟩ = some (.int .i64 ((p.mark : Int) + 1)) := by
        rw [hw8] at z16
        have e := World.cell?_setCell_other (w := w7) (a := ⟨P, 5, none⟩) (b := ⟨P, 4, none⟩) (v := .slice p5' ((p.x.cof 5).length + 1) cp5') (by simp)
        rw [← e]; exact z16
      have HE1 := hid ((aY8.block _ (lt_of_heap HD1.out) (hnX8 B hBw.out.1)).trans HD1.out)
      have HE2 := hid ((aY8.block _ (lt_of_heap HD2.out) (hnX8 (B + 1) hBw.out.2)).trans HD2.out)
      have HO8 := hid (own_apart HO6'.out ((Apart.refl [] w6).drew) (by simp))
      have HO8' := hid (own_apart HO8.out aY8 (fun k hk => hnX8 k (HLW.out k hk)))
      have HS8 := hid ((HS6.out.trans (Stp.ap0 (Apart.refl [] w6).drew)).trans (hst8.weak _))
      have HP8 := hid hPQ8
      have hlw : ∀ k, (⟨lp, ln, lc⟩ : Sl).v.ownBlock = some k → who7 k = none := fun k hk => by
        cases e : who7 k with
        | none => rfl
        | some s =>
          rcases hst8.new k s e with h1 | h1 | h1
          · rw [HLW.out k hk] at h1; cases h1
          · have := (HO8.out.lt k hk).2; omega
          · cases h1
      have HLW8 := hid hlw
      have hPw7 : Hid (who7 P = some 0) := hPQ8.sm.wS
      have hBw8 : Hid (who7 B = none ∧ who7 (B + 1) = none) := by
        refine ⟨?_, ?_⟩
        · cases e : who7 B with
          | none => rfl
          | some s =>
            rcases hst8.new B s e with h1 | h1 | h1
            · rw [hBw.out.1] at h1; cases h1
            · have h3 : B < w6.drew.heap.size := lt_of_heap HD1.out
              omega
            · cases h1
        · cases e : who7 (B + 1) with
          | none => rfl
          | some s =>
            rcases hst8.new (B + 1) s e with h1 | h1 | h1
            · rw [hBw.out.2] at h1; cases h1
            · have h3 : B + 1 < w6.drew.heap.size := lt_of_heap HD2.out
              omega
            · cases h1
      clear hPd e5 hrun5 hPQ8 hst8 aX8 aY8 hX8 hnX8 hlw
      go_cut [] from 95 to 109 (fun wx => wx = w8)
      case first =>
        refine wp_region_held_drew (S := fun X => X.cell? ⟨P, 4, none⟩ = some (.int .i64 ((p.mark : Int) + 1))) (by kernel_rfl) hS (fun hHeld => ?_)
        generalize w6.drew = wd at *
        refine wpAnyH_take (i := 0) (oi := ⟨some 95, _, _, _, _, _⟩) (v := (.pointer (some ⟨P, 0, none⟩))) rfl (by kernel_rfl) (by kernel_rfl) (by kernel_rfl) (fun _ _ _ h => h) (Or.inl ⟨by rfl, ?_⟩) (by assumption) ?_
        · intro W hSW; go_simp
        simp only [Act.put, List.setIfInBounds_toArray, List.set_cons_zero, List.set_cons_succ]
        refine wpAnyH_take (i := 1) (oi := ⟨some 96, _, _, _, _, _⟩) (v := (.pointer (some ⟨P, 0, none⟩))) rfl (by kernel_rfl) (by kernel_rfl) (by kernel_rfl) (fun _ _ _ h => h) (Or.inl ⟨by rfl, ?_⟩) (by assumption) ?_
        · intro W hSW; go_simp
        simp only [Act.put, List.setIfInBounds_toArray, List.set_cons_zero, List.set_cons_succ]
        refine wpAnyH_take (i := 2) (oi := ⟨some 97, _, _, _, _, _⟩) (v := (.pointer (some ⟨P, 0, none⟩))) rfl (by kernel_rfl) (by kernel_rfl) (by kernel_rfl) (fun _ _ _ h => h) (Or.inl ⟨by rfl, ?_⟩) (by assumption) ?_
        · intro W hSW; go_simp
        simp only [Act.put, List.setIfInBounds_toArray, List.set_cons_zero, List.set_cons_succ]
        refine wpAnyH_take (i := 3) (oi := ⟨some 98, _, _, _, _, _⟩) (v := (.pointer (some ⟨P, 5, none⟩))) rfl (by kernel_rfl) (by kernel_rfl) (by kernel_rfl) (fun _ _ _ h => h) (Or.inl ⟨by rfl, ?_⟩) (by assumption) ?_
        · intro W hSW; go_simp
        simp only [Act.put, List.setIfInBounds_toArray, List.set_cons_zero, List.set_cons_succ]
        refine wpAnyH_take (i := 4) (oi := ⟨some 99, _, _, _, _, _⟩) (v := (.pointer (some ⟨P, 5, none⟩))) rfl (by kernel_rfl) (by kernel_rfl) (by kernel_rfl) (fun _ _ _ h => h) (Or.inl ⟨by rfl, ?_⟩) (by assumption) ?_
        · intro W hSW; go_simp
        simp only [Act.put, List.setIfInBounds_toArray, List.set_cons_zero, List.set_cons_succ]
        refine wpAnyH_take (i := 6) (oi := ⟨some 101, _, _, _, _, _⟩) (v := (.pointer (some ⟨P, 0, none⟩))) rfl (by kernel_rfl) (by kernel_rfl) (by kernel_rfl) (fun _ _ _ h => h) (Or.inl ⟨by rfl, ?_⟩) (by assumption) ?_
        · intro W hSW; go_simp
        simp only [Act.put, List.setIfInBounds_toArray, List.set_cons_zero, List.set_cons_succ]
        refine wpAnyH_take (i := 7) (oi := ⟨some 102, _, _, _, _, _⟩) (v := (.pointer (some ⟨P, 0, none⟩))) rfl (by kernel_rfl) (by kernel_rfl) (by kernel_rfl) (fun _ _ _ h => h) (Or.inl ⟨by rfl, ?_⟩) (by assumption) ?_
        · intro W hSW; go_simp
        simp only [Act.put, List.setIfInBounds_toArray, List.set_cons_zero, List.set_cons_succ]
        refine wpAnyH_take (i := 8) (oi := ⟨some 103, _, _, _, _, _⟩) (v := (.pointer (some ⟨P, 4, none⟩))) rfl (by kernel_rfl) (by kernel_rfl) (by kernel_rfl) (fun _ _ _ h => h) (Or.inl ⟨by rfl, ?_⟩) (by assumption) ?_
        · intro W hSW; go_simp
        simp only [Act.put, List.setIfInBounds_toArray, List.set_cons_zero, List.set_cons_succ]
        refine wpAnyH_take (i := 9) (oi := ⟨some 104, _, _, _, _, _⟩) (v := (.int .i64 ((p.mark : Int) + 1))) rfl (by kernel_rfl) (by kernel_rfl) (by kernel_rfl) (fun _ _ _ h => h) (Or.inl ⟨by rfl, ?_⟩) (by assumption) ?_
        · intro W hSW; go_simp
        simp only [Act.put, List.setIfInBounds_toArray, List.set_cons_zero, List.set_cons_succ]
        refine wpAnyH_take (i := 12) (oi := ⟨some 107, _, _, _, _, _⟩) (v := (.pointer (some ⟨P, 0, none⟩))) rfl (by kernel_rfl) (by kernel_rfl) (by kernel_rfl) (fun _ _ _ h => h) (Or.inl ⟨by rfl, ?_⟩) (by assumption) ?_
        · intro W hSW; go_simp
        simp only [Act.put, List.setIfInBounds_toArray, List.set_cons_zero, List.set_cons_succ]
        refine wpAnyH_take (i := 13) (oi := ⟨some 108, _, _, _, _, _⟩) (v := (.pointer (some ⟨P, 5, none⟩))) rfl (by kernel_rfl) (by kernel_rfl) (by kernel_rfl) (fun _ _ _ h => h) (Or.inl ⟨by rfl, ?_⟩) (by assumption) ?_
        · intro W hSW; go_simp
        simp only [Act.put, List.setIfInBounds_toArray, List.set_cons_zero, List.set_cons_succ]
        refine wpAnyH_ready (rs := [5, 10]) (by kernel_rfl) (by simp) ?_
        refine AllReadyH.cons rfl (fun KK hKK => ?_) (AllReadyH.cons rfl (fun KK hKK => ?_) AllReadyH.nil)
        · go_simp
          refine hKK.out _ _ hS (fun hHeld => ?_)
          clear hKK KK
          refine wpAnyH_ready (rs := [10]) (by kernel_rfl) (by simp) ?_
          refine AllReadyH.cons rfl (fun KK hKK => ?_) AllReadyH.nil
          go_simp
          refine hKK.out _ _ hSA (fun hHeld => ?_)
          clear hKK KK
          refine wpAnyH_ready (rs := [11]) (by kernel_rfl) (by simp) ?_
          refine AllReadyH.cons rfl (fun KK hKK => ?_) AllReadyH.nil
          refine step_app2 (o := ⟨some 106, _, _, _, _, _⟩) rfl (.tmp 100) (.tmp 105) 65 65 rfl _ _ rfl rfl _ _ hr5 ?_
          refine hKK.out _ _ z15 (fun hHeld => ?_)
          clear hKK KK
          refine wpAnyH_take (i := 14) (oi := ⟨some 109, _, _, _, _, _⟩) (v := (.pointer (some ⟨P, 5, none⟩))) rfl (by kernel_rfl) (by kernel_rfl) (by kernel_rfl) (fun _ _ _ h => h) (Or.inl ⟨by rfl, ?_⟩) (by assumption) ?_
          · intro W hSW; go_simp
          simp only [Act.put, List.setIfInBounds_toArray, List.set_cons_zero, List.set_cons_succ]
          refine wpAnyH_ready (rs := [15]) (by kernel_rfl) (by simp) ?_
          refine AllReadyH.cons rfl (fun KK hKK => ?_) AllReadyH.nil
          go_simp
          rw [← hw8]
          refine hKK.out _ _ z16 (fun hHeld => ?_)
          clear hKK KK
          refine wpAnyH_done (by kernel_rfl) ?_ _
          go_wp2_with fail
          go_meet
          exact rfl
        · go_simp
          refine hKK.out _ _ hSA (fun hHeld => ?_)
          clear hKK KK
          refine wpAnyH_ready (rs := [5]) (by kernel_rfl) (by simp) ?_
          refine AllReadyH.cons rfl (fun KK hKK => ?_) AllReadyH.nil
          go_simp
          refine hKK.out _ _ hSA (fun hHeld => ?_)
          clear hKK KK
          refine wpAnyH_ready (rs := [11]) (by kernel_rfl) (by simp) ?_
          refine AllReadyH.cons rfl (fun KK hKK => ?_) AllReadyH.nil
          refine step_app2 (o := ⟨some 106, _, _, _, _, _⟩) rfl (.tmp 100) (.tmp 105) 65 65 rfl _ _ rfl rfl _ _ hr5 ?_
          refine hKK.out _ _ z15 (fun hHeld => ?_)
          clear hKK KK
          refine wpAnyH_take (i := 14) (oi := ⟨some 109, _, _, _, _, _⟩) (v := (.pointer (some ⟨P, 5, none⟩))) rfl (by kernel_rfl) (by kernel_rfl) (by kernel_rfl) (fun _ _ _ h => h) (Or.inl ⟨by rfl, ?_⟩) (by assumption) ?_
          · intro W hSW; go_simp
          simp only [Act.put, List.setIfInBounds_toArray, List.set_cons_zero, List.set_cons_succ]
          refine wpAnyH_ready (rs := [15]) (by kernel_rfl) (by simp) ?_
          refine AllReadyH.cons rfl (fun KK hKK => ?_) AllReadyH.nil
          go_simp
          rw [← hw8]
          refine hKK.out _ _ z16 (fun hHeld => ?_)
          clear hKK KK
          refine wpAnyH_done (by kernel_rfl) ?_ _
          go_wp2_with fail
          go_meet
          exact rfl
      rw [hcut]
      clear hcut
      clear hr5 hw8 xA hSA hS z15 z16 c5 f5 hy5 hfz5 HP6 HS6 HD1 HD2 HO6' HO8 HLW hBw
      have e22 : updC (updC p.x.cof 2 (p.x.cof 2 ++ [.slice lp ln lc])) 5 (p.x.cof 5 ++ [.int .i64 ((p.mark : Int) + 1)]) 2 = p.x.cof 2 ++ [.slice lp ln lc] := by simp [updC]
      have hk25 : Hid ((p.x.cof 2).length = (p.x.cof 5).length) := by show _ = _; simp [Sx.cof]
      obtain ⟨p2b, cp2b, c2b, f2b, _⟩ := HP8.out.sm.field 2 (by decide)
      rw [e22, List.length_append, List.length_singleton] at c2b
      have HE22 := hid e22
      clear e22
      go_upto_if 115 with fail
      clear c2b f2b
      go_cut [] from 115 to 133 (fun wx => LE1 wa w wx P p who who7 B lf lt ⟨lp, ln, lc⟩ m8 m)
      case first =>
        by_cases h6 : 6 < (p.x.cof 2).length + 1
        · obtain ⟨g2, of2, cq2, c2c, hle2, hPQ9⟩ := HP8.out.cut 2 (by decide) (by rw [HE22.out]; simp; omega)
          rw [HE22.out] at c2c hle2 hPQ9
          simp only [List.length_append, List.length_singleton, Nat.add_sub_cancel] at c2c hle2 hPQ9
          obtain ⟨w9, hw9⟩ : ∃ w9, w9 = w8.setCell ⟨P, 2, none⟩ (.slice (some ⟨g2, of2 + 1, none⟩) (p.x.cof 2).length (cq2 - 1)) := ⟨_, rfl⟩
          rw [← hw9] at hPQ9
          have a9 : Apart [P] w8 w9 := by rw [hw9]; exact (Apart.refl [P] w8).setCell (by simp) _
          have hPd9 := hPQ9.kept0 (Apart.refl [] w9).drew
          have e552 : updC (updC (updC p.x.cof 2 (p.x.cof 2 ++ [.slice lp ln lc])) 5 (p.x.cof 5 ++ [.int .i64 ((p.mark : Int) + 1)])) 2 (p.x.cof 2 ++ [Value.slice lp ln lc]).tail 5 = p.x.cof 5 ++ [.int .i64 ((p.mark : Int) + 1)] := by simp [updC]
          obtain ⟨g5, of5, cq5, c5c, hle5, hPQa⟩ := hPd9.cut 5 (by decide) (by rw [e552]; have := hk25.out; simp; omega)
          rw [e552] at c5c hle5 hPQa
          simp only [List.length_append, List.length_singleton, Nat.add_sub_cancel] at c5c hle5 hPQa
          obtain ⟨wA, hwA⟩ : ∃ wA, wA = w9.drew.setCell ⟨P, 5, none⟩ (.slice (some ⟨g5, of5 + 1, none⟩) (p.x.cof 5).length (cq5 - 1)) := ⟨_, rfl⟩
          rw [← hwA] at hPQa
          have aA : Apart [P] w9 wA := by rw [hwA]; exact (Apart.refl [P] w9).drew.trans ((Apart.refl [P] _).setCell (by simp) _)
          have HFIN : Hid (LE1 wa w wA P p who who7 B lf lt ⟨lp, ln, lc⟩ m8 m) := le1_of hPQa (fun f hf => by
            rw [← cof_kb p.x (⟨lp, ln, lc⟩, p.mark + 1) f hf]
            have e2 : push6 (p.x.cof 2) (.slice lp ln lc) = (p.x.cof 2 ++ [Value.slice lp ln lc]).tail := by unfold push6; rw [if_pos (by simp; omega)]
            have e5 : push6 (p.x.cof 5) (.int .i64 ((p.mark + 1 : Nat) : Int)) = (p.x.cof 5 ++ [Value.int .i64 ((p.mark : Int) + 1)]).tail := by unfold push6; rw [if_pos (by have := hk25.out; simp; omega)]; rfl
            dsimp only
            rw [e2, e5]
            simp only [fs, List.mem_cons, List.not_mem_nil, or_false] at hf
            rcases hf with rfl | rfl | rfl | rfl | rfl | rfl | rfl | rfl <;> simp [updC]) (a9.trans aA) hPw7.out hBw8.out.1 hBw8.out.2 HE1.out HE2.out HO8'.out HLW8.out HS8.out
          have fz2 := (HP8.out.sm.oth).2.2.2.2.2 2
          have fz5 := (hPd9.sm.oth).2.2.2.2.2 5
          have h6z : (6 : Int) < ((p.x.cof 2).length : Int) + 1 := by omega
          have hb3 : (1 : Int) ≤ ((p.x.cof 2).length : Int) + 1 := by omega
          have hb3c : ((p.x.cof 2).length : Int) + 1 ≤ (cq2 : Int) := by omega
          have hb3d : ¬ cq2 = 1 := by omega
          have hb6 : (1 : Int) ≤ ((p.x.cof 5).length : Int) + 1 := by omega
          have hb6c : ((p.x.cof 5).length : Int) + 1 ≤ (cq5 : Int) := by omega
          have hb6d : ¬ cq5 = 1 := by have := hk25.out; omega
          clear hPQ9 hPQa hPd9 a9 aA e552
          go_upto_region 16 with fail
          rw [← hw9]
          clear hw9
          refine wp_region_held_drew (S := fun _ => True) (by kernel_rfl) trivial (fun hHeld => ?_)
          refine wpAnyH_take (i := 0) (oi := ⟨some 124, _, _, _, _, _⟩) (v := (.pointer (some ⟨P, 0, none⟩))) rfl (by kernel_rfl) (by kernel_rfl) (by kernel_rfl) (fun _ _ _ h => h) (Or.inl ⟨by rfl, ?_⟩) (by assumption) ?_
          · intro W hSW; go_simp
          simp only [Act.put, List.setIfInBounds_toArray, List.set_cons_zero, List.set_cons_succ]
          refine wpAnyH_take (i := 1) (oi := ⟨some 125, _, _, _, _, _⟩) (v := (.pointer (some ⟨P, 0, none⟩))) rfl (by kernel_rfl) (by kernel_rfl) (by kernel_rfl) (fun _ _ _ h => h) (Or.inl ⟨by rfl, ?_⟩) (by assumption) ?_
          · intro W hSW; go_simp
          simp only [Act.put, List.setIfInBounds_toArray, List.set_cons_zero, List.set_cons_succ]
          refine wpAnyH_take (i := 2) (oi := ⟨some 126, _, _, _, _, _⟩) (v := (.pointer (some ⟨P, 0, none⟩))) rfl (by kernel_rfl) (by kernel_rfl) (by kernel_rfl) (fun _ _ _ h => h) (Or.inl ⟨by rfl, ?_⟩) (by assumption) ?_
          · intro W hSW; go_simp
          simp only [Act.put, List.setIfInBounds_toArray, List.set_cons_zero, List.set_cons_succ]
          refine wpAnyH_take (i := 3) (oi := ⟨some 127, _, _, _, _, _⟩) (v := (.pointer (some ⟨P, 5, none⟩))) rfl (by kernel_rfl) (by kernel_rfl) (by kernel_rfl) (fun _ _ _ h => h) (Or.inl ⟨by rfl, ?_⟩) (by assumption) ?_
          · intro W hSW; go_simp
          simp only [Act.put, List.setIfInBounds_toArray, List.set_cons_zero, List.set_cons_succ]
          refine wpAnyH_take (i := 4) (oi := ⟨some 128, _, _, _, _, _⟩) (v := (.pointer (some ⟨P, 5, none⟩))) rfl (by kernel_rfl) (by kernel_rfl) (by kernel_rfl) (fun _ _ _ h => h) (Or.inl ⟨by rfl, ?_⟩) (by assumption) ?_
          · intro W hSW; go_simp
          simp only [Act.put, List.setIfInBounds_toArray, List.set_cons_zero, List.set_cons_succ]
          refine wpAnyH_take (i := 7) (oi := ⟨some 131, _, _, _, _, _⟩) (v := (.pointer (some ⟨P, 0, none⟩))) rfl (by kernel_rfl) (by kernel_rfl) (by kernel_rfl) (fun _ _ _ h => h) (Or.inl ⟨by rfl, ?_⟩) (by assumption) ?_
          · intro W hSW; go_simp
          simp only [Act.put, List.setIfInBounds_toArray, List.set_cons_zero, List.set_cons_succ]
          refine wpAnyH_take (i := 8) (oi := ⟨some 132, _, _, _, _, _⟩) (v := (.pointer (some ⟨P, 5, none⟩))) rfl (by kernel_rfl) (by kernel_rfl) (by kernel_rfl) (fun _ _ _ h => h) (Or.inl ⟨by rfl, ?_⟩) (by assumption) ?_
          · intro W hSW; go_simp
          simp only [Act.put, List.setIfInBounds_toArray, List.set_cons_zero, List.set_cons_succ]
          refine wpAnyH_ready (rs := [5]) (by kernel_rfl) (by simp) ?_
          refine AllReadyH.cons rfl (fun KK hKK => ?_) AllReadyH.nil
          go_simp
          refine hKK.out _ _ trivial (fun hHeld => ?_)
          clear hKK KK
          refine wpAnyH_take (i := 6) (oi := ⟨some 130, _, _, _, _, _⟩) (v := (.slice (some ⟨g5, of5 + 1, none⟩) (p.x.cof 5).length (cq5 - 1))) rfl (by kernel_rfl) (by kernel_rfl) (by kernel_rfl) (fun _ _ _ h => h) (Or.inl ⟨by rfl, ?_⟩) (by assumption) ?_
          · intro W hSW; go_simp
          simp only [Act.put, List.setIfInBounds_toArray, List.set_cons_zero, List.set_cons_succ]
          refine wpAnyH_take (i := 9) (oi := ⟨some 133, _, _, _, _, _⟩) (v := (.pointer (some ⟨P, 5, none⟩))) rfl (by kernel_rfl) (by kernel_rfl) (by kernel_rfl) (fun _ _ _ h => h) (Or.inl ⟨by rfl, ?_⟩) (by assumption) ?_
          · intro W hSW; go_simp
          simp only [Act.put, List.setIfInBounds_toArray, List.set_cons_zero, List.set_cons_succ]
          refine wpAnyH_ready (rs := [10]) (by kernel_rfl) (by simp) ?_
          refine AllReadyH.cons rfl (fun KK hKK => ?_) AllReadyH.nil
          go_simp
          refine hKK.out _ _ trivial (fun hHeld => ?_)
          clear hKK KK
          refine wpAnyH_done (by kernel_rfl) ?_ _
          have hwA' : (w9.setCell ⟨P, 5, none⟩ (.slice (some ⟨g5, of5 + 1, none⟩) (p.x.cof 5).length (cq5 - 1))).drew = wA := hwA.symm
          rw [hwA']
          clear hwA hwA'
          go_wp2_with fail
          go_meet
          exact HFIN.out
        · have h6z : ¬ (6 : Int) < ((p.x.cof 2).length : Int) + 1 := by omega
          have HFIN : Hid (LE1 wa w w8 P p who who7 B lf lt ⟨lp, ln, lc⟩ m8 m) := le1_of HP8.out (fun f hf => by
            rw [← cof_kb p.x (⟨lp, ln, lc⟩, p.mark + 1) f hf]
            have e2 : push6 (p.x.cof 2) (.slice lp ln lc) = p.x.cof 2 ++ [.slice lp ln lc] := by unfold push6; rw [if_neg (by simp; omega)]
            have e5 : push6 (p.x.cof 5) (.int .i64 ((p.mark + 1 : Nat) : Int)) = p.x.cof 5 ++ [.int .i64 ((p.mark : Int) + 1)] := by unfold push6; rw [if_neg (by have := hk25.out; simp; omega)]; rfl
            dsimp only
            rw [e2, e5]) (Apart.refl _ _) hPw7.out hBw8.out.1 hBw8.out.2 HE1.out HE2.out HO8'.out HLW8.out HS8.out
          go_wp2_with fail
          go_meet
          exact HFIN.out
      have HLE := hid hcut
      clear hcut HP8 HS8 HE1 HE2 HO8' HE22
      have hb1 := HLE.out.b1
      obtain ⟨b0, b1, b2⟩ := row3 hb1
      have hAp : App wc wc ⟨lp, ln, lc⟩ ⟨lp, ln, lc⟩ (List.replicate ln (.int .u8 (m8 : Int))) [] := ⟨by simpa [Sl.v] using HLE.out.ow, HLE.out.ow, by simp, by
        cases lp with
        | none => right; simp [Sl.v, Value.ownBlock]
        | some ad =>
          left
          obtain ⟨_, ⟨hv, hz⟩ | ⟨g, cap, cur, hv, _⟩⟩ := HLE.out.ow
          · simp [Sl.v] at hv
          · simp [Sl.v] at hv
            exact ⟨g, by rw [hv.1], by rw [hv.1], rfl⟩, Apart.refl _ _⟩
      have hsl : ∀ k, (⟨lp, ln, lc⟩ : Sl).v.ownBlock = some k → k < wc.heap.size := fun k hk => (HLE.out.ow.lt k hk).2
      have HSL := hid hsl
      obtain ⟨d1, w11, hrun1, hA1⟩ := hAp.more hsl [.int .u8 1, .int .u8 2, .int .u8 3] 3 (by decide) rfl (by simp; decide) (by show ln + 3 ≤ _; omega)
      have hr1 : (Builtin.append_ #[28, 28] 28 #[.slice lp ln lc, .slice (some ⟨wc.heap.size, 0, none⟩) 3 3]).run Try.prog (wc.alloc (.cells #[.int .u8 1, .int .u8 2, .int .u8 3] 5)) = .ok (.slice d1.p d1.n d1.c) w11 := hrun1
      have HA11 := hid hA1
      clear hAp hsl hrun1 hA1 hb1
      go_upto_region 18 with (at_builtin; refine wpList_append3 rfl (.tmp 135) (.tmp 136) 28 rfl _ _ rfl rfl _ _ hr1 ?_)
      clear hr1 b0 b1 b2
      go_wp2_with fail
      go_loopw [13, 14] (fun u v wr => ∃ (k : Nat) (d : Sl) (ex : List Value), v = .int .i64 (k : Nat) ∧ u = .slice d.p d.n d.c ∧ k ≤ 80 ∧ ex.length = 3 + k ∧ App wc wr ⟨lp, ln, lc⟩ d (List.replicate ln (.int .u8 (m8 : Int))) ex) (fun _ v _ => 80 - (intOf v).toNat)
      case atStart => exact ⟨0, d1, _, rfl, rfl, Nat.zero_le _, rfl, HA11.out⟩
      case round =>
        obtain ⟨k, d, ex, rfl, rfl, hk, hex, hA⟩ := hrel
        have HA := hid hA
        have HEX := hid hex
        have hdn2 : d.n = ln + (3 + k) := by have := hA.n; rw [hex] at this; exact this
        have HDN := hid hdn2
        clear hA hex HA11
        by_cases hlt : k < 80
        · obtain ⟨d', w12, hrun2, hA2⟩ := HA.out.more HSL.out [.int .u8 (210 + (k : Int) % 9)] 1 (by decide) rfl (fun u hu => by simp at hu; subst hu; rfl) (by omega)
          have hr2 : (Builtin.append_ #[28, 28] 28 #[.slice d.p d.n d.c, .slice (some ⟨wr.heap.size, 0, none⟩) 1 1]).run Try.prog (wr.alloc (.cells #[.int .u8 (210 + (k : Int) % 9)] 5)) = .ok (.slice d'.p d'.n d'.c) w12 := hrun2
          have HA2 := hid hA2
          have hkz : ((k : Nat) : Int) < 80 := by omega
          clear hrun2 hA2 hdn2
          go_wp2_with (at_builtin; refine wpList_append3 rfl (.tmp 142) (.tmp 147) 28 rfl _ _ rfl rfl _ _ hr2 ?_)
          go_roundw
          case rel => exact ⟨k + 1, d', _, by go_num, rfl, by omega, by rw [List.length_append, HEX.out]; rfl, HA2.out⟩
          case measure => simp [intOf]; omega
        · obtain rfl : k = 80 := by omega
          have a12 := HA.out.ap
          have hBn : B ∉ (⟨lp, ln, lc⟩ : Sl).v.ownBlock.toList := fun m => by have := HLK.out B (by simpa using m); omega
          have hBn2 : B + 1 ∉ (⟨lp, ln, lc⟩ : Sl).v.ownBlock.toList := fun m => by have := HLK.out (B + 1) (by simpa using m); omega
          obtain ⟨y0, y1, y2⟩ := row3 ((a12.block _ (lt_of_heap HLE.out.b2) hBn2).trans HLE.out.b2)
          have HFIN : Hid (LEPost wa w wr P p who ⟨lf, lt, lp, ln, lc⟩) := le_fin HLE.out a12 HA.out.k HLW8.out (fun k hk => (HF.out k hk).2) HM8.out
          have hmn : m.d.n = ln := by have := HMD.out.1; omega
          rw [hmn] at y2
          obtain ⟨dp, dn, dc⟩ := d
          dsimp only at hdn2
          subst hdn2
          clear a12 hBn hBn2 hmn HDN
          go_wp2
          go_ret
          exact ⟨rfl, HFIN.out⟩
end Go.Proofs.Ytiakcfjbnlibfaa.nt
