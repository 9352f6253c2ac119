import Derived.Test.YtiakcfjbnlibfaaP1
namespace Go.Proofs.Ytiakcfjbnlibfaa.nt
open Go.ChangeShapes Go.WideShapes Go.ChangeAt Go.RowKit
set_option linter.unusedVariables false
set_option linter.unusedSimpArgs false
set_option maxHeartbeats 4000000 in
theorem same_yes (a b : Sl) (l : List Nat) (w : World) (h : Rd w a.p (nums l)) (k : Rd w b.p (nums l)) (ha : l.length = a.n) (hb : l.length = b.n) (hl : l.length ≤ 100000) : Calls Try.prog 42 #[.slice a.p a.n a.c, .slice b.p b.n b.c] w fun r w' => r = .returned (.bool true) ∧ Apart [] w w' := by
  have e : a.n = b.n := by omega
  have HH := hid h
  have HK := hid k
  have HL := hid ha
  obtain ⟨ap, an, ac⟩ := a
  obtain ⟨bp, bn, bc⟩ := b
  dsimp only at e HH HK HL ⊢
  subst e
  clear h k ha hb
  go_enter Try.func42, Try.ntmps42
  go_wp2_with fail
  go_loopw [5] (fun v wr => ∃ k : Nat, v = .int .i64 (k : Nat) ∧ k ≤ an ∧ Apart [] w wr) (fun v _ => an - (intOf v).toNat)
  case atStart => exact ⟨0, rfl, Nat.zero_le _, Apart.refl _ _⟩
  case round =>
    obtain ⟨k, rfl, hk, ap0⟩ := hrel
    have HA := hid ap0
    clear ap0
    have hl2 : an ≤ 100000 := by have := HL.out; omega
    by_cases hlt : k < an
    · obtain ⟨P1, o1, hp1, _, hc1⟩ := HH.out (by simp [nums]; have := HL.out; omega)
      obtain ⟨P2, o2, hp2, _, hc2⟩ := HK.out (by simp [nums]; have := HL.out; omega)
      subst hp1 hp2
      obtain ⟨z, hz⟩ : ∃ z, l[k]? = some z := ⟨_, List.getElem?_eq_getElem (by have := HL.out; omega)⟩
      have c1 := hc1 k (.int .i64 (z : Int)) (by simp [nums, hz])
      have c2 := hc2 k (.int .i64 (z : Int)) (by simp [nums, hz])
      have HX : Hid (∀ W : World, Apart [] w W → W.cell? ⟨P1, o1 + k, none⟩ = some (.int .i64 (z : Int)) ∧ W.cell? ⟨P2, o2 + k, none⟩ = some (.int .i64 (z : Int))) := fun W a => by
        obtain ⟨_, _, e1, hb1, _⟩ := HH.out (by simp [nums]; have := HL.out; omega)
        obtain ⟨_, _, e2, hb2, _⟩ := HK.out (by simp [nums]; have := HL.out; omega)
        simp at e1 e2
        obtain ⟨rfl, rfl⟩ := e1
        obtain ⟨rfl, rfl⟩ := e2
        exact ⟨(a.cell hb1 (by simp)).trans c1, (a.cell hb2 (by simp)).trans c2⟩
      have hkz : ((k : Nat) : Int) < ((an : Nat) : Int) := by omega
      have HA5 : Hid (Apart [] w wr.drew) := HA.out.drew
      clear hc1 hc2 c1 c2 hz
      go_wp2_with fail
      refine wp_region_held_drew (S := fun X => Apart [] w X) (by kernel_rfl) HA5.out (fun hHeld => ?_)
      refine wpAnyH_take (i := 0) (oi := ⟨some 17, _, _, _, _, _⟩) (v := (.slice (some ⟨P1, o1, none⟩) an ac)) rfl (by kernel_rfl) (by kernel_rfl) (by kernel_rfl) (fun _ _ _ h => h) (Or.inl ⟨by rfl, ?_⟩) (by assumption) ?_
      · intro W hSW; go_simp
      simp only [Act.put, List.setIfInBounds_toArray, List.set_cons_zero, List.set_cons_succ]
      refine wpAnyH_take (i := 1) (oi := ⟨some 18, _, _, _, _, _⟩) (v := (.int .i64 ((k : Nat) : Int))) rfl (by kernel_rfl) (by kernel_rfl) (by kernel_rfl) (fun _ _ _ h => h) (Or.inl ⟨by rfl, ?_⟩) (by assumption) ?_
      · intro W hSW; go_simp
      simp only [Act.put, List.setIfInBounds_toArray, List.set_cons_zero, List.set_cons_succ]
      refine wpAnyH_take (i := 2) (oi := ⟨some 19, _, _, _, _, _⟩) (v := (.pointer (some ⟨P1, o1 + k, none⟩))) rfl (by kernel_rfl) (by kernel_rfl) (by kernel_rfl) (fun _ _ _ h => h) (Or.inl ⟨by rfl, ?_⟩) (by assumption) ?_
      · intro W hSW; go_simp
      simp only [Act.put, List.setIfInBounds_toArray, List.set_cons_zero, List.set_cons_succ]
      refine wpAnyH_take (i := 3) (oi := ⟨some 20, _, _, _, _, _⟩) (v := (.int .i64 (z : Int))) rfl (by kernel_rfl) (by kernel_rfl) (by kernel_rfl) (fun _ _ _ h => h) (Or.inl ⟨by rfl, ?_⟩) (by assumption) ?_
      · intro W hSW; obtain ⟨x0, x1⟩ := HX.out W hSW; go_simp
      simp only [Act.put, List.setIfInBounds_toArray, List.set_cons_zero, List.set_cons_succ]
      refine wpAnyH_take (i := 4) (oi := ⟨some 21, _, _, _, _, _⟩) (v := (.slice (some ⟨P2, o2, none⟩) an bc)) rfl (by kernel_rfl) (by kernel_rfl) (by kernel_rfl) (fun _ _ _ h => h) (Or.inl ⟨by rfl, ?_⟩) (by assumption) ?_
      · intro W hSW; go_simp
      simp only [Act.put, List.setIfInBounds_toArray, List.set_cons_zero, List.set_cons_succ]
      refine wpAnyH_take (i := 5) (oi := ⟨some 22, _, _, _, _, _⟩) (v := (.int .i64 ((k : Nat) : Int))) rfl (by kernel_rfl) (by kernel_rfl) (by kernel_rfl) (fun _ _ _ h => h) (Or.inl ⟨by rfl, ?_⟩) (by assumption) ?_
      · intro W hSW; go_simp
      simp only [Act.put, List.setIfInBounds_toArray, List.set_cons_zero, List.set_cons_succ]
      refine wpAnyH_take (i := 6) (oi := ⟨some 23, _, _, _, _, _⟩) (v := (.pointer (some ⟨P2, o2 + k, none⟩))) rfl (by kernel_rfl) (by kernel_rfl) (by kernel_rfl) (fun _ _ _ h => h) (Or.inl ⟨by rfl, ?_⟩) (by assumption) ?_
      · intro W hSW; go_simp
      simp only [Act.put, List.setIfInBounds_toArray, List.set_cons_zero, List.set_cons_succ]
      refine wpAnyH_take (i := 7) (oi := ⟨some 24, _, _, _, _, _⟩) (v := (.int .i64 (z : Int))) rfl (by kernel_rfl) (by kernel_rfl) (by kernel_rfl) (fun _ _ _ h => h) (Or.inl ⟨by rfl, ?_⟩) (by assumption) ?_
      · intro W hSW; obtain ⟨x0, x1⟩ := HX.out W hSW; go_simp
      simp only [Act.put, List.setIfInBounds_toArray, List.set_cons_zero, List.set_cons_succ]
      refine wpAnyH_take (i := 8) (oi := ⟨some 25, _, _, _, _, _⟩) (v := (.bool false)) rfl (by kernel_rfl) (by kernel_rfl) (by kernel_rfl) (fun _ _ _ h => h) (Or.inl ⟨by rfl, ?_⟩) (by assumption) ?_
      · intro W hSW; go_simp
      simp only [Act.put, List.setIfInBounds_toArray, List.set_cons_zero, List.set_cons_succ]
      refine wpAnyH_done (by kernel_rfl) ?_ _
      go_wp2_with fail
      go_roundw
      case rel => exact ⟨k + 1, by go_num, by omega, HA5.out⟩
      case measure => simp [intOf]; omega
    · obtain rfl : an = k := by omega
      go_wp2
      go_ret
      exact ⟨rfl, HA.out⟩
theorem rep_set (k : Nat) (x : Value) (us : List Value) (h : k < us.length) : (List.replicate k x ++ us.drop k).set k x = List.replicate (k + 1) x ++ us.drop (k + 1) := by
  rw [List.set_append_right _ _ (by simp), List.length_replicate, Nat.sub_self, List.drop_eq_getElem_cons h, List.set_cons_zero, List.replicate_succ', List.append_assoc]
  rfl
/-- the last six -/
def push6 {α : Type} (l : List α) (e : α) : List α := if 6 < (l ++ [e]).length then (l ++ [e]).tail else l ++ [e]
theorem push6_mem {α : Type} {l : List α} {e x : α} (h : x ∈ push6 l e) : x ∈ l ∨ x = e := by
  unfold push6 at h
  split at h
  · have := List.mem_of_mem_tail h; simpa using this
  · simpa using h
theorem push6_len {α : Type} {l : List α} {e : α} (h : l.length ≤ 6) : (push6 l e).length ≤ 6 := by
  unfold push6
  split
  · simp; omega
  · rename_i h1; omega
theorem push6_map {α β : Type} (f : α → β) (l : List α) (e : α) : push6 (l.map f) (f e) = (push6 l e).map f := by
  unfold push6
  simp only [List.length_append, List.length_map, List.length_singleton]
  split <;> simp
theorem cof_ki (x : Sx) (e : Sl × Nat) (f : Nat) (hf : f ∈ fs) : updC (updC x.cof 3 (push6 (x.cof 3) (.slice e.1.p e.1.n e.1.c))) 6 (push6 (x.cof 6) (.int .i64 (e.2 : Int))) f = Sx.cof { x with ki := push6 x.ki e } f := by
  have h3 : push6 (x.ki.map (fun e => e.1.v)) (.slice e.1.p e.1.n e.1.c) = (push6 x.ki e).map (fun e => e.1.v) := push6_map (fun e : Sl × Nat => e.1.v) x.ki e
  have h6 : push6 (x.ki.map (fun e => Value.int .i64 (e.2 : Int))) (.int .i64 (e.2 : Int)) = (push6 x.ki e).map (fun e => .int .i64 (e.2 : Int)) := push6_map (fun e : Sl × Nat => Value.int .i64 (e.2 : Int)) x.ki e
  simp only [fs, List.mem_cons, List.not_mem_nil, or_false] at hf
  rcases hf with rfl | rfl | rfl | rfl | rfl | rfl | rfl | rfl <;> simp [updC, Sx.cof, h3, h6]
/-- what keepInts leaves -/
structure KIPost (wa w w' : World) (P : Nat) (p : Px) (who : Nat → Option Nat) (q : Sl) : Prop where
  ex : ∃ who' X, PQ wa w' P { p with mark := p.mark + 1, x := { p.x with ki := push6 p.x.ki (q, p.mark + 1) } } who' (Sx.cof { p.x with ki := push6 p.x.ki (q, p.mark + 1) }) ∧ (∀ k s, who k = some s → who' k = some s) ∧ (∀ k s, who' k = some s → who k = some s ∨ w.heap.size ≤ k ∨ q.v.ownBlock = some k) ∧ Apart X w w' ∧ (∀ k ∈ X, who k ≠ none ∨ q.v.ownBlock = some k ∨ w.heap.size ≤ k)
theorem ki_fin {wa w wr w3 wd w5 wz : World} {P : Nat} {p : Px} {who who2 who4 : Nat → Option Nat} {q : Sl} {X2 X4 : List Nat} {L : Nat → List Value} (hPQ : PQ wa wz P { p with mark := p.mark + 1 } who4 L) (hL : ∀ f, f ∈ fs → L f = Sx.cof { p.x with ki := push6 p.x.ki (q, p.mark + 1) } f)
    (hPP : who P = some 0) (ob : OB wr (whoP who q.v.ownBlock 30) 30 q (List.replicate q.n (.int .i64 (-((p.mark + 1 : Nat) : Int)))) 3) (ar : Apart (P :: q.v.ownBlock.toList) w wr)
    (w1 : ∀ k s, who k = some s → whoP who q.v.ownBlock 30 k = some s) (w2 : ∀ k s, whoP who q.v.ownBlock 30 k = some s → who2 k = some s) (w4 : ∀ k s, who2 k = some s → who4 k = some s)
    (n2 : ∀ k s, who2 k = some s → whoP who q.v.ownBlock 30 k = some s ∨ (wr.heap.size ≤ k ∧ s = 3 + 10)) (n4 : ∀ k s, who4 k = some s → who2 k = some s ∨ (wd.heap.size ≤ k ∧ s = 6 + 10))
    (a2 : Apart X2 wr w3) (x2 : ∀ k ∈ X2, whoP who q.v.ownBlock 30 k = some 0 ∨ whoP who q.v.ownBlock 30 k = some (3 + 10)) (ad : Apart [] w3 wd) (a4 : Apart X4 wd w5) (x4 : ∀ k ∈ X4, who2 k = some 0 ∨ who2 k = some (6 + 10)) (az : Apart [P] w5 wz) : KIPost wa w wz P p who q := by
  have o3 := ob.mv a2 (fun k hk e => by rcases x2 k hk with h | h <;> rw [h] at e <;> simp at e) w2
  have o5 := (o3.mv ad (by simp) (fun _ _ h => h)).mv a4 (fun k hk e => by rcases x4 k hk with h | h <;> rw [h] at e <;> simp at e) w4
  have hP4 : who4 P = some 0 := w4 _ _ (w2 _ _ (w1 _ _ hPP))
  have oz := o5.mv az (fun k hk e => by simp at hk; subst hk; rw [hP4] at e; simp at e) (fun _ _ h => h)
  have hold : ∀ k s, whoP who q.v.ownBlock 30 k = some s → who k = some s ∨ q.v.ownBlock = some k := fun k s h => (whoP_new h).elim (fun e => .inr e.1) .inl
  have s1 := ar.size
  have s2 := a2.size
  have s3 := ad.size
  refine ⟨⟨who4, (P :: q.v.ownBlock.toList) ++ X2 ++ X4, (hPQ.congr hL).setX _ ⟨hPQ.an.kb, fun e he => ?_, hPQ.an.lf, hPQ.an.nm⟩, fun k s h => w4 _ _ (w2 _ _ (w1 _ _ h)), fun k s h => ?_, ?_, fun k hk => ?_⟩⟩
  · rcases push6_mem he with h | rfl
    · exact hPQ.an.ki e h
    · exact oz
  · rcases n4 k s h with h | ⟨h, _⟩
    · rcases n2 k s h with h | ⟨h, _⟩
      · rcases hold k s h with h | h
        · exact .inl h
        · exact .inr (.inr h)
      · exact .inr (.inl (by omega))
    · exact .inr (.inl (by omega))
  · exact ((((ar.mono (fun x hx => List.mem_append_left _ (List.mem_append_left _ hx))).trans (a2.mono (fun x hx => List.mem_append_left _ (List.mem_append_right _ hx)))).trans (ad.mono (by simp))).trans (a4.mono (fun x hx => List.mem_append_right _ hx))).trans (az.mono (fun x hx => by simp at hx; subst hx; simp))
  · simp only [List.mem_append, List.mem_cons] at hk
    rcases hk with ((rfl | hk) | hk) | hk
    · left; rw [hPP]; simp
    · exact .inr (.inl (by simpa using hk))
    · rcases x2 k hk with h | h <;> rcases hold k _ h with h | h
      · left; rw [h]; simp
      · exact .inr (.inl h)
      · left; rw [h]; simp
      · exact .inr (.inl h)
    · have : who2 k ≠ none := by rcases x4 k hk with h | h <;> rw [h] <;> simp
      cases e : who2 k with
      | none => exact absurd e this
      | some s =>
        rcases n2 k s e with h | ⟨h, _⟩
        · rcases hold k s h with h | h
          · left; rw [h]; simp
          · exact .inr (.inl h)
        · exact .inr (.inr (by omega))
set_option maxHeartbeats 8000000 in
set_option maxRecDepth 100000 in
theorem keepInts_ok {wa w : World} {P : Nat} {p : Px} {who : Nat → Option Nat} (h : PQ wa w P p who p.x.cof) (q : Sl) (us : List Value) (hq : w.ownsRow 0 3 1 q.v q.n us) (hfree : ∀ k, q.v.ownBlock = some k → who k = none ∧ wa.heap.size ≤ k) (hn : q.n ≤ 100000) (hm : p.mark ≤ 1000000) (hki : p.x.ki.length ≤ 6) : Calls Try.prog 44 #[.pointer (some ⟨P, 0, none⟩), .slice q.p q.n q.c] w fun r w' => r = .returned (.tuple #[]) ∧ KIPost wa w w' P p who q := by
  obtain ⟨qp, qn, qc⟩ := q
  dsimp only at hn ⊢
  obtain ⟨o0, o1, o4, o7, o12, ofz⟩ := h.sm.oth
  have hPs : P < w.heap.size := h.sm.lt
  have f4 := ofz 4
  obtain ⟨w1, hw1⟩ : ∃ w1, w1 = w.setCell ⟨P, 4, none⟩ (.int .i64 ((p.mark + 1 : Nat) : Int)) := ⟨_, rfl⟩
  have HP1 : Hid (PQ wa w1 P { p with mark := p.mark + 1 } who p.x.cof) := by rw [hw1]; exact h.mark _
  have a1 : Apart [P] w w1 := by rw [hw1]; exact (Apart.refl [P] w).setCell (by simp) _
  have HA1 := hid a1
  have hqP : ∀ k, (⟨qp, qn, qc⟩ : Sl).v.ownBlock = some k → k ≠ P := fun k hk e => by
    have := (hfree k hk).1
    rw [e, h.sm.wS] at this; cases this
  have HO1 := hid (own_apart hq a1 (fun k hk hm => hqP k hk (by simpa using hm)))
  have HF := hid hfree
  have hml : us.length = qn := by have := hq.1; dsimp only at this; omega
  have HML := hid hml
  have HH := hid h
  have ho4 : w.cell? ⟨P, 4, none⟩ = some (.int .i64 (p.mark : Int)) := o4
  clear h hq hfree o0 o1 o4 o7 o12 ofz a1 hml
  go_enter Try.func44, Try.ntmps44
  have hw1' : w1 = w.setCell ⟨P, 4, none⟩ (.int .i64 ((p.mark : Int) + 1)) := hw1
  go_upto_region 1 with fail
  rw [← hw1']
  have hc4 : w1.cell? ⟨P, 4, none⟩ = some (.int .i64 ((p.mark : Int) + 1)) := (HP1.out.sm.oth).2.2.1
  have HC4 := hid hc4
  clear hw1 hw1' ho4 f4 hc4
  go_wp2_with fail
  go_loopw [4] (fun v wr => ∃ k : Nat, v = .int .i64 (k : Nat) ∧ k ≤ qn ∧ PQ wa wr P { p with mark := p.mark + 1 } who p.x.cof ∧ wr.ownsRow 0 3 1 (.slice qp qn qc) qn (List.replicate k (.int .i64 (-((p.mark : Int) + 1))) ++ us.drop k) ∧ Apart (P :: (⟨qp, qn, qc⟩ : Sl).v.ownBlock.toList) w wr) (fun v _ => qn - (intOf v).toNat)
  case atStart => exact ⟨0, rfl, Nat.zero_le _, HP1.out, by simpa using (show w1.ownsRow 0 3 1 (.slice qp qn qc) qn us from HO1.out), HA1.out.mono (by simp)⟩
  case round =>
    obtain ⟨k, rfl, hk, hPr, hOr, hAr⟩ := hrel
    have HPr := hid hPr
    have HOr := hid hOr
    have HAr := hid hAr
    clear hPr hOr hAr
    by_cases hlt : k < qn
    · obtain ⟨g, hg⟩ : ∃ g, qp = some ⟨g, 0, none⟩ := by
        obtain ⟨_, ⟨hv, hz⟩ | ⟨g, cap, cur, hv, _⟩⟩ := HOr.out
        · omega
        · simp at hv; exact ⟨g, hv.1⟩
      subst hg
      have c4 : wr.cell? ⟨P, 4, none⟩ = some (.int .i64 ((p.mark : Int) + 1)) := (HPr.out.sm.oth).2.2.1
      have hul := HML.out
      have hlen : (List.replicate k (.int .i64 (-((p.mark : Int) + 1))) ++ us.drop k : List Value).length = qn := by simp [hul]; omega
      have cg : ∃ y, wr.cell? ⟨g, k, none⟩ = some y := by
        have := HOr.out.cellAt k (by omega)
        rw [List.getElem?_eq_getElem (by omega)] at this
        exact ⟨_, this⟩
      obtain ⟨y, cg⟩ := cg
      have fg := HOr.out.frozenAt k
      have st := HOr.out.stored k (.int .i64 (-((p.mark : Int) + 1)))
      have hgw : who g = none ∧ wa.heap.size ≤ g := HF.out g rfl
      have aG : Apart [g] wr (wr.setCell ⟨g, k, none⟩ (.int .i64 (-((p.mark : Int) + 1)))) := (Apart.refl [g] wr).setCell (by simp) _
      have HE : Hid (PQ wa (wr.setCell ⟨g, k, none⟩ (.int .i64 (-((p.mark : Int) + 1)))) P { p with mark := p.mark + 1 } who p.x.cof ∧ (wr.setCell ⟨g, k, none⟩ (.int .i64 (-((p.mark : Int) + 1)))).ownsRow 0 3 1 (.slice (some ⟨g, 0, none⟩) qn qc) qn (List.replicate (k + 1) (.int .i64 (-((p.mark : Int) + 1))) ++ us.drop (k + 1)) ∧ Apart (P :: (⟨some ⟨g, 0, none⟩, qn, qc⟩ : Sl).v.ownBlock.toList) w (wr.setCell ⟨g, k, none⟩ (.int .i64 (-((p.mark : Int) + 1))))) := by
        refine ⟨HPr.out.keptN aG (by simpa using hgw.1) (by simpa using hgw.2), ?_, HAr.out.trans (aG.mono (by simp [Sl.v, Value.ownBlock]))⟩
        have := st.1
        rwa [rep_set k _ us (by omega)] at this
      have hkz : ((k : Nat) : Int) < ((qn : Nat) : Int) := by omega
      clear st aG hlen hul
      go_wp2_with fail
      go_roundw
      case rel => exact ⟨k + 1, by go_num, by omega, HE.out.1, HE.out.2.1, HE.out.2.2⟩
      case measure => simp [intOf]; omega
    · obtain rfl : qn = k := by omega
      have hTag := HPr.out.tag (⟨qp, qn, qc⟩ : Sl).v.ownBlock 30 (fun k hk => ⟨(HF.out k hk).1, (HOr.out.lt k hk).2, (HF.out k hk).2⟩)
      obtain ⟨hQ, hQw⟩ := hTag
      have HQO : Hid (OB wr (whoP who (⟨qp, qn, qc⟩ : Sl).v.ownBlock 30) 30 ⟨qp, qn, qc⟩ (List.replicate qn (.int .i64 (-((p.mark + 1 : Nat) : Int)))) 3) := by
        refine ⟨?_, fun k hk => whoP_at hk⟩
        have := HOr.out
        rw [List.drop_eq_nil_of_le (by have := HML.out; omega), List.append_nil] at this
        exact this
      obtain ⟨p3, cp3, c3, f3, _⟩ := hQ.sm.field 3 (by decide)
      have hl3 : (p.x.cof 3).length ≤ 6 := by simpa [Sx.cof] using hki
      have hl6 : (p.x.cof 6).length ≤ 6 := by simpa [Sx.cof] using hki
      obtain ⟨p3', cp3', w2, who2, hrun3, ⟨y3, hy3⟩, hfz3, hPQ2, hw2, hn2, X2, a2, hX2⟩ := hQ.app 3 (by decide) (.slice qp qn qc) rfl (by omega) c3 64
      have hr3 : (Builtin.append_ #[64, 64] 64 #[.slice p3 (p.x.cof 3).length cp3, .slice (some ⟨wr.heap.size, 0, none⟩) 1 1]).run Try.prog (wr.alloc (.cells #[.slice qp qn qc] 65)) = .ok (.slice p3' ((p.x.cof 3).length + 1) cp3') w2 := hrun3
      obtain ⟨w3, hw3⟩ : ∃ w3, w3 = w2.setCell ⟨P, 3, none⟩ (.slice p3' ((p.x.cof 3).length + 1) cp3') := ⟨_, rfl⟩
      rw [← hw3] at hPQ2 a2
      have hPd := hPQ2.kept0 (Apart.refl [] w3).drew
      have e6 : updC p.x.cof 3 (p.x.cof 3 ++ [.slice qp qn qc]) 6 = p.x.cof 6 := by simp [updC]
      obtain ⟨p6, cp6, c6, f6, _⟩ := hPd.sm.field 6 (by decide)
      rw [e6] at c6
      obtain ⟨p6', cp6', w4, who4, hrun6, ⟨y6, hy6⟩, hfz6, hPQ4, hw4, hn4, X4, a4, hX4⟩ := hPd.app 6 (by decide) (.int .i64 ((p.mark : Int) + 1)) rfl (by rw [e6]; omega) (by rw [e6]; exact c6) 65
      rw [e6] at hrun6 hPQ4 a4
      have hr6 : (Builtin.append_ #[65, 65] 65 #[.slice p6 (p.x.cof 6).length cp6, .slice (some ⟨w3.drew.heap.size, 0, none⟩) 1 1]).run Try.prog (w3.drew.alloc (.cells #[.int .i64 ((p.mark : Int) + 1)] 3)) = .ok (.slice p6' ((p.x.cof 6).length + 1) cp6') w4 := hrun6
      have hS : w3.drew.cell? ⟨P, 4, none⟩ = some (.int .i64 ((p.mark : Int) + 1)) := (hPd.sm.oth).2.2.1
      have hSA : (w3.drew.alloc (.cells #[.int .i64 ((p.mark : Int) + 1)] 3)).cell? ⟨P, 4, none⟩ = some (.int .i64 ((p.mark : Int) + 1)) := ((hPd.kept0 ((Apart.refl [] _).alloc _)).sm.oth).2.2.1
      have xA : (w3.drew.alloc (.cells #[.int .i64 ((p.mark : Int) + 1)] 3)).cell? ⟨P, 6, none⟩ = some (.slice p6 (p.x.cof 6).length cp6) := ((Apart.refl [] w3.drew).alloc _).cell hPd.sm.lt (by simp) |>.trans c6
      obtain ⟨w5, hw5⟩ : ∃ w5, w5 = w4.setCell ⟨P, 6, none⟩ (.slice p6' ((p.x.cof 6).length + 1) cp6') := ⟨_, rfl⟩
      rw [← hw5] at hPQ4 a4
      have z16 : w5.cell? ⟨P, 4, none⟩ = some (.int .i64 ((p.mark : Int) + 1)) := (hPQ4.sm.oth).2.2.1
      have z15 : w4.cell? ⟨P, 4, none⟩ = some (.int .i64 ((p.mark : Int) + 1)) := by
        rw [hw5] at z16
        have e := World.cell?_setCell_other (w := w4) (a := ⟨P, 6, none⟩) (b := ⟨P, 4, none⟩) (v := .slice p6' ((p.x.cof 6).length + 1) cp6') (by simp)
        rw [← e]; exact z16
      have HPQ5 := hid hPQ4
      have HWW := hid (And.intro hQw (And.intro hw2 hw4))
      have HNN := hid (And.intro hn2 hn4)
      have HAA := hid (And.intro a2 (And.intro hX2 (And.intro a4 hX4)))
      have hPlt2 : P < w3.heap.size := hPQ2.sm.lt
      clear hQ hQw hPQ2 hrun3 hrun6 hw2 hw4 hn2 hn4 a2 a4 hX2 hX4 hPd hPQ4
      have hkz : ¬ ((qn : Int) < (qn : Int)) := by omega
      go_upto_region 6 with (at_builtin; refine wpList_append3 rfl (.tmp 30) (.tmp 32) 64 rfl _ _ rfl rfl _ _ hr3 ?_)
      rw [← hw3]
      clear hw3 hr3 c3 f3 hy3 hfz3
      refine wp_region_held_drew (S := fun X => X.cell? ⟨P, 4, none⟩ = some (.int .i64 ((p.mark : Int) + 1))) (by kernel_rfl) hS (fun hHeld => ?_)
      have HDW : Hid (Apart [] w3 w3.drew) := (Apart.refl [] w3).drew
      generalize w3.drew = wd at *
      refine wpAnyH_take (i := 0) (oi := ⟨some 36, _, _, _, _, _⟩) (v := (.pointer (some ⟨P, 0, none⟩))) rfl (by kernel_rfl) (by kernel_rfl) (by kernel_rfl) (fun _ _ _ h => h) (Or.inl ⟨by rfl, ?_⟩) (by assumption) ?_
      · intro W hSW; go_simp
      simp only [Act.put, List.setIfInBounds_toArray, List.set_cons_zero, List.set_cons_succ]
      refine wpAnyH_take (i := 1) (oi := ⟨some 37, _, _, _, _, _⟩) (v := (.pointer (some ⟨P, 0, none⟩))) rfl (by kernel_rfl) (by kernel_rfl) (by kernel_rfl) (fun _ _ _ h => h) (Or.inl ⟨by rfl, ?_⟩) (by assumption) ?_
      · intro W hSW; go_simp
      simp only [Act.put, List.setIfInBounds_toArray, List.set_cons_zero, List.set_cons_succ]
      refine wpAnyH_take (i := 2) (oi := ⟨some 38, _, _, _, _, _⟩) (v := (.pointer (some ⟨P, 0, none⟩))) rfl (by kernel_rfl) (by kernel_rfl) (by kernel_rfl) (fun _ _ _ h => h) (Or.inl ⟨by rfl, ?_⟩) (by assumption) ?_
      · intro W hSW; go_simp
      simp only [Act.put, List.setIfInBounds_toArray, List.set_cons_zero, List.set_cons_succ]
      refine wpAnyH_take (i := 3) (oi := ⟨some 39, _, _, _, _, _⟩) (v := (.pointer (some ⟨P, 5, none⟩))) rfl (by kernel_rfl) (by kernel_rfl) (by kernel_rfl) (fun _ _ _ h => h) (Or.inl ⟨by rfl, ?_⟩) (by assumption) ?_
      · intro W hSW; go_simp
      simp only [Act.put, List.setIfInBounds_toArray, List.set_cons_zero, List.set_cons_succ]
      refine wpAnyH_take (i := 4) (oi := ⟨some 40, _, _, _, _, _⟩) (v := (.pointer (some ⟨P, 6, none⟩))) rfl (by kernel_rfl) (by kernel_rfl) (by kernel_rfl) (fun _ _ _ h => h) (Or.inl ⟨by rfl, ?_⟩) (by assumption) ?_
      · intro W hSW; go_simp
      simp only [Act.put, List.setIfInBounds_toArray, List.set_cons_zero, List.set_cons_succ]
      refine wpAnyH_take (i := 6) (oi := ⟨some 42, _, _, _, _, _⟩) (v := (.pointer (some ⟨P, 0, none⟩))) rfl (by kernel_rfl) (by kernel_rfl) (by kernel_rfl) (fun _ _ _ h => h) (Or.inl ⟨by rfl, ?_⟩) (by assumption) ?_
      · intro W hSW; go_simp
      simp only [Act.put, List.setIfInBounds_toArray, List.set_cons_zero, List.set_cons_succ]
      refine wpAnyH_take (i := 7) (oi := ⟨some 43, _, _, _, _, _⟩) (v := (.pointer (some ⟨P, 0, none⟩))) rfl (by kernel_rfl) (by kernel_rfl) (by kernel_rfl) (fun _ _ _ h => h) (Or.inl ⟨by rfl, ?_⟩) (by assumption) ?_
      · intro W hSW; go_simp
      simp only [Act.put, List.setIfInBounds_toArray, List.set_cons_zero, List.set_cons_succ]
      refine wpAnyH_take (i := 8) (oi := ⟨some 44, _, _, _, _, _⟩) (v := (.pointer (some ⟨P, 4, none⟩))) rfl (by kernel_rfl) (by kernel_rfl) (by kernel_rfl) (fun _ _ _ h => h) (Or.inl ⟨by rfl, ?_⟩) (by assumption) ?_
      · intro W hSW; go_simp
      simp only [Act.put, List.setIfInBounds_toArray, List.set_cons_zero, List.set_cons_succ]
      refine wpAnyH_take (i := 9) (oi := ⟨some 45, _, _, _, _, _⟩) (v := (.int .i64 ((p.mark : Int) + 1))) rfl (by kernel_rfl) (by kernel_rfl) (by kernel_rfl) (fun _ _ _ h => h) (Or.inl ⟨by rfl, ?_⟩) (by assumption) ?_
      · intro W hSW; go_simp
      simp only [Act.put, List.setIfInBounds_toArray, List.set_cons_zero, List.set_cons_succ]
      refine wpAnyH_take (i := 12) (oi := ⟨some 48, _, _, _, _, _⟩) (v := (.pointer (some ⟨P, 0, none⟩))) rfl (by kernel_rfl) (by kernel_rfl) (by kernel_rfl) (fun _ _ _ h => h) (Or.inl ⟨by rfl, ?_⟩) (by assumption) ?_
      · intro W hSW; go_simp
      simp only [Act.put, List.setIfInBounds_toArray, List.set_cons_zero, List.set_cons_succ]
      refine wpAnyH_take (i := 13) (oi := ⟨some 49, _, _, _, _, _⟩) (v := (.pointer (some ⟨P, 5, none⟩))) rfl (by kernel_rfl) (by kernel_rfl) (by kernel_rfl) (fun _ _ _ h => h) (Or.inl ⟨by rfl, ?_⟩) (by assumption) ?_
      · intro W hSW; go_simp
      simp only [Act.put, List.setIfInBounds_toArray, List.set_cons_zero, List.set_cons_succ]
      refine wpAnyH_ready (rs := [5, 10]) (by kernel_rfl) (by simp) ?_
      refine AllReadyH.cons rfl (fun KK hKK => ?_) (AllReadyH.cons rfl (fun KK hKK => ?_) AllReadyH.nil)
      · go_simp
        refine hKK.out _ _ hS (fun hHeld => ?_)
        clear hKK KK
        refine wpAnyH_ready (rs := [10]) (by kernel_rfl) (by simp) ?_
        refine AllReadyH.cons rfl (fun KK hKK => ?_) AllReadyH.nil
        go_simp
        refine hKK.out _ _ hSA (fun hHeld => ?_)
        clear hKK KK
        refine wpAnyH_ready (rs := [11]) (by kernel_rfl) (by simp) ?_
        refine AllReadyH.cons rfl (fun KK hKK => ?_) AllReadyH.nil
        refine step_app2 (o := ⟨some 47, _, _, _, _, _⟩) rfl (.tmp 41) (.tmp 46) 65 65 rfl _ _ rfl rfl _ _ hr6 ?_
        refine hKK.out _ _ z15 (fun hHeld => ?_)
        clear hKK KK
        refine wpAnyH_take (i := 14) (oi := ⟨some 50, _, _, _, _, _⟩) (v := (.pointer (some ⟨P, 6, none⟩))) rfl (by kernel_rfl) (by kernel_rfl) (by kernel_rfl) (fun _ _ _ h => h) (Or.inl ⟨by rfl, ?_⟩) (by assumption) ?_
        · intro W hSW; go_simp
        simp only [Act.put, List.setIfInBounds_toArray, List.set_cons_zero, List.set_cons_succ]
        refine wpAnyH_ready (rs := [15]) (by kernel_rfl) (by simp) ?_
        refine AllReadyH.cons rfl (fun KK hKK => ?_) AllReadyH.nil
        go_simp
        rw [← hw5]
        refine hKK.out _ _ z16 (fun hHeld => ?_)
        clear hKK KK
        refine wpAnyH_done (by kernel_rfl) ?_ _
        obtain ⟨p3b, cp3b, c3b, f3b, _⟩ := HPQ5.out.sm.field 3 (by decide)
        have e33 : updC (updC p.x.cof 3 (p.x.cof 3 ++ [.slice qp qn qc])) 6 (p.x.cof 6 ++ [.int .i64 ((p.mark : Int) + 1)]) 3 = p.x.cof 3 ++ [.slice qp qn qc] := by simp [updC]
        have e66 : updC (updC p.x.cof 3 (p.x.cof 3 ++ [.slice qp qn qc])) 6 (p.x.cof 6 ++ [.int .i64 ((p.mark : Int) + 1)]) 6 = p.x.cof 6 ++ [.int .i64 ((p.mark : Int) + 1)] := by simp [updC]
        rw [e33, List.length_append, List.length_singleton] at c3b
        clear hr6 hw5 z15 z16 xA hSA hS c6 f6 hy6 hfz6
        by_cases h6 : 6 < (p.x.cof 3).length + 1
        · obtain ⟨g3, of3, cq3, c3c, hle3, hPQ6⟩ := HPQ5.out.cut 3 (by decide) (by rw [e33]; simp; omega)
          rw [e33] at c3c hle3 hPQ6
          simp only [List.length_append, List.length_singleton, Nat.add_sub_cancel] at c3c hle3 hPQ6
          obtain ⟨w6, hw6⟩ : ∃ w6, w6 = w5.setCell ⟨P, 3, none⟩ (.slice (some ⟨g3, of3 + 1, none⟩) (p.x.cof 3).length (cq3 - 1)) := ⟨_, rfl⟩
          rw [← hw6] at hPQ6
          have a6 : Apart [P] w5 w6 := by rw [hw6]; exact (Apart.refl [P] w5).setCell (by simp) _
          have hPd6 := hPQ6.kept0 (Apart.refl [] w6).drew
          have e662 : updC (updC (updC p.x.cof 3 (p.x.cof 3 ++ [.slice qp qn qc])) 6 (p.x.cof 6 ++ [.int .i64 ((p.mark : Int) + 1)])) 3 (p.x.cof 3 ++ [Value.slice qp qn qc]).tail 6 = p.x.cof 6 ++ [.int .i64 ((p.mark : Int) + 1)] := by simp [updC]
          have hk36 : (p.x.cof 3).length = (p.x.cof 6).length := by simp [Sx.cof]
          obtain ⟨g6, of6, cq6, c6c, hle6, hPQ7⟩ := hPd6.cut 6 (by decide) (by rw [e662]; simp; omega)
          rw [e662] at c6c hle6 hPQ7
          simp only [List.length_append, List.length_singleton, Nat.add_sub_cancel] at c6c hle6 hPQ7
          obtain ⟨w7, hw7⟩ : ∃ w7, w7 = w6.drew.setCell ⟨P, 6, none⟩ (.slice (some ⟨g6, of6 + 1, none⟩) (p.x.cof 6).length (cq6 - 1)) := ⟨_, rfl⟩
          rw [← hw7] at hPQ7
          have a7 : Apart [P] w6 w7 := by rw [hw7]; exact (Apart.refl [P] w6).drew.trans ((Apart.refl [P] _).setCell (by simp) _)
          have HPQ7 := hid hPQ7
          have HA67 := hid (a6.trans a7)
          have fz3 := (HPQ5.out.sm.oth).2.2.2.2.2 3
          have fz6 := (hPd6.sm.oth).2.2.2.2.2 6
          have h6z : (6 : Int) < ((p.x.cof 3).length : Int) + 1 := by omega
          have hb3 : (1 : Int) ≤ ((p.x.cof 3).length : Int) + 1 := by omega
          have hb3c : ((p.x.cof 3).length : Int) + 1 ≤ (cq3 : Int) := by omega
          have hb3d : ¬ cq3 = 1 := by omega
          have hb6 : (1 : Int) ≤ ((p.x.cof 6).length : Int) + 1 := by omega
          have hb6c : ((p.x.cof 6).length : Int) + 1 ≤ (cq6 : Int) := by omega
          have hb6d : ¬ cq6 = 1 := by omega
          have HK36 := hid hk36
          clear hPQ6 hPQ7 hPd6 a6 a7 c3b hk36 e33 e66 e662
          go_upto_region 9 with fail
          rw [← hw6]
          clear hw6
          refine wp_region_held_drew (S := fun _ => True) (by kernel_rfl) trivial (fun hHeld => ?_)
          refine wpAnyH_take (i := 0) (oi := ⟨some 65, _, _, _, _, _⟩) (v := (.pointer (some ⟨P, 0, none⟩))) rfl (by kernel_rfl) (by kernel_rfl) (by kernel_rfl) (fun _ _ _ h => h) (Or.inl ⟨by rfl, ?_⟩) (by assumption) ?_
          · intro W hSW; go_simp
          simp only [Act.put, List.setIfInBounds_toArray, List.set_cons_zero, List.set_cons_succ]
          refine wpAnyH_take (i := 1) (oi := ⟨some 66, _, _, _, _, _⟩) (v := (.pointer (some ⟨P, 0, none⟩))) rfl (by kernel_rfl) (by kernel_rfl) (by kernel_rfl) (fun _ _ _ h => h) (Or.inl ⟨by rfl, ?_⟩) (by assumption) ?_
          · intro W hSW; go_simp
          simp only [Act.put, List.setIfInBounds_toArray, List.set_cons_zero, List.set_cons_succ]
          refine wpAnyH_take (i := 2) (oi := ⟨some 67, _, _, _, _, _⟩) (v := (.pointer (some ⟨P, 0, none⟩))) rfl (by kernel_rfl) (by kernel_rfl) (by kernel_rfl) (fun _ _ _ h => h) (Or.inl ⟨by rfl, ?_⟩) (by assumption) ?_
          · intro W hSW; go_simp
          simp only [Act.put, List.setIfInBounds_toArray, List.set_cons_zero, List.set_cons_succ]
          refine wpAnyH_take (i := 3) (oi := ⟨some 68, _, _, _, _, _⟩) (v := (.pointer (some ⟨P, 5, none⟩))) rfl (by kernel_rfl) (by kernel_rfl) (by kernel_rfl) (fun _ _ _ h => h) (Or.inl ⟨by rfl, ?_⟩) (by assumption) ?_
          · intro W hSW; go_simp
          simp only [Act.put, List.setIfInBounds_toArray, List.set_cons_zero, List.set_cons_succ]
          refine wpAnyH_take (i := 4) (oi := ⟨some 69, _, _, _, _, _⟩) (v := (.pointer (some ⟨P, 6, none⟩))) rfl (by kernel_rfl) (by kernel_rfl) (by kernel_rfl) (fun _ _ _ h => h) (Or.inl ⟨by rfl, ?_⟩) (by assumption) ?_
          · intro W hSW; go_simp
          simp only [Act.put, List.setIfInBounds_toArray, List.set_cons_zero, List.set_cons_succ]
          refine wpAnyH_take (i := 7) (oi := ⟨some 72, _, _, _, _, _⟩) (v := (.pointer (some ⟨P, 0, none⟩))) rfl (by kernel_rfl) (by kernel_rfl) (by kernel_rfl) (fun _ _ _ h => h) (Or.inl ⟨by rfl, ?_⟩) (by assumption) ?_
          · intro W hSW; go_simp
          simp only [Act.put, List.setIfInBounds_toArray, List.set_cons_zero, List.set_cons_succ]
          refine wpAnyH_take (i := 8) (oi := ⟨some 73, _, _, _, _, _⟩) (v := (.pointer (some ⟨P, 5, none⟩))) rfl (by kernel_rfl) (by kernel_rfl) (by kernel_rfl) (fun _ _ _ h => h) (Or.inl ⟨by rfl, ?_⟩) (by assumption) ?_
          · intro W hSW; go_simp
          simp only [Act.put, List.setIfInBounds_toArray, List.set_cons_zero, List.set_cons_succ]
          refine wpAnyH_ready (rs := [5]) (by kernel_rfl) (by simp) ?_
          refine AllReadyH.cons rfl (fun KK hKK => ?_) AllReadyH.nil
          go_simp
          refine hKK.out _ _ trivial (fun hHeld => ?_)
          clear hKK KK
          refine wpAnyH_take (i := 6) (oi := ⟨some 71, _, _, _, _, _⟩) (v := (.slice (some ⟨g6, of6 + 1, none⟩) (p.x.cof 6).length (cq6 - 1))) rfl (by kernel_rfl) (by kernel_rfl) (by kernel_rfl) (fun _ _ _ h => h) (Or.inl ⟨by rfl, ?_⟩) (by assumption) ?_
          · intro W hSW; go_simp
          simp only [Act.put, List.setIfInBounds_toArray, List.set_cons_zero, List.set_cons_succ]
          refine wpAnyH_take (i := 9) (oi := ⟨some 74, _, _, _, _, _⟩) (v := (.pointer (some ⟨P, 6, none⟩))) rfl (by kernel_rfl) (by kernel_rfl) (by kernel_rfl) (fun _ _ _ h => h) (Or.inl ⟨by rfl, ?_⟩) (by assumption) ?_
          · intro W hSW; go_simp
          simp only [Act.put, List.setIfInBounds_toArray, List.set_cons_zero, List.set_cons_succ]
          refine wpAnyH_ready (rs := [10]) (by kernel_rfl) (by simp) ?_
          refine AllReadyH.cons rfl (fun KK hKK => ?_) AllReadyH.nil
          go_simp
          refine hKK.out _ _ trivial (fun hHeld => ?_)
          clear hKK KK
          refine wpAnyH_done (by kernel_rfl) ?_ _
          have HFIN : Hid (KIPost wa w w7 P p who ⟨qp, qn, qc⟩) := ki_fin HPQ7.out (fun f hf => by
            rw [← cof_ki p.x (⟨qp, qn, qc⟩, p.mark + 1) f hf]
            have e3 : push6 (p.x.cof 3) (.slice qp qn qc) = (p.x.cof 3 ++ [Value.slice qp qn qc]).tail := by unfold push6; rw [if_pos (by simp; omega)]
            have e6 : push6 (p.x.cof 6) (.int .i64 ((p.mark + 1 : Nat) : Int)) = (p.x.cof 6 ++ [Value.int .i64 ((p.mark : Int) + 1)]).tail := by unfold push6; rw [if_pos (by have := HK36.out; simp; omega)]; rfl
            dsimp only
            rw [e3, e6]
            simp only [fs, List.mem_cons, List.not_mem_nil, or_false] at hf
            rcases hf with rfl | rfl | rfl | rfl | rfl | rfl | rfl | rfl <;> simp [updC]) HH.out.sm.wS HQO.out HAr.out HWW.out.1 HWW.out.2.1 HWW.out.2.2 HNN.out.1 HNN.out.2 HAA.out.1 HAA.out.2.1 HDW.out HAA.out.2.2.1 HAA.out.2.2.2 HA67.out
          have hw7' : (w6.setCell ⟨P, 6, none⟩ (.slice (some ⟨g6, of6 + 1, none⟩) (p.x.cof 6).length (cq6 - 1))).drew = w7 := hw7.symm
          rw [hw7']
          clear hw7 hw7'
          go_wp2_with fail
          first | refine bodyPost_ret (results_none rfl _ _ _) rfl ?_ | refine bodyPost_end (results_none rfl _ _ _) rfl ?_
          exact ⟨rfl, HFIN.out⟩
        · have h6z : ¬ (6 : Int) < ((p.x.cof 3).length : Int) + 1 := by omega
          have hk36 : (p.x.cof 3).length = (p.x.cof 6).length := by simp [Sx.cof]
          have HFIN : Hid (KIPost wa w w5 P p who ⟨qp, qn, qc⟩) := ki_fin HPQ5.out (fun f hf => by
            rw [← cof_ki p.x (⟨qp, qn, qc⟩, p.mark + 1) f hf]
            have e3 : push6 (p.x.cof 3) (.slice qp qn qc) = p.x.cof 3 ++ [.slice qp qn qc] := by unfold push6; rw [if_neg (by simp; omega)]
            have e6 : push6 (p.x.cof 6) (.int .i64 ((p.mark + 1 : Nat) : Int)) = p.x.cof 6 ++ [.int .i64 ((p.mark : Int) + 1)] := by unfold push6; rw [if_neg (by simp; omega)]; rfl
            dsimp only
            rw [e3, e6]) HH.out.sm.wS HQO.out HAr.out HWW.out.1 HWW.out.2.1 HWW.out.2.2 HNN.out.1 HNN.out.2 HAA.out.1 HAA.out.2.1 HDW.out HAA.out.2.2.1 HAA.out.2.2.2 (Apart.refl _ _)
          clear hk36 e33 e66
          go_wp2_with fail
          first | refine bodyPost_ret (results_none rfl _ _ _) rfl ?_ | refine bodyPost_end (results_none rfl _ _ _) rfl ?_
          exact ⟨rfl, HFIN.out⟩
      · go_simp
        refine hKK.out _ _ hSA (fun hHeld => ?_)
        clear hKK KK
        refine wpAnyH_ready (rs := [5]) (by kernel_rfl) (by simp) ?_
        refine AllReadyH.cons rfl (fun KK hKK => ?_) AllReadyH.nil
        go_simp
        refine hKK.out _ _ hSA (fun hHeld => ?_)
        clear hKK KK
        refine wpAnyH_ready (rs := [11]) (by kernel_rfl) (by simp) ?_
        refine AllReadyH.cons rfl (fun KK hKK => ?_) AllReadyH.nil
        refine step_app2 (o := ⟨some 47, _, _, _, _, _⟩) rfl (.tmp 41) (.tmp 46) 65 65 rfl _ _ rfl rfl _ _ hr6 ?_
        refine hKK.out _ _ z15 (fun hHeld => ?_)
        clear hKK KK
        refine wpAnyH_take (i := 14) (oi := ⟨some 50, _, _, _, _, _⟩) (v := (.pointer (some ⟨P, 6, none⟩))) rfl (by kernel_rfl) (by kernel_rfl) (by kernel_rfl) (fun _ _ _ h => h) (Or.inl ⟨by rfl, ?_⟩) (by assumption) ?_
        · intro W hSW; go_simp
        simp only [Act.put, List.setIfInBounds_toArray, List.set_cons_zero, List.set_cons_succ]
        refine wpAnyH_ready (rs := [15]) (by kernel_rfl) (by simp) ?_
        refine AllReadyH.cons rfl (fun KK hKK => ?_) AllReadyH.nil
        go_simp
        rw [← hw5]
        refine hKK.out _ _ z16 (fun hHeld => ?_)
        clear hKK KK
        refine wpAnyH_done (by kernel_rfl) ?_ _
        obtain ⟨p3b, cp3b, c3b, f3b, _⟩ := HPQ5.out.sm.field 3 (by decide)
        have e33 : updC (updC p.x.cof 3 (p.x.cof 3 ++ [.slice qp qn qc])) 6 (p.x.cof 6 ++ [.int .i64 ((p.mark : Int) + 1)]) 3 = p.x.cof 3 ++ [.slice qp qn qc] := by simp [updC]
        have e66 : updC (updC p.x.cof 3 (p.x.cof 3 ++ [.slice qp qn qc])) 6 (p.x.cof 6 ++ [.int .i64 ((p.mark : Int) + 1)]) 6 = p.x.cof 6 ++ [.int .i64 ((p.mark : Int) + 1)] := by simp [updC]
        rw [e33, List.length_append, List.length_singleton] at c3b
        clear hr6 hw5 z15 z16 xA hSA hS c6 f6 hy6 hfz6
        by_cases h6 : 6 < (p.x.cof 3).length + 1
        · obtain ⟨g3, of3, cq3, c3c, hle3, hPQ6⟩ := HPQ5.out.cut 3 (by decide) (by rw [e33]; simp; omega)
          rw [e33] at c3c hle3 hPQ6
          simp only [List.length_append, List.length_singleton, Nat.add_sub_cancel] at c3c hle3 hPQ6
          obtain ⟨w6, hw6⟩ : ∃ w6, w6 = w5.setCell ⟨P, 3, none⟩ (.slice (some ⟨g3, of3 + 1, none⟩) (p.x.cof 3).length (cq3 - 1)) := ⟨_, rfl⟩
          rw [← hw6] at hPQ6
          have a6 : Apart [P] w5 w6 := by rw [hw6]; exact (Apart.refl [P] w5).setCell (by simp) _
          have hPd6 := hPQ6.kept0 (Apart.refl [] w6).drew
          have e662 : updC (updC (updC p.x.cof 3 (p.x.cof 3 ++ [.slice qp qn qc])) 6 (p.x.cof 6 ++ [.int .i64 ((p.mark : Int) + 1)])) 3 (p.x.cof 3 ++ [Value.slice qp qn qc]).tail 6 = p.x.cof 6 ++ [.int .i64 ((p.mark : Int) + 1)] := by simp [updC]
          have hk36 : (p.x.cof 3).length = (p.x.cof 6).length := by simp [Sx.cof]
          obtain ⟨g6, of6, cq6, c6c, hle6, hPQ7⟩ := hPd6.cut 6 (by decide) (by rw [e662]; simp; omega)
          rw [e662] at c6c hle6 hPQ7
          simp only [List.length_append, List.length_singleton, Nat.add_sub_cancel] at c6c hle6 hPQ7
          obtain ⟨w7, hw7⟩ : ∃ w7, w7 = w6.drew.setCell ⟨P, 6, none⟩ (.slice (some ⟨g6, of6 + 1, none⟩) (p.x.cof 6).length (cq6 - 1)) := ⟨_, rfl⟩
          rw [← hw7] at hPQ7
          have a7 : Apart [P] w6 w7 := by rw [hw7]; exact (Apart.refl [P] w6).drew.trans ((Apart.refl [P] _).setCell (by simp) _)
          have HPQ7 := hid hPQ7
          have HA67 := hid (a6.trans a7)
          have fz3 := (HPQ5.out.sm.oth).2.2.2.2.2 3
          have fz6 := (hPd6.sm.oth).2.2.2.2.2 6
          have h6z : (6 : Int) < ((p.x.cof 3).length : Int) + 1 := by omega
          have hb3 : (1 : Int) ≤ ((p.x.cof 3).length : Int) + 1 := by omega
          have hb3c : ((p.x.cof 3).length : Int) + 1 ≤ (cq3 : Int) := by omega
          have hb3d : ¬ cq3 = 1 := by omega
          have hb6 : (1 : Int) ≤ ((p.x.cof 6).length : Int) + 1 := by omega
          have hb6c : ((p.x.cof 6).length : Int) + 1 ≤ (cq6 : Int) := by omega
          have hb6d : ¬ cq6 = 1 := by omega
          have HK36 := hid hk36
          clear hPQ6 hPQ7 hPd6 a6 a7 c3b hk36 e33 e66 e662
          go_upto_region 9 with fail
          rw [← hw6]
          clear hw6
          refine wp_region_held_drew (S := fun _ => True) (by kernel_rfl) trivial (fun hHeld => ?_)
          refine wpAnyH_take (i := 0) (oi := ⟨some 65, _, _, _, _, _⟩) (v := (.pointer (some ⟨P, 0, none⟩))) rfl (by kernel_rfl) (by kernel_rfl) (by kernel_rfl) (fun _ _ _ h => h) (Or.inl ⟨by rfl, ?_⟩) (by assumption) ?_
          · intro W hSW; go_simp
          simp only [Act.put, List.setIfInBounds_toArray, List.set_cons_zero, List.set_cons_succ]
          refine wpAnyH_take (i := 1) (oi := ⟨some 66, _, _, _, _, _⟩) (v := (.pointer (some ⟨P, 0, none⟩))) rfl (by kernel_rfl) (by kernel_rfl) (by kernel_rfl) (fun _ _ _ h => h) (Or.inl ⟨by rfl, ?_⟩) (by assumption) ?_
          · intro W hSW; go_simp
          simp only [Act.put, List.setIfInBounds_toArray, List.set_cons_zero, List.set_cons_succ]
          refine wpAnyH_take (i := 2) (oi := ⟨some 67, _, _, _, _, _⟩) (v := (.pointer (some ⟨P, 0, none⟩))) rfl (by kernel_rfl) (by kernel_rfl) (by kernel_rfl) (fun _ _ _ h => h) (Or.inl ⟨by rfl, ?_⟩) (by assumption) ?_
          · intro W hSW; go_simp
          simp only [Act.put, List.setIfInBounds_toArray, List.set_cons_zero, List.set_cons_succ]
          refine wpAnyH_take (i := 3) (oi := ⟨some 68, _, _, _, _, _⟩) (v := (.pointer (some ⟨P, 5, none⟩))) rfl (by kernel_rfl) (by kernel_rfl) (by kernel_rfl) (fun _ _ _ h => h) (Or.inl ⟨by rfl, ?_⟩) (by assumption) ?_
          · intro W hSW; go_simp
          simp only [Act.put, List.setIfInBounds_toArray, List.set_cons_zero, List.set_cons_succ]
          refine wpAnyH_take (i := 4) (oi := ⟨some 69, _, _, _, _, _⟩) (v := (.pointer (some ⟨P, 6, none⟩))) rfl (by kernel_rfl) (by kernel_rfl) (by kernel_rfl) (fun _ _ _ h => h) (Or.inl ⟨by rfl, ?_⟩) (by assumption) ?_
          · intro W hSW; go_simp
          simp only [Act.put, List.setIfInBounds_toArray, List.set_cons_zero, List.set_cons_succ]
          refine wpAnyH_take (i := 7) (oi := ⟨some 72, _, _, _, _, _⟩) (v := (.pointer (some ⟨P, 0, none⟩))) rfl (by kernel_rfl) (by kernel_rfl) (by kernel_rfl) (fun _ _ _ h => h) (Or.inl ⟨by rfl, ?_⟩) (by assumption) ?_
          · intro W hSW; go_simp
          simp only [Act.put, List.setIfInBounds_toArray, List.set_cons_zero, List.set_cons_succ]
          refine wpAnyH_take (i := 8) (oi := ⟨some 73, _, _, _, _, _⟩) (v := (.pointer (some ⟨P, 5, none⟩))) rfl (by kernel_rfl) (by kernel_rfl) (by kernel_rfl) (fun _ _ _ h => h) (Or.inl ⟨by rfl, ?_⟩) (by assumption) ?_
          · intro W hSW; go_simp
          simp only [Act.put, List.setIfInBounds_toArray, List.set_cons_zero, List.set_cons_succ]
          refine wpAnyH_ready (rs := [5]) (by kernel_rfl) (by simp) ?_
          refine AllReadyH.cons rfl (fun KK hKK => ?_) AllReadyH.nil
          go_simp
          refine hKK.out _ _ trivial (fun hHeld => ?_)
          clear hKK KK
          refine wpAnyH_take (i := 6) (oi := ⟨some 71, _, _, _, _, _⟩) (v := (.slice (some ⟨g6, of6 + 1, none⟩) (p.x.cof 6).length (cq6 - 1))) rfl (by kernel_rfl) (by kernel_rfl) (by kernel_rfl) (fun _ _ _ h => h) (Or.inl ⟨by rfl, ?_⟩) (by assumption) ?_
          · intro W hSW; go_simp
          simp only [Act.put, List.setIfInBounds_toArray, List.set_cons_zero, List.set_cons_succ]
          refine wpAnyH_take (i := 9) (oi := ⟨some 74, _, _, _, _, _⟩) (v := (.pointer (some ⟨P, 6, none⟩))) rfl (by kernel_rfl) (by kernel_rfl) (by kernel_rfl) (fun _ _ _ h => h) (Or.inl ⟨by rfl, ?_⟩) (by assumption) ?_
          · intro W hSW; go_simp
          simp only [Act.put, List.setIfInBounds_toArray, List.set_cons_zero, List.set_cons_succ]
          refine wpAnyH_ready (rs := [10]) (by kernel_rfl) (by simp) ?_
          refine AllReadyH.cons rfl (fun KK hKK => ?_) AllReadyH.nil
          go_simp
          refine hKK.out _ _ trivial (fun hHeld => ?_)
          clear hKK KK
          refine wpAnyH_done (by kernel_rfl) ?_ _
          have HFIN : Hid (KIPost wa w w7 P p who ⟨qp, qn, qc⟩) := ki_fin HPQ7.out (fun f hf => by
            rw [← cof_ki p.x (⟨qp, qn, qc⟩, p.mark + 1) f hf]
            have e3 : push6 (p.x.cof 3) (.slice qp qn qc) = (p.x.cof 3 ++ [Value.slice qp qn qc]).tail := by unfold push6; rw [if_pos (by simp; omega)]
            have e6 : push6 (p.x.cof 6) (.int .i64 ((p.mark + 1 : Nat) : Int)) = (p.x.cof 6 ++ [Value.int .i64 ((p.mark : Int) + 1)]).tail := by unfold push6; rw [if_pos (by have := HK36.out; simp; omega)]; rfl
            dsimp only
            rw [e3, e6]
            simp only [fs, List.mem_cons, List.not_mem_nil, or_false] at hf
            rcases hf with rfl | rfl | rfl | rfl | rfl | rfl | rfl | rfl <;> simp [updC]) HH.out.sm.wS HQO.out HAr.out HWW.out.1 HWW.out.2.1 HWW.out.2.2 HNN.out.1 HNN.out.2 HAA.out.1 HAA.out.2.1 HDW.out HAA.out.2.2.1 HAA.out.2.2.2 HA67.out
          have hw7' : (w6.setCell ⟨P, 6, none⟩ (.slice (some ⟨g6, of6 + 1, none⟩) (p.x.cof 6).length (cq6 - 1))).drew = w7 := hw7.symm
          rw [hw7']
          clear hw7 hw7'
          go_wp2_with fail
          first | refine bodyPost_ret (results_none rfl _ _ _) rfl ?_ | refine bodyPost_end (results_none rfl _ _ _) rfl ?_
          exact ⟨rfl, HFIN.out⟩
        · have h6z : ¬ (6 : Int) < ((p.x.cof 3).length : Int) + 1 := by omega
          have hk36 : (p.x.cof 3).length = (p.x.cof 6).length := by simp [Sx.cof]
          have HFIN : Hid (KIPost wa w w5 P p who ⟨qp, qn, qc⟩) := ki_fin HPQ5.out (fun f hf => by
            rw [← cof_ki p.x (⟨qp, qn, qc⟩, p.mark + 1) f hf]
            have e3 : push6 (p.x.cof 3) (.slice qp qn qc) = p.x.cof 3 ++ [.slice qp qn qc] := by unfold push6; rw [if_neg (by simp; omega)]
            have e6 : push6 (p.x.cof 6) (.int .i64 ((p.mark + 1 : Nat) : Int)) = p.x.cof 6 ++ [.int .i64 ((p.mark : Int) + 1)] := by unfold push6; rw [if_neg (by simp; omega)]; rfl
            dsimp only
            rw [e3, e6]) HH.out.sm.wS HQO.out HAr.out HWW.out.1 HWW.out.2.1 HWW.out.2.2 HNN.out.1 HNN.out.2 HAA.out.1 HAA.out.2.1 HDW.out HAA.out.2.2.1 HAA.out.2.2.2 (Apart.refl _ _)
          clear hk36 e33 e66
          go_wp2_with fail
          first | refine bodyPost_ret (results_none rfl _ _ _) rfl ?_ | refine bodyPost_end (results_none rfl _ _ _) rfl ?_
          exact ⟨rfl, HFIN.out⟩
end Go.Proofs.Ytiakcfjbnlibfaa.nt
