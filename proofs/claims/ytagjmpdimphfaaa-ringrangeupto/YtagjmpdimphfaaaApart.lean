import Derived.Test.YtagjmpdimphfaaaAsm2
import Derived.Test.YtagjmpdimphfaaaJoins
namespace Go.Proofs.Ytagjmpdimphfaaa.rg
open Go.ChangeShapes Go.WideShapes Go.ChangeAt Go.RowKit
set_option linter.unusedVariables false
set_option linter.unusedSimpArgs false
/-- the lists that were left, the first i of them written full, of the next one the first j -/
def Fill (w : World) (lf : List An) (i j : Nat) : Prop := ∀ (t : Nat) (a : An), lf[t]? = some a → ∃ ys, (An.mk a.p a.n a.cap ys).At w ∧ (t < i → ∀ s, s < a.n → ys.getD s 0 = -1 - (t : Int)) ∧ (t = i → ∀ s, s < j → ys.getD s 0 = -1 - (t : Int))
/-- no two lie in one row -/
def Dis (lf : List An) : Prop := ∀ (t u : Nat) (a b : An) (k : Nat), lf[t]? = some a → lf[u]? = some b → a.blk = some k → b.blk = some k → t = u
theorem Fill.next {w : World} {lf : List An} {i : Nat} {a : An} (h : Fill w lf i a.n) (ha : lf[i]? = some a) : Fill w lf (i + 1) 0 := by
  intro t b hb
  obtain ⟨ys, h1, h2, h3⟩ := h t b hb
  refine ⟨ys, h1, fun ht s hs => ?_, fun _ s hs => absurd hs (Nat.not_lt_zero _)⟩
  by_cases hti : t = i
  · subst hti
    rw [ha] at hb; cases hb
    exact h3 rfl s hs
  · exact h2 (by omega) s hs
theorem Fill.put {w : World} {lf : List An} {i j P o : Nat} {a : An} (h : Fill w lf i j) (hd : Dis lf) (ha : lf[i]? = some a) (hj : j < a.n) (hp : a.p = some ⟨P, o, none⟩) : Fill (w.setCell ⟨P, o + j, none⟩ (.int .i64 (-1 - (i : Int)))) lf i (j + 1) := by
  intro t b hb
  obtain ⟨ys, h1, h2, h3⟩ := h t b hb
  by_cases hti : t = i
  · subst hti
    rw [ha] at hb; cases hb
    have hob : Ob w P o a.n a.cap ys := by
      rcases h1 with ⟨e, _⟩ | ⟨P', o', e, h5⟩
      · simp only at e; rw [e] at hp; cases hp
      · simp only at e h5; rw [e] at hp; simp at hp; obtain ⟨rfl, rfl⟩ := hp; exact h5
    have hl := hob.len
    refine ⟨ys.set j (-1 - (t : Int)), .inr ⟨P, o, hp, ob_set hob j hj _⟩, fun ht => absurd ht (Nat.lt_irrefl _), fun _ s hs => ?_⟩
    by_cases hsj : s = j
    · subst hsj
      rw [List.getD_eq_getElem?_getD, List.getElem?_set_self (by omega)]; rfl
    · have := h3 rfl s (by omega)
      rw [List.getD_eq_getElem?_getD] at this ⊢
      rw [List.getElem?_set_ne (Ne.symm hsj)]; exact this
  · refine ⟨ys, h1.kept ((Apart.refl [P] w).setCell (by simp) _) (fun k hk hm => ?_), h2, fun e => absurd e hti⟩
    simp at hm; subst hm
    exact hti (hd t i b a k hb ha hk (by simp [An.blk, hp]))
theorem Fill.start {w : World} {S mark : Nat} {d : Sd} {who : Nat → Option Nat} (h : Sh w S mark d who) : Fill w d.lf 0 0 := fun t a ha => ⟨a.zs, (h.alf t a ha).1, fun h => absurd h (Nat.not_lt_zero _), fun _ s hs => absurd hs (Nat.not_lt_zero _)⟩
theorem Sh.dis {w : World} {S mark : Nat} {d : Sd} {who : Nat → Option Nat} (h : Sh w S mark d who) : Dis d.lf := fun t u a b k ha hb hka hkb => by
  have h1 := (h.alf t a ha).2.1 k hka
  have h2 := (h.alf u b hb).2.1 k hkb
  rw [h1] at h2; simp at h2; exact h2
def blks (lf : List An) : List Nat := lf.filterMap An.blk
theorem Sh.tag {w : World} {S mark : Nat} {d : Sd} {who : Nat → Option Nat} (h : Sh w S mark d who) {k : Nat} (hk : k ∈ blks d.lf) : ∃ i, who k = some (7 + i) := by
  simp only [blks, List.mem_filterMap] at hk
  obtain ⟨a, ha, hb⟩ := hk
  obtain ⟨i, hi, e⟩ := List.getElem_of_mem ha
  exact ⟨i, (h.alf i a (by rw [List.getElem?_eq_getElem hi, e])).2.1 k hb⟩
theorem Sh.fieldX {w : World} {S mark : Nat} {d : Sd} {who : Nat → Option Nat} (h : Sh w S mark d who) (f : Nat) (hf : f ∈ fs) : ∃ p cp, ∀ wr, Apart (blks d.lf) w wr → wr.cell? ⟨S, f, none⟩ = some (.slice p (d.c f).length cp) ∧
    ∀ i x, (d.c f)[i]? = some x → ∃ g o, p = some ⟨g, o, none⟩ ∧ wr.cell? ⟨g, o + i, none⟩ = some x := by
  obtain ⟨v, G, hr, hfs⟩ := h.sm.ex
  obtain ⟨hs, ht⟩ := hfs f hf
  have hcell : w.cell? ⟨S, f, none⟩ = some (v f) := by rw [cell_of_row _ _ _ _ _ _ hr, rowS_get v mark f hf]
  have hSb : S ∉ blks d.lf := fun hm => by obtain ⟨i, hi⟩ := h.tag hm; rw [h.sm.wS] at hi; have := Option.some.inj hi; omega
  cases hG : G f with
  | none =>
    rw [hG] at hs
    obtain ⟨hv, hx⟩ := hs
    exact ⟨none, 0, fun wr a => ⟨by rw [a.cell (p := ⟨S, f, none⟩) h.sm.lt hSb, hcell, hv, hx]; rfl, fun i x hi => by rw [hx] at hi; simp at hi⟩⟩
  | some g =>
    rw [hG] at hs
    obtain ⟨off, cap, cur, hv, hg, hle, hsz, hc⟩ := hs
    have hgb : g ∉ blks d.lf := fun hm => by
      obtain ⟨i, hi⟩ := h.tag hm
      rw [ht g hG] at hi
      simp only [fs, List.mem_cons, List.not_mem_nil, or_false] at hf
      simp at hi; omega
    refine ⟨some ⟨g, off, none⟩, cap, fun wr a => ⟨by rw [a.cell (p := ⟨S, f, none⟩) h.sm.lt hSb, hcell, hv], fun i x hi => ⟨g, off, rfl, ?_⟩⟩⟩
    have hil : i < (d.c f).length := (List.getElem?_eq_some_iff.1 hi).1
    rw [a.cell (p := ⟨g, off + i, none⟩) (lt_of_heap hg) hgb, cell_of_row _ _ _ _ _ _ hg, hc i hil]; exact hi
set_option maxHeartbeats 8000000 in
set_option maxRecDepth 100000 in
theorem apart_ok {w : World} {S mark : Nat} {d : Sd} {who : Nat → Option Nat} (h : Sh w S mark d who) (hmk : mark ≤ 900) :
    Calls Try.prog 23 #[.pointer (some ⟨S, 0, none⟩)] w fun r w' => r = .returned (.bool true) ∧ Apart (blks d.lf) w w' := by
  have HS : Hid (Sh w S mark d who) := h
  have hL9 : d.lf.length ≤ 900 := by have := h.lfm; omega
  obtain ⟨L, HL⟩ : ∃ L, Hid (L = d.lf.length) := ⟨_, rfl⟩
  rw [← HL.out] at hL9
  have hf3 : ∃ p3 c3, Hid (∀ wr, Apart (blks d.lf) w wr → wr.cell? ⟨S, 3, none⟩ = some (.slice p3 L c3) ∧ ∀ (i : Nat) (a : An), d.lf[i]? = some a → ∃ g o, p3 = some ⟨g, o, none⟩ ∧ wr.cell? ⟨g, o + i, none⟩ = some (.slice a.p a.n a.cap)) := by
    obtain ⟨p3, c3, h3⟩ := h.fieldX 3 (by simp [fs])
    have hl : (d.c 3).length = L := by rw [HL.out]; simp [Sd.c]
    rw [hl] at h3
    exact ⟨p3, c3, fun wr a => ⟨(h3 wr a).1, fun i x hx => (h3 wr a).2 i x.v (by simp [Sd.c, hx])⟩⟩
  have hf4 : ∃ p3 c3, Hid (∀ wr, Apart (blks d.lf) w wr → wr.cell? ⟨S, 4, none⟩ = some (.slice p3 L c3) ∧ ∀ (i : Nat) (a : An), d.we[i]? = some a → ∃ g o, p3 = some ⟨g, o, none⟩ ∧ wr.cell? ⟨g, o + i, none⟩ = some (.slice a.p a.n a.cap)) := by
    obtain ⟨p3, c3, h3⟩ := h.fieldX 4 (by simp [fs])
    have hl : (d.c 4).length = L := by rw [HL.out, h.pl.lw]; simp [Sd.c]
    rw [hl] at h3
    exact ⟨p3, c3, fun wr a => ⟨(h3 wr a).1, fun i x hx => (h3 wr a).2 i x.v (by simp [Sd.c, hx])⟩⟩
  obtain ⟨p3, c3, HF3⟩ := hf3
  obtain ⟨p4, c4, HF4⟩ := hf4
  clear h
  go_enter Try.func23, Try.ntmps23
  go_wp2_with fail
  go_loopw [3] (fun v wr => ∃ i : Nat, i ≤ L ∧ v = .int .i64 i ∧ Apart [] w wr) (fun v _ => L - (intOf v).toNat)
  case atStart => exact ⟨0, Nat.zero_le _, rfl, Apart.refl _ _⟩
  case round =>
    obtain ⟨i, hi, rfl, aR⟩ := hrel
    have cS3 := (HF3.out _ (aR.mono (by simp))).1
    by_cases hlt : i < L
    · have hil : i < d.lf.length := by rw [← HL.out]; exact hlt
      have hiw : i < d.we.length := by rw [← HS.out.pl.lw, ← HL.out]; exact hlt
      obtain ⟨a, Ha⟩ : ∃ a, Hid (d.lf[i]? = some a) := ⟨_, List.getElem?_eq_getElem hil⟩
      obtain ⟨b, Hb⟩ : ∃ b, Hid (d.we[i]? = some b) := ⟨_, List.getElem?_eq_getElem hiw⟩
      obtain ⟨aAt, _, an8⟩ := HS.out.alf i a Ha.out
      obtain ⟨bAt, _, bn8⟩ := HS.out.awe b (List.mem_of_getElem? Hb.out)
      have hzz := HS.out.pl.sam i a b Ha.out Hb.out
      have HIA : Hid (Ir wr.drew a.p a.n a.zs) := (aAt.kept aR.drew (by simp)).ir
      have HIB : Hid (Ir wr.drew b.p b.n a.zs) := by
        have := (bAt.kept aR.drew (by simp)).ir
        rw [← hzz] at this; exact this
      obtain ⟨g, o, rfl, _⟩ := (HF3.out _ (aR.mono (by simp))).2 i a Ha.out
      obtain ⟨g4, o4, rfl, _⟩ := (HF4.out _ (aR.mono (by simp))).2 i b Hb.out
      obtain ⟨ap, Hap⟩ : ∃ ap, Hid (ap = a.p) := ⟨_, rfl⟩
      obtain ⟨an, Han⟩ : ∃ an, Hid (an = a.n) := ⟨_, rfl⟩
      obtain ⟨ac, Hac⟩ : ∃ ac, Hid (ac = a.cap) := ⟨_, rfl⟩
      obtain ⟨bp, Hbp⟩ : ∃ bp, Hid (bp = b.p) := ⟨_, rfl⟩
      obtain ⟨bn, Hbn⟩ : ∃ bn, Hid (bn = b.n) := ⟨_, rfl⟩
      obtain ⟨bc, Hbc⟩ : ∃ bc, Hid (bc = b.cap) := ⟨_, rfl⟩
      have r3 : ∀ X, Apart [] w X → X.cell? ⟨S, 3, none⟩ = some (.slice (some ⟨g, o, none⟩) L c3) := fun X aX => (HF3.out X (aX.mono (by simp))).1
      have r4 : ∀ X, Apart [] w X → X.cell? ⟨S, 4, none⟩ = some (.slice (some ⟨g4, o4, none⟩) L c4) := fun X aX => (HF4.out X (aX.mono (by simp))).1
      have r5 : ∀ X, Apart [] w X → X.cell? ⟨g, o + i, none⟩ = some (.slice ap an ac) := fun X aX => by
        obtain ⟨g', o', he, hx⟩ := (HF3.out X (aX.mono (by simp))).2 i a Ha.out
        simp only [Option.some.injEq, Addr.mk.injEq, and_true] at he
        rw [← he.1, ← he.2] at hx
        rw [Hap.out, Han.out, Hac.out]; exact hx
      have r6 : ∀ X, Apart [] w X → X.cell? ⟨g4, o4 + i, none⟩ = some (.slice bp bn bc) := fun X aX => by
        obtain ⟨g', o', he, hx⟩ := (HF4.out X (aX.mono (by simp))).2 i b Hb.out
        simp only [Option.some.injEq, Addr.mk.injEq, and_true] at he
        rw [← he.1, ← he.2] at hx
        rw [Hbp.out, Hbn.out, Hbc.out]; exact hx
      rw [← Hap.out, ← Han.out] at HIA
      rw [← Hbp.out, ← Hbn.out] at HIB
      rw [← Han.out] at an8
      rw [← Hbn.out] at bn8
      have aD : Apart [] w wr.drew := aR.drew
      clear aAt bAt hzz hil hiw
      go_wp2_with fail
      refine wp_region_held_drew (S := fun X => Apart [] w X) (by kernel_rfl) aD (fun hHeld => ?_)
      refine wpAnyH_take (i := 0) (oi := ⟨some 17, _, _, _, _, _⟩) (v := (.pointer (some ⟨S, 0, none⟩))) rfl (by kernel_rfl) (by kernel_rfl) (by kernel_rfl) (fun _ _ _ h => h) (Or.inl ⟨by rfl, ?_⟩) (by assumption) ?_
      · intro W hSW; go_simp
      simp only [Act.put, List.setIfInBounds_toArray, List.set_cons_zero, List.set_cons_succ]
      refine wpAnyH_take (i := 1) (oi := ⟨some 18, _, _, _, _, _⟩) (v := (.pointer (some ⟨S, 0, none⟩))) rfl (by kernel_rfl) (by kernel_rfl) (by kernel_rfl) (fun _ _ _ h => h) (Or.inl ⟨by rfl, ?_⟩) (by assumption) ?_
      · intro W hSW; go_simp
      simp only [Act.put, List.setIfInBounds_toArray, List.set_cons_zero, List.set_cons_succ]
      refine wpAnyH_take (i := 2) (oi := ⟨some 19, _, _, _, _, _⟩) (v := (.pointer (some ⟨S, 3, none⟩))) rfl (by kernel_rfl) (by kernel_rfl) (by kernel_rfl) (fun _ _ _ h => h) (Or.inl ⟨by rfl, ?_⟩) (by assumption) ?_
      · intro W hSW; go_simp
      simp only [Act.put, List.setIfInBounds_toArray, List.set_cons_zero, List.set_cons_succ]
      refine wpAnyH_take (i := 3) (oi := ⟨some 20, _, _, _, _, _⟩) (v := (.slice (some ⟨g, o, none⟩) L c3)) rfl (by kernel_rfl) (by kernel_rfl) (by kernel_rfl) (fun _ _ _ h => h) (Or.inl ⟨by rfl, ?_⟩) (by assumption) ?_
      · intro W hSW; go_simp
      simp only [Act.put, List.setIfInBounds_toArray, List.set_cons_zero, List.set_cons_succ]
      refine wpAnyH_take (i := 4) (oi := ⟨some 21, _, _, _, _, _⟩) (v := (.int .i64 (i : Nat))) rfl (by kernel_rfl) (by kernel_rfl) (by kernel_rfl) (fun _ _ _ h => h) (Or.inl ⟨by rfl, ?_⟩) (by assumption) ?_
      · intro W hSW; go_simp
      simp only [Act.put, List.setIfInBounds_toArray, List.set_cons_zero, List.set_cons_succ]
      refine wpAnyH_take (i := 5) (oi := ⟨some 22, _, _, _, _, _⟩) (v := (.pointer (some ⟨g, o + i, none⟩))) rfl (by kernel_rfl) (by kernel_rfl) (by kernel_rfl) (fun _ _ _ h => h) (Or.inl ⟨by rfl, ?_⟩) (by assumption) ?_
      · intro W hSW; go_simp
      simp only [Act.put, List.setIfInBounds_toArray, List.set_cons_zero, List.set_cons_succ]
      refine wpAnyH_take (i := 6) (oi := ⟨some 23, _, _, _, _, _⟩) (v := (.slice ap an ac)) rfl (by kernel_rfl) (by kernel_rfl) (by kernel_rfl) (fun _ _ _ h => h) (Or.inl ⟨by rfl, ?_⟩) (by assumption) ?_
      · intro W hSW; go_simp
      simp only [Act.put, List.setIfInBounds_toArray, List.set_cons_zero, List.set_cons_succ]
      refine wpAnyH_take (i := 7) (oi := ⟨some 24, _, _, _, _, _⟩) (v := (.pointer (some ⟨S, 0, none⟩))) rfl (by kernel_rfl) (by kernel_rfl) (by kernel_rfl) (fun _ _ _ h => h) (Or.inl ⟨by rfl, ?_⟩) (by assumption) ?_
      · intro W hSW; go_simp
      simp only [Act.put, List.setIfInBounds_toArray, List.set_cons_zero, List.set_cons_succ]
      refine wpAnyH_take (i := 8) (oi := ⟨some 25, _, _, _, _, _⟩) (v := (.pointer (some ⟨S, 0, none⟩))) rfl (by kernel_rfl) (by kernel_rfl) (by kernel_rfl) (fun _ _ _ h => h) (Or.inl ⟨by rfl, ?_⟩) (by assumption) ?_
      · intro W hSW; go_simp
      simp only [Act.put, List.setIfInBounds_toArray, List.set_cons_zero, List.set_cons_succ]
      refine wpAnyH_take (i := 9) (oi := ⟨some 26, _, _, _, _, _⟩) (v := (.pointer (some ⟨S, 4, none⟩))) rfl (by kernel_rfl) (by kernel_rfl) (by kernel_rfl) (fun _ _ _ h => h) (Or.inl ⟨by rfl, ?_⟩) (by assumption) ?_
      · intro W hSW; go_simp
      simp only [Act.put, List.setIfInBounds_toArray, List.set_cons_zero, List.set_cons_succ]
      refine wpAnyH_take (i := 10) (oi := ⟨some 27, _, _, _, _, _⟩) (v := (.slice (some ⟨g4, o4, none⟩) L c4)) rfl (by kernel_rfl) (by kernel_rfl) (by kernel_rfl) (fun _ _ _ h => h) (Or.inl ⟨by rfl, ?_⟩) (by assumption) ?_
      · intro W hSW; go_simp
      simp only [Act.put, List.setIfInBounds_toArray, List.set_cons_zero, List.set_cons_succ]
      refine wpAnyH_take (i := 11) (oi := ⟨some 28, _, _, _, _, _⟩) (v := (.int .i64 (i : Nat))) rfl (by kernel_rfl) (by kernel_rfl) (by kernel_rfl) (fun _ _ _ h => h) (Or.inl ⟨by rfl, ?_⟩) (by assumption) ?_
      · intro W hSW; go_simp
      simp only [Act.put, List.setIfInBounds_toArray, List.set_cons_zero, List.set_cons_succ]
      refine wpAnyH_take (i := 12) (oi := ⟨some 29, _, _, _, _, _⟩) (v := (.pointer (some ⟨g4, o4 + i, none⟩))) rfl (by kernel_rfl) (by kernel_rfl) (by kernel_rfl) (fun _ _ _ h => h) (Or.inl ⟨by rfl, ?_⟩) (by assumption) ?_
      · intro W hSW; go_simp
      simp only [Act.put, List.setIfInBounds_toArray, List.set_cons_zero, List.set_cons_succ]
      refine wpAnyH_take (i := 13) (oi := ⟨some 30, _, _, _, _, _⟩) (v := (.slice bp bn bc)) rfl (by kernel_rfl) (by kernel_rfl) (by kernel_rfl) (fun _ _ _ h => h) (Or.inl ⟨by rfl, ?_⟩) (by assumption) ?_
      · intro W hSW; go_simp
      simp only [Act.put, List.setIfInBounds_toArray, List.set_cons_zero, List.set_cons_succ]
      refine wpAnyH_ready (rs := [14]) (by kernel_rfl) (by simp) ?_
      refine AllReadyH.cons rfl (fun KK hKK => ?_) AllReadyH.nil
      go_simp
      refine (same_yes HIA.out HIB.out (by omega) (by omega)).mono ?_
      rintro r w2 ⟨rfl, aq⟩
      dsimp only
      have aD2 := aD.trans aq
      refine hKK.out _ _ (by assumption) (fun hHeld => ?_)
      clear hKK KK
      refine wpAnyH_take (i := 15) (oi := ⟨some 32, _, _, _, _, _⟩) (v := (.bool false)) rfl (by kernel_rfl) (by kernel_rfl) (by kernel_rfl) (fun _ _ _ h => h) (Or.inl ⟨by rfl, ?_⟩) (by assumption) ?_
      · intro W hSW; go_simp
      simp only [Act.put, List.setIfInBounds_toArray, List.set_cons_zero, List.set_cons_succ]
      refine wpAnyH_done (by kernel_rfl) ?_ _
      go_wp2_with fail
      go_roundw
      case rel => exact ⟨i + 1, by omega, by simp, by assumption⟩
      case measure => simp only [intOf]; omega
    · obtain rfl : i = L := by omega
      have hst : Apart (blks d.lf) w wr ∧ Fill wr d.lf 0 0 := ⟨aR.mono (by simp), Fill.start (HS.out.kept0 aR)⟩
      have HST : Hid (Apart (blks d.lf) w wr ∧ Fill wr d.lf 0 0) := hst
      clear hst aR
      go_wp2_with fail
      clear cS3
      go_loopw [4] (fun v w2 => ∃ k : Nat, k ≤ i ∧ v = .int .i64 k ∧ Apart (blks d.lf) w w2 ∧ Fill w2 d.lf k 0) (fun v _ => i - (intOf v).toNat)
      case atStart => exact ⟨0, Nat.zero_le _, rfl, HST.out.1, HST.out.2⟩
      case round =>
        clear HST
        obtain ⟨k, hk, rfl, aK, fK⟩ := hrel
        have cS3 := (HF3.out _ aK).1
        have HFK : Hid (Fill wr d.lf k 0) := fK
        clear fK
        by_cases hki : k < i
        · have hil : k < d.lf.length := by rw [← HL.out]; exact hki
          obtain ⟨a, Ha⟩ : ∃ a, Hid (d.lf[k]? = some a) := ⟨_, List.getElem?_eq_getElem hil⟩
          obtain ⟨_, _, an8⟩ := HS.out.alf k a Ha.out
          obtain ⟨an, Han⟩ : ∃ an, Hid (an = a.n) := ⟨_, rfl⟩
          rw [← Han.out] at an8
          clear hil
          go_wp2_with fail
          go_loopw [5] (fun v w3 => ∃ m : Nat, m ≤ an ∧ v = .int .i64 m ∧ Apart (blks d.lf) w w3 ∧ Fill w3 d.lf k m) (fun v _ => an - (intOf v).toNat)
          case atStart => exact ⟨0, Nat.zero_le _, rfl, aK, HFK.out⟩
          case round =>
            clear cS3 HFK aK
            obtain ⟨m, hm, rfl, aM, fM⟩ := hrel
            have dS3 := (HF3.out _ aM).1
            obtain ⟨g, o, rfl, cE⟩ := (HF3.out _ aM).2 k a Ha.out
            obtain ⟨ys, yAt, _, _⟩ := fM k a Ha.out
            by_cases hma : m < an
            · have hman : m < a.n := by rw [← Han.out]; exact hma
              obtain ⟨P, oo, hpp, hPP, hcc⟩ := yAt.ir.at' (show 0 < a.n by omega)
              simp only at hpp
              have cm := hcc m hman
              have fz : wr.frozen? ⟨P, oo + m, none⟩ = false := by
                rcases yAt with ⟨e, _⟩ | ⟨P', o', e, h5⟩
                · simp only at e; rw [e] at hpp; cases hpp
                · simp only at e h5; rw [e] at hpp; simp at hpp; obtain ⟨rfl, rfl⟩ := hpp
                  obtain ⟨cur, hr, _⟩ := h5.ex
                  exact frozen_of_row _ _ _ _ _ hr
              have HP : Hid (Fill (wr.setCell ⟨P, oo + m, none⟩ (.int .i64 (-1 - (k : Int)))) d.lf k (m + 1) ∧ Apart (blks d.lf) w (wr.setCell ⟨P, oo + m, none⟩ (.int .i64 (-1 - (k : Int))))) :=
                ⟨fM.put HS.out.dis Ha.out hman hpp, aM.setCell (.inl (by simp only [blks, List.mem_filterMap]; exact ⟨a, List.mem_of_getElem? Ha.out, by simp [An.blk, hpp]⟩)) _⟩
              rw [hpp, ← Han.out] at cE
              obtain ⟨ac, Hac⟩ : ∃ ac, Hid (ac = a.cap) := ⟨_, rfl⟩
              rw [← Hac.out] at cE
              have hk63 : (k : Int) ≤ 900 := by omega
              clear hcc yAt fM aM hman hpp
              go_wp2_with fail
              go_roundw
              case rel => exact ⟨m + 1, by omega, by simp, HP.out.2, HP.out.1⟩
              case measure => simp only [intOf]; omega
            · obtain rfl : m = an := by omega
              have HNX : Hid (Fill wr d.lf (k + 1) 0) := Fill.next (by rw [← Han.out]; exact fM) Ha.out
              rw [← Han.out] at cE
              obtain ⟨ac, Hac⟩ : ∃ ac, Hid (ac = a.cap) := ⟨_, rfl⟩
              obtain ⟨ap, Hap⟩ : ∃ ap, Hid (ap = a.p) := ⟨_, rfl⟩
              rw [← Hac.out, ← Hap.out] at cE
              clear yAt fM
              go_wp2_with fail
              go_roundw
              case rel => exact ⟨k + 1, by omega, by simp, aM, HNX.out⟩
              case measure => simp only [intOf]; omega
        · obtain rfl : k = i := by omega
          go_wp2_with fail
          clear cS3
          go_loopw [6] (fun v w2 => ∃ t : Nat, t ≤ k ∧ v = .int .i64 t ∧ Apart (blks d.lf) w w2 ∧ Fill w2 d.lf k 0) (fun v _ => k - (intOf v).toNat)
          case atStart => exact ⟨0, Nat.zero_le _, rfl, aK, HFK.out⟩
          case round =>
            clear HFK aK
            obtain ⟨t, ht, rfl, aT, fT⟩ := hrel
            have cS3 := (HF3.out _ aT).1
            have HFT : Hid (Fill wr d.lf k 0) := fT
            clear fT
            by_cases htk : t < k
            · have hil : t < d.lf.length := by rw [← HL.out]; exact htk
              obtain ⟨a, Ha⟩ : ∃ a, Hid (d.lf[t]? = some a) := ⟨_, List.getElem?_eq_getElem hil⟩
              obtain ⟨_, _, an8⟩ := HS.out.alf t a Ha.out
              obtain ⟨an, Han⟩ : ∃ an, Hid (an = a.n) := ⟨_, rfl⟩
              rw [← Han.out] at an8
              clear hil
              go_wp2_with fail
              go_loopw [7] (fun v w3 => ∃ m : Nat, m ≤ an ∧ v = .int .i64 m ∧ Apart (blks d.lf) w w3 ∧ Fill w3 d.lf k 0) (fun v _ => an - (intOf v).toNat)
              case atStart => exact ⟨0, Nat.zero_le _, rfl, aT, HFT.out⟩
              case round =>
                clear cS3 HFT aT
                obtain ⟨m, hm, rfl, aM, fM⟩ := hrel
                have dS3 := (HF3.out _ aM).1
                obtain ⟨g, o, rfl, cE⟩ := (HF3.out _ aM).2 t a Ha.out
                obtain ⟨ys, yAt, hyt, _⟩ := fM t a Ha.out
                have HFM : Hid (Fill wr d.lf k 0) := fM
                by_cases hma : m < an
                · have hman : m < a.n := by rw [← Han.out]; exact hma
                  obtain ⟨P, oo, hpp, hPP, hcc⟩ := yAt.ir.at' (show 0 < a.n by omega)
                  simp only at hpp
                  have cm := hcc m hman
                  simp only at cm
                  rw [hyt htk m hman] at cm
                  rw [hpp, ← Han.out] at cE
                  obtain ⟨ac, Hac⟩ : ∃ ac, Hid (ac = a.cap) := ⟨_, rfl⟩
                  rw [← Hac.out] at cE
                  have ht63 : (t : Int) ≤ 900 := by omega
                  clear hcc yAt fM hman hpp hyt
                  go_wp2_with fail
                  go_roundw
                  case rel => exact ⟨m + 1, by omega, by simp, aM, HFM.out⟩
                  case measure => simp only [intOf]; omega
                · obtain rfl : m = an := by omega
                  rw [← Han.out] at cE
                  obtain ⟨ac, Hac⟩ : ∃ ac, Hid (ac = a.cap) := ⟨_, rfl⟩
                  obtain ⟨ap, Hap⟩ : ∃ ap, Hid (ap = a.p) := ⟨_, rfl⟩
                  rw [← Hac.out, ← Hap.out] at cE
                  clear yAt fM hyt
                  go_wp2_with fail
                  go_roundw
                  case rel => exact ⟨t + 1, by omega, by simp, aM, HFM.out⟩
                  case measure => simp only [intOf]; omega
            · obtain rfl : t = k := by omega
              go_wp2_with fail
              go_ret
              exact ⟨rfl, aT⟩
end Go.Proofs.Ytagjmpdimphfaaa.rg
