import Derived.Test.YtllhmidpphlbhaaX18
import Derived.Laws.Strings
namespace Go.Proofs.Ytllhmidpphlbhaa.ds
open Go.ChangeShapes Go.WideShapes Go.ChangeAt Go.RowKit Go.Sort
set_option linter.unusedVariables false
set_option linter.unusedSimpArgs false

/-! a reader does not look at what lies behind it -/
def Af (n : Nat) (B C : List Nat) : Prop := ∀ i, n ≤ i → B.getD i 0 = C.getD i 0
theorem Af.mono {n m : Nat} {B C : List Nat} (h : Af n B C) (hm : n ≤ m) : Af m B C := fun i hi => h i (by omega)
theorem le_af {B C : List Nat} : ∀ (k q : Nat), Af q B C → le B k q = le C k q
  | 0, q, h => rfl
  | k + 1, q, h => by unfold le; rw [h q (Nat.le_refl _), le_af k (q + 1) (h.mono (by omega))]
theorem num_af {B C : List Nat} {s : Ps} (h : Af s.at_ B C) (k lo hi : Nat) : num C k lo hi s = num B k lo hi s := by
  unfold num; rw [le_af k s.at_ h]
theorem textR_af {B C : List Nat} {s : Ps} (h : Af s.at_ B C) (lo hi : Nat) : textR C lo hi s = textR B lo hi s := by
  unfold textR; rw [num_af h]
theorem spanR_af {B C : List Nat} {s : Ps} (h : Af s.at_ B C) (lo dn dc : Nat) : spanR C lo dn dc s = spanR B lo dn dc s := by
  have h1 := num_at B 1 lo 7 s
  have h2 := num_at B 4 0 1048576 (num B 1 lo 7 s).2
  unfold spanR
  rw [num_af h]
  dsimp only
  rw [num_af (h.mono (by omega)), le_af (B := B) (C := C) 8 _ (h.mono (by omega))]
theorem spansR_af {B C : List Nat} {dn dc : Nat} : ∀ (m lo : Nat) {s : Ps}, Af s.at_ B C → spansR C dn dc m lo s = spansR B dn dc m lo s
  | 0, _, s, h => rfl
  | m + 1, lo, s, h => by
    have h1 := spanR_at B lo dn dc s
    unfold spansR
    rw [spanR_af h, spansR_af m _ (h.mono h1.1)]
theorem setR_af {B C : List Nat} {s : Ps} (h : Af s.at_ B C) (dn dc : Nat) : setR C dn dc s = setR B dn dc s := by
  have h1 := num_at B 1 0 8 s
  unfold setR
  rw [num_af h, spansR_af _ _ (h.mono h1.1)]
theorem writeR_af {B C : List Nat} {s : Ps} (h : Af s.at_ B C) (an ac : Nat) : writeR C an ac s = writeR B an ac s := by
  unfold writeR
  dsimp only
  have a1 := num_at B 1 an 7 s
  rw [num_af h]
  generalize num B 1 an 7 s = a at a1
  have b1 := num_at B 4 (leastC an ac a.1) 1048576 a.2
  rw [num_af (h.mono a1.1)]
  generalize num B 4 (leastC an ac a.1) 1048576 a.2 = b at b1
  have d1 := num_at B 1 0 1 b.2
  rw [num_af (h.mono (by omega))]
  generalize num B 1 0 1 b.2 = d at d1
  have v1 := textR_at B 0 (mostV (d.1 == 1)) d.2
  rw [textR_af (h.mono (by omega))]
  generalize textR B 0 (mostV (d.1 == 1)) d.2 = v at v1
  rw [setR_af (h.mono (by omega))]
theorem writesR_af {B C : List Nat} : ∀ (m an ac : Nat) {s : Ps}, Af s.at_ B C → writesR C m an ac s = writesR B m an ac s
  | 0, _, _, s, h => rfl
  | m + 1, an, ac, s, h => by
    have h1 := writeR_at B an ac s
    unfold writesR
    rw [writeR_af h, writesR_af m _ _ (h.mono h1.1)]
/-! a reader that went well did not look at what lies ahead of it -/
theorem num_ah {B C : List Nat} {k lo hi : Nat} {s : Ps} (hb : (num B k lo hi s).2.bad = false) (h : Ag (num B k lo hi s).2.at_ B C) : num C k lo hi s = num B k lo hi s := by
  obtain ⟨_, e, _⟩ := num_ok B k lo hi s hb
  rw [e] at h
  unfold num
  rw [le_ag k s.at_ h]
theorem spanR_ah {B C : List Nat} {lo dn dc : Nat} {s : Ps} (hb : (spanR B lo dn dc s).2.bad = false) (h : Ag (spanR B lo dn dc s).2.at_ B C) : spanR C lo dn dc s = spanR B lo dn dc s := by
  revert hb h
  unfold spanR
  dsimp only
  generalize ha : num B 1 lo 7 s = a
  generalize hb : num B 4 0 1048576 a.2 = b
  split
  · rename_i q; intro hbb; rw [q] at hbb; cases hbb
  · rename_i q
    have qb : b.2.bad = false := by simpa using q
    split
    · rename_i qc
      intro _ h
      dsimp only at h
      have b1 := num_at B 4 0 1048576 a.2
      rw [hb] at b1
      have e2 : num C 4 0 1048576 a.2 = b := by rw [← hb]; exact num_ah (by rw [hb]; exact qb) (by rw [hb]; exact h.mono (by omega))
      have qa : a.2.bad = false := by have := num_ok1 (B := B) (k := 4) (lo := 0) (hi := 1048576) (s := a.2) (by rw [hb]; exact qb); exact this
      have e1 : num C 1 lo 7 s = a := by rw [← ha]; exact num_ah (by rw [ha]; exact qa) (by rw [ha]; exact h.mono (by omega))
      rw [e1, e2, if_neg q, ← le_ag 8 b.2.at_ h, if_pos qc]
    · intro hbb; cases hbb
theorem spansR_ah {B C : List Nat} {dn dc : Nat} : ∀ (m lo : Nat) {s : Ps}, (spansR B dn dc m lo s).2.bad = false → Ag (spansR B dn dc m lo s).2.at_ B C → spansR C dn dc m lo s = spansR B dn dc m lo s
  | 0, _, s, hb, h => rfl
  | m + 1, lo, s, hb, h => by
    unfold spansR at hb h ⊢
    dsimp only at hb h
    have h1 := spansR_at B dn dc m ((spanR B lo dn dc s).1.n.toNat + 1) (spanR B lo dn dc s).2
    rw [spanR_ah (spansR_ok1 hb) (h.mono h1.1), spansR_ah m _ hb h]
theorem setR_ah {B C : List Nat} {dn dc : Nat} {s : Ps} (hb : (setR B dn dc s).2.bad = false) (h : Ag (setR B dn dc s).2.at_ B C) : setR C dn dc s = setR B dn dc s := by
  unfold setR at hb h ⊢
  have h1 := spansR_at B dn dc (num B 1 0 8 s).1 0 (num B 1 0 8 s).2
  rw [num_ah (spansR_ok1 hb) (h.mono h1.1), spansR_ah _ _ hb h]
theorem textR_ah {B C : List Nat} {lo hi : Nat} {s : Ps} (hb : (textR B lo hi s).2.bad = false) (h : Ag (textR B lo hi s).1.1 B C) : textR C lo hi s = textR B lo hi s := by
  unfold textR at hb h ⊢
  rw [num_ah hb h]
/-- a write whose value's bytes alone are others -/
theorem writeR_in {B C : List Nat} {an ac : Nat} {s : Ps} (hb : (writeR B an ac s).2.bad = false) (h1 : Ag (writeR B an ac s).1.vb B C) (h2 : Af ((writeR B an ac s).1.vb + (writeR B an ac s).1.vn) B C) : writeR C an ac s = writeR B an ac s := by
  revert hb h1 h2
  unfold writeR
  dsimp only
  generalize ha : num B 1 an 7 s = a
  generalize hbb : num B 4 (leastC an ac a.1) 1048576 a.2 = b
  generalize hd : num B 1 0 1 b.2 = d
  generalize hv : textR B 0 (mostV (d.1 == 1)) d.2 = v
  intro hb h1 h2
  have gv := setR_ok1 hb
  have gd : d.2.bad = false := textR_ok1 (B := B) (lo := 0) (hi := mostV (d.1 == 1)) (by rw [hv]; exact gv)
  have gb : b.2.bad = false := num_ok1 (B := B) (k := 1) (lo := 0) (hi := 1) (by rw [hd]; exact gd)
  have ga : a.2.bad = false := num_ok1 (B := B) (k := 4) (lo := leastC an ac a.1) (hi := 1048576) (by rw [hbb]; exact gb)
  have b1 := num_at B 4 (leastC an ac a.1) 1048576 a.2
  have d1 := num_at B 1 0 1 b.2
  have v1 := textR_at B 0 (mostV (d.1 == 1)) d.2
  rw [hbb] at b1
  rw [hd] at d1
  rw [hv] at v1
  have e1 : num C 1 an 7 s = a := by rw [← ha]; exact num_ah (by rw [ha]; exact ga) (by rw [ha]; exact h1.mono (by omega))
  have e2 : num C 4 (leastC an ac a.1) 1048576 a.2 = b := by rw [← hbb]; exact num_ah (by rw [hbb]; exact gb) (by rw [hbb]; exact h1.mono (by omega))
  have e3 : num C 1 0 1 b.2 = d := by rw [← hd]; exact num_ah (by rw [hd]; exact gd) (by rw [hd]; exact h1.mono (by omega))
  have e4 : textR C 0 (mostV (d.1 == 1)) d.2 = v := by rw [← hv]; exact textR_ah (by rw [hv]; exact gv) (by rw [hv]; exact h1)
  rw [e1, e2, e3, e4]
  rw [setR_af (B := B) (C := C) (h2.mono (by omega))]
theorem writeR_ah {B C : List Nat} {an ac : Nat} {s : Ps} (hb : (writeR B an ac s).2.bad = false) (h : Ag (writeR B an ac s).2.at_ B C) : writeR C an ac s = writeR B an ac s := by
  revert hb h
  unfold writeR
  dsimp only
  generalize ha : num B 1 an 7 s = a
  generalize hbb : num B 4 (leastC an ac a.1) 1048576 a.2 = b
  generalize hd : num B 1 0 1 b.2 = d
  generalize hv : textR B 0 (mostV (d.1 == 1)) d.2 = v
  intro hb h1
  have gv := setR_ok1 hb
  have gd : d.2.bad = false := textR_ok1 (B := B) (lo := 0) (hi := mostV (d.1 == 1)) (by rw [hv]; exact gv)
  have gb : b.2.bad = false := num_ok1 (B := B) (k := 1) (lo := 0) (hi := 1) (by rw [hd]; exact gd)
  have ga : a.2.bad = false := num_ok1 (B := B) (k := 4) (lo := leastC an ac a.1) (hi := 1048576) (by rw [hbb]; exact gb)
  have b1 := num_at B 4 (leastC an ac a.1) 1048576 a.2
  have d1 := num_at B 1 0 1 b.2
  have v1 := textR_at B 0 (mostV (d.1 == 1)) d.2
  have x1 := setR_at B a.1 b.1 v.2
  rw [hbb] at b1
  rw [hd] at d1
  rw [hv] at v1
  have e1 : num C 1 an 7 s = a := by rw [← ha]; exact num_ah (by rw [ha]; exact ga) (by rw [ha]; exact h1.mono (by omega))
  have e2 : num C 4 (leastC an ac a.1) 1048576 a.2 = b := by rw [← hbb]; exact num_ah (by rw [hbb]; exact gb) (by rw [hbb]; exact h1.mono (by omega))
  have e3 : num C 1 0 1 b.2 = d := by rw [← hd]; exact num_ah (by rw [hd]; exact gd) (by rw [hd]; exact h1.mono (by omega))
  have e4 : textR C 0 (mostV (d.1 == 1)) d.2 = v := by rw [← hv]; exact textR_ah (by rw [hv]; exact gv) (by rw [hv]; exact h1.mono (by omega))
  rw [e1, e2, e3, e4]
  rw [setR_ah hb h1]
/-- the last of some writes has other bytes in its value alone -/
theorem writesR_in {B C : List Nat} : ∀ (m an ac : Nat) {s : Ps} {p : Pw}, (writesR B (m + 1) an ac s).2.bad = false → (writesR B (m + 1) an ac s).1.getLast? = some p → Ag p.vb B C → Af (p.vb + p.vn) B C → writesR C (m + 1) an ac s = writesR B (m + 1) an ac s ∧ s.at_ ≤ p.vb
  | 0, an, ac, s, p, hb, hl, h1, h2 => by
    have e : p = (writeR B an ac s).1 := by
      unfold writesR writesR at hl
      simpa using hl.symm
    have hb' : (writeR B an ac s).2.bad = false := by
      unfold writesR writesR at hb
      exact hb
    rw [e] at h1 h2 ⊢
    unfold writesR
    rw [writeR_in hb' h1 h2]
    exact ⟨rfl, (writeR_at B an ac s).2.2.2.2.2.1⟩
  | m + 1, an, ac, s, p, hb, hl, h1, h2 => by
    unfold writesR at hb hl ⊢
    have hl' : (writesR B (m + 1) (writeR B an ac s).1.n (writeR B an ac s).1.c (writeR B an ac s).2).1.getLast? = some p := by
      obtain ⟨l, q, e1, -⟩ := writesR_ne B m (writeR B an ac s).1.n (writeR B an ac s).1.c (writeR B an ac s).2
      rw [e1] at hl ⊢
      rw [← List.cons_append, List.getLast?_concat] at hl
      rw [List.getLast?_concat]
      exact hl
    obtain ⟨ih, hat⟩ := writesR_in m (writeR B an ac s).1.n (writeR B an ac s).1.c hb hl' h1 h2
    have hg := writesR_ok1 hb
    have hw := writeR_at B an ac s
    rw [writeR_ah hg (h1.mono hat), ih]
    exact ⟨rfl, by omega⟩
/-- a head whose key's bytes alone are others -/
theorem headR_in {B C : List Nat} (hb : (headR B ⟨0, false⟩).2.bad = false) (hk : (headR B ⟨0, false⟩).1.k ≠ 1) (h1 : Ag (headR B ⟨0, false⟩).1.kb B C) (h2 : Af ((headR B ⟨0, false⟩).1.kb + (headR B ⟨0, false⟩).1.kn) B C) (hkb : 1 ≤ (headR B ⟨0, false⟩).1.kb) : headR C ⟨0, false⟩ = headR B ⟨0, false⟩ := by
  revert hb hk h1 h2 hkb
  unfold headR
  dsimp only
  generalize ha : num B 1 1 3 ⟨0, false⟩ = a
  have e1 : ∀ n, 1 ≤ n → Ag n B C → a.2.bad = false → num C 1 1 3 ⟨0, false⟩ = a := fun n hn h q => by
    have a1 := num_at B 1 1 3 ⟨0, false⟩
    rw [ha] at a1
    dsimp only at a1
    rw [← ha]; exact num_ah (by rw [ha]; exact q) (by rw [ha]; exact h.mono (by omega))
  by_cases k1 : a.1 = 1
  · rw [if_pos k1]
    intro _ hk
    exact absurd k1 hk
  · rw [if_neg k1]
    by_cases k2 : a.1 = 2
    · rw [if_pos k2]
      dsimp only
      generalize ht : textR B 1 16 a.2 = t
      intro hb _ h1 h2 hkb
      have gt : t.2.bad = false := num_ok1 hb
      have ga : a.2.bad = false := textR_ok1 (B := B) (lo := 1) (hi := 16) (by rw [ht]; exact gt)
      have t1 := textR_at B 1 16 a.2
      rw [ht] at t1
      rw [e1 _ hkb h1 ga, if_neg k1, if_pos k2]
      have e2 : textR C 1 16 a.2 = t := by rw [← ht]; exact textR_ah (by rw [ht]; exact gt) (by rw [ht]; exact h1)
      rw [e2, num_af (B := B) (C := C) (h2.mono (by omega))]
    · rw [if_neg k2]
      by_cases k3 : a.1 = 3
      · rw [if_pos k3]
        dsimp only
        generalize ho : num B 1 0 7 a.2 = o
        generalize ht : textR B 1 16 o.2 = t
        intro hb _ h1 h2 hkb
        have go : o.2.bad = false := textR_ok1 (B := B) (lo := 1) (hi := 16) (by rw [ht]; exact hb)
        have ga : a.2.bad = false := num_ok1 (B := B) (k := 1) (lo := 0) (hi := 7) (by rw [ho]; exact go)
        have t1 := textR_at B 1 16 o.2
        rw [ht] at t1
        rw [e1 _ hkb h1 ga, if_neg k1, if_neg k2, if_pos k3]
        have e3 : num C 1 0 7 a.2 = o := by rw [← ho]; exact num_ah (by rw [ho]; exact go) (by rw [ho]; exact h1.mono (by omega))
        rw [e3]
        have e2 : textR C 1 16 o.2 = t := by rw [← ht]; exact textR_ah (by rw [ht]; exact hb) (by rw [ht]; exact h1)
        rw [e2]
      · rw [if_neg k3]
        intro _ _ _ _ hkb
        dsimp only at hkb
        omega
/-- a head that was read well -/
theorem headR_ah {B C : List Nat} (hb : (headR B ⟨0, false⟩).2.bad = false) (hk : (headR B ⟨0, false⟩).1.k ≠ 1) (h : Ag (headR B ⟨0, false⟩).2.at_ B C) : headR C ⟨0, false⟩ = headR B ⟨0, false⟩ := by
  revert hb hk h
  unfold headR
  dsimp only
  generalize ha : num B 1 1 3 ⟨0, false⟩ = a
  have e1 : ∀ n, a.2.at_ ≤ n → Ag n B C → a.2.bad = false → num C 1 1 3 ⟨0, false⟩ = a := fun n hn h q => by
    rw [← ha]; exact num_ah (by rw [ha]; exact q) (by rw [ha]; exact h.mono hn)
  by_cases k1 : a.1 = 1
  · rw [if_pos k1]
    intro _ hk
    exact absurd k1 hk
  · rw [if_neg k1]
    by_cases k2 : a.1 = 2
    · rw [if_pos k2]
      dsimp only
      generalize ht : textR B 1 16 a.2 = t
      intro hb _ h
      have gt : t.2.bad = false := num_ok1 hb
      have ga : a.2.bad = false := textR_ok1 (B := B) (lo := 1) (hi := 16) (by rw [ht]; exact gt)
      have t1 := textR_at B 1 16 a.2
      rw [ht] at t1
      have m1 := num_at B 1 1 8 t.2
      rw [e1 _ (by omega) h ga, if_neg k1, if_pos k2]
      have e2 : textR C 1 16 a.2 = t := by rw [← ht]; exact textR_ah (by rw [ht]; exact gt) (by rw [ht]; exact h.mono (by omega))
      rw [e2, num_ah hb h]
    · rw [if_neg k2]
      by_cases k3 : a.1 = 3
      · rw [if_pos k3]
        dsimp only
        generalize ho : num B 1 0 7 a.2 = o
        generalize ht : textR B 1 16 o.2 = t
        intro hb _ h
        have go : o.2.bad = false := textR_ok1 (B := B) (lo := 1) (hi := 16) (by rw [ht]; exact hb)
        have ga : a.2.bad = false := num_ok1 (B := B) (k := 1) (lo := 0) (hi := 7) (by rw [ho]; exact go)
        have t1 := textR_at B 1 16 o.2
        have o1 := num_at B 1 0 7 a.2
        rw [ht] at t1
        rw [ho] at o1
        rw [e1 _ (by omega) h ga, if_neg k1, if_neg k2, if_pos k3]
        have e3 : num C 1 0 7 a.2 = o := by rw [← ho]; exact num_ah (by rw [ho]; exact go) (by rw [ho]; exact h.mono (by omega))
        rw [e3]
        have e2 : textR C 1 16 o.2 = t := by rw [← ht]; exact textR_ah (by rw [ht]; exact hb) (by rw [ht]; exact h.mono (by omega))
        rw [e2]
      · rw [if_neg k3]
        intro hb _ h
        rw [e1 _ (Nat.le_refl _) h hb, if_neg k1, if_neg k2, if_neg k3]
/-- where the key of a good page stands -/
theorem headR_kb {B : List Nat} (hb : (headR B ⟨0, false⟩).2.bad = false) : ((headR B ⟨0, false⟩).1.k = 2 → (headR B ⟨0, false⟩).1.kb = 2) ∧ ((headR B ⟨0, false⟩).1.k = 3 → (headR B ⟨0, false⟩).1.kb = 3) ∧ ((headR B ⟨0, false⟩).1.k ≠ 1 → (headR B ⟨0, false⟩).1.kb + (headR B ⟨0, false⟩).1.kn ≤ (headR B ⟨0, false⟩).2.at_) := by
  revert hb
  unfold headR
  dsimp only
  generalize ha : num B 1 1 3 ⟨0, false⟩ = a
  by_cases k1 : a.1 = 1
  · rw [if_pos k1]
    intro _
    exact ⟨fun h => by dsimp only at h; omega, fun h => by dsimp only at h; omega, fun h => absurd k1 h⟩
  · rw [if_neg k1]
    by_cases k2 : a.1 = 2
    · rw [if_pos k2]
      dsimp only
      intro hb
      have gt := num_ok1 hb
      have gn : (num B 1 1 16 a.2).2.bad = false := gt
      have ga := num_ok1 gn
      obtain ⟨_, ea, _⟩ := num_ok B 1 1 3 ⟨0, false⟩ (by rw [ha]; exact ga)
      obtain ⟨_, en, _⟩ := num_ok B 1 1 16 a.2 gn
      have m1 := num_at B 1 1 8 (textR B 1 16 a.2).2
      have t1 := textR_at B 1 16 a.2
      refine ⟨fun _ => ?_, fun h => by omega, fun _ => by omega⟩
      show (num B 1 1 16 a.2).2.at_ = 2
      rw [en, ← ha, ea]
    · rw [if_neg k2]
      by_cases k3 : a.1 = 3
      · rw [if_pos k3]
        dsimp only
        intro hb
        have gn : (num B 1 1 16 (num B 1 0 7 a.2).2).2.bad = false := hb
        have go := num_ok1 gn
        have ga := num_ok1 go
        obtain ⟨_, ea, _⟩ := num_ok B 1 1 3 ⟨0, false⟩ (by rw [ha]; exact ga)
        obtain ⟨_, eo, _⟩ := num_ok B 1 0 7 a.2 go
        obtain ⟨_, en, _⟩ := num_ok B 1 1 16 (num B 1 0 7 a.2).2 gn
        have t1 := textR_at B 1 16 (num B 1 0 7 a.2).2
        refine ⟨fun h => by omega, fun _ => ?_, fun _ => by omega⟩
        show (num B 1 1 16 (num B 1 0 7 a.2).2).2.at_ = 3
        rw [en, eo, ← ha, ea]
      · rw [if_neg k3]
        intro _
        exact ⟨fun h => absurd h k2, fun h => absurd h k3, fun _ => Nat.zero_le _⟩
theorem ag_set {B : List Nat} {p x n : Nat} (h : n ≤ p) : Ag n B (B.set p x) := fun i hi => by
  rw [List.getD_eq_getElem?_getD, List.getD_eq_getElem?_getD, List.getElem?_set_ne (by omega)]
theorem af_set {B : List Nat} {p x n : Nat} (h : p < n) : Af n B (B.set p x) := fun i hi => by
  rw [List.getD_eq_getElem?_getD, List.getD_eq_getElem?_getD, List.getElem?_set_ne (by omega)]
/-- a byte of the key is made another -/
theorem page_key {B : List Nat} {p x : Nat} (hb : (headR B ⟨0, false⟩).2.bad = false) (hk : (headR B ⟨0, false⟩).1.k = 2 ∨ (headR B ⟨0, false⟩).1.k = 3) (h1 : (headR B ⟨0, false⟩).1.kb ≤ p) (h2 : p < (headR B ⟨0, false⟩).1.kb + (headR B ⟨0, false⟩).1.kn) : headR (B.set p x) ⟨0, false⟩ = headR B ⟨0, false⟩ ∧ ∀ m, writesR (B.set p x) m 0 0 (headR B ⟨0, false⟩).2 = writesR B m 0 0 (headR B ⟨0, false⟩).2 := by
  obtain ⟨q1, q2, q3⟩ := headR_kb hb
  have q4 := q3 (by omega)
  refine ⟨headR_in hb (by omega) (ag_set h1) (af_set h2) (hk.elim (fun h => by rw [q1 h]; decide) (fun h => by rw [q2 h]; decide)), fun m => ?_⟩
  exact writesR_af m 0 0 (af_set (by omega))
/-- a byte of a value is made another -/
theorem page_val {B : List Nat} {p x i : Nat} (h8 : ∀ b ∈ B, b < 256) (hb : (headR B ⟨0, false⟩).2.bad = false) (hv : vErr B (i : Int) = 0) (hk : (headR B ⟨0, false⟩).1.k = 2 ∨ (headR B ⟨0, false⟩).1.k = 3) (h1 : (vPw B (i : Int)).vb ≤ p) (h2 : p < (vPw B (i : Int)).vb + (vPw B (i : Int)).vn) : headR (B.set p x) ⟨0, false⟩ = headR B ⟨0, false⟩ ∧ writesR (B.set p x) (i + 1) 0 0 (headR B ⟨0, false⟩).2 = writesR B (i + 1) 0 0 (headR B ⟨0, false⟩).2 ∧ (headR B ⟨0, false⟩).2.at_ ≤ (vPw B (i : Int)).vb := by
  obtain ⟨-, -, -, g1, g2, -, -⟩ := vErr_0 h8 hv
  rw [Int.toNat_natCast] at g1 g2
  obtain ⟨e1, e2⟩ := writesR_in i 0 0 g1 g2 (ag_set (x := x) h1) (af_set h2)
  obtain ⟨q1, q2, q3⟩ := headR_kb hb
  have q4 := q3 (by omega)
  exact ⟨headR_ah hb (by omega) (ag_set (by omega)), e1, e2⟩
end Go.Proofs.Ytllhmidpphlbhaa.ds
namespace Go.Proofs.Ytllhmidpphlbhaa.ds
open Go.ChangeShapes Go.WideShapes Go.ChangeAt Go.RowKit Go.Sort
set_option linter.unusedVariables false
set_option linter.unusedSimpArgs false

theorem strB_at {l : List Nat} (h8 : ∀ b ∈ l, b < 256) {i : Nat} (hi : i < l.length) (h : i < (strB l).size) : ((strB l)[i]).toNat = l.getD i 0 := by
  have e : (strB l).toList = l.map UInt8.ofNat := strB_list l
  rw [ByteArray.toList_eq] at e
  have e2 : (strB l)[i] = (strB l).data[i]'h := rfl
  have e3 : (strB l).data[i]'h = (strB l).data.toList[i]'(by simpa using h) := by simp
  rw [e2, e3]
  have e4 : ∀ (q : List UInt8) (hq : q = l.map UInt8.ofNat) (hl : i < q.length), (q[i]).toNat = l.getD i 0 := by
    intro q hq hl
    subst hq
    rw [List.getElem_map, List.getD_eq_getElem?_getD, List.getElem?_eq_getElem hi]
    have := h8 l[i] (List.getElem_mem hi)
    show (UInt8.ofNat l[i]).toNat = l[i]
    rw [UInt8.toNat_ofNat']
    omega
  exact e4 _ e _
theorem idxB {l : List Nat} (h8 : ∀ b ∈ l, b < 256) {i : Nat} (hi : i < l.length) (W : World) : (Instr.index 9 (.string (strB l)) (.int .i64 (i : Nat))).run Try.prog W = .ok (.int .u8 ((l.getD i 0 : Nat) : Int)) W := by
  have hs : (strB l).size = l.length := strB_size h8
  rw [run_index_string (P := Try.prog) W 9 (strB l) .i64 (i : Nat) Try.underlying9, dif_pos (by omega)]
  congr 3
  have := strB_at h8 hi (by omega)
  simp only [Int.toNat_natCast]
  rw [this]
/-- at how many of the first i places -/
def dcn (l m : List Nat) (i : Nat) : Nat := ((List.range i).filter (fun j => l.getD j 0 != m.getD j 0)).length
theorem dcn_le (l m : List Nat) (i : Nat) : dcn l m i ≤ i := by
  unfold dcn
  have := List.length_filter_le (fun j => l.getD j 0 != m.getD j 0) (List.range i)
  rwa [List.length_range] at this
theorem dcn_succ (l m : List Nat) (i : Nat) : dcn l m (i + 1) = dcn l m i + (if (l.getD i 0 != m.getD i 0) = true then 1 else 0) := by
  unfold dcn
  rw [List.range_succ, List.filter_append, List.length_append]
  congr 1
  by_cases h : (l.getD i 0 != m.getD i 0) = true
  · rw [if_pos h]; simp only [List.filter_cons, h, if_true, List.filter_nil]; rfl
  · rw [if_neg h]; simp only [List.filter_cons, h, if_false, List.filter_nil]; rfl
theorem dcn_set (l m : List Nat) (p x : Nat) : ∀ i, dcn l (m.set p x) i ≤ dcn l m i + (if p < i then 1 else 0)
  | 0 => by unfold dcn; simp
  | i + 1 => by
    have ih := dcn_set l m p x i
    rw [dcn_succ, dcn_succ]
    by_cases hp : p = i
    · subst hp
      rw [if_neg (Nat.lt_irrefl _)] at ih
      rw [if_pos (Nat.lt_succ_self _)]
      have : ∀ b : Bool, (if b = true then (1 : Nat) else 0) ≤ 1 := fun b => by cases b <;> decide
      have := this (l.getD p 0 != (m.set p x).getD p 0)
      omega
    · have e : (m.set p x).getD i 0 = m.getD i 0 := by rw [List.getD_eq_getElem?_getD, List.getD_eq_getElem?_getD, List.getElem?_set_ne hp]
      rw [e]
      by_cases hpi : p < i
      · rw [if_pos hpi] at ih
        rw [if_pos (show p < i + 1 by omega)]; omega
      · rw [if_neg hpi] at ih
        rw [if_neg (show ¬ p < i + 1 by omega)]; omega
theorem dcn_self (l : List Nat) (i : Nat) : dcn l l i = 0 := by
  unfold dcn
  rw [List.length_eq_zero_iff, List.filter_eq_nil_iff]
  intro a _; simp
set_option maxHeartbeats 4000000 in
set_option maxRecDepth 100000 in
theorem differ_ok {w : World} {b : Sl} {m : List Nat} (h : RBs w b m) {l : List Nat} (h8 : ∀ x ∈ l, x < 256) (hl : l.length = m.length) (hn : m.length ≤ 2048) : Calls Try.prog 24 #[.string (strB l), .slice b.p b.n b.c] w fun r w' => r = .returned (.int .i64 (dcn l m m.length : Nat)) ∧ Apart [] w w' := by
  have hbn := h.len
  have hsz : (strB l).size = b.n := by rw [strB_size h8, hl, hbn]
  have HSZ := hid hsz
  have HB := hid h
  have H8 := hid h8
  have HL := hid hl
  have hszi : (((strB l).size : Nat) : Int) = ((b.n : Nat) : Int) := by omega
  have HBN := hid hbn
  have hb2 : b.n ≤ 2048 := by omega
  clear h h8 hl hbn hn
  have HIX : Hid (∀ i W, i < b.n → (Instr.index 9 (.string (strB l)) (.int .i64 (i : Nat))).run Try.prog W = .ok (.int .u8 ((l.getD i 0 : Nat) : Int)) W) := fun i W hi => idxB H8.out (by rw [HL.out, HBN.out]; exact hi) W
  generalize strB l = st at *
  go_enter Try.func24, Try.ntmps24
  go_wp2_with fail
  go_loopw [5, 6] (fun a c wt => ∃ i : Nat, a = .int .i64 (dcn l m i : Nat) ∧ c = .int .i64 (i : Nat) ∧ i ≤ b.n ∧ Apart [] w wt) (fun _ c _ => b.n - (intOf c).toNat)
  case atStart => exact ⟨0, rfl, rfl, Nat.zero_le _, Apart.refl _ _⟩
  case round =>
    obtain ⟨i, rfl, rfl, hile, hap⟩ := hrel
    have HAP := hid hap
    clear hap
    have hdl := dcn_le l m i
    have HDS := hid (dcn_succ l m i)
    by_cases hlt : i < b.n
    · have hlti : ((i : Nat) : Int) < (b.n : Int) := by omega
      have hlts : ((i : Nat) : Int) < ((st.size : Nat) : Int) := by omega
      have him : i < m.length := by rw [HBN.out]; exact hlt
      obtain ⟨P, o, hP, hPl, hc⟩ := HB.out.rd (by rw [byts_len]; omega)
      have c0 : ∀ W, Apart [] wr W → W.cell? ⟨P, o + i, none⟩ = some (.int .u8 ((m.getD i 0 : Nat) : Int)) := fun W a => by
        rw [(HAP.out.trans a).cell (p := ⟨P, o + i, none⟩) hPl (by simp)]
        refine hc i _ ?_
        unfold byts
        rw [List.getElem?_map, List.getD_eq_getElem?_getD, List.getElem?_eq_getElem him]; rfl
      have ix := fun W => HIX.out i W hlt
      have cw := c0 wr (Apart.refl _ _)
      obtain ⟨x, Hx⟩ : ∃ x, Hid (x = l.getD i 0) := ⟨_, rfl⟩
      obtain ⟨y, Hy⟩ : ∃ x, Hid (x = m.getD i 0) := ⟨_, rfl⟩
      rw [← Hx.out] at ix
      rw [← Hy.out] at cw
      rw [← Hx.out, ← Hy.out] at HDS
      obtain ⟨d, Hd⟩ : ∃ x, Hid (x = dcn l m i) := ⟨_, rfl⟩
      rw [← Hd.out] at HDS hdl ⊢
      obtain ⟨bp, bn, bc⟩ := b
      dsimp only at hP hlti hlt hile hb2 hszi hlts
      subst hP
      clear hc c0 him
      cases hxy : (((x : Nat) : Int) != ((y : Nat) : Int)) with
      | true =>
        have HXY := hid hxy
        go_upto_region 5 with fail
        go_quiet (fail)
        go_wp2_with fail
        go_roundw
        case rel => exact ⟨i + 1, by rw [HDS.out, if_pos (by have := HXY.out; rw [bne_iff_ne] at this ⊢; omega)]; go_num, by go_num, by omega, by first | exact HAP.out | exact HAP.out.drewN _ | exact HAP.out.drew⟩
        case measure => simp [intOf]; omega
      | false =>
        have HXY := hid hxy
        go_upto_region 5 with fail
        go_quiet (fail)
        go_wp2_with fail
        go_roundw
        case rel => exact ⟨i + 1, by rw [HDS.out, if_neg (by have := HXY.out; rw [bne_eq_false_iff_eq] at this; simp; omega)]; simp, by go_num, by omega, by first | exact HAP.out | exact HAP.out.drewN _ | exact HAP.out.drew⟩
        case measure => simp [intOf]; omega
    · have hlti : ¬ ((i : Nat) : Int) < (b.n : Int) := by omega
      have hie : i = m.length := by rw [HBN.out]; omega
      have HIE := hid hie
      clear hie
      go_wp2_with fail
      go_ret
      exact ⟨by rw [HIE.out]; rfl, HAP.out⟩
set_option maxHeartbeats 4000000 in
set_option maxRecDepth 100000 in
theorem c3_ok (w : World) (kd gn ow : Int) (s t : Sl) : Calls Try.prog 25 #[.agg #[.int .i64 kd, .int .i64 gn, .int .i64 ow, .slice s.p s.n s.c, .slice t.p t.n t.c]] w fun r w' => r = .returned (.int .i64 (if kd = 2 then 1 else 0)) ∧ Apart [] w w' := by
  obtain ⟨A, HXA⟩ : ∃ A, Hid (A = w.heap.size) := ⟨_, rfl⟩
  obtain ⟨w1, hw1⟩ : ∃ V, V = w.alloc (.cells #[.int .i64 kd, .int .i64 gn, .int .i64 ow, .slice s.p s.n s.c, .slice t.p t.n t.c] 25) := ⟨_, rfl⟩
  have a1 : Apart [] w w1 := by rw [hw1]; exact (Apart.refl [] w).alloc _
  have hA1 : w1.heap[A]? = some (.cells #[.int .i64 kd, .int .i64 gn, .int .i64 ow, .slice s.p s.n s.c, .slice t.p t.n t.c] 25 (0, 0)) := by rw [hw1, HXA.out]; exact heap_alloc_new w _
  obtain ⟨zz0, zz1, zz2, zz3, zz4⟩ := row5v hA1
  have HA := hid a1
  clear a1 hA1
  obtain ⟨r, Hr⟩ : ∃ r : Int, Hid (r = if kd = 2 then 1 else 0) := ⟨_, rfl⟩
  rw [← Hr.out]
  by_cases h : kd = 2
  · have hb : (kd == 2) = true := by rw [h]; rfl
    have HE : Hid (r = 1) := by unfold Hid; rw [Hr.out]; exact if_pos h
    clear h
    go_enter Try.func25, Try.ntmps25
    go_upto_region 1 with fail
    rw [← hw1, ← HXA.out]
    clear hw1
    go_wp2_with fail
    go_ret
    exact ⟨by rw [HE.out]; rfl, HA.out⟩
  · have hb : (kd == 2) = false := by rw [beq_eq_false_iff_ne]; exact h
    have HE : Hid (r = 0) := by unfold Hid; rw [Hr.out]; exact if_neg h
    clear h
    go_enter Try.func25, Try.ntmps25
    go_upto_region 1 with fail
    rw [← hw1, ← HXA.out]
    clear hw1
    go_wp2_with fail
    go_ret
    exact ⟨by rw [HE.out]; rfl, HA.out⟩
/-- three bytes behind a slice that ends where it ends -/
theorem app3 {w : World} {s : Sl} {l : List Nat} (h : RBs w s l) (P o : Nat) (hp : s.p = some ⟨P, o, none⟩) (hc : s.c = s.n) (hn : s.n ≤ 2048) (a b c : Nat) : ∃ s' W', (Builtin.append_ #[28, 28] 28 #[.slice s.p s.n s.c, .slice (some ⟨w.heap.size, 0, none⟩) 3 3]).run Try.prog (w.alloc (Obj.cells #[.int .u8 (a : Nat), .int .u8 (b : Nat), .int .u8 (c : Nat)] 5)) = .ok (.slice (Sl.p s') (Sl.n s') (Sl.c s')) W' ∧ s'.n = s.n + 3 ∧ Apart [] w W' := by
  obtain ⟨i0, hi, hz0, hz1, hz2⟩ := info_parts infoB
  have ha : Apart [] w (w.alloc (Obj.cells #[.int .u8 (a : Nat), .int .u8 (b : Nat), .int .u8 (c : Nat)] 5)) := (Apart.refl [] w).alloc _
  have hnw := heap_alloc_new w (Obj.cells #[.int .u8 (a : Nat), .int .u8 (b : Nat), .int .u8 (c : Nat)] 5)
  have hl := h.len
  have hh := h.kept0 ha
  obtain ⟨v', W', hrun, r1, r2⟩ := run_append_arg_grows (P := Try.prog) (w.alloc (Obj.cells #[.int .u8 (a : Nat), .int .u8 (b : Nat), .int .u8 (c : Nat)] 5)) 28 28 5 i0 (.int .u8 0) 1 1 Try.underlying28 hi hz0 hz1 hz2 rfl (by decide) ⟨P, o, none⟩ s.n s.c (byts l) (by rw [byts_len]; omega) (fun j u hj => by
    have h0 : 0 < (byts l).length := by
      cases hb : byts l with
      | nil => rw [hb] at hj; simp at hj
      | cons x y => simp
    obtain ⟨P', o', e, _, hc⟩ := hh.rd h0
    rw [hp] at e
    simp at e
    obtain ⟨rfl, rfl⟩ := e
    rw [Addr.add_lit]
    exact hc j u hj) ⟨w.heap.size, 0, none⟩ 3 3 [.int .u8 (a : Nat), .int .u8 (b : Nat), .int .u8 (c : Nat)] rfl (fun j u hj => by
      rw [Addr.add_lit, Nat.zero_add, cell_of_row _ _ _ _ _ _ hnw]
      simpa using hj) (by omega) (by unfold maxLen; omega) (by omega)
  obtain ⟨s', e1, e2⟩ : ∃ s' : Sl, v' = .slice s'.p s'.n s'.c ∧ s'.n = s.n + 3 := by
    obtain ⟨_, ⟨hv, hz⟩ | ⟨g, cap, cur, hv, _⟩⟩ := r1
    · omega
    · exact ⟨⟨some ⟨g, 0, none⟩, s.n + 3, cap⟩, hv, rfl⟩
  refine ⟨s', W', ?_, e2, ?_⟩
  · rw [hp, ← e1]; exact hrun
  · have := apart_grown r2
    exact ha.trans (by simpa using this)
end Go.Proofs.Ytllhmidpphlbhaa.ds
