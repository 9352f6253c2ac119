import Derived.Test.YtllhmidpphlbhaaG7
namespace Go.Proofs.Ytllhmidpphlbhaa.ds
set_option linter.unusedVariables false
set_option linter.unusedSimpArgs false
theorem zerosR_bad (B : List Nat) : ∀ (f : Nat) {s : Ps}, s.bad = true → zerosR B f s = s
  | 0, s, h => rfl
  | f + 1, s, h => by unfold zerosR; rw [if_neg (by rw [h]; simp)]
theorem zerosR_go {B : List Nat} : ∀ (f : Nat) {s : Ps}, s.at_ ≤ 2048 → 2048 ≤ s.at_ + f → (zerosR B f s).bad = false → (zerosR B f s).at_ = 2048 ∧ ∀ i, s.at_ ≤ i → i < 2048 → B.getD i 0 = 0
  | 0, s, h1, h2, h => ⟨by show s.at_ = 2048; omega, fun i hi hj => by omega⟩
  | f + 1, s, h1, h2, h => by
    have hb : s.bad = false := by
      cases hb : s.bad with
      | false => rfl
      | true => rw [zerosR_bad B _ hb, hb] at h; exact h
    revert h
    unfold zerosR
    split
    · rename_i hc
      intro h
      have h3 : (num B 1 0 0 s).2.bad = false := by
        cases hx : (num B 1 0 0 s).2.bad with
        | false => rfl
        | true => rw [zerosR_bad B _ hx, hx] at h; exact h
      obtain ⟨_, e, _, e2⟩ := num_ok B 1 0 0 s h3
      rw [e] at h ⊢
      obtain ⟨q1, q2⟩ := zerosR_go f (s := ⟨s.at_ + 1, false⟩) (by dsimp only; omega) (by dsimp only; omega) h
      refine ⟨q1, fun i hi hj => ?_⟩
      rcases Nat.lt_or_ge s.at_ i with h4 | h4
      · exact q2 i h4 hj
      · have : i = s.at_ := by omega
        subst this
        have e3 : le B 1 s.at_ = B.getD s.at_ 0 := by unfold le le; omega
        omega
    · rename_i hc
      intro h
      have : ¬ s.at_ < 2048 := fun k => hc ⟨hb, k⟩
      exact ⟨by omega, fun i hi hj => by omega⟩
theorem zerosR_of {B : List Nat} : ∀ (f : Nat) {s : Ps}, s.bad = false → s.at_ ≤ 2048 → 2048 ≤ s.at_ + f → (∀ i, s.at_ ≤ i → i < 2048 → B.getD i 0 = 0) → zerosR B f s = ⟨2048, false⟩
  | 0, s, hb, h1, h2, h => by show s = _; cases s; simp at *; exact ⟨by omega, hb⟩
  | f + 1, s, hb, h1, h2, h => by
    unfold zerosR
    split
    · rename_i hc
      have e3 : le B 1 s.at_ = 0 := by unfold le le; rw [h s.at_ (Nat.le_refl _) hc.2]
      have e4 : num B 1 0 0 s = (0, ⟨s.at_ + 1, false⟩) := by unfold num; rw [if_neg (by rw [hb]; decide), e3, if_pos ⟨Nat.le_refl _, Nat.le_refl _⟩]
      rw [e4]
      exact zerosR_of f rfl (by dsimp only; omega) (by dsimp only; omega) (fun i hi hj => h i (by dsimp only at hi; omega) hj)
    · rename_i hc
      have : ¬ s.at_ < 2048 := fun k => hc ⟨hb, k⟩
      cases s; simp at *; exact ⟨by omega, hb⟩
theorem zerosR_at (B : List Nat) : ∀ (f : Nat) (s : Ps), s.at_ ≤ 2048 → s.at_ ≤ (zerosR B f s).at_ ∧ (zerosR B f s).at_ ≤ 2048
  | 0, s, h => ⟨Nat.le_refl _, h⟩
  | f + 1, s, h => by
    unfold zerosR
    split
    · rename_i hc
      have h1 := num_at B 1 0 0 s
      have h2 := zerosR_at B f (num B 1 0 0 s).2 (by omega)
      omega
    · exact ⟨Nat.le_refl _, h⟩
/-- what a page tells -/
inductive Pc where
  | clocks (g : Nat) (cs : List (Nat × List S))
  | key (k : List Nat) (ws : List Cw)
  | hint (o : Nat) (k : List Nat) (w : Cw)
deriving DecidableEq
def Pc.kind : Pc → Nat
  | .clocks .. => 1
  | .key .. => 2
  | .hint .. => 3
def encPc : Pc → List Nat
  | .clocks g cs => encN 1 1 ++ (encN 6 g ++ (encN 1 cs.length ++ encCls cs))
  | .key k ws => encN 1 2 ++ ((encN 1 k.length ++ k) ++ (encN 1 ws.length ++ encPws ws))
  | .hint o k w => encN 1 3 ++ (encN 1 o ++ ((encN 1 k.length ++ k) ++ encPws [w]))
def VPc : Pc → Prop
  | .clocks g cs => g ≤ 281474976710655 ∧ cs.length ≤ 16 ∧ VCl 0 cs
  | .key k ws => (1 ≤ k.length ∧ k.length ≤ 16) ∧ (1 ≤ ws.length ∧ ws.length ≤ 8) ∧ VPws 0 0 ws
  | .hint o k w => o ≤ 7 ∧ (1 ≤ k.length ∧ k.length ≤ 16) ∧ VPw 0 0 w
theorem encSt_le {l : List S} (h : l.length ≤ 8) : (encSt l).length ≤ 105 := by unfold encSt; rw [List.length_append, encN_len, encSps_len]; omega
theorem encCls_le : ∀ {l : List (Nat × List S)} {lo : Nat}, VCl lo l → (encCls l).length ≤ 106 * l.length
  | [], lo, h => Nat.le_refl _
  | c :: l, lo, h => by
    have h1 := encCls_le h.2
    have h2 := encSt_le h.1.2.2.1
    unfold encCls encCl
    rw [List.length_append, List.length_append, encN_len, List.length_cons]; omega
theorem encPw_le {an ac : Nat} {w : Cw} (h : VPw an ac w) : (encPw w).length ≤ 176 := by
  have h1 := encSt_le h.2.2.2.1
  have h2 := h.2.2.1
  have h3 := mostV_le w.d
  unfold encPw
  simp only [List.length_append, encN_len]; omega
theorem encPws_le : ∀ {l : List Cw} {an ac : Nat}, VPws an ac l → (encPws l).length ≤ 176 * l.length
  | [], _, _, h => Nat.le_refl _
  | w :: l, an, ac, h => by
    have h1 := encPws_le h.2
    have h2 := encPw_le h.1
    unfold encPws
    rw [List.length_append, List.length_cons]; omega
theorem encPc_le {c : Pc} (h : VPc c) : (encPc c).length ≤ 1704 := by
  cases c with
  | clocks g cs =>
    have := encCls_le h.2.2
    have := h.2.1
    unfold encPc; simp only [List.length_append, encN_len]; omega
  | key k ws =>
    obtain ⟨h1, h2, h3⟩ := h
    have := encPws_le h3
    unfold encPc; simp only [List.length_append, encN_len]; omega
  | hint o k w =>
    obtain ⟨h1, h2, h3⟩ := h
    have := encPw_le h3
    unfold encPc encPws encPws; simp only [List.length_append, encN_len, List.length_nil]; omega
def pad (l : List Nat) : List Nat := l ++ List.replicate (2048 - l.length) 0
theorem pad_len {l : List Nat} (h : l.length ≤ 2048) : (pad l).length = 2048 := by unfold pad; rw [List.length_append, List.length_replicate]; omega
theorem pad_hi {l : List Nat} {i : Nat} (h : l.length ≤ i) : (pad l).getD i 0 = 0 := by
  unfold pad
  rw [List.getD_eq_getElem?_getD, List.getElem?_append_right h]
  cases hg : (List.replicate (2048 - l.length) 0)[i - l.length]? with
  | none => rfl
  | some b => have := List.mem_of_getElem? hg; simp at this; simp [this.2]
theorem pad_sd {l : List Nat} (h : l.length ≤ 2048) : Sd (pad l) 0 l l.length := by
  refine ⟨by omega, by rw [pad_len h]; exact h, fun i hi => ?_⟩
  unfold pad
  rw [List.getD_eq_getElem?_getD, List.getD_eq_getElem?_getD, Nat.zero_add, List.getElem?_append_left hi]
/-- a list of 2048 by what stands at its head and zeros behind -/
theorem pad_of {B l : List Nat} (hB : B.length = 2048) {q : Nat} (h : Sd B 0 l q) (hz : ∀ i, q ≤ i → i < 2048 → B.getD i 0 = 0) : B = pad l := by
  have hq : q = l.length := by have := h.1; omega
  have hl : l.length ≤ 2048 := by have := h.2.1; omega
  refine List.ext_getElem (by rw [hB, pad_len hl]) (fun i h1 h2 => ?_)
  have e1 : B[i] = B.getD i 0 := by rw [List.getD_eq_getElem?_getD, List.getElem?_eq_getElem h1]; rfl
  have e2 : (pad l)[i] = (pad l).getD i 0 := by rw [List.getD_eq_getElem?_getD, List.getElem?_eq_getElem h2]; rfl
  rw [e1, e2]
  rcases Nat.lt_or_ge i l.length with h3 | h3
  · have a := h.2.2 i h3
    have b := (pad_sd hl).2.2 i h3
    rw [Nat.zero_add] at a b; rw [a, b]
  · rw [pad_hi h3, hz i (by omega) (by omega)]
/-- the writes that are read, by their places -/
def wsR (B : List Nat) : List Pw := (writesR B (headR B ⟨0, false⟩).1.m 0 0 (headR B ⟨0, false⟩).2).1
def csR (B : List Nat) : List (Nat × List S) := (clocksR B (headR B ⟨0, false⟩).1.m 0 (headR B ⟨0, false⟩).2).1
def keyR (B : List Nat) : List Nat := (B.drop (headR B ⟨0, false⟩).1.kb).take (headR B ⟨0, false⟩).1.kn
/-- what a page tells -/
def pcR (B : List Nat) : Pc :=
  if (headR B ⟨0, false⟩).1.k = 1 then .clocks (headR B ⟨0, false⟩).1.g (csR B)
  else if (headR B ⟨0, false⟩).1.k = 2 then .key (keyR B) ((wsR B).map (Pw.w B))
  else .hint (headR B ⟨0, false⟩).1.o (keyR B) (((wsR B).map (Pw.w B)).headD ⟨0, 0, false, [], []⟩)
theorem bodyR_at (B : List Nat) : (bodyR B).2.at_ ≤ 1715 := by
  have h1 := headR_at B ⟨0, false⟩
  unfold bodyR
  dsimp only at *
  split
  · rename_i hk
    have h2 := clocksR_at B (headR B ⟨0, false⟩).1.m 0 (headR B ⟨0, false⟩).2
    omega
  · rename_i hk
    have h2 := writesR_at B (headR B ⟨0, false⟩).1.m 0 0 (headR B ⟨0, false⟩).2
    have h3 := h1.2.2.2.2.1 hk
    omega
theorem endR_at (B : List Nat) : (endR B).at_ ≤ 2048 := (zerosR_at B 2048 _ (by have := bodyR_at B; omega)).2
theorem endR_ok1 {B : List Nat} (h : (endR B).bad = false) : (bodyR B).2.bad = false := by
  cases hb : (bodyR B).2.bad with
  | false => rfl
  | true => unfold endR at h; rw [zerosR_bad B _ hb, hb] at h; exact h
/-- where the head and all behind it are read, the content stands there -/
theorem bodyR_go {B : List Nat} (hB : B.length = 2048) (h8 : ∀ b ∈ B, b < 256) (h : (bodyR B).2.bad = false) : Gg B ⟨0, false⟩ (encPc (pcR B)) (bodyR B).2 ∧ VPc (pcR B) ∧ (pcR B).kind = (bodyR B).1.k := by
  have hat := headR_at B ⟨0, false⟩
  revert h
  unfold bodyR pcR csR wsR keyR
  dsimp only
  revert hat
  unfold headR
  dsimp only
  generalize ha : num B 1 1 3 ⟨0, false⟩ = a
  have a1 := num_at B 1 1 3 ⟨0, false⟩
  have a2 := num_le B 1 1 3 ⟨0, false⟩
  have a3 := @num_go B h8 1 1 3 ⟨0, false⟩
  rw [ha] at a1 a2 a3
  dsimp only at a1
  by_cases k1 : a.1 = 1
  · rw [if_pos k1]
    dsimp only
    rw [if_pos k1, if_pos k1]
    generalize hg : num B 6 0 281474976710655 a.2 = g
    have g1 := num_at B 6 0 281474976710655 a.2
    have g2 := num_le B 6 0 281474976710655 a.2
    have g3 := @num_go B h8 6 0 281474976710655 a.2
    have g4 := @num_ok1 B 6 0 281474976710655 a.2
    rw [hg] at g1 g2 g3 g4
    generalize hm : num B 1 0 16 g.2 = m
    have m1 := num_at B 1 0 16 g.2
    have m2 := num_le B 1 0 16 g.2
    have m3 := @num_go B h8 1 0 16 g.2
    have m4 := @num_ok1 B 1 0 16 g.2
    rw [hm] at m1 m2 m3 m4
    intro _ h
    have q1 := clocksR_ok1 h
    obtain ⟨c1, c2, c3⟩ := clocksR_go h8 m.1 0 (s := m.2) (by omega) h
    obtain ⟨m5, _⟩ := m3 (by omega) q1
    obtain ⟨g5, _⟩ := g3 (by omega) (m4 q1)
    obtain ⟨a5, _⟩ := a3 (by dsimp only; omega) (g4 (m4 q1))
    rw [k1] at a5
    refine ⟨?_, ⟨g2, by rw [c3]; exact m2, c2⟩, k1.symm⟩
    unfold encPc
    dsimp only
    rw [c3]
    exact a5.app (g5.app (m5.app c1))
  · rw [if_neg k1]
    by_cases k2 : a.1 = 2
    · rw [if_pos k2]
      dsimp only
      rw [if_neg k1, if_pos k2]
      generalize ht : textR B 1 16 a.2 = t
      have t1 := textR_at B 1 16 a.2
      have t3 := @textR_go B h8 1 16 a.2
      rw [ht] at t1 t3
      generalize hm : num B 1 1 8 t.2 = m
      have m1 := num_at B 1 1 8 t.2
      have m2 := num_le B 1 1 8 t.2
      have m3 := @num_go B h8 1 1 8 t.2
      have m4 := @num_ok1 B 1 1 8 t.2
      rw [hm] at m1 m2 m3 m4
      rw [if_neg k1]
      intro _ h
      have q1 := writesR_ok1 h
      obtain ⟨c1, c2, c3⟩ := writesR_go h8 m.1 0 0 (s := m.2) (by omega) h
      obtain ⟨m5, m6⟩ := m3 (by omega) q1
      obtain ⟨t5, t6, t7, t8⟩ := t3 (by omega) (m4 q1)
      obtain ⟨a5, _⟩ := a3 (by dsimp only; omega) t7
      rw [k2] at a5
      have lt : ((B.drop t.1.1).take t.1.2).length = t.1.2 := by rw [List.length_take, List.length_drop]; omega
      refine ⟨?_, ⟨by rw [lt]; omega, by rw [List.length_map, c3]; omega, c2⟩, k2.symm⟩
      unfold encPc
      dsimp only
      rw [lt, List.length_map, c3]
      exact a5.app (t5.app (m5.app c1))
    · rw [if_neg k2]
      by_cases k3 : a.1 = 3
      · rw [if_pos k3]
        dsimp only
        rw [if_neg k1, if_neg k2]
        generalize hg : num B 1 0 7 a.2 = g
        have g1 := num_at B 1 0 7 a.2
        have g2 := num_le B 1 0 7 a.2
        have g3 := @num_go B h8 1 0 7 a.2
        have g4 := @num_ok1 B 1 0 7 a.2
        rw [hg] at g1 g2 g3 g4
        generalize ht : textR B 1 16 g.2 = t
        have t1 := textR_at B 1 16 g.2
        have t3 := @textR_go B h8 1 16 g.2
        rw [ht] at t1 t3
        rw [if_neg k1]
        intro _ h
        have q1 := writesR_ok1 h
        obtain ⟨c1, c2, c3⟩ := writesR_go h8 1 0 0 (s := t.2) (by omega) h
        obtain ⟨t5, t6, t7, t8⟩ := t3 (by omega) q1
        obtain ⟨g5, _⟩ := g3 (by omega) t7
        obtain ⟨a5, _⟩ := a3 (by dsimp only; omega) (g4 t7)
        rw [k3] at a5
        have lt : ((B.drop t.1.1).take t.1.2).length = t.1.2 := by rw [List.length_take, List.length_drop]; omega
        obtain ⟨p, hp⟩ : ∃ p, (writesR B 1 0 0 t.2).1 = [p] := ⟨_, rfl⟩
        rw [hp] at c1 c2 ⊢
        refine ⟨?_, ⟨g2, by rw [lt]; omega, c2.1⟩, k3.symm⟩
        unfold encPc
        dsimp only
        rw [lt]
        exact a5.app (g5.app (t5.app c1))
      · rw [if_neg k3]
        dsimp only
        intro _ h
        have h0 : a.2.bad = false := by
          rw [if_neg k1] at h; exact h
        obtain ⟨_, q⟩ := a3 (by dsimp only; omega) h0
        omega
/-- where a content stands it is read -/
theorem bodyR_of {B : List Nat} {c : Pc} {s' : Ps} (hv : VPc c) (h : Gg B ⟨0, false⟩ (encPc c) s') : (bodyR B).2 = s' ∧ pcR B = c ∧ (bodyR B).1.k = c.kind := by
  cases c with
  | clocks g cs =>
    obtain ⟨v1, v2, v3⟩ := hv
    unfold encPc at h
    dsimp only at h
    obtain ⟨s1, h1, h⟩ := h.split
    obtain ⟨s2, h2, h⟩ := h.split
    obtain ⟨s3, h3, h4⟩ := h.split
    have e1 := num_of (lo := 1) (hi := 3) h1 (by omega) (by omega) (by omega)
    have e2 := num_of (lo := 0) (hi := 281474976710655) h2 (by omega) v1 (by omega)
    have e3 := num_of (lo := 0) (hi := 16) h3 (by omega) v2 (by omega)
    have e4 := clocksR_of cs 0 h4 v3
    have eh : headR B ⟨0, false⟩ = (⟨1, g, 0, cs.length, 0, 0⟩, s3) := by
      unfold headR
      simp only [e1, e2, e3, if_true]
    unfold bodyR pcR csR
    simp only [eh, e4, if_true]
    exact ⟨trivial, trivial, rfl⟩
  | key k ws =>
    obtain ⟨⟨v1, v2⟩, ⟨v3, v4⟩, v5⟩ := hv
    unfold encPc at h
    dsimp only at h
    obtain ⟨s1, h1, h⟩ := h.split
    obtain ⟨s2, h2, h⟩ := h.split
    obtain ⟨s3, h3, h4⟩ := h.split
    have e1 := num_of (lo := 1) (hi := 3) h1 (by omega) (by omega) (by omega)
    obtain ⟨e2, f2⟩ := textR_of (lo := 1) (hi := 16) h2 v1 v2 (by omega)
    have e3 := num_of (lo := 1) (hi := 8) h3 v3 v4 (by omega)
    obtain ⟨ps, e4, f4⟩ := writesR_of ws 0 0 h4 v5
    have eh : headR B ⟨0, false⟩ = (⟨2, 0, 0, ws.length, s1.at_ + 1, k.length⟩, s3) := by
      unfold headR
      simp only [e1, e2, e3, if_true, if_false, show ¬ ((2 : Nat) = 1) from by decide]
    unfold bodyR pcR wsR keyR
    simp only [eh, e4, f4, f2, if_true, if_false, show ¬ ((2 : Nat) = 1) from by decide]
    exact ⟨trivial, trivial, rfl⟩
  | hint o k w =>
    obtain ⟨v0, ⟨v1, v2⟩, v5⟩ := hv
    unfold encPc at h
    dsimp only at h
    obtain ⟨s1, h1, h⟩ := h.split
    obtain ⟨s2, h2, h⟩ := h.split
    obtain ⟨s3, h3, h4⟩ := h.split
    have e1 := num_of (lo := 1) (hi := 3) h1 (by omega) (by omega) (by omega)
    have e2 := num_of (lo := 0) (hi := 7) h2 (by omega) v0 (by omega)
    obtain ⟨e3, f3⟩ := textR_of (lo := 1) (hi := 16) h3 v1 v2 (by omega)
    obtain ⟨ps, e4, f4⟩ := writesR_of [w] 0 0 h4 ⟨v5, trivial⟩
    rw [show [w].length = 1 from rfl] at e4
    have eh : headR B ⟨0, false⟩ = (⟨3, 0, o, 1, s2.at_ + 1, k.length⟩, s3) := by
      unfold headR
      simp only [e1, e2, e3, if_true, if_false, show ¬ ((3 : Nat) = 1) from by decide, show ¬ ((3 : Nat) = 2) from by decide]
    unfold bodyR pcR wsR keyR
    simp only [eh, e4, f4, f3, if_true, if_false, show ¬ ((3 : Nat) = 1) from by decide, show ¬ ((3 : Nat) = 2) from by decide]
    exact ⟨trivial, rfl, rfl⟩
/-- what is built is read as it was -/
theorem check_pad {c : Pc} (hv : VPc c) : checkR (pad (encPc c)) = (c.kind, 0, 0) ∧ pcR (pad (encPc c)) = c ∧ (endR (pad (encPc c))).bad = false := by
  have hl := encPc_le hv
  have hg : Gg (pad (encPc c)) ⟨0, false⟩ (encPc c) ⟨(encPc c).length, false⟩ := ⟨rfl, rfl, pad_sd (by omega)⟩
  obtain ⟨h1, h2, h3⟩ := bodyR_of hv hg
  have h4 : endR (pad (encPc c)) = ⟨2048, false⟩ := by
    unfold endR
    rw [h1]
    exact zerosR_of 2048 rfl (by dsimp only; omega) (by dsimp only; omega) (fun i hi hj => pad_hi (by dsimp only at hi; omega))
  refine ⟨?_, h2, by rw [h4]⟩
  unfold checkR
  rw [if_pos (pad_len (by omega)), h4, if_neg (by simp), h3]
/-- what is taken is the page of what it tells -/
theorem check_one {B : List Nat} (hB : B.length = 2048) (h8 : ∀ b ∈ B, b < 256) (h : (endR B).bad = false) : VPc (pcR B) ∧ B = pad (encPc (pcR B)) ∧ checkR B = ((pcR B).kind, 0, 0) := by
  have h1 := endR_ok1 h
  obtain ⟨g1, v1, k1⟩ := bodyR_go hB h8 h1
  have h2 := bodyR_at B
  have h3 := zerosR_go (B := B) 2048 (s := (bodyR B).2) (by omega) (by omega) h
  refine ⟨v1, pad_of hB g1.d h3.2, ?_⟩
  unfold checkR
  rw [if_pos hB, if_neg (by rw [h]; decide), k1]
/-! what is read hangs on the bytes up to eight behind where the reader stands -/
def Ag (n : Nat) (B C : List Nat) : Prop := ∀ i, i < n → B.getD i 0 = C.getD i 0
theorem Ag.mono {n m : Nat} {B C : List Nat} (h : Ag n B C) (hm : m ≤ n) : Ag m B C := fun i hi => h i (by omega)
theorem le_ag {B C : List Nat} : ∀ (k q : Nat), Ag (q + k) B C → le B k q = le C k q
  | 0, q, h => rfl
  | k + 1, q, h => by unfold le; rw [h q (by omega), le_ag k (q + 1) (h.mono (by omega))]
theorem num_ag {B C : List Nat} {k lo hi : Nat} {s : Ps} (hk : k ≤ 8) (h : Ag ((num B k lo hi s).2.at_ + 8) B C) : num C k lo hi s = num B k lo hi s := by
  have h1 := num_at B k lo hi s
  have e := le_ag k s.at_ (h.mono (m := s.at_ + k) (by omega))
  unfold num
  rw [e]
theorem textR_ag {B C : List Nat} {lo hi : Nat} {s : Ps} (h : Ag ((textR B lo hi s).2.at_ + 8) B C) : textR C lo hi s = textR B lo hi s := by
  have e := num_ag (B := B) (C := C) (k := 1) (lo := lo) (hi := hi) (s := s) (by omega) (h.mono (by unfold textR; dsimp only; omega))
  unfold textR; rw [e]
theorem spanR_ag {B C : List Nat} {lo dn dc : Nat} {s : Ps} (h : Ag ((spanR B lo dn dc s).2.at_ + 8) B C) : spanR C lo dn dc s = spanR B lo dn dc s := by
  have hb : (num B 4 0 1048576 (num B 1 lo 7 s).2).2.at_ ≤ (spanR B lo dn dc s).2.at_ := by
    unfold spanR
    dsimp only
    split
    · exact Nat.le_refl _
    · split
      · dsimp only; omega
      · exact Nat.le_refl _
  have h1 := num_at B 4 0 1048576 (num B 1 lo 7 s).2
  have e1 := num_ag (B := B) (C := C) (k := 1) (lo := lo) (hi := 7) (s := s) (by omega) (h.mono (by omega))
  have e2 := num_ag (B := B) (C := C) (k := 4) (lo := 0) (hi := 1048576) (s := (num B 1 lo 7 s).2) (by omega) (h.mono (by omega))
  have e3 := le_ag (B := B) (C := C) 8 (num B 4 0 1048576 (num B 1 lo 7 s).2).2.at_ (h.mono (by omega))
  unfold spanR
  dsimp only
  rw [e1, e2, e3]
theorem spansR_ag {B C : List Nat} {dn dc : Nat} : ∀ (m lo : Nat) {s : Ps}, Ag ((spansR B dn dc m lo s).2.at_ + 8) B C → spansR C dn dc m lo s = spansR B dn dc m lo s
  | 0, lo, s, h => rfl
  | m + 1, lo, s, h => by
    have h2 := spansR_at B dn dc m ((spanR B lo dn dc s).1.n.toNat + 1) (spanR B lo dn dc s).2
    have hu : (spansR B dn dc (m + 1) lo s).2.at_ = (spansR B dn dc m ((spanR B lo dn dc s).1.n.toNat + 1) (spanR B lo dn dc s).2).2.at_ := rfl
    have e1 := spanR_ag (B := B) (C := C) (lo := lo) (dn := dn) (dc := dc) (s := s) (h.mono (by omega))
    have e2 := spansR_ag (B := B) (C := C) (dn := dn) (dc := dc) m ((spanR B lo dn dc s).1.n.toNat + 1) (s := (spanR B lo dn dc s).2) (h.mono (by omega))
    unfold spansR
    rw [e1, e2]
theorem setR_ag {B C : List Nat} {dn dc : Nat} {s : Ps} (h : Ag ((setR B dn dc s).2.at_ + 8) B C) : setR C dn dc s = setR B dn dc s := by
  have h2 := spansR_at B dn dc (num B 1 0 8 s).1 0 (num B 1 0 8 s).2
  have hu : (setR B dn dc s).2.at_ = (spansR B dn dc (num B 1 0 8 s).1 0 (num B 1 0 8 s).2).2.at_ := rfl
  have e1 := num_ag (B := B) (C := C) (k := 1) (lo := 0) (hi := 8) (s := s) (by omega) (h.mono (by omega))
  have e2 := spansR_ag (B := B) (C := C) (dn := dn) (dc := dc) (num B 1 0 8 s).1 0 (s := (num B 1 0 8 s).2) (h.mono (by omega))
  unfold setR
  rw [e1, e2]
theorem clockR_ag {B C : List Nat} {lo : Nat} {s : Ps} (h : Ag ((clockR B lo s).2.at_ + 8) B C) : clockR C lo s = clockR B lo s := by
  have h2 := setR_at B 0 0 (num B 1 lo 15 s).2
  have hu : (clockR B lo s).2.at_ = (setR B 0 0 (num B 1 lo 15 s).2).2.at_ := rfl
  have e1 := num_ag (B := B) (C := C) (k := 1) (lo := lo) (hi := 15) (s := s) (by omega) (h.mono (by omega))
  have e2 := setR_ag (B := B) (C := C) (dn := 0) (dc := 0) (s := (num B 1 lo 15 s).2) (h.mono (by omega))
  unfold clockR
  rw [e1, e2]
theorem clocksR_ag {B C : List Nat} : ∀ (m lo : Nat) {s : Ps}, Ag ((clocksR B m lo s).2.at_ + 8) B C → clocksR C m lo s = clocksR B m lo s
  | 0, lo, s, h => rfl
  | m + 1, lo, s, h => by
    have h2 := clocksR_at B m ((clockR B lo s).1.1 + 1) (clockR B lo s).2
    have hu : (clocksR B (m + 1) lo s).2.at_ = (clocksR B m ((clockR B lo s).1.1 + 1) (clockR B lo s).2).2.at_ := rfl
    have e1 := clockR_ag (B := B) (C := C) (lo := lo) (s := s) (h.mono (by omega))
    have e2 := clocksR_ag (B := B) (C := C) m ((clockR B lo s).1.1 + 1) (s := (clockR B lo s).2) (h.mono (by omega))
    unfold clocksR
    rw [e1, e2]
theorem writeR_ag {B C : List Nat} {an ac : Nat} {s : Ps} (h : Ag ((writeR B an ac s).2.at_ + 8) B C) : writeR C an ac s = writeR B an ac s := by
  revert h
  unfold writeR
  dsimp only
  generalize ha : num B 1 an 7 s = a
  have a3 := @num_ag B C 1 an 7 s (by omega)
  rw [ha] at a3
  generalize hb : num B 4 (leastC an ac a.1) 1048576 a.2 = b
  have b1 := num_at B 4 (leastC an ac a.1) 1048576 a.2
  have b3 := @num_ag B C 4 (leastC an ac a.1) 1048576 a.2 (by omega)
  rw [hb] at b1 b3
  generalize hd : num B 1 0 1 b.2 = d
  have d1 := num_at B 1 0 1 b.2
  have d3 := @num_ag B C 1 0 1 b.2 (by omega)
  rw [hd] at d1 d3
  generalize hv : textR B 0 (mostV (d.1 == 1)) d.2 = v
  have v1 := textR_at B 0 (mostV (d.1 == 1)) d.2
  have v3 := @textR_ag B C 0 (mostV (d.1 == 1)) d.2
  rw [hv] at v1 v3
  have x1 := setR_at B a.1 b.1 v.2
  intro h
  have x3 := setR_ag (C := C) h
  rw [a3 (h.mono (by omega)), b3 (h.mono (by omega)), d3 (h.mono (by omega)), v3 (h.mono (by omega)), x3]
theorem writesR_ag {B C : List Nat} : ∀ (m an ac : Nat) {s : Ps}, Ag ((writesR B m an ac s).2.at_ + 8) B C → writesR C m an ac s = writesR B m an ac s
  | 0, _, _, s, h => rfl
  | m + 1, an, ac, s, h => by
    have h2 := writesR_at B m (writeR B an ac s).1.n (writeR B an ac s).1.c (writeR B an ac s).2
    have hu : (writesR B (m + 1) an ac s).2.at_ = (writesR B m (writeR B an ac s).1.n (writeR B an ac s).1.c (writeR B an ac s).2).2.at_ := rfl
    have e1 := writeR_ag (B := B) (C := C) (an := an) (ac := ac) (s := s) (h.mono (by omega))
    have e2 := writesR_ag (B := B) (C := C) m (writeR B an ac s).1.n (writeR B an ac s).1.c (s := (writeR B an ac s).2) (h.mono (by omega))
    unfold writesR
    rw [e1, e2]
theorem headR_ag {B C : List Nat} {s : Ps} (h : Ag ((headR B s).2.at_ + 8) B C) : headR C s = headR B s := by
  revert h
  unfold headR
  dsimp only
  generalize ha : num B 1 1 3 s = a
  have a3 := @num_ag B C 1 1 3 s (by omega)
  rw [ha] at a3
  by_cases k1 : a.1 = 1
  · rw [if_pos k1]
    intro h
    have g1 := num_at B 6 0 281474976710655 a.2
    have m1 := num_at B 1 0 16 (num B 6 0 281474976710655 a.2).2
    dsimp only at h
    rw [a3 (h.mono (by omega)), if_pos k1, num_ag (B := B) (by omega) (h.mono (by omega)), num_ag (B := B) (by omega) h]
  · rw [if_neg k1]
    by_cases k2 : a.1 = 2
    · rw [if_pos k2]
      intro h
      have t1 := textR_at B 1 16 a.2
      have m1 := num_at B 1 1 8 (textR B 1 16 a.2).2
      dsimp only at h
      rw [a3 (h.mono (by omega)), if_neg k1, if_pos k2, textR_ag (B := B) (h.mono (by omega)), num_ag (B := B) (by omega) h]
    · rw [if_neg k2]
      by_cases k3 : a.1 = 3
      · rw [if_pos k3]
        intro h
        have g1 := num_at B 1 0 7 a.2
        have t1 := textR_at B 1 16 (num B 1 0 7 a.2).2
        dsimp only at h
        rw [a3 (h.mono (by omega)), if_neg k1, if_neg k2, if_pos k3, num_ag (B := B) (by omega) (h.mono (by omega)), textR_ag (B := B) h]
      · rw [if_neg k3]
        intro h
        rw [a3 h, if_neg k1, if_neg k2, if_neg k3]
theorem bodyR_ag {B C : List Nat} (h : Ag ((bodyR B).2.at_ + 8) B C) : bodyR C = bodyR B := by
  revert h
  unfold bodyR
  dsimp only
  by_cases k1 : (headR B ⟨0, false⟩).1.k = 1
  · rw [if_pos k1]
    intro h
    have h1 := clocksR_at B (headR B ⟨0, false⟩).1.m 0 (headR B ⟨0, false⟩).2
    rw [headR_ag (B := B) (h.mono (by omega)), if_pos k1, clocksR_ag _ _ h]
  · rw [if_neg k1]
    intro h
    have h1 := writesR_at B (headR B ⟨0, false⟩).1.m 0 0 (headR B ⟨0, false⟩).2
    rw [headR_ag (B := B) (h.mono (by omega)), if_neg k1, writesR_ag _ _ _ h]
theorem zerosR_ag {B C : List Nat} : ∀ (f : Nat) {s : Ps}, s.at_ ≤ 2048 → Ag ((zerosR B f s).at_ + 8) B C → zerosR C f s = zerosR B f s
  | 0, s, hl, h => rfl
  | f + 1, s, hl, h => by
    revert h
    unfold zerosR
    split
    · rename_i hc
      intro h
      have h1 := num_at B 1 0 0 s
      have h2 := zerosR_at B f (num B 1 0 0 s).2 (by omega)
      rw [num_ag (B := B) (by omega) (h.mono (by omega)), zerosR_ag f (by omega) h]
    · exact fun _ => rfl
theorem endR_ag {B C : List Nat} (h : Ag ((endR B).at_ + 8) B C) : endR C = endR B := by
  have h1 := bodyR_at B
  have h2 := zerosR_at B 2048 (bodyR B).2 (by omega)
  have hu : (endR B).at_ = (zerosR B 2048 (bodyR B).2).at_ := rfl
  unfold endR
  rw [bodyR_ag (B := B) (h.mono (by omega)), zerosR_ag 2048 (by omega) h]
end Go.Proofs.Ytllhmidpphlbhaa.ds
