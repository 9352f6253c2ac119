import Derived.Test.YthmloakkefiicaaSteps
namespace Go.Proofs.Ythmloakkefiicaa.dk
open Go.ChangeShapes Go.WideShapes Go.ChangeAt Go.RowKit
set_option linter.unusedVariables false
set_option linter.unusedSimpArgs false
def sh {α : Type} (l : List α) : List α := if 4 < l.length then l.tail else l
theorem sh_map {α : Type} (f : α → Value) (l : List α) : shifted (l.map f) = (sh l).map f := by
  unfold shifted sh
  rw [List.length_map]
  split
  · rw [List.map_tail]
  · rfl
theorem sh_mem {α : Type} {l : List α} {a : α} (h : a ∈ sh l) : a ∈ l := by
  unfold sh at h
  split at h
  · exact List.mem_of_mem_tail h
  · exact h
theorem sh_len {α : Type} (l : List α) : (sh l).length = if 4 < l.length then l.length - 1 else l.length := by
  unfold sh; split <;> simp
theorem sh_get {α : Type} (l : List α) (i : Nat) : (sh l)[i]? = if 4 < l.length then l[i + 1]? else l[i]? := by
  unfold sh; split
  · simp
  · rfl
/-! bytes that are kept -/
theorem Pr.keepB {w w' : World} {P : Nat} {x : Pd} {who : Nat → Option Nat} (h : Pr w P x who) {p : Option Addr} {l c : Nat} {GA : Option Nat} (hfr : ∀ g, GA = some g → who g = none) (hGl : ∀ g, GA = some g → g < w.heap.size) (hl : l ≤ 4194304) {r : Ending}
    (kp : KeepPost w P x.row p l c GA x.mark (x.ab.map AB.val) (x.ab.map AB.str) (x.G 2) (x.G 3) r w') (K : Nat) (hK : Bk x K) : r = .returned (.tuple #[]) ∧ St w w' P who (K + 1) GA := by
  obtain ⟨hr, cur', bv', hv', GB', GH', bs', prow, c2, c3, c6, crest, s2, s3, hA', a, o2, o3⟩ := kp
  refine ⟨hr, ?_⟩
  have t2 := (h.sl 2 (by decide)).tg
  have t3 := (h.sl 3 (by decide)).tg
  obtain ⟨na, hna⟩ : ∃ na : AB, na = ⟨p, l, c, bs', GA⟩ := ⟨_, rfl⟩
  rw [show x.ab.map AB.val ++ [Value.slice p l c] = (x.ab ++ [na]).map AB.val from by rw [List.map_append, hna]; rfl, sh_map] at s2
  rw [show x.ab.map AB.str ++ [Value.string (strOf bs')] = (x.ab ++ [na]).map AB.str from by rw [List.map_append, hna]; rfl, sh_map] at s3
  obtain ⟨L, hL⟩ : ∃ L : List (Option Nat × Nat), L = [(GB', 12), (GH', 13), (GA, 30)] := ⟨_, rfl⟩
  have hq : ∀ q ∈ L, ∀ k, q.1 = some k → who k = some q.2 ∨ who k = none ∨ w.heap.size ≤ k := by
    subst hL
    intro q hm k hk
    simp only [List.mem_cons, List.not_mem_nil, or_false] at hm
    rcases hm with rfl | rfl | rfl
    · exact gr_of t2 o2 k hk
    · exact gr_of t3 o3 k hk
    · exact .inr (.inl (hfr k hk))
  have hd := hd3 (t1 := 12) (t2 := 13) (t3 := 30) (fun k h1 h2 => sl_ne s2 s3 (by decide) h1 h2) (fun k h1 h2 => ans_ne s2 hA' (by decide) h1 h2) (fun k h1 h2 => ans_ne s3 hA' (by decide) h1 h2)
  rw [← hL] at hd
  have up := whoL_up h.own L hq
  have tag := whoL_tag (who := who) L hd
  have inv : ∀ k s, whoL who L k = some s → who k ≠ none ∨ GA = some k ∨ w.heap.size ≤ k := by
    intro k s hk
    rcases whoL_inv L k s hk with h1 | ⟨q, hq1, hq2⟩
    · exact .inl (by rw [h1]; simp)
    · subst hL
      simp only [List.mem_cons, List.not_mem_nil, or_false] at hq1
      rcases hq1 with rfl | rfl | rfl
      · rcases new_of t2 o2 hq2 with h1 | h1
        · exact .inl h1
        · exact .inr (.inr h1)
      · rcases new_of t3 o3 hq2 with h1 | h1
        · exact .inl h1
        · exact .inr (.inr h1)
      · exact .inr (.inl hq2)
  have m : Mv w w' who (whoL who L) [0, 12, 13] := Mv.of a h.own (fun k hm t ht => by
    simp only [List.mem_cons, List.mem_append, Option.mem_toList, Option.mem_def] at hm
    rcases hm with rfl | hm | hm | hm
    · rw [h.wP] at ht; cases ht; simp
    · rw [hfr k hm] at ht; cases ht
    · rw [t2 k hm] at ht; cases ht; simp
    · rw [t3 k hm] at ht; cases ht; simp) up
  obtain ⟨y, hy⟩ : ∃ y : Pd, y = { x with ab := sh (x.ab ++ [na]), mark := x.mark + 1, v := updV (updV x.v 2 bv') 3 hv', G := updG (updG x.G 2 GB') 3 GH' } := ⟨_, rfl⟩
  have hrow : cur' = y.row := by
    subst hy
    refine arr14 prow.size rfl (fun i hi => ?_)
    rcases lt14 hi with rfl | rfl | rfl | rfl | rfl | rfl | rfl | rfl | rfl | rfl | rfl | rfl | rfl | rfl
    · rw [crest 0 (by decide) (by decide) (by decide)]; rfl
    · rw [crest 1 (by decide) (by decide) (by decide)]; rfl
    · rw [c2]; rfl
    · rw [c3]; rfl
    · rw [crest 4 (by decide) (by decide) (by decide)]; rfl
    · rw [crest 5 (by decide) (by decide) (by decide)]; rfl
    · rw [c6]; rfl
    · rw [crest 7 (by decide) (by decide) (by decide)]; rfl
    · rw [crest 8 (by decide) (by decide) (by decide)]; rfl
    · rw [crest 9 (by decide) (by decide) (by decide)]; rfl
    · rw [crest 10 (by decide) (by decide) (by decide)]; rfl
    · rw [crest 11 (by decide) (by decide) (by decide)]; rfl
    · rw [crest 12 (by decide) (by decide) (by decide)]; rfl
    · rw [crest 13 (by decide) (by decide) (by decide)]; rfl
  refine ⟨⟨y, whoL who L, ⟨fun k t hk => ?_, up _ _ h.wP, ?_, ?_, ?_, ?_, ?_, ?_, ?_, ?_, ?_, ?_, ?_⟩, ?_, inv⟩, ?_⟩
  · rcases whoL_inv L k t hk with h1 | ⟨q, hq1, hq2⟩
    · exact Nat.lt_of_lt_of_le (h.own k t h1) a.size
    · subst hL
      simp only [List.mem_cons, List.not_mem_nil, or_false] at hq1
      rcases hq1 with rfl | rfl | rfl
      · exact s2.lt hq2
      · exact s3.lt hq2
      · exact hA'.lt' hq2
  · rw [prow.row, hrow]
  · exact h.dp.mv m (by simp) (by subst hy; rfl) (by subst hy; rfl) (by subst hy; rfl)
  · exact h.rp.mv m (by simp) (by subst hy; rfl) (by subst hy; rfl)
  · refine fs_cases ?_ ?_ ?_ ?_ ?_ ?_ ?_ ?_
    · subst hy
      exact ⟨s2, fun g hg => tag (GB', 12) (by simp [hL]) g hg⟩
    · subst hy
      exact ⟨s3, fun g hg => tag (GH', 13) (by simp [hL]) g hg⟩
    · exact (h.sl 4 (by decide)).mv m (by simp) (by subst hy; rfl) (by subst hy; rfl) (by subst hy; rfl)
    · exact (h.sl 5 (by decide)).mv m (by simp) (by subst hy; rfl) (by subst hy; rfl) (by subst hy; rfl)
    · exact (h.sl 7 (by decide)).mv m (by simp) (by subst hy; rfl) (by subst hy; rfl) (by subst hy; rfl)
    · exact (h.sl 8 (by decide)).mv m (by simp) (by subst hy; rfl) (by subst hy; rfl) (by subst hy; rfl)
    · exact (h.sl 9 (by decide)).mv m (by simp) (by subst hy; rfl) (by subst hy; rfl) (by subst hy; rfl)
    · exact (h.sl 10 (by decide)).mv m (by simp) (by subst hy; rfl) (by subst hy; rfl) (by subst hy; rfl)
  · exact h.lp.mv m (by simp) (by subst hy; rfl) (by subst hy; rfl) (by subst hy; rfl) (by subst hy; rfl) (by subst hy; rfl)
  · subst hy
    intro b hb
    rcases List.mem_append.1 (sh_mem hb) with hb | hb
    · exact (h.kab b hb).mv m (by simp)
    · have hb2 : b = na := by simpa using hb
      subst hb2; subst hna
      exact ⟨hA', fun g hg => tag (GA, 30) (by simp [hL]) g hg, hl⟩
  · subst hy; exact fun a ha => (h.kai a ha).mv m (by simp)
  · subst hy; exact fun i a ha => (h.klf i a ha).mv m (by simp; omega)
  · subst hy; exact fun i a ha => (h.knu i a ha).mv m (by simp; omega)
  · subst hy; exact fun a ha => (h.kwo a ha).mv m (by simp)
  · subst hy
    have h4 := h.bd.ab4
    exact { h.bd with ab4 := by rw [sh_len]; simp; split <;> omega }
  · subst hy; exact ⟨Nat.succ_le_succ hK.mark, Nat.le_succ_of_le hK.n, Nat.le_succ_of_le hK.wr⟩
  · refine Fr.of a (fun k hm _ hk => ?_)
    simp only [List.mem_cons, List.mem_append, Option.mem_toList, Option.mem_def] at hm
    rcases hm with rfl | hm | hm | hm
    · rw [h.wP] at hk; cases hk.1
    · exact hk.2 hm
    · rw [t2 k hm] at hk; cases hk.1
    · rw [t3 k hm] at hk; cases hk.1
/-! numbers that are kept -/
theorem Pr.keepI {w w' : World} {P : Nat} {x : Pd} {who : Nat → Option Nat} (h : Pr w P x who) {p : Option Addr} {l c : Nat} {GA : Option Nat} (hfr : ∀ g, GA = some g → who g = none) (hGl : ∀ g, GA = some g → g < w.heap.size) (hl : l ≤ 4194304) {r : Ending}
    (kp : KeepIPost w P x.row p l c GA x.mark (x.ai.map AI.val) (x.ms.map (.int .i64)) (x.G 4) (x.G 5) r w') (K : Nat) (hK : Bk x K) : r = .returned (.tuple #[]) ∧ St w w' P who (K + 1) GA := by
  obtain ⟨hr, cur', bv', hv', GB', GH', prow, c2, c3, c6, crest, s2, s3, hA', a, o2, o3⟩ := kp
  refine ⟨hr, ?_⟩
  have t2 := (h.sl 4 (by decide)).tg
  have t3 := (h.sl 5 (by decide)).tg
  obtain ⟨nm, hnm⟩ : ∃ nm : Int, nm = -1000 - ((x.mark : Int) + 1) := ⟨_, rfl⟩
  rw [← hnm] at s3 hA'
  obtain ⟨na, hna⟩ : ∃ na : AI, na = ⟨p, l, c, List.replicate l nm, GA⟩ := ⟨_, rfl⟩
  rw [show x.ai.map AI.val ++ [Value.slice p l c] = (x.ai ++ [na]).map AI.val from by rw [List.map_append, hna]; rfl, sh_map] at s2
  rw [show x.ms.map (Value.int .i64) ++ [Value.int .i64 nm] = (x.ms ++ [nm]).map (Value.int .i64) from by rw [List.map_append]; rfl, sh_map] at s3
  obtain ⟨L, hL⟩ : ∃ L : List (Option Nat × Nat), L = [(GB', 14), (GH', 15), (GA, 31)] := ⟨_, rfl⟩
  have hq : ∀ q ∈ L, ∀ k, q.1 = some k → who k = some q.2 ∨ who k = none ∨ w.heap.size ≤ k := by
    subst hL
    intro q hm k hk
    simp only [List.mem_cons, List.not_mem_nil, or_false] at hm
    rcases hm with rfl | rfl | rfl
    · exact gr_of t2 o2 k hk
    · exact gr_of t3 o3 k hk
    · exact .inr (.inl (hfr k hk))
  have hd := hd3 (t1 := 14) (t2 := 15) (t3 := 31) (fun k h1 h2 => sl_ne s2 s3 (by decide) h1 h2) (fun k h1 h2 => ansI_ne s2 hA' (by decide) h1 h2) (fun k h1 h2 => by
    rcases new_of t3 o3 h1 with h3 | h3
    · exact h3 (hfr k h2)
    · have := hGl k h2; omega)
  rw [← hL] at hd
  have up := whoL_up h.own L hq
  have tag := whoL_tag (who := who) L hd
  have inv : ∀ k s, whoL who L k = some s → who k ≠ none ∨ GA = some k ∨ w.heap.size ≤ k := by
    intro k s hk
    rcases whoL_inv L k s hk with h1 | ⟨q, hq1, hq2⟩
    · exact .inl (by rw [h1]; simp)
    · subst hL
      simp only [List.mem_cons, List.not_mem_nil, or_false] at hq1
      rcases hq1 with rfl | rfl | rfl
      · rcases new_of t2 o2 hq2 with h1 | h1
        · exact .inl h1
        · exact .inr (.inr h1)
      · rcases new_of t3 o3 hq2 with h1 | h1
        · exact .inl h1
        · exact .inr (.inr h1)
      · exact .inr (.inl hq2)
  have m : Mv w w' who (whoL who L) [0, 14, 15] := Mv.of a h.own (fun k hm t ht => by
    simp only [List.mem_cons, List.mem_append, Option.mem_toList, Option.mem_def] at hm
    rcases hm with rfl | hm | hm | hm
    · rw [h.wP] at ht; cases ht; simp
    · rw [hfr k hm] at ht; cases ht
    · rw [t2 k hm] at ht; cases ht; simp
    · rw [t3 k hm] at ht; cases ht; simp) up
  obtain ⟨y, hy⟩ : ∃ y : Pd, y = { x with ai := sh (x.ai ++ [na]), ms := sh (x.ms ++ [nm]), mark := x.mark + 1, v := updV (updV x.v 4 bv') 5 hv', G := updG (updG x.G 4 GB') 5 GH' } := ⟨_, rfl⟩
  have hrow : cur' = y.row := by
    subst hy
    refine arr14 prow.size rfl (fun i hi => ?_)
    rcases lt14 hi with rfl | rfl | rfl | rfl | rfl | rfl | rfl | rfl | rfl | rfl | rfl | rfl | rfl | rfl
    · rw [crest 0 (by decide) (by decide) (by decide)]; rfl
    · rw [crest 1 (by decide) (by decide) (by decide)]; rfl
    · rw [crest 2 (by decide) (by decide) (by decide)]; rfl
    · rw [crest 3 (by decide) (by decide) (by decide)]; rfl
    · rw [c2]; rfl
    · rw [c3]; rfl
    · rw [c6]; rfl
    · rw [crest 7 (by decide) (by decide) (by decide)]; rfl
    · rw [crest 8 (by decide) (by decide) (by decide)]; rfl
    · rw [crest 9 (by decide) (by decide) (by decide)]; rfl
    · rw [crest 10 (by decide) (by decide) (by decide)]; rfl
    · rw [crest 11 (by decide) (by decide) (by decide)]; rfl
    · rw [crest 12 (by decide) (by decide) (by decide)]; rfl
    · rw [crest 13 (by decide) (by decide) (by decide)]; rfl
  have hms := h.bd.ms
  have hai4 := h.bd.ai4
  refine ⟨⟨y, whoL who L, ⟨fun k t hk => ?_, up _ _ h.wP, ?_, ?_, ?_, ?_, ?_, ?_, ?_, ?_, ?_, ?_, ?_⟩, ?_, inv⟩, ?_⟩
  · rcases whoL_inv L k t hk with h1 | ⟨q, hq1, hq2⟩
    · exact Nat.lt_of_lt_of_le (h.own k t h1) a.size
    · subst hL
      simp only [List.mem_cons, List.not_mem_nil, or_false] at hq1
      rcases hq1 with rfl | rfl | rfl
      · exact s2.lt hq2
      · exact s3.lt hq2
      · exact hA'.lt' hq2
  · rw [prow.row, hrow]
  · exact h.dp.mv m (by simp) (by subst hy; rfl) (by subst hy; rfl) (by subst hy; rfl)
  · exact h.rp.mv m (by simp) (by subst hy; rfl) (by subst hy; rfl)
  · refine fs_cases ?_ ?_ ?_ ?_ ?_ ?_ ?_ ?_
    · exact (h.sl 2 (by decide)).mv m (by simp) (by subst hy; rfl) (by subst hy; rfl) (by subst hy; rfl)
    · exact (h.sl 3 (by decide)).mv m (by simp) (by subst hy; rfl) (by subst hy; rfl) (by subst hy; rfl)
    · subst hy
      exact ⟨s2, fun g hg => tag (GB', 14) (by simp [hL]) g hg⟩
    · subst hy
      exact ⟨s3, fun g hg => tag (GH', 15) (by simp [hL]) g hg⟩
    · exact (h.sl 7 (by decide)).mv m (by simp) (by subst hy; rfl) (by subst hy; rfl) (by subst hy; rfl)
    · exact (h.sl 8 (by decide)).mv m (by simp) (by subst hy; rfl) (by subst hy; rfl) (by subst hy; rfl)
    · exact (h.sl 9 (by decide)).mv m (by simp) (by subst hy; rfl) (by subst hy; rfl) (by subst hy; rfl)
    · exact (h.sl 10 (by decide)).mv m (by simp) (by subst hy; rfl) (by subst hy; rfl) (by subst hy; rfl)
  · exact h.lp.mv m (by simp) (by subst hy; rfl) (by subst hy; rfl) (by subst hy; rfl) (by subst hy; rfl) (by subst hy; rfl)
  · subst hy; exact fun a ha => (h.kab a ha).mv m (by simp)
  · subst hy
    intro b hb
    rcases List.mem_append.1 (sh_mem hb) with hb | hb
    · exact (h.kai b hb).mv m (by simp)
    · have hb2 : b = na := by simpa using hb
      subst hb2; subst hna
      exact ⟨hA', fun g hg => tag (GA, 31) (by simp [hL]) g hg, hl⟩
  · subst hy; exact fun i a ha => (h.klf i a ha).mv m (by simp; omega)
  · subst hy; exact fun i a ha => (h.knu i a ha).mv m (by simp; omega)
  · subst hy; exact fun a ha => (h.kwo a ha).mv m (by simp)
  · subst hy
    have hsame : ∀ (i : Nat) (a : AI), (x.ai ++ [na])[i]? = some a → a.bs = List.replicate a.l ((x.ms ++ [nm]).getD i 0) := by
      intro i a ha
      by_cases hi : i < x.ai.length
      · rw [List.getElem?_append_left hi] at ha
        rw [h.bd.all i a ha, getD_left _ _ _ _ (by omega)]
      · have hi2 : i = x.ai.length := by
          have := (List.getElem?_eq_some_iff.1 ha).1
          simp at this; omega
        subst hi2
        simp at ha; subst ha; subst hna
        rw [← hms, getD_snoc]
    refine { h.bd with ai4 := by rw [sh_len]; simp; split <;> omega, ms := by rw [sh_len, sh_len]; simp [hms], all := ?_ }
    intro i a ha
    simp only at ha
    rw [sh_get] at ha
    rw [List.getD_eq_getElem?_getD, sh_get]
    have hle : (x.ms ++ [nm]).length = (x.ai ++ [na]).length := by simp [hms]
    rw [hle]
    split at ha
    · rename_i hc
      rw [if_pos hc, ← List.getD_eq_getElem?_getD]; exact hsame _ a ha
    · rename_i hc
      rw [if_neg hc, ← List.getD_eq_getElem?_getD]; exact hsame _ a ha
  · subst hy; exact ⟨Nat.succ_le_succ hK.mark, Nat.le_succ_of_le hK.n, Nat.le_succ_of_le hK.wr⟩
  · refine Fr.of a (fun k hm _ hk => ?_)
    simp only [List.mem_cons, List.mem_append, Option.mem_toList, Option.mem_def] at hm
    rcases hm with rfl | hm | hm | hm
    · rw [h.wP] at hk; cases hk.1
    · exact hk.2 hm
    · rw [t2 k hm] at hk; cases hk.1
    · rw [t3 k hm] at hk; cases hk.1
end Go.Proofs.Ythmloakkefiicaa.dk
