import Derived.Test.YtagjmpdimphfaaaMore
namespace Go.Proofs.Ytagjmpdimphfaaa.rg
open Go.ChangeShapes Go.WideShapes Go.ChangeAt Go.RowKit
set_option linter.unusedVariables false
set_option linter.unusedSimpArgs false
/-- an answer, written full, goes onto the shelf -/
theorem asm_even {wr WF : World} {S mark : Nat} {d : Sd} {who who5 : Nat → Option Nat} (h : Sh wr S mark d who) (a : An) (M : Int) (c' : Nat → List Value) (ls' : List An) (mks' : List Int)
    (hls : (ls' = d.ls ++ [a] ∧ mks' = d.mks ++ [M] ∧ d.ls.length < 4) ∨ (ls' = (d.ls ++ [a]).tail ∧ mks' = (d.mks ++ [M]).tail))
    (hc0 : c' 0 = ls'.map An.v) (hc1 : c' 1 = flZ mks') (hc3 : c' 3 = d.c 3) (hc4 : c' 4 = d.c 4)
    (sm : Sm WF S (mark + 1) c' who5) (up : ∀ k s, who k = some s → who5 k = some s) (dn : ∀ k s, who5 k = some s → who k = some s ∨ wr.heap.size ≤ k)
    (blk : ∀ k, k < wr.heap.size → (∃ s, who k = some s ∧ 6 ≤ s) → WF.heap[k]? = wr.heap[k]?)
    (hblk : ∀ b, a.blk = some b → b < wr.heap.size) (ha : a.At WF) (hafr : ∀ b, a.blk = some b → who b = none) (hn : a.n ≤ 8) (hz : ∀ z ∈ a.zs, z = M) :
    ∃ d' who', Sh WF S (mark + 1) d' who' ∧ ∀ k s, who' k = some s → who k = some s ∨ a.blk = some k ∨ wr.heap.size ≤ k := by
  have ha5 : ∀ b, a.blk = some b → who5 b = none := by
    intro b hb
    cases hw : who5 b with
    | none => rfl
    | some s =>
      rcases dn b s hw with h1 | h1
      · rw [hafr b hb] at h1; cases h1
      · have := hblk b hb; omega
  have up' : ∀ k s, who5 k = some s → whoP who5 a.blk 6 k = some s := fun k s hk => whoP_old (fun j hj => .inl (ha5 j hj)) hk
  have hold : ∀ x : An, x.At wr → (∀ b, x.blk = some b → ∃ t, who b = some t ∧ 6 ≤ t) → x.At WF := fun x hx hb => hx.same (fun b hbb => blk b (hx.blk_lt hbb) (hb b hbb))
  have hmem : ∀ x ∈ ls', x ∈ d.ls ∨ x = a := by
    intro x hx
    rcases hls with ⟨h1, _⟩ | ⟨h1, _⟩
    · rw [h1] at hx; simpa using hx
    · rw [h1] at hx
      have := List.mem_of_mem_tail hx
      simpa using this
  have hlm := h.pl.lm
  have hl4 := h.pl.l4
  have hmrk : ∀ (i : Nat) (x : An) (m : Int), (d.ls ++ [a])[i]? = some x → (d.mks ++ [M])[i]? = some m → ∀ z ∈ x.zs, z = m := by
    intro i x m hx hm
    by_cases hi : i < d.ls.length
    · rw [List.getElem?_append_left hi] at hx
      rw [List.getElem?_append_left (by omega)] at hm
      exact h.pl.mrk i x m hx hm
    · have hi2 : i = d.ls.length := by
        have := (List.getElem?_eq_some_iff.1 hx).1
        simp at this; omega
      subst hi2
      simp at hx
      rw [hlm] at hm
      simp at hm
      subst hx; subst hm; exact hz
  refine ⟨⟨ls', mks', d.lf, d.we⟩, whoP who5 a.blk 6, ⟨?_, ?_, ?_, ?_, ?_, ?_⟩, ?_⟩
  · refine Sm.congr (c := c') ?_ ?_
    · obtain ⟨v, G, hr, hf⟩ := sm.ex
      refine ⟨fun k t hk => ?_, up' _ _ sm.wS, v, G, hr, fun f hm => ⟨(hf f hm).1, fun g hg => up' _ _ ((hf f hm).2 g hg)⟩⟩
      unfold whoP at hk
      split at hk
      · rename_i e; exact ha.blk_lt e
      · exact sm.own k t hk
    · intro f hf
      simp only [fs, List.mem_cons, List.not_mem_nil, or_false] at hf
      rcases hf with rfl | rfl | rfl | rfl
      · rw [hc0]; rfl
      · rw [hc1]; rfl
      · rw [hc3]; rfl
      · rw [hc4]; rfl
  · intro x hx
    rcases hmem x hx with hx | rfl
    · obtain ⟨h1, h2, h3⟩ := h.als x hx
      exact ⟨hold x h1 (fun b hb => ⟨6, h2 b hb, Nat.le_refl _⟩), fun b hb => up' _ _ (up _ _ (h2 b hb)), h3⟩
    · exact ⟨ha, fun b hb => by simp [whoP, hb], hn⟩
  · intro x hx
    obtain ⟨h1, h2, h3⟩ := h.awe x hx
    exact ⟨hold x h1 (fun b hb => ⟨6, h2 b hb, Nat.le_refl _⟩), fun b hb => up' _ _ (up _ _ (h2 b hb)), h3⟩
  · intro i x hx
    obtain ⟨h1, h2, h3⟩ := h.alf i x hx
    exact ⟨hold x h1 (fun b hb => ⟨7 + i, h2 b hb, by omega⟩), fun b hb => up' _ _ (up _ _ (h2 b hb)), h3⟩
  · refine ⟨?_, ?_, h.pl.lw, h.pl.sam, ?_⟩
    · rcases hls with ⟨h1, h2, _⟩ | ⟨h1, h2⟩ <;> simp [h1, h2, hlm]
    · rcases hls with ⟨h1, h2, h3⟩ | ⟨h1, h2⟩ <;> simp [h1] <;> omega
    · intro i x m hx hm
      rcases hls with ⟨h1, h2, _⟩ | ⟨h1, h2⟩
      · simp only at hx hm; rw [h1] at hx; rw [h2] at hm
        exact hmrk i x m hx hm
      · simp only at hx hm; rw [h1] at hx; rw [h2] at hm
        rw [List.getElem?_tail] at hx hm
        exact hmrk (i + 1) x m hx hm
  · have := h.lfm
    simp; omega
  · intro k s hk
    unfold whoP at hk
    split at hk
    · rename_i e; exact .inr (.inl e)
    · rcases dn k s hk with h1 | h1
      · exact .inl h1
      · exact .inr (.inr h1)
end Go.Proofs.Ytagjmpdimphfaaa.rg
