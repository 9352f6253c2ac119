import Derived.Test.YtagjmpdimphfaaaTold0
namespace Go.Proofs.Ytagjmpdimphfaaa.rg
open Go.ChangeShapes Go.WideShapes Go.ChangeAt Go.RowKit
set_option linter.unusedVariables false
set_option linter.unusedSimpArgs false
structure Sd where
  ls : List An
  mks : List Int
  lf : List An
  we : List An
def Sd.c (d : Sd) : Nat → List Value
  | 0 => d.ls.map An.v
  | 1 => flZ d.mks
  | 3 => d.lf.map An.v
  | 4 => d.we.map An.v
  | _ => []
structure Sr (d : Sd) : Prop where
  lm : d.ls.length = d.mks.length
  l4 : d.ls.length ≤ 4
  lw : d.lf.length = d.we.length
  sam : ∀ (i : Nat) (a b : An), d.lf[i]? = some a → d.we[i]? = some b → a.zs = b.zs
  mrk : ∀ (i : Nat) (a : An) (m : Int), d.ls[i]? = some a → d.mks[i]? = some m → ∀ z ∈ a.zs, z = m
structure Sh (w : World) (S mark : Nat) (d : Sd) (who : Nat → Option Nat) : Prop where
  sm : Sm w S mark d.c who
  als : ∀ a ∈ d.ls, a.At w ∧ (∀ b, a.blk = some b → who b = some 6) ∧ a.n ≤ 8
  awe : ∀ a ∈ d.we, a.At w ∧ (∀ b, a.blk = some b → who b = some 6) ∧ a.n ≤ 8
  alf : ∀ (i : Nat) (a : An), d.lf[i]? = some a → a.At w ∧ (∀ b, a.blk = some b → who b = some (7 + i)) ∧ a.n ≤ 8
  pl : Sr d
  lfm : d.lf.length ≤ mark
theorem Sh.kept {w w' : World} {S mark : Nat} {d : Sd} {who : Nat → Option Nat} {X : List Nat} (h : Sh w S mark d who) (a : Apart X w w') (hX : ∀ x ∈ X, who x = none) : Sh w' S mark d who := by
  have hn : ∀ b t, who b = some t → b ∉ X := fun b t hb hm => by rw [hX b hm] at hb; cases hb
  exact ⟨h.sm.kept a hX, fun x hx => ⟨(h.als x hx).1.kept a (fun b hb => hn b _ ((h.als x hx).2.1 b hb)), (h.als x hx).2⟩, fun x hx => ⟨(h.awe x hx).1.kept a (fun b hb => hn b _ ((h.awe x hx).2.1 b hb)), (h.awe x hx).2⟩,
    fun i x hx => ⟨(h.alf i x hx).1.kept a (fun b hb => hn b _ ((h.alf i x hx).2.1 b hb)), (h.alf i x hx).2⟩, h.pl, h.lfm⟩
theorem Sh.kept0 {w w' : World} {S mark : Nat} {d : Sd} {who : Nat → Option Nat} (h : Sh w S mark d who) (a : Apart [] w w') : Sh w' S mark d who := h.kept a (by simp)
theorem Sh.cl {w : World} {S mark : Nat} {d : Sd} {who : Nat → Option Nat} (h : Sh w S mark d who) (hm : mark ≤ 900) : ∀ f, f ∈ fs → (d.c f).length ≤ 1000 := by
  have h1 := h.pl.l4; have h2 := h.pl.lm; have h3 := h.pl.lw; have h4 := h.lfm
  intro f hf
  simp only [fs, List.mem_cons, List.not_mem_nil, or_false] at hf
  rcases hf with rfl | rfl | rfl | rfl <;> simp [Sd.c, flZ] <;> omega
/-- blocks that are as they were -/
structure Fr (K : Nat → Prop) (w w' : World) : Prop where
  os : w'.os = w.os
  tape : w'.tape = w.tape
  output : w'.output = w.output
  size : w.heap.size ≤ w'.heap.size
  block : ∀ k, k < w.heap.size → K k → w'.heap[k]? = w.heap[k]?
structure ToldPost (w w' : World) (r : Ending) (S mark : Nat) (who : Nat → Option Nat) (b : Option Nat) : Prop where
  ret : r = .returned (.bool true)
  ex : ∃ d' who', Sh w' S (mark + 1) d' who' ∧ ∀ k s, who' k = some s → who k = some s ∨ b = some k ∨ w.heap.size ≤ k
  fr : Fr (fun k => who k = none ∧ b ≠ some k) w w'
theorem An.At.same {w w' : World} {a : An} (h : a.At w) (hb : ∀ b, a.blk = some b → w'.heap[b]? = w.heap[b]?) : a.At w' := by
  rcases h with h | ⟨P, o, hp, h⟩
  · exact .inl h
  · obtain ⟨cur, hr, r⟩ := h.ex
    exact .inr ⟨P, o, hp, ⟨⟨cur, (hb P (by simp [An.blk, hp])).trans hr, r⟩, h.le, h.len⟩⟩
theorem An.At.blk_lt {w : World} {a : An} (h : a.At w) {b : Nat} (hb : a.blk = some b) : b < w.heap.size := by
  rcases h with h | ⟨P, o, hp, h⟩
  · simp [An.blk, h.1] at hb
  · simp [An.blk, hp] at hb; subst hb; exact h.lt
/-- an answer is left, and its copy -/
theorem asm_odd {wr WF : World} {S mark : Nat} {d : Sd} {who who5 : Nat → Option Nat} (h : Sh wr S mark d who) (a cp : An)
    (sm : Sm WF S (mark + 1) (updC (updC d.c 3 (d.c 3 ++ [a.v])) 4 (d.c 4 ++ [cp.v])) who5)
    (up : ∀ k s, who k = some s → who5 k = some s) (dn : ∀ k s, who5 k = some s → who k = some s ∨ wr.heap.size ≤ k)
    (blk : ∀ k, k < wr.heap.size → (∀ s, who k = some s → 6 ≤ s) → WF.heap[k]? = wr.heap[k]?)
    (ha : a.At wr) (hafr : ∀ b, a.blk = some b → who b = none) (hn : a.n ≤ 8) (hcp : cp.At WF) (hcfr : ∀ b, cp.blk = some b → wr.heap.size ≤ b ∧ who5 b = none) (hcn : cp.n ≤ 8) (hz : a.zs = cp.zs) :
    ∃ d' who', Sh WF S (mark + 1) d' who' ∧ ∀ k s, who' k = some s → who k = some s ∨ a.blk = some k ∨ wr.heap.size ≤ k := by
  have ha5 : ∀ b, a.blk = some b → who5 b = none := by
    intro b hb
    cases hw : who5 b with
    | none => rfl
    | some s =>
      rcases dn b s hw with h1 | h1
      · rw [hafr b hb] at h1; cases h1
      · have := ha.blk_lt hb; omega
  have hac : ∀ b, a.blk = some b → cp.blk ≠ some b := fun b hb hc => by
    have := ha.blk_lt hb; have := (hcfr b hc).1; omega
  have up' : ∀ k s, who5 k = some s → whoP (whoP who5 a.blk (7 + d.lf.length)) cp.blk 6 k = some s := by
    intro k s hk
    refine whoP_old (fun j hj => ?_) (whoP_old (fun j hj => .inl (ha5 j hj)) hk)
    left
    unfold whoP
    rw [if_neg (fun e => hac j e hj)]
    exact (hcfr j hj).2
  have hold : ∀ x : An, x.At wr → (∀ b, x.blk = some b → ∃ t, who b = some t ∧ 6 ≤ t) → x.At WF := fun x hx hb => hx.same (fun b hbb => blk b (hx.blk_lt hbb) (fun s hs => by
    obtain ⟨t, h1, h2⟩ := hb b hbb
    rw [h1] at hs; cases hs; exact h2))
  refine ⟨⟨d.ls, d.mks, d.lf ++ [a], d.we ++ [cp]⟩, whoP (whoP who5 a.blk (7 + d.lf.length)) cp.blk 6, ⟨?_, ?_, ?_, ?_, ?_, ?_⟩, ?_⟩
  · refine Sm.congr (c := updC (updC d.c 3 (d.c 3 ++ [a.v])) 4 (d.c 4 ++ [cp.v])) ?_ ?_
    · obtain ⟨v, G, hr, hf⟩ := sm.ex
      refine ⟨fun k t hk => ?_, up' _ _ sm.wS, v, G, hr, fun f hm => ⟨(hf f hm).1, fun g hg => up' _ _ ((hf f hm).2 g hg)⟩⟩
      unfold whoP at hk
      split at hk
      · rename_i e; exact hcp.blk_lt e
      · split at hk
        · rename_i e
          have h1 := ha.blk_lt e
          have h2 : WF.heap[k]? = wr.heap[k]? := blk k h1 (fun s hs => by rw [hafr k e] at hs; cases hs)
          rw [Array.getElem?_eq_getElem h1] at h2
          exact (Array.getElem?_eq_some_iff.1 h2).1
        · exact sm.own k t hk
    · intro f hf
      simp only [fs, List.mem_cons, List.not_mem_nil, or_false] at hf
      rcases hf with rfl | rfl | rfl | rfl <;> simp [updC, Sd.c]
  · intro x hx
    obtain ⟨h1, h2, h3⟩ := h.als x hx
    exact ⟨hold x h1 (fun b hb => ⟨6, h2 b hb, Nat.le_refl _⟩), fun b hb => up' _ _ (up _ _ (h2 b hb)), h3⟩
  · intro x hx
    rcases List.mem_append.1 hx with hx | hx
    · obtain ⟨h1, h2, h3⟩ := h.awe x hx
      exact ⟨hold x h1 (fun b hb => ⟨6, h2 b hb, Nat.le_refl _⟩), fun b hb => up' _ _ (up _ _ (h2 b hb)), h3⟩
    · obtain rfl : x = cp := by simpa using hx
      exact ⟨hcp, fun b hb => by simp [whoP, hb], hcn⟩
  · intro i x hx
    by_cases hi : i < d.lf.length
    · simp only at hx
      rw [List.getElem?_append_left hi] at hx
      obtain ⟨h1, h2, h3⟩ := h.alf i x hx
      exact ⟨hold x h1 (fun b hb => ⟨7 + i, h2 b hb, by omega⟩), fun b hb => up' _ _ (up _ _ (h2 b hb)), h3⟩
    · have hi2 : i = d.lf.length := by
        have := (List.getElem?_eq_some_iff.1 hx).1
        simp at this; omega
      subst hi2
      simp at hx
      subst hx
      refine ⟨ha.same (fun b hb => blk b (ha.blk_lt hb) (fun s hs => by rw [hafr b hb] at hs; cases hs)), fun b hb => ?_, hn⟩
      unfold whoP
      rw [if_neg (hac b hb), if_pos hb]
  · refine ⟨h.pl.lm, h.pl.l4, by simp [h.pl.lw], fun i x y hx hy => ?_, h.pl.mrk⟩
    have hlw := h.pl.lw
    by_cases hi : i < d.lf.length
    · simp only at hx hy
      rw [List.getElem?_append_left hi] at hx
      rw [List.getElem?_append_left (by omega)] at hy
      exact h.pl.sam i x y hx hy
    · have hi2 : i = d.lf.length := by
        have := (List.getElem?_eq_some_iff.1 hx).1
        simp at this; omega
      subst hi2
      simp at hx
      rw [hlw] at hy
      simp at hy
      subst hx; subst hy; exact hz
  · have := h.lfm
    simp; omega
  · intro k s hk
    unfold whoP at hk
    split at hk
    · rename_i e; exact .inr (.inr (hcfr k e).1)
    · split at hk
      · rename_i e; exact .inr (.inl e)
      · rcases dn k s hk with h1 | h1
        · exact .inl h1
        · exact .inr (.inr h1)
end Go.Proofs.Ytagjmpdimphfaaa.rg
