import Derived.Test.YthmloakkefiicaaPair
namespace Go.Proofs.Ythmloakkefiicaa.dk
open Go.ChangeShapes Go.WideShapes Go.ChangeAt Go.RowKit
set_option linter.unusedVariables false
set_option linter.unusedSimpArgs false
def whoL (who : Nat → Option Nat) : List (Option Nat × Nat) → (Nat → Option Nat)
  | [] => who
  | q :: l => whoP (whoL who l) q.1 q.2
theorem whoL_up {who : Nat → Option Nat} {B : Nat} (own : ∀ k t, who k = some t → k < B) : ∀ (l : List (Option Nat × Nat)), (∀ q ∈ l, ∀ k, q.1 = some k → who k = some q.2 ∨ who k = none ∨ B ≤ k) → ∀ k s, who k = some s → whoL who l k = some s
  | [], _, k, s, h => h
  | q :: l, hq, k, s, h => by
    show whoP (whoL who l) q.1 q.2 k = some s
    unfold whoP
    split
    · rename_i e
      rcases hq q (by simp) k e with h1 | h1 | h1
      · rw [h1] at h; exact h
      · rw [h1] at h; cases h
      · have := own k s h; omega
    · exact whoL_up own l (fun q hm => hq q (by simp [hm])) k s h
theorem whoL_tag {who : Nat → Option Nat} : ∀ (l : List (Option Nat × Nat)), (∀ q ∈ l, ∀ q' ∈ l, ∀ k, q.1 = some k → q'.1 = some k → q.2 = q'.2) → ∀ q ∈ l, ∀ k, q.1 = some k → whoL who l k = some q.2
  | [], _, q, hm, _, _ => by simp at hm
  | a :: l, hd, q, hm, k, hk => by
    show whoP (whoL who l) a.1 a.2 k = some q.2
    unfold whoP
    split
    · rename_i e; rw [hd a (by simp) q hm k e hk]
    · rename_i e
      rcases List.mem_cons.1 hm with rfl | hm
      · exact absurd hk e
      · exact whoL_tag l (fun q h1 q' h2 => hd q (by simp [h1]) q' (by simp [h2])) q hm k hk
theorem whoL_inv {who : Nat → Option Nat} : ∀ (l : List (Option Nat × Nat)) (k s : Nat), whoL who l k = some s → who k = some s ∨ ∃ q ∈ l, q.1 = some k
  | [], k, s, h => .inl h
  | a :: l, k, s, h => by
    rcases whoP_inv h with ⟨h1, _⟩ | h1
    · exact .inr ⟨a, by simp, h1⟩
    · rcases whoL_inv l k s h1 with h2 | ⟨q, hq, h2⟩
      · exact .inl h2
      · exact .inr ⟨q, by simp [hq], h2⟩
theorem arr14 {a b : Array Value} (ha : a.size = 14) (hb : b.size = 14) (h : ∀ i, i < 14 → a[i]? = b[i]?) : a = b := by
  apply Array.ext_getElem?
  intro i
  by_cases hi : i < 14
  · exact h i hi
  · rw [Array.getElem?_eq_none (by omega), Array.getElem?_eq_none (by omega)]
theorem lt14 {i : Nat} (h : i < 14) : i = 0 ∨ i = 1 ∨ i = 2 ∨ i = 3 ∨ i = 4 ∨ i = 5 ∨ i = 6 ∨ i = 7 ∨ i = 8 ∨ i = 9 ∨ i = 10 ∨ i = 11 ∨ i = 12 ∨ i = 13 := by omega
def updV (v : Nat → Value) (f : Nat) (x : Value) : Nat → Value := fun k => if k = f then x else v k
def updG (v : Nat → Option Nat) (f : Nat) (x : Option Nat) : Nat → Option Nat := fun k => if k = f then x else v k
theorem fs_cases {P : Nat → Prop} (h2 : P 2) (h3 : P 3) (h4 : P 4) (h5 : P 5) (h7 : P 7) (h8 : P 8) (h9 : P 9) (h10 : P 10) : ∀ f, f ∈ fs → P f := by
  intro f hf
  simp only [fs, List.mem_cons, List.not_mem_nil, or_false] at hf
  rcases hf with rfl | rfl | rfl | rfl | rfl | rfl | rfl | rfl <;> assumption
/-- a row is the old one, or a new one -/
def Gr (w : World) (who : Nat → Option Nat) (b : Option Nat) (t : Nat) : Prop := ∀ k, b = some k → who k = some t ∨ who k = none ∨ w.heap.size ≤ k
theorem gr_of {w : World} {who : Nat → Option Nat} {G G' : Option Nat} {t : Nat} (ht : ∀ g, G = some g → who g = some t) (o : G' = G ∨ ∃ k, G' = some k ∧ w.heap.size ≤ k) : Gr w who G' t := by
  intro k hk
  rcases o with o | ⟨j, o1, o2⟩
  · exact .inl (ht k (o ▸ hk))
  · rw [o1] at hk; cases hk; exact .inr (.inr o2)
theorem new_of {w : World} {who : Nat → Option Nat} {G G' : Option Nat} {t : Nat} (ht : ∀ g, G = some g → who g = some t) (o : G' = G ∨ ∃ k, G' = some k ∧ w.heap.size ≤ k) {k : Nat} (hk : G' = some k) : who k ≠ none ∨ w.heap.size ≤ k := by
  rcases o with o | ⟨j, o1, o2⟩
  · exact .inl (by rw [ht k (o ▸ hk)]; simp)
  · rw [o1] at hk; cases hk; exact .inr o2
/-- rows of two kinds of elements -/
theorem sl_ne {w : World} {e e' : TypeId} {v v' : Value} {xs xs' : List Value} {G G' : Option Nat} (h : SlAt w e v xs G) (h' : SlAt w e' v' xs' G') (hne : e ≠ e') {k : Nat} (h1 : G = some k) (h2 : G' = some k) : False := h.other h' hne k h1 (by simp [h2])
theorem ans_ne {w : World} {e : TypeId} {v : Value} {xs : List Value} {G G' : Option Nat} {p : Option Addr} {l c : Nat} {bs : List Int} (h : SlAt w e v xs G) (h' : Ans w p l c bs G') (hne : e ≠ 5) {k : Nat} (h1 : G = some k) (h2 : G' = some k) : False := h.otherA h' hne k h1 (by simp [h2])
theorem ansI_ne {w : World} {e : TypeId} {v : Value} {xs : List Value} {G G' : Option Nat} {p : Option Addr} {l c : Nat} {bs : List Int} (h : SlAt w e v xs G) (h' : AnsI w p l c bs G') (hne : e ≠ 3) {k : Nat} (h1 : G = some k) (h2 : G' = some k) : False := h.otherI h' hne k h1 (by simp [h2])
theorem hd3 {b1 b2 b3 : Option Nat} {t1 t2 t3 : Nat} (h12 : ∀ k, b1 = some k → b2 = some k → False) (h13 : ∀ k, b1 = some k → b3 = some k → False) (h23 : ∀ k, b2 = some k → b3 = some k → False) : ∀ q ∈ [(b1, t1), (b2, t2), (b3, t3)], ∀ q' ∈ [(b1, t1), (b2, t2), (b3, t3)], ∀ k, q.1 = some k → q'.1 = some k → q.2 = q'.2 := by
  intro q hq q' hq' k h1 h2
  simp only [List.mem_cons, List.not_mem_nil, or_false] at hq hq'
  rcases hq with rfl | rfl | rfl <;> rcases hq' with rfl | rfl | rfl <;> first | rfl | exact absurd h2 (fun h2 => h12 k h1 h2) | exact absurd h1 (fun h1 => h12 k h2 h1) | exact absurd h2 (fun h2 => h13 k h1 h2) | exact absurd h1 (fun h1 => h13 k h2 h1) | exact absurd h2 (fun h2 => h23 k h1 h2) | exact absurd h1 (fun h1 => h23 k h2 h1)
/-! bytes that are left alone -/
theorem Pr.left {w w' : World} {P : Nat} {x : Pd} {who : Nat → Option Nat} (h : Pr w P x who) {p : Option Addr} {l c : Nat} {bs : List Int} {GA : Option Nat} (hA : Ans w p l c bs GA) (hfr : ∀ g, GA = some g → who g = none) (hl : x.size + l ≤ 4194304) (hn : x.lf.length < 100)
    {lv' wv' : Value} {GL' GW' : Option Nat} (row : PRow w' P (((x.row.setIfInBounds 11 (.int .i64 ((x.size : Int) + l))).setIfInBounds 7 lv').setIfInBounds 8 wv')) (s7 : SlAt w' 30 lv' (x.lf.map AB.val ++ [.slice p l c]) GL') (s8 : SlAt w' 9 wv' (x.lf.map AB.str ++ [.string (strOf bs)]) GW')
    (a : Apart (P :: ((x.G 7).toList ++ (x.G 8).toList)) w w') (o7 : GL' = x.G 7 ∨ ∃ k, GL' = some k ∧ w.heap.size ≤ k) (o8 : GW' = x.G 8 ∨ ∃ k, GW' = some k ∧ w.heap.size ≤ k) (K : Nat) (hK : Bk x K) : St w w' P who K GA := by
  have t7 := (h.sl 7 (by decide)).tg
  have t8 := (h.sl 8 (by decide)).tg
  have hAX : ∀ g, GA = some g → g ∉ (P :: ((x.G 7).toList ++ (x.G 8).toList)) := by
    intro g hg hm
    have hw := hfr g hg
    simp only [List.mem_cons, List.mem_append, Option.mem_toList, Option.mem_def] at hm
    rcases hm with rfl | hm | hm
    · rw [h.wP] at hw; cases hw
    · rw [t7 g hm] at hw; cases hw
    · rw [t8 g hm] at hw; cases hw
  have hA' : Ans w' p l c bs GA := hA.kept a hAX
  obtain ⟨L, hL⟩ : ∃ L : List (Option Nat × Nat), L = [(GL', 17), (GW', 18), (GA, 40 + 2 * x.lf.length)] := ⟨_, rfl⟩
  have hq : ∀ q ∈ L, ∀ k, q.1 = some k → who k = some q.2 ∨ who k = none ∨ w.heap.size ≤ k := by
    subst hL
    intro q hm k hk
    simp only [List.mem_cons, List.not_mem_nil, or_false] at hm
    rcases hm with rfl | rfl | rfl
    · exact gr_of t7 o7 k hk
    · exact gr_of t8 o8 k hk
    · exact .inr (.inl (hfr k hk))
  have hd := hd3 (t1 := 17) (t2 := 18) (t3 := 40 + 2 * x.lf.length) (fun k h1 h2 => sl_ne s7 s8 (by decide) h1 h2) (fun k h1 h2 => ans_ne s7 hA' (by decide) h1 h2) (fun k h1 h2 => ans_ne s8 hA' (by decide) h1 h2)
  rw [← hL] at hd
  have up := whoL_up h.own L hq
  have tag := whoL_tag (who := who) L hd
  have inv : ∀ k s, whoL who L k = some s → who k ≠ none ∨ GA = some k ∨ w.heap.size ≤ k := by
    intro k s hk
    rcases whoL_inv L k s hk with h1 | ⟨q, hq1, hq2⟩
    · exact .inl (by rw [h1]; simp)
    · subst hL
      simp only [List.mem_cons, List.not_mem_nil, or_false] at hq1
      rcases hq1 with rfl | rfl | rfl
      · rcases new_of t7 o7 hq2 with h1 | h1
        · exact .inl h1
        · exact .inr (.inr h1)
      · rcases new_of t8 o8 hq2 with h1 | h1
        · exact .inl h1
        · exact .inr (.inr h1)
      · exact .inr (.inl hq2)
  have m : Mv w w' who (whoL who L) [0, 17, 18] := Mv.of a h.own (fun k hm t ht => by
    simp only [List.mem_cons, List.mem_append, Option.mem_toList, Option.mem_def] at hm
    rcases hm with rfl | hm | hm
    · rw [h.wP] at ht; cases ht; simp
    · rw [t7 k hm] at ht; cases ht; simp
    · rw [t8 k hm] at ht; cases ht; simp) up
  obtain ⟨y, hy⟩ : ∃ y : Pd, y = { x with lf := x.lf ++ [⟨p, l, c, bs, GA⟩], size := x.size + l, v := updV (updV x.v 7 lv') 8 wv', G := updG (updG x.G 7 GL') 8 GW' } := ⟨_, rfl⟩
  refine ⟨⟨y, whoL who L, ⟨fun k t hk => ?_, up _ _ h.wP, ?_, ?_, ?_, ?_, ?_, ?_, ?_, ?_, ?_, ?_, ?_⟩, ?_, inv⟩, ?_⟩
  · rcases whoL_inv L k t hk with h1 | ⟨q, hq1, hq2⟩
    · exact Nat.lt_of_lt_of_le (h.own k t h1) a.size
    · subst hL
      simp only [List.mem_cons, List.not_mem_nil, or_false] at hq1
      rcases hq1 with rfl | rfl | rfl
      · exact s7.lt hq2
      · exact s8.lt hq2
      · exact hA'.lt' hq2
  · rw [row.row]; subst hy; rfl
  · exact h.dp.mv m (by simp) (by subst hy; rfl) (by subst hy; rfl) (by subst hy; rfl)
  · exact h.rp.mv m (by simp) (by subst hy; rfl) (by subst hy; rfl)
  · refine fs_cases ?_ ?_ ?_ ?_ ?_ ?_ ?_ ?_
    · exact (h.sl 2 (by decide)).mv m (by simp) (by subst hy; rfl) (by subst hy; rfl) (by subst hy; rfl)
    · exact (h.sl 3 (by decide)).mv m (by simp) (by subst hy; rfl) (by subst hy; rfl) (by subst hy; rfl)
    · exact (h.sl 4 (by decide)).mv m (by simp) (by subst hy; rfl) (by subst hy; rfl) (by subst hy; rfl)
    · exact (h.sl 5 (by decide)).mv m (by simp) (by subst hy; rfl) (by subst hy; rfl) (by subst hy; rfl)
    · subst hy
      refine ⟨?_, fun g hg => tag (GL', 17) (by simp [hL]) g hg⟩
      show SlAt w' 30 lv' ((x.lf ++ [_]).map AB.val) GL'
      rw [List.map_append]; exact s7
    · subst hy
      refine ⟨?_, fun g hg => tag (GW', 18) (by simp [hL]) g hg⟩
      show SlAt w' 9 wv' ((x.lf ++ [_]).map AB.str) GW'
      rw [List.map_append]; exact s8
    · exact (h.sl 9 (by decide)).mv m (by simp) (by subst hy; rfl) (by subst hy; rfl) (by subst hy; rfl)
    · exact (h.sl 10 (by decide)).mv m (by simp) (by subst hy; rfl) (by subst hy; rfl) (by subst hy; rfl)
  · exact h.lp.mv m (by simp) (by subst hy; rfl) (by subst hy; rfl) (by subst hy; rfl) (by subst hy; rfl) (by subst hy; rfl)
  · subst hy; exact fun a ha => (h.kab a ha).mv m (by simp)
  · subst hy; exact fun a ha => (h.kai a ha).mv m (by simp)
  · subst hy
    intro i b hb
    by_cases hi : i < x.lf.length
    · simp only at hb
      rw [List.getElem?_append_left hi] at hb
      exact (h.klf i b hb).mv m (by simp; omega)
    · have hi2 : i = x.lf.length := by
        have := (List.getElem?_eq_some_iff.1 hb).1
        simp at this; omega
      subst hi2
      simp at hb; subst hb
      exact ⟨hA', fun g hg => tag (GA, 40 + 2 * x.lf.length) (by simp [hL]) g hg, by show l ≤ _; omega⟩
  · subst hy; exact fun i a ha => (h.knu i a ha).mv m (by simp; omega)
  · subst hy; exact fun a ha => (h.kwo a ha).mv m (by simp)
  · subst hy
    exact { h.bd with lf := by simp; omega, size := hl }
  · subst hy; exact ⟨hK.mark, hK.n, hK.wr⟩
  · refine Fr.of a (fun k hm _ hk => ?_)
    simp only [List.mem_cons, List.mem_append, Option.mem_toList, Option.mem_def] at hm
    rcases hm with rfl | hm | hm
    · rw [h.wP] at hk; cases hk.1
    · rw [t7 k hm] at hk; cases hk.1
    · rw [t8 k hm] at hk; cases hk.1
end Go.Proofs.Ythmloakkefiicaa.dk
