import Derived.Test.YtokaeiahhmaokaaPlain
namespace Go.Proofs.Ytokaeiahhmaokaa.ds
set_option linter.unusedVariables false
set_option linter.unusedSimpArgs false
/-- a set for a gap -/
structure OkL (gap : Int) (s : List S) : Prop where
  ok : ∀ x ∈ s, Ok gap x
  up : s.Pairwise (fun x y => x.n < y.n)
theorem OkL.nil (gap : Int) : OkL gap [] := ⟨by simp, List.Pairwise.nil⟩
theorem OkL.mono {g k : Int} {s : List S} (h : OkL g s) (hk : g ≤ k) : OkL k s := ⟨fun x hx => (h.ok x hx).mono hk, h.up⟩
theorem OkL.tail {g : Int} {x : S} {s : List S} (h : OkL g (x :: s)) : OkL g s := ⟨fun y hy => h.ok y (List.mem_cons_of_mem _ hy), (List.pairwise_cons.1 h.up).2⟩
def ofn : List S → Int → S
  | [], n => none0 n
  | x :: l, n => if x.n = n then x else ofn l n
theorem ofn_n : ∀ (s : List S) (n : Int), (ofn s n).n = n
  | [], n => rfl
  | x :: l, n => by unfold ofn; split; assumption; exact ofn_n l n
theorem ofn_out : ∀ (s : List S) (n : Int), (∀ x ∈ s, x.n ≠ n) → ofn s n = none0 n
  | [], n, _ => rfl
  | x :: l, n, h => by rw [ofn, if_neg (h x List.mem_cons_self)]; exact ofn_out l n fun y hy => h y (List.mem_cons_of_mem _ hy)
theorem ofn_or : ∀ (s : List S) (n : Int), ofn s n = none0 n ∨ ofn s n ∈ s
  | [], n => .inl rfl
  | x :: l, n => by
    unfold ofn
    split
    · exact .inr List.mem_cons_self
    · rcases ofn_or l n with h | h
      · exact .inl h
      · exact .inr (List.mem_cons_of_mem _ h)
theorem ofn_mem {g : Int} : ∀ (s : List S), OkL g s → ∀ x ∈ s, ofn s x.n = x
  | y :: l, h, x, hx => by
    unfold ofn
    rcases List.mem_cons.1 hx with rfl | hx
    · rw [if_pos rfl]
    · have := (List.pairwise_cons.1 h.up).1 x hx
      rw [if_neg (by omega)]
      exact ofn_mem l h.tail x hx
theorem OkL.okn {g : Int} {s : List S} (h : OkL g s) (h0 : 0 ≤ g) (hg : g ≤ 64) (n : Int) : Okn g n (ofn s n) := by
  rcases ofn_or s n with e | e
  · rw [e]; exact okn_none g n h0
  · have := (h.ok _ e).okn hg
    rw [ofn_n] at this; exact this
theorem OkL.wf {g : Int} {s : List S} (h : OkL g s) (h0 : 0 ≤ g) (hg : g ≤ 64) (n : Int) : Wf (ofn s n) := (h.okn h0 hg n).wf
theorem okL_ext {g k : Int} : ∀ (s t : List S), OkL g s → OkL k t → (∀ n, 0 ≤ n → n < 8 → ofn s n = ofn t n) → s = t
  | [], [], _, _, _ => rfl
  | [], y :: t, _, ht, h => by
    have o := ht.ok y List.mem_cons_self
    have := h y.n o.n0 o.n8
    rw [ofn_mem _ ht y List.mem_cons_self] at this
    exact absurd ⟨by rw [← this]; rfl, by rw [← this]; rfl⟩ o.ne
  | x :: s, [], hs, _, h => by
    have o := hs.ok x List.mem_cons_self
    have := h x.n o.n0 o.n8
    rw [ofn_mem _ hs x List.mem_cons_self] at this
    exact absurd ⟨by rw [this]; rfl, by rw [this]; rfl⟩ o.ne
  | x :: s, y :: t, hs, ht, h => by
    have ox := hs.ok x List.mem_cons_self
    have oy := ht.ok y List.mem_cons_self
    have us := (List.pairwise_cons.1 hs.up).1
    have ut := (List.pairwise_cons.1 ht.up).1
    have hx := h x.n ox.n0 ox.n8
    have hy := h y.n oy.n0 oy.n8
    rw [ofn_mem _ hs x List.mem_cons_self] at hx
    rw [ofn_mem _ ht y List.mem_cons_self] at hy
    rcases Int.lt_trichotomy x.n y.n with l | l | l
    · rw [ofn_out (y :: t) x.n (fun z hz => by rcases List.mem_cons.1 hz with rfl | hz; omega; have := ut z hz; omega)] at hx
      exact absurd ⟨by rw [hx]; rfl, by rw [hx]; rfl⟩ ox.ne
    · have e : x = y := by
        rw [l] at hx
        rw [ofn_mem _ ht y List.mem_cons_self] at hx; exact hx
      subst e
      rw [okL_ext s t hs.tail ht.tail fun n h0 h8 => ?_]
      have hn := h n h0 h8
      unfold ofn at hn
      by_cases e : x.n = n
      · rw [ofn_out s n (fun z hz => by have := us z hz; omega), ofn_out t n (fun z hz => by have := ut z hz; omega)]
      · simpa [e] using hn
    · rw [ofn_out (x :: s) y.n (fun z hz => by rcases List.mem_cons.1 hz with rfl | hz; omega; have := us z hz; omega)] at hy
      exact absurd ⟨by rw [← hy]; rfl, by rw [← hy]; rfl⟩ oy.ne
/-- the spans of the first k nodes -/
def gath (F : Nat → S) : Nat → List S
  | 0 => []
  | k + 1 => gath F k ++ (if F k = none0 k then [] else [F k])
theorem gath_lt {F : Nat → S} (hn : ∀ k, (F k).n = k) : ∀ k, ∀ x ∈ gath F k, x.n < k ∧ ∃ j, j < k ∧ x = F j ∧ F j ≠ none0 j
  | 0, x, h => by simp [gath] at h
  | k + 1, x, h => by
    simp only [gath, List.mem_append] at h
    rcases h with h | h
    · obtain ⟨h1, j, h2, h3⟩ := gath_lt hn k x h
      exact ⟨by omega, j, by omega, h3⟩
    · split at h
      · simp at h
      · rename_i h0
        simp at h; subst h
        exact ⟨by rw [hn]; omega, k, by omega, rfl, h0⟩
theorem gath_ok {g : Int} {F : Nat → S} (hF : ∀ k : Nat, k < 8 → Okn g k (F k)) (hn : ∀ k, (F k).n = k) : ∀ k, k ≤ 8 → OkL g (gath F k)
  | 0, _ => OkL.nil g
  | k + 1, hk => by
    have ih := gath_ok hF hn k (by omega)
    refine ⟨?_, ?_⟩
    · intro x hx
      obtain ⟨_, j, hj, rfl, hne⟩ := gath_lt hn (k + 1) x hx
      exact (hF j (by omega)).ok (by omega) (by omega) hne
    · simp only [gath]
      rw [List.pairwise_append]
      refine ⟨ih.up, by split <;> simp, ?_⟩
      intro x hx y hy
      have := (gath_lt hn k x hx).1
      split at hy
      · simp at hy
      · simp at hy; subst hy; rw [hn]; exact this
theorem ofn_append (s t : List S) (n : Int) (h : ∀ x ∈ s, x.n ≠ n) : ofn (s ++ t) n = ofn t n := by
  induction s with
  | nil => rfl
  | cons x l ih => rw [List.cons_append, ofn, if_neg (h x List.mem_cons_self)]; exact ih fun y hy => h y (List.mem_cons_of_mem _ hy)
theorem ofn_append' (s t : List S) (n : Int) (h : ∀ x ∈ t, x.n ≠ n) : ofn (s ++ t) n = ofn s n := by
  induction s with
  | nil => exact ofn_out t n h
  | cons x l ih => rw [List.cons_append, ofn, ofn, ih]
theorem ofn_gath {F : Nat → S} (hn : ∀ k, (F k).n = k) (j : Nat) : ∀ k, ofn (gath F k) j = if j < k then F j else none0 j
  | 0 => rfl
  | k + 1 => by
    simp only [gath]
    by_cases h : j = k
    · subst h
      rw [ofn_append _ _ _ (fun x hx => by have := (gath_lt hn j x hx).1; omega), if_pos (Nat.lt_succ_self j)]
      split
      · rename_i h0; exact h0.symm
      · simp [ofn, hn]
    · rw [ofn_append' _ _ _ (fun x hx => by split at hx; simp at hx; simp at hx; subst hx; rw [hn]; omega), ofn_gath hn j k]
      by_cases h2 : j < k
      · rw [if_pos h2, if_pos (by omega)]
      · rw [if_neg h2, if_neg (by omega)]
theorem gath_congr {F G : Nat → S} : ∀ k, (∀ j, j < k → F j = G j) → gath F k = gath G k
  | 0, _ => rfl
  | k + 1, h => by simp only [gath, gath_congr k (fun j hj => h j (by omega)), h k (by omega)]
theorem gath_ofn {g : Int} {s : List S} (h : OkL g s) (h0 : 0 ≤ g) (hg : g ≤ 64) : gath (fun k => ofn s k) 8 = s := by
  refine okL_ext _ _ (gath_ok (g := g) (fun k _ => h.okn h0 hg k) (fun k => ofn_n s k) 8 (by omega)) h fun n hn0 hn8 => ?_
  obtain ⟨j, rfl⟩ := Int.eq_ofNat_of_zero_le hn0
  have := ofn_gath (F := fun k => ofn s k) (fun k => ofn_n s k) j 8
  rw [if_pos (by omega)] at this
  exact this
/-- all dots of a are b's -/
def Win (a b : List S) : Prop := ∀ n : Nat, n < 8 → Sub (ofn a n) (ofn b n)
theorem sub_none (n : Int) (y : S) : Sub (none0 n) y := fun c hc h => by rw [dot_none n c hc] at h; cases h
theorem win_iff {g k : Int} {a b : List S} (ha : OkL g a) (hb : OkL k b) (h0 : 0 ≤ g) (hg : g ≤ 64) (k0 : 0 ≤ k) (hk : k ≤ 64) : (∀ x ∈ a, join x (ofn b x.n) = ofn b x.n) ↔ Win a b := by
  constructor
  · intro h n hn
    rcases ofn_or a n with e | e
    · rw [e]; exact sub_none _ _
    · have h1 := h _ e
      rw [ofn_n] at h1
      exact (join_eq_iff (by rw [ofn_n, ofn_n]) (ha.wf h0 hg n) (hb.wf k0 hk n)).1 h1
  · intro h x hx
    have o := ha.ok x hx
    obtain ⟨j, hj⟩ := Int.eq_ofNat_of_zero_le o.n0
    have h1 := h j (by have := o.n8; omega)
    rw [← hj, ofn_mem a ha x hx] at h1
    exact (join_eq_iff (by rw [ofn_n]) (o.wf hg) (hb.wf k0 hk _)).2 h1
theorem win_both {g k : Int} {a b : List S} (ha : OkL g a) (hb : OkL k b) (h0 : 0 ≤ g) (hg : g ≤ 64) (k0 : 0 ≤ k) (hk : k ≤ 64) : (Win a b ∧ Win b a) ↔ a = b := by
  constructor
  · rintro ⟨h1, h2⟩
    refine okL_ext a b ha hb fun n hn0 hn8 => ?_
    obtain ⟨j, rfl⟩ := Int.eq_ofNat_of_zero_le hn0
    exact sub_antisymm (by rw [ofn_n, ofn_n]) (ha.wf h0 hg j) (hb.wf k0 hk j) (h1 j (by omega)) (h2 j (by omega))
  · rintro rfl
    exact ⟨fun n _ c _ h => h, fun n _ c _ h => h⟩
/-- how many dots -/
def tot (s : List S) : Nat := (s.map cnt).sum
def sumF (F : Nat → S) : Nat → Nat
  | 0 => 0
  | k + 1 => sumF F k + cnt (F k)
theorem cnt_none (n : Int) : cnt (none0 n) = 0 := by
  show (0 : Int).toNat + nd (Nat.testBit 0) 64 = 0
  rw [nd_none 64 (fun i _ => Nat.zero_testBit i)]; rfl
theorem tot_append (s t : List S) : tot (s ++ t) = tot s + tot t := by simp [tot]
theorem tot_gath (F : Nat → S) : ∀ k, tot (gath F k) = sumF F k
  | 0 => rfl
  | k + 1 => by
    simp only [gath, sumF, tot_append, tot_gath F k]
    split
    · rename_i h; rw [h, cnt_none]; rfl
    · simp [tot]
theorem tot_eq {g : Int} {s : List S} (h : OkL g s) (h0 : 0 ≤ g) (hg : g ≤ 64) : tot s = sumF (fun k => ofn s k) 8 := by
  rw [← tot_gath, gath_ofn h h0 hg]
theorem sumF_mono {F G : Nat → S} : ∀ k, (∀ j, j < k → (F j).n = (G j).n ∧ Wf (F j) ∧ Wf (G j) ∧ Sub (F j) (G j)) → sumF F k ≤ sumF G k ∧ (sumF F k = sumF G k → ∀ j, j < k → F j = G j)
  | 0, _ => ⟨Nat.le_refl _, fun _ j h => by omega⟩
  | k + 1, h => by
    have ih := sumF_mono k (fun j hj => h j (by omega))
    obtain ⟨h1, h2, h3, h4⟩ := h k (by omega)
    have hc := cnt_sub h1 h2 h3 h4
    refine ⟨by simp only [sumF]; omega, fun e j hj => ?_⟩
    simp only [sumF] at e
    by_cases hjk : j = k
    · subst hjk; exact hc.2 (by omega)
    · exact ih.2 (by omega) j (by omega)
theorem win_tot {g k : Int} {a b : List S} (ha : OkL g a) (hb : OkL k b) (h0 : 0 ≤ g) (hg : g ≤ 64) (k0 : 0 ≤ k) (hk : k ≤ 64) (h : Win a b) : tot a ≤ tot b ∧ (tot a = tot b ↔ Win b a) := by
  rw [tot_eq ha h0 hg, tot_eq hb k0 hk]
  have hm := sumF_mono (F := fun j => ofn a j) (G := fun j => ofn b j) 8 (fun j hj => ⟨by rw [ofn_n, ofn_n], ha.wf h0 hg j, hb.wf k0 hk j, h j hj⟩)
  refine ⟨hm.1, fun e n hn => ?_, fun hw => ?_⟩
  · have : ofn a n = ofn b n := hm.2 e n hn
    rw [this]; exact fun c _ h => h
  · have := (win_both ha hb h0 hg k0 hk).1 ⟨h, hw⟩
    rw [this]
/-- the union -/
def uni (a b : List S) : List S := gath (fun k => join (ofn a k) (ofn b k)) 8
theorem uni_ok {g : Int} {a b : List S} (ha : OkL g a) (hb : OkL g b) (h0 : 0 ≤ g) (hg : g ≤ 64) : OkL g (uni a b) :=
  gath_ok (fun k _ => join_okn (ha.okn h0 hg k) (hb.okn h0 hg k)) (fun k => (join_n (by rw [ofn_n, ofn_n])).trans (ofn_n a k)) 8 (by omega)
theorem ofn_uni (a b : List S) (n : Nat) (hn : n < 8) : ofn (uni a b) n = join (ofn a n) (ofn b n) := by
  have := ofn_gath (F := fun k => join (ofn a k) (ofn b k)) (fun k => (join_n (by rw [ofn_n, ofn_n])).trans (ofn_n a k)) n 8
  rwa [if_pos hn] at this
theorem uni_comm {g : Int} {a b : List S} (ha : OkL g a) (hb : OkL g b) (h0 : 0 ≤ g) (hg : g ≤ 64) : uni a b = uni b a :=
  gath_congr 8 fun j _ => join_comm (by rw [ofn_n, ofn_n]) (ha.wf h0 hg j) (hb.wf h0 hg j)
theorem uni_assoc {g : Int} {a b c : List S} (ha : OkL g a) (hb : OkL g b) (hc : OkL g c) (h0 : 0 ≤ g) (hg : g ≤ 64) : uni (uni a b) c = uni a (uni b c) :=
  gath_congr 8 fun j hj => by
    rw [ofn_uni _ _ _ hj, ofn_uni _ _ _ hj]
    exact join_assoc (by rw [ofn_n, ofn_n]) (by rw [ofn_n, ofn_n]) (ha.wf h0 hg j) (hb.wf h0 hg j) (hc.wf h0 hg j)
theorem uni_self {g : Int} {a : List S} (ha : OkL g a) (h0 : 0 ≤ g) (hg : g ≤ 64) : uni a a = a := by
  refine Eq.trans (gath_congr 8 fun j _ => ?_) (gath_ofn ha h0 hg)
  exact join_self (ha.wf h0 hg j)
theorem uni_nil {g : Int} {a : List S} (ha : OkL g a) (h0 : 0 ≤ g) (hg : g ≤ 64) : uni a [] = a := by
  refine Eq.trans (gath_congr 8 fun j _ => ?_) (gath_ofn ha h0 hg)
  have := join_none (ha.wf h0 hg j)
  rw [ofn_n] at this; exact this
theorem win_uni {g : Int} {a b c : List S} : Win (uni a b) c ↔ Win a c ∧ Win b c := by
  constructor
  · intro h
    refine ⟨fun n hn e he hd => h n hn e he ?_, fun n hn e he hd => h n hn e he ?_⟩ <;> rw [ofn_uni _ _ _ hn, join_dot, hd] <;> simp
  · rintro ⟨h1, h2⟩ n hn e he hd
    rw [ofn_uni _ _ _ hn, join_dot] at hd
    cases h3 : dot (ofn a n) e
    · rw [h3] at hd; exact h2 n hn e he hd
    · exact h1 n hn e he h3
/-- the bases -/
def bas (a : List S) : List S := gath (fun k => ⟨k, (ofn a k).b, 0⟩) 8
theorem bas_okn {g : Int} {a : List S} (ha : OkL g a) (h0 : 0 ≤ g) (hg : g ≤ 64) (k : Nat) : Okn 1 k ⟨k, (ofn a k).b, 0⟩ := by
  have := ha.okn h0 hg k
  refine ⟨rfl, ⟨this.wf.b0, rfl, Nat.two_pow_pos 64⟩, by simp [bl], ?_⟩
  have h1 := this.mx
  unfold top at h1 ⊢
  simp only [bl, if_pos]; omega
theorem bas_ok {g : Int} {a : List S} (ha : OkL g a) (h0 : 0 ≤ g) (hg : g ≤ 64) : OkL 1 (bas a) :=
  gath_ok (fun k _ => bas_okn ha h0 hg k) (fun k => rfl) 8 (by omega)
theorem bas_win (a : List S) : Win (bas a) a := by
  intro n hn c hc hd
  have := ofn_gath (F := fun k => ⟨k, (ofn a k).b, 0⟩) (fun k => rfl) n 8
  rw [if_pos hn] at this
  rw [bas, this] at hd
  simp only [dot, Nat.zero_testBit, Bool.or_false] at hd
  exact dot_low (by simpa using hd)
end Go.Proofs.Ytokaeiahhmaokaa.ds
