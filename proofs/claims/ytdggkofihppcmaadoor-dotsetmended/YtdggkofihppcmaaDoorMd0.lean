import Derived.Test.YtdggkofihppcmaaDoorR5
import Derived.Test.YtdggkofihppcmaaDoorMis1
namespace Go.Proofs.YtdggkofihppcmaaDoor.ds
set_option linter.unusedVariables false
set_option linter.unusedSimpArgs false
--BEGIN
/-- the set with dots more, one by one -/
def grow (B : List S) (pre : List (Int × Int)) : List S := pre.foldl (fun s d => addl s d.1 d.2) B
theorem grow_snoc (B : List S) (pre : List (Int × Int)) (d : Int × Int) : grow B (pre ++ [d]) = addl (grow B pre) d.1 d.2 := by simp [grow]
theorem ofn_addl (xs : List S) (dn dc : Int) (j : Nat) (hj : j < 8) : ofn (addl xs dn dc) j = addF xs dn dc j := by
  rw [addl_eq, ofn_gath (fun k => addF_n xs dn dc k)]; simp [hj]
theorem sumF_congr {F G : Nat → S} : ∀ k, (∀ j, j < k → F j = G j) → sumF F k = sumF G k
  | 0, _ => rfl
  | k + 1, h => by simp only [sumF, sumF_congr k (fun j hj => h j (by omega)), h k (by omega)]
theorem sumF_one {F G : Nat → S} (i : Nat) (hi : cnt (G i) = cnt (F i) + 1) (ho : ∀ j, j ≠ i → G j = F j) : ∀ k, i < k → sumF G k = sumF F k + 1
  | 0, h => by omega
  | k + 1, h => by
    simp only [sumF]
    by_cases e : i = k
    · subst e
      rw [hi, sumF_congr (F := G) (G := F) i (fun j hj => ho j (by omega))]; omega
    · rw [sumF_one i hi ho k (by omega), ho k (by omega)]; omega
/-- dots in their order -/
def ltd (d e : Int × Int) : Prop := d.1 < e.1 ∨ (d.1 = e.1 ∧ d.2 < e.2)
theorem lack_up (x y : S) : (lack x y).Pairwise (· < ·) := List.Pairwise.filter _ List.pairwise_lt_range
theorem lackL_up {gp : Int} {A : List S} (k : OkL gp A) (B : List S) : (lackL A B).Pairwise ltd := by
  unfold lackL
  rw [List.pairwise_flatMap]
  refine ⟨fun x hx => ?_, k.up.imp ?_⟩
  · refine List.pairwise_map.2 ((lack_up _ _).imp ?_)
    intro a b h
    exact .inr ⟨rfl, by show (a : Int) < b; omega⟩
  · intro x y h d hd e he
    simp only [List.mem_map] at hd he
    obtain ⟨_, _, rfl⟩ := hd
    obtain ⟨_, _, rfl⟩ := he
    exact .inl h
theorem lack_mem {x y : S} (hx : Wf x) (c : Nat) : c ∈ lack x y ↔ 1 ≤ c ∧ dot x c = true ∧ dot y c = false := by
  unfold lack miss
  simp only [List.mem_filter, List.mem_range, mis, Bool.and_eq_true, decide_eq_true_eq, Bool.not_eq_true']
  constructor
  · rintro ⟨_, h⟩; exact h
  · intro h
    refine ⟨?_, h⟩
    have h0 := hx.b0
    rcases Int.lt_or_le x.b c with hc | hc
    · have e := dot_bit x ((c : Int) - x.b - 1).toNat
      rw [show x.b + 1 + (((c : Int) - x.b - 1).toNat : Int) = c by omega, h.2.1] at e
      have : ((c : Int) - x.b - 1).toNat < 64 := by
        rcases Nat.lt_or_ge ((c : Int) - x.b - 1).toNat 64 with h1 | h1
        · exact h1
        · rw [Nat.testBit_lt_two_pow (Nat.lt_of_lt_of_le hx.lt (Nat.pow_le_pow_right (by omega) h1))] at e; cases e
      omega
    · omega
theorem lackL_mem {gp : Int} {A B : List S} (k : OkL gp A) (h0 : 0 ≤ gp) (hg : gp ≤ 64) (n c : Int) : (n, c) ∈ lackL A B ↔ (0 ≤ n ∧ n < 8) ∧ 1 ≤ c ∧ dot (ofn A n) c = true ∧ dot (ofn B n) c = false := by
  unfold lackL
  simp only [List.mem_flatMap, List.mem_map, Prod.mk.injEq]
  constructor
  · rintro ⟨x, hx, q, hq, rfl, rfl⟩
    have ok := k.ok x hx
    have := (lack_mem (ok.wf hg) q).1 hq
    rw [ofn_mem A k x hx]
    exact ⟨⟨ok.n0, ok.n8⟩, by omega, this.2⟩
  · rintro ⟨hn, hc, h1, h2⟩
    rcases ofn_or A n with e | e
    · rw [e, dot_none n c hc] at h1; cases h1
    · refine ⟨ofn A n, e, c.toNat, (lack_mem ((k.ok _ e).wf hg) c.toNat).2 ?_, ofn_n A n, by omega⟩
      rw [ofn_n, show ((c.toNat : Nat) : Int) = c by omega]
      exact ⟨by omega, h1, h2⟩
/-- a list's base is behind all that it has in a row -/
theorem base_ge {y : S} (hy : Wf y) (k : Int) (h : ∀ e, 1 ≤ e → e ≤ k → dot y e = true) : k ≤ y.b := by
  have h0 := hy.b0
  rcases Int.lt_or_le y.b k with hk | hk
  · have := h (y.b + 1) (by omega) (by omega)
    rw [dot_next hy] at this; cases this
  · exact hk
theorem dot_gap {gp n : Int} {x : S} (h : Okn gp n x) {c : Int} (hc : x.b < c) (hd : dot x c = true) : c ≤ x.b + gp ∧ c ≤ 1048576 := by
  have e := dot_bit x (c - x.b - 1).toNat
  rw [show x.b + 1 + ((c - x.b - 1).toNat : Int) = c by omega, hd] at e
  have hb : ((c - x.b - 1).toNat) < bl x.t := by
    rcases Nat.lt_or_ge ((c - x.b - 1).toNat) (bl x.t) with h1 | h1
    · exact h1
    · rw [(bl_le' (k := bl x.t)).1 (Nat.le_refl _) _ h1] at e; cases e
  have := h.gp
  have h2 := h.mx
  unfold top at h2
  omega
structure Grown (gp : Int) (A B : List S) (pre : List (Int × Int)) : Prop where
  ok : OkL gp (grow B pre)
  dots : ∀ j : Nat, j < 8 → ∀ c, 1 ≤ c → dot (ofn (grow B pre) j) c = (dot (ofn B j) c || decide (((j : Int), c) ∈ pre))
  tot : tot (grow B pre) = tot B + pre.length
theorem Grown.nil {gp : Int} {A B : List S} (kb : OkL gp B) : Grown gp A B [] := ⟨kb, fun j _ c _ => by simp [grow], by simp [grow]⟩
/-- what a dot that is told next is -/
structure NextD (gp : Int) (s : List S) (pre : List (Int × Int)) (d : Int × Int) : Prop where
  n : 0 ≤ d.1 ∧ d.1 < 8
  c : 1 ≤ d.2 ∧ d.2 ≤ 1048576
  not : dot (ofn s d.1) d.2 = false
  gap : d.2 ≤ (ofn s d.1).b + gp
  rise : ∀ e ∈ pre, ltd e d
theorem ltd_irr {d e : Int × Int} (h : ltd d e) (k : ltd e d) : False := by
  rcases h with h | ⟨h1, h2⟩ <;> rcases k with k | ⟨k1, k2⟩ <;> omega
theorem grown_next {gp : Int} {A B : List S} (ka : OkL gp A) (kb : OkL gp B) (h0 : 1 ≤ gp) (hg : gp ≤ 64) {pre : List (Int × Int)} {d : Int × Int} (g : Grown gp A B pre) (hp : pre ++ [d] <+: lackL A B) : NextD gp (grow B pre) pre d := by
  obtain ⟨rest, hr⟩ := hp
  rw [List.append_assoc, List.singleton_append] at hr
  have up := lackL_up ka B
  rw [← hr, List.pairwise_append] at up
  obtain ⟨u1, u2, u3⟩ := up
  have hrise : ∀ e ∈ pre, ltd e d := fun e he => u3 e he d (by simp)
  have hmem : ∀ e, e ∈ lackL A B → ltd e d → e ∈ pre := by
    intro e he hl
    rw [← hr] at he
    simp only [List.mem_append, List.mem_cons] at he
    rcases he with he | rfl | he
    · exact he
    · exact (ltd_irr hl hl).elim
    · exact (ltd_irr hl ((List.pairwise_cons.1 u2).1 e he)).elim
  obtain ⟨n, c⟩ := d
  have hd : (n, c) ∈ lackL A B := by rw [← hr]; simp
  obtain ⟨hn, hc, dA, dB⟩ := (lackL_mem ka (by omega) hg n c).1 hd
  obtain ⟨j, rfl⟩ : ∃ j : Nat, n = (j : Int) := ⟨n.toNat, by omega⟩
  have hj : j < 8 := by omega
  have okA := ka.okn (by omega) hg (j : Int)
  have okG := g.ok.okn (by omega) hg (j : Int)
  have hnot : dot (ofn (grow B pre) j) c = false := by
    rw [g.dots j hj c hc, dB, Bool.false_or, decide_eq_false_iff_not]
    intro hm
    exact ltd_irr (hrise _ hm) (hrise _ hm)
  have hall : ∀ e, 1 ≤ e → e < c → dot (ofn A j) e = true → dot (ofn (grow B pre) j) e = true := by
    intro e he hec hde
    rw [g.dots j hj e he]
    cases hB : dot (ofn B j) e with
    | true => rfl
    | false =>
      have := hmem ((j : Int), e) ((lackL_mem ka (by omega) hg _ _).2 ⟨hn, he, hde, hB⟩) (.inr ⟨rfl, hec⟩)
      simp [this]
  have hM : c ≤ 1048576 := by
    rcases Int.lt_or_le (ofn A j).b c with h | h
    · exact (dot_gap okA h dA).2
    · have := base_le_top (ofn A j); have := okA.mx; omega
  refine ⟨hn, ⟨hc, hM⟩, hnot, ?_, hrise⟩
  show c ≤ (ofn (grow B pre) j).b + gp
  rcases Int.lt_or_le (ofn A j).b c with h | h
  · have h1 := (dot_gap okA h dA).1
    have h2 := base_ge okG.wf (ofn A j).b (fun e he hle => hall e he (by omega) (dot_low hle))
    omega
  · have h2 := base_ge okG.wf (c - 1) (fun e he hle => hall e he (by omega) (dot_low (by omega)))
    omega
theorem Grown.snoc {gp : Int} {A B : List S} (h0 : 1 ≤ gp) (hg : gp ≤ 64) {pre : List (Int × Int)} {d : Int × Int} (g : Grown gp A B pre) (nx : NextD gp (grow B pre) pre d) : Grown gp A B (pre ++ [d]) := by
  have ok2 := addl_ok g.ok h0 hg d.1 d.2 nx.c nx.gap
  obtain ⟨n, c⟩ := d
  obtain ⟨i, hi⟩ : ∃ i : Nat, n = (i : Int) := ⟨n.toNat, by have := nx.n.1; simp at this; omega⟩
  subst hi
  have hn := nx.n
  have hi8 : i < 8 := by have := hn.2; simp at this; omega
  have okG := g.ok.okn (by omega) hg (i : Int)
  refine ⟨by rw [grow_snoc]; exact ok2, fun j hj e he => ?_, ?_⟩
  · rw [grow_snoc, ofn_addl _ _ _ _ hj, addF]
    by_cases hji : j = i
    · subst hji
      simp only [if_true]
      rw [withc_dot nx.c.1 e he, g.dots j hj e he]
      by_cases h1 : e = c
      · subst h1; simp
      · simp [h1]
    · have hne : ¬ ((j : Int) = (i : Int)) := by omega
      simp only [hne, if_false]
      rw [g.dots j hj e he]
      simp [hne, hji]
  · rw [grow_snoc, tot_eq ok2 (by omega) hg, sumF_one (F := fun k => ofn (grow B pre) k) i ?_ ?_ 8 hi8, ← tot_eq g.ok (by omega) hg, g.tot, List.length_append]
    · simp; omega
    · show cnt (ofn (addl (grow B pre) i c) i) = _
      rw [ofn_addl _ _ _ _ hi8, addF, if_pos rfl]
      exact cnt_withc okG.wf nx.c.1 (by have := nx.gap; simp at this; omega) nx.not
    · intro j hj
      show ofn (addl (grow B pre) i c) j = _
      by_cases hj8 : j < 8
      · rw [ofn_addl _ _ _ _ hj8, addF, if_neg (by omega)]
      · rw [ofn_out, ofn_out]
        · intro x hx; have := (g.ok.ok x hx).n8; omega
        · intro x hx; have := (ok2.ok x hx).n8; omega
theorem grown_pre {gp : Int} {A B : List S} (ka : OkL gp A) (kb : OkL gp B) (h0 : 1 ≤ gp) (hg : gp ≤ 64) : ∀ (n : Nat) (pre : List (Int × Int)), pre.length = n → pre <+: lackL A B → Grown gp A B pre
  | 0, pre, hl, _ => by rw [List.length_eq_zero_iff.1 hl]; exact Grown.nil kb
  | n + 1, pre, hl, hp => by
    obtain ⟨q, d, rfl⟩ : ∃ q d, pre = q ++ [d] := ⟨pre.dropLast, pre.getLast (by intro e; rw [e] at hl; simp at hl), (List.dropLast_concat_getLast _).symm⟩
    have g := grown_pre ka kb h0 hg n q (by simpa using hl) ((List.prefix_append q [d]).trans hp)
    exact g.snoc h0 hg (grown_next ka kb h0 hg g hp)
theorem grow_all {gp : Int} {A B : List S} (ka : OkL gp A) (kb : OkL gp B) (h0 : 1 ≤ gp) (hg : gp ≤ 64) : grow B (lackL A B) = uni A B := by
  have g := grown_pre ka kb h0 hg _ _ rfl (List.prefix_refl (lackL A B))
  have ku := uni_ok ka kb (by omega) hg
  refine okL_ext _ _ g.ok ku fun n hn h8 => ?_
  obtain ⟨j, rfl⟩ : ∃ j : Nat, n = (j : Int) := ⟨n.toNat, by omega⟩
  have hj : j < 8 := by omega
  refine ext ((ofn_n _ _).trans (ofn_n _ _).symm) (g.ok.wf (by omega) hg _) (ku.wf (by omega) hg _) fun c hc => ?_
  rw [g.dots j hj c hc, ofn_uni A B j hj, join_dot]
  have := lackL_mem (B := B) ka (by omega) hg j c
  cases hA : dot (ofn A j) c <;> cases hB : dot (ofn B j) c <;> simp [hA, hB, hn, hc, h8] at this ⊢
  · exact this
  · exact this
theorem lack_none {gp : Int} {A B : List S} (ka : OkL gp A) (kb : OkL gp B) (h0 : 1 ≤ gp) (hg : gp ≤ 64) : (lackL A B).length = 0 ↔ Win A B := by
  rw [List.length_eq_zero_iff]
  constructor
  · intro h n hn c hc hd
    cases hB : dot (ofn B n) c with
    | true => rfl
    | false =>
      have := (lackL_mem (B := B) ka (by omega) hg n c).2 ⟨⟨by omega, by omega⟩, hc, hd, hB⟩
      rw [h] at this; simp at this
  · intro h
    refine List.eq_nil_iff_forall_not_mem.2 ?_
    rintro ⟨n, c⟩ hm
    obtain ⟨⟨n0, n8⟩, hc, h1, h2⟩ := (lackL_mem ka (by omega) hg n c).1 hm
    have := h n.toNat (by omega) c hc
    rw [show ((n.toNat : Nat) : Int) = n by omega] at this
    rw [this h1] at h2; cases h2
theorem filter_nd (p : Nat → Bool) : ∀ k, ((List.range k).filter p).length = nd p k
  | 0 => rfl
  | k + 1 => by
    rw [List.range_succ, List.filter_append, List.length_append, filter_nd p k]
    cases h : p k <;> simp [nd, h]
theorem lack_cnt {x y : S} (hx : Wf x) : (lack x y).length ≤ cnt x := by
  unfold lack miss
  rw [filter_nd, cnt_nd hx (x.b.toNat + 64) (Nat.le_refl _), show x.b.toNat + 65 = 1 + (x.b.toNat + 64) by omega, nd_add]
  have h1 : nd (mis x y) 1 = 0 := by simp [nd, mis]
  rw [h1, Nat.zero_add]
  refine (nd_mono _ fun i _ h => ?_).1
  simp only [mis, Bool.and_eq_true] at h
  have := h.2.1
  rwa [show ((1 + i : Nat) : Int) = (i : Int) + 1 by omega] at this
theorem lack_tot {gp : Int} {A B : List S} (ka : OkL gp A) (hg : gp ≤ 64) : (lackL A B).length ≤ tot A := by
  have key : ∀ l : List S, (∀ x ∈ l, Wf x) → (l.flatMap fun x => (lack x (ofn B x.n)).map fun (c : Nat) => (x.n, (c : Int))).length ≤ tot l := by
    intro l hl
    induction l with
    | nil => simp
    | cons x l ih =>
      have h1 := ih (fun y hy => hl y (by simp [hy]))
      have h2 := lack_cnt (y := ofn B x.n) (hl x (by simp))
      rw [List.flatMap_cons, List.length_append, List.length_map]
      simp only [tot, List.map_cons, List.sum_cons] at h1 ⊢
      omega
  exact key A (fun x hx => (ka.ok x hx).wf hg)
/-- the hands: set, how many, the last, bad -/
structure Hs where
  xs : List S
  num : Nat
  l1 : Int
  l2 : Int
  bad : Bool
def hrise (h : Hs) (d : Int × Int) : Bool := decide (h.l1 < d.1) || (decide (d.1 = h.l1) && decide (h.l2 < d.2))
def hcan (gp : Int) (xs : List S) (d : Int × Int) : Bool := (decide (0 ≤ d.1 ∧ d.1 < 8) && decide (1 ≤ d.2 ∧ d.2 ≤ 1048576)) && decide (d.2 ≤ (ofn xs d.1).b + gp)
def hok (gp : Int) (h : Hs) (d : Int × Int) : Bool := !h.bad && ((hrise h d || decide (h.num = 0)) && (!dot (ofn h.xs d.1) d.2 && hcan gp h.xs d))
def hstep (gp : Int) (h : Hs) (d : Int × Int) : Hs := if hok gp h d then ⟨addl h.xs d.1 d.2, h.num + 1, d.1, d.2, false⟩ else { h with bad := true }
def hret (gp : Int) (h : Hs) (d : Int × Int) : Bool := hok gp h d && decide (h.num + 1 < 500)
def hrun (gp : Int) (B : List S) (pre : List (Int × Int)) : Hs := pre.foldl (hstep gp) ⟨B, 0, 0, 0, false⟩
theorem hrun_snoc (gp : Int) (B : List S) (pre : List (Int × Int)) (d : Int × Int) : hrun gp B (pre ++ [d]) = hstep gp (hrun gp B pre) d := by simp [hrun]
theorem hcan_iff {gp : Int} {xs : List S} {d : Int × Int} : hcan gp xs d = true ↔ ((0 ≤ d.1 ∧ d.1 < 8) ∧ (1 ≤ d.2 ∧ d.2 ≤ 1048576)) ∧ d.2 ≤ (ofn xs d.1).b + gp := by
  simp only [hcan, Bool.and_eq_true, decide_eq_true_eq]
theorem hstep_ok {gp : Int} {h : Hs} (k : OkL gp h.xs) (h0 : 1 ≤ gp) (hg : gp ≤ 64) (d : Int × Int) : OkL gp (hstep gp h d).xs := by
  unfold hstep
  split
  · rename_i e
    simp only [hok, Bool.and_eq_true] at e
    obtain ⟨⟨_, c⟩, g⟩ := hcan_iff.1 e.2.2.2
    exact addl_ok k h0 hg d.1 d.2 c g
  · exact k
structure Runs (gp : Int) (A B : List S) (pre : List (Int × Int)) : Prop where
  g : Grown gp A B pre
  xs : (hrun gp B pre).xs = grow B pre
  num : (hrun gp B pre).num = pre.length
  bad : (hrun gp B pre).bad = false
  last : pre ≠ [] → ∃ e ∈ pre, (hrun gp B pre).l1 = e.1 ∧ (hrun gp B pre).l2 = e.2
theorem Runs.ok {gp : Int} {A B : List S} {pre : List (Int × Int)} {d : Int × Int} (r : Runs gp A B pre) (nx : NextD gp (grow B pre) pre d) : hok gp (hrun gp B pre) d = true := by
  simp only [hok, Bool.and_eq_true, Bool.not_eq_true', Bool.or_eq_true, decide_eq_true_eq]
  refine ⟨r.bad, ?_, by rw [r.xs]; exact nx.not, ?_⟩
  · by_cases hp : pre = []
    · right; rw [r.num, hp]; rfl
    · left
      obtain ⟨e, he, h1, h2⟩ := r.last hp
      have := nx.rise e he
      simp only [hrise, Bool.or_eq_true, Bool.and_eq_true, decide_eq_true_eq]
      rcases this with h | ⟨h3, h4⟩
      · left; omega
      · right; omega
  · rw [hcan_iff, r.xs]
    exact ⟨⟨nx.n, nx.c⟩, nx.gap⟩
theorem runs_pre {gp : Int} {A B : List S} (ka : OkL gp A) (kb : OkL gp B) (h0 : 1 ≤ gp) (hg : gp ≤ 64) : ∀ (n : Nat) (pre : List (Int × Int)), pre.length = n → pre <+: lackL A B → Runs gp A B pre
  | 0, pre, hl, _ => by
    rw [List.length_eq_zero_iff.1 hl]
    exact ⟨Grown.nil kb, rfl, rfl, rfl, fun h => (h rfl).elim⟩
  | n + 1, pre, hl, hp => by
    obtain ⟨q, d, rfl⟩ : ∃ q d, pre = q ++ [d] := ⟨pre.dropLast, pre.getLast (by intro e; rw [e] at hl; simp at hl), (List.dropLast_concat_getLast _).symm⟩
    have r := runs_pre ka kb h0 hg n q (by simpa using hl) ((List.prefix_append q [d]).trans hp)
    have nx := grown_next ka kb h0 hg r.g hp
    have hk := r.ok nx
    have e : hrun gp B (q ++ [d]) = ⟨addl (hrun gp B q).xs d.1 d.2, (hrun gp B q).num + 1, d.1, d.2, false⟩ := by
      rw [hrun_snoc, hstep, if_pos hk]
    refine ⟨r.g.snoc h0 hg nx, ?_, ?_, ?_, fun _ => ⟨d, by simp, ?_⟩⟩
    · rw [e, grow_snoc, r.xs]
    · rw [e, List.length_append, r.num]; rfl
    · rw [e]
    · rw [e]; exact ⟨rfl, rfl⟩
/-- no dot of the way is refused -/
theorem never_left {gp : Int} {A B : List S} (ka : OkL gp A) (kb : OkL gp B) (h0 : 1 ≤ gp) (hg : gp ≤ 64) (ht : tot A ≤ 400) {pre : List (Int × Int)} {d : Int × Int} (hp : pre ++ [d] <+: lackL A B) : hret gp (hrun gp B pre) d = true := by
  have r := runs_pre ka kb h0 hg _ pre rfl ((List.prefix_append pre [d]).trans hp)
  have nx := grown_next ka kb h0 hg r.g hp
  have h1 := hp.length_le
  have h2 := lack_tot (B := B) ka hg
  rw [List.length_append, List.length_singleton] at h1
  simp only [hret, r.ok nx, r.num, Bool.true_and, decide_eq_true_eq]
  omega
/-- at the end -/
theorem runs_all {gp : Int} {A B : List S} (ka : OkL gp A) (kb : OkL gp B) (h0 : 1 ≤ gp) (hg : gp ≤ 64) :
    (hrun gp B (lackL A B)).xs = uni A B ∧ (hrun gp B (lackL A B)).bad = false ∧ ((hrun gp B (lackL A B)).num : Int) = (tot (uni A B) : Int) - (tot B : Int) ∧ ((hrun gp B (lackL A B)).num = 0 ↔ Win A B) := by
  have r := runs_pre ka kb h0 hg _ _ rfl (List.prefix_refl (lackL A B))
  have e := grow_all ka kb h0 hg
  have t := r.g.tot
  rw [e] at t
  refine ⟨r.xs.trans e, r.bad, by rw [r.num]; omega, ?_⟩
  rw [r.num]; exact lack_none ka kb h0 hg
--END
end Go.Proofs.YtdggkofihppcmaaDoor.ds
