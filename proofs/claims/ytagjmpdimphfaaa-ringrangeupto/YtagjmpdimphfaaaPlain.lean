namespace Go.Proofs.Ytagjmpdimphfaaa.rg

def stepH (h x : Nat) : Nat := ((h ^^^ x) * 16777619) % 4294967296
def foldH (bs : List Nat) : Nat := bs.foldl stepH 2166136261
def lastH (h : Nat) : Nat := ((h ^^^ (h >>> 15)) * 2246822519) % 4294967296
def endH (h : Nat) : Nat := lastH h ^^^ (lastH h >>> 13)
/-- The document's number of bytes. -/
def hashN (bs : List Nat) : Nat := endH (foldH bs)

/-- A point: where it lies, and whose it is. -/
abbrev Pt := Nat × Nat
def ltP (a b : Pt) : Bool := decide (a.1 < b.1) || (decide (a.1 = b.1) && decide (a.2 < b.2))
def ptsOf (i k : Nat) : Pt := (hashN [i, k], i)
def pts (n : Nat) : List Pt := (List.range n).flatMap fun i => (List.range 4).map fun k => ptsOf i k
def insP (x : Pt) : List Pt → List Pt
  | [] => [x]
  | y :: r => if ltP x y then x :: y :: r else y :: insP x r
def srtP : List Pt → List Pt
  | [] => []
  | x :: r => insP x (srtP r)
def placeN (r : Nat) : Nat := hashN [255, 255, r]
def begN (l : List Pt) (f : Nat) : Nat := l.countP fun p => decide (p.1 < f)
def rotN (l : List Pt) (f : Nat) : List Pt := l.drop (begN l f) ++ l.take (begN l f)
def metN (acc : List Nat) : List Pt → List Nat
  | [] => acc
  | p :: r => metN (if acc.contains p.2 then acc else acc ++ [p.2]) r
/-- A range's order. -/
def ord (n r : Nat) : List Nat := metN [] (rotN (srtP (pts n)) (placeN r))

/-- The document's order. -/
def awayN (pl i : Nat) : Nat := (List.range 4).foldl (fun b k => let d := (hashN [i, k] + 4294967296 - pl) % 4294967296; if d < b then d else b) 4294967296
def nextN (n pl : Nat) (out : List Nat) : Option Nat :=
  (List.range n).foldl (fun b i => if out.contains i then b else match b with | none => some i | some j => if awayN pl i < awayN pl j then some i else some j) none
def refN (n pl : Nat) : Nat → List Nat
  | 0 => []
  | m + 1 => refN n pl m ++ [((nextN n pl (refN n pl m)).getD 0)]

set_option maxRecDepth 100000 in
theorem ord_len : ∀ n < 9, ∀ r < 16, (ord n r).length = n := by decide +kernel
set_option maxRecDepth 100000 in
theorem ord_all : ∀ n < 9, ∀ r < 16, ∀ i < n, (ord n r).contains i = true := by decide +kernel
set_option maxRecDepth 100000 in
theorem ord_join : ∀ n < 8, ∀ r < 16, (ord (n + 1) r).filter (fun i => decide (i ≠ n)) = ord n r := by decide +kernel
set_option maxRecDepth 100000 in
theorem ord_below : ∀ n < 9, ∀ r < 16, ∀ i ∈ ord n r, i < n := by decide +kernel

set_option maxRecDepth 100000 in
theorem ord_ref : ∀ n < 9, ∀ r < 16, refN n (placeN r) n = ord n r := by decide +kernel

theorem ltP_iff (a b : Pt) : ltP a b = true ↔ a.1 < b.1 ∨ (a.1 = b.1 ∧ a.2 < b.2) := by simp [ltP]
theorem ltP_not (a b : Pt) : ltP a b = false ↔ ¬ (a.1 < b.1 ∨ (a.1 = b.1 ∧ a.2 < b.2)) := by rw [← ltP_iff]; simp
theorem insP_perm (x : Pt) : ∀ l, (insP x l).Perm (x :: l)
  | [] => List.Perm.refl _
  | y :: r => by
    rw [insP]; split
    · exact List.Perm.refl _
    · exact ((insP_perm x r).cons y).trans (List.Perm.swap x y r)
theorem srtP_perm : ∀ l, (srtP l).Perm l
  | [] => List.Perm.refl _
  | x :: r => (insP_perm x (srtP r)).trans ((srtP_perm r).cons x)
theorem insP_sorted (x : Pt) : ∀ l, l.Pairwise (fun a b => ltP b a = false) → (insP x l).Pairwise (fun a b => ltP b a = false)
  | [], _ => by simp [insP]
  | y :: r, h => by
    rw [insP]
    rw [List.pairwise_cons] at h
    split
    · rename_i hx
      rw [ltP_iff] at hx
      refine List.pairwise_cons.2 ⟨fun z hz => ?_, List.pairwise_cons.2 h⟩
      rcases List.mem_cons.1 hz with rfl | hz
      · rw [ltP_not]; omega
      · have := h.1 z hz
        rw [ltP_not] at this ⊢; omega
    · rename_i hx
      refine List.pairwise_cons.2 ⟨fun z hz => ?_, insP_sorted x r h.2⟩
      rcases List.mem_cons.1 ((insP_perm x r).mem_iff.1 hz) with rfl | hz
      · simpa using hx
      · exact h.1 z hz
theorem srtP_sorted : ∀ l, (srtP l).Pairwise (fun a b => ltP b a = false)
  | [] => List.Pairwise.nil
  | x :: r => insP_sorted x _ (srtP_sorted r)

/-- What lies ahead of a number in a sorted row: the first begN of them. -/
theorem beg_take (l : List Pt) (h : l.Pairwise (fun a b => ltP b a = false)) (f : Nat) : ∀ i, ∀ hi : i < l.length, (l[i].1 < f ↔ i < begN l f) := by
  induction l with
  | nil => intro i hi; simp at hi
  | cons x r ih =>
    rw [List.pairwise_cons] at h
    intro i hi
    by_cases hx : x.1 < f
    · have e : begN (x :: r) f = begN r f + 1 := by simp [begN, hx]
      rw [e]
      cases i with
      | zero => simp [hx]
      | succ i => simpa using ih h.2 i (by simpa using hi)
    · have z : ∀ y ∈ r, ¬ y.1 < f := by
        intro y hy; have := h.1 y hy; rw [ltP_not] at this; omega
      have e : begN (x :: r) f = 0 := by
        unfold begN; rw [List.countP_eq_zero]; intro y hy
        rcases List.mem_cons.1 hy with rfl | hy
        · simpa using hx
        · simpa using z y hy
      rw [e]
      cases i with
      | zero => simpa using hx
      | succ i => simpa using z _ (List.getElem_mem (by simpa using hi))

end Go.Proofs.Ytagjmpdimphfaaa.rg
