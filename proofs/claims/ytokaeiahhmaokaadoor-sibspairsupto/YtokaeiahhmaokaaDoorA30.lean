import Derived.Test.YtokaeiahhmaokaaDoorA29
import Derived.Test.YtokaeiahhmaokaaDoorA17
namespace Go.Proofs.YtokaeiahhmaokaaDoor.ds
open Go.ChangeShapes Go.WideShapes Go.ChangeAt Go.RowKit Go.Sort
set_option linter.unusedVariables false
set_option linter.unusedSimpArgs false
theorem Fr.wide {lo hi lo' hi' : Nat} {w w' : World} (h : Fr lo hi w w') (h1 : lo' ≤ lo) (h2 : hi ≤ hi') : Fr lo' hi' w w' := { h with block := fun k hk hx => h.block k hk (by omega) }
theorem Fr.apart0 {lo hi : Nat} {w0 w w' : World} (a : Apart [] w0 w) (h : Fr lo hi w w') (hl : w0.heap.size ≤ lo) : Apart [] w0 w' :=
  ⟨h.os.trans a.os, h.tape.trans a.tape, h.output.trans a.output, Nat.le_trans a.size h.size, fun k hk hx => (h.block k (Nat.lt_of_lt_of_le hk a.size) (.inl (by omega))).trans (a.block k hk hx)⟩
theorem Fresh.later {w w' w2 : World} {e : E} {r : Wr} {lo hi : Nat} (h : Fresh w w' e r) (a : Fr lo hi w' w2) (hh : hi ≤ w.heap.size) : Reads w2 e r :=
  ⟨h.n, h.c, h.k, h.d, Rd.own (own_fr h.v.own a (fun k hk => .inr (Nat.le_trans hh (h.v.new k hk)))), h.vn, h.vl, h.vb,
   ⟨Sp.own (cap := e.x.c) (n := e.x.n) (own_fr h.x.own a (fun k hk => .inr (Nat.le_trans hh (h.x.new k hk)))) h.xn.symm, h.xn, by have := h.xl; omega, h.xf⟩, h.xl, h.v.ok, h.x.ok⟩
/-- what Merge answered, later on -/
theorem MgPost.later {w w' : World} {r : Ending} {R : E → Wr} {e : Int} {l : List E} (h : MgPost w w' r R e l) (hl : l.length ≤ 1500000) :
    ∃ (s : Sl) (fs : List E), r = .returned (.tuple #[s.v, .int .i64 e]) ∧ s.n = l.length ∧ Apart [] w w' ∧ ∀ (lo hi : Nat) (w2 : World), Fr lo hi w' w2 → hi ≤ w.heap.size → LE w2 s.p l.length fs ∧ ∀ j, j < l.length → Reads w2 (gE fs j) (gR (l.map R) j) := by
  obtain ⟨s, fs, hr, hn, hf, nw, fr⟩ := h.ex
  refine ⟨s, fs, hr, hn, nw.ap, fun lo hi w2 a hh => ⟨⟨Rd.own (own_fr nw.own a (fun k hk => .inr (Nat.le_trans hh (nw.new k hk)))), hf, by omega⟩, fun j hj => ?_⟩⟩
  rw [gR_map R l j hj]
  exact (fr j hj).later a hh
theorem mlist_mem {X : E → List S} {es : List E} {u t : E} {lim : Int} (h : t ∈ mlist X es u lim) : t = u ∨ t ∈ es := by
  unfold mlist at h
  split at h
  · simp at h
  · split at h
    · exact .inr h
    · split at h
      · simp at h
      · exact mergeE_mem h
theorem mlist_len (X : E → List S) (es : List E) (u : E) (lim : Int) : (mlist X es u lim).length ≤ es.length + 1 := by
  unfold mlist
  split
  · simp
  · split
    · omega
    · split
      · simp
      · exact mergeE_len X es u
theorem map_R {R : E → Wr} {es : List E} {rs : List Wr} (hl : es.length = rs.length) (h : ∀ j, j < es.length → R (gE es j) = gR rs j) : es.map R = rs := by
  apply List.ext_getElem (by simp [hl])
  intro j h1 h2
  have := h j (by simpa using h1)
  rw [gE_eq _ _ (by simpa using h1)] at this
  simp only [List.getElem_map]
  rw [this]
  unfold gR
  simp [List.getD_eq_getElem?_getD, h2]
theorem mem_reads {w : World} {es : List E} {rs : List Wr} {N : Nat} (hl : es.length = N) (h : ∀ j, j < N → Reads w (gE es j) (gR rs j)) : ∀ t ∈ es, Reads w t (RW w t) := by
  intro t ht
  obtain ⟨k, hk, rfl⟩ := List.getElem_of_mem ht
  have := h k (by omega)
  rw [gE_eq _ _ hk] at this
  exact RW_reads this
theorem map_RW {w : World} {es : List E} {rs : List Wr} {N : Nat} (hl : es.length = N) (hr : rs.length = N) (h : ∀ j, j < N → Reads w (gE es j) (gR rs j)) : es.map (RW w) = rs := map_R (by omega) (fun j hj => RW_eq (h j (by omega)))
/-- one write in a slice of its own -/
theorem LE.one {W : World} {B : Nat} {u : E} (h : Cap W B u) : LE W (some ⟨B, 0, none⟩) 1 [u] := by
  refine ⟨fun _ => ⟨B, 0, rfl, lt_of_heap h, fun j v hj => ?_⟩, rfl, by decide⟩
  rw [Nat.zero_add, cell_of_row _ _ _ _ _ _ h]
  simpa [flatE, E.cs] using hj
/-- what the document's Merge answers, as the writes read -/
theorem rmerge_reads (w : World) (p : Option Addr) (N cap : Nat) (es : List E) (rs : List Wr) (u : E) (ru : Wr) (lim : Int) (h : LE w p N es) (hN : N ≤ 1100000) (hr : rs.length = N) (hR : ∀ j, j < N → Reads w (gE es j) (gR rs j)) (hu : Reads w u ru) :
    Calls Tryd.prog 73 #[.slice p N cap, u.agg, .int .i64 lim] w fun r w' => ∃ (s : Sl) (fs : List E), r = .returned (.tuple #[s.v, .int .i64 (merrW rs ru lim)]) ∧ s.n = (mlistW rs ru lim).length ∧ LE w' s.p (mlistW rs ru lim).length fs ∧ Apart [] w w' ∧ ∀ j, j < (mlistW rs ru lim).length → Reads w' (gE fs j) (gR (mlistW rs ru lim) j) := by
  have em := map_RW h.len hr hR
  have hm := mem_reads h.len hR
  have eu := RW_eq hu
  have hu' : Reads w u (RW w u) := by rw [eu]; exact hu
  have e1 : merr (fun t => (RW w t).xs) es u lim = merrW rs ru lim := by rw [merr_W (fun t ht => (hm t ht).as) hu'.as, em, eu]
  have e2 : (mlist (fun t => (RW w t).xs) es u lim).map (RW w) = mlistW rs ru lim := by rw [mlist_W (fun t ht => (hm t ht).as) hu'.as, em, eu]
  have hlen : (mlist (fun t => (RW w t).xs) es u lim).length = (mlistW rs ru lim).length := by rw [← e2]; simp
  refine (rmerge_ok w p N cap es u lim (fun t => (RW w t).xs) h hN (fun j hj => ?_) hu'.x).mono ?_
  · have := hm (gE es j) (by rw [gE_eq _ _ (by rw [h.len]; exact hj)]; exact List.getElem_mem _)
    exact this.x
  · rintro r w' ⟨s, rfl, hL, ap⟩
    have hsn : s.n = (mlistW rs ru lim).length := by rw [← hlen]; exact hL.len.symm
    refine ⟨s, _, by rw [e1], hsn, by rw [← hsn]; exact hL, ap, fun j hj => ?_⟩
    rw [← e2, gR_map _ _ j (by rw [hlen]; exact hj)]
    have hmem : gE (mlist (fun t => (RW w t).xs) es u lim) j ∈ mlist (fun t => (RW w t).xs) es u lim := by
      rw [gE_eq _ _ (by rw [hlen]; exact hj)]; exact List.getElem_mem _
    rcases mlist_mem hmem with e | e
    · rw [e]; exact hu'.kept0 ap
    · exact (hm _ e).kept0 ap
/-- .. and the program's -/
theorem merge_reads (w : World) (p : Option Addr) (N cap : Nat) (es : List E) (rs : List Wr) (u : E) (ru : Wr) (lim : Int) (h : LE w p N es) (hN : N ≤ 1100000) (ok : Sl.ok ⟨p, N, cap⟩) (hr : rs.length = N) (hR : ∀ j, j < N → Reads w (gE es j) (gR rs j)) (hu : Reads w u ru) :
    Calls Tryd.prog 18 #[.slice p N cap, u.agg, .int .i64 lim] w fun r w' => ∃ (s : Sl) (fs : List E), r = .returned (.tuple #[s.v, .int .i64 (merrW rs ru lim)]) ∧ s.n = (mlistW rs ru lim).length ∧ Apart [] w w' ∧ ∀ (lo hi : Nat) (w2 : World), Fr lo hi w' w2 → hi ≤ w.heap.size → LE w2 s.p (mlistW rs ru lim).length fs ∧ ∀ j, j < (mlistW rs ru lim).length → Reads w2 (gE fs j) (gR (mlistW rs ru lim) j) := by
  have em := map_RW h.len hr hR
  have hm := mem_reads h.len hR
  have eu := RW_eq hu
  have hu' : Reads w u (RW w u) := by rw [eu]; exact hu
  have e1 : merr (fun t => (RW w t).xs) es u lim = merrW rs ru lim := by rw [merr_W (fun t ht => (hm t ht).as) hu'.as, em, eu]
  have e2 : (mlist (fun t => (RW w t).xs) es u lim).map (RW w) = mlistW rs ru lim := by rw [mlist_W (fun t ht => (hm t ht).as) hu'.as, em, eu]
  have hlen : (mlist (fun t => (RW w t).xs) es u lim).length = (mlistW rs ru lim).length := by rw [← e2]; simp
  refine (merge_ok ins_ok w p N cap es u lim (RW w) h hN ok hm hu').mono ?_
  intro r w' post
  have hb := mlist_len (fun t => (RW w t).xs) es u lim
  rw [h.len] at hb
  obtain ⟨s, fs, hr', hn, ap, later⟩ := post.later (by omega)
  refine ⟨s, fs, by rw [hr', e1], by rw [hn, hlen], ap, fun lo hi w2 a hh => ?_⟩
  have := later lo hi w2 a hh
  rwa [e2, hlen] at this
theorem mlistW_len (rs : List Wr) (u : Wr) (lim : Int) : (mlistW rs u lim).length ≤ rs.length + 1 := by
  have h1 : (leftW rs u).length ≤ rs.length := List.length_filter_le _ _
  have h2 : ∀ l, (insW u l).length = l.length + 1 := by
    intro l
    induction l with
    | nil => rfl
    | cons x l ih => simp only [insW]; split <;> simp [ih]
  have h3 : (mergeW rs u).length ≤ rs.length + 1 := by
    unfold mergeW
    split
    · omega
    · rw [h2]; omega
  unfold mlistW
  split
  · simp
  · split
    · omega
    · split
      · simp
      · exact h3
end Go.Proofs.YtokaeiahhmaokaaDoor.ds
