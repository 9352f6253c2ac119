import Derived.Test.YtokaeiahhmaokaaGreatDoorV37
import Derived.Test.YtokaeiahhmaokaaGreatDoorV34
import Derived.Test.YtokaeiahhmaokaaGreatDoorV35
import Derived.Test.YtokaeiahhmaokaaGreatDoorV29
namespace Go.Proofs.YtokaeiahhmaokaaGreatDoor.ds
open Go.ChangeShapes Go.WideShapes Go.ChangeAt Go.RowKit Go.Sort
set_option linter.unusedVariables false
set_option linter.unusedSimpArgs false
theorem infoSS : (Tryz.prog.info? 26).map (fun i => (i.zero, i.size, i.bytes)) = some (some (.slice none 0 0), 1, 24) := by kernel_rfl
/-- a list of spans that came in -/
structure InS (w : World) (s : Sl) (xs : List S) : Prop where
  l : L w s.p s.n xs
  n : s.n ≤ 1048576
  ok : s.ok
theorem InS.kept0 {w w' : World} {s : Sl} {xs : List S} (h : InS w s xs) (a : Apart [] w w') : InS w' s xs := ⟨h.l.kept0 a, h.n, h.ok⟩
/-- the bases of a case -/
def Bss (w : World) (p : Option Addr) (n : Nat) (B : Nat → Sl × List S) : Prop :=
  0 < n → ∃ P o, p = some ⟨P, o, none⟩ ∧ P < w.heap.size ∧ ∀ i, i < n → w.cell? ⟨P, o + i, none⟩ = some (B i).1.v ∧ InS w (B i).1 (B i).2
theorem Bss.kept0 {w w' : World} {p : Option Addr} {n : Nat} {B : Nat → Sl × List S} (h : Bss w p n B) (a : Apart [] w w') : Bss w' p n B := fun h0 => by
  obtain ⟨P, o, e, hP, hc⟩ := h h0
  exact ⟨P, o, e, Nat.lt_of_lt_of_le hP a.size, fun i hi => ⟨(a.cell hP (by simp)).trans (hc i hi).1, (hc i hi).2.kept0 a⟩⟩
theorem Bss.ins {w : World} {p : Option Addr} {n : Nat} {B : Nat → Sl × List S} (h : Bss w p n B) (i : Nat) (hi : i < n) : InS w (B i).1 (B i).2 := by
  obtain ⟨P, o, e, hP, hc⟩ := h (by omega)
  exact (hc i hi).2
def bsX (B : Nat → Sl × List S) (n : Nat) : List (List S) := (List.range n).map fun i => (B i).2
theorem bsX_len (B : Nat → Sl × List S) (n : Nat) : (bsX B n).length = n := by simp [bsX]
theorem bsX_at (B : Nat → Sl × List S) (n j : Nat) (hj : j < n) : (bsX B n).getD j [] = (B j).2 := by
  unfold bsX
  rw [List.getD_eq_getElem?_getD, List.getElem?_map, List.getElem?_range hj]; rfl
theorem gS_range (n : Nat) (f : Nat → Sl) (j : Nat) (hj : j < n) : gS ((List.range n).map f) j = f j := by
  unfold gS
  rw [List.getD_eq_getElem?_getD, List.getElem?_map, List.getElem?_range hj]; rfl
theorem Bss.lx {w : World} {p : Option Addr} {n : Nat} {B : Nat → Sl × List S} (h : Bss w p n B) : LX w p n ((List.range n).map fun i => (B i).1) (bsX B n) := by
  refine ⟨fun h0 => ?_, by simp, bsX_len B n, fun j hj => ?_⟩
  · rw [List.length_map, List.length_map, List.length_range] at h0
    obtain ⟨P, o, e, hP, hc⟩ := h h0
    refine ⟨P, o, e, hP, fun j u hj => ?_⟩
    have hjn : j < n := by
      have := (List.getElem?_eq_some_iff.1 hj).1
      simpa using this
    rw [List.map_map, List.getElem?_map, List.getElem?_range hjn] at hj
    simp at hj
    rw [(hc j hjn).1, hj]
  · rw [gS_range _ _ _ hj, bsX_at _ _ _ hj]; exact (h.ins j hj).l
/-- what stands behind the end of a list of spans -/
def spM : List S := [⟨77, 0, 0⟩, ⟨78, 0, 0⟩]
def wv (g : Nat × Nat) (n : Nat) : Value := .slice (some ⟨g.1, 0, none⟩) n g.2
/-- lists of spans that are handed in: mr rows, mw of them in the list of the wholes, mb in the list that is handed in -/
structure Wb (w5 w wr : World) (wh bs : Sl) (G : Nat → Nat × Nat) (B : Nat → Sl × List S) (mr mw mb : Nat) : Prop where
  nww : Nw w wr 26 1 wh ((List.range mw).map fun i => wv (G i) ((B i).1.n + 2))
  nwb : Nw w wr 26 1 bs ((List.range mb).map fun i => wv (G i) (B i).1.n)
  wn : wh.n = mw
  bn : bs.n = mb
  row : ∀ i, i < mr → wr.ownsRow 0 47 3 (wv (G i) ((B i).1.n + 2)) ((B i).1.n + 2) (flat ((B i).2 ++ spM))
  lo : ∀ i, i < mr → w5.heap.size ≤ (G i).1
  hi : ∀ i, i < mr → (G i).1 < wr.heap.size
  ne : ∀ i j, i < j → j < mr → (G i).1 ≠ (G j).1
  dj : ∀ k, wh.v.ownBlock = some k → bs.v.ownBlock ≠ some k
  gw : ∀ k, wh.v.ownBlock = some k → w5.heap.size ≤ k
  gb : ∀ k, bs.v.ownBlock = some k → w5.heap.size ≤ k
  sw : w.heap.size ≤ w5.heap.size
  ap5 : Apart [] w5 wr
theorem Wb.nil (w wr : World) (a : Apart [] w wr) (G : Nat → Nat × Nat) (B : Nat → Sl × List S) : Wb wr w wr ⟨none, 0, 0⟩ ⟨none, 0, 0⟩ G B 0 0 0 :=
  ⟨⟨World.ownsRow_nil _ _ _ _, by simp [Sl.v, Value.ownBlock], a⟩, ⟨World.ownsRow_nil _ _ _ _, by simp [Sl.v, Value.ownBlock], a⟩, rfl, rfl, fun _ h => absurd h (by omega), fun _ h => absurd h (by omega), fun _ h => absurd h (by omega), fun _ _ _ h => absurd h (by omega), by simp [Sl.v, Value.ownBlock], by simp [Sl.v, Value.ownBlock], by simp [Sl.v, Value.ownBlock], a.size, Apart.refl _ _⟩
theorem Wb.kept0 {w5 w wr wx : World} {wh bs : Sl} {G : Nat → Nat × Nat} {B : Nat → Sl × List S} {mr mw mb : Nat} (h : Wb w5 w wr wh bs G B mr mw mb) (a : Apart [] wr wx) : Wb w5 w wx wh bs G B mr mw mb :=
  { h with nww := h.nww.kept a, nwb := h.nwb.kept a, row := fun i hi => own_apart (h.row i hi) a (by simp), hi := fun i hi => Nat.lt_of_lt_of_le (h.hi i hi) a.size, ap5 := h.ap5.trans a }
def updG (D : Nat → Nat × Nat) (m : Nat) (d : Nat × Nat) (i : Nat) : Nat × Nat := if i = m then d else D i
theorem updG_lt (D : Nat → Nat × Nat) (d : Nat × Nat) {i m : Nat} (h : i < m) : updG D m d i = D i := if_neg (by omega)
theorem updG_eq (D : Nat → Nat × Nat) (d : Nat × Nat) (m : Nat) : updG D m d m = d := if_pos rfl
/-- a list more, with its marks -/
theorem Wb.add {w5 w wr wx : World} {wh bs : Sl} {G : Nat → Nat × Nat} {B : Nat → Sl × List S} {m : Nat} (h : Wb w5 w wr wh bs G B m m m) {s : Sl} (hs : Nw wr wx 47 3 s (flat ((B m).2 ++ spM))) (hn : s.n = (B m).1.n + 2) {k : Nat} (hp : s.p = some ⟨k, 0, none⟩) : Wb w5 w wx wh bs (updG G m (k, s.c)) B (m + 1) m m := by
  have hk := h.kept0 hs.ap
  have e : ∀ i, i < m → updG G m (k, s.c) i = G i := fun i hi => updG_lt G _ hi
  have e1 : (List.range m).map (fun i => wv (updG G m (k, s.c) i) ((B i).1.n + 2)) = (List.range m).map fun i => wv (G i) ((B i).1.n + 2) := List.map_congr_left (fun i hi => by rw [e i (List.mem_range.1 hi)])
  have e2 : (List.range m).map (fun i => wv (updG G m (k, s.c) i) (B i).1.n) = (List.range m).map fun i => wv (G i) (B i).1.n := List.map_congr_left (fun i hi => by rw [e i (List.mem_range.1 hi)])
  have hkn : wr.heap.size ≤ k := hs.new k (sl_blk hp)
  have hkl : k < wx.heap.size := by
    obtain ⟨cur, hc⟩ := own_typ hs.own (sl_blk hp)
    exact lt_of_heap hc
  refine ⟨by rw [e1]; exact hk.nww, by rw [e2]; exact hk.nwb, h.wn, h.bn, fun i hi => ?_, fun i hi => ?_, fun i hi => ?_, fun i j hij hj => ?_, h.dj, h.gw, h.gb, h.sw, hk.ap5⟩
  · by_cases him : i = m
    · subst him
      rw [updG_eq]
      have := hs.own
      unfold Sl.v at this
      rw [hp, hn] at this
      exact this
    · rw [e i (by omega)]; exact hk.row i (by omega)
  · by_cases him : i = m
    · subst him; rw [updG_eq]; exact Nat.le_trans h.ap5.size hkn
    · rw [e i (by omega)]; exact h.lo i (by omega)
  · by_cases him : i = m
    · subst him; rw [updG_eq]; exact hkl
    · rw [e i (by omega)]; exact hk.hi i (by omega)
  · rw [e i (by omega)]
    by_cases him : j = m
    · subst him
      rw [updG_eq]
      have := h.hi i (by omega)
      show (G i).1 ≠ k
      omega
    · rw [e j (by omega)]; exact h.ne i j hij (by omega)
theorem Wb.pushW {w5 w wr : World} {wh bs : Sl} {G : Nat → Nat × Nat} {B : Nat → Sl × List S} {m : Nat} (h : Wb w5 w wr wh bs G B (m + 1) m m) (hm : m ≤ 2000000) (ty : TypeId) :
    ∃ wh' w6, (Builtin.append_ #[29, 29] ty #[wh.v, .slice (some ⟨wr.heap.size, 0, none⟩) 1 1]).run Tryz.prog (wr.alloc (.cells #[wv (G m) ((B m).1.n + 2)] 26)) = .ok (Sl.v wh') w6 ∧ Wb w5 w w6 wh' bs G B (m + 1) (m + 1) m := by
  obtain ⟨i0, hif, hz0, hz1, hz2⟩ := info_parts infoSS
  have hwn := h.wn
  obtain ⟨wh', w6, hrun, hnw, hsn, ap, k, hp, hc, hk⟩ := run_appM (s := wh) 29 ty 26 i0 _ 1 24 Tryz.underlying29 hif hz0 hz1 hz2 rfl (by decide) h.nww 1 [wv (G m) ((B m).1.n + 2)] (by decide) rfl (fun u hu => by simp at hu; rw [hu]; rfl) (by unfold maxLen; omega) (by omega)
  refine ⟨wh', w6, hrun, ⟨by rw [List.range_succ, List.map_append]; exact hnw, ⟨own_apart h.nwb.own ap (fun k hk hm => ?_), h.nwb.new, hnw.ap⟩, by omega, h.bn, fun i hi => own_apart (h.row i hi) ap (fun k hk hm => ?_), h.lo, fun i hi => Nat.lt_of_lt_of_le (h.hi i hi) ap.size, h.ne, fun k2 hk2 hb => ?_, (fun k2 hk2 => by
    rw [sl_blk hp] at hk2
    simp at hk2
    subst hk2
    rcases hk with hk | hk
    · exact h.gw k hk
    · exact Nat.le_trans h.ap5.size hk), h.gb, h.sw, h.ap5.trans' ap (fun y hy => by simp at hy; exact .inr (h.gw y hy))⟩⟩
  · simp at hm
    exact h.dj k hm hk
  · simp at hm
    obtain ⟨c1, e1⟩ := own_typ (h.row i hi) hk
    obtain ⟨c2, e2⟩ := own_typ h.nww.own hm
    rw [e1] at e2
    simp at e2
  · rw [sl_blk hp] at hk2
    simp at hk2
    subst hk2
    rcases hk with hk | hk
    · exact h.dj k hk hb
    · have := (h.nwb.own.lt k hb).2
      omega
theorem Wb.pushB {w5 w wr : World} {wh bs : Sl} {G : Nat → Nat × Nat} {B : Nat → Sl × List S} {m : Nat} (h : Wb w5 w wr wh bs G B (m + 1) (m + 1) m) (hm : m ≤ 2000000) (ty : TypeId) :
    ∃ bs' w6, (Builtin.append_ #[29, 29] ty #[bs.v, .slice (some ⟨wr.heap.size, 0, none⟩) 1 1]).run Tryz.prog (wr.alloc (.cells #[wv (G m) (B m).1.n] 26)) = .ok (Sl.v bs') w6 ∧ Wb w5 w w6 wh bs' G B (m + 1) (m + 1) (m + 1) := by
  obtain ⟨i0, hif, hz0, hz1, hz2⟩ := info_parts infoSS
  have hbn := h.bn
  obtain ⟨bs', w6, hrun, hnw, hsn, ap, k, hp, hc, hk⟩ := run_appM (s := bs) 29 ty 26 i0 _ 1 24 Tryz.underlying29 hif hz0 hz1 hz2 rfl (by decide) h.nwb 1 [wv (G m) (B m).1.n] (by decide) rfl (fun u hu => by simp at hu; rw [hu]; rfl) (by unfold maxLen; omega) (by omega)
  refine ⟨bs', w6, hrun, ⟨⟨own_apart h.nww.own ap (fun k hk hm => ?_), h.nww.new, hnw.ap⟩, by rw [List.range_succ, List.map_append]; exact hnw, h.wn, by omega, fun i hi => own_apart (h.row i hi) ap (fun k hk hm => ?_), h.lo, fun i hi => Nat.lt_of_lt_of_le (h.hi i hi) ap.size, h.ne, fun k2 hk2 hb => ?_, h.gw, (fun k2 hk2 => by
    rw [sl_blk hp] at hk2
    simp at hk2
    subst hk2
    rcases hk with hk | hk
    · exact h.gb k hk
    · exact Nat.le_trans h.ap5.size hk), h.sw, h.ap5.trans' ap (fun y hy => by simp at hy; exact .inr (h.gb y hy))⟩⟩
  · simp at hm
    exact h.dj k hk hm
  · simp at hm
    obtain ⟨c1, e1⟩ := own_typ (h.row i hi) hk
    obtain ⟨c2, e2⟩ := own_typ h.nwb.own hm
    rw [e1] at e2
    simp at e2
  · rw [sl_blk hp] at hb
    simp at hb
    subst hb
    rcases hk with hk | hk
    · exact h.dj k hk2 hk
    · have := (h.nww.own.lt k hk2).2
      omega
theorem flat_append (a b : List S) : flat (a ++ b) = flat a ++ flat b := by simp [flat]
theorem row_L {wr : World} {g c n : Nat} {xs ys : List S} (h : wr.ownsRow 0 47 3 (.slice (some ⟨g, 0, none⟩) (n + 2) c) (n + 2) (flat (xs ++ ys))) (hl : xs.length = n) (hn : n ≤ 2000000) (hf : ∀ x ∈ xs, x.t < 2 ^ 64) : L wr (some ⟨g, 0, none⟩) n xs := by
  have hr := Rd.own (p := some ⟨g, 0, none⟩) (n := n + 2) (cap := c) h
  rw [flat_append] at hr
  exact ⟨Sp.of_rd hr.pre, hl, by omega, hf⟩
theorem Wb.lx {w5 w wr : World} {wh bs : Sl} {G : Nat → Nat × Nat} {B : Nat → Sl × List S} {n mw : Nat} (h : Wb w5 w wr wh bs G B n mw n) {w0 : World} (hB : ∀ i, i < n → InS w0 (B i).1 (B i).2) : LX wr bs.p n ((List.range n).map fun i => ⟨some ⟨(G i).1, 0, none⟩, (B i).1.n, (G i).2⟩) (bsX B n) := by
  refine ⟨?_, by simp, bsX_len B n, fun j hj => ?_⟩
  · have := h.nwb.rd
    rw [List.map_map]
    exact this
  · rw [gS_range _ _ _ hj, bsX_at _ _ _ hj]
    have hb := hB j hj
    exact row_L (h.row j hj) hb.l.len (show (B j).1.n ≤ 2000000 by have := hb.n; omega) hb.l.fit
/-- the first i of them were looked at and written over -/
structure Wz (M : Nat) (w wr : World) (wh : Sl) (G : Nat → Nat × Nat) (B : Nat → Sl × List S) (n i : Nat) : Prop where
  nww : Nw w wr 26 1 wh ((List.range n).map fun i => wv (G i) ((B i).1.n + 2))
  wn : wh.n = n
  row : ∀ k, i ≤ k → k < n → wr.ownsRow 0 47 3 (wv (G k) ((B k).1.n + 2)) ((B k).1.n + 2) (flat ((B k).2 ++ spM))
  lo : ∀ k, k < n → M ≤ (G k).1
  ne : ∀ i j, i < j → j < n → (G i).1 ≠ (G j).1
  gw : ∀ k, wh.v.ownBlock = some k → M ≤ k
  sw : w.heap.size ≤ M
theorem Wb.z {w5 w wr : World} {wh bs : Sl} {G : Nat → Nat × Nat} {B : Nat → Sl × List S} {n : Nat} (h : Wb w5 w wr wh bs G B n n n) : Wz w5.heap.size w wr wh G B n 0 :=
  ⟨h.nww, h.wn, fun k _ hk => h.row k hk, h.lo, h.ne, h.gw, h.sw⟩
theorem Wz.kept0 {M : Nat} {w wr wx : World} {wh : Sl} {G : Nat → Nat × Nat} {B : Nat → Sl × List S} {n i : Nat} (h : Wz M w wr wh G B n i) (a : Apart [] wr wx) : Wz M w wx wh G B n i :=
  { h with nww := h.nww.kept a, row := fun k h1 h2 => own_apart (h.row k h1 h2) a (by simp) }
theorem Wz.fr {M : Nat} {w wr wx : World} {wh : Sl} {G : Nat → Nat × Nat} {B : Nat → Sl × List S} {n i : Nat} (h : Wz M w wr wh G B n i) {lo hi : Nat} (f : Fr lo hi wr wx) (hh : hi ≤ M) (ap : Apart [] w wx) : Wz M w wx wh G B n i :=
  { h with
    nww := ⟨own_fr h.nww.own f (fun k hk => .inr (Nat.le_trans hh (h.gw k hk))), h.nww.new, ap⟩
    row := fun k h1 h2 => own_fr (h.row k h1 h2) f (fun g hg => by
      simp [wv, Value.ownBlock] at hg
      subst hg
      exact .inr (Nat.le_trans hh (h.lo k h2))) }
theorem Wz.step {M : Nat} {w wr wx : World} {wh : Sl} {G : Nat → Nat × Nat} {B : Nat → Sl × List S} {n i : Nat} (h : Wz M w wr wh G B n i) (hi : i < n) (a : Apart [(G i).1] wr wx) : Wz M w wx wh G B n (i + 1) := by
  have ap : Apart [] w wx := h.nww.ap.trans' a (fun y hy => by simp at hy; subst hy; exact .inr (Nat.le_trans h.sw (h.lo i hi)))
  have ht := own_typ (h.row i (Nat.le_refl _) hi) (k := (G i).1) rfl
  refine { h with nww := ⟨own_apart h.nww.own a (fun k hk hm => ?_), h.nww.new, ap⟩, row := fun k h1 h2 => own_apart (h.row k (by omega) h2) a (fun g hg hm => ?_) }
  · simp at hm
    subst hm
    obtain ⟨c1, e1⟩ := own_typ h.nww.own hk
    obtain ⟨c2, e2⟩ := ht
    rw [e1] at e2
    simp at e2
  · simp [wv, Value.ownBlock] at hg
    simp at hm
    exact h.ne i k (by omega) h2 (by omega)
end Go.Proofs.YtokaeiahhmaokaaGreatDoor.ds
namespace Go.Proofs.YtokaeiahhmaokaaGreatDoor.ds
open Go.ChangeShapes Go.WideShapes Go.ChangeAt Go.RowKit Go.Deep Go.Sort
set_option linter.unusedVariables false
set_option linter.unusedSimpArgs false
set_option maxRecDepth 100000 in
/-- a [][]api.Span that came in -/
theorem open_bss {H : Type} {enc : TypeId × Value → H} {W : World} {fuel : Nat} {v : Value} {x : DataW H × List MemPlace} (h : DataW.trod enc Tryz.prog W 0 (fun _ => true) true fuel 29 [v] = some x) (hb : Rows.uptoBulk x.1 ≤ 1048576) :
    ∃ p n c B, v = .slice p n c ∧ Bss W p n B ∧ n ≤ 1048576 := by
  rcases open_slice Tryz.underlying29 h with ⟨hcs, _⟩ | ⟨a, len, cap, m, n, D, Pl, hcs, _, hl, hm, hmeq, hx, hall⟩
  · simp at hcs
    exact ⟨none, 0, 0, fun _ => (⟨none, 0, 0⟩, []), hcs, fun h => absurd h (by omega), by decide⟩
  · simp only [if_true] at hmeq
    subst hmeq
    simp at hcs
    rw [hx] at hb
    have hball := Nat.le_trans (slice_many ((List.range len).map D) ((List.range (m - len)).map fun j => D (len + j))) hb
    have hlim : len ≤ 1048576 := by
      have h2 := many ((List.range len).map D)
      simp only [List.length_map, List.length_range] at h2
      omega
    by_cases h0 : 0 < len
    · obtain ⟨P, o, spot⟩ := a
      have hspot : spot = none := by
        obtain ⟨cs', h1, h2⟩ := hall 0 (by omega)
        rw [cells26] at h1
        obtain ⟨_, hlen, hcell⟩ := World.cells?_some h1
        have hc := hcell 0 (by omega)
        rw [List.getElem?_eq_getElem (by omega)] at hc
        have := World.cell?_spot hc
        simpa [Addr.add] using this
      subst hspot
      have each : ∀ i, i < len → ∃ d : Sl × List S, W.cell? ⟨P, o + i, none⟩ = some d.1.v ∧ InS W d.1 d.2 := by
        intro i hi
        obtain ⟨cs', h1, h2⟩ := hall i (by omega)
        have hDi : Rows.uptoBulk (D i) ≤ 1048576 := Nat.le_trans (all_mem (List.mem_map.2 ⟨i, List.mem_range.2 hi, rfl⟩)) hball
        rw [cells26, Addr.add_lit, Nat.mul_one] at h1
        obtain ⟨_, hlen, hcell⟩ := World.cells?_some h1
        match cs', hlen with
        | [v0], _ =>
          obtain ⟨s, xs, rfl, hL, hn, hok⟩ := open_spans h2 hDi
          have := hcell 0 (by omega)
          rw [Addr.add_lit] at this
          exact ⟨(s, xs), by simpa using this, ⟨hL, hn, hok⟩⟩
      obtain ⟨f, hf⟩ := @choose_lt (Sl × List S) ⟨(⟨none, 0, 0⟩, [])⟩ _ _ each
      exact ⟨some ⟨P, o, none⟩, len, m, f, hcs, fun _ => ⟨P, o, rfl, block_lt_of_cell (hf 0 h0).1, hf⟩, hlim⟩
    · obtain rfl : len = 0 := by omega
      exact ⟨some a, 0, m, fun _ => (⟨none, 0, 0⟩, []), hcs, fun h => absurd h (by omega), by omega⟩
/-- a case that came in, its bases too -/
theorem open_caseB {H : Type} {enc : TypeId × Value → H} {W : World} {fuel : Nat} {cs : Array Value} {x : DataW H × List MemPlace} (hsz : cs.size = 10) (h : DataW.trod enc Tryz.prog W 0 (fun _ => true) true fuel 31 cs.toList = some x) (hb : Rows.uptoBulk x.1 ≤ 1048576) :
    ∃ sp n sc u ru lim gap F bp m bc B, cs = #[.slice sp n sc, .int .i64 u.n, .int .i64 u.c, .string u.k, .bool u.d, Sl.v u.v, Sl.v u.x, .slice bp m bc, .int .i64 lim, .int .i64 gap] ∧ Sets W sp n F ∧ n ≤ 1048576 ∧ totL F n ≤ 1048576 ∧ Reads W u ru ∧ Bss W bp m B ∧ m ≤ 1048576 := by
  obtain ⟨l⟩ := cs
  simp only [List.size_toArray] at hsz
  match l, hsz with
  | [a0, a1, a2, a3, a4, a5, a6, a7, a8, a9], _ =>
    simp only at h
    obtain ⟨xs, k, hk, hxy, _, hxl, hf⟩ := DataW.trod_struct Tryz.underlying31 h
    match xs, hxl with
    | [y0, y1, y2, y3, y4], _ =>
      have g0 := hf 0 _ rfl
      have g1 := hf 1 _ rfl
      have g2 := hf 2 _ rfl
      have g3 := hf 3 _ rfl
      have g4 := hf 4 _ rfl
      simp [cells22, cells28, cells29, cells3] at g0 g1 g2 g3 g4
      have hD : x.1 = .agg [y0.1, y1.1, y2.1, y3.1, y4.1] := by rw [hxy]; rfl
      rw [hD] at hb
      have hall := Nat.le_trans (agg_many _) hb
      obtain ⟨sp, n, sc, F, rfl, hS, hn, hT⟩ := open_sets2 g0 (Nat.le_trans (all_mem (by simp)) hall)
      obtain ⟨u, ru, rfl, rfl, rfl, rfl, rfl, rfl, hu⟩ := open_write g1 (Nat.le_trans (all_mem (by simp)) hall)
      obtain ⟨bp, m, bc, B, rfl, hB, hm⟩ := open_bss g2 (Nat.le_trans (all_mem (by simp)) hall)
      obtain ⟨k3, q3, _, _⟩ := DataW.trod_int Tryz.underlying3 g3
      obtain ⟨k4, q4, _, _⟩ := DataW.trod_int Tryz.underlying3 g4
      simp only [List.cons.injEq, and_true] at q3 q4
      subst q3 q4
      exact ⟨sp, n, sc, u, ru, k3, k4, F, bp, m, bc, B, rfl, hS, hn, hT, hu, hB, hm⟩
end Go.Proofs.YtokaeiahhmaokaaGreatDoor.ds
namespace Go.Proofs.YtokaeiahhmaokaaGreatDoor.ds
open Go.ChangeShapes Go.WideShapes Go.ChangeAt Go.RowKit Go.Sort
set_option linter.unusedVariables false
set_option linter.unusedSimpArgs false
set_option maxHeartbeats 2000000
set_option maxRecDepth 100000
theorem insertion_nil (W : World) : Calls Tryz.prog 100 #[.slice none 0 0, .int .i64 0, .int .i64 0, .func (.func 45) #[] #[]] W fun r W' => (∃ v, r = .returned v) ∧ Apart [] W W' := by
  go_enter Tryz.func100, Tryz.ntmps100
  go_wp2_with fail
  go_loopw [8] (fun v wr => v = .int .i64 1 ∧ wr = W) (fun _ _ => 0)
  case atStart => exact ⟨by first | rfl | simp, rfl⟩
  case round =>
    obtain ⟨rfl, rfl⟩ := hrel
    go_wp2_with fail
    go_end0
    exact ⟨⟨_, rfl⟩, Apart.refl _ _⟩
theorem stable_nil (W : World) : Calls Tryz.prog 87 #[.slice none 0 0, .int .i64 0, .func (.func 45) #[] #[]] W fun r W' => (∃ v, r = .returned v) ∧ Apart [] W W' := by
  have hC := insertion_nil
  go_enter Tryz.func87, Tryz.ntmps87
  go_wp2_with fail
  go_loopw [7, 8] (fun u v wr => u = .int .i64 0 ∧ v = .int .i64 20 ∧ wr = W) (fun _ _ _ => 0)
  case atStart => exact ⟨rfl, rfl, rfl⟩
  case round =>
    obtain ⟨rfl, rfl, rfl⟩ := hrel
    go_wp2_with fail
    refine (hC _).mono ?_
    rintro _ w1 ⟨⟨v, rfl⟩, a1⟩
    have HA := hid a1
    clear a1
    dsimp only
    go_wp2_with fail
    go_loopw [6] (fun u wr => u = .int .i64 20 ∧ wr = w1) (fun _ _ => 0)
    case atStart => exact ⟨rfl, rfl⟩
    case round =>
      obtain ⟨rfl, rfl⟩ := hrel
      go_wp2_with fail
      go_end0
      exact ⟨⟨_, rfl⟩, HA.out⟩
theorem sort_nil (W : World) : Calls Tryz.prog 64 #[.slice none 0 0, .func (.func 45) #[] #[]] W fun r W' => (∃ v, r = .returned v) ∧ Apart [] W W' := by
  have hC := stable_nil W
  go_enter Tryz.func64, Tryz.ntmps64
  go_wp2_with fail
  refine hC.mono ?_
  rintro _ w1 ⟨⟨v, rfl⟩, a1⟩
  have HA := hid a1
  clear a1 hC
  dsimp only
  go_wp2_with fail
  go_end0
  exact ⟨⟨_, rfl⟩, HA.out⟩
theorem compact_nil (W : World) : Calls Tryz.prog 65 #[.slice none 0 0, .func (.func 66) #[] #[]] W fun r W' => r = .returned (.slice none 0 0) ∧ Apart [] W W' := by
  go_enter Tryz.func65, Tryz.ntmps65
  go_wp2_with fail
  go_ret
  exact ⟨rfl, Apart.refl _ _⟩
theorem byDots_nil (W : World) : Calls Tryz.prog 36 #[.slice none 0 0] W fun r W' => r = .returned (.slice none 0 0) ∧ Apart [] W W' := by
  have hC := sort_nil W
  have hD := compact_nil
  go_enter Tryz.func36, Tryz.ntmps36
  go_wp2_with fail
  refine hC.mono ?_
  clear hC
  rintro _ w1 ⟨⟨v, rfl⟩, a1⟩
  have HA := hid a1
  clear a1
  dsimp only
  go_wp2_with fail
  refine (hD _).mono ?_
  clear hD
  rintro _ w2 ⟨rfl, a2⟩
  have HA2 := hid (HA.out.trans a2)
  clear a2
  dsimp only
  go_wp2_with fail
  go_ret
  exact ⟨rfl, HA2.out⟩
theorem byDots_any {w W : World} {s : Sl} {ls : List E} (h : OwnE w W s ls) (hN : s.n ≤ 1500000) : Calls Tryz.prog 36 #[s.v] W fun r W' => ∃ s' : Sl, r = .returned s'.v ∧ OwnE w W' s' (eachE ls) := by
  have hl := h.len
  obtain ⟨_, ⟨hv, hz⟩ | ⟨g, cap, cur, hv, _⟩⟩ := h.nw.own
  · have he : ls = [] := List.length_eq_zero_iff.1 (by rw [hl]; exact hz)
    subst he
    rw [hv]
    refine (byDots_nil W).mono ?_
    rintro _ w1 ⟨rfl, a1⟩
    exact ⟨⟨none, 0, 0⟩, rfl, OwnE.nil _ _ (h.nw.ap.trans a1)⟩
  · obtain ⟨sp, sn, sc⟩ := s
    unfold Sl.v at hv ⊢
    simp only [Value.slice.injEq] at hv
    obtain ⟨rfl, _, rfl⟩ := hv
    simp only at hN
    refine (byDots_ok h hN).mono ?_
    rintro _ w1 ⟨n, rfl, ho, _⟩
    exact ⟨⟨some ⟨g, 0, none⟩, n, _⟩, rfl, ho⟩
end Go.Proofs.YtokaeiahhmaokaaGreatDoor.ds
namespace Go.Proofs.YtokaeiahhmaokaaGreatDoor.ds
open Go.ChangeShapes Go.WideShapes Go.ChangeAt Go.RowKit Go.Sort
set_option linter.unusedVariables false
set_option linter.unusedSimpArgs false
/-- a token with a write more, or none -/
structure SnP (w w' : World) (r : Ending) (gap : Int) (T : List S) (x : Wr) : Prop where
  ex : ∃ q n c b, r = .returned (.tuple #[.slice q n c, .bool b]) ∧ Apart [] w w' ∧ ((b = true ∧ TkC gap T x ∧ TS w w' q n c (addl (uni T x.xs) x.n x.c)) ∨ (b = false ∧ ¬ TkC gap T x))
set_option maxHeartbeats 4000000 in
set_option maxRecDepth 100000 in
theorem seen_ok {w : World} (TB : Tab w) {p : Option Addr} {N cap : Nat} {T : List S} (h : L w p N T) (e : E) (x : Wr) (hx : Reads w e x) (gap : Int) : Calls Tryz.prog 39 #[.slice p N cap, e.agg, .int .i64 gap] w fun r w' => SnP w w' r gap T x := by
  obtain ⟨wb, hwb⟩ : ∃ wb, wb = w.alloc (boxE e) := ⟨_, rfl⟩
  have a0 : Apart [] w wb := by rw [hwb]; exact (Apart.refl [] w).alloc _
  have q1 : wb.heap[w.heap.size]? = some (boxE e) := by rw [hwb]; exact heap_alloc_new w _
  unfold boxE at q1 hwb
  obtain ⟨t0, t1, t2, t3, t4, t5⟩ := row6 q1
  have hU := union_c (cap := cap) (cb := e.x.c) gap (TB.kept0 a0) (h.kept0 a0) (hx.x.kept0 a0)
  have HA := hid a0
  have HQ := hid q1
  have HT := hid TB
  have hn := hx.n
  have hc := hx.c
  rw [hn] at t0
  rw [hc] at t1
  have HN := hid hn
  have HC := hid hc
  unfold E.agg
  unfold Sl.v at hwb t4 t5 ⊢
  clear a0 q1 TB h hx hn hc
  go_enter Tryz.func39, Tryz.ntmps39
  go_upto_region 1 with fail
  rw [← hwb]
  clear hwb
  go_wp2_with fail
  refine hU.mono ?_
  clear hU
  rintro _ w1 hh
  obtain ⟨q, n, c, er, rfl, a1, hcase⟩ := hh.ex
  clear hh
  obtain ⟨s0, s1, s2, s3, s4, s5⟩ := row6 ((a1.block _ (lt_of_heap HQ.out) (by simp)).trans HQ.out)
  rw [HN.out] at s0
  rw [HC.out] at s1
  have HA1 := hid (HA.out.trans a1)
  have HCS := hid hcase
  clear a1 hcase t0 t1 t2 t3 t4 t5 s2 s3 s4 s5
  dsimp only
  by_cases he : er = 0
  · obtain ⟨hu, ho, hn8⟩ : UnC gap T x.xs ∧ Own wb w1 q n c (uni T x.xs) ∧ n ≤ 8 := by
      rcases HCS.out with h | h
      · exact h.2
      · exact absurd he h.1
    subst he
    have hAd := add_c (cap := c) gap x.n x.c (HT.out.kept0 HA1.out) (ho.L (by omega) (uni_fit hu))
    have HU := hid hu
    clear HCS hu ho hn8
    go_wp2_with fail
    refine hAd.mono ?_
    clear hAd
    rintro _ w2 hh
    obtain ⟨q2, n2, c2, er2, rfl, a2, hcase⟩ := hh.ex
    clear hh s0 s1
    have HA2 := hid (HA1.out.trans a2)
    have HCS := hid hcase
    clear a2 hcase
    dsimp only
    by_cases he2 : er2 = 0
    · have HF : Hid (SnP w w2 (.returned (.tuple #[.slice q2 n2 c2, .bool true])) gap T x) := by
        rcases HCS.out with h | h
        · exact ⟨q2, n2, c2, true, rfl, HA2.out, .inl ⟨rfl, ⟨HU.out, h.2.1⟩, ⟨Own.from HA1.out h.2.2.1, h.2.2.2, addl_fit h.2.1⟩⟩⟩
        · exact absurd he2 h.1
      subst he2
      go_wp2_with fail
      go_ret2
      exact HF.out
    · have HF : Hid (SnP w w2 (.returned (.tuple #[.slice q2 n2 c2, .bool false])) gap T x) := by
        rcases HCS.out with h | h
        · exact absurd h.1 he2
        · exact ⟨q2, n2, c2, false, rfl, HA2.out, .inr ⟨rfl, fun k => h.2 k.2⟩⟩
      have he3 : (er2 == 0) = false := by simp; exact he2
      go_wp2_with fail
      go_ret2
      exact HF.out
  · have HF : Hid (SnP w w1 (.returned (.tuple #[.slice none 0 0, .bool false])) gap T x) := by
      rcases HCS.out with h | h
      · exact absurd h.1 he
      · exact ⟨none, 0, 0, false, rfl, HA1.out, .inr ⟨rfl, fun k => h.2 k.1⟩⟩
    go_wp2_with fail
    go_ret2
    exact HF.out
/-- the unions of several lists, in memory of the call's own -/
structure KU3 (w wr : World) (u : Value) (acc : List S) : Prop where
  ex : ∃ q n c, u = .slice q n c ∧ TS w wr q n c acc
set_option maxHeartbeats 8000000 in
set_option maxRecDepth 100000 in
theorem unions_own {w : World} {p : Option Addr} {N cap : Nat} {ss : List Sl} {xss : List (List S)} (gap : Int) (T : Tab w) (h : LX w p N ss xss) (hN : N ≤ 1100000) : Calls Tryz.prog 38 #[.int .i64 gap, .slice p N cap] w fun r w' => ∃ u, r = .returned u ∧ KU3 w w' u (unis gap xss) := by
  have HH := hid h
  have HT := hid T
  clear h T
  go_enter Tryz.func38, Tryz.ntmps38
  go_wp2_with fail
  go_loopw [5, 12] (fun u v wr => ∃ i : Nat, v = .int .i64 (i : Nat) ∧ i ≤ N ∧ KU3 w wr u (unis gap (xss.take i))) (fun _ v _ => N - (intOf v).toNat)
  case atStart => exact ⟨0, rfl, Nat.zero_le _, none, 0, 0, rfl, TS.nil _ _ (Apart.refl _ _)⟩
  case round =>
    obtain ⟨i, rfl, hi, hk⟩ := hrel
    obtain ⟨q, n, c, rfl, hts⟩ := hk.ex
    have HTS := hid hts
    have HA := hid hts.own.ap
    clear hk hts
    by_cases hlt : i < N
    · have hX := HH.out.kept0 HA.out
      obtain ⟨P, o, hp, hP, hc⟩ := hX.rd (by rw [List.length_map, hX.len]; omega)
      have c0 := hc i (gS ss i).v (by rw [List.getElem?_map]; unfold gS; rw [List.getD_eq_getElem?_getD, List.getElem?_eq_getElem (by rw [hX.len]; exact hlt)]; rfl)
      have hU := union_c (cap := c) (cb := (gS ss i).c) gap (HT.out.kept0 HA.out) HTS.out.L (hX.l i hlt)
      have HSN := hid (unis_snoc gap xss i (by rw [hX.lx]; exact hlt))
      unfold Sl.v at c0
      generalize gS ss i = s at *
      generalize xss.getD i [] = ys at *
      generalize unis gap (xss.take i) = acc at *
      subst hp
      clear hX hc HH HT
      go_wp2_with fail
      refine hU.mono ?_
      clear hU
      rintro _ w1 hh
      obtain ⟨q1, n1, c1, e1, rfl, a1, hcase⟩ := hh.ex
      clear hh
      have HA1 := hid a1
      have HC := hid hcase
      clear a1 hcase
      dsimp only
      by_cases he : e1 = 0
      · have HK : Hid (KU3 w w1 (.slice q1 n1 c1) (unis gap (xss.take (i + 1)))) := by
          rw [HSN.out]
          rcases HC.out with h | h
          · rw [knowG_of h.2.1]
            exact ⟨q1, n1, c1, rfl, ⟨Own.from HA.out h.2.2.1, h.2.2.2, uni_fit h.2.1⟩⟩
          · exact absurd he h.1
        subst he
        go_wp2_with fail
        go_roundw
        case rel => exact ⟨i + 1, by go_num, by omega, HK.out⟩
        case measure => simp [intOf]; omega
      · have HK : Hid (KU3 w w1 (.slice q n c) (unis gap (xss.take (i + 1)))) := by
          rw [HSN.out]
          rcases HC.out with h | h
          · exact absurd h.1 he
          · rw [knowG_not h.2]; exact ⟨q, n, c, rfl, HTS.out.kept0 HA1.out⟩
        go_wp2_with fail
        go_roundw
        case rel => exact ⟨i + 1, by go_num, by omega, HK.out⟩
        case measure => simp [intOf]; omega
    · obtain rfl : i = N := by omega
      have HK : Hid (KU3 w wr (.slice q n c) (unis gap xss)) := ⟨q, n, c, rfl, by have := HTS.out; rwa [List.take_of_length_le (by rw [HH.out.lx]; omega)] at this⟩
      go_wp2
      go_ret
      exact ⟨_, rfl, HK.out⟩
end Go.Proofs.YtokaeiahhmaokaaGreatDoor.ds
namespace Go.Proofs.YtokaeiahhmaokaaGreatDoor.ds
open Go.ChangeShapes Go.WideShapes Go.ChangeAt Go.RowKit Go.Sort
set_option linter.unusedVariables false
set_option linter.unusedSimpArgs false
structure TkPost (w w' : World) (r : Ending) (T : List S) (O : List Wr) : Prop where
  ex : ∃ q n c s es, r = .returned (.tuple #[.slice q n c, Sl.v s]) ∧ TS w w' q n c T ∧ s.n = O.length ∧ es.length = O.length ∧ Nw w w' 28 6 s (flatE es) ∧ ∀ j, j < O.length → Fresh w w' (gE es j) (gR O j)
set_option maxHeartbeats 8000000 in
set_option maxRecDepth 100000 in
theorem token_ok (w : World) (TB : Tab w) (p : Option Addr) (n cc : Nat) (F : Nat → Sl × List E × List Wr) (h : Sets w p n F) (hn : n ≤ 1048576) (hT : totL F n ≤ 1048576) (R : E → Wr) (hR : Rdg w R (catL F n)) (hcl : (catL F n).length = totL F n) (bp : Option Addr) (m bc : Nat) (ss : List Sl) (xss : List (List S)) (hX : LX w bp m ss xss) (hm : m ≤ 1048576) (gap : Int) :
    Calls Tryz.prog 18 #[.slice p n cc, .slice bp m bc, .int .i64 gap] w fun r w' => TkPost w w' r (tokT gap xss ((catL F n).map R)) (tokO gap xss ((catL F n).map R)) := by
  have hU := unions_own (cap := bc) gap TB hX (by omega)
  have HS := hid h
  have HR := hid hR
  have HT := hid TB
  have HTL := hid hT
  obtain ⟨L2, HL2⟩ : ∃ L2, Hid (L2 = eachE (catL F n)) := ⟨_, rfl⟩
  obtain ⟨T0, HT0⟩ : ∃ T0, Hid (T0 = unis gap xss) := ⟨_, rfl⟩
  rw [← HT0.out] at hU
  have HL2l : Hid (L2.length ≤ 1048576) := by
    unfold Hid
    rw [HL2.out]
    have := each_len _ (catL F n) rfl
    omega
  have HRL : Hid (Rdg w R L2) := hR.sub (fun e he => by rw [HL2.out] at he; exact eachE_sub _ e he)
  have HEW : Hid (eachW ((catL F n).map R) = L2.map R) := by
    unfold Hid
    rw [HL2.out, eachE_map hR]
  have HFT : Hid (tokT gap xss ((catL F n).map R) = tkT gap T0 (L2.map R) L2.length) := by
    unfold Hid tokT
    rw [HEW.out, ← HT0.out, List.length_map]
  have HFO : Hid (tokO gap xss ((catL F n).map R) = tkO gap T0 (L2.map R) L2.length) := by
    unfold Hid tokO
    rw [HEW.out, ← HT0.out, List.length_map]
  rw [HFT.out, HFO.out]
  have HC : Hid (∀ X, Apart [] w X → Calls Tryz.prog 31 #[.slice p n cc] X fun r w' => ∃ s : Sl, r = .returned s.v ∧ s.n = totL F n ∧ OwnE X w' s (catL F n)) := fun X a => concat_ok X p n cc F (HS.out.kept0 a) hn (by have := HTL.out; omega)
  clear h hR hX TB hT hm hcl HFT HFO HEW HS
  go_enter Tryz.func18, Tryz.ntmps18
  go_wp2_with fail
  refine hU.mono ?_
  clear hU
  rintro _ w1 ⟨u, rfl, hk⟩
  obtain ⟨q, nq, cq, rfl, hts⟩ := hk.ex
  have HTS := hid hts
  have HA1 := hid hts.own.ap
  clear hk hts
  dsimp only
  go_wp2_with fail
  refine (HC.out w1 HA1.out).mono ?_
  rintro _ w2 ⟨s, rfl, hsn, ho⟩
  have hB := byDots_any ho (by have := HTL.out; omega)
  have HA2 := hid ho.nw.ap
  rw [← HL2.out] at hB
  clear ho hsn
  dsimp only
  go_wp2_with fail
  refine hB.mono ?_
  clear hB
  rintro _ w3 ⟨s3, rfl, ho3⟩
  have HO3 := hid ho3
  have HA3 := hid ho3.nw.ap
  have HL3 := hid ho3.len
  have hs3 : s3.n ≤ 1048576 := by have := HL2l.out; have := ho3.len; omega
  have HTS3 := hid (HTS.out.kept0 ho3.nw.ap)
  clear ho3 HTS HA2 HC
  obtain ⟨sp, N, sc⟩ := s3
  simp only at hs3
  unfold Sl.v
  dsimp only
  go_wp2_with fail
  go_loopw [8, 9, 21] (fun a o v wr => ∃ (i : Nat) (q : Option Addr) (n c : Nat) (so : Sl), a = .slice q n c ∧ o = so.v ∧ v = .int .i64 (i : Nat) ∧ i ≤ N ∧ TS w wr q n c (tkT gap T0 (L2.map R) i) ∧ OwnE w3 wr so (tkE gap T0 (L2.map R) L2 i)) (fun _ _ v _ => N - (intOf v).toNat)
  case atStart => exact ⟨0, q, nq, cq, ⟨none, 0, 0⟩, rfl, rfl, rfl, Nat.zero_le _, HTS3.out, OwnE.nil _ _ (Apart.refl _ _)⟩
  case round =>
    obtain ⟨i, q, nq, cq, so, rfl, rfl, rfl, hi, hts, hso⟩ := hrel
    have HTS := hid hts
    have HSO := hid hso
    have HAW := hid (HA1.out.trans (HA3.out.trans hso.nw.ap))
    clear hts hso HTS3
    by_cases hlt : i < N
    · have hin : ((i : Nat) : Int) < (N : Int) := by omega
      obtain ⟨P, o, hp, _, hc⟩ := ((HO3.out.kept HSO.out.nw.ap).LE (by show N ≤ 2000000; omega)).at (by show 0 < N; omega)
      obtain ⟨k0, k1, k2, k3, k4, k5⟩ := hc i hlt
      simp only at hp
      subst hp
      have HRx : Hid (Reads wr (gE L2 i) (gR (L2.map R) i)) := (HRL.out.kept0 HAW.out).at i (by have : L2.length = N := HL3.out; omega)
      have HSN : Hid (∀ s' : Sl, s'.n = s'.n) := fun _ => rfl
      have hso2 : so.n ≤ 2000000 := by
        have h1 := HSO.out.len
        have h2 := tkE_len gap T0 (L2.map R) L2 i
        omega
      obtain ⟨x, Hx⟩ : ∃ x, Hid (x = gE L2 i) := ⟨_, rfl⟩
      obtain ⟨rx, Hrx⟩ : ∃ rx, Hid (rx = gR (L2.map R) i) := ⟨_, rfl⟩
      rw [← Hx.out] at k0 k1 k2 k3 k4 k5 HRx
      rw [← Hrx.out] at HRx
      obtain ⟨wb, hwb⟩ : ∃ wb, wb = wr.alloc (boxE x) := ⟨_, rfl⟩
      have HAB : Hid (Apart [] wr wb) := by unfold Hid; rw [hwb]; exact (Apart.refl [] wr).alloc _
      have HQ : Hid (wb.heap[wr.heap.size]? = some (boxE x)) := by unfold Hid; rw [hwb]; exact heap_alloc_new wr _
      have hS := seen_ok (cap := cq) (HT.out.kept0 (HAW.out.trans HAB.out)) (HTS.out.kept0 HAB.out).L x rx (HRx.out.kept0 HAB.out) gap
      obtain ⟨t0, t1, t2, t3, t4, t5⟩ := row6 (show wb.heap[wr.heap.size]? = _ from HQ.out)
      unfold boxE at hwb
      unfold Sl.v at k4 k5 t4 t5 hwb
      unfold E.agg Sl.v at hS
      unfold Sl.v
      obtain ⟨TT, HTT⟩ : ∃ TT, Hid (TT = tkT gap T0 (L2.map R) i) := ⟨_, rfl⟩
      rw [← HTT.out] at hS HTS
      clear hc
      go_upto_region 6 with fail
      rw [← hwb]
      clear hwb k0 k1 k2 k3 k4 k5
      go_wp2_with fail
      refine hS.mono ?_
      clear hS
      rintro _ w5 hh
      obtain ⟨q5, n5, c5, b5, rfl, a5, hcase⟩ := hh.ex
      clear hh
      have HA5 := hid (HAB.out.trans a5)
      have HCS := hid hcase
      obtain ⟨t0, t1, t2, t3, t4, t5⟩ := row6 ((a5.block _ (lt_of_heap HQ.out) (by simp)).trans HQ.out)
      clear a5 hcase
      dsimp only
      cases b5
      case true =>
        have HK : Hid (TS w w5 q5 n5 c5 (tkT gap T0 (L2.map R) (i + 1)) ∧ OwnE w3 w5 so (tkE gap T0 (L2.map R) L2 (i + 1))) := by
          rcases HCS.out with h | h
          · have hc := h.2.1
            rw [HTT.out, Hrx.out] at hc
            rw [tkT_yes hc, tkE_yes hc, ← HTT.out, ← Hrx.out]
            exact ⟨h.2.2.from (HAW.out.trans HAB.out), HSO.out.kept HA5.out⟩
          · exact absurd h.1 (by simp)
        clear t0 t1 t2 t3 t4 t5
        go_wp2_with fail
        go_roundw
        case rel => exact ⟨i + 1, q5, n5, c5, so, rfl, rfl, by go_num, by omega, HK.out.1, HK.out.2⟩
        case measure => simp [intOf]; omega
      case false =>
        have hnc : ¬ TkC gap (tkT gap T0 (L2.map R) i) (gR (L2.map R) i) := by
          rcases HCS.out with h | h
          · exact absurd h.1 (by simp)
          · have hc := h.2
            rw [HTT.out, Hrx.out] at hc
            exact hc
        obtain ⟨s6, w6, hrun, ho6, hn6, ap6⟩ := run_appE (HSO.out.kept HA5.out) hso2 x 35
        have HK : Hid (TS w w6 q nq cq (tkT gap T0 (L2.map R) (i + 1)) ∧ OwnE w3 w6 s6 (tkE gap T0 (L2.map R) L2 (i + 1))) := by
          rw [tkT_no hnc, tkE_no hnc, ← HTT.out, ← Hx.out]
          exact ⟨(HTS.out.kept0 HA5.out).keptW (HSO.out.kept HA5.out).nw ap6 (HA1.out.trans (HA3.out.trans ho6.nw.ap)), ho6⟩
        clear ho6 hn6 ap6 hnc
        unfold Sl.v at hrun t4 t5
        unfold boxE at hrun
        have HRUN : Hid ((Builtin.append_ #[35, 35] 35 #[.slice so.p so.n so.c, .slice (some ⟨w5.heap.size, 0, none⟩) 1 1]).run Tryz.prog (w5.alloc (Obj.cells #[Value.int IntKind.i64 x.n, Value.int IntKind.i64 x.c, Value.string x.k, Value.bool x.d, Value.slice x.v.p x.v.n x.v.c, Value.slice x.x.p x.x.n x.x.c] 28)) = .ok (.slice s6.p s6.n s6.c) w6) := hrun
        clear hrun
        go_wp2_with (at_builtin; refine wpList_app2 rfl (.tmp 34) (.tmp 36) 35 35 rfl _ _ rfl rfl _ _ HRUN.out ?_)
        go_roundw
        case rel => exact ⟨i + 1, q, nq, cq, s6, rfl, rfl, by go_num, by omega, HK.out.1, HK.out.2⟩
        case measure => simp [intOf]; omega
    · obtain rfl : N = i := by omega
      have HLN : Hid (L2.length = N) := HL3.out
      have hLN := HLN.out
      obtain ⟨O, HO⟩ : ∃ O, Hid (O = tkO gap T0 (L2.map R) N) := ⟨_, rfl⟩
      have HM : Hid ((tkE gap T0 (L2.map R) L2 N).map R = O) := by
        unfold Hid
        rw [HO.out, tkE_map gap T0 R L2 N (by omega)]
      have HSB : Hid (∀ e ∈ tkE gap T0 (L2.map R) L2 N, e ∈ L2) := tkE_sub gap T0 _ L2 N (by omega)
      have hso2 : so.n ≤ 2000000 := by
        have h1 := HSO.out.len
        have h2 := tkE_len gap T0 (L2.map R) L2 N
        omega
      have hnn : so.n = O.length := by rw [← HM.out, List.length_map, HSO.out.len]
      have hcp := copies_ok wr so O.length _ O hnn HSO.out.nw.ok (by rw [← hnn]; exact HSO.out.LE hso2) (fun j hj => by
        rw [← HM.out]
        exact ((HRL.out.sub HSB.out).kept0 HAW.out).at j (by rw [HSO.out.len, hnn]; exact hj))
      have HNN := hid hnn
      clear hnn hLN hso2
      unfold Sl.v at hcp ⊢
      go_wp2_with fail
      refine hcp.mono ?_
      clear hcp
      rintro r w6 hpost
      obtain ⟨s6, es6, rfl, q1, q2, q3, q4⟩ := hpost.ex
      have HF : Hid (TkPost w w6 (.returned (.tuple #[.slice q nq cq, Sl.v s6])) (tkT gap T0 (L2.map R) L2.length) (tkO gap T0 (L2.map R) L2.length)) := by
        rw [HLN.out, ← HO.out]
        exact ⟨q, nq, cq, s6, es6, rfl, HTS.out.kept0 q3.ap, q1, q2, q3.from HAW.out, fun j hj => (q4 j hj).from HAW.out⟩
      clear hpost q1 q2 q3 q4
      unfold Sl.v at HF ⊢
      dsimp only
      go_wp2_with fail
      go_ret2
      exact HF.out
end Go.Proofs.YtokaeiahhmaokaaGreatDoor.ds
