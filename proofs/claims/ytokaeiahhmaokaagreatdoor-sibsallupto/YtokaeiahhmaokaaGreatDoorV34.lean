import Derived.Test.YtokaeiahhmaokaaGreatDoorV33
namespace Go.Proofs.YtokaeiahhmaokaaGreatDoor.ds
open Go.ChangeShapes Go.WideShapes Go.ChangeAt Go.RowKit Go.Sort
set_option linter.unusedVariables false
set_option linter.unusedSimpArgs false
theorem infoP : (Tryz.prog.info? 37).map (fun i => (i.zero, i.size, i.bytes)) = some (some (.pointer none), 1, 8) := by kernel_rfl
/-- where one lent list lies -/
structure Ld where
  lo : Nat
  hi : Nat
  LB : Nat
  G : Nat
  c : Nat
  vv : Sl
  xx : Sl
  fs : List E
  vs : List Sl
  xs : List Sl
def Ld.pv (d : Ld) : Value := .pointer (some ⟨d.LB, 0, none⟩)
def Ld.sv (d : Ld) (n : Nat) : Value := .slice (some ⟨d.G, 0, none⟩) n d.c
abbrev Ld.Lt (d : Ld) (w : World) (rs : List Wr) (N : Nat) : Prop := ds.Lt d.lo d.hi w d.LB d.G d.c d.vv d.xx d.fs d.vs d.xs rs N
theorem Apart.frK {k : Nat} {w w' : World} (a : Apart [k] w w') : Fr k (k + 1) w w' := ⟨a.os, a.tape, a.output, a.size, fun j hj ho => a.block j hj (by simp; omega)⟩
theorem Ld.Lt.one {d : Ld} {w w' : World} {rs : List Wr} {N : Nat} (h : d.Lt w rs N) {o : Option Nat} (a : Apart o.toList w w') (ho : ∀ k, o = some k → k < d.lo ∨ d.hi ≤ k) : d.Lt w' rs N := by
  cases o with
  | none => exact ds.Lt.kept0 h a
  | some k => exact ds.Lt.fr h (Apart.frK a) (by have := ho k rfl; omega)
/-- several lent lists at once: ml of them, the law's own list of them, and the list that is handed in -/
structure Lm (w wr : World) (a t : Sl) (D : Nat → Ld) (F : Nat → Sl × List E × List Wr) (ml ma mt : Nat) : Prop where
  nwa : Nw w wr 37 1 a ((List.range ma).map fun i => (D i).pv)
  nwt : Nw w wr 35 1 t ((List.range mt).map fun i => (D i).sv (F i).1.n)
  an : a.n = ma
  tn : t.n = mt
  lt : ∀ i, i < ml → (D i).Lt wr (F i).2.2 (F i).1.n
  lo : ∀ i, i < ml → w.heap.size ≤ (D i).lo
  ord : ∀ i j, i < j → j < ml → (D i).hi ≤ (D j).lo
  ca : ∀ k, a.v.ownBlock = some k → ∀ i, i < ml → k < (D i).lo ∨ (D i).hi ≤ k
  ct : ∀ k, t.v.ownBlock = some k → ∀ i, i < ml → k < (D i).lo ∨ (D i).hi ≤ k
theorem Lm.nil (w : World) (D : Nat → Ld) (F : Nat → Sl × List E × List Wr) : Lm w w ⟨none, 0, 0⟩ ⟨none, 0, 0⟩ D F 0 0 0 :=
  ⟨⟨World.ownsRow_nil _ _ _ _, by simp [Sl.v, Value.ownBlock], Apart.refl _ _⟩, ⟨World.ownsRow_nil _ _ _ _, by simp [Sl.v, Value.ownBlock], Apart.refl _ _⟩, rfl, rfl, fun _ h => absurd h (by omega), fun _ h => absurd h (by omega), fun _ _ _ h => absurd h (by omega), fun _ _ _ h => absurd h (by omega), fun _ _ _ h => absurd h (by omega)⟩
theorem Lm.kept0 {w wr wx : World} {a t : Sl} {D : Nat → Ld} {F : Nat → Sl × List E × List Wr} {ml ma mt : Nat} (h : Lm w wr a t D F ml ma mt) (ap : Apart [] wr wx) : Lm w wx a t D F ml ma mt :=
  { h with nwa := h.nwa.kept ap, nwt := h.nwt.kept ap, lt := fun i hi => ds.Lt.kept0 (h.lt i hi) ap }
def updL (D : Nat → Ld) (m : Nat) (d : Ld) (i : Nat) : Ld := if i = m then d else D i
theorem updL_lt (D : Nat → Ld) (d : Ld) {i m : Nat} (h : i < m) : updL D m d i = D i := if_neg (by omega)
theorem updL_eq (D : Nat → Ld) (d : Ld) (m : Nat) : updL D m d m = d := if_pos rfl
/-- one more is lent -/
theorem Lm.lend {w wr wx : World} {a t : Sl} {D : Nat → Ld} {F : Nat → Sl × List E × List Wr} {m : Nat} (h : Lm w wr a t D F m m m) (ap : Apart [] wr wx) (d : Ld) (hd : d.Lt wx (F m).2.2 (F m).1.n) (hlo : d.lo = wr.heap.size) : Lm w wx a t (updL D m d) F (m + 1) m m := by
  have hk := h.kept0 ap
  have e : ∀ i, i < m → updL D m d i = D i := fun i hi => updL_lt D d hi
  have e1 : (List.range m).map (fun i => (updL D m d i).pv) = (List.range m).map fun i => (D i).pv := List.map_congr_left (fun i hi => by rw [e i (List.mem_range.1 hi)])
  have e2 : (List.range m).map (fun i => (updL D m d i).sv (F i).1.n) = (List.range m).map fun i => (D i).sv (F i).1.n := List.map_congr_left (fun i hi => by rw [e i (List.mem_range.1 hi)])
  have hsz : w.heap.size ≤ wr.heap.size := h.nwa.ap.size
  have hhi : ∀ i, i < m → (D i).hi ≤ wr.heap.size := fun i hi => (h.lt i hi).sz
  have oa : ∀ k, a.v.ownBlock = some k → k < wr.heap.size := fun k hk => (h.nwa.own.lt k hk).2
  have ot : ∀ k, t.v.ownBlock = some k → k < wr.heap.size := fun k hk => (h.nwt.own.lt k hk).2
  refine ⟨by rw [e1]; exact hk.nwa, by rw [e2]; exact hk.nwt, h.an, h.tn, fun i hi => ?_, fun i hi => ?_, fun i j hij hj => ?_, fun k hkk i hi => ?_, fun k hkk i hi => ?_⟩
  · by_cases him : i = m
    · subst him; rw [updL_eq]; exact hd
    · rw [e i (by omega)]; exact hk.lt i (by omega)
  · by_cases him : i = m
    · subst him; rw [updL_eq, hlo]; exact hsz
    · rw [e i (by omega)]; exact h.lo i (by omega)
  · rw [e i (by omega)]
    by_cases him : j = m
    · subst him; rw [updL_eq, hlo]; exact hhi i (by omega)
    · rw [e j (by omega)]; exact h.ord i j hij (by omega)
  · by_cases him : i = m
    · subst him; rw [updL_eq, hlo]; exact .inl (oa k hkk)
    · rw [e i (by omega)]; exact h.ca k hkk i (by omega)
  · by_cases him : i = m
    · subst him; rw [updL_eq, hlo]; exact .inl (ot k hkk)
    · rw [e i (by omega)]; exact h.ct k hkk i (by omega)
theorem sl_blk {s : Sl} {k : Nat} (h : s.p = some ⟨k, 0, none⟩) : s.v.ownBlock = some k := by
  obtain ⟨p, n, c⟩ := s
  simp only at h
  subst h
  rfl
theorem und85 : Tryz.prog.underlying 36 = some (.slice 37) := by kernel_rfl
theorem Lm.pushA {w wr : World} {a t : Sl} {D : Nat → Ld} {F : Nat → Sl × List E × List Wr} {m : Nat} (h : Lm w wr a t D F (m + 1) m m) (hm : m ≤ 2000000) (ty : TypeId) :
    ∃ a' w6, (Builtin.append_ #[36, 36] ty #[a.v, .slice (some ⟨wr.heap.size, 0, none⟩) 1 1]).run Tryz.prog (wr.alloc (.cells #[(D m).pv] 37)) = .ok (Sl.v a') w6 ∧ Lm w w6 a' t D F (m + 1) (m + 1) m := by
  obtain ⟨i0, hif, hz0, hz1, hz2⟩ := info_parts infoP
  have han := h.an
  obtain ⟨a', w6, hrun, hnw, hsn, ap, k, hp, hc, hk⟩ := run_appM (s := a) 36 ty 37 i0 _ 1 8 und85 hif hz0 hz1 hz2 rfl (by decide) h.nwa 1 [(D m).pv] (by decide) rfl (fun u hu => by simp at hu; rw [hu]; rfl) (by unfold maxLen; omega) (by omega)
  refine ⟨a', w6, hrun, ⟨by rw [List.range_succ, List.map_append]; exact hnw, ⟨own_apart h.nwt.own ap (fun k hk hm => ?_), h.nwt.new, hnw.ap⟩, by omega, h.tn, fun i hi => (h.lt i hi).one ap (fun k hk => h.ca k hk i hi), h.lo, h.ord, fun k2 hk2 i hi => ?_, h.ct⟩⟩
  · simp at hm
    obtain ⟨c1, e1⟩ := own_typ h.nwt.own hk
    obtain ⟨c2, e2⟩ := own_typ h.nwa.own hm
    rw [e1] at e2
    simp at e2
  · rw [sl_blk hp] at hk2
    simp at hk2
    subst hk2
    rcases hk with hk | hk
    · exact h.ca k hk i hi
    · exact .inr (Nat.le_trans (h.lt i hi).sz hk)
theorem Lm.pushT {w wr : World} {a t : Sl} {D : Nat → Ld} {F : Nat → Sl × List E × List Wr} {m : Nat} (h : Lm w wr a t D F (m + 1) (m + 1) m) (hm : m ≤ 2000000) (ty : TypeId) :
    ∃ t' w6, (Builtin.append_ #[22, 22] ty #[t.v, .slice (some ⟨wr.heap.size, 0, none⟩) 1 1]).run Tryz.prog (wr.alloc (.cells #[(D m).sv (F m).1.n] 35)) = .ok (Sl.v t') w6 ∧ Lm w w6 a t' D F (m + 1) (m + 1) (m + 1) := by
  obtain ⟨i0, hif, hz0, hz1, hz2⟩ := info_parts infoL
  have htn := h.tn
  obtain ⟨t', w6, hrun, hnw, hsn, ap, k, hp, hc, hk⟩ := run_appM (s := t) 22 ty 35 i0 _ 1 24 Tryz.underlying22 hif hz0 hz1 hz2 rfl (by decide) h.nwt 1 [(D m).sv (F m).1.n] (by decide) rfl (fun u hu => by simp at hu; rw [hu]; rfl) (by unfold maxLen; omega) (by omega)
  refine ⟨t', w6, hrun, ⟨⟨own_apart h.nwa.own ap (fun k hk hm => ?_), h.nwa.new, hnw.ap⟩, by rw [List.range_succ, List.map_append]; exact hnw, h.an, by omega, fun i hi => (h.lt i hi).one ap (fun k hk => h.ct k hk i hi), h.lo, h.ord, h.ca, fun k2 hk2 i hi => ?_⟩⟩
  · simp at hm
    obtain ⟨c1, e1⟩ := own_typ h.nwa.own hk
    obtain ⟨c2, e2⟩ := own_typ h.nwt.own hm
    rw [e1] at e2
    simp at e2
  · rw [sl_blk hp] at hk2
    simp at hk2
    subst hk2
    rcases hk with hk | hk
    · exact h.ct k hk i hi
    · exact .inr (Nat.le_trans (h.lt i hi).sz hk)
end Go.Proofs.YtokaeiahhmaokaaGreatDoor.ds
namespace Go.Proofs.YtokaeiahhmaokaaGreatDoor.ds
open Go.ChangeShapes Go.WideShapes Go.ChangeAt Go.RowKit Go.Sort
set_option linter.unusedVariables false
set_option linter.unusedSimpArgs false
open Classical in
/-- what a write in memory reads as -/
noncomputable def Rof (w : World) (e : E) : Wr := if h : ∃ r, Reads w e r then h.choose else markW
theorem Rof_eq {w : World} {e : E} {r : Wr} (h : Reads w e r) : Rof w e = r := by
  have hx : ∃ r, Reads w e r := ⟨r, h⟩
  unfold Rof
  rw [dif_pos hx]
  exact Reads.det hx.choose_spec h
def catR (F : Nat → Sl × List E × List Wr) : Nat → List Wr
  | 0 => []
  | i + 1 => catR F i ++ (F i).2.2
theorem gR_eq (rs : List Wr) (k : Nat) (h : k < rs.length) : gR rs k = rs[k] := by simp [gR, List.getD_eq_getElem?_getD, h]
theorem In.reads {w : World} {s : Sl} {es : List E} {rs : List Wr} (h : In w s es rs) : (∀ e ∈ es, Reads w e (Rof w e)) ∧ es.map (Rof w) = rs := by
  have h1 := h.le.len
  have h2 := h.len
  refine ⟨fun e he => ?_, ?_⟩
  · obtain ⟨j, hj, rfl⟩ := List.getElem_of_mem he
    have := h.rd j (by omega)
    rw [gE_eq es j hj] at this
    rw [Rof_eq this]
    exact this
  · apply List.ext_getElem
    · rw [List.length_map]; omega
    · intro j hj1 hj2
      rw [List.length_map] at hj1
      have := h.rd j (by omega)
      rw [gE_eq es j hj1, gR_eq rs j hj2] at this
      rw [List.getElem_map, Rof_eq this]
theorem catL_reads {w : World} {F : Nat → Sl × List E × List Wr} : ∀ n, (∀ i, i < n → In w (F i).1 (F i).2.1 (F i).2.2) → Rdg w (Rof w) (catL F n) ∧ (catL F n).map (Rof w) = catR F n ∧ (catL F n).length = totL F n
  | 0, _ => ⟨⟨fun e he => by simp [catL] at he⟩, rfl, rfl⟩
  | n + 1, h => by
    obtain ⟨h1, h2, h3⟩ := catL_reads n (fun i hi => h i (by omega))
    obtain ⟨k1, k2⟩ := (h n (by omega)).reads
    refine ⟨⟨fun e he => ?_⟩, ?_, ?_⟩
    · rcases List.mem_append.1 (show e ∈ catL F n ++ (F n).2.1 from he) with he | he
      · exact h1.rd e he
      · exact k1 e he
    · show (catL F n ++ (F n).2.1).map _ = catR F n ++ (F n).2.2
      rw [List.map_append, h2, k2]
    · show (catL F n ++ (F n).2.1).length = totL F n + (F n).1.n
      rw [List.length_append, h3, (h n (by omega)).le.len]
/-- the lists that are handed in -/
def lentF (D : Nat → Ld) (F : Nat → Sl × List E × List Wr) (i : Nat) : Sl × List E × List Wr := (⟨some ⟨(D i).G, 0, none⟩, (F i).1.n, (D i).c⟩, (D i).fs, (F i).2.2)
theorem lentF_tot (D : Nat → Ld) (F : Nat → Sl × List E × List Wr) : ∀ n, totL (lentF D F) n = totL F n ∧ catR (lentF D F) n = catR F n
  | 0 => ⟨rfl, rfl⟩
  | n + 1 => by
    obtain ⟨h1, h2⟩ := lentF_tot D F n
    exact ⟨by show totL (lentF D F) n + (F n).1.n = totL F n + _; rw [h1], by show catR (lentF D F) n ++ (F n).2.2 = _; rw [h2]; rfl⟩
theorem Lm.ins {w wr : World} {a t : Sl} {D : Nat → Ld} {F : Nat → Sl × List E × List Wr} {n ma mt : Nat} (h : Lm w wr a t D F n ma mt) (hF : ∀ i, i < n → (F i).1.n ≤ 1048576 ∧ (F i).2.2.length = (F i).1.n) (i : Nat) (hi : i < n) : In wr (lentF D F i).1 (lentF D F i).2.1 (lentF D F i).2.2 := by
  obtain ⟨h1, h2⟩ := hF i hi
  have hl := h.lt i hi
  exact ⟨ds.Lt.LE hl (show (F i).1.n ≤ 2000000 by omega), h1, h2, fun j hj => (ds.Lt.one hl j hj).reads, fun e => by simp [lentF] at e⟩
theorem Lm.sets {w wr : World} {a t : Sl} {D : Nat → Ld} {F : Nat → Sl × List E × List Wr} {n ma : Nat} (h : Lm w wr a t D F n ma n) (hF : ∀ i, i < n → (F i).1.n ≤ 1048576 ∧ (F i).2.2.length = (F i).1.n) : Sets wr t.p n (lentF D F) := by
  intro h0
  obtain ⟨P, o, e, hP, hc⟩ := h.nwt.rd (by rw [List.length_map, List.length_range]; exact h0)
  refine ⟨P, o, e, hP, fun i hi => ⟨?_, h.ins hF i hi⟩⟩
  have := hc i ((D i).sv (F i).1.n) (by rw [List.getElem?_map, List.getElem?_range hi]; rfl)
  simpa [lentF, Ld.sv, Sl.v] using this
end Go.Proofs.YtokaeiahhmaokaaGreatDoor.ds
namespace Go.Proofs.YtokaeiahhmaokaaGreatDoor.ds
open Go.ChangeShapes Go.WideShapes Go.ChangeAt Go.RowKit Go.Sort
set_option linter.unusedVariables false
set_option linter.unusedSimpArgs false
theorem Apart.over {w wr wx : World} {lo hi : Nat} (a : Apart [] w wr) (f : Fr lo hi wr wx) (h : w.heap.size ≤ lo) : Apart [] w wx :=
  ⟨f.os.trans a.os, f.tape.trans a.tape, f.output.trans a.output, Nat.le_trans a.size f.size, fun k hk hx => (f.block k (Nat.lt_of_lt_of_le hk a.size) (.inl (by omega))).trans (a.block k hk hx)⟩
/-- the first i of the lent lists were looked through: their writes are marks -/
structure Bm (w wr : World) (a t : Sl) (D : Nat → Ld) (F : Nat → Sl × List E × List Wr) (n i : Nat) : Prop where
  nwa : Nw w wr 37 1 a ((List.range n).map fun i => (D i).pv)
  nwt : Nw w wr 35 1 t ((List.range n).map fun i => (D i).sv (F i).1.n)
  an : a.n = n
  tn : t.n = n
  lt : ∀ k, i ≤ k → k < n → (D k).Lt wr (F k).2.2 (F k).1.n
  mks : ∀ k, k < i → wr.ownsRow 0 28 6 (.slice (some ⟨(D k).G, 0, none⟩) ((F k).1.n + 2) (D k).c) ((F k).1.n + 2) (flatE (List.replicate ((F k).1.n + 2) markE))
  rg : ∀ k, k < n → (D k).lo ≤ (D k).G ∧ (D k).G < (D k).hi
  lo : ∀ i, i < n → w.heap.size ≤ (D i).lo
  ord : ∀ i j, i < j → j < n → (D i).hi ≤ (D j).lo
  ca : ∀ k, a.v.ownBlock = some k → ∀ i, i < n → k < (D i).lo ∨ (D i).hi ≤ k
  ct : ∀ k, t.v.ownBlock = some k → ∀ i, i < n → k < (D i).lo ∨ (D i).hi ≤ k
theorem Lm.back {w wr : World} {a t : Sl} {D : Nat → Ld} {F : Nat → Sl × List E × List Wr} {n : Nat} (h : Lm w wr a t D F n n n) : Bm w wr a t D F n 0 :=
  ⟨h.nwa, h.nwt, h.an, h.tn, fun k _ hk => h.lt k hk, fun k hk => absurd hk (by omega), fun k hk => (h.lt k hk).rG, h.lo, h.ord, h.ca, h.ct⟩
theorem Bm.kept0 {w wr wx : World} {a t : Sl} {D : Nat → Ld} {F : Nat → Sl × List E × List Wr} {n i : Nat} (h : Bm w wr a t D F n i) (ap : Apart [] wr wx) : Bm w wx a t D F n i :=
  { h with nwa := h.nwa.kept ap, nwt := h.nwt.kept ap, lt := fun k hk hn => ds.Lt.kept0 (h.lt k hk hn) ap, mks := fun k hk => own_apart (h.mks k hk) ap (by simp) }
theorem Bm.step {w wr wx : World} {a t : Sl} {D : Nat → Ld} {F : Nat → Sl × List E × List Wr} {n i : Nat} (h : Bm w wr a t D F n i) (hi : i < n) (f : Fr (D i).lo (D i).hi wr wx) (hm : wx.ownsRow 0 28 6 (.slice (some ⟨(D i).G, 0, none⟩) ((F i).1.n + 2) (D i).c) ((F i).1.n + 2) (flatE (List.replicate ((F i).1.n + 2) markE))) : Bm w wx a t D F n (i + 1) := by
  have ap : Apart [] w wx := h.nwa.ap.over f (h.lo i hi)
  refine { h with nwa := ⟨own_fr h.nwa.own f (fun k hk => h.ca k hk i hi), h.nwa.new, ap⟩, nwt := ⟨own_fr h.nwt.own f (fun k hk => h.ct k hk i hi), h.nwt.new, ap⟩, lt := fun k hk hn => ds.Lt.fr (h.lt k (by omega) hn) f (.inr (h.ord i k (by omega) hn)), mks := fun k hk => ?_ }
  by_cases hki : k = i
  · rw [hki]; exact hm
  · refine own_fr (h.mks k (by omega)) f (fun g hg => ?_)
    simp [Value.ownBlock] at hg
    have h1 := h.rg k (by omega)
    have h2 := h.ord k i (by omega) hi
    omega
/-- the same lists, with marks in them -/
def markF (D : Nat → Ld) (F : Nat → Sl × List E × List Wr) (i : Nat) : Sl × List E × List Wr := (⟨some ⟨(D i).G, 0, none⟩, (F i).1.n, (D i).c⟩, List.replicate (F i).1.n markE, List.replicate (F i).1.n markW)
theorem markF_tot (D : Nat → Ld) (F : Nat → Sl × List E × List Wr) : ∀ n, totL (markF D F) n = totL F n
  | 0 => rfl
  | n + 1 => by
    show totL (markF D F) n + (F n).1.n = totL F n + _
    rw [markF_tot D F n]
theorem Bm.ins {w wr : World} {a t : Sl} {D : Nat → Ld} {F : Nat → Sl × List E × List Wr} {n : Nat} (h : Bm w wr a t D F n n) (hF : ∀ i, i < n → (F i).1.n ≤ 1048576) (i : Nat) (hi : i < n) : In wr (markF D F i).1 (markF D F i).2.1 (markF D F i).2.2 := by
  have h1 := hF i hi
  have hm := h.mks i hi
  refine ⟨⟨?_, by simp [markF], show (F i).1.n ≤ 2000000 by omega⟩, h1, by simp [markF], fun j hj => ?_, fun e => by simp [markF] at e⟩
  · have hr := Rd.own (p := some ⟨(D i).G, 0, none⟩) (n := (F i).1.n + 2) (cap := (D i).c) hm
    rw [show List.replicate ((F i).1.n + 2) markE = List.replicate (F i).1.n markE ++ List.replicate 2 markE from by rw [List.replicate_append_replicate], flatE_append] at hr
    exact hr.pre
  · have hj' : j < (F i).1.n := hj
    have e1 : gE (markF D F i).2.1 j = markE := by unfold gE markF; simp [List.getD_eq_getElem?_getD, hj']
    have e2 : gR (markF D F i).2.2 j = markW := by unfold gR markF; simp [List.getD_eq_getElem?_getD, hj']
    rw [e1, e2]
    exact mark_reads wr
theorem Bm.sets {w wr : World} {a t : Sl} {D : Nat → Ld} {F : Nat → Sl × List E × List Wr} {n : Nat} (h : Bm w wr a t D F n n) (hF : ∀ i, i < n → (F i).1.n ≤ 1048576) : Sets wr t.p n (markF D F) := by
  intro h0
  obtain ⟨P, o, e, hP, hc⟩ := h.nwt.rd (by rw [List.length_map, List.length_range]; exact h0)
  refine ⟨P, o, e, hP, fun i hi => ⟨?_, h.ins hF i hi⟩⟩
  have := hc i ((D i).sv (F i).1.n) (by rw [List.getElem?_map, List.getElem?_range hi]; rfl)
  simpa [markF, Ld.sv, Sl.v] using this
end Go.Proofs.YtokaeiahhmaokaaGreatDoor.ds
namespace Go.Proofs.YtokaeiahhmaokaaGreatDoor.ds
open Go.ChangeShapes Go.WideShapes Go.ChangeAt Go.RowKit Go.Sort
set_option linter.unusedVariables false
set_option linter.unusedSimpArgs false
/-- lists of writes in new memory, and the list of them -/
structure Nm (w wr : World) (u : Sl) (T : Nat → Sl × List E × List Wr) (m : Nat) : Prop where
  nw : Nw w wr 35 1 u ((List.range m).map fun i => (T i).1.v)
  un : u.n = m
  own : ∀ i, i < m → OwnE w wr (T i).1 (T i).2.1
  fr : ∀ i, i < m → ∀ j, j < (T i).1.n → Fresh w wr (gE (T i).2.1 j) (gR (T i).2.2 j)
  ln : ∀ i, i < m → (T i).1.n ≤ 1048576 ∧ (T i).2.2.length = (T i).1.n
theorem Nm.nil (w wr : World) (a : Apart [] w wr) (T : Nat → Sl × List E × List Wr) : Nm w wr ⟨none, 0, 0⟩ T 0 :=
  ⟨⟨World.ownsRow_nil _ _ _ _, by simp [Sl.v, Value.ownBlock], a⟩, rfl, fun _ h => absurd h (by omega), fun _ h => absurd h (by omega), fun _ h => absurd h (by omega)⟩
theorem Nm.kept0 {w wr wx : World} {u : Sl} {T : Nat → Sl × List E × List Wr} {m : Nat} (h : Nm w wr u T m) (a : Apart [] wr wx) : Nm w wx u T m :=
  ⟨h.nw.kept a, h.un, fun i hi => (h.own i hi).kept a, fun i hi j hj => (h.fr i hi j hj).kept0 a, h.ln⟩
def updT (T : Nat → Sl × List E × List Wr) (m : Nat) (d : Sl × List E × List Wr) (i : Nat) : Sl × List E × List Wr := if i = m then d else T i
theorem updT_lt (T : Nat → Sl × List E × List Wr) (d : Sl × List E × List Wr) {i m : Nat} (h : i < m) : updT T m d i = T i := if_neg (by omega)
theorem updT_eq (T : Nat → Sl × List E × List Wr) (d : Sl × List E × List Wr) (m : Nat) : updT T m d m = d := if_pos rfl
theorem Nm.push {w wr : World} {u : Sl} {T : Nat → Sl × List E × List Wr} {m : Nat} (h : Nm w wr u T m) (hm : m ≤ 2000000) (s : Sl) (fs : List E) (rs : List Wr) (ho : OwnE w wr s fs) (hf : ∀ j, j < s.n → Fresh w wr (gE fs j) (gR rs j)) (hl : s.n ≤ 1048576 ∧ rs.length = s.n) (ty : TypeId) :
    ∃ u' w6, (Builtin.append_ #[22, 22] ty #[u.v, .slice (some ⟨wr.heap.size, 0, none⟩) 1 1]).run Tryz.prog (wr.alloc (.cells #[s.v] 35)) = .ok (Sl.v u') w6 ∧ Nm w w6 u' (updT T m (s, fs, rs)) (m + 1) := by
  obtain ⟨i0, hif, hz0, hz1, hz2⟩ := info_parts infoL
  have hun := h.un
  obtain ⟨u', w6, hrun, hnw, hsn, ap, k, hp, hc, hk⟩ := run_appM (s := u) 22 ty 35 i0 _ 1 24 Tryz.underlying22 hif hz0 hz1 hz2 rfl (by decide) h.nw 1 [s.v] (by decide) rfl (fun u hu => by simp at hu; rw [hu]; rfl) (by unfold maxLen; omega) (by omega)
  have e1 : (List.range m).map (fun i => (updT T m (s, fs, rs) i).1.v) = (List.range m).map fun i => (T i).1.v := List.map_congr_left (fun i hi => by rw [updT_lt T _ (List.mem_range.1 hi)])
  have htyp : ∀ k ∈ u.v.ownBlock.toList, ∃ cur, wr.heap[k]? = some (.cells cur 35 (0, 0)) := fun k hk => own_typ h.nw.own (by simpa using hk)
  have kO : ∀ {s : Sl} {fs : List E}, OwnE w wr s fs → OwnE w w6 s fs := fun o => ⟨o.nw.keepT ap hnw.ap (fun k hk cur hcur => by
    obtain ⟨c1, e1⟩ := htyp k hk
    rw [e1] at hcur
    simp at hcur), o.len⟩
  have kF : ∀ {e : E} {r : Wr}, Fresh w wr e r → Fresh w w6 e r := fun f => f.kept ap hnw.ap (fun k hk cur => by
    obtain ⟨c1, e1⟩ := htyp k hk
    rw [e1]
    simp)
  refine ⟨u', w6, hrun, ⟨by rw [List.range_succ, List.map_append, e1]; simp only [List.map_cons, List.map_nil, updT_eq]; exact hnw, by omega, fun i hi => ?_, fun i hi j hj => ?_, fun i hi => ?_⟩⟩
  · by_cases him : i = m
    · subst him; rw [updT_eq]; exact kO ho
    · rw [updT_lt T _ (by omega)]; exact kO (h.own i (by omega))
  · by_cases him : i = m
    · subst him; rw [updT_eq] at hj ⊢; exact kF (hf j hj)
    · rw [updT_lt T _ (by omega)] at hj ⊢; exact kF (h.fr i (by omega) j hj)
  · by_cases him : i = m
    · subst him; rw [updT_eq]; exact hl
    · rw [updT_lt T _ (by omega)]; exact h.ln i (by omega)
theorem Nm.ins {w wr : World} {u : Sl} {T : Nat → Sl × List E × List Wr} {m : Nat} (h : Nm w wr u T m) (i : Nat) (hi : i < m) : In wr (T i).1 (T i).2.1 (T i).2.2 := by
  obtain ⟨h1, h2⟩ := h.ln i hi
  exact ⟨(h.own i hi).LE (by omega), h1, h2, fun j hj => (h.fr i hi j hj).reads, (h.own i hi).nw.ok⟩
theorem Nm.sets {w wr : World} {u : Sl} {T : Nat → Sl × List E × List Wr} {m : Nat} (h : Nm w wr u T m) : Sets wr u.p m T := by
  intro h0
  obtain ⟨P, o, e, hP, hc⟩ := h.nw.rd (by rw [List.length_map, List.length_range]; exact h0)
  exact ⟨P, o, e, hP, fun i hi => ⟨hc i _ (by rw [List.getElem?_map, List.getElem?_range hi]; rfl), h.ins i hi⟩⟩
/-- Gather hangs on what is read alone -/
theorem catR_congr {F T : Nat → Sl × List E × List Wr} : ∀ n, (∀ i, i < n → (F i).2.2 = (T i).2.2) → catR F n = catR T n
  | 0, _ => rfl
  | n + 1, h => by
    show catR F n ++ _ = catR T n ++ _
    rw [catR_congr n (fun i hi => h i (by omega)), h n (by omega)]
theorem totL_congr {F T : Nat → Sl × List E × List Wr} : ∀ n, (∀ i, i < n → (F i).1.n = (T i).1.n) → totL F n = totL T n
  | 0, _ => rfl
  | n + 1, h => by
    show totL F n + _ = totL T n + _
    rw [totL_congr n (fun i hi => h i (by omega)), h n (by omega)]
/-- both Gathers, as the writes read -/
theorem gather_R (w : World) (T : Tab w) (p : Option Addr) (n cc : Nat) (F : Nat → Sl × List E × List Wr) (h : Sets w p n F) (hI : ∀ i, i < n → In w (F i).1 (F i).2.1 (F i).2.2) (hn : n ≤ 1048576) (hT : totL F n ≤ 1048576) :
    Calls Tryz.prog 13 #[.slice p n cc] w fun r w' => CpPost w w' r (gathW (catR F n)).length (gathW (catR F n)) := by
  obtain ⟨h1, h2, h3⟩ := catL_reads n hI
  have := gather_ok w T p n cc F h hn (by omega) (Rof w) h1
  rw [h2] at this
  exact this
theorem rgather_R (w : World) (p : Option Addr) (n cc : Nat) (F : Nat → Sl × List E × List Wr) (h : Sets w p n F) (hI : ∀ i, i < n → In w (F i).1 (F i).2.1 (F i).2.2) (hn : n ≤ 1048576) (hT : totL F n ≤ 1048576) :
    Calls Tryz.prog 15 #[.slice p n cc] w fun r w' => ∃ (s : Sl) (L3 : List E), r = .returned s.v ∧ OwnE w w' s L3 ∧ s.n = (gathW (catR F n)).length ∧ ∀ j, j < s.n → Reads w' (gE L3 j) (gR (gathW (catR F n)) j) := by
  obtain ⟨h1, h2, h3⟩ := catL_reads n hI
  have hg := rgather_ok w p n cc F h hn hT (fun i hi => (catL_reads i (fun k hk => hI k (by omega))).2.2) (Rof w) h1
  refine hg.mono ?_
  rintro r w' ⟨s, L3, rfl, ho, hm, hsub⟩
  rw [h2] at hm
  have hlen := ho.len
  refine ⟨s, L3, rfl, ho, by rw [← hm, List.length_map, hlen], fun j hj => ?_⟩
  rw [← hm, gR_map _ L3 j (by omega)]
  exact (h1.rd _ (hsub _ (gE_memE L3 j (by omega)))).kept0 ho.nw.ap
end Go.Proofs.YtokaeiahhmaokaaGreatDoor.ds
