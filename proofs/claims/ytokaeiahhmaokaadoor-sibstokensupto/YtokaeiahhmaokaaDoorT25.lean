import Derived.Test.YtokaeiahhmaokaaDoorT24
import Derived.Deep.CutRange
import Derived.Test.YtokaeiahhmaokaaDoorT16
import Derived.Test.YtokaeiahhmaokaaDoorT6
namespace Go.Proofs.YtokaeiahhmaokaaDoor.ds
open Go.ChangeShapes Go.WideShapes Go.ChangeAt Go.RowKit Go.Sort
set_option linter.unusedVariables false
set_option linter.unusedSimpArgs false
theorem infoP : (Tryd.prog.info? 81).map (fun i => (i.zero, i.size, i.bytes)) = some (some (.pointer none), 1, 8) := by kernel_rfl
/-- where one lent list lies -/
structure Ld where
  lo : Nat
  hi : Nat
  LB : Nat
  G : Nat
  c : Nat
  vv : Sl
  xx : Sl
  fs : List E
  vs : List Sl
  xs : List Sl
def Ld.pv (d : Ld) : Value := .pointer (some ⟨d.LB, 0, none⟩)
def Ld.sv (d : Ld) (n : Nat) : Value := .slice (some ⟨d.G, 0, none⟩) n d.c
abbrev Ld.Lt (d : Ld) (w : World) (rs : List Wr) (N : Nat) : Prop := ds.Lt d.lo d.hi w d.LB d.G d.c d.vv d.xx d.fs d.vs d.xs rs N
theorem Apart.frK {k : Nat} {w w' : World} (a : Apart [k] w w') : Fr k (k + 1) w w' := ⟨a.os, a.tape, a.output, a.size, fun j hj ho => a.block j hj (by simp; omega)⟩
theorem Ld.Lt.one {d : Ld} {w w' : World} {rs : List Wr} {N : Nat} (h : d.Lt w rs N) {o : Option Nat} (a : Apart o.toList w w') (ho : ∀ k, o = some k → k < d.lo ∨ d.hi ≤ k) : d.Lt w' rs N := by
  cases o with
  | none => exact ds.Lt.kept0 h a
  | some k => exact ds.Lt.fr h (Apart.frK a) (by have := ho k rfl; omega)
/-- several lent lists at once: ml of them, the law's own list of them, and the list that is handed in -/
structure Lm (w wr : World) (a t : Sl) (D : Nat → Ld) (F : Nat → Sl × List E × List Wr) (ml ma mt : Nat) : Prop where
  nwa : Nw w wr 81 1 a ((List.range ma).map fun i => (D i).pv)
  nwt : Nw w wr 39 1 t ((List.range mt).map fun i => (D i).sv (F i).1.n)
  an : a.n = ma
  tn : t.n = mt
  lt : ∀ i, i < ml → (D i).Lt wr (F i).2.2 (F i).1.n
  lo : ∀ i, i < ml → w.heap.size ≤ (D i).lo
  ord : ∀ i j, i < j → j < ml → (D i).hi ≤ (D j).lo
  ca : ∀ k, a.v.ownBlock = some k → ∀ i, i < ml → k < (D i).lo ∨ (D i).hi ≤ k
  ct : ∀ k, t.v.ownBlock = some k → ∀ i, i < ml → k < (D i).lo ∨ (D i).hi ≤ k
theorem Lm.nil (w : World) (D : Nat → Ld) (F : Nat → Sl × List E × List Wr) : Lm w w ⟨none, 0, 0⟩ ⟨none, 0, 0⟩ D F 0 0 0 :=
  ⟨⟨World.ownsRow_nil _ _ _ _, by simp [Sl.v, Value.ownBlock], Apart.refl _ _⟩, ⟨World.ownsRow_nil _ _ _ _, by simp [Sl.v, Value.ownBlock], Apart.refl _ _⟩, rfl, rfl, fun _ h => absurd h (by omega), fun _ h => absurd h (by omega), fun _ _ _ h => absurd h (by omega), fun _ _ _ h => absurd h (by omega), fun _ _ _ h => absurd h (by omega)⟩
theorem Lm.kept0 {w wr wx : World} {a t : Sl} {D : Nat → Ld} {F : Nat → Sl × List E × List Wr} {ml ma mt : Nat} (h : Lm w wr a t D F ml ma mt) (ap : Apart [] wr wx) : Lm w wx a t D F ml ma mt :=
  { h with nwa := h.nwa.kept ap, nwt := h.nwt.kept ap, lt := fun i hi => ds.Lt.kept0 (h.lt i hi) ap }
def updL (D : Nat → Ld) (m : Nat) (d : Ld) (i : Nat) : Ld := if i = m then d else D i
theorem updL_lt (D : Nat → Ld) (d : Ld) {i m : Nat} (h : i < m) : updL D m d i = D i := if_neg (by omega)
theorem updL_eq (D : Nat → Ld) (d : Ld) (m : Nat) : updL D m d m = d := if_pos rfl
/-- one more is lent -/
theorem Lm.lend {w wr wx : World} {a t : Sl} {D : Nat → Ld} {F : Nat → Sl × List E × List Wr} {m : Nat} (h : Lm w wr a t D F m m m) (ap : Apart [] wr wx) (d : Ld) (hd : d.Lt wx (F m).2.2 (F m).1.n) (hlo : d.lo = wr.heap.size) : Lm w wx a t (updL D m d) F (m + 1) m m := by
  have hk := h.kept0 ap
  have e : ∀ i, i < m → updL D m d i = D i := fun i hi => updL_lt D d hi
  have e1 : (List.range m).map (fun i => (updL D m d i).pv) = (List.range m).map fun i => (D i).pv := List.map_congr_left (fun i hi => by rw [e i (List.mem_range.1 hi)])
  have e2 : (List.range m).map (fun i => (updL D m d i).sv (F i).1.n) = (List.range m).map fun i => (D i).sv (F i).1.n := List.map_congr_left (fun i hi => by rw [e i (List.mem_range.1 hi)])
  have hsz : w.heap.size ≤ wr.heap.size := h.nwa.ap.size
  have hhi : ∀ i, i < m → (D i).hi ≤ wr.heap.size := fun i hi => (h.lt i hi).sz
  have oa : ∀ k, a.v.ownBlock = some k → k < wr.heap.size := fun k hk => (h.nwa.own.lt k hk).2
  have ot : ∀ k, t.v.ownBlock = some k → k < wr.heap.size := fun k hk => (h.nwt.own.lt k hk).2
  refine ⟨by rw [e1]; exact hk.nwa, by rw [e2]; exact hk.nwt, h.an, h.tn, fun i hi => ?_, fun i hi => ?_, fun i j hij hj => ?_, fun k hkk i hi => ?_, fun k hkk i hi => ?_⟩
  · by_cases him : i = m
    · subst him; rw [updL_eq]; exact hd
    · rw [e i (by omega)]; exact hk.lt i (by omega)
  · by_cases him : i = m
    · subst him; rw [updL_eq, hlo]; exact hsz
    · rw [e i (by omega)]; exact h.lo i (by omega)
  · rw [e i (by omega)]
    by_cases him : j = m
    · subst him; rw [updL_eq, hlo]; exact hhi i (by omega)
    · rw [e j (by omega)]; exact h.ord i j hij (by omega)
  · by_cases him : i = m
    · subst him; rw [updL_eq, hlo]; exact .inl (oa k hkk)
    · rw [e i (by omega)]; exact h.ca k hkk i (by omega)
  · by_cases him : i = m
    · subst him; rw [updL_eq, hlo]; exact .inl (ot k hkk)
    · rw [e i (by omega)]; exact h.ct k hkk i (by omega)
theorem sl_blk {s : Sl} {k : Nat} (h : s.p = some ⟨k, 0, none⟩) : s.v.ownBlock = some k := by
  obtain ⟨p, n, c⟩ := s
  simp only at h
  subst h
  rfl
theorem und85 : Tryd.prog.underlying 85 = some (.slice 81) := by kernel_rfl
theorem Lm.pushA {w wr : World} {a t : Sl} {D : Nat → Ld} {F : Nat → Sl × List E × List Wr} {m : Nat} (h : Lm w wr a t D F (m + 1) m m) (hm : m ≤ 2000000) (ty : TypeId) :
    ∃ a' w6, (Builtin.append_ #[85, 85] ty #[a.v, .slice (some ⟨wr.heap.size, 0, none⟩) 1 1]).run Tryd.prog (wr.alloc (.cells #[(D m).pv] 81)) = .ok (Sl.v a') w6 ∧ Lm w w6 a' t D F (m + 1) (m + 1) m := by
  obtain ⟨i0, hif, hz0, hz1, hz2⟩ := info_parts infoP
  have han := h.an
  obtain ⟨a', w6, hrun, hnw, hsn, ap, k, hp, hc, hk⟩ := run_appM (s := a) 85 ty 81 i0 _ 1 8 und85 hif hz0 hz1 hz2 rfl (by decide) h.nwa 1 [(D m).pv] (by decide) rfl (fun u hu => by simp at hu; rw [hu]; rfl) (by unfold maxLen; omega) (by omega)
  refine ⟨a', w6, hrun, ⟨by rw [List.range_succ, List.map_append]; exact hnw, ⟨own_apart h.nwt.own ap (fun k hk hm => ?_), h.nwt.new, hnw.ap⟩, by omega, h.tn, fun i hi => (h.lt i hi).one ap (fun k hk => h.ca k hk i hi), h.lo, h.ord, fun k2 hk2 i hi => ?_, h.ct⟩⟩
  · simp at hm
    obtain ⟨c1, e1⟩ := own_typ h.nwt.own hk
    obtain ⟨c2, e2⟩ := own_typ h.nwa.own hm
    rw [e1] at e2
    simp at e2
  · rw [sl_blk hp] at hk2
    simp at hk2
    subst hk2
    rcases hk with hk | hk
    · exact h.ca k hk i hi
    · exact .inr (Nat.le_trans (h.lt i hi).sz hk)
theorem Lm.pushT {w wr : World} {a t : Sl} {D : Nat → Ld} {F : Nat → Sl × List E × List Wr} {m : Nat} (h : Lm w wr a t D F (m + 1) (m + 1) m) (hm : m ≤ 2000000) (ty : TypeId) :
    ∃ t' w6, (Builtin.append_ #[22, 22] ty #[t.v, .slice (some ⟨wr.heap.size, 0, none⟩) 1 1]).run Tryd.prog (wr.alloc (.cells #[(D m).sv (F m).1.n] 39)) = .ok (Sl.v t') w6 ∧ Lm w w6 a t' D F (m + 1) (m + 1) (m + 1) := by
  obtain ⟨i0, hif, hz0, hz1, hz2⟩ := info_parts infoL
  have htn := h.tn
  obtain ⟨t', w6, hrun, hnw, hsn, ap, k, hp, hc, hk⟩ := run_appM (s := t) 22 ty 39 i0 _ 1 24 Tryd.underlying22 hif hz0 hz1 hz2 rfl (by decide) h.nwt 1 [(D m).sv (F m).1.n] (by decide) rfl (fun u hu => by simp at hu; rw [hu]; rfl) (by unfold maxLen; omega) (by omega)
  refine ⟨t', w6, hrun, ⟨⟨own_apart h.nwa.own ap (fun k hk hm => ?_), h.nwa.new, hnw.ap⟩, by rw [List.range_succ, List.map_append]; exact hnw, h.an, by omega, fun i hi => (h.lt i hi).one ap (fun k hk => h.ct k hk i hi), h.lo, h.ord, h.ca, fun k2 hk2 i hi => ?_⟩⟩
  · simp at hm
    obtain ⟨c1, e1⟩ := own_typ h.nwa.own hk
    obtain ⟨c2, e2⟩ := own_typ h.nwt.own hm
    rw [e1] at e2
    simp at e2
  · rw [sl_blk hp] at hk2
    simp at hk2
    subst hk2
    rcases hk with hk | hk
    · exact h.ct k hk i hi
    · exact .inr (Nat.le_trans (h.lt i hi).sz hk)
end Go.Proofs.YtokaeiahhmaokaaDoor.ds
namespace Go.Proofs.YtokaeiahhmaokaaDoor.ds
open Go.ChangeShapes Go.WideShapes Go.ChangeAt Go.RowKit Go.Sort
set_option linter.unusedVariables false
set_option linter.unusedSimpArgs false
open Classical in
/-- what a write in memory reads as -/
noncomputable def Rof (w : World) (e : E) : Wr := if h : ∃ r, Reads w e r then h.choose else markW
theorem Rof_eq {w : World} {e : E} {r : Wr} (h : Reads w e r) : Rof w e = r := by
  have hx : ∃ r, Reads w e r := ⟨r, h⟩
  unfold Rof
  rw [dif_pos hx]
  exact Reads.det hx.choose_spec h
def catR (F : Nat → Sl × List E × List Wr) : Nat → List Wr
  | 0 => []
  | i + 1 => catR F i ++ (F i).2.2
theorem gR_eq (rs : List Wr) (k : Nat) (h : k < rs.length) : gR rs k = rs[k] := by simp [gR, List.getD_eq_getElem?_getD, h]
theorem In.reads {w : World} {s : Sl} {es : List E} {rs : List Wr} (h : In w s es rs) : (∀ e ∈ es, Reads w e (Rof w e)) ∧ es.map (Rof w) = rs := by
  have h1 := h.le.len
  have h2 := h.len
  refine ⟨fun e he => ?_, ?_⟩
  · obtain ⟨j, hj, rfl⟩ := List.getElem_of_mem he
    have := h.rd j (by omega)
    rw [gE_eq es j hj] at this
    rw [Rof_eq this]
    exact this
  · apply List.ext_getElem
    · rw [List.length_map]; omega
    · intro j hj1 hj2
      rw [List.length_map] at hj1
      have := h.rd j (by omega)
      rw [gE_eq es j hj1, gR_eq rs j hj2] at this
      rw [List.getElem_map, Rof_eq this]
theorem catL_reads {w : World} {F : Nat → Sl × List E × List Wr} : ∀ n, (∀ i, i < n → In w (F i).1 (F i).2.1 (F i).2.2) → Rdg w (Rof w) (catL F n) ∧ (catL F n).map (Rof w) = catR F n ∧ (catL F n).length = totL F n
  | 0, _ => ⟨⟨fun e he => by simp [catL] at he⟩, rfl, rfl⟩
  | n + 1, h => by
    obtain ⟨h1, h2, h3⟩ := catL_reads n (fun i hi => h i (by omega))
    obtain ⟨k1, k2⟩ := (h n (by omega)).reads
    refine ⟨⟨fun e he => ?_⟩, ?_, ?_⟩
    · rcases List.mem_append.1 (show e ∈ catL F n ++ (F n).2.1 from he) with he | he
      · exact h1.rd e he
      · exact k1 e he
    · show (catL F n ++ (F n).2.1).map _ = catR F n ++ (F n).2.2
      rw [List.map_append, h2, k2]
    · show (catL F n ++ (F n).2.1).length = totL F n + (F n).1.n
      rw [List.length_append, h3, (h n (by omega)).le.len]
/-- the lists that are handed in -/
def lentF (D : Nat → Ld) (F : Nat → Sl × List E × List Wr) (i : Nat) : Sl × List E × List Wr := (⟨some ⟨(D i).G, 0, none⟩, (F i).1.n, (D i).c⟩, (D i).fs, (F i).2.2)
theorem lentF_tot (D : Nat → Ld) (F : Nat → Sl × List E × List Wr) : ∀ n, totL (lentF D F) n = totL F n ∧ catR (lentF D F) n = catR F n
  | 0 => ⟨rfl, rfl⟩
  | n + 1 => by
    obtain ⟨h1, h2⟩ := lentF_tot D F n
    exact ⟨by show totL (lentF D F) n + (F n).1.n = totL F n + _; rw [h1], by show catR (lentF D F) n ++ (F n).2.2 = _; rw [h2]; rfl⟩
theorem Lm.ins {w wr : World} {a t : Sl} {D : Nat → Ld} {F : Nat → Sl × List E × List Wr} {n ma mt : Nat} (h : Lm w wr a t D F n ma mt) (hF : ∀ i, i < n → (F i).1.n ≤ 1048576 ∧ (F i).2.2.length = (F i).1.n) (i : Nat) (hi : i < n) : In wr (lentF D F i).1 (lentF D F i).2.1 (lentF D F i).2.2 := by
  obtain ⟨h1, h2⟩ := hF i hi
  have hl := h.lt i hi
  exact ⟨ds.Lt.LE hl (show (F i).1.n ≤ 2000000 by omega), h1, h2, fun j hj => (ds.Lt.one hl j hj).reads, fun e => by simp [lentF] at e⟩
theorem Lm.sets {w wr : World} {a t : Sl} {D : Nat → Ld} {F : Nat → Sl × List E × List Wr} {n ma : Nat} (h : Lm w wr a t D F n ma n) (hF : ∀ i, i < n → (F i).1.n ≤ 1048576 ∧ (F i).2.2.length = (F i).1.n) : Sets wr t.p n (lentF D F) := by
  intro h0
  obtain ⟨P, o, e, hP, hc⟩ := h.nwt.rd (by rw [List.length_map, List.length_range]; exact h0)
  refine ⟨P, o, e, hP, fun i hi => ⟨?_, h.ins hF i hi⟩⟩
  have := hc i ((D i).sv (F i).1.n) (by rw [List.getElem?_map, List.getElem?_range hi]; rfl)
  simpa [lentF, Ld.sv, Sl.v] using this
end Go.Proofs.YtokaeiahhmaokaaDoor.ds
namespace Go.Proofs.YtokaeiahhmaokaaDoor.ds
open Go.ChangeShapes Go.WideShapes Go.ChangeAt Go.RowKit Go.Sort
set_option linter.unusedVariables false
set_option linter.unusedSimpArgs false
theorem Apart.over {w wr wx : World} {lo hi : Nat} (a : Apart [] w wr) (f : Fr lo hi wr wx) (h : w.heap.size ≤ lo) : Apart [] w wx :=
  ⟨f.os.trans a.os, f.tape.trans a.tape, f.output.trans a.output, Nat.le_trans a.size f.size, fun k hk hx => (f.block k (Nat.lt_of_lt_of_le hk a.size) (.inl (by omega))).trans (a.block k hk hx)⟩
/-- the first i of the lent lists were looked through: their writes are marks -/
structure Bm (w wr : World) (a t : Sl) (D : Nat → Ld) (F : Nat → Sl × List E × List Wr) (n i : Nat) : Prop where
  nwa : Nw w wr 81 1 a ((List.range n).map fun i => (D i).pv)
  nwt : Nw w wr 39 1 t ((List.range n).map fun i => (D i).sv (F i).1.n)
  an : a.n = n
  tn : t.n = n
  lt : ∀ k, i ≤ k → k < n → (D k).Lt wr (F k).2.2 (F k).1.n
  mks : ∀ k, k < i → wr.ownsRow 0 28 6 (.slice (some ⟨(D k).G, 0, none⟩) ((F k).1.n + 2) (D k).c) ((F k).1.n + 2) (flatE (List.replicate ((F k).1.n + 2) markE))
  rg : ∀ k, k < n → (D k).lo ≤ (D k).G ∧ (D k).G < (D k).hi
  lo : ∀ i, i < n → w.heap.size ≤ (D i).lo
  ord : ∀ i j, i < j → j < n → (D i).hi ≤ (D j).lo
  ca : ∀ k, a.v.ownBlock = some k → ∀ i, i < n → k < (D i).lo ∨ (D i).hi ≤ k
  ct : ∀ k, t.v.ownBlock = some k → ∀ i, i < n → k < (D i).lo ∨ (D i).hi ≤ k
theorem Lm.back {w wr : World} {a t : Sl} {D : Nat → Ld} {F : Nat → Sl × List E × List Wr} {n : Nat} (h : Lm w wr a t D F n n n) : Bm w wr a t D F n 0 :=
  ⟨h.nwa, h.nwt, h.an, h.tn, fun k _ hk => h.lt k hk, fun k hk => absurd hk (by omega), fun k hk => (h.lt k hk).rG, h.lo, h.ord, h.ca, h.ct⟩
theorem Bm.kept0 {w wr wx : World} {a t : Sl} {D : Nat → Ld} {F : Nat → Sl × List E × List Wr} {n i : Nat} (h : Bm w wr a t D F n i) (ap : Apart [] wr wx) : Bm w wx a t D F n i :=
  { h with nwa := h.nwa.kept ap, nwt := h.nwt.kept ap, lt := fun k hk hn => ds.Lt.kept0 (h.lt k hk hn) ap, mks := fun k hk => own_apart (h.mks k hk) ap (by simp) }
theorem Bm.step {w wr wx : World} {a t : Sl} {D : Nat → Ld} {F : Nat → Sl × List E × List Wr} {n i : Nat} (h : Bm w wr a t D F n i) (hi : i < n) (f : Fr (D i).lo (D i).hi wr wx) (hm : wx.ownsRow 0 28 6 (.slice (some ⟨(D i).G, 0, none⟩) ((F i).1.n + 2) (D i).c) ((F i).1.n + 2) (flatE (List.replicate ((F i).1.n + 2) markE))) : Bm w wx a t D F n (i + 1) := by
  have ap : Apart [] w wx := h.nwa.ap.over f (h.lo i hi)
  refine { h with nwa := ⟨own_fr h.nwa.own f (fun k hk => h.ca k hk i hi), h.nwa.new, ap⟩, nwt := ⟨own_fr h.nwt.own f (fun k hk => h.ct k hk i hi), h.nwt.new, ap⟩, lt := fun k hk hn => ds.Lt.fr (h.lt k (by omega) hn) f (.inr (h.ord i k (by omega) hn)), mks := fun k hk => ?_ }
  by_cases hki : k = i
  · rw [hki]; exact hm
  · refine own_fr (h.mks k (by omega)) f (fun g hg => ?_)
    simp [Value.ownBlock] at hg
    have h1 := h.rg k (by omega)
    have h2 := h.ord k i (by omega) hi
    omega
end Go.Proofs.YtokaeiahhmaokaaDoor.ds
namespace Go.Proofs.YtokaeiahhmaokaaDoor.ds
open Go.ChangeShapes Go.WideShapes Go.ChangeAt Go.RowKit Go.Sort
set_option linter.unusedVariables false
set_option linter.unusedSimpArgs false
theorem insWb_len (u : Wr) : ∀ l, (insWb u l).length = l.length + 1
  | [] => rfl
  | x :: l => by
    unfold insWb
    split
    · simp
    · simp [insWb_len u l]
theorem eachW_lenA : ∀ (ls out : List Wr), (ls.foldl (fun out w => if out.any (fun o => deqW o w) = true then out else insWb w out) out).length ≤ out.length + ls.length
  | [], out => by simp
  | x :: ls, out => by
    rw [List.foldl_cons]
    refine Nat.le_trans (eachW_lenA ls _) ?_
    split
    · simp only [List.length_cons]; omega
    · rw [insWb_len]; simp only [List.length_cons]; omega
theorem Sets.ins {w : World} {p : Option Addr} {n : Nat} {F : Nat → Sl × List E × List Wr} (h : Sets w p n F) (i : Nat) (hi : i < n) : In w (F i).1 (F i).2.1 (F i).2.2 := by
  obtain ⟨P, o, e, hP, hc⟩ := h (by omega)
  exact (hc i hi).2
end Go.Proofs.YtokaeiahhmaokaaDoor.ds
namespace Go.Proofs.YtokaeiahhmaokaaDoor.ds
open Go.ChangeShapes Go.WideShapes Go.ChangeAt Go.RowKit Go.Deep Go.Sort
set_option linter.unusedVariables false
set_option linter.unusedSimpArgs false
theorem all_snoc {H : Type} (d : DataW H) : ∀ l : List (DataW H), Rows.uptoBulkAll (l ++ [d]) = Rows.uptoBulkAll l + Rows.uptoBulk d
  | [] => by simp only [List.nil_append, all_cons, all_nil]; omega
  | x :: l => by
    rw [List.cons_append, all_cons, all_cons, all_snoc d l]; omega
theorem tot_bulk {H : Type} (f : Nat → Sl × List E × List Wr) (D : Nat → DataW H) : ∀ n, (∀ i, i < n → (f i).1.n ≤ Rows.uptoBulk (D i)) → totL f n ≤ Rows.uptoBulkAll ((List.range n).map D)
  | 0, _ => Nat.zero_le _
  | n + 1, h => by
    have h1 := tot_bulk f D n (fun i hi => h i (by omega))
    have h2 := h n (by omega)
    rw [List.range_succ, List.map_append, List.map_cons, List.map_nil, all_snoc]
    show totL f n + _ ≤ _
    omega
theorem list_len {H : Type} {enc : TypeId × Value → H} {W : World} {fuel : Nat} {s : Sl} {x : DataW H × List MemPlace} (h : DataW.trod enc Tryd.prog W 0 (fun _ => true) true fuel 39 [s.v] = some x) : s.n ≤ Rows.uptoBulk x.1 := by
  rcases open_slice Tryd.underlying39 h with ⟨hcs, _⟩ | ⟨a, len, cap, m, n, D, Pl, hcs, _, hl, hm, hmeq, hx, hall⟩
  · simp [Sl.v] at hcs
    omega
  · simp only [if_true] at hmeq
    subst hmeq
    simp [Sl.v] at hcs
    rw [hx]
    have h1 := slice_many ((List.range len).map D) ((List.range (m - len)).map fun j => D (len + j))
    have h2 := many ((List.range len).map D)
    simp only [List.length_map, List.length_range] at h2
    rw [hcs.2.1]
    exact Nat.le_trans h2 h1
set_option maxRecDepth 100000 in
theorem open_sets2 {H : Type} {enc : TypeId × Value → H} {W : World} {fuel : Nat} {v : Value} {x : DataW H × List MemPlace} (h : DataW.trod enc Tryd.prog W 0 (fun _ => true) true fuel 22 [v] = some x) (hb : Rows.uptoBulk x.1 ≤ 1048576) :
    ∃ p n c F, v = .slice p n c ∧ Sets W p n F ∧ n ≤ 1048576 ∧ totL F n ≤ 1048576 := by
  rcases open_slice Tryd.underlying22 h with ⟨hcs, _⟩ | ⟨a, len, cap, m, n, D, Pl, hcs, _, hl, hm, hmeq, hx, hall⟩
  · simp at hcs
    exact ⟨none, 0, 0, fun _ => (⟨none, 0, 0⟩, [], []), hcs, fun h => absurd h (by omega), by decide, by simp [totL]⟩
  · simp only [if_true] at hmeq
    subst hmeq
    simp at hcs
    rw [hx] at hb
    have hball := Nat.le_trans (slice_many ((List.range len).map D) ((List.range (m - len)).map fun j => D (len + j))) hb
    have hlim : len ≤ 1048576 := by
      have h2 := many ((List.range len).map D)
      simp only [List.length_map, List.length_range] at h2
      omega
    by_cases h0 : 0 < len
    · obtain ⟨P, o, spot⟩ := a
      have hspot : spot = none := by
        obtain ⟨cs', h1, h2⟩ := hall 0 (by omega)
        rw [cells34] at h1
        obtain ⟨_, hlen, hcell⟩ := World.cells?_some h1
        have hc := hcell 0 (by omega)
        rw [List.getElem?_eq_getElem (by omega)] at hc
        have := World.cell?_spot hc
        simpa [Addr.add] using this
      subst hspot
      have each : ∀ i, i < len → ∃ d : Sl × List E × List Wr, (W.cell? ⟨P, o + i, none⟩ = some d.1.v ∧ In W d.1 d.2.1 d.2.2) ∧ d.1.n ≤ Rows.uptoBulk (D i) := by
        intro i hi
        obtain ⟨cs', h1, h2⟩ := hall i (by omega)
        have hDi : Rows.uptoBulk (D i) ≤ 1048576 := Nat.le_trans (all_mem (List.mem_map.2 ⟨i, List.mem_range.2 hi, rfl⟩)) hball
        rw [cells34, Addr.add_lit, Nat.mul_one] at h1
        obtain ⟨_, hlen, hcell⟩ := World.cells?_some h1
        match cs', hlen with
        | [v0], _ =>
          obtain ⟨s, es, rs, rfl, hin⟩ := open_list h2 hDi
          have := hcell 0 (by omega)
          rw [Addr.add_lit] at this
          exact ⟨(s, es, rs), ⟨by simpa using this, hin⟩, list_len h2⟩
      obtain ⟨f, hf⟩ := @choose_lt (Sl × List E × List Wr) ⟨(⟨none, 0, 0⟩, [], [])⟩ _ _ each
      exact ⟨some ⟨P, o, none⟩, len, m, f, hcs, fun _ => ⟨P, o, rfl, block_lt_of_cell (hf 0 h0).1.1, fun i hi => (hf i hi).1⟩, hlim, Nat.le_trans (tot_bulk f D len (fun i hi => (hf i hi).2)) hball⟩
    · obtain rfl : len = 0 := by omega
      exact ⟨some a, 0, m, fun _ => (⟨none, 0, 0⟩, [], []), hcs, fun h => absurd h (by omega), by omega, by simp [totL]⟩
end Go.Proofs.YtokaeiahhmaokaaDoor.ds
namespace Go.Proofs.YtokaeiahhmaokaaDoor.ds
open Go.ChangeShapes Go.WideShapes Go.ChangeAt Go.RowKit
set_option linter.unusedVariables false
set_option linter.unusedSimpArgs false
set_option maxHeartbeats 2000000 in
set_option maxRecDepth 100000 in
theorem rbase_ok {p : Option Addr} {N cap : Nat} {xs : List S} {w : World} (node : Int) (h : L w p N xs) : Calls Tryd.prog 125 #[.slice p N cap, .int .i64 node] w fun r w' => r = .returned (.int .i64 (ofn xs node).b) ∧ w' = w := by
  have hlim := h.lim
  go_enter Tryd.func125, Tryd.ntmps125
  go_wp2_with fail
  go_loopw [5] (fun v wr => ∃ i : Nat, i ≤ N ∧ v = .int .i64 i ∧ wr = w ∧ (∀ j, j < i → (g xs j).n ≠ node)) (fun v _ => N - (intOf v).toNat)
  case atStart => exact ⟨0, Nat.zero_le _, rfl, rfl, fun j hj => absurd hj (by omega)⟩
  case round =>
    obtain ⟨i, hi, rfl, rfl, hno⟩ := hrel
    by_cases hlt : i < N
    · have HI : Hid (i < xs.length) := by show i < xs.length; rw [h.len]; omega
      obtain ⟨P, o, rfl, hP, hc⟩ := h.sp (by rw [h.len]; omega)
      obtain ⟨c0, c1, c2⟩ := hc i HI.out
      by_cases he : (g xs i).n = node
      · have HE : Hid (ofn xs node = g xs i) := by
          show ofn xs node = g xs i
          rw [ofn_take (i := i) (by have := HI.out; omega) hno, drop_g HI.out, ofn, if_pos he]
        have he' : ((g xs i).n == node) = true := by simp [he]
        go_wp2
        go_ret
        exact ⟨by rw [HE.out]; rfl, rfl⟩
      · have HE : Hid ((g xs i).n ≠ node) := he
        have he' : ((g xs i).n == node) = false := by simp; exact he
        go_wp2
        go_roundw
        case rel => exact ⟨i + 1, by omega, rfl, by trivial, fun j hj => by
          by_cases hji : j = i
          · subst hji; exact HE.out
          · exact hno j (by omega)⟩
        case measure => simp [intOf]; omega
    · have HE : Hid (ofn xs node = none0 node) := by
        show ofn xs node = none0 node
        refine ofn_out _ _ fun x hx => ?_
        obtain ⟨j, hj, rfl⟩ := List.getElem_of_mem hx
        have := hno j (by have := h.len; omega)
        unfold g at this
        rw [List.getD_eq_getElem?_getD, List.getElem?_eq_getElem hj] at this
        exact this
      go_wp2
      go_ret
      exact ⟨by rw [HE.out]; rfl, rfl⟩
theorem Own.keptX {w w' w2 : World} {p : Option Addr} {n cap : Nat} {xs : List S} {X : List Nat} (h : Own w w' p n cap xs) (a : Apart X w' w2) (h1 : ∀ k, (Value.slice p n cap).ownBlock = some k → k ∉ X) (h2 : ∀ x ∈ X, w.heap.size ≤ x) : Own w w2 p n cap xs := ⟨h.len, own_apart h.own a h1, h.new, h.ap.trans' a (fun y hy => .inr (h2 y hy))⟩
theorem Own.lt {w w' : World} {p : Option Addr} {n cap : Nat} {xs : List S} (h : Own w w' p n cap xs) : ∀ k, (Value.slice p n cap).ownBlock = some k → k < w'.heap.size := fun k hk => (h.own.lt k hk).2
/-- the number in a cell -/
def cellInt (w : World) (b i : Nat) : Int := match w.cell? ⟨b, i, none⟩ with | some (.int _ v) => v | _ => 0
theorem cellInt_of {w : World} {b i : Nat} {k : IntKind} {v : Int} (h : w.cell? ⟨b, i, none⟩ = some (.int k v)) : cellInt w b i = v := by unfold cellInt; rw [h]
theorem mod_next (t i : Nat) : t % 2 ^ (i + 1) = t % 2 ^ i + (if t.testBit i then 2 ^ i else 0) := by
  rw [Nat.pow_succ, Nat.mod_mul, Nat.testBit_eq_decide_div_mod_eq]
  by_cases h : t / 2 ^ i % 2 = 1
  · rw [h]; simp
  · have h0 : t / 2 ^ i % 2 = 0 := by omega
    rw [h0]; simp
theorem shl_add (t i : Nat) (hi : i < 64) (ht : t < 2 ^ 64) : IntKind.u64.wrap (((t % 2 ^ i : Nat) : Int) + IntKind.u64.wrap (2 ^ i)) = ((t % 2 ^ i + 2 ^ i : Nat) : Int) := by
  have hp : 2 ^ i < 2 ^ 64 := Nat.pow_lt_pow_right (by omega) hi
  have h1 : t % 2 ^ i < 2 ^ i := Nat.mod_lt _ (Nat.two_pow_pos i)
  have h2 : 2 ^ i ≤ 2 ^ 63 := Nat.pow_le_pow_right (by omega) (by omega)
  have e3 : ((2 : Int) ^ i) = ((2 ^ i : Nat) : Int) := by simp
  rw [e3]
  generalize 2 ^ i = q at *
  have e2 : IntKind.u64.wrap (q : Int) = (q : Int) := by rw [IntKind.wrap_u64]; omega
  rw [e2, IntKind.wrap_u64]
  omega
end Go.Proofs.YtokaeiahhmaokaaDoor.ds

