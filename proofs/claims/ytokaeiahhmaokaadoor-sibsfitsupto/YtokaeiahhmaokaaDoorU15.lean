import Derived.Test.YtokaeiahhmaokaaDoorU12
import Derived.Test.YtokaeiahhmaokaaDoorU13
import Derived.Test.YtokaeiahhmaokaaDoorU14
import Derived.Deep.OwnRows
import Derived.Deep.CutRange
import Derived.Test.YtokaeiahhmaokaaDoorRows
import Derived.Test.YtokaeiahhmaokaaDoorCards
import Derived.Test.YtokaeiahhmaokaaDoorTie
import Derived.Lib.LaidTab
import Derived.JoinedCond
import Derived.ShutString
import Derived.ChangeOld
import Derived.Below
import Derived.Carry
import Derived.ChangeSlices
import Derived.Deep.Slices
import Derived.Deep.DeepHandedRow
import Derived.RowKit
import Derived.ChangeShapes
import Derived.SizedLaws
import Derived.ChangeMaps5
namespace Go.Proofs.YtokaeiahhmaokaaDoor.ds
open Go.ChangeShapes Go.WideShapes Go.ChangeAt Go.RowKit Go.Sort
set_option linter.unusedVariables false
set_option linter.unusedSimpArgs false
theorem Fresh.later {w w' w2 : World} {e : E} {r : Wr} {lo hi : Nat} (h : Fresh w w' e r) (a : Fr lo hi w' w2) (hh : hi ≤ w.heap.size) : Reads w2 e r :=
  ⟨h.n, h.c, h.k, h.d, Rd.own (own_fr h.v.own a (fun k hk => .inr (Nat.le_trans hh (h.v.new k hk)))), h.vn, h.vl, h.vb,
   ⟨Sp.own (cap := e.x.c) (n := e.x.n) (own_fr h.x.own a (fun k hk => .inr (Nat.le_trans hh (h.x.new k hk)))) h.xn.symm, h.xn, by have := h.xl; omega, h.xf⟩, h.xl, h.v.ok, h.x.ok⟩
/-- what Merge answered, later on -/
theorem MgPost.later {w w' : World} {r : Ending} {R : E → Wr} {e : Int} {l : List E} (h : MgPost w w' r R e l) (hl : l.length ≤ 1500000) :
    ∃ (s : Sl) (fs : List E), r = .returned (.tuple #[s.v, .int .i64 e]) ∧ s.n = l.length ∧ Apart [] w w' ∧ ∀ (lo hi : Nat) (w2 : World), Fr lo hi w' w2 → hi ≤ w.heap.size → LE w2 s.p l.length fs ∧ ∀ j, j < l.length → Reads w2 (gE fs j) (gR (l.map R) j) := by
  obtain ⟨s, fs, hr, hn, hf, nw, fr⟩ := h.ex
  refine ⟨s, fs, hr, hn, nw.ap, fun lo hi w2 a hh => ⟨⟨Rd.own (own_fr nw.own a (fun k hk => .inr (Nat.le_trans hh (nw.new k hk)))), hf, by omega⟩, fun j hj => ?_⟩⟩
  rw [gR_map R l j hj]
  exact (fr j hj).later a hh
theorem mlist_len (X : E → List S) (es : List E) (u : E) (lim : Int) : (mlist X es u lim).length ≤ es.length + 1 := by
  unfold mlist
  split
  · simp
  · split
    · omega
    · split
      · simp
      · exact mergeE_len X es u
theorem map_R {R : E → Wr} {es : List E} {rs : List Wr} (hl : es.length = rs.length) (h : ∀ j, j < es.length → R (gE es j) = gR rs j) : es.map R = rs := by
  apply List.ext_getElem (by simp [hl])
  intro j h1 h2
  have := h j (by simpa using h1)
  rw [gE_eq _ _ (by simpa using h1)] at this
  simp only [List.getElem_map]
  rw [this]
  unfold gR
  simp [List.getD_eq_getElem?_getD, h2]
theorem mem_reads {w : World} {es : List E} {rs : List Wr} {N : Nat} (hl : es.length = N) (h : ∀ j, j < N → Reads w (gE es j) (gR rs j)) : ∀ t ∈ es, Reads w t (RW w t) := by
  intro t ht
  obtain ⟨k, hk, rfl⟩ := List.getElem_of_mem ht
  have := h k (by omega)
  rw [gE_eq _ _ hk] at this
  exact RW_reads this
theorem map_RW {w : World} {es : List E} {rs : List Wr} {N : Nat} (hl : es.length = N) (hr : rs.length = N) (h : ∀ j, j < N → Reads w (gE es j) (gR rs j)) : es.map (RW w) = rs := map_R (by omega) (fun j hj => RW_eq (h j (by omega)))
/-- one write in a slice of its own -/
theorem LE.one {W : World} {B : Nat} {u : E} (h : Cap W B u) : LE W (some ⟨B, 0, none⟩) 1 [u] := by
  refine ⟨fun _ => ⟨B, 0, rfl, lt_of_heap h, fun j v hj => ?_⟩, rfl, by decide⟩
  rw [Nat.zero_add, cell_of_row _ _ _ _ _ _ h]
  simpa [flatE, E.cs] using hj
/-- .. and the program's -/
theorem merge_reads (w : World) (p : Option Addr) (N cap : Nat) (es : List E) (rs : List Wr) (u : E) (ru : Wr) (lim : Int) (h : LE w p N es) (hN : N ≤ 1100000) (ok : Sl.ok ⟨p, N, cap⟩) (hr : rs.length = N) (hR : ∀ j, j < N → Reads w (gE es j) (gR rs j)) (hu : Reads w u ru) :
    Calls Tryd.prog 18 #[.slice p N cap, u.agg, .int .i64 lim] w fun r w' => ∃ (s : Sl) (fs : List E), r = .returned (.tuple #[s.v, .int .i64 (merrW rs ru lim)]) ∧ s.n = (mlistW rs ru lim).length ∧ Apart [] w w' ∧ ∀ (lo hi : Nat) (w2 : World), Fr lo hi w' w2 → hi ≤ w.heap.size → LE w2 s.p (mlistW rs ru lim).length fs ∧ ∀ j, j < (mlistW rs ru lim).length → Reads w2 (gE fs j) (gR (mlistW rs ru lim) j) := by
  have em := map_RW h.len hr hR
  have hm := mem_reads h.len hR
  have eu := RW_eq hu
  have hu' : Reads w u (RW w u) := by rw [eu]; exact hu
  have e1 : merr (fun t => (RW w t).xs) es u lim = merrW rs ru lim := by rw [merr_W (fun t ht => (hm t ht).as) hu'.as, em, eu]
  have e2 : (mlist (fun t => (RW w t).xs) es u lim).map (RW w) = mlistW rs ru lim := by rw [mlist_W (fun t ht => (hm t ht).as) hu'.as, em, eu]
  have hlen : (mlist (fun t => (RW w t).xs) es u lim).length = (mlistW rs ru lim).length := by rw [← e2]; simp
  refine (merge_ok ins_ok w p N cap es u lim (RW w) h hN ok hm hu').mono ?_
  intro r w' post
  have hb := mlist_len (fun t => (RW w t).xs) es u lim
  rw [h.len] at hb
  obtain ⟨s, fs, hr', hn, ap, later⟩ := post.later (by omega)
  refine ⟨s, fs, by rw [hr', e1], by rw [hn, hlen], ap, fun lo hi w2 a hh => ?_⟩
  have := later lo hi w2 a hh
  rwa [e2, hlen] at this
end Go.Proofs.YtokaeiahhmaokaaDoor.ds
namespace Go.Proofs.YtokaeiahhmaokaaDoor.ds
open Go.ChangeShapes Go.WideShapes Go.ChangeAt Go.RowKit Go.Sort
set_option linter.unusedVariables false
set_option linter.unusedSimpArgs false
def markW : Wr := ⟨77, 77, ⟨#[109, 97, 114, 107]⟩, false, [], []⟩
end Go.Proofs.YtokaeiahhmaokaaDoor.ds
namespace Go.Proofs.YtokaeiahhmaokaaDoor.ds
open Go.ChangeShapes Go.WideShapes Go.ChangeAt Go.RowKit Go.Sort
set_option linter.unusedVariables false
set_option linter.unusedSimpArgs false
def caseO (S B : Value) (u : E) (lim gap : Int) : Obj := .cells #[S, .int .i64 u.n, .int .i64 u.c, .string u.k, .bool u.d, u.v.v, u.x.v, B, .int .i64 lim, .int .i64 gap] 31
theorem reads_one {W : World} {u : E} {ru : Wr} (h : Reads W u ru) : ∀ j, j < 1 → Reads W (gE [u] j) (gR [ru] j) := fun j hj => by
  have e : j = 0 := by omega
  subst e
  exact h
end Go.Proofs.YtokaeiahhmaokaaDoor.ds
namespace Go.Proofs.YtokaeiahhmaokaaDoor.ds
open Go.ChangeShapes Go.WideShapes Go.ChangeAt Go.RowKit Go.Sort
set_option linter.unusedVariables false
set_option linter.unusedSimpArgs false
def aE : E := ⟨0, 1, ⟨#[107]⟩, false, ⟨none, 0, 0⟩, ⟨none, 0, 0⟩⟩
def bE (B : Nat) : E := ⟨1, 1, ⟨#[107]⟩, false, ⟨none, 0, 0⟩, ⟨some ⟨B, 0, none⟩, 1, 1⟩⟩
def aW : Wr := ⟨0, 1, ⟨#[107]⟩, false, [], []⟩
def bW : Wr := ⟨1, 1, ⟨#[107]⟩, false, [], [⟨0, 1, 0⟩]⟩
theorem okb : OkL 64 [(⟨0, 1, 0⟩ : S)] := ⟨fun x hx => by
  simp at hx
  subst hx
  exact ⟨by decide, by decide, by decide, by decide, by simp, by decide, by simp [bl], by simp [bl]⟩, by simp⟩
theorem hasb : hasd [(⟨0, 1, 0⟩ : S)] 0 1 = true := by
  unfold hasd
  rw [norm_of okb]
  unfold hasv
  simp [ofn, dot]
theorem kk : keq ⟨#[107]⟩ ⟨#[107]⟩ = true := by unfold keq; simp
theorem cv1 : cvW bW aW = true := by unfold cvW; show (keq ⟨#[107]⟩ ⟨#[107]⟩ && hasd [(⟨0, 1, 0⟩ : S)] 0 1) = true; rw [kk, hasb]; rfl
theorem left1 : leftW [aW] bW = [] := by unfold leftW; simp [cv1]
theorem merge1 : mergeW [aW] bW = [bW] := by unfold mergeW; rw [left1]; simp [insW]
theorem key1 : ([aW] : List Wr).any (fun t => !keq t.k bW.k) = false := by
  simp only [List.any_cons, List.any_nil, Bool.or_false]
  show (!keq ⟨#[107]⟩ ⟨#[107]⟩) = false
  rw [kk]; rfl
theorem dot1 : ([aW] : List Wr).any (fun t => deqW t bW) = false := by simp [deqW, aW, bW]
theorem merr1 : merrW [aW] bW 1 = 0 := by unfold merrW; rw [if_neg (by rw [key1]; simp), if_neg (by rw [dot1]; simp), merge1]; simp
theorem mlist1 : mlistW [aW] bW 1 = [bW] := by unfold mlistW; rw [if_neg (by rw [key1]; simp), if_neg (by rw [dot1]; simp), merge1]; simp
theorem a_reads (w : World) : Reads w aE aW := ⟨rfl, rfl, rfl, rfl, Rd.nil _ _, rfl, by decide, by simp [aW], ⟨Sp.nil _ _, rfl, by decide, by simp [aW]⟩, by decide, fun _ => ⟨rfl, rfl⟩, fun _ => ⟨rfl, rfl⟩⟩
theorem b_reads {w : World} {B : Nat} (h : w.heap[B]? = some (.cells #[.int .i64 0, .int .i64 1, .int .u64 0] 80 (0, 0))) : Reads w (bE B) bW := by
  refine ⟨rfl, rfl, rfl, rfl, Rd.nil _ _, rfl, by simp [bE], by simp [bW], ⟨fun _ => ⟨B, 0, rfl, lt_of_heap h, fun i hi => ?_⟩, rfl, by simp [bE], by simp [bW]⟩, by simp [bE], fun _ => ⟨rfl, rfl⟩, fun e => by cases e⟩
  have e : i = 0 := by simp [bW] at hi; exact hi
  subst e
  refine ⟨?_, ?_, ?_⟩ <;> (rw [cell_of_row _ _ _ _ _ _ h]; rfl)
theorem buildB (W : World) : Sem.run Tryd.prog (Instr.buildSlice 26 1 #[(0, .agg #[.int .i64 0, .int .i64 1, .int .u64 0])]) W = .ok (.slice (some ⟨W.heap.size, 0, none⟩) 1 1) (W.alloc (.cells #[.int .i64 0, .int .i64 1, .int .u64 0] 80)) := by
  obtain ⟨ie, hi, hz0, hz1, hz2⟩ := info_parts info52
  refine run_buildSlice W 26 80 1 _ _ ie _ Tryd.underlying26 hi hz0 (by rw [hz1]; decide) (by rw [hz1]; decide) ?_
  rw [hz1]
  first | rfl | (simp [Instr.fill, Array.range, Value.cells, Array.ofFn]; done) | kernel_rfl
set_option maxHeartbeats 8000000 in
set_option maxRecDepth 100000 in
theorem able_ok (w : World) : Calls Tryd.prog 11 #[] w fun r w' => r = .returned (.bool true) ∧ Apart [] w w' := by
  obtain ⟨wa, hwa⟩ : ∃ wa, wa = w.alloc (boxE aE) := ⟨_, rfl⟩
  obtain ⟨ws, hws⟩ : ∃ ws, ws = wa.alloc (.cells #[.int .i64 0, .int .i64 1, .int .u64 0] 80) := ⟨_, rfl⟩
  obtain ⟨wb, hwb⟩ : ∃ wb, wb = ws.alloc (boxE (bE wa.heap.size)) := ⟨_, rfl⟩
  obtain ⟨wl, hwl⟩ : ∃ wl, wl = wb.alloc (boxE aE) := ⟨_, rfl⟩
  have ra : wa.heap[w.heap.size]? = some (boxE aE) := by rw [hwa]; exact heap_alloc_new w _
  have rs : ws.heap[wa.heap.size]? = some (.cells #[.int .i64 0, .int .i64 1, .int .u64 0] 80 (0, 0)) := by rw [hws]; exact heap_alloc_new wa _
  have rb : wb.heap[ws.heap.size]? = some (boxE (bE wa.heap.size)) := by rw [hwb]; exact heap_alloc_new ws _
  have rl : wl.heap[wb.heap.size]? = some (boxE aE) := by rw [hwl]; exact heap_alloc_new wb _
  have asx : Apart [] wa ws := by rw [hws]; exact (Apart.refl _ _).alloc _
  have ab : Apart [] ws wb := by rw [hwb]; exact (Apart.refl _ _).alloc _
  have al : Apart [] wb wl := by rw [hwl]; exact (Apart.refl _ _).alloc _
  have a0 : Apart [] w wa := by rw [hwa]; exact (Apart.refl _ _).alloc _
  have hA : ∀ W : World, Apart [] wb W → Cap W w.heap.size aE := fun W a => (((asx.trans ab).trans a).block _ (lt_of_heap ra) (by simp)).trans ra
  have hB : ∀ W : World, Apart [] wb W → Cap W ws.heap.size (bE wa.heap.size) := fun W a => (a.block _ (lt_of_heap rb) (by simp)).trans rb
  have hS : ∀ W : World, Apart [] wb W → Reads W (bE wa.heap.size) bW := fun W a => b_reads (((ab.trans a).block _ (lt_of_heap rs) (by simp)).trans rs)
  have HA := hid hA
  have HB := hid hB
  have HS := hid hS
  have HAL := hid al
  have HA0 := hid (a0.trans (asx.trans ab))
  have hMg := merge_reads wl (some ⟨wb.heap.size, 0, none⟩) 1 1 [aE] [aW] (bE wa.heap.size) bW 1 (LE.one rl) (by decide) (fun e => by cases e) rfl (reads_one (a_reads _)) (hS wl al)
  rw [merr1, mlist1] at hMg
  have hb1 := fun W => buildE W aE
  have hb2 := buildB
  obtain ⟨t0, t1, t2, t3, t4, t5⟩ := row6 (hA wb (Apart.refl _ _))
  obtain ⟨u0, u1, u2, u3, u4, u5⟩ := row6 (hB wl al)
  dsimp only [bE, E.agg, Sl.v] at hMg
  dsimp only [aE, E.agg, Sl.v, boxE] at hb1
  dsimp only [aE, boxE, Sl.v] at hwa hwl
  dsimp only [bE, boxE, Sl.v] at hwb
  dsimp only [aE, Sl.v] at t0 t1 t2 t3 t4 t5
  dsimp only [bE, Sl.v] at u0 u1 u2 u3 u4 u5
  have hss : ws.heap.size = wa.heap.size + 1 := by rw [hws]; simp
  rw [hss] at u0 u1 u2 u3 u4 u5 HB
  subst hwl
  have cvb : ∀ W : World, Apart [] wb W → Calls Tryd.prog 17 #[(bE wa.heap.size).agg, aE.agg] W fun r w' => r = .returned (.bool true) ∧ Apart [] W w' := fun W a => covers_ok (bE wa.heap.size) aE [⟨0, 1, 0⟩] W (HS.out W a).x true (by unfold cvE; show true = (keq ⟨#[107]⟩ ⟨#[107]⟩ && hasd [(⟨0, 1, 0⟩ : S)] 0 1); rw [kk, hasb]; rfl)
  have cva : ∀ W : World, Calls Tryd.prog 17 #[aE.agg, (bE wa.heap.size).agg] W fun r w' => r = .returned (.bool false) ∧ Apart [] W w' := fun W => covers_ok aE (bE wa.heap.size) [] W (a_reads W).x false (by unfold cvE; rw [hasd_nil]; simp)
  have HCA := hid cva
  have HCBb := hid cvb
  clear ra rs rb rl asx ab al a0 hA hB hS hss cva cvb
  go_enter Tryd.func11, Tryd.ntmps11
  go_upto_region 2 with fail
  rw [← hwa]
  clear hwa
  go_upto_region 3 with fail
  rw [← hws, ← hwb]
  clear hws hwb
  go_wp2_with fail
  refine hMg.mono ?_
  clear hMg t0 t1 t2 t3 t4 t5 u0 u1 u2 u3 u4 u5
  rintro _ w3 ⟨⟨p3, n3, c3⟩, fs3, rfl, hn3, a3, later3⟩
  have HA3 := hid (HAL.out.trans a3)
  have HLA := hid later3
  have e3 : n3 = 1 := hn3
  subst e3
  clear later3 hn3 a3
  dsimp only
  obtain ⟨t0, t1, t2, t3, t4, t5⟩ := row6 (HA.out w3 HA3.out)
  obtain ⟨u0, u1, u2, u3, u4, u5⟩ := row6 (HB.out w3 HA3.out)
  have hc1 := HCBb.out w3 HA3.out
  dsimp only [aE, Sl.v] at t0 t1 t2 t3 t4 t5
  dsimp only [bE, Sl.v] at u0 u1 u2 u3 u4 u5
  dsimp only [aE, bE, E.agg, Sl.v] at hc1
  go_wp2_with fail
  refine hc1.mono ?_
  clear hc1 t0 t1 t2 t3 t4 t5 u0 u1 u2 u3 u4 u5
  rintro _ w4 ⟨rfl, a4⟩
  have HA4 := hid (HA3.out.trans a4)
  have HA34 := hid a4
  clear a4
  dsimp only
  obtain ⟨t0, t1, t2, t3, t4, t5⟩ := row6 (HA.out w4 HA4.out)
  obtain ⟨u0, u1, u2, u3, u4, u5⟩ := row6 (HB.out w4 HA4.out)
  have hc1 := HCA.out w4
  dsimp only [aE, Sl.v] at t0 t1 t2 t3 t4 t5
  dsimp only [bE, Sl.v] at u0 u1 u2 u3 u4 u5
  dsimp only [aE, bE, E.agg, Sl.v] at hc1
  go_wp2_with fail
  refine hc1.mono ?_
  clear hc1 t0 t1 t2 t3 t4 t5 u0 u1 u2 u3 u4 u5
  rintro _ w5 ⟨rfl, a5⟩
  have HA5 := hid (HA4.out.trans a5)
  obtain ⟨L5, R5⟩ := HLA.out 0 0 w5 ((HA34.out.trans a5).fr0 0 0) (Nat.zero_le _)
  obtain ⟨P, o, hP, _, hc⟩ := L5.at (by decide)
  have hr := R5 0 (by decide)
  obtain ⟨k0, _, k2, _⟩ := hc 0 (by decide)
  have q1 : (gE fs3 0).n = 1 := hr.n
  have q2 : (gE fs3 0).k = ⟨#[107]⟩ := hr.k
  rw [q1] at k0
  rw [q2] at k2
  subst hP
  rw [Nat.zero_mul, Nat.add_zero] at k0 k2
  clear a5 L5 R5 hc hr q1 q2
  dsimp only
  go_wp2
  go_ret
  exact ⟨rfl, HA0.out.trans HA5.out⟩
end Go.Proofs.YtokaeiahhmaokaaDoor.ds
namespace Go.Proofs.YtokaeiahhmaokaaDoor.ds
open Go.ChangeShapes Go.WideShapes Go.ChangeAt Go.RowKit Go.Sort
set_option linter.unusedVariables false
set_option linter.unusedSimpArgs false
/-- a list of writes that came in -/
structure In (w : World) (s : Sl) (es : List E) (rs : List Wr) : Prop where
  le : LE w s.p s.n es
  n : s.n ≤ 1048576
  len : rs.length = s.n
  rd : ∀ j, j < s.n → Reads w (gE es j) (gR rs j)
  ok : s.ok
theorem In.kept0 {w w' : World} {s : Sl} {es : List E} {rs : List Wr} (h : In w s es rs) (a : Apart [] w w') : In w' s es rs := ⟨h.le.kept0 a, h.n, h.len, fun j hj => (h.rd j hj).kept0 a, h.ok⟩
/-- the sets of a case -/
def Sets (w : World) (p : Option Addr) (n : Nat) (F : Nat → Sl × List E × List Wr) : Prop :=
  0 < n → ∃ P o, p = some ⟨P, o, none⟩ ∧ P < w.heap.size ∧ ∀ i, i < n → w.cell? ⟨P, o + i, none⟩ = some (F i).1.v ∧ In w (F i).1 (F i).2.1 (F i).2.2
theorem mergesO (w : World) (S B : Value) (u : E) (lim gap : Int) : (w.alloc (caseO S B u lim gap)).heap[w.heap.size]? = some (.cells #[S, .int .i64 u.n, .int .i64 u.c, .string u.k, .bool u.d, .slice u.v.p u.v.n u.v.c, .slice u.x.p u.x.n u.x.c, B, .int .i64 lim, .int .i64 gap] 31 (0, 0)) := heap_alloc_new w _
theorem caseCells {w : World} {C : Nat} {a b c d e f g h i j : Value} {t : TypeId} (hr : w.heap[C]? = some (.cells #[a, b, c, d, e, f, g, h, i, j] t (0, 0))) : w.cell? ⟨C, 0, none⟩ = some a ∧ w.cell? ⟨C, 1, none⟩ = some b ∧ w.cell? ⟨C, 2, none⟩ = some c ∧ w.cell? ⟨C, 3, none⟩ = some d ∧ w.cell? ⟨C, 4, none⟩ = some e ∧ w.cell? ⟨C, 5, none⟩ = some f ∧ w.cell? ⟨C, 6, none⟩ = some g ∧ w.cell? ⟨C, 7, none⟩ = some h ∧ w.cell? ⟨C, 8, none⟩ = some i ∧ w.cell? ⟨C, 9, none⟩ = some j := by
  refine ⟨?_, ?_, ?_, ?_, ?_, ?_, ?_, ?_, ?_, ?_⟩ <;> (rw [cell_of_row _ _ _ _ _ _ hr]; rfl)
theorem gE_memE (ls : List E) (j : Nat) (h : j < ls.length) : gE ls j ∈ ls := by rw [gE_eq ls j h]; exact List.getElem_mem h
/-- append of a list that came in, to a list of the call's own that is not empty -/
theorem app_in {w W : World} {s : Sl} {ls : List E} (h : OwnE w W s ls) (h0 : 0 < s.n) (hn : s.n ≤ 1099512676352) {t : Sl} {es : List E} {rs : List Wr} (hi : In W t es rs) (ty : TypeId) :
    ∃ s' W', (Builtin.append_ #[39, 39] ty #[s.v, t.v]).run Tryd.prog W = .ok (Sl.v s') W' ∧ OwnE w W' s' (ls ++ es) ∧ s'.n = s.n + t.n := by
  obtain ⟨i0, hif, hz0, hz1, hz2⟩ := info_parts infoW
  have htn := hi.n
  have hlen : (flatE es).length = t.n * 6 := by rw [flatE_length, hi.le.len]
  by_cases hm : 0 < t.n
  · obtain ⟨P, o, hp, hP, hc⟩ := hi.le.rd (by rw [hlen]; omega)
    obtain ⟨s', W', hrun, hnw, hsn, ap, _⟩ := run_appS (s := s) 39 ty 28 i0 _ 6 88 Tryd.underlying39 hif hz0 hz1 hz2 rfl (by decide) h.nw ⟨P, o, none⟩ t.n t.c (flatE es) hm hlen (fun j u hj => by rw [Addr.add_lit]; exact hc j u hj) (oneE es) (by unfold maxLen; omega) (by omega)
    refine ⟨s', W', ?_, ⟨by rw [flatE_append]; exact hnw, by rw [List.length_append, h.len, hi.le.len, hsn]⟩, hsn⟩
    unfold Sl.v at hrun ⊢
    rw [hp]
    exact hrun
  · have hz : t.n = 0 := by omega
    have he : es = [] := List.length_eq_zero_iff.1 (by rw [hi.le.len]; exact hz)
    subst he
    obtain ⟨p, n, c⟩ := t
    simp only at hz
    subst hz
    cases p with
    | none =>
      obtain ⟨_, hc⟩ := hi.ok rfl
      simp only at hc
      subst hc
      exact ⟨s, W, run_append_owned_none (P := Tryd.prog) W 0 39 ty 28 i0 6 Tryd.underlying39 hif s.v s.n (flatE ls) h.nw.own, by rw [List.append_nil]; exact h, by simp⟩
    | some ad =>
      obtain ⟨_, ⟨hv, hz'⟩ | ⟨g, cap, cur, hv, _, _, hcap, _⟩⟩ := h.nw.own
      · exact absurd hz' (by omega)
      · have own := h.nw.own
        rw [hv] at own
        obtain ⟨w', hrun, ho, hg⟩ := run_append_fits (P := Tryd.prog) W 0 39 ty 28 i0 6 Tryd.underlying39 hif hz1 g s.n cap (flatE ls) own ad 0 c [] (by simp) (by simp) (by simp) (by omega)
        rw [Nat.add_zero, List.append_nil] at ho
        refine ⟨s, w', by rw [hv]; exact hrun, ?_, by simp⟩
        rw [List.append_nil]
        exact ⟨⟨by rw [hv]; exact ho, h.nw.new, h.nw.ap.trans' (apart_grown hg) (fun y hy => by simp at hy; subst hy; exact .inr (h.nw.new _ (by rw [hv]; rfl)))⟩, h.len⟩
end Go.Proofs.YtokaeiahhmaokaaDoor.ds
namespace Go.Proofs.YtokaeiahhmaokaaDoor.ds
open Go.ChangeShapes Go.WideShapes Go.ChangeAt Go.RowKit Go.Deep Go.Sort
set_option linter.unusedVariables false
set_option linter.unusedSimpArgs false
set_option maxRecDepth 100000
theorem own : ownKnob Tryd.prog.godebug = none := by kernel_rfl
theorem laidOut : laidOutB Tryd.prog = true := by kernel_rfl
theorem cells3 : Tryd.prog.cellsOf 3 = 1 := by kernel_rfl
theorem cells4 : Tryd.prog.cellsOf 4 = 1 := by kernel_rfl
theorem cells9 : Tryd.prog.cellsOf 9 = 1 := by kernel_rfl
theorem cells5 : Tryd.prog.cellsOf 5 = 1 := by kernel_rfl
theorem cells36 : Tryd.prog.cellsOf 78 = 1 := by kernel_rfl
theorem cells38 : Tryd.prog.cellsOf 80 = 3 := by kernel_rfl
theorem cells28 : Tryd.prog.cellsOf 28 = 6 := by kernel_rfl
theorem cells24 : Tryd.prog.cellsOf 24 = 2 := by kernel_rfl
theorem cells25 : Tryd.prog.cellsOf 25 = 1 := by kernel_rfl
theorem cells26 : Tryd.prog.cellsOf 26 = 1 := by kernel_rfl
theorem cells34 : Tryd.prog.cellsOf 39 = 1 := by kernel_rfl
theorem cells22 : Tryd.prog.cellsOf 22 = 1 := by kernel_rfl
theorem cells29 : Tryd.prog.cellsOf 29 = 1 := by kernel_rfl
theorem cells31 : Tryd.prog.cellsOf 31 = 10 := by kernel_rfl
theorem weigh {H : Type} (d : DataW H) : 0 < Rows.uptoBulk d := by
  cases d
  case lit l => cases l <;> (unfold Rows.uptoBulk; omega)
  all_goals (unfold Rows.uptoBulk; omega)
theorem many {H : Type} : ∀ l : List (DataW H), l.length ≤ Rows.uptoBulkAll l
  | [] => Nat.zero_le _
  | d :: l => by have h1 := weigh d; have h2 := many l; rw [Rows.uptoBulkAll, List.length_cons]; omega
theorem all_cons {H : Type} (d : DataW H) (l : List (DataW H)) : Rows.uptoBulkAll (d :: l) = Rows.uptoBulk d + Rows.uptoBulkAll l := by rw [Rows.uptoBulkAll]
theorem all_nil {H : Type} : Rows.uptoBulkAll ([] : List (DataW H)) = 0 := by rw [Rows.uptoBulkAll]
theorem all_mem {H : Type} {d : DataW H} : ∀ {l : List (DataW H)}, d ∈ l → Rows.uptoBulk d ≤ Rows.uptoBulkAll l
  | e :: l, h => by
    rw [all_cons]
    rcases List.mem_cons.1 h with rfl | h
    · omega
    · have := all_mem h; omega
theorem slice_many {H : Type} (a b : List (DataW H)) : Rows.uptoBulkAll a ≤ Rows.uptoBulk (.slice a b) := by
  rw [Rows.uptoBulk]; omega
theorem agg_many {H : Type} (a : List (DataW H)) : Rows.uptoBulkAll a ≤ Rows.uptoBulk (.agg a) := by
  rw [Rows.uptoBulk]; omega
/-- a []byte that came in -/
theorem open_bytes {H : Type} {enc : TypeId × Value → H} {W : World} {fuel : Nat} {v : Value} {x : DataW H × List MemPlace} (h : DataW.trod enc Tryd.prog W 0 (fun _ => true) true fuel 25 [v] = some x) (hb : Rows.uptoBulk x.1 ≤ 1048576) :
    ∃ (s : Sl) (bs : List Nat), v = s.v ∧ Rd W s.p (byts bs) ∧ bs.length = s.n ∧ s.n ≤ 1048576 ∧ (∀ b ∈ bs, b < 256) ∧ s.ok := by
  rcases open_ints Tryd.underlying25 Tryd.underlying5 cells5 h with ⟨hcs, _⟩ | ⟨a, l, c, zs, hcs, _, hl, hm, hz, hx, hcell, hwz⟩
  · simp at hcs
    exact ⟨⟨none, 0, 0⟩, [], hcs, Rd.nil _ _, rfl, by decide, by simp, fun _ => ⟨rfl, rfl⟩⟩
  · simp at hcs
    simp only [if_true] at hz
    have hll : l ≤ 1048576 := by
      have h1 := slice_many (lits .u8 (zs.take l) : List (DataW H)) (lits .u8 (zs.drop l))
      have h2 := many (lits .u8 (zs.take l) : List (DataW H))
      have h3 : (lits .u8 (zs.take l) : List (DataW H)).length = l := by simp [lits]; omega
      rw [hx] at hb
      simp only at hb
      omega
    have hpos : ∀ z ∈ zs, 0 ≤ z ∧ z < 256 := fun z hz => by
      have := hwz z hz
      simp [Lit.wf, IntKind.bits, IntKind.signed, IntKind.min, IntKind.max] at this
      omega
    refine ⟨⟨some a, l, c⟩, (zs.take l).map Int.toNat, hcs, fun h0 => ?_, by simp; omega, hll, fun b hb => ?_, fun e => by cases e⟩
    · obtain ⟨g, o, spot⟩ := a
      simp [byts] at h0
      have hc := hcell 0 (by omega)
      have hspot : spot = none := by simpa [Addr.add] using World.cell?_spot hc
      subst hspot
      refine ⟨g, o, rfl, ?_, fun j u hj => ?_⟩
      · rw [Addr.add_lit] at hc
        exact block_lt_of_cell hc
      · simp only [byts, List.getElem?_map, Option.map_eq_some_iff] at hj
        obtain ⟨b, ⟨z, hz1, rfl⟩, rfl⟩ := hj
        have hjl : j < zs.length := by
          by_cases hq : j < l
          · omega
          · rw [List.getElem?_take, if_neg hq] at hz1; cases hz1
        have hc2 := hcell j hjl
        rw [Addr.add_lit] at hc2
        rw [hc2]
        rw [List.getElem?_take] at hz1
        split at hz1
        · rw [List.getD_eq_getElem?_getD, hz1]
          have := (hpos z (List.mem_of_getElem? hz1)).1
          simp
          omega
        · cases hz1
    · rw [List.mem_map] at hb
      obtain ⟨z, hz1, rfl⟩ := hb
      have := hpos z (List.mem_of_mem_take hz1)
      omega
/-- a []api.Span that came in -/
theorem open_spans {H : Type} {enc : TypeId × Value → H} {W : World} {fuel : Nat} {v : Value} {x : DataW H × List MemPlace} (h : DataW.trod enc Tryd.prog W 0 (fun _ => true) true fuel 26 [v] = some x) (hb : Rows.uptoBulk x.1 ≤ 1048576) :
    ∃ (s : Sl) (xs : List S), v = s.v ∧ L W s.p s.n xs ∧ s.n ≤ 1048576 ∧ s.ok := by
  rcases open_slice Tryd.underlying26 h with ⟨hcs, _⟩ | ⟨a, len, cap, m, n, D, Pl, hcs, _, hl, hm, hmeq, hx, hall⟩
  · simp at hcs
    exact ⟨⟨none, 0, 0⟩, [], hcs, L.nil _ _, by decide, fun _ => ⟨rfl, rfl⟩⟩
  · simp only [if_true] at hmeq
    subst hmeq
    simp at hcs
    have hlim : len ≤ 1048576 := by
      have h1 := slice_many ((List.range len).map D) ((List.range (m - len)).map fun j => D (len + j))
      have h2 := many ((List.range len).map D)
      rw [hx] at hb
      simp only [List.length_map, List.length_range] at h2 hb
      omega
    refine ⟨⟨some a, len, m⟩, ?_⟩
    by_cases h0 : 0 < len
    · obtain ⟨P, o, spot⟩ := a
      have hspot : spot = none := by
        obtain ⟨cs', h1, h2⟩ := hall 0 (by omega)
        rw [cells38] at h1
        obtain ⟨_, hlen, hcell⟩ := World.cells?_some h1
        have hc := hcell 0 (by omega)
        rw [List.getElem?_eq_getElem (by omega)] at hc
        have := World.cell?_spot hc
        simpa [Addr.add] using this
      subst hspot
      have each : ∀ i, i < len → ∃ d : S, (W.cell? ⟨P, o + i * 3, none⟩ = some (.int .i64 d.n) ∧ W.cell? ⟨P, o + i * 3 + 1, none⟩ = some (.int .i64 d.b) ∧ W.cell? ⟨P, o + i * 3 + 2, none⟩ = some (.int .u64 (d.t : Int))) ∧ d.t < 2 ^ 64 := by
        intro i hi
        obtain ⟨cs', h1, h2⟩ := hall i (by omega)
        rw [cells38, Addr.add_lit] at h1
        obtain ⟨_, hlen, hcell⟩ := World.cells?_some h1
        obtain ⟨xs, k, hk, hxy, _, hxl, hf⟩ := DataW.trod_struct Tryd.underlying80 h2
        match xs, hxl, cs', hlen with
        | [y0, y1, y2], _, [v0, v1, v2], _ =>
          have g0 := hf 0 _ rfl
          have g1 := hf 1 _ rfl
          have g2 := hf 2 _ rfl
          simp [cells3, cells36] at g0 g1 g2
          obtain ⟨k0, q0, _, _⟩ := DataW.trod_int Tryd.underlying3 g0
          obtain ⟨k1, q1, _, _⟩ := DataW.trod_int Tryd.underlying3 g1
          obtain ⟨k2, q2, _, wf2⟩ := DataW.trod_int Tryd.underlying78 g2
          simp only [List.cons.injEq, and_true] at q0 q1 q2
          subst q0 q1 q2
          have e0 := hcell 0 (by omega)
          have e1 := hcell 1 (by omega)
          have e2 := hcell 2 (by omega)
          simp only [Addr.add_lit] at e0 e1 e2
          have hr : 0 ≤ k2 ∧ k2 < 18446744073709551616 := by
            simp [Lit.wf, IntKind.bits, IntKind.signed, IntKind.min, IntKind.max] at wf2
            omega
          obtain ⟨K, rfl⟩ := Int.eq_ofNat_of_zero_le hr.1
          exact ⟨⟨k0, k1, K⟩, ⟨by simpa using e0, by simpa using e1, by simpa using e2⟩, by show K < 2 ^ 64; omega⟩
      obtain ⟨f, hf⟩ := @choose_lt S ⟨⟨0, 0, 0⟩⟩ _ _ each
      have hg : ∀ i, i < len → g ((List.range len).map f) i = f i := by
        intro i hi
        unfold g
        rw [List.getD_eq_getElem?_getD, List.getElem?_map, List.getElem?_range hi]; rfl
      refine ⟨(List.range len).map f, hcs, ⟨fun _ => ⟨P, o, rfl, block_lt_of_cell (hf 0 h0).1.1, fun i hi => ?_⟩, by simp, by show len ≤ _; omega, fun x hx => ?_⟩, hlim, fun e => by cases e⟩
      · simp at hi
        rw [hg i hi]; exact (hf i hi).1
      · simp at hx
        obtain ⟨i, hi, rfl⟩ := hx
        exact (hf i hi).2
    · obtain rfl : len = 0 := by omega
      exact ⟨[], hcs, L.nil _ _, by show 0 ≤ _; omega, fun e => by cases e⟩
/-- a write that came in -/
theorem open_write {H : Type} {enc : TypeId × Value → H} {W : World} {fuel : Nat} {v0 v1 v2 v3 v4 v5 : Value} {x : DataW H × List MemPlace} (h : DataW.trod enc Tryd.prog W 0 (fun _ => true) true fuel 28 [v0, v1, v2, v3, v4, v5] = some x) (hb : Rows.uptoBulk x.1 ≤ 1048576) :
    ∃ (e : E) (r : Wr), v0 = .int .i64 e.n ∧ v1 = .int .i64 e.c ∧ v2 = .string e.k ∧ v3 = .bool e.d ∧ v4 = e.v.v ∧ v5 = e.x.v ∧ Reads W e r := by
  obtain ⟨xs, k, hk, hxy, _, hxl, hf⟩ := DataW.trod_struct Tryd.underlying28 h
  match xs, hxl with
  | [y0, y1, y2, y3, y4], _ =>
    have g0 := hf 0 _ rfl
    have g1 := hf 1 _ rfl
    have g2 := hf 2 _ rfl
    have g3 := hf 3 _ rfl
    have g4 := hf 4 _ rfl
    simp [cells24, cells9, cells4, cells25, cells26] at g0 g1 g2 g3 g4
    obtain ⟨zs, kz, _, _, _, hzl, hz⟩ := DataW.trod_struct Tryd.underlying24 g0
    match zs, hzl with
    | [z0, z1], _ =>
      have e0 := hz 0 _ rfl
      have e1 := hz 1 _ rfl
      simp [cells3] at e0 e1
      obtain ⟨k0, q0, _, _⟩ := DataW.trod_int Tryd.underlying3 e0
      obtain ⟨k1, q1, _, _⟩ := DataW.trod_int Tryd.underlying3 e1
      obtain ⟨sk, q2, _⟩ := DataW.trod_string Tryd.underlying9 g1
      obtain ⟨bd, q3, _⟩ := DataW.trod_bool Tryd.underlying4 g2
      have hD : x.1 = .agg [y0.1, y1.1, y2.1, y3.1, y4.1] := by rw [hxy]; rfl
      rw [hD] at hb
      have hall := Nat.le_trans (agg_many _) hb
      obtain ⟨sv, bs, rfl, v1', v2', v3', v4', v5'⟩ := open_bytes g3 (Nat.le_trans (all_mem (by simp)) hall)
      obtain ⟨sx, ys, rfl, x1', x2', x3'⟩ := open_spans g4 (Nat.le_trans (all_mem (by simp)) hall)
      simp only [List.cons.injEq, and_true] at q0 q1 q2 q3
      subst q0 q1 q2 q3
      exact ⟨⟨k0, k1, sk, bd, sv, sx⟩, ⟨k0, k1, sk, bd, bs, ys⟩, rfl, rfl, rfl, rfl, rfl, rfl, ⟨rfl, rfl, rfl, rfl, v1', v2', by show sv.n ≤ _; omega, v4', x1', by show sx.n ≤ _; omega, v5', x3'⟩⟩
theorem cells144 : Tryd.prog.cellsOf 144 = 64 := by kernel_rfl
theorem gTab : Tryd.prog.globalNamed "math/bits.deBruijn64tab" = some 0 := by kernel_rfl
theorem gTabType : (Tryd.prog.globals[0]?).map (·.type) = some 144 := by kernel_rfl
def tabInts : List Int := [0, 1, 56, 2, 57, 49, 28, 3, 61, 58, 42, 50, 38, 29, 17, 4, 62, 47, 59, 36, 45, 43, 51, 22, 53, 39, 33, 30, 24, 18, 12, 5, 63, 55, 48, 27, 60, 41, 37, 16, 46, 35, 44, 21, 52, 32, 23, 11, 54, 26, 40, 15, 34, 20, 31, 10, 25, 14, 19, 9, 13, 8, 7, 6]
theorem tabInts_at : ∀ j : Fin 64, tabInts.getD j.val 0 = (Lib.deBruijn64tab.getD j.val 0 : Nat) := by decide +kernel
theorem table {W : World} (h : laidMetH Tryd.prog [("math/bits.deBruijn64tab", Rows.laid_math_bits_deBruijn64tab)] W) : Tab W := by
  have h1 : Lib.TabIs Tryd.prog W "math/bits.deBruijn64tab" .u8 tabInts := Lib.tabIs_of_head (rest := []) gTab gTabType Tryd.underlying144 Tryd.underlying5 cells5 cells144 h
  refine ⟨fun j hj => ?_⟩
  have := h1.cell gTab j hj
  rw [this, tabInts_at ⟨j, hj⟩]
/-- a world for the witness -/
noncomputable def laidWorld (os : Os) : World :=
  { World.holding Tryd.prog os ⟨#[], #[], []⟩ with heap := (World.holding Tryd.prog os ⟨#[], #[], []⟩).heap.modify 0 fun
      | .cells _ t frozen => .cells (tabInts.map fun z => Value.int .u8 z).toArray t frozen
      | o => o }
end Go.Proofs.YtokaeiahhmaokaaDoor.ds
namespace Go.Proofs.YtokaeiahhmaokaaDoor.ds
open Go.ChangeShapes Go.WideShapes Go.ChangeAt Go.RowKit Go.Deep Go.Sort
set_option linter.unusedVariables false
set_option linter.unusedSimpArgs false
set_option maxRecDepth 100000
theorem rd_flatE {W : World} {P : Nat} : ∀ (es : List E) (o : Nat), (∀ i, i < es.length → ∀ j v, (E.cs (gE es i))[j]? = some v → W.cell? ⟨P, o + i * 6 + j, none⟩ = some v) → ∀ j v, (flatE es)[j]? = some v → W.cell? ⟨P, o + j, none⟩ = some v
  | [], o, _ => fun j v hj => by simp [flatE] at hj
  | e :: l, o, h => fun j v hj => by
    have e1 : flatE (e :: l) = E.cs e ++ flatE l := rfl
    have el : (E.cs e).length = 6 := rfl
    rw [e1] at hj
    by_cases hj6 : j < 6
    · rw [List.getElem?_append_left (by omega)] at hj
      have := h 0 (by simp) j v hj
      simpa using this
    · rw [List.getElem?_append_right (by omega), el] at hj
      have := rd_flatE l (o + 6) (fun i hi k u hk => by
        have := h (i + 1) (by simpa using hi) k u hk
        rwa [show o + (i + 1) * 6 + k = o + 6 + i * 6 + k from by omega] at this) (j - 6) v hj
      rwa [show o + 6 + (j - 6) = o + j from by omega] at this
theorem gE_range (len : Nat) (f : Nat → E) (i : Nat) (hi : i < len) : gE ((List.range len).map f) i = f i := by
  unfold gE
  rw [List.getD_eq_getElem?_getD, List.getElem?_map, List.getElem?_range hi]; rfl
theorem gR_range (len : Nat) (f : Nat → Wr) (i : Nat) (hi : i < len) : gR ((List.range len).map f) i = f i := by
  unfold gR
  rw [List.getD_eq_getElem?_getD, List.getElem?_map, List.getElem?_range hi]; rfl
/-- a []api.Write that came in -/
theorem open_list {H : Type} {enc : TypeId × Value → H} {W : World} {fuel : Nat} {v : Value} {x : DataW H × List MemPlace} (h : DataW.trod enc Tryd.prog W 0 (fun _ => true) true fuel 39 [v] = some x) (hb : Rows.uptoBulk x.1 ≤ 1048576) :
    ∃ (s : Sl) (es : List E) (rs : List Wr), v = s.v ∧ In W s es rs := by
  rcases open_slice Tryd.underlying39 h with ⟨hcs, _⟩ | ⟨a, len, cap, m, n, D, Pl, hcs, _, hl, hm, hmeq, hx, hall⟩
  · simp at hcs
    exact ⟨⟨none, 0, 0⟩, [], [], hcs, ⟨LE.nil _ _, by decide, rfl, fun j hj => absurd hj (by simp), fun _ => ⟨rfl, rfl⟩⟩⟩
  · simp only [if_true] at hmeq
    subst hmeq
    simp at hcs
    rw [hx] at hb
    have hball := Nat.le_trans (slice_many ((List.range len).map D) ((List.range (m - len)).map fun j => D (len + j))) hb
    have hlim : len ≤ 1048576 := by
      have h2 := many ((List.range len).map D)
      simp only [List.length_map, List.length_range] at h2
      omega
    by_cases h0 : 0 < len
    · obtain ⟨P, o, spot⟩ := a
      have hspot : spot = none := by
        obtain ⟨cs', h1, h2⟩ := hall 0 (by omega)
        rw [cells28] at h1
        obtain ⟨_, hlen, hcell⟩ := World.cells?_some h1
        have hc := hcell 0 (by omega)
        rw [List.getElem?_eq_getElem (by omega)] at hc
        have := World.cell?_spot hc
        simpa [Addr.add] using this
      subst hspot
      have each : ∀ i, i < len → ∃ d : E × Wr, (∀ j u, (E.cs d.1)[j]? = some u → W.cell? ⟨P, o + i * 6 + j, none⟩ = some u) ∧ Reads W d.1 d.2 := by
        intro i hi
        obtain ⟨cs', h1, h2⟩ := hall i (by omega)
        have hDi : Rows.uptoBulk (D i) ≤ 1048576 := Nat.le_trans (all_mem (List.mem_map.2 ⟨i, List.mem_range.2 hi, rfl⟩)) hball
        rw [cells28, Addr.add_lit] at h1
        obtain ⟨_, hlen, hcell⟩ := World.cells?_some h1
        match cs', hlen with
        | [v0, v1, v2, v3, v4, v5], _ =>
          obtain ⟨e, r, rfl, rfl, rfl, rfl, rfl, rfl, hr⟩ := open_write h2 hDi
          refine ⟨(e, r), fun j u hj => ?_, hr⟩
          have hj6 : j < 6 := by
            by_cases hq : j < 6
            · exact hq
            · rw [List.getElem?_eq_none (by show 6 ≤ j; omega)] at hj; cases hj
          have := hcell j hj6
          rw [Addr.add_lit] at this
          rw [this]
          exact hj
      obtain ⟨f, hf⟩ := @choose_lt (E × Wr) ⟨(E.z, Wr.z)⟩ _ _ each
      refine ⟨⟨some ⟨P, o, none⟩, len, m⟩, (List.range len).map (fun i => (f i).1), (List.range len).map (fun i => (f i).2), hcs, ⟨⟨fun _ => ⟨P, o, rfl, ?_, rd_flatE _ o (fun i hi => ?_)⟩, by simp, by show len ≤ _; omega⟩, hlim, by simp, fun j hj => ?_, fun e => by cases e⟩⟩
      · have := (hf 0 h0).1 0 _ rfl
        exact block_lt_of_cell this
      · simp at hi
        rw [gE_range len _ i hi]
        exact (hf i hi).1
      · have hj' : j < len := hj
        rw [gE_range len _ j hj', gR_range len _ j hj']
        exact (hf j hj').2
    · obtain rfl : len = 0 := by omega
      exact ⟨⟨some a, 0, m⟩, [], [], hcs, ⟨LE.nil _ _, by show 0 ≤ _; omega, rfl, fun j hj => absurd hj (by simp), fun e => by cases e⟩⟩
end Go.Proofs.YtokaeiahhmaokaaDoor.ds
