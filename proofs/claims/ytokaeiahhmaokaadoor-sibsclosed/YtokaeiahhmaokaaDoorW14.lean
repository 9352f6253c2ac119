import Derived.Test.YtokaeiahhmaokaaDoorW9
import Derived.Test.YtokaeiahhmaokaaDoorW10
import Derived.Test.YtokaeiahhmaokaaDoorW13
import Derived.Test.YtokaeiahhmaokaaDoorRows
import Derived.Test.YtokaeiahhmaokaaDoorCards
import Derived.Test.YtokaeiahhmaokaaDoorTie
import Derived.Lib.LaidTab
import Derived.JoinedCond
import Derived.ShutString
import Derived.ChangeOld
import Derived.Below
import Derived.Carry
import Derived.ChangeSlices
import Derived.Deep.Slices
import Derived.Deep.DeepHandedRow
import Derived.RowKit
import Derived.ChangeShapes
import Derived.SizedLaws
import Derived.ChangeMaps5
import Derived.Test.YtokaeiahhmaokaaDoorW1
namespace Go.Proofs.YtokaeiahhmaokaaDoor.ds
open Go.ChangeShapes Go.WideShapes Go.ChangeAt Go.RowKit Go.Sort
set_option linter.unusedVariables false
set_option linter.unusedSimpArgs false
theorem Fresh.later {w w' w2 : World} {e : E} {r : Wr} {lo hi : Nat} (h : Fresh w w' e r) (a : Fr lo hi w' w2) (hh : hi ≤ w.heap.size) : Reads w2 e r :=
  ⟨h.n, h.c, h.k, h.d, Rd.own (own_fr h.v.own a (fun k hk => .inr (Nat.le_trans hh (h.v.new k hk)))), h.vn, h.vl, h.vb,
   ⟨Sp.own (cap := e.x.c) (n := e.x.n) (own_fr h.x.own a (fun k hk => .inr (Nat.le_trans hh (h.x.new k hk)))) h.xn.symm, h.xn, by have := h.xl; omega, h.xf⟩, h.xl, h.v.ok, h.x.ok⟩
/-- what Merge answered, later on -/
theorem MgPost.later {w w' : World} {r : Ending} {R : E → Wr} {e : Int} {l : List E} (h : MgPost w w' r R e l) (hl : l.length ≤ 1500000) :
    ∃ (s : Sl) (fs : List E), r = .returned (.tuple #[s.v, .int .i64 e]) ∧ s.n = l.length ∧ Apart [] w w' ∧ ∀ (lo hi : Nat) (w2 : World), Fr lo hi w' w2 → hi ≤ w.heap.size → LE w2 s.p l.length fs ∧ ∀ j, j < l.length → Reads w2 (gE fs j) (gR (l.map R) j) := by
  obtain ⟨s, fs, hr, hn, hf, nw, fr⟩ := h.ex
  refine ⟨s, fs, hr, hn, nw.ap, fun lo hi w2 a hh => ⟨⟨Rd.own (own_fr nw.own a (fun k hk => .inr (Nat.le_trans hh (nw.new k hk)))), hf, by omega⟩, fun j hj => ?_⟩⟩
  rw [gR_map R l j hj]
  exact (fr j hj).later a hh
theorem mlist_len (X : E → List S) (es : List E) (u : E) (lim : Int) : (mlist X es u lim).length ≤ es.length + 1 := by
  unfold mlist
  split
  · simp
  · split
    · omega
    · split
      · simp
      · exact mergeE_len X es u
theorem map_R {R : E → Wr} {es : List E} {rs : List Wr} (hl : es.length = rs.length) (h : ∀ j, j < es.length → R (gE es j) = gR rs j) : es.map R = rs := by
  apply List.ext_getElem (by simp [hl])
  intro j h1 h2
  have := h j (by simpa using h1)
  rw [gE_eq _ _ (by simpa using h1)] at this
  simp only [List.getElem_map]
  rw [this]
  unfold gR
  simp [List.getD_eq_getElem?_getD, h2]
theorem mem_reads {w : World} {es : List E} {rs : List Wr} {N : Nat} (hl : es.length = N) (h : ∀ j, j < N → Reads w (gE es j) (gR rs j)) : ∀ t ∈ es, Reads w t (RW w t) := by
  intro t ht
  obtain ⟨k, hk, rfl⟩ := List.getElem_of_mem ht
  have := h k (by omega)
  rw [gE_eq _ _ hk] at this
  exact RW_reads this
theorem map_RW {w : World} {es : List E} {rs : List Wr} {N : Nat} (hl : es.length = N) (hr : rs.length = N) (h : ∀ j, j < N → Reads w (gE es j) (gR rs j)) : es.map (RW w) = rs := map_R (by omega) (fun j hj => RW_eq (h j (by omega)))
/-- one write in a slice of its own -/
theorem LE.one {W : World} {B : Nat} {u : E} (h : Cap W B u) : LE W (some ⟨B, 0, none⟩) 1 [u] := by
  refine ⟨fun _ => ⟨B, 0, rfl, lt_of_heap h, fun j v hj => ?_⟩, rfl, by decide⟩
  rw [Nat.zero_add, cell_of_row _ _ _ _ _ _ h]
  simpa [flatE, E.cs] using hj
/-- .. and the program's -/
theorem merge_reads (w : World) (p : Option Addr) (N cap : Nat) (es : List E) (rs : List Wr) (u : E) (ru : Wr) (lim : Int) (h : LE w p N es) (hN : N ≤ 1100000) (ok : Sl.ok ⟨p, N, cap⟩) (hr : rs.length = N) (hR : ∀ j, j < N → Reads w (gE es j) (gR rs j)) (hu : Reads w u ru) :
    Calls Tryd.prog 18 #[.slice p N cap, u.agg, .int .i64 lim] w fun r w' => ∃ (s : Sl) (fs : List E), r = .returned (.tuple #[s.v, .int .i64 (merrW rs ru lim)]) ∧ s.n = (mlistW rs ru lim).length ∧ Apart [] w w' ∧ ∀ (lo hi : Nat) (w2 : World), Fr lo hi w' w2 → hi ≤ w.heap.size → LE w2 s.p (mlistW rs ru lim).length fs ∧ ∀ j, j < (mlistW rs ru lim).length → Reads w2 (gE fs j) (gR (mlistW rs ru lim) j) := by
  have em := map_RW h.len hr hR
  have hm := mem_reads h.len hR
  have eu := RW_eq hu
  have hu' : Reads w u (RW w u) := by rw [eu]; exact hu
  have e1 : merr (fun t => (RW w t).xs) es u lim = merrW rs ru lim := by rw [merr_W (fun t ht => (hm t ht).as) hu'.as, em, eu]
  have e2 : (mlist (fun t => (RW w t).xs) es u lim).map (RW w) = mlistW rs ru lim := by rw [mlist_W (fun t ht => (hm t ht).as) hu'.as, em, eu]
  have hlen : (mlist (fun t => (RW w t).xs) es u lim).length = (mlistW rs ru lim).length := by rw [← e2]; simp
  refine (merge_ok ins_ok w p N cap es u lim (RW w) h hN ok hm hu').mono ?_
  intro r w' post
  have hb := mlist_len (fun t => (RW w t).xs) es u lim
  rw [h.len] at hb
  obtain ⟨s, fs, hr', hn, ap, later⟩ := post.later (by omega)
  refine ⟨s, fs, by rw [hr', e1], by rw [hn, hlen], ap, fun lo hi w2 a hh => ?_⟩
  have := later lo hi w2 a hh
  rwa [e2, hlen] at this
end Go.Proofs.YtokaeiahhmaokaaDoor.ds
namespace Go.Proofs.YtokaeiahhmaokaaDoor.ds
open Go.ChangeShapes Go.WideShapes Go.ChangeAt Go.RowKit Go.Sort
set_option linter.unusedVariables false
set_option linter.unusedSimpArgs false
def markW : Wr := ⟨77, 77, ⟨#[109, 97, 114, 107]⟩, false, [], []⟩
end Go.Proofs.YtokaeiahhmaokaaDoor.ds
namespace Go.Proofs.YtokaeiahhmaokaaDoor.ds
open Go.ChangeShapes Go.WideShapes Go.ChangeAt Go.RowKit Go.Sort
set_option linter.unusedVariables false
set_option linter.unusedSimpArgs false
theorem reads_one {W : World} {u : E} {ru : Wr} (h : Reads W u ru) : ∀ j, j < 1 → Reads W (gE [u] j) (gR [ru] j) := fun j hj => by
  have e : j = 0 := by omega
  subst e
  exact h
end Go.Proofs.YtokaeiahhmaokaaDoor.ds
namespace Go.Proofs.YtokaeiahhmaokaaDoor.ds
open Go.ChangeShapes Go.WideShapes Go.ChangeAt Go.RowKit Go.Sort
set_option linter.unusedVariables false
set_option linter.unusedSimpArgs false
def aE : E := ⟨0, 1, ⟨#[107]⟩, false, ⟨none, 0, 0⟩, ⟨none, 0, 0⟩⟩
def bE (B : Nat) : E := ⟨1, 1, ⟨#[107]⟩, false, ⟨none, 0, 0⟩, ⟨some ⟨B, 0, none⟩, 1, 1⟩⟩
def aW : Wr := ⟨0, 1, ⟨#[107]⟩, false, [], []⟩
def bW : Wr := ⟨1, 1, ⟨#[107]⟩, false, [], [⟨0, 1, 0⟩]⟩
theorem okb : OkL 64 [(⟨0, 1, 0⟩ : S)] := ⟨fun x hx => by
  simp at hx
  subst hx
  exact ⟨by decide, by decide, by decide, by decide, by simp, by decide, by simp [bl], by simp [bl]⟩, by simp⟩
theorem hasb : hasd [(⟨0, 1, 0⟩ : S)] 0 1 = true := by
  unfold hasd
  rw [norm_of okb]
  unfold hasv
  simp [ofn, dot]
theorem kk : keq ⟨#[107]⟩ ⟨#[107]⟩ = true := by unfold keq; simp
theorem cv1 : cvW bW aW = true := by unfold cvW; show (keq ⟨#[107]⟩ ⟨#[107]⟩ && hasd [(⟨0, 1, 0⟩ : S)] 0 1) = true; rw [kk, hasb]; rfl
theorem left1 : leftW [aW] bW = [] := by unfold leftW; simp [cv1]
theorem merge1 : mergeW [aW] bW = [bW] := by unfold mergeW; rw [left1]; simp [insW]
theorem key1 : ([aW] : List Wr).any (fun t => !keq t.k bW.k) = false := by
  simp only [List.any_cons, List.any_nil, Bool.or_false]
  show (!keq ⟨#[107]⟩ ⟨#[107]⟩) = false
  rw [kk]; rfl
theorem dot1 : ([aW] : List Wr).any (fun t => deqW t bW) = false := by simp [deqW, aW, bW]
theorem merr1 : merrW [aW] bW 1 = 0 := by unfold merrW; rw [if_neg (by rw [key1]; simp), if_neg (by rw [dot1]; simp), merge1]; simp
theorem mlist1 : mlistW [aW] bW 1 = [bW] := by unfold mlistW; rw [if_neg (by rw [key1]; simp), if_neg (by rw [dot1]; simp), merge1]; simp
theorem a_reads (w : World) : Reads w aE aW := ⟨rfl, rfl, rfl, rfl, Rd.nil _ _, rfl, by decide, by simp [aW], ⟨Sp.nil _ _, rfl, by decide, by simp [aW]⟩, by decide, fun _ => ⟨rfl, rfl⟩, fun _ => ⟨rfl, rfl⟩⟩
theorem b_reads {w : World} {B : Nat} (h : w.heap[B]? = some (.cells #[.int .i64 0, .int .i64 1, .int .u64 0] 80 (0, 0))) : Reads w (bE B) bW := by
  refine ⟨rfl, rfl, rfl, rfl, Rd.nil _ _, rfl, by simp [bE], by simp [bW], ⟨fun _ => ⟨B, 0, rfl, lt_of_heap h, fun i hi => ?_⟩, rfl, by simp [bE], by simp [bW]⟩, by simp [bE], fun _ => ⟨rfl, rfl⟩, fun e => by cases e⟩
  have e : i = 0 := by simp [bW] at hi; exact hi
  subst e
  refine ⟨?_, ?_, ?_⟩ <;> (rw [cell_of_row _ _ _ _ _ _ h]; rfl)
theorem buildB (W : World) : Sem.run Tryd.prog (Instr.buildSlice 26 1 #[(0, .agg #[.int .i64 0, .int .i64 1, .int .u64 0])]) W = .ok (.slice (some ⟨W.heap.size, 0, none⟩) 1 1) (W.alloc (.cells #[.int .i64 0, .int .i64 1, .int .u64 0] 80)) := by
  obtain ⟨ie, hi, hz0, hz1, hz2⟩ := info_parts info52
  refine run_buildSlice W 26 80 1 _ _ ie _ Tryd.underlying26 hi hz0 (by rw [hz1]; decide) (by rw [hz1]; decide) ?_
  rw [hz1]
  first | rfl | (simp [Instr.fill, Array.range, Value.cells, Array.ofFn]; done) | kernel_rfl
set_option maxHeartbeats 8000000 in
set_option maxRecDepth 100000 in
theorem able_ok (w : World) : Calls Tryd.prog 11 #[] w fun r w' => r = .returned (.bool true) ∧ Apart [] w w' := by
  obtain ⟨wa, hwa⟩ : ∃ wa, wa = w.alloc (boxE aE) := ⟨_, rfl⟩
  obtain ⟨ws, hws⟩ : ∃ ws, ws = wa.alloc (.cells #[.int .i64 0, .int .i64 1, .int .u64 0] 80) := ⟨_, rfl⟩
  obtain ⟨wb, hwb⟩ : ∃ wb, wb = ws.alloc (boxE (bE wa.heap.size)) := ⟨_, rfl⟩
  obtain ⟨wl, hwl⟩ : ∃ wl, wl = wb.alloc (boxE aE) := ⟨_, rfl⟩
  have ra : wa.heap[w.heap.size]? = some (boxE aE) := by rw [hwa]; exact heap_alloc_new w _
  have rs : ws.heap[wa.heap.size]? = some (.cells #[.int .i64 0, .int .i64 1, .int .u64 0] 80 (0, 0)) := by rw [hws]; exact heap_alloc_new wa _
  have rb : wb.heap[ws.heap.size]? = some (boxE (bE wa.heap.size)) := by rw [hwb]; exact heap_alloc_new ws _
  have rl : wl.heap[wb.heap.size]? = some (boxE aE) := by rw [hwl]; exact heap_alloc_new wb _
  have asx : Apart [] wa ws := by rw [hws]; exact (Apart.refl _ _).alloc _
  have ab : Apart [] ws wb := by rw [hwb]; exact (Apart.refl _ _).alloc _
  have al : Apart [] wb wl := by rw [hwl]; exact (Apart.refl _ _).alloc _
  have a0 : Apart [] w wa := by rw [hwa]; exact (Apart.refl _ _).alloc _
  have hA : ∀ W : World, Apart [] wb W → Cap W w.heap.size aE := fun W a => (((asx.trans ab).trans a).block _ (lt_of_heap ra) (by simp)).trans ra
  have hB : ∀ W : World, Apart [] wb W → Cap W ws.heap.size (bE wa.heap.size) := fun W a => (a.block _ (lt_of_heap rb) (by simp)).trans rb
  have hS : ∀ W : World, Apart [] wb W → Reads W (bE wa.heap.size) bW := fun W a => b_reads (((ab.trans a).block _ (lt_of_heap rs) (by simp)).trans rs)
  have HA := hid hA
  have HB := hid hB
  have HS := hid hS
  have HAL := hid al
  have HA0 := hid (a0.trans (asx.trans ab))
  have hMg := merge_reads wl (some ⟨wb.heap.size, 0, none⟩) 1 1 [aE] [aW] (bE wa.heap.size) bW 1 (LE.one rl) (by decide) (fun e => by cases e) rfl (reads_one (a_reads _)) (hS wl al)
  rw [merr1, mlist1] at hMg
  have hb1 := fun W => buildE W aE
  have hb2 := buildB
  obtain ⟨t0, t1, t2, t3, t4, t5⟩ := row6 (hA wb (Apart.refl _ _))
  obtain ⟨u0, u1, u2, u3, u4, u5⟩ := row6 (hB wl al)
  dsimp only [bE, E.agg, Sl.v] at hMg
  dsimp only [aE, E.agg, Sl.v, boxE] at hb1
  dsimp only [aE, boxE, Sl.v] at hwa hwl
  dsimp only [bE, boxE, Sl.v] at hwb
  dsimp only [aE, Sl.v] at t0 t1 t2 t3 t4 t5
  dsimp only [bE, Sl.v] at u0 u1 u2 u3 u4 u5
  have hss : ws.heap.size = wa.heap.size + 1 := by rw [hws]; simp
  rw [hss] at u0 u1 u2 u3 u4 u5 HB
  subst hwl
  have cvb : ∀ W : World, Apart [] wb W → Calls Tryd.prog 17 #[(bE wa.heap.size).agg, aE.agg] W fun r w' => r = .returned (.bool true) ∧ Apart [] W w' := fun W a => covers_ok (bE wa.heap.size) aE [⟨0, 1, 0⟩] W (HS.out W a).x true (by unfold cvE; show true = (keq ⟨#[107]⟩ ⟨#[107]⟩ && hasd [(⟨0, 1, 0⟩ : S)] 0 1); rw [kk, hasb]; rfl)
  have cva : ∀ W : World, Calls Tryd.prog 17 #[aE.agg, (bE wa.heap.size).agg] W fun r w' => r = .returned (.bool false) ∧ Apart [] W w' := fun W => covers_ok aE (bE wa.heap.size) [] W (a_reads W).x false (by unfold cvE; rw [hasd_nil]; simp)
  have HCA := hid cva
  have HCBb := hid cvb
  clear ra rs rb rl asx ab al a0 hA hB hS hss cva cvb
  go_enter Tryd.func11, Tryd.ntmps11
  go_upto_region 2 with fail
  rw [← hwa]
  clear hwa
  go_upto_region 3 with fail
  rw [← hws, ← hwb]
  clear hws hwb
  go_wp2_with fail
  refine hMg.mono ?_
  clear hMg t0 t1 t2 t3 t4 t5 u0 u1 u2 u3 u4 u5
  rintro _ w3 ⟨⟨p3, n3, c3⟩, fs3, rfl, hn3, a3, later3⟩
  have HA3 := hid (HAL.out.trans a3)
  have HLA := hid later3
  have e3 : n3 = 1 := hn3
  subst e3
  clear later3 hn3 a3
  dsimp only
  obtain ⟨t0, t1, t2, t3, t4, t5⟩ := row6 (HA.out w3 HA3.out)
  obtain ⟨u0, u1, u2, u3, u4, u5⟩ := row6 (HB.out w3 HA3.out)
  have hc1 := HCBb.out w3 HA3.out
  dsimp only [aE, Sl.v] at t0 t1 t2 t3 t4 t5
  dsimp only [bE, Sl.v] at u0 u1 u2 u3 u4 u5
  dsimp only [aE, bE, E.agg, Sl.v] at hc1
  go_wp2_with fail
  refine hc1.mono ?_
  clear hc1 t0 t1 t2 t3 t4 t5 u0 u1 u2 u3 u4 u5
  rintro _ w4 ⟨rfl, a4⟩
  have HA4 := hid (HA3.out.trans a4)
  have HA34 := hid a4
  clear a4
  dsimp only
  obtain ⟨t0, t1, t2, t3, t4, t5⟩ := row6 (HA.out w4 HA4.out)
  obtain ⟨u0, u1, u2, u3, u4, u5⟩ := row6 (HB.out w4 HA4.out)
  have hc1 := HCA.out w4
  dsimp only [aE, Sl.v] at t0 t1 t2 t3 t4 t5
  dsimp only [bE, Sl.v] at u0 u1 u2 u3 u4 u5
  dsimp only [aE, bE, E.agg, Sl.v] at hc1
  go_wp2_with fail
  refine hc1.mono ?_
  clear hc1 t0 t1 t2 t3 t4 t5 u0 u1 u2 u3 u4 u5
  rintro _ w5 ⟨rfl, a5⟩
  have HA5 := hid (HA4.out.trans a5)
  obtain ⟨L5, R5⟩ := HLA.out 0 0 w5 ((HA34.out.trans a5).fr0 0 0) (Nat.zero_le _)
  obtain ⟨P, o, hP, _, hc⟩ := L5.at (by decide)
  have hr := R5 0 (by decide)
  obtain ⟨k0, _, k2, _⟩ := hc 0 (by decide)
  have q1 : (gE fs3 0).n = 1 := hr.n
  have q2 : (gE fs3 0).k = ⟨#[107]⟩ := hr.k
  rw [q1] at k0
  rw [q2] at k2
  subst hP
  rw [Nat.zero_mul, Nat.add_zero] at k0 k2
  clear a5 L5 R5 hc hr q1 q2
  dsimp only
  go_wp2
  go_ret
  exact ⟨rfl, HA0.out.trans HA5.out⟩
end Go.Proofs.YtokaeiahhmaokaaDoor.ds
namespace Go.Proofs.YtokaeiahhmaokaaDoor.ds
open Go.ChangeShapes Go.WideShapes Go.ChangeAt Go.RowKit Go.Sort
set_option linter.unusedVariables false
set_option linter.unusedSimpArgs false
/-- a list of writes that came in -/
structure In (w : World) (s : Sl) (es : List E) (rs : List Wr) : Prop where
  le : LE w s.p s.n es
  n : s.n ≤ 1048576
  len : rs.length = s.n
  rd : ∀ j, j < s.n → Reads w (gE es j) (gR rs j)
  ok : s.ok
theorem In.kept0 {w w' : World} {s : Sl} {es : List E} {rs : List Wr} (h : In w s es rs) (a : Apart [] w w') : In w' s es rs := ⟨h.le.kept0 a, h.n, h.len, fun j hj => (h.rd j hj).kept0 a, h.ok⟩
/-- the sets of a case -/
def Sets (w : World) (p : Option Addr) (n : Nat) (F : Nat → Sl × List E × List Wr) : Prop :=
  0 < n → ∃ P o, p = some ⟨P, o, none⟩ ∧ P < w.heap.size ∧ ∀ i, i < n → w.cell? ⟨P, o + i, none⟩ = some (F i).1.v ∧ In w (F i).1 (F i).2.1 (F i).2.2
theorem gE_memE (ls : List E) (j : Nat) (h : j < ls.length) : gE ls j ∈ ls := by rw [gE_eq ls j h]; exact List.getElem_mem h
/-- append of a list that came in, to a list of the call's own that is not empty -/
theorem app_in {w W : World} {s : Sl} {ls : List E} (h : OwnE w W s ls) (h0 : 0 < s.n) (hn : s.n ≤ 1099512676352) {t : Sl} {es : List E} {rs : List Wr} (hi : In W t es rs) (ty : TypeId) :
    ∃ s' W', (Builtin.append_ #[39, 39] ty #[s.v, t.v]).run Tryd.prog W = .ok (Sl.v s') W' ∧ OwnE w W' s' (ls ++ es) ∧ s'.n = s.n + t.n := by
  obtain ⟨i0, hif, hz0, hz1, hz2⟩ := info_parts infoW
  have htn := hi.n
  have hlen : (flatE es).length = t.n * 6 := by rw [flatE_length, hi.le.len]
  by_cases hm : 0 < t.n
  · obtain ⟨P, o, hp, hP, hc⟩ := hi.le.rd (by rw [hlen]; omega)
    obtain ⟨s', W', hrun, hnw, hsn, ap, _⟩ := run_appS (s := s) 39 ty 28 i0 _ 6 88 Tryd.underlying39 hif hz0 hz1 hz2 rfl (by decide) h.nw ⟨P, o, none⟩ t.n t.c (flatE es) hm hlen (fun j u hj => by rw [Addr.add_lit]; exact hc j u hj) (oneE es) (by unfold maxLen; omega) (by omega)
    refine ⟨s', W', ?_, ⟨by rw [flatE_append]; exact hnw, by rw [List.length_append, h.len, hi.le.len, hsn]⟩, hsn⟩
    unfold Sl.v at hrun ⊢
    rw [hp]
    exact hrun
  · have hz : t.n = 0 := by omega
    have he : es = [] := List.length_eq_zero_iff.1 (by rw [hi.le.len]; exact hz)
    subst he
    obtain ⟨p, n, c⟩ := t
    simp only at hz
    subst hz
    cases p with
    | none =>
      obtain ⟨_, hc⟩ := hi.ok rfl
      simp only at hc
      subst hc
      exact ⟨s, W, run_append_owned_none (P := Tryd.prog) W 0 39 ty 28 i0 6 Tryd.underlying39 hif s.v s.n (flatE ls) h.nw.own, by rw [List.append_nil]; exact h, by simp⟩
    | some ad =>
      obtain ⟨_, ⟨hv, hz'⟩ | ⟨g, cap, cur, hv, _, _, hcap, _⟩⟩ := h.nw.own
      · exact absurd hz' (by omega)
      · have own := h.nw.own
        rw [hv] at own
        obtain ⟨w', hrun, ho, hg⟩ := run_append_fits (P := Tryd.prog) W 0 39 ty 28 i0 6 Tryd.underlying39 hif hz1 g s.n cap (flatE ls) own ad 0 c [] (by simp) (by simp) (by simp) (by omega)
        rw [Nat.add_zero, List.append_nil] at ho
        refine ⟨s, w', by rw [hv]; exact hrun, ?_, by simp⟩
        rw [List.append_nil]
        exact ⟨⟨by rw [hv]; exact ho, h.nw.new, h.nw.ap.trans' (apart_grown hg) (fun y hy => by simp at hy; subst hy; exact .inr (h.nw.new _ (by rw [hv]; rfl)))⟩, h.len⟩
end Go.Proofs.YtokaeiahhmaokaaDoor.ds
namespace Go.Proofs.YtokaeiahhmaokaaDoor.ds
open Go.ChangeShapes Go.WideShapes Go.ChangeAt Go.RowKit Go.Deep Go.Sort
set_option linter.unusedVariables false
set_option linter.unusedSimpArgs false
set_option maxRecDepth 100000
theorem own : ownKnob Tryd.prog.godebug = none := by kernel_rfl
theorem laidOut : laidOutB Tryd.prog = true := by kernel_rfl
theorem cells3 : Tryd.prog.cellsOf 3 = 1 := by kernel_rfl
theorem cells5 : Tryd.prog.cellsOf 5 = 1 := by kernel_rfl
theorem weigh {H : Type} (d : DataW H) : 0 < Rows.uptoBulk d := by
  cases d
  case lit l => cases l <;> (unfold Rows.uptoBulk; omega)
  all_goals (unfold Rows.uptoBulk; omega)
theorem many {H : Type} : ∀ l : List (DataW H), l.length ≤ Rows.uptoBulkAll l
  | [] => Nat.zero_le _
  | d :: l => by have h1 := weigh d; have h2 := many l; rw [Rows.uptoBulkAll, List.length_cons]; omega
theorem all_cons {H : Type} (d : DataW H) (l : List (DataW H)) : Rows.uptoBulkAll (d :: l) = Rows.uptoBulk d + Rows.uptoBulkAll l := by rw [Rows.uptoBulkAll]
theorem all_nil {H : Type} : Rows.uptoBulkAll ([] : List (DataW H)) = 0 := by rw [Rows.uptoBulkAll]
theorem slice_many {H : Type} (a b : List (DataW H)) : Rows.uptoBulkAll a ≤ Rows.uptoBulk (.slice a b) := by
  rw [Rows.uptoBulk]; omega
theorem cells144 : Tryd.prog.cellsOf 144 = 64 := by kernel_rfl
theorem gTab : Tryd.prog.globalNamed "math/bits.deBruijn64tab" = some 0 := by kernel_rfl
theorem gTabType : (Tryd.prog.globals[0]?).map (·.type) = some 144 := by kernel_rfl
def tabInts : List Int := [0, 1, 56, 2, 57, 49, 28, 3, 61, 58, 42, 50, 38, 29, 17, 4, 62, 47, 59, 36, 45, 43, 51, 22, 53, 39, 33, 30, 24, 18, 12, 5, 63, 55, 48, 27, 60, 41, 37, 16, 46, 35, 44, 21, 52, 32, 23, 11, 54, 26, 40, 15, 34, 20, 31, 10, 25, 14, 19, 9, 13, 8, 7, 6]
theorem tabInts_at : ∀ j : Fin 64, tabInts.getD j.val 0 = (Lib.deBruijn64tab.getD j.val 0 : Nat) := by decide +kernel
theorem table {W : World} (h : laidMetH Tryd.prog [("math/bits.deBruijn64tab", Rows.laid_math_bits_deBruijn64tab)] W) : Tab W := by
  have h1 : Lib.TabIs Tryd.prog W "math/bits.deBruijn64tab" .u8 tabInts := Lib.tabIs_of_head (rest := []) gTab gTabType Tryd.underlying144 Tryd.underlying5 cells5 cells144 h
  refine ⟨fun j hj => ?_⟩
  have := h1.cell gTab j hj
  rw [this, tabInts_at ⟨j, hj⟩]
/-- a world for the witness -/
noncomputable def laidWorld (os : Os) : World :=
  { World.holding Tryd.prog os ⟨#[], #[], []⟩ with heap := (World.holding Tryd.prog os ⟨#[], #[], []⟩).heap.modify 0 fun
      | .cells _ t frozen => .cells (tabInts.map fun z => Value.int .u8 z).toArray t frozen
      | o => o }
end Go.Proofs.YtokaeiahhmaokaaDoor.ds
namespace Go.Proofs.YtokaeiahhmaokaaDoor.ds
set_option linter.unusedVariables false
set_option linter.unusedSimpArgs false
theorem filter_lt {α : Type} (p q : α → Bool) : ∀ (l : List α), (∀ x ∈ l, p x = true → q x = true) → (∃ x ∈ l, q x = true ∧ p x = false) → (l.filter p).length < (l.filter q).length
  | [], _, h => by obtain ⟨x, hx, _⟩ := h; simp at hx
  | a :: l, hm, h => by
    have hm' : ∀ x ∈ l, p x = true → q x = true := fun x hx => hm x (List.mem_cons_of_mem _ hx)
    have hle : (l.filter p).length ≤ (l.filter q).length := by
      clear h hm
      induction l with
      | nil => simp
      | cons b l ih =>
        have := ih (fun x hx => hm' x (List.mem_cons_of_mem _ hx))
        have hb := hm' b List.mem_cons_self
        simp only [List.filter_cons]
        cases hp : p b <;> cases hq : q b <;> simp_all <;> omega
    obtain ⟨x, hx, hqx, hpx⟩ := h
    have ha := hm a List.mem_cons_self
    rcases List.mem_cons.1 hx with rfl | hx
    · simp only [List.filter_cons, hqx, hpx]
      simp
      omega
    · have ih := filter_lt p q l hm' ⟨x, hx, hqx, hpx⟩
      simp only [List.filter_cons]
      cases hp : p a <;> cases hq : q a <;> simp_all <;> omega
/-- what covers is closed, and nothing covers itself -/
structure Cl {α : Type} (cov : α → α → Bool) (M : List α) : Prop where
  tr : ∀ x ∈ M, ∀ y ∈ M, ∀ z ∈ M, cov x y = true → cov y z = true → cov x z = true
  ir : ∀ x ∈ M, cov x x = false
theorem Cl.top {α : Type} {cov : α → α → Bool} {M : List α} (h : Cl cov M) (P : α → Prop) : ∀ (n : Nat) (x : α), x ∈ M → P x → (M.filter (fun y => cov y x)).length ≤ n → ∃ m ∈ M, P m ∧ (m = x ∨ cov m x = true) ∧ ∀ y ∈ M, P y → cov y m = false := by
  intro n
  induction n with
  | zero =>
    intro x hx hp hn
    refine ⟨x, hx, hp, .inl rfl, fun y hy _ => ?_⟩
    have := List.length_eq_zero_iff.1 (Nat.le_zero.1 hn)
    cases hc : cov y x
    · rfl
    · have hm : y ∈ M.filter (fun y => cov y x) := List.mem_filter.2 ⟨hy, hc⟩
      rw [this] at hm
      simp at hm
  | succ n ih =>
    intro x hx hp hn
    by_cases hex : ∃ y ∈ M, P y ∧ cov y x = true
    · obtain ⟨y, hy, hpy, hc⟩ := hex
      have hlt := filter_lt (fun z => cov z y) (fun z => cov z x) M (fun z hz hzy => h.tr z hz y hy x hx hzy hc) ⟨y, hy, hc, h.ir y hy⟩
      obtain ⟨m, hm, hpm, hmy, hmax⟩ := ih y hy hpy (by omega)
      refine ⟨m, hm, hpm, .inr ?_, hmax⟩
      rcases hmy with rfl | hmy
      · exact hc
      · exact h.tr m hm y hy x hx hmy hc
    · refine ⟨x, hx, hp, .inl rfl, fun y hy hpy => ?_⟩
      cases hc : cov y x
      · rfl
      · exact absurd ⟨y, hy, hpy, hc⟩ hex
theorem Cl.top' {α : Type} {cov : α → α → Bool} {M : List α} (h : Cl cov M) (P : α → Prop) {x : α} (hx : x ∈ M) (hp : P x) : ∃ m ∈ M, P m ∧ (m = x ∨ cov m x = true) ∧ ∀ y ∈ M, P y → cov y m = false := h.top P _ x hx hp (Nat.le_refl _)
/-- an order of the writes: by dots, which tell them apart -/
structure Od {α : Type} (lt : α → α → Bool) (M : List α) : Prop where
  tri : ∀ x ∈ M, ∀ y ∈ M, x = y ∨ lt x y = true ∨ lt y x = true
  ir : ∀ x, lt x x = false
  tr : ∀ x y z, lt x y = true → lt y z = true → lt x z = true
def Up {α : Type} (lt : α → α → Bool) (l : List α) : Prop := l.Pairwise (fun a b => lt a b = true)
/-- sorted lists with the same members are the same -/
theorem Up.ext {α : Type} {lt : α → α → Bool} (ir : ∀ x, lt x x = false) (tr : ∀ x y z, lt x y = true → lt y z = true → lt x z = true) : ∀ (a b : List α), Up lt a → Up lt b → (∀ x, x ∈ a ↔ x ∈ b) → a = b
  | [], [], _, _, _ => rfl
  | [], y :: b, _, _, h => by have := (h y).2 List.mem_cons_self; simp at this
  | x :: a, [], _, _, h => by have := (h x).1 List.mem_cons_self; simp at this
  | x :: a, y :: b, ha, hb, h => by
    obtain ⟨ha1, ha2⟩ := List.pairwise_cons.1 ha
    obtain ⟨hb1, hb2⟩ := List.pairwise_cons.1 hb
    have e : x = y := by
      rcases List.mem_cons.1 ((h x).1 List.mem_cons_self) with e | hx
      · exact e
      · rcases List.mem_cons.1 ((h y).2 List.mem_cons_self) with e | hy
        · exact e.symm
        · have h1 := hb1 x hx
          have h2 := ha1 y hy
          have := tr _ _ _ h1 h2
          rw [ir] at this
          cases this
    subst e
    rw [Up.ext ir tr a b ha2 hb2 (fun z => ?_)]
    have hz := h z
    constructor
    · intro hza
      rcases List.mem_cons.1 (hz.1 (List.mem_cons_of_mem _ hza)) with e | hzb
      · subst e
        have := ha1 z hza
        rw [ir] at this
        cases this
      · exact hzb
    · intro hzb
      rcases List.mem_cons.1 (hz.2 (List.mem_cons_of_mem _ hzb)) with e | hza
      · subst e
        have := hb1 z hzb
        rw [ir] at this
        cases this
      · exact hza
def insA {α : Type} (lt : α → α → Bool) (u : α) : List α → List α
  | [] => [u]
  | x :: l => if lt u x = true then u :: x :: l else x :: insA lt u l
theorem insA_mem {α : Type} (lt : α → α → Bool) (u x : α) : ∀ l, x ∈ insA lt u l ↔ x = u ∨ x ∈ l
  | [] => by simp [insA]
  | y :: l => by
    unfold insA
    split
    · simp
    · simp only [List.mem_cons, insA_mem lt u x l]
      constructor
      · rintro (h | h | h) <;> simp [h]
      · rintro (h | h | h) <;> simp [h]
theorem insA_up {α : Type} {lt : α → α → Bool} (tr : ∀ x y z, lt x y = true → lt y z = true → lt x z = true) (u : α) : ∀ l, Up lt l → (∀ x ∈ l, lt u x = true ∨ lt x u = true) → Up lt (insA lt u l)
  | [], _, _ => by simp [insA, Up]
  | y :: l, h, ht => by
    obtain ⟨h1, h2⟩ := List.pairwise_cons.1 h
    unfold insA
    split
    · rename_i hlt
      exact List.pairwise_cons.2 ⟨fun x hx => by
        rcases List.mem_cons.1 hx with rfl | hx
        · exact hlt
        · exact tr _ _ _ hlt (h1 x hx), h⟩
    · rename_i hlt
      have hy : lt y u = true := (ht y List.mem_cons_self).resolve_left hlt
      exact List.pairwise_cons.2 ⟨fun x hx => by
        rcases (insA_mem lt u x l).1 hx with rfl | hx
        · exact hy
        · exact h1 x hx, insA_up tr u l h2 (fun x hx => ht x (List.mem_cons_of_mem _ hx))⟩
/-- the siblings: of those that are known, which none of them covers, by rising dots -/
structure Sib {α : Type} (cov lt : α → α → Bool) (M : List α) (K : α → Prop) (l : List α) : Prop where
  up : Up lt l
  mem : ∀ x, x ∈ l ↔ x ∈ M ∧ K x ∧ ∀ y ∈ M, K y → cov y x = false
def mrgA {α : Type} (cov lt : α → α → Bool) (l : List α) (u : α) : List α := if (l.filter fun t => !cov u t).any (fun t => cov t u) = true then l.filter fun t => !cov u t else insA lt u (l.filter fun t => !cov u t)
theorem Sib.merge {α : Type} {cov lt : α → α → Bool} {M : List α} {K : α → Prop} {l : List α} (h : Sib cov lt M K l) (hc : Cl cov M) (ho : Od lt M) {u : α} (hu : u ∈ M) (hK : ¬ K u) : Sib cov lt M (fun x => K x ∨ x = u) (mrgA cov lt l u) := by
  have hlm : ∀ x ∈ l, x ∈ M ∧ K x := fun x hx => ⟨((h.mem x).1 hx).1, ((h.mem x).1 hx).2.1⟩
  have hup : Up lt (l.filter fun t => !cov u t) := List.Pairwise.sublist List.filter_sublist h.up
  have hmf : ∀ x, x ∈ (l.filter fun t => !cov u t) ↔ x ∈ M ∧ K x ∧ (∀ y ∈ M, K y → cov y x = false) ∧ cov u x = false := fun x => by
    rw [List.mem_filter, h.mem]
    simp only [Bool.not_eq_true', and_assoc]
  unfold mrgA
  by_cases hany : (l.filter fun t => !cov u t).any (fun t => cov t u) = true
  · rw [if_pos hany]
    obtain ⟨t, ht, htu⟩ := List.any_eq_true.1 hany
    obtain ⟨t1, t2, t3, t4⟩ := (hmf t).1 ht
    refine ⟨hup, fun x => ?_⟩
    rw [hmf]
    constructor
    · rintro ⟨h1, h2, h3, h4⟩
      refine ⟨h1, .inl h2, fun y hy hky => ?_⟩
      rcases hky with hky | rfl
      · exact h3 y hy hky
      · exact h4
    · rintro ⟨h1, h2, h3⟩
      rcases h2 with h2 | rfl
      · exact ⟨h1, h2, fun y hy hky => h3 y hy (.inl hky), h3 u hu (.inr rfl)⟩
      · have := h3 t t1 (.inl t2)
        rw [htu] at this
        cases this
  · rw [if_neg hany]
    have hnot : ∀ t ∈ M, K t → cov t u = false := fun t ht hkt => by
      cases htu : cov t u
      · rfl
      · exfalso
        obtain ⟨m, hm, hkm, hmt, hmax⟩ := hc.top' K ht hkt
        have hmu : cov m u = true := by
          rcases hmt with rfl | hmt
          · exact htu
          · exact hc.tr m hm t ht u hu hmt htu
        have hum : cov u m = false := by
          cases hum : cov u m
          · rfl
          · have := hc.tr u hu m hm u hu hum hmu
            rw [hc.ir u hu] at this
            cases this
        exact hany (List.any_eq_true.2 ⟨m, (hmf m).2 ⟨hm, hkm, hmax, hum⟩, hmu⟩)
    refine ⟨insA_up ho.tr u _ hup (fun x hx => ?_), fun x => ?_⟩
    · obtain ⟨h1, h2, _⟩ := (hmf x).1 hx
      rcases ho.tri u hu x h1 with rfl | h | h
      · exact absurd h2 hK
      · exact .inl h
      · exact .inr h
    · rw [insA_mem, hmf]
      constructor
      · rintro (rfl | ⟨h1, h2, h3, h4⟩)
        · refine ⟨hu, .inr rfl, fun y hy hky => ?_⟩
          rcases hky with hky | rfl
          · exact hnot y hy hky
          · exact hc.ir y hy
        · refine ⟨h1, .inl h2, fun y hy hky => ?_⟩
          rcases hky with hky | rfl
          · exact h3 y hy hky
          · exact h4
      · rintro ⟨h1, h2, h3⟩
        rcases h2 with h2 | rfl
        · exact .inr ⟨h1, h2, fun y hy hky => h3 y hy (.inl hky), h3 u hu (.inr rfl)⟩
        · exact .inl rfl
theorem Sib.congr {α : Type} {cov lt : α → α → Bool} {M : List α} {K K' : α → Prop} {l : List α} (h : Sib cov lt M K l) (hk : ∀ x ∈ M, K x ↔ K' x) : Sib cov lt M K' l := by
  refine ⟨h.up, fun x => (h.mem x).trans ?_⟩
  constructor
  · rintro ⟨h1, h2, h3⟩
    exact ⟨h1, (hk x h1).1 h2, fun y hy hy2 => h3 y hy ((hk y hy).2 hy2)⟩
  · rintro ⟨h1, h2, h3⟩
    exact ⟨h1, (hk x h1).2 h2, fun y hy hy2 => h3 y hy ((hk y hy).1 hy2)⟩
/-- one more that is made: nobody knows it yet -/
theorem Sib.more {α : Type} {cov lt : α → α → Bool} {M : List α} {K : α → Prop} {l : List α} (h : Sib cov lt M K l) {u : α} (hK : ¬ K u) : Sib cov lt (M ++ [u]) K l := by
  refine ⟨h.up, fun x => (h.mem x).trans ?_⟩
  constructor
  · rintro ⟨h1, h2, h3⟩
    refine ⟨List.mem_append_left _ h1, h2, fun y hy hy2 => ?_⟩
    rcases List.mem_append.1 hy with hy | hy
    · exact h3 y hy hy2
    · simp at hy; subst hy; exact absurd hy2 hK
  · rintro ⟨h1, h2, h3⟩
    rcases List.mem_append.1 h1 with h1 | h1
    · exact ⟨h1, h2, fun y hy hy2 => h3 y (List.mem_append_left _ hy) hy2⟩
    · simp at h1; subst h1; exact absurd h2 hK
theorem Sib.ext {α : Type} {cov lt : α → α → Bool} {M : List α} {K : α → Prop} {a b : List α} (ho : Od lt M) (h : Sib cov lt M K a) (k : Sib cov lt M K b) : a = b := Up.ext ho.ir ho.tr a b h.up k.up (fun x => (h.mem x).trans (k.mem x).symm)
end Go.Proofs.YtokaeiahhmaokaaDoor.ds
namespace Go.Proofs.YtokaeiahhmaokaaDoor.ds
set_option linter.unusedVariables false
set_option linter.unusedSimpArgs false
/-- what a token has of the writes of its key: those that were told, and what these cover -/
structure Tok {α D : Type} (cov : α → α → Bool) (dot : α → D) (made M : List α) (told : List D) (tok : D → Prop) : Prop where
  mk1 : ∀ d, tok d → ∃ x ∈ made, dot x = d
  tl : ∀ d ∈ told, ∃ x ∈ M, dot x = d
  iff : ∀ y ∈ M, tok (dot y) ↔ dot y ∈ told ∨ ∃ x ∈ M, dot x ∈ told ∧ cov x y = true
theorem Tok.more {α D : Type} {cov : α → α → Bool} {dot : α → D} {made M : List α} {told : List D} {tok : D → Prop} (h : Tok cov dot made M told tok) {u : α} (hu : ∀ x ∈ made, dot x ≠ dot u) (hM : ∀ x ∈ M, x ∈ made) (hc : ∀ x ∈ M, cov x u = false) : Tok cov dot (made ++ [u]) (M ++ [u]) told tok := by
  refine ⟨fun d hd => ?_, fun d hd => ?_, fun y hy => ?_⟩
  · obtain ⟨x, hx, e⟩ := h.mk1 d hd
    exact ⟨x, List.mem_append_left _ hx, e⟩
  · obtain ⟨x, hx, e⟩ := h.tl d hd
    exact ⟨x, List.mem_append_left _ hx, e⟩
  · rcases List.mem_append.1 hy with hy | hy
    · rw [h.iff y hy]
      constructor
      · rintro (h1 | ⟨x, hx, h1, h2⟩)
        · exact .inl h1
        · exact .inr ⟨x, List.mem_append_left _ hx, h1, h2⟩
      · rintro (h1 | ⟨x, hx, h1, h2⟩)
        · exact .inl h1
        · rcases List.mem_append.1 hx with hx | hx
          · exact .inr ⟨x, hx, h1, h2⟩
          · simp at hx
            subst hx
            obtain ⟨z, hz, e⟩ := h.tl _ h1
            exact absurd e (hu z (hM z hz))
    · simp at hy
      subst hy
      constructor
      · intro ht
        obtain ⟨x, hx, e⟩ := h.mk1 _ ht
        exact absurd e (hu x hx)
      · rintro (h1 | ⟨x, hx, h1, h2⟩)
        · obtain ⟨z, hz, e⟩ := h.tl _ h1
          exact absurd e (hu z (hM z hz))
        · rcases List.mem_append.1 hx with hx | hx
          · rw [hc x hx] at h2; cases h2
          · simp at hx
            subst hx
            obtain ⟨z, hz, e⟩ := h.tl _ h1
            exact absurd e (hu z (hM z hz))
/-- .. of another key's writes: nothing changes -/
theorem Tok.other {α D : Type} {cov : α → α → Bool} {dot : α → D} {made M : List α} {told : List D} {tok : D → Prop} (h : Tok cov dot made M told tok) (u : α) : Tok cov dot (made ++ [u]) M told tok :=
  ⟨fun d hd => by obtain ⟨x, hx, e⟩ := h.mk1 d hd; exact ⟨x, List.mem_append_left _ hx, e⟩, h.tl, h.iff⟩
/-- a write that is made with a token: covering is closed -/
theorem Cl.more {α D : Type} {cov : α → α → Bool} {dot : α → D} {made M : List α} {told : List D} {tok : D → Prop} (h : Cl cov M) (t : Tok cov dot made M told tok) {u : α} (hn : ∀ x ∈ M, cov x u = false) (hi : cov u u = false) (hu : ∀ y ∈ M, cov u y = true ↔ tok (dot y)) : Cl cov (M ++ [u]) := by
  have hl : ∀ y ∈ M ++ [u], cov y u = false := fun y hy => by
    rcases List.mem_append.1 hy with hy | hy
    · exact hn y hy
    · simp at hy; subst hy; exact hi
  refine ⟨fun x hx0 y hy0 z hz0 hxy hyz => ?_, fun x hx => ?_⟩
  · rcases List.mem_append.1 hz0 with hz | hz
    · rcases List.mem_append.1 hy0 with hy | hy
      · rcases List.mem_append.1 hx0 with hx | hx
        · exact h.tr x hx y hy z hz hxy hyz
        · simp at hx
          rw [hx] at hxy ⊢
          rw [hu z hz, t.iff z hz]
          rw [hu y hy, t.iff y hy] at hxy
          rcases hxy with h1 | ⟨s, hs, h1, h2⟩
          · exact .inr ⟨y, hy, h1, hyz⟩
          · exact .inr ⟨s, hs, h1, h.tr s hs y hy z hz h2 hyz⟩
      · simp at hy
        rw [hy, hl x hx0] at hxy; cases hxy
    · simp at hz
      rw [hz, hl y hy0] at hyz; cases hyz
  · rcases List.mem_append.1 hx with hx | hx
    · exact h.ir x hx
    · simp at hx; subst hx; exact hi
/-- what is gathered of several nodes' siblings: those that none of them covers -/
theorem tok_get {α D I : Type} {cov lt : α → α → Bool} {dot : α → D} {made M : List α} (h : Cl cov M) (hM : ∀ x ∈ M, x ∈ made) (hd : ∀ x ∈ M, ∀ y ∈ M, dot x = dot y → x = y) (A : I → Prop) (K : I → D → Prop) (hK : ∀ i, A i → ∀ d, K i d → ∃ x ∈ made, dot x = d) (sib : I → List α) (hS : ∀ i, A i → Sib cov lt M (fun x => K i (dot x)) (sib i)) (g : List α) (hg : ∀ x, x ∈ g ↔ (∃ i, A i ∧ x ∈ sib i) ∧ ∀ y, (∃ i, A i ∧ y ∈ sib i) → cov y x = false) (ctx : α → D → Prop) (hctx : ∀ x ∈ M, ∀ d, ctx x d → ∃ y ∈ made, dot y = d) (hcov : ∀ x ∈ M, ∀ y ∈ M, cov x y = true ↔ ctx x (dot y)) (base : I → D → Prop) (hb : ∀ i, A i → ∀ d, base i d → K i d) (tok : D → Prop) (ht : ∀ d, tok d ↔ ∃ i, A i ∧ (base i d ∨ ∃ s ∈ sib i, d = dot s ∨ ctx s d)) :
    Tok cov dot made M (g.map dot) tok := by
  have hUM : ∀ x, (∃ i, A i ∧ x ∈ sib i) → x ∈ M := fun x ⟨i, hi, hx⟩ => (((hS i hi).mem x).1 hx).1
  have hgU : ∀ x ∈ g, ∃ i, A i ∧ x ∈ sib i := fun x hx => ((hg x).1 hx).1
  have htop : ∀ m, (∃ i, A i ∧ m ∈ sib i) → ∃ t ∈ g, t = m ∨ cov t m = true := fun m hm => by
    obtain ⟨t, h1, h2, h3, h4⟩ := h.top' (fun x => ∃ i, A i ∧ x ∈ sib i) (hUM m hm) hm
    exact ⟨t, (hg t).2 ⟨h2, fun y hy => h4 y (hUM y hy) hy⟩, h3⟩
  refine ⟨fun d hd' => ?_, fun d hd' => ?_, fun y hy => ?_⟩
  · obtain ⟨i, hi, hb' | ⟨s, hs, e | hc⟩⟩ := (ht d).1 hd'
    · exact hK i hi d (hb i hi d hb')
    · exact ⟨s, hM s (hUM s ⟨i, hi, hs⟩), e.symm⟩
    · exact hctx s (hUM s ⟨i, hi, hs⟩) d hc
  · obtain ⟨x, hx, e⟩ := List.mem_map.1 hd'
    exact ⟨x, hUM x (hgU x hx), e⟩
  · constructor
    · intro hty
      have fin : ∀ s, (∃ i, A i ∧ s ∈ sib i) → (s = y ∨ cov s y = true) → dot y ∈ g.map dot ∨ ∃ x ∈ M, dot x ∈ g.map dot ∧ cov x y = true := fun s hs hsy => by
        obtain ⟨t, ht1, ht2⟩ := htop s hs
        have htM := hUM t (hgU t ht1)
        have hty : t = y ∨ cov t y = true := by
          rcases ht2 with rfl | ht2
          · exact hsy
          · rcases hsy with rfl | hsy
            · exact .inr ht2
            · exact .inr (h.tr t htM s (hUM s hs) y hy ht2 hsy)
        rcases hty with rfl | hty
        · exact .inl (List.mem_map.2 ⟨t, ht1, rfl⟩)
        · exact .inr ⟨t, htM, List.mem_map.2 ⟨t, ht1, rfl⟩, hty⟩
      obtain ⟨i, hi, hb' | ⟨s, hs, e | hc⟩⟩ := (ht (dot y)).1 hty
      · obtain ⟨m, hm, hkm, hmy, hmax⟩ := h.top' (fun x => K i (dot x)) hy (hb i hi _ hb')
        exact fin m ⟨i, hi, ((hS i hi).mem m).2 ⟨hm, hkm, hmax⟩⟩ hmy
      · exact fin s ⟨i, hi, hs⟩ (.inl (hd s (hUM s ⟨i, hi, hs⟩) y hy e.symm))
      · exact fin s ⟨i, hi, hs⟩ (.inr ((hcov s (hUM s ⟨i, hi, hs⟩) y hy).2 hc))
    · rintro (h1 | ⟨x, hx, h1, h2⟩)
      · obtain ⟨t, ht1, e⟩ := List.mem_map.1 h1
        obtain ⟨i, hi, hs⟩ := hgU t ht1
        exact (ht _).2 ⟨i, hi, .inr ⟨t, hs, .inl e.symm⟩⟩
      · obtain ⟨t, ht1, e⟩ := List.mem_map.1 h1
        obtain ⟨i, hi, hs⟩ := hgU t ht1
        have etx : t = x := hd t (hUM t ⟨i, hi, hs⟩) x hx e
        subst etx
        exact (ht _).2 ⟨i, hi, .inr ⟨t, hs, .inr ((hcov t hx y hy).1 h2)⟩⟩
/-- the writes of a list that none of it covers are those of all, where the list has all -/
theorem Sib.of_all {α : Type} {cov lt : α → α → Bool} {M l : List α} (hup : Up lt l) (h : ∀ x, x ∈ l ↔ x ∈ M ∧ ∀ y ∈ M, cov y x = false) : Sib cov lt M (fun _ => True) l :=
  ⟨hup, fun x => (h x).trans ⟨fun ⟨h1, h2⟩ => ⟨h1, trivial, fun y hy _ => h2 y hy⟩, fun ⟨h1, _, h2⟩ => ⟨h1, fun y hy => h2 y hy trivial⟩⟩⟩
theorem Sib.nil {α : Type} (cov lt : α → α → Bool) (M : List α) : Sib cov lt M (fun _ => False) [] := ⟨List.Pairwise.nil, fun x => ⟨fun h => by simp at h, fun h => h.2.1.elim⟩⟩
end Go.Proofs.YtokaeiahhmaokaaDoor.ds
