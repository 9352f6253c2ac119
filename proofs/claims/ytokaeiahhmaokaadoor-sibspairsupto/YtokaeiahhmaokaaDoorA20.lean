import Derived.Test.YtokaeiahhmaokaaDoorA31
import Derived.Test.YtokaeiahhmaokaaDoorA34
namespace Go.Proofs.YtokaeiahhmaokaaDoor.ds
open Go.ChangeShapes Go.WideShapes Go.ChangeAt Go.RowKit Go.Sort
set_option linter.unusedVariables false
set_option linter.unusedSimpArgs false
def keyK : ByteArray := ⟨#[107]⟩
def aE : E := ⟨0, 1, ⟨#[107]⟩, false, ⟨none, 0, 0⟩, ⟨none, 0, 0⟩⟩
def bE (B : Nat) : E := ⟨1, 1, ⟨#[107]⟩, false, ⟨none, 0, 0⟩, ⟨some ⟨B, 0, none⟩, 1, 1⟩⟩
def aW : Wr := ⟨0, 1, ⟨#[107]⟩, false, [], []⟩
def bW : Wr := ⟨1, 1, ⟨#[107]⟩, false, [], [⟨0, 1, 0⟩]⟩
theorem okb : OkL 64 [(⟨0, 1, 0⟩ : S)] := ⟨fun x hx => by
  simp at hx
  subst hx
  exact ⟨by decide, by decide, by decide, by decide, by simp, by decide, by simp [bl], by simp [bl]⟩, by simp⟩
theorem hasb : hasd [(⟨0, 1, 0⟩ : S)] 0 1 = true := by
  unfold hasd
  rw [norm_of okb]
  unfold hasv
  simp [ofn, dot]
theorem kk : keq ⟨#[107]⟩ ⟨#[107]⟩ = true := by unfold keq; simp
theorem cv1 : cvW bW aW = true := by unfold cvW; show (keq ⟨#[107]⟩ ⟨#[107]⟩ && hasd [(⟨0, 1, 0⟩ : S)] 0 1) = true; rw [kk, hasb]; rfl
theorem left1 : leftW [aW] bW = [] := by unfold leftW; simp [cv1]
theorem merge1 : mergeW [aW] bW = [bW] := by unfold mergeW; rw [left1]; simp [insW]
theorem key1 : ([aW] : List Wr).any (fun t => !keq t.k bW.k) = false := by
  simp only [List.any_cons, List.any_nil, Bool.or_false]
  show (!keq ⟨#[107]⟩ ⟨#[107]⟩) = false
  rw [kk]; rfl
theorem dot1 : ([aW] : List Wr).any (fun t => deqW t bW) = false := by simp [deqW, aW, bW]
theorem merr1 : merrW [aW] bW 1 = 0 := by unfold merrW; rw [if_neg (by rw [key1]; simp), if_neg (by rw [dot1]; simp), merge1]; simp
theorem mlist1 : mlistW [aW] bW 1 = [bW] := by unfold mlistW; rw [if_neg (by rw [key1]; simp), if_neg (by rw [dot1]; simp), merge1]; simp
theorem a_reads (w : World) : Reads w aE aW := ⟨rfl, rfl, rfl, rfl, Rd.nil _ _, rfl, by decide, by simp [aW], ⟨Sp.nil _ _, rfl, by decide, by simp [aW]⟩, by decide, fun _ => ⟨rfl, rfl⟩, fun _ => ⟨rfl, rfl⟩⟩
theorem b_reads {w : World} {B : Nat} (h : w.heap[B]? = some (.cells #[.int .i64 0, .int .i64 1, .int .u64 0] 80 (0, 0))) : Reads w (bE B) bW := by
  refine ⟨rfl, rfl, rfl, rfl, Rd.nil _ _, rfl, by simp [bE], by simp [bW], ⟨fun _ => ⟨B, 0, rfl, lt_of_heap h, fun i hi => ?_⟩, rfl, by simp [bE], by simp [bW]⟩, by simp [bE], fun _ => ⟨rfl, rfl⟩, fun e => by cases e⟩
  have e : i = 0 := by simp [bW] at hi; exact hi
  subst e
  refine ⟨?_, ?_, ?_⟩ <;> (rw [cell_of_row _ _ _ _ _ _ h]; rfl)
theorem buildB (W : World) : Sem.run Tryd.prog (Instr.buildSlice 26 1 #[(0, .agg #[.int .i64 0, .int .i64 1, .int .u64 0])]) W = .ok (.slice (some ⟨W.heap.size, 0, none⟩) 1 1) (W.alloc (.cells #[.int .i64 0, .int .i64 1, .int .u64 0] 80)) := by
  obtain ⟨ie, hi, hz0, hz1, hz2⟩ := info_parts info52
  refine run_buildSlice W 26 80 1 _ _ ie _ Tryd.underlying26 hi hz0 (by rw [hz1]; decide) (by rw [hz1]; decide) ?_
  rw [hz1]
  first | rfl | (simp [Instr.fill, Array.range, Value.cells, Array.ofFn]; done) | kernel_rfl
set_option maxHeartbeats 8000000 in
set_option maxRecDepth 100000 in
theorem able_ok (w : World) : Calls Tryd.prog 11 #[] w fun r w' => r = .returned (.bool true) ∧ Apart [] w w' := by
  obtain ⟨wa, hwa⟩ : ∃ wa, wa = w.alloc (boxE aE) := ⟨_, rfl⟩
  obtain ⟨ws, hws⟩ : ∃ ws, ws = wa.alloc (.cells #[.int .i64 0, .int .i64 1, .int .u64 0] 80) := ⟨_, rfl⟩
  obtain ⟨wb, hwb⟩ : ∃ wb, wb = ws.alloc (boxE (bE wa.heap.size)) := ⟨_, rfl⟩
  obtain ⟨wl, hwl⟩ : ∃ wl, wl = wb.alloc (boxE aE) := ⟨_, rfl⟩
  have ra : wa.heap[w.heap.size]? = some (boxE aE) := by rw [hwa]; exact heap_alloc_new w _
  have rs : ws.heap[wa.heap.size]? = some (.cells #[.int .i64 0, .int .i64 1, .int .u64 0] 80 (0, 0)) := by rw [hws]; exact heap_alloc_new wa _
  have rb : wb.heap[ws.heap.size]? = some (boxE (bE wa.heap.size)) := by rw [hwb]; exact heap_alloc_new ws _
  have rl : wl.heap[wb.heap.size]? = some (boxE aE) := by rw [hwl]; exact heap_alloc_new wb _
  have asx : Apart [] wa ws := by rw [hws]; exact (Apart.refl _ _).alloc _
  have ab : Apart [] ws wb := by rw [hwb]; exact (Apart.refl _ _).alloc _
  have al : Apart [] wb wl := by rw [hwl]; exact (Apart.refl _ _).alloc _
  have a0 : Apart [] w wa := by rw [hwa]; exact (Apart.refl _ _).alloc _
  have hA : ∀ W : World, Apart [] wb W → Cap W w.heap.size aE := fun W a => (((asx.trans ab).trans a).block _ (lt_of_heap ra) (by simp)).trans ra
  have hB : ∀ W : World, Apart [] wb W → Cap W ws.heap.size (bE wa.heap.size) := fun W a => (a.block _ (lt_of_heap rb) (by simp)).trans rb
  have hS : ∀ W : World, Apart [] wb W → Reads W (bE wa.heap.size) bW := fun W a => b_reads (((ab.trans a).block _ (lt_of_heap rs) (by simp)).trans rs)
  have HA := hid hA
  have HB := hid hB
  have HS := hid hS
  have HAL := hid al
  have HA0 := hid (a0.trans (asx.trans ab))
  have hMg := merge_reads wl (some ⟨wb.heap.size, 0, none⟩) 1 1 [aE] [aW] (bE wa.heap.size) bW 1 (LE.one rl) (by decide) (fun e => by cases e) rfl (reads_one (a_reads _)) (hS wl al)
  rw [merr1, mlist1] at hMg
  have hb1 := fun W => buildE W aE
  have hb2 := buildB
  obtain ⟨t0, t1, t2, t3, t4, t5⟩ := row6 (hA wb (Apart.refl _ _))
  obtain ⟨u0, u1, u2, u3, u4, u5⟩ := row6 (hB wl al)
  dsimp only [bE, E.agg, Sl.v] at hMg
  dsimp only [aE, E.agg, Sl.v, boxE] at hb1
  dsimp only [aE, boxE, Sl.v] at hwa hwl
  dsimp only [bE, boxE, Sl.v] at hwb
  dsimp only [aE, Sl.v] at t0 t1 t2 t3 t4 t5
  dsimp only [bE, Sl.v] at u0 u1 u2 u3 u4 u5
  have hss : ws.heap.size = wa.heap.size + 1 := by rw [hws]; simp
  rw [hss] at u0 u1 u2 u3 u4 u5 HB
  subst hwl
  have cvb : ∀ W : World, Apart [] wb W → Calls Tryd.prog 17 #[(bE wa.heap.size).agg, aE.agg] W fun r w' => r = .returned (.bool true) ∧ Apart [] W w' := fun W a => covers_ok (bE wa.heap.size) aE [⟨0, 1, 0⟩] W (HS.out W a).x true (by unfold cvE; show true = (keq ⟨#[107]⟩ ⟨#[107]⟩ && hasd [(⟨0, 1, 0⟩ : S)] 0 1); rw [kk, hasb]; rfl)
  have cva : ∀ W : World, Calls Tryd.prog 17 #[aE.agg, (bE wa.heap.size).agg] W fun r w' => r = .returned (.bool false) ∧ Apart [] W w' := fun W => covers_ok aE (bE wa.heap.size) [] W (a_reads W).x false (by unfold cvE; rw [hasd_nil]; simp)
  have HCA := hid cva
  have HCBb := hid cvb
  clear ra rs rb rl asx ab al a0 hA hB hS hss cva cvb
  go_enter Tryd.func11, Tryd.ntmps11
  go_upto_region 2 with fail
  rw [← hwa]
  clear hwa
  go_upto_region 3 with fail
  rw [← hws, ← hwb]
  clear hws hwb
  go_wp2_with fail
  refine hMg.mono ?_
  clear hMg t0 t1 t2 t3 t4 t5 u0 u1 u2 u3 u4 u5
  rintro _ w3 ⟨⟨p3, n3, c3⟩, fs3, rfl, hn3, a3, later3⟩
  have HA3 := hid (HAL.out.trans a3)
  have HLA := hid later3
  have e3 : n3 = 1 := hn3
  subst e3
  clear later3 hn3 a3
  dsimp only
  obtain ⟨t0, t1, t2, t3, t4, t5⟩ := row6 (HA.out w3 HA3.out)
  obtain ⟨u0, u1, u2, u3, u4, u5⟩ := row6 (HB.out w3 HA3.out)
  have hc1 := HCBb.out w3 HA3.out
  dsimp only [aE, Sl.v] at t0 t1 t2 t3 t4 t5
  dsimp only [bE, Sl.v] at u0 u1 u2 u3 u4 u5
  dsimp only [aE, bE, E.agg, Sl.v] at hc1
  go_wp2_with fail
  refine hc1.mono ?_
  clear hc1 t0 t1 t2 t3 t4 t5 u0 u1 u2 u3 u4 u5
  rintro _ w4 ⟨rfl, a4⟩
  have HA4 := hid (HA3.out.trans a4)
  have HA34 := hid a4
  clear a4
  dsimp only
  obtain ⟨t0, t1, t2, t3, t4, t5⟩ := row6 (HA.out w4 HA4.out)
  obtain ⟨u0, u1, u2, u3, u4, u5⟩ := row6 (HB.out w4 HA4.out)
  have hc1 := HCA.out w4
  dsimp only [aE, Sl.v] at t0 t1 t2 t3 t4 t5
  dsimp only [bE, Sl.v] at u0 u1 u2 u3 u4 u5
  dsimp only [aE, bE, E.agg, Sl.v] at hc1
  go_wp2_with fail
  refine hc1.mono ?_
  clear hc1 t0 t1 t2 t3 t4 t5 u0 u1 u2 u3 u4 u5
  rintro _ w5 ⟨rfl, a5⟩
  have HA5 := hid (HA4.out.trans a5)
  obtain ⟨L5, R5⟩ := HLA.out 0 0 w5 ((HA34.out.trans a5).fr0 0 0) (Nat.zero_le _)
  obtain ⟨P, o, hP, _, hc⟩ := L5.at (by decide)
  have hr := R5 0 (by decide)
  obtain ⟨k0, _, k2, _⟩ := hc 0 (by decide)
  have q1 : (gE fs3 0).n = 1 := hr.n
  have q2 : (gE fs3 0).k = ⟨#[107]⟩ := hr.k
  rw [q1] at k0
  rw [q2] at k2
  subst hP
  rw [Nat.zero_mul, Nat.add_zero] at k0 k2
  clear a5 L5 R5 hc hr q1 q2
  dsimp only
  go_wp2
  go_ret
  exact ⟨rfl, HA0.out.trans HA5.out⟩
end Go.Proofs.YtokaeiahhmaokaaDoor.ds
namespace Go.Proofs.YtokaeiahhmaokaaDoor.ds
open Go.ChangeShapes Go.WideShapes Go.ChangeAt Go.RowKit Go.Sort
set_option linter.unusedVariables false
set_option linter.unusedSimpArgs false
/-- a list of writes that came in -/
structure In (w : World) (s : Sl) (es : List E) (rs : List Wr) : Prop where
  le : LE w s.p s.n es
  n : s.n ≤ 1048576
  len : rs.length = s.n
  rd : ∀ j, j < s.n → Reads w (gE es j) (gR rs j)
  ok : s.ok
theorem In.kept0 {w w' : World} {s : Sl} {es : List E} {rs : List Wr} (h : In w s es rs) (a : Apart [] w w') : In w' s es rs := ⟨h.le.kept0 a, h.n, h.len, fun j hj => (h.rd j hj).kept0 a, h.ok⟩
/-- the sets of a case -/
def Sets (w : World) (p : Option Addr) (n : Nat) (F : Nat → Sl × List E × List Wr) : Prop :=
  0 < n → ∃ P o, p = some ⟨P, o, none⟩ ∧ P < w.heap.size ∧ ∀ i, i < n → w.cell? ⟨P, o + i, none⟩ = some (F i).1.v ∧ In w (F i).1 (F i).2.1 (F i).2.2
theorem mergesO (w : World) (S B : Value) (u : E) (lim gap : Int) : (w.alloc (caseO S B u lim gap)).heap[w.heap.size]? = some (.cells #[S, .int .i64 u.n, .int .i64 u.c, .string u.k, .bool u.d, .slice u.v.p u.v.n u.v.c, .slice u.x.p u.x.n u.x.c, B, .int .i64 lim, .int .i64 gap] 31 (0, 0)) := heap_alloc_new w _
theorem caseCells {w : World} {C : Nat} {a b c d e f g h i j : Value} {t : TypeId} (hr : w.heap[C]? = some (.cells #[a, b, c, d, e, f, g, h, i, j] t (0, 0))) : w.cell? ⟨C, 0, none⟩ = some a ∧ w.cell? ⟨C, 1, none⟩ = some b ∧ w.cell? ⟨C, 2, none⟩ = some c ∧ w.cell? ⟨C, 3, none⟩ = some d ∧ w.cell? ⟨C, 4, none⟩ = some e ∧ w.cell? ⟨C, 5, none⟩ = some f ∧ w.cell? ⟨C, 6, none⟩ = some g ∧ w.cell? ⟨C, 7, none⟩ = some h ∧ w.cell? ⟨C, 8, none⟩ = some i ∧ w.cell? ⟨C, 9, none⟩ = some j := by
  refine ⟨?_, ?_, ?_, ?_, ?_, ?_, ?_, ?_, ?_, ?_⟩ <;> (rw [cell_of_row _ _ _ _ _ _ hr]; rfl)
/-- all the writes, one set behind the other -/
def catE (F : Nat → Sl × List E × List Wr) (u : E) : Nat → List E
  | 0 => [u]
  | i + 1 => catE F u i ++ (F i).2.1
/-- each of them can be read -/
def AllR (w : World) (ls : List E) : Prop := ∀ e ∈ ls, ∃ r, Reads w e r
theorem AllR.kept0 {w w' : World} {ls : List E} (h : AllR w ls) (a : Apart [] w w') : AllR w' ls := fun e he => by
  obtain ⟨r, hr⟩ := h e he
  exact ⟨r, hr.kept0 a⟩
theorem gE_memE (ls : List E) (j : Nat) (h : j < ls.length) : gE ls j ∈ ls := by rw [gE_eq ls j h]; exact List.getElem_mem h
theorem cat_all {w : World} {p : Option Addr} {n : Nat} {F : Nat → Sl × List E × List Wr} (hS : Sets w p n F) {u : E} {ru : Wr} (hu : Reads w u ru) : ∀ i, i ≤ n → AllR w (catE F u i)
  | 0, _ => fun e he => by
    simp [catE] at he
    subst he
    exact ⟨ru, hu⟩
  | i + 1, hi => fun e he => by
    unfold catE at he
    rcases List.mem_append.1 he with h | h
    · exact cat_all hS hu i (by omega) e h
    · obtain ⟨P, o, _, _, hc⟩ := hS (by omega)
      obtain ⟨_, hin⟩ := hc i (by omega)
      obtain ⟨k, hk, rfl⟩ := List.mem_iff_getElem.1 h
      have hk' : k < (F i).1.n := by rw [← hin.le.len]; exact hk
      rw [← gE_eq _ _ hk]
      exact ⟨_, hin.rd k hk'⟩
/-- append of a list that came in, to a list of the call's own that is not empty -/
theorem app_in {w W : World} {s : Sl} {ls : List E} (h : OwnE w W s ls) (h0 : 0 < s.n) (hn : s.n ≤ 1099512676352) {t : Sl} {es : List E} {rs : List Wr} (hi : In W t es rs) (ty : TypeId) :
    ∃ s' W', (Builtin.append_ #[39, 39] ty #[s.v, t.v]).run Tryd.prog W = .ok (Sl.v s') W' ∧ OwnE w W' s' (ls ++ es) ∧ s'.n = s.n + t.n := by
  obtain ⟨i0, hif, hz0, hz1, hz2⟩ := info_parts infoW
  have htn := hi.n
  have hlen : (flatE es).length = t.n * 6 := by rw [flatE_length, hi.le.len]
  by_cases hm : 0 < t.n
  · obtain ⟨P, o, hp, hP, hc⟩ := hi.le.rd (by rw [hlen]; omega)
    obtain ⟨s', W', hrun, hnw, hsn, ap, _⟩ := run_appS (s := s) 39 ty 28 i0 _ 6 88 Tryd.underlying39 hif hz0 hz1 hz2 rfl (by decide) h.nw ⟨P, o, none⟩ t.n t.c (flatE es) hm hlen (fun j u hj => by rw [Addr.add_lit]; exact hc j u hj) (oneE es) (by unfold maxLen; omega) (by omega)
    refine ⟨s', W', ?_, ⟨by rw [flatE_append]; exact hnw, by rw [List.length_append, h.len, hi.le.len, hsn]⟩, hsn⟩
    unfold Sl.v at hrun ⊢
    rw [hp]
    exact hrun
  · have hz : t.n = 0 := by omega
    have he : es = [] := List.length_eq_zero_iff.1 (by rw [hi.le.len]; exact hz)
    subst he
    obtain ⟨p, n, c⟩ := t
    simp only at hz
    subst hz
    cases p with
    | none =>
      obtain ⟨_, hc⟩ := hi.ok rfl
      simp only at hc
      subst hc
      exact ⟨s, W, run_append_owned_none (P := Tryd.prog) W 0 39 ty 28 i0 6 Tryd.underlying39 hif s.v s.n (flatE ls) h.nw.own, by rw [List.append_nil]; exact h, by simp⟩
    | some ad =>
      obtain ⟨_, ⟨hv, hz'⟩ | ⟨g, cap, cur, hv, _, _, hcap, _⟩⟩ := h.nw.own
      · exact absurd hz' (by omega)
      · have own := h.nw.own
        rw [hv] at own
        obtain ⟨w', hrun, ho, hg⟩ := run_append_fits (P := Tryd.prog) W 0 39 ty 28 i0 6 Tryd.underlying39 hif hz1 g s.n cap (flatE ls) own ad 0 c [] (by simp) (by simp) (by simp) (by omega)
        rw [Nat.add_zero, List.append_nil] at ho
        refine ⟨s, w', by rw [hv]; exact hrun, ?_, by simp⟩
        rw [List.append_nil]
        exact ⟨⟨by rw [hv]; exact ho, h.nw.new, h.nw.ap.trans' (apart_grown hg) (fun y hy => by simp at hy; subst hy; exact .inr (h.nw.new _ (by rw [hv]; rfl)))⟩, h.len⟩
end Go.Proofs.YtokaeiahhmaokaaDoor.ds
