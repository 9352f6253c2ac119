import Derived.Test.YtokaeiahhmaokaaC12
namespace Go.Proofs.Ytokaeiahhmaokaa.ds
open Go.ChangeShapes Go.WideShapes Go.ChangeAt Go.RowKit Go.Sort
set_option linter.unusedVariables false
set_option linter.unusedSimpArgs false
def keyK : ByteArray := ⟨#[107]⟩
def aE : E := ⟨0, 1, ⟨#[107]⟩, false, ⟨none, 0, 0⟩, ⟨none, 0, 0⟩⟩
def bE (B : Nat) : E := ⟨1, 1, ⟨#[107]⟩, false, ⟨none, 0, 0⟩, ⟨some ⟨B, 0, none⟩, 1, 1⟩⟩
def aW : Wr := ⟨0, 1, ⟨#[107]⟩, false, [], []⟩
def bW : Wr := ⟨1, 1, ⟨#[107]⟩, false, [], [⟨0, 1, 0⟩]⟩
theorem okb : OkL 64 [(⟨0, 1, 0⟩ : S)] := ⟨fun x hx => by
  simp at hx
  subst hx
  exact ⟨by decide, by decide, by decide, by decide, by simp, by decide, by simp [bl], by simp [bl]⟩, by simp⟩
theorem hasb : hasd [(⟨0, 1, 0⟩ : S)] 0 1 = true := by
  unfold hasd
  rw [norm_of okb]
  unfold hasv
  simp [ofn, dot]
theorem kk : keq ⟨#[107]⟩ ⟨#[107]⟩ = true := by unfold keq; simp
theorem cv1 : cvW bW aW = true := by unfold cvW; show (keq ⟨#[107]⟩ ⟨#[107]⟩ && hasd [(⟨0, 1, 0⟩ : S)] 0 1) = true; rw [kk, hasb]; rfl
theorem left1 : leftW [aW] bW = [] := by unfold leftW; simp [cv1]
theorem merge1 : mergeW [aW] bW = [bW] := by unfold mergeW; rw [left1]; simp [insW]
theorem key1 : ([aW] : List Wr).any (fun t => !keq t.k bW.k) = false := by
  simp only [List.any_cons, List.any_nil, Bool.or_false]
  show (!keq ⟨#[107]⟩ ⟨#[107]⟩) = false
  rw [kk]; rfl
theorem dot1 : ([aW] : List Wr).any (fun t => deqW t bW) = false := by simp [deqW, aW, bW]
theorem merr1 : merrW [aW] bW 1 = 0 := by unfold merrW; rw [if_neg (by rw [key1]; simp), if_neg (by rw [dot1]; simp), merge1]; simp
theorem mlist1 : mlistW [aW] bW 1 = [bW] := by unfold mlistW; rw [if_neg (by rw [key1]; simp), if_neg (by rw [dot1]; simp), merge1]; simp
theorem a_reads (w : World) : Reads w aE aW := ⟨rfl, rfl, rfl, rfl, Rd.nil _ _, rfl, by decide, by simp [aW], ⟨Sp.nil _ _, rfl, by decide, by simp [aW]⟩, by decide, fun _ => ⟨rfl, rfl⟩, fun _ => ⟨rfl, rfl⟩⟩
theorem b_reads {w : World} {B : Nat} (h : w.heap[B]? = some (.cells #[.int .i64 0, .int .i64 1, .int .u64 0] 38 (0, 0))) : Reads w (bE B) bW := by
  refine ⟨rfl, rfl, rfl, rfl, Rd.nil _ _, rfl, by simp [bE], by simp [bW], ⟨fun _ => ⟨B, 0, rfl, lt_of_heap h, fun i hi => ?_⟩, rfl, by simp [bE], by simp [bW]⟩, by simp [bE], fun _ => ⟨rfl, rfl⟩, fun e => by cases e⟩
  have e : i = 0 := by simp [bW] at hi; exact hi
  subst e
  refine ⟨?_, ?_, ?_⟩ <;> (rw [cell_of_row _ _ _ _ _ _ h]; rfl)
theorem buildB (W : World) : Sem.run Try.prog (Instr.buildSlice 26 1 #[(0, .agg #[.int .i64 0, .int .i64 1, .int .u64 0])]) W = .ok (.slice (some ⟨W.heap.size, 0, none⟩) 1 1) (W.alloc (.cells #[.int .i64 0, .int .i64 1, .int .u64 0] 38)) := by
  obtain ⟨ie, hi, hz0, hz1, hz2⟩ := info_parts info52
  refine run_buildSlice W 26 38 1 _ _ ie _ Try.underlying26 hi hz0 (by rw [hz1]; decide) (by rw [hz1]; decide) ?_
  rw [hz1]
  first | rfl | (simp [Instr.fill, Array.range, Value.cells, Array.ofFn]; done) | kernel_rfl
set_option maxHeartbeats 8000000 in
set_option maxRecDepth 100000 in
theorem able_ok (w : World) : Calls Try.prog 4 #[] w fun r w' => r = .returned (.bool true) ∧ Apart [] w w' := by
  obtain ⟨wa, hwa⟩ : ∃ wa, wa = w.alloc (boxE aE) := ⟨_, rfl⟩
  obtain ⟨ws, hws⟩ : ∃ ws, ws = wa.alloc (.cells #[.int .i64 0, .int .i64 1, .int .u64 0] 38) := ⟨_, rfl⟩
  obtain ⟨wb, hwb⟩ : ∃ wb, wb = ws.alloc (boxE (bE wa.heap.size)) := ⟨_, rfl⟩
  obtain ⟨wl, hwl⟩ : ∃ wl, wl = wb.alloc (boxE aE) := ⟨_, rfl⟩
  have ra : wa.heap[w.heap.size]? = some (boxE aE) := by rw [hwa]; exact heap_alloc_new w _
  have rs : ws.heap[wa.heap.size]? = some (.cells #[.int .i64 0, .int .i64 1, .int .u64 0] 38 (0, 0)) := by rw [hws]; exact heap_alloc_new wa _
  have rb : wb.heap[ws.heap.size]? = some (boxE (bE wa.heap.size)) := by rw [hwb]; exact heap_alloc_new ws _
  have rl : wl.heap[wb.heap.size]? = some (boxE aE) := by rw [hwl]; exact heap_alloc_new wb _
  have asx : Apart [] wa ws := by rw [hws]; exact (Apart.refl _ _).alloc _
  have ab : Apart [] ws wb := by rw [hwb]; exact (Apart.refl _ _).alloc _
  have al : Apart [] wb wl := by rw [hwl]; exact (Apart.refl _ _).alloc _
  have a0 : Apart [] w wa := by rw [hwa]; exact (Apart.refl _ _).alloc _
  have hA : ∀ W : World, Apart [] wb W → Cap W w.heap.size aE := fun W a => (((asx.trans ab).trans a).block _ (lt_of_heap ra) (by simp)).trans ra
  have hB : ∀ W : World, Apart [] wb W → Cap W ws.heap.size (bE wa.heap.size) := fun W a => (a.block _ (lt_of_heap rb) (by simp)).trans rb
  have hS : ∀ W : World, Apart [] wb W → Reads W (bE wa.heap.size) bW := fun W a => b_reads (((ab.trans a).block _ (lt_of_heap rs) (by simp)).trans rs)
  have HA := hid hA
  have HB := hid hB
  have HS := hid hS
  have HAL := hid al
  have HA0 := hid (a0.trans (asx.trans ab))
  have hMg := merge_reads wl (some ⟨wb.heap.size, 0, none⟩) 1 1 [aE] [aW] (bE wa.heap.size) bW 1 (LE.one rl) (by decide) (fun e => by cases e) rfl (reads_one (a_reads _)) (hS wl al)
  rw [merr1, mlist1] at hMg
  have hb1 := fun W => buildE W aE
  have hb2 := buildB
  obtain ⟨t0, t1, t2, t3, t4, t5⟩ := row6 (hA wb (Apart.refl _ _))
  obtain ⟨u0, u1, u2, u3, u4, u5⟩ := row6 (hB wl al)
  dsimp only [bE, E.agg, Sl.v] at hMg
  dsimp only [aE, E.agg, Sl.v, boxE] at hb1
  dsimp only [aE, boxE, Sl.v] at hwa hwl
  dsimp only [bE, boxE, Sl.v] at hwb
  dsimp only [aE, Sl.v] at t0 t1 t2 t3 t4 t5
  dsimp only [bE, Sl.v] at u0 u1 u2 u3 u4 u5
  have hss : ws.heap.size = wa.heap.size + 1 := by rw [hws]; simp
  rw [hss] at u0 u1 u2 u3 u4 u5 HB
  subst hwl
  have cvb : ∀ W : World, Apart [] wb W → Calls Try.prog 7 #[(bE wa.heap.size).agg, aE.agg] W fun r w' => r = .returned (.bool true) ∧ Apart [] W w' := fun W a => covers_ok (bE wa.heap.size) aE [⟨0, 1, 0⟩] W (HS.out W a).x true (by unfold cvE; show true = (keq ⟨#[107]⟩ ⟨#[107]⟩ && hasd [(⟨0, 1, 0⟩ : S)] 0 1); rw [kk, hasb]; rfl)
  have cva : ∀ W : World, Calls Try.prog 7 #[aE.agg, (bE wa.heap.size).agg] W fun r w' => r = .returned (.bool false) ∧ Apart [] W w' := fun W => covers_ok aE (bE wa.heap.size) [] W (a_reads W).x false (by unfold cvE; rw [hasd_nil]; simp)
  have HCA := hid cva
  have HCBb := hid cvb
  clear ra rs rb rl asx ab al a0 hA hB hS hss cva cvb
  go_enter Try.func4, Try.ntmps4
  go_upto_region 2 with fail
  rw [← hwa]
  clear hwa
  go_upto_region 3 with fail
  rw [← hws, ← hwb]
  clear hws hwb
  go_wp2_with fail
  refine hMg.mono ?_
  clear hMg t0 t1 t2 t3 t4 t5 u0 u1 u2 u3 u4 u5
  rintro _ w3 ⟨⟨p3, n3, c3⟩, fs3, rfl, hn3, a3, later3⟩
  have HA3 := hid (HAL.out.trans a3)
  have HLA := hid later3
  have e3 : n3 = 1 := hn3
  subst e3
  clear later3 hn3 a3
  dsimp only
  obtain ⟨t0, t1, t2, t3, t4, t5⟩ := row6 (HA.out w3 HA3.out)
  obtain ⟨u0, u1, u2, u3, u4, u5⟩ := row6 (HB.out w3 HA3.out)
  have hc1 := HCBb.out w3 HA3.out
  dsimp only [aE, Sl.v] at t0 t1 t2 t3 t4 t5
  dsimp only [bE, Sl.v] at u0 u1 u2 u3 u4 u5
  dsimp only [aE, bE, E.agg, Sl.v] at hc1
  go_wp2_with fail
  refine hc1.mono ?_
  clear hc1 t0 t1 t2 t3 t4 t5 u0 u1 u2 u3 u4 u5
  rintro _ w4 ⟨rfl, a4⟩
  have HA4 := hid (HA3.out.trans a4)
  have HA34 := hid a4
  clear a4
  dsimp only
  obtain ⟨t0, t1, t2, t3, t4, t5⟩ := row6 (HA.out w4 HA4.out)
  obtain ⟨u0, u1, u2, u3, u4, u5⟩ := row6 (HB.out w4 HA4.out)
  have hc1 := HCA.out w4
  dsimp only [aE, Sl.v] at t0 t1 t2 t3 t4 t5
  dsimp only [bE, Sl.v] at u0 u1 u2 u3 u4 u5
  dsimp only [aE, bE, E.agg, Sl.v] at hc1
  go_wp2_with fail
  refine hc1.mono ?_
  clear hc1 t0 t1 t2 t3 t4 t5 u0 u1 u2 u3 u4 u5
  rintro _ w5 ⟨rfl, a5⟩
  have HA5 := hid (HA4.out.trans a5)
  obtain ⟨L5, R5⟩ := HLA.out 0 0 w5 ((HA34.out.trans a5).fr0 0 0) (Nat.zero_le _)
  obtain ⟨P, o, hP, _, hc⟩ := L5.at (by decide)
  have hr := R5 0 (by decide)
  obtain ⟨k0, _, k2, _⟩ := hc 0 (by decide)
  have q1 : (gE fs3 0).n = 1 := hr.n
  have q2 : (gE fs3 0).k = ⟨#[107]⟩ := hr.k
  rw [q1] at k0
  rw [q2] at k2
  subst hP
  rw [Nat.zero_mul, Nat.add_zero] at k0 k2
  clear a5 L5 R5 hc hr q1 q2
  dsimp only
  go_wp2
  go_ret
  exact ⟨rfl, HA0.out.trans HA5.out⟩
end Go.Proofs.Ytokaeiahhmaokaa.ds
