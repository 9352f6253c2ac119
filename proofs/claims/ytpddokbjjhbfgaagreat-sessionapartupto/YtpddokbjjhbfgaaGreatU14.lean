import Derived.Test.YtpddokbjjhbfgaaGreatChecked
import Derived.WalkKit
import Derived.ProofKit
import Derived.Maps.OwnSet
import Derived.Maps.RangeWalk
import Derived.DeepKeys4
import Derived.MapViews
import Derived.StringKeys
import Derived.Lib.TrailingZeros
import Derived.OpenShut
import Derived.Deep.QuietTactic
import Derived.BigQuiet
import Derived.BigRegion
import Derived.Laws.CopyOwn
import Derived.Laws.Bits64b
import Derived.Laws.MathBits
import Derived.Laws.ShiftsVarLaws
import Derived.WalkSmall
import Derived.Laws.ResultCell
import Derived.Lib.BitFns
import Derived.Laws.StructEq
import Derived.Deep.RegionHeld
import Derived.ArgAppend
import Derived.Deep.RegionLaw
import Derived.Deep.DeepAppendRoom
import Derived.Sort.WalkA
import Derived.Laws.Strings
import Derived.Deep.CutBlock
import Derived.Great.BuildSlice
import Derived.Laws.BytesString
import Derived.Laws.AppendOwnNone
import Derived.Lib.Overlaps
import Derived.Lib.AppendZerosOnto
import Derived.Laws.NewBlocks
import Derived.Laws.Externs
import Derived.Laws.IdiomCopy
import Derived.RangeFuncNested
import Derived.RangeFuncBound
import Derived.RangeFuncCalls
import Derived.RangeFuncLeaves
import Derived.Shelf.Abstract
import Derived.Shelf.RegionOpen
import Derived.OwnWalkIn
import Derived.TacticsInMore
import Derived.LoopNIn
import Derived.LoopIn
import Derived.Deep.CutRange
import Derived.Deep.OwnRows
import Derived.Lib.Walk
import Derived.Lib.SliceRun
import GoSem.Claim
import GoSem.ClaimJoined
import GoSem.ClaimMapViews
import Derived.JoinedTies
import Derived.KernelRfl
import Derived.Lib.LaidTab
import Derived.JoinedCond
import Derived.ShutString
import Derived.ChangeOld
import Derived.Below
import Derived.Carry
import Derived.ChangeSlices
import Derived.Deep.Slices
import Derived.Deep.DeepHandedRow
import Derived.RowKit
import Derived.ChangeShapes
import Derived.SizedLaws
import Derived.ChangeMaps5
import Derived.OrdersHeld
import Derived.Lib.AppendStr
import Derived.Lib.ConvBytes
import Derived.Deep.RegionHeld3
import Derived.Deep.MidRow
import Derived.Laws.BitsAllLaws
import Derived.Sort.Grow
import Derived.Shelf.SlSortCmp.WholeK
import Derived.Shelf.Lay
import Derived.Ground.SlsfProg
import Derived.Sort.LotA
import Derived.Sort.MapsRangeIn
import Derived.RangeFuncSeq
import Derived.RangeFuncKeeps
import Derived.Maps.AppendAt
import Derived.OwnWalk
import Derived.Test.YtpddokbjjhbfgaaGreatRows
import Derived.Test.YtpddokbjjhbfgaaGreatU13
namespace Go.Proofs.YtpddokbjjhbfgaaGreat.ds
open Go.ChangeShapes Go.WideShapes Go.ChangeAt Go.RowKit Go.Sort
open Go.Maps (Keyed)
set_option linter.unusedVariables false
set_option linter.unusedSimpArgs false
attribute [local go_sem] Oper.semAt_some

theorem ra {X : List Nat} {w w' : World} (h : rg.Apart X w w') : Apart X w w' := ⟨h.os, h.tape, h.output, h.size, h.block⟩
theorem ar {X : List Nat} {w w' : World} (h : Apart X w w') : rg.Apart X w w' := ⟨h.os, h.tape, h.output, h.size, h.block⟩
/-- dots, cell by cell -/
abbrev flD (l : List Dt) : List Value := rg.dt.flP l
theorem flD_len (l : List Dt) : (flD l).length = l.length * 2 := rg.dt.flP_length l
theorem infoD : (Tryz.prog.info? 34).map (fun i => (i.zero, i.size, i.bytes)) = some (some (.agg #[.int .i64 0, .int .i64 0]), 2, 16) := by kernel_rfl
theorem appD {w W : World} {s : Sl} {l : List Dt} (h : Nw w W 34 2 s (flD l)) (x : Dt) (hl : l.length ≤ 4000000) :
    ∃ s' W', (Builtin.append_ #[50, 50] 50 #[.slice s.p s.n s.c, .slice (some ⟨W.heap.size, 0, none⟩) 1 1]).run Tryz.prog (W.alloc (Obj.cells #[.int .i64 x.1, .int .i64 x.2] 34)) = .ok (.slice (Sl.p s') (Sl.n s') (Sl.c s')) W' ∧ Nw w W' 34 2 s' (flD (l ++ [x])) ∧ Apart s.v.ownBlock.toList W W' := by
  obtain ⟨i0, hi, hz0, hz1, hz2⟩ := info_parts infoD
  have hn : s.n = l.length := by have := h.own.1; rw [flD_len] at this; omega
  obtain ⟨s', W', hrun, r1, r2, r3, k, r4, -, r6⟩ := run_appM 50 50 34 i0 _ 2 16 Tryz.underlying50 hi hz0 hz1 hz2 rfl (by decide) h 1 (flD [x]) (by decide) (by rw [flD_len]; rfl) (by intro u hu; exact rg.dt.flP_one hu) (by unfold maxLen; omega) (by omega)
  exact ⟨s', W', hrun, by show Nw w W' 34 2 s' (rg.dt.flP (l ++ [x])); rw [← rg.dt.flP_append]; exact r1, r3⟩
/-- with no panic -/
def noPanic (Q : Exit → Act → World → Prop) : Exit → Act → World → Prop
  | .panic _, _, _ => False
  | .normal, a, w => Q .normal a w
  | .ret, a, w => Q .ret a w
  | .exit i, a, w => Q (.exit i) a w
  | .goto l, a, w => Q (.goto l) a w
  | .outgrown, a, w => Q .outgrown a w
theorem noPanic_of {Q : Exit → Act → World → Prop} (e : Exit) (a : Act) (w : World) (h : noPanic Q e a w) : Q e a w := by
  cases e <;> first | exact h | exact h.elim
theorem wpListIn_app2 {F : Fence} {n : Nat} {w : World} {ops : Array Oper} {rest : List Oper} {o : Oper} {a : Act} {Q : Exit → Act → World → Prop} (hgd : o.guard = none) (s x : Operand) (t t' : TypeId)
    (ho : o.op = .call { callee := .builtin .append, args := #[s, x], argTypes := #[t, t'] }) (v u : Value) (hs : a.eval s = v) (hx : a.eval x = u) (v' : Value) (w' : World)
    (hrun : (Builtin.append_ #[t, t'] o.type #[v, u]).run Tryz.prog w = .ok v' w') (hK : wpListIn F n Tryz.prog ops Q rest (a.put o.dst v') w') : wpListIn F n Tryz.prog ops Q (o :: rest) a w := by
  refine wpListIn_plain hgd fun K hK' => ?_
  unfold Oper.wpIn
  refine ⟨?_, ?_⟩
  · simp [Oper.about, ho, resolve, Target.leads, Sem.run_pure]
  · rw [Oper.semAt_plain F _ _ (by rw [ho]; intro c hc'; cases hc')]
    simp [execOp, ho, resolve, invoke, builtin, hs, hx, hrun, Result.andThen]
    exact hK' _ _ hK
/-- AppendSeq's box and the list in it -/
structure Aq (w W : World) (B : Nat) (pre : List Dt) : Prop where
  ex : ∃ s : Sl, W.heap[B]? = some (.cells #[.slice s.p s.n s.c] 50 (0, 0)) ∧ Nw w W 34 2 s (flD pre)
theorem Aq.grown {w W W' : World} {B : Nat} {pre : List Dt} {row : Option Nat} (h : Aq w W B pre) (hg : W.grownBy W' row) (hr : ∀ r, row = some r → w.heap.size ≤ r ∧ ∃ o : Obj, W.heap[r]? = some o ∧ o.isCells = false) : Aq w W' B pre := by
  obtain ⟨s, h1, h2⟩ := h
  have a := ap_grown hg
  refine ⟨s, (grownBy_keeps_cells hg (fun r e => (hr r e).2) h1 rfl).trans h1, ⟨own_apart h2.own a (fun k hk hm => ?_), h2.new, h2.ap.trans' a (fun y hy => .inr (hr y (by simpa using hy)).1)⟩⟩
  obtain ⟨cur, hc⟩ := own_typ h2.own hk
  obtain ⟨_, o, ho, hn⟩ := hr k (by simpa using hm)
  rw [hc] at ho
  cases ho
  cases hn
def SqP (w : World) (ls : List Dt) (r : Ending) (w' : World) : Prop := ∃ (s : Sl) (ys : List Dt), r = .returned (.slice s.p s.n s.c) ∧ ys.Perm ls ∧ Nw w w' 34 2 s (flD ys)
set_option maxHeartbeats 8000000 in
set_option maxRecDepth 100000 in
theorem appendSeq_gen {w : World} {Bm N : Nat} {ls : List Dt} (hsq : ∀ w1, Apart [] w w1 → SeqStopsK Fence.wide (6 - 1) Tryz.prog 59 #[.pointer (some ⟨Bm, 0, none⟩)] (fun d : Dt => #[dV d]) KeepsWalks (fun ys => ys.Perm ls) (fun _ => True) N w1) (hN : N ≤ 4000000) :
    Calls Tryz.prog 79 #[.slice none 0 0, .func (.func 59) #[] #[.pointer (some ⟨Bm, 0, none⟩)]] w fun r w' => SqP w ls r w' := by
  obtain ⟨B, HXB⟩ : ∃ X, Hid (X = w.heap.size) := ⟨_, rfl⟩
  obtain ⟨w1, hw1⟩ : ∃ V, V = w.alloc (.cells #[.slice none 0 0] 50) := ⟨_, rfl⟩
  have a1 : Apart [] w w1 := by rw [hw1]; exact (Apart.refl [] w).alloc _
  have hB1 : w1.heap[B]? = some (.cells #[.slice none 0 0] 50 (0, 0)) := by rw [hw1, HXB.out]; exact heap_alloc_new w _
  have HI0 : Hid (Aq w w1 B []) := hid ⟨slz, hB1, Nw.none0 a1 _ _⟩
  have HNB : Hid (w.heap.size ≤ B ∧ B < w1.heap.size) := hid ⟨by rw [HXB.out]; exact Nat.le_refl _, lt_of_heap hB1⟩
  have HZ := hid a1.size
  have HSQ := hid (hsq w1 a1)
  have HN := hid hN
  clear a1 hB1 hsq hN
  refine (callsIn_wide (n := 6)).1 ?_
  refine callsIn_of_wp_marks Tryz.func79 rfl trivial ?_ rfl
  refine Code.wpIn_mono noPanic_of ?_
  refine wpIn_wide.2 ?_
  simp only [Tryz.ntmps79, List.size_toArray, List.length_cons, List.length_nil, Nat.reduceAdd, Nat.reduceSub, Array.replicate_succ, Array.replicate_zero, List.push_toArray, List.append_toArray, List.nil_append, List.cons_append]
  go_upto_region 1 with fail
  rw [← hw1, ← HXB.out]
  clear hw1 HXB
  go_wp2_with fail
  refine (wpIn_wide (n := 6)).1 ?_
  refine wpIn_rangeFunc_ownH rfl (by decide) (gf := 59) (lb := #[.pointer (some ⟨Bm, 0, none⟩)]) rfl trivial (enters_of Tryz.func59 (by kernel_rfl) rfl)
    HSQ.out (fun h k => ⟨Nat.le_trans h.size k.size, fun j o hj ho => k.same j o (h.same j o hj ho) ho⟩) (fun W l o o' hl ho hc hw => ⟨by simp, fun j ob hj hob => ?hKb⟩) (Below.refl _ _) (fun _ => rfl)
    (fun pre W => Aq w W B pre ∧ w1.heap.size ≤ W.heap.size) (fun c pre W => False) ?hI ?hIx ⟨HI0.out, Nat.le_refl _⟩
    (fun x a' W => ∃ b, W.heap[b]? = some (.cells #[.int .i64 x.1, .int .i64 x.2] 34 (0, 0)) ∧ a' = { tmps := #[.slice none 0 0, .func (.func 59) #[] #[.pointer (some ⟨Bm, 0, none⟩)], .pointer (some ⟨B, 0, none⟩), undef, .slice none 0 0, .pointer (some ⟨b, 0, none⟩), .func (.func 59) #[] #[.pointer (some ⟨Bm, 0, none⟩)], dV x, undef, undef, undef, undef, undef], defers := [] }) ?hAx ?assign ?body ?done ?stop
  case hKb =>
    by_cases e : j = l
    · subst e; rw [hj] at ho; cases ho; rw [hob] at hw; cases hw
    · rw [World.putObj_heap_other e]; exact hj
  case hI =>
    intro pre A A' row hs hg hr
    exact ⟨hs.1.grown hg (fun r e => ⟨by have := (hr r e).1; have := HZ.out; omega, (hr r e).2⟩), Nat.le_trans hs.2 hg.size⟩
  case hIx => intro c pre A A' row hs; exact hs.elim
  case hAx =>
    rintro x a' u A A' row ⟨b, h1, h2⟩ hg hr
    exact ⟨b, (grownBy_keeps_cells hg (fun r e => (hr r e).2) h1 rfl).trans h1, h2⟩
  case assign =>
    intro l pre x W K hi hK
    have HK := hid hK
    have HI := hid hi
    clear hi hK
    unfold dV
    gi_wp2
    have a0 : Apart [] W (W.alloc (.cells #[.int .i64 x.1, .int .i64 x.2] 34)) := (Apart.refl [] W).alloc _
    refine HK.out _ _ ⟨a0.size, fun k o _ hk ho => (a0.block k (lt_of_heap hk) (by simp)).trans hk⟩ ⟨a0.size, fun k o hk ho => (a0.block k (lt_of_heap hk) (by simp)).trans hk⟩ ⟨HI.out.1.grown (World.grownBy_alloc W _ none) (fun r e => by cases e), Nat.le_trans HI.out.2 a0.size⟩ ⟨W.heap.size, heap_alloc_new W _, rfl⟩
  case body =>
    rintro l pre x a' W hl8 hr8 ⟨hu, hzW⟩ ⟨b, hb, rfl⟩ hlen
    obtain ⟨s, h1, h2⟩ := hu
    obtain ⟨s', W', hrun, hn', hap⟩ := appD h2 x (by have := HN.out; omega)
    have HRUN := hid hrun
    have x0 := crow h1 0 (.slice s.p s.n s.c) rfl
    have x1 := crow hb 0 (.int .i64 x.1) rfl
    have x2 := crow hb 1 (.int .i64 x.2) rfl
    have hBo : s.v.ownBlock ≠ some B := fun e => by
      obtain ⟨cur, hc⟩ := own_typ h2.own e
      rw [h1] at hc
      cases hc
    have hB' : W'.heap[B]? = some (.cells #[.slice s.p s.n s.c] 50 (0, 0)) := (hap.block B (lt_of_heap h1) (fun hm => hBo (by simpa using hm))).trans h1
    have x3 := crow hB' 0 (.slice s.p s.n s.c) rfl
    have f3 := frozen_of_row _ _ 0 _ _ hB'
    obtain ⟨W2, hW2⟩ : ∃ V, V = W'.setCell ⟨B, 0, none⟩ (.slice s'.p s'.n s'.c) := ⟨_, rfl⟩
    have a2 : Apart [B] W' W2 := by rw [hW2]; exact (Apart.refl _ _).setCell (.inl (by simp)) _
    have hB2 : W2.heap[B]? = some (.cells #[.slice s'.p s'.n s'.c] 50 (0, 0)) := by
      rw [hW2]; have := heap_setCell_same W' B 0 _ 50 (.slice s'.p s'.n s'.c) hB'; simpa using this
    have hso : ∀ k, s'.v.ownBlock = some k → k ≠ B := fun k hk e => by
      obtain ⟨cur, hc⟩ := own_typ hn'.own hk
      rw [e, hB'] at hc
      cases hc
    have HE : Hid (Aq w W2 B (pre ++ [x])) := hid ⟨s', hB2, ⟨own_apart hn'.own a2 (fun k hk hm => hso k hk (by simpa using hm)), hn'.new, hn'.ap.trans' a2 (fun y hy => .inr (by simp at hy; subst hy; exact HNB.out.1))⟩⟩
    have hoth : ∀ (k : Nat) (o : Obj), W.heap[k]? = some o → o.isCells = false → W2.heap[k]? = some o := fun k o hk ho => by
      have e1 : W'.heap[k]? = some o := (hap.block k (lt_of_heap hk) (fun hm => by
        obtain ⟨cur, hc⟩ := own_typ h2.own (k := k) (by simpa using hm)
        rw [hk] at hc; cases hc; cases ho)).trans hk
      exact (a2.block k (lt_of_heap e1) (fun hm => by simp at hm; subst hm; rw [hB'] at e1; cases e1; cases ho)).trans e1
    have HO : Hid (W.heap.size ≤ W2.heap.size ∧ ∀ (k : Nat) (o : Obj), W.heap[k]? = some o → o.isCells = false → W2.heap[k]? = some o) := hid ⟨Nat.le_trans hap.size a2.size, hoth⟩
    have HZW := hid hzW
    clear hn' hap hrun hB' hb h1 h2 hso hoth a2 hB2 hBo hzW hl8 hr8 hlen
    gi_wp2_with (first | (gi_at_builtin; refine wpListIn_app2 rfl (.tmp 8) (.tmp 10) 50 50 rfl _ _ rfl rfl _ _ HRUN.out ?_) | gi_in)
    rw [← hW2]
    exact ⟨⟨HO.out.1, fun k o _ hk ho => HO.out.2 k o hk ho⟩, ⟨HO.out.1, fun k o hk ho => HO.out.2 k o hk (by cases o <;> first | rfl | cases ho)⟩, HE.out, Nat.le_trans HZW.out HO.out.1⟩
  case done =>
    rintro D ys W hD hperm ⟨⟨s, hb, ho⟩, hzW⟩ hdD
    have d7 := crow hb 0 (.slice s.p s.n s.c) rfl
    have HDD := hid hdD
    have HO := hid ho
    have HP := hid hperm
    clear hdD ho hperm hzW
    go_wp2_with fail
    simp only [noPanic, bodyPostM]
    refine ⟨by simp, .inl ⟨D, _, rfl, run_takeDeferred HDD.out, ?_⟩⟩
    refine ⟨_, results_tmp rfl _ _ _, s, ys, rfl, HP.out, ?_⟩
    have aD : Apart [D] W (W.putObj D (.deferred none)) := ⟨rfl, rfl, rfl, by simp, fun k _ hk => World.putObj_heap_other (fun e => hk (by simp [e]))⟩
    have hDw : w.heap.size ≤ D := by have := HZ.out; omega
    have o3 := HO.out
    exact ⟨own_apart o3.own aD (fun k hk m => by
      simp at m; subst m
      obtain ⟨cur, hc⟩ := own_typ o3.own hk
      rw [HDD.out] at hc; cases hc), o3.new, o3.ap.trans' aD (fun y hy => by simp at hy; subst hy; exact .inr hDw)⟩
  case stop => rintro D c pre W hD hpre hF; exact hF.elim
set_option maxRecDepth 100000 in
theorem keys_stops_none (n Bm : Nat) (w : World) (hBm : Bm < w.heap.size) (hm : w.cell? ⟨Bm, 0, none⟩ = some (.map none)) :
    SeqStopsK Fence.wide n Tryz.prog 59 #[.pointer (some ⟨Bm, 0, none⟩)] (fun d : Dt => #[dV d]) KeepsWalks (fun ys => ys.Perm []) (fun _ => True) 0 w := by
  intro l J Jx W hW hJ hJx hY hJ0
  have hmW : W.cell? ⟨Bm, 0, none⟩ = some (.map none) := (hW.cell (p := ⟨Bm, 0, none⟩) hBm).trans hm
  show CallsIn Fence.wide n Tryz.prog 59 #[.func (.yield l) #[] #[], .pointer (some ⟨Bm, 0, none⟩)] W _
  refine callsIn_of_wp Tryz.func59 rfl trivial ?_ rfl
  simp only [Tryz.ntmps59, List.size_toArray, List.length_cons, List.length_nil, Nat.reduceAdd, Nat.reduceSub, Array.replicate_succ, Array.replicate_zero, List.push_toArray, List.append_toArray, List.nil_append, List.cons_append]
  have HJ0 := hid (hJ [] W (W.alloc (.mapIter none 0 #[] 0)) none hJ0 (World.grownBy_alloc W _ none) (fun r e => by cases e))
  clear hJ hJx hY hJ0 hW hm
  have hrg := run_range_nilMap (P := Tryz.prog) W 83 34 99 Tryz.underlying83
  have hnx : ∀ ty, (Instr.next (.pointer (some ⟨W.heap.size, 0, none⟩)) false ty).run Tryz.prog (W.alloc (.mapIter none 0 #[] 0)) = _ := fun ty => run_next_nilMap W ty 0 0 #[]
  gi_wp2
  refine wpIn_loop_rounds 1 ?_
  rw [roundsIn_succ]
  gi_wp2
  go_end0
  exact ⟨⟨_, rfl⟩, .inl ⟨[], List.Perm.refl _, HJ0.out⟩⟩
/-- the sight's set in a box: nil, or these dots -/
def HdAt (w : World) (m : Option Nat) (ls : List Dt) (N : Nat) : Prop := match m with | none => ls = [] | some h => SetAt w h ls N
theorem HdAt.kept0 {w w' : World} {m : Option Nat} {ls : List Dt} {N : Nat} (h : HdAt w m ls N) (a : Apart [] w w') : HdAt w' m ls N := by
  cases m with
  | none => exact h
  | some x => exact SetAt.kept0 h a
theorem appendSeq_ok {w : World} {Bm N : Nat} {m : Option Nat} {ls : List Dt} (hBm : Bm < w.heap.size) (hm : w.cell? ⟨Bm, 0, none⟩ = some (.map m)) (hs : HdAt w m ls N) (hnd : ls.Nodup) (hN : N ≤ 4000000) :
    Calls Tryz.prog 79 #[.slice none 0 0, .func (.func 59) #[] #[.pointer (some ⟨Bm, 0, none⟩)]] w fun r w' => SqP w ls r w' := by
  cases m with
  | none =>
    have e : ls = [] := hs
    subst e
    exact appendSeq_gen (N := 0) (fun w1 a => keys_stops_none _ Bm w1 (Nat.lt_of_lt_of_le hBm a.size) ((a.cell (p := ⟨Bm, 0, none⟩) hBm (by simp)).trans hm)) (by omega)
  | some h => exact appendSeq_gen (fun w1 a => keys_stops _ (by decide) Bm h N ls w1 (Nat.lt_of_lt_of_le hBm a.size) ((a.cell (p := ⟨Bm, 0, none⟩) hBm (by simp)).trans hm) (SetAt.kept0 hs a) hnd) hN
/-- maps.Keys -/
theorem keys_ok (w : World) (m : Option Nat) : Calls Tryz.prog 39 #[.map m] w fun r w' => r = .returned (.func (.func 59) #[] #[.pointer (some ⟨w.heap.size, 0, none⟩)]) ∧ w' = w.alloc (.cells #[.map m] 83) := by
  go_enter Tryz.func39, Tryz.ntmps39
  go_wp2_with fail
  go_ret
  exact ⟨rfl, rfl⟩
theorem collect_ok {w : World} {Bm N : Nat} {m : Option Nat} {ls : List Dt} (hBm : Bm < w.heap.size) (hm : w.cell? ⟨Bm, 0, none⟩ = some (.map m)) (hs : HdAt w m ls N) (hnd : ls.Nodup) (hN : N ≤ 4000000) :
    Calls Tryz.prog 57 #[.func (.func 59) #[] #[.pointer (some ⟨Bm, 0, none⟩)]] w fun r w' => SqP w ls r w' := by
  have HQ := hid (appendSeq_ok hBm hm hs hnd hN)
  clear hs hm hBm
  go_enter Tryz.func57, Tryz.ntmps57
  go_wp2_with fail
  refine HQ.out.mono ?_
  rintro _ w1 ⟨s, ys, rfl, hp, hn⟩
  try dsimp only
  go_wp2_with fail
  go_ret
  exact ⟨s, ys, rfl, hp, hn⟩
open rg.dt in
theorem permIn_of {l b : List Dt} (hp : b.Perm l) : PermIn 0 l.toArray.size l.toArray b.toArray := by
  have hl := hp.length_eq
  refine ⟨by simpa using hl, fun i hi => ?_, ?_⟩
  · have hi' : l.length ≤ i := by simpa using hi
    rw [getElem!_neg _ i (by simp; omega), getElem!_neg _ i (by simp; omega)]
  · have e1 : (b.toArray.extract 0 l.toArray.size).toList = b := by simp [← hl]
    have e2 : (l.toArray.extract 0 l.toArray.size).toList = l := by simp
    rw [e1, e2]; exact hp
open rg.dt in
theorem sortedIn_of {l b : List Dt} (hl : b.length = l.length) (h : b.Pairwise (fun x y => ltP y x = false)) : SortedIn (ltOf cfP) 0 l.toArray.size b.toArray := by
  intro i j _ hij hj
  have hj' : j < l.length := by simpa using hj
  have hs := List.pairwise_iff_getElem.1 h i j (by omega) (by omega) hij
  rw [getElem!_pos _ j (by simp; omega), getElem!_pos _ i (by simp; omega)]
  show decide (cfP _ _ < 0) = false
  rw [cfP_lt]
  simpa using hs
/-- dots one behind the other -/
def ltD (a b : Dt) : Prop := a.1 < b.1 ∨ (a.1 = b.1 ∧ a.2 < b.2)
def UpD (l : List Dt) : Prop := l.Pairwise ltD
theorem UpD.nodup {l : List Dt} (h : UpD l) : l.Nodup := h.imp (fun {a b} hab e => by subst e; unfold ltD at hab; omega)
theorem srt_up {ys ls : List Dt} (hp : ys.Perm ls) (h : UpD ls) : rg.dt.srtP ys = ls := by
  have hs : ls.Pairwise (fun x y => rg.dt.ltP y x = false) := h.imp (fun {a b} hab => by rw [rg.dt.ltP_not]; unfold ltD at hab; omega)
  have e := rg.dt.srt_eq ys ls.toArray (permIn_of hp.symm) (sortedIn_of hp.symm.length_eq hs)
  have := congrArg Array.toList e
  simpa using this.symm
def SqS (w : World) (ls : List Dt) (r : Ending) (w' : World) : Prop := ∃ (s : Sl), r = .returned (.slice s.p s.n s.c) ∧ Nw w w' 34 2 s (flD ls)
set_option maxHeartbeats 2000000 in
set_option maxRecDepth 100000 in
theorem insertion_nil (W : World) (c : Nat) (p : Option Addr) : Calls Tryz.prog 100 #[.slice p 0 c, .int .i64 0, .int .i64 0, .func (.func 40) #[] #[]] W fun r W' => (∃ v, r = .returned v) ∧ Apart [] W W' := by
  go_enter Tryz.func100, Tryz.ntmps100
  go_wp2_with fail
  go_loopw [8] (fun v wr => v = .int .i64 1 ∧ wr = W) (fun _ _ => 0)
  case atStart => exact ⟨by first | rfl | simp, rfl⟩
  case round =>
    obtain ⟨rfl, rfl⟩ := hrel
    go_wp2_with fail
    go_end0
    exact ⟨⟨_, rfl⟩, Apart.refl _ _⟩
set_option maxHeartbeats 2000000 in
set_option maxRecDepth 100000 in
theorem pdq_nil (W : World) (c : Nat) (p : Option Addr) (k : Int) : Calls Tryz.prog 80 #[.slice p 0 c, .int .i64 0, .int .i64 0, .int .i64 k, .func (.func 40) #[] #[]] W fun r W' => (∃ v, r = .returned v) ∧ Apart [] W W' := by
  have hC := insertion_nil W c p
  go_enter Tryz.func80, Tryz.ntmps80
  go_wp2_with fail
  refine wp_loop_rounds 1 ?_
  rw [rounds_succ]
  go_wp2_with fail
  refine hC.mono ?_
  rintro _ w1 ⟨⟨v, rfl⟩, a1⟩
  have HA := hid a1
  clear a1 hC
  dsimp only
  go_wp2_with fail
  refine bodyPost_ret (results_none rfl _ _ _) rfl ?_
  exact ⟨⟨_, rfl⟩, HA.out⟩
set_option maxHeartbeats 2000000 in
set_option maxRecDepth 100000 in
theorem len81_ok (W : World) : Calls Tryz.prog 81 #[.int .u64 0] W fun r W' => (∃ k : Int, r = .returned (.int .i64 k)) ∧ Apart [] W W' := by
  go_enter Tryz.func81, Tryz.ntmps81
  go_wp2_with fail
  refine (len64 0 (by decide) _).mono ?_
  rintro _ w1 ⟨rfl, rfl⟩
  dsimp only
  go_wp2_with fail
  go_ret
  exact ⟨⟨_, rfl⟩, Apart.refl _ _⟩
set_option maxHeartbeats 2000000 in
set_option maxRecDepth 100000 in
theorem sort_nil (W : World) (c : Nat) (p : Option Addr) : Calls Tryz.prog 58 #[.slice p 0 c, .func (.func 40) #[] #[]] W fun r W' => r = .returned (.tuple #[]) ∧ Apart [] W W' := by
  have hC := fun W k => pdq_nil W c p k
  have hL := len81_ok W
  go_enter Tryz.func58, Tryz.ntmps58
  go_wp2_with fail
  refine hL.mono ?_
  rintro _ w1 ⟨⟨k, rfl⟩, a1⟩
  have HA := hid a1
  clear a1 hL
  dsimp only
  go_wp2_with fail
  refine (hC w1 k).mono ?_
  rintro _ w2 ⟨⟨v, rfl⟩, a2⟩
  have HA2 := hid (HA.out.trans a2)
  clear a2 hC
  dsimp only
  go_wp2_with fail
  go_end0
  exact ⟨rfl, HA2.out⟩
theorem sortD_ok {w W : World} {s : Sl} {ys ls : List Dt} (h : Nw w W 34 2 s (flD ys)) (hp : ys.Perm ls) (hu : UpD ls) (hl : ls.length ≤ 4000000) :
    Calls Tryz.prog 58 #[.slice s.p s.n s.c, .func (.func 40) #[] #[]] W fun r w' => r = .returned (.tuple #[]) ∧ Nw w w' 34 2 s (flD ls) := by
  have hn : s.n = ys.length := by have := h.own.1; rw [flD_len] at this; omega
  have hpl := hp.length_eq
  by_cases h0 : ys = []
  · subst h0
    have e : ls = [] := by simpa using hp.symm
    subst e
    have hs : s.n = 0 := by simpa using hn
    have HN := hid h
    obtain ⟨sp, sn, sc⟩ := s
    dsimp only at hs
    subst hs
    refine (sort_nil W sc sp).mono ?_
    rintro r w' ⟨rfl, a⟩
    exact ⟨rfl, HN.out.kept a⟩
  · obtain ⟨hxl, ⟨hv, hz⟩ | ⟨g, cap', cur, hv, _⟩⟩ := id h.own
    · exfalso
      apply h0
      rw [hz] at hn
      exact List.length_eq_zero_iff.1 hn.symm
    · unfold Sl.v at hv
      simp only [Value.slice.injEq] at hv
      obtain ⟨hvp, -, hvc⟩ := hv
      have ho : rg.OwnR 34 2 w W (some ⟨g, 0, none⟩) s.n s.c (rg.dt.flP ys) := ⟨by have := h.own; unfold Sl.v at this; rw [hvp] at this; exact this, fun b hb => h.new b (by unfold Sl.v; rw [hvp]; exact hb), ar h.ap⟩
      rw [hvp]
      refine (rg.dt.sort_ok ho hn (by omega)).mono ?_
      rintro r w' ⟨rfl, o2⟩
      rw [srt_up hp hu] at o2
      refine ⟨rfl, ⟨by have := o2.own; unfold Sl.v; rw [hvp]; exact this, fun k hk => o2.new k (by unfold Sl.v at hk; rw [hvp] at hk; exact hk), ra o2.ap⟩⟩
/-- slices.SortedFunc of a map's keys -/
theorem sortedFunc_ok {w : World} {Bm N : Nat} {m : Option Nat} {ls : List Dt} (hBm : Bm < w.heap.size) (hm : w.cell? ⟨Bm, 0, none⟩ = some (.map m)) (hs : HdAt w m ls N) (hu : UpD ls) (hl : ls.length ≤ 4000000) (hN : N ≤ 4000000) :
    Calls Tryz.prog 38 #[.func (.func 59) #[] #[.pointer (some ⟨Bm, 0, none⟩)], .func (.func 40) #[] #[]] w fun r w' => SqS w ls r w' := by
  have HQ := hid (collect_ok hBm hm hs hu.nodup hN)
  have HU := hid hu
  have HL := hid hl
  clear hs hm hBm hu hl
  go_enter Tryz.func38, Tryz.ntmps38
  go_wp2_with fail
  refine HQ.out.mono ?_
  rintro _ w1 ⟨s, ys, rfl, hp, hn⟩
  have HS := hid (sortD_ok hn hp HU.out HL.out)
  clear hn hp HQ
  try dsimp only
  go_wp2_with fail
  refine HS.out.mono ?_
  rintro _ w2 ⟨rfl, hn⟩
  have HN2 := hid hn
  clear hn HS
  try dsimp only
  go_wp2_with fail
  go_ret
  exact ⟨s, rfl, HN2.out⟩
end Go.Proofs.YtpddokbjjhbfgaaGreat.ds
namespace Go.Proofs.YtpddokbjjhbfgaaGreat.ds
open Go.ChangeShapes Go.WideShapes Go.ChangeAt Go.RowKit Go.Sort
set_option linter.unusedVariables false
set_option linter.unusedSimpArgs false

def iV (xs : List Int) : List Value := xs.map (Value.int .i64)
theorem iV_len (xs : List Int) : (iV xs).length = xs.length := by simp [iV]
theorem iV_one {xs : List Int} {u : Value} (h : u ∈ iV xs) : u.oneCell' = true := by
  simp [iV] at h
  obtain ⟨a, _, rfl⟩ := h
  rfl
/-- a list of numbers in a row of its own -/
structure Lk (w : World) (L cap : Nat) (xs : List Int) : Prop where
  own : w.ownsRow 0 3 1 (.slice (some ⟨L, 0, none⟩) xs.length cap) xs.length (iV xs)
theorem Lk.row {w : World} {L cap : Nat} {xs : List Int} (h : Lk w L cap xs) : ∃ cur, w.heap[L]? = some (.cells cur 3 (0, 0)) ∧ xs.length ≤ cap ∧ cap ≤ maxLen ∧ cur.size = cap ∧ cur.toList.take xs.length = iV xs := by
  obtain ⟨hx, ⟨hv, hz⟩ | ⟨g, cap', cur, hv, hb, hr, hc, hm, hs, ht⟩⟩ := h.own
  · cases hv
  · simp at hv
    obtain ⟨rfl, rfl⟩ := hv
    exact ⟨cur, hr, hc, hm, by simpa using hs, by simpa using ht⟩
theorem Lk.mk' {w : World} {L cap : Nat} {xs : List Int} {cur : Array Value} (hr : w.heap[L]? = some (.cells cur 3 (0, 0))) (hc : xs.length ≤ cap) (hm : cap ≤ maxLen) (hs : cur.size = cap) (ht : cur.toList.take xs.length = iV xs) : Lk w L cap xs :=
  ⟨by rw [iV_len]; omega, .inr ⟨L, cap, cur, rfl, Nat.zero_le _, hr, hc, hm, by simpa using hs, by simpa using ht⟩⟩
theorem Lk.lt {w : World} {L cap : Nat} {xs : List Int} (h : Lk w L cap xs) : L < w.heap.size := by
  obtain ⟨cur, hr, _⟩ := h.row
  exact lt_of_heap hr
theorem Lk.kept {w w' : World} {L cap : Nat} {xs : List Int} (h : Lk w L cap xs) (e : w'.heap[L]? = w.heap[L]?) : Lk w' L cap xs := by
  obtain ⟨cur, hr, hc, hm, hs, ht⟩ := h.row
  exact Lk.mk' (e.trans hr) hc hm hs ht
theorem Lk.cell {w : World} {L cap : Nat} {xs : List Int} (h : Lk w L cap xs) {i : Nat} (hi : i < xs.length) : w.cell? ⟨L, i, none⟩ = some (.int .i64 xs[i]) := by
  obtain ⟨cur, hr, hc, hm, hs, ht⟩ := h.row
  rw [cell_of_row _ _ _ _ _ _ hr]
  have h1 : (cur.toList.take xs.length)[i]? = some (.int .i64 xs[i]) := by rw [ht]; simp [iV, hi]
  rw [List.getElem?_take, if_pos hi] at h1
  simpa using h1
theorem Lk.pre {w : World} {L cap : Nat} {xs : List Int} (h : Lk w L cap xs) (k : Nat) (hk : k ≤ xs.length) : Lk w L cap (xs.take k) := by
  obtain ⟨cur, hr, hc, hm, hs, ht⟩ := h.row
  have hl : (xs.take k).length = k := by simp; omega
  refine Lk.mk' hr (by omega) hm hs ?_
  rw [hl]
  have := congrArg (List.take k) ht
  rw [List.take_take, Nat.min_eq_left hk] at this
  rw [this]
  simp [iV, List.map_take]
theorem info3i : (Tryz.prog.info? 3).map (fun i => (i.zero, i.size, i.bytes)) = some (some (.int .i64 0), 1, 8) := by kernel_rfl
theorem zero3 (w : World) : (zeroValue 3).run Tryz.prog w = .ok (.int .i64 0) w := by kernel_rfl
/-- append(s[:i], s[i+1:]...) in its own room -/
theorem Lk.del {w : World} {L cap : Nat} {xs : List Int} (h : Lk w L cap xs) (i : Nat) (hi : i < xs.length) (c : Nat) (ad : Addr) (had : 0 < xs.length - (i + 1) → ad = ⟨L, i + 1, none⟩) :
    ∃ w', (Builtin.append_ #[54, 54] 54 #[.slice (some ⟨L, 0, none⟩) i cap, .slice (some ad) (xs.length - (i + 1)) c]).run Tryz.prog w = .ok (.slice (some ⟨L, 0, none⟩) (xs.length - 1) cap) w' ∧ Lk w' L cap (xs.take i ++ xs.drop (i + 1)) ∧ Apart [L] w w' := by
  obtain ⟨i0, hif, hz0, hz1, hz2⟩ := info_parts info3i
  have hp := (h.pre i (by omega)).own
  have hl : (xs.take i).length = i := by simp; omega
  obtain ⟨cur, hr, hc, hm, hs, ht⟩ := h.row
  rw [hl] at hp
  have hdl : (iV (xs.drop (i + 1))).length = (xs.length - (i + 1)) * 1 := by rw [iV_len]; simp
  obtain ⟨w', hrun, r1, r2⟩ := run_append_own_spare (P := Tryz.prog) w 0 54 54 3 i0 1 Tryz.underlying54 hif hz1 L i cap (iV (xs.take i)) hp ad (xs.length - (i + 1)) c (iV (xs.drop (i + 1))) hdl
    (fun j u hj => by
      have hjl : i + 1 + j < xs.length := by have := (List.getElem?_eq_some_iff.1 hj).1; rw [iV_len] at this; simp at this; omega
      rw [had (by omega), Addr.add_lit, h.cell hjl]
      simp [iV, List.getElem?_drop] at hj
      rw [List.getElem?_eq_getElem hjl] at hj
      simpa using hj) (fun u hu => iV_one hu) (by omega)
  have e1 : i + (xs.length - (i + 1)) = xs.length - 1 := by omega
  rw [e1] at hrun r1
  have e2 : (xs.take i ++ xs.drop (i + 1)).length = xs.length - 1 := by simp; omega
  refine ⟨w', hrun, ⟨?_⟩, by simpa [Value.ownBlock] using ap_grown r2⟩
  rw [e2]
  have e3 : iV (xs.take i ++ xs.drop (i + 1)) = iV (xs.take i) ++ iV (xs.drop (i + 1)) := by simp [iV]
  rw [e3]
  exact r1
/-- clear of the one cell behind -/
theorem Lk.clear {w : World} {L cap : Nat} {xs : List Int} (h : Lk w L cap xs) (hc : xs.length < cap) (c : Nat) (ty : TypeId) :
    ∃ w', (Builtin.clear_ #[54] ty #[.slice (some ⟨L, xs.length, none⟩) 1 c]).run Tryz.prog w = .ok (.tuple #[]) w' ∧ Lk w' L cap xs ∧ Apart [L] w w' := by
  obtain ⟨cur, hr, hle, hm, hs, ht⟩ := h.row
  have hst := run_storeCells_at (P := Tryz.prog) L xs.length 3 [.int .i64 0] 0 cur w hr (by simp; omega) (by simp; rfl)
  refine ⟨w.setRow L (cur.toList.take (xs.length + 0) ++ [Value.int .i64 0] ++ cur.toList.drop (xs.length + 0 + [Value.int .i64 0].length)).toArray, ?_, ?_, ⟨rfl, rfl, rfl, by simp, fun k _ hk => setRow_other w L k _ (fun e => hk (by simp [e]))⟩⟩
  · simp [Builtin.clear_, run_underlying Tryz.underlying54, zero3]
    change ((Sem.run Tryz.prog (storeCells ⟨L, xs.length, none⟩ (Builtin.zeroCells #[Value.int .i64 0] 1).toList) w).andThen fun a w' => Result.ok (Value.tuple #[]) w') = _
    have : (Builtin.zeroCells #[Value.int .i64 0] 1).toList = [Value.int .i64 0] := by simp [Builtin.zeroCells]
    rw [this, hst]
    simp [Result.andThen]
  · refine Lk.mk' (setRow_heap w L _ _ 3 _ hr) hle hm (by simp; omega) ?_
    simp
    rw [List.take_append_of_le_length (by simp; omega), List.take_take, Nat.min_self, ht]
end Go.Proofs.YtpddokbjjhbfgaaGreat.ds
namespace Go.Proofs.YtpddokbjjhbfgaaGreat.rg
open Go.ChangeShapes Go.WideShapes Go.ChangeAt Go.RowKit Go.Sort Go.Shelf
shelf_lay_g SlLaysF0.n6 Slsf 6 at Tryz 112 as sortPt
set_option linter.unusedVariables false
set_option linter.unusedSimpArgs false
def encP (x : Pt) : List Value := [.int .u32 (x.1 : Nat), .int .i64 (x.2 : Nat)]
theorem swoP : SWO (ltOf cfP) where
  irrefl x := by show decide (cfP x x < 0) = false; rw [cfP_lt, ltP_not]; omega
  trans x y z h1 h2 := by
    have e : ∀ a b, ltOf cfP a b = ltP a b := fun a b => cfP_lt a b
    rw [e, ltP_iff] at *; omega
  ntrans x y z h1 h2 := by
    have e : ∀ a b, ltOf cfP a b = ltP a b := fun a b => cfP_lt a b
    rw [e, ltP_not] at *; omega
theorem flatK_eq (l : List Pt) : flatK encP 2 l.toArray = (flP l).toArray := by
  refine ext_get! (by simp [flP_length]) fun t ht => ?_
  have ht' : t < l.length * 2 := by simpa using ht
  rw [get_flatK _ _ _ _ (by simpa using ht')]
  have hq : t / 2 < l.length := by omega
  obtain ⟨c0, c1⟩ := flP_get l (t / 2) hq
  have ea : (l.toArray)[t / 2]! = l.getD (t / 2) (0, 0) := by
    rw [getElem!_pos _ _ (by simpa using hq), List.getD_eq_getElem?_getD, List.getElem?_eq_getElem hq]; simp
  rw [ea]
  have hb : (flP l).toArray[t]! = ((flP l)[t]?).getD default := by
    rw [Array.getElem!_eq_getD, Array.getD_eq_getD_getElem?]; simp
  rw [hb]
  rcases Nat.mod_two_eq_zero_or_one t with h | h
  · rw [h, show (flP l)[t]? = (flP l)[t / 2 * 2]? from by rw [show t / 2 * 2 = t by omega], c0]; rfl
  · rw [h, show (flP l)[t]? = (flP l)[t / 2 * 2 + 1]? from by rw [show t / 2 * 2 + 1 = t by omega], c1]; rfl
theorem perm_srt (l : List Pt) : PermIn 0 l.toArray.size l.toArray (srtP l).toArray := by
  have hp := srtP_perm l
  have hl := hp.length_eq
  refine ⟨by simpa using hl, fun i hi => ?_, ?_⟩
  · have hi' : l.length ≤ i := by simpa using hi
    rw [getElem!_neg _ i (by simp; omega), getElem!_neg _ i (by simp; omega)]
  · have e1 : ((srtP l).toArray.extract 0 l.toArray.size).toList = srtP l := by simp [← hl]
    have e2 : (l.toArray.extract 0 l.toArray.size).toList = l := by simp
    rw [e1, e2]; exact hp
theorem sorted_srt (l : List Pt) : SortedIn (ltOf cfP) 0 l.toArray.size (srtP l).toArray := by
  have hl := (srtP_perm l).length_eq
  intro i j _ hij hj
  have hj' : j < l.length := by simpa using hj
  have hs := List.pairwise_iff_getElem.1 (srtP_sorted l) i j (by omega) (by omega) hij
  rw [getElem!_pos _ j (by simp; omega), getElem!_pos _ i (by simp; omega)]
  show decide (cfP _ _ < 0) = false
  rw [cfP_lt]
  simpa using hs
theorem total_lt (x y : Pt) (h1 : ltOf cfP x y = false) (h2 : ltOf cfP y x = false) : x = y := by
  have e : ∀ a b, ltOf cfP a b = ltP a b := fun a b => cfP_lt a b
  rw [e, ltP_not] at *
  obtain ⟨a, b⟩ := x; obtain ⟨c, d⟩ := y
  simp only at h1 h2
  have : a = c := by omega
  have : b = d := by omega
  subst_vars; rfl
theorem srt_eq (l : List Pt) (d' : Array Pt) (hp : PermIn 0 l.toArray.size l.toArray d') (hs : SortedIn (ltOf cfP) 0 l.toArray.size d') : d' = (srtP l).toArray := by
  have h1 := sorted_unique_holds swoP total_lt l.toArray d' hp hs
  have h2 := sorted_unique_holds swoP total_lt l.toArray (srtP l).toArray (perm_srt l) (sorted_srt l)
  exact Array.toList_inj.1 (h1.trans h2.symm)
theorem cmpLays (blk off size : Nat) (w : World) : CmpLays Tryz.prog 110 #[] encP 2 cfP blk off size w :=
  fun m os dk hs x y => compare_ok x y _
set_option maxHeartbeats 1000000 in
theorem sort_ok {w W : World} {P m cap : Nat} {l : List Pt} (O : OwnP w W (some ⟨P, 0, none⟩) m cap l) (hm : m = l.length) (h0 : m ≤ 1000) :
    Calls Tryz.prog 112 #[.slice (some ⟨P, 0, none⟩) m cap, .func (.func 110) #[] #[]] W fun r w' => r = .returned (.tuple #[]) ∧ OwnP w w' (some ⟨P, 0, none⟩) m cap (srtP l) := by
  have eg : ∀ args w, (callFunc 110 args).run Tryz.prog w = .ok (.enter 110 args) w := enters_of Tryz.func110 (by kernel_rfl) rfl
  obtain ⟨hxl, ⟨hv, _⟩ | ⟨g, cap', cur, hv, hb, hr, hle, hcm, hcs, htk⟩⟩ := id O.own
  · cases hv
  simp only [Value.slice.injEq, Option.some.injEq, Addr.mk.injEq, and_true, true_and] at hv
  obtain ⟨rfl, rfl⟩ := hv
  have hblk : P < W.heap.size := lt_of_heap hr
  have hH : HoldsK encP 2 W P 0 l.toArray := by
    intro j hj
    rw [flatK_eq] at hj ⊢
    have hj' : j < l.length * 2 := by simpa [flP_length] using hj
    refine ⟨?_, ?_⟩
    · rw [Nat.zero_add, O.cellP j hj']
      rw [getElem!_pos _ j hj]; simp
    · simp [World.frozen?, hr]
  have hcon := AnyQ.slices_SortFunc sortPt 2 Tryz.isAgg170 Tryz.sizeOf170 encP (fun _ => rfl) (fun x v hv => by simp [encP] at hv; rcases hv with rfl | rfl <;> rfl) cfP swoP 110 #[] P 0 cap l.toArray W eg (cmpLays P 0 _ W) hH hblk (by simp; omega)
  change Calls Tryz.prog 112 _ _ _ at hcon
  rw [show l.toArray.size = m by simp [hm]] at hcon
  refine hcon.mono ?_
  rintro r w' ⟨rfl, d', n, os, hp, hs, rfl⟩
  refine ⟨rfl, ?_⟩
  rw [show m = l.toArray.size by simp [hm]] at hp hs
  obtain rfl := srt_eq l d' hp hs
  have hl := (srtP_perm l).length_eq
  have hgr : (sortWorldK encP 2 W P 0 n (srtP l).toArray os).heap[P]? = some (.cells (putCells id 0 (flP (srtP l)).toArray cur) 170 (0, 0)) := by
    unfold sortWorldK putRowK putRow
    rw [flatK_eq]
    rw [heap_grow_old _ _ (by simpa [mapBlock, Sort.ahead] using hblk)]
    simp [mapBlock, Sort.ahead, Array.getElem?_modify, hr, onCells]
  refine ⟨⟨by rw [flP_length, hl, hm], .inr ⟨P, cap, _, rfl, hb, hgr, hle, hcm, by simp [putCells, hcs], ?_⟩⟩, O.new, O.ap.trans' (Y := [P]) ?_ (fun y hy => .inr (O.new y (by simp at hy; subst hy; rfl)))⟩
  · apply List.ext_getElem?
    intro k
    have hf := flP_length (srtP l)
    by_cases hk : k < m * 2
    · have hk2 : k < cur.size := by rw [hcs]; omega
      simp only [List.getElem?_take, hk, if_true, putCells, Array.getElem?_toList, Array.getElem?_mapIdx, Array.getElem?_eq_getElem hk2, Option.map_some]
      rw [if_pos ⟨Nat.zero_le _, by simp [hf]; omega⟩]
      simp only [id, Nat.sub_zero]
      rw [getElem!_pos _ k (by simp [hf]; omega)]
      simp
    · rw [List.getElem?_take, if_neg hk, List.getElem?_eq_none (by omega)]
  · refine ⟨rfl, rfl, rfl, ?_, fun k hk hx => ?_⟩
    · unfold sortWorldK putRowK putRow; rw [size_grow]; simp [mapBlock, Sort.ahead]
    · unfold sortWorldK putRowK putRow
      rw [heap_grow_old _ _ (by simpa [mapBlock, Sort.ahead] using hk)]
      have : P ≠ k := fun e => hx (by simp [e])
      simp [mapBlock, Sort.ahead, Array.getElem?_modify, this]
end Go.Proofs.YtpddokbjjhbfgaaGreat.rg
namespace Go.Proofs.YtpddokbjjhbfgaaGreat.rg
open Go.ChangeShapes Go.WideShapes Go.ChangeAt Go.RowKit Go.Sort
set_option linter.unusedVariables false
set_option linter.unusedSimpArgs false
theorem owni_append {w W : World} {p : Option Addr} {n cap : Nat} {xs : List Nat} (h : OwnI w W p n cap xs) (hn : n ≤ 100000) (ty : TypeId) (ad : Addr) (y : Nat) (h0 : W.cell? (ad.add 0) = some (.int .i64 (y : Nat))) :
    ∃ p' cap' w', (Builtin.append_ #[54, 54] ty #[.slice p n cap, .slice (some ad) 1 1]).run Tryz.prog W = .ok (.slice p' (n + 1) cap') w' ∧ OwnI w w' p' (n + 1) cap' (xs ++ [y]) ∧ Apart (Value.slice p n cap).ownBlock.toList W w' := by
  obtain ⟨i0, hi, hz0, hz1, hz2⟩ := info_parts info3
  obtain ⟨p', cap', w', hrun, r1, r2, _⟩ := OwnR.append (ty := ty) Tryz.underlying54 hi hz0 hz1 hz2 rfl (by decide) h ad 1 1 [.int .i64 (y : Nat)] (by decide) rfl
    (by
      intro j u hj
      match j, hj with
      | 0, hj => simp at hj; subst hj; exact h0)
    (by intro u hu; simp at hu; subst hu; rfl) (by unfold maxLen; omega) (by omega)
  refine ⟨p', cap', w', hrun, ?_, r2⟩
  show OwnR 3 1 w w' p' (n + 1) cap' (flI (xs ++ [y]))
  rw [show flI (xs ++ [y]) = flI xs ++ [.int .i64 (y : Nat)] by simp [flI]]
  exact r1
end Go.Proofs.YtpddokbjjhbfgaaGreat.rg
namespace Go.Proofs.YtpddokbjjhbfgaaGreat.ds
open Go.ChangeShapes Go.WideShapes Go.ChangeAt Go.RowKit Go.Sort
set_option linter.unusedVariables false
set_option linter.unusedSimpArgs false
theorem ord_len : ∀ n < 9, ∀ r < 16, (rg.ord n r).length = n := by decide +kernel
end Go.Proofs.YtpddokbjjhbfgaaGreat.ds
