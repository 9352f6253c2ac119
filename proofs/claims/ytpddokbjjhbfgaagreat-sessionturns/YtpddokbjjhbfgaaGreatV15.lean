import Derived.Test.YtpddokbjjhbfgaaGreatChecked
import Derived.WalkKit
import Derived.ProofKit
import Derived.Maps.OwnSet
import Derived.Maps.RangeWalk
import Derived.DeepKeys4
import Derived.MapViews
import Derived.StringKeys
import Derived.Lib.TrailingZeros
import Derived.OpenShut
import Derived.Deep.QuietTactic
import Derived.BigQuiet
import Derived.BigRegion
import Derived.Laws.CopyOwn
import Derived.Laws.Bits64b
import Derived.Laws.MathBits
import Derived.Laws.ShiftsVarLaws
import Derived.WalkSmall
import Derived.Laws.ResultCell
import Derived.Lib.BitFns
import Derived.Laws.StructEq
import Derived.Deep.RegionHeld
import Derived.ArgAppend
import Derived.Deep.RegionLaw
import Derived.Deep.DeepAppendRoom
import Derived.Sort.WalkA
import Derived.Laws.Strings
import Derived.Deep.CutBlock
import Derived.Great.BuildSlice
import Derived.Laws.AppendOwnNone
import Derived.Laws.BytesString
import Derived.Lib.Overlaps
import Derived.Lib.AppendZerosOnto
import Derived.Laws.NewBlocks
import Derived.Laws.Externs
import Derived.Laws.IdiomCopy
import Derived.RangeFuncNested
import Derived.RangeFuncBound
import Derived.RangeFuncCalls
import Derived.RangeFuncLeaves
import Derived.Shelf.Abstract
import Derived.Shelf.RegionOpen
import Derived.OwnWalkIn
import Derived.TacticsInMore
import Derived.LoopNIn
import Derived.LoopIn
import Derived.Deep.CutRange
import Derived.Deep.OwnRows
import Derived.Lib.Walk
import Derived.Lib.SliceRun
import GoSem.Claim
import GoSem.ClaimJoined
import GoSem.ClaimMapViews
import Derived.JoinedTies
import Derived.KernelRfl
import Derived.Lib.LaidTab
import Derived.JoinedCond
import Derived.ShutString
import Derived.ChangeOld
import Derived.Below
import Derived.Carry
import Derived.ChangeSlices
import Derived.Deep.Slices
import Derived.Deep.DeepHandedRow
import Derived.RowKit
import Derived.ChangeShapes
import Derived.SizedLaws
import Derived.ChangeMaps5
import Derived.OrdersHeld
import Derived.Lib.AppendStr
import Derived.Lib.ConvBytes
import Derived.Deep.RegionHeld3
import Derived.Deep.MidRow
import Derived.Laws.BitsAllLaws
import Derived.Sort.Grow
import Derived.Shelf.SlSortCmp.WholeK
import Derived.Shelf.Lay
import Derived.Ground.SlsfProg
import Derived.Sort.LotA
import Derived.Sort.MapsRangeIn
import Derived.RangeFuncSeq
import Derived.RangeFuncKeeps
import Derived.Maps.AppendAt
import Derived.OwnWalk
import Derived.Test.YtpddokbjjhbfgaaGreatRows
import Derived.Test.YtpddokbjjhbfgaaGreatV14
namespace Go.Proofs.YtpddokbjjhbfgaaGreat.ds
open Go.ChangeShapes Go.WideShapes Go.ChangeAt Go.RowKit Go.Sort Go.Shelf
open Go.Maps (Keyed)
set_option linter.unusedVariables false
set_option linter.unusedSimpArgs false
attribute [local go_sem] Oper.semAt_some

section
variable {F : Fence} {nF : Nat} (w : World) {ops : Array Oper} {rest : List Oper} {o : Oper} {a : Act} {Q : Exit → Act → World → Prop}
theorem wpDI_range (hg : o.guard = none) (m : Operand) (hop : o.op = Op.range 83 m) {b N : Nat} {l : List Dt} (hm : a.eval m = .map (some b)) (h : SetAt w b l N)
    (hK : ∀ w' cnt, RgD w' b w.heap.size l N l cnt → w.grownBy w' none → w'.heap.size = w.heap.size + 1 → wpListIn F nF Tryz.prog ops Q rest (a.put o.dst (.pointer (some ⟨w.heap.size, 0, none⟩))) w') :
    wpListIn F nF Tryz.prog ops Q (o :: rest) a w := by
  obtain ⟨ok, D, h1, h5⟩ := h
  exact wpListIn_range_own w hg m 83 hop 34 99 lawD Tryz.underlying83 unitElem b N D hm h1 (fun w' r g s => hK w' _ ⟨ok, ok, D, _, r, h5, h5⟩ g s)
theorem wpDI_next (hg : o.guard = none) (it : Operand) (hop : o.op = Op.next it false) {b r N cnt : Nat} {l rem : List Dt} (hit : a.eval it = .pointer (some ⟨r, 0, none⟩)) (h : RgD w b r l N rem cnt)
    (hDone : rem = [] → wpListIn F nF Tryz.prog ops Q rest (a.put o.dst (.tuple #[.bool false])) w)
    (hMore : ∀ (d : Dt) (w' : World) (cnt' : Nat), Dok d → d ∈ rem → RgD w' b r l N (rem.filter (fun x => !decide (x = d))) cnt' → cnt' < cnt → w.grownBy w' (some r) → w'.heap.size = w.heap.size →
      (Instr.entry (.pointer (some ⟨r, 0, none⟩))).run Tryz.prog w' = .ok (.tuple #[dV d, .agg #[]]) w' → wpListIn F nF Tryz.prog ops Q rest (a.put o.dst (.tuple #[.bool true, dV d, .agg #[]])) w') :
    wpListIn F nF Tryz.prog ops Q (o :: rest) a w := by
  obtain ⟨ok, ok', D, left, h1, h2, h3⟩ := h
  refine wpListIn_next_ranges w hg it hop 34 lawD unitElem dV (fun _ : Unit => Value.agg #[]) (fun key kl hk => ?_) (fun v y hv => ⟨(), (unitElem_inv hv).1⟩) b r N D left cnt hit h1 (fun h0 hl => hDone ?_) (fun d _ kl y w' cnt' hk hlk hv hat hrg hlt hgr hsz hen => ?_)
  · obtain ⟨d, e, _⟩ := keyD_inv hk
    exact ⟨d, e⟩
  · apply List.eq_nil_iff_forall_not_mem.2
    intro d hd
    have := (h3 d (ok' d hd)).2 hd
    rw [hl] at this
    cases this
  · obtain ⟨d', e, hdo, hkl⟩ := keyD_inv hk
    have ed : d = d' := by unfold dV at e; simp at e; exact Prod.ext e.1 e.2
    subst ed
    subst hkl
    refine hMore d w' cnt' hdo ((h3 d hdo).1 hlk) ⟨ok, fun x hx => ok' x (List.mem_filter.1 hx).1, D, _, hrg, h2, fun x hx => ?_⟩ hlt hgr hsz hen
    have hsk : (kD x).sameKey (kD d) = decide (x = d) := by
      by_cases e : x = d
      · subst e; simp [kD, Lit.sameKey]
      · rw [Maps.sameKey_ne (fun h => e (kD_inj hx hdo h))]; simp [e]
    simp [hsk, List.mem_filter, h3 x hx]
end
theorem RgD.of_walks {w w' : World} {b r : Nat} {l rem : List Dt} {N cnt : Nat} (h : RgD w b r l N rem cnt) (hk : KeepsWalks w w') : RgD w' b r l N rem cnt := by
  obtain ⟨ok, ok', D, left, h1, h2, h3⟩ := h
  exact ⟨ok, ok', D, left, h1.of_walks hk, h2, h3⟩
theorem RgD.iter {w : World} {b r : Nat} {l rem : List Dt} {N cnt : Nat} (h : RgD w b r l N rem cnt) : ∃ o : Obj, w.heap[r]? = some o ∧ o.isWalk = true := by
  obtain ⟨ok, ok', D, left, h1, h2, h3⟩ := h
  exact h1.iter_walk
set_option maxRecDepth 100000 in
set_option maxHeartbeats 4000000 in
theorem keys_stops (n : Nat) (hn : 2 ≤ n) (Bm h N : Nat) (ls : List Dt) (w : World) (hBm : Bm < w.heap.size) (hm : w.cell? ⟨Bm, 0, none⟩ = some (.map (some h))) (hs : SetAt w h ls N) (hnd : ls.Nodup) :
    SeqStopsK Fence.wide n Tryz.prog 59 #[.pointer (some ⟨Bm, 0, none⟩)] (fun d : Dt => #[dV d]) KeepsWalks (fun ys => ys.Perm ls) (fun _ => True) N w := by
  intro l J Jx W hW hJ hJx hY hJ0
  have HS := hid (hs.kept (hW.block h hs.lt))
  have hmW : W.cell? ⟨Bm, 0, none⟩ = some (.map (some h)) := (hW.cell (p := ⟨Bm, 0, none⟩) hBm).trans hm
  have HJ := hid hJ
  have HY := hid hY
  have H0 := hid hJ0
  have HND := hid hnd
  clear hs hm hBm hJ hJx hY hJ0 hnd hW
  show CallsIn Fence.wide n Tryz.prog 59 #[.func (.yield l) #[] #[], .pointer (some ⟨Bm, 0, none⟩)] W _
  refine callsIn_of_wp Tryz.func59 rfl trivial ?_ rfl
  simp only [Tryz.ntmps59, List.size_toArray, List.length_cons, List.length_nil, Nat.reduceAdd, Nat.reduceSub, Array.replicate_succ, Array.replicate_zero, List.push_toArray, List.append_toArray, List.nil_append, List.cons_append]
  gi_wp2_with (first | (gi_at_range; refine wpDI_range _ rfl _ rfl (b := h) (N := N) (l := ls) rfl HS.out ?_; intro w2 cnt0 hrg0 hg0 hs0) | gi_in)
  obtain ⟨r, HR⟩ : ∃ r, Hid (r = W.heap.size) := ⟨_, rfl⟩
  rw [← HR.out] at hrg0 ⊢
  have HI0 : Hid (RgD w2 h r ls N ls cnt0 ∧ J [] w2) := hid ⟨hrg0, HJ.out [] W w2 none H0.out hg0 (fun r e => by cases e)⟩
  clear hrg0 hg0 hs0 H0
  try go_frame
  gi_loopw [3] (fun _ wr => ∃ rem cnt acc, Hid (RgD wr h r ls N rem cnt ∧ acc.length + cnt ≤ N ∧ acc.Nodup ∧ (∀ d, d ∈ ls ↔ d ∈ acc ∨ d ∈ rem) ∧ (∀ d ∈ acc, d ∉ rem) ∧ J acc wr)) (fun _ wr => wr.rangeLeft h r)
  case atStart => exact ⟨ls, cnt0, [], hid ⟨HI0.out.1, by have := HI0.out.1.cnt_le; simpa using this, List.nodup_nil, fun d => by simp, by simp, HI0.out.2⟩⟩
  case round =>
    obtain ⟨rem, cnt, acc, HI⟩ := hrel
    clear HI0 hmW
    gi_wp2_with (first | (gi_at_next; refine wpDI_next _ rfl _ rfl (b := h) (r := r) (N := N) (l := ls) rfl HI.out.1 ?_ ?_) | gi_in)
    · intro hrem
      have HE : Hid (acc.Perm ls) := by
        refine (List.perm_ext_iff_of_nodup HI.out.2.2.1 HND.out).2 (fun d => ?_)
        rw [HI.out.2.2.2.1 d, hrem]; simp
      clear hrem
      gi_wp2
      go_end0
      exact ⟨⟨_, rfl⟩, .inl ⟨acc, HE.out, HI.out.2.2.2.2.2⟩⟩
    · intro dn dc w3 cnt3 hdo hdm hrg3 hlt hg3 hs3 hen
      obtain ⟨d, HD⟩ : ∃ d : Dt, Hid (d = (dn, dc)) := ⟨_, rfl⟩
      rw [← HD.out] at hdo hdm hrg3
      have e1 : dn = d.1 := by rw [HD.out]
      have e2 : dc = d.2 := by rw [HD.out]
      subst e1 e2
      clear HD
      have HLT := hid hlt
      have HDM := hid hdm
      obtain ⟨Y, HYb⟩ : ∃ Y, Hid (Y = w3.heap.size) := ⟨_, rfl⟩
      obtain ⟨w4, hw4⟩ : ∃ V, V = w3.alloc (.cells #[.int .i64 d.1, .int .i64 d.2] 34) := ⟨_, rfl⟩
      have a4 : Apart [] w3 w4 := by rw [hw4]; exact (Apart.refl [] w3).alloc _
      have hb4 : w4.heap[Y]? = some (.cells #[.int .i64 d.1, .int .i64 d.2] 34 (0, 0)) := by rw [hw4, HYb.out]; exact heap_alloc_new w3 _
      have HG4 : Hid (RgD w4 h r ls N (rem.filter (fun x => !decide (x = d))) cnt3) := hid (hrg3.kept (a4.block h hrg3.set.lt (by simp)) (a4.block r hrg3.lt (by simp)))
      have hJ3 : J acc w3 := HJ.out acc wr w3 (some r) HI.out.2.2.2.2.2 hg3 (fun k e => by cases e; exact ⟨by rw [HR.out]; exact Nat.le_refl _, HI.out.1.iter⟩)
      have hJ4 : J acc w4 := by rw [hw4]; exact HJ.out acc w3 _ none hJ3 (World.grownBy_alloc w3 _ none) (fun k e => by cases e)
      have HY4 := hid (HY.out acc d w4 hJ4 (by have := HI.out.2.1; omega))
      clear a4 hrg3 hdm hlt hg3 hs3 hJ3 hJ4 hdo
      unfold dV at hen ⊢
      obtain ⟨fn, tmps, assign, body, hy', hR⟩ := HY4.out
      unfold dV at hy'
      subst hw4
      gi_wp2
      refine ⟨(fun h => by cases h), ?_⟩
      refine hR.mono ?_
      rintro e W3 (⟨rfl, hJ5, hk5⟩ | ⟨rfl, hJx5⟩)
      · dsimp only
        have HI5 : Hid (RgD W3 h r ls N (rem.filter (fun x => !decide (x = d))) cnt3 ∧ J (acc ++ [d]) W3) := hid ⟨HG4.out.of_walks hk5, hJ5⟩
        clear hk5 hJ5 hR hy' hen HG4 HY4
        gi_wp2
        go_roundw
        case rel =>
          refine ⟨_, cnt3, acc ++ [d], hid ⟨HI5.out.1, by have := HI.out.2.1; have := HLT.out; simp; omega, ?_, fun x => ?_, fun x hx => ?_, HI5.out.2⟩⟩
          · exact List.nodup_append.2 ⟨HI.out.2.2.1, by simp, fun a ha b hb e => by simp at hb; subst hb; subst e; exact HI.out.2.2.2.2.1 a ha HDM.out⟩
          · rw [HI.out.2.2.2.1 x]
            by_cases e9 : x = d
            · subst e9; simp [HDM.out]
            · simp [e9]
          · rcases List.mem_append.1 hx with hx | hx
            · exact fun hm => HI.out.2.2.2.2.1 x hx (List.mem_filter.1 hm).1
            · simp at hx; subst hx; simp
        case measure => rw [HI5.out.1.left_eq, HI.out.1.left_eq]; exact HLT.out
      · dsimp only
        have HJ5 := hid hJx5
        clear hJx5 hR hy' hen HG4 HY4
        gi_wp2
        refine bodyPost_ret (results_none rfl _ _ _) rfl ?_
        exact ⟨⟨_, rfl⟩, .inr ⟨_, trivial, HJ5.out⟩⟩
end Go.Proofs.YtpddokbjjhbfgaaGreat.ds
namespace Go.Proofs.YtpddokbjjhbfgaaGreat.ds
open Go.ChangeShapes Go.WideShapes Go.ChangeAt Go.RowKit Go.Sort
open Go.Maps (Keyed)
set_option linter.unusedVariables false
set_option linter.unusedSimpArgs false
attribute [local go_sem] Oper.semAt_some

theorem ra {X : List Nat} {w w' : World} (h : rg.Apart X w w') : Apart X w w' := ⟨h.os, h.tape, h.output, h.size, h.block⟩
theorem ar {X : List Nat} {w w' : World} (h : Apart X w w') : rg.Apart X w w' := ⟨h.os, h.tape, h.output, h.size, h.block⟩
/-- dots, cell by cell -/
abbrev flD (l : List Dt) : List Value := rg.dt.flP l
theorem flD_len (l : List Dt) : (flD l).length = l.length * 2 := rg.dt.flP_length l
theorem infoD : (Tryz.prog.info? 34).map (fun i => (i.zero, i.size, i.bytes)) = some (some (.agg #[.int .i64 0, .int .i64 0]), 2, 16) := by kernel_rfl
theorem appD {w W : World} {s : Sl} {l : List Dt} (h : Nw w W 34 2 s (flD l)) (x : Dt) (hl : l.length ≤ 4000000) :
    ∃ s' W', (Builtin.append_ #[50, 50] 50 #[.slice s.p s.n s.c, .slice (some ⟨W.heap.size, 0, none⟩) 1 1]).run Tryz.prog (W.alloc (Obj.cells #[.int .i64 x.1, .int .i64 x.2] 34)) = .ok (.slice (Sl.p s') (Sl.n s') (Sl.c s')) W' ∧ Nw w W' 34 2 s' (flD (l ++ [x])) ∧ Apart s.v.ownBlock.toList W W' := by
  obtain ⟨i0, hi, hz0, hz1, hz2⟩ := info_parts infoD
  have hn : s.n = l.length := by have := h.own.1; rw [flD_len] at this; omega
  obtain ⟨s', W', hrun, r1, r2, r3, k, r4, -, r6⟩ := run_appM 50 50 34 i0 _ 2 16 Tryz.underlying50 hi hz0 hz1 hz2 rfl (by decide) h 1 (flD [x]) (by decide) (by rw [flD_len]; rfl) (by intro u hu; exact rg.dt.flP_one hu) (by unfold maxLen; omega) (by omega)
  exact ⟨s', W', hrun, by show Nw w W' 34 2 s' (rg.dt.flP (l ++ [x])); rw [← rg.dt.flP_append]; exact r1, r3⟩
/-- with no panic -/
def noPanic (Q : Exit → Act → World → Prop) : Exit → Act → World → Prop
  | .panic _, _, _ => False
  | .normal, a, w => Q .normal a w
  | .ret, a, w => Q .ret a w
  | .exit i, a, w => Q (.exit i) a w
  | .goto l, a, w => Q (.goto l) a w
  | .outgrown, a, w => Q .outgrown a w
theorem noPanic_of {Q : Exit → Act → World → Prop} (e : Exit) (a : Act) (w : World) (h : noPanic Q e a w) : Q e a w := by
  cases e <;> first | exact h | exact h.elim
theorem wpListIn_app2 {F : Fence} {n : Nat} {w : World} {ops : Array Oper} {rest : List Oper} {o : Oper} {a : Act} {Q : Exit → Act → World → Prop} (hgd : o.guard = none) (s x : Operand) (t t' : TypeId)
    (ho : o.op = .call { callee := .builtin .append, args := #[s, x], argTypes := #[t, t'] }) (v u : Value) (hs : a.eval s = v) (hx : a.eval x = u) (v' : Value) (w' : World)
    (hrun : (Builtin.append_ #[t, t'] o.type #[v, u]).run Tryz.prog w = .ok v' w') (hK : wpListIn F n Tryz.prog ops Q rest (a.put o.dst v') w') : wpListIn F n Tryz.prog ops Q (o :: rest) a w := by
  refine wpListIn_plain hgd fun K hK' => ?_
  unfold Oper.wpIn
  refine ⟨?_, ?_⟩
  · simp [Oper.about, ho, resolve, Target.leads, Sem.run_pure]
  · rw [Oper.semAt_plain F _ _ (by rw [ho]; intro c hc'; cases hc')]
    simp [execOp, ho, resolve, invoke, builtin, hs, hx, hrun, Result.andThen]
    exact hK' _ _ hK
/-- AppendSeq's box and the list in it -/
structure Aq (w W : World) (B : Nat) (pre : List Dt) : Prop where
  ex : ∃ s : Sl, W.heap[B]? = some (.cells #[.slice s.p s.n s.c] 50 (0, 0)) ∧ Nw w W 34 2 s (flD pre)
theorem Aq.grown {w W W' : World} {B : Nat} {pre : List Dt} {row : Option Nat} (h : Aq w W B pre) (hg : W.grownBy W' row) (hr : ∀ r, row = some r → w.heap.size ≤ r ∧ ∃ o : Obj, W.heap[r]? = some o ∧ o.isCells = false) : Aq w W' B pre := by
  obtain ⟨s, h1, h2⟩ := h
  have a := ap_grown hg
  refine ⟨s, (grownBy_keeps_cells hg (fun r e => (hr r e).2) h1 rfl).trans h1, ⟨own_apart h2.own a (fun k hk hm => ?_), h2.new, h2.ap.trans' a (fun y hy => .inr (hr y (by simpa using hy)).1)⟩⟩
  obtain ⟨cur, hc⟩ := own_typ h2.own hk
  obtain ⟨_, o, ho, hn⟩ := hr k (by simpa using hm)
  rw [hc] at ho
  cases ho
  cases hn
def SqP (w : World) (ls : List Dt) (r : Ending) (w' : World) : Prop := ∃ (s : Sl) (ys : List Dt), r = .returned (.slice s.p s.n s.c) ∧ ys.Perm ls ∧ Nw w w' 34 2 s (flD ys)
set_option maxHeartbeats 8000000 in
set_option maxRecDepth 100000 in
theorem appendSeq_gen {w : World} {Bm N : Nat} {ls : List Dt} (hsq : ∀ w1, Apart [] w w1 → SeqStopsK Fence.wide (6 - 1) Tryz.prog 59 #[.pointer (some ⟨Bm, 0, none⟩)] (fun d : Dt => #[dV d]) KeepsWalks (fun ys => ys.Perm ls) (fun _ => True) N w1) (hN : N ≤ 4000000) :
    Calls Tryz.prog 79 #[.slice none 0 0, .func (.func 59) #[] #[.pointer (some ⟨Bm, 0, none⟩)]] w fun r w' => SqP w ls r w' := by
  obtain ⟨B, HXB⟩ : ∃ X, Hid (X = w.heap.size) := ⟨_, rfl⟩
  obtain ⟨w1, hw1⟩ : ∃ V, V = w.alloc (.cells #[.slice none 0 0] 50) := ⟨_, rfl⟩
  have a1 : Apart [] w w1 := by rw [hw1]; exact (Apart.refl [] w).alloc _
  have hB1 : w1.heap[B]? = some (.cells #[.slice none 0 0] 50 (0, 0)) := by rw [hw1, HXB.out]; exact heap_alloc_new w _
  have HI0 : Hid (Aq w w1 B []) := hid ⟨slz, hB1, Nw.none0 a1 _ _⟩
  have HNB : Hid (w.heap.size ≤ B ∧ B < w1.heap.size) := hid ⟨by rw [HXB.out]; exact Nat.le_refl _, lt_of_heap hB1⟩
  have HZ := hid a1.size
  have HSQ := hid (hsq w1 a1)
  have HN := hid hN
  clear a1 hB1 hsq hN
  refine (callsIn_wide (n := 6)).1 ?_
  refine callsIn_of_wp_marks Tryz.func79 rfl trivial ?_ rfl
  refine Code.wpIn_mono noPanic_of ?_
  refine wpIn_wide.2 ?_
  simp only [Tryz.ntmps79, List.size_toArray, List.length_cons, List.length_nil, Nat.reduceAdd, Nat.reduceSub, Array.replicate_succ, Array.replicate_zero, List.push_toArray, List.append_toArray, List.nil_append, List.cons_append]
  go_upto_region 1 with fail
  rw [← hw1, ← HXB.out]
  clear hw1 HXB
  go_wp2_with fail
  refine (wpIn_wide (n := 6)).1 ?_
  refine wpIn_rangeFunc_ownH rfl (by decide) (gf := 59) (lb := #[.pointer (some ⟨Bm, 0, none⟩)]) rfl trivial (enters_of Tryz.func59 (by kernel_rfl) rfl)
    HSQ.out (fun h k => ⟨Nat.le_trans h.size k.size, fun j o hj ho => k.same j o (h.same j o hj ho) ho⟩) (fun W l o o' hl ho hc hw => ⟨by simp, fun j ob hj hob => ?hKb⟩) (Below.refl _ _) (fun _ => rfl)
    (fun pre W => Aq w W B pre ∧ w1.heap.size ≤ W.heap.size) (fun c pre W => False) ?hI ?hIx ⟨HI0.out, Nat.le_refl _⟩
    (fun x a' W => ∃ b, W.heap[b]? = some (.cells #[.int .i64 x.1, .int .i64 x.2] 34 (0, 0)) ∧ a' = { tmps := #[.slice none 0 0, .func (.func 59) #[] #[.pointer (some ⟨Bm, 0, none⟩)], .pointer (some ⟨B, 0, none⟩), undef, .slice none 0 0, .pointer (some ⟨b, 0, none⟩), .func (.func 59) #[] #[.pointer (some ⟨Bm, 0, none⟩)], dV x, undef, undef, undef, undef, undef], defers := [] }) ?hAx ?assign ?body ?done ?stop
  case hKb =>
    by_cases e : j = l
    · subst e; rw [hj] at ho; cases ho; rw [hob] at hw; cases hw
    · rw [World.putObj_heap_other e]; exact hj
  case hI =>
    intro pre A A' row hs hg hr
    exact ⟨hs.1.grown hg (fun r e => ⟨by have := (hr r e).1; have := HZ.out; omega, (hr r e).2⟩), Nat.le_trans hs.2 hg.size⟩
  case hIx => intro c pre A A' row hs; exact hs.elim
  case hAx =>
    rintro x a' u A A' row ⟨b, h1, h2⟩ hg hr
    exact ⟨b, (grownBy_keeps_cells hg (fun r e => (hr r e).2) h1 rfl).trans h1, h2⟩
  case assign =>
    intro l pre x W K hi hK
    have HK := hid hK
    have HI := hid hi
    clear hi hK
    unfold dV
    gi_wp2
    have a0 : Apart [] W (W.alloc (.cells #[.int .i64 x.1, .int .i64 x.2] 34)) := (Apart.refl [] W).alloc _
    refine HK.out _ _ ⟨a0.size, fun k o _ hk ho => (a0.block k (lt_of_heap hk) (by simp)).trans hk⟩ ⟨a0.size, fun k o hk ho => (a0.block k (lt_of_heap hk) (by simp)).trans hk⟩ ⟨HI.out.1.grown (World.grownBy_alloc W _ none) (fun r e => by cases e), Nat.le_trans HI.out.2 a0.size⟩ ⟨W.heap.size, heap_alloc_new W _, rfl⟩
  case body =>
    rintro l pre x a' W hl8 hr8 ⟨hu, hzW⟩ ⟨b, hb, rfl⟩ hlen
    obtain ⟨s, h1, h2⟩ := hu
    obtain ⟨s', W', hrun, hn', hap⟩ := appD h2 x (by have := HN.out; omega)
    have HRUN := hid hrun
    have x0 := crow h1 0 (.slice s.p s.n s.c) rfl
    have x1 := crow hb 0 (.int .i64 x.1) rfl
    have x2 := crow hb 1 (.int .i64 x.2) rfl
    have hBo : s.v.ownBlock ≠ some B := fun e => by
      obtain ⟨cur, hc⟩ := own_typ h2.own e
      rw [h1] at hc
      cases hc
    have hB' : W'.heap[B]? = some (.cells #[.slice s.p s.n s.c] 50 (0, 0)) := (hap.block B (lt_of_heap h1) (fun hm => hBo (by simpa using hm))).trans h1
    have x3 := crow hB' 0 (.slice s.p s.n s.c) rfl
    have f3 := frozen_of_row _ _ 0 _ _ hB'
    obtain ⟨W2, hW2⟩ : ∃ V, V = W'.setCell ⟨B, 0, none⟩ (.slice s'.p s'.n s'.c) := ⟨_, rfl⟩
    have a2 : Apart [B] W' W2 := by rw [hW2]; exact (Apart.refl _ _).setCell (.inl (by simp)) _
    have hB2 : W2.heap[B]? = some (.cells #[.slice s'.p s'.n s'.c] 50 (0, 0)) := by
      rw [hW2]; have := heap_setCell_same W' B 0 _ 50 (.slice s'.p s'.n s'.c) hB'; simpa using this
    have hso : ∀ k, s'.v.ownBlock = some k → k ≠ B := fun k hk e => by
      obtain ⟨cur, hc⟩ := own_typ hn'.own hk
      rw [e, hB'] at hc
      cases hc
    have HE : Hid (Aq w W2 B (pre ++ [x])) := hid ⟨s', hB2, ⟨own_apart hn'.own a2 (fun k hk hm => hso k hk (by simpa using hm)), hn'.new, hn'.ap.trans' a2 (fun y hy => .inr (by simp at hy; subst hy; exact HNB.out.1))⟩⟩
    have hoth : ∀ (k : Nat) (o : Obj), W.heap[k]? = some o → o.isCells = false → W2.heap[k]? = some o := fun k o hk ho => by
      have e1 : W'.heap[k]? = some o := (hap.block k (lt_of_heap hk) (fun hm => by
        obtain ⟨cur, hc⟩ := own_typ h2.own (k := k) (by simpa using hm)
        rw [hk] at hc; cases hc; cases ho)).trans hk
      exact (a2.block k (lt_of_heap e1) (fun hm => by simp at hm; subst hm; rw [hB'] at e1; cases e1; cases ho)).trans e1
    have HO : Hid (W.heap.size ≤ W2.heap.size ∧ ∀ (k : Nat) (o : Obj), W.heap[k]? = some o → o.isCells = false → W2.heap[k]? = some o) := hid ⟨Nat.le_trans hap.size a2.size, hoth⟩
    have HZW := hid hzW
    clear hn' hap hrun hB' hb h1 h2 hso hoth a2 hB2 hBo hzW hl8 hr8 hlen
    gi_wp2_with (first | (gi_at_builtin; refine wpListIn_app2 rfl (.tmp 8) (.tmp 10) 50 50 rfl _ _ rfl rfl _ _ HRUN.out ?_) | gi_in)
    rw [← hW2]
    exact ⟨⟨HO.out.1, fun k o _ hk ho => HO.out.2 k o hk ho⟩, ⟨HO.out.1, fun k o hk ho => HO.out.2 k o hk (by cases o <;> first | rfl | cases ho)⟩, HE.out, Nat.le_trans HZW.out HO.out.1⟩
  case done =>
    rintro D ys W hD hperm ⟨⟨s, hb, ho⟩, hzW⟩ hdD
    have d7 := crow hb 0 (.slice s.p s.n s.c) rfl
    have HDD := hid hdD
    have HO := hid ho
    have HP := hid hperm
    clear hdD ho hperm hzW
    go_wp2_with fail
    simp only [noPanic, bodyPostM]
    refine ⟨by simp, .inl ⟨D, _, rfl, run_takeDeferred HDD.out, ?_⟩⟩
    refine ⟨_, results_tmp rfl _ _ _, s, ys, rfl, HP.out, ?_⟩
    have aD : Apart [D] W (W.putObj D (.deferred none)) := ⟨rfl, rfl, rfl, by simp, fun k _ hk => World.putObj_heap_other (fun e => hk (by simp [e]))⟩
    have hDw : w.heap.size ≤ D := by have := HZ.out; omega
    have o3 := HO.out
    exact ⟨own_apart o3.own aD (fun k hk m => by
      simp at m; subst m
      obtain ⟨cur, hc⟩ := own_typ o3.own hk
      rw [HDD.out] at hc; cases hc), o3.new, o3.ap.trans' aD (fun y hy => by simp at hy; subst hy; exact .inr hDw)⟩
  case stop => rintro D c pre W hD hpre hF; exact hF.elim
set_option maxRecDepth 100000 in
theorem keys_stops_none (n Bm : Nat) (w : World) (hBm : Bm < w.heap.size) (hm : w.cell? ⟨Bm, 0, none⟩ = some (.map none)) :
    SeqStopsK Fence.wide n Tryz.prog 59 #[.pointer (some ⟨Bm, 0, none⟩)] (fun d : Dt => #[dV d]) KeepsWalks (fun ys => ys.Perm []) (fun _ => True) 0 w := by
  intro l J Jx W hW hJ hJx hY hJ0
  have hmW : W.cell? ⟨Bm, 0, none⟩ = some (.map none) := (hW.cell (p := ⟨Bm, 0, none⟩) hBm).trans hm
  show CallsIn Fence.wide n Tryz.prog 59 #[.func (.yield l) #[] #[], .pointer (some ⟨Bm, 0, none⟩)] W _
  refine callsIn_of_wp Tryz.func59 rfl trivial ?_ rfl
  simp only [Tryz.ntmps59, List.size_toArray, List.length_cons, List.length_nil, Nat.reduceAdd, Nat.reduceSub, Array.replicate_succ, Array.replicate_zero, List.push_toArray, List.append_toArray, List.nil_append, List.cons_append]
  have HJ0 := hid (hJ [] W (W.alloc (.mapIter none 0 #[] 0)) none hJ0 (World.grownBy_alloc W _ none) (fun r e => by cases e))
  clear hJ hJx hY hJ0 hW hm
  have hrg := run_range_nilMap (P := Tryz.prog) W 83 34 99 Tryz.underlying83
  have hnx : ∀ ty, (Instr.next (.pointer (some ⟨W.heap.size, 0, none⟩)) false ty).run Tryz.prog (W.alloc (.mapIter none 0 #[] 0)) = _ := fun ty => run_next_nilMap W ty 0 0 #[]
  gi_wp2
  refine wpIn_loop_rounds 1 ?_
  rw [roundsIn_succ]
  gi_wp2
  go_end0
  exact ⟨⟨_, rfl⟩, .inl ⟨[], List.Perm.refl _, HJ0.out⟩⟩
/-- the sight's set in a box: nil, or these dots -/
def HdAt (w : World) (m : Option Nat) (ls : List Dt) (N : Nat) : Prop := match m with | none => ls = [] | some h => SetAt w h ls N
theorem HdAt.kept0 {w w' : World} {m : Option Nat} {ls : List Dt} {N : Nat} (h : HdAt w m ls N) (a : Apart [] w w') : HdAt w' m ls N := by
  cases m with
  | none => exact h
  | some x => exact SetAt.kept0 h a
theorem appendSeq_ok {w : World} {Bm N : Nat} {m : Option Nat} {ls : List Dt} (hBm : Bm < w.heap.size) (hm : w.cell? ⟨Bm, 0, none⟩ = some (.map m)) (hs : HdAt w m ls N) (hnd : ls.Nodup) (hN : N ≤ 4000000) :
    Calls Tryz.prog 79 #[.slice none 0 0, .func (.func 59) #[] #[.pointer (some ⟨Bm, 0, none⟩)]] w fun r w' => SqP w ls r w' := by
  cases m with
  | none =>
    have e : ls = [] := hs
    subst e
    exact appendSeq_gen (N := 0) (fun w1 a => keys_stops_none _ Bm w1 (Nat.lt_of_lt_of_le hBm a.size) ((a.cell (p := ⟨Bm, 0, none⟩) hBm (by simp)).trans hm)) (by omega)
  | some h => exact appendSeq_gen (fun w1 a => keys_stops _ (by decide) Bm h N ls w1 (Nat.lt_of_lt_of_le hBm a.size) ((a.cell (p := ⟨Bm, 0, none⟩) hBm (by simp)).trans hm) (SetAt.kept0 hs a) hnd) hN
/-- maps.Keys -/
theorem keys_ok (w : World) (m : Option Nat) : Calls Tryz.prog 39 #[.map m] w fun r w' => r = .returned (.func (.func 59) #[] #[.pointer (some ⟨w.heap.size, 0, none⟩)]) ∧ w' = w.alloc (.cells #[.map m] 83) := by
  go_enter Tryz.func39, Tryz.ntmps39
  go_wp2_with fail
  go_ret
  exact ⟨rfl, rfl⟩
theorem collect_ok {w : World} {Bm N : Nat} {m : Option Nat} {ls : List Dt} (hBm : Bm < w.heap.size) (hm : w.cell? ⟨Bm, 0, none⟩ = some (.map m)) (hs : HdAt w m ls N) (hnd : ls.Nodup) (hN : N ≤ 4000000) :
    Calls Tryz.prog 57 #[.func (.func 59) #[] #[.pointer (some ⟨Bm, 0, none⟩)]] w fun r w' => SqP w ls r w' := by
  have HQ := hid (appendSeq_ok hBm hm hs hnd hN)
  clear hs hm hBm
  go_enter Tryz.func57, Tryz.ntmps57
  go_wp2_with fail
  refine HQ.out.mono ?_
  rintro _ w1 ⟨s, ys, rfl, hp, hn⟩
  try dsimp only
  go_wp2_with fail
  go_ret
  exact ⟨s, ys, rfl, hp, hn⟩
open rg.dt in
theorem permIn_of {l b : List Dt} (hp : b.Perm l) : PermIn 0 l.toArray.size l.toArray b.toArray := by
  have hl := hp.length_eq
  refine ⟨by simpa using hl, fun i hi => ?_, ?_⟩
  · have hi' : l.length ≤ i := by simpa using hi
    rw [getElem!_neg _ i (by simp; omega), getElem!_neg _ i (by simp; omega)]
  · have e1 : (b.toArray.extract 0 l.toArray.size).toList = b := by simp [← hl]
    have e2 : (l.toArray.extract 0 l.toArray.size).toList = l := by simp
    rw [e1, e2]; exact hp
open rg.dt in
theorem sortedIn_of {l b : List Dt} (hl : b.length = l.length) (h : b.Pairwise (fun x y => ltP y x = false)) : SortedIn (ltOf cfP) 0 l.toArray.size b.toArray := by
  intro i j _ hij hj
  have hj' : j < l.length := by simpa using hj
  have hs := List.pairwise_iff_getElem.1 h i j (by omega) (by omega) hij
  rw [getElem!_pos _ j (by simp; omega), getElem!_pos _ i (by simp; omega)]
  show decide (cfP _ _ < 0) = false
  rw [cfP_lt]
  simpa using hs
/-- dots one behind the other -/
def ltD (a b : Dt) : Prop := a.1 < b.1 ∨ (a.1 = b.1 ∧ a.2 < b.2)
def UpD (l : List Dt) : Prop := l.Pairwise ltD
theorem UpD.nodup {l : List Dt} (h : UpD l) : l.Nodup := h.imp (fun {a b} hab e => by subst e; unfold ltD at hab; omega)
theorem srt_up {ys ls : List Dt} (hp : ys.Perm ls) (h : UpD ls) : rg.dt.srtP ys = ls := by
  have hs : ls.Pairwise (fun x y => rg.dt.ltP y x = false) := h.imp (fun {a b} hab => by rw [rg.dt.ltP_not]; unfold ltD at hab; omega)
  have e := rg.dt.srt_eq ys ls.toArray (permIn_of hp.symm) (sortedIn_of hp.symm.length_eq hs)
  have := congrArg Array.toList e
  simpa using this.symm
def SqS (w : World) (ls : List Dt) (r : Ending) (w' : World) : Prop := ∃ (s : Sl), r = .returned (.slice s.p s.n s.c) ∧ Nw w w' 34 2 s (flD ls)
set_option maxHeartbeats 2000000 in
set_option maxRecDepth 100000 in
theorem insertion_nil (W : World) (c : Nat) (p : Option Addr) : Calls Tryz.prog 100 #[.slice p 0 c, .int .i64 0, .int .i64 0, .func (.func 40) #[] #[]] W fun r W' => (∃ v, r = .returned v) ∧ Apart [] W W' := by
  go_enter Tryz.func100, Tryz.ntmps100
  go_wp2_with fail
  go_loopw [8] (fun v wr => v = .int .i64 1 ∧ wr = W) (fun _ _ => 0)
  case atStart => exact ⟨by first | rfl | simp, rfl⟩
  case round =>
    obtain ⟨rfl, rfl⟩ := hrel
    go_wp2_with fail
    go_end0
    exact ⟨⟨_, rfl⟩, Apart.refl _ _⟩
set_option maxHeartbeats 2000000 in
set_option maxRecDepth 100000 in
theorem pdq_nil (W : World) (c : Nat) (p : Option Addr) (k : Int) : Calls Tryz.prog 80 #[.slice p 0 c, .int .i64 0, .int .i64 0, .int .i64 k, .func (.func 40) #[] #[]] W fun r W' => (∃ v, r = .returned v) ∧ Apart [] W W' := by
  have hC := insertion_nil W c p
  go_enter Tryz.func80, Tryz.ntmps80
  go_wp2_with fail
  refine wp_loop_rounds 1 ?_
  rw [rounds_succ]
  go_wp2_with fail
  refine hC.mono ?_
  rintro _ w1 ⟨⟨v, rfl⟩, a1⟩
  have HA := hid a1
  clear a1 hC
  dsimp only
  go_wp2_with fail
  refine bodyPost_ret (results_none rfl _ _ _) rfl ?_
  exact ⟨⟨_, rfl⟩, HA.out⟩
set_option maxHeartbeats 2000000 in
set_option maxRecDepth 100000 in
theorem len81_ok (W : World) : Calls Tryz.prog 81 #[.int .u64 0] W fun r W' => (∃ k : Int, r = .returned (.int .i64 k)) ∧ Apart [] W W' := by
  go_enter Tryz.func81, Tryz.ntmps81
  go_wp2_with fail
  refine (len64 0 (by decide) _).mono ?_
  rintro _ w1 ⟨rfl, rfl⟩
  dsimp only
  go_wp2_with fail
  go_ret
  exact ⟨⟨_, rfl⟩, Apart.refl _ _⟩
set_option maxHeartbeats 2000000 in
set_option maxRecDepth 100000 in
theorem sort_nil (W : World) (c : Nat) (p : Option Addr) : Calls Tryz.prog 58 #[.slice p 0 c, .func (.func 40) #[] #[]] W fun r W' => r = .returned (.tuple #[]) ∧ Apart [] W W' := by
  have hC := fun W k => pdq_nil W c p k
  have hL := len81_ok W
  go_enter Tryz.func58, Tryz.ntmps58
  go_wp2_with fail
  refine hL.mono ?_
  rintro _ w1 ⟨⟨k, rfl⟩, a1⟩
  have HA := hid a1
  clear a1 hL
  dsimp only
  go_wp2_with fail
  refine (hC w1 k).mono ?_
  rintro _ w2 ⟨⟨v, rfl⟩, a2⟩
  have HA2 := hid (HA.out.trans a2)
  clear a2 hC
  dsimp only
  go_wp2_with fail
  go_end0
  exact ⟨rfl, HA2.out⟩
theorem sortD_ok {w W : World} {s : Sl} {ys ls : List Dt} (h : Nw w W 34 2 s (flD ys)) (hp : ys.Perm ls) (hu : UpD ls) (hl : ls.length ≤ 4000000) :
    Calls Tryz.prog 58 #[.slice s.p s.n s.c, .func (.func 40) #[] #[]] W fun r w' => r = .returned (.tuple #[]) ∧ Nw w w' 34 2 s (flD ls) := by
  have hn : s.n = ys.length := by have := h.own.1; rw [flD_len] at this; omega
  have hpl := hp.length_eq
  by_cases h0 : ys = []
  · subst h0
    have e : ls = [] := by simpa using hp.symm
    subst e
    have hs : s.n = 0 := by simpa using hn
    have HN := hid h
    obtain ⟨sp, sn, sc⟩ := s
    dsimp only at hs
    subst hs
    refine (sort_nil W sc sp).mono ?_
    rintro r w' ⟨rfl, a⟩
    exact ⟨rfl, HN.out.kept a⟩
  · obtain ⟨hxl, ⟨hv, hz⟩ | ⟨g, cap', cur, hv, _⟩⟩ := id h.own
    · exfalso
      apply h0
      rw [hz] at hn
      exact List.length_eq_zero_iff.1 hn.symm
    · unfold Sl.v at hv
      simp only [Value.slice.injEq] at hv
      obtain ⟨hvp, -, hvc⟩ := hv
      have ho : rg.OwnR 34 2 w W (some ⟨g, 0, none⟩) s.n s.c (rg.dt.flP ys) := ⟨by have := h.own; unfold Sl.v at this; rw [hvp] at this; exact this, fun b hb => h.new b (by unfold Sl.v; rw [hvp]; exact hb), ar h.ap⟩
      rw [hvp]
      refine (rg.dt.sort_ok ho hn (by omega)).mono ?_
      rintro r w' ⟨rfl, o2⟩
      rw [srt_up hp hu] at o2
      refine ⟨rfl, ⟨by have := o2.own; unfold Sl.v; rw [hvp]; exact this, fun k hk => o2.new k (by unfold Sl.v at hk; rw [hvp] at hk; exact hk), ra o2.ap⟩⟩
/-- slices.SortedFunc of a map's keys -/
theorem sortedFunc_ok {w : World} {Bm N : Nat} {m : Option Nat} {ls : List Dt} (hBm : Bm < w.heap.size) (hm : w.cell? ⟨Bm, 0, none⟩ = some (.map m)) (hs : HdAt w m ls N) (hu : UpD ls) (hl : ls.length ≤ 4000000) (hN : N ≤ 4000000) :
    Calls Tryz.prog 38 #[.func (.func 59) #[] #[.pointer (some ⟨Bm, 0, none⟩)], .func (.func 40) #[] #[]] w fun r w' => SqS w ls r w' := by
  have HQ := hid (collect_ok hBm hm hs hu.nodup hN)
  have HU := hid hu
  have HL := hid hl
  clear hs hm hBm hu hl
  go_enter Tryz.func38, Tryz.ntmps38
  go_wp2_with fail
  refine HQ.out.mono ?_
  rintro _ w1 ⟨s, ys, rfl, hp, hn⟩
  have HS := hid (sortD_ok hn hp HU.out HL.out)
  clear hn hp HQ
  try dsimp only
  go_wp2_with fail
  refine HS.out.mono ?_
  rintro _ w2 ⟨rfl, hn⟩
  have HN2 := hid hn
  clear hn HS
  try dsimp only
  go_wp2_with fail
  go_ret
  exact ⟨s, rfl, HN2.out⟩
end Go.Proofs.YtpddokbjjhbfgaaGreat.ds
