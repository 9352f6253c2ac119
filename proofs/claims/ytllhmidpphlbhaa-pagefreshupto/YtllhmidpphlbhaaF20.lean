import Derived.Deep.RegionHeld
import Derived.OrdersHeld
import Derived.WalkKit
import Derived.ProofKit
import Derived.Lib.TrailingZeros
import Derived.Test.YtllhmidpphlbhaaChecked
import Derived.OpenShut
import Derived.Deep.QuietTactic
import Derived.BigQuiet
import Derived.BigRegion
import Derived.Laws.CopyOwn
import Derived.Laws.Bits64b
import Derived.Laws.MathBits
import Derived.Laws.ShiftsVarLaws
import Derived.WalkSmall
import Derived.Laws.ResultCell
import Derived.Lib.BitFns
import Derived.Laws.StructEq
import Derived.ArgAppend
import Derived.Deep.RegionLaw
import Derived.Deep.DeepAppendRoom
import Derived.Sort.WalkA
import Derived.Laws.Strings
import Derived.Deep.CutBlock
import Derived.Great.BuildSlice
import Derived.Laws.AppendOwnNone
import Derived.Lib.Overlaps
import Derived.Lib.AppendZerosOnto
import Derived.Laws.NewBlocks
import Derived.Laws.Externs
import Derived.Laws.IdiomCopy
import Derived.Laws.BytesString
import Derived.Deep.CutRange
import Derived.RangeFuncNested
import Derived.RangeFuncBound
import Derived.RangeFuncCalls
import Derived.RangeFuncLeaves
import Derived.Shelf.Abstract
import Derived.Shelf.RegionOpen
import Derived.OwnWalkIn
import Derived.TacticsInMore
import Derived.LoopNIn
import Derived.LoopIn
import GoSem.Claim
import GoSem.ClaimJoined
import GoSem.ClaimMapViews
import Derived.JoinedTies
import Derived.KernelRfl
import Derived.Deep.OwnRows
import Derived.Lib.LaidTab
import Derived.JoinedCond
import Derived.ShutString
import Derived.ChangeOld
import Derived.Below
import Derived.Carry
import Derived.ChangeSlices
import Derived.Deep.Slices
import Derived.Deep.DeepHandedRow
import Derived.RowKit
import Derived.ChangeShapes
import Derived.SizedLaws
import Derived.ChangeMaps5
import Derived.Lib.Walk
import Derived.Lib.SliceRun
import Derived.Lib.AppendStr
import Derived.Lib.ConvBytes
import Derived.Deep.RegionHeld3
import Derived.Deep.MidRow
import Derived.Laws.MakeOwn
import Derived.Lib.SlBytesConst
import Derived.Test.YtllhmidpphlbhaaRows
import Derived.Test.YtllhmidpphlbhaaF19
namespace Go.Proofs.Ytllhmidpphlbhaa.ds
open Go.ChangeShapes Go.WideShapes Go.ChangeAt Go.RowKit Go.Sort
set_option linter.unusedVariables false
set_option linter.unusedSimpArgs false
theorem rowv6 {w : World} {g : Nat} {t : TypeId} {a b c d e f : Value} (h : w.heap[g]? = some (.cells #[a, b, c, d, e, f] t (0, 0))) : w.cell? ⟨g, 0, none⟩ = some a ∧ w.cell? ⟨g, 1, none⟩ = some b ∧ w.cell? ⟨g, 2, none⟩ = some c ∧ w.cell? ⟨g, 3, none⟩ = some d ∧ w.cell? ⟨g, 4, none⟩ = some e ∧ w.cell? ⟨g, 5, none⟩ = some f := by
  refine ⟨?_, ?_, ?_, ?_, ?_, ?_⟩ <;> (rw [cell_of_row _ _ _ _ _ _ h]; rfl)

set_option maxHeartbeats 8000000 in
set_option maxRecDepth 100000 in
theorem lwrites_ok {w : World} (e1 e2 : E) (r1 r2 : Wr) (h1 : Reads w e1 r1) (h2 : Reads w e2 r2) (v : Bool) (hv : v = true ↔ r1 = r2) : Calls Try.prog 44 #[.agg #[.int .i64 e1.n, .int .i64 e1.c, .string e1.k, .bool e1.d, .slice e1.v.p e1.v.n e1.v.c, .slice e1.x.p e1.x.n e1.x.c], .agg #[.int .i64 e2.n, .int .i64 e2.c, .string e2.k, .bool e2.d, .slice e2.v.p e2.v.n e2.v.c, .slice e2.x.p e2.x.n e2.x.c]] w fun r w' => r = .returned (.bool v) ∧ Apart [] w w' := by
  obtain ⟨n1, c1, k1, d1, v1, x1⟩ := e1
  obtain ⟨n2, c2, k2, d2, v2, x2⟩ := e2
  obtain ⟨rn1, rc1, rk1, rd1, vs1, xs1⟩ := r1
  obtain ⟨rn2, rc2, rk2, rd2, vs2, xs2⟩ := r2
  obtain ⟨a1, a2, a3, a4, hv1, hvn1, hvl1, hvb1, hx1, hxl1, hvo1, hxo1⟩ := h1
  obtain ⟨b1, b2, b3, b4, hv2, hvn2, hvl2, hvb2, hx2, hxl2, hvo2, hxo2⟩ := h2
  simp only at a1 a2 a3 a4 hv1 hvn1 hvl1 hvb1 hx1 hxl1 hvo1 hxo1 b1 b2 b3 b4 hv2 hvn2 hvl2 hvb2 hx2 hxl2 hvo2 hxo2
  subst a1 a2 a3 a4 b1 b2 b3 b4
  simp only [Wr.mk.injEq] at hv
  simp only
  obtain ⟨bv, hbv⟩ := bool_of (vs1 = vs2)
  obtain ⟨bx, hbx⟩ := bool_of (xs1 = xs2)
  have HCv : Hid (∀ W, Apart [] w W → Calls Try.prog 23 #[.slice v1.p v1.n v1.c, .slice v2.p v2.n v2.c] W fun r w' => r = .returned (.bool bv) ∧ w' = W) := fun W a => same_ok (⟨hv1.kept0 a, hvn1, hvb1, hvo1⟩ : RBs W v1 vs1) ⟨hv2.kept0 a, hvn2, hvb2, hvo2⟩ bv hbv
  have HCx : Hid (∀ W, Apart [] w W → Calls Try.prog 57 #[.slice x1.p x1.n x1.c, .slice x2.p x2.n x2.c] W fun r w' => r = .returned (.bool bx) ∧ Apart [] W w') := fun W a => spans_ok (hx1.kept0 a) (hx2.kept0 a) bx hbx
  rw [← hbv, ← hbx] at hv
  have HV := hid hv
  clear hv hbv hbx hv1 hvn1 hvl1 hvb1 hx1 hxl1 hvo1 hxo1 hv2 hvn2 hvl2 hvb2 hx2 hxl2 hvo2 hxo2
  by_cases hn : n1 = n2 ∧ c1 = c2
  · obtain ⟨hn, hc⟩ := hn
    subst hn hc
    by_cases hk : k1 = k2
    · subst hk
      by_cases hd : d1 = d2
      · subst hd
        obtain ⟨w1, hw1⟩ : ∃ w1, w1 = w.alloc (.cells #[.int .i64 n1, .int .i64 c1, .string k1, .bool d1, .slice v1.p v1.n v1.c, .slice x1.p x1.n x1.c] 50) := ⟨_, rfl⟩
        obtain ⟨w2, hw2⟩ : ∃ w2, w2 = w1.alloc (.cells #[.int .i64 n1, .int .i64 c1, .string k1, .bool d1, .slice v2.p v2.n v2.c, .slice x2.p x2.n x2.c] 50) := ⟨_, rfl⟩
        obtain ⟨X, HXX⟩ : ∃ X, Hid (X = w.heap.size) := ⟨_, rfl⟩
        obtain ⟨Y, HYY⟩ : ∃ Y, Hid (Y = w.heap.size + 1) := ⟨_, rfl⟩
        have HA2 : Hid (Apart [] w w2) := by unfold Hid; rw [hw2, hw1]; exact ((Apart.refl [] w).alloc _).alloc _
        have hX2 : w2.heap[X]? = some (.cells #[.int .i64 n1, .int .i64 c1, .string k1, .bool d1, .slice v1.p v1.n v1.c, .slice x1.p x1.n x1.c] 50 (0, 0)) := by rw [HXX.out, hw2, hw1]; exact (((Apart.refl [] _).alloc _).block _ (by simp) (by simp)).trans (heap_alloc_new w _)
        have hY2 : w2.heap[Y]? = some (.cells #[.int .i64 n1, .int .i64 c1, .string k1, .bool d1, .slice v2.p v2.n v2.c, .slice x2.p x2.n x2.c] 50 (0, 0)) := by
          have := heap_alloc_new w1 (.cells #[.int .i64 n1, .int .i64 c1, .string k1, .bool d1, .slice v2.p v2.n v2.c, .slice x2.p x2.n x2.c] 50)
          rw [← hw2] at this
          rw [HYY.out]
          rw [hw1] at this
          simpa using this
        obtain ⟨z0, z1, z2, z3, z4, z5⟩ := rowv6 hX2
        obtain ⟨y0, y1, y2, y3, y4, y5⟩ := rowv6 hY2
        clear hX2 hY2
        go_enter Try.func44, Try.ntmps44
        go_upto_region 1 with fail
        rw [← hw1, ← hw2, ← HYY.out, ← HXX.out]
        clear hw1 hw2
        go_wp2_with fail
        refine (HCv.out w2 HA2.out).mono ?_
        rintro _ wn ⟨rfl, hwn⟩
        rw [hwn]
        clear hwn wn
        try dsimp only
        cases bv with
        | false =>
          have Hvv : Hid (v = false) := bool_f' HV.out (by simp)
          go_wp2_with fail
          go_ret
          exact ⟨by rw [Hvv.out]; rfl, HA2.out⟩
        | true =>
          have Hvv : Hid (v = bx) := by unfold Hid; rw [Bool.eq_iff_iff, HV.out]; simp
          go_wp2_with fail
          refine (HCx.out w2 HA2.out).mono ?_
          rintro _ w3 ⟨rfl, ha3⟩
          have HA3 : Hid (Apart [] w w3) := HA2.out.trans ha3
          clear ha3 z0 z1 z2 z3 z4 z5 y0 y1 y2 y3 y4 y5
          try dsimp only
          go_wp2_with fail
          go_ret
          exact ⟨by rw [Hvv.out]; rfl, HA3.out⟩
      · have hdb : (d1 == d2) = false := by simp [hd]
        obtain ⟨w1, hw1⟩ : ∃ w1, w1 = w.alloc (.cells #[.int .i64 n1, .int .i64 c1, .string k1, .bool d1, .slice v1.p v1.n v1.c, .slice x1.p x1.n x1.c] 50) := ⟨_, rfl⟩
        obtain ⟨w2, hw2⟩ : ∃ w2, w2 = w1.alloc (.cells #[.int .i64 n1, .int .i64 c1, .string k1, .bool d2, .slice v2.p v2.n v2.c, .slice x2.p x2.n x2.c] 50) := ⟨_, rfl⟩
        obtain ⟨X, HXX⟩ : ∃ X, Hid (X = w.heap.size) := ⟨_, rfl⟩
        obtain ⟨Y, HYY⟩ : ∃ Y, Hid (Y = w.heap.size + 1) := ⟨_, rfl⟩
        have HA2 : Hid (Apart [] w w2) := by unfold Hid; rw [hw2, hw1]; exact ((Apart.refl [] w).alloc _).alloc _
        have hX2 : w2.heap[X]? = some (.cells #[.int .i64 n1, .int .i64 c1, .string k1, .bool d1, .slice v1.p v1.n v1.c, .slice x1.p x1.n x1.c] 50 (0, 0)) := by rw [HXX.out, hw2, hw1]; exact (((Apart.refl [] _).alloc _).block _ (by simp) (by simp)).trans (heap_alloc_new w _)
        have hY2 : w2.heap[Y]? = some (.cells #[.int .i64 n1, .int .i64 c1, .string k1, .bool d2, .slice v2.p v2.n v2.c, .slice x2.p x2.n x2.c] 50 (0, 0)) := by
          have := heap_alloc_new w1 (.cells #[.int .i64 n1, .int .i64 c1, .string k1, .bool d2, .slice v2.p v2.n v2.c, .slice x2.p x2.n x2.c] 50)
          rw [← hw2] at this
          rw [HYY.out]
          rw [hw1] at this
          simpa using this
        obtain ⟨z0, z1, z2, z3, z4, z5⟩ := rowv6 hX2
        obtain ⟨y0, y1, y2, y3, y4, y5⟩ := rowv6 hY2
        clear hX2 hY2
        go_enter Try.func44, Try.ntmps44
        go_upto_region 1 with fail
        rw [← hw1, ← hw2, ← HYY.out, ← HXX.out]
        clear hw1 hw2
        have Hvv : Hid (v = false) := bool_f' HV.out (fun h => hd h.2.2.2.1)
        go_wp2_with fail
        go_ret
        exact ⟨by rw [Hvv.out]; rfl, HA2.out⟩
    · have hkb : (k1.toList == k2.toList) = false := by rw [beq_eq_false_iff_ne]; exact fun h => hk (toList_inj h)
      obtain ⟨w1, hw1⟩ : ∃ w1, w1 = w.alloc (.cells #[.int .i64 n1, .int .i64 c1, .string k1, .bool d1, .slice v1.p v1.n v1.c, .slice x1.p x1.n x1.c] 50) := ⟨_, rfl⟩
      obtain ⟨w2, hw2⟩ : ∃ w2, w2 = w1.alloc (.cells #[.int .i64 n1, .int .i64 c1, .string k2, .bool d2, .slice v2.p v2.n v2.c, .slice x2.p x2.n x2.c] 50) := ⟨_, rfl⟩
      obtain ⟨X, HXX⟩ : ∃ X, Hid (X = w.heap.size) := ⟨_, rfl⟩
      obtain ⟨Y, HYY⟩ : ∃ Y, Hid (Y = w.heap.size + 1) := ⟨_, rfl⟩
      have HA2 : Hid (Apart [] w w2) := by unfold Hid; rw [hw2, hw1]; exact ((Apart.refl [] w).alloc _).alloc _
      have hX2 : w2.heap[X]? = some (.cells #[.int .i64 n1, .int .i64 c1, .string k1, .bool d1, .slice v1.p v1.n v1.c, .slice x1.p x1.n x1.c] 50 (0, 0)) := by rw [HXX.out, hw2, hw1]; exact (((Apart.refl [] _).alloc _).block _ (by simp) (by simp)).trans (heap_alloc_new w _)
      have hY2 : w2.heap[Y]? = some (.cells #[.int .i64 n1, .int .i64 c1, .string k2, .bool d2, .slice v2.p v2.n v2.c, .slice x2.p x2.n x2.c] 50 (0, 0)) := by
        have := heap_alloc_new w1 (.cells #[.int .i64 n1, .int .i64 c1, .string k2, .bool d2, .slice v2.p v2.n v2.c, .slice x2.p x2.n x2.c] 50)
        rw [← hw2] at this
        rw [HYY.out]
        rw [hw1] at this
        simpa using this
      obtain ⟨z0, z1, z2, z3, z4, z5⟩ := rowv6 hX2
      obtain ⟨y0, y1, y2, y3, y4, y5⟩ := rowv6 hY2
      clear hX2 hY2
      go_enter Try.func44, Try.ntmps44
      go_upto_region 1 with fail
      rw [← hw1, ← hw2, ← HYY.out, ← HXX.out]
      clear hw1 hw2
      have Hvv : Hid (v = false) := bool_f' HV.out (fun h => hk h.2.2.1)
      go_wp2_with fail
      go_ret
      exact ⟨by rw [Hvv.out]; rfl, HA2.out⟩
  · skip
    obtain ⟨w1, hw1⟩ : ∃ w1, w1 = w.alloc (.cells #[.int .i64 n1, .int .i64 c1, .string k1, .bool d1, .slice v1.p v1.n v1.c, .slice x1.p x1.n x1.c] 50) := ⟨_, rfl⟩
    obtain ⟨w2, hw2⟩ : ∃ w2, w2 = w1.alloc (.cells #[.int .i64 n2, .int .i64 c2, .string k2, .bool d2, .slice v2.p v2.n v2.c, .slice x2.p x2.n x2.c] 50) := ⟨_, rfl⟩
    obtain ⟨X, HXX⟩ : ∃ X, Hid (X = w.heap.size) := ⟨_, rfl⟩
    obtain ⟨Y, HYY⟩ : ∃ Y, Hid (Y = w.heap.size + 1) := ⟨_, rfl⟩
    have HA2 : Hid (Apart [] w w2) := by unfold Hid; rw [hw2, hw1]; exact ((Apart.refl [] w).alloc _).alloc _
    have hX2 : w2.heap[X]? = some (.cells #[.int .i64 n1, .int .i64 c1, .string k1, .bool d1, .slice v1.p v1.n v1.c, .slice x1.p x1.n x1.c] 50 (0, 0)) := by rw [HXX.out, hw2, hw1]; exact (((Apart.refl [] _).alloc _).block _ (by simp) (by simp)).trans (heap_alloc_new w _)
    have hY2 : w2.heap[Y]? = some (.cells #[.int .i64 n2, .int .i64 c2, .string k2, .bool d2, .slice v2.p v2.n v2.c, .slice x2.p x2.n x2.c] 50 (0, 0)) := by
      have := heap_alloc_new w1 (.cells #[.int .i64 n2, .int .i64 c2, .string k2, .bool d2, .slice v2.p v2.n v2.c, .slice x2.p x2.n x2.c] 50)
      rw [← hw2] at this
      rw [HYY.out]
      rw [hw1] at this
      simpa using this
    obtain ⟨z0, z1, z2, z3, z4, z5⟩ := rowv6 hX2
    obtain ⟨y0, y1, y2, y3, y4, y5⟩ := rowv6 hY2
    clear hX2 hY2
    go_enter Try.func44, Try.ntmps44
    go_upto_region 1 with fail
    rw [← hw1, ← hw2, ← HYY.out, ← HXX.out]
    clear hw1 hw2
    have Hvv : Hid (v = false) := bool_f' HV.out (fun h => hn ⟨h.1, h.2.1⟩)
    go_wp2_with fail
    all_goals (go_ret; exact ⟨by rw [Hvv.out]; rfl, HA2.out⟩)
end Go.Proofs.Ytllhmidpphlbhaa.ds
namespace Go.Proofs.Ytllhmidpphlbhaa.ds
open Go.ChangeShapes Go.WideShapes Go.ChangeAt Go.RowKit Go.Sort
set_option linter.unusedVariables false
set_option linter.unusedSimpArgs false
theorem TK.new {ts : List Nat} {W W1 W2 : World} {A : Nat} (h : TK ts W W1) (a : Apart [A] W1 W2) (hA : W.heap.size ≤ A) : TK ts W W2 := by
  obtain ⟨Z, b, hz⟩ := h
  exact ⟨Z, b.trans' a (fun y hy => by simp at hy; exact .inr (by omega)), hz⟩
theorem set6 {W : World} {B : Nat} {t : TypeId} {a b c d e f : Value} (a' b' c' d' e' f' : Value) (h : W.heap[B]? = some (.cells #[a, b, c, d, e, f] t (0, 0))) : ((((((W.setCell ⟨B, 0, none⟩ a').setCell ⟨B, 1, none⟩ b').setCell ⟨B, 2, none⟩ c').setCell ⟨B, 3, none⟩ d').setCell ⟨B, 4, none⟩ e').setCell ⟨B, 5, none⟩ f').heap[B]? = some (.cells #[a', b', c', d', e', f'] t (0, 0)) ∧ Apart [B] W ((((((W.setCell ⟨B, 0, none⟩ a').setCell ⟨B, 1, none⟩ b').setCell ⟨B, 2, none⟩ c').setCell ⟨B, 3, none⟩ d').setCell ⟨B, 4, none⟩ e').setCell ⟨B, 5, none⟩ f') := by
  have h0 := heap_setCell_same W B 0 _ t a' h
  have h1 := heap_setCell_same _ B 1 _ t b' h0
  have h2 := heap_setCell_same _ B 2 _ t c' h1
  have h3 := heap_setCell_same _ B 3 _ t d' h2
  have h4 := heap_setCell_same _ B 4 _ t e' h3
  have h5 := heap_setCell_same _ B 5 _ t f' h4
  exact ⟨by simpa using h5, (((((((Apart.refl [B] W).setCell (.inl (by simp)) _).setCell (.inl (by simp)) _).setCell (.inl (by simp)) _).setCell (.inl (by simp)) _).setCell (.inl (by simp)) _).setCell (.inl (by simp)) _)⟩
/-- a write is lent -/
structure LwP (w W : World) (X : Nat) (sv sx : Sl) (vl xl : List Sl) (vb : List (List Nat)) (xb : List (List S)) (e : E) (r : Wr) (q : Ending) (W' : World) : Prop where
  ex : ∃ (sv' sx' tv tx : Sl), q = .returned (.agg #[.int .i64 e.n, .int .i64 e.c, .string e.k, .bool e.d, .slice tv.p r.vs.length tv.c, .slice tx.p r.xs.length tx.c]) ∧ LD w W' X 0 0 sv' sx' (vl ++ [tv]) (xl ++ [tx]) (vb ++ [r.vs]) (xb ++ [r.xs]) ∧ TK [28, 48, 88] W W'
set_option maxHeartbeats 8000000 in
set_option maxRecDepth 100000 in
theorem lwrite_ok {w W : World} {X : Nat} {sv sx : Sl} {vl xl : List Sl} {vb : List (List Nat)} {xb : List (List S)} (h : LD w W X 0 0 sv sx vl xl vb xb) (e : E) (r : Wr) (hr : Reads w e r) (hl : vl.length ≤ 2000000) (hl' : xl.length ≤ 2000000) : Calls Try.prog 41 #[.pointer (some ⟨X, 0, none⟩), .agg #[.int .i64 e.n, .int .i64 e.c, .string e.k, .bool e.d, .slice e.v.p e.v.n e.v.c, .slice e.x.p e.x.n e.x.c]] W fun q W' => LwP w W X sv sx vl xl vb xb e r q W' := by
  obtain ⟨A, HXA⟩ : ∃ A, Hid (A = W.heap.size) := ⟨_, rfl⟩
  obtain ⟨W0, hW0⟩ : ∃ V, V = W.alloc (.cells #[.int .i64 e.n, .int .i64 e.c, .string e.k, .bool e.d, .slice e.v.p e.v.n e.v.c, .slice e.x.p e.x.n e.x.c] 50) := ⟨_, rfl⟩
  obtain ⟨W1, hW1⟩ : ∃ V, V = W0.alloc (.cells #[.int .i64 0, .int .i64 0, .string ⟨#[]⟩, .bool false, .slice none 0 0, .slice none 0 0] 50) := ⟨_, rfl⟩
  have a01 : Apart [] W0 W1 := by rw [hW1]; exact (Apart.refl [] W0).alloc _
  have a1 : Apart [] W W1 := by rw [hW1, hW0]; exact ((Apart.refl [] W).alloc _).alloc _
  have hA0 : W0.heap[A]? = some (.cells #[.int .i64 e.n, .int .i64 e.c, .string e.k, .bool e.d, .slice e.v.p e.v.n e.v.c, .slice e.x.p e.x.n e.x.c] 50 (0, 0)) := by rw [hW0, HXA.out]; exact heap_alloc_new W _
  have hA1 : W1.heap[A]? = some (.cells #[.int .i64 e.n, .int .i64 e.c, .string e.k, .bool e.d, .slice e.v.p e.v.n e.v.c, .slice e.x.p e.x.n e.x.c] 50 (0, 0)) := keep0 a01 hA0
  have hB1 : W1.heap[A + 1]? = some (.cells #[.int .i64 0, .int .i64 0, .string ⟨#[]⟩, .bool false, .slice none 0 0, .slice none 0 0] 50 (0, 0)) := by
    have := heap_alloc_new W0 (.cells #[.int .i64 0, .int .i64 0, .string ⟨#[]⟩, .bool false, .slice none 0 0, .slice none 0 0] 50)
    rw [← hW1] at this
    have e0 : W0.heap.size = A + 1 := by rw [hW0, HXA.out]; exact Array.size_push _
    rwa [e0] at this
  have h1 := h.kept0 a1
  have hr1 := hr.kept0 h1.ap
  obtain ⟨s1, W2, hrun1, hn1, -⟩ := appB W1 e.v r.vs 28 hr1.v hr1.vn hr1.vl hr1.vo
  have HR1 : Hid ((Builtin.append_ #[28, 28] 28 #[.slice none 0 0, .slice e.v.p e.v.n e.v.c]).run Try.prog W1 = .ok (.slice s1.p s1.n s1.c) W2) := hrun1
  obtain ⟨s2, W3, hrun2, hn2⟩ := app_mark8 hn1 (by rw [hr1.vn]; exact hr1.vl)
  have HR2 := hid hrun2
  obtain ⟨e1, e2, e3, e4, e5⟩ := hn2.bytes
  obtain ⟨s3, W4, hrun3, hX4, hL5, htk5⟩ := h1.addV hn2.ap s2 r.vs hn2 e5 hl
  have HR3 := hid hrun3
  have hX3 := keep0 hn2.ap h1.blk
  have zX : W3.cell? ⟨X, 0, none⟩ = some (.slice sv.p sv.n sv.c) := by rw [cell_of_row _ _ _ _ _ _ hX3]; rfl
  have yX : W4.cell? ⟨X, 0, none⟩ = some (.slice sv.p sv.n sv.c) := by rw [cell_of_row _ _ _ _ _ _ hX4]; rfl
  have fX := frozen_of_row _ _ 0 _ _ hX4
  obtain ⟨W5, hW5⟩ : ∃ V, V = W4.setCell ⟨X, 0, none⟩ (.slice s3.p s3.n s3.c) := ⟨_, rfl⟩
  rw [← hW5] at hL5 htk5
  have hA5 := htk5.block hA1 (by decide)
  have hB5 := htk5.block hB1 (by decide)
  have hAw : w.heap.size ≤ A := by rw [HXA.out]; exact h.ap.size
  obtain ⟨W6, hW6⟩ : ∃ V, V = W5.setCell ⟨A, 4, none⟩ (.slice s2.p e.v.n s2.c) := ⟨_, rfl⟩
  have a6 : Apart [A] W5 W6 := by rw [hW6]; exact (Apart.refl [A] W5).setCell (.inl (by simp)) _
  have hA6 : W6.heap[A]? = some (.cells #[.int .i64 e.n, .int .i64 e.c, .string e.k, .bool e.d, .slice s2.p e.v.n s2.c, .slice e.x.p e.x.n e.x.c] 50 (0, 0)) := by
    have := heap_setCell_same W5 A 4 _ 50 (.slice s2.p e.v.n s2.c) hA5
    rw [hW6]
    simpa using this
  have hB6 := keepB a6 hB5 (by omega)
  have hL6 := hL5.keep (TK.one (ts := [50]) a6 hA5 (by simp)) (hL5.ap.trans' a6 (fun y hy => by simp at hy; exact .inr (by omega))) (by decide)
  have htk6 : TK [28, 48, 88] W W6 := ((TK.of0 a1).trans (htk5.mono (by simp))).new a6 (by rw [HXA.out]; exact Nat.le_refl _)
  have hr6 := hr.kept0 hL6.ap
  have hcall := lset_ok hL6 e.x r.xs hr6.x hr6.xl hr6.xo hl'
  have HC := hid hcall
  have HL6 := hid hL6
  have HT6 := hid htk6
  obtain ⟨z4, -⟩ : W1.cell? ⟨A, 4, none⟩ = some (.slice e.v.p e.v.n e.v.c) ∧ True := ⟨by rw [cell_of_row _ _ _ _ _ _ hA1]; rfl, trivial⟩
  have z45 : W5.cell? ⟨A, 4, none⟩ = some (.slice e.v.p e.v.n e.v.c) := by rw [cell_of_row _ _ _ _ _ _ hA5]; rfl
  have f45 := frozen_of_row _ _ 4 _ _ hA5
  have z56 : W6.cell? ⟨A, 5, none⟩ = some (.slice e.x.p e.x.n e.x.c) := by rw [cell_of_row _ _ _ _ _ _ hA6]; rfl
  have HA6 := hid hA6
  have HB6 := hid hB6
  have HAW := hid hAw
  have HVN := hid hr.vn
  have hcap : (e.v.n : Int) ≤ (s2.c : Int) := by rw [← hr.vn]; omega
  have hcap' : e.v.n ≤ s2.c := by rw [← hr.vn]; omega
  have hmx : s2.c ≤ maxLen := by
    obtain ⟨_, _, _, _, _, _, _, _, _, hm⟩ := hn2.blk (by omega)
    exact hm
  obtain ⟨g, hg⟩ : ∃ g, s2.p = some ⟨g, 0, none⟩ := by
    obtain ⟨g, cur, hp, _⟩ := hn2.blk (by omega)
    exact ⟨g, hp⟩
  unfold maxLen at hmx
  obtain ⟨p2, n2, c2⟩ := s2
  simp only at HR2 HR3 hg hcap hcap' hmx HL6 HC hW6 HA6 hA6 e5
  subst hg
  clear hrun1 hrun2 hrun3 hn1 hn2 e1 e2 e3 e4 e5 hL5 htk5 hL6 htk6 hr6 hcall hX4 hX3 h1 hr1 hA0 hA1 hA5 hA6 hB1 hB5 hB6 a01 a1 a6 hr h hAw
  go_enter Try.func41, Try.ntmps41
  go_upto_region 1 with fail
  rw [← hW0, ← HXA.out, ← hW1]
  clear hW0 hW1
  go_upto_region 4 with (at_builtin; first | refine wpList_app2 rfl (.const (.slice none 0 0)) (.tmp 7) 28 28 rfl _ _ rfl rfl _ _ HR1.out ?_ | refine wpList_app2 rfl (.tmp 9) (.tmp 10) 28 28 rfl _ _ rfl rfl _ _ HR2.out ?_ | refine wpList_app2 rfl (.tmp 16) (.tmp 18) 69 69 rfl _ _ rfl rfl _ _ HR3.out ?_)
  rw [← hW5]
  clear hW5 HR1 HR2 HR3 zX yX fX z4
  go_upto_region 5 with fail
  rw [← hW6]
  clear hW6 z45 f45
  go_wp2_with fail
  refine HC.out.mono ?_
  rintro q W7 ⟨sx', t, rfl, hL7, htk7⟩
  clear HC z56
  have hA7 := htk7.block HA6.out (by decide)
  have hB7 := htk7.block HB6.out (by decide)
  have z7 : W7.cell? ⟨A, 5, none⟩ = some (.slice e.x.p e.x.n e.x.c) := by rw [cell_of_row _ _ _ _ _ _ hA7]; rfl
  have f7 := frozen_of_row _ _ 5 _ _ hA7
  obtain ⟨W8, hW8⟩ : ∃ V, V = W7.setCell ⟨A, 5, none⟩ (.slice t.p r.xs.length t.c) := ⟨_, rfl⟩
  have a8 : Apart [A] W7 W8 := by rw [hW8]; exact (Apart.refl [A] W7).setCell (.inl (by simp)) _
  have hA8 : W8.heap[A]? = some (.cells #[.int .i64 e.n, .int .i64 e.c, .string e.k, .bool e.d, .slice (some ⟨g, 0, none⟩) e.v.n c2, .slice t.p r.xs.length t.c] 50 (0, 0)) := by
    have := heap_setCell_same W7 A 5 _ 50 (.slice t.p r.xs.length t.c) hA7
    rw [hW8]
    simpa using this
  have hB8 := keepB a8 hB7 (by omega)
  have HL8 := hid (hL7.keep (TK.one (ts := [50]) a8 hA7 (by simp)) (hL7.ap.trans' a8 (fun y hy => by simp at hy; exact .inr (by have := HAW.out; omega))) (by decide))
  have HT8 := hid ((HT6.out.trans (htk7.mono (by simp))).new a8 (by rw [HXA.out]; exact Nat.le_refl _))
  clear hL7 htk7 hA7 hB7 HL6 HT6 HA6 HB6
  try dsimp only
  go_upto_region 6 with fail
  rw [← hW8]
  clear hW8 z7 f7
  obtain ⟨c0, c1, c2', c3, c4, c5⟩ := rowv6 hA8
  obtain ⟨b0, b1, b2, b3, b4, b5⟩ := rowv6 hB8
  have g0 := frozen_of_row _ _ 0 _ _ hB8
  have g1 := frozen_of_row _ _ 1 _ _ hB8
  have g2 := frozen_of_row _ _ 2 _ _ hB8
  have g3 := frozen_of_row _ _ 3 _ _ hB8
  have g4 := frozen_of_row _ _ 4 _ _ hB8
  have g5 := frozen_of_row _ _ 5 _ _ hB8
  obtain ⟨hB9, a9⟩ := set6 (.int .i64 e.n) (.int .i64 e.c) (.string e.k) (.bool e.d) (.slice (some ⟨g, 0, none⟩) e.v.n c2) (.slice t.p r.xs.length t.c) hB8
  have HL9 := hid (HL8.out.keep (TK.one (ts := [50]) a9 hB8 (by simp)) (HL8.out.ap.trans' a9 (fun y hy => by simp at hy; exact .inr (by have := HAW.out; omega))) (by decide))
  have HT9 := hid (HT8.out.new a9 (by rw [HXA.out]; omega))
  have HB9 := hid hB9
  clear hB9 a9 hA8 hB8 HL8 HT8
  go_wp2_with fail
  obtain ⟨d0, d1, d2, d3, d4, d5⟩ := rowv6 HB9.out
  have HP : Hid (LwP w W X sv sx vl xl vb xb e r (.returned (.agg #[.int .i64 e.n, .int .i64 e.c, .string e.k, .bool e.d, .slice (some ⟨g, 0, none⟩) e.v.n c2, .slice t.p r.xs.length t.c])) _) := ⟨s3, sx', ⟨some ⟨g, 0, none⟩, n2, c2⟩, t, by rw [HVN.out], HL9.out, HT9.out⟩
  refine bodyPost_ret (v := .agg #[.int .i64 e.n, .int .i64 e.c, .string e.k, .bool e.d, .slice (some ⟨g, 0, none⟩) e.v.n c2, .slice t.p r.xs.length t.c]) ?_ rfl HP.out
  simp [results, Try.results41, go_sem, d0, d1, d2, d3, d4, d5]
end Go.Proofs.Ytllhmidpphlbhaa.ds
