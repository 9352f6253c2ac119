import Derived.Test.YtpddokbjjhbfgaaGreatChecked
import Derived.WalkKit
import Derived.ProofKit
import Derived.Maps.OwnSet
import Derived.Maps.RangeWalk
import Derived.DeepKeys4
import Derived.MapViews
import Derived.StringKeys
import Derived.Lib.TrailingZeros
import Derived.OpenShut
import Derived.Deep.QuietTactic
import Derived.BigQuiet
import Derived.BigRegion
import Derived.Laws.CopyOwn
import Derived.Laws.Bits64b
import Derived.Laws.MathBits
import Derived.Laws.ShiftsVarLaws
import Derived.WalkSmall
import Derived.Laws.ResultCell
import Derived.Lib.BitFns
import Derived.Laws.StructEq
import Derived.Deep.RegionHeld
import Derived.ArgAppend
import Derived.Deep.RegionLaw
import Derived.Deep.DeepAppendRoom
import Derived.Sort.WalkA
import Derived.Laws.Strings
import Derived.Deep.CutBlock
import Derived.Great.BuildSlice
import Derived.Laws.BytesString
import Derived.Laws.AppendOwnNone
import Derived.Lib.Overlaps
import Derived.Lib.AppendZerosOnto
import Derived.Laws.NewBlocks
import Derived.Laws.Externs
import Derived.Laws.IdiomCopy
import Derived.RangeFuncNested
import Derived.RangeFuncBound
import Derived.RangeFuncCalls
import Derived.RangeFuncLeaves
import Derived.Shelf.Abstract
import Derived.Shelf.RegionOpen
import Derived.OwnWalkIn
import Derived.TacticsInMore
import Derived.LoopNIn
import Derived.LoopIn
import Derived.Deep.CutRange
import Derived.Deep.OwnRows
import Derived.Lib.Walk
import Derived.Lib.SliceRun
import GoSem.Claim
import GoSem.ClaimJoined
import GoSem.ClaimMapViews
import Derived.JoinedTies
import Derived.KernelRfl
import Derived.Lib.LaidTab
import Derived.JoinedCond
import Derived.ShutString
import Derived.ChangeOld
import Derived.Below
import Derived.Carry
import Derived.ChangeSlices
import Derived.Deep.Slices
import Derived.Deep.DeepHandedRow
import Derived.RowKit
import Derived.ChangeShapes
import Derived.SizedLaws
import Derived.ChangeMaps5
import Derived.OrdersHeld
import Derived.Lib.AppendStr
import Derived.Lib.ConvBytes
import Derived.Deep.RegionHeld3
import Derived.Deep.MidRow
import Derived.Laws.BitsAllLaws
import Derived.Sort.Grow
import Derived.Shelf.SlSortCmp.WholeK
import Derived.Shelf.Lay
import Derived.Ground.SlsfProg
import Derived.Sort.LotA
import Derived.Sort.MapsRangeIn
import Derived.RangeFuncSeq
import Derived.RangeFuncKeeps
import Derived.Maps.AppendAt
import Derived.OwnWalk
import Derived.Test.YtpddokbjjhbfgaaGreatRows
import Derived.Test.YtpddokbjjhbfgaaGreatU36
namespace Go.Proofs.YtpddokbjjhbfgaaGreat.ds
open Go.ChangeShapes Go.WideShapes Go.ChangeAt Go.RowKit Go.Sort
set_option linter.unusedVariables false
set_option linter.unusedSimpArgs false
theorem rowv6 {w : World} {g : Nat} {t : TypeId} {a b c d e f : Value} (h : w.heap[g]? = some (.cells #[a, b, c, d, e, f] t (0, 0))) : w.cell? ⟨g, 0, none⟩ = some a ∧ w.cell? ⟨g, 1, none⟩ = some b ∧ w.cell? ⟨g, 2, none⟩ = some c ∧ w.cell? ⟨g, 3, none⟩ = some d ∧ w.cell? ⟨g, 4, none⟩ = some e ∧ w.cell? ⟨g, 5, none⟩ = some f :=
  ⟨crow h 0 _ rfl, crow h 1 _ rfl, crow h 2 _ rfl, crow h 3 _ rfl, crow h 4 _ rfl, crow h 5 _ rfl⟩
/-- bytes in memory of the call's own -/
structure Bf (wB w : World) (s : Sl) (us : List Nat) : Prop where
  nw : Nw wB w 5 1 s (byts us)
  len : s.n = us.length
theorem Bf.kept {wB w w' : World} {s : Sl} {us : List Nat} (h : Bf wB w s us) (a : Apart [] w w') : Bf wB w' s us := ⟨h.nw.kept a, h.len⟩
theorem Bf.nil {wB w : World} (a : Apart [] wB w) : Bf wB w ⟨none, 0, 0⟩ [] := ⟨⟨World.ownsRow_nil _ _ _ _, by simp [Sl.v, Value.ownBlock], a⟩, rfl⟩
theorem Bf.keepT {wB w w' : World} {s : Sl} {us : List Nat} {X : List Nat} (h : Bf wB w s us) (a : Apart X w w') (ap : Apart [] wB w') (hX : ∀ k ∈ X, ∀ cur, w.heap[k]? ≠ some (.cells cur 5 (0, 0))) : Bf wB w' s us := ⟨h.nw.keepT a ap hX, h.len⟩
theorem Sps.keepT {wB w w' : World} {s : Sl} {us : List S} {X : List Nat} (h : Sps wB w s us) (a : Apart X w w') (ap : Apart [] wB w') (hX : ∀ k ∈ X, ∀ cur, w.heap[k]? ≠ some (.cells cur 94 (0, 0))) : Sps wB w' s us := ⟨h.nw.keepT a ap hX, h.len, h.fit⟩
theorem byts_app (a b : List Nat) : byts (a ++ b) = byts a ++ byts b := by simp [byts]
theorem app_byte {wB w : World} {s : Sl} {us : List Nat} (h : Bf wB w s us) (x : Nat) (hl : us.length + 1 ≤ 4000000) :
    ∃ s' W', (Builtin.append_ #[35, 35] 35 #[.slice s.p s.n s.c, .slice (some ⟨w.heap.size, 0, none⟩) 1 1]).run Tryz.prog (w.alloc (Obj.cells #[.int .u8 (x : Int)] 5)) = .ok (.slice s'.p s'.n s'.c) W' ∧ Bf wB W' s' (us ++ [x]) ∧ Apart s.v.ownBlock.toList w W' := by
  obtain ⟨i0, hif, hz0, hz1, hz2⟩ := info_parts infoB
  have hlen := h.len
  obtain ⟨s5, w5, hrun, hnw5, hs5, ap5, k5, hk5, -, hk6⟩ := run_appM (s := s) 35 35 5 i0 _ 1 1 Tryz.underlying35 hif hz0 hz1 hz2 rfl (by decide) h.nw 1 (byts [x]) (by decide) rfl (oneB _) (by unfold maxLen; omega) (by omega)
  exact ⟨s5, w5, hrun, ⟨by rw [byts_app]; exact hnw5, by simp; omega⟩, ap5⟩
theorem Bf.cap {wB w : World} {s : Sl} {us : List Nat} {x : Nat} (h : Bf wB w s (us ++ [x])) : us.length ≤ s.c ∧ ∃ g, s.p = some ⟨g, 0, none⟩ := by
  have hlen := h.len
  rw [List.length_append] at hlen
  simp at hlen
  obtain ⟨_, ⟨hv, hz⟩ | ⟨g, cap, cur, hv, _, _, hle, _⟩⟩ := h.nw.own
  · omega
  · unfold Sl.v at hv
    simp at hv
    exact ⟨by omega, g, hv.1⟩
/-- a write that is lent: its lists are the beginnings of lists with marks behind -/
structure Ln (w W : World) (e : E) (r : Wr) (sv sx : Sl) : Prop where
  n : e.n = r.n
  c : e.c = r.c
  k : e.k = r.k
  d : e.d = r.d
  v : e.v = ⟨sv.p, r.vs.length, sv.c⟩
  x : e.x = ⟨sx.p, r.xs.length, sx.c⟩
  bv : Bf w W sv (r.vs ++ [165])
  bx : Sps w W sx (r.xs ++ [mk7])
  vb : ∀ b ∈ r.vs, b < 256
  vl : r.vs.length ≤ 2000000
  xl : r.xs.length ≤ 2000000
theorem Ln.keepT {w W W' : World} {e : E} {r : Wr} {sv sx : Sl} {X : List Nat} (h : Ln w W e r sv sx) (a : Apart X W W') (ap : Apart [] w W') (hX : ∀ k ∈ X, ∀ cur, W.heap[k]? ≠ some (.cells cur 5 (0, 0)) ∧ W.heap[k]? ≠ some (.cells cur 94 (0, 0))) : Ln w W' e r sv sx :=
  { h with bv := h.bv.keepT a ap (fun k hk cur => (hX k hk cur).1), bx := h.bx.keepT a ap (fun k hk cur => (hX k hk cur).2) }
theorem Ln.kept {w W W' : World} {e : E} {r : Wr} {sv sx : Sl} (h : Ln w W e r sv sx) (a : Apart [] W W') : Ln w W' e r sv sx := h.keepT a (h.bv.nw.ap.trans a) (by simp)
/-- a write is lent -/
structure LendP (w : World) (r : Wr) (a : Ending) (w' : World) : Prop where
  ex : ∃ (e : E) (sv sx : Sl), a = .returned (.tuple #[.agg #[.int .i64 e.n, .int .i64 e.c, .string e.k, .bool e.d, .slice e.v.p e.v.n e.v.c, .slice e.x.p e.x.n e.x.c], .agg #[.slice sv.p sv.n sv.c, .slice sx.p sx.n sx.c]]) ∧ Ln w w' e r sv sx
theorem take_nat {us : List Nat} {i : Nat} (hi : i < us.length) : us.take (i + 1) = us.take i ++ [us.getD i 0] := by
  rw [List.take_add_one, List.getD_eq_getElem?_getD, List.getElem?_eq_getElem hi]; rfl
/-- the loan being made -/
structure Lm (w1 w2 wt : World) (K : Nat) (sv : Sl) (vs : List Nat) : Prop where
  k : wt.heap[K]? = some (.cells #[.slice sv.p sv.n sv.c, .slice none 0 0] 43 (0, 0))
  b : Bf w1 wt sv vs
  ap : Apart [K] w2 wt
set_option maxHeartbeats 16000000 in
set_option maxRecDepth 100000 in
theorem lend_ok (w : World) (e : E) (r : Wr) (hr : Reads w e r) : Calls Tryz.prog 12 #[.agg #[.int .i64 e.n, .int .i64 e.c, .string e.k, .bool e.d, .slice e.v.p e.v.n e.v.c, .slice e.x.p e.x.n e.x.c]] w fun a w' => LendP w r a w' := by
  have HR := hid hr
  have hvl := hr.vl
  have hxl := hr.xl
  have HVN := hid hr.vn
  have HXN := hid hr.x.len
  clear hr
  obtain ⟨X, HX⟩ : ∃ X, Hid (X = w.heap.size) := ⟨_, hid rfl⟩
  obtain ⟨w1, hw1⟩ : ∃ w1, w1 = ((w.alloc (.cells #[.int .i64 e.n, .int .i64 e.c, .string e.k, .bool e.d, .slice e.v.p e.v.n e.v.c, .slice e.x.p e.x.n e.x.c] 38)).alloc (.cells #[.int .i64 0, .int .i64 0, .string ⟨#[]⟩, .bool false, .slice none 0 0, .slice none 0 0] 38)).alloc (.cells #[.slice none 0 0, .slice none 0 0] 43) := ⟨_, rfl⟩
  have HA1 : Hid (Apart [] w w1) := by unfold Hid; rw [hw1]; exact (((Apart.refl [] w).alloc _).alloc _).alloc _
  have HB1 : Hid (w1.heap[X]? = some (.cells #[.int .i64 e.n, .int .i64 e.c, .string e.k, .bool e.d, .slice e.v.p e.v.n e.v.c, .slice e.x.p e.x.n e.x.c] 38 (0, 0))) := by
    unfold Hid
    rw [hw1, HX.out]
    exact ((((Apart.refl [] (w.alloc (.cells #[.int .i64 e.n, .int .i64 e.c, .string e.k, .bool e.d, .slice e.v.p e.v.n e.v.c, .slice e.x.p e.x.n e.x.c] 38))).alloc _).alloc _).block _ (by simp) (by simp)).trans (heap_alloc_new w _)
  have HD1 : Hid (w1.heap[X + 1]? = some (.cells #[.int .i64 0, .int .i64 0, .string ⟨#[]⟩, .bool false, .slice none 0 0, .slice none 0 0] 38 (0, 0))) := by
    unfold Hid
    rw [hw1, HX.out]
    have := heap_alloc_new (w.alloc (.cells #[.int .i64 e.n, .int .i64 e.c, .string e.k, .bool e.d, .slice e.v.p e.v.n e.v.c, .slice e.x.p e.x.n e.x.c] 38)) (.cells #[.int .i64 0, .int .i64 0, .string ⟨#[]⟩, .bool false, .slice none 0 0, .slice none 0 0] 38)
    refine (((Apart.refl [] ((w.alloc (.cells #[.int .i64 e.n, .int .i64 e.c, .string e.k, .bool e.d, .slice e.v.p e.v.n e.v.c, .slice e.x.p e.x.n e.x.c] 38)).alloc (.cells #[.int .i64 0, .int .i64 0, .string ⟨#[]⟩, .bool false, .slice none 0 0, .slice none 0 0] 38))).alloc _).block _ (by simp) (by simp)).trans ?_
    simpa using this
  have HE1 : Hid (w1.heap[X + 1 + 1]? = some (.cells #[.slice none 0 0, .slice none 0 0] 43 (0, 0))) := by
    unfold Hid
    rw [hw1, HX.out]
    have := heap_alloc_new ((w.alloc (.cells #[.int .i64 e.n, .int .i64 e.c, .string e.k, .bool e.d, .slice e.v.p e.v.n e.v.c, .slice e.x.p e.x.n e.x.c] 38)).alloc (.cells #[.int .i64 0, .int .i64 0, .string ⟨#[]⟩, .bool false, .slice none 0 0, .slice none 0 0] 38)) (.cells #[.slice none 0 0, .slice none 0 0] 43)
    simpa using this
  obtain ⟨K, HK⟩ : ∃ K, Hid (K = w1.heap.size) := ⟨_, hid rfl⟩
  obtain ⟨w2, hw2⟩ : ∃ w2, w2 = w1.alloc (.cells #[.slice none 0 0, .slice none 0 0] 43) := ⟨_, rfl⟩
  have a2 : Apart [] w1 w2 := by rw [hw2]; exact (Apart.refl [] w1).alloc _
  have HKN : Hid (X + 1 + 1 < K) := by unfold Hid; have := lt_of_heap HE1.out; rw [HK.out]; exact this
  have HL2 : Hid (Lm w1 w2 w2 K ⟨none, 0, 0⟩ (r.vs.take 0)) := hid ⟨by rw [hw2, HK.out]; exact heap_alloc_new w1 _, Bf.nil a2, Apart.refl _ _⟩
  have HA2 := hid (HA1.out.trans a2)
  have HB2 := hid (keep0 a2 HB1.out)
  have HD2 := hid (keep0 a2 HD1.out)
  have HE2 := hid (keep0 a2 HE1.out)
  have HW2 : Hid (K = w1.heap.size ∧ w2.heap.size = K + 1) := hid ⟨HK.out, by rw [hw2, HK.out]; exact Array.size_push _⟩
  clear a2 HB1 HD1 HE1
  go_enter Tryz.func12, Tryz.ntmps12
  go_upto_region 1 with fail
  rw [← hw1, ← HX.out]
  clear hw1
  go_upto_region 2 with fail
  rw [← hw2, ← HK.out]
  clear hw2 HK
  go_wp2_with fail
  go_loopw [5] (fun a wt => ∃ (i : Nat) (sv : Sl), a = .int .i64 (i : Nat) ∧ i ≤ e.v.n ∧ Hid (Lm w1 w2 wt K sv (r.vs.take i))) (fun a _ => e.v.n - (intOf a).toNat)
  case atStart => exact ⟨0, ⟨none, 0, 0⟩, rfl, Nat.zero_le _, HL2⟩
  case round =>
    obtain ⟨i, sv, rfl, hile, HI⟩ := hrel
    have x4 := crow (keepB HI.out.ap HB2.out (by have := HKN.out; omega)) 4 (.slice e.v.p e.v.n e.v.c) rfl
    clear HL2
    by_cases hlt : i < e.v.n
    · have hlti : ((i : Nat) : Int) < ((e.v.n : Nat) : Int) := by omega
      have hil : i < r.vs.length := by rw [HVN.out]; exact hlt
      obtain ⟨y, Hy⟩ : ∃ y, Hid (y = r.vs.getD i 0) := ⟨_, hid rfl⟩
      go_upto_region 5 with fail
      clear x4
      obtain ⟨P, o, hP, hPl, hPc⟩ := HR.out.v (by simp [byts]; omega)
      have hPy := hPc i (.int .u8 (y : Nat)) (by rw [Hy.out]; simp [byts, List.getElem?_eq_getElem hil])
      have hKX : w.heap.size ≤ K := by have := HKN.out; have := HX.out; omega
      have HCW : Hid (∀ W, Apart [K] w2 W → W.cell? ⟨X, 4, none⟩ = some (.slice (some ⟨P, o, none⟩) e.v.n e.v.c) ∧ W.cell? ⟨P, o + i, none⟩ = some (.int .u8 (y : Nat))) := fun W a => ⟨by rw [← hP]; exact crow (keepB a HB2.out (by have := HKN.out; omega)) 4 _ rfl, (((HA2.out.trans' a (fun y hy => .inr (by simp at hy; rw [hy]; exact hKX))).cell hPl (by simp))).trans hPy⟩
      clear hPc hPy hPl hP
      have hAd : Apart [K] w2 wr.drew := HI.out.ap.trans ((Apart.refl [K] wr).drew)
      refine wp_region_held_drew (S := fun W => Apart [K] w2 W) (by kernel_rfl) hAd (fun hHeld => ?_)
      have hAw : Apart [] wr wr.drew := (Apart.refl [] wr).drew
      have HD : Hid (Lm w1 w2 wr.drew K sv (r.vs.take i)) := hid ⟨keep0 hAw HI.out.k, HI.out.b.kept hAw, hAd⟩
      generalize wr.drew = wd at *
      clear hAd hAw HI
      refine tk 0 14 (.pointer (some ⟨K, 0, none⟩)) rfl ?_ ?_
      · intro W hSW; go_simp
      simp only [Act.put, List.setIfInBounds_toArray, List.set_cons_zero, List.set_cons_succ]
      refine tk 2 16 (.pointer (some ⟨X, 4, none⟩)) rfl ?_ ?_
      · intro W hSW; go_simp
      simp only [Act.put, List.setIfInBounds_toArray, List.set_cons_zero, List.set_cons_succ]
      refine tk 3 17 (.slice (some ⟨P, o, none⟩) e.v.n e.v.c) rfl ?_ ?_
      · intro W hSW; obtain ⟨u0, u1⟩ := HCW.out W hSW; go_simp
      simp only [Act.put, List.setIfInBounds_toArray, List.set_cons_zero, List.set_cons_succ]
      refine tk 4 18 (.int .i64 (i : Nat)) rfl ?_ ?_
      · intro W hSW; go_simp
      simp only [Act.put, List.setIfInBounds_toArray, List.set_cons_zero, List.set_cons_succ]
      refine tk 5 19 (.pointer (some ⟨P, o + i, none⟩)) rfl ?_ ?_
      · intro W hSW; go_simp
      simp only [Act.put, List.setIfInBounds_toArray, List.set_cons_zero, List.set_cons_succ]
      refine tk 6 20 (.int .u8 (y : Nat)) rfl ?_ ?_
      · intro W hSW; obtain ⟨u0, u1⟩ := HCW.out W hSW; go_simp
      simp only [Act.put, List.setIfInBounds_toArray, List.set_cons_zero, List.set_cons_succ]
      obtain ⟨s', w7, hrun, hn7, hap7⟩ := app_byte HD.out.b y (by simp; omega)
      have HRUN := hid hrun
      have hown : ∀ k, sv.v.ownBlock = some k → k ≠ K := fun k hk e => by
        obtain ⟨cur, hc⟩ := own_typ HD.out.b.nw.own hk
        rw [e, HD.out.k] at hc
        simp at hc
      have hK7 := (hap7.block K (lt_of_heap HD.out.k) (fun hm => hown K (by simpa using hm) rfl)).trans HD.out.k
      have hA7 : Apart [K] w2 w7 := HD.out.ap.trans' hap7 (fun y hy => by
        have hy' : sv.v.ownBlock = some y := by simpa using hy
        have h1 := HD.out.b.nw.new y hy'
        have h2 := hown y hy'
        have h3 := HW2.out
        exact .inr (by omega))
      have z7 := crow hK7 0 (.slice sv.p sv.n sv.c) rfl
      have f7 := frozen_of_row _ _ 0 _ _ hK7
      obtain ⟨w8, hw8⟩ : ∃ V, V = w7.setCell ⟨K, 0, none⟩ (.slice s'.p s'.n s'.c) := ⟨_, rfl⟩
      have a8 : Apart [K] w7 w8 := by rw [hw8]; exact (Apart.refl _ _).setCell (.inl (by simp)) _
      have hK8 : w8.heap[K]? = some (.cells #[.slice s'.p s'.n s'.c, .slice none 0 0] 43 (0, 0)) := by rw [hw8]; have := heap_setCell_same w7 K 0 _ 43 (.slice s'.p s'.n s'.c) hK7; simpa using this
      have hA8 := hA7.trans a8
      have HE : Hid (Lm w1 w2 w8 K s' (r.vs.take (i + 1))) := hid ⟨hK8, by
        rw [take_nat hil, ← Hy.out]
        exact hn7.keepT a8 (hn7.nw.ap.trans' a8 (fun y hy => .inr (by simp at hy; have := HW2.out; omega))) (by intro k hk cur h; simp at hk; rw [hk, hK7] at h; simp at h), hA8⟩
      have aL : Apart [] wd (wd.alloc (Obj.cells #[.int .u8 (y : Nat)] 5)) := (Apart.refl [] wd).alloc _
      have z1 := crow HD.out.k 0 (.slice sv.p sv.n sv.c) rfl
      have z2 := crow (keep0 aL HD.out.k) 0 (.slice sv.p sv.n sv.c) rfl
      have hAL : Apart [K] w2 (wd.alloc (Obj.cells #[.int .u8 (y : Nat)] 5)) := HD.out.ap.trans (aL.mono (by simp))
      clear hrun hn7 hap7 hown hK7 a8 hK8 aL HD
      refine wpAnyH_ready (rs := [1, 7]) (by kernel_rfl) (by simp) ?_
      refine AllReadyH.cons rfl (fun KK hKK => ?_) (AllReadyH.cons rfl (fun KK hKK => ?_) AllReadyH.nil)
      · skip
        go_simp
        refine hKK.out _ _ hHeld (fun hHeld => ?_)
        clear hKK KK
        try simp only [Act.put, List.setIfInBounds_toArray, List.set_cons_zero, List.set_cons_succ]
        refine wpAnyH_ready (rs := [7]) (by kernel_rfl) (by simp) ?_
        refine AllReadyH.cons rfl (fun KK hKK => ?_) AllReadyH.nil
        go_simp
        refine hKK.out _ _ hAL (fun hHeld => ?_)
        clear hKK KK
        try simp only [Act.put, List.setIfInBounds_toArray, List.set_cons_zero, List.set_cons_succ]
        refine wpAnyH_ready (rs := [8]) (by kernel_rfl) (by simp) ?_
        refine AllReadyH.cons rfl (fun KK hKK => ?_) AllReadyH.nil
        refine step_app2 (o := ⟨some 22, _, _, _, _, _⟩) rfl (.tmp 15) (.tmp 21) 35 35 rfl _ _ rfl rfl _ _ HRUN.out ?_
        refine hKK.out _ _ hA7 (fun hHeld => ?_)
        clear hKK KK
        try simp only [Act.put, List.setIfInBounds_toArray, List.set_cons_zero, List.set_cons_succ]
        refine tk 9 23 (.pointer (some ⟨K, 0, none⟩)) rfl ?_ ?_
        · intro W hSW; go_simp
        simp only [Act.put, List.setIfInBounds_toArray, List.set_cons_zero, List.set_cons_succ]
        refine wpAnyH_ready (rs := [10]) (by kernel_rfl) (by simp) ?_
        refine AllReadyH.cons rfl (fun KK hKK => ?_) AllReadyH.nil
        go_simp
        rw [← hw8]
        clear hw8
        refine hKK.out _ _ hA8 (fun hHeld => ?_)
        clear hKK KK
        try simp only [Act.put, List.setIfInBounds_toArray, List.set_cons_zero, List.set_cons_succ]
        refine wpAnyH_done (by kernel_rfl) ?_ _
        clear hHeld
        go_wp2_with fail
        go_roundw
        case rel => exact ⟨i + 1, s', by go_num, by omega, HE⟩
        case measure => simp [intOf]; omega
      · skip
        go_simp
        refine hKK.out _ _ hAL (fun hHeld => ?_)
        clear hKK KK
        try simp only [Act.put, List.setIfInBounds_toArray, List.set_cons_zero, List.set_cons_succ]
        refine wpAnyH_ready (rs := [1]) (by kernel_rfl) (by simp) ?_
        refine AllReadyH.cons rfl (fun KK hKK => ?_) AllReadyH.nil
        go_simp
        refine hKK.out _ _ hAL (fun hHeld => ?_)
        clear hKK KK
        try simp only [Act.put, List.setIfInBounds_toArray, List.set_cons_zero, List.set_cons_succ]
        refine wpAnyH_ready (rs := [8]) (by kernel_rfl) (by simp) ?_
        refine AllReadyH.cons rfl (fun KK hKK => ?_) AllReadyH.nil
        refine step_app2 (o := ⟨some 22, _, _, _, _, _⟩) rfl (.tmp 15) (.tmp 21) 35 35 rfl _ _ rfl rfl _ _ HRUN.out ?_
        refine hKK.out _ _ hA7 (fun hHeld => ?_)
        clear hKK KK
        try simp only [Act.put, List.setIfInBounds_toArray, List.set_cons_zero, List.set_cons_succ]
        refine tk 9 23 (.pointer (some ⟨K, 0, none⟩)) rfl ?_ ?_
        · intro W hSW; go_simp
        simp only [Act.put, List.setIfInBounds_toArray, List.set_cons_zero, List.set_cons_succ]
        refine wpAnyH_ready (rs := [10]) (by kernel_rfl) (by simp) ?_
        refine AllReadyH.cons rfl (fun KK hKK => ?_) AllReadyH.nil
        go_simp
        rw [← hw8]
        clear hw8
        refine hKK.out _ _ hA8 (fun hHeld => ?_)
        clear hKK KK
        try simp only [Act.put, List.setIfInBounds_toArray, List.set_cons_zero, List.set_cons_succ]
        refine wpAnyH_done (by kernel_rfl) ?_ _
        clear hHeld
        go_wp2_with fail
        go_roundw
        case rel => exact ⟨i + 1, s', by go_num, by omega, HE⟩
        case measure => simp [intOf]; omega
    · have hlti : ¬ ((i : Nat) : Int) < ((e.v.n : Nat) : Int) := by omega
      have HJ : Hid (Lm w1 w2 wr K sv r.vs) := by
        have := HI.out
        rw [List.take_of_length_le (by rw [HVN.out]; omega)] at this
        exact hid this
      clear HI
      have z1 := crow HJ.out.k 0 (.slice sv.p sv.n sv.c) rfl
      obtain ⟨s', w7, hrun, hn7, hap7⟩ := app_byte HJ.out.b 165 (by rw [HVN.out]; omega)
      have HRUN : Hid ((Builtin.append_ #[35, 35] 35 #[.slice sv.p sv.n sv.c, .slice (some ⟨wr.heap.size, 0, none⟩) 1 1]).run Tryz.prog (wr.alloc (Obj.cells #[.int .u8 165] 5)) = .ok (.slice s'.p s'.n s'.c) w7) := hrun
      have hown : ∀ k, sv.v.ownBlock = some k → k ≠ K := fun k hk e => by
        obtain ⟨cur, hc⟩ := own_typ HJ.out.b.nw.own hk
        rw [e, HJ.out.k] at hc
        simp at hc
      have hK7 := (hap7.block K (lt_of_heap HJ.out.k) (fun hm => hown K (by simpa using hm) rfl)).trans HJ.out.k
      have hA7 : Apart [K] w2 w7 := HJ.out.ap.trans' hap7 (fun y hy => by
        have hy' : sv.v.ownBlock = some y := by simpa using hy
        have h1 := HJ.out.b.nw.new y hy'
        have h2 := hown y hy'
        have h3 := HW2.out
        exact .inr (by omega))
      have z7 := crow hK7 0 (.slice sv.p sv.n sv.c) rfl
      have f7 := frozen_of_row _ _ 0 _ _ hK7
      obtain ⟨w8, hw8⟩ : ∃ V, V = w7.setCell ⟨K, 0, none⟩ (.slice s'.p s'.n s'.c) := ⟨_, rfl⟩
      have a8 : Apart [K] w7 w8 := by rw [hw8]; exact (Apart.refl _ _).setCell (.inl (by simp)) _
      have hK8 : w8.heap[K]? = some (.cells #[.slice s'.p s'.n s'.c, .slice none 0 0] 43 (0, 0)) := by rw [hw8]; have := heap_setCell_same w7 K 0 _ 43 (.slice s'.p s'.n s'.c) hK7; simpa using this
      have hA8 := hA7.trans a8
      have HE : Hid (Lm w1 w2 w8 K s' (r.vs ++ [165])) := hid ⟨hK8, hn7.keepT a8 (hn7.nw.ap.trans' a8 (fun y hy => .inr (by simp at hy; have := HW2.out; omega))) (by intro k hk cur h; simp at hk; rw [hk, hK7] at h; simp at h), hA8⟩
      have HB8 := hid (keepB hA8 HB2.out (by have := HKN.out; omega))
      have HD8 := hid (keepB hA8 HD2.out (by have := HKN.out; omega))
      have HE8 := hid (keepB hA8 HE2.out (by have := HKN.out; omega))
      have HA8 := hid (HA2.out.trans' hA8 (fun y hy => .inr (by simp at hy; have := HKN.out; have := HX.out; omega)))
      clear hrun hn7 hap7 hown hK7 a8 hK8 hA7 hA8 HJ
      go_upto_region 7 with (at_builtin; refine wpList_app2 rfl (.tmp 25) (.tmp 26) 35 35 rfl _ _ rfl rfl _ _ HRUN.out ?_)
      rw [← hw8]
      clear hw8 z1 z7 f7 x4
      have x5 := crow HB8.out 5 (.slice e.x.p e.x.n e.x.c) rfl
      go_wp2_with fail
      refine (spansL_ok (HR.out.kept0 HA8.out).x (by omega)).mono ?_
      rintro _ w9 ⟨⟨sx, rfl, hsx⟩⟩
      have a9 := hsx.nw.ap
      have HK9 := hid (keep0 a9 HE.out.k)
      have HB9 := hid (keep0 a9 HB8.out)
      have HD9 := hid (keep0 a9 HD8.out)
      have HE9 := hid (keep0 a9 HE8.out)
      have HA9 := hid (HA8.out.trans a9)
      have HBv9 : Hid (Bf w w9 s' (r.vs ++ [165])) := hid ⟨(HE.out.b.nw.from HA1.out).kept a9, HE.out.b.len⟩
      have HBx9 : Hid (Sps w w9 sx (r.xs ++ [mk7])) := hid ⟨hsx.nw.from HA8.out, hsx.len, hsx.fit⟩
      clear a9 hsx HB8 HD8 HE8 HA8 HE x5
      have k1 := crow HK9.out 1 (.slice none 0 0) rfl
      have f1 := frozen_of_row _ _ 1 _ _ HK9.out
      obtain ⟨wA, hwA⟩ : ∃ V, V = w9.setCell ⟨K, 1, none⟩ (.slice sx.p sx.n sx.c) := ⟨_, rfl⟩
      have aA : Apart [K] w9 wA := by rw [hwA]; exact (Apart.refl _ _).setCell (.inl (by simp)) _
      have hKA : wA.heap[K]? = some (.cells #[.slice s'.p s'.n s'.c, .slice sx.p sx.n sx.c] 43 (0, 0)) := by rw [hwA]; have := heap_setCell_same w9 K 1 _ 43 (.slice sx.p sx.n sx.c) HK9.out; simpa using this
      try dsimp only
      go_upto_region 8 with fail
      rw [← hwA]
      clear hwA k1 f1
      have hb2 := keepB aA HB9.out (by have := HKN.out; omega)
      have hd2 := keepB aA HD9.out (by have := HKN.out; omega)
      have he2 := keepB aA HE9.out (by have := HKN.out; omega)
      have ha2 : Apart [] w wA := HA9.out.trans' aA (fun y hy => .inr (by simp at hy; have := HKN.out; have := HX.out; omega))
      have hbv : Bf w wA s' (r.vs ++ [165]) := HBv9.out.keepT aA ha2 (by intro k hk cur h; simp at hk; rw [hk, HK9.out] at h; simp at h)
      have hbx : Sps w wA sx (r.xs ++ [mk7]) := HBx9.out.keepT aA ha2 (by intro k hk cur h; simp at hk; rw [hk, HK9.out] at h; simp at h)
      clear HB2 HD2 HE2 HA2
      have HA2 := hid ha2
      have HB2 := hid hb2
      have HD2 := hid hd2
      have HE2 := hid he2
      have HK2 := hid hKA
      have HBv := hid hbv
      have HBx := hid hbx
      have HKK := HKN
      obtain ⟨hcv, gv, hgv⟩ := hbv.cap
      obtain ⟨hcx, gx, hgx⟩ := hbx.cap
      clear ha2 hb2 hd2 he2 hKA hbv hbx HK9 HB9 HD9 HE9 HA9 HBv9 HBx9 aA
      rw [HVN.out] at hcv
      rw [HXN.out] at hcx
      have hcvi : ((e.v.n : Nat) : Int) ≤ (s'.c : Int) := by omega
      have hcxi : ((e.x.n : Nat) : Int) ≤ (sx.c : Int) := by omega
      clear hcv hcx
      generalize wA = w2 at *
      obtain ⟨svp, svn, svc⟩ := s'
      obtain ⟨sxp, sxn, sxc⟩ := sx
      simp only at hgv hgx hcvi hcxi HK2
      subst hgv hgx
      obtain ⟨x0, x1, x2, x3, x4, x5⟩ := rowv6 HB2.out
      obtain ⟨k0, k1⟩ := row2v HK2.out
      have f4 := frozen_of_row _ _ 4 _ _ HB2.out
      have f5 := frozen_of_row _ _ 5 _ _ HB2.out
      have hXK : Hid (X ≠ K) := by unfold Hid; have := HKK.out; omega
      obtain ⟨w3, hw3⟩ : ∃ w3, w3 = w2.setCell ⟨X, 4, none⟩ (.slice (some ⟨gv, 0, none⟩) e.v.n svc) := ⟨_, rfl⟩
      go_upto_region 10 with fail
      rw [← hw3]
      have aX3 : Apart [X] w2 w3 := by rw [hw3]; exact (Apart.refl [X] w2).setCell (.inl (by simp)) _
      have HB3 : Hid (w3.heap[X]? = some (.cells #[.int .i64 e.n, .int .i64 e.c, .string e.k, .bool e.d, .slice (some ⟨gv, 0, none⟩) e.v.n svc, .slice e.x.p e.x.n e.x.c] 38 (0, 0))) := by
        unfold Hid
        rw [hw3]
        have := heap_setCell_same w2 X 4 _ 38 (.slice (some ⟨gv, 0, none⟩) e.v.n svc) HB2.out
        simpa using this
      have HK3 : Hid (w3.heap[K]? = some (.cells #[.slice (some ⟨gv, 0, none⟩) svn svc, .slice (some ⟨gx, 0, none⟩) sxn sxc] 43 (0, 0))) := (aX3.block _ (lt_of_heap HK2.out) (by simp; exact fun h => hXK.out h.symm)).trans HK2.out
      obtain ⟨w4, hw4⟩ : ∃ w4, w4 = w3.setCell ⟨X, 5, none⟩ (.slice (some ⟨gx, 0, none⟩) e.x.n sxc) := ⟨_, rfl⟩
      have aX4 : Apart [X] w2 w4 := by rw [hw4]; exact aX3.setCell (.inl (by simp)) _
      have HB4 : Hid (w4.heap[X]? = some (.cells #[.int .i64 e.n, .int .i64 e.c, .string e.k, .bool e.d, .slice (some ⟨gv, 0, none⟩) e.v.n svc, .slice (some ⟨gx, 0, none⟩) e.x.n sxc] 38 (0, 0))) := by
        unfold Hid
        rw [hw4]
        have := heap_setCell_same w3 X 5 _ 38 (.slice (some ⟨gx, 0, none⟩) e.x.n sxc) HB3.out
        simpa using this
      have HK4 : Hid (w4.heap[K]? = some (.cells #[.slice (some ⟨gv, 0, none⟩) svn svc, .slice (some ⟨gx, 0, none⟩) sxn sxc] 43 (0, 0))) := (aX4.block _ (lt_of_heap HK2.out) (by simp; exact fun h => hXK.out h.symm)).trans HK2.out
      have HD4 : Hid (w4.heap[X + 1]? = some (.cells #[.int .i64 0, .int .i64 0, .string ⟨#[]⟩, .bool false, .slice none 0 0, .slice none 0 0] 38 (0, 0))) := (aX4.block _ (lt_of_heap HD2.out) (by simp)).trans HD2.out
      have HE4 : Hid (w4.heap[X + 1 + 1]? = some (.cells #[.slice none 0 0, .slice none 0 0] 43 (0, 0))) := (aX4.block _ (lt_of_heap HE2.out) (by simp; omega)).trans HE2.out
      have HS4 := hid aX4
      clear hw3 x0 x1 x2 x3 x4 x5 k0 k1 f4 f5 aX3 aX4
      obtain ⟨x0, x1, x2, x3, x4, x5⟩ := rowv6 HB3.out
      obtain ⟨k0, k1⟩ := row2v HK3.out
      have f5 := frozen_of_row _ _ 5 _ _ HB3.out
      go_upto_region 11 with fail
      rw [← hw4]
      clear hw4 x0 x1 x2 x3 x4 x5 k0 k1 f5
      have aX : Apart [] w w4 := HA2.out.trans' HS4.out (by intro y hy; simp at hy; rw [hy, HX.out]; exact .inr (Nat.le_refl _))
      have HBvk : Hid (Bf w w4 ⟨some ⟨gv, 0, none⟩, svn, svc⟩ (r.vs ++ [165])) := HBv.out.keepT HS4.out aX (by intro k hk cur h; simp at hk; rw [hk, HB2.out] at h; simp at h)
      have HBxk : Hid (Sps w w4 ⟨some ⟨gx, 0, none⟩, sxn, sxc⟩ (r.xs ++ [mk7])) := HBx.out.keepT HS4.out aX (by intro k hk cur h; simp at hk; rw [hk, HB2.out] at h; simp at h)
      have HAX := hid aX
      clear aX
      refine wp_region_held_drew (S := fun W => W.heap[X]? = some (.cells #[.int .i64 e.n, .int .i64 e.c, .string e.k, .bool e.d, .slice (some ⟨gv, 0, none⟩) e.v.n svc, .slice (some ⟨gx, 0, none⟩) e.x.n sxc] 38 (0, 0)) ∧ W.heap[K]? = some (.cells #[.slice (some ⟨gv, 0, none⟩) svn svc, .slice (some ⟨gx, 0, none⟩) sxn sxc] 43 (0, 0))) (by kernel_rfl) ⟨HB4.out, HK4.out⟩ (fun hHeld => ?_)
      have HSd : Hid (Apart [] w4 w4.drew) := (Apart.refl [] w4).drew
      have HDd : Hid (w4.drew.heap[X + 1]? = some (.cells #[.int .i64 0, .int .i64 0, .string ⟨#[]⟩, .bool false, .slice none 0 0, .slice none 0 0] 38 (0, 0))) := HD4.out
      have HEd : Hid (w4.drew.heap[X + 1 + 1]? = some (.cells #[.slice none 0 0, .slice none 0 0] 43 (0, 0))) := HE4.out
      generalize w4.drew = wd at *
      refine wpAnyH_take (i := 0) (oi := ⟨some 48, _, _, _, _, _⟩) (v := (.agg #[.int .i64 e.n, .int .i64 e.c, .string e.k, .bool e.d, .slice (some ⟨gv, 0, none⟩) e.v.n svc, .slice (some ⟨gx, 0, none⟩) e.x.n sxc])) rfl (by kernel_rfl) (by kernel_rfl) (by kernel_rfl) (fun _ _ _ h => h) (Or.inl ⟨by rfl, ?_⟩) (by assumption) ?_
      · intro W hSW; obtain ⟨x0, x1, x2, x3, x4, x5⟩ := rowv6 hSW.1; go_simp
      simp only [Act.put, List.setIfInBounds_toArray, List.set_cons_zero, List.set_cons_succ]
      refine wpAnyH_take (i := 1) (oi := ⟨some 49, _, _, _, _, _⟩) (v := (.agg #[.slice (some ⟨gv, 0, none⟩) svn svc, .slice (some ⟨gx, 0, none⟩) sxn sxc])) rfl (by kernel_rfl) (by kernel_rfl) (by kernel_rfl) (fun _ _ _ h => h) (Or.inl ⟨by rfl, ?_⟩) (by assumption) ?_
      · intro W hSW; obtain ⟨k0, k1⟩ := row2v hSW.2; go_simp
      simp only [Act.put, List.setIfInBounds_toArray, List.set_cons_zero, List.set_cons_succ]
      obtain ⟨d0, d1, d2, d3, d4, d5⟩ := rowv6 HDd.out
      have f0 := frozen_of_row _ _ 0 _ _ HDd.out
      have f1 := frozen_of_row _ _ 1 _ _ HDd.out
      have f2 := frozen_of_row _ _ 2 _ _ HDd.out
      have f3 := frozen_of_row _ _ 3 _ _ HDd.out
      have f4 := frozen_of_row _ _ 4 _ _ HDd.out
      have f5 := frozen_of_row _ _ 5 _ _ HDd.out
      obtain ⟨wD, hwD⟩ : ∃ wD, wD = (((((wd.setCell ⟨X + 1, 0, none⟩ (.int .i64 e.n)).setCell ⟨X + 1, 1, none⟩ (.int .i64 e.c)).setCell ⟨X + 1, 2, none⟩ (.string e.k)).setCell ⟨X + 1, 3, none⟩ (.bool e.d)).setCell ⟨X + 1, 4, none⟩ (.slice (some ⟨gv, 0, none⟩) e.v.n svc)).setCell ⟨X + 1, 5, none⟩ (.slice (some ⟨gx, 0, none⟩) e.x.n sxc) := ⟨_, rfl⟩
      have HDD : Hid (wD.heap[X + 1]? = some (.cells #[.int .i64 e.n, .int .i64 e.c, .string e.k, .bool e.d, .slice (some ⟨gv, 0, none⟩) e.v.n svc, .slice (some ⟨gx, 0, none⟩) e.x.n sxc] 38 (0, 0))) := by
        unfold Hid
        rw [hwD]
        have h1 := heap_setCell_same wd (X + 1) 0 _ 38 (.int .i64 e.n) HDd.out
        have h2 := heap_setCell_same _ (X + 1) 1 _ 38 (.int .i64 e.c) h1
        have h3 := heap_setCell_same _ (X + 1) 2 _ 38 (.string e.k) h2
        have h4 := heap_setCell_same _ (X + 1) 3 _ 38 (.bool e.d) h3
        have h5 := heap_setCell_same _ (X + 1) 4 _ 38 (.slice (some ⟨gv, 0, none⟩) e.v.n svc) h4
        have h6 := heap_setCell_same _ (X + 1) 5 _ 38 (.slice (some ⟨gx, 0, none⟩) e.x.n sxc) h5
        simpa using h6
      have aD : Apart [X + 1] wd wD := by rw [hwD]; exact ((((((Apart.refl [X + 1] wd).setCell (.inl (by simp)) _).setCell (.inl (by simp)) _).setCell (.inl (by simp)) _).setCell (.inl (by simp)) _).setCell (.inl (by simp)) _).setCell (.inl (by simp)) _
      have hXK := hXK.out
      have hKK := HKK.out
      have hSD : wD.heap[X]? = some (.cells #[.int .i64 e.n, .int .i64 e.c, .string e.k, .bool e.d, .slice (some ⟨gv, 0, none⟩) e.v.n svc, .slice (some ⟨gx, 0, none⟩) e.x.n sxc] 38 (0, 0)) ∧ wD.heap[K]? = some (.cells #[.slice (some ⟨gv, 0, none⟩) svn svc, .slice (some ⟨gx, 0, none⟩) sxn sxc] 43 (0, 0)) := ⟨(aD.block _ (lt_of_heap hHeld.1) (by simp)).trans hHeld.1, (aD.block _ (lt_of_heap hHeld.2) (by simp; omega)).trans hHeld.2⟩
      have HED : Hid (wD.heap[X + 1 + 1]? = some (.cells #[.slice none 0 0, .slice none 0 0] 43 (0, 0))) := (aD.block _ (lt_of_heap HEd.out) (by simp)).trans HEd.out
      have HaD := hid aD
      clear aD
      refine wpAnyH_ready (rs := [2]) (by kernel_rfl) (by simp) ?_
      refine AllReadyH.cons rfl (fun KK hKK => ?_) AllReadyH.nil
      go_simp
      rw [← hwD]
      refine hKK.out _ _ hSD (fun hHeld => ?_)
      clear hKK KK
      clear hwD d0 d1 d2 d3 d4 d5 f0 f1 f2 f3 f4 f5
      obtain ⟨d0, d1⟩ := row2v HED.out
      have f0 := frozen_of_row _ _ 0 _ _ HED.out
      have f1 := frozen_of_row _ _ 1 _ _ HED.out
      obtain ⟨wE, hwE⟩ : ∃ wE, wE = (wD.setCell ⟨X + 1 + 1, 0, none⟩ (.slice (some ⟨gv, 0, none⟩) svn svc)).setCell ⟨X + 1 + 1, 1, none⟩ (.slice (some ⟨gx, 0, none⟩) sxn sxc) := ⟨_, rfl⟩
      have HEE : Hid (wE.heap[X + 1 + 1]? = some (.cells #[.slice (some ⟨gv, 0, none⟩) svn svc, .slice (some ⟨gx, 0, none⟩) sxn sxc] 43 (0, 0))) := by
        unfold Hid
        rw [hwE]
        have h1 := heap_setCell_same wD (X + 1 + 1) 0 _ 43 (.slice (some ⟨gv, 0, none⟩) svn svc) HED.out
        have h2 := heap_setCell_same _ (X + 1 + 1) 1 _ 43 (.slice (some ⟨gx, 0, none⟩) sxn sxc) h1
        simpa using h2
      have aE : Apart [X + 1 + 1] wD wE := by rw [hwE]; exact ((Apart.refl [X + 1 + 1] wD).setCell (.inl (by simp)) _).setCell (.inl (by simp)) _
      have hSE : wE.heap[X]? = some (.cells #[.int .i64 e.n, .int .i64 e.c, .string e.k, .bool e.d, .slice (some ⟨gv, 0, none⟩) e.v.n svc, .slice (some ⟨gx, 0, none⟩) e.x.n sxc] 38 (0, 0)) ∧ wE.heap[K]? = some (.cells #[.slice (some ⟨gv, 0, none⟩) svn svc, .slice (some ⟨gx, 0, none⟩) sxn sxc] 43 (0, 0)) := ⟨(aE.block _ (lt_of_heap hHeld.1) (by simp; omega)).trans hHeld.1, (aE.block _ (lt_of_heap hHeld.2) (by simp; omega)).trans hHeld.2⟩
      have HDE : Hid (wE.heap[X + 1]? = some (.cells #[.int .i64 e.n, .int .i64 e.c, .string e.k, .bool e.d, .slice (some ⟨gv, 0, none⟩) e.v.n svc, .slice (some ⟨gx, 0, none⟩) e.x.n sxc] 38 (0, 0))) := (aE.block _ (lt_of_heap HDD.out) (by simp)).trans HDD.out
      have HaE := hid aE
      clear aE
      refine wpAnyH_ready (rs := [3]) (by kernel_rfl) (by simp) ?_
      refine AllReadyH.cons rfl (fun KK hKK => ?_) AllReadyH.nil
      go_simp
      rw [← hwE]
      refine hKK.out _ _ hSE (fun hHeld => ?_)
      clear hKK KK
      refine wpAnyH_done (by kernel_rfl) ?_ _
      clear hwE d0 d1 f0 f1 hSD hSE hHeld hXK hKK
      have aDE : Apart [] w wE := ((HAX.out.trans HSd.out).trans' HaD.out (by intro y hy; simp at hy; rw [hy, HX.out]; exact .inr (by omega))).trans' HaE.out (by intro y hy; simp at hy; rw [hy, HX.out]; exact .inr (by omega))
      have aD1 : Apart [] w wD := (HAX.out.trans HSd.out).trans' HaD.out (by intro y hy; simp at hy; rw [hy, HX.out]; exact .inr (by omega))
      have HBvE : Hid (Bf w wE ⟨some ⟨gv, 0, none⟩, svn, svc⟩ (r.vs ++ [165])) := ((HBvk.out.kept HSd.out).keepT HaD.out aD1 (by intro k hk cur h; simp at hk; rw [hk, HDd.out] at h; simp at h)).keepT HaE.out aDE (by intro k hk cur h; simp at hk; rw [hk, HED.out] at h; simp at h)
      have HBxE : Hid (Sps w wE ⟨some ⟨gx, 0, none⟩, sxn, sxc⟩ (r.xs ++ [mk7])) := ((HBxk.out.kept HSd.out).keepT HaD.out aD1 (by intro k hk cur h; simp at hk; rw [hk, HDd.out] at h; simp at h)).keepT HaE.out aDE (by intro k hk cur h; simp at hk; rw [hk, HED.out] at h; simp at h)
      have HP : Hid (LendP w r (.returned (.tuple #[.agg #[.int .i64 e.n, .int .i64 e.c, .string e.k, .bool e.d, .slice (some ⟨gv, 0, none⟩) e.v.n svc, .slice (some ⟨gx, 0, none⟩) e.x.n sxc], .agg #[.slice (some ⟨gv, 0, none⟩) svn svc, .slice (some ⟨gx, 0, none⟩) sxn sxc]])) wE) := ⟨⟨e.n, e.c, e.k, e.d, ⟨some ⟨gv, 0, none⟩, e.v.n, svc⟩, ⟨some ⟨gx, 0, none⟩, e.x.n, sxc⟩⟩, ⟨some ⟨gv, 0, none⟩, svn, svc⟩, ⟨some ⟨gx, 0, none⟩, sxn, sxc⟩, rfl, ⟨HR.out.n, HR.out.c, HR.out.k, HR.out.d, by rw [HVN.out], by rw [HXN.out], HBvE.out, HBxE.out, HR.out.vb, by rw [HVN.out]; exact hvl, by rw [HXN.out]; exact hxl⟩⟩
      obtain ⟨d0, d1, d2, d3, d4, d5⟩ := rowv6 HDE.out
      obtain ⟨c0, c1⟩ := row2v HEE.out
      clear aDE aD1
      go_wp2_with fail
      refine bodyPost_ret (v := .tuple #[.agg #[.int .i64 e.n, .int .i64 e.c, .string e.k, .bool e.d, .slice (some ⟨gv, 0, none⟩) e.v.n svc, .slice (some ⟨gx, 0, none⟩) e.x.n sxc], .agg #[.slice (some ⟨gv, 0, none⟩) svn svc, .slice (some ⟨gx, 0, none⟩) sxn sxc]]) ?_ rfl HP.out
      simp [results, Tryz.results12, go_sem, d0, d1, d2, d3, d4, d5, c0, c1]

end Go.Proofs.YtpddokbjjhbfgaaGreat.ds
