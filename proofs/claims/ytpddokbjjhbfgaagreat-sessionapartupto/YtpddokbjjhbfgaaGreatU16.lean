import Derived.Test.YtpddokbjjhbfgaaGreatChecked
import Derived.WalkKit
import Derived.ProofKit
import Derived.Maps.OwnSet
import Derived.Maps.RangeWalk
import Derived.DeepKeys4
import Derived.MapViews
import Derived.StringKeys
import Derived.Lib.TrailingZeros
import Derived.OpenShut
import Derived.Deep.QuietTactic
import Derived.BigQuiet
import Derived.BigRegion
import Derived.Laws.CopyOwn
import Derived.Laws.Bits64b
import Derived.Laws.MathBits
import Derived.Laws.ShiftsVarLaws
import Derived.WalkSmall
import Derived.Laws.ResultCell
import Derived.Lib.BitFns
import Derived.Laws.StructEq
import Derived.Deep.RegionHeld
import Derived.ArgAppend
import Derived.Deep.RegionLaw
import Derived.Deep.DeepAppendRoom
import Derived.Sort.WalkA
import Derived.Laws.Strings
import Derived.Deep.CutBlock
import Derived.Great.BuildSlice
import Derived.Laws.BytesString
import Derived.Laws.AppendOwnNone
import Derived.Lib.Overlaps
import Derived.Lib.AppendZerosOnto
import Derived.Laws.NewBlocks
import Derived.Laws.Externs
import Derived.Laws.IdiomCopy
import Derived.RangeFuncNested
import Derived.RangeFuncBound
import Derived.RangeFuncCalls
import Derived.RangeFuncLeaves
import Derived.Shelf.Abstract
import Derived.Shelf.RegionOpen
import Derived.OwnWalkIn
import Derived.TacticsInMore
import Derived.LoopNIn
import Derived.LoopIn
import Derived.Deep.CutRange
import Derived.Deep.OwnRows
import Derived.Lib.Walk
import Derived.Lib.SliceRun
import GoSem.Claim
import GoSem.ClaimJoined
import GoSem.ClaimMapViews
import Derived.JoinedTies
import Derived.KernelRfl
import Derived.Lib.LaidTab
import Derived.JoinedCond
import Derived.ShutString
import Derived.ChangeOld
import Derived.Below
import Derived.Carry
import Derived.ChangeSlices
import Derived.Deep.Slices
import Derived.Deep.DeepHandedRow
import Derived.RowKit
import Derived.ChangeShapes
import Derived.SizedLaws
import Derived.ChangeMaps5
import Derived.OrdersHeld
import Derived.Lib.AppendStr
import Derived.Lib.ConvBytes
import Derived.Deep.RegionHeld3
import Derived.Deep.MidRow
import Derived.Laws.BitsAllLaws
import Derived.Sort.Grow
import Derived.Shelf.SlSortCmp.WholeK
import Derived.Shelf.Lay
import Derived.Ground.SlsfProg
import Derived.Sort.LotA
import Derived.Sort.MapsRangeIn
import Derived.RangeFuncSeq
import Derived.RangeFuncKeeps
import Derived.Maps.AppendAt
import Derived.OwnWalk
import Derived.Test.YtpddokbjjhbfgaaGreatRows
import Derived.Test.YtpddokbjjhbfgaaGreatU15
namespace Go.Proofs.YtpddokbjjhbfgaaGreat.rg
open Go.ChangeShapes Go.WideShapes Go.ChangeAt Go.RowKit Go.Sort
set_option linter.unusedVariables false
set_option linter.unusedSimpArgs false
theorem zc (n : Nat) : (Builtin.zeroCells (Value.agg #[.int .u32 0, .int .i64 0]).cells n).size = n * 2 := by
  unfold Builtin.zeroCells
  rw [Array.size_map, Array.size_range]; rfl
structure GrowPost (w w' : World) (r : Ending) (n : Nat) : Prop where
  ex : ∃ G, r = .returned (.slice (some ⟨w.heap.size, 0, none⟩) 0 G) ∧ n ≤ G ∧ OwnP w w' (some ⟨w.heap.size, 0, none⟩) 0 G []
set_option maxHeartbeats 2000000 in
set_option maxRecDepth 100000 in
theorem grow_ok (n : Nat) (h1 : 1 ≤ n) (h2 : n ≤ 1000) (w : World) : Calls Tryz.prog 125 #[.slice none 0 0, .int .i64 n] w fun r w' => GrowPost w w' r n := by
  obtain ⟨i0, hi, hz0, hz1, hz2⟩ := info_parts info80
  have hold : (Builtin.firstCells i0.size 0 (.slice none 0 0)).run Tryz.prog w.drew = .ok ([] : List Value).toArray w.drew := run_firstCells_none w.drew i0.size 0 0 0
  have hrz : ∀ ty, (Builtin.append_ #[147, 3] ty #[.slice none 0 0, .int .i64 (n : Int)]).run Tryz.prog w =
      .ok (.slice (some ⟨w.heap.size, 0, none⟩) (0 + n) (grownCap w (0 + n) 0 170)) (w.drew.alloc (.cells (([] : List Value).toArray ++ Builtin.zeroCells (Value.agg #[.int .u32 0, .int .i64 0]).cells n ++ Builtin.zeroCells (Value.agg #[.int .u32 0, .int .i64 0]).cells (grownCap w (0 + n) 0 170 - (0 + n))) 170)) := fun ty =>
    Lib.run_append_grow_zeros w 147 3 ty 170 i0 (.agg #[.int .u32 0, .int .i64 0]) .i64 .i64 Tryz.underlying147 Tryz.underlying3 hi hz0 none 0 0 [] hold n (by omega) (by omega) (by omega) (by omega)
      (by rw [hz2]; omega)
      (by rw [hz2]; exact growslice_fits (by omega) (by omega))
  have hGn : 0 + n ≤ grownCap w (0 + n) 0 170 := grownCap_ge w _ _ _
  have hGm : grownCap w (0 + n) 0 170 ≤ maxLen := grownCap_le_maxLen w _ _ _ (by unfold maxLen; omega)
  obtain ⟨G, hG⟩ : ∃ G, G = grownCap w (0 + n) 0 170 := ⟨_, rfl⟩
  rw [← hG] at hrz hGn hGm
  have hG63 : G ≤ 9223372036854775807 := by unfold maxLen at hGm; omega
  obtain ⟨C, HC⟩ : ∃ C, Hid (C = ([] : List Value).toArray ++ Builtin.zeroCells (Value.agg #[.int .u32 0, .int .i64 0]).cells n ++ Builtin.zeroCells (Value.agg #[.int .u32 0, .int .i64 0]).cells (G - (0 + n))) := ⟨_, rfl⟩
  have HS : Hid (C.size = G * 2) := by
    show C.size = G * 2
    rw [HC.out, Array.size_append, Array.size_append, zc, zc]
    show 0 + n * 2 + (G - (0 + n)) * 2 = G * 2
    omega
  rw [← HC.out] at hrz
  rw [Nat.zero_add] at hrz
  clear hold hG HC
  go_enter Tryz.func125, Tryz.ntmps125
  go_wp2_with (at_builtin; refine Lib.wpList_append_run _ rfl _ _ _ _ rfl _ _ rfl rfl _ _ (hrz _) ?_)
  go_ret
  refine ⟨⟨G, rfl, by omega, ⟨rfl, .inr ⟨w.heap.size, G, C, rfl, Nat.zero_le _, ?_, Nat.zero_le _, hGm, HS.out, by simp [flP]⟩⟩, fun b hb => ?_, ((Apart.refl _ _).drew).alloc _⟩⟩
  · show (w.drew.heap.push _)[w.drew.heap.size]? = _
    exact Array.getElem?_push_size
  · simp [Value.ownBlock] at hb; omega
/-- points appended where there is room -/
theorem ownp_room {w W : World} {P n cap : Nat} {ps : List Pt} (h : OwnP w W (some ⟨P, 0, none⟩) n cap ps) (ad : Addr) (m c : Nat) (qs : List Pt) (hm : qs.length = m) (hroom : n + m ≤ cap) (hq : ∀ j u, (flP qs)[j]? = some u → W.cell? (ad.add j) = some u) (ty : TypeId) :
    ∃ w', (Builtin.append_ #[147, 147] ty #[.slice (some ⟨P, 0, none⟩) n cap, .slice (some ad) m c]).run Tryz.prog W = .ok (.slice (some ⟨P, 0, none⟩) (n + m) cap) w' ∧ OwnP w w' (some ⟨P, 0, none⟩) (n + m) cap (ps ++ qs) ∧ Apart [P] W w' := by
  obtain ⟨i0, hi, hz0, hz1, hz2⟩ := info_parts info80
  obtain ⟨w', hrun, r1, r2⟩ := run_append_own_spare (P := Tryz.prog) W 0 147 ty 170 i0 2 Tryz.underlying147 hi hz1 P n cap (flP ps) h.own ad m c (flP qs) (by rw [flP_length, hm]) hq (fun u hu => flP_one hu) hroom
  have ap := apart_grown r2
  refine ⟨w', hrun, ⟨by rw [← flP_append]; exact r1, h.new, h.ap.trans' ap (fun y hy => .inr (h.new y (by simp at hy; subst hy; rfl)))⟩, ap⟩
theorem add_block (a : Addr) (j : Nat) : (a.add j).block = a.block := by
  unfold Addr.add
  first | rfl | (split <;> rfl)
structure CatPost (w w' : World) (r : Ending) (n : Nat) (ps : List Pt) : Prop where
  ex : ∃ P G, r = .returned (.slice (some ⟨P, 0, none⟩) n G) ∧ OwnP w w' (some ⟨P, 0, none⟩) n G ps
set_option maxHeartbeats 2000000 in
set_option maxRecDepth 100000 in
theorem concat_ok (B cc : Nat) (aa ab : Addr) (m0 m1 c0 c1 : Nat) (xs ys : List Pt) (w : World) (hx : Hid (xs.length = m0)) (hy : Hid (ys.length = m1)) (h1 : 1 ≤ m0 + m1) (h2 : m0 + m1 ≤ 1000) (hB : B < w.heap.size) (hA : aa.block < w.heap.size) (hA2 : ab.block < w.heap.size)
    (b0 : w.cell? ⟨B, 0, none⟩ = some (.slice (some aa) m0 c0)) (b1 : w.cell? ⟨B, 1, none⟩ = some (.slice (some ab) m1 c1)) (ha : Hid (∀ j u, (flP xs)[j]? = some u → w.cell? (aa.add j) = some u)) (hb : Hid (∀ j u, (flP ys)[j]? = some u → w.cell? (ab.add j) = some u)) :
    Calls Tryz.prog 111 #[.slice (some ⟨B, 0, none⟩) 2 cc] w fun r w' => CatPost w w' r (m0 + m1) (xs ++ ys) := by
  go_enter Tryz.func111, Tryz.ntmps111
  go_wp2_with fail
  refine wp_loop_rounds 3 ?_
  rw [rounds_succ]
  go_wp2_with fail
  rw [rounds_succ]
  go_wp2_with fail
  rw [rounds_succ]
  go_wp2_with fail
  have hg := grow_ok (m0 + m1) h1 h2 w
  simp only [Int.natCast_add] at hg
  have hAj : ∀ j, (aa.add j).block < w.heap.size := fun j => by rw [add_block]; exact hA
  have hAk : ∀ j, (ab.add j).block < w.heap.size := fun j => by rw [add_block]; exact hA2
  refine hg.mono ?_
  clear hg
  rintro r w1 ⟨⟨G, rfl, hG, O⟩⟩
  dsimp only
  replace b0 := (O.ap.cell (p := ⟨B, 0, none⟩) hB (by simp)).trans b0
  replace b1 := (O.ap.cell (p := ⟨B, 1, none⟩) hB (by simp)).trans b1
  obtain ⟨w2, hrun1, O1, a1⟩ := ownp_room O aa m0 c0 xs hx.out (by omega) (fun j u hu => (O.ap.cell (p := aa.add j) (hAj j) (by simp)).trans (ha.out j u hu)) 59
  have hne : ∀ k, k < w.heap.size → k ∉ [w.heap.size] := fun k hk hm => by simp at hm; omega
  have b1' := (a1.cell (p := ⟨B, 1, none⟩) (Nat.lt_of_lt_of_le hB O.ap.size) (hne B hB)).trans b1
  obtain ⟨w3, hrun2, O2, a2⟩ := ownp_room O1 ab m1 c1 ys hy.out (by omega) (fun j u hu => (a1.cell (p := ab.add j) (Nat.lt_of_lt_of_le (hAk j) O.ap.size) (hne _ (hAk j))).trans ((O.ap.cell (p := ab.add j) (hAk j) (by simp)).trans (hb.out j u hu))) 59
  rw [Nat.zero_add] at hrun1 hrun2 O1 O2
  clear O O1 a1 a2 hne hAj hAk
  obtain ⟨g, Hg⟩ : ∃ g, Hid (g = w.heap.size) := ⟨_, rfl⟩
  rw [← Hg.out] at hrun1 hrun2 O2 ⊢
  go_wp2_with fail
  refine wp_loop_rounds 3 ?_
  rw [rounds_succ]
  go_wp2_with (at_builtin; refine wpList_append3 rfl _ _ 147 rfl _ _ rfl rfl _ _ hrun1 ?_)
  rw [rounds_succ]
  go_wp2_with (at_builtin; refine wpList_append3 rfl _ _ 147 rfl _ _ rfl rfl _ _ hrun2 ?_)
  rw [rounds_succ]
  go_wp2_with fail
  go_ret
  exact ⟨⟨g, G, rfl, O2⟩⟩
end Go.Proofs.YtpddokbjjhbfgaaGreat.rg
namespace Go.Proofs.YtpddokbjjhbfgaaGreat.rg
open Go.ChangeShapes Go.WideShapes Go.ChangeAt Go.RowKit Go.Sort Go.Maps
set_option linter.unusedVariables false
set_option linter.unusedSimpArgs false
theorem flP_take : ∀ (l : List Pt) (b : Nat), flP (l.take b) = (flP l).take (b * 2)
  | [], b => by simp [flP]
  | x :: r, 0 => by simp [flP]
  | x :: r, b + 1 => by
    have := flP_take r b
    rw [show (b + 1) * 2 = b * 2 + 2 by omega]
    simp only [flP, List.take_succ_cons, List.flatMap_cons, List.cons_append, List.nil_append] at *
    rw [this]
theorem flP_drop : ∀ (l : List Pt) (b : Nat), flP (l.drop b) = (flP l).drop (b * 2)
  | [], b => by simp [flP]
  | x :: r, 0 => by simp [flP]
  | x :: r, b + 1 => by
    have := flP_drop r b
    rw [show (b + 1) * 2 = b * 2 + 2 by omega]
    simp only [flP, List.drop_succ_cons, List.flatMap_cons, List.cons_append, List.nil_append] at *
    rw [this]
theorem law3 : Keyed Tryz.prog 3 := int_keyed Tryz.underlying3
theorem zero84 (w : World) : (zeroValue 99).run Tryz.prog w = .ok (.agg #[]) w := by kernel_rfl
/-- the set of the nodes met -/
def setN (acc : List Nat) : DataW Unit := setOf (.agg []) (acc.map fun x => Lit.int .i64 (x : Nat))
theorem any_nat (x : Nat) : ∀ l : List Nat, l.any ((fun y : Lit => y.sameKey (.int .i64 (x : Nat))) ∘ fun x : Nat => Lit.int .i64 (x : Nat)) = l.contains x
  | [] => rfl
  | a :: r => by
    rw [List.any_cons, List.contains_cons, any_nat x r]
    congr 1
    show decide (IntKind.i64 = IntKind.i64 ∧ (a : Int) = (x : Int)) = (x == a)
    by_cases e : a = x
    · subst e; simp
    · have e' : ¬ x = a := fun h => e h.symm
      have e2 : ¬ (a : Int) = (x : Int) := by omega
      simp [e', e2]
theorem has_setN (acc : List Nat) (x : Nat) : Maps.has (setN acc) (.int .i64 (x : Nat)) = acc.contains x := by
  unfold setN
  rw [has_setOf _ _ _ (fun y hy => by obtain ⟨_, _, rfl⟩ := List.mem_map.1 hy; trivial), List.any_map]
  exact any_nat x _
theorem setN_snoc (acc : List Nat) (x : Nat) : setN (acc ++ [x]) = (setN acc).put (.int .i64 (x : Nat)) (.agg []) := by
  unfold setN
  rw [List.map_append, List.map_singleton, setOf_snoc]
theorem metN_snoc (acc : List Nat) (l : List Pt) (x : Pt) : metN acc (l ++ [x]) = if (metN acc l).contains x.2 then metN acc l else metN acc l ++ [x.2] := by
  induction l generalizing acc with
  | nil => rfl
  | cons y r ih => exact ih _
theorem map_apart {w w' : World} {X : List Nat} {B n : Nat} {D : DataW Unit} (h : w.ownsMap Tryz.prog 3 (unitElem (H := Unit)) B n D) (a : Apart X w w') (hx : B ∉ X) : w'.ownsMap Tryz.prog 3 (unitElem (H := Unit)) B n D := by
  obtain ⟨es, clock, hb, r⟩ := h
  exact ⟨es, clock, (a.block B (lt_of_heap hb) hx).trans hb, r⟩
structure Mt (w wr : World) (C G m : Nat) (R : List Pt) (B : Nat) (p : Option Addr) (n cap : Nat) (acc : List Nat) (k : Nat) : Prop where
  rc : OwnP w wr (some ⟨C, 0, none⟩) m G R
  oi : OwnI w wr p n cap acc
  mp : wr.ownsMap Tryz.prog 3 (unitElem (H := Unit)) B k (setN acc)
  hB : w.heap.size ≤ B
  len : acc.length = n
  kk : n ≤ k
/-- the set is one ahead -/
structure Mtp (w wr : World) (C G m : Nat) (R : List Pt) (B : Nat) (p : Option Addr) (n cap : Nat) (acc : List Nat) (y k : Nat) : Prop where
  rc : OwnP w wr (some ⟨C, 0, none⟩) m G R
  oi : OwnI w wr p n cap acc
  mp : wr.ownsMap Tryz.prog 3 (unitElem (H := Unit)) B k (setN (acc ++ [y]))
  hB : w.heap.size ≤ B
  len : acc.length = n
  kk : n + 1 ≤ k
theorem Mt.kept {w wr w2 : World} {C G m : Nat} {R : List Pt} {B : Nat} {p : Option Addr} {n cap : Nat} {acc : List Nat} {k : Nat} (h : Mt w wr C G m R B p n cap acc k) (a : Apart [] wr w2) : Mt w w2 C G m R B p n cap acc k :=
  ⟨h.rc.kept a, h.oi.kept a, map_apart h.mp a (by simp), h.hB, h.len, h.kk⟩
theorem wfy (y : Nat) (hy : y < 1000) : (Lit.int .i64 (y : Nat)).wf = true := by
  simp [Lit.wf, IntKind.bits, IntKind.signed, IntKind.min, IntKind.max]; omega
theorem row_map {w : World} {base : Nat} {e : TypeId} {size : Nat} {v : Value} {n : Nat} {xs : List Value} {B k : Nat} {D : DataW Unit} (h : w.ownsRow base e size v n xs) (m : w.ownsMap Tryz.prog 3 (unitElem (H := Unit)) B k D) : ∀ g, v.ownBlock = some g → g ∉ [B] := by
  intro g hg hm
  obtain rfl : g = B := by simpa using hm
  obtain ⟨cur, h1⟩ := own_typ h hg
  obtain ⟨es, clock, hb, _⟩ := m
  rw [h1] at hb; cases hb
theorem mt_put {w wr w3 : World} {C G m : Nat} {R : List Pt} {B : Nat} {p : Option Addr} {n cap : Nat} {acc : List Nat} {k : Nat} {y : Nat} {Q : Nat} (h : Mt w wr C G m R B p n cap acc k) (hQ : wr.cell? ⟨Q, 1, none⟩ = some (.int .i64 (y : Nat)))
    (hown : w3.ownsMap Tryz.prog 3 (unitElem (H := Unit)) B (k + 1) ((setN acc).put (.int .i64 (y : Nat)) (.agg []))) (hg : wr.grownBy w3 (some B)) : w3.cell? ⟨Q, 1, none⟩ = some (.int .i64 (y : Nat)) ∧ Mtp w w3 C G m R B p n cap acc y (k + 1) := by
  have a : Apart [B] wr w3 := apart_grown hg
  have hne : Q ≠ B := by
    rintro rfl
    obtain ⟨es, clock, hb, _⟩ := h.mp
    simp [World.cell?, hb] at hQ
  refine ⟨(a.cell (p := ⟨Q, 1, none⟩) (block_lt_of_cell hQ) (by simpa using hne)).trans hQ, ?_⟩
  have hX : ∀ x ∈ [B], w.heap.size ≤ x := fun x hx => by simp at hx; subst hx; exact h.hB
  exact ⟨h.rc.keptX a (row_map h.rc.own h.mp) hX, h.oi.keptX a (row_map h.oi.own h.mp) hX, by rw [setN_snoc]; exact hown, h.hB, h.len, by have := h.kk; omega⟩
theorem mt_app {w wr : World} {C G m : Nat} {R : List Pt} {B : Nat} {p : Option Addr} {n cap : Nat} {acc : List Nat} {k y : Nat} (h : Mtp w wr C G m R B p n cap acc y k) (hk : k ≤ 1001) (ty : TypeId) :
    ∃ p' cap' w', (Builtin.append_ #[54, 54] ty #[.slice p n cap, .slice (some ⟨wr.heap.size, 0, none⟩) 1 1]).run Tryz.prog (wr.alloc (.cells #[.int .i64 (y : Nat)] 3)) = .ok (.slice p' (n + 1) cap') w' ∧ Mt w w' C G m R B p' (n + 1) cap' (acc ++ [y]) k := by
  obtain ⟨i0, hi, hz0, hz1, hz2⟩ := info_parts info3
  have aA : Apart [] wr (wr.alloc (.cells #[.int .i64 (y : Nat)] 3)) := (Apart.refl _ _).alloc _
  have hkk := h.kk
  obtain ⟨p', cap', w', hrun, r1, r2, r3⟩ := OwnR.append (ty := ty) Tryz.underlying54 hi hz0 hz1 hz2 rfl (by decide) (h.oi.kept aA) ⟨wr.heap.size, 0, none⟩ 1 1 [.int .i64 (y : Nat)] (by decide) rfl
    (by
      intro j u hj
      match j, hj with
      | 0, hj => simp at hj; subst hj; simp [Addr.add])
    (by intro u hu; simp at hu; subst hu; rfl) (by unfold maxLen; omega) (by omega)
  have hX : ∀ x ∈ (Value.slice p n cap).ownBlock.toList, w.heap.size ≤ x := fun x hx => h.oi.new x (by simpa using hx)
  refine ⟨p', cap', w', hrun, (h.rc.kept aA).keptX r2 (fun g hg hm => ?_) hX, by show OwnR 3 1 w w' p' (n + 1) cap' (flI (acc ++ [y])); rw [show flI (acc ++ [y]) = flI acc ++ [.int .i64 (y : Nat)] by simp [flI]]; exact r1, map_apart (map_apart h.mp aA (by simp)) r2 (fun hm => ?_), h.hB, by simp [h.len], h.kk⟩
  · have hm' : (Value.slice p n cap).ownBlock = some g := by simpa using hm
    obtain ⟨c1, e1⟩ := own_typ h.rc.own hg
    obtain ⟨c2, e2⟩ := own_typ h.oi.own hm'
    rw [e1] at e2; simp at e2
  · exact row_map h.oi.own h.mp B (by simpa using hm) (by simp)
structure MeetPost (w w' : World) (r : Ending) (acc : List Nat) : Prop where
  ex : ∃ p cap, r = .returned (.slice p acc.length cap) ∧ OwnI w w' p acc.length cap acc
set_option maxHeartbeats 4000000 in
set_option maxRecDepth 100000 in
theorem meet_ok {w0 w : World} {P m cap : Nat} (f : Nat) {l : List Pt} (O : OwnP w0 w (some ⟨P, 0, none⟩) m cap l) (hm : Hid (m = l.length)) (hm0 : 1 ≤ m) (hm1 : m ≤ 1000) (hs : l.Pairwise (fun a b => ltP b a = false)) (hsm : ∀ x ∈ l, x.2 < 1000) :
    Calls Tryz.prog 83 #[.slice (some ⟨P, 0, none⟩) m cap, .int .u32 (f : Nat)] w fun r w' => MeetPost w w' r (metN [] (rotN l f)) := by
  obtain ⟨hxl, ⟨hv, _⟩ | ⟨g, cap', cur, hv, hb, hr, hle, hcm, hcs, htk⟩⟩ := id O.own
  · cases hv
  simp only [Value.slice.injEq, Option.some.injEq, Addr.mk.injEq, and_true, true_and] at hv
  obtain ⟨rfl, rfl⟩ := hv
  have hP : P < w.heap.size := lt_of_heap hr
  have hcell := fun j hj => O.cellP j hj
  have hbs := bsearch_ok P m cap f l w hm hm1 hP hs (fun i hi => by
    obtain ⟨c0, c1⟩ := flP_get l i hi
    exact ⟨(hcell _ (by omega)).trans c0, (hcell _ (by omega)).trans c1⟩)
  have hble : begN l f ≤ m := by rw [hm.out]; exact List.countP_le_length
  have HR : Hid (rotN l f = l.drop (begN l f) ++ l.take (begN l f)) := rfl
  obtain ⟨b, Hb⟩ : ∃ b, Hid (b = begN l f) := ⟨_, rfl⟩
  rw [← Hb.out] at hbs hble HR
  have hcap63 : cap ≤ 9223372036854775807 := by unfold maxLen at hcm; omega
  clear hcm hcs htk hr hxl
  have hmm := @run_makeMap Tryz.prog
  go_enter Tryz.func83, Tryz.ntmps83
  go_wp2_with fail
  refine hbs.mono ?_
  clear hbs
  rintro r w1 ⟨⟨found, rfl⟩, g1⟩
  dsimp only
  have a1 := g1.apart
  clear g1
  have A2 : Apart [] w (w1.alloc (.map #[] 0)) := a1.alloc _
  go_wp2_with fail
  have hM := World.ownsMap_made w1 Tryz.prog 3 (unitElem (H := Unit))
  obtain ⟨B, HB⟩ : ∃ B, Hid (B = w1.heap.size) := ⟨_, rfl⟩
  rw [← HB.out] at hM ⊢
  generalize hz : w1.alloc (.map #[] 0) = z at *
  clear hz
  have aD : Apart [] z z.drew := (Apart.refl _ _).drew
  have hcc : ∃ ad : Addr, (if cap = b then some (⟨P, 0, none⟩ : Addr) else some ⟨P, b * 2, none⟩) = some ad ∧ ad.block = P ∧ (b < m → ad = ⟨P, b * 2, none⟩) := by
    by_cases h : cap = b
    · exact ⟨⟨P, 0, none⟩, by rw [if_pos h], rfl, fun _ => by omega⟩
    · exact ⟨⟨P, b * 2, none⟩, by rw [if_neg h], rfl, fun _ => rfl⟩
  obtain ⟨ad, hadif, hadb, HAD⟩ := hcc
  have hncb : ¬ cap < b := by omega
  have hmb : m - b + b = m := by omega
  have hcat : Hid (Calls Tryz.prog 111 #[.slice (some ⟨z.heap.size, 0, none⟩) 2 2] (z.drew.alloc (.cells #[.slice (some ad) (m - b) (cap - b), .slice (some ⟨P, 0, none⟩) b cap] 147)) fun r w' => CatPost (z.drew.alloc (.cells #[.slice (some ad) (m - b) (cap - b), .slice (some ⟨P, 0, none⟩) b cap] 147)) w' r m (rotN l f)) := by
    have AZ : Apart [] w (z.drew.alloc (.cells #[.slice (some ad) (m - b) (cap - b), .slice (some ⟨P, 0, none⟩) b cap] 147)) := (A2.drew).alloc _
    have h := concat_ok z.heap.size 2 ad ⟨P, 0, none⟩ (m - b) b (cap - b) cap (l.drop b) (l.take b) (z.drew.alloc (.cells #[.slice (some ad) (m - b) (cap - b), .slice (some ⟨P, 0, none⟩) b cap] 147))
      (by show (l.drop b).length = m - b; rw [List.length_drop, ← hm.out]) (by show (l.take b).length = b; rw [List.length_take, ← hm.out]; omega) (by omega) (by omega) (by simp) (by rw [hadb]; exact Nat.lt_of_lt_of_le hP AZ.size) (Nat.lt_of_lt_of_le hP AZ.size)
      (by show (z.alloc _).cell? _ = _; simp) (by show (z.alloc _).cell? _ = _; simp)
      (by
        intro j u hu
        rw [flP_drop, List.getElem?_drop] at hu
        have hj : b * 2 + j < (flP l).length := (List.getElem?_eq_some_iff.1 hu).1
        rw [flP_length] at hj
        have := hm.out
        have e : ad.add j = ⟨P, b * 2 + j, none⟩ := by rw [HAD (by omega)]; unfold Addr.add; split <;> simp_all
        rw [e, AZ.cell (p := ⟨P, b * 2 + j, none⟩) hP (by simp), hcell _ hj]; exact hu)
      (by
        intro j u hu
        rw [flP_take] at hu
        have hj : j < (flP l).length := by
          have := (List.getElem?_eq_some_iff.1 hu).1
          rw [List.length_take] at this; omega
        have hu2 : (flP l)[j]? = some u := by
          rw [List.getElem?_take] at hu
          split at hu
          · exact hu
          · cases hu
        rw [flP_length] at hj
        have e : (⟨P, 0, none⟩ : Addr).add j = ⟨P, j, none⟩ := by unfold Addr.add; split <;> simp_all
        rw [e, AZ.cell (p := ⟨P, j, none⟩) hP (by simp), hcell _ hj]; exact hu2)
    rw [← HR.out, hmb] at h
    exact h
  clear hcell HAD
  refine wp_region_held_drew (S := fun X => Apart [] z X) (by kernel_rfl) aD (fun hHeld => ?_)
  refine wpAnyH_take (i := 0) (oi := ⟨some 21, _, _, _, _, _⟩) (v := (.slice (some ⟨P, 0, none⟩) m cap)) rfl (by kernel_rfl) (by kernel_rfl) (by kernel_rfl) (fun _ _ _ h => h) (Or.inl ⟨by rfl, ?_⟩) (by assumption) ?_
  · intro W hSW; go_simp
  simp only [Act.put, List.setIfInBounds_toArray, List.set_cons_zero, List.set_cons_succ]
  refine wpAnyH_take (i := 1) (oi := ⟨some 22, _, _, _, _, _⟩) (v := (.int .i64 (b : Nat))) rfl (by kernel_rfl) (by kernel_rfl) (by kernel_rfl) (fun _ _ _ h => h) (Or.inl ⟨by rfl, ?_⟩) (by assumption) ?_
  · intro W hSW; go_simp
  simp only [Act.put, List.setIfInBounds_toArray, List.set_cons_zero, List.set_cons_succ]
  refine wpAnyH_take (i := 2) (oi := ⟨some 23, _, _, _, _, _⟩) (v := (.slice (some ad) (m - b) (cap - b))) rfl (by kernel_rfl) (by kernel_rfl) (by kernel_rfl) (fun _ _ _ h => h) (Or.inl ⟨by rfl, ?_⟩) (by assumption) ?_
  · intro W hSW; go_simp
  simp only [Act.put, List.setIfInBounds_toArray, List.set_cons_zero, List.set_cons_succ]
  refine wpAnyH_take (i := 3) (oi := ⟨some 24, _, _, _, _, _⟩) (v := (.slice (some ⟨P, 0, none⟩) m cap)) rfl (by kernel_rfl) (by kernel_rfl) (by kernel_rfl) (fun _ _ _ h => h) (Or.inl ⟨by rfl, ?_⟩) (by assumption) ?_
  · intro W hSW; go_simp
  simp only [Act.put, List.setIfInBounds_toArray, List.set_cons_zero, List.set_cons_succ]
  refine wpAnyH_take (i := 4) (oi := ⟨some 25, _, _, _, _, _⟩) (v := (.int .i64 (b : Nat))) rfl (by kernel_rfl) (by kernel_rfl) (by kernel_rfl) (fun _ _ _ h => h) (Or.inl ⟨by rfl, ?_⟩) (by assumption) ?_
  · intro W hSW; go_simp
  simp only [Act.put, List.setIfInBounds_toArray, List.set_cons_zero, List.set_cons_succ]
  refine wpAnyH_take (i := 5) (oi := ⟨some 26, _, _, _, _, _⟩) (v := (.slice (some ⟨P, 0, none⟩) b cap)) rfl (by kernel_rfl) (by kernel_rfl) (by kernel_rfl) (fun _ _ _ h => h) (Or.inl ⟨by rfl, ?_⟩) (by assumption) ?_
  · intro W hSW; go_simp
  simp only [Act.put, List.setIfInBounds_toArray, List.set_cons_zero, List.set_cons_succ]
  refine wpAnyH_take (i := 9) (oi := ⟨some 30, _, _, _, _, _⟩) (v := (.int .i64 0)) rfl (by kernel_rfl) (by kernel_rfl) (by kernel_rfl) (fun _ _ _ h => h) (Or.inl ⟨by rfl, ?_⟩) (by assumption) ?_
  · intro W hSW; go_simp
  simp only [Act.put, List.setIfInBounds_toArray, List.set_cons_zero, List.set_cons_succ]
  refine wpAnyH_ready (rs := [6]) (by kernel_rfl) (by simp) ?_
  refine AllReadyH.cons rfl (fun KK hKK => ?_) AllReadyH.nil
  go_simp
  have gA := aD.alloc (.cells #[.slice (some ad) (m - b) (cap - b), .slice (some ⟨P, 0, none⟩) b cap] 147)
  refine hKK.out _ _ (by assumption) (fun hHeld => ?_)
  clear hKK KK
  refine wpAnyH_ready (rs := [7]) (by kernel_rfl) (by simp) ?_
  refine AllReadyH.cons rfl (fun KK hKK => ?_) AllReadyH.nil
  go_simp
  refine (hcat.out).mono ?_
  rintro r w2 ⟨⟨C, G, rfl, OC⟩⟩
  dsimp only
  have gC := gA.trans OC.ap
  refine hKK.out _ _ (by assumption) (fun hHeld => ?_)
  clear hKK KK
  refine wpAnyH_take (i := 8) (oi := ⟨some 29, _, _, _, _, _⟩) (v := (.int .i64 (m : Nat))) rfl (by kernel_rfl) (by kernel_rfl) (by kernel_rfl) (fun _ _ _ h => h) (Or.inl ⟨by rfl, ?_⟩) (by assumption) ?_
  · intro W hSW; go_simp
  simp only [Act.put, List.setIfInBounds_toArray, List.set_cons_zero, List.set_cons_succ]
  refine wpAnyH_done (by kernel_rfl) ?_ _
  obtain ⟨R, HRR⟩ : ∃ R, Hid (R = rotN l f) := ⟨_, rfl⟩
  have hRl : R.length = m := by
    rw [HRR.out, HR.out, List.length_append, List.length_drop, List.length_take, ← hm.out]; omega
  rw [← HRR.out] at OC
  have M0 : Mt w w2 C G m R B none 0 0 [] 0 := by
    refine ⟨⟨OC.own, fun b hb => ?_, A2.trans gC⟩, ⟨World.ownsRow_nil _ _ _ _, fun b hb => (by cases hb), A2.trans gC⟩, ?_, by rw [HB.out]; exact a1.size, rfl, Nat.le_refl _⟩
    · exact Nat.le_trans (Nat.le_trans A2.size gA.size) (OC.new b hb)
    · exact map_apart hM gC (by simp)
  have HRL : Hid (R.length = m) := hRl
  have hRs : ∀ x ∈ R, x.2 < 1000 := by
    intro x hx
    rw [HRR.out, HR.out, List.mem_append] at hx
    rcases hx with hx | hx
    · exact hsm x (List.mem_of_mem_drop hx)
    · exact hsm x (List.mem_of_mem_take hx)
  clear OC gC gA hM A2 aD a1 hcat hadif hadb hncb hmb hRl hmm O hP hs HR
  go_wp2_with fail
  go_loopw [8, 30] (fun x v wr => ∃ (i n cp : Nat) (p : Option Addr), i ≤ m ∧ v = .int .i64 i ∧ x = .slice p n cp ∧ Mt w wr C G m R B p n cp (metN [] (R.take i)) i) (fun _ v _ => m - (intOf v).toNat)
  case atStart => exact ⟨0, 0, 0, none, Nat.zero_le _, rfl, rfl, M0⟩
  case round =>
    clear M0
    obtain ⟨i, n, cp, p, hi, rfl, rfl, M⟩ := hrel
    by_cases hlt : i < m
    · have hil : i < R.length := by rw [HRL.out]; exact hlt
      obtain ⟨c0, c1⟩ := flP_get R i hil
      replace c0 := (M.rc.cellP _ (by omega)).trans c0
      replace c1 := (M.rc.cellP _ (by omega)).trans c1
      obtain ⟨⟨x, y⟩, Hx⟩ : ∃ q : Pt, Hid (q = R.getD i (0, 0)) := ⟨_, rfl⟩
      rw [← Hx.out] at c0 c1
      simp only at c0 c1
      have hCs : C < wr.heap.size := by
        obtain ⟨_, ⟨hv, _⟩ | ⟨g, cap', cur, hv, hb, hr, _⟩⟩ := id M.rc.own
        · cases hv
        · simp at hv; rw [hv.1]; exact lt_of_heap hr
      have HT : Hid (metN [] (R.take (i + 1)) = if (metN [] (R.take i)).contains y then metN [] (R.take i) else metN [] (R.take i) ++ [y]) := by
        show metN [] (R.take (i + 1)) = _
        rw [List.take_succ_eq_append_getElem hil, metN_snoc]
        have e2 : R[i] = (x, y) := by rw [Hx.out, List.getD_eq_getElem?_getD, List.getElem?_eq_getElem hil]; rfl
        rw [e2]
      have hy63 : (Lit.int .i64 (y : Nat)).wf = true := wfy y (hRs (x, y) (by rw [Hx.out, List.getD_eq_getElem?_getD, List.getElem?_eq_getElem hil]; exact List.getElem_mem hil))
      have hkey : keyOf Tryz.prog 3 (.int .i64 (y : Nat)) = some (.int .i64 (y : Nat)) := keyOf_int_mk Tryz.underlying3 hy63
      clear hil
      have aV1 : Apart [] wr (wr.alloc (.cells #[.int .u32 (x : Nat), .int .i64 (y : Nat)] 170)) := (Apart.refl _ _).alloc _
      obtain ⟨acc, HA⟩ : ∃ acc, Hid (acc = metN [] (R.take i)) := ⟨_, rfl⟩
      rw [← HA.out] at M HT
      by_cases hc : acc.contains y = true
      · go_wp2_with (at_lookup; refine wpList_lookup_own_unit _ rfl _ _ 172 rfl 3 99 law3 Tryz.underlying172 (zero84 _) B i _ rfl (M.kept aV1).mp _ _ rfl hkey ?_; rw [has_setN, hc])
        go_roundw
        case rel =>
          refine ⟨i + 1, n, cp, p, by omega, by simp, rfl, ?_⟩
          rw [HT.out, if_pos hc]
          have M2 := (M.kept aV1).kept ((Apart.refl _ _).alloc (.cells #[] 99))
          exact { M2 with mp := M2.mp.mono (Nat.le_succ _), kk := Nat.le_succ_of_le M2.kk }
        case measure => simp only [intOf]; omega
      · have hc' : acc.contains y = false := by simpa using hc
        have M2 := (M.kept aV1).kept ((Apart.refl _ _).alloc (.cells #[] 99))
        have hQ2 : ((wr.alloc (.cells #[.int .u32 (x : Nat), .int .i64 (y : Nat)] 170)).alloc (.cells #[] 99)).cell? ⟨wr.heap.size, 1, none⟩ = some (.int .i64 (y : Nat)) := by
          rw [World.cell?_alloc_lt _ _ _ (by simp)]; simp
        go_wp2_with (first
          | (at_lookup; refine wpList_lookup_own_unit _ rfl _ _ 172 rfl 3 99 law3 Tryz.underlying172 (zero84 _) B i _ rfl (M.kept aV1).mp _ _ rfl hkey ?_; rw [has_setN, hc'])
          | (at_mapUpdate; refine wpList_mapUpdate_own _ rfl _ _ _ 172 rfl 3 99 law3 Tryz.underlying172 (unitElem (H := Unit)) B i _ rfl M2.mp (by unfold maxLen; omega) _ _ _ rfl rfl hkey _ [] unitElem_mk ?_; intro w3 hown3 hgrow3; obtain ⟨hcy, M3⟩ := mt_put (Q := wr.heap.size) (y := y) M2 hQ2 hown3 hgrow3; obtain ⟨p', cp', w4, hrun, M4⟩ := mt_app M3 (by omega) 28)
          | (at_builtin; refine wpList_append3 rfl _ _ 54 rfl _ _ rfl rfl _ _ hrun ?_))
        go_roundw
        case rel =>
          refine ⟨i + 1, n + 1, cp', p', by omega, by simp, rfl, ?_⟩
          rw [HT.out, if_neg hc]
          exact M4
        case measure => simp only [intOf]; omega
    · obtain rfl : i = m := by omega
      have hR : R.take i = R := by rw [← HRL.out]; exact List.take_length
      rw [hR] at M
      go_wp2_with fail
      go_ret
      rw [← HRR.out]
      have hl := M.len
      subst hl
      exact ⟨⟨p, cp, rfl, M.oi⟩⟩
end Go.Proofs.YtpddokbjjhbfgaaGreat.rg
namespace Go.Proofs.YtpddokbjjhbfgaaGreat.rg
open Go.ChangeShapes Go.WideShapes Go.ChangeAt Go.RowKit Go.Sort
set_option linter.unusedVariables false
set_option linter.unusedSimpArgs false
theorem own_some {e : TypeId} {size : Nat} {w w' : World} {p : Option Addr} {n cap : Nat} {xs : List Value} (h : OwnR e size w w' p n cap xs) (hn : 1 ≤ n) : ∃ P, p = some ⟨P, 0, none⟩ ∧ P < w'.heap.size ∧ w.heap.size ≤ P ∧ n ≤ cap ∧ cap ≤ 9223372036854775807 := by
  obtain ⟨_, ⟨_, hz⟩ | ⟨g, cap', cur, hv, hb, hr, hle, hcm, _⟩⟩ := id h.own
  · omega
  · simp only [Value.slice.injEq, true_and] at hv
    obtain ⟨rfl, rfl⟩ := hv
    exact ⟨g, rfl, lt_of_heap hr, h.new g rfl, hle, by unfold maxLen at hcm; omega⟩
theorem points_all (n : Nat) (h1 : 1 ≤ n) (h8 : n ≤ 8) (w : World) : Calls Tryz.prog 84 #[.int .i64 n] w fun r w' => PtsPost w w' r n :=
  points_ok n h8 w fun p cap W O => by
    obtain ⟨P, rfl, _⟩ := own_some O (by omega)
    exact sort_ok O (by rw [pts_len]) (by omega)
theorem pts_node (n : Nat) : ∀ x ∈ srtP (pts n), x.2 < n := by
  intro x hx
  have := (srtP_perm (pts n)).mem_iff.1 hx
  unfold pts at this
  simp only [List.mem_flatMap, List.mem_range, List.mem_map] at this
  obtain ⟨i, hi, k, hk, rfl⟩ := this
  exact hi
theorem byte3 {w : World} {B : Nat} (r : Nat) (hr : r < 256) (hB : B < w.heap.size) (h0 : w.cell? ⟨B, 0, none⟩ = some (.int .u8 255)) (h1 : w.cell? ⟨B, 1, none⟩ = some (.int .u8 255)) (h2 : w.cell? ⟨B, 2, none⟩ = some (.int .u8 (r : Nat))) : By w (some ⟨B, 0, none⟩) 3 [255, 255, r] := by
  refine ⟨rfl, by simp; omega, fun _ => ⟨B, 0, rfl, hB, fun j hj => ?_⟩⟩
  match j, hj with
  | 0, _ => exact h0
  | 1, _ => exact h1
  | 2, _ => exact h2
theorem place_ok (r : Nat) (hr : r < 16) (w : World) : Calls Tryz.prog 85 #[.int .i64 r] w fun e w' => e = .returned (.int .u32 (placeN r : Nat)) ∧ Apart [] w w' := by
  go_enter Tryz.func85, Tryz.ntmps85
  go_wp2_with fail
  refine (hash_ok (byte3 r (by omega) (by simp) (by simp) (by simp) (by simp)) (by omega)).mono ?_
  rintro e w1 ⟨rfl, rfl⟩
  dsimp only
  go_wp2_with fail
  go_ret
  exact ⟨rfl, (Apart.refl _ _).alloc _⟩
/-- a ring in memory -/
structure Rg (w : World) (R n m : Nat) : Prop where
  c0 : w.cell? ⟨R, 0, none⟩ = some (.int .i64 n)
  c1 : w.cell? ⟨R, 1, none⟩ = some (.int .i64 m)
  n1 : 1 ≤ n
  n8 : n ≤ 8
  m1 : 1 ≤ m
  m16 : m ≤ 16
theorem Rg.lt {w : World} {R n m : Nat} (h : Rg w R n m) : R < w.heap.size := block_lt_of_cell h.c0
theorem Rg.kept {w w' : World} {R n m : Nat} {X : List Nat} (h : Rg w R n m) (a : Apart X w w') (hx : R ∉ X) : Rg w' R n m := { h with c0 := (a.cell (p := ⟨R, 0, none⟩) h.lt hx).trans h.c0, c1 := (a.cell (p := ⟨R, 1, none⟩) h.lt hx).trans h.c1 }
theorem Rg.kept0 {w w' : World} {R n m : Nat} (h : Rg w R n m) (a : Apart [] w w') : Rg w' R n m := h.kept a (by simp)
theorem new_ok (n m : Nat) (h1 : 1 ≤ n) (h2 : n ≤ 8) (h3 : 1 ≤ m) (h4 : m ≤ 16) (w : World) : Calls Tryz.prog 20 #[.int .i64 n, .int .i64 m] w fun r w' => (r = .returned (.tuple #[.pointer (some ⟨w.heap.size, 0, none⟩), .int .i64 0]) ∧ Rg w' w.heap.size n m) ∧ Apart [] w w' := by
  have k1 : ¬ ((n : Int) < 1) := by omega
  have k2 : ¬ ((n : Int) > 8) := by omega
  have k3 : ¬ ((m : Int) < 1) := by omega
  have k4 : ¬ ((m : Int) > 16) := by omega
  go_enter Tryz.func20, Tryz.ntmps20
  go_wp2_with fail
  go_ret2
  exact ⟨⟨rfl, ⟨by simp, by simp, h1, h2, h3, h4⟩⟩, (Apart.refl _ _).alloc _⟩
structure OrdPost (w w' : World) (r : Ending) (n : Nat) (xs : List Nat) : Prop where
  ex : ∃ P cap, r = .returned (.tuple #[.slice (some ⟨P, 0, none⟩) n cap, .int .i64 0]) ∧ OwnI w w' (some ⟨P, 0, none⟩) n cap xs ∧ n ≤ cap ∧ cap ≤ 9223372036854775807
set_option maxHeartbeats 1000000 in
theorem order_ok {w : World} {R n m : Nat} (G : Rg w R n m) (r : Nat) (h : r < m) : Calls Tryz.prog 62 #[.pointer (some ⟨R, 0, none⟩), .int .i64 r] w fun e w' => OrdPost w w' e n (ord n r) := by
  have c0 := G.c0
  have c1 := G.c1
  have := G.n1; have := G.n8; have := G.m16
  have k1 : ¬ ((r : Int) < 0) := by omega
  have k2 : ¬ ((r : Int) ≥ (m : Int)) := by omega
  go_enter Tryz.func62, Tryz.ntmps62
  go_wp2_with fail
  refine (points_all n (by omega) (by omega) w).mono ?_
  rintro e w1 ⟨⟨p, cap, rfl, O⟩⟩
  dsimp only
  obtain ⟨P, rfl, hP, hPn, hle, hc63⟩ := own_some O (by omega)
  go_wp2_with fail
  refine (place_ok r (by omega) w1).mono ?_
  rintro e w2 ⟨rfl, a2⟩
  dsimp only
  replace O := O.kept a2
  go_wp2_with fail
  refine (meet_ok (placeN r) O (by show 4 * n = _; rw [(srtP_perm _).length_eq, pts_len]) (by omega) (by omega) (srtP_sorted _) (fun x hx => by have := pts_node n x hx; omega)).mono ?_
  rintro e w3 ⟨⟨q, c3, rfl, O3⟩⟩
  dsimp only
  have hl : (metN [] (rotN (srtP (pts n)) (placeN r))).length = n := ord_len n (by omega) r (by omega)
  rw [hl] at O3 ⊢
  obtain ⟨Q, rfl, hQ, hQn, hle3, hc3⟩ := own_some O3 (by omega)
  go_wp2_with fail
  go_ret2
  exact ⟨⟨Q, c3, rfl, ⟨O3.own, fun b hb => Nat.le_trans O.ap.size (O3.new b hb), O.ap.trans O3.ap⟩, hle3, hc3⟩⟩
end Go.Proofs.YtpddokbjjhbfgaaGreat.rg
namespace Go.Proofs.YtpddokbjjhbfgaaGreat.rg
open Go.ChangeShapes Go.WideShapes Go.ChangeAt Go.RowKit Go.Sort
set_option linter.unusedVariables false
set_option linter.unusedSimpArgs false
/-- ints, as they read -/
structure Ir (w : World) (p : Option Addr) (n : Nat) (zs : List Int) : Prop where
  len : zs.length = n
  at' : 0 < n → ∃ P o, p = some ⟨P, o, none⟩ ∧ P < w.heap.size ∧ ∀ i, i < n → w.cell? ⟨P, o + i, none⟩ = some (.int .i64 (zs.getD i 0))
theorem Ir.kept {w w' : World} {p : Option Addr} {n : Nat} {zs : List Int} {X : List Nat} (h : Ir w p n zs) (a : Apart X w w') (hX : ∀ P o, p = some ⟨P, o, none⟩ → P ∉ X) : Ir w' p n zs := by
  refine ⟨h.len, fun h0 => ?_⟩
  obtain ⟨P, o, rfl, hP, hc⟩ := h.at' h0
  exact ⟨P, o, rfl, Nat.lt_of_lt_of_le hP a.size, fun i hi => (a.cell hP (hX P o rfl)).trans (hc i hi)⟩
theorem Ir.kept0 {w w' : World} {p : Option Addr} {n : Nat} {zs : List Int} (h : Ir w p n zs) (a : Apart [] w w') : Ir w' p n zs := h.kept a (by simp)
def ints (xs : List Nat) : List Int := xs.map fun x : Nat => (x : Int)
theorem OwnR.cellI {w w' : World} {P n cap : Nat} {xs : List Nat} (h : OwnI w w' (some ⟨P, 0, none⟩) n cap xs) (j : Nat) (hj : j < n) : w'.cell? ⟨P, j, none⟩ = some (.int .i64 ((ints xs).getD j 0)) := by
  have hl := h.own.1
  simp [flI] at hl
  rw [h.own.cellAt j (by omega)]
  simp [flI, ints, List.getD_eq_getElem?_getD, List.getElem?_eq_getElem (show j < xs.length by omega)]
theorem OwnR.ir {w w' : World} {p : Option Addr} {n cap : Nat} {xs : List Nat} (h : OwnI w w' p n cap xs) : Ir w' p n (ints xs) := by
  have hl := h.own.1
  refine ⟨by simpa [flI, ints] using hl, fun h0 => ?_⟩
  obtain ⟨P, rfl, hP, _⟩ := own_some h h0
  exact ⟨P, 0, rfl, hP, fun i hi => by rw [Nat.zero_add]; exact h.cellI i hi⟩
end Go.Proofs.YtpddokbjjhbfgaaGreat.rg
