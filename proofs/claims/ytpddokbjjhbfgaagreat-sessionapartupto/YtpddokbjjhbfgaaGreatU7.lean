import Derived.Test.YtpddokbjjhbfgaaGreatChecked
import Derived.WalkKit
import Derived.ProofKit
import Derived.Maps.OwnSet
import Derived.Maps.RangeWalk
import Derived.DeepKeys4
import Derived.MapViews
import Derived.StringKeys
import Derived.Lib.TrailingZeros
import Derived.OpenShut
import Derived.Deep.QuietTactic
import Derived.BigQuiet
import Derived.BigRegion
import Derived.Laws.CopyOwn
import Derived.Laws.Bits64b
import Derived.Laws.MathBits
import Derived.Laws.ShiftsVarLaws
import Derived.WalkSmall
import Derived.Laws.ResultCell
import Derived.Lib.BitFns
import Derived.Laws.StructEq
import Derived.Deep.RegionHeld
import Derived.ArgAppend
import Derived.Deep.RegionLaw
import Derived.Deep.DeepAppendRoom
import Derived.Sort.WalkA
import Derived.Laws.Strings
import Derived.Deep.CutBlock
import Derived.Great.BuildSlice
import Derived.Laws.BytesString
import Derived.Laws.AppendOwnNone
import Derived.Lib.Overlaps
import Derived.Lib.AppendZerosOnto
import Derived.Laws.NewBlocks
import Derived.Laws.Externs
import Derived.Laws.IdiomCopy
import Derived.RangeFuncNested
import Derived.RangeFuncBound
import Derived.RangeFuncCalls
import Derived.RangeFuncLeaves
import Derived.Shelf.Abstract
import Derived.Shelf.RegionOpen
import Derived.OwnWalkIn
import Derived.TacticsInMore
import Derived.LoopNIn
import Derived.LoopIn
import Derived.Deep.CutRange
import Derived.Deep.OwnRows
import Derived.Lib.Walk
import Derived.Lib.SliceRun
import GoSem.Claim
import GoSem.ClaimJoined
import GoSem.ClaimMapViews
import Derived.JoinedTies
import Derived.KernelRfl
import Derived.Lib.LaidTab
import Derived.JoinedCond
import Derived.ShutString
import Derived.ChangeOld
import Derived.Below
import Derived.Carry
import Derived.ChangeSlices
import Derived.Deep.Slices
import Derived.Deep.DeepHandedRow
import Derived.RowKit
import Derived.ChangeShapes
import Derived.SizedLaws
import Derived.ChangeMaps5
import Derived.OrdersHeld
import Derived.Lib.AppendStr
import Derived.Lib.ConvBytes
import Derived.Deep.RegionHeld3
import Derived.Deep.MidRow
import Derived.Laws.BitsAllLaws
import Derived.Sort.Grow
import Derived.Shelf.SlSortCmp.WholeK
import Derived.Shelf.Lay
import Derived.Ground.SlsfProg
import Derived.Sort.LotA
import Derived.Sort.MapsRangeIn
import Derived.RangeFuncSeq
import Derived.RangeFuncKeeps
import Derived.Maps.AppendAt
import Derived.OwnWalk
import Derived.Test.YtpddokbjjhbfgaaGreatRows
namespace Go.Proofs.YtpddokbjjhbfgaaGreat.ds
open Go.ChangeShapes Go.WideShapes Go.ChangeAt Go.RowKit
open Go.Maps (Keyed)
set_option linter.unusedVariables false
set_option linter.unusedSimpArgs false
set_option maxRecDepth 100000

abbrev Dt := Int × Int
def In64 (z : Int) : Prop := -9223372036854775808 ≤ z ∧ z ≤ 9223372036854775807
def Dok (d : Dt) : Prop := In64 d.1 ∧ In64 d.2
def dV (d : Dt) : Value := .agg #[.int .i64 d.1, .int .i64 d.2]
noncomputable def kD (d : Dt) : Lit := .string (keyBytes [.int .i64 d.1, .int .i64 d.2])
theorem laidZ : laidOutB Tryz.prog = true := by kernel_rfl
theorem row34 : (34 : TypeId) < Tryz.prog.types.size := of_decide_eq_true (by kernel_rfl)
theorem wide34 : (match Tryz.prog.underlying 34 with | some (.array _ _) | some (.struct _) => true | _ => false) = true := by rw [Tryz.underlying34]
theorem lawD : Keyed Tryz.prog 34 := Keyed.of_law (deep_law_laid laidZ (m := 2) (by omega) row34 (by kernel_rfl) wide34)
theorem lawK : Keyed Tryz.prog 9 := Go.Maps.string_keyed Tryz.underlying9
theorem size_types : ∃ m, Tryz.prog.types.size = m + 1 := Nat.exists_eq_succ_of_ne_zero (fun h => by have := row34; rw [h] at this; exact absurd this (Nat.not_lt_zero _))
theorem keyType34 : Tryz.prog.keyType 34 = true := by kernel_rfl
theorem cells34 : Tryz.prog.cellsOf 34 = 2 := by kernel_rfl
theorem cells3 : Tryz.prog.cellsOf 3 = 1 := by kernel_rfl
theorem wf64 {z : Int} (h : In64 z) : (Lit.int .i64 z).wf = true := by
  obtain ⟨h1, h2⟩ := h
  exact WalkArith.wf_i64 (by omega)
theorem keyD {d : Dt} (h : Dok d) : keyOf Tryz.prog 34 (dV d) = some (kD d) := by
  obtain ⟨m, hm⟩ := size_types
  unfold keyOf dV
  simp only [Tryz.underlying34]
  rw [if_pos (by simp [keyType34, Value.formed, Tryz.underlying34, cells34]), hm]
  unfold Program.keyLits
  simp only [Tryz.underlying34, Value.cells]
  rw [if_pos (by rw [cells34]; exact ⟨rfl, by kernel_rfl⟩)]
  simp [cells3, Program.keyLits, Tryz.underlying3, wf64 h.1, wf64 h.2, kD]
theorem in64 {z : Int} (h : (Lit.int .i64 z).wf = true) : In64 z := by
  simp [Lit.wf, IntKind.min, IntKind.max, IntKind.signed, IntKind.bits] at h
  unfold In64
  omega
theorem lit3 {m : Nat} {v : Value} {l : List Lit} (h : Tryz.prog.keyLits (m + 1) 3 [v] = some l) : ∃ n, v = .int .i64 n ∧ In64 n ∧ l = [.int .i64 n] := by
  unfold Program.keyLits at h
  simp only [Tryz.underlying3] at h
  cases v <;> simp at h
  obtain ⟨⟨rfl, hw⟩, rfl⟩ := h
  exact ⟨_, rfl, in64 hw, rfl⟩
theorem keyD_inv {v : Value} {l : Lit} (h : keyOf Tryz.prog 34 v = some l) : ∃ d : Dt, v = dV d ∧ Dok d ∧ l = kD d := by
  obtain ⟨xs, L, rfl, hL, rfl⟩ := keyOf_top wide34 h
  obtain ⟨m, hm⟩ := size_types
  rw [hm] at hL
  unfold Program.keyLits at hL
  simp only [Tryz.underlying34] at hL
  split at hL
  · rename_i hc
    rw [cells34] at hc
    match hx : xs.toList, hc.1 with
    | [a, b], _ =>
      rw [hx] at hL
      simp [cells3, Option.bind_eq_some_iff] at hL
      obtain ⟨l1, h1, l2, ⟨l3, h2, rfl⟩, rfl⟩ := hL
      obtain ⟨n, rfl, hn, rfl⟩ := lit3 h1
      obtain ⟨c, rfl, hc', rfl⟩ := lit3 h2
      refine ⟨(n, c), ?_, ⟨hn, hc'⟩, rfl⟩
      unfold dV
      exact congrArg Value.agg (Array.toList_inj.1 hx)
  · cases hL
theorem kD_inj {a b : Dt} (ha : Dok a) (hb : Dok b) (h : kD a = kD b) : a = b := by
  have := lawD.inj (keyD ha) (by rw [h]; exact keyD hb)
  unfold dV at this
  simp at this
  exact Prod.ext this.1 this.2
theorem kD_key (d : Dt) : WideAt.IsKeyLit (kD d) := by unfold kD; trivial
/-- block b is a map that is a set of these dots, of at most N entries -/
structure SetAt (w : World) (b : Nat) (l : List Dt) (N : Nat) : Prop where
  ok : ∀ d ∈ l, Dok d
  own : ∃ D : DataW Unit, w.ownsMap Tryz.prog 34 unitElem b N D ∧ ∀ d, Dok d → (Maps.has D (kD d) = true ↔ d ∈ l)
theorem SetAt.made (w : World) : SetAt (w.alloc (.map #[] 0)) w.heap.size [] 0 :=
  ⟨by simp, .map [], World.ownsMap_made _ _ _ _, fun d _ => by simp [Maps.has]⟩
theorem SetAt.kept {w w' : World} {b : Nat} {l : List Dt} {N : Nat} (h : SetAt w b l N) (hb : w'.heap[b]? = w.heap[b]?) : SetAt w' b l N := by
  obtain ⟨ok, D, ⟨es, clock, h1, h2, h3, h4⟩, h5⟩ := h
  exact ⟨ok, D, ⟨es, clock, hb.trans h1, h2, h3, h4⟩, h5⟩
theorem SetAt.lt {w : World} {b : Nat} {l : List Dt} {N : Nat} (h : SetAt w b l N) : b < w.heap.size := by
  obtain ⟨ok, D, h1, h5⟩ := h
  exact h1.lt
theorem SetAt.mono {w : World} {b : Nat} {l : List Dt} {N N' : Nat} (h : SetAt w b l N) (hn : N ≤ N') : SetAt w b l N' := by
  obtain ⟨ok, D, h1, h5⟩ := h
  exact ⟨ok, D, h1.mono hn, h5⟩
theorem SetAt.perm {w : World} {b : Nat} {l l' : List Dt} {N : Nat} (h : SetAt w b l N) (hp : ∀ d, d ∈ l' ↔ d ∈ l) : SetAt w b l' N := by
  obtain ⟨ok, D, h1, h5⟩ := h
  exact ⟨fun d hd => ok d ((hp d).1 hd), D, h1, fun d hd => (h5 d hd).trans (hp d).symm⟩
theorem SetAt.put {w : World} {b : Nat} {l : List Dt} {N : Nat} (h : SetAt w b l N) {d : Dt} (hd : Dok d) (hN : N ≤ 4000000) :
    ∃ w', (Instr.mapUpdate 83 (.map (some b)) (dV d) (.agg #[])).run Tryz.prog w = .ok () w' ∧ SetAt w' b (d :: l) (N + 1) ∧ w.grownBy w' (some b) := by
  obtain ⟨ok, D, h1, h5⟩ := h
  obtain ⟨w', hrun, ho, hg⟩ := h1.update lawD Tryz.underlying83 (by unfold maxLen; omega) (keyD hd) unitElem_mk
  refine ⟨w', hrun, ⟨fun x hx => ?_, _, ho, fun x hx => ?_⟩, hg⟩
  · rcases List.mem_cons.1 hx with rfl | hx
    · exact hd
    · exact ok x hx
  · by_cases e : x = d
    · subst e
      rw [Maps.has_put_same h1.isMap (kD_key x)]
      simp
    · rw [Maps.has_put_other (fun h => e (kD_inj hx hd h)), h5 x hx]
      simp [e]
/-- the set b is gone through by the iterator r; rem: what is still to come -/
structure RgD (w : World) (b r : Nat) (l : List Dt) (N : Nat) (rem : List Dt) (cnt : Nat) : Prop where
  ok : ∀ d ∈ l, Dok d
  ok' : ∀ d ∈ rem, Dok d
  rg : ∃ (D : DataW Unit) (left : Lit → Bool), w.ranges Tryz.prog 34 unitElem b r N D left cnt ∧ (∀ d, Dok d → (Maps.has D (kD d) = true ↔ d ∈ l)) ∧ (∀ d, Dok d → (left (kD d) = true ↔ d ∈ rem))
theorem RgD.set {w : World} {b r : Nat} {l rem : List Dt} {N cnt : Nat} (h : RgD w b r l N rem cnt) : SetAt w b l N := by
  obtain ⟨ok, ok', D, left, h1, h2, h3⟩ := h
  exact ⟨ok, D, h1.owns, h2⟩
theorem RgD.left_eq {w : World} {b r : Nat} {l rem : List Dt} {N cnt : Nat} (h : RgD w b r l N rem cnt) : w.rangeLeft b r = cnt := by
  obtain ⟨ok, ok', D, left, h1, h2, h3⟩ := h
  exact h1.left_eq
theorem RgD.lt {w : World} {b r : Nat} {l rem : List Dt} {N cnt : Nat} (h : RgD w b r l N rem cnt) : r < w.heap.size := by
  obtain ⟨ok, ok', D, left, h1, h2, h3⟩ := h
  exact h1.lt
theorem RgD.cnt_le {w : World} {b r : Nat} {l rem : List Dt} {N cnt : Nat} (h : RgD w b r l N rem cnt) : cnt ≤ N := by
  obtain ⟨ok, ok', D, left, ⟨es, clock, since, seen, c0, e1, e2, e3, e4, e5, e6, e7, _⟩, h2, h3⟩ := h
  rw [← e7]
  exact Nat.le_trans (by unfold leftOf; exact Array.size_filter_le) e3
theorem RgD.kept {w w' : World} {b r : Nat} {l rem : List Dt} {N cnt : Nat} (h : RgD w b r l N rem cnt) (hb : w'.heap[b]? = w.heap[b]?) (hr : w'.heap[r]? = w.heap[r]?) : RgD w' b r l N rem cnt := by
  obtain ⟨ok, ok', D, left, ⟨es, clock, since, seen, c0, e1, e2, e3, e4, e5, e6⟩, h2, h3⟩ := h
  exact ⟨ok, ok', D, left, ⟨es, clock, since, seen, c0, hb.trans e1, e2, e3, e4, hr.trans e5, e6⟩, h2, h3⟩
section
variable (w : World) {ops : Array Oper} {rest : List Oper} {o : Oper} {a : Act} {Q : Exit → Act → World → Prop}
theorem wpD_range (hg : o.guard = none) (m : Operand) (hop : o.op = Op.range 83 m) {b N : Nat} {l : List Dt} (hm : a.eval m = .map (some b)) (h : SetAt w b l N)
    (hK : ∀ w' cnt, RgD w' b w.heap.size l N l cnt → w.grownBy w' none → w'.heap.size = w.heap.size + 1 → wpList Tryz.prog ops Q rest (a.put o.dst (.pointer (some ⟨w.heap.size, 0, none⟩))) w') :
    wpList Tryz.prog ops Q (o :: rest) a w := by
  obtain ⟨ok, D, h1, h5⟩ := h
  exact wpList_range_own w hg m 83 hop 34 99 lawD Tryz.underlying83 unitElem b N D hm h1 (fun w' r g s => hK w' _ ⟨ok, ok, D, _, r, h5, h5⟩ g s)
theorem wpD_next (hg : o.guard = none) (it : Operand) (hop : o.op = Op.next it false) {b r N cnt : Nat} {l rem : List Dt} (hit : a.eval it = .pointer (some ⟨r, 0, none⟩)) (h : RgD w b r l N rem cnt)
    (hDone : rem = [] → wpList Tryz.prog ops Q rest (a.put o.dst (.tuple #[.bool false])) w)
    (hMore : ∀ (d : Dt) (w' : World) (cnt' : Nat), Dok d → d ∈ rem → RgD w' b r l N (rem.filter (fun x => !decide (x = d))) cnt' → cnt' < cnt → w.grownBy w' (some r) → w'.heap.size = w.heap.size →
      (Instr.entry (.pointer (some ⟨r, 0, none⟩))).run Tryz.prog w' = .ok (.tuple #[dV d, .agg #[]]) w' → wpList Tryz.prog ops Q rest (a.put o.dst (.tuple #[.bool true, dV d, .agg #[]])) w') :
    wpList Tryz.prog ops Q (o :: rest) a w := by
  obtain ⟨ok, ok', D, left, h1, h2, h3⟩ := h
  refine wpList_next_ranges w hg it hop 34 lawD unitElem dV (fun _ : Unit => Value.agg #[]) (fun key kl hk => ?_) (fun v y hv => ⟨(), (unitElem_inv hv).1⟩) b r N D left cnt hit h1 (fun h0 hl => hDone ?_) (fun d _ kl y w' cnt' hk hlk hv hat hrg hlt hgr hsz hen => ?_)
  · obtain ⟨d, e, _⟩ := keyD_inv hk
    exact ⟨d, e⟩
  · apply List.eq_nil_iff_forall_not_mem.2
    intro d hd
    have := (h3 d (ok' d hd)).2 hd
    rw [hl] at this
    cases this
  · obtain ⟨d', e, hdo, hkl⟩ := keyD_inv hk
    have ed : d = d' := by unfold dV at e; simp at e; exact Prod.ext e.1 e.2
    subst ed
    subst hkl
    refine hMore d w' cnt' hdo ((h3 d hdo).1 hlk) ⟨ok, fun x hx => ok' x (List.mem_filter.1 hx).1, D, _, hrg, h2, fun x hx => ?_⟩ hlt hgr hsz hen
    have hsk : (kD x).sameKey (kD d) = decide (x = d) := by
      by_cases e : x = d
      · subst e; simp [kD, Lit.sameKey]
      · rw [Maps.sameKey_ne (fun h => e (kD_inj hx hdo h))]; simp [e]
    simp [hsk, List.mem_filter, h3 x hx]
end
end Go.Proofs.YtpddokbjjhbfgaaGreat.ds
namespace Go.Proofs.YtpddokbjjhbfgaaGreat.ds
open Go.ChangeShapes Go.WideShapes Go.ChangeAt Go.RowKit
open Go.Maps (Keyed)
set_option linter.unusedVariables false
set_option linter.unusedSimpArgs false
set_option maxRecDepth 100000

/-- an element of a map reads as itself -/
def heldE (v : Value) : Option (DataW Value × List MemPlace) := some (.held v, [])
/-- what was seen of a key, as it lies in the map -/
def sgV : Option (Nat × Int) → Value
  | some (h, c) => .agg #[.map (some h), .int .i64 c]
  | none => .agg #[.map none, .int .i64 0]
noncomputable def kS (s : ByteArray) : Lit := .string s.data.toList
theorem keyS {s : ByteArray} (h : s.size ≤ maxLen) : keyOf Tryz.prog 9 (.string s) = some (kS s) := WideMaps.keyOf_string_mk Tryz.underlying9 h
theorem kS_inj {a b : ByteArray} (ha : a.size ≤ maxLen) (hb : b.size ≤ maxLen) (h : kS a = kS b) : a = b := by
  have := lawK.inj (keyS ha) (by rw [h]; exact keyS hb)
  simpa using this
theorem kS_key (s : ByteArray) : WideAt.IsKeyLit (kS s) := by unfold kS; trivial
/-- block M is a map from keys to what was seen of them -/
structure MapK (w : World) (M : Nat) (g : ByteArray → Option (Nat × Int)) (N : Nat) : Prop where
  own : ∃ D : DataW Value, w.ownsMap Tryz.prog 9 heldE M N D ∧ ∀ s : ByteArray, s.size ≤ maxLen → D.atKey (kS s) (.held (sgV none)) = .held (sgV (g s))
theorem MapK.made (w : World) : MapK (w.alloc (.map #[] 0)) w.heap.size (fun _ => none) 0 := ⟨.map [], World.ownsMap_made _ _ _ _, fun s _ => rfl⟩
theorem MapK.kept {w w' : World} {M : Nat} {g : ByteArray → Option (Nat × Int)} {N : Nat} (h : MapK w M g N) (hb : w'.heap[M]? = w.heap[M]?) : MapK w' M g N := by
  obtain ⟨D, ⟨es, clock, h1, h2, h3, h4⟩, h5⟩ := h
  exact ⟨D, ⟨es, clock, hb.trans h1, h2, h3, h4⟩, h5⟩
theorem MapK.lt {w : World} {M : Nat} {g : ByteArray → Option (Nat × Int)} {N : Nat} (h : MapK w M g N) : M < w.heap.size := by
  obtain ⟨D, h1, h5⟩ := h
  exact h1.lt
theorem zero85 (w : World) : (zeroValue 85).run Tryz.prog w = .ok (sgV none) w := by kernel_rfl
theorem MapK.look {w : World} {M : Nat} {g : ByteArray → Option (Nat × Int)} {N : Nat} (h : MapK w M g N) {s : ByteArray} (hs : s.size ≤ maxLen) :
    (Instr.lookup 79 (.map (some M)) (.string s) false).run Tryz.prog w = .ok (sgV (g s)) w := by
  obtain ⟨D, h1, h5⟩ := h
  obtain ⟨v, ps, hrun, hv⟩ := h1.lookup lawK Tryz.underlying79 (zero85 w) (zd := .held (sgV none)) (zp := []) rfl (keyS hs)
  rw [h5 s hs] at hv
  simp [heldE] at hv
  rw [hrun, hv.1]
open Classical in
noncomputable def updK (g : ByteArray → Option (Nat × Int)) (s : ByteArray) (x : Nat × Int) : ByteArray → Option (Nat × Int) := fun t => if t = s then some x else g t
theorem MapK.put {w : World} {M : Nat} {g : ByteArray → Option (Nat × Int)} {N : Nat} (h : MapK w M g N) {s : ByteArray} (hs : s.size ≤ maxLen) (hN : N ≤ 4000000) (x : Nat × Int) :
    ∃ w', (Instr.mapUpdate 79 (.map (some M)) (.string s) (sgV (some x))).run Tryz.prog w = .ok () w' ∧ MapK w' M (updK g s x) (N + 1) ∧ w.grownBy w' (some M) := by
  obtain ⟨D, h1, h5⟩ := h
  obtain ⟨w', hrun, ho, hg⟩ := h1.update lawK Tryz.underlying79 (by unfold maxLen; omega) (keyS hs) (val := sgV (some x)) (d := .held (sgV (some x))) (ps := []) rfl
  refine ⟨w', hrun, ⟨_, ho, fun t ht => ?_⟩, hg⟩
  unfold updK
  by_cases e : t = s
  · subst e
    rw [if_pos rfl, Maps.atKey_put_same h1.isMap (kS_key t)]
  · rw [if_neg e, Maps.atKey_put_other (fun h => e (kS_inj ht hs h)), h5 t ht]
end Go.Proofs.YtpddokbjjhbfgaaGreat.ds
