import Derived.Test.YtpddokbjjhbfgaaGreatChecked
import Derived.WalkKit
import Derived.ProofKit
import Derived.Maps.OwnSet
import Derived.Maps.RangeWalk
import Derived.DeepKeys4
import Derived.MapViews
import Derived.StringKeys
import Derived.Lib.TrailingZeros
import Derived.OpenShut
import Derived.Deep.QuietTactic
import Derived.BigQuiet
import Derived.BigRegion
import Derived.Laws.CopyOwn
import Derived.Laws.Bits64b
import Derived.Laws.MathBits
import Derived.Laws.ShiftsVarLaws
import Derived.WalkSmall
import Derived.Laws.ResultCell
import Derived.Lib.BitFns
import Derived.Laws.StructEq
import Derived.Deep.RegionHeld
import Derived.ArgAppend
import Derived.Deep.RegionLaw
import Derived.Deep.DeepAppendRoom
import Derived.Sort.WalkA
import Derived.Laws.Strings
import Derived.Deep.CutBlock
import Derived.Great.BuildSlice
import Derived.Laws.BytesString
import Derived.Laws.AppendOwnNone
import Derived.Lib.Overlaps
import Derived.Lib.AppendZerosOnto
import Derived.Laws.NewBlocks
import Derived.Laws.Externs
import Derived.Laws.IdiomCopy
import Derived.RangeFuncNested
import Derived.RangeFuncBound
import Derived.RangeFuncCalls
import Derived.RangeFuncLeaves
import Derived.Shelf.Abstract
import Derived.Shelf.RegionOpen
import Derived.OwnWalkIn
import Derived.TacticsInMore
import Derived.LoopNIn
import Derived.LoopIn
import Derived.Deep.CutRange
import Derived.Deep.OwnRows
import Derived.Lib.Walk
import Derived.Lib.SliceRun
import GoSem.Claim
import GoSem.ClaimJoined
import GoSem.ClaimMapViews
import Derived.JoinedTies
import Derived.KernelRfl
import Derived.Lib.LaidTab
import Derived.JoinedCond
import Derived.ShutString
import Derived.ChangeOld
import Derived.Below
import Derived.Carry
import Derived.ChangeSlices
import Derived.Deep.Slices
import Derived.Deep.DeepHandedRow
import Derived.RowKit
import Derived.ChangeShapes
import Derived.SizedLaws
import Derived.ChangeMaps5
import Derived.OrdersHeld
import Derived.Lib.AppendStr
import Derived.Lib.ConvBytes
import Derived.Deep.RegionHeld3
import Derived.Deep.MidRow
import Derived.Laws.BitsAllLaws
import Derived.Sort.Grow
import Derived.Shelf.SlSortCmp.WholeK
import Derived.Shelf.Lay
import Derived.Ground.SlsfProg
import Derived.Sort.LotA
import Derived.Sort.MapsRangeIn
import Derived.RangeFuncSeq
import Derived.RangeFuncKeeps
import Derived.Maps.AppendAt
import Derived.OwnWalk
import Derived.Test.YtpddokbjjhbfgaaGreatRows
import Derived.Test.YtpddokbjjhbfgaaGreatU6
import Derived.Test.YtpddokbjjhbfgaaGreatU11
namespace Go.Proofs.YtpddokbjjhbfgaaGreat.ds
open Go.ChangeShapes Go.WideShapes Go.ChangeAt Go.RowKit Go.Deep Go.Sort
set_option linter.unusedVariables false
set_option linter.unusedSimpArgs false
set_option maxRecDepth 100000
theorem own : ownKnob Tryz.prog.godebug = none := by kernel_rfl
end Go.Proofs.YtpddokbjjhbfgaaGreat.ds
namespace Go.Proofs.YtpddokbjjhbfgaaGreat.ds
open Go.ChangeShapes Go.WideShapes Go.ChangeAt Go.RowKit Go.Sort
set_option linter.unusedVariables false
set_option linter.unusedSimpArgs false
theorem hid {p : Prop} (h : p) : Hid p := h
theorem keepB {R D : Nat} {a b : World} {o : Obj} (h : Apart [R] a b) (hD : a.heap[D]? = some o) (hn : D ≠ R) : b.heap[D]? = some o := (h.block _ (lt_of_heap hD) (by simp; exact hn)).trans hD
theorem keep0 {D : Nat} {a b : World} {o : Obj} (h : Apart [] a b) (hD : a.heap[D]? = some o) : b.heap[D]? = some o := (h.block _ (lt_of_heap hD) (by simp)).trans hD
theorem row2v {w : World} {g : Nat} {t : TypeId} {a b : Value} (h : w.heap[g]? = some (.cells #[a, b] t (0, 0))) : w.cell? ⟨g, 0, none⟩ = some a ∧ w.cell? ⟨g, 1, none⟩ = some b := by
  refine ⟨?_, ?_⟩ <;> (rw [cell_of_row _ _ _ _ _ _ h]; rfl)
theorem row3v {w : World} {g : Nat} {t : TypeId} {a b c : Value} (h : w.heap[g]? = some (.cells #[a, b, c] t (0, 0))) : w.cell? ⟨g, 0, none⟩ = some a ∧ w.cell? ⟨g, 1, none⟩ = some b ∧ w.cell? ⟨g, 2, none⟩ = some c := by
  refine ⟨?_, ?_, ?_⟩ <;> (rw [cell_of_row _ _ _ _ _ _ h]; rfl)
/-- what is left of a region -/
def rest2 (n : Nat) (T : List Oper) : List Oper := T
theorem wpList_cutat {P : Program} {ops : Array Oper} {Q : Exit → Act → World → Prop} {a : Act} {w : World} {l : List Oper} (n : Nat) (J : Act → World → Prop) (hb : ∀ T, (∀ a' w', J a' w' → wpList P ops Q (rest2 n T) a' w') → wpList P ops Q (l.take n ++ rest2 n T) a w) (hn : ∀ a' w', J a' w' → wpList P ops Q (l.drop n) a' w') : wpList P ops Q l a w := by
  have h1 : wpList P ops Q (l.take n ++ l.drop n) a w := hb (l.drop n) hn
  rwa [List.take_append_drop] at h1
/-- cells written one behind the other -/
def spl (cs : Array Value) : Nat → List Value → Array Value
  | _, [] => cs
  | o, v :: r => spl (cs.setIfInBounds o v) (o + 1) r
theorem heap_setCells_same {g : Nat} {t : TypeId} : ∀ (vs : List Value) (o : Nat) (w : World) (cs : Array Value), w.heap[g]? = some (.cells cs t (0, 0)) → (w.setCells g o vs).heap[g]? = some (.cells (spl cs o vs) t (0, 0))
  | [], o, w, cs, h => h
  | v :: r, o, w, cs, h => heap_setCells_same r (o + 1) _ _ (heap_setCell_same w g o cs t v h)
theorem spl_list : ∀ (vs : List Value) (o : Nat) (l : List Value), o + vs.length ≤ l.length → spl l.toArray o vs = (l.take o ++ vs ++ l.drop (o + vs.length)).toArray
  | [], o, l, h => by simp [spl]
  | v :: r, o, l, h => by
    unfold spl
    simp only [List.length_cons] at h
    have e : l.toArray.setIfInBounds o v = (l.set o v).toArray := by simp
    rw [e, spl_list r (o + 1) (l.set o v) (by simp; omega)]
    congr 1
    rw [List.take_add_one, List.getElem?_set_self (by omega), List.take_set_of_le (by omega), List.drop_set_of_lt (by omega)]
    simp only [Option.toList_some, List.append_assoc, List.singleton_append, List.length_cons, List.cons_append, List.nil_append]
    rw [show o + 1 + r.length = o + (r.length + 1) from by omega]
theorem spl_all {vs : List Value} {cs : Array Value} (h : vs.length = cs.size) : spl cs 0 vs = vs.toArray := by
  have := spl_list vs 0 cs.toList (by simp; omega)
  simp at this
  rw [this, List.drop_eq_nil_of_le (by simp; omega), List.append_nil]
theorem results_tmp_row {P : Program} {fn : Func} {p u : Tmp} {ty : TypeId} (h : fn.results = #[.tmp u, .cell p ty]) (tmps : Array Value) (w : World) (g : Nat) (t : TypeId) (cs : Array Value) (fr : Nat × Nat) (d : TypeDesc)
    (hp : tmps.getD p undef = .pointer (some ⟨g, 0, none⟩)) (hg : w.heap[g]? = some (.cells cs t fr))
    (hu : P.underlying ty = some d) (hd : (match d with | .struct _ | .array _ _ => true | _ => false) = true) (hi : (P.info? ty).map (·.size) = some cs.size) :
    (results fn tmps).run P w = .ok (.tuple #[tmps.getD u undef, .agg cs]) w := by
  have hp' : tmps[p]?.getD undef = .pointer (some ⟨g, 0, none⟩) := by simpa using hp
  simp [results, h, hp', asAddr, run_loadVar_row w g t ty cs fr d hg hu hd hi, Sem.run_bind, Result.andThen]
theorem bit1 (t k : Nat) (ht : t < 2 ^ 64) : (bits BinOp.and IntKind.u64 ((t : Int) / 2 ^ k) 1 == 1) = t.testBit k := by
  have e0 : ((t : Int) / 2 ^ k) = ((t >>> k : Nat) : Int) := by
    rw [Nat.shiftRight_eq_div_pow]
    generalize hz : 2 ^ k = z
    have hz2 : (2 : Int) ^ k = (z : Int) := by rw [← hz]; simp
    rw [hz2]; rfl
  rw [e0]
  have e : bits BinOp.and IntKind.u64 ((t >>> k : Nat) : Int) 1 = _ := and_nat (t >>> k) 1 (shr_lt ht) (by omega)
  rw [e, Nat.testBit, Nat.and_comm 1]
  have hy : t >>> k &&& 1 ≤ 1 := Nat.and_le_right
  generalize t >>> k &&& 1 = y at *
  by_cases h : y = 0
  · subst h; rfl
  · have : y = 1 := by omega
    subst this; rfl
/-- only blocks of these types have changed -/
def TK (ts : List Nat) (W W' : World) : Prop := ∃ Z, Apart Z W W' ∧ ∀ k ∈ Z, ∃ cur t, t ∈ ts ∧ W.heap[k]? = some (.cells cur t (0, 0))
theorem TK.trans {ts : List Nat} {W W1 W2 : World} (h : TK ts W W1) (k : TK ts W1 W2) : TK ts W W2 := by
  obtain ⟨Z, a, hz⟩ := h
  obtain ⟨Y, b, hy⟩ := k
  refine ⟨Z ++ Y.filter (fun y => y < W.heap.size), (a.mono (fun x hx => List.mem_append_left _ hx)).trans' b (fun y hyy => ?_), fun k hk => ?_⟩
  · by_cases hs : y < W.heap.size
    · left; simp [hyy, hs]
    · right; omega
  · rcases List.mem_append.1 hk with hk | hk
    · exact hz k hk
    · simp at hk
      by_cases hkz : k ∈ Z
      · exact hz k hkz
      · obtain ⟨cur, t, ht, hh⟩ := hy k hk.1
        exact ⟨cur, t, ht, (a.block k hk.2 hkz).symm.trans hh⟩
theorem TK.block {ts : List Nat} {W W' : World} (h : TK ts W W') {Y : Nat} {cur : Array Value} {t : TypeId} (hY : W.heap[Y]? = some (.cells cur t (0, 0))) (ht : t ∉ ts) : W'.heap[Y]? = some (.cells cur t (0, 0)) := by
  obtain ⟨Z, a, hz⟩ := h
  refine (a.block Y (lt_of_heap hY) (fun hm => ?_)).trans hY
  obtain ⟨cu, t', ht', hh⟩ := hz Y hm
  rw [hY] at hh
  simp at hh
  exact ht (hh.2 ▸ ht')
theorem TK.nw {ts : List Nat} {w W W' : World} (h : TK ts W W') {e size : Nat} {s : Sl} {us : List Value} (hn : Nw w W e size s us) (ap : Apart [] w W') (ht : e ∉ ts) : Nw w W' e size s us := by
  obtain ⟨Z, a, hz⟩ := h
  refine hn.keepT a ap (fun k hk cur hh => ?_)
  obtain ⟨cu, t', ht', hh'⟩ := hz k hk
  rw [hh] at hh'
  simp at hh'
  exact ht (hh'.2 ▸ ht')
theorem TK.size {ts : List Nat} {W W' : World} (h : TK ts W W') : W.heap.size ≤ W'.heap.size := by obtain ⟨Z, a, _⟩ := h; exact a.size
theorem TK.own {ts : List Nat} {w W W' : World} {e size : Nat} {s : Sl} {us : List Value} (hn : Nw w W e size s us) (a : Apart s.v.ownBlock.toList W W') (he : e ∈ ts) : TK ts W W' :=
  ⟨_, a, fun k hk => by obtain ⟨cur, hc⟩ := own_typ hn.own (k := k) (by simpa using hk); exact ⟨cur, e, he, hc⟩⟩
def slz : Sl := ⟨none, 0, 0⟩
/-- a row of one's own: its block -/
theorem Nw.blk {w W : World} {e size : Nat} {s : Sl} {us : List Value} (h : Nw w W e size s us) (h0 : 0 < s.n) : ∃ g cur, s.p = some ⟨g, 0, none⟩ ∧ s.v.ownBlock = some g ∧ W.heap[g]? = some (.cells cur e (0, 0)) ∧ s.n ≤ s.c ∧ cur.size = s.c * size ∧ cur.toList.take (s.n * size) = us ∧ w.heap.size ≤ g ∧ s.c ≤ maxLen := by
  obtain ⟨hl, ⟨hv, hz⟩ | ⟨gB, cap, cur, hv, hb, hr, hle, hm, hs, ht⟩⟩ := h.own
  · omega
  have hv' := hv
  unfold Sl.v at hv'
  simp at hv'
  obtain ⟨hp, hc⟩ := hv'
  have ho : s.v.ownBlock = some gB := by rw [hv]; rfl
  exact ⟨gB, cur, hp, ho, hr, by omega, by rw [hs, hc], ht, h.new gB ho, by omega⟩
/-- the mark behind a list of spans -/
def mkS : S := ⟨-71, -72, 0⟩
theorem crow {w : World} {g : Nat} {t : TypeId} {cs : Array Value} (h : w.heap[g]? = some (.cells cs t (0, 0))) (i : Nat) (v : Value) (hv : cs[i]? = some v) : w.cell? ⟨g, i, none⟩ = some v := by
  rw [cell_of_row _ _ _ _ _ _ h]; exact hv
theorem step_store_mid {w : World} {ops : Array Oper} {o : Oper} {a : Act} {K : Act → World → Prop} {Q : Exit → Act → World → Prop} {E : Prop} (hgd : o.guard = none) (ty : TypeId) (x y : Operand) (ho : o.op = .store ty x y)
    (b f : Nat) (cells : Array Value) (hx : a.eval x = .pointer (some ⟨b, f, none⟩)) (hy : a.eval y = .agg cells) (ht : w.there b f cells.size) (hi : (Tryz.prog.info? ty).map (·.size) = some cells.size) (h1 : cells.all (·.oneCell') = true)
    (h : K (a.put o.dst undef) (w.setCells b f cells.toList)) : if Region.wanted o (yielded ops a.tmps) = true then Oper.wp Tryz.prog o a w K Q else E := by
  have hw : Region.wanted o (yielded ops a.tmps) = true := by simp [Region.wanted, hgd]
  rw [if_pos hw]
  exact wp_store_mid ty x y ho b f cells hx hy ht hi h1 h
theorem Nw.none0 {w W : World} (a : Apart [] w W) (e size : Nat) : Nw w W e size slz [] := ⟨World.ownsRow_nil _ _ _ _, by simp [Sl.v, slz, Value.ownBlock], a⟩
/-- a row of one's own, none of whose blocks is written -/
theorem Nw.off {w W W' : World} {e size : Nat} {s : Sl} {us : List Value} {X : List Nat} (h : Nw w W e size s us) (a : Apart X W W') (ap : Apart [] w W') (hX : ∀ k, s.v.ownBlock = some k → k ∉ X) : Nw w W' e size s us := ⟨own_apart h.own a (fun k hk hm => hX k hk hm), h.new, ap⟩
theorem Nw.own_p {w W : World} {e size : Nat} {s : Sl} {us : List Value} (h : Nw w W e size s us) {k : Nat} (hk : s.v.ownBlock = some k) : s.p = some ⟨k, 0, none⟩ ∧ w.heap.size ≤ k ∧ k < W.heap.size := by
  have hl : k < W.heap.size := by obtain ⟨cur, hc⟩ := own_typ h.own hk; exact lt_of_heap hc
  refine ⟨?_, h.new k hk, hl⟩
  obtain ⟨_, ⟨hv, hz⟩ | ⟨g, cap, cur, hv, _⟩⟩ := h.own
  · rw [hv] at hk; simp [Value.ownBlock] at hk
  · rw [hv] at hk
    simp [Value.ownBlock] at hk
    subst hk
    unfold Sl.v at hv
    simp at hv
    exact hv.1
end Go.Proofs.YtpddokbjjhbfgaaGreat.ds
namespace Go.Proofs.YtpddokbjjhbfgaaGreat.rg
open Go.ChangeShapes Go.WideShapes Go.ChangeAt Go.RowKit Go.Sort
set_option linter.unusedVariables false
theorem own_base {w : World} {b c : Nat} {e : TypeId} {size : Nat} {v : Value} {n : Nat} {xs : List Value} (h : w.ownsRow b e size v n xs) (hc : c ≤ b) : w.ownsRow c e size v n xs := by
  obtain ⟨hl, ⟨hv, hz⟩ | ⟨g, cap, cur, rfl, hb, hr⟩⟩ := h
  · exact ⟨hl, .inl ⟨hv, hz⟩⟩
  · exact ⟨hl, .inr ⟨g, cap, cur, rfl, by omega, hr⟩⟩
/-- the row is the old one, or a new one -/
def NewOr (w : World) (v v' : Value) : Prop := v'.ownBlock = v.ownBlock ∨ ∃ k, v'.ownBlock = some k ∧ w.heap.size ≤ k
theorem run_append2 (w : World) (t ty e : TypeId) (i : TypeInfo) (z : Value) (size bytes : Nat) (ht : Tryz.prog.underlying t = some (.slice e)) (hi : Tryz.prog.info? e = some i) (hz : i.zero = some z) (hsize : i.size = size) (hby : i.bytes = bytes) (hzs : z.cells.size = size) (hsz : 0 < size)
    (v : Value) (n : Nat) (xs : List Value) (h : w.ownsRow 0 e size v n xs) (ad : Addr) (m c : Nat) (news : List Value) (hm : 0 < m) (hl : news.length = m * size) (hnews : ∀ j u, news[j]? = some u → w.cell? (ad.add j) = some u) (h1 : ∀ u ∈ news, u.oneCell' = true) (h63 : n + m ≤ maxLen) (hb : (n + m) * bytes ≤ 140737488355328) :
    ∃ v' w', (Builtin.append_ #[t, t] ty #[v, .slice (some ad) m c]).run Tryz.prog w = .ok v' w' ∧ w'.ownsRow 0 e size v' (n + m) (xs ++ news) ∧ w.grownBy w' v.ownBlock ∧ NewOr w v v' := by
  have h0 := h
  obtain ⟨hxl, ⟨rfl, rfl⟩ | ⟨g, cap, cur, rfl, hbb, hr, hle, hrest⟩⟩ := h
  · obtain rfl : xs = [] := by simpa using hxl
    obtain ⟨v', w', hrun, r1, r2, _⟩ := run_append_own (P := Tryz.prog) w w.heap.size t ty e i z size bytes ht hi hz hsize hby hzs hsz (.slice none 0 0) 0 [] (World.ownsRow_nil w _ e size) ad m c news hl hnews h1 h63 hb (Nat.le_refl _)
    refine ⟨v', w', hrun, own_base r1 (Nat.zero_le _), r2, .inr ?_⟩
    obtain ⟨_, ⟨_, hzz⟩ | ⟨g, cap, cur, rfl, hb2, _⟩⟩ := r1
    · omega
    · exact ⟨g, rfl, hb2⟩
  · by_cases hroom : n + m ≤ cap
    · obtain ⟨w', hrun, r1, r2⟩ := run_append_own_spare (P := Tryz.prog) w 0 t ty e i size ht hi hsize g n cap xs h0 ad m c news hl hnews h1 hroom
      exact ⟨_, w', hrun, r1, r2, .inl rfl⟩
    · obtain ⟨v', w', hrun, r1, r2⟩ := run_append_arg_grows (P := Tryz.prog) w t ty e i z size bytes ht hi hz hsize hby hzs hsz ⟨g, 0, none⟩ n cap xs (by omega) (fun j u hu => h0.cells rfl j u hu) ad m c news hl hnews (by omega) h63 hb
      refine ⟨v', w', hrun, own_base r1 (Nat.zero_le _), ⟨r2.os, r2.tape, r2.output, r2.size, fun k hk _ => r2.block k hk (by simp)⟩, .inr ?_⟩
      obtain ⟨_, ⟨_, hzz⟩ | ⟨g', cap', cur', rfl, hb2, _⟩⟩ := r1
      · omega
      · exact ⟨g', rfl, hb2⟩
theorem wpList_append3 {w : World} {ops : Array Oper} {rest : List Oper} {o : Oper} {a : Act} {Q : Exit → Act → World → Prop} (hgd : o.guard = none) (s x : Operand) (t : TypeId)
    (ho : o.op = .call { callee := .builtin .append, args := #[s, x], argTypes := #[t, t] }) (v u : Value) (hs : a.eval s = v) (hx : a.eval x = u) (v' : Value) (w' : World)
    (hrun : (Builtin.append_ #[t, t] o.type #[v, u]).run Tryz.prog w = .ok v' w') (hK : wpList Tryz.prog ops Q rest (a.put o.dst v') w') : wpList Tryz.prog ops Q (o :: rest) a w := by
  refine wpList_plain hgd fun K hK' => ?_
  unfold Oper.wp
  simp [execOp, ho, resolve, invoke, builtin, hs, hx, hrun, Result.andThen]
  exact hK' _ _ hK
theorem own_typ {w : World} {base : Nat} {e : TypeId} {size : Nat} {v : Value} {n : Nat} {xs : List Value} (h : w.ownsRow base e size v n xs) {k : Nat} (hk : v.ownBlock = some k) : ∃ cur, w.heap[k]? = some (.cells cur e (0, 0)) := by
  obtain ⟨hl, ⟨hv, hz⟩ | ⟨g, cap, cur, rfl, hb, hr, hrest⟩⟩ := h
  · subst hv; cases hk
  · simp [Value.ownBlock] at hk; subst hk; exact ⟨cur, hr⟩
/-- a slice of the call's own -/
structure OwnR (e : TypeId) (size : Nat) (w w' : World) (p : Option Addr) (n cap : Nat) (xs : List Value) : Prop where
  own : w'.ownsRow 0 e size (.slice p n cap) n xs
  new : ∀ b, (Value.slice p n cap).ownBlock = some b → w.heap.size ≤ b
  ap : Apart [] w w'
theorem OwnR.kept {e : TypeId} {size : Nat} {w w' w2 : World} {p : Option Addr} {n cap : Nat} {xs : List Value} (h : OwnR e size w w' p n cap xs) (a : Apart [] w' w2) : OwnR e size w w2 p n cap xs := ⟨own_apart h.own a (by simp), h.new, h.ap.trans a⟩
theorem OwnR.keptX {e : TypeId} {size : Nat} {w w' w2 : World} {p : Option Addr} {n cap : Nat} {xs : List Value} {X : List Nat} (h : OwnR e size w w' p n cap xs) (a : Apart X w' w2) (h1 : ∀ k, (Value.slice p n cap).ownBlock = some k → k ∉ X) (h2 : ∀ x ∈ X, w.heap.size ≤ x) : OwnR e size w w2 p n cap xs := ⟨own_apart h.own a h1, h.new, h.ap.trans' a (fun y hy => .inr (h2 y hy))⟩
theorem OwnR.nil (e : TypeId) (size : Nat) (w : World) : OwnR e size w w none 0 0 [] := ⟨World.ownsRow_nil w _ e size, fun b hb => (by cases hb), Apart.refl _ _⟩
/-- some more appended -/
theorem OwnR.append {e t ty : TypeId} {i : TypeInfo} {z : Value} {size bytes : Nat} (ht : Tryz.prog.underlying t = some (.slice e)) (hi : Tryz.prog.info? e = some i) (hz : i.zero = some z) (hsize : i.size = size) (hby : i.bytes = bytes) (hzs : z.cells.size = size) (hsz : 0 < size)
    {w W : World} {p : Option Addr} {n cap : Nat} {xs : List Value} (h : OwnR e size w W p n cap xs) (ad : Addr) (m c : Nat) (news : List Value) (hm : 0 < m) (hl : news.length = m * size) (hnews : ∀ j u, news[j]? = some u → W.cell? (ad.add j) = some u) (h1 : ∀ u ∈ news, u.oneCell' = true) (h63 : n + m ≤ maxLen) (hb : (n + m) * bytes ≤ 140737488355328) :
    ∃ p' cap' w', (Builtin.append_ #[t, t] ty #[.slice p n cap, .slice (some ad) m c]).run Tryz.prog W = .ok (.slice p' (n + m) cap') w' ∧ OwnR e size w w' p' (n + m) cap' (xs ++ news) ∧ Apart (Value.slice p n cap).ownBlock.toList W w' ∧ NewOr W (.slice p n cap) (.slice p' (n + m) cap') := by
  obtain ⟨v', w', hrun, r1, r2, r3⟩ := run_append2 W t ty e i z size bytes ht hi hz hsize hby hzs hsz (.slice p n cap) n xs h.own ad m c news hm hl hnews h1 h63 hb
  have hs : ∃ p' cap', v' = .slice p' (n + m) cap' := by
    obtain ⟨_, ⟨_, hz⟩ | ⟨g, cap', cur, rfl, _⟩⟩ := id r1
    · omega
    · exact ⟨_, _, rfl⟩
  obtain ⟨p', cap', rfl⟩ := hs
  refine ⟨p', cap', w', hrun, ⟨r1, fun b hb => ?_, h.ap.trans' (apart_grown r2) (fun y hy => .inr (h.new y (by simpa using hy)))⟩, apart_grown r2, r3⟩
  rcases r3 with r3 | ⟨k, r3, hk⟩
  · exact h.new b (r3.symm.trans hb)
  · rw [r3] at hb; cases hb; exact Nat.le_trans h.ap.size hk
/-- points, flat -/
def flP (ps : List Pt) : List Value := ps.flatMap fun d => [.int .u32 (d.1 : Nat), .int .i64 (d.2 : Nat)]
theorem flP_length (ps : List Pt) : (flP ps).length = ps.length * 2 := by
  induction ps with
  | nil => rfl
  | cons e l ih => simp only [flP, List.flatMap_cons, List.length_append, List.length_cons, List.length_nil] at *; omega
theorem flP_get (ps : List Pt) : ∀ (k : Nat), k < ps.length → (flP ps)[k * 2]? = some (.int .u32 ((ps.getD k (0, 0)).1 : Nat)) ∧ (flP ps)[k * 2 + 1]? = some (.int .i64 ((ps.getD k (0, 0)).2 : Nat)) := by
  induction ps with
  | nil => intro k hk; simp at hk
  | cons e l ih =>
    intro k hk
    match k with
    | 0 => exact ⟨rfl, rfl⟩
    | k + 1 =>
      have := ih k (by simpa using hk)
      rw [show (k + 1) * 2 = k * 2 + 2 from by omega]
      exact this
theorem flP_append (ps qs : List Pt) : flP ps ++ flP qs = flP (ps ++ qs) := by simp [flP]
theorem flP_one {ps : List Pt} {u : Value} (h : u ∈ flP ps) : u.oneCell' = true := by
  simp only [flP, List.mem_flatMap] at h
  obtain ⟨d, _, h⟩ := h
  simp at h
  rcases h with rfl | rfl <;> rfl
theorem info80 : (Tryz.prog.info? 170).map (fun i => (i.zero, i.size, i.bytes)) = some (some (.agg #[.int .u32 0, .int .i64 0]), 2, 16) := by kernel_rfl
theorem info3 : (Tryz.prog.info? 3).map (fun i => (i.zero, i.size, i.bytes)) = some (some (.int .i64 0), 1, 8) := by kernel_rfl
/-- points of the call's own -/
abbrev OwnP (w w' : World) (p : Option Addr) (n cap : Nat) (ps : List Pt) : Prop := OwnR 170 2 w w' p n cap (flP ps)
theorem OwnR.cellP {w w' : World} {P n cap : Nat} {ps : List Pt} (h : OwnP w w' (some ⟨P, 0, none⟩) n cap ps) (j : Nat) (hj : j < ps.length * 2) : w'.cell? ⟨P, j, none⟩ = (flP ps)[j]? := h.own.cellAt _ (by have := h.own.1; rw [flP_length] at this; omega)
/-- ints, flat -/
def flI (xs : List Nat) : List Value := xs.map fun x => .int .i64 (x : Nat)
abbrev OwnI (w w' : World) (p : Option Addr) (n cap : Nat) (xs : List Nat) : Prop := OwnR 3 1 w w' p n cap (flI xs)
end Go.Proofs.YtpddokbjjhbfgaaGreat.rg
namespace Go.Proofs.YtpddokbjjhbfgaaGreat.rg
open Go.ChangeShapes Go.WideShapes Go.ChangeAt Go.RowKit Go.Sort
set_option linter.unusedVariables false
theorem pts_succ (i : Nat) : pts (i + 1) = pts i ++ (List.range 4).map (ptsOf i) := by
  unfold pts
  rw [List.range_succ (n := i), List.flatMap_append, List.flatMap_singleton]
def ptsK (i k : Nat) : List Pt := pts i ++ (List.range k).map (ptsOf i)
theorem ptsK_succ (i k : Nat) : ptsK i (k + 1) = ptsK i k ++ [ptsOf i k] := by
  unfold ptsK
  rw [List.range_succ, List.map_append, List.append_assoc]; rfl
theorem pts_len (i : Nat) : (pts i).length = 4 * i := by
  induction i with
  | zero => rfl
  | succ i ih => rw [pts_succ, List.length_append, ih]; simp; omega
theorem byte2 {w : World} {B : Nat} (i k : Nat) (hi : i < 256) (hk : k < 256) (hB : B < w.heap.size) (h0 : w.cell? ⟨B, 0, none⟩ = some (.int .u8 (i : Nat))) (h1 : w.cell? ⟨B, 1, none⟩ = some (.int .u8 (k : Nat))) : By w (some ⟨B, 0, none⟩) 2 [i, k] := by
  refine ⟨rfl, by simp; omega, fun _ => ⟨B, 0, rfl, hB, fun j hj => ?_⟩⟩
  match j, hj with
  | 0, _ => exact h0
  | 1, _ => exact h1
theorem ownp_append {w W : World} {p : Option Addr} {n cap : Nat} {ps : List Pt} (h : OwnP w W p n cap ps) (hn : n ≤ 1000) (ty : TypeId) (ad : Addr) (x : Pt) (h0 : W.cell? (ad.add 0) = some (.int .u32 (x.1 : Nat))) (h1 : W.cell? (ad.add 1) = some (.int .i64 (x.2 : Nat))) :
    ∃ p' cap' w', (Builtin.append_ #[147, 147] ty #[.slice p n cap, .slice (some ad) 1 1]).run Tryz.prog W = .ok (.slice p' (n + 1) cap') w' ∧ OwnP w w' p' (n + 1) cap' (ps ++ [x]) := by
  obtain ⟨i0, hi, hz0, hz1, hz2⟩ := info_parts info80
  obtain ⟨p', cap', w', hrun, r1, _, _⟩ := OwnR.append (ty := ty) Tryz.underlying147 hi hz0 hz1 hz2 rfl (by decide) h ad 1 1 [.int .u32 (x.1 : Nat), .int .i64 (x.2 : Nat)] (by decide) rfl
    (by
      intro j u hj
      match j, hj with
      | 0, hj => simp at hj; subst hj; exact h0
      | 1, hj => simp at hj; subst hj; exact h1)
    (by intro u hu; simp at hu; rcases hu with rfl | rfl <;> rfl) (by unfold maxLen; omega) (by omega)
  refine ⟨p', cap', w', hrun, ?_⟩
  show OwnR 170 2 w w' p' (n + 1) cap' (flP (ps ++ [x]))
  rw [← flP_append]
  exact r1
structure PtsPost (w w' : World) (r : Ending) (n : Nat) : Prop where
  ex : ∃ p cap, r = .returned (.slice p (4 * n) cap) ∧ OwnP w w' p (4 * n) cap (srtP (pts n))
set_option maxHeartbeats 4000000 in
set_option maxRecDepth 100000 in
theorem points_ok (n : Nat) (hn : n ≤ 8) (w : World) (hsort : ∀ (p : Option Addr) (cap : Nat) (W : World), OwnP w W p (4 * n) cap (pts n) → Calls Tryz.prog 112 #[.slice p (4 * n) cap, .func (.func 110) #[] #[]] W fun r w' => r = .returned (.tuple #[]) ∧ OwnP w w' p (4 * n) cap (srtP (pts n))) :
    Calls Tryz.prog 84 #[.int .i64 n] w fun r w' => PtsPost w w' r n := by
  go_enter Tryz.func84, Tryz.ntmps84
  go_wp2_with fail
  go_loopw [3, 7] (fun x v wr => ∃ (i : Nat) (p : Option Addr) (cap : Nat), i ≤ n ∧ v = .int .i64 i ∧ x = .slice p (4 * i) cap ∧ OwnP w wr p (4 * i) cap (pts i)) (fun _ v _ => n - (intOf v).toNat)
  case atStart => exact ⟨0, none, 0, Nat.zero_le _, rfl, rfl, OwnR.nil 170 2 w⟩
  case round =>
    obtain ⟨i, p, cap, hi, rfl, rfl, O⟩ := hrel
    by_cases hlt : i < n
    · go_wp2_with fail
      have O0 : OwnP w wr p (4 * i + 0) cap (ptsK i 0) := by unfold ptsK; simpa using O
      go_loopw [3, 10] (fun x v wr2 => ∃ (k : Nat) (p : Option Addr) (cap : Nat), k ≤ 4 ∧ v = .int .i64 k ∧ x = .slice p (4 * i + k) cap ∧ OwnP w wr2 p (4 * i + k) cap (ptsK i k)) (fun _ v _ => 4 - (intOf v).toNat)
      case atStart => exact ⟨0, p, cap, Nat.zero_le _, rfl, rfl, O0⟩
      case round =>
        clear O O0
        obtain ⟨k, p, cap, hk, rfl, rfl, O⟩ := hrel
        by_cases hk4 : k < 4
        · go_wp2_with fail
          obtain ⟨V, HV⟩ : ∃ V, Hid (V = wr.alloc (.cells #[.int .u8 (i : Int), .int .u8 (k : Int)] 5)) := ⟨_, rfl⟩
          have hB := byte2 (w := V) (B := wr.heap.size) i k (by omega) (by omega) (by rw [HV.out]; simp) (by rw [HV.out]; simp) (by rw [HV.out]; simp)
          have O1 : OwnP w V p (4 * i + k) cap (ptsK i k) := O.kept (by rw [HV.out]; exact (Apart.refl _ _).alloc _)
          rw [← HV.out]
          refine (hash_ok hB (by omega)).mono ?_
          rintro r w1 ⟨rfl, rfl⟩
          dsimp only
          have HP : Hid (ptsK i (k + 1) = ptsK i k ++ [(hashN [i, k], i)]) := ptsK_succ i k
          clear hB O HV
          obtain ⟨h, HH⟩ : ∃ h, Hid (h = hashN [i, k]) := ⟨_, rfl⟩
          rw [← HH.out] at HP ⊢
          have O2 : OwnP w (w1.alloc (.cells #[.int .u32 (h : Int), .int .i64 (i : Int)] 170)) p (4 * i + k) cap (ptsK i k) := O1.kept ((Apart.refl _ _).alloc _)
          obtain ⟨p', cap', w', hrun, O3⟩ := ownp_append O2 (by omega) 147 ⟨w1.heap.size, 0, none⟩ (h, i) (by simp [Addr.add]) (by simp [Addr.add])
          clear O1 O2
          go_wp2_with (at_builtin; refine wpList_append3 rfl _ _ 147 rfl _ _ rfl rfl _ _ hrun ?_)
          go_roundw
          case rel => exact ⟨k + 1, p', cap', by omega, by simp, rfl, by rw [HP.out]; exact O3⟩
          case measure => simp only [intOf]; omega
        · obtain rfl : k = 4 := by omega
          have O1 : OwnP w wr p (4 * (i + 1)) cap (pts (i + 1)) := by rw [pts_succ]; exact O
          clear O
          go_wp2_with fail
          go_roundw
          case rel => exact ⟨i + 1, p, cap, by omega, by simp, rfl, O1⟩
          case measure => simp only [intOf]; omega
    · obtain rfl : i = n := by omega
      go_wp2_with fail
      refine (hsort p cap wr O).mono ?_
      rintro r w1 ⟨rfl, O1⟩
      dsimp only
      go_wp2_with fail
      go_ret
      exact ⟨⟨p, cap, rfl, O1⟩⟩
end Go.Proofs.YtpddokbjjhbfgaaGreat.rg
