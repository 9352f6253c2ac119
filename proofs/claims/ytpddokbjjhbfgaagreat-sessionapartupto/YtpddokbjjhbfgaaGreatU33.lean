import Derived.Test.YtpddokbjjhbfgaaGreatChecked
import Derived.WalkKit
import Derived.ProofKit
import Derived.Maps.OwnSet
import Derived.Maps.RangeWalk
import Derived.DeepKeys4
import Derived.MapViews
import Derived.StringKeys
import Derived.Lib.TrailingZeros
import Derived.OpenShut
import Derived.Deep.QuietTactic
import Derived.BigQuiet
import Derived.BigRegion
import Derived.Laws.CopyOwn
import Derived.Laws.Bits64b
import Derived.Laws.MathBits
import Derived.Laws.ShiftsVarLaws
import Derived.WalkSmall
import Derived.Laws.ResultCell
import Derived.Lib.BitFns
import Derived.Laws.StructEq
import Derived.Deep.RegionHeld
import Derived.ArgAppend
import Derived.Deep.RegionLaw
import Derived.Deep.DeepAppendRoom
import Derived.Sort.WalkA
import Derived.Laws.Strings
import Derived.Deep.CutBlock
import Derived.Great.BuildSlice
import Derived.Laws.BytesString
import Derived.Laws.AppendOwnNone
import Derived.Lib.Overlaps
import Derived.Lib.AppendZerosOnto
import Derived.Laws.NewBlocks
import Derived.Laws.Externs
import Derived.Laws.IdiomCopy
import Derived.RangeFuncNested
import Derived.RangeFuncBound
import Derived.RangeFuncCalls
import Derived.RangeFuncLeaves
import Derived.Shelf.Abstract
import Derived.Shelf.RegionOpen
import Derived.OwnWalkIn
import Derived.TacticsInMore
import Derived.LoopNIn
import Derived.LoopIn
import Derived.Deep.CutRange
import Derived.Deep.OwnRows
import Derived.Lib.Walk
import Derived.Lib.SliceRun
import GoSem.Claim
import GoSem.ClaimJoined
import GoSem.ClaimMapViews
import Derived.JoinedTies
import Derived.KernelRfl
import Derived.Lib.LaidTab
import Derived.JoinedCond
import Derived.ShutString
import Derived.ChangeOld
import Derived.Below
import Derived.Carry
import Derived.ChangeSlices
import Derived.Deep.Slices
import Derived.Deep.DeepHandedRow
import Derived.RowKit
import Derived.ChangeShapes
import Derived.SizedLaws
import Derived.ChangeMaps5
import Derived.OrdersHeld
import Derived.Lib.AppendStr
import Derived.Lib.ConvBytes
import Derived.Deep.RegionHeld3
import Derived.Deep.MidRow
import Derived.Laws.BitsAllLaws
import Derived.Sort.Grow
import Derived.Shelf.SlSortCmp.WholeK
import Derived.Shelf.Lay
import Derived.Ground.SlsfProg
import Derived.Sort.LotA
import Derived.Sort.MapsRangeIn
import Derived.RangeFuncSeq
import Derived.RangeFuncKeeps
import Derived.Maps.AppendAt
import Derived.OwnWalk
import Derived.Test.YtpddokbjjhbfgaaGreatRows
import Derived.Test.YtpddokbjjhbfgaaGreatU32
namespace Go.Proofs.YtpddokbjjhbfgaaGreat.ds
open Go.ChangeShapes Go.WideShapes Go.ChangeAt Go.RowKit Go.Sort
set_option linter.unusedVariables false
set_option linter.unusedSimpArgs false

/-- what the document's session has seen of a key, as it lies -/
structure Sn where
  k : ByteArray
  s : Sl
  d : List Dt
  c : Int
def Sn.cs (x : Sn) : List Value := [.string x.k, x.s.v, .int .i64 x.c]
def flSn (g : List Sn) : List Value := g.flatMap Sn.cs
def Sn.z : Sn := ⟨⟨#[]⟩, slz, [], 0⟩
def gSn (g : List Sn) (i : Nat) : Sn := g.getD i Sn.z
theorem flSn_len (g : List Sn) : (flSn g).length = g.length * 3 := by
  induction g with
  | nil => rfl
  | cons x l ih => simp [flSn, Sn.cs] at ih ⊢; omega
theorem flSn_append (a b : List Sn) : flSn (a ++ b) = flSn a ++ flSn b := by simp [flSn]
theorem flSn_get (g : List Sn) (i : Nat) (hi : i < g.length) : (flSn g)[i * 3]? = some (.string (gSn g i).k) ∧ (flSn g)[i * 3 + 1]? = some (gSn g i).s.v ∧ (flSn g)[i * 3 + 2]? = some (.int .i64 (gSn g i).c) := by
  induction g generalizing i with
  | nil => simp at hi
  | cons x l ih =>
    cases i with
    | zero => simp [flSn, Sn.cs, gSn]
    | succ i =>
      have := ih i (by simpa using hi)
      have e : flSn (x :: l) = x.cs ++ flSn l := by simp [flSn]
      rw [e]
      have h3 : x.cs.length = 3 := rfl
      rw [List.getElem?_append_right (by omega), List.getElem?_append_right (by omega), List.getElem?_append_right (by omega), h3]
      have e1 : (i + 1) * 3 - 3 = i * 3 := by omega
      have e2 : (i + 1) * 3 + 1 - 3 = i * 3 + 1 := by omega
      have e3 : (i + 1) * 3 + 2 - 3 = i * 3 + 2 := by omega
      rw [e1, e2, e3]
      simpa [gSn] using this
theorem flSn_one {g : List Sn} {u : Value} (h : u ∈ flSn g) : u.oneCell' = true := by
  simp only [flSn, List.mem_flatMap, Sn.cs] at h
  obtain ⟨x, _, hu⟩ := h
  simp at hu
  rcases hu with rfl | rfl | rfl <;> rfl
/-- what was seen of a key, out of the list -/
def lookSn (g : List Sn) (k : ByteArray) : Sg := match g.find? (fun x => keq x.k k) with
  | some x => (x.d, x.c)
  | none => ([], 0)
/-- where the document's session lies -/
structure Ts where
  S : Nat
  R : Nat
  l : Sl
  q : Sl
  g : List Sn
def Ts.has (T : Ts) (k : Nat) : Prop := k = T.S ∨ k = T.R ∨ T.l.v.ownBlock = some k ∨ T.q.v.ownBlock = some k ∨ ∃ x ∈ T.g, x.s.v.ownBlock = some k
abbrev refA (c : Cf) (R : Nat) (l q : Sl) : Array Value := #[.int .i64 c.n, .int .i64 c.p, .int .i64 c.r, .int .i64 c.s, .int .i64 c.g, .int .i64 c.c, .int .i64 c.k, .int .i64 c.h, .int .i64 c.b, .pointer (some ⟨R, 0, none⟩), .slice l.p l.n l.c, .slice q.p q.n q.c]
/-- the document's session in memory -/
structure Rs (w : World) (T : Ts) (c : Cf) (nn rr pp : Nat) (lk : List Int) (f : ByteArray → Sg) (N : Nat) : Prop where
  cn : c.n = nn
  cr : c.r = rr
  cp : c.p = pp
  p1 : 1 ≤ pp
  pn : pp ≤ nn
  blk : w.heap[T.S]? = some (.cells (refA c T.R T.l T.q) 116 (0, 0))
  ring : rg.Rg w T.R nn rr
  rs : T.R ≠ T.S ∧ T.q.v.ownBlock ≠ some T.R
  li : w.ownsRow 0 3 1 T.l.v T.l.n (iV lk)
  ll : lk.length = nn
  se : w.ownsRow 0 151 3 T.q.v T.q.n (flSn T.g)
  sn : T.g.length ≤ N
  hd : ∀ x ∈ T.g, w.ownsRow 0 34 2 x.s.v x.s.n (flD x.d) ∧ x.d.length ≤ N
  fe : ∀ s : ByteArray, s.size ≤ maxLen → lookSn T.g s = f s
theorem own_same {w w' : World} {e : TypeId} {size : Nat} {v : Value} {n : Nat} {xs : List Value} (h : w.ownsRow 0 e size v n xs) (hk : ∀ k, k < w.heap.size → v.ownBlock = some k → w'.heap[k]? = w.heap[k]?) : w'.ownsRow 0 e size v n xs := by
  obtain ⟨hl, ⟨hv, hz⟩ | ⟨g, cap, cur, rfl, hb, hr, hrest⟩⟩ := h
  · exact ⟨hl, .inl ⟨hv, hz⟩⟩
  · exact ⟨hl, .inr ⟨g, cap, cur, rfl, hb, (hk g (lt_of_heap hr) rfl).trans hr, hrest⟩⟩
theorem Rs.kept {w w' : World} {T : Ts} {c : Cf} {nn rr pp : Nat} {lk : List Int} {f : ByteArray → Sg} {N : Nat} (h : Rs w T c nn rr pp lk f N) (hk : ∀ k, k < w.heap.size → T.has k → w'.heap[k]? = w.heap[k]?) : Rs w' T c nn rr pp lk f N :=
  { h with
    blk := (hk _ (lt_of_heap h.blk) (.inl rfl)).trans h.blk
    ring := Rg_same h.ring (hk _ h.ring.lt (.inr (.inl rfl)))
    li := own_same h.li (fun k hl he => hk k hl (.inr (.inr (.inl he))))
    se := own_same h.se (fun k hl he => hk k hl (.inr (.inr (.inr (.inl he)))))
    hd := fun x hx => ⟨own_same (h.hd x hx).1 (fun k hl he => hk k hl (.inr (.inr (.inr (.inr ⟨x, hx, he⟩))))), (h.hd x hx).2⟩ }
theorem Rs.kept0 {w w' : World} {T : Ts} {c : Cf} {nn rr pp : Nat} {lk : List Int} {f : ByteArray → Sg} {N : Nat} (h : Rs w T c nn rr pp lk f N) (a : Apart [] w w') : Rs w' T c nn rr pp lk f N := h.kept (fun k hk _ => a.block k hk (by simp))
theorem Rs.mono {w : World} {T : Ts} {c : Cf} {nn rr pp : Nat} {lk : List Int} {f : ByteArray → Sg} {N N' : Nat} (h : Rs w T c nn rr pp lk f N) (hn : N ≤ N') : Rs w T c nn rr pp lk f N' :=
  { h with sn := Nat.le_trans h.sn hn, hd := fun x hx => ⟨(h.hd x hx).1, Nat.le_trans (h.hd x hx).2 hn⟩ }
theorem Rs.gn {w : World} {T : Ts} {c : Cf} {nn rr pp : Nat} {lk : List Int} {f : ByteArray → Sg} {N : Nat} (h : Rs w T c nn rr pp lk f N) : T.g.length = T.q.n := by
  have := h.se.1
  rw [flSn_len] at this
  omega
theorem Rs.ln {w : World} {T : Ts} {c : Cf} {nn rr pp : Nat} {lk : List Int} {f : ByteArray → Sg} {N : Nat} (h : Rs w T c nn rr pp lk f N) : T.l.n = nn := by
  have := h.li.1
  rw [iV_len] at this
  have := h.ll
  omega
theorem Rs.cells {w : World} {T : Ts} {c : Cf} {nn rr pp : Nat} {lk : List Int} {f : ByteArray → Sg} {N : Nat} (h : Rs w T c nn rr pp lk f N) : ∀ W, Apart [] w W → W.cell? ⟨T.S, 0, none⟩ = some (.int .i64 (nn : Nat)) ∧ W.cell? ⟨T.S, 1, none⟩ = some (.int .i64 (pp : Nat)) ∧ W.cell? ⟨T.S, 9, none⟩ = some (.pointer (some ⟨T.R, 0, none⟩)) ∧ W.cell? ⟨T.S, 10, none⟩ = some (.slice T.l.p T.l.n T.l.c) ∧ W.cell? ⟨T.S, 11, none⟩ = some (.slice T.q.p T.q.n T.q.c) := fun W a => by
  have b := keep0 a h.blk
  exact ⟨by rw [← h.cn]; exact crow b 0 _ rfl, by rw [← h.cp]; exact crow b 1 _ rfl, crow b 9 _ rfl, crow b 10 _ rfl, crow b 11 _ rfl⟩
/-- an entry of what was seen -/
theorem Rs.entry {w : World} {T : Ts} {c : Cf} {nn rr pp : Nat} {lk : List Int} {f : ByteArray → Sg} {N : Nat} (h : Rs w T c nn rr pp lk f N) {i : Nat} (hi : i < T.q.n) : ∃ Q, T.q.p = some ⟨Q, 0, none⟩ ∧ T.q.v.ownBlock = some Q ∧ Q < w.heap.size ∧ ∀ W, Apart [] w W → W.cell? ⟨Q, i * 3, none⟩ = some (.string (gSn T.g i).k) ∧ W.cell? ⟨Q, i * 3 + 1, none⟩ = some (gSn T.g i).s.v ∧ W.cell? ⟨Q, i * 3 + 2, none⟩ = some (.int .i64 (gSn T.g i).c) := by
  have hr := Rd.own (show w.ownsRow 0 151 3 (.slice T.q.p T.q.n T.q.c) T.q.n (flSn T.g) from h.se)
  obtain ⟨P, o, hp, hP, hc⟩ := hr (by rw [flSn_len, h.gn]; omega)
  obtain ⟨_, ⟨hv, hz⟩ | ⟨g, cap, cur, hv, -, -, -⟩⟩ := h.se
  · omega
  have hv' := hv
  unfold Sl.v at hv'
  simp at hv'
  rw [hv'.1] at hp
  simp at hp
  obtain ⟨rfl, rfl⟩ := hp
  have hg := flSn_get T.g i (by rw [h.gn]; exact hi)
  have z1 := hc _ _ hg.1
  have z2 := hc _ _ hg.2.1
  have z3 := hc _ _ hg.2.2
  rw [Nat.zero_add] at z1 z2 z3
  exact ⟨g, hv'.1, by rw [hv]; rfl, hP, fun W a => ⟨(a.cell hP (by simp)).trans z1, (a.cell hP (by simp)).trans z2, (a.cell hP (by simp)).trans z3⟩⟩
/-- what 'of' answers -/
def OfP (w : World) (T : Ts) (key : ByteArray) (y : Sg) (r : Ending) (w' : World) : Prop := ∃ s : Sl, r = .returned (.agg #[.string key, .slice s.p s.n s.c, .int .i64 y.2]) ∧ Apart [] w w' ∧ w'.ownsRow 0 34 2 s.v s.n (flD y.1) ∧ ∀ k, s.v.ownBlock = some k → T.has k
theorem lookSn_at {g : List Sn} {key : ByteArray} {i : Nat} (hi : i < g.length) (hno : ∀ j, j < i → keq (gSn g j).k key = false) (hyes : keq (gSn g i).k key = true) : lookSn g key = ((gSn g i).d, (gSn g i).c) := by
  unfold lookSn
  have e : g.find? (fun x => keq x.k key) = some (gSn g i) := by
    induction g generalizing i with
    | nil => simp at hi
    | cons x l ih =>
      cases i with
      | zero => simp [gSn] at hyes ⊢; exact .inl hyes
      | succ i =>
        have h0 := hno 0 (by omega)
        simp [gSn] at h0
        rw [List.find?_cons_of_neg (by simp [h0])]
        have := ih (i := i) (by simpa using hi) (fun j hj => by have := hno (j + 1) (by omega); simpa [gSn] using this) (by simpa [gSn] using hyes)
        rw [this]
        simp [gSn]
  rw [e]
theorem lookSn_none {g : List Sn} {key : ByteArray} (hno : ∀ j, j < g.length → keq (gSn g j).k key = false) : lookSn g key = ([], 0) := by
  unfold lookSn
  have e : g.find? (fun x => keq x.k key) = none := by
    rw [List.find?_eq_none]
    intro x hx
    obtain ⟨i, hi, rfl⟩ := List.mem_iff_getElem.1 hx
    have := hno i hi
    unfold gSn at this
    rw [List.getD_eq_getElem?_getD, List.getElem?_eq_getElem hi] at this
    simpa using this
  rw [e]
theorem gSn_mem {g : List Sn} {i : Nat} (hi : i < g.length) : gSn g i ∈ g := by
  unfold gSn
  rw [List.getD_eq_getElem?_getD, List.getElem?_eq_getElem hi]
  exact List.getElem_mem hi
end Go.Proofs.YtpddokbjjhbfgaaGreat.ds
namespace Go.Proofs.YtpddokbjjhbfgaaGreat.ds
open Go.ChangeShapes Go.WideShapes Go.ChangeAt Go.RowKit Go.Sort
set_option linter.unusedVariables false
set_option linter.unusedSimpArgs false
set_option maxHeartbeats 4000000 in
set_option maxRecDepth 100000 in
theorem of_ok {w : World} {T : Ts} {c : Cf} {nn rr pp : Nat} {lk : List Int} {f : ByteArray → Sg} {N : Nat} (h : Rs w T c nn rr pp lk f N) (hN : N ≤ 4000000) {key : ByteArray} (hk : key.size ≤ maxLen) :
    Calls Tryz.prog 90 #[.pointer (some ⟨T.S, 0, none⟩), .string key] w fun r w' => OfP w T key (f key) r w' := by
  have HS := hid h
  have hqn : T.q.n ≤ 4000000 := by have := h.gn; have := h.sn; omega
  obtain ⟨y, Hy⟩ : ∃ y, Hid (y = f key) := ⟨_, hid rfl⟩
  have HFE : Hid (lookSn T.g key = y) := by rw [Hy.out]; exact h.fe key hk
  rw [← Hy.out]
  obtain ⟨B, HXB⟩ : ∃ X, Hid (X = w.heap.size) := ⟨_, hid rfl⟩
  obtain ⟨w1, hw1⟩ : ∃ V, V = w.alloc (.cells #[.string ⟨#[]⟩, .slice none 0 0, .int .i64 0] 151) := ⟨_, rfl⟩
  have a1 : Apart [] w w1 := by rw [hw1]; exact (Apart.refl [] w).alloc _
  have hB1 : w1.heap[B]? = some (.cells #[.string ⟨#[]⟩, .slice none 0 0, .int .i64 0] 151 (0, 0)) := by rw [hw1, HXB.out]; exact heap_alloc_new w _
  have HA1 := hid a1
  have HB1 := hid hB1
  have HNB : Hid (w.heap.size ≤ B) := hid (by rw [HXB.out]; exact Nat.le_refl _)
  obtain ⟨-, -, -, -, z11⟩ := h.cells w1 a1
  clear h a1 hB1 hk
  go_enter Tryz.func90, Tryz.ntmps90
  go_upto_region 1 with fail
  rw [← hw1, ← HXB.out]
  clear hw1 HXB
  go_wp2_with fail
  go_loopw [5] (fun a wt => ∃ i : Nat, a = .int .i64 (i : Nat) ∧ i ≤ T.q.n ∧ wt = w1 ∧ Hid (∀ j, j < i → keq (gSn T.g j).k key = false)) (fun a _ => T.q.n - (intOf a).toNat)
  case atStart => exact ⟨0, rfl, Nat.zero_le _, rfl, hid (fun j hj => by omega)⟩
  case round =>
    obtain ⟨i, rfl, hile, rfl, HI⟩ := hrel
    by_cases hlt : i < T.q.n
    · have hlti : ((i : Nat) : Int) < ((T.q.n : Nat) : Int) := by omega
      obtain ⟨Q, hQp, hQo, hQl, hQc⟩ := HS.out.entry hlt
      obtain ⟨x, Hx⟩ : ∃ x, Hid (x = gSn T.g i) := ⟨_, hid rfl⟩
      rw [← Hx.out] at hQc
      obtain ⟨c0, c1, c2⟩ := hQc wr HA1.out
      unfold Sl.v at c1
      rw [hQp] at z11
      have HQO := hid hQo
      clear hQc hQo hQp
      obtain ⟨b, Hb⟩ : ∃ b : Bool, Hid (b = keq x.k key) := ⟨_, hid rfl⟩
      have hke : (x.k.toList == key.toList) = b := by rw [Hb.out]; rfl
      cases b with
      | true =>
        obtain ⟨w2, hw2⟩ : ∃ V, V = ((wr.setCell ⟨B, 0, none⟩ (.string x.k)).setCell ⟨B, 1, none⟩ (.slice x.s.p x.s.n x.s.c)).setCell ⟨B, 2, none⟩ (.int .i64 x.c) := ⟨_, rfl⟩
        have hB2 : w2.heap[B]? = some (.cells #[.string x.k, .slice x.s.p x.s.n x.s.c, .int .i64 x.c] 151 (0, 0)) := by
          rw [hw2]
          have e1 := heap_setCell_same wr B 0 _ 151 (.string x.k) HB1.out
          have e2 := heap_setCell_same _ B 1 _ 151 (.slice x.s.p x.s.n x.s.c) e1
          have e3 := heap_setCell_same _ B 2 _ 151 (.int .i64 x.c) e2
          simpa using e3
        have a2 : Apart [B] wr w2 := by rw [hw2]; exact (((Apart.refl _ _).setCell (.inl (by simp)) _).setCell (.inl (by simp)) _).setCell (.inl (by simp)) _
        have q0 := crow HB1.out 0 (.string ⟨#[]⟩) rfl
        have q1 := crow HB1.out 1 (.slice none 0 0) rfl
        have q2 := crow HB1.out 2 (.int .i64 0) rfl
        have f0 := frozen_of_row _ _ 0 _ _ HB1.out
        have f1 := frozen_of_row _ _ 1 _ _ HB1.out
        have f2 := frozen_of_row _ _ 2 _ _ HB1.out
        have ha : Apart [] w w2 := HA1.out.trans' a2 (fun y hy => .inr (by simp at hy; subst hy; exact HNB.out))
        have hil : i < T.g.length := by rw [HS.out.gn]; exact hlt
        have HE : Hid (OfP w T key y (.returned (.agg #[.string x.k, .slice x.s.p x.s.n x.s.c, .int .i64 x.c])) w2) := by
          have hkx : x.k = key := (keq_iff _ _).1 Hb.out.symm
          have hl := lookSn_at hil HI.out (by rw [← Hx.out]; exact Hb.out.symm)
          rw [← Hx.out, HFE.out] at hl
          rw [hl]
          have hm : x ∈ T.g := by rw [Hx.out]; exact gSn_mem hil
          exact hid ⟨x.s, by rw [hkx], ha, own_same (HS.out.hd x hm).1 (fun k hk _ => ha.block k hk (by simp)), fun k hk => .inr (.inr (.inr (.inr ⟨x, hm, hk⟩)))⟩
        have HB2 := hid hB2
        clear hB2 a2 ha hil
        go_wp2_with fail
        rw [← hw2]
        clear hw2
        have d0 := crow HB2.out 0 (.string x.k) rfl
        have d1 := crow HB2.out 1 (.slice x.s.p x.s.n x.s.c) rfl
        have d2 := crow HB2.out 2 (.int .i64 x.c) rfl
        refine bodyPost_ret (v := .agg #[.string x.k, .slice x.s.p x.s.n x.s.c, .int .i64 x.c]) ?_ rfl HE.out
        simp [results, Tryz.results90, go_sem, d0, d1, d2]
      | false =>
        go_wp2_with fail
        go_roundw
        case rel => exact ⟨i + 1, by go_num, by omega, by first | rfl | trivial, hid (fun j hj => by
          by_cases hji : j = i
          · subst hji; rw [← Hx.out]; exact Hb.out.symm
          · exact HI.out j (by omega))⟩
        case measure => simp [intOf]; omega
    · have hlti : ¬ ((i : Nat) : Int) < ((T.q.n : Nat) : Int) := by omega
      obtain ⟨w2, hw2⟩ : ∃ V, V = ((wr.setCell ⟨B, 0, none⟩ (.string key)).setCell ⟨B, 1, none⟩ (.slice none 0 0)).setCell ⟨B, 2, none⟩ (.int .i64 0) := ⟨_, rfl⟩
      have hB2 : w2.heap[B]? = some (.cells #[.string key, .slice none 0 0, .int .i64 0] 151 (0, 0)) := by
        rw [hw2]
        have e1 := heap_setCell_same wr B 0 _ 151 (.string key) HB1.out
        have e2 := heap_setCell_same _ B 1 _ 151 (.slice none 0 0) e1
        have e3 := heap_setCell_same _ B 2 _ 151 (.int .i64 0) e2
        simpa using e3
      have a2 : Apart [B] wr w2 := by rw [hw2]; exact (((Apart.refl _ _).setCell (.inl (by simp)) _).setCell (.inl (by simp)) _).setCell (.inl (by simp)) _
      have q0 := crow HB1.out 0 (.string ⟨#[]⟩) rfl
      have q1 := crow HB1.out 1 (.slice none 0 0) rfl
      have q2 := crow HB1.out 2 (.int .i64 0) rfl
      have f0 := frozen_of_row _ _ 0 _ _ HB1.out
      have f1 := frozen_of_row _ _ 1 _ _ HB1.out
      have f2 := frozen_of_row _ _ 2 _ _ HB1.out
      have ha : Apart [] w w2 := HA1.out.trans' a2 (fun y hy => .inr (by simp at hy; subst hy; exact HNB.out))
      have HE : Hid (OfP w T key y (.returned (.agg #[.string key, .slice none 0 0, .int .i64 0])) w2) := by
        have hl := lookSn_none (g := T.g) (key := key) (fun j hj => HI.out j (by have := HS.out.gn; omega))
        rw [HFE.out] at hl
        rw [hl]
        exact hid ⟨slz, rfl, ha, World.ownsRow_nil _ _ _ _, fun k hk => by simp [slz, Sl.v, Value.ownBlock] at hk⟩
      have HB2 := hid hB2
      clear hB2 a2 ha
      go_wp2_with fail
      try rw [← hw2]
      clear hw2
      have d0 := crow HB2.out 0 (.string key) rfl
      have d1 := crow HB2.out 1 (.slice none 0 0) rfl
      have d2 := crow HB2.out 2 (.int .i64 0) rfl
      refine bodyPost_ret (v := .agg #[.string key, .slice none 0 0, .int .i64 0]) ?_ rfl HE.out
      simp [results, Tryz.results90, go_sem, d0, d1, d2]
set_option maxRecDepth 100000 in
theorem rtoken_ok {w : World} {T : Ts} {c : Cf} {nn rr pp : Nat} {lk : List Int} {f : ByteArray → Sg} {N : Nat} (h : Rs w T c nn rr pp lk f N) (hN : N ≤ 4000000) {key : ByteArray} (hk : key.size ≤ maxLen) :
    Calls Tryz.prog 69 #[.pointer (some ⟨T.S, 0, none⟩), .string key] w fun r w' => r = .returned (.int .i64 (f key).2) ∧ Apart [] w w' := by
  have HO := hid (of_ok h hN hk)
  obtain ⟨v, Hv⟩ : ∃ v, Hid (v = (f key).2) := ⟨_, hid rfl⟩
  rw [← Hv.out]
  clear h hk
  go_enter Tryz.func69, Tryz.ntmps69
  go_wp2_with fail
  refine HO.out.mono ?_
  rintro _ w1 ⟨s, rfl, a1, -, -⟩
  rw [← Hv.out]
  have HA := hid a1
  have hfld : ∀ W, (Instr.field 151 (.agg #[.string key, .slice s.p s.n s.c, .int .i64 v]) 2).run Tryz.prog W = .ok (.int .i64 v) W := fun W => by kernel_rfl
  clear a1
  try dsimp only
  go_wp2_with fail
  go_ret
  exact ⟨rfl, HA.out⟩
/-- what the document's Heads answers -/
def RHd (w : World) (T : Ts) (l : List Dt) (r : Ending) (w' : World) : Prop := ∃ s : Sl, r = .returned (.slice s.p s.n s.c) ∧ Apart [] w w' ∧ w'.ownsRow 0 34 2 s.v s.n (flD l) ∧ ∀ k, s.v.ownBlock = some k → T.has k
set_option maxRecDepth 100000 in
theorem rheads_ok {w : World} {T : Ts} {c : Cf} {nn rr pp : Nat} {lk : List Int} {f : ByteArray → Sg} {N : Nat} (h : Rs w T c nn rr pp lk f N) (hN : N ≤ 4000000) {key : ByteArray} (hk : key.size ≤ maxLen) :
    Calls Tryz.prog 96 #[.pointer (some ⟨T.S, 0, none⟩), .string key] w fun r w' => RHd w T (f key).1 r w' := by
  have HO := hid (of_ok h hN hk)
  obtain ⟨y, Hy⟩ : ∃ v, Hid (v = f key) := ⟨_, hid rfl⟩
  rw [← Hy.out] at HO ⊢
  clear h hk
  go_enter Tryz.func96, Tryz.ntmps96
  go_wp2_with fail
  refine HO.out.mono ?_
  rintro _ w1 ⟨s, rfl, a1, hs, hh⟩
  have HE : Hid (RHd w T y.1 (.returned (.slice s.p s.n s.c)) w1) := hid ⟨s, rfl, a1, hs, hh⟩
  obtain ⟨v, Hv⟩ : ∃ v, Hid (v = y.2) := ⟨_, hid rfl⟩
  rw [← Hv.out]
  have hfld : ∀ W, (Instr.field 151 (.agg #[.string key, .slice s.p s.n s.c, .int .i64 v]) 1).run Tryz.prog W = .ok (.slice s.p s.n s.c) W := fun W => by kernel_rfl
  clear a1 hs hh
  try dsimp only
  go_wp2_with fail
  go_ret
  exact HE.out
end Go.Proofs.YtpddokbjjhbfgaaGreat.ds
namespace Go.Proofs.YtpddokbjjhbfgaaGreat.ds
open Go.ChangeShapes Go.WideShapes Go.ChangeAt Go.RowKit Go.Sort
set_option linter.unusedVariables false
set_option linter.unusedSimpArgs false

theorem own_ird {w : World} {s : Sl} {l : List Int} (h : w.ownsRow 0 3 1 s.v s.n (iV l)) : Ird w s.p s.n l := by
  have hr := Rd.own (show w.ownsRow 0 3 1 (.slice s.p s.n s.c) s.n (iV l) from h)
  have hl := h.1
  rw [iV_len] at hl
  refine ⟨by omega, fun h0 => ?_⟩
  obtain ⟨P, o, hp, hP, hc⟩ := hr (by rw [iV_len]; omega)
  exact ⟨P, o, hp, hP, fun i hi => hc i _ (by simp [iV, List.getElem?_eq_getElem hi])⟩
theorem find_first {lk pref : List Int} {i : Nat} (hi : i < lk.length) (hno : ∀ j (hj : j < lk.length), j < i → lk[j] ∉ pref) (hyes : lk[i] ∈ pref) : lk.find? (fun y => decide (y ∈ pref)) = some lk[i] := by
  rw [List.find?_eq_some_iff_getElem]
  refine ⟨by simpa using hyes, i, hi, rfl, fun j hj => ?_⟩
  have := hno j (by omega) hj
  simpa using this
set_option maxHeartbeats 8000000 in
set_option maxRecDepth 100000 in
theorem rnext_ok {w : World} {T : Ts} {c : Cf} {nn rr pp : Nat} {lk : List Int} {f : ByteArray → Sg} {N : Nat} (h : Rs w T c nn rr pp lk f N) (hn8 : nn ≤ 8) (s : ByteArray) (hs : s.size ≤ maxLen) (hex : ∃ y ∈ lk, y ∈ prefK nn rr pp s) : Calls Tryz.prog 27 #[.pointer (some ⟨T.S, 0, none⟩), .string s] w fun r w' => NextP w (keyR s) lk (prefK nn rr pp s) r w' := by
  have HS := hid h
  have hsz : s.size ≤ 9223372036854775807 := by unfold maxLen at hs; omega
  have HCE := hid h.cells
  have hm16 := h.ring.m16
  have hm1 := h.ring.m1
  have hn1 := h.ring.n1
  have hp1 := h.p1
  have hpn := h.pn
  have HLN := hid h.ln
  obtain ⟨q, Hq⟩ : ∃ q, Hid (q = rg.hashN (rg.strN s) % rr) := ⟨_, hid rfl⟩
  have hqr : q < rr := by rw [Hq.out]; exact Nat.mod_lt _ hm1
  have HRN : Hid (∀ W, Apart [] w W → Calls Tryz.prog 50 #[.pointer (some ⟨T.R, 0, none⟩), .string s] W fun r w' => r = .returned (.int .i64 (q : Nat)) ∧ Apart [] W w') := fun W a => (rg.rrange_ok (HS.out.ring.kept0 (ar a)) s hsz).mono (fun r w' ⟨e, b⟩ => ⟨by rw [Hq.out]; exact e, ra b⟩)
  obtain ⟨pf, Hpf⟩ : ∃ pf, Hid (pf = prefK nn rr pp s) := ⟨_, hid rfl⟩
  have HPF : Hid (∀ W, Apart [] w W → Calls Tryz.prog 49 #[.pointer (some ⟨T.R, 0, none⟩), .int .i64 (q : Nat), .int .i64 (pp : Nat)] W fun r w' => ∃ P o cap, r = .returned (.tuple #[.slice (some ⟨P, o, none⟩) pp cap, .int .i64 0]) ∧ Apart [] W w' ∧ Ird w' (some ⟨P, o, none⟩) pp pf) := fun W a => (rg.rpref_ok (HS.out.ring.kept0 (ar a)) q hqr pp hp1 hpn).mono (fun r w' hp => by
    obtain ⟨P, o, cap, e, hP, b, ob⟩ := hp.ex
    refine ⟨P, o, cap, e, ra b, ?_⟩
    rw [Hpf.out]
    unfold prefK
    rw [← Hq.out]
    exact Ob_ird ob)
  have HEX : Hid (∃ y ∈ lk, y ∈ pf) := by rw [Hpf.out]; exact hid hex
  rw [← Hpf.out]
  have HLI := hid (own_ird h.li)
  have hln := h.ln
  clear h hs hqr hex
  by_cases hk1 : s.size < 1
  · have i1 : ((s.size : Nat) : Int) < 1 := by omega
    have hkr : keyR s = false := by unfold keyR; simp; omega
    rw [hkr]
    clear hkr hk1
    go_enter Tryz.func27, Tryz.ntmps27
    go_wp2_with fail
    go_ret2
    unfold NextP
    exact ⟨fun _ => rfl, fun hh => (by cases hh), Apart.refl _ _⟩
  by_cases hk2 : s.size > 16
  · have i1 : ¬ ((s.size : Nat) : Int) < 1 := by omega
    have i2 : ((s.size : Nat) : Int) > 16 := by omega
    have hkr : keyR s = false := by unfold keyR; simp; omega
    rw [hkr]
    clear hkr hk1 hk2
    go_enter Tryz.func27, Tryz.ntmps27
    go_wp2_with fail
    go_ret2
    unfold NextP
    exact ⟨fun _ => rfl, fun hh => (by cases hh), Apart.refl _ _⟩
  have i1 : ¬ ((s.size : Nat) : Int) < 1 := by omega
  have i2 : ¬ ((s.size : Nat) : Int) > 16 := by omega
  have hkr : keyR s = true := by unfold keyR; simp; omega
  rw [hkr]
  clear hkr hk1 hk2
  go_enter Tryz.func27, Tryz.ntmps27
  go_upto_region 3 with fail
  go_cut [6, 7] from 18 to 36 (fun s6 s7 wx => ∃ P o cap, s6 = .slice (some ⟨P, o, none⟩) pp cap ∧ s7 = .int .i64 0 ∧ Hid (Apart [] w wx ∧ Ird wx (some ⟨P, o, none⟩) pp pf))
  case first =>
    have hAd : Apart [] w w.drew := (Apart.refl [] w).drew
    refine wp_region_held_drew (S := fun W => Apart [] w W) (by kernel_rfl) hAd (fun hHeld => ?_)
    generalize w.drew = wd at *
    clear hAd
    refine tk 0 19 (.pointer (some ⟨T.S, 0, none⟩)) rfl ?_ ?_
    · intro W hSW; go_simp
    simp only [Act.put, List.setIfInBounds_toArray, List.set_cons_zero, List.set_cons_succ]
    refine tk 1 20 (.pointer (some ⟨T.S, 0, none⟩)) rfl ?_ ?_
    · intro W hSW; go_simp
    simp only [Act.put, List.setIfInBounds_toArray, List.set_cons_zero, List.set_cons_succ]
    refine tk 2 21 (.pointer (some ⟨T.S, 9, none⟩)) rfl ?_ ?_
    · intro W hSW; go_simp
    simp only [Act.put, List.setIfInBounds_toArray, List.set_cons_zero, List.set_cons_succ]
    refine tk 3 22 (.pointer (some ⟨T.R, 0, none⟩)) rfl ?_ ?_
    · intro W hSW; obtain ⟨z0, z1, z9, z10, z11⟩ := HCE.out W hSW; go_simp
    simp only [Act.put, List.setIfInBounds_toArray, List.set_cons_zero, List.set_cons_succ]
    refine tk 4 23 (.pointer (some ⟨T.S, 0, none⟩)) rfl ?_ ?_
    · intro W hSW; go_simp
    simp only [Act.put, List.setIfInBounds_toArray, List.set_cons_zero, List.set_cons_succ]
    refine tk 5 24 (.pointer (some ⟨T.S, 0, none⟩)) rfl ?_ ?_
    · intro W hSW; go_simp
    simp only [Act.put, List.setIfInBounds_toArray, List.set_cons_zero, List.set_cons_succ]
    refine tk 6 25 (.pointer (some ⟨T.S, 9, none⟩)) rfl ?_ ?_
    · intro W hSW; go_simp
    simp only [Act.put, List.setIfInBounds_toArray, List.set_cons_zero, List.set_cons_succ]
    refine tk 7 26 (.pointer (some ⟨T.R, 0, none⟩)) rfl ?_ ?_
    · intro W hSW; obtain ⟨z0, z1, z9, z10, z11⟩ := HCE.out W hSW; go_simp
    simp only [Act.put, List.setIfInBounds_toArray, List.set_cons_zero, List.set_cons_succ]
    refine tk 8 27 (.string s) rfl ?_ ?_
    · intro W hSW; go_simp
    simp only [Act.put, List.setIfInBounds_toArray, List.set_cons_zero, List.set_cons_succ]
    refine tk 10 29 (.pointer (some ⟨T.S, 0, none⟩)) rfl ?_ ?_
    · intro W hSW; go_simp
    simp only [Act.put, List.setIfInBounds_toArray, List.set_cons_zero, List.set_cons_succ]
    refine tk 11 30 (.pointer (some ⟨T.S, 0, none⟩)) rfl ?_ ?_
    · intro W hSW; go_simp
    simp only [Act.put, List.setIfInBounds_toArray, List.set_cons_zero, List.set_cons_succ]
    refine tk 12 31 (.pointer (some ⟨T.S, 0, none⟩)) rfl ?_ ?_
    · intro W hSW; go_simp
    simp only [Act.put, List.setIfInBounds_toArray, List.set_cons_zero, List.set_cons_succ]
    refine tk 13 32 (.pointer (some ⟨T.S, 1, none⟩)) rfl ?_ ?_
    · intro W hSW; go_simp
    simp only [Act.put, List.setIfInBounds_toArray, List.set_cons_zero, List.set_cons_succ]
    refine tk 14 33 (.int .i64 (pp : Nat)) rfl ?_ ?_
    · intro W hSW; obtain ⟨z0, z1, z9, z10, z11⟩ := HCE.out W hSW; go_simp
    simp only [Act.put, List.setIfInBounds_toArray, List.set_cons_zero, List.set_cons_succ]
    refine wpAnyH_ready (rs := [9]) (by kernel_rfl) (by simp) ?_
    refine AllReadyH.cons rfl (fun KK hKK => ?_) AllReadyH.nil
    go_simp
    refine (HRN.out wd hHeld).mono ?_
    rintro _ wx1 ⟨rfl, aX⟩
    have hHx := hHeld.trans aX
    try dsimp only
    refine hKK.out _ _ hHx (fun hHeld => ?_)
    clear hKK KK
    try simp only [Act.put, List.setIfInBounds_toArray, List.set_cons_zero, List.set_cons_succ]
    refine wpAnyH_ready (rs := [15]) (by kernel_rfl) (by simp) ?_
    refine AllReadyH.cons rfl (fun KK hKK => ?_) AllReadyH.nil
    go_simp
    refine (HPF.out wx1 hHeld).mono ?_
    rintro _ wx2 ⟨P, o, cap, rfl, aY, hird⟩
    have hHy := hHeld.trans aY
    try dsimp only
    refine hKK.out _ _ hHy (fun hHeld => ?_)
    clear hKK KK
    try simp only [Act.put, List.setIfInBounds_toArray, List.set_cons_zero, List.set_cons_succ]
    refine tk 16 18 (.tuple #[.slice (some ⟨P, o, none⟩) pp cap, .int .i64 0]) rfl ?_ ?_
    · intro W hSW; go_simp
    simp only [Act.put, List.setIfInBounds_toArray, List.set_cons_zero, List.set_cons_succ]
    refine tk 17 35 (.slice (some ⟨P, o, none⟩) pp cap) rfl ?_ ?_
    · intro W hSW; go_simp
    simp only [Act.put, List.setIfInBounds_toArray, List.set_cons_zero, List.set_cons_succ]
    refine tk 18 36 (.int .i64 0) rfl ?_ ?_
    · intro W hSW; go_simp
    simp only [Act.put, List.setIfInBounds_toArray, List.set_cons_zero, List.set_cons_succ]
    refine tk 19 6 (.slice (some ⟨P, o, none⟩) pp cap) rfl ?_ ?_
    · intro W hSW; go_simp
    simp only [Act.put, List.setIfInBounds_toArray, List.set_cons_zero, List.set_cons_succ]
    refine tk 20 7 (.int .i64 0) rfl ?_ ?_
    · intro W hSW; go_simp
    simp only [Act.put, List.setIfInBounds_toArray, List.set_cons_zero, List.set_cons_succ]
    refine wpAnyH_done (by kernel_rfl) ?_ _
    have HZ := hid (And.intro hHeld hird)
    clear hHeld hird
    go_wp2_with fail
    go_meet
    exact ⟨P, o, cap, rfl, rfl, HZ⟩
  obtain ⟨P, o, cap, rfl, rfl, HN⟩ := hcut
  generalize wc = w4 at *
  clear HRN HPF
  have HPI := hid HN.out.2
  obtain ⟨P0, o0, hP0, hPl, hPc⟩ := HPI.out.rd (by omega)
  simp at hP0
  obtain ⟨rfl, rfl⟩ := hP0
  have hpl := HPI.out.len
  have HPL := hid hpl
  have HPC := hid hPc
  have HLK := hid (HLI.out.kept0 HN.out.1)
  obtain ⟨L0, lo, hL0, hLl, hLc⟩ := HLK.out.rd (by omega)
  have HLC := hid hLc
  have HLL := hid HLK.out.len
  rw [hln] at HLL
  have HCW : Hid (∀ W, Apart [] w4 W → W.cell? ⟨T.S, 10, none⟩ = some (.slice (some ⟨L0, lo, none⟩) nn T.l.c)) := fun W a => by
    have := (HCE.out W (HN.out.1.trans a)).2.2.2.1
    rw [hL0, hln] at this
    exact this
  clear hPc hLc hpl hL0 hLl hPl
  go_wp2_with fail
  go_loopw [8] (fun a wt => ∃ i : Nat, a = .int .i64 (i : Nat) ∧ i ≤ nn ∧ Hid (Apart [] w4 wt ∧ ∀ j (hj : j < lk.length), j < i → lk[j] ∉ pf)) (fun a _ => nn - (intOf a).toNat)
  case atStart => exact ⟨0, rfl, Nat.zero_le _, hid ⟨Apart.refl _ _, fun j _ hj => by omega⟩⟩
  case round =>
    obtain ⟨i, rfl, hile, HI⟩ := hrel
    generalize wr = w5 at *
    have z10 := HCW.out w5 HI.out.1
    by_cases hlt : i < nn
    · have hlti : ((i : Nat) : Int) < ((nn : Nat) : Int) := by omega
      obtain ⟨x, Hx⟩ : ∃ x : Int, Hid (x = lk[i]'(by rw [HLL.out]; exact hlt)) := ⟨_, hid rfl⟩
      go_wp2_with fail
      clear z10
      go_loopw [9] (fun a wt => ∃ k : Nat, a = .int .i64 (k : Nat) ∧ k ≤ pp ∧ Hid (Apart [] w5 wt ∧ ∀ j (hj : j < pf.length), j < k → pf[j] ≠ x)) (fun a _ => pp - (intOf a).toNat)
      case atStart => exact ⟨0, rfl, Nat.zero_le _, hid ⟨Apart.refl _ _, fun j _ hj => by omega⟩⟩
      case round =>
        obtain ⟨k, rfl, hkle, HK⟩ := hrel
        by_cases hkt : k < pp
        · have hkti : ((k : Nat) : Int) < ((pp : Nat) : Int) := by omega
          obtain ⟨y, Hy⟩ : ∃ y : Int, Hid (y = pf[k]'(by rw [HPL.out]; exact hkt)) := ⟨_, hid rfl⟩
          have HYW : Hid (∀ W, Apart [] w5 W → W.cell? ⟨P, o + k, none⟩ = some (.int .i64 y) ∧ W.cell? ⟨T.S, 10, none⟩ = some (.slice (some ⟨L0, lo, none⟩) nn T.l.c) ∧ W.cell? ⟨L0, lo + i, none⟩ = some (.int .i64 x)) := fun W a => by
            have b := HI.out.1.trans a
            have c1 := HPC.out k (by rw [HPL.out]; exact hkt)
            have c2 := HLC.out i (by rw [HLL.out]; exact hlt)
            rw [← Hy.out] at c1
            rw [← Hx.out] at c2
            exact ⟨(b.cell (block_lt_of_cell c1) (by simp)).trans c1, HCW.out W b, (b.cell (block_lt_of_cell c2) (by simp)).trans c2⟩
          go_upto_region 10 with fail
          obtain ⟨be, Hbe⟩ : ∃ b : Bool, Hid (b = (y == x)) := ⟨_, hid rfl⟩
          go_cut [63] from 52 to 63 (fun s63 wx => s63 = .bool be ∧ Hid (Apart [] w5 wx))
          case first =>
            have hAd : Apart [] w5 wr.drew := HK.out.1.trans ((Apart.refl [] wr).drew)
            refine wp_region_held_drew (S := fun W => Apart [] w5 W) (by kernel_rfl) hAd (fun hHeld => ?_)
            generalize wr.drew = wd at *
            clear hAd
            refine tk 0 52 (.slice (some ⟨P, o, none⟩) pp cap) rfl ?_ ?_
            · intro W hSW; go_simp
            simp only [Act.put, List.setIfInBounds_toArray, List.set_cons_zero, List.set_cons_succ]
            refine tk 1 53 (.int .i64 (k : Nat)) rfl ?_ ?_
            · intro W hSW; go_simp
            simp only [Act.put, List.setIfInBounds_toArray, List.set_cons_zero, List.set_cons_succ]
            refine tk 2 54 (.pointer (some ⟨P, o + k, none⟩)) rfl ?_ ?_
            · intro W hSW; go_simp
            simp only [Act.put, List.setIfInBounds_toArray, List.set_cons_zero, List.set_cons_succ]
            refine tk 3 55 (.int .i64 y) rfl ?_ ?_
            · intro W hSW; obtain ⟨u0, u1, u2⟩ := HYW.out W hSW; go_simp
            simp only [Act.put, List.setIfInBounds_toArray, List.set_cons_zero, List.set_cons_succ]
            refine tk 4 56 (.pointer (some ⟨T.S, 0, none⟩)) rfl ?_ ?_
            · intro W hSW; go_simp
            simp only [Act.put, List.setIfInBounds_toArray, List.set_cons_zero, List.set_cons_succ]
            refine tk 5 57 (.pointer (some ⟨T.S, 0, none⟩)) rfl ?_ ?_
            · intro W hSW; go_simp
            simp only [Act.put, List.setIfInBounds_toArray, List.set_cons_zero, List.set_cons_succ]
            refine tk 6 58 (.pointer (some ⟨T.S, 10, none⟩)) rfl ?_ ?_
            · intro W hSW; go_simp
            simp only [Act.put, List.setIfInBounds_toArray, List.set_cons_zero, List.set_cons_succ]
            refine tk 7 59 (.slice (some ⟨L0, lo, none⟩) nn T.l.c) rfl ?_ ?_
            · intro W hSW; obtain ⟨u0, u1, u2⟩ := HYW.out W hSW; go_simp
            simp only [Act.put, List.setIfInBounds_toArray, List.set_cons_zero, List.set_cons_succ]
            refine tk 8 60 (.int .i64 (i : Nat)) rfl ?_ ?_
            · intro W hSW; go_simp
            simp only [Act.put, List.setIfInBounds_toArray, List.set_cons_zero, List.set_cons_succ]
            refine tk 9 61 (.pointer (some ⟨L0, lo + i, none⟩)) rfl ?_ ?_
            · intro W hSW; go_simp
            simp only [Act.put, List.setIfInBounds_toArray, List.set_cons_zero, List.set_cons_succ]
            refine tk 10 62 (.int .i64 x) rfl ?_ ?_
            · intro W hSW; obtain ⟨u0, u1, u2⟩ := HYW.out W hSW; go_simp
            simp only [Act.put, List.setIfInBounds_toArray, List.set_cons_zero, List.set_cons_succ]
            refine tk 11 63 (.bool be) rfl ?_ ?_
            · intro W hSW; rw [Hbe.out]; go_simp
            simp only [Act.put, List.setIfInBounds_toArray, List.set_cons_zero, List.set_cons_succ]
            refine wpAnyH_done (by kernel_rfl) ?_ _
            have HZ := hid hHeld
            clear hHeld
            go_wp2_with fail
            go_meet
            exact ⟨rfl, HZ⟩
          obtain ⟨rfl, HK2⟩ := hcut
          cases be with
          | true =>
            have hyx : y = x := by have := Hbe.out; simpa using this.symm
            obtain ⟨u0, u1, u2⟩ := HYW.out wc HK2.out
            have hin : x ∈ pf := by rw [← hyx, Hy.out]; exact List.getElem_mem _
            have HF : Hid (lk.find? (fun y => decide (y ∈ pf)) = some y) := by
              rw [hyx]
              have := find_first (by rw [HLL.out]; exact hlt) HI.out.2 (by rw [← Hx.out]; exact hin)
              rw [← Hx.out] at this
              exact hid this
            have HA := hid ((HN.out.1.trans HI.out.1).trans HK2.out)
            clear hyx hin
            go_wp2_with fail
            go_ret2
            unfold NextP
            exact ⟨fun hh => (by cases hh), fun _ => ⟨_, rfl, HF.out⟩, HA.out⟩
          | false =>
            have hyx : y ≠ x := by have := Hbe.out; simpa using this.symm
            have HE : Hid (Apart [] w5 wc ∧ ∀ j (hj : j < pf.length), j < k + 1 → pf[j] ≠ x) := hid ⟨HK2.out, fun j hj hj2 => by
              by_cases hjk : j = k
              · subst hjk; rw [← Hy.out]; exact hyx
              · exact HK.out.2 j hj (by omega)⟩
            clear hyx
            go_wp2_with fail
            go_roundw
            case rel => exact ⟨k + 1, by go_num, by omega, HE⟩
            case measure => simp [intOf]; omega
        · have hkti : ¬ ((k : Nat) : Int) < ((pp : Nat) : Int) := by omega
          have HE : Hid (Apart [] w4 wr ∧ ∀ j (hj : j < lk.length), j < i + 1 → lk[j] ∉ pf) := hid ⟨HI.out.1.trans HK.out.1, fun j hj hj2 hm => by
            by_cases hji : j = i
            · subst hji
              rw [← Hx.out] at hm
              obtain ⟨m, hm1, hm2⟩ := List.mem_iff_getElem.1 hm
              exact HK.out.2 m hm1 (by have := HPL.out; omega) hm2
            · exact HI.out.2 j hj (by omega) hm⟩
          go_wp2_with fail
          go_roundw
          case rel => exact ⟨i + 1, by go_num, by omega, HE⟩
          case measure => simp [intOf]; omega
    · exfalso
      obtain ⟨y, hy1, hy2⟩ := HEX.out
      obtain ⟨m, hm1, hm2⟩ := List.mem_iff_getElem.1 hy1
      exact HI.out.2 m hm1 (by have := HLL.out; omega) (by rw [hm2]; exact hy2)
end Go.Proofs.YtpddokbjjhbfgaaGreat.ds
