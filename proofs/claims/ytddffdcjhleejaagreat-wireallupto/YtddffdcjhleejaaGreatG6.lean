import Derived.Test.YtddffdcjhleejaaGreatG5
import Derived.Deep.RegionHeld
import Derived.Great.BuildSlice
import Derived.Laws.BytesString
import Derived.Laws.AppendOwnNone
import Derived.Laws.CopyOwn
import Derived.Lib.Overlaps
import Derived.Lib.AppendZerosOnto
import Derived.Laws.NewBlocks
import Derived.Laws.Externs
import Derived.Laws.IdiomCopy
import Derived.RangeFuncNested
import Derived.RangeFuncBound
import Derived.RangeFuncCalls
import Derived.RangeFuncLeaves
import Derived.Shelf.Abstract
import Derived.Shelf.RegionOpen
import Derived.WalkKit
import Derived.OwnWalkIn
import Derived.TacticsInMore
import Derived.LoopNIn
import Derived.LoopIn
import Derived.Deep.CutRange
import Derived.Deep.OwnRows
import Derived.Lib.Walk
import Derived.Lib.SliceRun
import Derived.Test.YtddffdcjhleejaaGreatG1
import Derived.Test.YtddffdcjhleejaaGreatRows
import Derived.Lib.LaidTab
import Derived.JoinedCond
import Derived.ShutString
import Derived.ChangeOld
import Derived.Below
import Derived.Carry
import Derived.ChangeSlices
import Derived.Deep.Slices
import Derived.Deep.DeepHandedRow
import Derived.RowKit
import Derived.ChangeShapes
import Derived.SizedLaws
import Derived.ChangeMaps5
import Derived.Test.YtddffdcjhleejaaGreatG3
import Derived.WalkLawsBesides
namespace Go.Proofs.YtddffdcjhleejaaGreat.ds
open Go.ChangeShapes Go.WideShapes Go.ChangeAt Go.RowKit Go.Sort
set_option linter.unusedVariables false
set_option linter.unusedSimpArgs false
theorem own_typ {w : World} {base : Nat} {e : TypeId} {size : Nat} {v : Value} {n : Nat} {xs : List Value} (h : w.ownsRow base e size v n xs) {k : Nat} (hk : v.ownBlock = some k) : ∃ cur, w.heap[k]? = some (.cells cur e (0, 0)) := by
  obtain ⟨_, ⟨hv, _⟩ | ⟨g, cap, cur, hv, _, hr, _⟩⟩ := h
  · rw [hv] at hk; simp [Value.ownBlock] at hk
  · rw [hv] at hk; simp [Value.ownBlock] at hk; subst hk; exact ⟨cur, hr⟩
def Wr.z : Wr := ⟨0, 0, ⟨#[]⟩, false, [], []⟩
def gR (rs : List Wr) (k : Nat) : Wr := rs.getD k Wr.z
/-- a write of new memory, its slices too -/
structure Fresh (w wr : World) (e : E) (r : Wr) : Prop where
  n : e.n = r.n
  c : e.c = r.c
  k : e.k = r.k
  d : e.d = r.d
  v : Nw w wr 5 1 e.v (byts r.vs)
  vn : r.vs.length = e.v.n
  vl : e.v.n ≤ 2000000
  vb : ∀ b ∈ r.vs, b < 256
  x : Nw w wr 48 3 e.x (flat r.xs)
  xn : r.xs.length = e.x.n
  xl : e.x.n ≤ 2000000
  xf : ∀ y ∈ r.xs, y.t < 2 ^ 64
theorem Fresh.kept {w wr w' : World} {e : E} {r : Wr} {X : List Nat} (h : Fresh w wr e r) (a : Apart X wr w') (aw : Apart [] w w') (hX : ∀ k ∈ X, ∀ cur, wr.heap[k]? ≠ some (.cells cur 5 (0, 0)) ∧ wr.heap[k]? ≠ some (.cells cur 48 (0, 0))) : Fresh w w' e r :=
  { h with
    v := ⟨own_apart h.v.own a (fun k hk hm => by obtain ⟨cur, e1⟩ := own_typ h.v.own hk; exact (hX k hm cur).1 e1), h.v.new, aw⟩
    x := ⟨own_apart h.x.own a (fun k hk hm => by obtain ⟨cur, e1⟩ := own_typ h.x.own hk; exact (hX k hm cur).2 e1), h.x.new, aw⟩ }
theorem Fresh.kept0 {w wr w' : World} {e : E} {r : Wr} (h : Fresh w wr e r) (a : Apart [] wr w') : Fresh w w' e r := h.kept a (h.v.ap.trans a) (by simp)
end Go.Proofs.YtddffdcjhleejaaGreat.ds
namespace Go.Proofs.YtddffdcjhleejaaGreat.ds
open Go.ChangeShapes Go.WideShapes Go.ChangeAt Go.RowKit Go.Sort
set_option linter.unusedVariables false
set_option linter.unusedSimpArgs false
/-- a list of writes of the call's own -/
structure OwnE (w W : World) (s : Sl) (es : List E) : Prop where
  nw : Nw w W 37 6 s (flatE es)
  len : es.length = s.n
theorem OwnE.kept {w W W' : World} {s : Sl} {es : List E} (h : OwnE w W s es) (a : Apart [] W W') : OwnE w W' s es := ⟨h.nw.kept a, h.len⟩
end Go.Proofs.YtddffdcjhleejaaGreat.ds
namespace Go.Proofs.YtddffdcjhleejaaGreat.ds
open Go.ChangeShapes Go.WideShapes Go.ChangeAt Go.RowKit
set_option linter.unusedVariables false
set_option linter.unusedSimpArgs false
def strB (bs : List Nat) : ByteArray := (bs.map (fun (b : Nat) => (b : Int))).foldl (fun r n => r.push (UInt8.ofNat n.toNat)) ByteArray.empty
theorem conv_bytes {w : World} {s : Sl} {bs : List Nat} (h : Rd w s.p (byts bs)) (hl : bs.length = s.n) (ok : s.ok) : Sem.run Tryz.prog (convert 30 9 (.slice s.p s.n s.c)) w = .ok (.string (strB bs)) w := by
  rw [run_convert_bytes_string w 30 9 5 _ _ _ Tryz.underlying30 Tryz.underlying5 Tryz.underlying9]
  obtain ⟨p, n, c⟩ := s
  unfold Sl.ok at ok
  simp only at h hl ok ⊢
  have hbl : (byts bs).length = n := by simp [byts, hl]
  cases p with
  | none =>
    obtain ⟨rfl, rfl⟩ := ok rfl
    obtain rfl : bs = [] := List.eq_nil_of_length_eq_zero hl
    simp [Conv.bytesToString, strB]
  | some a =>
    refine run_bytesToString w _ _ _ (bs.map (fun (b : Nat) => (b : Int))) ?_
    have := run_loadCells_list (P := Tryz.prog) w a (byts bs) (fun j v hv => by
      obtain ⟨P, o, e, _, hc⟩ := h (by
        by_cases h0 : 0 < (byts bs).length
        · exact h0
        · rw [List.getElem?_eq_none (by omega)] at hv; cases hv)
      cases e
      rw [Addr.add_lit]; exact hc j v hv)
    rw [hbl] at this
    rw [this]
    simp [byts]
end Go.Proofs.YtddffdcjhleejaaGreat.ds
namespace Go.Proofs.YtddffdcjhleejaaGreat.ds
open Go.ChangeShapes Go.WideShapes Go.ChangeAt Go.RowKit Go.Sort
set_option linter.unusedVariables false
set_option linter.unusedSimpArgs false
/-- append to nil -/
theorem run_appNil (w : World) (t ty e : TypeId) (i : TypeInfo) (z : Value) (size bytes : Nat) (ht : Tryz.prog.underlying t = some (.slice e)) (hi : Tryz.prog.info? e = some i) (hz : i.zero = some z) (hsize : i.size = size) (hby : i.bytes = bytes) (hzs : z.cells.size = size) (hsz : 0 < size)
    (s : Sl) (us : List Value) (h : Rd w s.p us) (hl : us.length = s.n * size) (one : ∀ u ∈ us, u.oneCell' = true) (h63 : s.n ≤ 2000000) (hb : s.n * bytes ≤ 140737488355328) (ok : s.ok) :
    ∃ s' w', (Builtin.append_ #[t, t] ty #[.slice none 0 0, s.v]).run Tryz.prog w = .ok (Sl.v s') w' ∧ Nw w w' e size s' us ∧ s'.n = s.n := by
  obtain ⟨p, N, c⟩ := s
  unfold Sl.ok at ok
  simp only at h hl h63 hb ok
  cases p with
  | none =>
    obtain ⟨rfl, rfl⟩ := ok rfl
    have hu : us = [] := List.length_eq_zero_iff.1 (by omega)
    subst hu
    exact ⟨⟨none, 0, 0⟩, w, run_append_owned_none (P := Tryz.prog) w 0 t ty e i size ht hi (.slice none 0 0) 0 [] (World.ownsRow_nil _ _ _ _), ⟨World.ownsRow_nil _ _ _ _, by simp [Sl.v, Value.ownBlock], Apart.refl _ _⟩, rfl⟩
  | some ad =>
    have hcs : ∀ j u, us[j]? = some u → w.cell? (ad.add j) = some u := by
      intro j u hj
      have hjl : j < us.length := by
        by_cases hc : j < us.length
        · exact hc
        · rw [List.getElem?_eq_none (by omega)] at hj; cases hj
      obtain ⟨P, o, e1, hP, hc⟩ := h (by omega)
      simp at e1
      subst e1
      rw [Addr.add_lit]
      exact hc j u hj
    obtain ⟨v', w', hrun, r1, r2, r3⟩ := run_append_own (P := Tryz.prog) (w := w) w.heap.size t ty e i z size bytes ht hi hz hsize hby hzs hsz (.slice none 0 0) 0 [] (World.ownsRow_nil _ _ _ _) ad N c us hl hcs one (by unfold maxLen; omega) (by simpa using hb) (Nat.le_refl _)
    rw [Nat.zero_add, List.nil_append] at r1
    have ap : Apart [] w w' := by have := apart_grown r2; simpa [Value.ownBlock] using this
    have hnew : ∀ k, v'.ownBlock = some k → w.heap.size ≤ k := fun k hk => (r1.lt k hk).1
    have r0 := own_base r1 (Nat.zero_le _)
    obtain ⟨s', rfl, hs'⟩ : ∃ s' : Sl, v' = s'.v ∧ s'.n = N := by
      obtain ⟨_, ⟨hv, hz⟩ | ⟨g, cap, cur, hv, _⟩⟩ := r1
      · exact ⟨⟨none, 0, 0⟩, hv, hz.symm⟩
      · exact ⟨⟨some ⟨g, 0, none⟩, N, cap⟩, hv, rfl⟩
    exact ⟨s', w', hrun, ⟨by rw [hs']; exact r0, hnew, ap⟩, hs'⟩
theorem appB (w : World) (s : Sl) (r : List Nat) (ty : TypeId) (h : Rd w s.p (byts r)) (hl : r.length = s.n) (hn : s.n ≤ 2000000) (ok : s.ok) :
    ∃ s' w', (Builtin.append_ #[30, 30] ty #[.slice none 0 0, s.v]).run Tryz.prog w = .ok (Sl.v s') w' ∧ Nw w w' 5 1 s' (byts r) ∧ s'.n = s.n := by
  obtain ⟨i0, hi, hz0, hz1, hz2⟩ := info_parts infoB
  exact run_appNil w 30 ty 5 i0 _ 1 1 Tryz.underlying30 hi hz0 hz1 hz2 rfl (by decide) s _ h (by simp [byts, hl]) (oneB _) hn (by omega) ok
end Go.Proofs.YtddffdcjhleejaaGreat.ds
namespace Go.Proofs.YtddffdcjhleejaaGreat.ds
open Go.ChangeShapes Go.WideShapes Go.ChangeAt Go.RowKit Go.Sort
set_option linter.unusedVariables false
set_option linter.unusedSimpArgs false
/-- several more at a list's end -/
theorem run_appS {w W : World} {s : Sl} {us : List Value} (t ty e : TypeId) (i : TypeInfo) (z : Value) (size bytes : Nat) (ht : Tryz.prog.underlying t = some (.slice e)) (hi : Tryz.prog.info? e = some i) (hz : i.zero = some z) (hsize : i.size = size) (hby : i.bytes = bytes) (hzs : z.cells.size = size) (hsz : 0 < size)
    (h : Nw w W e size s us) (ad : Addr) (m c : Nat) (cs : List Value) (hm : 0 < m) (hcl : cs.length = m * size) (hcs : ∀ j u, cs[j]? = some u → W.cell? (ad.add j) = some u) (one : ∀ u ∈ cs, u.oneCell' = true) (h63 : s.n + m ≤ maxLen) (hb : (s.n + m) * bytes ≤ 140737488355328) :
    ∃ s' W', (Builtin.append_ #[t, t] ty #[s.v, .slice (some ad) m c]).run Tryz.prog W = .ok (Sl.v s') W' ∧ Nw w W' e size s' (us ++ cs) ∧ s'.n = s.n + m ∧ Apart s.v.ownBlock.toList W W' ∧ ∃ k, s'.p = some ⟨k, 0, none⟩ ∧ s'.n ≤ s'.c ∧ (s.v.ownBlock = some k ∨ W.heap.size ≤ k) := by
  have key : ∃ v' W', (Builtin.append_ #[t, t] ty #[s.v, .slice (some ad) m c]).run Tryz.prog W = .ok v' W' ∧ W'.ownsRow 0 e size v' (s.n + m) (us ++ cs) ∧ W.grownBy W' s.v.ownBlock ∧ NewOr W s.v v' :=
    run_append2 W t ty e i z size bytes ht hi hz hsize hby hzs hsz s.v s.n us h.own ad m c cs hm hcl hcs one h63 hb
  obtain ⟨v', W', hrun, r1, r2, r3⟩ := key
  have ap : Apart s.v.ownBlock.toList W W' := apart_grown r2
  obtain ⟨k, c, rfl, hle⟩ : ∃ k c, v' = .slice (some ⟨k, 0, none⟩) (s.n + m) c ∧ s.n + m ≤ c := by
    obtain ⟨_, ⟨hv, hz⟩ | ⟨g, cap, cur, hv, _, _, hle, _⟩⟩ := r1
    · exact absurd hz (by omega)
    · exact ⟨g, cap, hv, hle⟩
  have hk : s.v.ownBlock = some k ∨ W.heap.size ≤ k := by
    rcases r3 with r3 | ⟨q, r3, hq⟩
    · left; rw [← r3]; rfl
    · right
      simp [Value.ownBlock] at r3
      omega
  refine ⟨⟨some ⟨k, 0, none⟩, s.n + m, c⟩, W', hrun, ⟨r1, fun b hb => ?_, h.ap.trans' ap (fun y hy => ?_)⟩, rfl, ap, k, rfl, hle, hk⟩
  · simp [Sl.v, Value.ownBlock] at hb
    subst hb
    rcases hk with hk | hk
    · exact h.new _ hk
    · have := h.ap.size; omega
  · simp at hy
    exact .inr (h.new y hy)
/-- .. out of a row that was just made -/
theorem run_appM {w W : World} {s : Sl} {us : List Value} (t ty e : TypeId) (i : TypeInfo) (z : Value) (size bytes : Nat) (ht : Tryz.prog.underlying t = some (.slice e)) (hi : Tryz.prog.info? e = some i) (hz : i.zero = some z) (hsize : i.size = size) (hby : i.bytes = bytes) (hzs : z.cells.size = size) (hsz : 0 < size)
    (h : Nw w W e size s us) (m : Nat) (cs : List Value) (hm : 0 < m) (hcl : cs.length = m * size) (one : ∀ u ∈ cs, u.oneCell' = true) (h63 : s.n + m ≤ maxLen) (hb : (s.n + m) * bytes ≤ 140737488355328) :
    ∃ s' W', (Builtin.append_ #[t, t] ty #[s.v, .slice (some ⟨W.heap.size, 0, none⟩) m m]).run Tryz.prog (W.alloc (.cells cs.toArray e)) = .ok (Sl.v s') W' ∧ Nw w W' e size s' (us ++ cs) ∧ s'.n = s.n + m ∧ Apart s.v.ownBlock.toList W W' ∧ ∃ k, s'.p = some ⟨k, 0, none⟩ ∧ s'.n ≤ s'.c ∧ (s.v.ownBlock = some k ∨ W.heap.size ≤ k) := by
  have a1 : Apart [] W (W.alloc (.cells cs.toArray e)) := (Apart.refl [] W).alloc _
  have hcs : ∀ j u, cs[j]? = some u → (W.alloc (.cells cs.toArray e)).cell? ((⟨W.heap.size, 0, none⟩ : Addr).add j) = some u := by
    intro j u hj
    rw [Addr.add_lit, Nat.zero_add, cell_of_row _ _ _ _ _ _ (heap_alloc_new W (.cells cs.toArray e))]
    simpa using hj
  obtain ⟨s', W', hrun, r1, r2, r3, k, r4, r5, r6⟩ := run_appS t ty e i z size bytes ht hi hz hsize hby hzs hsz (h.kept a1) ⟨W.heap.size, 0, none⟩ m m cs hm hcl hcs one h63 hb
  exact ⟨s', W', hrun, r1, r2, (a1.mono (by simp)).trans r3, k, r4, r5, r6.imp id (fun h => Nat.le_trans a1.size h)⟩
end Go.Proofs.YtddffdcjhleejaaGreat.ds
namespace Go.Proofs.YtddffdcjhleejaaGreat.ds
open Go.ChangeShapes Go.WideShapes Go.ChangeAt Go.RowKit Go.Sort
set_option linter.unusedVariables false
set_option linter.unusedSimpArgs false
theorem Sp.of_rd {w : World} {p : Option Addr} {xs : List S} (h : Rd w p (flat xs)) : Sp w p xs := by
  intro h0
  obtain ⟨P, o, e, hP, hc⟩ := h (by rw [flat_length]; omega)
  refine ⟨P, o, e, hP, fun i hi => ?_⟩
  obtain ⟨a, b, c⟩ := flat_get xs i hi
  simp only [Nat.add_assoc]
  exact ⟨hc _ _ a, hc _ _ b, hc _ _ c⟩
end Go.Proofs.YtddffdcjhleejaaGreat.ds
namespace Go.Proofs.YtddffdcjhleejaaGreat.ds
open Go.ChangeShapes Go.WideShapes Go.ChangeAt Go.RowKit Go.Shelf
set_option linter.unusedVariables false
set_option linter.unusedSimpArgs false
attribute [local go_sem] Oper.semAt_some
/-- the first m of the numbers below N, downward -/
def dn (N : Nat) : Nat → List (Fin N)
  | 0 => []
  | m + 1 => dn N m ++ (if h : N - 1 - m < N then [⟨N - 1 - m, h⟩] else [])
end Go.Proofs.YtddffdcjhleejaaGreat.ds
namespace Go.Proofs.YtddffdcjhleejaaGreat.ds
open Go.ChangeShapes Go.WideShapes Go.ChangeAt Go.RowKit Go.Sort
set_option linter.unusedVariables false
set_option linter.unusedSimpArgs false
theorem Nw.keepT {w0 w w' : World} {e size : Nat} {s : Sl} {us : List Value} {X : List Nat} (h : Nw w0 w e size s us) (a : Apart X w w') (ap : Apart [] w0 w') (hX : ∀ k ∈ X, ∀ cur, w.heap[k]? ≠ some (.cells cur e (0, 0))) : Nw w0 w' e size s us :=
  ⟨own_apart h.own a (fun k hk hm => by obtain ⟨cur, e1⟩ := own_typ h.own hk; exact hX k hm cur e1), h.new, ap⟩
end Go.Proofs.YtddffdcjhleejaaGreat.ds
namespace Go.Proofs.YtddffdcjhleejaaGreat.ds
open Go.ChangeShapes Go.WideShapes Go.ChangeAt Go.RowKit Go.Sort
set_option linter.unusedVariables false
set_option linter.unusedSimpArgs false
theorem wpList_app2 {w : World} {ops : Array Oper} {rest : List Oper} {o : Oper} {a : Act} {Q : Exit → Act → World → Prop} (hgd : o.guard = none) (s x : Operand) (t t' : TypeId)
    (ho : o.op = .call { callee := .builtin .append, args := #[s, x], argTypes := #[t, t'] }) (v u : Value) (hs : a.eval s = v) (hx : a.eval x = u) (v' : Value) (w' : World)
    (hrun : (Builtin.append_ #[t, t'] o.type #[v, u]).run Tryz.prog w = .ok v' w') (hK : wpList Tryz.prog ops Q rest (a.put o.dst v') w') : wpList Tryz.prog ops Q (o :: rest) a w := by
  refine wpList_plain hgd fun K hK' => ?_
  unfold Oper.wp
  simp [execOp, ho, resolve, invoke, builtin, hs, hx, hrun, Result.andThen]
  exact hK' _ _ hK
end Go.Proofs.YtddffdcjhleejaaGreat.ds
namespace Go.Proofs.YtddffdcjhleejaaGreat.ds
open Go.ChangeShapes Go.WideShapes Go.ChangeAt Go.RowKit Go.Sort
set_option linter.unusedVariables false
set_option linter.unusedSimpArgs false
/-- an operation that is not wanted, of whatever kind -/
theorem wpAnyH_pass {P : Program} {ops : Array Oper} {Q : Exit → Act → World → Prop} {md : Region.Mode} {S : World → Prop} {fuel : Nat} {listed : Array Bool} {a : Act} {w : World} (i : Nat) {o : Oper} (hr : Region.ready md ops listed = [i]) (ho : ops[i]? = some o) (hw : Region.wanted o (yielded ops a.tmps) = false) (hS : S w) (h : wpAnyH P md ops Q S fuel (listed.setIfInBounds i true) (a.put o.dst undef) w) : wpAnyH P md ops Q S (fuel + 1) listed a w :=
  wpAnyH_ready hr (by simp) (AllReadyH.cons ho (fun K' hK => by rw [if_neg (by rw [hw]; simp)]; exact hK.out _ _ hS (fun _ => h)) AllReadyH.nil)
end Go.Proofs.YtddffdcjhleejaaGreat.ds
namespace Go.Proofs.YtddffdcjhleejaaGreat.ds
open Go.ChangeShapes Go.WideShapes Go.ChangeAt Go.RowKit Go.Sort
set_option linter.unusedVariables false
set_option linter.unusedSimpArgs false
theorem Nw.from {w0 w w' : World} {e size : Nat} {s : Sl} {us : List Value} (h : Nw w w' e size s us) (a : Apart [] w0 w) : Nw w0 w' e size s us := ⟨h.own, fun k hk => Nat.le_trans a.size (h.new k hk), a.trans h.ap⟩
end Go.Proofs.YtddffdcjhleejaaGreat.ds
namespace Go.Proofs.YtddffdcjhleejaaGreat.ds
open Go.ChangeShapes Go.WideShapes Go.ChangeAt Go.RowKit Go.Sort
set_option linter.unusedVariables false
set_option linter.unusedSimpArgs false
theorem gR_eq (rs : List Wr) (k : Nat) (h : k < rs.length) : gR rs k = rs[k] := by simp [gR, List.getD_eq_getElem?_getD, h]
end Go.Proofs.YtddffdcjhleejaaGreat.ds
namespace Go.Proofs.YtddffdcjhleejaaGreat.ds
open Go.ChangeShapes Go.WideShapes Go.ChangeAt Go.RowKit Go.Sort
set_option linter.unusedVariables false
set_option linter.unusedSimpArgs false
theorem isd_iff (dn dc : Int) : isd dn dc = true ↔ IsDot dn dc := by unfold isd IsDot; simp
end Go.Proofs.YtddffdcjhleejaaGreat.ds
namespace Go.Proofs.YtddffdcjhleejaaGreat.ds
open Go.ChangeShapes Go.WideShapes Go.ChangeAt Go.RowKit
set_option linter.unusedVariables false
end Go.Proofs.YtddffdcjhleejaaGreat.ds

namespace Go.Proofs.YtddffdcjhleejaaGreat.ds
open Go.ChangeShapes Go.WideShapes Go.ChangeAt Go.RowKit Go.Sort
set_option linter.unusedVariables false
set_option linter.unusedSimpArgs false
/-- a list of new writes, in new memory -/
structure FL (w wr : World) (s : Sl) (es : List E) (rs : List Wr) : Prop where
  own : OwnE w wr s es
  len : rs.length = s.n
  fr : ∀ j, j < s.n → Fresh w wr (gE es j) (gR rs j)
theorem FL.kept {w wr wx : World} {s : Sl} {es : List E} {rs : List Wr} (h : FL w wr s es rs) (a : Apart [] wr wx) : FL w wx s es rs := ⟨h.own.kept a, h.len, fun j hj => (h.fr j hj).kept0 a⟩
end Go.Proofs.YtddffdcjhleejaaGreat.ds
namespace Go.Proofs.YtddffdcjhleejaaGreat.ds
open Go.ChangeShapes Go.WideShapes Go.ChangeAt Go.RowKit Go.Deep Go.Sort
set_option linter.unusedVariables false
set_option linter.unusedSimpArgs false
set_option maxRecDepth 100000
theorem own : ownKnob Tryz.prog.godebug = none := by kernel_rfl
end Go.Proofs.YtddffdcjhleejaaGreat.ds
namespace Go.Proofs.YtddffdcjhleejaaGreat.ds
open Go.ChangeShapes Go.WideShapes Go.ChangeAt Go.RowKit Go.Sort
set_option linter.unusedVariables false
set_option linter.unusedSimpArgs false
theorem hid {p : Prop} (h : p) : Hid p := h
/-- a number as it is written -/
def enc (n : Nat) : List Nat := if h : n < 128 then [n] else (n % 128 + 128) :: enc (n / 128)
termination_by n
decreasing_by omega
theorem enc_small {n : Nat} (h : n < 128) : enc n = [n] := by rw [enc, dif_pos h]
theorem enc_big {n : Nat} (h : ¬ n < 128) : enc n = (n % 128 + 128) :: enc (n / 128) := by rw [enc, dif_neg h]
/-- the number that stands at a place: the number, whether it stands in its one form, the place behind it; or where the bytes go wrong -/
def rnum (B : List Nat) : Nat → Nat → Nat → Nat → Except Nat (Nat × Bool × Nat)
  | 0, _, _, _ => .error 0
  | f + 1, i, p, acc =>
    if p < B.length then
      if i = 9 then .ok (acc ||| (B.getD p 0 % 128) <<< (7 * i) % 18446744073709551616, decide (B.getD p 0 = 1), p + 1)
      else if B.getD p 0 < 128 then .ok (acc ||| (B.getD p 0 % 128) <<< (7 * i) % 18446744073709551616, decide (B.getD p 0 ≠ 0) || decide (i = 0), p + 1)
      else rnum B f (i + 1) (p + 1) (acc ||| (B.getD p 0 % 128) <<< (7 * i) % 18446744073709551616)
    else .error B.length
/-- a panic of the reader -/
def wrongAt (p : Nat) : Ending := .panicked [{ v := .iface 116 (.int .i64 (p : Nat)), recovered := false }]
/-- a reader in memory, and its bytes -/
structure RB (wB w : World) (R : Nat) (p : Option Addr) (N c : Nat) (B : List Nat) (at' : Nat) : Prop where
  blk : w.heap[R]? = some (.cells #[.slice p N c, .int .i64 (at' : Nat)] 115 (0, 0))
  rd : Rd w p (byts B)
  len : B.length = N
  lim : N ≤ 1000000
  le : at' ≤ N
  cap : N ≤ c
  old : ∀ P o, p = some ⟨P, o, none⟩ → P < wB.heap.size
  b8 : ∀ b ∈ B, b < 256
  ok : p = none → N = 0 ∧ c = 0
  ap : Apart [] wB w
  xb : wB.heap.size ≤ R
theorem RB.kept {wB w w' : World} {R : Nat} {p : Option Addr} {N c : Nat} {B : List Nat} {at' : Nat} (h : RB wB w R p N c B at') (a : Apart [] w w') : RB wB w' R p N c B at' :=
  { h with blk := (a.block _ (lt_of_heap h.blk) (by simp)).trans h.blk, rd := h.rd.kept0 a, ap := h.ap.trans a }
theorem RB.cells {wB w : World} {R : Nat} {p : Option Addr} {N c : Nat} {B : List Nat} {at' : Nat} (h : RB wB w R p N c B at') : w.cell? ⟨R, 0, none⟩ = some (.slice p N c) ∧ w.cell? ⟨R, 1, none⟩ = some (.int .i64 (at' : Nat)) ∧ w.frozen? ⟨R, 1, none⟩ = false := by
  refine ⟨?_, ?_, frozen_of_row _ _ 1 _ _ h.blk⟩
  · rw [cell_of_row _ _ _ _ _ _ h.blk]; rfl
  · rw [cell_of_row _ _ _ _ _ _ h.blk]; rfl
theorem RB.move {wB w : World} {R : Nat} {p : Option Addr} {N c : Nat} {B : List Nat} {at' : Nat} (h : RB wB w R p N c B at') (q : Nat) (hq : q ≤ N) : RB wB (w.setCell ⟨R, 1, none⟩ (.int .i64 (q : Nat))) R p N c B q := by
  have a : Apart [R] w (w.setCell ⟨R, 1, none⟩ (.int .i64 (q : Nat))) := (Apart.refl _ _).setCell (.inl (by simp)) _
  refine { h with blk := ?_, rd := ?_, le := hq, ap := h.ap.setCell (.inr h.xb) _ }
  · have := heap_setCell_same w R 1 _ 115 (.int .i64 (q : Nat)) h.blk
    simpa using this
  · intro h0
    obtain ⟨P, o, e, hP, hc⟩ := h.rd h0
    exact ⟨P, o, e, Nat.lt_of_lt_of_le hP a.size, fun j v hj => (a.cell hP (by have := h.old P o e; have := h.xb; simp; omega)).trans (hc j v hj)⟩
theorem RB.byte {wB w : World} {R : Nat} {p : Option Addr} {N c : Nat} {B : List Nat} {at' : Nat} (h : RB wB w R p N c B at') (i : Nat) (hi : i < N) : ∃ P o, p = some ⟨P, o, none⟩ ∧ P < w.heap.size ∧ w.cell? ⟨P, o + i, none⟩ = some (.int .u8 ((B.getD i 0 : Nat) : Int)) := by
  have hl := h.len
  obtain ⟨P, o, e, hP, hc⟩ := h.rd (by simp [byts]; omega)
  refine ⟨P, o, e, hP, hc i _ ?_⟩
  rw [byts, List.getElem?_map, List.getElem?_eq_getElem (by omega), List.getD_eq_getElem?_getD, List.getElem?_eq_getElem (by omega)]
  rfl
set_option maxRecDepth 100000 in
theorem need_yes (q : Int) (w : World) : Calls Tryz.prog 71 #[.bool true, .int .i64 q] w fun e w' => e = .returned (.tuple #[]) ∧ w' = w := by
  go_enter Tryz.func71, Tryz.ntmps71
  go_wp2_with fail
  first | go_end0 | skip
  exact ⟨rfl, rfl⟩
set_option maxRecDepth 100000 in
theorem need_no (q : Nat) (w : World) : Calls Tryz.prog 71 #[.bool false, .int .i64 (q : Nat)] w fun e w' => e = wrongAt q ∧ w' = w := by
  go_enter Tryz.func71, Tryz.ntmps71
  go_wp2_with fail
  exact ⟨rfl, rfl, rfl⟩
end Go.Proofs.YtddffdcjhleejaaGreat.ds
