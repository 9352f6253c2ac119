import Derived.Test.YtdbeeikjngnnnaaGreatChecked
import Derived.WalkKit
import Derived.ProofKit
import Derived.OpenShut
import Derived.Deep.QuietTactic
import Derived.BigQuiet
import Derived.BigRegion
import Derived.Laws.CopyOwn
import Derived.Laws.IdiomCopy
import Derived.WalkSmall
import Derived.Laws.ResultCell
import Derived.Laws.AppendOwnNone
import Derived.Deep.RegionHeld
import Derived.Deep.DeepAppendRoom
import Derived.Great.BuildSlice
import Derived.Deep.CutBlock
import Derived.Deep.RegionLaw
import Derived.ArgAppend
import Derived.Laws.Strings
import Derived.Laws.StructEq
import Derived.Below
import Derived.Deep.MidRow
import Derived.Great.Ranges
import Derived.Deep.RegionHeld3
import Derived.Laws.NewBlocks
import Derived.OrdersHeld
import Derived.Stop.BytesEq
import Derived.Laws.BytesString
import Derived.Lib.ConvBytes
import Derived.Laws.BitsAllLaws
import Derived.WalkLawsBesides
import Derived.Lib.Bytealg
import Derived.Laws.Externs
import Derived.Lib.SliceRun
import Derived.Lib.AppendZerosOnto
import Derived.Lib.AppendStr
import Derived.Lib.SlBytesConst
import Derived.Sort.Walk0
import Derived.Laws.Cover1
import Derived.Lib.Strings
import Derived.Lib.MinMaxS
import GoSem.Claim
import GoSem.ClaimJoined
import GoSem.ClaimMapViews
import Derived.JoinedTies
import Derived.KernelRfl
import Derived.JoinedCond
import Derived.ShutString
import Derived.ChangeOld
import Derived.Carry
import Derived.ChangeSlices
import Derived.Deep.Slices
import Derived.Deep.DeepHandedRow
import Derived.RowKit
import Derived.ChangeShapes
import Derived.SizedLaws
import Derived.ChangeMaps5
import Derived.Sort.WalkA
import Derived.Test.YtdbeeikjngnnnaaGreatRows
namespace Go.Proofs.YtdbeeikjngnnnaaGreat.ty
open Go.ChangeShapes Go.WideShapes Go.ChangeAt Go.RowKit
set_option linter.unusedVariables false
set_option linter.unusedSimpArgs false
set_option maxRecDepth 100000
set_option maxHeartbeats 8000000
theorem hid {p : Prop} (h : p) : Hid p := h
structure Apart (X : List Nat) (w w' : World) : Prop where
 os : w'.os = w.os
 tape : w'.tape = w.tape
 output : w'.output = w.output
 size : w.heap.size ≤ w'.heap.size
 block : ∀ k, k < w.heap.size → k ∉ X → w'.heap[k]? = w.heap[k]?
theorem Apart.refl (X : List Nat) (w : World) : Apart X w w := ⟨rfl, rfl, rfl, Nat.le_refl _, fun _ _ _ => rfl⟩
theorem Apart.trans {X : List Nat} {a b c : World} (h : Apart X a b) (k : Apart X b c) : Apart X a c :=
 ⟨k.os.trans h.os, k.tape.trans h.tape, k.output.trans h.output, Nat.le_trans h.size k.size, fun i hi hx => (k.block i (Nat.lt_of_lt_of_le hi h.size) hx).trans (h.block i hi hx)⟩
theorem Apart.mono {X Y : List Nat} {a b : World} (h : Apart X a b) (hs : ∀ x ∈ X, x ∈ Y) : Apart Y a b :=
 ⟨h.os, h.tape, h.output, h.size, fun i hi hx => h.block i hi (fun m => hx (hs i m))⟩
theorem Apart.trans' {X Y : List Nat} {a b c : World} (h : Apart X a b) (k : Apart Y b c) (hy : ∀ y ∈ Y, y ∈ X ∨ a.heap.size ≤ y) : Apart X a c :=
 ⟨k.os.trans h.os, k.tape.trans h.tape, k.output.trans h.output, Nat.le_trans h.size k.size, fun i hi hx => (k.block i (Nat.lt_of_lt_of_le hi h.size) (fun m => by rcases hy i m with h1 | h1; exact hx h1; omega)).trans (h.block i hi hx)⟩
theorem Apart.drew {X : List Nat} {a b : World} (h : Apart X a b) : Apart X a b.drew := ⟨h.os, h.tape, h.output, h.size, h.block⟩
theorem Apart.alloc {X : List Nat} {a b : World} (h : Apart X a b) (o : Obj) : Apart X a (b.alloc o) :=
 h.trans ⟨rfl, rfl, rfl, by simp, fun k hk _ => Below.heap_alloc _ _ _ (by omega)⟩
theorem Apart.setCell {X : List Nat} {a b : World} (h : Apart X a b) {p : Addr} (hp : p.block ∈ X ∨ a.heap.size ≤ p.block) (u : Value) : Apart X a (b.setCell p u) := by
 refine h.trans' (Y := [p.block]) ⟨rfl, rfl, rfl, by simp [World.setCell], fun k _ hx => Below.heap_setCell _ _ _ _ (fun e => hx (e ▸ by simp))⟩ ?_
 intro y hy; simp at hy; subst hy; exact hp
theorem Apart.cell {X : List Nat} {w w' : World} (h : Apart X w w') {p : Addr} (hp : p.block < w.heap.size) (hx : p.block ∉ X) : w'.cell? p = w.cell? p := World.cell?_of_block (w := w) (h.block p.block hp hx)
theorem Apart.below {X : List Nat} {w w' : World} (h : Apart X w w') {B : Nat} (hB : B ≤ w.heap.size) (hx : ∀ x ∈ X, B ≤ x) : Below B w w' :=
 ⟨h.os, h.tape, h.output, h.size, fun k hk => h.block k (by omega) (fun m => by have := hx k m; omega)⟩
theorem lt_of_heap {w : World} {g : Nat} {o : Obj} (h : w.heap[g]? = some o) : g < w.heap.size := (Array.getElem?_eq_some_iff.1 h).1
theorem own_apart {w w' : World} {base : Nat} {e : TypeId} {size : Nat} {v : Value} {n : Nat} {xs : List Value} {X : List Nat} (h : w.ownsRow base e size v n xs) (a : Apart X w w') (hx : ∀ k, v.ownBlock = some k → k ∉ X) : w'.ownsRow base e size v n xs := by
 obtain ⟨hl, ⟨hv, hz⟩ | ⟨g, cap, cur, rfl, hb, hr, hrest⟩⟩ := h
 ·exact ⟨hl, .inl ⟨hv, hz⟩⟩
 ·exact ⟨hl, .inr ⟨g, cap, cur, rfl, hb, (a.block g (lt_of_heap hr) (hx g rfl)).trans hr, hrest⟩⟩
theorem apart_grown {w w' : World} {row : Option Nat} (h : w.grownBy w' row) : Apart row.toList w w' :=
 ⟨h.os, h.tape, h.output, h.size, fun k hk hx => h.block k hk (fun e => hx (by simp [← e]))⟩
theorem own_base {w : World} {b c : Nat} {e : TypeId} {size : Nat} {v : Value} {n : Nat} {xs : List Value} (h : w.ownsRow b e size v n xs) (hc : c ≤ b) : w.ownsRow c e size v n xs := by
 obtain ⟨hl, ⟨hv, hz⟩ | ⟨g, cap, cur, rfl, hb, hr⟩⟩ := h
 ·exact ⟨hl, .inl ⟨hv, hz⟩⟩
 ·exact ⟨hl, .inr ⟨g, cap, cur, rfl, by omega, hr⟩⟩
def NewOr (w : World) (v v' : Value) : Prop := v'.ownBlock = v.ownBlock ∨ ∃ k, v'.ownBlock = some k ∧ w.heap.size ≤ k
theorem run_append2 (w : World) (t ty e : TypeId) (i : TypeInfo) (z : Value) (size bytes : Nat) (ht : Tryz.prog.underlying t = some (.slice e)) (hi : Tryz.prog.info? e = some i) (hz : i.zero = some z) (hsize : i.size = size) (hby : i.bytes = bytes) (hzs : z.cells.size = size) (hsz : 0 < size)
  (v : Value) (n : Nat) (xs : List Value) (h : w.ownsRow 0 e size v n xs) (ad : Addr) (m c : Nat) (news : List Value) (hm : 0 < m) (hl : news.length = m * size) (hnews : ∀ j u, news[j]? = some u → w.cell? (ad.add j) = some u) (h1 : ∀ u ∈ news, u.oneCell' = true) (h63 : n + m ≤ maxLen) (hb : (n + m) * bytes ≤ 140737488355328) :
  ∃ v' w', (Builtin.append_ #[t, t] ty #[v, .slice (some ad) m c]).run Tryz.prog w = .ok v' w' ∧ w'.ownsRow 0 e size v' (n + m) (xs ++ news) ∧ w.grownBy w' v.ownBlock ∧ NewOr w v v' := by
 have h0 := h
 obtain ⟨hxl, ⟨rfl, rfl⟩ | ⟨g, cap, cur, rfl, hbb, hr, hle, hrest⟩⟩ := h
 ·obtain rfl : xs = [] := by simpa using hxl
  obtain ⟨v', w', hrun, r1, r2, _⟩ := run_append_own (P := Tryz.prog) w w.heap.size t ty e i z size bytes ht hi hz hsize hby hzs hsz (.slice none 0 0) 0 [] (World.ownsRow_nil w _ e size) ad m c news hl hnews h1 h63 hb (Nat.le_refl _)
  refine ⟨v', w', hrun, own_base r1 (Nat.zero_le _), r2, .inr ?_⟩
  obtain ⟨_, ⟨_, hzz⟩ | ⟨g, cap, cur, rfl, hb2, _⟩⟩ := r1
  ·omega
  ·exact ⟨g, rfl, hb2⟩
 ·by_cases hroom : n + m ≤ cap
  ·obtain ⟨w', hrun, r1, r2⟩ := run_append_own_spare (P := Tryz.prog) w 0 t ty e i size ht hi hsize g n cap xs h0 ad m c news hl hnews h1 hroom
   exact ⟨_, w', hrun, r1, r2, .inl rfl⟩
  ·obtain ⟨v', w', hrun, r1, r2⟩ := run_append_arg_grows (P := Tryz.prog) w t ty e i z size bytes ht hi hz hsize hby hzs hsz ⟨g, 0, none⟩ n cap xs (by omega) (fun j u hu => h0.cells rfl j u hu) ad m c news hl hnews (by omega) h63 hb
   refine ⟨v', w', hrun, own_base r1 (Nat.zero_le _), ⟨r2.os, r2.tape, r2.output, r2.size, fun k hk _ => r2.block k hk (by simp)⟩, .inr ?_⟩
   obtain ⟨_, ⟨_, hzz⟩ | ⟨g', cap', cur', rfl, hb2, _⟩⟩ := r1
   ·omega
   ·exact ⟨g', rfl, hb2⟩
theorem wpList_append3 {w : World} {ops : Array Oper} {rest : List Oper} {o : Oper} {a : Act} {Q : Exit → Act → World → Prop} (hgd : o.guard = none) (s x : Operand) (t : TypeId)
  (ho : o.op = .call { callee := .builtin .append, args := #[s, x], argTypes := #[t, t] }) (v u : Value) (hs : a.eval s = v) (hx : a.eval x = u) (v' : Value) (w' : World)
  (hrun : (Builtin.append_ #[t, t] o.type #[v, u]).run Tryz.prog w = .ok v' w') (hK : wpList Tryz.prog ops Q rest (a.put o.dst v') w') : wpList Tryz.prog ops Q (o :: rest) a w := by
 refine wpList_plain hgd fun K hK' => ?_
 unfold Oper.wp
 simp [execOp, ho, resolve, invoke, builtin, hs, hx, hrun, Result.andThen]
 exact hK' _ _ hK
theorem own_typ {w : World} {base : Nat} {e : TypeId} {size : Nat} {v : Value} {n : Nat} {xs : List Value} (h : w.ownsRow base e size v n xs) {k : Nat} (hk : v.ownBlock = some k) : ∃ cur, w.heap[k]? = some (.cells cur e (0, 0)) := by
 obtain ⟨_, ⟨hv, _⟩ | ⟨g, cap, cur, hv, _, hr, _⟩⟩ := h
 ·rw [hv] at hk; simp [Value.ownBlock] at hk
 ·rw [hv] at hk; simp [Value.ownBlock] at hk; subst hk; exact ⟨cur, hr⟩
structure Sl where
 p : Option Addr
 n : Nat
 c : Nat
def Sl.v (s : Sl) : Value := .slice s.p s.n s.c
def Sl.ok (s : Sl) : Prop := s.p = none → s.n = 0 ∧ s.c = 0
def Rd (w : World) (p : Option Addr) (us : List Value) : Prop := 0 < us.length → ∃ P o, p = some ⟨P, o, none⟩ ∧ P < w.heap.size ∧ ∀ j u, us[j]? = some u → w.cell? ⟨P, o + j, none⟩ = some u
theorem Rd.nil (w : World) (p : Option Addr) : Rd w p [] := fun h => absurd h (by simp)
theorem Rd.kept {w w' : World} {p : Option Addr} {us : List Value} {X : List Nat} (h : Rd w p us) (a : Apart X w w') (hX : ∀ P o, p = some ⟨P, o, none⟩ → P ∉ X) : Rd w' p us := by
 intro h0
 obtain ⟨P, o, rfl, hP, hc⟩ := h h0
 exact ⟨P, o, rfl, Nat.lt_of_lt_of_le hP a.size, fun j u hj => (a.cell hP (hX P o rfl)).trans (hc j u hj)⟩
theorem Rd.kept0 {w w' : World} {p : Option Addr} {us : List Value} (h : Rd w p us) (a : Apart [] w w') : Rd w' p us := h.kept a (by simp)
theorem Rd.own {w : World} {p : Option Addr} {n cap size base : Nat} {e : TypeId} {us : List Value} (h : w.ownsRow base e size (.slice p n cap) n us) : Rd w p us := by
 intro h0
 have h' := h
 obtain ⟨hx, ⟨hv, hz⟩ | ⟨G, cap', cur, hv, hh, _⟩⟩ := h
 ·exfalso
  subst hz
  simp at hx
  rw [hx] at h0
  simp at h0
 ·simp at hv
  obtain ⟨rfl, rfl⟩ := hv
  refine ⟨G, 0, rfl, (h'.lt G rfl).2, fun j u hj => ?_⟩
  have := h'.cells rfl j u hj
  rwa [Addr.add_lit] at this
structure Nw (w w' : World) (e size : Nat) (s : Sl) (us : List Value) : Prop where
 own : w'.ownsRow 0 e size s.v s.n us
 new : ∀ k, s.v.ownBlock = some k → w.heap.size ≤ k
 ap : Apart [] w w'
theorem Nw.kept {w w' w2 : World} {e size : Nat} {s : Sl} {us : List Value} (h : Nw w w' e size s us) (a : Apart [] w' w2) : Nw w w2 e size s us := ⟨own_apart h.own a (by simp), h.new, h.ap.trans a⟩
theorem Nw.rd {w w' : World} {e size : Nat} {s : Sl} {us : List Value} (h : Nw w w' e size s us) : Rd w' s.p us := Rd.own h.own
theorem Nw.ok {w w' : World} {e size : Nat} {s : Sl} {us : List Value} (h : Nw w w' e size s us) : s.ok := by
 intro hp
 obtain ⟨_, ⟨hv, hz⟩ | ⟨g, cap, cur, hv, _⟩⟩ := h.own
 ·unfold Sl.v at hv; simp at hv; exact ⟨hz, hv.2.2⟩
 ·unfold Sl.v at hv; simp [hp] at hv
theorem Nw.keepT {w0 w w' : World} {e size : Nat} {s : Sl} {us : List Value} {X : List Nat} (h : Nw w0 w e size s us) (a : Apart X w w') (ap : Apart [] w0 w') (hX : ∀ k ∈ X, ∀ cur, w.heap[k]? ≠ some (.cells cur e (0, 0))) : Nw w0 w' e size s us :=
 ⟨own_apart h.own a (fun k hk hm => by obtain ⟨cur, e1⟩ := own_typ h.own hk; exact hX k hm cur e1), h.new, ap⟩
theorem run_appNil (w : World) (t ty e : TypeId) (i : TypeInfo) (z : Value) (size bytes : Nat) (ht : Tryz.prog.underlying t = some (.slice e)) (hi : Tryz.prog.info? e = some i) (hz : i.zero = some z) (hsize : i.size = size) (hby : i.bytes = bytes) (hzs : z.cells.size = size) (hsz : 0 < size)
  (s : Sl) (us : List Value) (h : Rd w s.p us) (hl : us.length = s.n * size) (one : ∀ u ∈ us, u.oneCell' = true) (h63 : s.n ≤ 2000000) (hb : s.n * bytes ≤ 140737488355328) (ok : s.ok) :
  ∃ s' w', (Builtin.append_ #[t, t] ty #[.slice none 0 0, s.v]).run Tryz.prog w = .ok (Sl.v s') w' ∧ Nw w w' e size s' us ∧ s'.n = s.n := by
 obtain ⟨p, N, c⟩ := s
 unfold Sl.ok at ok
 simp only at h hl h63 hb ok
 cases p with
 | none =>
  obtain ⟨rfl, rfl⟩ := ok rfl
  have hu : us = [] := List.length_eq_zero_iff.1 (by omega)
  subst hu
  exact ⟨⟨none, 0, 0⟩, w, run_append_owned_none (P := Tryz.prog) w 0 t ty e i size ht hi (.slice none 0 0) 0 [] (World.ownsRow_nil _ _ _ _), ⟨World.ownsRow_nil _ _ _ _, by simp [Sl.v, Value.ownBlock], Apart.refl _ _⟩, rfl⟩
 | some ad =>
  have hcs : ∀ j u, us[j]? = some u → w.cell? (ad.add j) = some u := by
   intro j u hj
   have hjl : j < us.length := by
    by_cases hc : j < us.length
    ·exact hc
    ·rw [List.getElem?_eq_none (by omega)] at hj; cases hj
   obtain ⟨P, o, e1, hP, hc⟩ := h (by omega)
   simp at e1
   subst e1
   rw [Addr.add_lit]
   exact hc j u hj
  obtain ⟨v', w', hrun, r1, r2, r3⟩ := run_append_own (P := Tryz.prog) (w := w) w.heap.size t ty e i z size bytes ht hi hz hsize hby hzs hsz (.slice none 0 0) 0 [] (World.ownsRow_nil _ _ _ _) ad N c us hl hcs one (by unfold maxLen; omega) (by simpa using hb) (Nat.le_refl _)
  rw [Nat.zero_add, List.nil_append] at r1
  have ap : Apart [] w w' := by have := apart_grown r2; simpa [Value.ownBlock] using this
  have hnew : ∀ k, v'.ownBlock = some k → w.heap.size ≤ k := fun k hk => (r1.lt k hk).1
  have r0 := own_base r1 (Nat.zero_le _)
  obtain ⟨s', rfl, hs'⟩ : ∃ s' : Sl, v' = s'.v ∧ s'.n = N := by
   obtain ⟨_, ⟨hv, hz⟩ | ⟨g, cap, cur, hv, _⟩⟩ := r1
   ·exact ⟨⟨none, 0, 0⟩, hv, hz.symm⟩
   ·exact ⟨⟨some ⟨g, 0, none⟩, N, cap⟩, hv, rfl⟩
  exact ⟨s', w', hrun, ⟨by rw [hs']; exact r0, hnew, ap⟩, hs'⟩
theorem run_appS {w W : World} {s : Sl} {us : List Value} (t ty e : TypeId) (i : TypeInfo) (z : Value) (size bytes : Nat) (ht : Tryz.prog.underlying t = some (.slice e)) (hi : Tryz.prog.info? e = some i) (hz : i.zero = some z) (hsize : i.size = size) (hby : i.bytes = bytes) (hzs : z.cells.size = size) (hsz : 0 < size)
  (h : Nw w W e size s us) (ad : Addr) (m c : Nat) (cs : List Value) (hm : 0 < m) (hcl : cs.length = m * size) (hcs : ∀ j u, cs[j]? = some u → W.cell? (ad.add j) = some u) (one : ∀ u ∈ cs, u.oneCell' = true) (h63 : s.n + m ≤ maxLen) (hb : (s.n + m) * bytes ≤ 140737488355328) :
  ∃ s' W', (Builtin.append_ #[t, t] ty #[s.v, .slice (some ad) m c]).run Tryz.prog W = .ok (Sl.v s') W' ∧ Nw w W' e size s' (us ++ cs) ∧ s'.n = s.n + m ∧ Apart s.v.ownBlock.toList W W' ∧ ∃ k, s'.p = some ⟨k, 0, none⟩ ∧ s'.n ≤ s'.c ∧ (s.v.ownBlock = some k ∨ W.heap.size ≤ k) := by
 have key : ∃ v' W', (Builtin.append_ #[t, t] ty #[s.v, .slice (some ad) m c]).run Tryz.prog W = .ok v' W' ∧ W'.ownsRow 0 e size v' (s.n + m) (us ++ cs) ∧ W.grownBy W' s.v.ownBlock ∧ NewOr W s.v v' :=
  run_append2 W t ty e i z size bytes ht hi hz hsize hby hzs hsz s.v s.n us h.own ad m c cs hm hcl hcs one h63 hb
 obtain ⟨v', W', hrun, r1, r2, r3⟩ := key
 have ap : Apart s.v.ownBlock.toList W W' := apart_grown r2
 obtain ⟨k, c, rfl, hle⟩ : ∃ k c, v' = .slice (some ⟨k, 0, none⟩) (s.n + m) c ∧ s.n + m ≤ c := by
  obtain ⟨_, ⟨hv, hz⟩ | ⟨g, cap, cur, hv, _, _, hle, _⟩⟩ := r1
  ·exact absurd hz (by omega)
  ·exact ⟨g, cap, hv, hle⟩
 have hk : s.v.ownBlock = some k ∨ W.heap.size ≤ k := by
  rcases r3 with r3 | ⟨q, r3, hq⟩
  ·left; rw [← r3]; rfl
  ·right
   simp [Value.ownBlock] at r3
   omega
 refine ⟨⟨some ⟨k, 0, none⟩, s.n + m, c⟩, W', hrun, ⟨r1, fun b hb => ?_, h.ap.trans' ap (fun y hy => ?_)⟩, rfl, ap, k, rfl, hle, hk⟩
 ·simp [Sl.v, Value.ownBlock] at hb
  subst hb
  rcases hk with hk | hk
  ·exact h.new _ hk
  ·have := h.ap.size; omega
 ·simp at hy
  exact .inr (h.new y hy)
theorem run_appM {w W : World} {s : Sl} {us : List Value} (t ty e : TypeId) (i : TypeInfo) (z : Value) (size bytes : Nat) (ht : Tryz.prog.underlying t = some (.slice e)) (hi : Tryz.prog.info? e = some i) (hz : i.zero = some z) (hsize : i.size = size) (hby : i.bytes = bytes) (hzs : z.cells.size = size) (hsz : 0 < size)
  (h : Nw w W e size s us) (m : Nat) (cs : List Value) (hm : 0 < m) (hcl : cs.length = m * size) (one : ∀ u ∈ cs, u.oneCell' = true) (h63 : s.n + m ≤ maxLen) (hb : (s.n + m) * bytes ≤ 140737488355328) :
  ∃ s' W', (Builtin.append_ #[t, t] ty #[s.v, .slice (some ⟨W.heap.size, 0, none⟩) m m]).run Tryz.prog (W.alloc (.cells cs.toArray e)) = .ok (Sl.v s') W' ∧ Nw w W' e size s' (us ++ cs) ∧ s'.n = s.n + m ∧ Apart s.v.ownBlock.toList W W' ∧ ∃ k, s'.p = some ⟨k, 0, none⟩ ∧ s'.n ≤ s'.c ∧ (s.v.ownBlock = some k ∨ W.heap.size ≤ k) := by
 have a1 : Apart [] W (W.alloc (.cells cs.toArray e)) := (Apart.refl [] W).alloc _
 have hcs : ∀ j u, cs[j]? = some u → (W.alloc (.cells cs.toArray e)).cell? ((⟨W.heap.size, 0, none⟩ : Addr).add j) = some u := by
  intro j u hj
  rw [Addr.add_lit, Nat.zero_add, cell_of_row _ _ _ _ _ _ (heap_alloc_new W (.cells cs.toArray e))]
  simpa using hj
 obtain ⟨s', W', hrun, r1, r2, r3, k, r4, r5, r6⟩ := run_appS t ty e i z size bytes ht hi hz hsize hby hzs hsz (h.kept a1) ⟨W.heap.size, 0, none⟩ m m cs hm hcl hcs one h63 hb
 exact ⟨s', W', hrun, r1, r2, (a1.mono (by simp)).trans r3, k, r4, r5, r6.imp id (fun h => Nat.le_trans a1.size h)⟩
theorem apart_setRow (w : World) (g : Nat) (cs : Array Value) : Apart [g] w (w.setRow g cs) :=
 ⟨rfl, rfl, rfl, by simp [World.setRow], fun k hk hx => setRow_other w g k cs (fun e => hx (by simp [e]))⟩
def byts (bs : List Nat) : List Value := bs.map fun (b : Nat) => .int .u8 (b : Int)
theorem oneB (bs : List Nat) : ∀ u ∈ byts bs, u.oneCell' = true := by
 intro u hu
 simp [byts] at hu
 obtain ⟨b, _, rfl⟩ := hu
 rfl
theorem wpList_app2 {w : World} {ops : Array Oper} {rest : List Oper} {o : Oper} {a : Act} {Q : Exit → Act → World → Prop} (hgd : o.guard = none) (s x : Operand) (t t' : TypeId)
  (ho : o.op = .call { callee := .builtin .append, args := #[s, x], argTypes := #[t, t'] }) (v u : Value) (hs : a.eval s = v) (hx : a.eval x = u) (v' : Value) (w' : World)
  (hrun : (Builtin.append_ #[t, t'] o.type #[v, u]).run Tryz.prog w = .ok v' w') (hK : wpList Tryz.prog ops Q rest (a.put o.dst v') w') : wpList Tryz.prog ops Q (o :: rest) a w := by
 refine wpList_plain hgd fun K hK' => ?_
 unfold Oper.wp
 simp [execOp, ho, resolve, invoke, builtin, hs, hx, hrun, Result.andThen]
 exact hK' _ _ hK
theorem step_app2 {w : World} {ops : Array Oper} {o : Oper} {a : Act} {K : Act → World → Prop} {Q : Exit → Act → World → Prop} {E : Prop} (hgd : o.guard = none) (s x : Operand) (t t' : TypeId)
  (ho : o.op = .call { callee := .builtin .append, args := #[s, x], argTypes := #[t, t'] }) (v u : Value) (hs : a.eval s = v) (hx : a.eval x = u) (v' : Value) (w' : World)
  (hrun : (Builtin.append_ #[t, t'] o.type #[v, u]).run Tryz.prog w = .ok v' w') (hK : K (a.put o.dst v') w') : if Region.wanted o (yielded ops a.tmps) = true then Oper.wp Tryz.prog o a w K Q else E := by
 have hw : Region.wanted o (yielded ops a.tmps) = true := by simp [Region.wanted, hgd]
 rw [if_pos hw]
 unfold Oper.wp
 simp [execOp, ho, resolve, invoke, builtin, hs, hx, hrun, Result.andThen]
 exact hK
theorem zF (a : Act) (v : Value) : a.put none v = a := rfl
theorem zM {w w1 : World} {o : Obj} (h : w1 = w.alloc o) : Apart [] w w1 := by rw [h]; exact (Apart.refl [] w).alloc _
theorem zN {X : Nat} {w w1 : World} {o : Obj} (h : X = w.heap.size) (h1 : w1 = w.alloc o) : w1.heap[X]? = some o := by rw [h, h1]; exact heap_alloc_new w o
theorem zK {w : World} {X T i : Nat} {l : Array Value} {m : Nat × Nat} {v : Value} (h : w.heap[X]? = some (.cells l T m)) (hv : l[i]? = some v := by rfl) : w.cell? ⟨X, i, none⟩ = some v := (cell_of_row _ _ _ _ _ _ h).trans hv
theorem zA (a : Act) (d : Nat) (v : Value) : a.put (some d) v = { a with tmps := a.tmps.setIfInBounds d v } := rfl
theorem zB {α : Type} (l : List α) (i : Nat) (x : α) : l.toArray.setIfInBounds i x = (l.set i x).toArray := List.setIfInBounds_toArray ..
theorem zC {α : Type} (x y : α) (l : List α) : (x :: l).set 0 y = y :: l := rfl
theorem zD {α : Type} (x y : α) (l : List α) (n : Nat) : (x :: l).set (n + 1) y = x :: l.set n y := rfl
theorem o_add (w : World) (x y : Value) : Calls Tryz.prog 91 #[.agg #[], x, y] w fun r w' => r = .returned (.tuple #[.nilIface, .int .i64 190]) ∧ Apart [] w w' := by
 go_enter Tryz.func91, Tryz.ntmps91
 go_wp2_with fail
 go_ret2
 exact ⟨rfl, (Apart.refl _ _).alloc _⟩
theorem o_put (w : World) (x y : Value) : Calls Tryz.prog 94 #[.agg #[], x, y] w fun r w' => r = .returned (.tuple #[.nilIface, .int .i64 190]) ∧ Apart [] w w' := by
 go_enter Tryz.func94, Tryz.ntmps94
 go_wp2_with fail
 go_ret2
 exact ⟨rfl, (Apart.refl _ _).alloc _⟩
theorem o_turn (w : World) (x y : Value) : Calls Tryz.prog 98 #[.agg #[], x, y] w fun r w' => r = .returned (.tuple #[.nilIface, .int .i64 190]) ∧ Apart [] w w' := by
 go_enter Tryz.func98, Tryz.ntmps98
 go_wp2_with fail
 go_ret2
 exact ⟨rfl, (Apart.refl _ _).alloc _⟩
theorem o_write (w : World) (x y : Value) : Calls Tryz.prog 99 #[.agg #[], x, y] w fun r w' => r = .returned (.tuple #[.nilIface, .int .i64 190]) ∧ Apart [] w w' := by
 go_enter Tryz.func99, Tryz.ntmps99
 go_wp2_with fail
 go_ret2
 exact ⟨rfl, (Apart.refl _ _).alloc _⟩
theorem o_take (w : World) (x : Value) : Calls Tryz.prog 96 #[.agg #[], x] w fun r w' => r = .returned (.tuple #[.nilIface, .int .i64 190]) ∧ Apart [] w w' := by
 go_enter Tryz.func96, Tryz.ntmps96
 go_wp2_with fail
 go_ret2
 exact ⟨rfl, (Apart.refl _ _).alloc _⟩
theorem o_sum (w : World) : Calls Tryz.prog 95 #[.agg #[]] w fun r w' => r = .returned (.int .i64 0) ∧ Apart [] w w' := by
 go_enter Tryz.func95, Tryz.ntmps95
 go_wp2_with fail
 go_ret
 exact ⟨rfl, (Apart.refl _ _).alloc _⟩
theorem o_elements (w : World) : Calls Tryz.prog 92 #[.agg #[]] w fun r w' => r = .returned (.slice none 0 0) ∧ Apart [] w w' := by
 go_enter Tryz.func92, Tryz.ntmps92
 go_wp2_with fail
 go_ret
 exact ⟨rfl, (Apart.refl _ _).alloc _⟩
theorem o_on (w : World) : Calls Tryz.prog 93 #[.agg #[]] w fun r w' => r = .returned (.bool false) ∧ Apart [] w w' := by
 go_enter Tryz.func93, Tryz.ntmps93
 go_wp2_with fail
 go_ret
 exact ⟨rfl, (Apart.refl _ _).alloc _⟩
theorem o_text (w : World) : Calls Tryz.prog 97 #[.agg #[]] w fun r w' => r = .returned (.slice none 0 0) ∧ Apart [] w w' := by
 go_enter Tryz.func97, Tryz.ntmps97
 go_wp2_with fail
 go_ret
 exact ⟨rfl, (Apart.refl _ _).alloc _⟩
def isA (a : Int) : Bool := decide (0 ≤ a ∧ a < 8)
theorem isActor_ok (w : World) (a : Int) : Calls Tryz.prog 106 #[.int .i64 a] w fun r w' => r = .returned (.bool (isA a)) ∧ w' = w := by
 by_cases h1 : a ≥ 0
 ·by_cases h2 : a < 8
  ·have e : isA a = true := by simp [isA]; omega
   rw [e]
   clear e
   go_enter Tryz.func106, Tryz.ntmps106
   go_wp2_with fail
   go_ret
   exact ⟨rfl, rfl⟩
  ·have e : isA a = false := by simp [isA]; omega
   rw [e]
   clear e
   go_enter Tryz.func106, Tryz.ntmps106
   go_wp2_with fail
   go_ret
   exact ⟨rfl, rfl⟩
 ·have e : isA a = false := by simp [isA]; omega
  rw [e]
  clear e
  go_enter Tryz.func106, Tryz.ntmps106
  go_wp2_with fail
  go_ret
  exact ⟨rfl, rfl⟩
def zb (k : Nat) : Value := if k = 1 then .iface 101 (.agg #[.int .i64 0, .int .i64 0, .int .i64 0, .int .i64 0, .int .i64 0, .int .i64 0, .int .i64 0, .int .i64 0, .int .i64 0, .int .i64 0, .int .i64 0, .int .i64 0, .int .i64 0, .int .i64 0, .int .i64 0, .int .i64 0]) else if k = 2 then .iface 104 (.agg #[.int .i64 0, .int .i64 0, .int .i64 0, .int .i64 0, .int .i64 0, .int .i64 0, .int .i64 0, .int .i64 0, .slice none 0 0]) else if k = 3 then .iface 106 (.agg #[.int .i64 0, .int .i64 0, .int .i64 0, .int .i64 0, .int .i64 0, .int .i64 0, .int .i64 0, .int .i64 0, .int .i64 0, .int .i64 0, .int .i64 0, .int .i64 0, .int .i64 0, .int .i64 0, .int .i64 0, .int .i64 0]) else .iface 108 (.agg #[.int .i64 0, .int .i64 0, .string ⟨#[]⟩])
theorem blank_ok (w : World) (k : Nat) (h1 : 1 ≤ k) (h4 : k ≤ 4) : Calls Tryz.prog 33 #[.int .i64 (k : Int)] w fun r w' => r = .returned (zb k) ∧ w' = w := by
 obtain rfl | rfl | rfl | rfl : k = 1 ∨ k = 2 ∨ k = 3 ∨ k = 4 := by omega
 all_goals (
  clear h1 h4
  go_enter Tryz.func33, Tryz.ntmps33
  go_wp2_with fail
  go_ret
  exact ⟨rfl, rfl⟩)
theorem blank_none (w : World) (k : Int) (h : ¬ (1 ≤ k ∧ k ≤ 4)) : Calls Tryz.prog 33 #[.int .i64 k] w fun r w' => r = .returned .nilIface ∧ w' = w := by
 have b1 : (k == 1) = false := by simp; omega
 have b2 : (k == 2) = false := by simp; omega
 have b3 : (k == 3) = false := by simp; omega
 have b4 : (k == 4) = false := by simp; omega
 clear h
 go_enter Tryz.func33, Tryz.ntmps33
 go_wp2_with fail
 go_ret
 exact ⟨rfl, rfl⟩
theorem new_none (w : World) (k : Int) (h : ¬ (1 ≤ k ∧ k ≤ 4)) : Calls Tryz.prog 14 #[.int .i64 k] w fun r w' => r = .returned (.tuple #[.pointer none, .int .i64 1]) ∧ w' = w := by
 go_enter Tryz.func14, Tryz.ntmps14
 go_wp2_with (go_at_call 33; refine (blank_none _ _ h).mono ?_; rintro _ _ ⟨rfl, rfl⟩)
 go_wp2_with fail
 go_ret2
 exact ⟨rfl, rfl⟩
theorem zb_ne (k : Nat) (w : World) : (binOp .eql 68 (zb k) .nilIface).run Tryz.prog w = .ok (.bool false) w := by
 unfold zb
 split
 ·kernel_rfl
 ·split
  ·kernel_rfl
  ·split <;> kernel_rfl
theorem zb_gd (k : Nat) (x y : Operand) (w : World) : (eqGuard .eql 68 x y (zb k) .nilIface).run Tryz.prog w = .ok () w := by
 unfold zb
 split
 ·kernel_rfl
 ·split
  ·kernel_rfl
  ·split <;> kernel_rfl
theorem zb_if (k : Nat) : ∃ T d, zb k = .iface T d := by
 unfold zb
 split
 ·exact ⟨_, _, rfl⟩
 ·split
  ·exact ⟨_, _, rfl⟩
  ·split <;> exact ⟨_, _, rfl⟩
theorem new_ok (w : World) (k : Nat) (h1 : 1 ≤ k) (h4 : k ≤ 4) : Calls Tryz.prog 14 #[.int .i64 (k : Int)] w fun r w' => r = .returned (.tuple #[.pointer (some ⟨w.heap.size, 0, none⟩), .int .i64 0]) ∧ w' = w.alloc (.cells #[zb k] 71) := by
 have hz := fun wx => zb_ne k wx
 have hg := fun x y wx => zb_gd k x y wx
 have hb := blank_ok w k h1 h4
 obtain ⟨T, d, e⟩ := zb_if k
 rw [e] at hb ⊢
 simp only [e] at hz hg
 clear e
 go_enter Tryz.func14, Tryz.ntmps14
 go_wp2_with (go_at_call 33; refine hb.mono ?_; rintro _ _ ⟨rfl, rfl⟩)
 go_wp2_with fail
 go_ret2
 exact ⟨rfl, rfl⟩
def Bd (w : World) (V : Nat) (b : Value) : Prop := w.heap[V]? = some (.cells #[b] 71 (0, 0))
theorem become_no {w : World} {V : Nat} (b : Value) (e : Int) (he : e ≠ 0) : Calls Tryz.prog 34 #[.pointer (some ⟨V, 0, none⟩), b, .int .i64 e] w fun r w' => r = .returned (.int .i64 e) ∧ w' = w := by
 have hb : (e == 0) = false := by simp [he]
 clear he
 go_enter Tryz.func34, Tryz.ntmps34
 go_wp2_with fail
 go_ret
 exact ⟨rfl, rfl⟩
theorem become_ok {w : World} {V : Nat} {b0 : Value} (hV : Bd w V b0) (T : TypeId) (d : Value) : Calls Tryz.prog 34 #[.pointer (some ⟨V, 0, none⟩), .iface T d, .int .i64 0] w fun r w' => r = .returned (.int .i64 0) ∧ Bd w' V (.iface T d) ∧ Apart [V] w w' := by
 have z : w.cell? ⟨V, 0, none⟩ = some b0 := zK hV
 have f := frozen_of_row _ _ 0 _ _ hV
 have HV := hid hV
 clear hV
 go_enter Tryz.func34, Tryz.ntmps34
 go_wp2_with fail
 go_ret
 refine ⟨rfl, ?_, (Apart.refl _ _).setCell (.inl (by simp)) _⟩
 have := heap_setCell_same w V 0 _ 71 (.iface T d) HV.out
 unfold Bd
 simpa using this
end Go.Proofs.YtdbeeikjngnnnaaGreat.ty
