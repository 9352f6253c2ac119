import Derived.Test.YtdbeeikjngnnnaaGreatChecked
import Derived.WalkKit
import Derived.ProofKit
import Derived.OpenShut
import Derived.Deep.QuietTactic
import Derived.BigQuiet
import Derived.BigRegion
import Derived.Laws.CopyOwn
import Derived.Laws.IdiomCopy
import Derived.WalkSmall
import Derived.Laws.ResultCell
import Derived.Laws.AppendOwnNone
import Derived.Deep.RegionHeld
import Derived.Deep.DeepAppendRoom
import Derived.Great.BuildSlice
import Derived.Deep.CutBlock
import Derived.Deep.RegionLaw
import Derived.ArgAppend
import Derived.Laws.Strings
import Derived.Laws.StructEq
import Derived.Below
import Derived.Deep.MidRow
import Derived.Great.Ranges
import Derived.Deep.RegionHeld3
import Derived.Laws.NewBlocks
import Derived.OrdersHeld
import Derived.Stop.BytesEq
import Derived.Laws.BytesString
import Derived.Lib.ConvBytes
import Derived.Laws.BitsAllLaws
import Derived.WalkLawsBesides
import Derived.Lib.Bytealg
import Derived.Laws.Externs
import Derived.Lib.SliceRun
import Derived.Lib.AppendZerosOnto
import Derived.Lib.AppendStr
import Derived.Lib.SlBytesConst
import Derived.Sort.Walk0
import Derived.Laws.Cover1
import Derived.Lib.Strings
import Derived.Lib.MinMaxS
import GoSem.Claim
import GoSem.ClaimJoined
import GoSem.ClaimMapViews
import Derived.JoinedTies
import Derived.KernelRfl
import Derived.JoinedCond
import Derived.ShutString
import Derived.ChangeOld
import Derived.Carry
import Derived.ChangeSlices
import Derived.Deep.Slices
import Derived.Deep.DeepHandedRow
import Derived.RowKit
import Derived.ChangeShapes
import Derived.SizedLaws
import Derived.ChangeMaps5
import Derived.Sort.WalkA
import Derived.Test.YtdbeeikjngnnnaaGreatRows
import Derived.Test.YtdbeeikjngnnnaaGreatD25
namespace Go.Proofs.YtdbeeikjngnnnaaGreat.ty
open Go.ChangeShapes Go.WideShapes Go.ChangeAt Go.RowKit
set_option linter.unusedVariables false
set_option linter.unusedSimpArgs false
theorem setD {l : List Int} {i : Nat} (hi : i < l.length) (j : Nat) (x : Int) : (l.set i x).getD j 0 = if j = i then x else l.getD j 0 := by
  rw [List.getD_eq_getElem?_getD, List.getElem?_set, List.getD_eq_getElem?_getD]
  by_cases h : i = j
  · subst h; rw [if_pos rfl, if_pos hi, if_pos rfl]; rfl
  · rw [if_neg h, if_neg (fun k => h k.symm)]
theorem setWd {u : List Int} (h : Wd u) {i : Nat} (hi : i < 8) {x : Int} (h0 : 0 ≤ x) (h1 : x ≤ 16777215) : Wd (u.set i x) := ⟨by rw [List.length_set]; exact h.1, fun y hy => by
  rcases List.mem_or_eq_of_mem_set hy with hy | rfl
  · exact h.2 y hy
  · exact ⟨h0, h1⟩⟩
theorem setCn {c : List Int} (h : Cn c) {i : Nat} (hi : i < 8) {x : Int} (h0 : 0 ≤ x) (h1 : x ≤ 65535) : Cn (c.set i x) := ⟨by rw [List.length_set]; exact h.1, fun j => by
  rw [setD (by rw [h.1]; exact hi)]
  split
  · exact ⟨h0, h1⟩
  · exact h.2 j⟩
theorem tg_app (a b : List En) (e : ByteArray) : tg (a ++ b) e = if ∃ x ∈ a, x.e = e then tg a e else tg b e := by
  induction a with
  | nil => simp
  | cons x a ih =>
    simp only [List.cons_append, tg]
    by_cases h : x.e = e
    · simp [h]
    · simp only [h, if_false, ih, List.mem_cons, exists_eq_or_imp, false_or]
theorem tg_no {a : List En} {e : ByteArray} (h : ∀ x ∈ a, x.e ≠ e) : tg a e = zr := by
  induction a with
  | nil => rfl
  | cons x a ih =>
    simp only [tg, h x (by simp), if_false]
    exact ih fun y hy => h y (List.mem_cons_of_mem _ hy)
theorem lohi_so {es : List En} (so : So es) (a : ByteArray) : So (lo es a ++ hi es a) := by
  refine List.pairwise_append.2 ⟨so.filter _, so.filter _, fun y hy z hz => ?_⟩
  exact bl_trans (List.mem_filter.1 hy).2 (List.mem_filter.1 hz).2
theorem lohi_mem {es : List En} {a : ByteArray} {z : En} (h : z ∈ lo es a ++ hi es a) : z ∈ es := by
  rcases List.mem_append.1 h with hz | hz
  · exact (List.mem_filter.1 hz).1
  · exact (List.mem_filter.1 hz).1
theorem tg_lohi {es : List En} (so : So es) (a x : ByteArray) : tg (lo es a ++ hi es a) x = if x = a then zr else tg es x := by
  have hso := lohi_so so a
  by_cases h : x = a
  · subst h
    rw [if_pos rfl]
    refine tg_no fun y hy e => ?_
    rcases List.mem_append.1 hy with hy | hy
    · have := (List.mem_filter.1 hy).2; rw [e, bl_irrefl] at this; cases this
    · have := (List.mem_filter.1 hy).2; rw [e, bl_irrefl] at this; cases this
  · rw [if_neg h]
    rcases tg_or es x with h1 | ⟨y, hy, hyx, h1⟩
    · rw [h1]
      rcases tg_or (lo es a ++ hi es a) x with h2 | ⟨z, hz, hzx, h2⟩
      · exact h2
      · have hm := lohi_mem hz
        rw [h2, ← tg_mem so hm, hzx, h1]
    · rw [h1]
      have hm : y ∈ lo es a ++ hi es a := by
        cases hb : bl y.e a
        · cases hb2 : bl a y.e
          · exact absurd ((hyx.symm.trans (bl_total hb hb2))) h
          · exact List.mem_append_right _ (List.mem_filter.2 ⟨hy, hb2⟩)
        · exact List.mem_append_left _ (List.mem_filter.2 ⟨hy, hb⟩)
      rw [← hyx, tg_mem hso hm]
theorem put_so {es : List En} (so : So es) (a : ByteArray) (t : List Int) : So (lo es a ++ [⟨a, t⟩] ++ hi es a) := by
  refine List.pairwise_append.2 ⟨List.pairwise_append.2 ⟨so.filter _, List.pairwise_singleton _ _, fun y hy z hz => ?_⟩, so.filter _, fun y hy z hz => ?_⟩
  · rw [List.mem_singleton] at hz; subst hz
    exact (List.mem_filter.1 hy).2
  · rcases List.mem_append.1 hy with hy | hy
    · exact bl_trans (List.mem_filter.1 hy).2 (List.mem_filter.1 hz).2
    · rw [List.mem_singleton] at hy; subst hy
      exact (List.mem_filter.1 hz).2
theorem tg_put {es : List En} (so : So es) (a x : ByteArray) (t : List Int) : tg (lo es a ++ [⟨a, t⟩] ++ hi es a) x = if x = a then t else tg es x := by
  have hl := tg_lohi so a x
  rw [tg_app] at hl
  rw [List.append_assoc, tg_app]
  by_cases h : x = a
  · subst h
    rw [if_neg, if_pos rfl, List.singleton_append, tg, if_pos rfl]
    rintro ⟨y, hy, e⟩
    have := (List.mem_filter.1 hy).2; rw [e, bl_irrefl] at this; cases this
  · rw [if_neg h] at hl ⊢
    have hax : ¬ a = x := fun k => h k.symm
    rw [← hl]
    simp only [List.singleton_append, tg, hax, if_false]
theorem zset_ne {i : Nat} (hi : i < 8) {x : Int} (hx : x ≠ 0) : zr.set i x ≠ zr := by
  intro h
  have : (zr.set i x).getD i 0 = zr.getD i 0 := by rw [h]
  rw [setD (by show i < 8; exact hi), if_pos rfl, zrD] at this
  exact hx this
theorem Wi.up {a c : List Int} (h : Wi a c) {i : Nat} (hi : i < 8) : Wi a (c.set i (c.getD i 0 + 1)) := ⟨h.1, by rw [List.length_set]; exact h.2.1, fun j hj => by
  have h1 := h.2.2 j hj
  rw [setD (by rw [h.2.1]; exact hi)]
  split
  · rename_i e; rw [e] at h1 ⊢; omega
  · exact h1⟩
theorem Wi.one {c : List Int} (h : Cn c) {i : Nat} (hi : i < 8) : Wi (ty.zr.set i (c.getD i 0 + 1)) (c.set i (c.getD i 0 + 1)) := ⟨by rw [List.length_set]; rfl, by rw [List.length_set]; exact h.1, fun j hj => by
  have h1 := h.2 j
  have h2 := h.2 i
  rw [setD (by show i < 8; exact hi), setD (by rw [h.1]; exact hi)]
  split
  · omega
  · rw [zrD]; omega⟩
theorem nb8_pos {r : List Int} (wd : Nat) {i : Nat} (h : 0 < r.getD i 0) : ∀ n, i < n → wd ≤ (nb8 r wd n).length
  | 0, h0 => by omega
  | n + 1, h0 => by
    unfold nb8
    by_cases e : i = n
    · subst e
      rw [if_pos h, List.length_append, leB_len]; omega
    · have := nb8_pos wd h n (by omega)
      split
      · rw [List.length_append]; omega
      · exact this
/-- of 64 bytes there are few elements -/
theorem esB_ge5 : ∀ {es : List En}, (∀ x ∈ es, 1 ≤ x.e.size) → (∀ x ∈ es, x.t ≠ zr) → (∀ x ∈ es, Cn x.t) → es.length * 5 ≤ (esB es).length
  | [], _, _, _ => by simp [esB]
  | x :: r, h1, h2, h3 => by
    have ih := esB_ge5 (es := r) (fun y hy => h1 y (List.mem_cons_of_mem _ hy)) (fun y hy => h2 y (List.mem_cons_of_mem _ hy)) (fun y hy => h3 y (List.mem_cons_of_mem _ hy))
    have e1 := h1 x (by simp)
    have e3 := h3 x (by simp)
    have e2 : ∃ i, i < 8 ∧ x.t.getD i 0 ≠ 0 := by
      refine Classical.byContradiction fun k => h2 x (by simp) (row_ext e3.1 rfl fun i hi => ?_)
      rw [zrD]
      exact Classical.byContradiction fun q => k ⟨i, hi, q⟩
    obtain ⟨i, hi, hne⟩ := e2
    have e4 := nb8_pos (r := x.t) 2 (i := i) (by have := e3.2 i; omega) 8 hi
    have e5 := bsk_len x.e
    simp only [esB, enB, rowB, List.length_append, List.length_cons]
    omega
theorem few_of {c : List Int} {es : List En} (h : Gs c es) (hc : Cn c) (hs : ∀ x ∈ es, 1 ≤ x.e.size) (hl : (setB c es).length ≤ 64) : es.length ≤ 12 := by
  have := esB_ge5 hs h.nz (fun x hx => (h.wi x hx).cn hc)
  simp only [setB, List.length_append, List.length_cons] at hl
  omega
/-- what any of the calls makes -/
def doV (v : Vl) (k : Nat) (a b : Int) (on : Bool) (bs : List Nat) : Int × Vl :=
  if k = 1 then addR v a b else if k = 2 then putR v a bs else if k = 3 then takeR v bs else if k = 4 then switchR v a on else writeR v a bs
theorem isE_iff (n : Nat) : isE n = true ↔ 1 ≤ n ∧ n ≤ 8 := by unfold isE; simp
theorem Iv.add {v : Vl} (h : Iv v) (a b : Int) : Iv (addR v a b).2 ∧ (addR v a b).2.kd = v.kd := by
  cases v using Vl.el with
  | cnt u d =>
    unfold addR
    simp only
    split
    · exact ⟨h, rfl⟩
    split
    · exact ⟨h, rfl⟩
    split
    · exact ⟨h, rfl⟩
    · rename_i h1 h2 h3
      have hA : isA a = true := by simpa using h1
      obtain ⟨i, rfl, hi, hx⟩ := isA_i hA
      rw [hx] at h3
      simp only [hx]
      obtain ⟨⟨hu, hd⟩, -⟩ := h.gt
      have e1 := hu.at i hi
      have e2 := hd.at i hi
      exact ⟨⟨⟨⟨setWd hu hi (by omega) (by omega), setWd hd hi (by omega) (by omega)⟩, fun s a t e => by cases e⟩, fun x hx => by simp [elsR] at hx⟩, rfl⟩
  | set c es => exact ⟨h, rfl⟩
  | flg c g => exact ⟨h, rfl⟩
  | rgs s a t => exact ⟨h, rfl⟩
theorem put_gd {c : List Int} {es : List En} {e : ByteArray} (hg : Gs c es) (hc : Cn c) (hs : ∀ x ∈ es, x.e.size ≤ 8) (hz : ∀ x ∈ es, 1 ≤ x.e.size) {i : Nat} (hi : i < 8) (h1 : 1 ≤ e.size) (h8 : e.size ≤ 8) (hx : c.getD i 0 ≠ 65535) : Gs (putC c i) (putE c es i e) ∧ Cn (putC c i) ∧ ∀ x ∈ putE c es i e, 1 ≤ x.e.size ∧ x.e.size ≤ 8 := by
  have hci := hc.2 i
  have hcn : Cn (putC c i) := setCn hc hi (by omega) (by omega)
  have hm : ∀ {x : En}, x ∈ putE c es i e → x ∈ es ∨ x = ⟨e, zr.set i (c.getD i 0 + 1)⟩ := fun {x} hx => by
    unfold putE at hx
    rcases List.mem_append.1 hx with hx | hx
    · rcases List.mem_append.1 hx with hx | hx
      · exact .inl (List.mem_filter.1 hx).1
      · exact .inr (List.mem_singleton.1 hx)
    · exact .inl (List.mem_filter.1 hx).1
  refine ⟨⟨put_so hg.so e _, fun x hx => ?_, fun x hx => ?_, hcn.1, hcn.ge⟩, hcn, fun x hx => ?_⟩
  · rcases hm hx with h | rfl
    · exact hg.nz x h
    · exact zset_ne hi (by omega)
  · rcases hm hx with h | rfl
    · exact (hg.wi x h).up hi
    · exact Wi.one hc hi
  · rcases hm hx with h | rfl
    · exact ⟨hz x h, hs x h⟩
    · exact ⟨h1, h8⟩
theorem Iv.put {v : Vl} (h : Iv v) (a : Int) (bs : List Nat) : Iv (putR v a bs).2 ∧ (putR v a bs).2.kd = v.kd := by
  cases v using Vl.el with
  | set c es =>
    unfold putR
    simp only
    split
    · exact ⟨h, rfl⟩
    split
    · exact ⟨h, rfl⟩
    split
    · exact ⟨h, rfl⟩
    split
    · exact ⟨h, rfl⟩
    · rename_i h1 h2 h3 h4
      have hA : isA a = true := by simpa using h1
      obtain ⟨i, rfl, hi, hx⟩ := isA_i hA
      rw [hx] at h3
      simp only [hx]
      have h2' : isE bs.length = true := by simpa using h2
      rw [isE_iff] at h2'
      obtain ⟨⟨hg, hc, hs⟩, -⟩ := h.gt
      obtain ⟨k1, k2, k3⟩ := put_gd (e := strB bs) hg hc hs h.sz hi (by rw [strB_size]; omega) (by rw [strB_size]; omega) h3
      exact ⟨⟨⟨⟨k1, k2, fun x hx => (k3 x hx).2⟩, fun s a t e => by cases e⟩, fun x hx => (k3 x hx).1⟩, rfl⟩
  | cnt u d => exact ⟨h, rfl⟩
  | flg c g => exact ⟨h, rfl⟩
  | rgs s a t => exact ⟨h, rfl⟩
theorem lohi_gs {c : List Int} {es : List En} (hg : Gs c es) (e : ByteArray) : Gs c (lo es e ++ hi es e) := ⟨lohi_so hg.so e, fun x hx => hg.nz x (lohi_mem hx), fun x hx => hg.wi x (lohi_mem hx), hg.len, hg.ge⟩
theorem Iv.take {v : Vl} (h : Iv v) (bs : List Nat) : Iv (takeR v bs).2 ∧ (takeR v bs).2.kd = v.kd := by
  cases v using Vl.el with
  | set c es =>
    obtain ⟨⟨hg, hc, hs⟩, -⟩ := h.gt
    exact ⟨⟨⟨⟨lohi_gs hg _, hc, fun x hx => hs x (lohi_mem hx)⟩, fun s a t e => by cases e⟩, fun x hx => h.sz x (lohi_mem hx)⟩, rfl⟩
  | cnt u d => exact ⟨h, rfl⟩
  | flg c g => exact ⟨h, rfl⟩
  | rgs s a t => exact ⟨h, rfl⟩
theorem Iv.turn {v : Vl} (h : Iv v) (a : Int) (on : Bool) : Iv (switchR v a on).2 ∧ (switchR v a on).2.kd = v.kd := by
  cases v using Vl.el with
  | flg c g =>
    obtain ⟨⟨hc, hw⟩, -⟩ := h.gt
    unfold switchR
    simp only
    split
    · exact ⟨h, rfl⟩
    split
    · exact ⟨⟨⟨⟨hc, Wi.zr hc.1 hc.ge⟩, fun s a t e => by cases e⟩, fun x hx => by simp [elsR] at hx⟩, rfl⟩
    split
    · exact ⟨h, rfl⟩
    · rename_i h1 h2 h3
      have hA : isA a = true := by simpa using h1
      obtain ⟨i, rfl, hi, hx⟩ := isA_i hA
      rw [hx] at h3
      simp only [hx]
      have hci := hc.2 i
      exact ⟨⟨⟨⟨setCn hc hi (by omega) (by omega), Wi.one hc hi⟩, fun s a t e => by cases e⟩, fun x hx => by simp [elsR] at hx⟩, rfl⟩
  | cnt u d => exact ⟨h, rfl⟩
  | set c es => exact ⟨h, rfl⟩
  | rgs s a t => exact ⟨h, rfl⟩
theorem Iv.write {v : Vl} (h : Iv v) (a : Int) (bs : List Nat) : Iv (writeR v a bs).2 ∧ (writeR v a bs).2.kd = v.kd := by
  cases v using Vl.el with
  | rgs s x t =>
    obtain ⟨⟨h0, h1, h2⟩, h3⟩ := h.gt
    unfold writeR
    simp only
    split
    · exact ⟨h, rfl⟩
    split
    · exact ⟨h, rfl⟩
    split
    · exact ⟨h, rfl⟩
    · rename_i k1 k2 k3
      have hA : isA a = true := by simpa using k1
      obtain ⟨i, rfl, hi, hx⟩ := isA_i hA
      refine ⟨⟨⟨⟨⟨by omega, by omega⟩, ⟨by omega, by rw [strB_size]; omega⟩, fun e => by omega⟩, fun s' a' t' e => ?_⟩, fun x hx => by simp [elsR] at hx⟩, rfl⟩
      simp only [Vl.rgs, Sum.inr.injEq, Prod.mk.injEq] at e
      obtain ⟨-, e2, -⟩ := e
      omega
  | cnt u d => exact ⟨h, rfl⟩
  | set c es => exact ⟨h, rfl⟩
  | flg c g => exact ⟨h, rfl⟩
end Go.Proofs.YtdbeeikjngnnnaaGreat.ty
namespace Go.Proofs.YtdbeeikjngnnnaaGreat.ty
open Go.ChangeShapes Go.WideShapes Go.ChangeAt Go.RowKit
set_option linter.unusedVariables false
set_option linter.unusedSimpArgs false
def ptV (b : Nat) : Value := .pointer (some ⟨b, 0, none⟩)
def tbG (k : Nat) (p r : Nat → Value) (sH sL : Sl) : List Value := [.int .i64 (k : Int), p 0, p 1, p 2, p 3, r 0, r 1, r 2, r 3, .slice sH.p sH.n sH.c, .slice sL.p sL.n sL.c]
def tbC (k : Nat) (p r : Nat → Nat) (sH sL : Sl) : List Value := tbG k (fun i => ptV (p i)) (fun i => ptV (r i)) sH sL
def upd {α : Type} (f : Nat → α) (i : Nat) (x : α) : Nat → α := fun j => if j = i then x else f j
theorem upd_same {α : Type} (f : Nat → α) (i : Nat) (x : α) : upd f i x i = x := by simp [upd]
theorem upd_other {α : Type} (f : Nat → α) {i j : Nat} (x : α) (h : j ≠ i) : upd f i x j = f j := by simp [upd, h]
theorem upd_self {α : Type} (f : Nat → α) (i : Nat) : upd f i (f i) = f := by
  funext j
  unfold upd
  split
  · rename_i h; rw [h]
  · rfl
/-- the mark of what was held -/
def mkN (q : Nat) : Nat := q % 250 + 1
structure Tb (wB w : World) (T k : Nat) (p r : Nat → Nat) (v : Nat → Vl) (ts : Nat → List Tg) (H L : List Sl) (sH sL : Sl) (h : Nat → Prop) : Prop where
  blk : w.heap[T]? = some (.cells (tbC k p r sH sL).toArray 49 (0, 0))
  tn : wB.heap.size ≤ T
  pn : ∀ i, i < 4 → wB.heap.size ≤ p i
  rn : ∀ i, i < 4 → wB.heap.size ≤ r i
  pd : ∀ i j, i < 4 → j < 4 → i ≠ j → p i ≠ p j
  rd : ∀ i j, i < 4 → j < 4 → i ≠ j → r i ≠ r j
  pv : ∀ i, i < 4 → Ho w (p i) (v i)
  rv : ∀ i, i < 4 → ∃ s, Dk w (r i) (rvO (v i) (ts i)) s
  iv : ∀ i, i < 4 → Iv (v i)
  kd : ∀ i, i < 4 → (v i).kd = k
  rl : ∀ i, i < 4 → Rl (v i) (ts i)
  nh : Nw wB w 29 1 sH (svs H)
  hn : sH.n = H.length
  nl : Nw wB w 46 1 sL (svs L)
  ln : sL.n = L.length
  hd : ∀ i x, H[i]? = some x → RdT w x.p 5 (byts (List.replicate x.n (mkN (i / 2)))) ∧ ∀ P o, x.p = some ⟨P, o, none⟩ → h P
  ld : ∀ i x, L[i]? = some x → ∀ j, j < x.n → ∃ P o cur m q c, x.p = some ⟨P, o, none⟩ ∧ h P ∧ w.heap[P]? = some (.cells cur 29 m) ∧ w.cell? ⟨P, o + j, none⟩ = some (.slice q (i + 1) c)
  hh : ∀ P, h P → wB.heap.size ≤ P ∧ (∃ cur m, w.heap[P]? = some (.cells cur 5 m) ∨ w.heap[P]? = some (.cells cur 29 m)) ∧ sH.v.ownBlock ≠ some P
  ev : ∃ q, H.length = 2 * q
/-- a block that nobody counts on -/
def Fr (w : World) (sH : Sl) (h : Nat → Prop) (P : Nat) : Prop := (∃ cur m, w.heap[P]? = some (.cells cur 5 m) ∨ w.heap[P]? = some (.cells cur 29 m)) ∧ ¬ h P ∧ sH.v.ownBlock ≠ some P
theorem Fr.ne {w : World} {sH : Sl} {h : Nat → Prop} {P : Nat} (f : Fr w sH h P) {t : Nat} (h5 : t ≠ 5) (h29 : t ≠ 29) (cur : Array Value) (m : Nat × Nat) : w.heap[P]? ≠ some (.cells cur t m) := by
  intro e
  obtain ⟨⟨cu, m', hc | hc⟩, -⟩ := f
  · rw [hc] at e; simp only [Option.some.injEq, Obj.cells.injEq] at e; exact h5 e.2.1.symm
  · rw [hc] at e; simp only [Option.some.injEq, Obj.cells.injEq] at e; exact h29 e.2.1.symm
theorem Ho.keptX {w w' : World} {V : Nat} {v : Vl} {X : List Nat} (h : Ho w V v) (a : Apart X w w') (h71 : V ∉ X) (hX : ∀ k ∈ X, ∀ cur m, w.heap[k]? ≠ some (.cells cur 141 m)) : Ho w' V v := by
  have kB : ∀ {b : Value}, Bd w V b → Bd w' V b := fun {b} hb => (a.block V (lt_of_heap hb) h71).trans hb
  cases v using Vl.el with
  | cnt u d => exact kB h
  | set c es => obtain ⟨s, h1, h2⟩ := h; exact ⟨s, kB h1, h2.kept a hX⟩
  | flg c g => exact kB h
  | rgs s x t => exact kB h
theorem Nw.keptX {w0 w w' : World} {e size : Nat} {s : Sl} {us : List Value} {X : List Nat} (h : Nw w0 w e size s us) (a : Apart X w w') (hX : ∀ k, s.v.ownBlock = some k → k ∉ X) (ap : Apart [] w0 w') : Nw w0 w' e size s us := ⟨own_apart h.own a hX, h.new, ap⟩
variable {wB w w' : World} {T k : Nat} {p r : Nat → Nat} {v : Nat → Vl} {ts : Nat → List Tg} {H L : List Sl} {sH sL : Sl} {h : Nat → Prop}
theorem Tb.ap (t : Tb wB w T k p r v ts H L sH sL h) : Apart [] wB w := t.nh.ap
theorem Tb.bdP (t : Tb wB w T k p r v ts H L sH sL h) {i : Nat} (hi : i < 4) : ∃ b, w.heap[p i]? = some (.cells #[b] 71 (0, 0)) := by
  obtain ⟨b, hb⟩ := (t.pv i hi).bd
  exact ⟨b, hb⟩
/-- what changed is of no account -/
theorem Tb.kept {X : List Nat} (t : Tb wB w T k p r v ts H L sH sL h) (a : Apart X w w') (hX : ∀ P ∈ X, Fr w sH h P ∧ wB.heap.size ≤ P) : Tb wB w' T k p r v ts H L sH sL h := by
  have hne : ∀ {P : Nat} {cur : Array Value} {t : Nat} {m : Nat × Nat}, w.heap[P]? = some (.cells cur t m) → t ≠ 5 → t ≠ 29 → P ∉ X := fun {P cur t m} e h5 h29 hm => (hX P hm).1.ne h5 h29 cur m e
  have hap : Apart [] wB w' := t.ap.trans' a (fun y hy => .inr (hX y hy).2)
  have hb : ∀ {P : Nat} {cur : Array Value} {m : Nat × Nat} {ty : Nat}, h P → w.heap[P]? = some (.cells cur ty m) → w'.heap[P]? = some (.cells cur ty m) := fun {P cur m ty} hp e => (a.block P (lt_of_heapM e) (fun hm => (hX P hm).1.2.1 hp)).trans e
  have hc : ∀ {P o : Nat} {cur : Array Value} {m : Nat × Nat} {ty : Nat}, h P → w.heap[P]? = some (.cells cur ty m) → w'.cell? ⟨P, o, none⟩ = w.cell? ⟨P, o, none⟩ := fun {P o cur m ty} hp e => a.cell (lt_of_heapM e) (fun hm => (hX P hm).1.2.1 hp)
  refine ⟨(a.block T (lt_of_heap t.blk) (hne t.blk (by decide) (by decide))).trans t.blk, t.tn, t.pn, t.rn, t.pd, t.rd, fun i hi => ?_, fun i hi => ?_, t.iv, t.kd, t.rl, ?_, t.hn, ?_, t.ln, fun i x hx => ?_, fun i x hx j hj => ?_, fun P hP => ?_, t.ev⟩
  · obtain ⟨b, hb⟩ := t.bdP hi
    exact (t.pv i hi).keptX a (hne hb (by decide) (by decide)) (fun q hq cur m => (hX q hq).1.ne (by decide) (by decide) cur m)
  · obtain ⟨s, hs⟩ := t.rv i hi
    exact ⟨s, hs.other a (hne hs.dv.blk (by decide) (by decide)) (fun q hq cur m => (hX q hq).1.ne (by decide) (by decide) cur m)⟩
  · exact t.nh.keptX a (fun q hq hm => (hX q hm).1.2.2 hq) hap
  · exact t.nl.keptX a (fun q hq hm => by
      obtain ⟨cur, e⟩ := own_typ t.nl.own hq
      exact (hX q hm).1.ne (by decide) (by decide) cur (0, 0) e) hap
  · obtain ⟨h1, h2⟩ := t.hd i x hx
    refine ⟨fun h0 => ?_, h2⟩
    obtain ⟨P, o, e1, ⟨cur, m, e2⟩, e3⟩ := h1 h0
    have hP := h2 P o e1
    exact ⟨P, o, e1, ⟨cur, m, hb hP e2⟩, fun j u hj => (hc hP e2).trans (e3 j u hj)⟩
  · obtain ⟨P, o, cur, m, q, c, e1, e2, e3, e4⟩ := t.ld i x hx j hj
    exact ⟨P, o, cur, m, q, c, e1, e2, hb e2 e3, (hc e2 e3).trans e4⟩
  · obtain ⟨e1, ⟨cur, m, e2⟩, e3⟩ := t.hh P hP
    exact ⟨e1, ⟨cur, m, e2.imp (hb hP) (hb hP)⟩, e3⟩
theorem Tb.kept0 (t : Tb wB w T k p r v ts H L sH sL h) (a : Apart [] w w') : Tb wB w' T k p r v ts H L sH sL h := t.kept a (by simp)
/-- a value changed, or another one in its place -/
theorem Tb.next (t : Tb wB w T k p r v ts H L sH sL h) {i : Nat} (hi : i < 4) {p' r' : Nat} {v' : Vl} {ts' : List Tg} {s' : Sl} (a : Apart [p i, r i, T] w w') (hb : w'.heap[T]? = some (.cells (tbC k (upd p i p') (upd r i r') sH sL).toArray 49 (0, 0))) (hp : p' = p i ∨ w.heap.size ≤ p') (hr : r' = r i ∨ w.heap.size ≤ r') (hv : Ho w' p' v') (hd : Dk w' r' (rvO v' ts') s') (iv : Iv v') (rl : Rl v' ts') (kd : v'.kd = k) : Tb wB w' T k (upd p i p') (upd r i r') (upd v i v') (upd ts i ts') H L sH sL h := by
  obtain ⟨b0, hb0⟩ := t.bdP hi
  obtain ⟨s0, hs0⟩ := t.rv i hi
  have hX : ∀ P ∈ [p i, r i, T], (∃ cur, w.heap[P]? = some (.cells cur 71 (0, 0))) ∨ (∃ cur, w.heap[P]? = some (.cells cur 63 (0, 0))) ∨ ∃ cur, w.heap[P]? = some (.cells cur 49 (0, 0)) := fun P hP => by
    simp only [List.mem_cons, List.not_mem_nil, or_false] at hP
    rcases hP with rfl | rfl | rfl
    · exact .inl ⟨_, hb0⟩
    · exact .inr (.inl ⟨_, hs0.dv.blk⟩)
    · exact .inr (.inr ⟨_, t.blk⟩)
  have hne : ∀ {P : Nat} {cur : Array Value} {t : Nat} {m : Nat × Nat}, w.heap[P]? = some (.cells cur t m) → t ≠ 71 → t ≠ 63 → t ≠ 49 → P ∉ [p i, r i, T] := fun {P cur t m} e h1 h2 h3 hm => by
    rcases hX P hm with ⟨c, e'⟩ | ⟨c, e'⟩ | ⟨c, e'⟩
    all_goals
      rw [e'] at e
      simp only [Option.some.injEq, Obj.cells.injEq] at e
    · exact h1 e.2.1.symm
    · exact h2 e.2.1.symm
    · exact h3 e.2.1.symm
  have hXn : ∀ {ty : Nat}, ty ≠ 71 → ty ≠ 63 → ty ≠ 49 → ∀ q ∈ [p i, r i, T], ∀ cur m, w.heap[q]? ≠ some (.cells cur ty m) := fun {ty} h1 h2 h3 q hq cur m e => hne e h1 h2 h3 hq
  have hsz := t.ap.size
  have hap : Apart [] wB w' := t.ap.trans' a (fun y hy => by
    simp only [List.mem_cons, List.not_mem_nil, or_false] at hy
    rcases hy with rfl | rfl | rfl
    · exact .inr (t.pn i hi)
    · exact .inr (t.rn i hi)
    · exact .inr t.tn)
  have pne : ∀ j, j < 4 → j ≠ i → p j ∉ [p i, r i, T] ∧ p j ≠ p' := fun j hj hji => by
    obtain ⟨bj, hbj⟩ := t.bdP hj
    refine ⟨fun hm => ?_, fun e => ?_⟩
    · simp only [List.mem_cons, List.not_mem_nil, or_false] at hm
      rcases hm with e | e | e
      · exact t.pd j i hj hi hji e
      · rw [e, hs0.dv.blk] at hbj; simp at hbj
      · rw [e, t.blk] at hbj; simp at hbj
    · rcases hp with hp | hp
      · exact t.pd j i hj hi hji (e.trans hp)
      · have := lt_of_heap hbj
        omega
  have rne : ∀ j, j < 4 → j ≠ i → r j ∉ [p i, r i, T] ∧ r j ≠ r' := fun j hj hji => by
    obtain ⟨sj, hsj⟩ := t.rv j hj
    refine ⟨fun hm => ?_, fun e => ?_⟩
    · simp only [List.mem_cons, List.not_mem_nil, or_false] at hm
      have hbj := hsj.dv.blk
      rcases hm with e | e | e
      · rw [e, hb0] at hbj; simp at hbj
      · exact t.rd j i hj hi hji e
      · rw [e, t.blk] at hbj; simp at hbj
    · rcases hr with hr | hr
      · exact t.rd j i hj hi hji (e.trans hr)
      · have := lt_of_heap hsj.dv.blk
        omega
  have hnP : ∀ P, h P → P ∉ [p i, r i, T] := fun P hP => by
    obtain ⟨-, ⟨cur, m, e | e⟩, -⟩ := t.hh P hP
    · exact hne e (by decide) (by decide) (by decide)
    · exact hne e (by decide) (by decide) (by decide)
  have hbk : ∀ {P : Nat} {cur : Array Value} {m : Nat × Nat} {ty : Nat}, h P → w.heap[P]? = some (.cells cur ty m) → w'.heap[P]? = some (.cells cur ty m) := fun {P cur m ty} hp e => (a.block P (lt_of_heapM e) (hnP P hp)).trans e
  have hc : ∀ {P o : Nat} {cur : Array Value} {m : Nat × Nat} {ty : Nat}, h P → w.heap[P]? = some (.cells cur ty m) → w'.cell? ⟨P, o, none⟩ = w.cell? ⟨P, o, none⟩ := fun {P o cur m ty} hp e => a.cell (lt_of_heapM e) (hnP P hp)
  refine ⟨hb, t.tn, fun j hj => ?_, fun j hj => ?_, fun j l hj hl hjl => ?_, fun j l hj hl hjl => ?_, fun j hj => ?_, fun j hj => ?_, fun j hj => ?_, fun j hj => ?_, fun j hj => ?_, ?_, t.hn, ?_, t.ln, fun j x hx => ?_, fun j x hx q hq => ?_, fun P hP => ?_, t.ev⟩
  · by_cases e : j = i
    · subst e; rw [upd_same]
      rcases hp with hp | hp
      · rw [hp]; exact t.pn _ hi
      · omega
    · rw [upd_other _ _ e]; exact t.pn j hj
  · by_cases e : j = i
    · subst e; rw [upd_same]
      rcases hr with hr | hr
      · rw [hr]; exact t.rn _ hi
      · omega
    · rw [upd_other _ _ e]; exact t.rn j hj
  · by_cases e : j = i
    · subst e
      rw [upd_same, upd_other _ _ (fun e => hjl e.symm)]
      exact fun e => (pne l hl (fun e => hjl e.symm)).2 e.symm
    · rw [upd_other _ _ e]
      by_cases e2 : l = i
      · subst e2
        rw [upd_same]
        exact (pne j hj e).2
      · rw [upd_other _ _ e2]; exact t.pd j l hj hl hjl
  · by_cases e : j = i
    · subst e
      rw [upd_same, upd_other _ _ (fun e => hjl e.symm)]
      exact fun e => (rne l hl (fun e => hjl e.symm)).2 e.symm
    · rw [upd_other _ _ e]
      by_cases e2 : l = i
      · subst e2
        rw [upd_same]
        exact (rne j hj e).2
      · rw [upd_other _ _ e2]; exact t.rd j l hj hl hjl
  · by_cases e : j = i
    · subst e; rw [upd_same, upd_same]; exact hv
    · rw [upd_other _ _ e, upd_other _ _ e]
      exact (t.pv j hj).keptX a (pne j hj e).1 (hXn (by decide) (by decide) (by decide))
  · by_cases e : j = i
    · subst e; rw [upd_same, upd_same, upd_same]; exact ⟨s', hd⟩
    · rw [upd_other _ _ e, upd_other _ _ e, upd_other _ _ e]
      obtain ⟨s, hs⟩ := t.rv j hj
      exact ⟨s, hs.other a (rne j hj e).1 (hXn (by decide) (by decide) (by decide))⟩
  · by_cases e : j = i
    · subst e; rw [upd_same]; exact iv
    · rw [upd_other _ _ e]; exact t.iv j hj
  · by_cases e : j = i
    · subst e; rw [upd_same]; exact kd
    · rw [upd_other _ _ e]; exact t.kd j hj
  · by_cases e : j = i
    · subst e; rw [upd_same, upd_same]; exact rl
    · rw [upd_other _ _ e, upd_other _ _ e]; exact t.rl j hj
  · exact t.nh.keptX a (fun q hq hm => by
      obtain ⟨cur, e⟩ := own_typ t.nh.own hq
      exact hne e (by decide) (by decide) (by decide) hm) hap
  · exact t.nl.keptX a (fun q hq hm => by
      obtain ⟨cur, e⟩ := own_typ t.nl.own hq
      exact hne e (by decide) (by decide) (by decide) hm) hap
  · obtain ⟨h1, h2⟩ := t.hd j x hx
    refine ⟨fun h0 => ?_, h2⟩
    obtain ⟨P, o, e1, ⟨cur, m, e2⟩, e3⟩ := h1 h0
    have hP := h2 P o e1
    exact ⟨P, o, e1, ⟨cur, m, hbk hP e2⟩, fun q u hq => (hc hP e2).trans (e3 q u hq)⟩
  · obtain ⟨P, o, cur, m, q', c, e1, e2, e3, e4⟩ := t.ld j x hx q hq
    exact ⟨P, o, cur, m, q', c, e1, e2, hbk e2 e3, (hc e2 e3).trans e4⟩
  · obtain ⟨e1, ⟨cur, m, e2⟩, e3⟩ := t.hh P hP
    exact ⟨e1, ⟨cur, m, e2.imp (hbk hP) (hbk hP)⟩, e3⟩
theorem tb_p (k : Nat) (p r : Nat → Value) (sH sL : Sl) {i : Nat} (hi : i < 4) : (tbG k p r sH sL)[1 + i]? = some (p i) := by
  obtain rfl | rfl | rfl | rfl : i = 0 ∨ i = 1 ∨ i = 2 ∨ i = 3 := by omega
  all_goals rfl
theorem tb_r (k : Nat) (p r : Nat → Value) (sH sL : Sl) {i : Nat} (hi : i < 4) : (tbG k p r sH sL)[5 + i]? = some (r i) := by
  obtain rfl | rfl | rfl | rfl : i = 0 ∨ i = 1 ∨ i = 2 ∨ i = 3 := by omega
  all_goals rfl
theorem Tb.cp (t : Tb wB w T k p r v ts H L sH sL h) {i : Nat} (hi : i < 4) : w.cell? ⟨T, 1 + i, none⟩ = some (.pointer (some ⟨p i, 0, none⟩)) := dcell t.blk (tb_p _ _ _ _ _ hi)
theorem Tb.cr (t : Tb wB w T k p r v ts H L sH sL h) {i : Nat} (hi : i < 4) : w.cell? ⟨T, 5 + i, none⟩ = some (.pointer (some ⟨r i, 0, none⟩)) := dcell t.blk (tb_r _ _ _ _ _ hi)
theorem Tb.ch (t : Tb wB w T k p r v ts H L sH sL h) : w.cell? ⟨T, 9, none⟩ = some (.slice sH.p sH.n sH.c) := dcell t.blk rfl
theorem Tb.cl (t : Tb wB w T k p r v ts H L sH sL h) : w.cell? ⟨T, 10, none⟩ = some (.slice sL.p sL.n sL.c) := dcell t.blk rfl
end Go.Proofs.YtdbeeikjngnnnaaGreat.ty
namespace Go.Proofs.YtdbeeikjngnnnaaGreat.ty
open Go.ChangeShapes Go.WideShapes Go.ChangeAt Go.RowKit
set_option linter.unusedVariables false
set_option linter.unusedSimpArgs false
variable {wB w w' w2 : World} {T k : Nat} {p r : Nat → Nat} {v : Nat → Vl} {ts : Nat → List Tg} {H L : List Sl} {sH sL : Sl} {h : Nat → Prop}
theorem To.nil : To [] := ⟨by simp, List.Pairwise.nil⟩
theorem Rl.to {v : Vl} {ts : List Tg} (h : Rl v ts) : To ts := by
  cases v using Vl.el with
  | cnt u d => rw [show ts = [] from h]; exact To.nil
  | set c es => exact h.1.og
  | flg c g => exact h.1.og
  | rgs s a t => rw [show ts = [] from h]; exact To.nil
theorem tbC_r (k : Nat) (p r : Nat → Nat) (sH sL : Sl) {i : Nat} (hi : i < 4) (X : Nat) : (tbC k p r sH sL).set (5 + i) (ptV X) = tbC k p (upd r i X) sH sL := by
  obtain rfl | rfl | rfl | rfl : i = 0 ∨ i = 1 ∨ i = 2 ∨ i = 3 := by omega
  all_goals rfl
end Go.Proofs.YtdbeeikjngnnnaaGreat.ty
