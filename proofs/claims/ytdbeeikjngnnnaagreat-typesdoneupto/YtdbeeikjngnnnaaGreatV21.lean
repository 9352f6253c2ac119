import Derived.Test.YtdbeeikjngnnnaaGreatChecked
import Derived.WalkKit
import Derived.ProofKit
import Derived.OpenShut
import Derived.Deep.QuietTactic
import Derived.BigQuiet
import Derived.BigRegion
import Derived.Laws.CopyOwn
import Derived.Laws.IdiomCopy
import Derived.WalkSmall
import Derived.Laws.ResultCell
import Derived.Laws.AppendOwnNone
import Derived.Deep.RegionHeld
import Derived.Deep.DeepAppendRoom
import Derived.Great.BuildSlice
import Derived.Deep.CutBlock
import Derived.Deep.RegionLaw
import Derived.ArgAppend
import Derived.Laws.Strings
import Derived.Laws.StructEq
import Derived.Below
import Derived.Deep.MidRow
import Derived.Great.Ranges
import Derived.Deep.RegionHeld3
import Derived.Laws.NewBlocks
import Derived.OrdersHeld
import Derived.Stop.BytesEq
import Derived.Laws.BytesString
import Derived.Lib.ConvBytes
import Derived.Laws.BitsAllLaws
import Derived.WalkLawsBesides
import Derived.Lib.Bytealg
import Derived.Laws.Externs
import Derived.Lib.SliceRun
import Derived.Lib.AppendZerosOnto
import Derived.Lib.AppendStr
import Derived.Lib.SlBytesConst
import Derived.Sort.Walk0
import Derived.Laws.Cover1
import Derived.Lib.Strings
import Derived.Lib.MinMaxS
import GoSem.Claim
import GoSem.ClaimJoined
import GoSem.ClaimMapViews
import Derived.JoinedTies
import Derived.KernelRfl
import Derived.JoinedCond
import Derived.ShutString
import Derived.ChangeOld
import Derived.Carry
import Derived.ChangeSlices
import Derived.Deep.Slices
import Derived.Deep.DeepHandedRow
import Derived.RowKit
import Derived.ChangeShapes
import Derived.SizedLaws
import Derived.ChangeMaps5
import Derived.Sort.WalkA
import Derived.Test.YtdbeeikjngnnnaaGreatRows
import Derived.Test.YtdbeeikjngnnnaaGreatV18
import Derived.Test.YtdbeeikjngnnnaaGreatV20
namespace Go.Proofs.YtdbeeikjngnnnaaGreat.ty
open Go.ChangeShapes Go.WideShapes Go.ChangeAt Go.RowKit
set_option linter.unusedVariables false
set_option linter.unusedSimpArgs false
theorem inj_le {α β : Type} (f : α → β) : ∀ (l : List α) (m : List β), l.Pairwise (fun x y => f x ≠ f y) → (∀ x ∈ l, f x ∈ m) → l.length ≤ m.length
  | [], m, _, _ => Nat.zero_le _
  | x :: r, m, h, k => by
    obtain ⟨h1, h2⟩ := List.pairwise_cons.1 h
    obtain ⟨a, b, e⟩ := List.append_of_mem (k x (by simp))
    have := inj_le f r (a ++ b) h2 (fun y hy => by
      have h3 := k y (List.mem_cons_of_mem _ hy)
      have h4 := h1 y hy
      rw [e] at h3
      simp only [List.mem_append, List.mem_cons] at h3 ⊢
      rcases h3 with h3 | h3 | h3
      · exact .inl h3
      · exact absurd h3.symm h4
      · exact .inr h3)
    rw [e]
    simp only [List.length_append, List.length_cons] at this ⊢
    omega
def cntA (ts : List Tg) (a : Nat) : Nat := (ts.filter fun t => t.a == a).length
def Fw (ts : List Tg) : Prop := ∀ a, a < 8 → cntA ts a ≤ 12
theorem cnt_step (ts : List Tg) (n : Nat) : (ts.filter fun t => decide (t.a < n + 1)).length = (ts.filter fun t => decide (t.a < n)).length + cntA ts n := by
  unfold cntA
  induction ts with
  | nil => rfl
  | cons t r ih =>
    simp only [List.filter_cons]
    by_cases h1 : t.a < n
    · rw [if_pos (by simp; omega), if_pos (by simp; omega), if_neg (by simp; omega)]
      simp only [List.length_cons]; omega
    · by_cases h2 : t.a = n
      · rw [if_pos (by simp; omega), if_neg (by simp; omega), if_pos (by simp; omega)]
        simp only [List.length_cons]; omega
      · rw [if_neg (by simp; omega), if_neg (by simp; omega), if_neg (by simp; omega)]
        exact ih
theorem Fw.len {ts : List Tg} (h : Fw ts) (o : To ts) : ts.length ≤ 96 := by
  have key : ∀ n, n ≤ 8 → (ts.filter fun t => decide (t.a < n)).length ≤ n * 12 := by
    intro n
    induction n with
    | zero => intro _; simp
    | succ n ih =>
      intro hn
      rw [cnt_step]
      have := h n (by omega)
      have := ih (by omega)
      omega
  have h8 := key 8 (by omega)
  have e : (ts.filter fun t => decide (t.a < 8)) = ts := List.filter_eq_self.2 fun t ht => by simpa using (o.ok t ht).1
  rw [e] at h8
  omega
theorem Fw.nil : Fw [] := fun a _ => by simp [cntA]
theorem Fw.sub {ts : List Tg} (h : Fw ts) (p : Tg → Bool) : Fw (ts.filter p) := fun a ha => by
  refine Nat.le_trans ?_ (h a ha)
  unfold cntA
  have e : List.filter (fun t : Tg => t.a == a) (List.filter p ts) = List.filter p (List.filter (fun t : Tg => t.a == a) ts) := by
    rw [List.filter_filter, List.filter_filter]
    congr 1
    funext t
    exact Bool.and_comm _ _
  rw [e]
  exact List.length_filter_le _ _
theorem one_e {ts : List Tg} (o : To ts) (a : Nat) : (ts.filter fun t => t.a == a).Pairwise fun x y => x.e ≠ y.e := by
  have h1 := o.one.filter fun t => t.a == a
  refine List.Pairwise.imp_of_mem ?_ h1
  intro x y hx hy h e
  have h2 := (List.mem_filter.1 hx).2
  have h3 := (List.mem_filter.1 hy).2
  simp only [beq_iff_eq] at h2 h3
  exact h ⟨e, h2.trans h3.symm⟩
theorem mem_tg {ts : List Tg} {es : List En} (h : Ts ts (tg es)) {t : Tg} (ht : t ∈ ts) : ∃ x ∈ es, x.e = t.e := by
  have h1 := h.og.ok t ht
  have h2 := h.eq t.e t.a h1.1
  rw [numT_mem h.og ht] at h2
  rcases tg_or es t.e with e | ⟨x, hx, e, -⟩
  · rw [e, zrD] at h2; omega
  · exact ⟨x, hx, e⟩
theorem Fw.of {ts : List Tg} {es : List En} (h : Ts ts (tg es)) (hl : es.length ≤ 12) : Fw ts := fun a ha => by
  have := inj_le (fun t : Tg => t.e) _ (es.map fun x => x.e) (one_e h.og a) (fun t ht => by
    obtain ⟨x, hx, e⟩ := mem_tg h (List.mem_filter.1 ht).1
    exact List.mem_map.2 ⟨x, hx, e⟩)
  rw [List.length_map] at this
  unfold cntA
  omega
theorem tg_some {ts : List Tg} {es : List En} (h : Ts ts (tg es)) (hs : So es) (hz : ∀ x ∈ es, x.t ≠ zr) (hl : ∀ x ∈ es, x.t.length = 8) {x : En} (hx : x ∈ es) : ∃ t ∈ ts, t.e = x.e := by
  have h0 : ∃ i, i < 8 ∧ x.t.getD i 0 ≠ 0 := by
    refine Classical.byContradiction fun k => hz x hx (row_ext (hl x hx) rfl fun i hi => ?_)
    rw [zrD]
    exact Classical.byContradiction fun q => k ⟨i, hi, q⟩
  obtain ⟨i, hi, hne⟩ := h0
  have h1 := h.eq x.e i hi
  rw [tg_mem hs hx] at h1
  rcases numT_or ts x.e i with ⟨z, -⟩ | ⟨t, ht, e, -⟩
  · rw [z] at h1; exact absurd h1 hne
  · exact ⟨t, ht, e⟩
theorem insS_so {x : ByteArray} {l : List ByteArray} (h : l.Pairwise fun a b => bl a b = true) : (insS x l).Pairwise fun a b => bl a b = true := by
  unfold insS
  split
  · exact h
  · rename_i hn
    have hlo : ∀ y ∈ l.take (bel x l), bl y x = true := fun y hy => by
      obtain ⟨i, hi, e⟩ := List.mem_iff_getElem.1 hy
      rw [List.length_take] at hi
      rw [← e, List.getElem_take]
      exact bel_lt x l i (by omega) (by omega)
    have hhi : ∀ y ∈ l.drop (bel x l), bl x y = true := fun y hy => by
      obtain ⟨i, hi, e⟩ := List.mem_iff_getElem.1 hy
      rw [List.length_drop] at hi
      rw [List.getElem_drop] at e
      have hb : bel x l < l.length := by omega
      have h1 := bel_ge x l hb
      rw [List.getElem?_eq_getElem hb] at hn
      have h2 : bl x (l[bel x l]'hb) = true := by
        cases q : bl x (l[bel x l]'hb)
        · exact absurd (congrArg some (bl_total h1 q)) hn
        · rfl
      by_cases hi0 : i = 0
      · subst hi0; rw [← e]; simpa using h2
      · have h3 := List.pairwise_iff_getElem.1 h (bel x l) (bel x l + i) hb (by omega) (by omega)
        rw [← e]
        exact bl_trans h2 h3
    refine List.pairwise_append.2 ⟨h.sublist (List.take_sublist _ _), List.pairwise_cons.2 ⟨hhi, h.sublist (List.drop_sublist _ _)⟩, fun y hy z hz => ?_⟩
    rcases List.mem_cons.1 hz with rfl | hz
    · exact hlo y hy
    · exact bl_trans (hlo y hy) (hhi z hz)
theorem elsT_so : ∀ (ts : List Tg) {l : List ByteArray}, (l.Pairwise fun a b => bl a b = true) → (elsT ts l).Pairwise fun a b => bl a b = true
  | [], l, h => h
  | t :: r, l, h => by rw [elsT]; exact elsT_so r (insS_so h)
theorem elsT_len : ∀ (ts : List Tg) (l : List ByteArray), (elsT ts l).length ≤ ts.length + l.length
  | [], l => by simp [elsT]
  | t :: r, l => by
    rw [elsT]
    have := elsT_len r (insS t.e l)
    have := insS_len t.e l
    simp only [List.length_cons]
    omega
theorem so_ext : ∀ {a b : List ByteArray}, (a.Pairwise fun x y => bl x y = true) → (b.Pairwise fun x y => bl x y = true) → (∀ x, x ∈ a ↔ x ∈ b) → a = b
  | [], [], _, _, _ => rfl
  | [], y :: b, _, _, h => by have := (h y).2 (by simp); simp at this
  | x :: a, [], _, _, h => by have := (h x).1 (by simp); simp at this
  | x :: a, y :: b, h1, h2, h => by
    obtain ⟨p1, p2⟩ := List.pairwise_cons.1 h1
    obtain ⟨q1, q2⟩ := List.pairwise_cons.1 h2
    have e : x = y := by
      rcases List.mem_cons.1 ((h x).1 (by simp)) with e | hx
      · exact e
      · rcases List.mem_cons.1 ((h y).2 (by simp)) with e | hy
        · exact e.symm
        · have k1 := q1 x hx
          have k2 := p1 y hy
          have := bl_trans k1 k2
          rw [bl_irrefl] at this; cases this
    subst e
    rw [so_ext p2 q2 fun z => ?_]
    constructor
    · intro hz
      rcases List.mem_cons.1 ((h z).1 (List.mem_cons_of_mem _ hz)) with e | hz2
      · subst e; have := p1 z hz; rw [bl_irrefl] at this; cases this
      · exact hz2
    · intro hz
      rcases List.mem_cons.1 ((h z).2 (List.mem_cons_of_mem _ hz)) with e | hz2
      · subst e; have := q1 z hz; rw [bl_irrefl] at this; cases this
      · exact hz2
theorem els_eq {ts : List Tg} {es : List En} (h : Ts ts (tg es)) (hs : So es) (hz : ∀ x ∈ es, x.t ≠ zr) (hl : ∀ x ∈ es, x.t.length = 8) : elsT ts [] = es.map fun x => x.e := by
  refine so_ext (elsT_so ts List.Pairwise.nil) (List.pairwise_map.2 hs) fun y => ?_
  rw [elsT_mem]
  simp only [List.not_mem_nil, false_or, List.mem_map]
  constructor
  · rintro ⟨t, ht, rfl⟩
    exact mem_tg h ht
  · rintro ⟨x, hx, rfl⟩
    exact tg_some h hs hz hl hx
structure Iv (v : Vl) : Prop where
  gt : Gt v
  sz : ∀ x ∈ elsR v, 1 ≤ x.e.size
def flT (g : List Int) (e : ByteArray) : List Int := if e = ⟨#[]⟩ then g else zr
def Rl (v : Vl) (ts : List Tg) : Prop := match v with
  | Sum.inl _ => ts = []
  | Sum.inr (Sum.inl (c, es)) => Ts ts (tg es) ∧ Fw ts
  | Sum.inr (Sum.inr (Sum.inl (c, g))) => Ts ts (flT g) ∧ Fw ts
  | Sum.inr (Sum.inr (Sum.inr _)) => ts = []
def rvO (v : Vl) (ts : List Tg) : Rv := match v with
  | Sum.inl (u, d) => ⟨1, u, d, zr, ts, 0, 0, ⟨#[]⟩⟩
  | Sum.inr (Sum.inl (c, es)) => ⟨2, zr, zr, c, ts, 0, 0, ⟨#[]⟩⟩
  | Sum.inr (Sum.inr (Sum.inl (c, g))) => ⟨3, zr, zr, c, ts, 0, 0, ⟨#[]⟩⟩
  | Sum.inr (Sum.inr (Sum.inr (s, a, t))) => ⟨4, zr, zr, zr, ts, s, a, t⟩
theorem rvO_k (v : Vl) (ts : List Tg) : (rvO v ts).k = v.kd := by cases v using Vl.el <;> rfl
theorem Rl.len {v : Vl} {ts : List Tg} (h : Rl v ts) : ts.length ≤ 96 := by
  cases v using Vl.el with
  | cnt u d => rw [show ts = [] from h]; simp
  | set c es => exact h.2.len h.1.og
  | flg c g => exact h.2.len h.1.og
  | rgs s a t => rw [show ts = [] from h]; simp
theorem Rl.els {v : Vl} {ts : List Tg} (h : Rl v ts) (hv : Gd v) : (elsR v).length ≤ 96 := by
  cases v using Vl.el with
  | cnt u d => simp [elsR]
  | set c es =>
    have h1 := els_eq h.1 hv.1.so hv.1.nz (fun x hx => (hv.1.wi x hx).1)
    have h2 := elsT_len ts []
    have h3 := h.2.len h.1.og
    rw [h1, List.length_map] at h2
    show es.length ≤ 96
    simp only [List.length_nil] at h2
    omega
  | flg c g => simp [elsR]
  | rgs s a t => simp [elsR]
theorem Rl.ok {v : Vl} {ts : List Tg} (h : Rl v ts) (hv : Gd v) : Ok v := hv.ok (by have := h.els hv; omega)
theorem Rl.okF {v : Vl} {ts : List Tg} (h : Rl v ts) (hv : Gd v) : OkF v := hv.okF (by have := h.els hv; omega)
end Go.Proofs.YtdbeeikjngnnnaaGreat.ty
namespace Go.Proofs.YtdbeeikjngnnnaaGreat.ty
open Go.ChangeShapes Go.WideShapes Go.ChangeAt Go.RowKit
set_option linter.unusedVariables false
set_option linter.unusedSimpArgs false
theorem setD {l : List Int} {i : Nat} (hi : i < l.length) (j : Nat) (x : Int) : (l.set i x).getD j 0 = if j = i then x else l.getD j 0 := by
  rw [List.getD_eq_getElem?_getD, List.getElem?_set, List.getD_eq_getElem?_getD]
  by_cases h : i = j
  · subst h; rw [if_pos rfl, if_pos hi, if_pos rfl]; rfl
  · rw [if_neg h, if_neg (fun k => h k.symm)]
theorem setWd {u : List Int} (h : Wd u) {i : Nat} (hi : i < 8) {x : Int} (h0 : 0 ≤ x) (h1 : x ≤ 16777215) : Wd (u.set i x) := ⟨by rw [List.length_set]; exact h.1, fun y hy => by
  rcases List.mem_or_eq_of_mem_set hy with hy | rfl
  · exact h.2 y hy
  · exact ⟨h0, h1⟩⟩
theorem setCn {c : List Int} (h : Cn c) {i : Nat} (hi : i < 8) {x : Int} (h0 : 0 ≤ x) (h1 : x ≤ 65535) : Cn (c.set i x) := ⟨by rw [List.length_set]; exact h.1, fun j => by
  rw [setD (by rw [h.1]; exact hi)]
  split
  · exact ⟨h0, h1⟩
  · exact h.2 j⟩
theorem tg_app (a b : List En) (e : ByteArray) : tg (a ++ b) e = if ∃ x ∈ a, x.e = e then tg a e else tg b e := by
  induction a with
  | nil => simp
  | cons x a ih =>
    simp only [List.cons_append, tg]
    by_cases h : x.e = e
    · simp [h]
    · simp only [h, if_false, ih, List.mem_cons, exists_eq_or_imp, false_or]
theorem tg_no {a : List En} {e : ByteArray} (h : ∀ x ∈ a, x.e ≠ e) : tg a e = zr := by
  induction a with
  | nil => rfl
  | cons x a ih =>
    simp only [tg, h x (by simp), if_false]
    exact ih fun y hy => h y (List.mem_cons_of_mem _ hy)
theorem lohi_so {es : List En} (so : So es) (a : ByteArray) : So (lo es a ++ hi es a) := by
  refine List.pairwise_append.2 ⟨so.filter _, so.filter _, fun y hy z hz => ?_⟩
  exact bl_trans (List.mem_filter.1 hy).2 (List.mem_filter.1 hz).2
theorem lohi_mem {es : List En} {a : ByteArray} {z : En} (h : z ∈ lo es a ++ hi es a) : z ∈ es := by
  rcases List.mem_append.1 h with hz | hz
  · exact (List.mem_filter.1 hz).1
  · exact (List.mem_filter.1 hz).1
theorem tg_lohi {es : List En} (so : So es) (a x : ByteArray) : tg (lo es a ++ hi es a) x = if x = a then zr else tg es x := by
  have hso := lohi_so so a
  by_cases h : x = a
  · subst h
    rw [if_pos rfl]
    refine tg_no fun y hy e => ?_
    rcases List.mem_append.1 hy with hy | hy
    · have := (List.mem_filter.1 hy).2; rw [e, bl_irrefl] at this; cases this
    · have := (List.mem_filter.1 hy).2; rw [e, bl_irrefl] at this; cases this
  · rw [if_neg h]
    rcases tg_or es x with h1 | ⟨y, hy, hyx, h1⟩
    · rw [h1]
      rcases tg_or (lo es a ++ hi es a) x with h2 | ⟨z, hz, hzx, h2⟩
      · exact h2
      · have hm := lohi_mem hz
        rw [h2, ← tg_mem so hm, hzx, h1]
    · rw [h1]
      have hm : y ∈ lo es a ++ hi es a := by
        cases hb : bl y.e a
        · cases hb2 : bl a y.e
          · exact absurd ((hyx.symm.trans (bl_total hb hb2))) h
          · exact List.mem_append_right _ (List.mem_filter.2 ⟨hy, hb2⟩)
        · exact List.mem_append_left _ (List.mem_filter.2 ⟨hy, hb⟩)
      rw [← hyx, tg_mem hso hm]
theorem put_so {es : List En} (so : So es) (a : ByteArray) (t : List Int) : So (lo es a ++ [⟨a, t⟩] ++ hi es a) := by
  refine List.pairwise_append.2 ⟨List.pairwise_append.2 ⟨so.filter _, List.pairwise_singleton _ _, fun y hy z hz => ?_⟩, so.filter _, fun y hy z hz => ?_⟩
  · rw [List.mem_singleton] at hz; subst hz
    exact (List.mem_filter.1 hy).2
  · rcases List.mem_append.1 hy with hy | hy
    · exact bl_trans (List.mem_filter.1 hy).2 (List.mem_filter.1 hz).2
    · rw [List.mem_singleton] at hy; subst hy
      exact (List.mem_filter.1 hz).2
theorem tg_put {es : List En} (so : So es) (a x : ByteArray) (t : List Int) : tg (lo es a ++ [⟨a, t⟩] ++ hi es a) x = if x = a then t else tg es x := by
  have hl := tg_lohi so a x
  rw [tg_app] at hl
  rw [List.append_assoc, tg_app]
  by_cases h : x = a
  · subst h
    rw [if_neg, if_pos rfl, List.singleton_append, tg, if_pos rfl]
    rintro ⟨y, hy, e⟩
    have := (List.mem_filter.1 hy).2; rw [e, bl_irrefl] at this; cases this
  · rw [if_neg h] at hl ⊢
    have hax : ¬ a = x := fun k => h k.symm
    rw [← hl]
    simp only [List.singleton_append, tg, hax, if_false]
theorem zset_ne {i : Nat} (hi : i < 8) {x : Int} (hx : x ≠ 0) : zr.set i x ≠ zr := by
  intro h
  have : (zr.set i x).getD i 0 = zr.getD i 0 := by rw [h]
  rw [setD (by show i < 8; exact hi), if_pos rfl, zrD] at this
  exact hx this
theorem Wi.up {a c : List Int} (h : Wi a c) {i : Nat} (hi : i < 8) : Wi a (c.set i (c.getD i 0 + 1)) := ⟨h.1, by rw [List.length_set]; exact h.2.1, fun j hj => by
  have h1 := h.2.2 j hj
  rw [setD (by rw [h.2.1]; exact hi)]
  split
  · rename_i e; rw [e] at h1 ⊢; omega
  · exact h1⟩
theorem Wi.one {c : List Int} (h : Cn c) {i : Nat} (hi : i < 8) : Wi (ty.zr.set i (c.getD i 0 + 1)) (c.set i (c.getD i 0 + 1)) := ⟨by rw [List.length_set]; rfl, by rw [List.length_set]; exact h.1, fun j hj => by
  have h1 := h.2 j
  have h2 := h.2 i
  rw [setD (by show i < 8; exact hi), setD (by rw [h.1]; exact hi)]
  split
  · omega
  · rw [zrD]; omega⟩
theorem nb8_pos {r : List Int} (wd : Nat) {i : Nat} (h : 0 < r.getD i 0) : ∀ n, i < n → wd ≤ (nb8 r wd n).length
  | 0, h0 => by omega
  | n + 1, h0 => by
    unfold nb8
    by_cases e : i = n
    · subst e
      rw [if_pos h, List.length_append, leB_len]; omega
    · have := nb8_pos wd h n (by omega)
      split
      · rw [List.length_append]; omega
      · exact this
/-- of 64 bytes there are few elements -/
theorem esB_ge5 : ∀ {es : List En}, (∀ x ∈ es, 1 ≤ x.e.size) → (∀ x ∈ es, x.t ≠ zr) → (∀ x ∈ es, Cn x.t) → es.length * 5 ≤ (esB es).length
  | [], _, _, _ => by simp [esB]
  | x :: r, h1, h2, h3 => by
    have ih := esB_ge5 (es := r) (fun y hy => h1 y (List.mem_cons_of_mem _ hy)) (fun y hy => h2 y (List.mem_cons_of_mem _ hy)) (fun y hy => h3 y (List.mem_cons_of_mem _ hy))
    have e1 := h1 x (by simp)
    have e3 := h3 x (by simp)
    have e2 : ∃ i, i < 8 ∧ x.t.getD i 0 ≠ 0 := by
      refine Classical.byContradiction fun k => h2 x (by simp) (row_ext e3.1 rfl fun i hi => ?_)
      rw [zrD]
      exact Classical.byContradiction fun q => k ⟨i, hi, q⟩
    obtain ⟨i, hi, hne⟩ := e2
    have e4 := nb8_pos (r := x.t) 2 (i := i) (by have := e3.2 i; omega) 8 hi
    have e5 := bsk_len x.e
    simp only [esB, enB, rowB, List.length_append, List.length_cons]
    omega
theorem few_of {c : List Int} {es : List En} (h : Gs c es) (hc : Cn c) (hs : ∀ x ∈ es, 1 ≤ x.e.size) (hl : (setB c es).length ≤ 64) : es.length ≤ 12 := by
  have := esB_ge5 hs h.nz (fun x hx => (h.wi x hx).cn hc)
  simp only [setB, List.length_append, List.length_cons] at hl
  omega
/-- what any of the calls makes -/
def doV (v : Vl) (k : Nat) (a b : Int) (on : Bool) (bs : List Nat) : Int × Vl :=
  if k = 1 then addR v a b else if k = 2 then putR v a bs else if k = 3 then takeR v bs else if k = 4 then switchR v a on else writeR v a bs
theorem isE_iff (n : Nat) : isE n = true ↔ 1 ≤ n ∧ n ≤ 8 := by unfold isE; simp
theorem Iv.add {v : Vl} (h : Iv v) (a b : Int) : Iv (addR v a b).2 ∧ (addR v a b).2.kd = v.kd := by
  cases v using Vl.el with
  | cnt u d =>
    unfold addR
    simp only
    split
    · exact ⟨h, rfl⟩
    split
    · exact ⟨h, rfl⟩
    split
    · exact ⟨h, rfl⟩
    · rename_i h1 h2 h3
      have hA : isA a = true := by simpa using h1
      obtain ⟨i, rfl, hi, hx⟩ := isA_i hA
      rw [hx] at h3
      simp only [hx]
      obtain ⟨⟨hu, hd⟩, -⟩ := h.gt
      have e1 := hu.at i hi
      have e2 := hd.at i hi
      exact ⟨⟨⟨⟨setWd hu hi (by omega) (by omega), setWd hd hi (by omega) (by omega)⟩, fun s a t e => by cases e⟩, fun x hx => by simp [elsR] at hx⟩, rfl⟩
  | set c es => exact ⟨h, rfl⟩
  | flg c g => exact ⟨h, rfl⟩
  | rgs s a t => exact ⟨h, rfl⟩
theorem put_gd {c : List Int} {es : List En} {e : ByteArray} (hg : Gs c es) (hc : Cn c) (hs : ∀ x ∈ es, x.e.size ≤ 8) (hz : ∀ x ∈ es, 1 ≤ x.e.size) {i : Nat} (hi : i < 8) (h1 : 1 ≤ e.size) (h8 : e.size ≤ 8) (hx : c.getD i 0 ≠ 65535) : Gs (putC c i) (putE c es i e) ∧ Cn (putC c i) ∧ ∀ x ∈ putE c es i e, 1 ≤ x.e.size ∧ x.e.size ≤ 8 := by
  have hci := hc.2 i
  have hcn : Cn (putC c i) := setCn hc hi (by omega) (by omega)
  have hm : ∀ {x : En}, x ∈ putE c es i e → x ∈ es ∨ x = ⟨e, zr.set i (c.getD i 0 + 1)⟩ := fun {x} hx => by
    unfold putE at hx
    rcases List.mem_append.1 hx with hx | hx
    · rcases List.mem_append.1 hx with hx | hx
      · exact .inl (List.mem_filter.1 hx).1
      · exact .inr (List.mem_singleton.1 hx)
    · exact .inl (List.mem_filter.1 hx).1
  refine ⟨⟨put_so hg.so e _, fun x hx => ?_, fun x hx => ?_, hcn.1, hcn.ge⟩, hcn, fun x hx => ?_⟩
  · rcases hm hx with h | rfl
    · exact hg.nz x h
    · exact zset_ne hi (by omega)
  · rcases hm hx with h | rfl
    · exact (hg.wi x h).up hi
    · exact Wi.one hc hi
  · rcases hm hx with h | rfl
    · exact ⟨hz x h, hs x h⟩
    · exact ⟨h1, h8⟩
theorem Iv.put {v : Vl} (h : Iv v) (a : Int) (bs : List Nat) : Iv (putR v a bs).2 ∧ (putR v a bs).2.kd = v.kd := by
  cases v using Vl.el with
  | set c es =>
    unfold putR
    simp only
    split
    · exact ⟨h, rfl⟩
    split
    · exact ⟨h, rfl⟩
    split
    · exact ⟨h, rfl⟩
    split
    · exact ⟨h, rfl⟩
    · rename_i h1 h2 h3 h4
      have hA : isA a = true := by simpa using h1
      obtain ⟨i, rfl, hi, hx⟩ := isA_i hA
      rw [hx] at h3
      simp only [hx]
      have h2' : isE bs.length = true := by simpa using h2
      rw [isE_iff] at h2'
      obtain ⟨⟨hg, hc, hs⟩, -⟩ := h.gt
      obtain ⟨k1, k2, k3⟩ := put_gd (e := strB bs) hg hc hs h.sz hi (by rw [strB_size]; omega) (by rw [strB_size]; omega) h3
      exact ⟨⟨⟨⟨k1, k2, fun x hx => (k3 x hx).2⟩, fun s a t e => by cases e⟩, fun x hx => (k3 x hx).1⟩, rfl⟩
  | cnt u d => exact ⟨h, rfl⟩
  | flg c g => exact ⟨h, rfl⟩
  | rgs s a t => exact ⟨h, rfl⟩
theorem lohi_gs {c : List Int} {es : List En} (hg : Gs c es) (e : ByteArray) : Gs c (lo es e ++ hi es e) := ⟨lohi_so hg.so e, fun x hx => hg.nz x (lohi_mem hx), fun x hx => hg.wi x (lohi_mem hx), hg.len, hg.ge⟩
theorem Iv.take {v : Vl} (h : Iv v) (bs : List Nat) : Iv (takeR v bs).2 ∧ (takeR v bs).2.kd = v.kd := by
  cases v using Vl.el with
  | set c es =>
    obtain ⟨⟨hg, hc, hs⟩, -⟩ := h.gt
    exact ⟨⟨⟨⟨lohi_gs hg _, hc, fun x hx => hs x (lohi_mem hx)⟩, fun s a t e => by cases e⟩, fun x hx => h.sz x (lohi_mem hx)⟩, rfl⟩
  | cnt u d => exact ⟨h, rfl⟩
  | flg c g => exact ⟨h, rfl⟩
  | rgs s a t => exact ⟨h, rfl⟩
theorem Iv.turn {v : Vl} (h : Iv v) (a : Int) (on : Bool) : Iv (switchR v a on).2 ∧ (switchR v a on).2.kd = v.kd := by
  cases v using Vl.el with
  | flg c g =>
    obtain ⟨⟨hc, hw⟩, -⟩ := h.gt
    unfold switchR
    simp only
    split
    · exact ⟨h, rfl⟩
    split
    · exact ⟨⟨⟨⟨hc, Wi.zr hc.1 hc.ge⟩, fun s a t e => by cases e⟩, fun x hx => by simp [elsR] at hx⟩, rfl⟩
    split
    · exact ⟨h, rfl⟩
    · rename_i h1 h2 h3
      have hA : isA a = true := by simpa using h1
      obtain ⟨i, rfl, hi, hx⟩ := isA_i hA
      rw [hx] at h3
      simp only [hx]
      have hci := hc.2 i
      exact ⟨⟨⟨⟨setCn hc hi (by omega) (by omega), Wi.one hc hi⟩, fun s a t e => by cases e⟩, fun x hx => by simp [elsR] at hx⟩, rfl⟩
  | cnt u d => exact ⟨h, rfl⟩
  | set c es => exact ⟨h, rfl⟩
  | rgs s a t => exact ⟨h, rfl⟩
theorem Iv.write {v : Vl} (h : Iv v) (a : Int) (bs : List Nat) : Iv (writeR v a bs).2 ∧ (writeR v a bs).2.kd = v.kd := by
  cases v using Vl.el with
  | rgs s x t =>
    obtain ⟨⟨h0, h1, h2⟩, h3⟩ := h.gt
    unfold writeR
    simp only
    split
    · exact ⟨h, rfl⟩
    split
    · exact ⟨h, rfl⟩
    split
    · exact ⟨h, rfl⟩
    · rename_i k1 k2 k3
      have hA : isA a = true := by simpa using k1
      obtain ⟨i, rfl, hi, hx⟩ := isA_i hA
      refine ⟨⟨⟨⟨⟨by omega, by omega⟩, ⟨by omega, by rw [strB_size]; omega⟩, fun e => by omega⟩, fun s' a' t' e => ?_⟩, fun x hx => by simp [elsR] at hx⟩, rfl⟩
      simp only [Vl.rgs, Sum.inr.injEq, Prod.mk.injEq] at e
      obtain ⟨-, e2, -⟩ := e
      omega
  | cnt u d => exact ⟨h, rfl⟩
  | set c es => exact ⟨h, rfl⟩
  | flg c g => exact ⟨h, rfl⟩
end Go.Proofs.YtdbeeikjngnnnaaGreat.ty
namespace Go.Proofs.YtdbeeikjngnnnaaGreat.ty
open Go.ChangeShapes Go.WideShapes Go.ChangeAt Go.RowKit
set_option linter.unusedVariables false
set_option linter.unusedSimpArgs false
theorem Ts.congr {ts : List Tg} {T O : ByteArray → List Int} (h : Ts ts T) (e : ∀ x, T x = O x) : Ts ts O := by
  have : T = O := funext e
  rw [← this]; exact h
theorem flT_wi {c g : List Int} (h : Wi g c) (hc : Cn c) (e : ByteArray) : Wi (flT g e) c := by
  unfold flT
  split
  · exact h
  · exact Wi.zr hc.1 hc.ge
theorem Iv.new {k : Nat} (h1 : 1 ≤ k) (h4 : k ≤ 4) : Iv (new0 k) := by
  refine ⟨⟨new0_gd k, fun s a t e => ?_⟩, fun x hx => ?_⟩
  · obtain rfl | rfl | rfl | rfl : k = 1 ∨ k = 2 ∨ k = 3 ∨ k = 4 := by omega
    all_goals cases e
    decide
  · obtain rfl | rfl | rfl | rfl : k = 1 ∨ k = 2 ∨ k = 3 ∨ k = 4 := by omega
    all_goals simp [new0, elsR] at hx
theorem Rl.new {k : Nat} (h1 : 1 ≤ k) (h4 : k ≤ 4) : Rl (new0 k) [] := by
  obtain rfl | rfl | rfl | rfl : k = 1 ∨ k = 2 ∨ k = 3 ∨ k = 4 := by omega
  · rfl
  · exact ⟨Ts.nil.congr fun _ => rfl, Fw.nil⟩
  · exact ⟨Ts.nil.congr fun x => by unfold flT; split <;> rfl, Fw.nil⟩
  · rfl
theorem rvO_new {k : Nat} (h1 : 1 ≤ k) (h4 : k ≤ 4) : rvO (new0 k) [] = rv0 k := by
  obtain rfl | rfl | rfl | rfl : k = 1 ∨ k = 2 ∨ k = 3 ∨ k = 4 := by omega
  all_goals rfl
theorem Rl.on {v : Vl} {ts : List Tg} (h : Rl v ts) (iv : Iv v) : ronR (rvO v ts) = onR v := by
  cases v using Vl.el with
  | cnt u d => rfl
  | set c es => rfl
  | rgs s a t => rfl
  | flg c g =>
    obtain ⟨⟨hc, hw⟩, -⟩ := iv.gt
    show (3 == 3 && decide (0 < ts.length)) = (g != zr)
    rw [show ((3 : Nat) == 3) = true from rfl, Bool.true_and]
    by_cases hg : g = zr
    · have : ts = [] := by
        cases ts with
        | nil => rfl
        | cons t r =>
          have h1 := h.1.og.ok t (by simp)
          have h2 := h.1.eq t.e t.a h1.1
          rw [numT_mem h.1.og (by simp)] at h2
          unfold flT at h2
          rw [hg] at h2
          split at h2
          all_goals rw [zrD] at h2; omega
      rw [this, hg]; decide
    · have h0 : ∃ i, i < 8 ∧ g.getD i 0 ≠ 0 := by
        refine Classical.byContradiction fun k => hg (row_ext hw.1 rfl fun i hi => ?_)
        rw [zrD]
        exact Classical.byContradiction fun q => k ⟨i, hi, q⟩
      obtain ⟨i, hi, hne⟩ := h0
      have h1 := h.1.eq ⟨#[]⟩ i hi
      unfold flT at h1
      rw [if_pos rfl] at h1
      have h2 : 0 < ts.length := by
        rcases numT_or ts ⟨#[]⟩ i with ⟨z, -⟩ | ⟨t, ht, -⟩
        · rw [z] at h1; exact absurd h1 hne
        · exact List.length_pos_of_mem ht
      have h3 : (g != zr) = true := by simpa using hg
      rw [h3, decide_eq_true h2]
theorem Rl.tr {ts : List Tg} {T : ByteArray → List Int} (h : Ts ts T) {c : List Int} (hc : Cn c) (e : ByteArray) (w : Wi (T e) c) : Tr ts e (T e) := ⟨h.len e, fun a ha => h.eq e a ha, fun a ha => by
  have h1 := h.eq e a ha
  have h2 := w.2.2 a ha
  have h3 := hc.2 a
  omega⟩
end Go.Proofs.YtdbeeikjngnnnaaGreat.ty
