import Derived.Test.YtdbeeikjngnnnaaGreatC28
namespace Go.Proofs.YtdbeeikjngnnnaaGreat.ty
open Go.ChangeShapes Go.WideShapes Go.ChangeAt Go.RowKit
set_option linter.unusedVariables false
set_option linter.unusedSimpArgs false
set_option maxRecDepth 100000
set_option maxHeartbeats 8000000
/-! ### what is done to a value, and its invariant -/
theorem setD {l : List Int} {i : Nat} (hi : i < l.length) (j : Nat) (x : Int) : (l.set i x).getD j 0 = if j = i then x else l.getD j 0 := by
 rw [List.getD_eq_getElem?_getD, List.getElem?_set, List.getD_eq_getElem?_getD]
 by_cases h : i = j
 ·subst h; rw [if_pos rfl, if_pos hi, if_pos rfl]; rfl
 ·rw [if_neg h, if_neg (fun k => h k.symm)]
theorem setWd {u : List Int} (h : Wd u) {i : Nat} (hi : i < 8) {x : Int} (h0 : 0 ≤ x) (h1 : x ≤ 16777215) : Wd (u.set i x) := ⟨by rw [List.length_set]; exact h.1, fun y hy => by
 rcases List.mem_or_eq_of_mem_set hy with hy | rfl
 ·exact h.2 y hy
 ·exact ⟨h0, h1⟩⟩
theorem setCn {c : List Int} (h : Cn c) {i : Nat} (hi : i < 8) {x : Int} (h0 : 0 ≤ x) (h1 : x ≤ 65535) : Cn (c.set i x) := ⟨by rw [List.length_set]; exact h.1, fun j => by
 rw [setD (by rw [h.1]; exact hi)]
 split
 ·exact ⟨h0, h1⟩
 ·exact h.2 j⟩
theorem tg_app (a b : List En) (e : ByteArray) : tg (a ++ b) e = if ∃ x ∈ a, x.e = e then tg a e else tg b e := by
 induction a with
 | nil => simp
 | cons x a ih =>
  simp only [List.cons_append, tg]
  by_cases h : x.e = e
  ·simp [h]
  ·simp only [h, if_false, ih, List.mem_cons, exists_eq_or_imp, false_or]
theorem tg_no {a : List En} {e : ByteArray} (h : ∀ x ∈ a, x.e ≠ e) : tg a e = zr := by
 induction a with
 | nil => rfl
 | cons x a ih =>
  simp only [tg, h x (by simp), if_false]
  exact ih fun y hy => h y (List.mem_cons_of_mem _ hy)
theorem lohi_so {es : List En} (so : So es) (a : ByteArray) : So (lo es a ++ hi es a) := by
 refine List.pairwise_append.2 ⟨so.filter _, so.filter _, fun y hy z hz => ?_⟩
 exact bl_trans (List.mem_filter.1 hy).2 (List.mem_filter.1 hz).2
theorem lohi_mem {es : List En} {a : ByteArray} {z : En} (h : z ∈ lo es a ++ hi es a) : z ∈ es := by
 rcases List.mem_append.1 h with hz | hz
 ·exact (List.mem_filter.1 hz).1
 ·exact (List.mem_filter.1 hz).1
theorem tg_lohi {es : List En} (so : So es) (a x : ByteArray) : tg (lo es a ++ hi es a) x = if x = a then zr else tg es x := by
 have hso := lohi_so so a
 by_cases h : x = a
 ·subst h
  rw [if_pos rfl]
  refine tg_no fun y hy e => ?_
  rcases List.mem_append.1 hy with hy | hy
  ·have := (List.mem_filter.1 hy).2; rw [e, bl_irrefl] at this; cases this
  ·have := (List.mem_filter.1 hy).2; rw [e, bl_irrefl] at this; cases this
 ·rw [if_neg h]
  rcases tg_or es x with h1 | ⟨y, hy, hyx, h1⟩
  ·rw [h1]
   rcases tg_or (lo es a ++ hi es a) x with h2 | ⟨z, hz, hzx, h2⟩
   ·exact h2
   ·have hm := lohi_mem hz
    rw [h2, ← tg_mem so hm, hzx, h1]
  ·rw [h1]
   have hm : y ∈ lo es a ++ hi es a := by
    cases hb : bl y.e a
    ·cases hb2 : bl a y.e
     ·exact absurd ((hyx.symm.trans (bl_total hb hb2))) h
     ·exact List.mem_append_right _ (List.mem_filter.2 ⟨hy, hb2⟩)
    ·exact List.mem_append_left _ (List.mem_filter.2 ⟨hy, hb⟩)
   rw [← hyx, tg_mem hso hm]
theorem put_so {es : List En} (so : So es) (a : ByteArray) (t : List Int) : So (lo es a ++ [⟨a, t⟩] ++ hi es a) := by
 refine List.pairwise_append.2 ⟨List.pairwise_append.2 ⟨so.filter _, List.pairwise_singleton _ _, fun y hy z hz => ?_⟩, so.filter _, fun y hy z hz => ?_⟩
 ·rw [List.mem_singleton] at hz; subst hz
  exact (List.mem_filter.1 hy).2
 ·rcases List.mem_append.1 hy with hy | hy
  ·exact bl_trans (List.mem_filter.1 hy).2 (List.mem_filter.1 hz).2
  ·rw [List.mem_singleton] at hy; subst hy
   exact (List.mem_filter.1 hz).2
theorem tg_put {es : List En} (so : So es) (a x : ByteArray) (t : List Int) : tg (lo es a ++ [⟨a, t⟩] ++ hi es a) x = if x = a then t else tg es x := by
 have hl := tg_lohi so a x
 rw [tg_app] at hl
 rw [List.append_assoc, tg_app]
 by_cases h : x = a
 ·subst h
  rw [if_neg, if_pos rfl, List.singleton_append, tg, if_pos rfl]
  rintro ⟨y, hy, e⟩
  have := (List.mem_filter.1 hy).2; rw [e, bl_irrefl] at this; cases this
 ·rw [if_neg h] at hl ⊢
  have hax : ¬ a = x := fun k => h k.symm
  rw [← hl]
  simp only [List.singleton_append, tg, hax, if_false]
theorem zset_ne {i : Nat} (hi : i < 8) {x : Int} (hx : x ≠ 0) : zr.set i x ≠ zr := by
 intro h
 have : (zr.set i x).getD i 0 = zr.getD i 0 := by rw [h]
 rw [setD (by show i < 8; exact hi), if_pos rfl, zrD] at this
 exact hx this
theorem Wi.up {a c : List Int} (h : Wi a c) {i : Nat} (hi : i < 8) : Wi a (c.set i (c.getD i 0 + 1)) := ⟨h.1, by rw [List.length_set]; exact h.2.1, fun j hj => by
 have h1 := h.2.2 j hj
 rw [setD (by rw [h.2.1]; exact hi)]
 split
 ·rename_i e; rw [e] at h1 ⊢; omega
 ·exact h1⟩
theorem Wi.one {c : List Int} (h : Cn c) {i : Nat} (hi : i < 8) : Wi (ty.zr.set i (c.getD i 0 + 1)) (c.set i (c.getD i 0 + 1)) := ⟨by rw [List.length_set]; rfl, by rw [List.length_set]; exact h.1, fun j hj => by
 have h1 := h.2 j
 have h2 := h.2 i
 rw [setD (by show i < 8; exact hi), setD (by rw [h.1]; exact hi)]
 split
 ·omega
 ·rw [zrD]; omega⟩
theorem nb8_pos {r : List Int} (wd : Nat) {i : Nat} (h : 0 < r.getD i 0) : ∀ n, i < n → wd ≤ (nb8 r wd n).length
 | 0, h0 => by omega
 | n + 1, h0 => by
  unfold nb8
  by_cases e : i = n
  ·subst e
   rw [if_pos h, List.length_append, leB_len]; omega
  ·have := nb8_pos wd h n (by omega)
   split
   ·rw [List.length_append]; omega
   ·exact this
theorem esB_ge5 : ∀ {es : List En}, (∀ x ∈ es, 1 ≤ x.e.size) → (∀ x ∈ es, x.t ≠ zr) → (∀ x ∈ es, Cn x.t) → es.length * 5 ≤ (esB es).length
 | [], _, _, _ => by simp [esB]
 | x :: r, h1, h2, h3 => by
  have ih := esB_ge5 (es := r) (fun y hy => h1 y (List.mem_cons_of_mem _ hy)) (fun y hy => h2 y (List.mem_cons_of_mem _ hy)) (fun y hy => h3 y (List.mem_cons_of_mem _ hy))
  have e1 := h1 x (by simp)
  have e3 := h3 x (by simp)
  have e2 : ∃ i, i < 8 ∧ x.t.getD i 0 ≠ 0 := by
   refine Classical.byContradiction fun k => h2 x (by simp) (row_ext e3.1 rfl fun i hi => ?_)
   rw [zrD]
   exact Classical.byContradiction fun q => k ⟨i, hi, q⟩
  obtain ⟨i, hi, hne⟩ := e2
  have e4 := nb8_pos (r := x.t) 2 (i := i) (by have := e3.2 i; omega) 8 hi
  have e5 := bsk_len x.e
  simp only [esB, enB, rowB, List.length_append, List.length_cons]
  omega
theorem few_of {c : List Int} {es : List En} (h : Gs c es) (hc : Cn c) (hs : ∀ x ∈ es, 1 ≤ x.e.size) (hl : (setB c es).length ≤ 64) : es.length ≤ 12 := by
 have := esB_ge5 hs h.nz (fun x hx => (h.wi x hx).cn hc)
 simp only [setB, List.length_append, List.length_cons] at hl
 omega
def doV (v : Vl) (k : Nat) (a b : Int) (on : Bool) (bs : List Nat) : Int × Vl :=
 if k = 1 then addR v a b else if k = 2 then putR v a bs else if k = 3 then takeR v bs else if k = 4 then switchR v a on else writeR v a bs
theorem isE_iff (n : Nat) : isE n = true ↔ 1 ≤ n ∧ n ≤ 8 := by unfold isE; simp
theorem Iv.add {v : Vl} (h : Iv v) (a b : Int) : Iv (addR v a b).2 ∧ (addR v a b).2.kd = v.kd := by
 cases v using Vl.el with
 | cnt u d =>
  unfold addR
  simp only
  split
  ·exact ⟨h, rfl⟩
  split
  ·exact ⟨h, rfl⟩
  split
  ·exact ⟨h, rfl⟩
  ·rename_i h1 h2 h3
   have hA : isA a = true := by simpa using h1
   obtain ⟨i, rfl, hi, hx⟩ := isA_i hA
   rw [hx] at h3
   simp only [hx]
   obtain ⟨⟨hu, hd⟩, -⟩ := h.gt
   have e1 := hu.at i hi
   have e2 := hd.at i hi
   exact ⟨⟨⟨⟨setWd hu hi (by omega) (by omega), setWd hd hi (by omega) (by omega)⟩, fun s a t e => by cases e⟩, fun x hx => by simp [elsR] at hx⟩, rfl⟩
 | set c es => exact ⟨h, rfl⟩
 | flg c g => exact ⟨h, rfl⟩
 | rgs s a t => exact ⟨h, rfl⟩
theorem put_gd {c : List Int} {es : List En} {e : ByteArray} (hg : Gs c es) (hc : Cn c) (hs : ∀ x ∈ es, x.e.size ≤ 8) (hz : ∀ x ∈ es, 1 ≤ x.e.size) {i : Nat} (hi : i < 8) (h1 : 1 ≤ e.size) (h8 : e.size ≤ 8) (hx : c.getD i 0 ≠ 65535) : Gs (putC c i) (putE c es i e) ∧ Cn (putC c i) ∧ ∀ x ∈ putE c es i e, 1 ≤ x.e.size ∧ x.e.size ≤ 8 := by
 have hci := hc.2 i
 have hcn : Cn (putC c i) := setCn hc hi (by omega) (by omega)
 have hm : ∀ {x : En}, x ∈ putE c es i e → x ∈ es ∨ x = ⟨e, zr.set i (c.getD i 0 + 1)⟩ := fun {x} hx => by
  unfold putE at hx
  rcases List.mem_append.1 hx with hx | hx
  ·rcases List.mem_append.1 hx with hx | hx
   ·exact .inl (List.mem_filter.1 hx).1
   ·exact .inr (List.mem_singleton.1 hx)
  ·exact .inl (List.mem_filter.1 hx).1
 refine ⟨⟨put_so hg.so e _, fun x hx => ?_, fun x hx => ?_, hcn.1, hcn.ge⟩, hcn, fun x hx => ?_⟩
 ·rcases hm hx with h | rfl
  ·exact hg.nz x h
  ·exact zset_ne hi (by omega)
 ·rcases hm hx with h | rfl
  ·exact (hg.wi x h).up hi
  ·exact Wi.one hc hi
 ·rcases hm hx with h | rfl
  ·exact ⟨hz x h, hs x h⟩
  ·exact ⟨h1, h8⟩
theorem Iv.put {v : Vl} (h : Iv v) (a : Int) (bs : List Nat) : Iv (putR v a bs).2 ∧ (putR v a bs).2.kd = v.kd := by
 cases v using Vl.el with
 | set c es =>
  unfold putR
  simp only
  split
  ·exact ⟨h, rfl⟩
  split
  ·exact ⟨h, rfl⟩
  split
  ·exact ⟨h, rfl⟩
  split
  ·exact ⟨h, rfl⟩
  ·rename_i h1 h2 h3 h4
   have hA : isA a = true := by simpa using h1
   obtain ⟨i, rfl, hi, hx⟩ := isA_i hA
   rw [hx] at h3
   simp only [hx]
   have h2' : isE bs.length = true := by simpa using h2
   rw [isE_iff] at h2'
   obtain ⟨⟨hg, hc, hs⟩, -⟩ := h.gt
   obtain ⟨k1, k2, k3⟩ := put_gd (e := strB bs) hg hc hs h.sz hi (by rw [strB_size]; omega) (by rw [strB_size]; omega) h3
   exact ⟨⟨⟨⟨k1, k2, fun x hx => (k3 x hx).2⟩, fun s a t e => by cases e⟩, fun x hx => (k3 x hx).1⟩, rfl⟩
 | cnt u d => exact ⟨h, rfl⟩
 | flg c g => exact ⟨h, rfl⟩
 | rgs s a t => exact ⟨h, rfl⟩
theorem lohi_gs {c : List Int} {es : List En} (hg : Gs c es) (e : ByteArray) : Gs c (lo es e ++ hi es e) := ⟨lohi_so hg.so e, fun x hx => hg.nz x (lohi_mem hx), fun x hx => hg.wi x (lohi_mem hx), hg.len, hg.ge⟩
theorem Iv.take {v : Vl} (h : Iv v) (bs : List Nat) : Iv (takeR v bs).2 ∧ (takeR v bs).2.kd = v.kd := by
 cases v using Vl.el with
 | set c es =>
  obtain ⟨⟨hg, hc, hs⟩, -⟩ := h.gt
  exact ⟨⟨⟨⟨lohi_gs hg _, hc, fun x hx => hs x (lohi_mem hx)⟩, fun s a t e => by cases e⟩, fun x hx => h.sz x (lohi_mem hx)⟩, rfl⟩
 | cnt u d => exact ⟨h, rfl⟩
 | flg c g => exact ⟨h, rfl⟩
 | rgs s a t => exact ⟨h, rfl⟩
theorem Iv.turn {v : Vl} (h : Iv v) (a : Int) (on : Bool) : Iv (switchR v a on).2 ∧ (switchR v a on).2.kd = v.kd := by
 cases v using Vl.el with
 | flg c g =>
  obtain ⟨⟨hc, hw⟩, -⟩ := h.gt
  unfold switchR
  simp only
  split
  ·exact ⟨h, rfl⟩
  split
  ·exact ⟨⟨⟨⟨hc, Wi.zr hc.1 hc.ge⟩, fun s a t e => by cases e⟩, fun x hx => by simp [elsR] at hx⟩, rfl⟩
  split
  ·exact ⟨h, rfl⟩
  ·rename_i h1 h2 h3
   have hA : isA a = true := by simpa using h1
   obtain ⟨i, rfl, hi, hx⟩ := isA_i hA
   rw [hx] at h3
   simp only [hx]
   have hci := hc.2 i
   exact ⟨⟨⟨⟨setCn hc hi (by omega) (by omega), Wi.one hc hi⟩, fun s a t e => by cases e⟩, fun x hx => by simp [elsR] at hx⟩, rfl⟩
 | cnt u d => exact ⟨h, rfl⟩
 | set c es => exact ⟨h, rfl⟩
 | rgs s a t => exact ⟨h, rfl⟩
theorem Iv.write {v : Vl} (h : Iv v) (a : Int) (bs : List Nat) : Iv (writeR v a bs).2 ∧ (writeR v a bs).2.kd = v.kd := by
 cases v using Vl.el with
 | rgs s x t =>
  obtain ⟨⟨h0, h1, h2⟩, h3⟩ := h.gt
  unfold writeR
  simp only
  split
  ·exact ⟨h, rfl⟩
  split
  ·exact ⟨h, rfl⟩
  split
  ·exact ⟨h, rfl⟩
  ·rename_i k1 k2 k3
   have hA : isA a = true := by simpa using k1
   obtain ⟨i, rfl, hi, hx⟩ := isA_i hA
   refine ⟨⟨⟨⟨⟨by omega, by omega⟩, ⟨by omega, by rw [strB_size]; omega⟩, fun e => by omega⟩, fun s' a' t' e => ?_⟩, fun x hx => by simp [elsR] at hx⟩, rfl⟩
   simp only [Vl.rgs, Sum.inr.injEq, Prod.mk.injEq] at e
   obtain ⟨-, e2, -⟩ := e
   omega
 | cnt u d => exact ⟨h, rfl⟩
 | set c es => exact ⟨h, rfl⟩
 | flg c g => exact ⟨h, rfl⟩
theorem info96 : (Tryz.prog.info? 96).map (fun i => (i.zero, i.size, i.bytes)) = some (some (.agg #[.string ⟨#[]⟩, .int .i64 0, .int .i64 0]), 3, 32) := by kernel_rfl
theorem tgL_one {ts : List Tg} : ∀ u ∈ tgL ts, u.oneCell' = true := by
 induction ts with
 | nil => intro u hu; simp [tgL] at hu
 | cons t r ih =>
  intro u hu
  rcases List.mem_append.1 hu with hu | hu
  ·simp only [tgC, List.mem_cons, List.not_mem_nil, or_false] at hu
   rcases hu with rfl | rfl | rfl <;> rfl
  ·exact ih u hu
theorem app_tag {w W : World} {s : Sl} {us : List Tg} (h : Nw w W 96 3 s (tgL us)) (t : Tg) (hl : s.n ≤ 1000000) :
  ∃ s' W', (Builtin.append_ #[61, 61] 61 #[.slice s.p s.n s.c, .slice (some ⟨W.heap.size, 0, none⟩) 1 1]).run Tryz.prog (W.alloc (.cells #[.string t.e, .int .i64 (t.a : Int), .int .i64 (t.n : Int)] 96)) = .ok (.slice s'.p s'.n s'.c) W' ∧ Nw w W' 96 3 s' (tgL (us ++ [t])) ∧ s'.n = s.n + 1 ∧ Apart s.v.ownBlock.toList W W' := by
 obtain ⟨i0, hif, hz0, hz1, hz2⟩ := info_of info96
 obtain ⟨s5, w5, hrun, hnw5, hs5, ap5, k5, hk5, -, hk6⟩ := run_appM (s := s) 61 61 96 i0 _ 3 32 Tryz.underlying61 hif hz0 hz1 hz2 rfl (by decide) h 1 (tgL [t]) (by decide) rfl tgL_one (by unfold maxLen; omega) (by omega)
 exact ⟨s5, w5, hrun, by rw [tgL_app]; exact hnw5, hs5, ap5⟩
theorem Nw.none96 (w W : World) (a : Apart [] w W) : Nw w W 96 3 ⟨none, 0, 0⟩ (tgL []) := ⟨World.ownsRow_nil _ _ _ _, by simp [Sl.v, Value.ownBlock], a⟩
theorem Dk.put {wB w : World} {O : Nat} {r : Rv} {s so : Sl} {ts : List Tg} (h : Dk w O r s) (n : Nw wB w 96 3 so (tgL ts)) (hs : so.n = ts.length) : Dk (w.setCell ⟨O, 25, none⟩ (.slice so.p so.n so.c)) O { r with ts := ts } so := by
 have hb : (w.setCell ⟨O, 25, none⟩ (.slice so.p so.n so.c)).heap[O]? = some (.cells (dCells { r with ts := ts } so).toArray 63 (0, 0)) := by
  have h1 := heap_setCell_same w O 25 _ 63 (.slice so.p so.n so.c) h.dv.blk
  have h2 := dset_rest (r := r) (s := s) h.dv.lu h.dv.ld h.dv.lc 0 (.slice so.p so.n so.c)
  rw [Nat.add_zero] at h2
  rw [List.setIfInBounds_toArray, h2] at h1
  exact h1
 have ha : Apart [O] w (w.setCell ⟨O, 25, none⟩ (.slice so.p so.n so.c)) := (Apart.refl [O] w).setCell (.inl (by simp)) _
 have hO : ∀ k ∈ [O], ∀ cur, w.heap[k]? ≠ some (.cells cur 96 (0, 0)) := fun k hk cur e => by
  rw [List.mem_singleton.1 hk, h.dv.blk] at e
  simp at e
 have ht : ∀ k cur, so.v.ownBlock = some k → w.heap[k]? = some (.cells cur 96 (0, 0)) → k ≠ O := fun k cur _ e q => hO O (by simp) cur (by rw [← q]; exact e)
 have hown : (w.setCell ⟨O, 25, none⟩ (.slice so.p so.n so.c)).ownsRow 0 96 3 so.v so.n (tgL ts) := own_apart n.own ha (fun k hk hm => by
  obtain ⟨cur, e⟩ := own_typ n.own hk
  exact ht k cur hk e (List.mem_singleton.1 hm))
 refine ⟨⟨hb, Rd.own hown, hs, n.ok, h.dv.lu, h.dv.ld, h.dv.lc⟩, fun h0 => ?_⟩
 obtain ⟨P, o, hp, hP, -⟩ := Rd.own hown (by rw [tgL_len]; have : 0 < ts.length := h0; omega)
 obtain ⟨cur, e⟩ := own_typ hown (k := P) (by rw [Sl.v, hp]; rfl)
 exact ⟨P, o, cur, hp, e⟩
theorem takeT_app (a b : List Tg) (e : ByteArray) : takeT (a ++ b) e = takeT a e ++ takeT b e := by unfold takeT; rw [List.filter_append]
theorem rtake_ok {w : World} {O : Nat} {r : Rv} {s : Sl} (h : Dk w O r s) (hl : r.ts.length ≤ 10000) (e : ByteArray) : Calls Tryz.prog 52 #[.pointer (some ⟨O, 0, none⟩), .string e] w fun x w' => x = .returned (.tuple #[]) ∧ Apart [O] w w' ∧ ∃ s', Dk w' O { r with ts := takeT r.ts e } s' ∧ w'.ownsRow 0 96 3 s'.v s'.n (tgL (takeT r.ts e)) ∧ (∀ k, s'.v.ownBlock = some k → w.heap.size ≤ k) ∧ s'.n = (takeT r.ts e).length := by
 have HD := hid h
 have hOw := lt_of_heap h.dv.blk
 obtain ⟨n, Hn⟩ : ∃ n, Hid (n = r.ts.length) := ⟨_, hid rfl⟩
 have hn6 : n ≤ 10000 := by rw [Hn.out]; exact hl
 have hsn : s.n = n := by rw [Hn.out]; exact h.dv.len
 have HN0 := hid (Nw.none96 w w (Apart.refl [] w))
 clear h hl
 go_enter Tryz.func52, Tryz.ntmps52
 go_wp2_with fail
 go_loopw [4, 5] (fun v4 v5 wt => ∃ (q : Nat) (so : Sl), v4 = .slice so.p so.n so.c ∧ v5 = .int .i64 (q : Int) ∧ q ≤ n ∧ Hid (Nw w wt 96 3 so (tgL (takeT (r.ts.take q) e))) ∧ Hid (so.n = (takeT (r.ts.take q) e).length)) (fun _ v5 _ => n - natV v5)
 case atStart => exact ⟨0, ⟨none, 0, 0⟩, rfl, rfl, Nat.zero_le _, HN0, hid rfl⟩
 case round =>
  clear HN0
  obtain ⟨q, so, rfl, rfl, hq, HN, Hso⟩ := hrel
  generalize wr = wt at *
  have HDt := hid (HD.out.kept0 HN.out.ap)
  have zs := HDt.out.dv.tags
  rw [hsn] at zs
  by_cases hlt : q < n
  ·have hlti : ((q : Nat) : Int) < ((n : Nat) : Int) := by omega
   obtain ⟨A, o, hsp, hAs, hev⟩ := HDt.out.dv.tag (by have := Hn.out; omega)
   rw [hsp] at zs
   obtain ⟨t, Ht⟩ : ∃ t, Hid (r.ts[q]? = some t) := ⟨_, hid (List.getElem?_eq_getElem (by have := Hn.out; omega))⟩
   have Htk : Hid (r.ts.take (q + 1) = r.ts.take q ++ [t]) := hid (by
    have hql : q < r.ts.length := by have := Hn.out; omega
    have h1 := Ht.out
    rw [List.getElem?_eq_getElem hql] at h1
    rw [List.take_succ_eq_append_getElem hql, Option.some.inj h1])
   obtain ⟨z0, z1, z2⟩ := hev q t Ht.out
   clear hev hsp hAs
   have Hle : Hid (so.n ≤ 10000) := hid (by
    rw [Hso.out]
    have h1 : (takeT (r.ts.take q) e).length ≤ (r.ts.take q).length := List.length_filter_le _ _
    rw [List.length_take] at h1
    omega)
   by_cases he : t.e = e
   ·have heb : (t.e.toList == e.toList) = true := by rw [he]; simp
    have heb2 : (t.e.toList != e.toList) = false := by rw [he]; simp
    have Hnx : Hid (takeT (r.ts.take (q + 1)) e = takeT (r.ts.take q) e) := hid (by
     rw [Htk.out, takeT_app]
     have : takeT [t] e = [] := by unfold takeT; simp [he]
     rw [this, List.append_nil])
    clear he
    go_wp2_with fail
    exact ⟨⟨q + 1, so, rfl, by go_num, by omega, by rw [Hnx.out]; exact HN, by rw [Hnx.out]; exact Hso⟩, by simp [natV]; omega⟩
   ·have heb : (t.e.toList == e.toList) = false := by
     rw [beq_eq_false_iff_ne]
     intro k
     rw [Lib.toList_data, Lib.toList_data] at k
     exact he (ba_inj k)
    have heb2 : (t.e.toList != e.toList) = true := by
     rw [bne_iff_ne]
     exact beq_eq_false_iff_ne.1 heb
    have Hnx : Hid (takeT (r.ts.take (q + 1)) e = takeT (r.ts.take q) e ++ [t]) := hid (by
     rw [Htk.out, takeT_app]
     have : takeT [t] e = [t] := by unfold takeT; simp [he]
     rw [this])
    obtain ⟨s2, w2, hrun, n2, l2, a2⟩ := app_tag HN.out t (by have := Hle.out; omega)
    have HR := hid hrun
    have HN2 := hid n2
    have Hs2 : Hid (s2.n = (takeT (r.ts.take (q + 1)) e).length) := hid (by rw [l2, Hnx.out, List.length_append, Hso.out]; rfl)
    clear he hrun n2 l2 a2
    go_wp2_with (refine wpList_append3 rfl _ _ 61 rfl _ _ rfl rfl (.slice s2.p s2.n s2.c) w2 HR.out ?_)
    exact ⟨⟨q + 1, s2, rfl, by go_num, by omega, by rw [Hnx.out]; exact HN2, Hs2⟩, by simp [natV]; omega⟩
  ·have hlti : ¬ ((q : Nat) : Int) < ((n : Nat) : Int) := by omega
   have He : Hid (r.ts.take q = r.ts) := hid (List.take_of_length_le (by have := Hn.out; omega))
   rw [He.out] at HN Hso
   have Hf : Hid (wt.frozen? ⟨O, 25, none⟩ = false) := hid (frozen_of_row _ _ _ _ _ HDt.out.dv.blk)
   have hf := Hf.out
   have HDn := hid (HDt.out.put HN.out Hso.out)
   have HAn : Hid (Apart [O] w (wt.setCell ⟨O, 25, none⟩ (.slice so.p so.n so.c))) := hid (((HN.out.ap).mono (by simp)).setCell (.inl (by simp)) _)
   have HNn : Hid ((wt.setCell ⟨O, 25, none⟩ (.slice so.p so.n so.c)).ownsRow 0 96 3 so.v so.n (tgL (takeT r.ts e))) := hid (own_apart HN.out.own ((Apart.refl [O] wt).setCell (.inl (by simp)) _) (fun k hk hm => by
    have h1 := HN.out.new k hk
    have h2 := List.mem_singleton.1 hm
    omega))
   go_wp2_with fail
   go_end0
   exact ⟨rfl, HAn.out, so, HDn.out, HNn.out, HN.out.new, Hso.out⟩
def z63 : Array Value := #[.int .i64 0, .int .i64 0, .int .i64 0, .int .i64 0, .int .i64 0, .int .i64 0, .int .i64 0, .int .i64 0, .int .i64 0, .int .i64 0, .int .i64 0, .int .i64 0, .int .i64 0, .int .i64 0, .int .i64 0, .int .i64 0, .int .i64 0, .int .i64 0, .int .i64 0, .int .i64 0, .int .i64 0, .int .i64 0, .int .i64 0, .int .i64 0, .int .i64 0, .slice none 0 0, .int .i64 0, .int .i64 0, .string ⟨#[]⟩]
theorem size63 : (Tryz.prog.info? 63).map (·.size) = some 29 := by kernel_rfl
theorem dC_len {r : Rv} {s : Sl} (lu : r.u.length = 8) (ld : r.d.length = 8) (lc : r.c.length = 8) : (dCells r s).length = 29 := by
 simp only [dCells, List.length_cons, List.length_append, rv_len, lu, ld, lc, List.length_nil]
theorem dC_all {r : Rv} {s : Sl} : (dCells r s).toArray.all Value.oneCell' = true := by
 refine all_oneCell_toArray fun u hu => ?_
 unfold dCells at hu
 rcases List.mem_cons.1 hu with rfl | hu
 ·rfl
 rcases List.mem_append.1 hu with hu | hu
 ·exact rv_one _ u hu
 rcases List.mem_append.1 hu with hu | hu
 ·exact rv_one _ u hu
 rcases List.mem_append.1 hu with hu | hu
 ·exact rv_one _ u hu
 simp only [List.mem_cons, List.not_mem_nil, or_false] at hu
 rcases hu with rfl | rfl | rfl | rfl <;> rfl
theorem Dk.copy {w w' : World} {O X : Nat} {r : Rv} {s : Sl} (h : Dk w O r s) (a : Apart [] w w') (hb : w'.heap[X]? = some (.cells (dCells r s).toArray 63 (0, 0))) : Dk w' X r s := by
 have k := h.kept0 a
 exact ⟨⟨hb, k.dv.rd, k.dv.len, k.dv.ok, k.dv.lu, k.dv.ld, k.dv.lc⟩, k.tag⟩
theorem rput_arg {w : World} {O : Nat} {i : Int} {e : ByteArray} (he : isE e.size = false) : Calls Tryz.prog 51 #[.pointer (some ⟨O, 0, none⟩), .int .i64 i, .string e] w fun x w' => x = .returned (.int .i64 1) ∧ Apart [] w w' := by
 have h : ((e.size : Nat) : Int) < 1 ∨ (¬ ((e.size : Nat) : Int) < 1 ∧ ((e.size : Nat) : Int) > 8) := by
  have := isE_iff e.size
  rw [he] at this
  simp at this
  omega
 have HA := hid (Apart.refl [] w)
 clear he
 go_enter Tryz.func51, Tryz.ntmps51
 rcases h with h | ⟨h, h'⟩
 ·go_wp2_with fail
  go_ret
  exact ⟨rfl, HA.out⟩
 ·go_wp2_with fail
  go_ret
  exact ⟨rfl, HA.out⟩
theorem rput_full {w : World} {O : Nat} {r : Rv} {s : Sl} (h : Dk w O r s) {i : Nat} (hi : i < 8) {e : ByteArray} (he : isE e.size = true) (hx : r.c.getD i 0 ≥ 65535) : Calls Tryz.prog 51 #[.pointer (some ⟨O, 0, none⟩), .int .i64 (i : Int), .string e] w fun x w' => x = .returned (.int .i64 92) ∧ Apart [] w w' := by
 have h1 := (isE_iff e.size).1 he
 have h2 : ¬ ((e.size : Nat) : Int) < 1 := by omega
 have h3 : ¬ ((e.size : Nat) : Int) > 8 := by omega
 have h8 : ¬ (8 : Int) ≤ (i : Int) := by omega
 have HA := hid (Apart.refl [] w)
 have zc := h.dv.count hi
 obtain ⟨x, Hx⟩ : ∃ x, Hid (x = r.c.getD i 0) := ⟨_, hid rfl⟩
 rw [← Hx.out] at hx zc
 clear he h1 h
 go_enter Tryz.func51, Tryz.ntmps51
 go_wp2_with fail
 go_ret
 exact ⟨rfl, HA.out⟩
theorem build96 (e : ByteArray) (a b : Int) (W : World) : (Instr.build 96 #[(0, .string e), (1, .int .i64 a), (2, .int .i64 b)]).run Tryz.prog W = .ok (.agg #[.string e, .int .i64 a, .int .i64 b]) W := by kernel_rfl
theorem ex_build96 {W : World} {eval : Operand → Value} {op : Oper} {e : ByteArray} {a b : Int} (x y z : Operand) (ho : op.op = .build 96 #[(0, x), (1, y), (2, z)]) (hx : eval x = .string e) (hy : eval y = .int .i64 a) (hz : eval z = .int .i64 b) : (execOp eval op).run Tryz.prog W = .ok (.value (.agg #[.string e, .int .i64 a, .int .i64 b])) W := by
 unfold execOp
 have e1 : (#[(0, x), (1, y), (2, z)] : Array (Nat × Operand)).map (fun (i, x) => (i, eval x)) = #[(0, .string e), (1, .int .i64 a), (2, .int .i64 b)] := by simp [hx, hy, hz]
 simp only [ho, e1, Sem.run_bind, build96 e a b W, Sem.run_pure, Result.andThen_ok]
def Sx (r : Rv) (X : Nat) (W : World) : Prop := ∃ sx, W.heap[X]? = some (.cells (dCells r sx).toArray 63 (0, 0))
theorem cellC {W : World} {X : Nat} {r : Rv} {sx : Sl} (hb : W.heap[X]? = some (.cells (dCells r sx).toArray 63 (0, 0))) (hl : r.u.length = 8 ∧ r.d.length = 8 ∧ r.c.length = 8) {i : Nat} (hi : i < 8) : W.cell? ⟨X, 17 + i, none⟩ = some (.int .i64 (r.c.getD i 0)) := by
 refine dcell hb ?_
 unfold dCells
 rw [show 17 + i = (8 + (8 + i)) + 1 by omega, List.getElem?_cons_succ, List.getElem?_append_right (by rw [rv_len, hl.1]; omega), rv_len, hl.1, Nat.add_sub_cancel_left, List.getElem?_append_right (by rw [rv_len, hl.2.1]; omega), rv_len, hl.2.1, Nat.add_sub_cancel_left, List.getElem?_append_left (by rw [rv_len, hl.2.2]; exact hi)]
 exact rv_at _ _ (by rw [hl.2.2]; exact hi)
theorem cell25 {W : World} {X : Nat} {r : Rv} {sx : Sl} (hb : W.heap[X]? = some (.cells (dCells r sx).toArray 63 (0, 0))) (hl : r.u.length = 8 ∧ r.d.length = 8 ∧ r.c.length = 8) : W.cell? ⟨X, 25, none⟩ = some (.slice sx.p sx.n sx.c) := by
 refine dcell hb ?_
 unfold dCells
 rw [List.getElem?_cons_succ, List.getElem?_append_right (by rw [rv_len, hl.1]; omega), rv_len, hl.1, List.getElem?_append_right (by rw [rv_len, hl.2.1]; omega), rv_len, hl.2.1, List.getElem?_append_right (by rw [rv_len, hl.2.2]; omega), rv_len, hl.2.2]
 rfl
theorem Dk.put2 {wB w : World} {O : Nat} {r : Rv} {s so : Sl} {ts : List Tg} (hb : w.heap[O]? = some (.cells (dCells r s).toArray 63 (0, 0))) (hl : r.u.length = 8 ∧ r.d.length = 8 ∧ r.c.length = 8) (n : Nw wB w 96 3 so (tgL ts)) (hs : so.n = ts.length) : Dk (w.setCell ⟨O, 25, none⟩ (.slice so.p so.n so.c)) O { r with ts := ts } so := by
 have hb' : w.heap[O]? = some (.cells (dCells { r with ts := [] } s).toArray 63 (0, 0)) := hb
 have hb2 : (w.setCell ⟨O, 25, none⟩ (.slice so.p so.n so.c)).heap[O]? = some (.cells (dCells { r with ts := ts } so).toArray 63 (0, 0)) := by
  have h1 := heap_setCell_same w O 25 _ 63 (.slice so.p so.n so.c) hb
  have h2 := dset_rest (r := r) (s := s) hl.1 hl.2.1 hl.2.2 0 (.slice so.p so.n so.c)
  rw [Nat.add_zero] at h2
  rw [List.setIfInBounds_toArray, h2] at h1
  exact h1
 have ha : Apart [O] w (w.setCell ⟨O, 25, none⟩ (.slice so.p so.n so.c)) := (Apart.refl [O] w).setCell (.inl (by simp)) _
 have hown : (w.setCell ⟨O, 25, none⟩ (.slice so.p so.n so.c)).ownsRow 0 96 3 so.v so.n (tgL ts) := own_apart n.own ha (fun k hk hm => by
  obtain ⟨cur, e⟩ := own_typ n.own hk
  rw [List.mem_singleton.1 hm, hb] at e
  simp at e)
 refine ⟨⟨hb2, Rd.own hown, hs, n.ok, hl.1, hl.2.1, hl.2.2⟩, fun h0 => ?_⟩
 obtain ⟨P, o, hp, hP, -⟩ := Rd.own hown (by rw [tgL_len]; have : 0 < ts.length := h0; omega)
 obtain ⟨cur, e⟩ := own_typ hown (k := P) (by rw [Sl.v, hp]; rfl)
 exact ⟨P, o, cur, hp, e⟩
theorem Dk.put3 {w : World} {X O : Nat} {r : Rv} {s : Sl} {old : Array Value} (h : Dk w X r s) (hO : w.heap[O]? = some (.cells old 63 (0, 0))) : Dk (w.setRow O (dCells r s).toArray) O r s := by
 have hb := setRow_heap w O old (dCells r s).toArray 63 (0, 0) hO
 have ha := apart_setRow w O (dCells r s).toArray
 have hX : ∀ k ∈ [O], ∀ cur, w.heap[k]? ≠ some (.cells cur 96 (0, 0)) := fun k hk cur e => by
  rw [List.mem_singleton.1 hk, hO] at e
  simp at e
 refine ⟨⟨hb, ?_, h.dv.len, h.dv.ok, h.dv.lu, h.dv.ld, h.dv.lc⟩, fun h0 => ?_⟩
 ·by_cases h0 : 0 < r.ts.length
  ·obtain ⟨A, o, cur, h1, h3⟩ := h.tag h0
   refine h.dv.rd.kept ha (fun P o' hp hm => ?_)
   rw [h1] at hp
   simp only [Option.some.injEq, Addr.mk.injEq] at hp
   exact hX P hm cur (by rw [← hp.1]; exact h3)
  ·have e : r.ts = [] := List.length_eq_zero_iff.1 (by omega)
   rw [e]
   exact Rd.nil _ _
 ·obtain ⟨A, o, cur, h1, h3⟩ := h.tag h0
  exact ⟨A, o, cur, h1, (ha.block _ (lt_of_heap h3) (fun hm => hX A hm cur h3)).trans h3⟩
def putD (r : Rv) (i : Nat) (e : ByteArray) : Rv := { r with c := r.c.set i (r.c.getD i 0 + 1), ts := takeT r.ts e ++ [⟨e, i, (r.c.getD i 0).toNat + 1⟩] }
end Go.Proofs.YtdbeeikjngnnnaaGreat.ty
