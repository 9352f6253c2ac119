import Derived.Test.YtdbeeikjngnnnaaGreatC50
import Derived.Test.YtdbeeikjngnnnaaGreatC51
namespace Go.Proofs.YtdbeeikjngnnnaaGreat.ty
open Go.ChangeShapes Go.WideShapes Go.ChangeAt Go.RowKit Go.Deep
set_option linter.unusedVariables false
set_option linter.unusedSimpArgs false
set_option maxRecDepth 100000
set_option maxHeartbeats 8000000
set_option maxRecDepth 100000
theorem own : ownKnob Tryz.prog.godebug = none := by kernel_rfl
theorem laidOut : laidOutB Tryz.prog = true := by kernel_rfl
theorem c5 : Tryz.prog.cellsOf 5 = 1 := by kernel_rfl
theorem weigh {H : Type} (d : DataW H) : 0 < Rows.uptoBulk d := by
 cases d
 case lit l => cases l <;> (unfold Rows.uptoBulk; omega)
 all_goals (unfold Rows.uptoBulk; omega)
theorem many {H : Type} : ∀ l : List (DataW H), l.length ≤ Rows.uptoBulkAll l
 | [] => Nat.zero_le _
 | d :: l => by have h1 := weigh d; have h2 := many l; rw [Rows.uptoBulkAll, List.length_cons]; omega
theorem all_cons {H : Type} (d : DataW H) (l : List (DataW H)) : Rows.uptoBulkAll (d :: l) = Rows.uptoBulk d + Rows.uptoBulkAll l := by rw [Rows.uptoBulkAll]
theorem all_nil {H : Type} : Rows.uptoBulkAll ([] : List (DataW H)) = 0 := by rw [Rows.uptoBulkAll]
theorem all_mem {H : Type} {d : DataW H} : ∀ {l : List (DataW H)}, d ∈ l → Rows.uptoBulk d ≤ Rows.uptoBulkAll l
 | e :: l, h => by
  rw [all_cons]
  rcases List.mem_cons.1 h with rfl | h
  ·omega
  ·have := all_mem h; omega
theorem slice_many {H : Type} (a b : List (DataW H)) : Rows.uptoBulkAll a ≤ Rows.uptoBulk (.slice a b) := by
 rw [Rows.uptoBulk]; omega
theorem agg_many {H : Type} (a : List (DataW H)) : Rows.uptoBulkAll a ≤ Rows.uptoBulk (.agg a) := by
 rw [Rows.uptoBulk]; omega
theorem open_bytes {H : Type} {enc : TypeId × Value → H} {W : World} {fuel : Nat} {v : Value} {x : DataW H × List MemPlace} (h : DataW.trod enc Tryz.prog W 0 (fun _ => true) true fuel 29 [v] = some x) (hb : Rows.uptoBulk x.1 ≤ 1048576) :
  ∃ (s : Sl) (bs : List Nat), v = s.v ∧ Rd W s.p (byts bs) ∧ bs.length = s.n ∧ s.n ≤ 1048576 ∧ (∀ b ∈ bs, b < 256) ∧ s.ok := by
 rcases open_ints Tryz.underlying29 Tryz.underlying5 c5 h with ⟨hcs, _⟩ | ⟨a, l, c, zs, hcs, _, hl, hm, hz, hx, hcell, hwz⟩
 ·simp at hcs
  exact ⟨⟨none, 0, 0⟩, [], hcs, Rd.nil _ _, rfl, by decide, by simp, fun _ => ⟨rfl, rfl⟩⟩
 ·simp at hcs
  simp only [if_true] at hz
  have hll : l ≤ 1048576 := by
   have h1 := slice_many (lits .u8 (zs.take l) : List (DataW H)) (lits .u8 (zs.drop l))
   have h2 := many (lits .u8 (zs.take l) : List (DataW H))
   have h3 : (lits .u8 (zs.take l) : List (DataW H)).length = l := by simp [lits]; omega
   rw [hx] at hb
   simp only at hb
   omega
  have hpos : ∀ z ∈ zs, 0 ≤ z ∧ z < 256 := fun z hz => by
   have := hwz z hz
   simp [Lit.wf, IntKind.bits, IntKind.signed, IntKind.min, IntKind.max] at this
   omega
  refine ⟨⟨some a, l, c⟩, (zs.take l).map Int.toNat, hcs, fun h0 => ?_, by simp; omega, hll, fun b hb => ?_, fun e => by cases e⟩
  ·obtain ⟨g, o, spot⟩ := a
   simp [byts] at h0
   have hc := hcell 0 (by omega)
   have hspot : spot = none := by simpa [Addr.add] using World.cell?_spot hc
   subst hspot
   refine ⟨g, o, rfl, ?_, fun j u hj => ?_⟩
   ·rw [Addr.add_lit] at hc
    exact block_lt_of_cell hc
   ·simp only [byts, List.getElem?_map, Option.map_eq_some_iff] at hj
    obtain ⟨b, ⟨z, hz1, rfl⟩, rfl⟩ := hj
    have hjl : j < zs.length := by
     by_cases hq : j < l
     ·omega
     ·rw [List.getElem?_take, if_neg hq] at hz1; cases hz1
    have hc2 := hcell j hjl
    rw [Addr.add_lit] at hc2
    rw [hc2]
    rw [List.getElem?_take] at hz1
    split at hz1
    ·rw [List.getD_eq_getElem?_getD, hz1]
     have := (hpos z (List.mem_of_getElem? hz1)).1
     simp
     omega
    ·cases hz1
  ·rw [List.mem_map] at hb
   obtain ⟨z, hz1, rfl⟩ := hb
   have := hpos z (List.mem_of_mem_take hz1)
   omega
end Go.Proofs.YtdbeeikjngnnnaaGreat.ty
namespace Go.Proofs.YtdbeeikjngnnnaaGreat.ty
open Go.ChangeShapes Go.WideShapes Go.ChangeAt Go.RowKit
set_option linter.unusedVariables false
set_option linter.unusedSimpArgs false
set_option maxRecDepth 100000
set_option maxHeartbeats 8000000
def mkK : ByteArray := ⟨#[109, 97, 114, 107]⟩
theorem Nw.setAt {w0 w : World} {e size : Nat} {s : Sl} {us : List Value} (h : Nw w0 w e size s us) {j : Nat} (hj : j < us.length) (u : Value) : ∃ g, s.p = some ⟨g, 0, none⟩ ∧ w0.heap.size ≤ g ∧ g < w.heap.size ∧ w.frozen? ⟨g, j, none⟩ = false ∧ (∃ old, w.cell? ⟨g, j, none⟩ = some old) ∧ Nw w0 (w.setCell ⟨g, j, none⟩ u) e size s (us.set j u) ∧ Apart [g] w (w.setCell ⟨g, j, none⟩ u) := by
 have ho := h.own
 obtain ⟨hl, ⟨hv, hz⟩ | ⟨g, cap, cur, hv, hb, hr, hle, hm, hs, ht⟩⟩ := ho
 ·rw [hz] at hl; omega
 ·have hv' := hv
  simp only [Sl.v, Value.slice.injEq] at hv'
  have hg := h.new g (by rw [hv]; rfl)
  have hjc : j < cur.size := by
   rw [hs]
   have : s.n * size ≤ cap * size := Nat.mul_le_mul_right _ hle
   omega
  refine ⟨g, hv'.1, hg, lt_of_heapM hr, frozen_of_row _ _ _ _ _ hr, ⟨_, (cell_of_row _ _ _ _ _ _ hr).trans (Array.getElem?_eq_getElem hjc)⟩, ⟨⟨by rw [List.length_set]; exact hl, .inr ⟨g, cap, cur.setIfInBounds j u, hv, hb, setM_heap hr u, hle, hm, by simp [hs], ?_⟩⟩, h.new, h.ap.setCell (.inr hg) u⟩, (Apart.refl [g] w).setCell (.inl (by simp)) u⟩
  rw [Array.toList_setIfInBounds, List.take_set, ht]
theorem wrL_set : ∀ (l : List Wk) {q : Nat} {x : Wk} (s : Sl), l[q]? = some x → (wrL l).set (q * 6 + 4) (.slice s.p s.n s.c) = wrL (l.set q { x with sl := s })
 | [], q, x, s, h => by simp at h
 | y :: r, 0, x, s, h => by
  obtain rfl : y = x := by simpa using h
  rfl
 | y :: r, q + 1, x, s, h => by
  rw [List.getElem?_cons_succ] at h
  have e : (q + 1) * 6 + 4 = (q * 6 + 4) + 6 := by omega
  rw [List.set_cons_succ, wrL, wrL, e, List.set_append_right _ _ (by simp [Wk.vs])]
  have e2 : q * 6 + 4 + 6 - y.vs.length = q * 6 + 4 := by simp [Wk.vs]
  rw [e2, wrL_set r s h]
structure Lt (wB w : World) (s9 s10 s5 s15 : Sl) (xs ys zs : List Wk) (rs : List Sl) : Prop where
 two : Two wB w s9 s10 xs ys
 wr : Wr wB w s5 zs
 co : zs.map Wk.core = xs.map Wk.core ++ [(mkK, false, [])]
 d5 : ∀ P, s5.v.ownBlock = some P → s9.v.ownBlock ≠ some P ∧ s10.v.ownBlock ≠ some P
 nw : Nw wB w 29 1 s15 (svs rs)
 rn : s15.n = rs.length
 rm : ∀ (q : Nat) (r : Sl), rs[q]? = some r → ∃ (x z : Wk), xs[q]? = some x ∧ zs[q]? = some z ∧ z.sl = r.preB x.bs.length ∧ Bf wB w r (x.bs ++ [7, 8])
 pw : ∀ (q q' : Nat) (r r' : Sl), rs[q]? = some r → rs[q']? = some r' → q ≠ q' → ∀ P : Nat, r.v.ownBlock = some P → r'.v.ownBlock ≠ some P
 my : ∀ (q : Nat) (r : Sl) (y : Wk), rs[q]? = some r → y ∈ ys → ∀ P o : Nat, y.sl.p = some ⟨P, o, none⟩ ∧ y.bs ≠ [] → r.v.ownBlock ≠ some P
theorem bf_base {wB w w' : World} {s : Sl} {us : List Nat} (h : Bf w w' s us) (a : Apart [] wB w) : Bf wB w' s us := ⟨⟨h.nw.own, fun P hP => Nat.le_trans a.size (h.nw.new P hP), a.trans h.nw.ap⟩, h.len⟩
theorem Lt.kept0 {wB w w' : World} {s9 s10 s5 s15 : Sl} {xs ys zs : List Wk} {rs : List Sl} (h : Lt wB w s9 s10 s5 s15 xs ys zs rs) (a : Apart [] w w') : Lt wB w' s9 s10 s5 s15 xs ys zs rs := ⟨h.two.kept0 a, h.wr.kept0 a, h.co, h.d5, h.nw.kept a, h.rn, fun q r hq => by
 obtain ⟨x, z, e1, e2, e3, e4⟩ := h.rm q r hq
 exact ⟨x, z, e1, e2, e3, e4.kept' a⟩, h.pw, h.my⟩
end Go.Proofs.YtdbeeikjngnnnaaGreat.ty
namespace Go.Proofs.YtdbeeikjngnnnaaGreat.ty
open Go.ChangeShapes Go.WideShapes Go.ChangeAt Go.RowKit
set_option linter.unusedVariables false
set_option linter.unusedSimpArgs false
set_option maxRecDepth 100000
set_option maxHeartbeats 8000000
theorem Gb.pre {wB w0 w : World} {r : Sl} {us : List Nat} (b : Bf w0 w r (us ++ [7, 8])) (h8 : U8 us) (hl : us.length ≤ 2000000) (key : ByteArray) (dead : Bool) : Gb wB w ⟨key, dead, r.preB us.length, us⟩ := by
 have hn := b.len
 rw [List.length_append] at hn
 have hc := b.nw.cap
 have h2 := b.nw.rd.preB us.length
 rw [List.take_left] at h2
 refine ⟨⟨h2, rfl, Sl.preB_ok b.nw.ok (by omega), h8, hl⟩, by show us.length ≤ r.c; omega, fun P o h => .inr ?_⟩
 obtain ⟨P2, o2, e1, -, -⟩ := b.nw.rd (by rw [byts_len, List.length_append]; simp)
 have h1 : (r.preB us.length).p = some ⟨P, o, none⟩ := h.1
 have e : P2 = P := by
  simp [Sl.preB, e1, Addr.add_lit] at h1
  exact h1.1
 rw [e] at e1
 obtain ⟨cur, h3⟩ := own_typ b.nw.own (k := P) (by simp [Sl.v, e1, Value.ownBlock])
 exact ⟨cur, _, h3⟩
theorem typ_ne {w : World} {b1 b2 e1 e2 z1 z2 n1 n2 : Nat} {v1 v2 : Value} {x1 x2 : List Value} (h1 : w.ownsRow b1 e1 z1 v1 n1 x1) (h2 : w.ownsRow b2 e2 z2 v2 n2 x2) (he : e1 ≠ e2) : ∀ P, v1.ownBlock = some P → P ∉ v2.ownBlock.toList := fun P hP hm => by
 obtain ⟨c1, q1⟩ := own_typ h1 hP
 obtain ⟨c2, q2⟩ := own_typ h2 (k := P) (by simpa using hm)
 rw [q1] at q2
 simp at q2
 exact he q2.2
theorem Bf.keptX {wB w w' : World} {s : Sl} {us : List Nat} {X : List Nat} (h : Bf wB w s us) (a : Apart X w w') (hX : ∀ k, s.v.ownBlock = some k → k ∉ X) (ap : Apart [] wB w') : Bf wB w' s us := ⟨h.nw.keptX a hX ap, h.len⟩
theorem Two.keptX {wB w w' : World} {s t : Sl} {xs ys : List Wk} {X : List Nat} (h : Two wB w s t xs ys) (a : Apart X w w') (hX : Nb wB w X) (hs : ∀ P, s.v.ownBlock = some P → P ∉ X) (ht : ∀ P, t.v.ownBlock = some P → P ∉ X) : Two wB w' s t xs ys := ⟨h.a.kept a hX hs, h.b.kept a hX ht, h.co, h.dj⟩
theorem core_at {xs zs : List Wk} {m : ByteArray × Bool × List Nat} (co : zs.map Wk.core = xs.map Wk.core ++ [m]) {q : Nat} {x : Wk} (hx : xs[q]? = some x) : ∃ z, zs[q]? = some z ∧ z.core = x.core := by
 have hq := (List.getElem?_eq_some_iff.1 hx).1
 have h1 : (zs.map Wk.core)[q]? = some x.core := by
  rw [co, List.getElem?_append_left (by simpa using hq), List.getElem?_map, hx]; rfl
 rw [List.getElem?_map] at h1
 cases hz : zs[q]? with
 | none => rw [hz] at h1; simp at h1
 | some z => rw [hz] at h1; exact ⟨z, rfl, by simpa using h1⟩
theorem Lt.lend {wB w w1 : World} {s9 s10 s5 s15 : Sl} {xs ys zs : List Wk} {rs : List Sl} (h : Lt wB w s9 s10 s5 s15 xs ys zs rs) {r : Sl} {x : Wk} (hx : xs[rs.length]? = some x) (hl : rs.length ≤ 1000) (b : Bf w w1 r (x.bs ++ [7, 8])) :
  ∃ s15' w2 g, (Builtin.append_ #[46, 46] 46 #[.slice s15.p s15.n s15.c, .slice (some ⟨w1.heap.size, 0, none⟩) 1 1]).run Tryz.prog (w1.alloc (.cells #[.slice r.p r.n r.c] 29)) = .ok (.slice s15'.p s15'.n s15'.c) w2 ∧ Two wB w2 s9 s10 xs ys ∧ s5.p = some ⟨g, 0, none⟩ ∧ w2.frozen? ⟨g, rs.length * 6 + 4, none⟩ = false ∧ (∃ old, w2.cell? ⟨g, rs.length * 6 + 4, none⟩ = some old) ∧ ∃ zs', Lt wB (w2.setCell ⟨g, rs.length * 6 + 4, none⟩ (.slice (r.preB x.bs.length).p (r.preB x.bs.length).n (r.preB x.bs.length).c)) s9 s10 s5 s15' xs ys zs' (rs ++ [r]) := by
 have a1 := b.nw.ap
 have h1 := h.kept0 a1
 have bB := bf_base b h.nw.ap
 obtain ⟨i0, hif, hz0, hz1, hz2⟩ := info_of info29
 obtain ⟨s6, w2, hrun, hnw2, hs2, ap2, k5, hk5, -, hk6⟩ := run_appM (s := s15) 46 46 29 i0 _ 1 24 Tryz.underlying46 hif hz0 hz1 hz2 rfl (by decide) h1.nw 1 (svs [r]) (by decide) rfl svs_one (by have := h.rn; unfold maxLen; omega) (by have := h.rn; omega)
 have nb2 : Nb wB w1 s15.v.ownBlock.toList := fun P hP => by
  have hP' : s15.v.ownBlock = some P := by simpa using hP
  refine ⟨h1.nw.new P hP', fun cur m e => ?_⟩
  obtain ⟨c, e2⟩ := own_typ h1.nw.own hP'
  rw [e] at e2
  simp at e2
 have two2 := h1.two.keptX ap2 nb2 (typ_ne h1.two.a.nw.own h1.nw.own (by decide)) (typ_ne h1.two.b.nw.own h1.nw.own (by decide))
 have wr2 := h1.wr.kept ap2 nb2 (typ_ne h1.wr.nw.own h1.nw.own (by decide))
 obtain ⟨z, hz, hzc⟩ := core_at h.co hx
 have hzl : rs.length < zs.length := (List.getElem?_eq_some_iff.1 hz).1
 have hzk : z.bs = x.bs := by unfold Wk.core at hzc; simp at hzc; exact hzc.2.2
 obtain ⟨g, hg, hgn, hgl, hfr, hold, hnw3, ap3⟩ := wr2.nw.setAt (j := rs.length * 6 + 4) (by rw [wrL_len]; omega) (.slice (r.preB x.bs.length).p (r.preB x.bs.length).n (r.preB x.bs.length).c)
 rw [wrL_set zs _ hz] at hnw3
 have hg5 : s5.v.ownBlock = some g := by simp [Sl.v, hg, Value.ownBlock]
 have typg : ∃ c, w2.heap[g]? = some (.cells c 92 (0, 0)) := own_typ wr2.nw.own hg5
 have nb3 : Nb wB w2 [g] := fun P hP => by
  rw [List.mem_singleton.1 hP]
  refine ⟨hgn, fun cur m e => ?_⟩
  obtain ⟨c, e2⟩ := typg
  rw [e] at e2
  simp at e2
 have n5 : ∀ {e z n : Nat} {vv : Value} {us : List Value}, w2.ownsRow 0 e z vv n us → e ≠ 92 → ∀ P, vv.ownBlock = some P → P ∉ [g] := fun ho he P hP hm => by
  rw [List.mem_singleton.1 hm] at hP
  obtain ⟨c1, q1⟩ := own_typ ho hP
  obtain ⟨c2, q2⟩ := typg
  rw [q1] at q2
  simp at q2
  exact he q2.2
 have ap03 := hnw3.ap
 have xg := h.two.a.gb x (List.mem_of_getElem? hx)
 have bf3 : ∀ {q : Sl} {us : List Nat}, Bf wB w1 q us → Bf wB (w2.setCell ⟨g, rs.length * 6 + 4, none⟩ (.slice (r.preB x.bs.length).p (r.preB x.bs.length).n (r.preB x.bs.length).c)) q us := fun {q us} hb => by
  have hb2 : Bf wB w2 q us := hb.keptX ap2 (typ_ne hb.nw.own h1.nw.own (by decide)) wr2.nw.ap
  exact hb2.keptX ap3 (n5 hb2.nw.own (by decide)) ap03
 have olt : ∀ (q : Nat) (r' : Sl), rs[q]? = some r' → ∀ P, r'.v.ownBlock = some P → P < w.heap.size := fun q r' hq P hP => by
  obtain ⟨x2, z2, -, -, -, e4⟩ := h.rm q r' hq
  obtain ⟨c, e⟩ := own_typ e4.nw.own hP
  exact lt_of_heapM e
 have one : ∀ (q : Nat) (r' : Sl), (rs ++ [r])[q]? = some r' → rs[q]? = some r' ∨ (q = rs.length ∧ r' = r) := fun q r' hq => by
  by_cases hlt : q < rs.length
  ·rw [List.getElem?_append_left hlt] at hq
   exact .inl hq
  ·have hql := (List.getElem?_eq_some_iff.1 hq).1
   rw [List.length_append] at hql
   have e0 : q = rs.length := by simp at hql; omega
   subst e0
   rw [List.getElem?_append_right (Nat.le_refl _)] at hq
   simp at hq
   exact .inr ⟨rfl, hq.symm⟩
 refine ⟨s6, w2, g, hrun, two2, hg, hfr, hold, zs.set rs.length { z with sl := r.preB x.bs.length }, ⟨two2.keptX ap3 nb3 (fun P hP hm => ?_) (fun P hP hm => ?_), ⟨hnw3, by rw [List.length_set]; exact wr2.len, fun y hy => ?_⟩, ?_, h.d5, ?_, by rw [hs2, h.rn, List.length_append]; rfl, fun q r' hq => ?_, fun q q' r1 r2 h1q h2q hne P hP1 hP2 => ?_, fun q r' y hq hy P o hy2 hP => ?_⟩⟩
 ·rw [List.mem_singleton.1 hm] at hP
  exact (h.d5 g hg5).1 hP
 ·rw [List.mem_singleton.1 hm] at hP
  exact (h.d5 g hg5).2 hP
 ·rcases List.mem_or_eq_of_mem_set hy with hy | hy
  ·exact (wr2.gb y hy).kept ap3 nb3
  ·rw [hy, hzk]
   exact Gb.pre (bf3 bB) xg.gv.u8 xg.gv.le _ _
 ·rw [List.map_set, ← h.co]
  have e : Wk.core { z with sl := r.preB x.bs.length } = z.core := rfl
  rw [e]
  refine List.ext_getElem? fun j => ?_
  rw [List.getElem?_set]
  split
  ·rename_i e1
   rw [← e1, List.getElem?_map, hz]
   simp [hzl]
  ·rfl
 ·have : svs (rs ++ [r]) = svs rs ++ svs [r] := svs_app _ _
  rw [this]
  exact hnw2.keptX ap3 (n5 hnw2.own (by decide)) ap03
 ·by_cases hlt : q < rs.length
  ·rw [List.getElem?_append_left hlt] at hq
   obtain ⟨x2, z2, e1, e2, e3, e4⟩ := h1.rm q r' hq
   refine ⟨x2, z2, e1, ?_, e3, bf3 e4⟩
   rw [List.getElem?_set_ne (by omega)]
   exact e2
  ·have hql := (List.getElem?_eq_some_iff.1 hq).1
   rw [List.length_append] at hql
   have e0 : q = rs.length := by simp at hql; omega
   subst e0
   rw [List.getElem?_append_right (Nat.le_refl _)] at hq
   simp at hq
   subst hq
   exact ⟨x, _, hx, by rw [List.getElem?_set_self hzl], by rw [], bf3 bB⟩
 ·rcases one q r1 h1q with o1 | ⟨o1, rfl⟩
  ·rcases one q' r2 h2q with o2 | ⟨o2, rfl⟩
   ·exact h.pw q q' r1 r2 o1 o2 hne P hP1 hP2
   ·have := olt q r1 o1 P hP1
    have := b.nw.new P hP2
    omega
  ·rcases one q' r2 h2q with o2 | ⟨o2, rfl⟩
   ·have := olt q' r2 o2 P hP2
    have := b.nw.new P hP1
    omega
   ·omega
 ·rcases one q r' hq with o1 | ⟨o1, rfl⟩
  ·exact h.my q r' y o1 hy P o hy2 hP
  ·have h3 := b.nw.new P hP
   obtain ⟨P2, o2, e1, e2, -⟩ := (h.two.b.gb y hy).gv.rd (by rw [byts_len]; exact List.length_pos_iff.2 hy2.2)
   rw [hy2.1] at e1
   simp at e1
end Go.Proofs.YtdbeeikjngnnnaaGreat.ty
namespace Go.Proofs.YtdbeeikjngnnnaaGreat.ty
open Go.ChangeShapes Go.WideShapes Go.ChangeAt Go.RowKit
set_option linter.unusedVariables false
set_option linter.unusedSimpArgs false
set_option maxRecDepth 100000
set_option maxHeartbeats 8000000
def Sl.pre86 (s : Sl) (k : Nat) : Sl := ⟨if s.c = 0 then s.p else s.p.map (·.add (0 * 6)), k, s.c⟩
theorem sz92 (W : World) : (sizeOf 92).run Tryz.prog W = .ok 6 W := by kernel_rfl
theorem el86 : Tryz.prog.elem 86 = 92 := by kernel_rfl
theorem ul86 : Tryz.prog.underlying 86 = some (.slice (Tryz.prog.elem 86)) := by rw [el86]; exact Tryz.underlying86
theorem ex_pre86 {W : World} {eval : Operand → Value} {op : Oper} (s : Sl) (k : Nat) (x y : Operand) (ho : op.op = .slice 86 x none (some y) none) (hx : eval x = .slice s.p s.n s.c) (hy : eval y = .int .i64 (k : Int)) (hk : k ≤ s.c) : (execOp eval op).run Tryz.prog W = .ok (.value (.slice (s.pre86 k).p (s.pre86 k).n (s.pre86 k).c)) W := by
 unfold execOp
 simp only [ho, hx, Option.map_some, Option.map_none, hy, Sem.run_bind, run_sliceAt_slice W 86 _ _ _ _ ul86, run_slice_h W 86 s.p s.n s.c ul86 .i64 (k : Int) (by omega) (by omega), el86, sz92, Result.andThen_ok, Sem.run_pure]
 simp [sliced, Sl.pre86]
theorem Ws.pre {w : World} {s : Sl} {zs : List Wk} (h : Ws w s zs) {k : Nat} (hk : k ≤ s.n) : Ws w (s.pre86 k) (zs.take k) := ⟨by rw [List.length_take, ← h.len]; show k = _; omega, fun q x hx => by
 have hq := (List.getElem?_eq_some_iff.1 hx).1
 rw [List.length_take] at hq
 rw [List.getElem?_take_of_lt (by omega)] at hx
 obtain ⟨P, off, e1, e2, e3, e4, e5⟩ := h.at_ q x hx
 refine ⟨P, off, ?_, e2, e3, e4, e5⟩
 simp only [Sl.pre86, e1, Option.map_some, Addr.add_lit, Nat.zero_mul, Nat.add_zero, ite_self]⟩
theorem Lt.cut {wB w : World} {s9 s10 s5 s15 : Sl} {xs ys zs : List Wk} {rs : List Sl} (h : Lt wB w s9 s10 s5 s15 xs ys zs rs) {N : Nat} (hN : N = s9.n) : Ws w (s5.pre86 N) (zs.take N) ∧ (zs.take N).map Wk.core = ys.map Wk.core ∧ N ≤ s5.c ∧ (zs.take N).length ≤ xs.length := by
 have h1 := h.two.a.len
 have h2 := h.wr.len
 have h3 := congrArg List.length h.co
 simp at h3
 have h4 := h.wr.nw.cap
 refine ⟨h.wr.ws.pre (by omega), ?_, by omega, by rw [List.length_take]; omega⟩
 rw [List.map_take, h.co, hN, h1, List.take_left' (by simp), h.two.co]
def Pv (w w' : World) (R : Int × Vl) (pv : Option Addr) : Prop := (R.1 = 0 ∧ ∃ V, pv = some ⟨V, 0, none⟩ ∧ w.heap.size ≤ V ∧ Ho w' V R.2 ∧ Iv R.2) ∨ (R.1 ≠ 0 ∧ pv = none)
theorem PsP.any {w w' : World} {R : Int × Vl} {x : Ending} (h : PsP w R x w') : ∃ pv, x = .returned (.tuple #[.pointer pv, .int .i64 R.1]) ∧ Hid (Pv w w' R pv) ∧ Apart [] w w' := by
 rcases h with ⟨h1, ⟨V, rfl, h2, h3, h4⟩, h5⟩ | ⟨h1, rfl, h5⟩
 ·exact ⟨_, by rw [h1], hid (.inl ⟨h1, V, rfl, h2, h3, h4⟩), h5⟩
 ·exact ⟨none, rfl, hid (.inr ⟨h1, rfl⟩), h5⟩
def Dpv (w w' : World) (R : Int × Vl) (pv : Option Addr) : Prop := (R.1 = 0 ∧ ∃ O s' ts, pv = some ⟨O, 0, none⟩ ∧ w.heap.size ≤ O ∧ Dk w' O (rvO R.2 ts) s' ∧ Rl R.2 ts) ∨ (R.1 ≠ 0 ∧ pv = none)
theorem DsP.any {w w' : World} {R : Int × Vl} {x : Ending} (h : DsP w R x w') : ∃ pv, x = .returned (.tuple #[.pointer pv, .int .i64 R.1]) ∧ Hid (Dpv w w' R pv) ∧ Apart [] w w' := by
 rcases h with ⟨h1, ⟨O, s', ts, rfl, h2, h3, h4⟩, h5⟩ | ⟨h1, rfl, h5⟩
 ·exact ⟨_, by rw [h1], hid (.inl ⟨h1, O, s', ts, rfl, h2, h3, h4⟩), h5⟩
 ·exact ⟨none, rfl, hid (.inr ⟨h1, rfl⟩), h5⟩
end Go.Proofs.YtdbeeikjngnnnaaGreat.ty
namespace Go.Proofs.YtdbeeikjngnnnaaGreat.ty
open Go.ChangeShapes Go.WideShapes Go.ChangeAt Go.RowKit
set_option linter.unusedVariables false
set_option linter.unusedSimpArgs false
set_option maxRecDepth 100000
set_option maxHeartbeats 8000000
structure Le (wB w : World) (s9 s10 s5 s15 : Sl) (ys zs : List Wk) (rs : List Sl) (q : Nat) : Prop where
 b : Wr wB w s10 ys
 nw5 : Nw wB w 92 6 s5 (wrL zs)
 l5 : s5.n = zs.length
 nw : Nw wB w 29 1 s15 (svs rs)
 rn : s15.n = rs.length
 ry : rs.length = ys.length
 n9 : s9.n = ys.length
 lt : ys.length < zs.length
 rm : ∀ (j : Nat) (r : Sl), q ≤ j → rs[j]? = some r → ∃ (y z : Wk), ys[j]? = some y ∧ zs[j]? = some z ∧ z.sl = r.preB y.bs.length ∧ z.key = y.key ∧ z.dead = y.dead ∧ Bf wB w r (y.bs ++ [7, 8])
 pw : ∀ (j j' : Nat) (r r' : Sl), rs[j]? = some r → rs[j']? = some r' → j ≠ j' → ∀ P : Nat, r.v.ownBlock = some P → r'.v.ownBlock ≠ some P
 my : ∀ (j : Nat) (r : Sl) (y : Wk), rs[j]? = some r → y ∈ ys → ∀ P o : Nat, y.sl.p = some ⟨P, o, none⟩ ∧ y.bs ≠ [] → r.v.ownBlock ≠ some P
theorem Lt.le {wB w : World} {s9 s10 s5 s15 : Sl} {xs ys zs : List Wk} {rs : List Sl} (h : Lt wB w s9 s10 s5 s15 xs ys zs rs) (hn : rs.length = s9.n) : Le wB w s9 s10 s5 s15 ys zs rs 0 := by
 have h1 := h.two.a.len
 have h2 := congrArg List.length h.two.co
 simp at h2
 have h3 := congrArg List.length h.co
 simp at h3
 refine ⟨h.two.b, h.wr.nw, h.wr.len, h.nw, h.rn, by omega, by omega, by omega, fun j r _ hr => ?_, h.pw, h.my⟩
 obtain ⟨x, z, e1, e2, e3, e4⟩ := h.rm j r hr
 have hj := (List.getElem?_eq_some_iff.1 e1).1
 obtain ⟨y, hy⟩ : ∃ y, ys[j]? = some y := ⟨_, List.getElem?_eq_getElem (by omega)⟩
 have c1 : y.core = x.core := by
  have := congrArg (fun l => l[j]?) h.two.co
  simp only [List.getElem?_map, e1, hy, Option.map_some, Option.some.injEq] at this
  exact this.symm
 have c2 : z.core = x.core := by
  have := congrArg (fun l => l[j]?) h.co
  rw [List.getElem?_append_left (by simpa using hj)] at this
  simp only [List.getElem?_map, e1, e2, Option.map_some, Option.some.injEq] at this
  exact this
 unfold Wk.core at c1 c2
 simp only [Prod.mk.injEq] at c1 c2
 refine ⟨y, z, hy, e2, by rw [c1.2.2]; exact e3, by rw [c1.1, c2.1], by rw [c1.2.1, c2.2.1], by rw [c1.2.2]; exact e4⟩
theorem svs_at2 {rs : List Sl} {q : Nat} {r : Sl} (h : rs[q]? = some r) : (svs rs)[q]? = some (.slice r.p r.n r.c) := by
 unfold svs
 rw [List.getElem?_map, h]
 rfl
theorem Le.next {wB w w' : World} {s9 s10 s5 s15 : Sl} {ys zs : List Wk} {rs : List Sl} {q : Nat} (h : Le wB w s9 s10 s5 s15 ys zs rs q) {r : Sl} (hr : rs[q]? = some r) {us : List Nat} (b : Bf wB w r us) (a : Apart r.v.ownBlock.toList w w') : Le wB w' s9 s10 s5 s15 ys zs rs (q + 1) := by
 have typ : ∀ P, r.v.ownBlock = some P → ∃ c, w.heap[P]? = some (.cells c 5 (0, 0)) := fun P hP => own_typ b.nw.own hP
 have n5 : ∀ {e z n : Nat} {vv : Value} {u : List Value}, w.ownsRow 0 e z vv n u → e ≠ 5 → ∀ P, vv.ownBlock = some P → P ∉ r.v.ownBlock.toList := fun ho he P hP hm => by
  obtain ⟨c1, q1⟩ := own_typ ho hP
  obtain ⟨c2, q2⟩ := typ P (by simpa using hm)
  rw [q1] at q2
  simp at q2
  exact he q2.2
 have ap : Apart [] wB w' := h.b.nw.ap.trans' a (fun y hy => .inr (b.nw.new y (by simpa using hy)))
 refine ⟨⟨⟨own_apart h.b.nw.own a (n5 h.b.nw.own (by decide)), h.b.nw.new, ap⟩, h.b.len, fun y hy => ?_⟩, h.nw5.keptX a (n5 h.nw5.own (by decide)) ap, h.l5, h.nw.keptX a (n5 h.nw.own (by decide)) ap, h.rn, h.ry, h.n9, h.lt, fun j r2 hj hr2 => ?_, h.pw, h.my⟩
 ·have g := h.b.gb y hy
  have hn : ∀ P o, y.sl.p = some ⟨P, o, none⟩ ∧ y.bs ≠ [] → P ∉ r.v.ownBlock.toList := fun P o e hm => h.my q r y hr hy P o e (by simpa using hm)
  refine ⟨g.gv.keptX a hn, g.cp, fun P o e => ?_⟩
  rcases g.bl P o e with h1 | ⟨cur, m, h1⟩
  ·exact .inl h1
  ·exact .inr ⟨cur, m, (a.block P (lt_of_heapM h1) (hn P o e)).trans h1⟩
 ·obtain ⟨y, z, e1, e2, e3, e4, e5, e6⟩ := h.rm j r2 (by omega) hr2
  exact ⟨y, z, e1, e2, e3, e4, e5, e6.keptX a (fun k hk hm => h.pw q j r r2 hr hr2 (by omega) k (by simpa using hm) hk) ap⟩
theorem Bf.typ {wB w : World} {r : Sl} {us : List Nat} (b : Bf wB w r us) : ∀ ty : Nat, ty ≠ 5 → ∀ q ∈ r.v.ownBlock.toList, ∀ cur m, w.heap[q]? ≠ some (.cells cur ty m) := fun ty hty q hq cur m e => by
 obtain ⟨c, e2⟩ := own_typ b.nw.own (k := q) (by simpa using hq)
 rw [e] at e2
 simp only [Option.some.injEq, Obj.cells.injEq] at e2
 exact hty e2.2.1
theorem Pv.kept {w0 w w' : World} {R : Int × Vl} {pv : Option Addr} {X : List Nat} (h : Pv w0 w R pv) (a : Apart X w w') (hX : ∀ ty : Nat, ty ≠ 5 → ∀ q ∈ X, ∀ cur m, w.heap[q]? ≠ some (.cells cur ty m)) : Pv w0 w' R pv := by
 rcases h with ⟨h1, V, h2, h3, h4, h5⟩ | h1
 ·refine .inl ⟨h1, V, h2, h3, h4.keptX a (fun hm => ?_) (hX _ (by decide)), h5⟩
  obtain ⟨b0, hb0⟩ := h4.bd
  exact hX 71 (by decide) V hm _ _ hb0
 ·exact .inr h1
theorem Dpv.kept {w0 w w' : World} {R : Int × Vl} {pv : Option Addr} {X : List Nat} (h : Dpv w0 w R pv) (a : Apart X w w') (hX : ∀ ty : Nat, ty ≠ 5 → ∀ q ∈ X, ∀ cur m, w.heap[q]? ≠ some (.cells cur ty m)) : Dpv w0 w' R pv := by
 rcases h with ⟨h1, O, s', ts, h2, h3, h4, h5⟩ | h1
 ·exact .inl ⟨h1, O, s', ts, h2, h3, h4.other a (fun hm => hX 63 (by decide) O hm _ _ h4.dv.blk) (hX _ (by decide)), h5⟩
 ·exact .inr h1
theorem rsV_kd (k : Nat) : ∀ (xs : List Wk) (v : Vl), v.kd = k → (rsV k v xs).2.kd = k
 | [], v, h => h
 | x :: r, v, h => by
  unfold rsV
  split
  ·exact rsV_kd k r v h
  ·split
   ·exact h
   ·split
    ·exact rsV_kd k r _ (by rw [mgV_kd]; exact h)
    ·exact h
structure Rn (S : World → Prop) (s10 s5 s15 : Sl) (q : Nat) (y : Wk) (r t : Sl) (P o P2 o2 P3 o3 : Nat) : Prop where
 pm : s10.p = some ⟨P, o, none⟩
 pw : s5.p = some ⟨P2, o2, none⟩
 pr : s15.p = some ⟨P3, o3, none⟩
 m2 : ∀ W, S W → W.cell? ⟨P, o + q * 6 + 2, none⟩ = some (.string y.key)
 m3 : ∀ W, S W → W.cell? ⟨P, o + q * 6 + 3, none⟩ = some (.bool y.dead)
 m4 : ∀ W, S W → W.cell? ⟨P, o + q * 6 + 4, none⟩ = some (.slice y.sl.p y.sl.n y.sl.c)
 w2 : ∀ W, S W → W.cell? ⟨P2, o2 + q * 6 + 2, none⟩ = some (.string y.key)
 w3 : ∀ W, S W → W.cell? ⟨P2, o2 + q * 6 + 3, none⟩ = some (.bool y.dead)
 w4 : ∀ W, S W → W.cell? ⟨P2, o2 + q * 6 + 4, none⟩ = some (.slice t.p t.n t.c)
 r0 : ∀ W, S W → W.cell? ⟨P3, o3 + q, none⟩ = some (.slice r.p r.n r.c)
 lm : q < s10.n
 lw : q < s5.n
 lr : q < s15.n
theorem Le.rnd {wB w : World} {s9 s10 s5 s15 : Sl} {ys zs : List Wk} {rs : List Sl} {q : Nat} (h : Le wB w s9 s10 s5 s15 ys zs rs q) (hq : q < s9.n) : ∃ (y : Wk) (r t : Sl) (P o P2 o2 P3 o3 : Nat) (X : List Nat), rs[q]? = some r ∧ X = r.v.ownBlock.toList ∧ Rn (fun W => Apart X w W) s10 s5 s15 q y r t P o P2 o2 P3 o3 ∧ Gv w y.sl y.bs ∧ Bq w t y.bs ∧ Bf wB w r (y.bs ++ [7, 8]) := by
 have h9 := h.n9
 have hry := h.ry
 have hlt := h.lt
 have h5 := h.l5
 have h15 := h.rn
 have h10 := h.b.len
 obtain ⟨r, hr⟩ : ∃ r, rs[q]? = some r := ⟨_, List.getElem?_eq_getElem (by omega)⟩
 obtain ⟨y, z, ey, ez, e1, e2, e3, b⟩ := h.rm q r (Nat.le_refl _) hr
 have typ : ∀ P, r.v.ownBlock = some P → ∃ c, w.heap[P]? = some (.cells c 5 (0, 0)) := fun P hP => own_typ b.nw.own hP
 have rd : ∀ {e z : Nat} {s : Sl} {u : List Value}, w.ownsRow 0 e z s.v s.n u → e ≠ 5 → 0 < u.length → ∃ P o, s.p = some ⟨P, o, none⟩ ∧ ∀ j v, u[j]? = some v → ∀ W, Apart r.v.ownBlock.toList w W → W.cell? ⟨P, o + j, none⟩ = some v := fun {e z s u} ho he h0 => by
  obtain ⟨P, o, p1, p2, p3⟩ := Rd.own ho h0
  refine ⟨P, o, p1, fun j v hj W aW => (aW.cell p2 (fun hm => ?_)).trans (p3 j v hj)⟩
  obtain ⟨c1, q1⟩ := own_typ ho (k := P) (by simp [Sl.v, p1, Value.ownBlock])
  obtain ⟨c2, q2⟩ := typ P (by simpa using hm)
  rw [q1] at q2
  simp at q2
  exact he q2.2
 obtain ⟨P, o, p1, p3⟩ := rd h.b.nw.own (by decide) (by rw [wrL_len]; omega)
 obtain ⟨P2, o2, q1, q3⟩ := rd h.nw5.own (by decide) (by rw [wrL_len]; omega)
 obtain ⟨P3, o3, r1, r3⟩ := rd h.nw.own (by decide) (by unfold svs; rw [List.length_map]; omega)
 have pc : ∀ j v, j < 6 → y.vs[j]? = some v → ∀ W, Apart r.v.ownBlock.toList w W → W.cell? ⟨P, o + q * 6 + j, none⟩ = some v := fun j v hj hv W aW => by
  rw [Nat.add_assoc]
  exact p3 _ v (by rw [wrL_at ys ey hj]; exact hv) W aW
 have qc : ∀ j v, j < 6 → z.vs[j]? = some v → ∀ W, Apart r.v.ownBlock.toList w W → W.cell? ⟨P2, o2 + q * 6 + j, none⟩ = some v := fun j v hj hv W aW => by
  rw [Nat.add_assoc]
  exact q3 _ v (by rw [wrL_at zs ez hj]; exact hv) W aW
 have g := h.b.gb y (List.mem_of_getElem? ey)
 exact ⟨y, r, r.preB y.bs.length, P, o, P2, o2, P3, o3, _, hr, rfl, ⟨p1, q1, r1, pc 2 _ (by omega) rfl, pc 3 _ (by omega) rfl, pc 4 _ (by omega) rfl, qc 2 _ (by omega) (by rw [← e2]; rfl), qc 3 _ (by omega) (by rw [← e3]; rfl), qc 4 _ (by omega) (by rw [← e1]; rfl), fun W aW => r3 q _ (svs_at2 hr) W aW, by omega, by omega, by omega⟩, g.gv, Bq.pre ⟨b.nw.rd, b.len.symm, b.nw.ok⟩ rfl, b⟩
theorem ex_idx46q {W : World} {eval : Operand → Value} {op : Oper} {p : Option Addr} {n c q : Nat} (x y : Operand) (P o : Nat) (ho : op.op = .indexAddr 46 x y) (hx : eval x = .slice p n c) (hp : p = some ⟨P, o, none⟩) (hy : eval y = .int .i64 (q : Int)) (hq : q < n) : (execOp eval op).run Tryz.prog W = .ok (.value (.pointer (some ⟨P, o + q, none⟩))) W := by
 subst hp
 unfold execOp
 simp only [ho, hx, hy]
 have hq2 : ((q : Nat) : Int) < ((n : Nat) : Int) := by omega
 go_simp
end Go.Proofs.YtdbeeikjngnnnaaGreat.ty
