import Derived.Test.YtokaeiahhmaokaaDoorW23
import Derived.Test.YtokaeiahhmaokaaDoorW11
import Derived.Test.YtokaeiahhmaokaaDoorW7
namespace Go.Proofs.YtokaeiahhmaokaaDoor.ds
open Go.ChangeShapes Go.WideShapes Go.ChangeAt Go.RowKit Go.Sort
set_option linter.unusedVariables false
set_option linter.unusedSimpArgs false
theorem info43 : (Tryd.prog.info? 43).map (fun i => (i.zero, i.size, i.bytes)) = some (some (.slice none 0 0), 1, 24) := by kernel_rfl
theorem und42 : Tryd.prog.underlying 42 = some (.slice 43) := by kernel_rfl
theorem wc_low (g g' : Gh) (cl cl' : Nat → Cln) (i : Nat) (hi : i < 14) (hc : g'.c = g.c) (hs : g'.s = g.s) (hm : g'.m = g.m) (ht : g'.t = g.t) : wcell g' cl' i = wcell g cl i := by
  unfold wcell
  rw [hc, hs, hm, ht]
  by_cases h4 : i < 4
  · simp only [if_pos h4]
  · by_cases h12 : i < 12
    · simp only [if_neg h4, if_pos h12]
    · by_cases h1 : i = 12
      · simp only [if_neg h4, if_neg h12, if_pos h1]
      · have h2 : i = 13 := by omega
        simp only [if_neg h4, if_neg h12, if_neg h1, if_pos h2]
theorem wc_split (i : Nat) (h : 14 ≤ i) (hi : i < 30) : ∃ q r, q < 4 ∧ r < 4 ∧ i = 14 + q * 4 + r := ⟨(i - 14) / 4, (i - 14) % 4, by omega, by omega, by omega⟩
theorem wc_high (g : Gh) (cl : Nat → Cln) (q r : Nat) (hq : q < 4) (hr : r < 4) : wcell g cl (14 + q * 4 + r) = if r = 0 then .int .i64 ((cl q).key : Nat) else if r = 1 then .bool (cl q).ok else if r = 2 then (g.ct q).v else (g.cx q).v := by
  obtain ⟨h0, h1, h2, h3⟩ := wc_cl g cl q hq
  match r, hr with
  | 0, _ => exact h0
  | 1, _ => exact h1
  | 2, _ => exact h2
  | 3, _ => exact h3
def hi4 (g : Gh) (cl : Nat → Cln) (p r : Nat) : Value := if r = 0 then .int .i64 ((cl p).key : Nat) else if r = 1 then .bool (cl p).ok else if r = 2 then (g.ct p).v else (g.cx p).v
theorem wc_set {g g' : Gh} {cl cl' : Nat → Cln} (q j : Nat) (u : Value) (hq : q < 4) (hj : j < 4) (hc : g'.c = g.c) (hs : g'.s = g.s) (hm : g'.m = g.m) (ht : g'.t = g.t) (H : ∀ p, p < 4 → ∀ r, r < 4 → hi4 g' cl' p r = if p = q ∧ r = j then u else hi4 g cl p r) : ∀ i, i < 30 → wcell g' cl' i = if i = 14 + q * 4 + j then u else wcell g cl i := fun i hi => by
  by_cases hl : i < 14
  · rw [if_neg (by omega), wc_low g g' cl cl' i hl hc hs hm ht]
  · obtain ⟨p, r, hp, hr, rfl⟩ := wc_split i (by omega) hi
    have h1 := wc_high g' cl' p r hp hr
    have h2 := wc_high g cl p r hp hr
    have h3 := H p hp r hr
    unfold hi4 at h3
    rw [h1, h2, h3]
    by_cases e : p = q ∧ r = j
    · rw [if_pos e, if_pos (show 14 + p * 4 + r = 14 + q * 4 + j by omega)]
    · rw [if_neg e, if_neg (show ¬ (14 + p * 4 + r = 14 + q * 4 + j) by omega)]
theorem WM.setKey {wB wr : World} {X : Nat} {g : Gh} {st : Wd} (h : WM wB wr X g st) {q : Nat} (hq : q < 4) (k : Nat) :
    WM wB (wr.setCell ⟨X, 14 + q * 4, none⟩ (.int .i64 (k : Nat))) X g { st with cl := upd st.cl q { st.cl q with key := k } } := by
  have K := h.set (14 + q * 4) (.int .i64 (k : Nat))
  have e1 : ∀ p, (upd st.cl q { st.cl q with key := k } p).told = (st.cl p).told ∧ (upd st.cl q { st.cl q with key := k } p).tok = (st.cl p).tok ∧ (upd st.cl q { st.cl q with key := k } p).ok = (st.cl p).ok := fun p => by
    by_cases e : p = q
    · subst e; rw [upd_eq]; exact ⟨rfl, rfl, rfl⟩
    · rw [upd_ne _ _ e]; exact ⟨rfl, rfl, rfl⟩
  refine ⟨K.ap, h.xb, h.arr _ _ _ (by omega) _ (wc_set q 0 _ hq (by omega) rfl rfl rfl rfl (fun p hp r hr => ?_)), K.ck, K.sb, K.md, h.ne, K.tl, h.tn, K.td, fun p hp => ?_, fun p hp => ?_⟩
  · unfold hi4
    by_cases e : p = q
    · subst e
      rcases (show r = 0 ∨ r = 1 ∨ r = 2 ∨ r = 3 by omega) with e2 | e2 | e2 | e2 <;> subst e2 <;> simp [upd_eq]
    · simp [e, upd_ne _ _ e]
  · rw [(e1 p).1]; exact K.ct p hp
  · rw [(e1 p).2.1]; exact K.cx p hp
theorem WM.setOk {wB wr : World} {X : Nat} {g : Gh} {st : Wd} (h : WM wB wr X g st) {q : Nat} (hq : q < 4) (b : Bool) :
    WM wB (wr.setCell ⟨X, 14 + q * 4 + 1, none⟩ (.bool b)) X g { st with cl := upd st.cl q { st.cl q with ok := b } } := by
  have K := h.set (14 + q * 4 + 1) (.bool b)
  have e1 : ∀ p, (upd st.cl q { st.cl q with ok := b } p).told = (st.cl p).told ∧ (upd st.cl q { st.cl q with ok := b } p).tok = (st.cl p).tok ∧ (upd st.cl q { st.cl q with ok := b } p).key = (st.cl p).key := fun p => by
    by_cases e : p = q
    · subst e; rw [upd_eq]; exact ⟨rfl, rfl, rfl⟩
    · rw [upd_ne _ _ e]; exact ⟨rfl, rfl, rfl⟩
  refine ⟨K.ap, h.xb, h.arr _ _ _ (by omega) _ (wc_set q 1 _ hq (by omega) rfl rfl rfl rfl (fun p hp r hr => ?_)), K.ck, K.sb, K.md, h.ne, K.tl, h.tn, K.td, fun p hp => ?_, fun p hp => ?_⟩
  · unfold hi4
    by_cases e : p = q
    · subst e
      rcases (show r = 0 ∨ r = 1 ∨ r = 2 ∨ r = 3 by omega) with e2 | e2 | e2 | e2 <;> subst e2 <;> simp [upd_eq]
    · simp [e, upd_ne _ _ e]
  · rw [(e1 p).1]; exact K.ct p hp
  · rw [(e1 p).2.1]; exact K.cx p hp
theorem WM.setTold {wB wr : World} {X : Nat} {g : Gh} {st : Wd} (h : WM wB wr X g st) {q : Nat} (hq : q < 4) {s : Sl} {ds : List (Int × Int)} (hd : ND wB wr s ds) :
    WM wB (wr.setCell ⟨X, 14 + q * 4 + 2, none⟩ s.v) X { g with ct := upd g.ct q s } { st with cl := upd st.cl q { st.cl q with told := ds } } := by
  have K := h.set (14 + q * 4 + 2) s.v
  have e1 : ∀ p, (upd st.cl q { st.cl q with told := ds } p).key = (st.cl p).key ∧ (upd st.cl q { st.cl q with told := ds } p).tok = (st.cl p).tok ∧ (upd st.cl q { st.cl q with told := ds } p).ok = (st.cl p).ok := fun p => by
    by_cases e : p = q
    · subst e; rw [upd_eq]; exact ⟨rfl, rfl, rfl⟩
    · rw [upd_ne _ _ e]; exact ⟨rfl, rfl, rfl⟩
  refine ⟨K.ap, h.xb, h.arr _ _ _ (by omega) _ (wc_set q 2 _ hq (by omega) rfl rfl rfl rfl (fun p hp r hr => ?_)), K.ck, K.sb, K.md, h.ne, K.tl, h.tn, K.td, fun p hp => ?_, fun p hp => ?_⟩
  · unfold hi4
    by_cases e : p = q
    · subst e
      rcases (show r = 0 ∨ r = 1 ∨ r = 2 ∨ r = 3 by omega) with e2 | e2 | e2 | e2 <;> subst e2 <;> simp [upd_eq]
    · simp [e, upd_ne _ _ e]
  · show ND wB _ (upd g.ct q s p) (upd st.cl q { st.cl q with told := ds } p).told
    by_cases e : p = q
    · subst e; rw [upd_eq, upd_eq]; exact ⟨K.ot (by decide) hd.nw, hd.len⟩
    · rw [upd_ne _ _ e, upd_ne _ _ e]; exact K.ct p hp
  · rw [(e1 p).2.1]; exact K.cx p hp
theorem WM.setTok {wB wr : World} {X : Nat} {g : Gh} {st : Wd} (h : WM wB wr X g st) {q : Nat} (hq : q < 4) {s : Sl} {T : List S} (hd : TS wB wr s.p s.n s.c T) :
    WM wB (wr.setCell ⟨X, 14 + q * 4 + 3, none⟩ s.v) X { g with cx := upd g.cx q s } { st with cl := upd st.cl q { st.cl q with tok := T } } := by
  have K := h.set (14 + q * 4 + 3) s.v
  have e1 : ∀ p, (upd st.cl q { st.cl q with tok := T } p).key = (st.cl p).key ∧ (upd st.cl q { st.cl q with tok := T } p).told = (st.cl p).told ∧ (upd st.cl q { st.cl q with tok := T } p).ok = (st.cl p).ok := fun p => by
    by_cases e : p = q
    · subst e; rw [upd_eq]; exact ⟨rfl, rfl, rfl⟩
    · rw [upd_ne _ _ e]; exact ⟨rfl, rfl, rfl⟩
  refine ⟨K.ap, h.xb, h.arr _ _ _ (by omega) _ (wc_set q 3 _ hq (by omega) rfl rfl rfl rfl (fun p hp r hr => ?_)), K.ck, K.sb, K.md, h.ne, K.tl, h.tn, K.td, fun p hp => ?_, fun p hp => ?_⟩
  · unfold hi4
    by_cases e : p = q
    · subst e
      rcases (show r = 0 ∨ r = 1 ∨ r = 2 ∨ r = 3 by omega) with e2 | e2 | e2 | e2 <;> subst e2 <;> simp [upd_eq]
    · simp [e, upd_ne _ _ e]
  · rw [(e1 p).2.1]; exact K.ct p hp
  · show TS wB _ (upd g.cx q s p).p (upd g.cx q s p).n (upd g.cx q s p).c (upd st.cl q { st.cl q with tok := T } p).tok
    by_cases e : p = q
    · subst e; rw [upd_eq, upd_eq]; exact K.os hd
    · rw [upd_ne _ _ e, upd_ne _ _ e]; exact K.cx p hp
theorem upd_upd {α : Type} (f : Nat → α) (i : Nat) (a b : α) : upd (upd f i a) i b = upd f i b := by
  funext j
  unfold upd
  split <;> rfl
/-- a client's answer, all of it -/
theorem WM.setClient {wB wr : World} {X : Nat} {g : Gh} {st : Wd} (h : WM wB wr X g st) {q : Nat} (hq : q < 4) (k : Nat) {s : Sl} {ds : List (Int × Int)} (hd : ND wB wr s ds) {x : Sl} {T : List S} (hx : TS wB wr x.p x.n x.c T) :
    WM wB ((((wr.setCell ⟨X, 14 + q * 4, none⟩ (.int .i64 (k : Nat))).setCell ⟨X, 14 + q * 4 + 1, none⟩ (.bool true)).setCell ⟨X, 14 + q * 4 + 2, none⟩ s.v).setCell ⟨X, 14 + q * 4 + 3, none⟩ x.v) X { g with ct := upd g.ct q s, cx := upd g.cx q x } (getW st q k ds T) := by
  have h1 := h.setKey hq k
  have K1 := h.set (14 + q * 4) (.int .i64 (k : Nat))
  have h2 := h1.setOk hq true
  have K2 := h1.set (14 + q * 4 + 1) (.bool true)
  have h3 := h2.setTold hq (s := s) (ds := ds) ⟨K2.ot (by decide) (K1.ot (by decide) hd.nw), hd.len⟩
  have K3 := h2.set (14 + q * 4 + 2) s.v
  have h4 := h3.setTok hq (s := x) (T := T) (K3.os (K2.os (K1.os hx)))
  have e : ({ st with cl := upd st.cl q { st.cl q with key := k } } : Wd).cl = upd st.cl q { st.cl q with key := k } := rfl
  simp only [upd_upd, upd_eq] at h4
  exact h4
theorem arrX {w6 : World} {X : Nat} {arr : Array Value} {g : Gh} {cl : Nat → Cln} (hXb : w6.heap[X]? = some (.cells arr 48 (0, 0))) (b2 : arr.size = 30) (b3 : ∀ i, i < 30 → arr[i]? = some (wcell g cl i)) (g' : Gh) (cl' : Nat → Cln) (j : Nat) (u : Value) (hu : ∀ i, i < 30 → wcell g' cl' i = if i = j then u else wcell g cl i) : ∃ arr : Array Value, (w6.setCell ⟨X, j, none⟩ u).heap[X]? = some (.cells arr 48 (0, 0)) ∧ arr.size = 30 ∧ ∀ i, i < 30 → arr[i]? = some (wcell g' cl' i) := by
  refine ⟨_, heap_setCell_same w6 X j arr 48 u hXb, by simp [b2], fun i hi => ?_⟩
  rw [hu i hi]
  by_cases e : i = j
  · subst e
    rw [if_pos rfl]
    simp [b2, hi]
  · rw [if_neg e, ← b3 i hi]
    simp [Array.getElem?_setIfInBounds, Ne.symm e]
theorem wc_m (g : Gh) (cl : Nat → Cln) (m' : Sl) (me' : List E) : ∀ i, i < 30 → wcell { g with m := m', me := me' } cl i = if i = 12 then m'.v else wcell g cl i := fun i hi => by
  by_cases e : i = 12
  · subst e; rfl
  · rw [if_neg e]
    by_cases h14 : i < 14
    · unfold wcell
      by_cases h4 : i < 4
      · simp only [if_pos h4]
      · by_cases h12 : i < 12
        · simp only [if_neg h4, if_pos h12]
        · have h13 : i = 13 := by omega
          subst h13
          rfl
    · obtain ⟨p, r', hp, hr', rfl⟩ := wc_split i (by omega) hi
      rw [wc_high _ _ p r' hp hr', wc_high _ _ p r' hp hr']
theorem wc_t (g : Gh) (cl : Nat → Cln) (t' : Sl) (te' : Nat → Sl) : ∀ i, i < 30 → wcell { g with t := t', te := te' } cl i = if i = 13 then t'.v else wcell g cl i := fun i hi => by
  by_cases e : i = 13
  · subst e; rfl
  · rw [if_neg e]
    by_cases h14 : i < 14
    · unfold wcell
      by_cases h4 : i < 4
      · simp only [if_pos h4]
      · by_cases h12 : i < 12
        · simp only [if_neg h4, if_pos h12]
        · have h13 : i = 12 := by omega
          subst h13
          rfl
    · obtain ⟨p, r', hp, hr', rfl⟩ := wc_split i (by omega) hi
      rw [wc_high _ _ p r' hp hr', wc_high _ _ p r' hp hr']
/-- a write more in the list of all that were made -/
theorem WM.pushMade {wB wr : World} {X : Nat} {g : Gh} {st : Wd} (h : WM wB wr X g st) (hn : g.m.n ≤ 2000000) {e : E} {r : Wr} (hf : Fresh wB wr e r) (ty : TypeId) :
    ∃ m' w6, (Builtin.append_ #[39, 39] ty #[g.m.v, .slice (some ⟨wr.heap.size, 0, none⟩) 1 1]).run Tryd.prog (wr.alloc (boxE e)) = .ok (Sl.v m') w6 ∧ w6.cell? ⟨X, 12, none⟩ = some g.m.v ∧ w6.frozen? ⟨X, 12, none⟩ = false ∧ WM wB (w6.setCell ⟨X, 12, none⟩ m'.v) X { g with m := m', me := g.me ++ [e] } { st with made := st.made ++ [r] } ∧ Apart g.m.v.ownBlock.toList wr w6 := by
  obtain ⟨m', w6, hrun, own', hn', ap, hnew⟩ := run_appEN h.md.own hn e ty
  have aw : Apart [] wB w6 := own'.nw.ap
  have htyp : ∀ k ∈ g.m.v.ownBlock.toList, ∃ cur, wr.heap[k]? = some (.cells cur 28 (0, 0)) := fun k hk => own_typ h.md.own.nw.own (by simpa using hk)
  have hX5 : ∀ k ∈ g.m.v.ownBlock.toList, ∀ cu, wr.heap[k]? ≠ some (.cells cu 5 (0, 0)) ∧ wr.heap[k]? ≠ some (.cells cu 80 (0, 0)) := fun k hk cu => by
    obtain ⟨cur, tG⟩ := htyp k hk
    rw [tG]; simp
  have kN : ∀ {e2 size : Nat} {s : Sl} {us : List Value}, e2 ≠ 28 → Nw wB wr e2 size s us → Nw wB w6 e2 size s us := fun he o => o.keepT ap aw (fun k hk cur hcur => by
    obtain ⟨c1, e1⟩ := htyp k hk
    rw [e1] at hcur
    simp at hcur
    exact he hcur.2.symm)
  have kT : ∀ {q : Option Addr} {n c : Nat} {T : List S}, TS wB wr q n c T → TS wB w6 q n c T := fun o => { o with own := ⟨o.own.len, own_apart o.own.own ap (fun k hk hm => by
      obtain ⟨c1, e1⟩ := own_typ o.own.own hk
      obtain ⟨c2, e2⟩ := htyp k hm
      rw [e1] at e2
      simp at e2), o.own.new, aw⟩ }
  have kF : ∀ v, v < 4 → ∀ k, k < 2 → FL wB w6 (g.s v k) (g.se v k) (st.sb v k) := fun v hv k hk => by
    have o := h.sb v hv k hk
    refine ⟨⟨⟨own_apart o.own.nw.own ap (fun b hb hm => h.ne v hv k hk b (by simpa using hm) hb), o.own.nw.new, aw⟩, o.own.len⟩, o.len, fun j hj => (o.fr j hj).kept ap aw hX5⟩
  obtain ⟨arr, b1, b2, b3⟩ := h.blk
  have hXb : w6.heap[X]? = some (.cells arr 48 (0, 0)) := (ap.block X (lt_of_heap b1) (fun hm => by
    obtain ⟨c2, e2⟩ := htyp X hm
    rw [b1] at e2
    simp at e2)).trans b1
  have hmd : FL wB w6 m' (g.me ++ [e]) (st.made ++ [r]) := by
    have hlen := h.md.own.len
    have hlen2 := h.md.len
    refine ⟨own', by rw [List.length_append, hlen2, hn']; rfl, fun j hj => ?_⟩
    rw [hn'] at hj
    by_cases e1 : j = g.m.n
    · subst e1
      rw [show gE (g.me ++ [e]) g.m.n = e from by unfold gE; simp [List.getD_eq_getElem?_getD, ← hlen], show gR (st.made ++ [r]) g.m.n = r from by unfold gR; simp [List.getD_eq_getElem?_getD, ← hlen2]]
      exact hf.kept ap aw hX5
    · rw [show gE (g.me ++ [e]) j = gE g.me j from by unfold gE; rw [List.getD_eq_getElem?_getD, List.getD_eq_getElem?_getD, List.getElem?_append_left (by omega)], show gR (st.made ++ [r]) j = gR st.made j from by unfold gR; rw [List.getD_eq_getElem?_getD, List.getD_eq_getElem?_getD, List.getElem?_append_left (by omega)]]
      exact (h.md.fr j (by omega)).kept ap aw hX5
  have hne : ∀ v, v < 4 → ∀ k, k < 2 → ∀ b, m'.v.ownBlock = some b → (g.s v k).v.ownBlock ≠ some b := fun v hv k hk b hb => by
    rcases hnew with e1 | ⟨q, e1, e2⟩
    · exact h.ne v hv k hk b (by rw [← e1]; exact hb)
    · rw [hb] at e1
      simp at e1
      subst e1
      intro hs
      have := ((h.sb v hv k hk).own.nw.own.lt b hs).2
      omega
  have hcell : w6.cell? ⟨X, 12, none⟩ = some g.m.v := by
    rw [cell_of_row _ _ _ _ _ _ hXb]
    exact b3 12 (by omega)
  refine ⟨m', w6, hrun, hcell, frozen_of_row _ _ _ _ _ hXb, ?_, ap⟩
  have h6 : WM wB w6 X { g with m := g.m } { st with made := st.made } ∨ True := .inr trivial
  have a : Apart [X] w6 (w6.setCell ⟨X, 12, none⟩ m'.v) := (Apart.refl _ _).setCell (.inl (by simp)) _
  have aw2 : Apart [] wB (w6.setCell ⟨X, 12, none⟩ m'.v) := aw.setCell (.inr h.xb) _
  refine ⟨aw2, h.xb, arrX hXb b2 b3 _ _ 12 _ (wc_m g st.cl m' _), fun v hv => (kT (h.ck v hv)).other hXb (by decide) a aw2, fun v hv k hk => (kF v hv k hk).other hXb (by decide) a aw2, hmd.other hXb (by decide) a aw2, hne, (kN (by decide) h.tl).other hXb (by decide) a aw2, h.tn, fun i hi => ⟨(kN (by decide) (h.td i hi).nw).other hXb (by decide) a aw2, (h.td i hi).len⟩, fun q hq => ⟨(kN (by decide) (h.ct q hq).nw).other hXb (by decide) a aw2, (h.ct q hq).len⟩, fun q hq => (kT (h.cx q hq)).other hXb (by decide) a aw2⟩
/-- .. and what its maker was told -/
theorem WM.pushTold {wB wr : World} {X : Nat} {g : Gh} {st : Wd} (h : WM wB wr X g st) (hn : g.t.n ≤ 2000000) {s : Sl} {ds : List (Int × Int)} (hd : ND wB wr s ds) (ty : TypeId) :
    ∃ t' w6, (Builtin.append_ #[42, 42] ty #[g.t.v, .slice (some ⟨wr.heap.size, 0, none⟩) 1 1]).run Tryd.prog (wr.alloc (.cells #[s.v] 43)) = .ok (Sl.v t') w6 ∧ w6.cell? ⟨X, 13, none⟩ = some g.t.v ∧ w6.frozen? ⟨X, 13, none⟩ = false ∧ WM wB (w6.setCell ⟨X, 13, none⟩ t'.v) X { g with t := t', te := upd g.te st.told.length s } { st with told := st.told ++ [ds] } ∧ Apart g.t.v.ownBlock.toList wr w6 := by
  obtain ⟨i0, hif, hz0, hz1, hz2⟩ := info_parts info43
  have htn := h.tn
  obtain ⟨t', w6, hrun, hnw, hsn, ap, k, hp, hc, hk⟩ := run_appM (s := g.t) 42 ty 43 i0 _ 1 24 und42 hif hz0 hz1 hz2 rfl (by decide) h.tl 1 [s.v] (by decide) rfl (fun u hu => by simp at hu; rw [hu]; rfl) (by unfold maxLen; omega) (by omega)
  have aw : Apart [] wB w6 := hnw.ap
  have htyp : ∀ k ∈ g.t.v.ownBlock.toList, ∃ cur, wr.heap[k]? = some (.cells cur 43 (0, 0)) := fun k hk => own_typ h.tl.own (by simpa using hk)
  have hX5 : ∀ k ∈ g.t.v.ownBlock.toList, ∀ cu, wr.heap[k]? ≠ some (.cells cu 5 (0, 0)) ∧ wr.heap[k]? ≠ some (.cells cu 80 (0, 0)) := fun k hk cu => by
    obtain ⟨cur, tG⟩ := htyp k hk
    rw [tG]; simp
  have kN : ∀ {e2 size : Nat} {s : Sl} {us : List Value}, e2 ≠ 43 → Nw wB wr e2 size s us → Nw wB w6 e2 size s us := fun he o => o.keepT ap aw (fun k hk cur hcur => by
    obtain ⟨c1, e1⟩ := htyp k hk
    rw [e1] at hcur
    simp at hcur
    exact he hcur.2.symm)
  have kT : ∀ {q : Option Addr} {n c : Nat} {T : List S}, TS wB wr q n c T → TS wB w6 q n c T := fun o => { o with own := ⟨o.own.len, own_apart o.own.own ap (fun k hk hm => by
      obtain ⟨c1, e1⟩ := own_typ o.own.own hk
      obtain ⟨c2, e2⟩ := htyp k hm
      rw [e1] at e2
      simp at e2), o.own.new, aw⟩ }
  have kF : ∀ {s : Sl} {es : List E} {rs : List Wr}, FL wB wr s es rs → FL wB w6 s es rs := fun o => ⟨⟨kN (by decide) o.own.nw, o.own.len⟩, o.len, fun j hj => (o.fr j hj).kept ap aw hX5⟩
  obtain ⟨arr, b1, b2, b3⟩ := h.blk
  have hXb : w6.heap[X]? = some (.cells arr 48 (0, 0)) := (ap.block X (lt_of_heap b1) (fun hm => by
    obtain ⟨c2, e2⟩ := htyp X hm
    rw [b1] at e2
    simp at e2)).trans b1
  have hcell : w6.cell? ⟨X, 13, none⟩ = some g.t.v := by
    rw [cell_of_row _ _ _ _ _ _ hXb]
    exact b3 13 (by omega)
  refine ⟨t', w6, hrun, hcell, frozen_of_row _ _ _ _ _ hXb, ?_, ap⟩
  have a : Apart [X] w6 (w6.setCell ⟨X, 13, none⟩ t'.v) := (Apart.refl _ _).setCell (.inl (by simp)) _
  have aw2 : Apart [] wB (w6.setCell ⟨X, 13, none⟩ t'.v) := aw.setCell (.inr h.xb) _
  have e1 : (List.range st.told.length).map (fun i => (upd g.te st.told.length s i).v) = (List.range st.told.length).map fun i => (g.te i).v := List.map_congr_left (fun i hi => by rw [upd_ne _ _ (by have := List.mem_range.1 hi; omega)])
  refine ⟨aw2, h.xb, arrX hXb b2 b3 _ _ 13 _ (wc_t g st.cl t' _), fun v hv => (kT (h.ck v hv)).other hXb (by decide) a aw2, fun v hv k hk => (kF (h.sb v hv k hk)).other hXb (by decide) a aw2, (kF h.md).other hXb (by decide) a aw2, h.ne, ?_, ?_, fun i hi => ?_, fun q hq => ⟨(kN (by decide) (h.ct q hq).nw).other hXb (by decide) a aw2, (h.ct q hq).len⟩, fun q hq => (kT (h.cx q hq)).other hXb (by decide) a aw2⟩
  · show Nw wB _ 43 1 t' ((List.range (st.told ++ [ds]).length).map fun i => (upd g.te st.told.length s i).v)
    rw [List.length_append, List.length_singleton, List.range_succ, List.map_append, e1]
    simp only [List.map_cons, List.map_nil, upd_eq]
    exact hnw.other hXb (by decide) a aw2
  · show t'.n = (st.told ++ [ds]).length
    simp; omega
  · have hi' : i < st.told.length + 1 := by
      have : i < (st.told ++ [ds]).length := hi
      simpa using this
    show ND wB _ (upd g.te st.told.length s i) ((st.told ++ [ds]).getD i [])
    by_cases e : i = st.told.length
    · subst e
      rw [upd_eq, show (st.told ++ [ds]).getD st.told.length [] = ds from by simp [List.getD_eq_getElem?_getD]]
      exact ⟨(kN (by decide) hd.nw).other hXb (by decide) a aw2, hd.len⟩
    · rw [upd_ne _ _ e, show (st.told ++ [ds]).getD i [] = st.told.getD i [] from by rw [List.getD_eq_getElem?_getD, List.getD_eq_getElem?_getD, List.getElem?_append_left (by omega)]]
      exact ⟨(kN (by decide) (h.td i (by omega)).nw).other hXb (by decide) a aw2, (h.td i (by omega)).len⟩
end Go.Proofs.YtokaeiahhmaokaaDoor.ds
namespace Go.Proofs.YtokaeiahhmaokaaDoor.ds
open Go.ChangeShapes Go.WideShapes Go.ChangeAt Go.RowKit
set_option linter.unusedVariables false
set_option linter.unusedSimpArgs false
theorem bit_and (t i : Nat) (ht : t < 2 ^ 64) : (bits BinOp.and IntKind.u64 ((t : Int) / 2 ^ i) 1 == 1) = t.testBit i := by
  have e : (t : Int) / 2 ^ i = ((t / 2 ^ i : Nat) : Int) := by simp
  have h1 : t / 2 ^ i ≤ t := Nat.div_le_self _ _
  rw [e, Nat.testBit_eq_decide_div_mod_eq]
  generalize t / 2 ^ i = y at *
  rw [and_one_u64 _ (by omega) (by omega)]
  by_cases h : y % 2 = 1
  · rw [decide_eq_true h]; simp; omega
  · rw [decide_eq_false h]; simp; omega
set_option maxHeartbeats 8000000 in
set_option maxRecDepth 100000 in
theorem lawhas_in {p : Option Addr} {N cap : Nat} {xs : List S} {w : World} (h : L w p N xs) (hbase : ∀ x ∈ xs, 0 ≤ x.b ∧ x.b ≤ 4194304) (dn dc : Int) (hc : dc ≤ 4194304) (hc0 : 1 ≤ dc) : Calls Tryd.prog 30 #[.slice p N cap, .agg #[.int .i64 dn, .int .i64 dc]] w fun r w' => r = .returned (.bool (inL xs dn dc)) ∧ Apart [] w w' := by
  have hlim := h.lim
  have kB := fun W => @new1d w (.int .i64 dn) (.int .i64 dc) 24 W
  have aB : Apart [] w (w.alloc (.cells #[.int .i64 dn, .int .i64 dc] 24)) := (Apart.refl _ _).alloc _
  have HL := hid h
  have HBS := hid hbase
  have HKB := hid kB
  have HAB := hid aB
  clear h hbase kB
  go_enter Tryd.func30, Tryd.ntmps30
  go_wp2_with fail
  generalize w.alloc (.cells #[.int .i64 dn, .int .i64 dc] 24) = V0 at *
  clear aB
  go_loopw [5] (fun v wr => ∃ i : Nat, i ≤ N ∧ v = .int .i64 i ∧ Apart [] V0 wr ∧ inL (xs.take i) dn dc = false) (fun v _ => N - (intOf v).toNat)
  case atStart => exact ⟨0, Nat.zero_le _, rfl, Apart.refl _ _, rfl⟩
  case round =>
    obtain ⟨i, hi, rfl, aR, hno⟩ := hrel
    have HAR := hid aR
    have HNO := hid hno
    clear aR hno
    by_cases hlt : i < N
    · have HI : Hid (i < xs.length) := by show i < xs.length; rw [HL.out.len]; omega
      obtain ⟨P, o, rfl, hP, hcc⟩ := ((HL.out.kept0 HAB.out).kept0 HAR.out).sp (by rw [HL.out.len]; omega)
      obtain ⟨c0, c1, c2⟩ := hcc i HI.out
      have hxt := HL.out.fit _ (g_mem HI.out)
      have hxb := HBS.out _ (g_mem HI.out)
      have HT : Hid (inL (xs.take (i + 1)) dn dc = inS (g xs i) dn dc) := by
        show inL (xs.take (i + 1)) dn dc = inS (g xs i) dn dc
        rw [inL_take _ _ HI.out, HNO.out, Bool.false_or]
      have HA : Hid (inS (g xs i) dn dc = true → inL xs dn dc = true) := fun hh => by
        unfold inL
        rw [List.any_eq_true]
        exact ⟨_, g_mem HI.out, hh⟩
      obtain ⟨⟨xn, xb, xt⟩, HX⟩ : ∃ x, Hid (x = g xs i) := ⟨_, rfl⟩
      rw [← HX.out] at c0 c1 c2 hxt hxb HT HA
      simp only at c0 c1 c2 hxt hxb
      have HXT := hid hxt
      clear hcc hxt
      obtain ⟨d0, d1⟩ := HKB.out wr HAR.out
      by_cases e1 : xn = dn
      · subst e1
        have hs1 : IntKind.i64.wrap (dc - xb) = dc - xb := by rw [IntKind.wrap_i64]; omega
        have hs2 : IntKind.i64.wrap (dc - xb - 1) = dc - xb - 1 := by rw [IntKind.wrap_i64]; omega
        by_cases e3 : dc ≤ xb
        · have HV : Hid (inS ⟨xn, xb, xt⟩ xn dc = true) := by
            show inS ⟨xn, xb, xt⟩ xn dc = true
            simp [inS, hc0, dot, e3]
          have e3' : decide (dc ≤ xb) = true := decide_eq_true e3
          go_wp2_with fail
          go_quiet (fail)
          go_wp2_with fail
          go_quiet (fail)
          go_wp2_with fail
          go_quiet (fail)
          go_wp2
          go_ret
          exact ⟨by rw [HA.out HV.out]; rfl, HAB.out.trans (((HAR.out.drewN _).drewN _).drewN _)⟩
        · obtain ⟨k, hk⟩ : ∃ k : Nat, dc - xb - 1 = (k : Nat) := ⟨(dc - xb - 1).toNat, by omega⟩
          have hs3 : IntKind.i64.wrap (dc - xb - 1) = (k : Int) := hs2.trans hk
          clear hs2
          have e3' : decide (dc ≤ xb) = false := decide_eq_false e3
          have HV : Hid (inS ⟨xn, xb, xt⟩ xn dc = xt.testBit k) := by
            show inS ⟨xn, xb, xt⟩ xn dc = _
            unfold inS dot
            simp only
            rw [decide_eq_true hc0, decide_eq_false e3, hk]; simp
          by_cases e4 : k < 64
          · have hsh := run_shr xt (k : Int) (by omega) HXT.out
            have hbv := bit_and xt k HXT.out
            obtain ⟨vb, Hvb⟩ : ∃ vb, Hid (vb = xt.testBit k) := ⟨_, rfl⟩
            rw [← Hvb.out] at hbv HV
            have h64 : (k : Int) < 64 := by omega
            have h64' : decide (k < 64) = true := decide_eq_true e4
            have h65' : decide ((k : Int) < 64) = true := decide_eq_true h64
            clear hk hxb
            go_wp2_with fail
            go_quiet (fail)
            go_wp2_with fail
            go_quiet (fail)
            go_wp2_with fail
            go_quiet (fail)
            cases vb
            · go_wp2
              go_roundw
              case rel => exact ⟨i + 1, by omega, by go_num, HAR.out.drewN _, by rw [HT.out]; exact HV.out⟩
              case measure => simp [intOf]; omega
            · go_wp2
              go_ret
              exact ⟨by rw [HA.out HV.out]; rfl, HAB.out.trans (((HAR.out.drewN _).drewN _).drewN _)⟩
          · have h64 : ¬ (k : Int) < 64 := by omega
            have h64' : decide (k < 64) = false := decide_eq_false e4
            have h65' : decide ((k : Int) < 64) = false := decide_eq_false h64
            have HV0 : Hid (xt.testBit k = false) := Nat.testBit_lt_two_pow (Nat.lt_of_lt_of_le HXT.out (Nat.pow_le_pow_right (by omega) (by omega)))
            clear hk hxb
            go_wp2_with fail
            go_quiet (fail)
            go_wp2_with fail
            go_quiet (fail)
            go_wp2_with fail
            go_quiet (fail)
            go_wp2
            go_roundw
            case rel => exact ⟨i + 1, by omega, by go_num, HAR.out.drewN _, by rw [HT.out, HV.out]; exact HV0.out⟩
            case measure => simp [intOf]; omega
      · have HV : Hid (inS ⟨xn, xb, xt⟩ dn dc = false) := by
          show inS ⟨xn, xb, xt⟩ dn dc = false
          simp [inS, e1]
        have e1' : (xn == dn) = false := by simp; exact e1
        go_wp2_with fail
        go_quiet (fail)
        go_wp2
        go_roundw
        case rel => exact ⟨i + 1, by omega, by go_num, HAR.out.drewN _, by rw [HT.out]; exact HV.out⟩
        case measure => simp [intOf]; omega
    · have HE : Hid (inL xs dn dc = false) := by
        have := HNO.out
        rwa [List.take_of_length_le (by rw [HL.out.len]; omega)] at this
      go_wp2
      go_ret
      exact ⟨by rw [HE.out]; rfl, HAB.out.trans HAR.out⟩
theorem lawhas_ok {p : Option Addr} {N cap : Nat} {xs : List S} {w : World} (h : L w p N xs) (hk : OkL 64 xs) {dn dc : Int} (hd : IsDot dn dc) : Calls Tryd.prog 30 #[.slice p N cap, .agg #[.int .i64 dn, .int .i64 dc]] w fun r w' => r = .returned (.bool (dot (ofn xs dn) dc)) ∧ Apart [] w w' := by
  have := lawhas_in (cap := cap) h hk.bases dn dc (by have := hd.2.2; omega) hd.2.1
  rwa [inL_ofn hk dn dc hd.2.1] at this
end Go.Proofs.YtokaeiahhmaokaaDoor.ds
