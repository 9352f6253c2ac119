import Derived.Test.YtpddokbjjhbfgaaGreatX5
import Derived.Test.YtpddokbjjhbfgaaGreatX6
import Derived.Test.YtpddokbjjhbfgaaGreatX3
namespace Go.Proofs.YtpddokbjjhbfgaaGreat.ds
open Go.ChangeShapes Go.WideShapes Go.ChangeAt Go.RowKit Go.Sort
set_option linter.unusedVariables false
set_option linter.unusedSimpArgs false
theorem info38 : (Tryz.prog.info? 38).map (fun i => (i.zero, i.size, i.bytes)) = some (some (.agg #[.int .i64 0, .int .i64 0, .string ⟨#[]⟩, .bool false, .slice none 0 0, .slice none 0 0]), 6, 88) := by kernel_rfl
theorem info43 : (Tryz.prog.info? 43).map (fun i => (i.zero, i.size, i.bytes)) = some (some (.agg #[.slice none 0 0, .slice none 0 0]), 2, 48) := by kernel_rfl
theorem csE_len (e : E) : e.cs.length = 6 := rfl
theorem flatE_app (a b : List E) : flatE (a ++ b) = flatE a ++ flatE b := by simp [flatE]
theorem flatE_one {es : List E} {u : Value} (h : u ∈ flatE es) : u.oneCell' = true := by
  simp only [flatE, List.mem_flatMap, E.cs] at h
  obtain ⟨x, _, hu⟩ := h
  simp at hu
  rcases hu with rfl | rfl | rfl | rfl | rfl | rfl <;> rfl
/-- loans, cell by cell -/
abbrev Lo := Sl × Sl
def csX (x : Lo) : List Value := [.slice x.1.p x.1.n x.1.c, .slice x.2.p x.2.n x.2.c]
def flatX (xs : List Lo) : List Value := xs.flatMap csX
def gX (xs : List Lo) (i : Nat) : Lo := xs.getD i (slz, slz)
theorem flatX_len (xs : List Lo) : (flatX xs).length = xs.length * 2 := by
  induction xs with
  | nil => rfl
  | cons x l ih => simp [flatX, csX] at ih ⊢; omega
theorem flatX_one {xs : List Lo} {u : Value} (h : u ∈ flatX xs) : u.oneCell' = true := by
  simp only [flatX, List.mem_flatMap, csX] at h
  obtain ⟨x, _, hu⟩ := h
  simp at hu
  rcases hu with rfl | rfl <;> rfl
theorem flatX_get (xs : List Lo) (i : Nat) (hi : i < xs.length) : (flatX xs)[i * 2]? = some (.slice (gX xs i).1.p (gX xs i).1.n (gX xs i).1.c) ∧ (flatX xs)[i * 2 + 1]? = some (.slice (gX xs i).2.p (gX xs i).2.n (gX xs i).2.c) := by
  induction xs generalizing i with
  | nil => simp at hi
  | cons x l ih =>
    cases i with
    | zero => simp [flatX, csX, gX]
    | succ i =>
      have := ih i (by simpa using hi)
      have e : flatX (x :: l) = csX x ++ flatX l := by simp [flatX]
      have h2 : (csX x).length = 2 := rfl
      rw [e, List.getElem?_append_right (by omega), List.getElem?_append_right (by omega), h2, show (i + 1) * 2 - 2 = i * 2 by omega, show (i + 1) * 2 + 1 - 2 = i * 2 + 1 by omega]
      simpa [gX] using this
theorem gE_app_left {a b : List E} {i : Nat} (h : i < a.length) : gE (a ++ b) i = gE a i := by unfold gE; rw [List.getD_eq_getElem?_getD, List.getElem?_append_left h, List.getD_eq_getElem?_getD]
theorem gX_app_left {a b : List Lo} {i : Nat} (h : i < a.length) : gX (a ++ b) i = gX a i := by unfold gX; rw [List.getD_eq_getElem?_getD, List.getElem?_append_left h, List.getD_eq_getElem?_getD]
theorem gE_app_at {a : List E} {x : E} {n : Nat} (h : a.length = n) : gE (a ++ [x]) n = x := by unfold gE; rw [List.getD_eq_getElem?_getD, List.getElem?_append_right (by omega)]; simp [h]
theorem gX_app_at {a : List Lo} {x : Lo} {n : Nat} (h : a.length = n) : gX (a ++ [x]) n = x := by unfold gX; rw [List.getD_eq_getElem?_getD, List.getElem?_append_right (by omega)]; simp [h]
theorem appE {w W : World} {s : Sl} {es : List E} (h : Nw w W 38 6 s (flatE es)) (x : E) (hl : es.length ≤ 2000000) :
    ∃ s' W', (Builtin.append_ #[39, 39] 39 #[.slice s.p s.n s.c, .slice (some ⟨W.heap.size, 0, none⟩) 1 1]).run Tryz.prog (W.alloc (Obj.cells #[.int .i64 x.n, .int .i64 x.c, .string x.k, .bool x.d, .slice x.v.p x.v.n x.v.c, .slice x.x.p x.x.n x.x.c] 38)) = .ok (.slice (Sl.p s') (Sl.n s') (Sl.c s')) W' ∧ Nw w W' 38 6 s' (flatE (es ++ [x])) ∧ Apart s.v.ownBlock.toList W W' := by
  obtain ⟨i0, hi, hz0, hz1, hz2⟩ := info_parts info38
  have hn : s.n = es.length := by have := h.own.1; rw [flatE_len] at this; omega
  obtain ⟨s', W', hrun, r1, r2, r3, k, r4, -, r6⟩ := run_appM (s := s) 39 39 38 i0 _ 6 88 Tryz.underlying39 hi hz0 hz1 hz2 rfl (by decide) h 1 x.cs (by decide) rfl (fun u hu => flatE_one (es := [x]) (by simpa [flatE] using hu)) (by unfold maxLen; omega) (by omega)
  exact ⟨s', W', hrun, by rw [flatE_app]; simpa [flatE] using r1, r3⟩
theorem appX {w W : World} {s : Sl} {xs : List Lo} (h : Nw w W 43 2 s (flatX xs)) (x : Lo) (hl : xs.length ≤ 2000000) :
    ∃ s' W', (Builtin.append_ #[156, 156] 156 #[.slice s.p s.n s.c, .slice (some ⟨W.heap.size, 0, none⟩) 1 1]).run Tryz.prog (W.alloc (Obj.cells #[.slice x.1.p x.1.n x.1.c, .slice x.2.p x.2.n x.2.c] 43)) = .ok (.slice (Sl.p s') (Sl.n s') (Sl.c s')) W' ∧ Nw w W' 43 2 s' (flatX (xs ++ [x])) ∧ Apart s.v.ownBlock.toList W W' := by
  obtain ⟨i0, hi, hz0, hz1, hz2⟩ := info_parts info43
  have hn : s.n = xs.length := by have := h.own.1; rw [flatX_len] at this; omega
  obtain ⟨s', W', hrun, r1, r2, r3, k, r4, -, r6⟩ := run_appM (s := s) 156 156 43 i0 _ 2 48 Tryz.underlying156 hi hz0 hz1 hz2 rfl (by decide) h 1 (csX x) (by decide) rfl (fun u hu => flatX_one (xs := [x]) (by simpa [flatX] using hu)) (by unfold maxLen; omega) (by omega)
  exact ⟨s', W', hrun, by have e : flatX (xs ++ [x]) = flatX xs ++ csX x := by simp [flatX]
                          rw [e]; exact r1, r3⟩
/-- an element of a row written over, whatever its cells -/
theorem own_setG {w : World} {q : Sl} {e size : Nat} {us : List Value} (h : w.ownsRow 0 e size q.v q.n us) {Q : Nat} (hq : q.v.ownBlock = some Q) {i : Nat} (hi : i < q.n) (vs : List Value) (hvs : vs.length = size) : (w.setCells Q (i * size) vs).ownsRow 0 e size q.v q.n (us.take (i * size) ++ vs ++ us.drop (i * size + size)) := by
  obtain ⟨hl, ⟨hv, hz⟩ | ⟨gB, cap, cur, hv, hb, hr, hle, hm, hs, ht⟩⟩ := h
  · omega
  have hgq : gB = Q := by rw [hv] at hq; simpa [Value.ownBlock] using hq
  subst hgq
  have hmul : i * size + size ≤ q.n * size := by
    have := Nat.mul_le_mul_right size (show i + 1 ≤ q.n by omega)
    rw [Nat.add_mul, Nat.one_mul] at this
    exact this
  have hcap : q.n * size ≤ cap * size := Nat.mul_le_mul_right _ hle
  have hset := heap_setCells_same (g := gB) (t := e) vs (i * size) w cur hr
  have hsp := spl_list vs (i * size) cur.toList (by simp; omega)
  rw [Array.toArray_toList] at hsp
  refine ⟨by simp; omega, .inr ⟨gB, cap, _, hv, hb, hset, hle, hm, ?_, ?_⟩⟩
  · rw [hsp]
    simp
    omega
  · rw [hsp, ← ht, hvs]
    simp only [List.toList_toArray]
    rw [List.take_append, List.take_append, List.take_take, List.take_take]
    have e1 : min (q.n * size) (i * size) = i * size := by omega
    have e1' : min (i * size) (q.n * size) = i * size := by omega
    have e2 : ((cur.toList.take (i * size)).length) = i * size := by simp; omega
    rw [e1, e1', List.length_append, e2, hvs, List.take_of_length_le (l := vs) (by omega), List.drop_take]
theorem flatE_take (es : List E) (i : Nat) : (flatE es).take (i * 6) = flatE (es.take i) := by
  induction es generalizing i with
  | nil => simp [flatE]
  | cons x l ih =>
    cases i with
    | zero => simp [flatE]
    | succ i =>
      have e : flatE (x :: l) = x.cs ++ flatE l := by simp [flatE]
      have e2 : flatE ((x :: l).take (i + 1)) = x.cs ++ flatE (l.take i) := by simp [flatE]
      have h3 : x.cs.length = 6 := rfl
      rw [e, e2, List.take_append, h3, show (i + 1) * 6 - 6 = i * 6 by omega, ih, List.take_of_length_le (by omega)]
theorem flatE_drop (es : List E) (i : Nat) : (flatE es).drop (i * 6) = flatE (es.drop i) := by
  induction es generalizing i with
  | nil => simp [flatE]
  | cons x l ih =>
    cases i with
    | zero => simp [flatE]
    | succ i =>
      have e : flatE (x :: l) = x.cs ++ flatE l := by simp [flatE]
      have h3 : x.cs.length = 6 := rfl
      rw [e, List.drop_append, h3, show (i + 1) * 6 - 6 = i * 6 by omega, ih, List.drop_of_length_le (by omega)]
      simp
theorem flatE_set (es : List E) (i : Nat) (hi : i < es.length) (x : E) : flatE (es.set i x) = (flatE es).take (i * 6) ++ x.cs ++ (flatE es).drop (i * 6 + 6) := by
  rw [List.set_eq_take_append_cons_drop, if_pos hi, flatE_app, flatE_take, show i * 6 + 6 = (i + 1) * 6 by omega, flatE_drop]
  simp [flatE, List.flatMap_cons]
/-- the write that is written over the lent ones -/
def e11 : E := ⟨1, 1, ⟨#[]⟩, false, slz, slz⟩
def mkE : E := ⟨0, 0, ⟨#[109, 97, 114, 107]⟩, false, slz, slz⟩
/-- the first i writes written over -/
def ovE (i : Nat) (es : List E) : List E := List.replicate i e11 ++ es.drop i
theorem ovE_len (i : Nat) (es : List E) (hi : i ≤ es.length) : (ovE i es).length = es.length := by simp [ovE]; omega
theorem ovE_step (i : Nat) (es : List E) (hi : i < es.length) : (ovE i es).set i e11 = ovE (i + 1) es := by
  unfold ovE
  rw [List.set_append_right _ _ (by simp)]
  simp only [List.length_replicate, Nat.sub_self]
  rw [List.drop_eq_getElem_cons hi, List.set_cons_zero, List.replicate_succ', List.append_assoc]
  rfl
theorem ovE_get (i : Nat) (es : List E) (hi : i < es.length) : gE (ovE i es) i = gE es i := by
  unfold gE ovE
  rw [List.getD_eq_getElem?_getD, List.getElem?_append_right (by simp), List.getD_eq_getElem?_getD]
  simp
theorem Nw.setE {w0 w : World} {q : Sl} {es : List E} (h : Nw w0 w 38 6 q (flatE es)) {Q : Nat} (hq : q.v.ownBlock = some Q) {i : Nat} (hi : i < q.n) (x : E) : Nw w0 (w.setCells Q (i * 6) x.cs) 38 6 q (flatE (es.set i x)) ∧ Apart [Q] w (w.setCells Q (i * 6) x.cs) := by
  have hl : es.length = q.n := by have := h.own.1; rw [flatE_len] at this; omega
  have ap : Apart [Q] w (w.setCells Q (i * 6) x.cs) := by
    show Apart [Q] w ((((((w.setCell ⟨Q, i * 6, none⟩ _).setCell ⟨Q, i * 6 + 1, none⟩ _).setCell ⟨Q, i * 6 + 1 + 1, none⟩ _).setCell ⟨Q, i * 6 + 1 + 1 + 1, none⟩ _).setCell ⟨Q, i * 6 + 1 + 1 + 1 + 1, none⟩ _).setCell ⟨Q, i * 6 + 1 + 1 + 1 + 1 + 1, none⟩ _)
    exact ((((((Apart.refl [Q] w).setCell (.inl (by simp)) _).setCell (.inl (by simp)) _).setCell (.inl (by simp)) _).setCell (.inl (by simp)) _).setCell (.inl (by simp)) _).setCell (.inl (by simp)) _
  exact ⟨⟨by rw [flatE_set es i (by omega)]; exact own_setG h.own hq hi x.cs rfl, h.new, h.ap.trans' ap (fun y hy => .inr (by simp at hy; rw [hy]; exact h.new Q hq))⟩, ap⟩
/-- which blocks a loan has -/
def Lb (x : Lo) (k : Nat) : Prop := x.1.v.ownBlock = some k ∨ x.2.v.ownBlock = some k
/-- writes that were lent one by one -/
structure Lw (w W : World) (els : List E) (xls : List Lo) (rs : Nat → Wr) (i : Nat) (lo : Nat → Nat) : Prop where
  le : els.length = i
  lx : xls.length = i
  ln : ∀ j, j < i → Ln w W (gE els j) (rs j) (gX xls j).1 (gX xls j).2
  rg : ∀ j, j < i → ∀ k, Lb (gX xls j) k → lo j ≤ k ∧ k < lo (j + 1)
  up : ∀ j, j < i → lo j ≤ lo (j + 1)
  hi : lo i ≤ W.heap.size
theorem Lw.keepT {w W W' : World} {els : List E} {xls : List Lo} {rs : Nat → Wr} {i : Nat} {lo : Nat → Nat} {X : List Nat} (h : Lw w W els xls rs i lo) (a : Apart X W W') (ap : Apart [] w W') (hX : ∀ k ∈ X, ∀ cur, W.heap[k]? ≠ some (.cells cur 5 (0, 0)) ∧ W.heap[k]? ≠ some (.cells cur 94 (0, 0))) : Lw w W' els xls rs i lo :=
  { h with ln := fun j hj => (h.ln j hj).keepT a ap hX, hi := Nat.le_trans h.hi a.size }
theorem Lw.kept {w W W' : World} {els : List E} {xls : List Lo} {rs : Nat → Wr} {i : Nat} {lo : Nat → Nat} (h : Lw w W els xls rs i lo) (a : Apart [] W W') (ap : Apart [] w W') : Lw w W' els xls rs i lo := h.keepT a ap (by simp)
theorem Lw.more {w W W' : World} {els : List E} {xls : List Lo} {rs : Nat → Wr} {i : Nat} {lo : Nat → Nat} (h : Lw w W els xls rs i lo) (a : Apart [] W W') (ap : Apart [] w W) {e : E} {sv sx : Sl} (hl : Ln W W' e (rs i) sv sx) : Lw w W' (els ++ [e]) (xls ++ [(sv, sx)]) rs (i + 1) (fun j => if j ≤ i then (if j = i then W.heap.size else lo j) else W'.heap.size) := by
  have h' := h.kept a (ap.trans a)
  have hmax : ∀ j, j < i → lo (j + 1) ≤ W.heap.size := fun j hj => by
    have : ∀ d j, j + d = i → lo j ≤ lo i := fun d => by
      induction d with
      | zero => intro j hj; rw [show j = i by omega]; exact Nat.le_refl _
      | succ d ih => intro j hj; exact Nat.le_trans (h.up j (by omega)) (ih (j + 1) (by omega))
    exact Nat.le_trans (this (i - (j + 1)) (j + 1) (by omega)) h.hi
  refine ⟨by simp [h.le], by simp [h.lx], fun j hj => ?_, fun j hj k hk => ?_, fun j hj => ?_, ?_⟩
  · by_cases e1 : j < i
    · rw [gE_app_left (by rw [h.le]; exact e1), gX_app_left (by rw [h.lx]; exact e1)]
      exact h'.ln j e1
    · have e2 : j = i := by omega
      subst e2
      rw [gE_app_at h.le, gX_app_at h.lx]
      exact hl.from ap
  · by_cases e1 : j < i
    · rw [gX_app_left (by rw [h.lx]; exact e1)] at hk
      have h1 := h.rg j e1 k hk
      simp only [show j ≤ i by omega, show ¬ j = i by omega, if_true, if_false]
      refine ⟨h1.1, ?_⟩
      by_cases e3 : j + 1 = i
      · rw [if_pos (by omega), if_pos e3]
        exact Nat.lt_of_lt_of_le h1.2 (hmax j e1)
      · rw [if_pos (by omega), if_neg e3]
        exact h1.2
    · have e2 : j = i := by omega
      subst e2
      rw [gX_app_at h.lx] at hk
      simp only [Nat.le_refl, if_true, show ¬ j + 1 ≤ j by omega, if_false]
      rcases hk with hk | hk
      · exact (hl.bv.nw.own_p hk).2
      · exact (hl.bx.nw.own_p hk).2
  · by_cases e1 : j < i
    · simp only [show j ≤ i by omega, show ¬ j = i by omega, if_true, if_false]
      by_cases e3 : j + 1 = i
      · rw [if_pos (by omega), if_pos e3]
        exact Nat.le_trans (h.up j e1) (hmax j e1)
      · rw [if_pos (by omega), if_neg e3]
        exact h.up j e1
    · have e2 : j = i := by omega
      subst e2
      simp only [Nat.le_refl, if_true, show ¬ j + 1 ≤ j by omega, if_false]
      exact a.size
  · simp only [show ¬ i + 1 ≤ i by omega, if_false]
    exact Nat.le_refl _
theorem Lw.apart {w W : World} {els : List E} {xls : List Lo} {rs : Nat → Wr} {i : Nat} {lo : Nat → Nat} (h : Lw w W els xls rs i lo) {j j' k : Nat} (hj : j < j') (hj' : j' < i) (h1 : Lb (gX xls j) k) (h2 : Lb (gX xls j') k) : False := by
  have up : ∀ d a, a + d ≤ i → lo a ≤ lo (a + d) := fun d => by
    induction d with
    | zero => intro a ha; exact Nat.le_refl _
    | succ d ih => intro a ha; exact Nat.le_trans (ih a (by omega)) (h.up (a + d) (by omega))
  have r1 := h.rg j (by omega) k h1
  have r2 := h.rg j' hj' k h2
  have := up (j' - (j + 1)) (j + 1) (by omega)
  rw [show j + 1 + (j' - (j + 1)) = j' by omega] at this
  omega
end Go.Proofs.YtpddokbjjhbfgaaGreat.ds
namespace Go.Proofs.YtpddokbjjhbfgaaGreat.ds
open Go.ChangeShapes Go.WideShapes Go.ChangeAt Go.RowKit Go.Sort
set_option linter.unusedVariables false
set_option linter.unusedSimpArgs false
/-- writes that are alike but for where their lists lie -/
def Lk2 (a b : List E) (n : Nat) : Prop := a.length = n ∧ b.length = n ∧ ∀ j, j < n → (gE a j).n = (gE b j).n ∧ (gE a j).c = (gE b j).c ∧ (gE a j).k = (gE b j).k ∧ (gE a j).d = (gE b j).d ∧ (gE a j).v.n = (gE b j).v.n
theorem Lk2.dots {a b : List E} {n : Nat} (h : Lk2 a b n) : a.map dotE = b.map dotE := by
  apply List.ext_getElem?
  intro j
  by_cases hj : j < n
  · have h1 := h.2.2 j hj
    have e1 : a[j]? = some (gE a j) := by unfold gE; rw [List.getD_eq_getElem?_getD, List.getElem?_eq_getElem (by rw [h.1]; exact hj)]; rfl
    have e2 : b[j]? = some (gE b j) := by unfold gE; rw [List.getD_eq_getElem?_getD, List.getElem?_eq_getElem (by rw [h.2.1]; exact hj)]; rfl
    rw [List.getElem?_map, List.getElem?_map, e1, e2]
    simp [dotE, h1.1, h1.2.1]
  · rw [List.getElem?_eq_none (by simp; rw [h.1]; omega), List.getElem?_eq_none (by simp; rw [h.2.1]; omega)]
theorem Lk2.are {a b : List E} {n : Nat} (h : Lk2 a b n) (c : Cf) (key : ByteArray) (tok : List S) (X : Nat → List S) : areR c key tok a X = areR c key tok b X := by
  have hok : ∀ i, i < n → okI c key tok a X i = okI c key tok b X i := fun i hi => by
    have h1 := h.2.2 i hi
    have hd : dotE (gE a i) = dotE (gE b i) := by unfold dotE; rw [h1.1, h1.2.1]
    unfold okI
    rw [wrR_congr h1.1 h1.2.1 h1.2.2.1 h1.2.2.2.1 h1.2.2.2.2, h1.2.2.1, hd]
    by_cases h0 : i = 0
    · simp [h0]
    · have h2 := h.2.2 (i - 1) (by omega)
      have hd2 : dotE (gE a (i - 1)) = dotE (gE b (i - 1)) := by unfold dotE; rw [h2.1, h2.2.1]
      rw [hd2]
  unfold areR
  rw [h.1, h.2.1]
  rw [Bool.eq_iff_iff, List.all_eq_true, List.all_eq_true]
  exact ⟨fun hh x hx => by rw [← hok x (List.mem_range.1 hx)]; exact hh x hx, fun hh x hx => by rw [hok x (List.mem_range.1 hx)]; exact hh x hx⟩
theorem GotP.ret {w w' : World} {G : Gs} {c : Cf} {nn rr pp : Nat} {lk : List Int} {f : ByteArray → Sg} {N : Nat} {call : Int} {key : ByteArray} {es : List E} {er : Int} {r : Ending} (h : GotP w G c nn rr pp lk f N call key es er r w') : r = .returned (.int .i64 er) ∧ Apart [G.M] w w' := by
  refine ⟨h.1, ?_⟩
  by_cases e : er = 0
  · obtain ⟨G', -, h3⟩ := h.2.2 e; exact h3.ap
  · exact (h.2.1 e).mono (by simp)
theorem RGotP.ret {w w' : World} {T : Ts} {c : Cf} {nn rr pp : Nat} {lk : List Int} {f : ByteArray → Sg} {N : Nat} {call : Int} {key : ByteArray} {es : List E} {er : Int} {r : Ending} (h : RGotP w T c nn rr pp lk f N call key es er r w') : r = .returned (.int .i64 er) ∧ Apart (T.S :: T.q.v.ownBlock.toList) w w' := by
  refine ⟨h.1, ?_⟩
  by_cases e : er = 0
  · obtain ⟨T', -, h3⟩ := h.2.2 e; exact h3.ap
  · exact (h.2.1 e).mono (by simp)
theorem Pr.got {w w4 w5 : World} {P : Pd} {c : Cf} {nn rr pp : Nat} {lk : List Int} {f : ByteArray → Sg} {N : Nat} (h : Pr w P c nn rr pp lk f N) {call : Int} {key : ByteArray} {els es : List E} {n : Nat} (hl : Lk2 els es n) {er : Int} {r1 r2 : Ending} {W0 W1 : World} (a0 : Apart [] w W0) (h1 : GotP W0 P.G c nn rr pp lk f N call key els er r1 w4) (a1 : Apart [] w4 W1) (h2 : RGotP W1 P.T c nn rr pp lk f N call key es er r2 w5) : ∃ P' f', Pr w5 P' c nn rr pp lk f' (N + n + 1) ∧ Stp W0 w5 P P' := by
  have h0 := h.kept0 a0
  by_cases e : er = 0
  · obtain ⟨G', hs, hwp⟩ := h1.2.2 e
    obtain ⟨T', hr, htp⟩ := h2.2.2 e
    rw [hl.1, hl.dots] at hs
    rw [hl.2.1] at hr
    obtain ⟨hp, hst⟩ := h0.step (hs.kept0 a1) hwp.S (hwp.ap.trans (a1.mono (by simp))) (Gs.mX _) hwp.new hr htp
    exact ⟨_, _, hp, hst⟩
  · have b := ((h1.2.1 e).trans a1).trans (h2.2.1 e)
    have hp := h0.kept0 b
    exact ⟨P, f, { hp with s := hp.s.mono (by omega), r := hp.r.mono (by omega) }, Stp.of0 b P⟩
/-- what is lent, on the way -/
structure Lq (w2 wt : World) (sl sx : Sl) (els : List E) (xls : List Lo) (rs : Nat → Wr) (i : Nat) (lo : Nat → Nat) : Prop where
  l : Nw w2 wt 38 6 sl (flatE els)
  x : Nw w2 wt 43 2 sx (flatX xls)
  w : Lw w2 wt els xls rs i lo
/-- what is lent, being written over -/
structure Bq (wB w10 wt : World) (sl sx tk : Sl) (els : List E) (xls : List Lo) (rs : Nat → Wr) (toks : List S) (n i lo hi : Nat) : Prop where
  l : Nw wB wt 38 6 sl (flatE (ovE i els ++ [mkE]))
  x : Nw wB wt 43 2 sx (flatX xls)
  t : Sps wB wt tk (toks ++ [mk7])
  ln : ∀ j, i ≤ j → j < n → Ln wB wt (gE els j) (rs j) (gX xls j).1 (gX xls j).2
  ap : ∃ Z, Apart Z w10 wt ∧ ∀ z ∈ Z, lo ≤ z ∧ z < hi
theorem Bq.kept {wB w10 wt w' : World} {sl sx tk : Sl} {els : List E} {xls : List Lo} {rs : Nat → Wr} {toks : List S} {n i lo hi : Nat} (h : Bq wB w10 wt sl sx tk els xls rs toks n i lo hi) (a : Apart [] wt w') : Bq wB w10 w' sl sx tk els xls rs toks n i lo hi := by
  obtain ⟨Z, b, hZ⟩ := h.ap
  exact ⟨h.l.kept a, h.x.kept a, h.t.kept a, fun j h1 h2 => (h.ln j h1 h2).kept a, Z, b.trans (a.mono (by simp)), hZ⟩
/-- one loan given back, and its write written over -/
theorem Bq.next {wB w10 wt w2 w3 : World} {sl sx tk : Sl} {els : List E} {xls : List Lo} {rs : Nat → Wr} {toks : List S} {n i lo hi : Nat} (h : Bq wB w10 wt sl sx tk els xls rs toks n i lo hi) (hi1 : i < n) (hel : els.length = n) {gl : Nat} (hgl : sl.v.ownBlock = some gl) (hsn : sl.n = n + 1) (hglr : lo ≤ gl ∧ gl < hi)
    (a : Apart ((gX xls i).1.v.ownBlock.toList ++ (gX xls i).2.v.ownBlock.toList) wt w2) (hr : ∀ k, Lb (gX xls i) k → lo ≤ k ∧ k < hi ∧ wB.heap.size ≤ k) (ht : ∀ k, Lb (gX xls i) k → tk.v.ownBlock ≠ some k) (hd : ∀ j, i < j → j < n → ∀ k, Lb (gX xls i) k → ¬ Lb (gX xls j) k) (e3 : w3 = w2.setCells gl (i * 6) e11.cs) : Bq wB w10 w3 sl sx tk els xls rs toks n (i + 1) lo hi := by
  have hli := h.ln i (Nat.le_refl _) hi1
  have hmem : ∀ k ∈ (gX xls i).1.v.ownBlock.toList ++ (gX xls i).2.v.ownBlock.toList, Lb (gX xls i) k := fun k hk => by
    rcases List.mem_append.1 hk with h1 | h1
    · exact .inl (by simpa using h1)
    · exact .inr (by simpa using h1)
  have hty : ∀ k ∈ (gX xls i).1.v.ownBlock.toList ++ (gX xls i).2.v.ownBlock.toList, ∃ cur t, wt.heap[k]? = some (.cells cur t (0, 0)) ∧ (t = 5 ∨ t = 94) := fun k hk => by
    rcases hmem k hk with h1 | h1
    · obtain ⟨cur, hc⟩ := own_typ hli.bv.nw.own h1; exact ⟨cur, 5, hc, .inl rfl⟩
    · obtain ⟨cur, hc⟩ := own_typ hli.bx.nw.own h1; exact ⟨cur, 94, hc, .inr rfl⟩
  have hnt : ∀ (t' : Nat), t' ≠ 5 → t' ≠ 94 → ∀ k ∈ (gX xls i).1.v.ownBlock.toList ++ (gX xls i).2.v.ownBlock.toList, ∀ cur, wt.heap[k]? ≠ some (.cells cur t' (0, 0)) := fun t' h5 h94 k hk cur e => by
    obtain ⟨cu, t, hc, ht⟩ := hty k hk
    rw [hc] at e
    simp at e
    rcases ht with ht | ht
    · exact h5 (e.2 ▸ ht)
    · exact h94 (e.2 ▸ ht)
  have ap2 : Apart [] wB w2 := h.l.ap.trans' a (fun k hk => .inr (hr k (hmem k hk)).2.2)
  have l2 := h.l.keepT a ap2 (hnt 38 (by decide) (by decide))
  have x2 := h.x.keepT a ap2 (hnt 43 (by decide) (by decide))
  have t2 := h.t.off a ap2 (fun k hk hm => ht k (hmem k hm) hk)
  obtain ⟨l3, a3⟩ := l2.setE hgl (i := i) (by omega) e11
  rw [← e3] at l3 a3
  have hset : (ovE i els ++ [mkE]).set i e11 = ovE (i + 1) els ++ [mkE] := by
    rw [List.set_append_left _ _ (by rw [ovE_len _ _ (by omega)]; omega), ovE_step i els (by omega)]
  rw [hset] at l3
  have hg38 : ∃ cur, w2.heap[gl]? = some (.cells cur 38 (0, 0)) := own_typ l2.own hgl
  have hng : ∀ (t' : Nat), t' ≠ 38 → ∀ k ∈ [gl], ∀ cur, w2.heap[k]? ≠ some (.cells cur t' (0, 0)) := fun t' h38 k hk cur e => by
    simp at hk
    obtain ⟨cu, hc⟩ := hg38
    rw [hk, hc] at e
    simp at e
    exact h38 e.2.symm
  refine ⟨l3, x2.keepT a3 l3.ap (hng 43 (by decide)), t2.keepT a3 l3.ap (hng 94 (by decide)), fun j h1 h2 => ?_, ?_⟩
  · have hj := h.ln j (by omega) h2
    have hj2 : Ln wB w2 (gE els j) (rs j) (gX xls j).1 (gX xls j).2 := { hj with
      bv := ⟨hj.bv.nw.off a ap2 (fun k hk hm => hd j (by omega) h2 k (hmem k hm) (.inl hk)), hj.bv.len⟩
      bx := hj.bx.off a ap2 (fun k hk hm => hd j (by omega) h2 k (hmem k hm) (.inr hk)) }
    exact hj2.keepT a3 l3.ap (fun k hk cur => ⟨hng 5 (by decide) k hk cur, hng 94 (by decide) k hk cur⟩)
  · obtain ⟨Z, b, hZ⟩ := h.ap
    refine ⟨(Z ++ ((gX xls i).1.v.ownBlock.toList ++ (gX xls i).2.v.ownBlock.toList)) ++ [gl], ((b.mono (fun x hx => List.mem_append_left _ (List.mem_append_left _ hx))).trans (a.mono (fun x hx => List.mem_append_left _ (List.mem_append_right _ hx)))).trans (a3.mono (fun x hx => List.mem_append_right _ hx)), fun z hz => ?_⟩
    rcases List.mem_append.1 hz with hz | hz
    · rcases List.mem_append.1 hz with hz | hz
      · exact hZ z hz
      · exact ⟨(hr z (hmem z hz)).1, (hr z (hmem z hz)).2.1⟩
    · simp at hz; rw [hz]; exact hglr
end Go.Proofs.YtpddokbjjhbfgaaGreat.ds
