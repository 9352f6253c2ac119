import Derived.Test.YtdggkofihppcmaaDoorKw2
namespace Go.Proofs.YtdggkofihppcmaaDoor.ds
open Go.ChangeShapes Go.WideShapes Go.ChangeAt Go.RowKit
set_option linter.unusedVariables false
set_option linter.unusedSimpArgs false
def flatH (N : Nat) (u : Nat → Value) : List Value := (List.range N).flatMap (fun j => [u j, .int .i64 (mrk (10 + j)).n, .int .i64 (mrk (10 + j)).b, .int .u64 ((mrk (10 + j)).t : Int)])
theorem flatH_len (N : Nat) (u : Nat → Value) : (flatH N u).length = N * 4 := by
  induction N with
  | zero => rfl
  | succ n ih =>
    unfold flatH at ih ⊢
    rw [List.range_succ, List.flatMap_append, List.length_append, ih]
    simp; omega
theorem flatH_succ (N : Nat) (u : Nat → Value) : flatH (N + 1) u = flatH N u ++ [u N, .int .i64 (mrk (10 + N)).n, .int .i64 (mrk (10 + N)).b, .int .u64 ((mrk (10 + N)).t : Int)] := by
  unfold flatH
  rw [List.range_succ, List.flatMap_append]
  simp
theorem flatH_congr (u u' : Nat → Value) : ∀ N, (∀ j, j < N → u j = u' j) → flatH N u = flatH N u'
  | 0, _ => rfl
  | N + 1, h => by rw [flatH_succ, flatH_succ, flatH_congr u u' N (fun j hj => h j (by omega)), h N (by omega)]
theorem flatH_get (u : Nat → Value) : ∀ N j, j < N → (flatH N u)[j * 4]? = some (u j) ∧ (flatH N u)[j * 4 + 1]? = some (.int .i64 (mrk (10 + j)).n) ∧ (flatH N u)[j * 4 + 2]? = some (.int .i64 (mrk (10 + j)).b) ∧ (flatH N u)[j * 4 + 3]? = some (.int .u64 ((mrk (10 + j)).t : Int))
  | N + 1, j, h => by
    rw [flatH_succ]
    have hl := flatH_len N u
    by_cases e : j < N
    · have ih := flatH_get u N j e
      rw [List.getElem?_append_left (by omega), List.getElem?_append_left (by omega), List.getElem?_append_left (by omega), List.getElem?_append_left (by omega)]
      exact ih
    · obtain rfl : j = N := by omega
      rw [List.getElem?_append_right (by omega), List.getElem?_append_right (by omega), List.getElem?_append_right (by omega), List.getElem?_append_right (by omega), hl]
      refine ⟨by simp, ?_, ?_, ?_⟩
      · rw [show j * 4 + 1 - j * 4 = 1 by omega]; rfl
      · rw [show j * 4 + 2 - j * 4 = 2 by omega]; rfl
      · rw [show j * 4 + 3 - j * 4 = 3 by omega]; rfl
theorem map_congr' (v v' : Nat → Value) (N : Nat) (h : ∀ j, j < N → v j = v' j) : (List.range N).map v = (List.range N).map v' := List.map_congr_left (fun j hj => h j (by simpa using hj))
def tagN (who : Nat → Option Nat) (v : Value) (t : Nat) : Nat → Option Nat := fun k => if v.ownBlock = some k then some t else who k
/-- all that the law holds: what is appended to, and what lies untouched -/
structure KW (w0 w : World) (who : Nat → Option Nat) (av qv : Value) (na nq ma mq : Nat) (u : Nat → Value) (z : Nat → List S) (v : Nat → Value) (x : Nat → List S) : Prop where
  rowQ : w.ownsRow 0 22 1 qv nq ((List.range nq).map v)
  tQ : ∀ k, qv.ownBlock = some k → who k = some 1
  quiet : ∀ j, j < mq → Ans w who (2 * j + 3) (v j) (x j)
  rowA : w.ownsRow 0 55 4 av na (flatH na u)
  tA : ∀ k, av.ownBlock = some k → who k = some 0
  all : ∀ j, j < ma → Ans w who (2 * j + 4) (u j) (z j)
  old : ∀ k t, who k = some t → w0.heap.size ≤ k ∧ k < w.heap.size
  ap : Apart [] w0 w
theorem KW.kept {w0 w w' : World} {who who' : Nat → Option Nat} {av qv : Value} {na nq ma mq : Nat} {u : Nat → Value} {z : Nat → List S} {v : Nat → Value} {x : Nat → List S} {X : List Nat} (h : KW w0 w who av qv na nq ma mq u z v x) (a : Apart X w w') (hx : ∀ k ∈ X, (who k = none ∨ who k = some 2) ∧ w0.heap.size ≤ k)
    (ext : ∀ k s, who k = some s → who' k = some s) (old : ∀ k t, who' k = some t → w0.heap.size ≤ k ∧ k < w'.heap.size) : KW w0 w' who' av qv na nq ma mq u z v x := by
  have no : ∀ t, t ≠ 2 → ∀ k ∈ X, who k ≠ some t := fun t ht k hk e => by
    rcases (hx k hk).1 with h1 | h1
    · rw [h1] at e; simp at e
    · rw [h1] at e; simp at e; omega
  exact ⟨own_apart h.rowQ a (fun k hk m => no 1 (by omega) k m (h.tQ k hk)), fun k hk => ext _ _ (h.tQ k hk), fun j hj => (h.quiet j hj).kept a (no _ (by omega)) ext, own_apart h.rowA a (fun k hk m => no 0 (by omega) k m (h.tA k hk)), fun k hk => ext _ _ (h.tA k hk), fun j hj => (h.all j hj).kept a (no _ (by omega)) ext, old, h.ap.trans' a (fun y hy => .inr (hx y hy).2)⟩
theorem tag_new {w : World} {who : Nat → Option Nat} {v : Value} {t : Nat} (nw : ∀ k, v.ownBlock = some k → who k = some t ∨ w.heap.size ≤ k) (old : ∀ k s, who k = some s → k < w.heap.size) : (∀ k s, who k = some s → tagN who v t k = some s) ∧ (∀ k, k < w.heap.size → tagN who v t k = who k) := by
  have key : ∀ k, k < w.heap.size → tagN who v t k = who k := by
    intro k hk
    unfold tagN
    by_cases e : v.ownBlock = some k
    · rw [if_pos e]
      rcases nw k e with h1 | h1
      · exact h1.symm
      · omega
    · rw [if_neg e]
  exact ⟨fun k s e => by rw [key k (old k s e)]; exact e, key⟩
theorem tag_old {w0 w w' : World} {who : Nat → Option Nat} {v : Value} {t : Nat} (nw : ∀ k, v.ownBlock = some k → who k = some t ∨ w.heap.size ≤ k) (old : ∀ k s, who k = some s → w0.heap.size ≤ k ∧ k < w.heap.size) (h0 : w0.heap.size ≤ w.heap.size) (hs : w.heap.size ≤ w'.heap.size) (lt : ∀ k, v.ownBlock = some k → k < w'.heap.size) : ∀ k s, tagN who v t k = some s → w0.heap.size ≤ k ∧ k < w'.heap.size := by
  intro k s e
  unfold tagN at e
  by_cases h : v.ownBlock = some k
  · refine ⟨?_, lt k h⟩
    rcases nw k h with h1 | h1
    · exact (old _ _ h1).1
    · omega
  · rw [if_neg h] at e
    have := old _ _ e
    omega
/-- one list more that lies untouched -/
theorem KW.addQ {w0 w w' : World} {who : Nat → Option Nat} {av qv : Value} {na nq ma mq : Nat} {u : Nat → Value} {z : Nat → List S} {v : Nat → Value} {x : Nat → List S} (h : KW w0 w who av qv na nq ma mq u z v x) (hq : nq ≤ mq) {p : Option Addr} {n c : Nat} {xs : List S} (o : Own w w' p n c xs) (hn : n ≤ 8) (hf : ∀ y ∈ xs, y.t < 2 ^ 64) :
    ∃ who', KW w0 w' who' av qv na nq ma (mq + 1) u z (fun j => if j = mq then .slice p n c else v j) (fun j => if j = mq then xs else x j) ∧ ∀ k, k < w.heap.size → who' k = who k := by
  have nw : ∀ k, (Value.slice p n c).ownBlock = some k → who k = some (2 * mq + 3) ∨ w.heap.size ≤ k := fun k hk => .inr (o.new k hk)
  have ow := o.own
  rw [o.len] at ow
  have lt := own_lt o.own
  obtain ⟨ext, same⟩ := tag_new nw (fun k s e => (h.old k s e).2)
  have old := tag_old nw h.old h.ap.size o.ap.size lt
  have k1 := h.kept o.ap (by simp) ext old
  refine ⟨_, ⟨?_, k1.tQ, fun j hj => ?_, k1.rowA, k1.tA, k1.all, k1.old, k1.ap⟩, same⟩
  · rw [map_congr' _ v nq (fun j hj => by simp only [if_neg (show j ≠ mq by omega)])]
    exact k1.rowQ
  · by_cases e : j = mq
    · subst e
      simp only [if_true]
      exact ⟨by rw [← o.len]; exact o.own, fun k hk => by simp [tagN, hk], by rw [← o.len]; exact hn, hf⟩
    · simp only [if_neg e]
      exact k1.quiet j (by omega)
theorem KW.addA {w0 w w' : World} {who : Nat → Option Nat} {av qv : Value} {na nq ma mq : Nat} {u : Nat → Value} {z : Nat → List S} {v : Nat → Value} {x : Nat → List S} (h : KW w0 w who av qv na nq ma mq u z v x) (hq : na ≤ ma) {p : Option Addr} {n c : Nat} {xs : List S} (o : Own w w' p n c xs) (hn : n ≤ 8) (hf : ∀ y ∈ xs, y.t < 2 ^ 64) :
    ∃ who', KW w0 w' who' av qv na nq (ma + 1) mq (fun j => if j = ma then .slice p n c else u j) (fun j => if j = ma then xs else z j) v x ∧ ∀ k, k < w.heap.size → who' k = who k := by
  have nw : ∀ k, (Value.slice p n c).ownBlock = some k → who k = some (2 * ma + 4) ∨ w.heap.size ≤ k := fun k hk => .inr (o.new k hk)
  have lt := own_lt o.own
  obtain ⟨ext, same⟩ := tag_new nw (fun k s e => (h.old k s e).2)
  have old := tag_old nw h.old h.ap.size o.ap.size lt
  have k1 := h.kept o.ap (by simp) ext old
  refine ⟨_, ⟨k1.rowQ, k1.tQ, k1.quiet, ?_, k1.tA, fun j hj => ?_, k1.old, k1.ap⟩, same⟩
  · rw [flatH_congr _ u na (fun j hj => by simp only [if_neg (show j ≠ ma by omega)])]
    exact k1.rowA
  · by_cases e : j = ma
    · subst e
      simp only [if_true]
      exact ⟨by rw [← o.len]; exact o.own, fun k hk => by simp [tagN, hk], by rw [← o.len]; exact hn, hf⟩
    · simp only [if_neg e]
      exact k1.all j (by omega)
theorem NewOr.or {w : World} {v v' : Value} (n : NewOr w v v') {who : Nat → Option Nat} {t : Nat} (hv : ∀ k, v.ownBlock = some k → who k = some t) : ∀ k, v'.ownBlock = some k → who k = some t ∨ w.heap.size ≤ k := by
  intro k hk
  rcases n with e | ⟨q, e, hq⟩
  · exact .inl (hv k (by rw [← e]; exact hk))
  · rw [e] at hk; simp at hk; subst hk; exact .inr hq
/-- the row of those that lie untouched has grown -/
theorem KW.growQ {w0 w w' : World} {who : Nat → Option Nat} {av qv qv' : Value} {na nq ma mq m : Nat} {u : Nat → Value} {z : Nat → List S} {v : Nat → Value} {x : Nat → List S} (h : KW w0 w who av qv na nq ma mq u z v x) (row : w'.ownsRow 0 22 1 qv' (nq + m) ((List.range (nq + m)).map v)) (a : Apart qv.ownBlock.toList w w') (nw0 : NewOr w qv qv') :
    ∃ who', KW w0 w' who' av qv' na (nq + m) ma mq u z v x ∧ ∀ k, k < w.heap.size → who' k = who k := by
  have nw := nw0.or (who := who) (t := 1) h.tQ
  have lt := own_lt row
  obtain ⟨ext, same⟩ := tag_new nw (fun k s e => (h.old k s e).2)
  have old := tag_old nw h.old h.ap.size a.size lt
  have tg : ∀ k ∈ qv.ownBlock.toList, who k = some 1 := fun k hk => h.tQ k (by simpa using hk)
  have no : ∀ t, t ≠ 1 → ∀ k ∈ qv.ownBlock.toList, who k ≠ some t := fun t ht k hk e => by rw [tg k hk] at e; simp at e; omega
  exact ⟨_, ⟨row, fun k hk => by simp [tagN, hk], fun j hj => (h.quiet j hj).kept a (no _ (by omega)) ext, own_apart h.rowA a (fun k hk m => no 0 (by omega) k m (h.tA k hk)), fun k hk => ext _ _ (h.tA k hk), fun j hj => (h.all j hj).kept a (no _ (by omega)) ext, old, h.ap.trans' a (fun y hy => .inr (h.old _ _ (tg y hy)).1)⟩, same⟩
theorem KW.growA {w0 w w' : World} {who : Nat → Option Nat} {av av' qv : Value} {na nq ma mq m : Nat} {u : Nat → Value} {z : Nat → List S} {v : Nat → Value} {x : Nat → List S} (h : KW w0 w who av qv na nq ma mq u z v x) (row : w'.ownsRow 0 55 4 av' (na + m) (flatH (na + m) u)) (a : Apart av.ownBlock.toList w w') (nw0 : NewOr w av av') :
    ∃ who', KW w0 w' who' av' qv (na + m) nq ma mq u z v x ∧ ∀ k, k < w.heap.size → who' k = who k := by
  have nw := nw0.or (who := who) (t := 0) h.tA
  have lt := own_lt row
  obtain ⟨ext, same⟩ := tag_new nw (fun k s e => (h.old k s e).2)
  have old := tag_old nw h.old h.ap.size a.size lt
  have tg : ∀ k ∈ av.ownBlock.toList, who k = some 0 := fun k hk => h.tA k (by simpa using hk)
  have no : ∀ t, t ≠ 0 → ∀ k ∈ av.ownBlock.toList, who k ≠ some t := fun t ht k hk e => by rw [tg k hk] at e; simp at e; omega
  exact ⟨_, ⟨own_apart h.rowQ a (fun k hk m => no 1 (by omega) k m (h.tQ k hk)), fun k hk => ext _ _ (h.tQ k hk), fun j hj => (h.quiet j hj).kept a (no _ (by omega)) ext, row, fun k hk => by simp [tagN, hk], fun j hj => (h.all j hj).kept a (no _ (by omega)) ext, old, h.ap.trans' a (fun y hy => .inr (h.old _ _ (tg y hy)).1)⟩, same⟩
/-- a list of the others is written into -/
theorem KW.updA {w0 w w' : World} {who : Nat → Option Nat} {av qv : Value} {na nq ma mq : Nat} {u : Nat → Value} {z : Nat → List S} {v : Nat → Value} {x : Nat → List S} (h : KW w0 w who av qv na nq ma mq u z v x) (i : Nat) (hi : i < ma) (a : Apart (u i).ownBlock.toList w w') (xs' : List S) (an : Ans w' who (2 * i + 4) (u i) xs') :
    KW w0 w' who av qv na nq ma mq u (fun j => if j = i then xs' else z j) v x := by
  have tg : ∀ k ∈ (u i).ownBlock.toList, who k = some (2 * i + 4) := fun k hk => (h.all i hi).tag k (by simpa using hk)
  have no : ∀ t, t ≠ 2 * i + 4 → ∀ k ∈ (u i).ownBlock.toList, who k ≠ some t := fun t ht k hk e => by rw [tg k hk] at e; simp at e; omega
  refine ⟨own_apart h.rowQ a (fun k hk m => no 1 (by omega) k m (h.tQ k hk)), h.tQ, fun j hj => (h.quiet j hj).kept a (no _ (by omega)) (fun _ _ e => e), own_apart h.rowA a (fun k hk m => no 0 (by omega) k m (h.tA k hk)), h.tA, fun j hj => ?_, fun k t e => ⟨(h.old k t e).1, Nat.lt_of_lt_of_le (h.old k t e).2 a.size⟩, h.ap.trans' a (fun y hy => .inr (h.old _ _ (tg y hy)).1)⟩
  by_cases e : j = i
  · subst e; simp only [if_true]; exact an
  · simp only [if_neg e]
    exact (h.all j hj).kept a (no _ (by omega)) (fun _ _ e => e)
end Go.Proofs.YtdggkofihppcmaaDoor.ds
