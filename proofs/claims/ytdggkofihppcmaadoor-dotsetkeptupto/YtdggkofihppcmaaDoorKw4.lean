import Derived.Test.YtdggkofihppcmaaDoorKw3
namespace Go.Proofs.YtdggkofihppcmaaDoor.ds
open Go.ChangeShapes Go.WideShapes Go.ChangeAt Go.RowKit
set_option linter.unusedVariables false
set_option linter.unusedSimpArgs false
/-- what is lent, and written over later -/
structure Lt (w : World) (who : Nat → Option Nat) (g n c : Nat) (xs : List S) : Prop where
  own : w.ownsRow 0 52 3 (.slice (some ⟨g, 0, none⟩) n c) n (flat xs)
  tag : who g = some 2
  len : n = xs.length
structure ST (w0 w : World) (av qv : Value) (a0 q0 ka kq : Nat) (A Q : List (Value × List S)) (BS : List Nat) (LT : Option (Nat × Nat × Nat × List S)) : Prop where
  ex : ∃ who u z v x, KW w0 w who av qv (a0 + ka) (q0 + kq) (a0 + A.length) (q0 + Q.length) u z v x ∧ (∀ a, 2 * a + 1 < q0 → x (2 * a) = x (2 * a + 1)) ∧ (∀ j, j < a0 → ∃ n, z j = List.replicate n (mrk (10 + j))) ∧ (∀ r, r < A.length → A[r]? = some (u (a0 + r), z (a0 + r))) ∧ (∀ r, r < Q.length → Q[r]? = some (v (q0 + r), x (q0 + r))) ∧ (∀ b ∈ BS, who b = none ∧ w0.heap.size ≤ b ∧ b < w.heap.size) ∧ (∀ g n c xs, LT = some (g, n, c, xs) → Lt w who g n c xs)
  ka : ka ≤ A.length
  kq : kq ≤ Q.length
variable {w0 w w' : World} {av qv : Value} {a0 q0 ka kq : Nat} {A Q : List (Value × List S)} {BS : List Nat} {LT : Option (Nat × Nat × Nat × List S)}
theorem ST.ap (h : ST w0 w av qv a0 q0 ka kq A Q BS LT) : Apart [] w0 w := by
  obtain ⟨who, u, z, v, x, k, _⟩ := h.ex
  exact k.ap
theorem ST.kept {X : List Nat} (h : ST w0 w av qv a0 q0 ka kq A Q BS LT) (a : Apart X w w') (hX : ∀ k ∈ X, k ∈ BS) : ST w0 w' av qv a0 q0 ka kq A Q BS LT := by
  obtain ⟨who, u, z, v, x, k, t1, t2, t3, t4, t5, t6⟩ := h.ex
  refine ⟨⟨who, u, z, v, x, k.kept a (fun b hb => ⟨.inl (t5 b (hX b hb)).1, (t5 b (hX b hb)).2.1⟩) (fun _ _ e => e) (fun b t e => ⟨(k.old b t e).1, Nat.lt_of_lt_of_le (k.old b t e).2 a.size⟩), t1, t2, t3, t4, fun b hb => ⟨(t5 b hb).1, (t5 b hb).2.1, Nat.lt_of_lt_of_le (t5 b hb).2.2 a.size⟩, fun g n c xs e => ?_⟩, h.ka, h.kq⟩
  have l := t6 g n c xs e
  exact ⟨own_apart l.own a (fun b hb m => by simp [Value.ownBlock] at hb; subst hb; have := (t5 _ (hX _ m)).1; rw [l.tag] at this; simp at this), l.tag, l.len⟩
theorem ST.kept0 (h : ST w0 w av qv a0 q0 ka kq A Q BS LT) (a : Apart [] w w') : ST w0 w' av qv a0 q0 ka kq A Q BS LT := h.kept a (by simp)
theorem ST.box (h : ST w0 w av qv a0 q0 ka kq A Q BS LT) (a : Apart [] w w') (b : Nat) (hb : w.heap.size ≤ b) (hb2 : b < w'.heap.size) : ST w0 w' av qv a0 q0 ka kq A Q (b :: BS) LT := by
  have h1 := h.kept0 a
  obtain ⟨who0, u0, z0, v0, x0, k0, _⟩ := h.ex
  obtain ⟨who, u, z, v, x, k, t1, t2, t3, t4, t5, t6⟩ := h.ex
  refine ⟨⟨who, u, z, v, x, k.kept a (by simp) (fun _ _ e => e) (fun b t e => ⟨(k.old b t e).1, Nat.lt_of_lt_of_le (k.old b t e).2 a.size⟩), t1, t2, t3, t4, fun b' hb' => ?_, fun g n c xs e => ?_⟩, h.ka, h.kq⟩
  · simp only [List.mem_cons] at hb'
    rcases hb' with rfl | hb'
    · refine ⟨?_, Nat.le_trans k.ap.size hb, hb2⟩
      cases e : who b' with
      | none => rfl
      | some t => have := (k.old _ _ e).2; omega
    · exact ⟨(t5 _ hb').1, (t5 _ hb').2.1, Nat.lt_of_lt_of_le (t5 _ hb').2.2 a.size⟩
  · have l := t6 g n c xs e
    exact ⟨own_apart l.own a (by simp), l.tag, l.len⟩
theorem ST.addQ (h : ST w0 w av qv a0 q0 ka kq A Q BS LT) {p : Option Addr} {n c : Nat} {xs : List S} (o : Own w w' p n c xs) (hn : n ≤ 8) (hf : ∀ y ∈ xs, y.t < 2 ^ 64) : ST w0 w' av qv a0 q0 ka kq A (Q ++ [(.slice p n c, xs)]) BS LT := by
  obtain ⟨who, u, z, v, x, k, t1, t2, t3, t4, t5, t6⟩ := h.ex
  have hkq := h.kq
  obtain ⟨who', k', same⟩ := k.addQ (by omega) o hn hf
  refine ⟨⟨who', u, z, _, _, by simpa [Nat.add_assoc] using k', fun a ha => ?_, t2, t3, fun r hr => ?_, fun b hb => ⟨by rw [same _ (t5 b hb).2.2]; exact (t5 b hb).1, (t5 b hb).2.1, Nat.lt_of_lt_of_le (t5 b hb).2.2 o.ap.size⟩, fun g n' c' xs' e => ?_⟩, h.ka, by simp; omega⟩
  · rw [if_neg (by omega), if_neg (by omega)]; exact t1 a ha
  · by_cases e : r = Q.length
    · subst e; simp
    · simp at hr
      rw [List.getElem?_append_left (by omega), t4 r (by omega), if_neg (by omega), if_neg (by omega)]
  · have l := t6 g n' c' xs' e
    have lg : g < w.heap.size := own_lt l.own g rfl
    exact ⟨own_apart l.own o.ap (by simp), by rw [same g lg]; exact l.tag, l.len⟩
theorem ST.addA (h : ST w0 w av qv a0 q0 ka kq A Q BS LT) {p : Option Addr} {n c : Nat} {xs : List S} (o : Own w w' p n c xs) (hn : n ≤ 8) (hf : ∀ y ∈ xs, y.t < 2 ^ 64) : ST w0 w' av qv a0 q0 ka kq (A ++ [(.slice p n c, xs)]) Q BS LT := by
  obtain ⟨who, u, z, v, x, k, t1, t2, t3, t4, t5, t6⟩ := h.ex
  have hka := h.ka
  obtain ⟨who', k', same⟩ := k.addA (by omega) o hn hf
  refine ⟨⟨who', _, _, v, x, by simpa [Nat.add_assoc] using k', t1, fun j hj => ?_, fun r hr => ?_, t4, fun b hb => ⟨by rw [same _ (t5 b hb).2.2]; exact (t5 b hb).1, (t5 b hb).2.1, Nat.lt_of_lt_of_le (t5 b hb).2.2 o.ap.size⟩, fun g n' c' xs' e => ?_⟩, by simp; omega, h.kq⟩
  · rw [if_neg (by omega)]; exact t2 j hj
  · by_cases e : r = A.length
    · subst e; simp
    · simp at hr
      rw [List.getElem?_append_left (by omega), t3 r (by omega), if_neg (by omega), if_neg (by omega)]
  · have l := t6 g n' c' xs' e
    have lg : g < w.heap.size := own_lt l.own g rfl
    exact ⟨own_apart l.own o.ap (by simp), by rw [same g lg]; exact l.tag, l.len⟩
theorem ST.lend (h : ST w0 w av qv a0 q0 ka kq A Q BS LT) {g n c : Nat} {xs : List S} (o : Own w w' (some ⟨g, 0, none⟩) n c xs) : ST w0 w' av qv a0 q0 ka kq A Q BS (some (g, n, c, xs)) := by
  obtain ⟨who, u, z, v, x, k, t1, t2, t3, t4, t5, t6⟩ := h.ex
  have nw : ∀ b, (Value.slice (some ⟨g, 0, none⟩) n c).ownBlock = some b → who b = some 2 ∨ w.heap.size ≤ b := fun b hb => .inr (o.new b hb)
  obtain ⟨ext, same⟩ := tag_new nw (fun b s e => (k.old b s e).2)
  have old := tag_old nw k.old k.ap.size o.ap.size (own_lt o.own)
  refine ⟨⟨_, u, z, v, x, k.kept o.ap (by simp) ext old, t1, t2, t3, t4, fun b hb => ⟨by rw [same _ (t5 b hb).2.2]; exact (t5 b hb).1, (t5 b hb).2.1, Nat.lt_of_lt_of_le (t5 b hb).2.2 o.ap.size⟩, fun g' n' c' xs' e => ?_⟩, h.ka, h.kq⟩
  simp only [Option.some.injEq, Prod.mk.injEq] at e
  obtain ⟨rfl, rfl, rfl, rfl⟩ := e
  exact ⟨o.own, by simp [tagN, Value.ownBlock], o.len⟩
theorem ST.lt {g n c : Nat} {xs : List S} (h : ST w0 w av qv a0 q0 ka kq A Q BS (some (g, n, c, xs))) : w.ownsRow 0 52 3 (.slice (some ⟨g, 0, none⟩) n c) n (flat xs) ∧ n = xs.length ∧ ∀ b ∈ BS, b ≠ g := by
  obtain ⟨who, u, z, v, x, k, t1, t2, t3, t4, t5, t6⟩ := h.ex
  have l := t6 g n c xs rfl
  exact ⟨l.own, l.len, fun b hb e => by have := (t5 b hb).1; rw [e, l.tag] at this; simp at this⟩
theorem ST.lentW {g n c : Nat} {xs xs' : List S} (h : ST w0 w av qv a0 q0 ka kq A Q BS (some (g, n, c, xs))) (a : Apart [g] w w') (o : w'.ownsRow 0 52 3 (.slice (some ⟨g, 0, none⟩) n c) n (flat xs')) (hl : n = xs'.length) : ST w0 w' av qv a0 q0 ka kq A Q BS (some (g, n, c, xs')) := by
  obtain ⟨who, u, z, v, x, k, t1, t2, t3, t4, t5, t6⟩ := h.ex
  have l := t6 g n c xs rfl
  refine ⟨⟨who, u, z, v, x, k.kept a (fun b hb => by simp at hb; subst hb; exact ⟨.inr l.tag, (k.old _ _ l.tag).1⟩) (fun _ _ e => e) (fun b t e => ⟨(k.old b t e).1, Nat.lt_of_lt_of_le (k.old b t e).2 a.size⟩), t1, t2, t3, t4, fun b hb => ⟨(t5 b hb).1, (t5 b hb).2.1, Nat.lt_of_lt_of_le (t5 b hb).2.2 a.size⟩, fun g' n' c' xs'' e => ?_⟩, h.ka, h.kq⟩
  simp only [Option.some.injEq, Prod.mk.injEq] at e
  obtain ⟨rfl, rfl, rfl, rfl⟩ := e
  exact ⟨o, l.tag, hl⟩
/-- an answer of this round -/
theorem ST.ans (h : ST w0 w av qv a0 q0 ka kq A Q BS LT) {r : Nat} {v : Value} {xs : List S} (hr : A[r]? = some (v, xs)) : w.ownsRow 0 52 3 v xs.length (flat xs) ∧ xs.length ≤ 8 ∧ (∀ y ∈ xs, y.t < 2 ^ 64) ∧ ∀ b ∈ BS, v.ownBlock ≠ some b := by
  obtain ⟨who, u, z, v', x, k, t1, t2, t3, t4, t5, t6⟩ := h.ex
  have hl : r < A.length := (List.getElem?_eq_some_iff.1 hr).1
  have e := t3 r hl
  rw [hr] at e
  simp only [Option.some.injEq, Prod.mk.injEq] at e
  obtain ⟨rfl, rfl⟩ := e
  have an := k.all (a0 + r) (by omega)
  exact ⟨an.own, an.len, an.fit, fun b hb e => by have := (t5 b hb).1; rw [an.tag b e] at this; simp at this⟩
theorem ST.mark (h : ST w0 w av qv a0 q0 ka kq A Q BS LT) {r : Nat} {v : Value} {xs xs' : List S} (hr : A[r]? = some (v, xs)) (a : Apart v.ownBlock.toList w w') (o : w'.ownsRow 0 52 3 v xs'.length (flat xs')) (hl8 : xs'.length ≤ 8) (hf : ∀ y ∈ xs', y.t < 2 ^ 64) : ST w0 w' av qv a0 q0 ka kq (A.set r (v, xs')) Q BS LT := by
  obtain ⟨who, u, z, v', x, k, t1, t2, t3, t4, t5, t6⟩ := h.ex
  have hl : r < A.length := (List.getElem?_eq_some_iff.1 hr).1
  have e := t3 r hl
  rw [hr] at e
  simp only [Option.some.injEq, Prod.mk.injEq] at e
  obtain ⟨rfl, rfl⟩ := e
  have an := k.all (a0 + r) (by omega)
  have tg : ∀ b ∈ (u (a0 + r)).ownBlock.toList, who b = some (2 * (a0 + r) + 4) := fun b hb => an.tag b (by simpa using hb)
  have k' := k.updA (a0 + r) (by omega) a xs' ⟨o, an.tag, hl8, hf⟩
  refine ⟨⟨who, u, _, v', x, by simpa using k', t1, fun j hj => ?_, fun r' hr' => ?_, t4, fun b hb => ⟨(t5 b hb).1, (t5 b hb).2.1, Nat.lt_of_lt_of_le (t5 b hb).2.2 a.size⟩, fun g n c xs e => ?_⟩, by simpa using h.ka, h.kq⟩
  · rw [if_neg (by omega)]; exact t2 j hj
  · simp at hr'
    by_cases e : r' = r
    · subst e; simp [hl]
    · rw [List.getElem?_set_ne (fun e2 => e e2.symm), t3 r' hr', if_neg (by omega)]
  · have l := t6 g n c xs e
    exact ⟨own_apart l.own a (fun b hb m => by simp [Value.ownBlock] at hb; subst hb; have := tg _ m; rw [l.tag] at this; simp at this; try omega), l.tag, l.len⟩
theorem range_app (v : Nat → Value) (n m : Nat) : (List.range (n + m)).map v = (List.range n).map v ++ (List.range m).map (fun j => v (n + j)) := by
  rw [List.range_add, List.map_append, List.map_map]
  rfl
set_option maxRecDepth 100000 in
theorem info22 : (Tryd.prog.info? 22).map (fun i => (i.zero, i.size, i.bytes)) = some (some (.slice none 0 0), 1, 24) := by kernel_rfl
set_option maxRecDepth 100000 in
theorem info55 : (Tryd.prog.info? 55).map (fun i => (i.zero, i.size, i.bytes)) = some (some (.agg #[.slice none 0 0, .int .i64 0, .int .i64 0, .int .u64 0]), 4, 48) := by kernel_rfl
/-- quiet = append(quiet, ..) -/
theorem ST.growQ (h : ST w0 w av qv a0 q0 ka 0 A Q BS LT) (ty : TypeId) (hQ : 0 < Q.length) (ad : Addr) (c : Nat) (hnews : ∀ r, r < Q.length → ∃ (v : Value) (x : List S), Q[r]? = some (v, x) ∧ w.cell? (ad.add r) = some v) (hone : ∀ (r : Nat) (v : Value) (x : List S), Q[r]? = some (v, x) → v.oneCell' = true) (hb : q0 + Q.length ≤ 1000000) :
    ∃ qv' w', (Builtin.append_ #[46, 46] ty #[qv, .slice (some ad) Q.length c]).run Tryd.prog w = .ok qv' w' ∧ ST w0 w' av qv' a0 q0 ka Q.length A Q BS LT ∧ (∀ b ∈ BS, w'.heap[b]? = w.heap[b]?) := by
  obtain ⟨who, u, z, v, x, k, t1, t2, t3, t4, t5, t6⟩ := h.ex
  obtain ⟨i0, hi, hz0, hz1, hz2⟩ := info_parts info22
  obtain ⟨v', w', hrun, r1, r2, r3⟩ := run_append2 w 46 ty 22 i0 _ 1 24 Tryd.underlying46 hi hz0 hz1 hz2 rfl (by decide) qv q0 ((List.range q0).map v) (by simpa using k.rowQ) ad Q.length c ((List.range Q.length).map (fun j => v (q0 + j))) hQ (by simp)
    (by
      intro j uu hj
      by_cases hjl : j < Q.length
      · obtain ⟨vv, xx, e1, e2⟩ := hnews j hjl
        rw [t4 j hjl] at e1
        simp only [Option.some.injEq, Prod.mk.injEq] at e1
        simp [hjl] at hj
        rw [← hj, e1.1]; exact e2
      · simp [hjl] at hj)
    (by
      intro uu huu
      simp only [List.mem_map, List.mem_range] at huu
      obtain ⟨j, hj, rfl⟩ := huu
      exact hone j _ _ (t4 j hj)) (by unfold maxLen; omega) (by omega)
  rw [← range_app] at r1
  have aw := apart_grown r2
  obtain ⟨who', k', same⟩ := KW.growQ (m := Q.length) (by simpa using k) r1 aw r3
  have tg : ∀ b ∈ qv.ownBlock.toList, who b = some 1 := fun b hb => k.tQ b (by simpa using hb)
  refine ⟨v', w', hrun, ⟨⟨who', u, z, v, x, k', t1, t2, t3, t4, fun b hb => ⟨by rw [same _ (t5 b hb).2.2]; exact (t5 b hb).1, (t5 b hb).2.1, Nat.lt_of_lt_of_le (t5 b hb).2.2 aw.size⟩, fun g n c xs e => ?_⟩, h.ka, Nat.le_refl _⟩, fun b hb => aw.block b (t5 b hb).2.2 (fun m => by have := (t5 b hb).1; rw [tg b m] at this; simp at this)⟩
  have l := t6 g n c xs e
  have lg : g < w.heap.size := own_lt l.own g rfl
  exact ⟨own_apart l.own aw (fun b hb m => by simp [Value.ownBlock] at hb; subst hb; have := tg _ m; rw [l.tag] at this; simp at this), by rw [same g lg]; exact l.tag, l.len⟩
/-- all = append(all, held{..}) -/
theorem ST.growA (h : ST w0 w av qv a0 q0 ka kq A Q BS LT) (ty : TypeId) {vv : Value} {xx : List S} (hr : A[ka]? = some (vv, xx)) (hv1 : vv.oneCell' = true) (ad : Addr) (c : Nat) (h0 : w.cell? (ad.add 0) = some vv) (h1 : w.cell? (ad.add 1) = some (.int .i64 (mrk (10 + (a0 + ka))).n)) (h2 : w.cell? (ad.add 2) = some (.int .i64 (mrk (10 + (a0 + ka))).b)) (h3 : w.cell? (ad.add 3) = some (.int .u64 ((mrk (10 + (a0 + ka))).t : Int))) (hb : a0 + ka ≤ 1000000) :
    ∃ av' w', (Builtin.append_ #[45, 45] ty #[av, .slice (some ad) 1 c]).run Tryd.prog w = .ok av' w' ∧ ST w0 w' av' qv a0 q0 (ka + 1) kq A Q BS LT ∧ (∀ b ∈ BS, w'.heap[b]? = w.heap[b]?) := by
  obtain ⟨who, u, z, v, x, k, t1, t2, t3, t4, t5, t6⟩ := h.ex
  have hl : ka < A.length := (List.getElem?_eq_some_iff.1 hr).1
  have e := t3 ka hl
  rw [hr] at e
  simp only [Option.some.injEq, Prod.mk.injEq] at e
  obtain ⟨rfl, rfl⟩ := e
  obtain ⟨i0, hi, hz0, hz1, hz2⟩ := info_parts info55
  obtain ⟨v', w', hrun, r1, r2, r3⟩ := run_append2 w 45 ty 55 i0 _ 4 48 Tryd.underlying45 hi hz0 hz1 hz2 rfl (by decide) av (a0 + ka) (flatH (a0 + ka) u) k.rowA ad 1 c [u (a0 + ka), .int .i64 (mrk (10 + (a0 + ka))).n, .int .i64 (mrk (10 + (a0 + ka))).b, .int .u64 ((mrk (10 + (a0 + ka))).t : Int)] (by decide) rfl
    (by
      intro j uu hj
      match j, hj with
      | 0, hj => simp at hj; subst hj; exact h0
      | 1, hj => simp at hj; subst hj; exact h1
      | 2, hj => simp at hj; subst hj; exact h2
      | 3, hj => simp at hj; subst hj; exact h3)
    (by intro uu huu; simp at huu; rcases huu with rfl | rfl | rfl | rfl <;> first | exact hv1 | rfl) (by unfold maxLen; omega) (by omega)
  rw [← flatH_succ] at r1
  have aw := apart_grown r2
  obtain ⟨who', k', same⟩ := k.growA (m := 1) r1 aw r3
  have tg : ∀ b ∈ av.ownBlock.toList, who b = some 0 := fun b hb => k.tA b (by simpa using hb)
  refine ⟨v', w', hrun, ⟨⟨who', u, z, v, x, k', t1, t2, t3, t4, fun b hb => ⟨by rw [same _ (t5 b hb).2.2]; exact (t5 b hb).1, (t5 b hb).2.1, Nat.lt_of_lt_of_le (t5 b hb).2.2 aw.size⟩, fun g n c xs e => ?_⟩, by omega, h.kq⟩, fun b hb => aw.block b (t5 b hb).2.2 (fun m => by have := (t5 b hb).1; rw [tg b m] at this; simp at this)⟩
  have l := t6 g n c xs e
  have lg : g < w.heap.size := own_lt l.own g rfl
  exact ⟨own_apart l.own aw (fun b hb m => by simp [Value.ownBlock] at hb; subst hb; have := tg _ m; rw [l.tag] at this; simp at this), by rw [same g lg]; exact l.tag, l.len⟩
/-- the round is over -/
theorem ST.next (h : ST w0 w av qv a0 (2 * q0) A.length (2 * kq) A Q BS LT) (hQ : Q.length = 2 * kq) (hm : ∀ r v xs, A[r]? = some (v, xs) → ∃ n, xs = List.replicate n (mrk (10 + (a0 + r)))) (tw : ∀ a, a < kq → ∀ v1 x1 v2 x2, Q[2 * a]? = some (v1, x1) → Q[2 * a + 1]? = some (v2, x2) → x1 = x2) : ST w0 w av qv (a0 + A.length) (2 * (q0 + kq)) 0 0 [] [] [] none := by
  obtain ⟨who, u, z, v, x, k, t1, t2, t3, t4, t5, t6⟩ := h.ex
  rw [hQ] at k t4
  refine ⟨⟨who, u, z, v, x, by simpa [Nat.mul_add] using k, fun a ha => ?_, fun j hj => ?_, by simp, by simp, by simp, by simp⟩, Nat.le_refl _, Nat.le_refl _⟩
  · by_cases e : 2 * a + 1 < 2 * q0
    · exact t1 a e
    · have e1 := t4 (2 * (a - q0)) (by omega)
      have e2 := t4 (2 * (a - q0) + 1) (by omega)
      have := tw (a - q0) (by omega) _ _ _ _ e1 e2
      rw [show 2 * q0 + 2 * (a - q0) = 2 * a by omega, show 2 * q0 + (2 * (a - q0) + 1) = 2 * a + 1 by omega] at this
      exact this
  · by_cases e : j < a0
    · exact t2 j e
    · have e1 := t3 (j - a0) (by omega)
      obtain ⟨n, hn⟩ := hm (j - a0) _ _ e1
      rw [show a0 + (j - a0) = j by omega] at hn
      exact ⟨n, hn⟩
/-- what all holds -/
theorem ST.held (h : ST w0 w av qv a0 q0 0 0 [] [] BS LT) : ∃ p c, av = .slice p a0 c ∧ (0 < a0 → ∃ G, p = some ⟨G, 0, none⟩ ∧ ∀ j, j < a0 → ∃ pj nj cj, w.cell? ⟨G, j * 4, none⟩ = some (.slice pj nj cj) ∧ w.cell? ⟨G, j * 4 + 1, none⟩ = some (.int .i64 (mrk (10 + j)).n) ∧ w.cell? ⟨G, j * 4 + 2, none⟩ = some (.int .i64 (mrk (10 + j)).b) ∧ w.cell? ⟨G, j * 4 + 3, none⟩ = some (.int .u64 ((mrk (10 + j)).t : Int)) ∧ L w pj nj (List.replicate nj (mrk (10 + j)))) := by
  obtain ⟨who, u, z, v, x, k, t1, t2, t3, t4, t5, t6⟩ := h.ex
  have ra := k.rowA
  simp only [Nat.add_zero] at ra
  obtain ⟨p, c, rfl⟩ := own_shape ra
  refine ⟨p, c, rfl, fun h0 => ?_⟩
  obtain ⟨G, rfl⟩ := own_some ra h0
  refine ⟨G, rfl, fun j hj => ?_⟩
  obtain ⟨f0, f1, f2, f3⟩ := flatH_get u a0 j hj
  have an := k.all j (by simp; omega)
  obtain ⟨n, hn⟩ := t2 j hj
  rw [hn] at an
  obtain ⟨pj, cj, hv⟩ := own_shape an.own
  rw [List.length_replicate] at hv
  have c0 := ra.cells rfl _ _ f0
  have c1 := ra.cells rfl _ _ f1
  have c2 := ra.cells rfl _ _ f2
  have c3 := ra.cells rfl _ _ f3
  rw [Addr.add_lit] at c0 c1 c2 c3
  simp only [Nat.zero_add] at c0 c1 c2 c3
  rw [hv] at c0 an
  exact ⟨pj, n, cj, c0, c1, c2, c3, an.L (by simp)⟩
theorem ST.quiet (h : ST w0 w av qv a0 q0 0 0 [] [] BS LT) : ∃ who v x, QW w0 w who qv q0 v x ∧ ∀ a, 2 * a + 1 < q0 → x (2 * a) = x (2 * a + 1) := by
  obtain ⟨who, u, z, v, x, k, t1, t2, t3, t4, t5, t6⟩ := h.ex
  exact ⟨who, v, x, ⟨by simpa using k.rowQ, k.tQ, fun j hj => k.quiet j (by simp; exact hj), k.old, k.ap⟩, t1⟩
theorem ST.start (w0 w : World) (a : Apart [] w0 w) : ST w0 w (.slice none 0 0) (.slice none 0 0) 0 0 0 0 [] [] [] none := by
  refine ⟨⟨fun _ => none, fun _ => .slice none 0 0, fun _ => [], fun _ => .slice none 0 0, fun _ => [], ⟨World.ownsRow_nil _ _ _ _, by simp [Value.ownBlock], by simp, World.ownsRow_nil _ _ _ _, by simp [Value.ownBlock], by simp, by simp, a⟩, by simp, by simp, by simp, by simp, by simp, by simp⟩, Nat.le_refl _, Nat.le_refl _⟩
end Go.Proofs.YtdggkofihppcmaaDoor.ds
