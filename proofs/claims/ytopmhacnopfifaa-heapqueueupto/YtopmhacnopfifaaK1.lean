import Derived.Test.YtopmhacnopfifaaTT1
namespace Go.Proofs.Ytopmhacnopfifaa.tm
open Go.ChangeShapes Go.WideShapes Go.ChangeAt Go.RowKit
set_option linter.unusedVariables false
set_option linter.unusedSimpArgs false
/-- n alike -/
def alk (n : Nat) (e : E) : List E := List.replicate n e
theorem alk_add (n m : Nat) (e : E) : flat2 (alk n e) ++ flat2 (alk m e) = flat2 (alk (n + m) e) := by
  unfold flat2 alk
  rw [← List.flatMap_append, List.replicate_append_replicate]
theorem alk_len (n : Nat) (e : E) : (flat2 (alk n e)).length = n * 4 := by rw [flat2_length]; simp [alk]
theorem alk_get (n : Nat) (e : E) (k : Nat) (hk : k < n) : (flat2 (alk n e))[k * 4 + 3]? = some (.int .i64 e.c) := by
  have := (flat2_get (alk n e) k (by simp [alk]; exact hk)).2.2.2
  rw [this]
  have : g (alk n e) k = e := by rw [g_eq _ _ (by simp [alk]; exact hk)]; simp [alk]
  rw [this]
theorem alk_one (n : Nat) (e : E) : ∀ u ∈ flat2 (alk n e), u.oneCell' = true := by
  intro u hu
  simp [flat2, ec2] at hu
  obtain ⟨x, _, h | h | h | h⟩ := hu <;> subst h <;> rfl
/-- a list of which every one is e -/
structure Fl (w : World) (v : Value) (e : E) : Prop where
  ex : ∃ n b cap, v = .slice (some ⟨b, 0, none⟩) n cap ∧ w.ownsRow 0 46 4 v n (flat2 (alk n e)) ∧ n ≤ 3000000
theorem Fl.kept0 {w w' : World} {v : Value} {e : E} (h : Fl w v e) (a : Apart [] w w') : Fl w' v e := by
  obtain ⟨n, b, cap, hv, o, hn⟩ := h.ex
  exact ⟨n, b, cap, hv, own_apart o a (by simp), hn⟩
theorem own_keptQ {w0 w w' : World} {Q H : Nat} {row : List E} {n : Nat} {nw : Int} (q : Qu w0 w Q H row n nw) (k : KeptQ Q w w') {e size m : Nat} {v : Value} {xs : List Value} (h : w.ownsRow 0 e size v m xs) (h1 : e ≠ 102) (h2 : e ≠ 100) (h3 : e ≠ 96) : w'.ownsRow 0 e size v m xs := by
  obtain ⟨hl, ⟨hv, hz⟩ | ⟨g, cap, cur, rfl, hb, hr, hrest⟩⟩ := h
  · exact ⟨hl, .inl ⟨hv, hz⟩⟩
  · exact ⟨hl, .inr ⟨g, cap, cur, rfl, hb, k.keep q hr h1 h2 h3, hrest⟩⟩
theorem Fl.keptQ {w0 w w' : World} {Q H : Nat} {row : List E} {n : Nat} {nw : Int} (q : Qu w0 w Q H row n nw) (k : KeptQ Q w w') {v : Value} {e : E} (h : Fl w v e) : Fl w' v e := by
  obtain ⟨m, b, cap, hv, o, hn⟩ := h.ex
  exact ⟨m, b, cap, hv, own_keptQ q k o (by decide) (by decide) (by decide), hn⟩
theorem Fl.apart {w w' : World} {X : List Nat} {v : Value} {e : E} (h : Fl w v e) (a : Apart X w w') (hX : ∀ k ∈ X, v.ownBlock ≠ some k) : Fl w' v e := by
  obtain ⟨n, b, cap, hv, o, hn⟩ := h.ex
  exact ⟨n, b, cap, hv, own_apart o a (fun k hk m => hX k m hk), hn⟩
/-- the mark of the j-th list -/
def mk4 (j : Nat) : E := ⟨0, 0, 0, -1000 - ((j / 4 : Nat) : Int), 0⟩
/-- the lists that are held -/
structure Held (w : World) (hv : Value) (hs : List Value) : Prop where
  own : w.ownsRow 0 49 1 hv hs.length hs
  fl : ∀ j x, hs[j]? = some x → Fl w x (mk4 j)
theorem Held.kept0 {w w' : World} {hv : Value} {hs : List Value} (h : Held w hv hs) (a : Apart [] w w') : Held w' hv hs := ⟨own_apart h.own a (by simp), fun j x hj => (h.fl j x hj).kept0 a⟩
theorem Held.keptQ {w0 w w' : World} {Q H : Nat} {row : List E} {n : Nat} {nw : Int} (q : Qu w0 w Q H row n nw) (k : KeptQ Q w w') {hv : Value} {hs : List Value} (h : Held w hv hs) : Held w' hv hs :=
  ⟨own_keptQ q k h.own (by decide) (by decide) (by decide), fun j x hj => (h.fl j x hj).keptQ q k⟩
theorem Held.nil (w : World) : Held w (.slice none 0 0) [] := ⟨World.ownsRow_nil _ _ _ _, by simp⟩
theorem info46 : (Try.prog.info? 46).map (fun i => (i.zero, i.size, i.bytes)) = some (some (.agg #[.int .i64 0, .int .i64 0, .int .i64 0, .int .i64 0]), 4, 32) := by kernel_rfl
theorem info49 : (Try.prog.info? 49).map (fun i => (i.zero, i.size, i.bytes)) = some (some (.slice none 0 0), 1, 24) := by kernel_rfl
/-- append to a list that is full -/
theorem run_grow (w : World) (ty : TypeId) (e : E) (g n m : Nat) (h : w.ownsRow 0 46 4 (.slice (some ⟨g, 0, none⟩) n n) n (flat2 (alk n e))) (ad : Addr) (c : Nat) (hm : 0 < m) (hnews : ∀ j u, (flat2 (alk m e))[j]? = some u → w.cell? (ad.add j) = some u) (hn : n + m ≤ 3000000) :
    ∃ v' w', (Builtin.append_ #[49, 49] ty #[.slice (some ⟨g, 0, none⟩) n n, .slice (some ad) m c]).run Try.prog w = .ok v' w' ∧ Fl w' v' e ∧ Apart [] w w' := by
  obtain ⟨i0, hi, hz0, hz1, hz2⟩ := info_parts info46
  obtain ⟨v', w', hrun, r1, r2⟩ := run_append_arg_grows (P := Try.prog) w 49 ty 46 i0 _ 4 32 Try.underlying49 hi hz0 hz1 hz2 rfl (by decide) ⟨g, 0, none⟩ n n (flat2 (alk n e)) (alk_len n e) (fun j u hu => h.cells rfl j u hu) ad m c (flat2 (alk m e)) (alk_len m e) hnews (by omega) (by unfold maxLen; omega) (by omega)
  rw [alk_add] at r1
  refine ⟨v', w', hrun, ?_, ⟨r2.os, r2.tape, r2.output, r2.size, fun k hk _ => r2.block k hk (by simp)⟩⟩
  have r1' := own_base r1 (Nat.zero_le _)
  obtain ⟨_, ⟨_, hzz⟩ | ⟨g', cap', cur', rfl, _⟩⟩ := r1
  · omega
  · exact ⟨n + m, g', cap', rfl, r1', hn⟩
theorem step_grow {w : World} {ops : Array Oper} {o : Oper} {a : Act} {K : Act → World → Prop} {Q : Exit → Act → World → Prop} {X : Prop} (hgd : o.guard = none) (s x : Operand)
    (ho : o.op = .call { callee := .builtin .append, args := #[s, x], argTypes := #[49, 49] }) (e : E) (g n m : Nat) (hs : a.eval s = .slice (some ⟨g, 0, none⟩) n n) (h : w.ownsRow 0 46 4 (.slice (some ⟨g, 0, none⟩) n n) n (flat2 (alk n e))) (ad : Addr) (c : Nat) (hx : a.eval x = .slice (some ad) m c) (hm : 0 < m) (hnews : ∀ j u, (flat2 (alk m e))[j]? = some u → w.cell? (ad.add j) = some u) (hn : n + m ≤ 3000000)
    (hK : ∀ v' w', Fl w' v' e → Apart [] w w' → K (a.put o.dst v') w') : if Region.wanted o (yielded ops a.tmps) = true then Oper.wp Try.prog o a w K Q else X := by
  have hw : Region.wanted o (yielded ops a.tmps) = true := by simp [Region.wanted, hgd]
  rw [if_pos hw]
  obtain ⟨v', w', hrun, r1, r2⟩ := run_grow w o.type e g n m h ad c hm hnews hn
  unfold Oper.wp
  simp [execOp, ho, resolve, invoke, builtin, hs, hx, hrun, Result.andThen]
  exact hK v' w' r1 r2
theorem new_cells (w : World) (cs : List Value) (t : TypeId) {W : World} (a : Apart [] (w.alloc (.cells cs.toArray t)) W) : ∀ j u, cs[j]? = some u → W.cell? (Addr.add ⟨w.heap.size, 0, none⟩ j) = some u := by
  intro j u hu
  have h1 := heap_alloc_new w (.cells cs.toArray t)
  have h2 := (a.block _ (lt_of_heap h1) (by simp)).trans h1
  have : (Addr.add ⟨w.heap.size, 0, none⟩ j) = ⟨w.heap.size, j, none⟩ := by simp [Addr.add]; omega
  rw [this, cell_of_row _ _ _ _ _ _ h2]
  simpa using hu
/-- four lists more are held -/
theorem step_hold {w : World} {ops : Array Oper} {o : Oper} {a : Act} {K : Act → World → Prop} {Q : Exit → Act → World → Prop} {X : Prop} (hgd : o.guard = none) (s x : Operand)
    (ho : o.op = .call { callee := .builtin .append, args := #[s, x], argTypes := #[63, 63] }) (hv : Value) (hs : List Value) (news : List Value) (hse : a.eval s = hv) (h : w.ownsRow 0 49 1 hv hs.length hs) (ad : Addr) (c : Nat) (hx : a.eval x = .slice (some ad) 4 c) (hl4 : news.length = 4) (hnews : ∀ j u, news[j]? = some u → w.cell? (ad.add j) = some u) (h1 : ∀ u ∈ news, u.oneCell' = true) (hn : hs.length ≤ 3000000)
    (hK : ∀ v' w', w'.ownsRow 0 49 1 v' (hs ++ news).length (hs ++ news) → w.grownBy w' hv.ownBlock → NewOr w hv v' → K (a.put o.dst v') w') : if Region.wanted o (yielded ops a.tmps) = true then Oper.wp Try.prog o a w K Q else X := by
  obtain ⟨i0, hi, hz0, hz1, hz2⟩ := info_parts info49
  refine step_append2 hgd s x 63 ho 49 i0 (.slice none 0 0) 1 24 Try.underlying63 hi hz0 hz1 hz2 rfl (by decide) hv hs.length hs hse h ad 4 c news hx (by decide) (by omega) hnews h1 (by unfold maxLen; omega) (by omega) ?_
  intro v' w' r1 r2 r3
  refine hK v' w' ?_ r2 r3
  rw [List.length_append, hl4]; exact r1
end Go.Proofs.Ytopmhacnopfifaa.tm
