import Derived.Test.YtopmhacnopfifaaNRem
namespace Go.Proofs.Ytopmhacnopfifaa.nm
open Go.ChangeShapes Go.WideShapes Go.ChangeAt Go.RowKit
set_option linter.unusedVariables false
section
variable {F : Value} {C : List (Nat × Int)} {R : E → E → Bool → Prop}
theorem At.bump {w : World} {H : Nat} {v : Value} {es : List E} {n : Nat} (h : At w H F C v es n) (hn : n < 4000000) : At (w.setCell ⟨H, 2, none⟩ (.int .i64 ((n : Int) + 1))) H F C v es (n + 1) ∧ Apart [H] w (w.setCell ⟨H, 2, none⟩ (.int .i64 ((n : Int) + 1))) := by
  have a2 : Apart [H] w (w.setCell ⟨H, 2, none⟩ (.int .i64 ((n : Int) + 1))) := (Apart.refl _ _).setCell (by simp) _
  refine ⟨⟨by rw [heap_setCell_same _ _ _ _ _ _ h.hh]; rfl, own_apart h.own a2 (fun k hk hm => ?_), fun b hb => (a2.block b.1 (lt_of_heap (h.hc b hb)) (fun m => h.neC b hb (by simp at m; simp [ids, m]))).trans (h.hc b hb), by omega, h.hl⟩, a2⟩
  simp at hm; subst hm; exact h.ne hk
structure PushPost (R : E → E → Bool → Prop) (F : Value) (C : List (Nat × Int)) (w w' : World) (H : Nat) (v : Value) (es : List E) (e : E) (n : Nat) : Prop where
  ex : ∃ v' cs, At w' H F C v' cs (n + 1) ∧ cs.Perm (es ++ [e]) ∧ (∀ A, Fits R A → Hp A es → Hp A cs) ∧ Apart (ids H v) w w' ∧ NewOr w v v'
set_option maxHeartbeats 1000000 in
theorem push_at (K : Kind F C R) (w : World) (H : Nat) (v : Value) (es : List E) (n : Nat) (h : At w H F C v es n) (a : ByteArray) (b : Sl) (hl : es.length < 4000000) (hn : n < 4000000) :
    Calls Try.prog 33 #[.pointer (some ⟨H, 0, none⟩), .agg #[.string a, .slice b.p b.n b.c]] w fun r w' => r = .returned (.tuple #[]) ∧ PushPost R F C w w' H v es ⟨a, b, n⟩ n := by
  have c2 := h.c2
  have hHs := lt_of_heap h.hh
  have aW := ((Apart.refl [] w).alloc (.cells #[.string a, .slice b.p b.n b.c] 72)).drewN 1
  have at1 := h.kept0 aW
  go_enter Try.func33, Try.ntmps33
  go_wp2_with fail
  go_region_with (first | (go_at_call 56; refine (put_at K ((w.alloc (.cells #[.string a, .slice b.p b.n b.c] 72)).drewN 1) H v es n at1 ⟨a, b, n⟩ hl).mono ?_; rintro r w2 ⟨rfl, ⟨v2, cs, at2, perm2, hp2, a2, nw2⟩⟩))
  all_goals
    have d2 := at2.c2
    have f2 := at2.fr 2
    have at3 := at2.bump hn
    have post : PushPost R F C w (w2.setCell ⟨H, 2, none⟩ (.int .i64 ((n : Int) + 1))) H v es ⟨a, b, n⟩ n :=
      ⟨v2, cs, at3.1, perm2, hp2, ((aW.mono (by simp)).trans a2).trans (at3.2.mono (by simp [ids])), nw2.sub aW.size⟩
    clear at3 at2 perm2 hp2 a2 nw2 c2 aW at1 h
    go_wp2
    go_end0
    exact ⟨rfl, post⟩
theorem len_at (w : World) (H : Nat) (v : Value) (es : List E) (n : Nat) (h : At w H F C v es n) : Calls Try.prog 41 #[.pointer (some ⟨H, 0, none⟩)] w fun r w' => r = .returned (.int .i64 es.length) ∧ w' = w := by
  obtain ⟨p, cap, hv⟩ := h.shape0
  have c1 := h.c1
  rw [hv] at c1
  clear hv h
  generalize es.length = N at *
  go_enter Try.func41, Try.ntmps41
  go_wp2
  go_ret
  exact ⟨rfl, rfl⟩
set_option maxRecDepth 100000 in
theorem eqlF (w : World) (k : Nat) (c : Array Value) : Sem.run Try.prog (binOp BinOp.eql 73 (Value.func (Fn.func k) #[] c) Value.nilFunc) w = .ok (.bool false) w := by
  first | rfl | (simp [binOp, Try.underlying73, go_sem]; done)
set_option maxRecDepth 100000 in
theorem eqlN (w : World) : Sem.run Try.prog (binOp BinOp.eql 73 Value.nilFunc Value.nilFunc) w = .ok (.bool true) w := by
  first | rfl | (simp [binOp, Try.underlying73, go_sem]; done)
/-- a new heap -/
theorem new_at (w : World) (k : Nat) (c : Array Value) : Calls Try.prog 27 #[.func (.func k) #[] c] w fun r w' => r = .returned (.pointer (some ⟨w.heap.size, 0, none⟩)) ∧ w' = w.alloc (.cells #[.func (.func k) #[] c, .slice none 0 0, .int .i64 0] 110) := by
  have q := eqlF w k c
  go_enter Try.func27, Try.ntmps27
  go_wp2
  go_ret
  exact ⟨rfl, rfl⟩
theorem new_nil (w : World) : Calls Try.prog 27 #[.nilFunc] w fun r w' => r = .returned (.pointer none) ∧ w' = w := by
  have q := eqlN w
  go_enter Try.func27, Try.ntmps27
  go_wp2
  go_ret
  exact ⟨rfl, rfl⟩
theorem At.new (w : World) (hC : ∀ b ∈ C, w.heap[b.1]? = some (.cells #[.int .u64 b.2] 141 (0, 0))) : At (w.alloc (.cells #[F, .slice none 0 0, .int .i64 0] 110)) w.heap.size F C (.slice none 0 0) [] 0 :=
  ⟨heap_alloc_new w _, World.ownsRow_nil _ _ _ _, fun b hb => by rw [Below.heap_alloc _ _ _ (lt_of_heap (hC b hb))]; exact hC b hb, by omega, by simp⟩
end
end Go.Proofs.Ytopmhacnopfifaa.nm
namespace Go.Proofs.Ytopmhacnopfifaa.nm
open Go.ChangeShapes Go.WideShapes Go.ChangeAt Go.RowKit
set_option linter.unusedVariables false
def zs (k : Nat) : List E := List.replicate k z
theorem set_zs (ps : List E) (e : E) (k j : Nat) (hp : ps.length = j) (hj : j < k) : (ps ++ zs (k - j)).set j e = (ps ++ [e]) ++ zs (k - (j + 1)) := by
  subst hp
  rw [show k - ps.length = (k - (ps.length + 1)) + 1 from by omega, zs, List.replicate_succ, List.set_append_right _ _ (Nat.le_refl _)]
  simp [zs]
def Srt (A : E → E → Bool) (ps rs : List E) : Prop := ps.Pairwise (fun x y => A y x = false) ∧ ∀ x ∈ ps, ∀ y ∈ rs, A y x = false
section
variable {F : Value} {C : List (Nat × Int)} {R : E → E → Bool → Prop}
theorem mem_g {es : List E} {x : E} (h : x ∈ es) : ∃ k, k < es.length ∧ g es k = x := by
  obtain ⟨k, hk, e⟩ := List.getElem_of_mem h
  exact ⟨k, hk, by rw [g_eq _ _ hk, e]⟩
theorem Srt.step {A : E → E → Bool} (o : Ord A) {ps rs cs : List E} (h : Srt A ps rs) (nm : Hp A rs) (h0 : 0 < rs.length) (perm : (g rs 0 :: cs).Perm rs) : Srt A (ps ++ [g rs 0]) cs := by
  have hm : g rs 0 ∈ rs := perm.subset (by simp)
  refine ⟨List.pairwise_append.2 ⟨h.1, by simp, fun x hx y hy => by simp at hy; subst hy; exact h.2 x hx _ hm⟩, fun x hx y hy => ?_⟩
  have hy' : y ∈ rs := perm.subset (by simp [hy])
  simp at hx
  rcases hx with hx | rfl
  · exact h.2 x hx y hy'
  · obtain ⟨k, hk, rfl⟩ := mem_g hy'
    exact nm.min o k hk
theorem remove0 (K : Kind F C R) (w : World) (H G cap M : Nat) (es : List E) (n : Nat) (h : At w H F C (.slice (some ⟨G, 0, none⟩) (M + 1) cap) es n) (hM : es.length = M + 1) :
    Calls Try.prog 60 #[.pointer (some ⟨H, 0, none⟩), .int .i64 0] w fun r w' => r = .returned (.agg #[.string (g es 0).r, .slice (g es 0).m.p (g es 0).m.n (g es 0).m.c, .int .i64 (g es 0).a]) ∧ RemPost R F C w w' H G cap M es 0 n :=
  remove_at K w H G cap M es n 0 h hM (Nat.zero_le _)
end
end Go.Proofs.Ytopmhacnopfifaa.nm
