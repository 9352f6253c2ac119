import Derived.Test.YtopmhacnopfifaaQPush
namespace Go.Proofs.Ytopmhacnopfifaa.tm
open Go.ChangeShapes Go.WideShapes Go.ChangeAt Go.RowKit
set_option linter.unusedVariables false
def zs (k : Nat) : List E := List.replicate k z
theorem madeZ (n : Nat) : madeCells #[.int .i64 0, .int .i64 0, .int .i64 0, .int .i64 0, .int .i64 0] (n * 5) = (flat (zs n)).toArray := by
  apply Array.ext
  · simp [madeCells, flat_length, zs]
  · intro i h1 h2
    have hi : i < n * 5 := by simpa [madeCells] using h1
    have h3 : i % 5 = 0 ∨ i % 5 = 1 ∨ i % 5 = 2 ∨ i % 5 = 3 ∨ i % 5 = 4 := by omega
    have key := flat_get (zs n) (i / 5) (by simp [zs]; omega)
    have hz : tm.g (zs n) (i / 5) = z := by simp [tm.g, zs, List.getD_eq_getElem?_getD, List.getElem?_replicate]; split <;> rfl
    rw [hz] at key
    have e1 : (madeCells #[Value.int .i64 0, .int .i64 0, .int .i64 0, .int .i64 0, .int .i64 0] (n * 5))[i] = .int .i64 0 := by
      rcases h3 with h | h | h | h | h <;> simp [madeCells, h]
    rw [e1]
    have e2 : (flat (zs n))[i]? = some (.int .i64 0) := by
      rcases h3 with h | h | h | h | h
      · rw [show i = i / 5 * 5 from by omega]; exact key.1
      · rw [show i = i / 5 * 5 + 1 from by omega]; exact key.2.1
      · rw [show i = i / 5 * 5 + 2 from by omega]; exact key.2.2.1
      · rw [show i = i / 5 * 5 + 3 from by omega]; exact key.2.2.2.1
      · rw [show i = i / 5 * 5 + 4 from by omega]; exact key.2.2.2.2
    have h2' : i < (flat (zs n)).length := by simpa using h2
    rw [List.getElem?_eq_getElem h2'] at e2
    simpa using (Option.some.inj e2).symm
theorem make_es (w : World) (n : Nat) (h2 : n ≤ 4000000) : Sem.run Try.prog (Instr.makeSlice 98 (Value.int .i64 n) (Value.int .i64 n)) w = .ok (.slice (some ⟨w.heap.size, 0, none⟩) n n) (w.alloc (.cells (flat (zs n)).toArray 100)) := by
  obtain ⟨i, hi, hz0, hz1, hz2⟩ := info_parts info51
  have := run_make (P := Try.prog) w 98 100 i _ Try.underlying98 hi hz0 .i64 .i64 n n (by omega) (by omega) (by rw [hz2]; omega) (by omega)
  rw [this, hz1]
  simp only [Int.toNat_natCast]
  rw [show (Value.agg #[Value.int .i64 0, .int .i64 0, .int .i64 0, .int .i64 0, .int .i64 0]).cells = #[.int .i64 0, .int .i64 0, .int .i64 0, .int .i64 0, .int .i64 0] from rfl, madeZ]
def Srt (A : E → E → Bool) (ps rs : List E) : Prop := ps.Pairwise (fun x y => A y x = false) ∧ ∀ x ∈ ps, ∀ y ∈ rs, A y x = false
section
variable {F : Value} {C : List (Nat × Int)} {R : E → E → Bool → Prop}
theorem mem_g {es : List E} {x : E} (h : x ∈ es) : ∃ k, k < es.length ∧ g es k = x := by
  obtain ⟨k, hk, e⟩ := List.getElem_of_mem h
  exact ⟨k, hk, by rw [g_eq _ _ hk, e]⟩
theorem Srt.step {A : E → E → Bool} (o : Ord A) {ps rs cs : List E} (h : Srt A ps rs) (hp : Hp A rs) (h0 : 0 < rs.length) (perm : (g rs 0 :: cs).Perm rs) : Srt A (ps ++ [g rs 0]) cs := by
  have hm : g rs 0 ∈ rs := perm.subset (by simp)
  refine ⟨List.pairwise_append.2 ⟨h.1, by simp, fun x hx y hy => by simp at hy; subst hy; exact h.2 x hx _ hm⟩, fun x hx y hy => ?_⟩
  have hy' : y ∈ rs := perm.subset (by simp [hy])
  simp at hx
  rcases hx with hx | rfl
  · exact h.2 x hx y hy'
  · obtain ⟨k, hk, rfl⟩ := mem_g hy'
    exact hp.min o k hk
structure T1 (R : E → E → Bool → Prop) (F : Value) (C : List (Nat × Int)) (w wr : World) (H G B cap N k n : Nat) (es : List E) (j : Nat) (ps rs : List E) : Prop where
  hj : j ≤ k
  pl : ps.length = j
  rl : rs.length = N - j
  at_ : At wr H F C (.slice (some ⟨G, 0, none⟩) (N - j) cap) rs n
  own : wr.ownsRow 0 100 5 (.slice (some ⟨B, 0, none⟩) k k) k (flat (ps ++ zs (k - j)))
  perm : (ps ++ rs).Perm es
  srt : ∀ A, Fits R A → Hp A es → Hp A rs ∧ Srt A ps rs
  ap : Apart [H, G] w wr
  hR : wr.heap[w.heap.size]? = some (.cells #[.int .i64 0, .int .i64 0, .int .i64 0, .int .i64 0] 46 (0, 0))
theorem set_zs (ps : List E) (e : E) (k j : Nat) (hp : ps.length = j) (hj : j < k) : (ps ++ zs (k - j)).set j e = (ps ++ [e]) ++ zs (k - (j + 1)) := by
  subst hp
  rw [show k - ps.length = (k - (ps.length + 1)) + 1 from by omega, zs, List.replicate_succ, List.set_append_right _ _ (Nat.le_refl _)]
  simp [zs]
/-- one more taken off -/
theorem T1.step {w wr w2 : World} {H G B cap N k n : Nat} {es : List E} {j : Nat} {ps rs cs : List E} (h : T1 R F C w wr H G B cap N k n es j ps rs) (hk : k < N) (hjk : j < k) (hH : H < w.heap.size) (hG : G < w.heap.size) (hB : w.heap.size < B)
    (hcl : cs.length = N - (j + 1)) (at2 : At w2 H F C (.slice (some ⟨G, 0, none⟩) (N - (j + 1)) cap) cs n) (perm2 : (g rs 0 :: cs).Perm rs) (hp2 : ∀ A, Fits R A → Hp A rs → Hp A cs) (a2 : Apart [H, G] wr w2) :
    T1 R F C w (put3 w2 B j (g rs 0)) H G B cap N k n es (j + 1) (ps ++ [g rs 0]) cs := by
  have ap3 := put3_apart w2 B j (g rs 0)
  have own2 := own_apart h.own a2 (fun q hq hm => by simp [Value.ownBlock] at hq hm; omega)
  have own3 := ((((own2.stored (j * 5) (.int .i64 (g rs 0).r)).1.stored (j * 5 + 1) (.int .i64 (g rs 0).m)).1.stored (j * 5 + 2) (.int .i64 (g rs 0).k)).1.stored (j * 5 + 3) (.int .i64 (g rs 0).c)).1.stored (j * 5 + 4) (.int .i64 (g rs 0).a)
  refine ⟨by omega, by simp [h.pl], hcl, at2.kept ap3 ?_, ?_, ?_, fun A f hp => ?_, ?_, ?_⟩
  · intro q hq
    simp at hq
    subst hq
    refine ⟨by omega, by simp [Value.ownBlock]; omega, fun b hb => ?_⟩
    intro e
    have h1 := at2.hc b hb
    obtain ⟨cur, h2⟩ := own_typ own2 (k := q) rfl
    rw [e, h2] at h1; simp at h1
  · have := own3.1
    rw [← flat_set, set_zs ps _ k j h.pl hjk] at this
    exact this
  · refine List.Perm.trans ?_ h.perm
    rw [List.append_assoc]
    exact List.Perm.append_left ps perm2
  · obtain ⟨h1, h2⟩ := h.srt A f hp
    exact ⟨hp2 A f h1, h2.step f.1 h1 (by rw [h.rl]; omega) perm2⟩
  · exact (h.ap.trans a2).trans' ap3 (by intro y hy; simp at hy; subst hy; right; omega)
  · exact (ap3.block _ (lt_of_heap ((a2.block _ (lt_of_heap h.hR) (by simp; omega)).trans h.hR)) (by simp; omega)).trans ((a2.block _ (lt_of_heap h.hR) (by simp; omega)).trans h.hR)
theorem remove0 (K : Kind F C R) (w : World) (H G cap M : Nat) (es : List E) (n : Nat) (h : At w H F C (.slice (some ⟨G, 0, none⟩) (M + 1) cap) es n) (hM : es.length = M + 1) :
    Calls Try.prog 50 #[.pointer (some ⟨H, 0, none⟩), .int .i64 0] w fun r w' => r = .returned (.agg #[.int .i64 (g es 0).r, .int .i64 (g es 0).m, .int .i64 (g es 0).k, .int .i64 (g es 0).c, .int .i64 (g es 0).a]) ∧ RemPost R F C w w' H G cap M es 0 n :=
  remove_at K w H G cap M es n 0 h hM (Nat.zero_le _)
theorem NewOr.trans {w w' : World} {a b c : Value} (h : NewOr w a b) (k : NewOr w' b c) (hs : w.heap.size ≤ w'.heap.size) : NewOr w a c := by
  rcases k with k | ⟨q, k, hq⟩
  · rcases h with h | ⟨p, h, hp⟩
    · exact .inl (k.trans h)
    · exact .inr ⟨p, k.trans h, hp⟩
  · exact .inr ⟨q, k, by omega⟩
/-- what a Take leaves -/
structure TakePost (R : E → E → Bool → Prop) (F : Value) (C : List (Nat × Int)) (w w' : World) (H : Nat) (v : Value) (es : List E) (k n : Nat) (e : E) : Prop where
  ex : ∃ v' ps rest cs, ps.length = k ∧ At w' H F C v' cs n ∧ cs.Perm (ps ++ rest) ∧ (ps ++ e :: rest).Perm es ∧ (∀ A, Fits R A → Hp A es → Hp A cs ∧ Srt A (ps ++ [e]) rest) ∧ Apart (ids H v) w w' ∧ NewOr w v v'
end
end Go.Proofs.Ytopmhacnopfifaa.tm
