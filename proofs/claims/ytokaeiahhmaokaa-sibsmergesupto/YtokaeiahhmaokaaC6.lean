import Derived.Test.YtokaeiahhmaokaaC5
import Derived.Test.YtokaeiahhmaokaaC2g
namespace Go.Proofs.Ytokaeiahhmaokaa.ds
open Go.ChangeShapes Go.WideShapes Go.ChangeAt Go.RowKit Go.Sort
set_option linter.unusedVariables false
set_option linter.unusedSimpArgs false
theorem LI.start (w : World) (rs : List Wr) : LI w (w.alloc (.cells #[.slice none 0 0, .slice none 0 0, .slice none 0 0] 58)) w.heap.size ⟨none, 0, 0⟩ ⟨none, 0, 0⟩ ⟨none, 0, 0⟩ [] [] [] rs 0 := by
  have a : Apart [] w (w.alloc (.cells #[.slice none 0 0, .slice none 0 0, .slice none 0 0] 58)) := (Apart.refl [] w).alloc _
  have nw : ∀ e size, Nw w (w.alloc (.cells #[.slice none 0 0, .slice none 0 0, .slice none 0 0] 58)) e size ⟨none, 0, 0⟩ [] := fun e size => ⟨World.ownsRow_nil _ _ _ _, by simp [Sl.v, Value.ownBlock], a⟩
  exact ⟨⟨heap_alloc_new w _, Nat.le_refl _, nw _ _, nw _ _, nw _ _, a⟩, rfl, rfl, rfl, rfl, rfl, rfl, fun j hj => absurd hj (by omega), fun j hj => absurd hj (by omega), fun j hj => absurd hj (by omega), fun j m _ hj => absurd hj (by omega), fun j m _ hj => absurd hj (by omega)⟩
/-- all that a round of lend makes -/
structure Rnd (w0 wr : World) (LB : Nat) (s vv xx : Sl) (fs : List E) (vs xs : List Sl) (rs : List Wr) (i : Nat) (e : E) (s1 s2 s3 s4 s5 s6 s9 : Sl) (w1 w2 w3 w4 w5 w6 w9 w10 : World) : Prop where
  r1 : (Builtin.append_ #[25, 25] 25 #[.slice none 0 0, e.v.v]).run Try.prog wr = .ok s1.v w1
  r2 : (Builtin.append_ #[25, 25] 25 #[s1.v, .slice (some ⟨w1.heap.size, 0, none⟩) 2 2]).run Try.prog (w1.alloc (.cells #[.int .u8 7, .int .u8 8] 5)) = .ok s2.v w2
  r3 : (Builtin.append_ #[26, 26] 26 #[.slice none 0 0, e.x.v]).run Try.prog w2 = .ok s3.v w3
  r4 : (Builtin.append_ #[26, 26] 26 #[s3.v, .slice (some ⟨w3.heap.size, 0, none⟩) 2 2]).run Try.prog (w3.alloc (.cells #[.int .i64 77, .int .i64 0, .int .u64 0, .int .i64 78, .int .i64 0, .int .u64 0] 38)) = .ok s4.v w4
  r5 : (Builtin.append_ #[56, 56] 56 #[vv.v, .slice (some ⟨w4.heap.size, 0, none⟩) 1 1]).run Try.prog (w4.alloc (.cells #[s2.v] 25)) = .ok s5.v w5
  r6 : (Builtin.append_ #[29, 29] 29 #[xx.v, .slice (some ⟨(w5.setCell ⟨LB, 1, none⟩ s5.v).heap.size, 0, none⟩) 1 1]).run Try.prog ((w5.setCell ⟨LB, 1, none⟩ s5.v).alloc (.cells #[s4.v] 26)) = .ok s6.v w6
  e9 : w9 = (w6.setCell ⟨LB, 2, none⟩ s6.v).alloc (boxE (lentE e s2 s4))
  r9 : (Builtin.append_ #[34, 34] 34 #[s.v, .slice (some ⟨w9.drew.heap.size, 0, none⟩) 1 1]).run Try.prog (w9.drew.alloc (boxE (lentE e s2 s4))) = .ok s9.v w10
  a2 : Apart [] w0 w2
  a5 : Apart [] w0 w5
  a6 : Apart [] w0 w6
  b4 : w4.heap[LB]? = some (.cells #[s.v, vv.v, xx.v] 58 (0, 0))
  b5 : w5.heap[LB]? = some (.cells #[s.v, vv.v, xx.v] 58 (0, 0))
  b6 : w6.heap[LB]? = some (.cells #[s.v, s5.v, xx.v] 58 (0, 0))
  b9 : w9.heap[LB]? = some (.cells #[s.v, s5.v, s6.v] 58 (0, 0))
  b10 : w10.heap[LB]? = some (.cells #[s.v, s5.v, s6.v] 58 (0, 0))
  m2 : e.v.n ≤ s2.c
  m4 : e.x.n ≤ s4.c
  p2 : ∃ k, s2.p = some ⟨k, 0, none⟩
  p4 : ∃ k, s4.p = some ⟨k, 0, none⟩
  n2 : s2.n = e.v.n + 2
  n4 : s4.n = e.x.n + 2
  li : LI w0 (w10.setCell ⟨LB, 0, none⟩ s9.v) LB s9 s5 s6 (fs ++ [lentE e s2 s4]) (vs ++ [s2]) (xs ++ [s4]) rs (i + 1)
theorem LI.round {w0 wr : World} {LB : Nat} {s vv xx : Sl} {fs : List E} {vs xs : List Sl} {rs : List Wr} {i : Nat} (h : LI w0 wr LB s vv xx fs vs xs rs i) (hi : i ≤ 1500000) (e : E) (he : Reads w0 e (gR rs i)) :
    ∃ s1 s2 s3 s4 s5 s6 s9 w1 w2 w3 w4 w5 w6 w9 w10, Rnd w0 wr LB s vv xx fs vs xs rs i e s1 s2 s3 s4 s5 s6 s9 w1 w2 w3 w4 w5 w6 w9 w10 := by
  have hr := he.kept0 h.lr.ap
  obtain ⟨s1, w1, s2, w2, s3, w3, s4, w4, r1, r2, r3, r4, a1, a2, a3, a4, nV, nX, n2, n4, p2, p4, m2, m4⟩ := lent_parts wr e (gR rs i) hr
  have lr4 := h.lr.kept0 a4
  obtain ⟨s5, w5, r5, b5, a5, lr5, n5, k5⟩ := lr4.addV s2 (by rw [h.vvn]; omega)
  obtain ⟨s6, w6, r6, b6, a6, lr6, n6, k6⟩ := lr5.addX s4 (by rw [h.xxn]; omega)
  obtain ⟨w9, e9⟩ : ∃ w9, w9 = (w6.setCell ⟨LB, 2, none⟩ s6.v).alloc (boxE (lentE e s2 s4)) := ⟨_, rfl⟩
  have a9 : Apart [] (w6.setCell ⟨LB, 2, none⟩ s6.v) w9 := by
    rw [e9]
    exact (Apart.refl [] _).alloc _
  have lr9 := lr6.kept0 a9
  obtain ⟨s9, w10, r9, b10, a10, lr10, n10, k10⟩ := (lr6.kept0 a9.drew).addE (lentE e s2 s4) (by rw [h.sn]; omega)
  have kt4 := KeepT.of0 a4
  have kt : KeepT w4 (w10.setCell ⟨LB, 0, none⟩ s9.v) := ((k5.trans k6).trans (KeepT.of0 a9.drew)).trans k10
  have hvl := hr.vl
  have hxl := hr.xl
  have one : One w4 (lentE e s2 s4) s2 s4 (gR rs i) :=
    ⟨hr.n, hr.c, hr.k, hr.d, hr.vb, by rw [hr.vn]; exact hr.vl, by rw [hr.x.len]; exact hr.xl, hr.x.fit, nV.own, by rw [hr.vn]; exact n2, p2, by show (⟨s2.p, e.v.n, s2.c⟩ : Sl) = _; rw [hr.vn], nX.own, by rw [hr.x.len]; exact n4, p4, by show (⟨s4.p, e.x.n, s4.c⟩ : Sl) = _; rw [hr.x.len]⟩
  have lr10' : LR w0 (w10.setCell ⟨LB, 0, none⟩ s9.v) LB s9 s5 s6 (flatE (fs ++ [lentE e s2 s4])) ((vs ++ [s2]).map Sl.v) ((xs ++ [s4]).map Sl.v) := by
    rw [← flatE_snoc, List.map_append, List.map_append]
    exact lr10
  have li := h.step (lentE e s2 s4) s2 s4 lr10' (kt4.trans kt) (one.keptK kt) nV.new nX.new (by rw [n10, h.sn]) (by rw [n5, h.vvn]) (by rw [n6, h.xxn])
  exact ⟨s1, s2, s3, s4, s5, s6, s9, w1, w2, w3, w4, w5, w6, w9, w10, ⟨r1, r2, r3, r4, r5, r6, e9, r9, h.lr.ap.trans a2, a5, a6, lr4.blk, b5, b6, lr9.blk, b10, by omega, by omega, p2, p4, n2, n4, li⟩⟩
end Go.Proofs.Ytokaeiahhmaokaa.ds
