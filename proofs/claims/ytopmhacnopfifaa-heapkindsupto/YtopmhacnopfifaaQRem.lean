import Derived.Test.YtopmhacnopfifaaQPut
import Derived.WalkSmall
import Derived.Laws.ResultCell
namespace Go.Proofs.Ytopmhacnopfifaa.tm
open Go.ChangeShapes Go.WideShapes Go.ChangeAt Go.RowKit
set_option linter.unusedVariables false
section
variable {F : Value} {C : List (Nat × Int)} {R : E → E → Bool → Prop}
theorem At.cutoff {w : World} {H G cap M : Nat} {es cs : List E} {x : E} {n : Nat} (h : At w H F C (.slice (some ⟨G, 0, none⟩) (M + 1) cap) es n) (he : es = cs ++ [x]) (hM : cs.length = M) :
    At (w.setCell ⟨H, 1, none⟩ (.slice (some ⟨G, 0, none⟩) M cap)) H F C (.slice (some ⟨G, 0, none⟩) M cap) cs n ∧ Apart [H] w (w.setCell ⟨H, 1, none⟩ (.slice (some ⟨G, 0, none⟩) M cap)) := by
  subst hM he
  have a2 : Apart [H] w (w.setCell ⟨H, 1, none⟩ (.slice (some ⟨G, 0, none⟩) cs.length cap)) := (Apart.refl _ _).setCell (by simp) _
  have hne : H ≠ G := fun e => h.ne (by simp [Value.ownBlock, e])
  have ho := h.own
  simp only [List.length_append, List.length_singleton] at ho
  rw [← flat_snoc] at ho
  have ho2 := ownsRow_pop (flat_length cs) ho
  refine ⟨⟨by rw [heap_setCell_same _ _ _ _ _ _ h.hh]; rfl, own_apart ho2 a2 (fun k hk hm => ?_), fun b hb => (a2.block b.1 (lt_of_heap (h.hc b hb)) (fun m => h.neC b hb (by simp at m; simp [ids, m]))).trans (h.hc b hb), h.hn, by have := h.hl; simp at this; omega⟩, a2⟩
  simp [Value.ownBlock] at hk hm
  omega
theorem size28 : (Try.prog.info? 46).map (·.size) = some 4 := by kernel_rfl
theorem results_ct {fn : Func} {p u : Tmp} (h : fn.results = #[.cell p 46, .tmp u]) (tmps : Array Value) (w : World) (g : Nat) (t : TypeId) (x y x2 x3 : Value) (fr : Nat × Nat)
    (hp : tmps.getD p undef = .pointer (some ⟨g, 0, none⟩)) (hg : w.heap[g]? = some (.cells #[x, y, x2, x3] t fr)) :
    (results fn tmps).run Try.prog w = .ok (.tuple #[.agg #[x, y, x2, x3], tmps.getD u undef]) w := by
  rw [results_cell_tmp h, hp]
  simp [asAddr, run_loadVar_row w g t 46 #[x, y, x2, x3] fr _ hg Try.underlying46 rfl size28]
theorem size51 : (Try.prog.info? 100).map (·.size) = some 5 := by kernel_rfl
/-- a block written over -/
theorem row5 {w : World} {g : Nat} {t : TypeId} {a b c d e : Value} (h : w.heap[g]? = some (.cells #[a, b, c, d, e] t (0, 0))) (x y u v z : Value) : (((((w.setCell ⟨g, 0, none⟩ x).setCell ⟨g, 1, none⟩ y).setCell ⟨g, 2, none⟩ u).setCell ⟨g, 3, none⟩ v).setCell ⟨g, 4, none⟩ z).heap[g]? = some (.cells #[x, y, u, v, z] t (0, 0)) := by
  have h1 := heap_setCell_same w g 0 _ t x h
  have h2 := heap_setCell_same _ g 1 _ t y h1
  have h3 := heap_setCell_same _ g 2 _ t u h2
  have h4 := heap_setCell_same _ g 3 _ t v h3
  have h5 := heap_setCell_same _ g 4 _ t z h4
  simpa using h5
theorem row4 {w : World} {g : Nat} {t : TypeId} {a b c d : Value} (h : w.heap[g]? = some (.cells #[a, b, c, d] t (0, 0))) (x y u v : Value) : ((((w.setCell ⟨g, 0, none⟩ x).setCell ⟨g, 1, none⟩ y).setCell ⟨g, 2, none⟩ u).setCell ⟨g, 3, none⟩ v).heap[g]? = some (.cells #[x, y, u, v] t (0, 0)) := by
  have h1 := heap_setCell_same w g 0 _ t x h
  have h2 := heap_setCell_same _ g 1 _ t y h1
  have h3 := heap_setCell_same _ g 2 _ t u h2
  have h4 := heap_setCell_same _ g 3 _ t v h3
  simpa using h4
theorem row3 {w : World} {g : Nat} {t : TypeId} {a b c : Value} (h : w.heap[g]? = some (.cells #[a, b, c] t (0, 0))) (x y u : Value) : (((w.setCell ⟨g, 0, none⟩ x).setCell ⟨g, 1, none⟩ y).setCell ⟨g, 2, none⟩ u).heap[g]? = some (.cells #[x, y, u] t (0, 0)) := by
  have h1 := heap_setCell_same w g 0 _ t x h
  have h2 := heap_setCell_same _ g 1 _ t y h1
  have h3 := heap_setCell_same _ g 2 _ t u h2
  simpa using h3
structure RemPost (R : E → E → Bool → Prop) (F : Value) (C : List (Nat × Int)) (w w' : World) (H G cap M : Nat) (es : List E) (i n : Nat) : Prop where
  ex : ∃ cs, cs.length = M ∧ At w' H F C (.slice (some ⟨G, 0, none⟩) M cap) cs n ∧ (g es i :: cs).Perm es ∧ (∀ A, Fits R A → Hp A es → Hp A cs) ∧ Apart [H, G] w w'
theorem cut_snoc (es : List E) (M i : Nat) (hM : es.length = M + 1) (hi : i ≤ M) (x : E) : (sw es i M).set M x = cut es i ++ [x] := by
  have hl : (sw es i M).length = M + 1 := by rw [sw_length, hM]
  unfold cut
  rw [hM]
  simp only [Nat.add_sub_cancel]
  rw [List.set_eq_take_append_cons_drop, if_pos (by omega), List.drop_eq_nil_of_le (by omega)]
set_option maxHeartbeats 1000000 in
theorem remove_at (K : Kind F C R) (w : World) (H G cap M : Nat) (es : List E) (n i : Nat) (h : At w H F C (.slice (some ⟨G, 0, none⟩) (M + 1) cap) es n) (hM : es.length = M + 1) (hi : i ≤ M) :
    Calls Try.prog 50 #[.pointer (some ⟨H, 0, none⟩), .int .i64 i] w fun r w' => r = .returned (.agg #[.int .i64 (g es i).r, .int .i64 (g es i).m, .int .i64 (g es i).k, .int .i64 (g es i).c, .int .i64 (g es i).a]) ∧ RemPost R F C w w' H G cap M es i n := by
  have hl := h.hl
  have hcap : M + 1 ≤ cap := by
    obtain ⟨_, ⟨hv, _⟩ | ⟨g', cap', cur, hv, _, _, hle, _⟩⟩ := h.own
    · cases hv
    · simp at hv; omega
  have hGs : G < w.heap.size := (h.own.lt G rfl).2
  have hHs := lt_of_heap h.hh
  have h' := h
  rw [← hM] at h'
  have i0 := h'.e0 i (by omega)
  have i1 := h'.e1 i (by omega)
  have i2 := h'.e2 i (by omega)
  have i3 := h'.e3 i (by omega)
  have i4 := h'.e4 i (by omega)
  clear h'
  rw [hM] at hl
  have HM : Hid (es.length = M + 1) := hM
  clear hM
  have c1 := h.c1
  generalize hx : g es i = x at *
  have HX : Hid (g es i = x) := hx
  clear hx
  go_enter Try.func50, Try.ntmps50
  go_wp2_with fail
  go_region
  go_wp2_with fail
  have aW := (((Apart.refl [] w).alloc (.cells #[.int .i64 0, .int .i64 0, .int .i64 0, .int .i64 0, .int .i64 0] 100)).alloc (.cells #[.int .i64 x.r, .int .i64 x.m, .int .i64 x.k, .int .i64 x.c, .int .i64 x.a] 100)).drewN 1
  have bA : (((w.alloc (.cells #[.int .i64 0, .int .i64 0, .int .i64 0, .int .i64 0, .int .i64 0] 100)).alloc (.cells #[.int .i64 x.r, .int .i64 x.m, .int .i64 x.k, .int .i64 x.c, .int .i64 x.a] 100)).drewN 1).heap[w.heap.size]? = some (.cells #[.int .i64 0, .int .i64 0, .int .i64 0, .int .i64 0, .int .i64 0] 100 (0, 0)) := by
    show ((w.alloc (.cells #[.int .i64 0, .int .i64 0, .int .i64 0, .int .i64 0, .int .i64 0] 100)).alloc (.cells #[.int .i64 x.r, .int .i64 x.m, .int .i64 x.k, .int .i64 x.c, .int .i64 x.a] 100)).heap[w.heap.size]? = _
    rw [Below.heap_alloc _ _ _ (by simp)]; exact heap_alloc_new w _
  have bB : (((w.alloc (.cells #[.int .i64 0, .int .i64 0, .int .i64 0, .int .i64 0, .int .i64 0] 100)).alloc (.cells #[.int .i64 x.r, .int .i64 x.m, .int .i64 x.k, .int .i64 x.c, .int .i64 x.a] 100)).drewN 1).heap[w.heap.size + 1]? = some (.cells #[.int .i64 x.r, .int .i64 x.m, .int .i64 x.k, .int .i64 x.c, .int .i64 x.a] 100 (0, 0)) := by
    have := heap_alloc_new (w.alloc (.cells #[.int .i64 0, .int .i64 0, .int .i64 0, .int .i64 0, .int .i64 0] 100)) (.cells #[.int .i64 x.r, .int .i64 x.m, .int .i64 x.k, .int .i64 x.c, .int .i64 x.a] 100)
    simpa using this
  have at1 := h.kept0 aW
  change Calls Try.prog 66 _ (((w.alloc (.cells #[.int .i64 0, .int .i64 0, .int .i64 0, .int .i64 0, .int .i64 0] 100)).alloc (.cells #[.int .i64 x.r, .int .i64 x.m, .int .i64 x.k, .int .i64 x.c, .int .i64 x.a] 100)).drewN 1) _
  generalize ((w.alloc (.cells #[.int .i64 0, .int .i64 0, .int .i64 0, .int .i64 0, .int .i64 0] 100)).alloc (.cells #[.int .i64 x.r, .int .i64 x.m, .int .i64 x.k, .int .i64 x.c, .int .i64 x.a] 100)).drewN 1 = W1 at *
  refine (swap_atN at1 HM.out i M (by omega) (by omega)).mono ?_
  rintro r w2 ⟨rfl, at2, a2⟩
  have ap2 : Apart [H, G] w w2 := (aW.mono (by simp)).trans (a2.mono (by simp))
  have bA2 := (a2.block _ (lt_of_heap bA) (by simp; omega)).trans bA
  have bB2 := (a2.block _ (lt_of_heap bB) (by simp; omega)).trans bB
  have hs2 : (sw es i M).length = M + 1 := by rw [sw_length]; exact HM.out
  have at2' := at2
  rw [← hs2] at at2'
  have HS2 : Hid ((sw es i M).length = M + 1) := hs2
  clear hs2
  have d1 := at2.c1
  have m0 := at2'.e0 M (by rw [HS2.out]; omega)
  have m1 := at2'.e1 M (by rw [HS2.out]; omega)
  have m2 := at2'.e2 M (by rw [HS2.out]; omega)
  have m3 := at2'.e3 M (by rw [HS2.out]; omega)
  have m4 := at2'.e4 M (by rw [HS2.out]; omega)
  have n0 := at2'.ef (M * 5)
  have n1 := at2'.ef (M * 5 + 1)
  have n2 := at2'.ef (M * 5 + 2)
  have n3 := at2'.ef (M * 5 + 3)
  have n4 := at2'.ef (M * 5 + 4)
  have at3 := at2'.put M z
  rw [HS2.out, cut_snoc es M i HM.out hi z] at at3
  have fH := at2.fr 1
  have hne : H ≠ G := fun e => h.ne (by simp [Value.ownBlock, e])
  have hne' : G ≠ H := fun e => hne e.symm
  have at4 := at3.cutoff rfl (by rw [cut_length, HM.out]; rfl)
  have ap4 : Apart [H, G] w _ := (ap2.trans ((put3_apart w2 G M z).mono (by simp))).trans (at4.2.mono (by simp))
  have bA4 := (at4.2.block _ (Nat.lt_of_lt_of_le (lt_of_heap bA2) (put3_apart w2 G M z).size) (by simp; omega)).trans (((put3_apart w2 G M z).block _ (lt_of_heap bA2) (by simp; omega)).trans bA2)
  have bB4 := (at4.2.block _ (Nat.lt_of_lt_of_le (lt_of_heap bB2) (put3_apart w2 G M z).size) (by simp; omega)).trans (((put3_apart w2 G M z).block _ (lt_of_heap bB2) (by simp; omega)).trans bB2)
  have at4' := at4.1
  simp only [put3, z] at at4' ap4 bA4 bB4
  clear i0 i1 i2 i3 i4 c1 at2' at4 at3 bA bB at1
  obtain ⟨W4, hW4⟩ : ∃ W4, W4 = ((((((w2.setCell ⟨G, M * 5, none⟩ (.int .i64 0)).setCell ⟨G, M * 5 + 1, none⟩ (.int .i64 0)).setCell ⟨G, M * 5 + 2, none⟩ (.int .i64 0)).setCell ⟨G, M * 5 + 3, none⟩ (.int .i64 0)).setCell ⟨G, M * 5 + 4, none⟩ (.int .i64 0)).setCell ⟨H, 1, none⟩ (.slice (some ⟨G, 0, none⟩) M cap)) := ⟨_, rfl⟩
  rw [← hW4] at at4' ap4 bA4 bB4
  have HW4 : Hid (W4 = ((((((w2.setCell ⟨G, M * 5, none⟩ (.int .i64 0)).setCell ⟨G, M * 5 + 1, none⟩ (.int .i64 0)).setCell ⟨G, M * 5 + 2, none⟩ (.int .i64 0)).setCell ⟨G, M * 5 + 3, none⟩ (.int .i64 0)).setCell ⟨G, M * 5 + 4, none⟩ (.int .i64 0)).setCell ⟨H, 1, none⟩ (.slice (some ⟨G, 0, none⟩) M cap))) := hW4
  clear hW4
  by_cases hlt : i < M
  · go_wp2_with fail
    rw [← HW4.out]
    clear d1 m0 m1 m2 m3 m4 n0 n1 n2 n3 n4 fH
    refine (sink_at K W4 H _ n G cap M at4' (by rw [cut_length, HM.out]; rfl) i hlt).mono ?_
    rintro r w5 ⟨rfl, ⟨ds, hdl, at5, perm5, ri5, a5⟩⟩
    go_wp2_with fail
    refine (rise_at K w5 H _ n G cap M at5 hdl i hlt).mono ?_
    rintro r w6 ⟨rfl, ⟨cs, hcl, at6, perm6, hp6, a6⟩⟩
    have bA6 := (a6.block _ (Nat.lt_of_lt_of_le (lt_of_heap bA4) a5.size) (by simp; omega)).trans ((a5.block _ (lt_of_heap bA4) (by simp; omega)).trans bA4)
    have bB6 := (a6.block _ (Nat.lt_of_lt_of_le (lt_of_heap bB4) a5.size) (by simp; omega)).trans ((a5.block _ (lt_of_heap bB4) (by simp; omega)).trans bB4)
    have post : RemPost R F C w ((((((w6.setCell ⟨w.heap.size, 0, none⟩ (.int .i64 x.r)).setCell ⟨w.heap.size, 1, none⟩ (.int .i64 x.m)).setCell ⟨w.heap.size, 2, none⟩ (.int .i64 x.k)).setCell ⟨w.heap.size, 3, none⟩ (.int .i64 x.c)).setCell ⟨w.heap.size, 4, none⟩ (.int .i64 x.a))) H G cap M es i n := by
      have a7 : Apart [w.heap.size] w6 ((((((w6.setCell ⟨w.heap.size, 0, none⟩ (.int .i64 x.r)).setCell ⟨w.heap.size, 1, none⟩ (.int .i64 x.m)).setCell ⟨w.heap.size, 2, none⟩ (.int .i64 x.k)).setCell ⟨w.heap.size, 3, none⟩ (.int .i64 x.c)).setCell ⟨w.heap.size, 4, none⟩ (.int .i64 x.a))) := (((((Apart.refl _ _).setCell (by simp) _).setCell (by simp) _).setCell (by simp) _).setCell (by simp) _).setCell (by simp) _
      refine ⟨cs, hcl, at6.kept a7 ?_, ((perm6.trans perm5).cons _).trans (cut_perm es i (by rw [HM.out]; omega)), fun A f hp => hp6 A f (ri5 A f (SI.start f.1 hp i (by rw [HM.out]; exact hlt))), ((ap4.trans (a5.mono (by simp))).trans (a6.mono (by simp))).trans' a7 (by simp)⟩
      intro k hk
      simp at hk
      subst hk
      refine ⟨by omega, by simp [Value.ownBlock]; omega, fun b hb => ?_⟩
      have := lt_of_heap (h.hc b hb)
      omega
    have eA0 : w6.cell? ⟨w.heap.size, 0, none⟩ = some (.int .i64 0) := by rw [cell_of_row _ _ _ _ _ _ bA6]; rfl
    have eA1 : w6.cell? ⟨w.heap.size, 1, none⟩ = some (.int .i64 0) := by rw [cell_of_row _ _ _ _ _ _ bA6]; rfl
    have eA2 : w6.cell? ⟨w.heap.size, 2, none⟩ = some (.int .i64 0) := by rw [cell_of_row _ _ _ _ _ _ bA6]; rfl
    have eA3 : w6.cell? ⟨w.heap.size, 3, none⟩ = some (.int .i64 0) := by rw [cell_of_row _ _ _ _ _ _ bA6]; rfl
    have eA4 : w6.cell? ⟨w.heap.size, 4, none⟩ = some (.int .i64 0) := by rw [cell_of_row _ _ _ _ _ _ bA6]; rfl
    have eB0 : w6.cell? ⟨w.heap.size + 1, 0, none⟩ = some (.int .i64 x.r) := by rw [cell_of_row _ _ _ _ _ _ bB6]; rfl
    have eB1 : w6.cell? ⟨w.heap.size + 1, 1, none⟩ = some (.int .i64 x.m) := by rw [cell_of_row _ _ _ _ _ _ bB6]; rfl
    have eB2 : w6.cell? ⟨w.heap.size + 1, 2, none⟩ = some (.int .i64 x.k) := by rw [cell_of_row _ _ _ _ _ _ bB6]; rfl
    have eB3 : w6.cell? ⟨w.heap.size + 1, 3, none⟩ = some (.int .i64 x.c) := by rw [cell_of_row _ _ _ _ _ _ bB6]; rfl
    have eB4 : w6.cell? ⟨w.heap.size + 1, 4, none⟩ = some (.int .i64 x.a) := by rw [cell_of_row _ _ _ _ _ _ bB6]; rfl
    have fA0 := frozen_of_row w6 w.heap.size 0 _ _ bA6
    have fA1 := frozen_of_row w6 w.heap.size 1 _ _ bA6
    have fA2 := frozen_of_row w6 w.heap.size 2 _ _ bA6
    have fA3 := frozen_of_row w6 w.heap.size 3 _ _ bA6
    have fA4 := frozen_of_row w6 w.heap.size 4 _ _ bA6
    have bR := row5 bA6 (.int .i64 x.r) (.int .i64 x.m) (.int .i64 x.k) (.int .i64 x.c) (.int .i64 x.a)
    clear bA6 bB6 bA4 bB4 at5 at6 perm5 perm6 hp6 ri5 a5 a6 at4' ap4 a2 at2 aW h ap2
    go_wp2
    refine bodyPost_ret (results_cell_row rfl _ _ w.heap.size 100 _ _ _ rfl bR Try.underlying100 rfl size51) rfl ?_
    exact ⟨rfl, post⟩
  · obtain rfl : i = M := by omega
    have q1 : G ≠ w.heap.size := by omega
    have q2 : G ≠ w.heap.size + 1 := by omega
    have q3 : H ≠ w.heap.size := by omega
    have q4 : H ≠ w.heap.size + 1 := by omega
    have eA0 : w2.cell? ⟨w.heap.size, 0, none⟩ = some (.int .i64 0) := by rw [cell_of_row _ _ _ _ _ _ bA2]; rfl
    have eA1 : w2.cell? ⟨w.heap.size, 1, none⟩ = some (.int .i64 0) := by rw [cell_of_row _ _ _ _ _ _ bA2]; rfl
    have eA2 : w2.cell? ⟨w.heap.size, 2, none⟩ = some (.int .i64 0) := by rw [cell_of_row _ _ _ _ _ _ bA2]; rfl
    have eA3 : w2.cell? ⟨w.heap.size, 3, none⟩ = some (.int .i64 0) := by rw [cell_of_row _ _ _ _ _ _ bA2]; rfl
    have eA4 : w2.cell? ⟨w.heap.size, 4, none⟩ = some (.int .i64 0) := by rw [cell_of_row _ _ _ _ _ _ bA2]; rfl
    have eB0 : w2.cell? ⟨w.heap.size + 1, 0, none⟩ = some (.int .i64 x.r) := by rw [cell_of_row _ _ _ _ _ _ bB2]; rfl
    have eB1 : w2.cell? ⟨w.heap.size + 1, 1, none⟩ = some (.int .i64 x.m) := by rw [cell_of_row _ _ _ _ _ _ bB2]; rfl
    have eB2 : w2.cell? ⟨w.heap.size + 1, 2, none⟩ = some (.int .i64 x.k) := by rw [cell_of_row _ _ _ _ _ _ bB2]; rfl
    have eB3 : w2.cell? ⟨w.heap.size + 1, 3, none⟩ = some (.int .i64 x.c) := by rw [cell_of_row _ _ _ _ _ _ bB2]; rfl
    have eB4 : w2.cell? ⟨w.heap.size + 1, 4, none⟩ = some (.int .i64 x.a) := by rw [cell_of_row _ _ _ _ _ _ bB2]; rfl
    have fA0 := frozen_of_row w2 w.heap.size 0 _ _ bA2
    have fA1 := frozen_of_row w2 w.heap.size 1 _ _ bA2
    have fA2 := frozen_of_row w2 w.heap.size 2 _ _ bA2
    have fA3 := frozen_of_row w2 w.heap.size 3 _ _ bA2
    have fA4 := frozen_of_row w2 w.heap.size 4 _ _ bA2
    have post : RemPost R F C w ((((((W4.setCell ⟨w.heap.size, 0, none⟩ (.int .i64 x.r)).setCell ⟨w.heap.size, 1, none⟩ (.int .i64 x.m)).setCell ⟨w.heap.size, 2, none⟩ (.int .i64 x.k)).setCell ⟨w.heap.size, 3, none⟩ (.int .i64 x.c)).setCell ⟨w.heap.size, 4, none⟩ (.int .i64 x.a))) H G cap i es i n := by
      have a7 : Apart [w.heap.size] W4 ((((((W4.setCell ⟨w.heap.size, 0, none⟩ (.int .i64 x.r)).setCell ⟨w.heap.size, 1, none⟩ (.int .i64 x.m)).setCell ⟨w.heap.size, 2, none⟩ (.int .i64 x.k)).setCell ⟨w.heap.size, 3, none⟩ (.int .i64 x.c)).setCell ⟨w.heap.size, 4, none⟩ (.int .i64 x.a))) := (((((Apart.refl _ _).setCell (by simp) _).setCell (by simp) _).setCell (by simp) _).setCell (by simp) _).setCell (by simp) _
      refine ⟨cut es i, by rw [cut_length, HM.out]; rfl, at4'.kept a7 ?_, cut_perm es i (by rw [HM.out]; omega), fun A f hp => hp.cut_last i (by rw [HM.out]; omega) (by rw [HM.out]; omega), ap4.trans' a7 (by simp)⟩
      intro k hk
      simp at hk
      subst hk
      refine ⟨by omega, by simp [Value.ownBlock]; omega, fun b hb => ?_⟩
      have := lt_of_heap (h.hc b hb)
      omega
    have bR := row5 bA4 (.int .i64 x.r) (.int .i64 x.m) (.int .i64 x.k) (.int .i64 x.c) (.int .i64 x.a)
    rw [HW4.out] at bR post
    clear bA2 bB2 bA4 bB4 at4' ap4 a2 at2 aW h ap2
    go_wp2
    refine bodyPost_ret (results_cell_row rfl _ _ w.heap.size 100 _ _ _ rfl bR Try.underlying100 rfl size51) rfl ?_
    exact ⟨rfl, post⟩
end
end Go.Proofs.Ytopmhacnopfifaa.tm
