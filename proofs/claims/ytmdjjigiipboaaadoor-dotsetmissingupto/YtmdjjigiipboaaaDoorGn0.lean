import Derived.Test.YtmdjjigiipboaaaDoorP1
namespace Go.Proofs.YtmdjjigiipboaaaDoor.ds
open Go.ChangeShapes Go.WideShapes Go.ChangeAt Go.RowKit
set_option linter.unusedVariables false
set_option linter.unusedSimpArgs false
theorem own_typ52 {w : World} {base : Nat} {e : TypeId} {size : Nat} {v : Value} {n : Nat} {xs : List Value} (h : w.ownsRow base e size v n xs) {k : Nat} (hk : v.ownBlock = some k) : ∃ cur, w.heap[k]? = some (.cells cur e (0, 0)) := by
  obtain ⟨hl, ⟨hv, hz⟩ | ⟨g, cap, cur, rfl, hb, hr, hrest⟩⟩ := h
  · subst hv; cases hk
  · simp [Value.ownBlock] at hk; subst hk; exact ⟨cur, hr⟩
/-- what is lent, with its row -/
structure LentOwn (w w' : World) (r : Ending) (N : Nat) (xs : List S) : Prop where
  ex : ∃ G cap cur, r = .returned (.slice (some ⟨G, 0, none⟩) (N + 2) cap) ∧ N + 2 ≤ cap ∧ L w' (some ⟨G, 0, none⟩) (N + 2) (xs ++ [m1, m2]) ∧ L w' (some ⟨G, 0, none⟩) N xs ∧ Apart [] w w' ∧ w.heap.size ≤ G ∧ w'.heap[G]? = some (.cells cur 52 (0, 0)) ∧ (N + 2) * 3 ≤ cur.size
set_option maxHeartbeats 2000000 in
theorem lent_own {p : Option Addr} {N cap : Nat} {xs : List S} {w : World} (h : L w p N xs) (hN : N ≤ 4398046511104) : Calls Tryd.prog 30 #[.slice p N cap] w fun r w' => LentOwn w w' r N xs := by
  go_enter Tryd.func30, Tryd.ntmps30
  go_wp2_with fail
  refine (copied_ok h hN).mono ?_
  rintro r w1 ⟨⟨p1, c1, rfl, own1⟩⟩
  dsimp only
  go_wp2_with fail
  refine (mark1 w1).mono ?_
  rintro r w2 ⟨rfl, a2⟩
  dsimp only
  go_wp2_with fail
  refine (mark2 w2).mono ?_
  rintro r w3 ⟨rfl, a3⟩
  dsimp only
  have own3 := ((own1.kept a2).kept a3).kept ((Apart.refl [] w3).alloc (.cells #[.int .i64 7001, .int .i64 (-1), .int .u64 5, .int .i64 7002, .int .i64 (-2), .int .u64 5] 52))
  obtain ⟨G, cap', w4, hrun, hcap, own4⟩ := own_append2 own3 hN 22 ⟨w3.heap.size, 0, none⟩ m1 m2 (by simp [Addr.add, m1]) (by simp [Addr.add, m1]) (by simp [Addr.add, m1]) (by simp [Addr.add, m2]) (by simp [Addr.add, m2]) (by simp [Addr.add, m2])
  clear own3 own1
  go_wp2_with (at_builtin; refine wpList_append3 rfl (.tmp 4) (.tmp 7) 22 rfl _ _ rfl rfl _ _ hrun ?_)
  go_ret
  have l4 := own4.L (by omega) (fun x hx => by
    simp only [List.mem_append, List.mem_cons, List.not_mem_nil, or_false] at hx
    rcases hx with hx | rfl | rfl
    · exact h.fit x hx
    · decide
    · decide)
  have hrow : ∃ cur, w4.heap[G]? = some (.cells cur 52 (0, 0)) ∧ (N + 2) * 3 ≤ cur.size := by
    obtain ⟨cur, hc⟩ := own_typ52 own4.own (k := G) rfl
    refine ⟨cur, hc, ?_⟩
    obtain ⟨P, o, e, hP, hcc⟩ := l4.sp (by simp)
    simp only [Option.some.injEq, Addr.mk.injEq, and_true] at e
    obtain ⟨rfl, rfl⟩ := e
    have hl := l4.len
    have := (hcc (N + 1) (by omega)).2.2
    rw [cell_of_row _ _ _ _ _ _ hc] at this
    have h3 := Array.getElem?_eq_some_iff.1 this
    obtain ⟨h4, _⟩ := h3
    omega
  obtain ⟨cur, hc1, hc2⟩ := hrow
  refine ⟨G, cap', cur, rfl, hcap, l4, ⟨fun h0 => ?_, h.len, h.lim, h.fit⟩, own4.ap, own4.new G rfl, hc1, hc2⟩
  obtain ⟨P, o, e, hP, hc⟩ := l4.sp (by simp)
  simp only [Option.some.injEq, Addr.mk.injEq, and_true] at e
  obtain ⟨rfl, rfl⟩ := e
  refine ⟨G, 0, rfl, hP, fun i hi => ?_⟩
  have := hc i (by simp; omega)
  rwa [g_append hi] at this
/-- three cells of a row put anew -/
theorem put3 {w : World} {G : Nat} {cur : Array Value} {t : TypeId} (h : w.heap[G]? = some (.cells cur t (0, 0))) (i : Nat) (a b c : Value) : ∃ cur', (((w.setCell ⟨G, i, none⟩ a).setCell ⟨G, i + 1, none⟩ b).setCell ⟨G, i + 2, none⟩ c).heap[G]? = some (.cells cur' t (0, 0)) ∧ cur'.size = cur.size := by
  have h1 := heap_setCell_same w G i _ t a h
  have h2 := heap_setCell_same _ G (i + 1) _ t b h1
  have h3 := heap_setCell_same _ G (i + 2) _ t c h2
  exact ⟨_, h3, by simp⟩
theorem cell_ex {w : World} {G : Nat} {cur : Array Value} {t : TypeId} (h : w.heap[G]? = some (.cells cur t (0, 0))) {j : Nat} (hj : j < cur.size) : ∃ v, w.cell? ⟨G, j, none⟩ = some v := ⟨cur[j], by rw [cell_of_row _ _ _ _ _ _ h]; simp [hj]⟩
end Go.Proofs.YtmdjjigiipboaaaDoor.ds
