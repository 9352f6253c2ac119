import Derived.Test.YtokaeiahhmaokaaDoorT8
import Derived.Great.BuildSlice
namespace Go.Proofs.YtokaeiahhmaokaaDoor.ds
open Go.ChangeShapes Go.WideShapes Go.ChangeAt Go.RowKit Go.Sort
set_option linter.unusedVariables false
set_option linter.unusedSimpArgs false
theorem buildE (W : World) (e : E) : Sem.run Tryd.prog (Instr.buildSlice 39 1 #[(0, e.agg)]) W = .ok (.slice (some ⟨W.heap.size, 0, none⟩) 1 1) (W.alloc (boxE e)) := by
  obtain ⟨ie, hi, hz0, hz1, hz2⟩ := info_parts infoW
  refine run_buildSlice W 39 28 1 _ _ ie _ Tryd.underlying39 hi hz0 (by rw [hz1]; decide) (by rw [hz1]; decide) ?_
  rw [hz1]
  first | rfl | (simp [Instr.fill, Array.range, Value.cells, Array.ofFn, E.agg]; done) | kernel_rfl
/-- a list of writes of the call's own -/
structure OwnE (w W : World) (s : Sl) (es : List E) : Prop where
  nw : Nw w W 28 6 s (flatE es)
  len : es.length = s.n
theorem OwnE.kept {w W W' : World} {s : Sl} {es : List E} (h : OwnE w W s es) (a : Apart [] W W') : OwnE w W' s es := ⟨h.nw.kept a, h.len⟩
theorem OwnE.nil (w W : World) (a : Apart [] w W) : OwnE w W ⟨none, 0, 0⟩ [] := ⟨⟨World.ownsRow_nil _ _ _ _, by simp [Sl.v, Value.ownBlock], a⟩, rfl⟩
theorem OwnE.LE {w W : World} {s : Sl} {es : List E} (h : OwnE w W s es) (hn : s.n ≤ 2000000) : LE W s.p s.n es := ⟨h.nw.rd, h.len, hn⟩
/-- one more at its end -/
theorem run_appE {w W : World} {s : Sl} {es : List E} (h : OwnE w W s es) (hn : s.n ≤ 2000000) (e : E) (ty : TypeId) :
    ∃ s' W', (Builtin.append_ #[39, 39] ty #[s.v, .slice (some ⟨W.heap.size, 0, none⟩) 1 1]).run Tryd.prog (W.alloc (boxE e)) = .ok (Sl.v s') W' ∧ OwnE w W' s' (es ++ [e]) ∧ s'.n = s.n + 1 ∧ Apart s.v.ownBlock.toList W W' := by
  obtain ⟨i0, hi, hz0, hz1, hz2⟩ := info_parts infoW
  have o1 := (h.kept ((Apart.refl [] W).alloc (boxE e))).nw.own
  have hcs : ∀ j u, (E.cs e)[j]? = some u → (W.alloc (boxE e)).cell? ((⟨W.heap.size, 0, none⟩ : Addr).add j) = some u := by
    intro j u hj
    rw [Addr.add_lit, Nat.zero_add, cell_of_row _ _ _ _ _ _ (heap_alloc_new W (boxE e))]
    simpa [E.cs] using hj
  have one : ∀ u ∈ E.cs e, u.oneCell' = true := fun u hu => oneE [e] u (by simpa [flatE] using hu)
  have key : ∃ v' W', (Builtin.append_ #[39, 39] ty #[s.v, .slice (some ⟨W.heap.size, 0, none⟩) 1 1]).run Tryd.prog (W.alloc (boxE e)) = .ok v' W' ∧ W'.ownsRow 0 28 6 v' (s.n + 1) (flatE es ++ E.cs e) ∧ (W.alloc (boxE e)).grownBy W' s.v.ownBlock ∧ NewOr (W.alloc (boxE e)) s.v v' := by
    obtain ⟨p, n, c⟩ := s
    simp only at hn
    have o2 := o1
    unfold Sl.v at o1 ⊢
    obtain ⟨_, ⟨hv, hz⟩ | ⟨g, cap, cur, hv, _⟩⟩ := o2
    · unfold Sl.v at hv
      simp at hv
      obtain ⟨rfl, rfl, rfl⟩ := hv
      exact run_append2 (W.alloc (boxE e)) 39 ty 28 i0 _ 6 88 Tryd.underlying39 hi hz0 hz1 hz2 rfl (by decide) (.slice none 0 0) 0 (flatE es) o1 ⟨W.heap.size, 0, none⟩ 1 1 (E.cs e) (by simp) (by simp [E.cs]) hcs one (by decide) (by decide)
    · unfold Sl.v at hv
      simp at hv
      obtain ⟨rfl, rfl⟩ := hv
      exact run_append3 (W.alloc (boxE e)) 39 ty 28 i0 _ 6 88 Tryd.underlying39 hi hz0 hz1 hz2 rfl (by decide) g n c (flatE es) o1 ⟨W.heap.size, 0, none⟩ 1 1 (E.cs e) (by simp [E.cs]) hcs one (by unfold maxLen; omega) (by omega)
  obtain ⟨v', W', hrun, r1, r2, r3⟩ := key
  have ap : Apart s.v.ownBlock.toList W W' := (((Apart.refl _ W).alloc (boxE e))).trans (apart_grown r2)
  have hnew : ∀ k, v'.ownBlock = some k → w.heap.size ≤ k := by
    intro k hk
    rcases r3 with r3 | ⟨q, r3, hq⟩
    · exact h.nw.new k (r3 ▸ hk)
    · rw [r3] at hk; simp at hk; subst hk
      simp at hq
      have := h.nw.ap.size
      omega
  obtain ⟨s', rfl, hs'⟩ : ∃ s' : Sl, v' = s'.v ∧ s'.n = s.n + 1 := by
    obtain ⟨_, ⟨hv, hz⟩ | ⟨g, cap, cur, hv, _⟩⟩ := r1
    · exact absurd hz (by omega)
    · exact ⟨⟨some ⟨g, 0, none⟩, s.n + 1, cap⟩, hv, rfl⟩
  refine ⟨s', W', hrun, ⟨⟨by rw [hs', ← flatE_snoc]; exact r1, hnew, h.nw.ap.trans' ap (fun y hy => ?_)⟩, by rw [List.length_append, h.len, hs']; rfl⟩, hs', ap⟩
  simp at hy
  exact .inr (h.nw.new y hy)
theorem rbelow_ok (a b : E) (w : World) : Calls Tryd.prog 61 #[.agg #[.int .i64 a.n, .int .i64 a.c], .agg #[.int .i64 b.n, .int .i64 b.c]] w fun r w' => r = .returned (.bool (below a b)) ∧ Apart [] w w' := by
  obtain ⟨v, HV⟩ : ∃ v, Hid (v = below a b) := ⟨_, rfl⟩
  rw [← HV.out]
  have hv := HV.out
  unfold below at hv
  by_cases h1 : a.n < b.n
  · have hv' : v = true := by rw [hv]; simp [h1]
    subst hv'
    clear hv
    go_enter Tryd.func61, Tryd.ntmps61
    go_wp2_with fail
    go_ret
    exact ⟨rfl, ((Apart.refl [] w).alloc _).alloc _⟩
  · by_cases h2 : a.n = b.n
    · by_cases h3 : a.c < b.c
      · have hv' : v = true := by rw [hv]; simp [h2, h3]
        subst hv'
        clear hv
        rw [h2]
        go_enter Tryd.func61, Tryd.ntmps61
        go_wp2_with fail
        go_ret
        exact ⟨rfl, ((Apart.refl [] w).alloc _).alloc _⟩
      · have hv' : v = false := by rw [hv]; simp [h2, h3]
        subst hv'
        clear hv
        rw [h2]
        go_enter Tryd.func61, Tryd.ntmps61
        go_wp2_with fail
        go_ret
        exact ⟨by first | rfl | simp, ((Apart.refl [] w).alloc _).alloc _⟩
    · have hv' : v = false := by rw [hv]; simp [h1, h2]
      subst hv'
      clear hv
      go_enter Tryd.func61, Tryd.ntmps61
      go_wp2_with fail
      go_ret
      exact ⟨by first | rfl | simp, ((Apart.refl [] w).alloc _).alloc _⟩
end Go.Proofs.YtokaeiahhmaokaaDoor.ds
namespace Go.Proofs.YtokaeiahhmaokaaDoor.ds
open Go.ChangeShapes Go.WideShapes Go.ChangeAt Go.RowKit Go.Sort
set_option linter.unusedVariables false
set_option linter.unusedSimpArgs false
/-- a write put ahead of the first whose dot is above its own -/
def insE (u : E) : List E → List E
  | [] => [u]
  | x :: l => if below u x = true then u :: x :: l else x :: insE u l
theorem insE_done (u x : E) : ∀ (l : List E), l.any (below u) = true → insE u (l ++ [x]) = insE u l ++ [x]
  | [], h => by simp at h
  | y :: l, h => by
    simp only [List.cons_append, insE]
    by_cases hy : below u y = true
    · simp [hy]
    · rw [if_neg hy, if_neg hy, insE_done u x l (by simpa [hy] using h)]; rfl
theorem insE_not (u : E) (m : List E) : ∀ (l : List E), l.any (below u) = false → insE u (l ++ m) = l ++ insE u m
  | [], h => rfl
  | y :: l, h => by
    simp only [List.any_cons, Bool.or_eq_false_iff] at h
    simp only [List.cons_append, insE]
    rw [if_neg (by rw [h.1]; simp), insE_not u m l h.2]
theorem insE_length (u : E) : ∀ l, (insE u l).length = l.length + 1
  | [] => rfl
  | y :: l => by
    simp only [insE]
    split
    · simp
    · simp [insE_length u l]
/-- the list so far -/
def outE (u : E) (l : List E) : List E := if l.any (below u) = true then insE u l else l
theorem takeE {es : List E} {i : Nat} (hi : i < es.length) : es.take (i + 1) = es.take i ++ [gE es i] := by
  rw [List.take_succ_eq_append_getElem hi, gE_eq _ _ hi]
theorem outE_step1 {u : E} {l : List E} {x : E} (h : l.any (below u) = true) : outE u (l ++ [x]) = outE u l ++ [x] := by
  unfold outE
  rw [if_pos h, if_pos (by simp [h]), insE_done u x l h]
theorem outE_step2 {u : E} {l : List E} {x : E} (h : l.any (below u) = false) (hx : below u x = true) : outE u (l ++ [x]) = (outE u l ++ [u]) ++ [x] := by
  have e1 : outE u l = l := by unfold outE; rw [if_neg (by rw [h]; simp)]
  have e2 : outE u (l ++ [x]) = insE u (l ++ [x]) := by unfold outE; rw [if_pos (by simp [hx])]
  rw [e1, e2, insE_not u [x] l h]
  simp [insE, hx]
theorem outE_step3 {u : E} {l : List E} {x : E} (h : l.any (below u) = false) (hx : below u x = false) : outE u (l ++ [x]) = outE u l ++ [x] := by
  have e1 : outE u l = l := by unfold outE; rw [if_neg (by rw [h]; simp)]
  have e2 : outE u (l ++ [x]) = l ++ [x] := by
    unfold outE
    rw [if_neg (by rw [List.any_append, h]; simp [hx])]
  rw [e1, e2]
theorem outE_length (u : E) (l : List E) : (outE u l).length ≤ l.length + 1 := by
  unfold outE
  split
  · rw [insE_length]; omega
  · omega
theorem insE_end {u : E} {l : List E} (h : l.any (below u) = false) : insE u l = outE u l ++ [u] := by
  have := insE_not u [] l h
  rw [List.append_nil] at this
  rw [this]
  unfold outE
  rw [if_neg (by rw [h]; simp)]
  rfl
set_option maxHeartbeats 8000000 in
set_option maxRecDepth 100000 in
theorem put_ok (w : World) (p : Option Addr) (N cap : Nat) (es : List E) (u : E) (h : LE w p N es) (hN : N ≤ 1500000) :
    Calls Tryd.prog 109 #[.slice p N cap, u.agg] w fun r w' => ∃ s, r = .returned (Sl.v s) ∧ OwnE w w' s (insE u es) := by
  have aB : Apart [] w (w.alloc (boxE u)) := (Apart.refl [] w).alloc _
  have HB := hid aB
  have HC := hid (Cap.new w u)
  have HL := hid h
  have HN := hid h.len
  have o0 : OwnE (w.alloc (boxE u)) (w.alloc (boxE u)) ⟨none, 0, 0⟩ (outE u (es.take 0)) := OwnE.nil _ _ (Apart.refl _ _)
  clear h aB
  unfold E.agg
  go_enter Tryd.func109, Tryd.ntmps109
  go_wp2_with fail
  go_loopw [5, 6, 7] (fun v5 v6 v7 wr => ∃ (i : Nat) (s : Sl), v7 = .int .i64 (i : Nat) ∧ i ≤ N ∧ v5 = s.v ∧ v6 = .bool ((es.take i).any (below u)) ∧ OwnE (w.alloc (boxE u)) wr s (outE u (es.take i)) ∧ Apart [] (w.alloc (boxE u)) wr) (fun _ _ v7 _ => N - (intOf v7).toNat)
  case atStart => exact ⟨0, ⟨none, 0, 0⟩, rfl, Nat.zero_le _, rfl, rfl, o0, Apart.refl _ _⟩
  case round =>
    clear o0
    obtain ⟨i, ⟨ps, ns, cs⟩, rfl, hi, rfl, rfl, own, ap⟩ := hrel
    have HO := hid own
    have HA := hid ap
    clear own ap
    have HCr := hid (HC.out.kept0 HA.out)
    have hns : ns ≤ 1500001 := by
      have h1 := HO.out.len
      have h2 := outE_length u (es.take i)
      rw [List.length_take] at h2
      simp only at h1
      omega
    unfold Sl.v
    have hbx := fun W => buildE W (gE es i)
    have hbu := fun W => buildE W u
    by_cases hlt : i < N
    · obtain ⟨P, o, hpe, hPw, _⟩ := HL.out.at (by omega)
      obtain ⟨P', o', hpe', hP0, hc⟩ := (HL.out.kept0 (HB.out.trans HA.out)).at (by omega)
      rw [hpe] at hpe'
      simp at hpe'
      obtain ⟨rfl, rfl⟩ := hpe'
      subst hpe
      obtain ⟨c0, c1, c2, c3, c4, c5⟩ := hc i hlt
      obtain ⟨u0, u1, u2, u3, u4, u5⟩ := row6 HCr.out
      have hNB : w.heap.size < wr.heap.size := lt_of_heap HCr.out
      have hP : P < wr.drew.heap.size := hP0
      have htk := takeE (es := es) (i := i) (by rw [HN.out]; exact hlt)
      have HTK := hid htk
      obtain ⟨x, hx⟩ : ∃ x, x = gE es i := ⟨_, rfl⟩
      rw [← hx] at c0 c1 c2 c3 c4 c5 hbx HTK
      unfold Sl.v at c4 c5 u4 u5
      unfold E.agg Sl.v at hbx hbu
      clear hc htk hx
      cases hd : (es.take i).any (below u)
      · have HD := hid hd
        clear hd
        go_wp2_with fail
        refine wp_region_held_drew (S := fun X => X.cell? ⟨w.heap.size, 0, none⟩ = some (.int .i64 u.n) ∧ X.cell? ⟨w.heap.size, 1, none⟩ = some (.int .i64 u.c) ∧ X.cell? ⟨P, o + i * 6, none⟩ = some (.int .i64 x.n) ∧ X.cell? ⟨P, o + i * 6 + 1, none⟩ = some (.int .i64 x.c)) (by kernel_rfl) ⟨u0, u1, c0, c1⟩ (fun hHeld => ?_)
        refine wpAnyH_take (i := 0) (oi := ⟨some 14, _, _, _, _, _⟩) (v := (.bool false)) rfl (by kernel_rfl) (by kernel_rfl) (by kernel_rfl) (fun _ _ _ h => h) (Or.inl ⟨by rfl, ?_⟩) (by assumption) ?_
        · intro W hSW; obtain ⟨h1, h2, h3, h4⟩ := hSW; go_simp
        simp only [Act.put, List.setIfInBounds_toArray, List.set_cons_zero, List.set_cons_succ]
        refine wpAnyH_take (i := 1) (oi := ⟨some 15, _, _, _, _, _⟩) (v := (.bool true)) rfl (by kernel_rfl) (by kernel_rfl) (by kernel_rfl) (fun _ _ _ h => h) (Or.inl ⟨by rfl, ?_⟩) (by assumption) ?_
        · intro W hSW; obtain ⟨h1, h2, h3, h4⟩ := hSW; go_simp
        simp only [Act.put, List.setIfInBounds_toArray, List.set_cons_zero, List.set_cons_succ]
        refine wpAnyH_take (i := 2) (oi := ⟨some 16, _, _, _, _, _⟩) (v := (.bool true)) rfl (by kernel_rfl) (by kernel_rfl) (by kernel_rfl) (fun _ _ _ h => h) (Or.inl ⟨by rfl, ?_⟩) (by assumption) ?_
        · intro W hSW; obtain ⟨h1, h2, h3, h4⟩ := hSW; go_simp
        simp only [Act.put, List.setIfInBounds_toArray, List.set_cons_zero, List.set_cons_succ]
        refine wpAnyH_take (i := 3) (oi := ⟨some 17, _, _, _, _, _⟩) (v := (.pointer (some ⟨w.heap.size, 0, none⟩))) rfl (by kernel_rfl) (by kernel_rfl) (by kernel_rfl) (fun _ _ _ h => h) (Or.inl ⟨by rfl, ?_⟩) (by assumption) ?_
        · intro W hSW; obtain ⟨h1, h2, h3, h4⟩ := hSW; go_simp
        simp only [Act.put, List.setIfInBounds_toArray, List.set_cons_zero, List.set_cons_succ]
        refine wpAnyH_take (i := 4) (oi := ⟨some 18, _, _, _, _, _⟩) (v := (.agg #[.int .i64 u.n, .int .i64 u.c])) rfl (by kernel_rfl) (by kernel_rfl) (by kernel_rfl) (fun _ _ _ h => h) (Or.inl ⟨by rfl, ?_⟩) (by assumption) ?_
        · intro W hSW; obtain ⟨h1, h2, h3, h4⟩ := hSW; go_simp
        simp only [Act.put, List.setIfInBounds_toArray, List.set_cons_zero, List.set_cons_succ]
        refine wpAnyH_take (i := 5) (oi := ⟨some 19, _, _, _, _, _⟩) (v := (.slice (some ⟨P, o, none⟩) N cap)) rfl (by kernel_rfl) (by kernel_rfl) (by kernel_rfl) (fun _ _ _ h => h) (Or.inl ⟨by rfl, ?_⟩) (by assumption) ?_
        · intro W hSW; obtain ⟨h1, h2, h3, h4⟩ := hSW; go_simp
        simp only [Act.put, List.setIfInBounds_toArray, List.set_cons_zero, List.set_cons_succ]
        refine wpAnyH_take (i := 6) (oi := ⟨some 20, _, _, _, _, _⟩) (v := (.int .i64 (i : Nat))) rfl (by kernel_rfl) (by kernel_rfl) (by kernel_rfl) (fun _ _ _ h => h) (Or.inl ⟨by rfl, ?_⟩) (by assumption) ?_
        · intro W hSW; obtain ⟨h1, h2, h3, h4⟩ := hSW; go_simp
        simp only [Act.put, List.setIfInBounds_toArray, List.set_cons_zero, List.set_cons_succ]
        refine wpAnyH_take (i := 7) (oi := ⟨some 21, _, _, _, _, _⟩) (v := (.pointer (some ⟨P, o + i * 6, none⟩))) rfl (by kernel_rfl) (by kernel_rfl) (by kernel_rfl) (fun _ _ _ h => h) (Or.inl ⟨by rfl, ?_⟩) (by assumption) ?_
        · intro W hSW; obtain ⟨h1, h2, h3, h4⟩ := hSW; go_simp
        simp only [Act.put, List.setIfInBounds_toArray, List.set_cons_zero, List.set_cons_succ]
        refine wpAnyH_take (i := 8) (oi := ⟨some 22, _, _, _, _, _⟩) (v := (.pointer (some ⟨P, o + i * 6, none⟩))) rfl (by kernel_rfl) (by kernel_rfl) (by kernel_rfl) (fun _ _ _ h => h) (Or.inl ⟨by rfl, ?_⟩) (by assumption) ?_
        · intro W hSW; obtain ⟨h1, h2, h3, h4⟩ := hSW; go_simp
        simp only [Act.put, List.setIfInBounds_toArray, List.set_cons_zero, List.set_cons_succ]
        refine wpAnyH_take (i := 9) (oi := ⟨some 23, _, _, _, _, _⟩) (v := (.agg #[.int .i64 x.n, .int .i64 x.c])) rfl (by kernel_rfl) (by kernel_rfl) (by kernel_rfl) (fun _ _ _ h => h) (Or.inl ⟨by rfl, ?_⟩) (by assumption) ?_
        · intro W hSW; obtain ⟨h1, h2, h3, h4⟩ := hSW; go_simp
        simp only [Act.put, List.setIfInBounds_toArray, List.set_cons_zero, List.set_cons_succ]
        refine wpAnyH_ready (rs := [10]) (by kernel_rfl) (by simp) ?_
        refine AllReadyH.cons rfl (fun KK hKK => ?_) AllReadyH.nil
        go_simp
        refine (rbelow_ok u x _).mono ?_
        rintro r1 w2 ⟨rfl, a2⟩
        have HA2 := hid (HA.out.drew.trans a2)
        dsimp only
        refine hKK.out _ _ ⟨(a2.cell (p := ⟨w.heap.size, 0, none⟩) hNB (by simp)).trans u0, (a2.cell (p := ⟨w.heap.size, 1, none⟩) hNB (by simp)).trans u1, (a2.cell (p := ⟨P, o + i * 6, none⟩) hP (by simp)).trans c0, (a2.cell (p := ⟨P, o + i * 6 + 1, none⟩) hP (by simp)).trans c1⟩ (fun hHeld => ?_)
        clear hKK KK
        refine wpAnyH_take (i := 11) (oi := ⟨some 25, _, _, _, _, _⟩) (v := (.bool (below u x))) rfl (by kernel_rfl) (by kernel_rfl) (by kernel_rfl) (fun _ _ _ h => h) (Or.inl ⟨by rfl, ?_⟩) (by assumption) ?_
        · intro W hSW; obtain ⟨h1, h2, h3, h4⟩ := hSW; go_simp
        simp only [Act.put, List.setIfInBounds_toArray, List.set_cons_zero, List.set_cons_succ]
        refine wpAnyH_done (by kernel_rfl) ?_ _
        cases hb : below u x
        · obtain ⟨s', W', hrun, own', hn', ap'⟩ := run_appE (s := ⟨ps, ns, cs⟩) (HO.out.kept ((Apart.refl [] wr).drew.trans a2)) (by show ns ≤ _; omega) x 39
          have k0 := (a2.cell (p := ⟨P, o + i * 6, none⟩) hP (by simp)).trans c0
          have k1 := (a2.cell (p := ⟨P, o + i * 6 + 1, none⟩) hP (by simp)).trans c1
          have k2 := (a2.cell (p := ⟨P, o + i * 6 + 2, none⟩) hP (by simp)).trans c2
          have k3 := (a2.cell (p := ⟨P, o + i * 6 + 3, none⟩) hP (by simp)).trans c3
          have k4 := (a2.cell (p := ⟨P, o + i * 6 + 4, none⟩) hP (by simp)).trans c4
          have k5 := (a2.cell (p := ⟨P, o + i * 6 + 5, none⟩) hP (by simp)).trans c5
          have HO2 := hid own'
          have HAP2 := hid ap'
          clear own' ap' hn' c0 c1 c2 c3 c4 c5 u0 u1 u2 u3 u4 u5 a2
          unfold Sl.v boxE at hrun
          go_wp2_with (at_builtin; refine wpList_append3 rfl (.tmp 30) (.tmp 35) 39 rfl _ _ rfl rfl _ _ hrun ?_)
          go_wp2
          go_roundw
          case rel => exact ⟨i + 1, s', by go_num, by omega, rfl, by rw [HTK.out, List.any_append, HD.out]; simp [hb], by rw [HTK.out, outE_step3 HD.out hb]; exact HO2.out, HA2.out.trans' HAP2.out (fun y hy => .inr (HO.out.nw.new y (by simpa using hy)))⟩
          case measure => simp [intOf]; omega
        · obtain ⟨s1, W3, hrun1, own1, hn1, ap1⟩ := run_appE (s := ⟨ps, ns, cs⟩) (HO.out.kept ((Apart.refl [] wr).drew.trans a2)) (by show ns ≤ _; omega) u 39
          have v0 := (a2.cell (p := ⟨w.heap.size, 0, none⟩) hNB (by simp)).trans u0
          have v1 := (a2.cell (p := ⟨w.heap.size, 1, none⟩) hNB (by simp)).trans u1
          have v2 := (a2.cell (p := ⟨w.heap.size, 2, none⟩) hNB (by simp)).trans u2
          have v3 := (a2.cell (p := ⟨w.heap.size, 3, none⟩) hNB (by simp)).trans u3
          have v4 := (a2.cell (p := ⟨w.heap.size, 4, none⟩) hNB (by simp)).trans u4
          have v5 := (a2.cell (p := ⟨w.heap.size, 5, none⟩) hNB (by simp)).trans u5
          obtain ⟨s2, W4, hrun2, own2, hn2, ap2⟩ := run_appE own1 (by rw [hn1]; show ns + 1 ≤ _; omega) x 39
          have hP2 : P < w2.heap.size := Nat.lt_of_lt_of_le hP a2.size
          have hX1 : P ∉ (Sl.v ⟨ps, ns, cs⟩).ownBlock.toList := fun hm => by
            have := HO.out.nw.new P (by simpa using hm)
            simp at this; omega
          have k0 := (ap1.cell (p := ⟨P, o + i * 6, none⟩) hP2 hX1).trans ((a2.cell (p := ⟨P, o + i * 6, none⟩) hP (by simp)).trans c0)
          have k1 := (ap1.cell (p := ⟨P, o + i * 6 + 1, none⟩) hP2 hX1).trans ((a2.cell (p := ⟨P, o + i * 6 + 1, none⟩) hP (by simp)).trans c1)
          have k2 := (ap1.cell (p := ⟨P, o + i * 6 + 2, none⟩) hP2 hX1).trans ((a2.cell (p := ⟨P, o + i * 6 + 2, none⟩) hP (by simp)).trans c2)
          have k3 := (ap1.cell (p := ⟨P, o + i * 6 + 3, none⟩) hP2 hX1).trans ((a2.cell (p := ⟨P, o + i * 6 + 3, none⟩) hP (by simp)).trans c3)
          have k4 := (ap1.cell (p := ⟨P, o + i * 6 + 4, none⟩) hP2 hX1).trans ((a2.cell (p := ⟨P, o + i * 6 + 4, none⟩) hP (by simp)).trans c4)
          have k5 := (ap1.cell (p := ⟨P, o + i * 6 + 5, none⟩) hP2 hX1).trans ((a2.cell (p := ⟨P, o + i * 6 + 5, none⟩) hP (by simp)).trans c5)
          have HO1 := hid own1
          have HO2 := hid own2
          have HAP1 := hid ap1
          have HAP2 := hid ap2
          clear own1 own2 ap1 ap2 hn1 hn2 c0 c1 c2 c3 c4 c5 u0 u1 u2 u3 u4 u5 a2 hX1
          unfold Sl.v boxE at hrun1 hrun2
          go_wp2_with (first | (at_builtin; refine wpList_append3 rfl (.tmp 26) (.tmp 28) 39 rfl _ _ rfl rfl _ _ hrun1 ?_) | (at_builtin; refine wpList_append3 rfl (.tmp 30) (.tmp 35) 39 rfl _ _ rfl rfl _ _ hrun2 ?_))
          go_wp2
          go_roundw
          case rel => exact ⟨i + 1, s2, by go_num, by omega, rfl, by rw [HTK.out, List.any_append, HD.out]; simp [hb], by rw [HTK.out, outE_step2 HD.out hb]; exact HO2.out, HO2.out.nw.ap⟩
          case measure => simp [intOf]; omega
      · have HD := hid hd
        clear hd
        go_wp2_with fail
        refine wp_region_held_drew (S := fun X => X.cell? ⟨w.heap.size, 0, none⟩ = some (.int .i64 u.n) ∧ X.cell? ⟨w.heap.size, 1, none⟩ = some (.int .i64 u.c) ∧ X.cell? ⟨P, o + i * 6, none⟩ = some (.int .i64 x.n) ∧ X.cell? ⟨P, o + i * 6 + 1, none⟩ = some (.int .i64 x.c)) (by kernel_rfl) ⟨u0, u1, c0, c1⟩ (fun hHeld => ?_)
        refine wpAnyH_take (i := 0) (oi := ⟨some 14, _, _, _, _, _⟩) (v := (.bool true)) rfl (by kernel_rfl) (by kernel_rfl) (by kernel_rfl) (fun _ _ _ h => h) (Or.inl ⟨by rfl, ?_⟩) (by assumption) ?_
        · intro W hSW; obtain ⟨h1, h2, h3, h4⟩ := hSW; go_simp
        simp only [Act.put, List.setIfInBounds_toArray, List.set_cons_zero, List.set_cons_succ]
        refine wpAnyH_take (i := 1) (oi := ⟨some 15, _, _, _, _, _⟩) (v := (.bool false)) rfl (by kernel_rfl) (by kernel_rfl) (by kernel_rfl) (fun _ _ _ h => h) (Or.inl ⟨by rfl, ?_⟩) (by assumption) ?_
        · intro W hSW; obtain ⟨h1, h2, h3, h4⟩ := hSW; go_simp
        simp only [Act.put, List.setIfInBounds_toArray, List.set_cons_zero, List.set_cons_succ]
        refine wpAnyH_take (i := 2) (oi := ⟨some 16, _, _, _, _, _⟩) (v := (.bool false)) rfl (by kernel_rfl) (by kernel_rfl) (by kernel_rfl) (fun _ _ _ h => h) (Or.inl ⟨by rfl, ?_⟩) (by assumption) ?_
        · intro W hSW; obtain ⟨h1, h2, h3, h4⟩ := hSW; go_simp
        simp only [Act.put, List.setIfInBounds_toArray, List.set_cons_zero, List.set_cons_succ]
        refine wpAnyH_take (i := 3) (oi := ⟨some 17, _, _, _, _, _⟩) (v := undef) rfl (by kernel_rfl) (by kernel_rfl) (by kernel_rfl) (fun _ _ _ h => h) (Or.inr ⟨by rfl, rfl⟩) (by assumption) ?_
        simp only [Act.put, List.setIfInBounds_toArray, List.set_cons_zero, List.set_cons_succ]
        refine wpAnyH_take (i := 4) (oi := ⟨some 18, _, _, _, _, _⟩) (v := undef) rfl (by kernel_rfl) (by kernel_rfl) (by kernel_rfl) (fun _ _ _ h => h) (Or.inr ⟨by rfl, rfl⟩) (by assumption) ?_
        simp only [Act.put, List.setIfInBounds_toArray, List.set_cons_zero, List.set_cons_succ]
        refine wpAnyH_take (i := 5) (oi := ⟨some 19, _, _, _, _, _⟩) (v := undef) rfl (by kernel_rfl) (by kernel_rfl) (by kernel_rfl) (fun _ _ _ h => h) (Or.inr ⟨by rfl, rfl⟩) (by assumption) ?_
        simp only [Act.put, List.setIfInBounds_toArray, List.set_cons_zero, List.set_cons_succ]
        refine wpAnyH_take (i := 6) (oi := ⟨some 20, _, _, _, _, _⟩) (v := undef) rfl (by kernel_rfl) (by kernel_rfl) (by kernel_rfl) (fun _ _ _ h => h) (Or.inr ⟨by rfl, rfl⟩) (by assumption) ?_
        simp only [Act.put, List.setIfInBounds_toArray, List.set_cons_zero, List.set_cons_succ]
        refine wpAnyH_take (i := 7) (oi := ⟨some 21, _, _, _, _, _⟩) (v := undef) rfl (by kernel_rfl) (by kernel_rfl) (by kernel_rfl) (fun _ _ _ h => h) (Or.inr ⟨by rfl, rfl⟩) (by assumption) ?_
        simp only [Act.put, List.setIfInBounds_toArray, List.set_cons_zero, List.set_cons_succ]
        refine wpAnyH_take (i := 8) (oi := ⟨some 22, _, _, _, _, _⟩) (v := undef) rfl (by kernel_rfl) (by kernel_rfl) (by kernel_rfl) (fun _ _ _ h => h) (Or.inr ⟨by rfl, rfl⟩) (by assumption) ?_
        simp only [Act.put, List.setIfInBounds_toArray, List.set_cons_zero, List.set_cons_succ]
        refine wpAnyH_take (i := 9) (oi := ⟨some 23, _, _, _, _, _⟩) (v := undef) rfl (by kernel_rfl) (by kernel_rfl) (by kernel_rfl) (fun _ _ _ h => h) (Or.inr ⟨by rfl, rfl⟩) (by assumption) ?_
        simp only [Act.put, List.setIfInBounds_toArray, List.set_cons_zero, List.set_cons_succ]
        refine wpAnyH_take (i := 10) (oi := ⟨some 24, _, _, _, _, _⟩) (v := undef) rfl (by kernel_rfl) (by kernel_rfl) (by kernel_rfl) (fun _ _ _ h => h) (Or.inr ⟨by rfl, rfl⟩) (by assumption) ?_
        simp only [Act.put, List.setIfInBounds_toArray, List.set_cons_zero, List.set_cons_succ]
        refine wpAnyH_take (i := 11) (oi := ⟨some 25, _, _, _, _, _⟩) (v := (.bool false)) rfl (by kernel_rfl) (by kernel_rfl) (by kernel_rfl) (fun _ _ _ h => h) (Or.inl ⟨by rfl, ?_⟩) (by assumption) ?_
        · intro W hSW; obtain ⟨h1, h2, h3, h4⟩ := hSW; go_simp
        simp only [Act.put, List.setIfInBounds_toArray, List.set_cons_zero, List.set_cons_succ]
        refine wpAnyH_done (by kernel_rfl) ?_ _
        obtain ⟨s', W', hrun, own', hn', ap'⟩ := run_appE (s := ⟨ps, ns, cs⟩) (HO.out.kept ((Apart.refl [] wr).drew)) (by show ns ≤ _; omega) x 39
        have k0 : wr.drew.cell? ⟨P, o + i * 6, none⟩ = _ := c0
        have k1 : wr.drew.cell? ⟨P, o + i * 6 + 1, none⟩ = _ := c1
        have k2 : wr.drew.cell? ⟨P, o + i * 6 + 2, none⟩ = _ := c2
        have k3 : wr.drew.cell? ⟨P, o + i * 6 + 3, none⟩ = _ := c3
        have k4 : wr.drew.cell? ⟨P, o + i * 6 + 4, none⟩ = _ := c4
        have k5 : wr.drew.cell? ⟨P, o + i * 6 + 5, none⟩ = _ := c5
        have HO2 := hid own'
        clear own' ap' hn' u0 u1 u2 u3 u4 u5
        unfold Sl.v boxE at hrun
        go_wp2_with (at_builtin; refine wpList_append3 rfl (.tmp 30) (.tmp 35) 39 rfl _ _ rfl rfl _ _ hrun ?_)
        go_wp2
        go_roundw
        case rel => exact ⟨i + 1, s', by go_num, by omega, rfl, by rw [HTK.out, List.any_append, HD.out]; simp, by rw [HTK.out, outE_step1 HD.out]; exact HO2.out, HO2.out.nw.ap⟩
        case measure => simp [intOf]; omega
    · obtain rfl : i = N := by omega
      have htk : es.take i = es := List.take_of_length_le (by rw [HN.out]; exact Nat.le_refl _)
      rw [htk] at HO
      obtain ⟨u0, u1, u2, u3, u4, u5⟩ := row6 HCr.out
      unfold Sl.v at u4 u5
      unfold E.agg Sl.v at hbu
      clear hbx
      cases hd : (es.take i).any (below u)
      · rw [htk] at hd
        obtain ⟨s', W', hrun, own', hn', ap'⟩ := run_appE (s := ⟨ps, ns, cs⟩) HO.out (by show ns ≤ _; omega) u 39
        have HO2 := hid own'
        have HD := hid hd
        clear own' ap' hn' hd htk
        unfold Sl.v boxE at hrun
        go_wp2_with (at_builtin; refine wpList_append3 rfl (.tmp 39) (.tmp 41) 39 rfl _ _ rfl rfl _ _ hrun ?_)
        go_wp2
        go_ret
        exact ⟨s', rfl, ⟨⟨by rw [insE_end HD.out]; exact HO2.out.nw.own, fun k hk => Nat.le_trans HB.out.size (HO2.out.nw.new k hk), HB.out.trans HO2.out.nw.ap⟩, by rw [insE_end HD.out]; exact HO2.out.len⟩⟩
      · rw [htk] at hd
        have HD := hid hd
        clear hd htk
        go_wp2
        go_ret
        have e1 : outE u es = insE u es := by unfold outE; rw [if_pos HD.out]
        exact ⟨⟨ps, ns, cs⟩, rfl, ⟨⟨by rw [← e1]; exact HO.out.nw.own, fun k hk => Nat.le_trans HB.out.size (HO.out.nw.new k hk), HB.out.trans HO.out.nw.ap⟩, by rw [← e1]; exact HO.out.len⟩⟩
end Go.Proofs.YtokaeiahhmaokaaDoor.ds
namespace Go.Proofs.YtokaeiahhmaokaaDoor.ds
open Go.ChangeShapes Go.WideShapes Go.ChangeAt Go.RowKit Go.Sort
set_option linter.unusedVariables false
set_option linter.unusedSimpArgs false
/-- what Merge leaves, of the writes as they lie in memory; X: how their contexts read -/
noncomputable def leftE (X : E → List S) (es : List E) (u : E) : List E := es.filter fun t => !cvE (X u) u t
noncomputable def mergeE (X : E → List S) (es : List E) (u : E) : List E := if (leftE X es u).any (fun t => cvE (X t) t u) = true then leftE X es u else insE u (leftE X es u)
theorem leftE_len (X : E → List S) (es : List E) (u : E) : (leftE X es u).length ≤ es.length := List.length_filter_le _ _
theorem mergeE_len (X : E → List S) (es : List E) (u : E) : (mergeE X es u).length ≤ es.length + 1 := by
  have := leftE_len X es u
  unfold mergeE
  split
  · omega
  · rw [insE_length]; omega
theorem leftE_snoc (X : E → List S) (l : List E) (x u : E) : leftE X (l ++ [x]) u = leftE X l u ++ (if cvE (X u) u x = true then [] else [x]) := by
  unfold leftE
  rw [List.filter_append]
  by_cases h : cvE (X u) u x = true
  · simp [h]
  · simp [h]
/-- what Merge answers: the error, the list -/
noncomputable def merr (X : E → List S) (es : List E) (u : E) (lim : Int) : Int := if es.any (fun t => !keq t.k u.k) = true then 50 else if es.any (fun t => deq t u) = true then 0 else if lim < (mergeE X es u).length then 51 else 0
noncomputable def mlist (X : E → List S) (es : List E) (u : E) (lim : Int) : List E := if es.any (fun t => !keq t.k u.k) = true then [] else if es.any (fun t => deq t u) = true then es else if lim < (mergeE X es u).length then [] else mergeE X es u
end Go.Proofs.YtokaeiahhmaokaaDoor.ds
namespace Go.Proofs.YtokaeiahhmaokaaDoor.ds
open Go.ChangeShapes Go.WideShapes Go.ChangeAt Go.RowKit Go.Sort
set_option linter.unusedVariables false
set_option linter.unusedSimpArgs false
theorem neq24 (W : World) (a b : Int) : Sem.run Tryd.prog (binOp BinOp.neq 24 (.agg #[.int .i64 a, .int .i64 b]) (.agg #[.int .i64 a, .int .i64 b])) W = .ok (.bool false) W := by
  have hS : Tryd.prog.underlying 24 = some (.struct (Tryd.prog.fieldsOf 24)) := by kernel_rfl
  have hp : Tryd.prog.stoodInHeld 24 = false := by kernel_rfl
  rw [run_neq_struct, show (10000 : Nat) = 9998 + 1 + 1 from rfl, run_equalIn_agg _ _ _ _ _ hS hp]
  simp only [Program.fieldsOf, Tryd.underlying24]
  simp [go_sem, Tryd.underlying3]
theorem neq38 (W : World) (a b : Int) (c : Int) : Sem.run Tryd.prog (binOp BinOp.neq 80 (.agg #[.int .i64 a, .int .i64 b, .int .u64 c]) (.agg #[.int .i64 a, .int .i64 b, .int .u64 c])) W = .ok (.bool false) W := by
  rw [neq52]; simp
theorem byts_at {w : World} {p : Option Addr} {bs : List Nat} (h : Rd w p (byts bs)) (h0 : 0 < bs.length) : ∃ P o, p = some ⟨P, o, none⟩ ∧ P < w.heap.size ∧ ∀ i (hi : i < bs.length), w.cell? ⟨P, o + i, none⟩ = some (.int .u8 ((bs[i] : Nat) : Int)) := by
  obtain ⟨P, o, e, hP, hc⟩ := h (by simpa [byts] using h0)
  refine ⟨P, o, e, hP, fun i hi => hc i _ ?_⟩
  simp [byts, List.getElem?_eq_getElem hi]
set_option maxHeartbeats 4000000 in
set_option maxRecDepth 100000 in
theorem same_yes (a b : E) (r : Wr) (w : World) (ha : Reads w a r) (hb : Reads w b r) : Calls Tryd.prog 43 #[a.agg, b.agg] w fun q w' => q = .returned (.bool true) ∧ Apart [] w w' := by
  obtain ⟨an, ac, ak, ad, ⟨ap, am, aq⟩, ⟨xp, xm, xq⟩⟩ := a
  obtain ⟨bn, bc, bk, bd, ⟨bp, bm, bq⟩, ⟨yp, ym, yq⟩⟩ := b
  obtain ⟨rn, rc, rk, rd, vs, xs⟩ := r
  obtain ⟨rfl, rfl, rfl, rfl, av, avn, avl, avb, ax, axl, avo, axo⟩ := ha
  obtain ⟨e1, e2, e3, e4, bv, bvn, bvl, bvb, bx, bxl, bvo, bxo⟩ := hb
  simp only at *
  subst e1 e2 e3 e4
  have axn := ax.len
  have bxn := bx.len
  obtain rfl : am = bm := by omega
  obtain rfl : xm = ym := by omega
  have aV : Apart [] w ((w.alloc (boxE ⟨bn, bc, bk, bd, ⟨ap, am, aq⟩, ⟨xp, xm, xq⟩⟩)).alloc (boxE ⟨bn, bc, bk, bd, ⟨bp, am, bq⟩, ⟨yp, xm, yq⟩⟩)) := ((Apart.refl [] w).alloc _).alloc _
  have hbox := box2 w ⟨bn, bc, bk, bd, ⟨ap, am, aq⟩, ⟨xp, xm, xq⟩⟩ ⟨bn, bc, bk, bd, ⟨bp, am, bq⟩, ⟨yp, xm, yq⟩⟩
  have HBX := hid hbox
  have hn24 := fun W => neq24 W bn bc
  have hg := guard24
  have hg2 := guard52
  have hkk : (bk.toList == bk.toList) = true := by simp
  obtain ⟨q1, q2⟩ := hbox _ (Apart.refl _ _)
  obtain ⟨t0, t1, t2, t3, t4, t5⟩ := row6 q1
  obtain ⟨u0, u1, u2, u3, u4, u5⟩ := row6 q2
  unfold Sl.v at t4 t5 u4 u5
  have HAV := hid av
  have HBV := hid bv
  have HAX := hid ax
  have HBX2 := hid bx
  have HVN := hid avn
  have HXN := hid axn
  have HA0 := hid aV
  clear q1 q2 hbox av bv ax bx avn bvn axn bxn aV avo axo bvo bxo avb bvb
  unfold E.agg Sl.v
  go_enter Tryd.func43, Tryd.ntmps43
  go_wp2_with fail
  clear t0 t1 t2 t3 t4 t5 u0 u1 u2 u3 u4 u5
  go_loopw [5] (fun v wr => ∃ i : Nat, v = .int .i64 (i : Nat) ∧ i ≤ am ∧ Apart [] ((w.alloc (boxE ⟨bn, bc, bk, bd, ⟨ap, am, aq⟩, ⟨xp, xm, xq⟩⟩)).alloc (boxE ⟨bn, bc, bk, bd, ⟨bp, am, bq⟩, ⟨yp, xm, yq⟩⟩)) wr) (fun v _ => am - (intOf v).toNat)
  case atStart => exact ⟨0, rfl, Nat.zero_le _, Apart.refl _ _⟩
  case round =>
    obtain ⟨i, rfl, hi, ap1⟩ := hrel
    have HA := hid ap1
    obtain ⟨q1, q2⟩ := HBX.out _ ap1
    obtain ⟨t0, t1, t2, t3, t4, t5⟩ := row6 q1
    obtain ⟨u0, u1, u2, u3, u4, u5⟩ := row6 q2
    unfold Sl.v at t4 t5 u4 u5
    clear q1 q2 ap1 t0 t1 t2 t3 u0 u1 u2 u3
    by_cases hlt : i < am
    · obtain ⟨P, o, rfl, hP, hc⟩ := byts_at (HAV.out.kept0 (HA0.out.trans HA.out)) (by rw [HVN.out]; omega)
      obtain ⟨P2, o2, rfl, hP2, hc2⟩ := byts_at (HBV.out.kept0 (HA0.out.trans HA.out)) (by rw [HVN.out]; omega)
      have c0 := hc i (by rw [HVN.out]; exact hlt)
      have c1 := hc2 i (by rw [HVN.out]; exact hlt)
      generalize vs[i]'(by rw [HVN.out]; exact hlt) = y at *
      clear hc hc2
      go_wp2_with fail
      go_quiet (fail)
      go_wp2
      go_roundw
      case rel => exact ⟨i + 1, by go_num, by omega, HA.out.drewN _⟩
      case measure => simp [intOf]; omega
    · obtain rfl : i = am := by omega
      go_wp2_with fail
      clear t4 t5 u4 u5
      go_loopw [6] (fun v wr => ∃ j : Nat, v = .int .i64 (j : Nat) ∧ j ≤ xm ∧ Apart [] ((w.alloc (boxE ⟨bn, bc, bk, bd, ⟨ap, i, aq⟩, ⟨xp, xm, xq⟩⟩)).alloc (boxE ⟨bn, bc, bk, bd, ⟨bp, i, bq⟩, ⟨yp, xm, yq⟩⟩)) wr) (fun v _ => xm - (intOf v).toNat)
      case atStart => exact ⟨0, rfl, Nat.zero_le _, HA.out⟩
      case round =>
        clear HA
        obtain ⟨j, rfl, hj, ap1⟩ := hrel
        have HA := hid ap1
        obtain ⟨q1, q2⟩ := HBX.out _ ap1
        obtain ⟨t0, t1, t2, t3, t4, t5⟩ := row6 q1
        obtain ⟨u0, u1, u2, u3, u4, u5⟩ := row6 q2
        unfold Sl.v at t4 t5 u4 u5
        clear q1 q2 ap1 t0 t1 t2 t3 u0 u1 u2 u3
        by_cases hlt : j < xm
        · obtain ⟨P, o, rfl, hP, hc⟩ := (HAX.out.kept0 (HA0.out.trans HA.out)).sp (by rw [HXN.out]; omega)
          obtain ⟨P2, o2, rfl, hP2, hc2⟩ := (HBX2.out.kept0 (HA0.out.trans HA.out)).sp (by rw [HXN.out]; omega)
          obtain ⟨c0, c1, c2⟩ := hc j (by rw [HXN.out]; exact hlt)
          obtain ⟨d0, d1, d2⟩ := hc2 j (by rw [HXN.out]; exact hlt)
          have hn38 := fun W => neq38 W (g xs j).n (g xs j).b ((g xs j).t : Int)
          clear hc hc2
          go_wp2_with fail
          go_quiet (fail)
          go_wp2
          go_roundw
          case rel => exact ⟨j + 1, by go_num, by omega, HA.out.drewN _⟩
          case measure => simp [intOf]; omega
        · obtain rfl : j = xm := by omega
          go_wp2
          go_ret
          exact ⟨rfl, HA0.out.trans HA.out⟩
end Go.Proofs.YtokaeiahhmaokaaDoor.ds
