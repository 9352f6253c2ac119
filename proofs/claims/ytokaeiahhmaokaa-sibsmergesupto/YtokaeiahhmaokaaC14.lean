import Derived.Test.YtokaeiahhmaokaaC13
namespace Go.Proofs.Ytokaeiahhmaokaa.ds
open Go.ChangeShapes Go.WideShapes Go.ChangeAt Go.RowKit Go.Sort
set_option linter.unusedVariables false
set_option linter.unusedSimpArgs false
/-- a list of writes that came in -/
structure In (w : World) (s : Sl) (es : List E) (rs : List Wr) : Prop where
  le : LE w s.p s.n es
  n : s.n ≤ 1048576
  len : rs.length = s.n
  rd : ∀ j, j < s.n → Reads w (gE es j) (gR rs j)
theorem In.kept0 {w w' : World} {s : Sl} {es : List E} {rs : List Wr} (h : In w s es rs) (a : Apart [] w w') : In w' s es rs := ⟨h.le.kept0 a, h.n, h.len, fun j hj => (h.rd j hj).kept0 a⟩
/-- the sets of a case -/
def Sets (w : World) (p : Option Addr) (n : Nat) (F : Nat → Sl × List E × List Wr) : Prop :=
  0 < n → ∃ P o, p = some ⟨P, o, none⟩ ∧ P < w.heap.size ∧ ∀ i, i < n → w.cell? ⟨P, o + i, none⟩ = some (F i).1.v ∧ In w (F i).1 (F i).2.1 (F i).2.2
theorem mergesO (w : World) (S B : Value) (u : E) (lim gap : Int) : (w.alloc (caseO S B u lim gap)).heap[w.heap.size]? = some (.cells #[S, .int .i64 u.n, .int .i64 u.c, .string u.k, .bool u.d, .slice u.v.p u.v.n u.v.c, .slice u.x.p u.x.n u.x.c, B, .int .i64 lim, .int .i64 gap] 31 (0, 0)) := heap_alloc_new w _
theorem caseCells {w : World} {C : Nat} {a b c d e f g h i j : Value} {t : TypeId} (hr : w.heap[C]? = some (.cells #[a, b, c, d, e, f, g, h, i, j] t (0, 0))) : w.cell? ⟨C, 0, none⟩ = some a ∧ w.cell? ⟨C, 1, none⟩ = some b ∧ w.cell? ⟨C, 2, none⟩ = some c ∧ w.cell? ⟨C, 3, none⟩ = some d ∧ w.cell? ⟨C, 4, none⟩ = some e ∧ w.cell? ⟨C, 5, none⟩ = some f ∧ w.cell? ⟨C, 6, none⟩ = some g ∧ w.cell? ⟨C, 7, none⟩ = some h ∧ w.cell? ⟨C, 8, none⟩ = some i ∧ w.cell? ⟨C, 9, none⟩ = some j := by
  refine ⟨?_, ?_, ?_, ?_, ?_, ?_, ?_, ?_, ?_, ?_⟩ <;> (rw [cell_of_row _ _ _ _ _ _ hr]; rfl)
set_option maxHeartbeats 8000000 in
set_option maxRecDepth 100000 in
theorem merges_walk (w : World) (sp : Option Addr) (n sc : Nat) (B : Value) (u : E) (ru : Wr) (lim gap : Int) (F : Nat → Sl × List E × List Wr) (hS : Sets w sp n F) (hn : n ≤ 9223372036854775807) (hu : Reads w u ru) (hB : B.oneCell' = true) :
    Calls Try.prog 3 #[.agg #[.slice sp n sc, .int .i64 u.n, .int .i64 u.c, .string u.k, .bool u.d, u.v.v, u.x.v, B, .int .i64 lim, .int .i64 gap]] w fun r w' => r = .returned (.bool true) ∧ Apart [] w w' := by
  obtain ⟨wB, hwB⟩ : ∃ wB, wB = w.alloc (caseO (.slice sp n sc) B u lim gap) := ⟨_, rfl⟩
  have aB : Apart [] w wB := by rw [hwB]; exact (Apart.refl [] w).alloc _
  have bC := mergesO w (.slice sp n sc) B u lim gap
  rw [← hwB] at bC
  have HBC := hid bC
  have HB := hid aB
  have HSS := hid hS
  have HU := hid hu
  have hAb := able_ok wB
  unfold caseO Sl.v at hwB
  unfold Sl.v
  clear bC aB hS hu
  go_enter Try.func3, Try.ntmps3
  go_upto_region 1 with fail
  rw [← hwB]
  clear hwB
  go_wp2_with fail
  refine hAb.mono ?_
  clear hAb
  rintro _ w1 ⟨rfl, a1⟩
  have HA1 := hid a1
  clear a1
  dsimp only
  go_wp2_with fail
  go_loopw [3] (fun v wr => ∃ i : Nat, v = .int .i64 (i : Nat) ∧ i ≤ n ∧ Apart [] wB wr) (fun v _ => n - (intOf v).toNat)
  case atStart => exact ⟨0, rfl, Nat.zero_le _, HA1.out⟩
  case round =>
    obtain ⟨i, rfl, hi, ap⟩ := hrel
    have HA := hid ap
    clear ap HA1
    by_cases hlt : i < n
    · obtain ⟨P, o, rfl, hP, hc⟩ := HSS.out (by omega)
      have HC := hid (hc i hlt)
      have HW : Hid (∀ W : World, Apart [] wB W → W.cell? ⟨w.heap.size, 0, none⟩ = some (.slice (some ⟨P, o, none⟩) n sc) ∧ W.cell? ⟨w.heap.size, 1, none⟩ = some (.int .i64 u.n) ∧ W.cell? ⟨w.heap.size, 2, none⟩ = some (.int .i64 u.c) ∧ W.cell? ⟨w.heap.size, 3, none⟩ = some (.string u.k) ∧ W.cell? ⟨w.heap.size, 4, none⟩ = some (.bool u.d) ∧ W.cell? ⟨w.heap.size, 5, none⟩ = some (.slice u.v.p u.v.n u.v.c) ∧ W.cell? ⟨w.heap.size, 6, none⟩ = some (.slice u.x.p u.x.n u.x.c) ∧ W.cell? ⟨w.heap.size, 7, none⟩ = some B ∧ W.cell? ⟨w.heap.size, 8, none⟩ = some (.int .i64 lim) ∧ W.cell? ⟨w.heap.size, 9, none⟩ = some (.int .i64 gap) ∧ W.cell? ⟨P, o + i, none⟩ = some (.slice (F i).1.p (F i).1.n (F i).1.c)) := fun W a => by
        obtain ⟨b0, b1, b2, b3, b4, b5, b6, b7, b8, b9⟩ := caseCells ((a.block _ (lt_of_heap HBC.out) (by simp)).trans HBC.out)
        exact ⟨b0, b1, b2, b3, b4, b5, b6, b7, b8, b9, ((HB.out.trans a).cell hP (by simp)).trans HC.out.1⟩
      have hI := HC.out.2.kept0 (HB.out.trans HA.out.drew)
      have hMl := merged_law wr.drew (.slice (some ⟨P, o, none⟩) n sc) B u ru lim gap (F i).1.p (F i).1.n (F i).1.c (F i).2.1 (F i).2.2 hI.le hI.n hI.len hI.rd (HU.out.kept0 (HB.out.trans HA.out.drew))
      obtain ⟨x0, _⟩ := HW.out wr HA.out
      unfold Sl.v at hMl
      clear hc hI
      go_wp2_with fail
      refine wp_region_held_drew (S := fun X => Apart [] wB X) (by kernel_rfl) HA.out.drew (fun hHeld => ?_)
      refine wpAnyH_take (i := 0) (oi := ⟨some 13, _, _, _, _, _⟩) (v := (.agg #[.slice (some ⟨P, o, none⟩) n sc, .int .i64 u.n, .int .i64 u.c, .string u.k, .bool u.d, .slice u.v.p u.v.n u.v.c, .slice u.x.p u.x.n u.x.c, B, .int .i64 lim, .int .i64 gap])) rfl (by kernel_rfl) (by kernel_rfl) (by kernel_rfl) (fun _ _ _ h => h) (Or.inl ⟨by rfl, ?_⟩) (by assumption) ?_
      · intro W hSW; obtain ⟨b0, b1, b2, b3, b4, b5, b6, b7, b8, b9, bS⟩ := HW.out W hSW; go_simp
      simp only [Act.put, List.setIfInBounds_toArray, List.set_cons_zero, List.set_cons_succ]
      refine wpAnyH_take (i := 1) (oi := ⟨some 14, _, _, _, _, _⟩) (v := (.pointer (some ⟨w.heap.size, 0, none⟩))) rfl (by kernel_rfl) (by kernel_rfl) (by kernel_rfl) (fun _ _ _ h => h) (Or.inl ⟨by rfl, ?_⟩) (by assumption) ?_
      · intro W hSW; go_simp
      simp only [Act.put, List.setIfInBounds_toArray, List.set_cons_zero, List.set_cons_succ]
      refine wpAnyH_take (i := 2) (oi := ⟨some 15, _, _, _, _, _⟩) (v := (.slice (some ⟨P, o, none⟩) n sc)) rfl (by kernel_rfl) (by kernel_rfl) (by kernel_rfl) (fun _ _ _ h => h) (Or.inl ⟨by rfl, ?_⟩) (by assumption) ?_
      · intro W hSW; obtain ⟨b0, b1, b2, b3, b4, b5, b6, b7, b8, b9, bS⟩ := HW.out W hSW; go_simp
      simp only [Act.put, List.setIfInBounds_toArray, List.set_cons_zero, List.set_cons_succ]
      refine wpAnyH_take (i := 3) (oi := ⟨some 16, _, _, _, _, _⟩) (v := (.int .i64 (i : Int))) rfl (by kernel_rfl) (by kernel_rfl) (by kernel_rfl) (fun _ _ _ h => h) (Or.inl ⟨by rfl, ?_⟩) (by assumption) ?_
      · intro W hSW; go_simp
      simp only [Act.put, List.setIfInBounds_toArray, List.set_cons_zero, List.set_cons_succ]
      refine wpAnyH_take (i := 4) (oi := ⟨some 17, _, _, _, _, _⟩) (v := (.pointer (some ⟨P, o + i, none⟩))) rfl (by kernel_rfl) (by kernel_rfl) (by kernel_rfl) (fun _ _ _ h => h) (Or.inl ⟨by rfl, ?_⟩) (by assumption) ?_
      · intro W hSW; go_simp
      simp only [Act.put, List.setIfInBounds_toArray, List.set_cons_zero, List.set_cons_succ]
      refine wpAnyH_take (i := 5) (oi := ⟨some 18, _, _, _, _, _⟩) (v := (.slice (F i).1.p (F i).1.n (F i).1.c)) rfl (by kernel_rfl) (by kernel_rfl) (by kernel_rfl) (fun _ _ _ h => h) (Or.inl ⟨by rfl, ?_⟩) (by assumption) ?_
      · intro W hSW; obtain ⟨b0, b1, b2, b3, b4, b5, b6, b7, b8, b9, bS⟩ := HW.out W hSW; go_simp
      simp only [Act.put, List.setIfInBounds_toArray, List.set_cons_zero, List.set_cons_succ]
      refine wpAnyH_ready (rs := [6]) (by kernel_rfl) (by simp) ?_
      refine AllReadyH.cons rfl (fun KK hKK => ?_) AllReadyH.nil
      go_simp
      refine hMl.mono ?_
      clear hMl
      rintro _ w4 ⟨rfl, a4⟩
      have aS : Apart [] wB w4 := HA.out.drew.trans a4
      dsimp only
      refine hKK.out _ _ aS (fun hHeld => ?_)
      clear hKK KK
      refine wpAnyH_take (i := 7) (oi := ⟨some 20, _, _, _, _, _⟩) (v := (.bool false)) rfl (by kernel_rfl) (by kernel_rfl) (by kernel_rfl) (fun _ _ _ h => h) (Or.inl ⟨by rfl, ?_⟩) (by assumption) ?_
      · intro W hSW; go_simp
      simp only [Act.put, List.setIfInBounds_toArray, List.set_cons_zero, List.set_cons_succ]
      refine wpAnyH_done (by kernel_rfl) ?_ _
      have HA4 := hid aS
      clear aS a4
      go_wp2
      go_roundw
      case rel => exact ⟨i + 1, by go_num, by omega, HA4.out⟩
      case measure => simp [intOf]; omega
    · obtain rfl : n = i := by omega
      obtain ⟨b0, b1, b2, b3, b4, b5, b6, b7, b8, b9⟩ := caseCells ((HA.out.block _ (lt_of_heap HBC.out) (by simp)).trans HBC.out)
      have hMl := merged_law wr (.slice sp n sc) B u ru lim gap none 0 0 [] [] (LE.nil _ _) (by decide) rfl (fun j hj => absurd hj (by omega)) (HU.out.kept0 (HB.out.trans HA.out))
      unfold Sl.v at hMl
      go_wp2_with fail
      refine hMl.mono ?_
      clear hMl
      rintro _ w4 ⟨rfl, a4⟩
      have HA4 := hid a4
      clear a4
      dsimp only
      go_wp2
      go_ret
      exact ⟨rfl, HB.out.trans (HA.out.trans HA4.out)⟩
end Go.Proofs.Ytokaeiahhmaokaa.ds
