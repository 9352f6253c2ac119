import Derived.Test.YtokaeiahhmaokaaB3
namespace Go.Proofs.Ytokaeiahhmaokaa.ds
open Go.ChangeShapes Go.WideShapes Go.ChangeAt Go.RowKit Go.Sort
set_option linter.unusedVariables false
set_option linter.unusedSimpArgs false
theorem cov1_ok (t u : E) (B : Nat) (xs : List S) (w : World) (h : Cap w B u) (hl : L w t.x.p t.x.n xs) : Calls Try.prog 29 #[t.agg, .pointer (some ⟨B, 0, none⟩)] w fun r w' => r = .returned (.bool (cvE xs t u)) ∧ Apart [] w w' := by
  have aV : Apart [] w (w.alloc (boxE t)) := (Apart.refl [] w).alloc _
  obtain ⟨t0, t1, t2, t3, t4, t5⟩ := row6 (Cap.new w t)
  obtain ⟨u0, u1, u2, u3, u4, u5⟩ := row6 (h.kept0 aV)
  have hC := covers_ok t u xs _ (hl.kept0 aV) _ rfl
  unfold E.agg at *
  go_enter Try.func29, Try.ntmps29
  go_wp2_with fail
  refine hC.mono ?_
  clear hC
  rintro r w1 ⟨rfl, a1⟩
  go_wp2_with fail
  go_ret
  exact ⟨rfl, aV.trans a1⟩
theorem beh1_ok (t u : E) (B : Nat) (w : World) (h : Cap w B u) : Calls Try.prog 30 #[t.agg, .pointer (some ⟨B, 0, none⟩)] w fun r w' => r = .returned (.bool (below u t)) ∧ Apart [] w w' := by
  have aV : Apart [] w (w.alloc (boxE t)) := (Apart.refl [] w).alloc _
  obtain ⟨t0, t1, t2, t3, t4, t5⟩ := row6 (Cap.new w t)
  obtain ⟨u0, u1, u2, u3, u4, u5⟩ := row6 (h.kept0 aV)
  have hC := compare_ok t u (w.alloc (boxE t))
  rw [← cfE_gt t u]
  obtain ⟨z, hz⟩ : ∃ z, z = cfE t u := ⟨_, rfl⟩
  rw [← hz] at hC ⊢
  clear hz
  unfold E.agg at *
  go_enter Try.func30, Try.ntmps30
  go_wp2_with fail
  refine hC.mono ?_
  clear hC
  rintro r w1 ⟨rfl, a1⟩
  go_wp2_with fail
  go_ret
  exact ⟨rfl, aV.trans a1⟩
/-- what a predicate's call says of the writes of a list, whatever is new since -/
def Asks (w : World) (kf : Nat) (cs : Array Value) (es : List E) (f : E → Bool) : Prop := ∀ i, i < es.length → ∀ W, Apart [] w W → Calls Try.prog kf (#[(gE es i).agg] ++ cs) W fun r W' => r = .returned (.bool (f (gE es i))) ∧ Apart [] W W'
/-- the first place, or -1 -/
def idxE (f : E → Bool) (es : List E) : Int := match es.findIdx? f with
  | some k => (k : Int)
  | none => -1
theorem idxE_at {f : E → Bool} {es : List E} {j : Nat} (hj : j < es.length) (hf : f (gE es j) = true) (hn : ∀ i, i < j → f (gE es i) = false) : idxE f es = j := by
  unfold idxE
  have : es.findIdx? f = some j := by
    rw [List.findIdx?_eq_some_iff_getElem]
    refine ⟨hj, by rw [← gE_eq _ _ hj]; exact hf, fun i hi => ?_⟩
    rw [← gE_eq _ _ (by omega), hn i hi]; simp
  rw [this]
theorem idxE_none {f : E → Bool} {es : List E} (hn : ∀ i, i < es.length → f (gE es i) = false) : idxE f es = -1 := by
  unfold idxE
  have : es.findIdx? f = none := by
    rw [List.findIdx?_eq_none_iff]
    intro x hx
    obtain ⟨i, hi, rfl⟩ := List.getElem_of_mem hx
    rw [← gE_eq _ _ hi]; exact hn i hi
  rw [this]
theorem idxE_any (f : E → Bool) (es : List E) : decide (0 ≤ idxE f es) = es.any f := by
  unfold idxE
  cases h : es.findIdx? f with
  | none =>
    rw [List.findIdx?_eq_none_iff] at h
    have : es.any f = false := by rw [List.any_eq_false]; intro x hx; simp [h x hx]
    rw [this]; rfl
  | some k =>
    rw [List.findIdx?_eq_some_iff_getElem] at h
    obtain ⟨hk, h1, _⟩ := h
    have : es.any f = true := List.any_eq_true.2 ⟨_, List.getElem_mem hk, h1⟩
    rw [this]; simp
set_option maxHeartbeats 2000000 in
theorem index16 {w : World} {p : Option Addr} {N cap : Nat} {c : Value} {es : List E} (h : LE w p N es) (f : E → Bool) (hf : Asks w 16 #[c] es f) : Calls Try.prog 25 #[.slice p N cap, .func (.func 16) #[] #[c]] w fun r w' => r = .returned (.int .i64 (idxE f es)) ∧ Apart [] w w' := by
  have HL := hid h
  have HF := hid hf
  have hN := h.len
  have hl := h.lim
  have HN := hid hN
  clear h hf hN
  go_enter Try.func25, Try.ntmps25
  go_wp2
  go_loopw [8] (fun v wr => ∃ j : Nat, j ≤ N ∧ v = .int .i64 j ∧ Apart [] w wr ∧ ∀ i, i < j → f (gE es i) = false) (fun v _ => N - (intOf v).toNat)
  case atStart => exact ⟨0, Nat.zero_le _, rfl, Apart.refl _ _, fun i hi => by omega⟩
  case round =>
    obtain ⟨j, hj, rfl, ap, hno⟩ := hrel
    have HA := hid ap
    have HNO := hid hno
    clear ap hno
    by_cases hlt : j < N
    · obtain ⟨P, o, rfl, hP, hc⟩ := (HL.out.kept0 HA.out).at (by omega)
      obtain ⟨c0, c1, c2, c3, c4, c5⟩ := hc j hlt
      have hC : Calls Try.prog 16 #[(gE es j).agg, c] wr _ := HF.out j (by rw [HN.out]; exact hlt) wr HA.out
      unfold Sl.v at c4 c5
      unfold E.agg Sl.v at hC
      clear hc
      go_wp2_with fail
      refine hC.mono ?_
      clear hC
      rintro r w1 ⟨rfl, a1⟩
      clear c0 c1 c2 c3 c4 c5
      cases hb : f (gE es j)
      · go_wp2
        go_roundw
        case rel => exact ⟨j + 1, by omega, by go_num, HA.out.trans a1, fun i hi => by
          by_cases e : i = j
          · subst e; exact hb
          · exact HNO.out i (by omega)⟩
        case measure => simp [intOf]; omega
      · go_wp2
        go_ret
        exact ⟨by rw [idxE_at (by rw [HN.out]; exact hlt) hb HNO.out]; rfl, HA.out.trans a1⟩
    · obtain rfl : j = N := by omega
      go_wp2
      go_ret
      exact ⟨by rw [idxE_none (by rw [HN.out]; exact HNO.out)]; rfl, HA.out⟩
set_option maxHeartbeats 2000000 in
theorem index17 {w : World} {p : Option Addr} {N cap : Nat} {c : Value} {es : List E} (h : LE w p N es) (f : E → Bool) (hf : Asks w 17 #[c] es f) : Calls Try.prog 25 #[.slice p N cap, .func (.func 17) #[] #[c]] w fun r w' => r = .returned (.int .i64 (idxE f es)) ∧ Apart [] w w' := by
  have HL := hid h
  have HF := hid hf
  have hN := h.len
  have hl := h.lim
  have HN := hid hN
  clear h hf hN
  go_enter Try.func25, Try.ntmps25
  go_wp2
  go_loopw [8] (fun v wr => ∃ j : Nat, j ≤ N ∧ v = .int .i64 j ∧ Apart [] w wr ∧ ∀ i, i < j → f (gE es i) = false) (fun v _ => N - (intOf v).toNat)
  case atStart => exact ⟨0, Nat.zero_le _, rfl, Apart.refl _ _, fun i hi => by omega⟩
  case round =>
    obtain ⟨j, hj, rfl, ap, hno⟩ := hrel
    have HA := hid ap
    have HNO := hid hno
    clear ap hno
    by_cases hlt : j < N
    · obtain ⟨P, o, rfl, hP, hc⟩ := (HL.out.kept0 HA.out).at (by omega)
      obtain ⟨c0, c1, c2, c3, c4, c5⟩ := hc j hlt
      have hC : Calls Try.prog 17 #[(gE es j).agg, c] wr _ := HF.out j (by rw [HN.out]; exact hlt) wr HA.out
      unfold Sl.v at c4 c5
      unfold E.agg Sl.v at hC
      clear hc
      go_wp2_with fail
      refine hC.mono ?_
      clear hC
      rintro r w1 ⟨rfl, a1⟩
      clear c0 c1 c2 c3 c4 c5
      cases hb : f (gE es j)
      · go_wp2
        go_roundw
        case rel => exact ⟨j + 1, by omega, by go_num, HA.out.trans a1, fun i hi => by
          by_cases e : i = j
          · subst e; exact hb
          · exact HNO.out i (by omega)⟩
        case measure => simp [intOf]; omega
      · go_wp2
        go_ret
        exact ⟨by rw [idxE_at (by rw [HN.out]; exact hlt) hb HNO.out]; rfl, HA.out.trans a1⟩
    · obtain rfl : j = N := by omega
      go_wp2
      go_ret
      exact ⟨by rw [idxE_none (by rw [HN.out]; exact HNO.out)]; rfl, HA.out⟩
set_option maxHeartbeats 2000000 in
theorem index29 {w : World} {p : Option Addr} {N cap : Nat} {c : Value} {es : List E} (h : LE w p N es) (f : E → Bool) (hf : Asks w 29 #[c] es f) : Calls Try.prog 25 #[.slice p N cap, .func (.func 29) #[] #[c]] w fun r w' => r = .returned (.int .i64 (idxE f es)) ∧ Apart [] w w' := by
  have HL := hid h
  have HF := hid hf
  have hN := h.len
  have hl := h.lim
  have HN := hid hN
  clear h hf hN
  go_enter Try.func25, Try.ntmps25
  go_wp2
  go_loopw [8] (fun v wr => ∃ j : Nat, j ≤ N ∧ v = .int .i64 j ∧ Apart [] w wr ∧ ∀ i, i < j → f (gE es i) = false) (fun v _ => N - (intOf v).toNat)
  case atStart => exact ⟨0, Nat.zero_le _, rfl, Apart.refl _ _, fun i hi => by omega⟩
  case round =>
    obtain ⟨j, hj, rfl, ap, hno⟩ := hrel
    have HA := hid ap
    have HNO := hid hno
    clear ap hno
    by_cases hlt : j < N
    · obtain ⟨P, o, rfl, hP, hc⟩ := (HL.out.kept0 HA.out).at (by omega)
      obtain ⟨c0, c1, c2, c3, c4, c5⟩ := hc j hlt
      have hC : Calls Try.prog 29 #[(gE es j).agg, c] wr _ := HF.out j (by rw [HN.out]; exact hlt) wr HA.out
      unfold Sl.v at c4 c5
      unfold E.agg Sl.v at hC
      clear hc
      go_wp2_with fail
      refine hC.mono ?_
      clear hC
      rintro r w1 ⟨rfl, a1⟩
      clear c0 c1 c2 c3 c4 c5
      cases hb : f (gE es j)
      · go_wp2
        go_roundw
        case rel => exact ⟨j + 1, by omega, by go_num, HA.out.trans a1, fun i hi => by
          by_cases e : i = j
          · subst e; exact hb
          · exact HNO.out i (by omega)⟩
        case measure => simp [intOf]; omega
      · go_wp2
        go_ret
        exact ⟨by rw [idxE_at (by rw [HN.out]; exact hlt) hb HNO.out]; rfl, HA.out.trans a1⟩
    · obtain rfl : j = N := by omega
      go_wp2
      go_ret
      exact ⟨by rw [idxE_none (by rw [HN.out]; exact HNO.out)]; rfl, HA.out⟩
set_option maxHeartbeats 2000000 in
theorem index30 {w : World} {p : Option Addr} {N cap : Nat} {c : Value} {es : List E} (h : LE w p N es) (f : E → Bool) (hf : Asks w 30 #[c] es f) : Calls Try.prog 25 #[.slice p N cap, .func (.func 30) #[] #[c]] w fun r w' => r = .returned (.int .i64 (idxE f es)) ∧ Apart [] w w' := by
  have HL := hid h
  have HF := hid hf
  have hN := h.len
  have hl := h.lim
  have HN := hid hN
  clear h hf hN
  go_enter Try.func25, Try.ntmps25
  go_wp2
  go_loopw [8] (fun v wr => ∃ j : Nat, j ≤ N ∧ v = .int .i64 j ∧ Apart [] w wr ∧ ∀ i, i < j → f (gE es i) = false) (fun v _ => N - (intOf v).toNat)
  case atStart => exact ⟨0, Nat.zero_le _, rfl, Apart.refl _ _, fun i hi => by omega⟩
  case round =>
    obtain ⟨j, hj, rfl, ap, hno⟩ := hrel
    have HA := hid ap
    have HNO := hid hno
    clear ap hno
    by_cases hlt : j < N
    · obtain ⟨P, o, rfl, hP, hc⟩ := (HL.out.kept0 HA.out).at (by omega)
      obtain ⟨c0, c1, c2, c3, c4, c5⟩ := hc j hlt
      have hC : Calls Try.prog 30 #[(gE es j).agg, c] wr _ := HF.out j (by rw [HN.out]; exact hlt) wr HA.out
      unfold Sl.v at c4 c5
      unfold E.agg Sl.v at hC
      clear hc
      go_wp2_with fail
      refine hC.mono ?_
      clear hC
      rintro r w1 ⟨rfl, a1⟩
      clear c0 c1 c2 c3 c4 c5
      cases hb : f (gE es j)
      · go_wp2
        go_roundw
        case rel => exact ⟨j + 1, by omega, by go_num, HA.out.trans a1, fun i hi => by
          by_cases e : i = j
          · subst e; exact hb
          · exact HNO.out i (by omega)⟩
        case measure => simp [intOf]; omega
      · go_wp2
        go_ret
        exact ⟨by rw [idxE_at (by rw [HN.out]; exact hlt) hb HNO.out]; rfl, HA.out.trans a1⟩
    · obtain rfl : j = N := by omega
      go_wp2
      go_ret
      exact ⟨by rw [idxE_none (by rw [HN.out]; exact HNO.out)]; rfl, HA.out⟩
theorem contains16 {w : World} {p : Option Addr} {N cap : Nat} {c : Value} {es : List E} (h : LE w p N es) (f : E → Bool) (hf : Asks w 16 #[c] es f) : Calls Try.prog 15 #[.slice p N cap, .func (.func 16) #[] #[c]] w fun r w' => r = .returned (.bool (es.any f)) ∧ Apart [] w w' := by
  have hI := index16 (cap := cap) h f hf
  rw [← idxE_any]
  generalize idxE f es = z at *
  clear hf h
  go_enter Try.func15, Try.ntmps15
  go_wp2_with fail
  refine hI.mono ?_
  clear hI
  rintro r w1 ⟨rfl, a1⟩
  go_wp2_with fail
  go_ret
  exact ⟨rfl, a1⟩
theorem contains17 {w : World} {p : Option Addr} {N cap : Nat} {c : Value} {es : List E} (h : LE w p N es) (f : E → Bool) (hf : Asks w 17 #[c] es f) : Calls Try.prog 15 #[.slice p N cap, .func (.func 17) #[] #[c]] w fun r w' => r = .returned (.bool (es.any f)) ∧ Apart [] w w' := by
  have hI := index17 (cap := cap) h f hf
  rw [← idxE_any]
  generalize idxE f es = z at *
  clear hf h
  go_enter Try.func15, Try.ntmps15
  go_wp2_with fail
  refine hI.mono ?_
  clear hI
  rintro r w1 ⟨rfl, a1⟩
  go_wp2_with fail
  go_ret
  exact ⟨rfl, a1⟩
theorem contains29 {w : World} {p : Option Addr} {N cap : Nat} {c : Value} {es : List E} (h : LE w p N es) (f : E → Bool) (hf : Asks w 29 #[c] es f) : Calls Try.prog 15 #[.slice p N cap, .func (.func 29) #[] #[c]] w fun r w' => r = .returned (.bool (es.any f)) ∧ Apart [] w w' := by
  have hI := index29 (cap := cap) h f hf
  rw [← idxE_any]
  generalize idxE f es = z at *
  clear hf h
  go_enter Try.func15, Try.ntmps15
  go_wp2_with fail
  refine hI.mono ?_
  clear hI
  rintro r w1 ⟨rfl, a1⟩
  go_wp2_with fail
  go_ret
  exact ⟨rfl, a1⟩
end Go.Proofs.Ytokaeiahhmaokaa.ds
