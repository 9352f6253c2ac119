import Derived.Test.YtokaeiahhmaokaaDoorQ7
import Derived.Test.YtokaeiahhmaokaaDoorQ4
namespace Go.Proofs.YtokaeiahhmaokaaDoor.ds
open Go.ChangeShapes Go.WideShapes Go.ChangeAt Go.RowKit Go.Sort
set_option linter.unusedVariables false
set_option linter.unusedSimpArgs false
theorem cov1_ok (t u : E) (B : Nat) (xs : List S) (w : World) (h : Cap w B u) (hl : L w t.x.p t.x.n xs) : Calls Tryd.prog 88 #[t.agg, .pointer (some ⟨B, 0, none⟩)] w fun r w' => r = .returned (.bool (cvE xs t u)) ∧ Apart [] w w' := by
  have aV : Apart [] w (w.alloc (boxE t)) := (Apart.refl [] w).alloc _
  obtain ⟨t0, t1, t2, t3, t4, t5⟩ := row6 (Cap.new w t)
  obtain ⟨u0, u1, u2, u3, u4, u5⟩ := row6 (h.kept0 aV)
  have hC := covers_ok t u xs _ (hl.kept0 aV) _ rfl
  unfold E.agg at *
  go_enter Tryd.func88, Tryd.ntmps88
  go_wp2_with fail
  refine hC.mono ?_
  clear hC
  rintro r w1 ⟨rfl, a1⟩
  go_wp2_with fail
  go_ret
  exact ⟨rfl, aV.trans a1⟩
theorem beh1_ok (t u : E) (B : Nat) (w : World) (h : Cap w B u) : Calls Tryd.prog 89 #[t.agg, .pointer (some ⟨B, 0, none⟩)] w fun r w' => r = .returned (.bool (below u t)) ∧ Apart [] w w' := by
  have aV : Apart [] w (w.alloc (boxE t)) := (Apart.refl [] w).alloc _
  obtain ⟨t0, t1, t2, t3, t4, t5⟩ := row6 (Cap.new w t)
  obtain ⟨u0, u1, u2, u3, u4, u5⟩ := row6 (h.kept0 aV)
  have hC := compare_ok t u (w.alloc (boxE t))
  rw [← cfE_gt t u]
  obtain ⟨z, hz⟩ : ∃ z, z = cfE t u := ⟨_, rfl⟩
  rw [← hz] at hC ⊢
  clear hz
  unfold E.agg at *
  go_enter Tryd.func89, Tryd.ntmps89
  go_wp2_with fail
  refine hC.mono ?_
  clear hC
  rintro r w1 ⟨rfl, a1⟩
  go_wp2_with fail
  go_ret
  exact ⟨rfl, aV.trans a1⟩
/-- what a predicate's call says of the writes of a list, whatever is new since -/
def Asks (w : World) (kf : Nat) (cs : Array Value) (es : List E) (f : E → Bool) : Prop := ∀ i, i < es.length → ∀ W, Apart [] w W → Calls Tryd.prog kf (#[(gE es i).agg] ++ cs) W fun r W' => r = .returned (.bool (f (gE es i))) ∧ Apart [] W W'
/-- the first place, or -1 -/
def idxE (f : E → Bool) (es : List E) : Int := match es.findIdx? f with
  | some k => (k : Int)
  | none => -1
theorem idxE_at {f : E → Bool} {es : List E} {j : Nat} (hj : j < es.length) (hf : f (gE es j) = true) (hn : ∀ i, i < j → f (gE es i) = false) : idxE f es = j := by
  unfold idxE
  have : es.findIdx? f = some j := by
    rw [List.findIdx?_eq_some_iff_getElem]
    refine ⟨hj, by rw [← gE_eq _ _ hj]; exact hf, fun i hi => ?_⟩
    rw [← gE_eq _ _ (by omega), hn i hi]; simp
  rw [this]
theorem idxE_none {f : E → Bool} {es : List E} (hn : ∀ i, i < es.length → f (gE es i) = false) : idxE f es = -1 := by
  unfold idxE
  have : es.findIdx? f = none := by
    rw [List.findIdx?_eq_none_iff]
    intro x hx
    obtain ⟨i, hi, rfl⟩ := List.getElem_of_mem hx
    rw [← gE_eq _ _ hi]; exact hn i hi
  rw [this]
theorem idxE_any (f : E → Bool) (es : List E) : decide (0 ≤ idxE f es) = es.any f := by
  unfold idxE
  cases h : es.findIdx? f with
  | none =>
    rw [List.findIdx?_eq_none_iff] at h
    have : es.any f = false := by rw [List.any_eq_false]; intro x hx; simp [h x hx]
    rw [this]; rfl
  | some k =>
    rw [List.findIdx?_eq_some_iff_getElem] at h
    obtain ⟨hk, h1, _⟩ := h
    have : es.any f = true := List.any_eq_true.2 ⟨_, List.getElem_mem hk, h1⟩
    rw [this]; simp
set_option maxHeartbeats 2000000 in
theorem index16 {w : World} {p : Option Addr} {N cap : Nat} {c : Value} {es : List E} (h : LE w p N es) (f : E → Bool) (hf : Asks w 48 #[c] es f) : Calls Tryd.prog 84 #[.slice p N cap, .func (.func 48) #[] #[c]] w fun r w' => r = .returned (.int .i64 (idxE f es)) ∧ Apart [] w w' := by
  have HL := hid h
  have HF := hid hf
  have hN := h.len
  have hl := h.lim
  have HN := hid hN
  clear h hf hN
  go_enter Tryd.func84, Tryd.ntmps84
  go_wp2
  go_loopw [8] (fun v wr => ∃ j : Nat, j ≤ N ∧ v = .int .i64 j ∧ Apart [] w wr ∧ ∀ i, i < j → f (gE es i) = false) (fun v _ => N - (intOf v).toNat)
  case atStart => exact ⟨0, Nat.zero_le _, rfl, Apart.refl _ _, fun i hi => by omega⟩
  case round =>
    obtain ⟨j, hj, rfl, ap, hno⟩ := hrel
    have HA := hid ap
    have HNO := hid hno
    clear ap hno
    by_cases hlt : j < N
    · obtain ⟨P, o, rfl, hP, hc⟩ := (HL.out.kept0 HA.out).at (by omega)
      obtain ⟨c0, c1, c2, c3, c4, c5⟩ := hc j hlt
      have hC : Calls Tryd.prog 48 #[(gE es j).agg, c] wr _ := HF.out j (by rw [HN.out]; exact hlt) wr HA.out
      unfold Sl.v at c4 c5
      unfold E.agg Sl.v at hC
      clear hc
      go_wp2_with fail
      refine hC.mono ?_
      clear hC
      rintro r w1 ⟨rfl, a1⟩
      clear c0 c1 c2 c3 c4 c5
      cases hb : f (gE es j)
      · go_wp2
        go_roundw
        case rel => exact ⟨j + 1, by omega, by go_num, HA.out.trans a1, fun i hi => by
          by_cases e : i = j
          · subst e; exact hb
          · exact HNO.out i (by omega)⟩
        case measure => simp [intOf]; omega
      · go_wp2
        go_ret
        exact ⟨by rw [idxE_at (by rw [HN.out]; exact hlt) hb HNO.out]; rfl, HA.out.trans a1⟩
    · obtain rfl : j = N := by omega
      go_wp2
      go_ret
      exact ⟨by rw [idxE_none (by rw [HN.out]; exact HNO.out)]; rfl, HA.out⟩
set_option maxHeartbeats 2000000 in
theorem index17 {w : World} {p : Option Addr} {N cap : Nat} {c : Value} {es : List E} (h : LE w p N es) (f : E → Bool) (hf : Asks w 49 #[c] es f) : Calls Tryd.prog 84 #[.slice p N cap, .func (.func 49) #[] #[c]] w fun r w' => r = .returned (.int .i64 (idxE f es)) ∧ Apart [] w w' := by
  have HL := hid h
  have HF := hid hf
  have hN := h.len
  have hl := h.lim
  have HN := hid hN
  clear h hf hN
  go_enter Tryd.func84, Tryd.ntmps84
  go_wp2
  go_loopw [8] (fun v wr => ∃ j : Nat, j ≤ N ∧ v = .int .i64 j ∧ Apart [] w wr ∧ ∀ i, i < j → f (gE es i) = false) (fun v _ => N - (intOf v).toNat)
  case atStart => exact ⟨0, Nat.zero_le _, rfl, Apart.refl _ _, fun i hi => by omega⟩
  case round =>
    obtain ⟨j, hj, rfl, ap, hno⟩ := hrel
    have HA := hid ap
    have HNO := hid hno
    clear ap hno
    by_cases hlt : j < N
    · obtain ⟨P, o, rfl, hP, hc⟩ := (HL.out.kept0 HA.out).at (by omega)
      obtain ⟨c0, c1, c2, c3, c4, c5⟩ := hc j hlt
      have hC : Calls Tryd.prog 49 #[(gE es j).agg, c] wr _ := HF.out j (by rw [HN.out]; exact hlt) wr HA.out
      unfold Sl.v at c4 c5
      unfold E.agg Sl.v at hC
      clear hc
      go_wp2_with fail
      refine hC.mono ?_
      clear hC
      rintro r w1 ⟨rfl, a1⟩
      clear c0 c1 c2 c3 c4 c5
      cases hb : f (gE es j)
      · go_wp2
        go_roundw
        case rel => exact ⟨j + 1, by omega, by go_num, HA.out.trans a1, fun i hi => by
          by_cases e : i = j
          · subst e; exact hb
          · exact HNO.out i (by omega)⟩
        case measure => simp [intOf]; omega
      · go_wp2
        go_ret
        exact ⟨by rw [idxE_at (by rw [HN.out]; exact hlt) hb HNO.out]; rfl, HA.out.trans a1⟩
    · obtain rfl : j = N := by omega
      go_wp2
      go_ret
      exact ⟨by rw [idxE_none (by rw [HN.out]; exact HNO.out)]; rfl, HA.out⟩
set_option maxHeartbeats 2000000 in
theorem index29 {w : World} {p : Option Addr} {N cap : Nat} {c : Value} {es : List E} (h : LE w p N es) (f : E → Bool) (hf : Asks w 88 #[c] es f) : Calls Tryd.prog 84 #[.slice p N cap, .func (.func 88) #[] #[c]] w fun r w' => r = .returned (.int .i64 (idxE f es)) ∧ Apart [] w w' := by
  have HL := hid h
  have HF := hid hf
  have hN := h.len
  have hl := h.lim
  have HN := hid hN
  clear h hf hN
  go_enter Tryd.func84, Tryd.ntmps84
  go_wp2
  go_loopw [8] (fun v wr => ∃ j : Nat, j ≤ N ∧ v = .int .i64 j ∧ Apart [] w wr ∧ ∀ i, i < j → f (gE es i) = false) (fun v _ => N - (intOf v).toNat)
  case atStart => exact ⟨0, Nat.zero_le _, rfl, Apart.refl _ _, fun i hi => by omega⟩
  case round =>
    obtain ⟨j, hj, rfl, ap, hno⟩ := hrel
    have HA := hid ap
    have HNO := hid hno
    clear ap hno
    by_cases hlt : j < N
    · obtain ⟨P, o, rfl, hP, hc⟩ := (HL.out.kept0 HA.out).at (by omega)
      obtain ⟨c0, c1, c2, c3, c4, c5⟩ := hc j hlt
      have hC : Calls Tryd.prog 88 #[(gE es j).agg, c] wr _ := HF.out j (by rw [HN.out]; exact hlt) wr HA.out
      unfold Sl.v at c4 c5
      unfold E.agg Sl.v at hC
      clear hc
      go_wp2_with fail
      refine hC.mono ?_
      clear hC
      rintro r w1 ⟨rfl, a1⟩
      clear c0 c1 c2 c3 c4 c5
      cases hb : f (gE es j)
      · go_wp2
        go_roundw
        case rel => exact ⟨j + 1, by omega, by go_num, HA.out.trans a1, fun i hi => by
          by_cases e : i = j
          · subst e; exact hb
          · exact HNO.out i (by omega)⟩
        case measure => simp [intOf]; omega
      · go_wp2
        go_ret
        exact ⟨by rw [idxE_at (by rw [HN.out]; exact hlt) hb HNO.out]; rfl, HA.out.trans a1⟩
    · obtain rfl : j = N := by omega
      go_wp2
      go_ret
      exact ⟨by rw [idxE_none (by rw [HN.out]; exact HNO.out)]; rfl, HA.out⟩
set_option maxHeartbeats 2000000 in
theorem index30 {w : World} {p : Option Addr} {N cap : Nat} {c : Value} {es : List E} (h : LE w p N es) (f : E → Bool) (hf : Asks w 89 #[c] es f) : Calls Tryd.prog 84 #[.slice p N cap, .func (.func 89) #[] #[c]] w fun r w' => r = .returned (.int .i64 (idxE f es)) ∧ Apart [] w w' := by
  have HL := hid h
  have HF := hid hf
  have hN := h.len
  have hl := h.lim
  have HN := hid hN
  clear h hf hN
  go_enter Tryd.func84, Tryd.ntmps84
  go_wp2
  go_loopw [8] (fun v wr => ∃ j : Nat, j ≤ N ∧ v = .int .i64 j ∧ Apart [] w wr ∧ ∀ i, i < j → f (gE es i) = false) (fun v _ => N - (intOf v).toNat)
  case atStart => exact ⟨0, Nat.zero_le _, rfl, Apart.refl _ _, fun i hi => by omega⟩
  case round =>
    obtain ⟨j, hj, rfl, ap, hno⟩ := hrel
    have HA := hid ap
    have HNO := hid hno
    clear ap hno
    by_cases hlt : j < N
    · obtain ⟨P, o, rfl, hP, hc⟩ := (HL.out.kept0 HA.out).at (by omega)
      obtain ⟨c0, c1, c2, c3, c4, c5⟩ := hc j hlt
      have hC : Calls Tryd.prog 89 #[(gE es j).agg, c] wr _ := HF.out j (by rw [HN.out]; exact hlt) wr HA.out
      unfold Sl.v at c4 c5
      unfold E.agg Sl.v at hC
      clear hc
      go_wp2_with fail
      refine hC.mono ?_
      clear hC
      rintro r w1 ⟨rfl, a1⟩
      clear c0 c1 c2 c3 c4 c5
      cases hb : f (gE es j)
      · go_wp2
        go_roundw
        case rel => exact ⟨j + 1, by omega, by go_num, HA.out.trans a1, fun i hi => by
          by_cases e : i = j
          · subst e; exact hb
          · exact HNO.out i (by omega)⟩
        case measure => simp [intOf]; omega
      · go_wp2
        go_ret
        exact ⟨by rw [idxE_at (by rw [HN.out]; exact hlt) hb HNO.out]; rfl, HA.out.trans a1⟩
    · obtain rfl : j = N := by omega
      go_wp2
      go_ret
      exact ⟨by rw [idxE_none (by rw [HN.out]; exact HNO.out)]; rfl, HA.out⟩
theorem contains16 {w : World} {p : Option Addr} {N cap : Nat} {c : Value} {es : List E} (h : LE w p N es) (f : E → Bool) (hf : Asks w 48 #[c] es f) : Calls Tryd.prog 47 #[.slice p N cap, .func (.func 48) #[] #[c]] w fun r w' => r = .returned (.bool (es.any f)) ∧ Apart [] w w' := by
  have hI := index16 (cap := cap) h f hf
  rw [← idxE_any]
  generalize idxE f es = z at *
  clear hf h
  go_enter Tryd.func47, Tryd.ntmps47
  go_wp2_with fail
  refine hI.mono ?_
  clear hI
  rintro r w1 ⟨rfl, a1⟩
  go_wp2_with fail
  go_ret
  exact ⟨rfl, a1⟩
theorem contains17 {w : World} {p : Option Addr} {N cap : Nat} {c : Value} {es : List E} (h : LE w p N es) (f : E → Bool) (hf : Asks w 49 #[c] es f) : Calls Tryd.prog 47 #[.slice p N cap, .func (.func 49) #[] #[c]] w fun r w' => r = .returned (.bool (es.any f)) ∧ Apart [] w w' := by
  have hI := index17 (cap := cap) h f hf
  rw [← idxE_any]
  generalize idxE f es = z at *
  clear hf h
  go_enter Tryd.func47, Tryd.ntmps47
  go_wp2_with fail
  refine hI.mono ?_
  clear hI
  rintro r w1 ⟨rfl, a1⟩
  go_wp2_with fail
  go_ret
  exact ⟨rfl, a1⟩
theorem contains29 {w : World} {p : Option Addr} {N cap : Nat} {c : Value} {es : List E} (h : LE w p N es) (f : E → Bool) (hf : Asks w 88 #[c] es f) : Calls Tryd.prog 47 #[.slice p N cap, .func (.func 88) #[] #[c]] w fun r w' => r = .returned (.bool (es.any f)) ∧ Apart [] w w' := by
  have hI := index29 (cap := cap) h f hf
  rw [← idxE_any]
  generalize idxE f es = z at *
  clear hf h
  go_enter Tryd.func47, Tryd.ntmps47
  go_wp2_with fail
  refine hI.mono ?_
  clear hI
  rintro r w1 ⟨rfl, a1⟩
  go_wp2_with fail
  go_ret
  exact ⟨rfl, a1⟩
end Go.Proofs.YtokaeiahhmaokaaDoor.ds
namespace Go.Proofs.YtokaeiahhmaokaaDoor.ds
open Go.ChangeShapes Go.WideShapes Go.ChangeAt Go.RowKit
set_option linter.unusedVariables false
set_option linter.unusedSimpArgs false
set_option maxHeartbeats 8000000 in
theorem right_walk (e : E) (gap : Int) (w : World) (b1 b2 : Bool) (c1 : Int) (hs : shortE e)
    (hd : ∀ W, Calls Tryd.prog 100 #[.agg #[.int .i64 e.n, .int .i64 e.c]] W fun r w' => r = .returned (.bool b1) ∧ Apart [] W w')
    (hc : ∀ W, Apart [] w W → Calls Tryd.prog 26 #[.slice e.x.p e.x.n e.x.c, .int .i64 gap] W fun r w' => r = .returned (.int .i64 c1) ∧ Apart [] W w')
    (hh : ∀ W, Apart [] w W → Calls Tryd.prog 75 #[.slice e.x.p e.x.n e.x.c, .agg #[.int .i64 e.n, .int .i64 e.c]] W fun r w' => r = .returned (.bool b2) ∧ Apart [] W w') :
    Calls Tryd.prog 60 #[e.agg, .int .i64 gap] w fun r w' => r = .returned (.bool (b1 && (decide (c1 = 0) && !b2))) ∧ Apart [] w w' := by
  obtain ⟨en, ec, ek, ed, ev, ex⟩ := e
  obtain ⟨wb, hwb⟩ : ∃ wb, wb = w.alloc (boxE ⟨en, ec, ek, ed, ev, ex⟩) := ⟨_, rfl⟩
  have a0 : Apart [] w wb := by rw [hwb]; exact (Apart.refl [] w).alloc _
  have q1 : wb.heap[w.heap.size]? = some (boxE ⟨en, ec, ek, ed, ev, ex⟩) := by rw [hwb]; exact heap_alloc_new w _
  unfold boxE at q1
  obtain ⟨t0, t1, t2, t3, t4, t5⟩ := row6 q1
  obtain ⟨⟨h1, h2⟩, h3, h4⟩ := hs
  have HD := hid hd
  have HC := hid hc
  have HH := hid hh
  have HA := hid a0
  have HQ := hid q1
  unfold boxE at hwb
  unfold E.agg
  unfold Sl.v at hwb t4 t5 ⊢
  dsimp only at *
  clear hd hc hh a0 q1
  cases ed with
  | false =>
    clear h4
    go_enter Tryd.func60, Tryd.ntmps60
    go_upto_region 1 with fail
    rw [← hwb]
    clear hwb
    go_wp2_with fail
    refine (HD.out wb).mono ?_
    clear HD
    rintro _ w1 ⟨rfl, a1⟩
    try dsimp only
    cases b1 with
    | false =>
      go_wp2_with fail
      go_ret
      exact ⟨rfl, HA.out.trans a1⟩
    | true =>
      have HA1 := hid (HA.out.trans a1)
      obtain ⟨t0, t1, t2, t3, t4, t5⟩ := row6 ((a1.block _ (lt_of_heap HQ.out) (by simp)).trans HQ.out)
      try dsimp only at t0 t1 t2 t3 t4 t5
      unfold Sl.v at t4 t5
      have HQ1 := hid ((a1.block _ (lt_of_heap HQ.out) (by simp)).trans HQ.out)
      clear a1 HA HQ
      try dsimp only
      go_wp2_with fail
      refine (HC.out _ HA1.out).mono ?_
      clear HC
      rintro _ w2 ⟨rfl, a2⟩
      obtain ⟨t0, t1, t2, t3, t4, t5⟩ := row6 ((a2.block _ (lt_of_heap HQ1.out) (by simp)).trans HQ1.out)
      try dsimp only at t0 t1 t2 t3 t4 t5
      unfold Sl.v at t4 t5
      have HA2 := hid (HA1.out.trans a2)
      clear a2 HA1 HQ1
      try dsimp only
      by_cases hc : c1 = 0
      · subst hc
        go_wp2_with fail
        refine (HH.out _ HA2.out).mono ?_
        clear HH
        rintro _ w3 ⟨rfl, a3⟩
        have HA3 := hid (HA2.out.trans a3)
        clear a3
        try dsimp only
        cases b2
        · go_wp2_with fail
          go_ret
          exact ⟨rfl, HA3.out⟩
        · go_wp2_with fail
          go_ret
          exact ⟨rfl, HA3.out⟩
      · go_wp2_with fail
        go_ret
        exact ⟨by simp [hc], HA2.out⟩
  | true =>
    have h5 : ¬ 0 < (ev.n : Int) := fun h => h4 ⟨rfl, h⟩
    clear h4
    go_enter Tryd.func60, Tryd.ntmps60
    go_upto_region 1 with fail
    rw [← hwb]
    clear hwb
    go_wp2_with fail
    refine (HD.out wb).mono ?_
    clear HD
    rintro _ w1 ⟨rfl, a1⟩
    try dsimp only
    cases b1 with
    | false =>
      go_wp2_with fail
      go_ret
      exact ⟨rfl, HA.out.trans a1⟩
    | true =>
      have HA1 := hid (HA.out.trans a1)
      obtain ⟨t0, t1, t2, t3, t4, t5⟩ := row6 ((a1.block _ (lt_of_heap HQ.out) (by simp)).trans HQ.out)
      try dsimp only at t0 t1 t2 t3 t4 t5
      unfold Sl.v at t4 t5
      have HQ1 := hid ((a1.block _ (lt_of_heap HQ.out) (by simp)).trans HQ.out)
      clear a1 HA HQ
      try dsimp only
      go_wp2_with fail
      refine (HC.out _ HA1.out).mono ?_
      clear HC
      rintro _ w2 ⟨rfl, a2⟩
      obtain ⟨t0, t1, t2, t3, t4, t5⟩ := row6 ((a2.block _ (lt_of_heap HQ1.out) (by simp)).trans HQ1.out)
      try dsimp only at t0 t1 t2 t3 t4 t5
      unfold Sl.v at t4 t5
      have HA2 := hid (HA1.out.trans a2)
      clear a2 HA1 HQ1
      try dsimp only
      by_cases hc : c1 = 0
      · subst hc
        go_wp2_with fail
        refine (HH.out _ HA2.out).mono ?_
        clear HH
        rintro _ w3 ⟨rfl, a3⟩
        have HA3 := hid (HA2.out.trans a3)
        clear a3
        try dsimp only
        cases b2
        · go_wp2_with fail
          go_ret
          exact ⟨rfl, HA3.out⟩
        · go_wp2_with fail
          go_ret
          exact ⟨rfl, HA3.out⟩
      · go_wp2_with fail
        go_ret
        exact ⟨by simp [hc], HA2.out⟩
set_option maxHeartbeats 8000000 in
theorem right_short (e : E) (gap : Int) (w : World) (hs : ¬ shortE e) : Calls Tryd.prog 60 #[e.agg, .int .i64 gap] w fun r w' => r = .returned (.bool false) ∧ Apart [] w w' := by
  obtain ⟨en, ec, ek, ed, ev, ex⟩ := e
  obtain ⟨wb, hwb⟩ : ∃ wb, wb = w.alloc (boxE ⟨en, ec, ek, ed, ev, ex⟩) := ⟨_, rfl⟩
  have a0 : Apart [] w wb := by rw [hwb]; exact (Apart.refl [] w).alloc _
  have q1 : wb.heap[w.heap.size]? = some (boxE ⟨en, ec, ek, ed, ev, ex⟩) := by rw [hwb]; exact heap_alloc_new w _
  unfold boxE at q1
  obtain ⟨t0, t1, t2, t3, t4, t5⟩ := row6 q1
  have HA := hid a0
  unfold boxE at hwb
  unfold E.agg
  unfold Sl.v at hwb t4 t5 ⊢
  unfold shortE at hs
  dsimp only at *
  clear a0 q1
  by_cases h1 : ¬ 1 ≤ (ek.size : Int)
  · clear hs
    go_enter Tryd.func60, Tryd.ntmps60
    go_upto_region 1 with fail
    rw [← hwb]
    clear hwb
    go_wp2_with fail
    go_ret
    exact ⟨rfl, HA.out⟩
  have h1 := Classical.not_not.1 h1
  by_cases h2 : ¬ (ek.size : Int) ≤ 16
  · clear hs
    go_enter Tryd.func60, Tryd.ntmps60
    go_upto_region 1 with fail
    rw [← hwb]
    clear hwb
    go_wp2_with fail
    go_ret
    exact ⟨rfl, HA.out⟩
  have h2 := Classical.not_not.1 h2
  by_cases h3 : ¬ (ev.n : Int) ≤ 64
  · clear hs
    go_enter Tryd.func60, Tryd.ntmps60
    go_upto_region 1 with fail
    rw [← hwb]
    clear hwb
    go_wp2_with fail
    go_ret
    exact ⟨rfl, HA.out⟩
  have h3 := Classical.not_not.1 h3
  have h4 : ed = true ∧ 0 < (ev.n : Int) := Classical.byContradiction fun h => hs ⟨⟨h1, h2⟩, h3, h⟩
  obtain ⟨rfl, h5⟩ := h4
  clear hs
  go_enter Tryd.func60, Tryd.ntmps60
  go_upto_region 1 with fail
  rw [← hwb]
  clear hwb
  go_wp2_with fail
  go_ret
  exact ⟨rfl, HA.out⟩
end Go.Proofs.YtokaeiahhmaokaaDoor.ds
namespace Go.Proofs.YtokaeiahhmaokaaDoor.ds
open Go.ChangeShapes Go.WideShapes Go.ChangeAt Go.RowKit
set_option linter.unusedVariables false
set_option maxRecDepth 100000
set_option linter.unusedSimpArgs false
theorem run_append3 (w : World) (t ty e : TypeId) (i : TypeInfo) (z : Value) (size bytes : Nat) (ht : Tryd.prog.underlying t = some (.slice e)) (hi : Tryd.prog.info? e = some i) (hz : i.zero = some z) (hsize : i.size = size) (hby : i.bytes = bytes) (hzs : z.cells.size = size) (hsz : 0 < size)
    (g n cap : Nat) (xs : List Value) (h : w.ownsRow 0 e size (.slice (some ⟨g, 0, none⟩) n cap) n xs) (ad : Addr) (m c : Nat) (news : List Value) (hl : news.length = m * size) (hnews : ∀ j u, news[j]? = some u → w.cell? (ad.add j) = some u) (h1 : ∀ u ∈ news, u.oneCell' = true) (h63 : n + m ≤ maxLen) (hb : (n + m) * bytes ≤ 140737488355328) :
    ∃ v' w', (Builtin.append_ #[t, t] ty #[.slice (some ⟨g, 0, none⟩) n cap, .slice (some ad) m c]).run Tryd.prog w = .ok v' w' ∧ w'.ownsRow 0 e size v' (n + m) (xs ++ news) ∧ w.grownBy w' (some g) ∧ NewOr w (.slice (some ⟨g, 0, none⟩) n cap) v' := by
  by_cases hroom : n + m ≤ cap
  · obtain ⟨w', hrun, r1, r2⟩ := run_append_own_spare (P := Tryd.prog) w 0 t ty e i size ht hi hsize g n cap xs h ad m c news hl hnews h1 hroom
    exact ⟨_, w', hrun, r1, r2, .inl rfl⟩
  · have hle : n ≤ cap := by
      obtain ⟨_, ⟨hv, _⟩ | ⟨g', cap', cur, hv, _, _, hle, _⟩⟩ := h
      · cases hv
      · simp at hv; omega
    obtain ⟨v', w', hrun, r1, r2, r3⟩ := run_append2 w t ty e i z size bytes ht hi hz hsize hby hzs hsz (.slice (some ⟨g, 0, none⟩) n cap) n xs h ad m c news (by omega) hl hnews h1 h63 hb
    exact ⟨v', w', hrun, r1, r2, r3⟩
theorem oneFlat (es : List S) : ∀ u ∈ flat es, u.oneCell' = true := by
  intro u hu
  simp [flat, ec] at hu
  obtain ⟨e, _, h | h | h⟩ := hu <;> subst h <;> rfl
theorem eqlSome (w : World) (a : Addr) (n c : Nat) : Sem.run Tryd.prog (binOp BinOp.eql 26 (Value.slice (some a) n c) (Value.slice none 0 0)) w = .ok (.bool false) w := by
  first | rfl | (simp [binOp, Tryd.underlying26, go_sem]; done)
theorem eqlNil (w : World) : Sem.run Tryd.prog (binOp BinOp.eql 26 (Value.slice none 0 0) (Value.slice none 0 0)) w = .ok (.bool true) w := by
  first | rfl | (simp [binOp, Tryd.underlying26, go_sem]; done)
/-- the cells of a list that can be read -/
theorem Sp.cells {w : World} {P o : Nat} {xs : List S} (h : Sp w (some ⟨P, o, none⟩) xs) : ∀ j u, (flat xs)[j]? = some u → w.cell? ((⟨P, o, none⟩ : Addr).add j) = some u := by
  intro j u hj
  have hjl : j < (flat xs).length := by
    by_cases hc : j < (flat xs).length
    · exact hc
    · rw [List.getElem?_eq_none (by omega)] at hj; cases hj
  have hfl := flat_length xs
  have hk : j / 3 < xs.length := by omega
  obtain ⟨P', o', e, hP, hc⟩ := h (by omega)
  simp only [Option.some.injEq, Addr.mk.injEq, and_true] at e
  obtain ⟨rfl, rfl⟩ := e
  obtain ⟨c0, c1, c2⟩ := hc (j / 3) hk
  obtain ⟨g0, g1, g2⟩ := flat_get xs (j / 3) hk
  rw [Addr.add_lit]
  have h3 : j % 3 = 0 ∨ j % 3 = 1 ∨ j % 3 = 2 := by omega
  rcases h3 with h3 | h3 | h3
  · have e : j = j / 3 * 3 := by omega
    rw [e] at hj ⊢
    rw [g0] at hj; cases hj
    exact c0
  · have e : j = j / 3 * 3 + 1 := by omega
    rw [e] at hj
    rw [g1] at hj; cases hj
    rw [show o + j = o + j / 3 * 3 + 1 by omega]; exact c1
  · have e : j = j / 3 * 3 + 2 := by omega
    rw [e] at hj
    rw [g2] at hj; cases hj
    rw [show o + j = o + j / 3 * 3 + 2 by omega]; exact c2
/-- slices.Clone -/
theorem clone_nil (w : World) : Calls Tryd.prog 87 #[.slice none 0 0] w fun r w' => r = .returned (.slice none 0 0) ∧ w' = w := by
  have hq := eqlNil w
  go_enter Tryd.func87, Tryd.ntmps87
  go_wp2
  go_ret
  exact ⟨rfl, rfl⟩
set_option maxHeartbeats 1000000 in
theorem clone_some (w : World) (P o N cap : Nat) (xs : List S) (h : Sp w (some ⟨P, o, none⟩) xs) (hl : xs.length = N) (hN : N ≤ 1000000) :
    Calls Tryd.prog 87 #[.slice (some ⟨P, o, none⟩) N cap] w fun r w' => ∃ G c, r = .returned (.slice (some ⟨G, 0, none⟩) N c) ∧ Own w w' (some ⟨G, 0, none⟩) N c xs := by
  obtain ⟨i0, hi, hz0, hz1, hz2⟩ := info_parts info52
  have hq := eqlSome w ⟨P, o, none⟩ N cap
  have HL : Hid (xs.length = N) := hl
  have o1 : (w.alloc (.cells #[] 80)).ownsRow 0 80 3 (.slice (some ⟨w.heap.size, 0, none⟩) 0 0) 0 [] := World.ownsRow_lit (base := 0) (e := 80) (size := 3) w #[] 0 (Nat.zero_le _) (by decide) rfl
  have hsp := h.kept0 ((Apart.refl [] w).alloc (.cells #[] 80))
  obtain ⟨v', w', hrun, r1, r2, r3⟩ := run_append3 (w.alloc (.cells #[] 80)) 26 26 80 i0 _ 3 24 Tryd.underlying26 hi hz0 hz1 hz2 rfl (by decide) w.heap.size 0 0 [] o1 ⟨P, o, none⟩ N cap (flat xs) (by rw [flat_length, HL.out]) hsp.cells (oneFlat xs) (by unfold maxLen; omega) (by omega)
  rw [Nat.zero_add, List.nil_append] at r1
  have ap : Apart [] w w' := ((Apart.refl [] w).alloc (.cells #[] 80)).trans' (apart_grown r2) (by simp)
  have hnew : ∃ k c, v' = .slice (some ⟨k, 0, none⟩) N c ∧ w.heap.size ≤ k := by
    rcases r3 with r3 | ⟨k, r3, hk⟩
    · obtain ⟨_, ⟨hv, _⟩ | ⟨g', cap', cur, hv, _⟩⟩ := r1
      · rw [hv] at r3; simp [Value.ownBlock] at r3
      · rw [hv] at r3; simp [Value.ownBlock] at r3; exact ⟨g', cap', hv, by omega⟩
    · obtain ⟨_, ⟨hv, _⟩ | ⟨g', cap', cur, hv, _⟩⟩ := r1
      · rw [hv] at r3; simp [Value.ownBlock] at r3
      · rw [hv] at r3; simp [Value.ownBlock] at r3; simp at hk; exact ⟨g', cap', hv, by omega⟩
  obtain ⟨k, c, rfl, hk⟩ := hnew
  clear r2 r3 o1 hl
  go_enter Tryd.func87, Tryd.ntmps87
  go_wp2_with (at_builtin; refine wpList_append3 rfl (.tmp 5) (.tmp 6) 26 rfl _ _ rfl rfl _ _ hrun ?_)
  go_wp2
  go_ret
  exact ⟨k, c, rfl, HL.out.symm, r1, fun b hb => by simp [Value.ownBlock] at hb; omega, ap⟩
end Go.Proofs.YtokaeiahhmaokaaDoor.ds
namespace Go.Proofs.YtokaeiahhmaokaaDoor.ds
open Go.ChangeShapes Go.WideShapes Go.ChangeAt Go.RowKit Go.Sort
set_option linter.unusedVariables false
set_option linter.unusedSimpArgs false
/-- a slice of new memory -/
structure Nw (w w' : World) (e size : Nat) (s : Sl) (us : List Value) : Prop where
  own : w'.ownsRow 0 e size s.v s.n us
  new : ∀ k, s.v.ownBlock = some k → w.heap.size ≤ k
  ap : Apart [] w w'
theorem Nw.kept {w w' w2 : World} {e size : Nat} {s : Sl} {us : List Value} (h : Nw w w' e size s us) (a : Apart [] w' w2) : Nw w w2 e size s us := ⟨own_apart h.own a (by simp), h.new, h.ap.trans a⟩
theorem Nw.rd {w w' : World} {e size : Nat} {s : Sl} {us : List Value} (h : Nw w w' e size s us) : Rd w' s.p us := Rd.own h.own
theorem Nw.ok {w w' : World} {e size : Nat} {s : Sl} {us : List Value} (h : Nw w w' e size s us) : s.ok := by
  intro hp
  obtain ⟨_, ⟨hv, hz⟩ | ⟨g, cap, cur, hv, _⟩⟩ := h.own
  · unfold Sl.v at hv; simp at hv; exact ⟨hz, hv.2.2⟩
  · unfold Sl.v at hv; simp [hp] at hv
theorem infoW : (Tryd.prog.info? 28).map (fun i => (i.zero, i.size, i.bytes)) = some (some (.agg #[.int .i64 0, .int .i64 0, .string ⟨#[]⟩, .bool false, .slice none 0 0, .slice none 0 0]), 6, 88) := by kernel_rfl
theorem infoB : (Tryd.prog.info? 5).map (fun i => (i.zero, i.size, i.bytes)) = some (some (.int .u8 0), 1, 1) := by kernel_rfl
set_option maxRecDepth 100000 in
theorem eqlSW (w : World) (a : Addr) (n c : Nat) : Sem.run Tryd.prog (binOp BinOp.eql 39 (Value.slice (some a) n c) (Value.slice none 0 0)) w = .ok (.bool false) w := by
  first | rfl | (simp [binOp, Tryd.underlying39, go_sem]; done)
set_option maxRecDepth 100000 in
theorem eqlNW (w : World) : Sem.run Tryd.prog (binOp BinOp.eql 39 (Value.slice none 0 0) (Value.slice none 0 0)) w = .ok (.bool true) w := by
  first | rfl | (simp [binOp, Tryd.underlying39, go_sem]; done)
set_option maxHeartbeats 1000000 in
theorem cloneW (w : World) (s : Sl) (us : List Value) (h : Rd w s.p us) (hl : us.length = s.n * 6) (one : ∀ u ∈ us, u.oneCell' = true) (hN : s.n ≤ 2000000) (ok : s.ok) :
    Calls Tryd.prog 85 #[s.v] w fun r w' => ∃ s', r = .returned (Sl.v s') ∧ s'.n = s.n ∧ Nw w w' 28 6 s' us := by
  obtain ⟨p, N, cap⟩ := s
  simp only at h hl hN
  unfold Sl.ok at ok
  simp only at ok
  cases p with
  | none =>
    obtain ⟨rfl, rfl⟩ := ok rfl
    have hu : us = [] := List.length_eq_zero_iff.1 (by omega)
    subst hu
    have hq := eqlNW w
    unfold Sl.v
    go_enter Tryd.func85, Tryd.ntmps85
    go_wp2
    go_ret
    exact ⟨⟨none, 0, 0⟩, rfl, rfl, World.ownsRow_nil _ _ _ _, by simp [Sl.v, Value.ownBlock], Apart.refl _ _⟩
  | some ad =>
    obtain ⟨i0, hi, hz0, hz1, hz2⟩ := info_parts infoW
    have hq := eqlSW w ad N cap
    have HL := hid hl
    have hcs : ∀ j u, us[j]? = some u → (w.alloc (.cells #[] 28)).cell? (ad.add j) = some u := by
      intro j u hj
      have hjl : j < us.length := by
        by_cases hc : j < us.length
        · exact hc
        · rw [List.getElem?_eq_none (by omega)] at hj; cases hj
      obtain ⟨P, o, e1, hP, hc⟩ := (h.kept0 ((Apart.refl [] w).alloc (.cells #[] 28))) (by omega)
      simp at e1
      subst e1
      rw [Addr.add_lit]
      exact hc j u hj
    have o1 : (w.alloc (.cells #[] 28)).ownsRow 0 28 6 (.slice (some ⟨w.heap.size, 0, none⟩) 0 0) 0 [] := World.ownsRow_lit (base := 0) (e := 28) (size := 6) w #[] 0 (Nat.zero_le _) (by decide) rfl
    obtain ⟨v', w', hrun, r1, r2, r3⟩ := run_append3 (w.alloc (.cells #[] 28)) 39 39 28 i0 _ 6 88 Tryd.underlying39 hi hz0 hz1 hz2 rfl (by decide) w.heap.size 0 0 [] o1 ad N cap us HL.out hcs one (by unfold maxLen; omega) (by omega)
    rw [Nat.zero_add, List.nil_append] at r1
    have ap : Apart [] w w' := ((Apart.refl [] w).alloc (.cells #[] 28)).trans' (apart_grown r2) (by simp)
    have hnew : ∃ k c, v' = .slice (some ⟨k, 0, none⟩) N c ∧ w.heap.size ≤ k := by
      rcases r3 with r3 | ⟨k, r3, hk⟩
      · obtain ⟨_, ⟨hv, _⟩ | ⟨g', cap', cur, hv, _⟩⟩ := r1
        · rw [hv] at r3; simp [Value.ownBlock] at r3
        · rw [hv] at r3; simp [Value.ownBlock] at r3; exact ⟨g', cap', hv, by omega⟩
      · obtain ⟨_, ⟨hv, _⟩ | ⟨g', cap', cur, hv, _⟩⟩ := r1
        · rw [hv] at r3; simp [Value.ownBlock] at r3
        · rw [hv] at r3; simp [Value.ownBlock] at r3; simp at hk; exact ⟨g', cap', hv, by omega⟩
    obtain ⟨k, c, rfl, hk⟩ := hnew
    clear r2 r3 o1 hl ok hcs h
    unfold Sl.v
    go_enter Tryd.func85, Tryd.ntmps85
    go_wp2_with (at_builtin; refine wpList_append3 rfl (.tmp 5) (.tmp 6) 39 rfl _ _ rfl rfl _ _ hrun ?_)
    go_wp2
    go_ret
    exact ⟨⟨some ⟨k, 0, none⟩, N, c⟩, rfl, rfl, r1, fun b hb => by simp [Sl.v, Value.ownBlock] at hb; omega, ap⟩
set_option maxRecDepth 100000 in
theorem eqlSB (w : World) (a : Addr) (n c : Nat) : Sem.run Tryd.prog (binOp BinOp.eql 25 (Value.slice (some a) n c) (Value.slice none 0 0)) w = .ok (.bool false) w := by
  first | rfl | (simp [binOp, Tryd.underlying25, go_sem]; done)
set_option maxRecDepth 100000 in
theorem eqlNB (w : World) : Sem.run Tryd.prog (binOp BinOp.eql 25 (Value.slice none 0 0) (Value.slice none 0 0)) w = .ok (.bool true) w := by
  first | rfl | (simp [binOp, Tryd.underlying25, go_sem]; done)
set_option maxHeartbeats 1000000 in
theorem cloneB (w : World) (s : Sl) (us : List Value) (h : Rd w s.p us) (hl : us.length = s.n * 1) (one : ∀ u ∈ us, u.oneCell' = true) (hN : s.n ≤ 2000000) (ok : s.ok) :
    Calls Tryd.prog 86 #[s.v] w fun r w' => ∃ s', r = .returned (Sl.v s') ∧ s'.n = s.n ∧ Nw w w' 5 1 s' us := by
  obtain ⟨p, N, cap⟩ := s
  simp only at h hl hN
  unfold Sl.ok at ok
  simp only at ok
  cases p with
  | none =>
    obtain ⟨rfl, rfl⟩ := ok rfl
    have hu : us = [] := List.length_eq_zero_iff.1 (by omega)
    subst hu
    have hq := eqlNB w
    unfold Sl.v
    go_enter Tryd.func86, Tryd.ntmps86
    go_wp2
    go_ret
    exact ⟨⟨none, 0, 0⟩, rfl, rfl, World.ownsRow_nil _ _ _ _, by simp [Sl.v, Value.ownBlock], Apart.refl _ _⟩
  | some ad =>
    obtain ⟨i0, hi, hz0, hz1, hz2⟩ := info_parts infoB
    have hq := eqlSB w ad N cap
    have HL := hid hl
    have hcs : ∀ j u, us[j]? = some u → (w.alloc (.cells #[] 5)).cell? (ad.add j) = some u := by
      intro j u hj
      have hjl : j < us.length := by
        by_cases hc : j < us.length
        · exact hc
        · rw [List.getElem?_eq_none (by omega)] at hj; cases hj
      obtain ⟨P, o, e1, hP, hc⟩ := (h.kept0 ((Apart.refl [] w).alloc (.cells #[] 5))) (by omega)
      simp at e1
      subst e1
      rw [Addr.add_lit]
      exact hc j u hj
    have o1 : (w.alloc (.cells #[] 5)).ownsRow 0 5 1 (.slice (some ⟨w.heap.size, 0, none⟩) 0 0) 0 [] := World.ownsRow_lit (base := 0) (e := 5) (size := 1) w #[] 0 (Nat.zero_le _) (by decide) rfl
    obtain ⟨v', w', hrun, r1, r2, r3⟩ := run_append3 (w.alloc (.cells #[] 5)) 25 25 5 i0 _ 1 1 Tryd.underlying25 hi hz0 hz1 hz2 rfl (by decide) w.heap.size 0 0 [] o1 ad N cap us HL.out hcs one (by unfold maxLen; omega) (by omega)
    rw [Nat.zero_add, List.nil_append] at r1
    have ap : Apart [] w w' := ((Apart.refl [] w).alloc (.cells #[] 5)).trans' (apart_grown r2) (by simp)
    have hnew : ∃ k c, v' = .slice (some ⟨k, 0, none⟩) N c ∧ w.heap.size ≤ k := by
      rcases r3 with r3 | ⟨k, r3, hk⟩
      · obtain ⟨_, ⟨hv, _⟩ | ⟨g', cap', cur, hv, _⟩⟩ := r1
        · rw [hv] at r3; simp [Value.ownBlock] at r3
        · rw [hv] at r3; simp [Value.ownBlock] at r3; exact ⟨g', cap', hv, by omega⟩
      · obtain ⟨_, ⟨hv, _⟩ | ⟨g', cap', cur, hv, _⟩⟩ := r1
        · rw [hv] at r3; simp [Value.ownBlock] at r3
        · rw [hv] at r3; simp [Value.ownBlock] at r3; simp at hk; exact ⟨g', cap', hv, by omega⟩
    obtain ⟨k, c, rfl, hk⟩ := hnew
    clear r2 r3 o1 hl ok hcs h
    unfold Sl.v
    go_enter Tryd.func86, Tryd.ntmps86
    go_wp2_with (at_builtin; refine wpList_append3 rfl (.tmp 5) (.tmp 6) 25 rfl _ _ rfl rfl _ _ hrun ?_)
    go_wp2
    go_ret
    exact ⟨⟨some ⟨k, 0, none⟩, N, c⟩, rfl, rfl, r1, fun b hb => by simp [Sl.v, Value.ownBlock] at hb; omega, ap⟩
set_option maxRecDepth 100000 in
theorem eqlSS (w : World) (a : Addr) (n c : Nat) : Sem.run Tryd.prog (binOp BinOp.eql 26 (Value.slice (some a) n c) (Value.slice none 0 0)) w = .ok (.bool false) w := by
  first | rfl | (simp [binOp, Tryd.underlying26, go_sem]; done)
set_option maxRecDepth 100000 in
theorem eqlNS (w : World) : Sem.run Tryd.prog (binOp BinOp.eql 26 (Value.slice none 0 0) (Value.slice none 0 0)) w = .ok (.bool true) w := by
  first | rfl | (simp [binOp, Tryd.underlying26, go_sem]; done)
set_option maxHeartbeats 1000000 in
theorem cloneS (w : World) (s : Sl) (us : List Value) (h : Rd w s.p us) (hl : us.length = s.n * 3) (one : ∀ u ∈ us, u.oneCell' = true) (hN : s.n ≤ 2000000) (ok : s.ok) :
    Calls Tryd.prog 87 #[s.v] w fun r w' => ∃ s', r = .returned (Sl.v s') ∧ s'.n = s.n ∧ Nw w w' 80 3 s' us := by
  obtain ⟨p, N, cap⟩ := s
  simp only at h hl hN
  unfold Sl.ok at ok
  simp only at ok
  cases p with
  | none =>
    obtain ⟨rfl, rfl⟩ := ok rfl
    have hu : us = [] := List.length_eq_zero_iff.1 (by omega)
    subst hu
    have hq := eqlNS w
    unfold Sl.v
    go_enter Tryd.func87, Tryd.ntmps87
    go_wp2
    go_ret
    exact ⟨⟨none, 0, 0⟩, rfl, rfl, World.ownsRow_nil _ _ _ _, by simp [Sl.v, Value.ownBlock], Apart.refl _ _⟩
  | some ad =>
    obtain ⟨i0, hi, hz0, hz1, hz2⟩ := info_parts info52
    have hq := eqlSS w ad N cap
    have HL := hid hl
    have hcs : ∀ j u, us[j]? = some u → (w.alloc (.cells #[] 80)).cell? (ad.add j) = some u := by
      intro j u hj
      have hjl : j < us.length := by
        by_cases hc : j < us.length
        · exact hc
        · rw [List.getElem?_eq_none (by omega)] at hj; cases hj
      obtain ⟨P, o, e1, hP, hc⟩ := (h.kept0 ((Apart.refl [] w).alloc (.cells #[] 80))) (by omega)
      simp at e1
      subst e1
      rw [Addr.add_lit]
      exact hc j u hj
    have o1 : (w.alloc (.cells #[] 80)).ownsRow 0 80 3 (.slice (some ⟨w.heap.size, 0, none⟩) 0 0) 0 [] := World.ownsRow_lit (base := 0) (e := 80) (size := 3) w #[] 0 (Nat.zero_le _) (by decide) rfl
    obtain ⟨v', w', hrun, r1, r2, r3⟩ := run_append3 (w.alloc (.cells #[] 80)) 26 26 80 i0 _ 3 24 Tryd.underlying26 hi hz0 hz1 hz2 rfl (by decide) w.heap.size 0 0 [] o1 ad N cap us HL.out hcs one (by unfold maxLen; omega) (by omega)
    rw [Nat.zero_add, List.nil_append] at r1
    have ap : Apart [] w w' := ((Apart.refl [] w).alloc (.cells #[] 80)).trans' (apart_grown r2) (by simp)
    have hnew : ∃ k c, v' = .slice (some ⟨k, 0, none⟩) N c ∧ w.heap.size ≤ k := by
      rcases r3 with r3 | ⟨k, r3, hk⟩
      · obtain ⟨_, ⟨hv, _⟩ | ⟨g', cap', cur, hv, _⟩⟩ := r1
        · rw [hv] at r3; simp [Value.ownBlock] at r3
        · rw [hv] at r3; simp [Value.ownBlock] at r3; exact ⟨g', cap', hv, by omega⟩
      · obtain ⟨_, ⟨hv, _⟩ | ⟨g', cap', cur, hv, _⟩⟩ := r1
        · rw [hv] at r3; simp [Value.ownBlock] at r3
        · rw [hv] at r3; simp [Value.ownBlock] at r3; simp at hk; exact ⟨g', cap', hv, by omega⟩
    obtain ⟨k, c, rfl, hk⟩ := hnew
    clear r2 r3 o1 hl ok hcs h
    unfold Sl.v
    go_enter Tryd.func87, Tryd.ntmps87
    go_wp2_with (at_builtin; refine wpList_append3 rfl (.tmp 5) (.tmp 6) 26 rfl _ _ rfl rfl _ _ hrun ?_)
    go_wp2
    go_ret
    exact ⟨⟨some ⟨k, 0, none⟩, N, c⟩, rfl, rfl, r1, fun b hb => by simp [Sl.v, Value.ownBlock] at hb; omega, ap⟩
theorem oneB (bs : List Nat) : ∀ u ∈ byts bs, u.oneCell' = true := by
  intro u hu
  simp [byts] at hu
  obtain ⟨b, _, rfl⟩ := hu
  rfl
end Go.Proofs.YtokaeiahhmaokaaDoor.ds
