import Derived.Test.YtokaeiahhmaokaaDoorU21
import Derived.Test.YtokaeiahhmaokaaDoorU15
namespace Go.Proofs.YtokaeiahhmaokaaDoor.ds
open Go.ChangeShapes Go.WideShapes Go.ChangeAt Go.RowKit Go.Sort
set_option linter.unusedVariables false
set_option linter.unusedSimpArgs false
theorem sym_ok {w : World} {G N c : Nat} (hN : N ≤ 2000000) : ∀ (L : Nat) (W : World) (D0 : TF) (a m b : Nat), b - a ≤ L → AF w W G N c D0 → a < m → m < b → b ≤ N → Srt a m D0 → Srt m b D0 → Tg a m b D0 → Calls Tryd.prog 129 #[.slice (some ⟨G, 0, none⟩) N c, .int .i64 (a : Nat), .int .i64 (m : Nat), .int .i64 (b : Nat), .func (.func 59) #[] #[]] W fun r W' => (∃ v, r = .returned v) ∧ (∃ D, AF w W' G N c D ∧ Pm a b D0 D ∧ Srt a b D) ∧ Apart [G] W W'
  | 0, W, D0, a, m, b, hL, h, ham, hmb, hbN, hl, hr, ht => by omega
  | L + 1, W, D0, a, m, b, hL, h, ham, hmb, hbN, hl, hr, ht => by
    by_cases h1 : a + 1 = m
    · exact symA h hN a m b h1 hmb hbN hl hr ht
    · by_cases h2 : m + 1 = b
      · exact symB h hN a m b (by omega) h2 hbN hl hr ht
      · exact symC h hN a m b (by omega) (by omega) hbN hl hr ht (fun W' D' a' m' b' g1 g2 g3 g4 g5 g6 g7 g8 => sym_ok hN L W' D' a' m' b' (by omega) g1 g2 g3 g4 g6 g7 g8)
/-- what stableCmpFunc holds, between its blocks -/
structure St1 (w W wr : World) (G N c n : Nat) (D0 D : TF) : Prop where
  af : AF w wr G N c D
  pm : Pm 0 n D0 D
  ap : Apart [G] W wr
set_option maxHeartbeats 16000000 in
set_option maxRecDepth 100000 in
theorem stable_ok {w W : World} {G N c : Nat} (f : Nat → E) (h : AF w W G N c (idx f)) (hN : N ≤ 1500000) : Calls Tryd.prog 116 #[.slice (some ⟨G, 0, none⟩) N c, .int .i64 (N : Nat), .func (.func 59) #[] #[]] W fun r W' => (∃ v, r = .returned v) ∧ (∃ D, AF w W' G N c D ∧ Pm 0 N (idx f) D ∧ Srt 0 N D) ∧ Apart [G] W W' := by
  have HH := hid h
  clear h
  go_enter Tryd.func116, Tryd.ntmps116
  go_wp2_with fail
  go_loopw [7, 8] (fun u v wr => ∃ (t a : Nat) (D : TF), u = .int .i64 (a : Nat) ∧ v = .int .i64 ((a + 20 : Nat) : Int) ∧ a = t * 20 ∧ a ≤ N ∧ St1 w W wr G N c N (idx f) D ∧ Sb 20 0 a D ∧ Tb 20 0 N D ∧ (∀ k, a ≤ k → D k = idx f k)) (fun u _ _ => N - (intOf u).toNat)
  case atStart => exact ⟨0, 0, idx f, rfl, by first | rfl | simp, by omega, Nat.zero_le _, ⟨HH.out, Pm.refl _ _ _, Apart.refl _ _⟩, fun t i j h1 h2 h3 h4 h5 => absurd h5 (by omega), idx_tb f 20 N, fun k _ => rfl⟩
  case round =>
    obtain ⟨t, a, D, rfl, rfl, hat, haN, hst, hsb, htb, hun⟩ := hrel
    have HST := hid hst
    have HSB := hid hsb
    have HTB := hid htb
    have HUN := hid hun
    have HAT := hid hat
    clear hst hsb htb hun HH hat
    obtain ⟨b, hb⟩ : ∃ b, a + 20 = b := ⟨_, rfl⟩
    rw [hb]
    have HBB := hid hb
    clear hb
    have HTR : Hid (∀ b', Tr a b' D) := fun b' i j h1 h2 h3 => by rw [HUN.out i h1, HUN.out j (by omega)]; exact h2
    by_cases hlt : b ≤ N
    · have hltI : ((b : Nat) : Int) ≤ (N : Int) := by omega
      have hC := insertion_ok HST.out.af (by omega) a b (by have := HBB.out; omega) hlt (HTR.out b)
      obtain ⟨b2, hb2⟩ : ∃ b2, b + 20 = b2 := ⟨_, rfl⟩
      have wB : IntKind.i64.wrap (((b : Nat) : Int) + 20) = ((b2 : Nat) : Int) := by rw [IntKind.wrap_i64]; omega
      have HB2 := hid hb2
      clear hb2
      go_wp2_with fail
      refine hC.mono ?_
      clear hC
      rintro _ w1 ⟨⟨v, rfl⟩, ⟨D1, haf, pm, sr⟩, a1⟩
      have HST1 : Hid (St1 w W w1 G N c N (idx f) D1) := ⟨haf, HST.out.pm.trans (pm.mono (Nat.zero_le _) hlt), HST.out.ap.trans a1⟩
      have HSB1 : Hid (Sb 20 0 b D1) := HSB.out.step HAT.out (by have := HBB.out; omega) pm sr
      have HTB1 : Hid (Tb 20 0 N D1) := HTB.out.step HAT.out (by have := HBB.out; omega) hlt pm
      have HUN1 : Hid (∀ k, b ≤ k → D1 k = idx f k) := fun k hk => by rw [pm.out k (.inr hk)]; exact HUN.out k (by have := HBB.out; omega)
      clear haf pm sr a1
      dsimp only
      go_wp2_with fail
      go_roundw
      case rel => exact ⟨t + 1, b, D1, rfl, by have := HB2.out; first | rfl | (simp; omega), by have h1 := HAT.out; have h2 := HBB.out; omega, hlt, HST1.out, HSB1.out, HTB1.out, HUN1.out⟩
      case measure => have := HBB.out; simp [intOf]; omega
    · have hltI : ¬ (((b : Nat) : Int) ≤ (N : Int)) := by omega
      have hC := insertion_ok HST.out.af (by omega) a N haN (Nat.le_refl _) (HTR.out N)
      go_wp2_with fail
      refine hC.mono ?_
      clear hC
      rintro _ w1 ⟨⟨v, rfl⟩, ⟨D1, haf, pm, sr⟩, a1⟩
      have HST1 : Hid (St1 w W w1 G N c N (idx f) D1) := ⟨haf, HST.out.pm.trans (pm.mono (Nat.zero_le _) (Nat.le_refl _)), HST.out.ap.trans a1⟩
      have HSB1 : Hid (Sb 20 0 N D1) := HSB.out.step HAT.out (by have := HBB.out; omega) pm sr
      have HTB1 : Hid (Tb 20 0 N D1) := HTB.out.step HAT.out (by have := HBB.out; omega) (Nat.le_refl _) pm
      clear haf pm sr a1 HST HSB HTB HUN HTR
      dsimp only
      go_wp2_with fail
      go_loopw [6] (fun u wr => ∃ (s : Nat) (D : TF), u = .int .i64 (s : Nat) ∧ 0 < s ∧ s ≤ 3000000 ∧ St1 w W wr G N c N (idx f) D ∧ Sb s 0 N D ∧ Tb s 0 N D) (fun u _ => N - (intOf u).toNat)
      case atStart => exact ⟨20, D1, rfl, by decide, by decide, HST1.out, HSB1.out, HTB1.out⟩
      case round =>
        obtain ⟨s, D, rfl, hs0, hsM, hst, hsb, htb⟩ := hrel
        have HST := hid hst
        have HSB := hid hsb
        have HTB := hid htb
        clear hst hsb htb HST1 HSB1 HTB1
        by_cases hsn : s < N
        · have hsnI : ((s : Nat) : Int) < (N : Int) := by omega
          obtain ⟨s2, hs2⟩ : ∃ s2, 2 * s = s2 := ⟨_, rfl⟩
          have w2 : IntKind.i64.wrap (2 * ((s : Nat) : Int)) = ((s2 : Nat) : Int) := by rw [IntKind.wrap_i64]; omega
          have w3 : IntKind.i64.wrap (((s : Nat) : Int) * 2) = ((s2 : Nat) : Int) := by rw [IntKind.wrap_i64]; omega
          have HS2 := hid hs2
          have HW2 := hid w2
          have HW3 := hid w3
          clear hs2 w3
          go_wp2_with fail
          clear w2
          go_loopw [7, 8] (fun u v wr => ∃ (t a : Nat) (D : TF), u = .int .i64 (a : Nat) ∧ v = .int .i64 ((a + s2 : Nat) : Int) ∧ a = t * s2 ∧ a ≤ N ∧ St1 w W wr G N c N (idx f) D ∧ Sb s2 0 a D ∧ Tb s2 0 N D ∧ Sb s a N D ∧ Tb s a N D) (fun u _ _ => N - (intOf u).toNat)
          case atStart => exact ⟨0, 0, D, rfl, by simp, by omega, Nat.zero_le _, HST.out, fun t i j h1 h2 h3 h4 h5 => absurd h5 (by omega), by rw [← HS2.out]; exact HTB.out.two, HSB.out, HTB.out⟩
          case round =>
            obtain ⟨t, a, D, rfl, rfl, hat, haN, hst, hsb, htb, hsb1, htb1⟩ := hrel
            have HST := hid hst
            have HSB := hid hsb
            have HTB := hid htb
            have HSB0 := hid hsb1
            have HTB0 := hid htb1
            have HAT := hid hat
            clear hst hsb htb hsb1 htb1 hat
            obtain ⟨b, hb⟩ : ∃ b, a + s2 = b := ⟨_, rfl⟩
            obtain ⟨m, hm⟩ : ∃ m, a + s = m := ⟨_, rfl⟩
            rw [hb]
            have HBB := hid hb
            have HMM := hid hm
            have hs2' := HS2.out
            have wM : IntKind.i64.wrap (((a : Nat) : Int) + ((s : Nat) : Int)) = ((m : Nat) : Int) := by rw [IntKind.wrap_i64]; omega
            have w2 := HW2.out
            have w3 := HW3.out
            by_cases hlt : b ≤ N
            · have hltI : ((b : Nat) : Int) ≤ (N : Int) := by omega
              obtain ⟨b2, hb2⟩ : ∃ b2, b + s2 = b2 := ⟨_, rfl⟩
              have wB : IntKind.i64.wrap (((b : Nat) : Int) + ((s2 : Nat) : Int)) = ((b2 : Nat) : Int) := by rw [IntKind.wrap_i64]; omega
              obtain ⟨q1, q2, q3⟩ := mrg (b := b) (u := t) HSB0.out HTB0.out (by rw [HAT.out, HS2.out]) (by omega) hlt (by omega)
              rw [hm] at q1 q2 q3
              have hC := sym_ok (by omega) (b - a) wr D a m b (Nat.le_refl _) HST.out.af (by omega) (by omega) hlt q1 q2 q3
              have HB2 := hid hb2
              clear hb2 q1 q2 q3 hb hm hs2'
              go_wp2_with fail
              refine hC.mono ?_
              clear hC
              rintro _ w1 ⟨⟨v, rfl⟩, ⟨D1, haf, pm, sr⟩, a1⟩
              have HST1 : Hid (St1 w W w1 G N c N (idx f) D1) := ⟨haf, HST.out.pm.trans (pm.mono (Nat.zero_le _) hlt), HST.out.ap.trans a1⟩
              have HSB1 : Hid (Sb s2 0 b D1) := HSB.out.step HAT.out (by have := HBB.out; omega) pm sr
              have HTB1 : Hid (Tb s2 0 N D1) := HTB.out.step HAT.out (by have := HBB.out; omega) hlt pm
              have HSB2 : Hid (Sb s b N D1) := HSB0.out.keep (by have := HBB.out; omega) pm
              have HTB2 : Hid (Tb s b N D1) := HTB0.out.keep (by have := HBB.out; omega) pm
              clear haf pm sr a1
              dsimp only
              go_wp2_with fail
              go_roundw
              case rel => exact ⟨t + 1, b, D1, rfl, by have := HB2.out; first | rfl | (simp; omega), by rw [Nat.add_mul, Nat.one_mul, ← HAT.out]; exact HBB.out.symm, hlt, HST1.out, HSB1.out, HTB1.out, HSB2.out, HTB2.out⟩
              case measure => have h1 := HBB.out; have h2 := HS2.out; simp [intOf]; omega
            · have hltI : ¬ (((b : Nat) : Int) ≤ (N : Int)) := by omega
              by_cases hmN : m < N
              · have hmNI : ((m : Nat) : Int) < (N : Int) := by omega
                obtain ⟨q1, q2, q3⟩ := mrg (b := N) (u := t) HSB0.out HTB0.out (by rw [HAT.out, HS2.out]) (by omega) (Nat.le_refl _) (by omega)
                rw [hm] at q1 q2 q3
                have hC := sym_ok (by omega) (N - a) wr D a m N (Nat.le_refl _) HST.out.af (by omega) hmN (Nat.le_refl _) q1 q2 q3
                clear q1 q2 q3 hb hm hs2'
                go_wp2_with fail
                refine hC.mono ?_
                clear hC
                rintro _ w1 ⟨⟨v, rfl⟩, ⟨D1, haf, pm, sr⟩, a1⟩
                have HST1 : Hid (St1 w W w1 G N c N (idx f) D1) := ⟨haf, HST.out.pm.trans (pm.mono (Nat.zero_le _) (Nat.le_refl _)), HST.out.ap.trans a1⟩
                have HSB1 : Hid (Sb s2 0 N D1) := HSB.out.step HAT.out (by have := HBB.out; omega) pm sr
                have HTB1 : Hid (Tb s2 0 N D1) := HTB.out.step HAT.out (by have := HBB.out; omega) (Nat.le_refl _) pm
                clear haf pm sr a1
                dsimp only
                go_wp2_with fail
                go_roundw
                case rel => exact ⟨s2, D1, rfl, by have := HS2.out; omega, by have := HS2.out; omega, HST1.out, HSB1.out, HTB1.out⟩
                case measure => have := HS2.out; simp [intOf]; omega
              · have hmNI : ¬ (((m : Nat) : Int) < (N : Int)) := by omega
                have HSR : Hid (Srt a N D) := lone (u := t) HSB0.out (by rw [HAT.out, HS2.out]) (by omega)
                have HSB1 : Hid (Sb s2 0 N D) := HSB.out.step HAT.out (by omega) (Pm.refl _ _ _) HSR.out
                clear hb hm hs2'
                go_wp2_with fail
                go_roundw
                case rel => exact ⟨s2, D, rfl, by have := HS2.out; omega, by have := HS2.out; omega, HST.out, HSB1.out, HTB.out⟩
                case measure => have := HS2.out; simp [intOf]; omega
        · have hsnI : ¬ (((s : Nat) : Int) < (N : Int)) := by omega
          go_wp2_with fail
          go_end0
          exact ⟨⟨_, rfl⟩, ⟨D, HST.out.af, HST.out.pm, HSB.out.all (by omega)⟩, HST.out.ap⟩
/-- slices.SortStableFunc by compare -/
theorem sortStable_ok {w W : World} {G N c : Nat} (f : Nat → E) (h : AF w W G N c (idx f)) (hN : N ≤ 1500000) : Calls Tryd.prog 94 #[.slice (some ⟨G, 0, none⟩) N c, .func (.func 59) #[] #[]] W fun r W' => (∃ v, r = .returned v) ∧ (∃ D, AF w W' G N c D ∧ Pm 0 N (idx f) D ∧ Srt 0 N D) ∧ Apart [G] W W' := by
  have hC := stable_ok f h hN
  clear h
  go_enter Tryd.func94, Tryd.ntmps94
  go_wp2_with fail
  refine hC.mono ?_
  rintro _ w1 ⟨⟨v, rfl⟩, hd, a1⟩
  have HD := hid hd
  have HA := hid a1
  clear hd a1 hC
  dsimp only
  go_wp2_with fail
  go_end0
  exact ⟨⟨_, rfl⟩, HD.out, HA.out⟩
end Go.Proofs.YtokaeiahhmaokaaDoor.ds
namespace Go.Proofs.YtokaeiahhmaokaaDoor.ds
open Go.ChangeShapes Go.WideShapes Go.ChangeAt Go.RowKit Go.Sort
set_option linter.unusedVariables false
set_option linter.unusedSimpArgs false
theorem deq2_ok (t u : E) (w : World) : Calls Tryd.prog 96 #[t.agg, u.agg] w fun r w' => r = .returned (.bool (deq t u)) ∧ Apart [] w w' := by
  have aV : Apart [] w ((w.alloc (boxE t)).alloc (boxE u)) := ((Apart.refl [] w).alloc _).alloc _
  obtain ⟨q1, q2⟩ := box2 w t u _ (Apart.refl _ _)
  obtain ⟨t0, t1, t2, t3, t4, t5⟩ := row6 q1
  obtain ⟨u0, u1, u2, u3, u4, u5⟩ := row6 q2
  have hq := fun W => eql24 W t.n t.c u.n u.c
  have hg := guard24
  clear q1 q2
  unfold E.agg
  go_enter Tryd.func96, Tryd.ntmps96
  go_wp2_with fail
  go_ret
  exact ⟨rfl, aV⟩
theorem flatE_take (ls : List E) (k : Nat) : (flatE ls).take (k * 6) = flatE (ls.take k) := by
  by_cases hk : k ≤ ls.length
  · have h : flatE ls = flatE (ls.take k) ++ flatE (ls.drop k) := by rw [← flatE_append, List.take_append_drop]
    have e : (flatE (ls.take k)).length = k * 6 := by rw [flatE_length, List.length_take, Nat.min_eq_left hk]
    rw [h, ← e, List.take_left']
    rfl
  · rw [List.take_of_length_le (by rw [flatE_length]; omega), List.take_of_length_le (by omega)]
theorem OwnE.pre {w W : World} {G N c : Nat} {ls : List E} (h : OwnE w W ⟨some ⟨G, 0, none⟩, N, c⟩ ls) (k : Nat) (hk : k ≤ N) : OwnE w W ⟨some ⟨G, 0, none⟩, k, c⟩ (ls.take k) := by
  have hl := h.len
  simp only at hl
  refine ⟨⟨?_, h.nw.new, h.nw.ap⟩, by rw [List.length_take]; simp only; omega⟩
  obtain ⟨hx, ⟨hv, hz⟩ | ⟨g, cap, cur, hv, hb, hr, hc, hm, hs, ht⟩⟩ := h.nw.own
  · unfold Sl.v at hv; simp at hv
  · unfold Sl.v at hv
    simp at hv
    obtain ⟨rfl, rfl⟩ := hv
    refine ⟨by rw [flatE_length, List.length_take, Nat.min_eq_left (by omega)], .inr ⟨G, c, cur, rfl, Nat.zero_le _, hr, by simp only at hc ⊢; omega, hm, hs, ?_⟩⟩
    simp only at ht ⊢
    rw [← flatE_take, ← ht, List.take_take, Nat.min_eq_left (by have := Nat.mul_le_mul_right 6 hk; omega)]
theorem zero28 (w : World) : (zeroValue 28).run Tryd.prog w = .ok (E.agg E.z) w := by
  obtain ⟨i0, hi, hz0, hz1, hz2⟩ := info_parts infoW
  simp [zeroValue, typeInfo, hi, hz0, E.agg, E.z, Sl.v]
/-- clear of what stands behind the first k -/
theorem clear_run {w W : World} {G N c : Nat} {ls : List E} (h : OwnE w W ⟨some ⟨G, 0, none⟩, N, c⟩ ls) (k : Nat) (hk : k ≤ N) (cc : Nat) (ty : TypeId) : ∃ W', (Builtin.clear_ #[39] ty #[.slice (some ⟨G, k * 6, none⟩) (N - k) cc]).run Tryd.prog W = .ok (.tuple #[]) W' ∧ OwnE w W' ⟨some ⟨G, 0, none⟩, k, c⟩ (ls.take k) ∧ Apart [G] W W' := by
  have hp := h.pre k hk
  by_cases hz : N - k = 0
  · refine ⟨W, ?_, hp, Apart.refl _ _⟩
    rw [hz]
    simp [Builtin.clear_, run_underlying Tryd.underlying39]
  · have hl := h.len
    simp only at hl
    obtain ⟨hx, ⟨hv, hz'⟩ | ⟨g, cap, cur, hv, hb, hr, hc, hm, hs, ht⟩⟩ := h.nw.own
    · unfold Sl.v at hv; simp at hv
    · unfold Sl.v at hv
      simp at hv
      obtain ⟨rfl, rfl⟩ := hv
      simp only at hc ht
      obtain ⟨n, hn⟩ : ∃ n, N - k = n + 1 := ⟨N - k - 1, by omega⟩
      have hcs : (E.agg E.z).cells = (E.cs E.z).toArray := rfl
      obtain ⟨vs, hvs⟩ : ∃ vs, (Builtin.zeroCells (E.agg E.z).cells (n + 1)).toList = vs := ⟨_, rfl⟩
      have hvl : vs.length = (n + 1) * 6 := by
        rw [← hvs, hcs]
        simp [Builtin.zeroCells, E.cs]
      have h1 : ∀ v ∈ vs, v.oneCell' = true := by
        intro v hv
        rw [← hvs, hcs] at hv
        unfold Builtin.zeroCells at hv
        rw [Array.toList_map, List.mem_map] at hv
        obtain ⟨i, _, rfl⟩ := hv
        have hlt : i % (E.cs E.z).toArray.size < 6 := Nat.mod_lt _ (by decide)
        generalize i % (E.cs E.z).toArray.size = r at hlt
        match r, hlt with
        | 0, _ => rfl
        | 1, _ => rfl
        | 2, _ => rfl
        | 3, _ => rfl
        | 4, _ => rfl
        | 5, _ => rfl
      have hst := run_storeCells_at (P := Tryd.prog) G (k * 6) 28 vs 0 cur W hr (by rw [hvl]; omega) h1
      refine ⟨W.setRow G (cur.toList.take (k * 6 + 0) ++ vs ++ cur.toList.drop (k * 6 + 0 + vs.length)).toArray, ?_, ?_, apart_setRow _ _ _⟩
      · rw [hn]
        simp [Builtin.clear_, run_underlying Tryd.underlying39, zero28]
        change ((Sem.run Tryd.prog (storeCells ⟨G, k * 6, none⟩ (Builtin.zeroCells (E.agg E.z).cells (n + 1)).toList) W).andThen fun a w' => Result.ok (Value.tuple #[]) w') = _
        rw [hvs, hst]
        simp [Result.andThen]
      · have ar : Apart [G] W (W.setRow G (cur.toList.take (k * 6 + 0) ++ vs ++ cur.toList.drop (k * 6 + 0 + vs.length)).toArray) := apart_setRow _ _ _
        refine ⟨⟨⟨by rw [flatE_length, List.length_take, Nat.min_eq_left (by omega)], .inr ⟨G, c, _, rfl, Nat.zero_le _, setRow_heap W G _ _ 28 _ hr, by simp only; omega, hm, ?_, ?_⟩⟩, h.nw.new, h.nw.ap.trans' ar (fun y hy => by simp at hy; subst hy; exact .inr (h.nw.new _ rfl))⟩, by rw [List.length_take]; simp only; omega⟩
        · simp
          omega
        · simp only
          rw [← flatE_take, ← ht, List.take_take, Nat.min_eq_left (by have := Nat.mul_le_mul_right 6 hk; omega)]
          simp
          rw [List.take_append_of_le_length (by simp; omega), List.take_take, Nat.min_self]
end Go.Proofs.YtokaeiahhmaokaaDoor.ds
