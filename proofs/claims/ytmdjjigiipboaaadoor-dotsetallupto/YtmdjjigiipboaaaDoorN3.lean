import Derived.Test.YtmdjjigiipboaaaDoorN1
namespace Go.Proofs.YtmdjjigiipboaaaDoor.ds
open Go.ChangeShapes Go.WideShapes Go.ChangeAt Go.RowKit
set_option linter.unusedVariables false
set_option linter.unusedSimpArgs false
theorem info35 : (Tryd.prog.info? 35).map (fun i => (i.zero, i.size, i.bytes)) = some (some (.agg #[.int .i64 0, .int .i64 0]), 2, 16) := by kernel_rfl
/-- a first dot, appended to nothing -/
theorem dot_append (W : World) (ty : TypeId) (ad : Addr) (a b : Int) (h0 : W.cell? (ad.add 0) = some (.int .i64 a)) (h1 : W.cell? (ad.add 1) = some (.int .i64 b)) :
    ∃ p' cap' w', (Builtin.append_ #[30, 30] ty #[.slice none 0 0, .slice (some ad) 1 1]).run Tryd.prog W = .ok (.slice p' 1 cap') w' ∧ Apart [] W w' := by
  obtain ⟨i0, hi, hz0, hz1, hz2⟩ := info_parts info35
  obtain ⟨v', w', hrun, r1, r2, r3⟩ := run_append2 W 30 ty 35 i0 (.agg #[.int .i64 0, .int .i64 0]) 2 16 Tryd.underlying30 hi hz0 hz1 hz2 rfl (by decide) (.slice none 0 0) 0 [] (World.ownsRow_nil _ _ _ _) ad 1 1 [.int .i64 a, .int .i64 b] (by decide) rfl
    (by
      intro j u hj
      match j, hj with
      | 0, hj => simp at hj; subst hj; exact h0
      | 1, hj => simp at hj; subst hj; exact h1)
    (by intro u hu; simp at hu; rcases hu with rfl | rfl <;> rfl) (by unfold maxLen; omega) (by omega)
  have hs : ∃ p' cap', v' = .slice p' 1 cap' := by
    obtain ⟨_, ⟨_, hz⟩ | ⟨g, cap', cur, rfl, _⟩⟩ := id r1
    · omega
    · exact ⟨_, _, rfl⟩
  obtain ⟨p', cap', rfl⟩ := hs
  exact ⟨p', cap', w', hrun, apart_grown r2⟩
/-- nothing is lacking so far, or one is -/
structure MPost (w w' : World) (r : Ending) (q : Prop) : Prop where
  ex : ∃ p n cap, r = .returned (.slice p n cap) ∧ (n = 0 ∨ n = 1) ∧ (n = 0 ↔ q) ∧ Apart [] w w'
set_option maxHeartbeats 20000000 in
set_option maxRecDepth 100000 in
theorem rmissing_ok {p q : Option Addr} {N cap M cb : Nat} {xs ys : List S} {w : World} (h : L w p N xs) (h2 : L w q M ys) : Calls Tryd.prog 77 #[.slice p N cap, .slice q M cb, .int .i64 1] w fun r w' => MPost w w' r (Win (norm xs) (norm ys)) := by
  have ka := norm_ok xs
  have kb := norm_ok ys
  go_enter Tryd.func77, Tryd.ntmps77
  go_wp2_with fail
  refine (rset_ok h).mono ?_
  rintro r w1 ⟨⟨p', N', ca', rfl, la, a1⟩⟩
  dsimp only
  go_wp2_with fail
  refine (rset_ok (h2.kept0 a1)).mono ?_
  rintro r w2 ⟨⟨q', M', cb', rfl, lb, a2⟩⟩
  dsimp only
  replace la := la.kept0 a2
  have a3 := a1.trans a2
  obtain ⟨A, HA⟩ : ∃ A, Hid (norm xs = A) := ⟨_, rfl⟩
  obtain ⟨B, HB⟩ : ∃ B, Hid (norm ys = B) := ⟨_, rfl⟩
  rw [HA.out] at ka la
  rw [HB.out] at kb lb
  clear h h2 a1 a2
  have hlim := la.lim
  have HW : Hid ((∀ j, j < A.length → Sub (g A j) (ofn B (g A j).n)) ↔ Win A B) := by
    show (∀ j, j < A.length → Sub (g A j) (ofn B (g A j).n)) ↔ Win A B
    constructor
    · intro hh n hn
      rcases ofn_or A n with e | e
      · rw [e]; exact sub_none _ _
      · obtain ⟨j, hj, ej⟩ := List.getElem_of_mem e
        have h3 := hh j hj
        have eg : g A j = ofn A n := by unfold g; rw [List.getD_eq_getElem?_getD, List.getElem?_eq_getElem hj]; exact ej
        rw [eg, ofn_n] at h3
        exact h3
    · intro hw j hj
      have o := ka.ok _ (g_mem hj)
      obtain ⟨m, hm⟩ := Int.eq_ofNat_of_zero_le o.n0
      have h3 := hw m (by have := o.n8; omega)
      rw [← hm, ofn_mem A ka _ (g_mem hj)] at h3
      exact h3
  go_wp2_with fail
  go_loopw [7, 8] (fun s v wr => ∃ i : Nat, i ≤ N' ∧ v = .int .i64 i ∧ Apart [] w2 wr ∧ ((s = .slice none 0 0 ∧ ∀ j, j < i → Sub (g A j) (ofn B (g A j).n)) ∨ (∃ p4 c4, s = .slice p4 1 c4) ∧ ¬ Win A B)) (fun _ v _ => N' - (intOf v).toNat)
  case atStart => exact ⟨0, Nat.zero_le _, rfl, Apart.refl _ _, .inl ⟨rfl, fun j hj => absurd hj (by omega)⟩⟩
  case round =>
    obtain ⟨i, hi, rfl, aR, hor⟩ := hrel
    by_cases hlt : i < N'
    · have HI : Hid (i < A.length) := by show i < A.length; rw [la.len]; omega
      obtain ⟨P, o, rfl, hP, hc⟩ := (la.kept0 aR).sp (by rw [la.len]; omega)
      obtain ⟨c0, c1, c2⟩ := hc i HI.out
      have kx := ka.ok _ (g_mem HI.out)
      have kof := ofn_mem A ka _ (g_mem HI.out)
      have hW := HW.out
      obtain ⟨⟨xn, xb, xt⟩, HX⟩ : ∃ x, Hid (x = g A i) := ⟨_, rfl⟩
      have HS : Hid (Win A B → Sub (g A i) (ofn B (g A i).n)) := fun hw => hW.2 hw i HI.out
      clear hW
      rw [← HX.out] at c0 c1 c2 kx kof HS
      simp only at c0 c1 c2 kof
      have hx0 := kx.b0
      have hxM := kx.bM
      have hxt := (kx.small (by decide)).2.2
      simp only at hx0 hxM hxt
      clear hc kx
      have sy := kb.small (by decide) (by decide) xn
      obtain ⟨y, HY⟩ : ∃ y, Hid (y = ofn B xn) := ⟨_, rfl⟩
      have hbase := fun W (l : L W q' M' B) => rbase_ok (cap := cb') (w := W) xn l
      simp only [← HY.out] at hbase
      rw [← HY.out] at sy
      have HS2 : Hid (Win A B → Sub ⟨xn, xb, xt⟩ y) := fun hw => by rw [HY.out]; exact HS.out hw
      have hy0 := sy.1
      have hyM : y.b ≤ 1048576 := by
        have := (kb.okn (by decide) (by decide) xn).mx
        rw [← HY.out] at this
        unfold top at this
        omega
      have hw64 : IntKind.i64.wrap (xb + 64) = xb + 64 := by rw [IntKind.wrap_i64]; omega
      have hwy : IntKind.i64.wrap (y.b + 1) = y.b + 1 := by rw [IntKind.wrap_i64]; omega
      have hinA := fun W (l : L W (some ⟨P, o, none⟩) N' A) (c : Int) (h1 : 1 ≤ c) (h2 : c ≤ 4194304) => rin_ok (cap := ca') (w := W) l ka.bases xn c h2 (by omega)
      have hinB := fun W (l : L W q' M' B) (c : Int) (h1 : 1 ≤ c) (h2 : c ≤ 4194304) => rin_ok (cap := cb') (w := W) l kb.bases xn c h2 (by omega)
      go_wp2_with fail
      go_loopw [7, 9] (fun s v wz => ∃ c : Int, 1 ≤ c ∧ c ≤ 4194304 ∧ v = .int .i64 c ∧ Apart [] wr wz ∧ ((s = .slice none 0 0 ∧ (∀ j, j < i → Sub (g A j) (ofn B (g A j).n)) ∧ ∀ c', 1 ≤ c' → c' < c → dot ⟨xn, xb, xt⟩ c' = true → dot y c' = true) ∨ (∃ p4 c4, s = .slice p4 1 c4) ∧ ¬ Win A B)) (fun _ v _ => (xb + 65 - intOf v).toNat)
      case atStart =>
        refine ⟨1, by omega, by omega, rfl, Apart.refl _ _, ?_⟩
        rcases hor with ⟨hs, hsub⟩ | hr
        · exact .inl ⟨hs, hsub, fun c' h1 h2 => absurd h2 (by omega)⟩
        · exact .inr hr
      case round =>
        clear hor
        obtain ⟨c, hc1, hcM, rfl, aZ, hor⟩ := hrel
        have e0 := (aZ.cell (p := ⟨P, o + i * 3, none⟩) hP (by simp)).trans c0
        have e1 := (aZ.cell (p := ⟨P, o + i * 3 + 1, none⟩) hP (by simp)).trans c1
        rcases hor with ⟨rfl, hsub, hall⟩ | ⟨⟨p4, c4, rfl⟩, hnw⟩
        · by_cases hcx : c ≤ xb + 64
          · have kD := fun W => @new1d wr (.int .i64 xn) (.int .i64 c) 35 W
            have aD : Apart [] wr (wr.alloc (.cells #[.int .i64 xn, .int .i64 c] 35)) := (Apart.refl _ _).alloc _
            have hwc : IntKind.i64.wrap (c + 1) = c + 1 := by rw [IntKind.wrap_i64]; omega
            have hPs : P < wr.heap.size := Nat.lt_of_lt_of_le hP aZ.size
            have lbD := ((lb.kept0 aR).kept0 aZ).kept0 aD
            have laD := ((la.kept0 aR).kept0 aZ).kept0 aD
            have f0 := (aD.cell (p := ⟨P, o + i * 3, none⟩) hPs (by simp)).trans e0
            go_wp2_with fail
            generalize wr.alloc (.cells #[.int .i64 xn, .int .i64 c] 35) = VZ at *
            obtain ⟨k0, k1⟩ := kD VZ (Apart.refl _ _)
            refine (hbase VZ lbD).mono ?_
            rintro r w5 ⟨rfl, rfl⟩
            dsimp only
            by_cases hcy : c ≤ y.b
            · have Hall : Hid (∀ c', 1 ≤ c' → c' < y.b + 1 → dot ⟨xn, xb, xt⟩ c' = true → dot y c' = true) := fun c' h1 h3 hd => dot_low (by omega)
              go_wp2_with (go_at_call 72; refine (hbase _ lbD).mono ?_; rintro r w6 ⟨rfl, rfl⟩)
              go_roundw
              case rel => exact ⟨y.b + 1, by omega, by omega, rfl, aZ.trans aD, .inl ⟨rfl, hsub, Hall.out⟩⟩
              case measure => simp [intOf]; omega
            · have cA := hinA w5 laD c hc1 hcM
              have eA : inL A xn c = dot ⟨xn, xb, xt⟩ c := by rw [inL_ofn ka xn c hc1, kof]
              rw [eA] at cA
              have cB := fun W (l : L W q' M' B) => hinB W l c hc1 hcM
              have eB : inL B xn c = dot y c := by rw [inL_ofn kb xn c hc1, ← HY.out]
              simp only [eB] at cB
              obtain ⟨va, Ha⟩ : ∃ v, Hid (v = dot ⟨xn, xb, xt⟩ c) := ⟨_, rfl⟩
              obtain ⟨vb, Hb⟩ : ∃ v, Hid (v = dot y c) := ⟨_, rfl⟩
              rw [← Ha.out] at cA
              simp only [← Hb.out] at cB
              have HN : Hid ((va = true → vb = true) → ∀ c', 1 ≤ c' → c' < c + 1 → dot ⟨xn, xb, xt⟩ c' = true → dot y c' = true) := fun hv c' h1 h3 hd => by
                by_cases h4 : c' = c
                · subst h4; rw [← Hb.out]; exact hv (by rw [Ha.out]; exact hd)
                · exact hall c' h1 (by omega) hd
              have HBad : Hid (va = true → vb = false → ¬ Win A B) := fun h1 h3 hw => by
                have := HS2.out hw c hc1 (by rw [← Ha.out]; exact h1)
                rw [← Hb.out, h3] at this; cases this
              clear hall eA eB hinA hinB
              go_wp2_with fail
              refine cA.mono ?_
              rintro r w6 ⟨rfl, a6⟩
              dsimp only
              obtain ⟨m0, m1⟩ := kD w6 a6
              have a7 := (aZ.trans aD).trans a6
              cases va
              · go_wp2
                go_roundw
                case rel => exact ⟨c + 1, by omega, by omega, rfl, a7, .inl ⟨rfl, hsub, by first | exact HN.out (fun h => by cases h) | exact HN.out trivial | exact HN.out⟩⟩
                case measure => simp [intOf]; omega
              · go_wp2_with fail
                refine (cB w6 (lbD.kept0 a6)).mono ?_
                rintro r w8 ⟨rfl, a8⟩
                dsimp only
                obtain ⟨n0, n1⟩ := kD w8 (a6.trans a8)
                have a9 := a7.trans a8
                cases vb
                · have hnw : ¬ Win A B := by first | exact HBad.out rfl rfl | exact HBad.out trivial rfl | exact HBad.out trivial trivial | exact HBad.out rfl trivial | exact HBad.out trivial | exact HBad.out
                  obtain ⟨p4, c4, w10, hrun, a10⟩ := dot_append (w8.alloc (.cells #[.int .i64 xn, .int .i64 c] 35)) 30 ⟨w8.heap.size, 0, none⟩ xn c (by simp [Addr.add]) (by simp [Addr.add])
                  have HNW : Hid (¬ Win A B) := hnw
                  clear hnw
                  have a11 := (a9.trans ((Apart.refl [] w8).alloc (.cells #[.int .i64 xn, .int .i64 c] 35))).trans a10
                  go_wp2_with (at_builtin; refine wpList_append3 rfl (.tmp 68) (.tmp 70) 30 rfl _ _ rfl rfl _ _ hrun ?_)
                  go_roundw
                  case rel => exact ⟨c + 1, by omega, by omega, rfl, a11, .inr ⟨⟨p4, c4, rfl⟩, HNW.out⟩⟩
                  case measure => simp [intOf]; omega
                · go_wp2
                  go_roundw
                  case rel => exact ⟨c + 1, by omega, by omega, rfl, a9, .inl ⟨rfl, hsub, by first | exact HN.out (fun _ => rfl) | exact HN.out trivial | exact HN.out⟩⟩
                  case measure => simp [intOf]; omega
          · have HSub : Hid (Sub ⟨xn, xb, xt⟩ y) := fun c' h1 hd => by
              by_cases h3 : c' < c
              · exact hall c' h1 h3 hd
              · have hf : dot ⟨xn, xb, xt⟩ c' = false := by
                  unfold dot
                  rw [decide_eq_false (show ¬ c' ≤ xb by omega), Bool.false_or]
                  exact Nat.testBit_lt_two_pow (Nat.lt_of_lt_of_le hxt (Nat.pow_le_pow_right (by omega) (show 64 ≤ (c' - xb - 1).toNat by omega)))
                rw [hf] at hd; cases hd
            go_wp2
            go_roundw
            case rel => exact ⟨i + 1, by omega, rfl, aR.trans aZ, .inl ⟨rfl, fun j hj => by
              by_cases hji : j = i
              · subst hji
                rw [← HX.out]; simp only; rw [← HY.out]; exact HSub.out
              · exact hsub j (by omega)⟩⟩
            case measure => simp [intOf]; omega
        · by_cases hcx : c ≤ xb + 64
          · go_wp2
            go_roundw
            case rel => exact ⟨i + 1, by omega, rfl, aR.trans aZ, .inr ⟨⟨p4, c4, rfl⟩, hnw⟩⟩
            case measure => simp [intOf]; omega
          · go_wp2
            go_roundw
            case rel => exact ⟨i + 1, by omega, rfl, aR.trans aZ, .inr ⟨⟨p4, c4, rfl⟩, hnw⟩⟩
            case measure => simp [intOf]; omega
    · rcases hor with ⟨rfl, hsub⟩ | ⟨⟨p4, c4, rfl⟩, hnw⟩
      · go_wp2
        go_ret
        refine ⟨none, 0, 0, rfl, .inl rfl, ?_, a3.trans aR⟩
        rw [HA.out, HB.out]
        exact ⟨fun _ => HW.out.1 fun j hj => hsub j (by have := la.len; omega), fun _ => rfl⟩
      · go_wp2
        go_ret
        refine ⟨p4, 1, c4, rfl, .inr rfl, ?_, a3.trans aR⟩
        rw [HA.out, HB.out]
        exact ⟨fun h => absurd h (by omega), fun h => absurd h hnw⟩
theorem rwithin_as {p q : Option Addr} {N cap M cb : Nat} {xs ys : List S} {w : World} (h : L w p N xs) (h2 : L w q M ys) (v : Bool) (hv : Is v (Win (norm xs) (norm ys))) : Calls Tryd.prog 67 #[.slice p N cap, .slice q M cb] w fun r w' => r = .returned (.bool v) ∧ Apart [] w w' := by
  go_enter Tryd.func67, Tryd.ntmps67
  go_wp2_with fail
  refine (rmissing_ok h h2).mono ?_
  rintro r w1 ⟨⟨p1, n1, c1, rfl, h01, hiff, a1⟩⟩
  dsimp only
  have hv' := hv.out
  rcases h01 with rfl | rfl
  · obtain rfl : v = true := hv'.2 (hiff.1 rfl)
    clear hv' hiff hv
    go_wp2
    go_ret
    exact ⟨rfl, a1⟩
  · obtain rfl : v = false := by
      cases v
      · rfl
      · exact absurd (hiff.2 (hv'.1 rfl)) (by omega)
    clear hv' hiff hv
    go_wp2
    go_ret
    exact ⟨rfl, a1⟩
theorem within_any {p q : Option Addr} {N cap M cb : Nat} {xs ys : List S} {w : World} (T : Tab w) (h : L w p N xs) (h2 : L w q M ys) (v : Bool) (hv : Is v (Win (norm xs) (norm ys))) : Calls Tryd.prog 17 #[.slice p N cap, .slice q M cb] w fun r w' => r = .returned (.bool v) ∧ Apart [] w w' := by
  refine (within_ok T h h2).mono ?_
  rintro r w1 ⟨⟨u, rfl, hu⟩, a1⟩
  refine ⟨?_, a1⟩
  have : u = v := by
    have hv := hv.out
    cases u <;> cases v <;> simp_all
  rw [this]
end Go.Proofs.YtmdjjigiipboaaaDoor.ds
