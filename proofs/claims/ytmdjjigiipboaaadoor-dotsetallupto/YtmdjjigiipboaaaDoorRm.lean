import Derived.Test.YtmdjjigiipboaaaDoorN3
import Derived.Test.YtmdjjigiipboaaaDoorG2
import Derived.Test.YtmdjjigiipboaaaDoorMs0
namespace Go.Proofs.YtmdjjigiipboaaaDoor.ds
open Go.ChangeShapes Go.WideShapes Go.ChangeAt Go.RowKit
set_option linter.unusedVariables false
set_option linter.unusedSimpArgs false
theorem take_full {l : List (Int × Int)} (h : (l.take 300).length < 300) : l.take 300 = l := by
  rw [List.length_take] at h
  exact List.take_of_length_le (by omega)
theorem take_pre {p l : List (Int × Int)} (h : p <+: l) (h3 : (p.take 300).length = 300) : l.take 300 = p.take 300 := by
  obtain ⟨t, rfl⟩ := h
  rw [List.length_take] at h3
  rw [List.take_append, show 300 - p.length = 0 by omega]; simp
theorem ownd_append1 {w W : World} {p : Option Addr} {n cap : Nat} {ds : List (Int × Int)} (h : OwnD w W p n cap ds) (hn : n ≤ 1000) (ty : TypeId) (ad : Addr) (a b : Int) (h0 : W.cell? (ad.add 0) = some (.int .i64 a)) (h1 : W.cell? (ad.add 1) = some (.int .i64 b)) :
    ∃ p' cap' w', (Builtin.append_ #[30, 30] ty #[.slice p n cap, .slice (some ad) 1 1]).run Tryd.prog W = .ok (.slice p' (n + 1) cap') w' ∧ OwnD w w' p' (n + 1) cap' (ds ++ [(a, b)]) := by
  obtain ⟨i0, hi, hz0, hz1, hz2⟩ := info_parts info35b
  obtain ⟨v', w', hrun, r1, r2, r3⟩ := run_append2 W 30 ty 35 i0 (.agg #[.int .i64 0, .int .i64 0]) 2 16 Tryd.underlying30 hi hz0 hz1 hz2 rfl (by decide) (.slice p n cap) n (flatD ds) h.own ad 1 1 [.int .i64 a, .int .i64 b] (by decide) rfl
    (by
      intro j u hj
      match j, hj with
      | 0, hj => simp at hj; subst hj; exact h0
      | 1, hj => simp at hj; subst hj; exact h1)
    (by intro u hu; simp at hu; rcases hu with rfl | rfl <;> rfl) (by unfold maxLen; omega) (by omega)
  rw [flatD_snoc] at r1
  have hs : ∃ p' cap', v' = .slice p' (n + 1) cap' := by
    obtain ⟨_, ⟨_, hz⟩ | ⟨g, cap', cur, rfl, _⟩⟩ := id r1
    · omega
    · exact ⟨_, _, rfl⟩
  obtain ⟨p', cap', rfl⟩ := hs
  have ag := apart_grown r2
  refine ⟨p', cap', w', hrun, ⟨by simp [h.len], r1, fun b hb => ?_, h.ap.trans' ag (fun y hy => .inr (h.new y (by simpa using hy)))⟩⟩
  rcases r3 with r3 | ⟨k, r3, hk⟩
  · exact h.new b (r3.symm.trans hb)
  · rw [r3] at hb; cases hb; exact Nat.le_trans h.ap.size hk
theorem ownd_nil (w : World) : OwnD w w none 0 0 [] := ⟨rfl, World.ownsRow_nil _ _ _ _, (fun b hb => by cases hb), Apart.refl _ _⟩
/-- the dots of a span met below a count -/
def mm (x y : S) (c : Int) : List (Int × Int) := (miss x y c.toNat).map fun (k : Nat) => (x.n, (k : Int))
def lk (x y : S) : List (Int × Int) := (lack x y).map fun (k : Nat) => (x.n, (k : Int))
theorem mm_one (x y : S) : mm x y 1 = [] := by
  unfold mm
  rw [show (1 : Int).toNat = 1 from rfl, miss_low x y 1 (fun c h1 h2 => by omega)]; rfl
theorem mm_low {x y : S} {c : Int} (h : c ≤ y.b + 1) : mm x y c = [] := by
  unfold mm
  rw [miss_low x y c.toNat (fun k h1 h2 => dot_low (by omega))]; rfl
theorem mm_skip {x y : S} {c : Int} (h1 : 1 ≤ c) (h : dot x c = true → dot y c = true) : mm x y (c + 1) = mm x y c := by
  unfold mm
  rw [show (c + 1).toNat = c.toNat + 1 by omega, miss_skip]
  unfold mis
  rw [show ((c.toNat : Nat) : Int) = c by omega]
  cases hx : dot x c
  · simp
  · simp [h hx]
theorem mm_meet {x y : S} {c : Int} (h1 : 1 ≤ c) (hx : dot x c = true) (hy : dot y c = false) : mm x y (c + 1) = mm x y c ++ [(x.n, c)] := by
  unfold mm
  rw [show (c + 1).toNat = c.toNat + 1 by omega, miss_succ]
  have : mis x y c.toNat = true := by
    unfold mis
    rw [show ((c.toNat : Nat) : Int) = c by omega]
    simp [hx, hy]; omega
  rw [if_pos this, List.map_append]
  simp only [List.map_cons, List.map_nil]
  rw [show ((c.toNat : Nat) : Int) = c by omega]
theorem mm_pre {x y : S} {c : Int} (h : c ≤ x.b + 65) (hb : 0 ≤ x.b) : mm x y c <+: lk x y := (miss_lack (by omega)).map _
theorem mm_all {x y : S} {c : Int} (h : x.b + 64 < c) (hb : 0 ≤ x.b) (ht : x.t < 2 ^ 64) : mm x y c = lk x y := by
  unfold mm lk lack
  obtain ⟨d, hd⟩ : ∃ d, c.toNat = x.b.toNat + 65 + d := ⟨c.toNat - (x.b.toNat + 65), by omega⟩
  rw [hd, miss_same]
  intro k h1 h2
  unfold mis
  have hf : dot x k = false := by
    unfold dot
    rw [decide_eq_false (show ¬ (k : Int) ≤ x.b by omega), Bool.false_or]
    exact Nat.testBit_lt_two_pow (Nat.lt_of_lt_of_le ht (Nat.pow_le_pow_right (by omega) (show 64 ≤ ((k : Int) - x.b - 1).toNat by omega)))
  rw [hf]; simp
/-- what the other way's Missing answers -/
structure RmP (w w' : World) (r : Ending) (l : List (Int × Int)) : Prop where
  ex : ∃ p n cap, r = .returned (.slice p n cap) ∧ OwnD w w' p n cap (l.take 300)
theorem OwnD.le3 {w w' : World} {p : Option Addr} {n cap : Nat} {l : List (Int × Int)} (h : OwnD w w' p n cap (l.take 300)) : n ≤ 300 := by rw [h.len, List.length_take]; omega
set_option maxHeartbeats 20000000 in
set_option maxRecDepth 100000 in
theorem rmissing3_ok {p q : Option Addr} {N cap M cb : Nat} {xs ys : List S} {w : World} (h : L w p N xs) (h2 : L w q M ys) : Calls Tryd.prog 77 #[.slice p N cap, .slice q M cb, .int .i64 300] w fun r w' => RmP w w' r (lackL (norm xs) (norm ys)) := by
  have ka := norm_ok xs
  have kb := norm_ok ys
  go_enter Tryd.func77, Tryd.ntmps77
  go_wp2_with fail
  refine (rset_ok h).mono ?_
  rintro r w1 ⟨⟨p', N', ca', rfl, la, a1⟩⟩
  dsimp only
  go_wp2_with fail
  refine (rset_ok (h2.kept0 a1)).mono ?_
  rintro r w2 ⟨⟨q', M', cb', rfl, lb, a2⟩⟩
  dsimp only
  replace la := la.kept0 a2
  have a3 := a1.trans a2
  obtain ⟨A, HA⟩ : ∃ A, Hid (norm xs = A) := ⟨_, rfl⟩
  obtain ⟨B, HB⟩ : ∃ B, Hid (norm ys = B) := ⟨_, rfl⟩
  rw [HA.out] at ka la
  rw [HB.out] at kb lb
  clear h h2 a1 a2
  have hlim := la.lim
  go_wp2_with fail
  go_loopw [7, 8] (fun s v wr => ∃ (i : Nat) (p4 : Option Addr) (n4 c4 : Nat), i ≤ N' ∧ v = .int .i64 i ∧ s = .slice p4 n4 c4 ∧ OwnD w2 wr p4 n4 c4 ((lackL (A.take i) B).take 300)) (fun _ v _ => N' - (intOf v).toNat)
  case atStart => exact ⟨0, none, 0, 0, Nat.zero_le _, rfl, rfl, ownd_nil _⟩
  case round =>
    obtain ⟨i, p4, n4, c4, hi, rfl, rfl, od⟩ := hrel
    by_cases hlt : i < N'
    · have HI : Hid (i < A.length) := by show i < A.length; rw [la.len]; omega
      obtain ⟨P, o, rfl, hP, hc⟩ := la.sp (by rw [la.len]; omega)
      obtain ⟨c0, c1, c2⟩ := hc i HI.out
      have kx := ka.ok _ (g_mem HI.out)
      have kof := ofn_mem A ka _ (g_mem HI.out)
      have hT := lackL_take (ys := B) HI.out
      obtain ⟨⟨xn, xb, xt⟩, HX⟩ : ∃ x, Hid (x = g A i) := ⟨_, rfl⟩
      rw [← HX.out] at c0 c1 c2 kx kof hT
      simp only at c0 c1 c2 kof
      have hx0 := kx.b0
      have hxM := kx.bM
      have hxt := (kx.small (by decide)).2.2
      simp only at hx0 hxM hxt
      have HXT := hid hxt
      clear hc kx hxt
      have sy := kb.small (by decide) (by decide) xn
      obtain ⟨y, HY⟩ : ∃ y, Hid (y = ofn B xn) := ⟨_, rfl⟩
      have hbase := fun W (l : L W q' M' B) => rbase_ok (cap := cb') (w := W) xn l
      simp only [← HY.out] at hbase
      rw [← HY.out] at sy
      obtain ⟨P0, HP0⟩ : ∃ l, Hid (l = lackL (A.take i) B) := ⟨_, rfl⟩
      have HNX : Hid (lackL (A.take (i + 1)) B = P0 ++ lk ⟨xn, xb, xt⟩ y) := by
        show lackL (A.take (i + 1)) B = P0 ++ lk ⟨xn, xb, xt⟩ y
        rw [hT, HP0.out, HY.out]; rfl
      clear hT
      rw [← HP0.out] at od
      have hy0 := sy.1
      have hyM : y.b ≤ 1048576 := by
        have := (kb.okn (by decide) (by decide) xn).mx
        rw [← HY.out] at this
        unfold top at this
        omega
      clear sy
      have hw64 : IntKind.i64.wrap (xb + 64) = xb + 64 := by rw [IntKind.wrap_i64]; omega
      have hwy : IntKind.i64.wrap (y.b + 1) = y.b + 1 := by rw [IntKind.wrap_i64]; omega
      have hinA := fun W (l : L W (some ⟨P, o, none⟩) N' A) (c : Int) (h1 : 1 ≤ c) (h2 : c ≤ 4194304) => rin_ok (cap := ca') (w := W) l ka.bases xn c h2 (by omega)
      have hinB := fun W (l : L W q' M' B) (c : Int) (h1 : 1 ≤ c) (h2 : c ≤ 4194304) => rin_ok (cap := cb') (w := W) l kb.bases xn c h2 (by omega)
      have k0 := (od.ap.cell (p := ⟨P, o + i * 3, none⟩) hP (by simp)).trans c0
      have k1 := (od.ap.cell (p := ⟨P, o + i * 3 + 1, none⟩) hP (by simp)).trans c1
      go_wp2_with fail
      go_loopw [7, 9] (fun s v wz => ∃ (c : Int) (p5 : Option Addr) (n5 c5 : Nat), 1 ≤ c ∧ c ≤ 4194304 ∧ v = .int .i64 c ∧ s = .slice p5 n5 c5 ∧ OwnD w2 wz p5 n5 c5 ((P0 ++ mm ⟨xn, xb, xt⟩ y c).take 300)) (fun _ v _ => (xb + 65 - intOf v).toNat)
      case atStart => exact ⟨1, p4, n4, c4, by omega, by omega, rfl, rfl, by rw [mm_one, List.append_nil]; exact od⟩
      case round =>
        clear od k0 k1
        obtain ⟨c, p5, n5, c5, hc1, hcM, rfl, rfl, od⟩ := hrel
        have e0 := (od.ap.cell (p := ⟨P, o + i * 3, none⟩) hP (by simp)).trans c0
        have e1 := (od.ap.cell (p := ⟨P, o + i * 3 + 1, none⟩) hP (by simp)).trans c1
        have h300 := od.le3
        by_cases hcx : c ≤ xb + 64
        · by_cases hn5 : n5 < 300
          · have HFull : Hid ((P0 ++ mm ⟨xn, xb, xt⟩ y c).take 300 = P0 ++ mm ⟨xn, xb, xt⟩ y c) := take_full (by have := od.len; omega)
            have kD := fun W => @new1d wr (.int .i64 xn) (.int .i64 c) 35 W
            have aD : Apart [] wr (wr.alloc (.cells #[.int .i64 xn, .int .i64 c] 35)) := (Apart.refl _ _).alloc _
            have hwc : IntKind.i64.wrap (c + 1) = c + 1 := by rw [IntKind.wrap_i64]; omega
            have hPs : P < wr.heap.size := Nat.lt_of_lt_of_le hP od.ap.size
            have lbD := (lb.kept0 od.ap).kept0 aD
            have laD := (la.kept0 od.ap).kept0 aD
            have oD := od.kept aD
            have f0 := (aD.cell (p := ⟨P, o + i * 3, none⟩) hPs (by simp)).trans e0
            clear od
            go_wp2_with fail
            generalize wr.alloc (.cells #[.int .i64 xn, .int .i64 c] 35) = VZ at *
            obtain ⟨k0, k1⟩ := kD VZ (Apart.refl _ _)
            refine (hbase VZ lbD).mono ?_
            rintro r w5 ⟨rfl, rfl⟩
            dsimp only
            by_cases hcy : c ≤ y.b
            · have HL : Hid (OwnD w2 w5 p5 n5 c5 ((P0 ++ mm ⟨xn, xb, xt⟩ y (y.b + 1)).take 300)) := by
                show OwnD w2 w5 p5 n5 c5 ((P0 ++ mm ⟨xn, xb, xt⟩ y (y.b + 1)).take 300)
                rw [mm_low (Int.le_refl _), ← mm_low (x := ⟨xn, xb, xt⟩) (y := y) (c := c) (by omega)]; exact oD
              go_wp2_with (go_at_call 72; refine (hbase _ lbD).mono ?_; rintro r w6 ⟨rfl, rfl⟩)
              go_roundw
              case rel => exact ⟨y.b + 1, p5, n5, c5, by omega, by omega, rfl, rfl, HL.out⟩
              case measure => simp [intOf]; omega
            · have cA := hinA w5 laD c hc1 hcM
              have eA : inL A xn c = dot ⟨xn, xb, xt⟩ c := by rw [inL_ofn ka xn c hc1, kof]
              rw [eA] at cA
              have cB := fun W (l : L W q' M' B) => hinB W l c hc1 hcM
              have eB : inL B xn c = dot y c := by rw [inL_ofn kb xn c hc1, ← HY.out]
              simp only [eB] at cB
              obtain ⟨va, Ha⟩ : ∃ v, Hid (v = dot ⟨xn, xb, xt⟩ c) := ⟨_, rfl⟩
              obtain ⟨vb, Hb⟩ : ∃ v, Hid (v = dot y c) := ⟨_, rfl⟩
              rw [← Ha.out] at cA
              simp only [← Hb.out] at cB
              have HSk : Hid ((va = true → vb = true) → mm ⟨xn, xb, xt⟩ y (c + 1) = mm ⟨xn, xb, xt⟩ y c) := fun hv => mm_skip hc1 (by rw [← Ha.out, ← Hb.out]; exact hv)
              have HMe : Hid (va = true → vb = false → mm ⟨xn, xb, xt⟩ y (c + 1) = mm ⟨xn, xb, xt⟩ y c ++ [(xn, c)]) := fun h1 h2 => mm_meet hc1 (by rw [← Ha.out]; exact h1) (by rw [← Hb.out]; exact h2)
              clear eA eB hinA hinB
              go_wp2_with fail
              refine cA.mono ?_
              rintro r w6 ⟨rfl, a6⟩
              dsimp only
              obtain ⟨m0, m1⟩ := kD w6 a6
              have o6 := oD.kept a6
              cases va
              · have HE : Hid (mm ⟨xn, xb, xt⟩ y (c + 1) = mm ⟨xn, xb, xt⟩ y c) := HSk.out (fun h => by cases h)
                clear HSk HMe
                go_wp2
                go_roundw
                case rel => exact ⟨c + 1, p5, n5, c5, by omega, by omega, rfl, rfl, by rw [HE.out]; exact o6⟩
                case measure => simp [intOf]; omega
              · go_wp2_with fail
                refine (cB w6 (lbD.kept0 a6)).mono ?_
                rintro r w8 ⟨rfl, a8⟩
                dsimp only
                obtain ⟨n0, n1⟩ := kD w8 (a6.trans a8)
                have o8 := o6.kept a8
                cases vb
                · have HE : Hid (mm ⟨xn, xb, xt⟩ y (c + 1) = mm ⟨xn, xb, xt⟩ y c ++ [(xn, c)]) := by first | exact HMe.out rfl rfl | exact HMe.out trivial rfl | exact HMe.out trivial trivial | exact HMe.out rfl trivial | exact HMe.out trivial | exact HMe.out
                  have o9 := o8.kept ((Apart.refl [] w8).alloc (.cells #[.int .i64 xn, .int .i64 c] 35))
                  obtain ⟨p6, c6, w10, hrun, o10⟩ := ownd_append1 o9 (by omega) 30 ⟨w8.heap.size, 0, none⟩ xn c (by simp [Addr.add]) (by simp [Addr.add])
                  have HO : Hid (OwnD w2 w10 p6 (n5 + 1) c6 ((P0 ++ mm ⟨xn, xb, xt⟩ y (c + 1)).take 300)) := by
                    show OwnD w2 w10 p6 (n5 + 1) c6 ((P0 ++ mm ⟨xn, xb, xt⟩ y (c + 1)).take 300)
                    have hl := o10.len
                    rw [HFull.out] at o10 hl
                    rw [HE.out, ← List.append_assoc, List.take_of_length_le (by omega)]
                    exact o10
                  clear HSk HMe HE o9 o10
                  go_wp2_with (at_builtin; refine wpList_append3 rfl (.tmp 68) (.tmp 70) 30 rfl _ _ rfl rfl _ _ hrun ?_)
                  go_roundw
                  case rel => exact ⟨c + 1, p6, n5 + 1, c6, by omega, by omega, rfl, rfl, HO.out⟩
                  case measure => simp [intOf]; omega
                · have HE : Hid (mm ⟨xn, xb, xt⟩ y (c + 1) = mm ⟨xn, xb, xt⟩ y c) := by first | exact HSk.out (fun _ => rfl) | exact HSk.out trivial | exact HSk.out
                  clear HSk HMe
                  go_wp2
                  go_roundw
                  case rel => exact ⟨c + 1, p5, n5, c5, by omega, by omega, rfl, rfl, by rw [HE.out]; exact o8⟩
                  case measure => simp [intOf]; omega
          · have HO : Hid (OwnD w2 wr p5 n5 c5 ((lackL (A.take (i + 1)) B).take 300)) := by
              show OwnD w2 wr p5 n5 c5 ((lackL (A.take (i + 1)) B).take 300)
              have hl := od.len
              rw [HNX.out, take_pre (List.prefix_append_right_inj P0 |>.2 (mm_pre (c := c) (by simp only; omega) (by simp only; omega))) (by omega)]
              exact od
            go_wp2
            go_roundw
            case rel => exact ⟨i + 1, p5, n5, c5, by omega, rfl, rfl, HO.out⟩
            case measure => simp [intOf]; omega
        · have HO : Hid (OwnD w2 wr p5 n5 c5 ((lackL (A.take (i + 1)) B).take 300)) := by
            show OwnD w2 wr p5 n5 c5 ((lackL (A.take (i + 1)) B).take 300)
            rw [HNX.out, ← mm_all (c := c) (by simp only; omega) (by simp only; omega) HXT.out]
            exact od
          go_wp2
          go_roundw
          case rel => exact ⟨i + 1, p5, n5, c5, by omega, rfl, rfl, HO.out⟩
          case measure => simp [intOf]; omega
    · obtain rfl : i = N' := by omega
      have HO : Hid (OwnD w2 wr p4 n4 c4 ((lackL A B).take 300)) := by
        show OwnD w2 wr p4 n4 c4 ((lackL A B).take 300)
        rw [List.take_of_length_le (show A.length ≤ i by rw [la.len]; omega)] at od
        exact od
      go_wp2
      go_ret
      rw [HA.out, HB.out]
      exact ⟨p4, n4, c4, rfl, HO.out.len, HO.out.own, fun b hb => Nat.le_trans a3.size (HO.out.new b hb), a3.trans HO.out.ap⟩
end Go.Proofs.YtmdjjigiipboaaaDoor.ds
