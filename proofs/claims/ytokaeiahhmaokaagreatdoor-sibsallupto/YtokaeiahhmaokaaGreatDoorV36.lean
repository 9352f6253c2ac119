import Derived.Test.YtokaeiahhmaokaaGreatDoorV35
namespace Go.Proofs.YtokaeiahhmaokaaGreatDoor.ds
open Go.ChangeShapes Go.WideShapes Go.ChangeAt Go.RowKit
set_option linter.unusedVariables false
set_option linter.unusedSimpArgs false
/-- what both is to find -/
structure Target (xs ys : List S) (Y : Nat → S) : Prop where
  n : ∀ k : Nat, (Y k).n = k
  wf : ∀ k : Nat, k < 8 → Wf (Y k)
  bM : ∀ k : Nat, k < 8 → (Y k).b ≤ 2097152
  dots : ∀ k : Nat, k < 8 → ∀ c : Int, 1 ≤ c → (inL xs k c || inL ys k c) = dot (Y k) c
  ba : ∀ k : Nat, k < 8 → 0 ≤ (ofn xs k).b ∧ (ofn xs k).b ≤ (Y k).b
  bb : ∀ k : Nat, k < 8 → 0 ≤ (ofn ys k).b ∧ (ofn ys k).b ≤ (Y k).b
set_option maxHeartbeats 40000000 in
set_option maxRecDepth 100000 in
theorem both_ok {p q : Option Addr} {N cap M cb : Nat} {xs ys : List S} {w : World} (Y : Nat → S) (tg : Target xs ys Y) (la : L w p N xs) (lb : L w q M ys) (ha : ∀ x ∈ xs, 0 ≤ x.b ∧ x.b ≤ 4194304) (hb : ∀ x ∈ ys, 0 ≤ x.b ∧ x.b ≤ 4194304) : Calls Tryz.prog 70 #[.slice p N cap, .slice q M cb] w fun r w' => GPost w w' r (gath Y 8) := by
  go_enter Tryz.func70, Tryz.ntmps70
  go_wp2_with fail
  go_loopw [5, 6] (fun s v wr => ∃ k : Nat, k ≤ 8 ∧ v = .int .i64 k ∧ ∃ p' n' cap', s = .slice p' n' cap' ∧ n' ≤ k ∧ Own w wr p' n' cap' (gath Y k)) (fun _ v _ => 8 - (intOf v).toNat)
  case atStart => exact ⟨0, by omega, rfl, none, 0, 0, rfl, by omega, rfl, World.ownsRow_nil _ _ _ _, fun b hb => by simp [Value.ownBlock] at hb, Apart.refl _ _⟩
  case round =>
    obtain ⟨k, hk, rfl, p', n', cap', rfl, hn', own⟩ := hrel
    by_cases hlt : k < 8
    · have hk8 : (k : Int) < 8 := by omega
      have DOT := tg.dots k hlt
      have WFY := tg.wf k hlt
      have BM := tg.bM k hlt
      obtain ⟨a0, a1⟩ := tg.ba k hlt
      obtain ⟨b0, b1⟩ := tg.bb k hlt
      have YN := tg.n k
      obtain ⟨y, HY⟩ : ∃ y, Hid (y = Y k) := ⟨_, rfl⟩
      rw [← HY.out] at DOT WFY BM a1 b1 YN
      obtain ⟨A, HA⟩ : ∃ A, Hid (A = (ofn xs k).b) := ⟨_, rfl⟩
      obtain ⟨Bb, HB⟩ : ∃ B, Hid (B = (ofn ys k).b) := ⟨_, rfl⟩
      rw [← HA.out] at a0 a1
      rw [← HB.out] at b0 b1
      have hA := fun W (l : L W p N xs) => rbase_ok (cap := cap) (w := W) (k : Int) l
      have hB := fun W (l : L W q M ys) => rbase_ok (cap := cb) (w := W) (k : Int) l
      simp only [← HA.out] at hA
      simp only [← HB.out] at hB
      go_wp2_with fail
      refine (hA wr (la.kept0 own.ap)).mono ?_
      rintro r w1 ⟨rfl, rfl⟩
      dsimp only
      go_wp2_with fail
      have bX := new1 w1 #[.int .i64 k, .int .i64 A, .int .u64 0] 47
      have aX : Apart [] w1 (w1.alloc (.cells #[.int .i64 k, .int .i64 A, .int .u64 0] 47)) := (Apart.refl _ _).alloc _
      have hown : ∀ j, (Value.slice p' n' cap').ownBlock = some j → j ≠ w1.heap.size := fun j hj => by have := own.lt j hj; omega
      have hw : w.heap.size ≤ w1.heap.size := own.ap.size
      obtain ⟨X, HX⟩ : ∃ X, Hid (X = w1.heap.size) := ⟨_, rfl⟩
      rw [← HX.out] at bX hown hw ⊢
      replace own := own.kept aX
      generalize w1.alloc (.cells #[.int .i64 k, .int .i64 A, .int .u64 0] 47) = V at *
      obtain ⟨⟨d0, d1, d2⟩, f0, f1, f2⟩ := rowc bX
      have lbV := lb.kept0 own.ap
      go_wp2_with fail
      have HAB : ∀ W (l : L W q M ys), Calls Tryz.prog 72 #[.slice q M cb, .int .i64 k] W fun r w' => r = .returned (.int .i64 Bb) ∧ w' = W := hB
      clear hA hB
      go_quiet (first | (go_at_call 72; exact Calls.quiet_of_same (HAB _ (lbV.kept0 ((Apart.refl _ _).drewN _)))))
      have ownD := own.kept ((Apart.refl [] V).drewN nq)
      have rowD : (V.drewN nq).heap[X]? = some (.cells #[.int .i64 k, .int .i64 A, .int .u64 0] 47 (0, 0)) := bX
      generalize V.drewN nq = VD at *
      have lbD := lb.kept0 ownD.ap
      clear d0 d1 d2 f0 f1 f2
      obtain ⟨⟨d0, d1, d2⟩, f0, f1, f2⟩ := rowc rowD
      have hown' : Hid (∀ j, (Value.slice p' n' cap').ownBlock = some j → j ≠ X) := hown
      have DOT' : Hid (∀ c : Int, 1 ≤ c → (inL xs k c || inL ys k c) = dot y c) := DOT
      have WFY' : Hid (Wf y) := WFY
      clear hown DOT WFY
      have hown := hown'
      have DOT := DOT'
      have WFY := WFY'
      clear hown' DOT' WFY'
      by_cases hAB : A < Bb
      · go_wp2_with (go_at_call 72; refine (HAB _ lbD).mono ?_; rintro r w3 ⟨rfl, rfl⟩)
        obtain ⟨B0, HB0⟩ : ∃ B0, Hid (B0 = Bb) := ⟨_, rfl⟩
        have hB0 : 0 ≤ B0 := by rw [HB0.out]; exact b0
        have hB1 : B0 ≤ y.b := by rw [HB0.out]; exact b1
        have rowW : (w3.setCell ⟨X, 1, none⟩ (.int .i64 Bb)).heap[X]? = some (.cells #[.int .i64 k, .int .i64 B0, .int .u64 0] 47 (0, 0)) := by
          have := heap_setCell_same w3 X 1 _ 47 (.int .i64 Bb) rowD
          rw [HB0.out]; simpa using this
        have ownW : Own w (w3.setCell ⟨X, 1, none⟩ (.int .i64 Bb)) p' n' cap' (gath Y k) := ownD.keptX ((Apart.refl [X] w3).setCell (.inl (by simp)) _) (fun j hj => by simpa using hown.out j hj) (by simpa using hw)
        go_loopw [] (fun wq => ∃ B : Int, 0 ≤ B ∧ B ≤ y.b ∧ wq.heap[X]? = some (.cells #[.int .i64 k, .int .i64 B, .int .u64 0] 47 (0, 0)) ∧ Own w wq p' n' cap' (gath Y k)) (fun wq => (y.b - cellInt wq X 1).toNat)
        case atStart => exact ⟨B0, hB0, hB1, rowW, ownW⟩
        case round =>
          obtain ⟨B, hBa, hBb, rowQ, ownQ⟩ := hrel
          obtain ⟨⟨g0, g1, g2⟩, j0, j1, j2⟩ := rowc rowQ
          have HM : Hid (cellInt wr X 1 = B) := cellInt_of g1
          have hwB : IntKind.i64.wrap (B + 1) = B + 1 := by rw [IntKind.wrap_i64]; omega
          obtain ⟨va, HVa⟩ : ∃ v, Hid (v = inL xs k (B + 1)) := ⟨_, rfl⟩
          obtain ⟨vb, HVb⟩ : ∃ v, Hid (v = inL ys k (B + 1)) := ⟨_, rfl⟩
          have HD : Hid ((va || vb) = dot y (B + 1)) := by
            show (va || vb) = dot y (B + 1)
            rw [HVa.out, HVb.out]; exact DOT.out (B + 1) (by omega)
          have ca := rin_ok (cap := cap) (la.kept0 ownQ.ap) ha (k : Int) (B + 1) (by omega) (by omega)
          rw [← HVa.out] at ca
          have cbb := fun W (l : L W q M ys) => rin_ok (cap := cb) (w := W) l hb (k : Int) (B + 1) (by omega) (by omega)
          simp only [← HVb.out] at cbb
          cases va
          case true =>
            have hlt2 : B < y.b := by
              by_cases hc : B < y.b
              · exact hc
              · have he : B = y.b := by omega
                have := HD.out
                rw [he, dot_next WFY.out] at this
                simp at this
            go_wp2_with fail
            refine ca.mono ?_
            rintro r w5 ⟨rfl, a5⟩
            dsimp only
            have row5 := (a5.block X (lt_of_heap rowQ) (by simp)).trans rowQ
            obtain ⟨⟨u0, u1, u2⟩, v0, v1, v2⟩ := rowc row5
            have own5 := ownQ.kept a5
            go_wp2_with fail
            go_roundw
            case rel =>
              refine ⟨B + 1, by omega, by omega, ?_, own5.keptX ((Apart.refl [X] w5).setCell (.inl (by simp)) _) (fun j hj => by simpa using hown.out j hj) (by simpa using hw)⟩
              have := heap_setCell_same w5 X 1 _ 47 (.int .i64 (B + 1)) row5
              simpa using this
            case measure =>
              have row6 : (w5.setCell ⟨X, 1, none⟩ (.int .i64 (B + 1))).heap[X]? = some (.cells #[.int .i64 k, .int .i64 (B + 1), .int .u64 0] 47 (0, 0)) := by
                have := heap_setCell_same w5 X 1 _ 47 (.int .i64 (B + 1)) row5
                simpa using this
              rw [HM.out, cellInt_of (rowc row6).1.2.1]
              omega
          case false =>
            cases vb
            case true =>
              have hlt2 : B < y.b := by
                by_cases hc : B < y.b
                · exact hc
                · have he : B = y.b := by omega
                  have := HD.out
                  rw [he, dot_next WFY.out] at this
                  simp at this
              go_wp2_with fail
              refine ca.mono ?_
              rintro r w4 ⟨rfl, a4⟩
              dsimp only
              have row4 := (a4.block X (lt_of_heap rowQ) (by simp)).trans rowQ
              obtain ⟨⟨t0, t1, t2⟩, _⟩ := rowc row4
              have own4 := ownQ.kept a4
              go_wp2_with fail
              refine (cbb _ (lb.kept0 own4.ap)).mono ?_
              rintro r w5 ⟨rfl, a5⟩
              dsimp only
              have row5 := (a5.block X (lt_of_heap row4) (by simp)).trans row4
              obtain ⟨⟨u0, u1, u2⟩, v0, v1, v2⟩ := rowc row5
              have own5 := own4.kept a5
              go_wp2_with fail
              go_roundw
              case rel =>
                refine ⟨B + 1, by omega, by omega, ?_, own5.keptX ((Apart.refl [X] w5).setCell (.inl (by simp)) _) (fun j hj => by simpa using hown.out j hj) (by simpa using hw)⟩
                have := heap_setCell_same w5 X 1 _ 47 (.int .i64 (B + 1)) row5
                simpa using this
              case measure =>
                have row6 : (w5.setCell ⟨X, 1, none⟩ (.int .i64 (B + 1))).heap[X]? = some (.cells #[.int .i64 k, .int .i64 (B + 1), .int .u64 0] 47 (0, 0)) := by
                  have := heap_setCell_same w5 X 1 _ 47 (.int .i64 (B + 1)) row5
                  simpa using this
                rw [HM.out, cellInt_of (rowc row6).1.2.1]
                omega
            case false =>
              have hBy : B = y.b := by
                by_cases hc : B < y.b
                · have := HD.out
                  rw [dot_low (x := y) (c := B + 1) (by omega)] at this
                  simp at this
                · omega
              subst hBy
              go_wp2_with fail
              refine ca.mono ?_
              rintro r w4 ⟨rfl, a4⟩
              dsimp only
              have row4 := (a4.block X (lt_of_heap rowQ) (by simp)).trans rowQ
              obtain ⟨⟨t0, t1, t2⟩, _⟩ := rowc row4
              have own4 := ownQ.kept a4
              go_wp2_with fail
              refine (cbb _ (lb.kept0 own4.ap)).mono ?_
              rintro r w5 ⟨rfl, a5⟩
              dsimp only
              have row5 := (a5.block X (lt_of_heap row4) (by simp)).trans row4
              have own5 := own4.kept a5
              clear ca cbb HVa HVb HD HM row4 own4 rowQ ownQ a4 a5 g0 g1 g2 j0 j1 j2 t0 t1 t2
              have ev1 : y.t % 2 ^ 1 = 0 := WFY.out.ev
              go_wp2_with fail
              go_loopw [8] (fun v wz => ∃ i : Nat, 1 ≤ i ∧ i ≤ 64 ∧ v = .int .i64 i ∧ wz.heap[X]? = some (.cells #[.int .i64 k, .int .i64 y.b, .int .u64 ((y.t % 2 ^ i : Nat) : Int)] 47 (0, 0)) ∧ Own w wz p' n' cap' (gath Y k)) (fun v _ => 64 - (intOf v).toNat)
              case atStart => exact ⟨1, by omega, by omega, rfl, by rw [ev1]; exact row5, own5⟩
              case round =>
                clear row5 own5 ev1
                obtain ⟨i, hi1, hi64, rfl, rowZ, ownZ⟩ := hrel
                obtain ⟨⟨g0, g1, g2⟩, j0, j1, j2⟩ := rowc rowZ
                by_cases hi : i < 64
                · skip
                  have hw1 : IntKind.i64.wrap (y.b + 1) = y.b + 1 := by rw [IntKind.wrap_i64]; omega
                  have hw2 : IntKind.i64.wrap (y.b + 1 + (i : Int)) = y.b + 1 + (i : Int) := by rw [IntKind.wrap_i64]; omega
                  have he1 : 1 ≤ y.b + 1 + (i : Int) := by omega
                  have he2 : y.b + 1 + (i : Int) ≤ 4194304 := by omega
                  obtain ⟨va, HVa⟩ : ∃ v, Hid (v = inL xs k (y.b + 1 + (i : Int))) := ⟨_, rfl⟩
                  obtain ⟨vb, HVb⟩ : ∃ v, Hid (v = inL ys k (y.b + 1 + (i : Int))) := ⟨_, rfl⟩
                  have HD : Hid ((va || vb) = y.t.testBit i) := by
                    show (va || vb) = y.t.testBit i
                    rw [HVa.out, HVb.out, DOT.out _ he1]; exact dot_bit y i
                  have hi0 : (0 : Int) ≤ (i : Int) := by omega
                  have h64 : (i : Int) < 64 := by omega
                  have HT : Hid (y.t % 2 ^ (i + 1) = y.t % 2 ^ i + (if y.t.testBit i then 2 ^ i else 0)) := mod_next y.t i
                  have kD := fun W => @new1d wr (.int .i64 k) (.int .i64 (y.b + 1 + (i : Int))) 24 W
                  have aD0 : Apart [] wr (wr.alloc (.cells #[.int .i64 k, .int .i64 (y.b + 1 + (i : Int))] 24)) := (Apart.refl _ _).alloc _
                  have ownD0 := ownZ.kept aD0
                  have rowD0 := (aD0.block X (lt_of_heap rowZ) (by simp)).trans rowZ
                  have ca := rin_ok (cap := cap) (la.kept0 ownD0.ap) ha (k : Int) (y.b + 1 + (i : Int)) he2 (by omega)
                  rw [← HVa.out] at ca
                  have cbb := fun W (l : L W q M ys) => rin_ok (cap := cb) (w := W) l hb (k : Int) (y.b + 1 + (i : Int)) he2 (by omega)
                  simp only [← HVb.out] at cbb
                  go_wp2_with fail
                  generalize wr.alloc (.cells #[.int .i64 k, .int .i64 (y.b + 1 + (i : Int))] 24) = VZ at *
                  refine ca.mono ?_
                  rintro r w4 ⟨rfl, a4⟩
                  dsimp only
                  have own4 := ownD0.kept a4
                  have row4 := (a4.block X (lt_of_heap rowD0) (by simp)).trans rowD0
                  obtain ⟨k0, k1⟩ := kD w4 a4
                  clear g0 g1 g2 j0 j1 j2 rowZ ownZ
                  cases va
                  case true =>
                    have HN : Hid (y.t % 2 ^ (i + 1) = y.t % 2 ^ i + 2 ^ i) := by
                      show y.t % 2 ^ (i + 1) = y.t % 2 ^ i + 2 ^ i
                      have := HD.out
                      simp only [Bool.true_or] at this
                      rw [HT.out, if_pos this.symm]
                    clear HT HD ca cbb
                    have hadd := shl_add y.t i hi WFY.out.lt
                    obtain ⟨tb, Htb⟩ : ∃ tb, Hid (tb = y.t % 2 ^ i) := ⟨_, rfl⟩
                    rw [← Htb.out] at hadd row4 HN
                    obtain ⟨⟨u0, u1, u2⟩, v0, v1, v2⟩ := rowc row4
                    go_wp2_with fail
                    go_region
                    go_wp2
                    go_roundw
                    case rel =>
                      refine ⟨i + 1, by omega, by omega, rfl, ?_, own4.keptX (X := [X]) (by first | exact (((Apart.refl [X] w4).drew).setCell (.inl (by simp)) _) | exact (((Apart.refl [X] w4).setCell (.inl (by simp)) _).drew)) (fun j hj => by simpa using hown.out j hj) (by simpa using hw)⟩
                      have := heap_setCell_same w4 X 2 _ 47 (.int .u64 ((tb + 2 ^ i : Nat) : Int)) row4
                      rw [HN.out]
                      first | exact this | simpa using this
                    case measure => simp [intOf]; omega
                  case false =>
                    go_wp2_with fail
                    refine (cbb _ (lb.kept0 own4.ap)).mono ?_
                    rintro r w5 ⟨rfl, a5⟩
                    dsimp only
                    have own5 := own4.kept a5
                    have row5 := (a5.block X (lt_of_heap row4) (by simp)).trans row4
                    cases vb
                    case true =>
                      have HN : Hid (y.t % 2 ^ (i + 1) = y.t % 2 ^ i + 2 ^ i) := by
                        show y.t % 2 ^ (i + 1) = y.t % 2 ^ i + 2 ^ i
                        have := HD.out
                        simp only [Bool.false_or] at this
                        rw [HT.out, if_pos this.symm]
                      clear HT HD ca cbb
                      have hadd := shl_add y.t i hi WFY.out.lt
                      obtain ⟨tb, Htb⟩ : ∃ tb, Hid (tb = y.t % 2 ^ i) := ⟨_, rfl⟩
                      rw [← Htb.out] at hadd row5 HN
                      obtain ⟨⟨u0, u1, u2⟩, v0, v1, v2⟩ := rowc row5
                      go_wp2_with fail
                      go_region
                      go_wp2
                      go_roundw
                      case rel =>
                        refine ⟨i + 1, by omega, by omega, rfl, ?_, own5.keptX (X := [X]) (by first | exact (((Apart.refl [X] w5).drew).setCell (.inl (by simp)) _) | exact (((Apart.refl [X] w5).setCell (.inl (by simp)) _).drew)) (fun j hj => by simpa using hown.out j hj) (by simpa using hw)⟩
                        have := heap_setCell_same w5 X 2 _ 47 (.int .u64 ((tb + 2 ^ i : Nat) : Int)) row5
                        rw [HN.out]
                        first | exact this | simpa using this
                      case measure => simp [intOf]; omega
                    case false =>
                      have HN : Hid (y.t % 2 ^ (i + 1) = y.t % 2 ^ i) := by
                        show y.t % 2 ^ (i + 1) = y.t % 2 ^ i
                        have := HD.out
                        simp only [Bool.false_or] at this
                        rw [HT.out, ← this]; simp
                      clear HT HD ca cbb
                      go_wp2
                      go_roundw
                      case rel => exact ⟨i + 1, by omega, by omega, rfl, by rw [HN.out]; exact row5, own5⟩
                      case measure => simp [intOf]; omega
                · skip
                  have e64 : y.t % 2 ^ i = y.t := by
                    obtain rfl : i = 64 := by omega
                    exact Nat.mod_eq_of_lt WFY.out.lt
                  rw [e64] at rowZ g2
                  have HZ : Hid (gath Y (k + 1) = gath Y k ++ (if y = none0 k then [] else [y])) := by
                    show gath Y (k + 1) = gath Y k ++ (if y = none0 k then [] else [y])
                    rw [gath, HY.out]
                  have hne : Hid (y = none0 k ↔ (y.b = 0 ∧ y.t = 0)) := by
                    show y = none0 k ↔ (y.b = 0 ∧ y.t = 0)
                    constructor
                    · intro h; rw [h]; exact ⟨rfl, rfl⟩
                    · rintro ⟨h1, h2⟩
                      cases y
                      simp only [none0, S.mk.injEq]
                      simp only at h1 h2 YN
                      exact ⟨YN, h1, h2⟩
                  have yb0 : 0 ≤ y.b := WFY.out.b0
                  have own3 := ownZ.kept ((Apart.refl [] wr).alloc (.cells #[.int .i64 k, .int .i64 y.b, .int .u64 (y.t : Int)] 47))
                  have hcell : ∀ j u, [Value.int .i64 (k : Int), .int .i64 y.b, .int .u64 (y.t : Int)][j]? = some u → (wr.alloc (.cells #[.int .i64 k, .int .i64 y.b, .int .u64 (y.t : Int)] 47)).cell? ((⟨wr.heap.size, 0, none⟩ : Addr).add j) = some u := by
                    intro j u hj
                    match j, hj with
                    | 0, hj => simp at hj; subst hj; simp [Addr.add]
                    | 1, hj => simp at hj; subst hj; simp [Addr.add]
                    | 2, hj => simp at hj; subst hj; simp [Addr.add]
                  obtain ⟨p4, cap4, w4, hrun, own4⟩ := own_append own3 (by omega) 26 ⟨wr.heap.size, 0, none⟩ y (by rw [YN]; exact hcell 0 _ rfl) (hcell 1 _ rfl) (hcell 2 _ rfl)
                  clear own3 hcell
                  by_cases z1 : 0 < y.b
                  · have hy : ¬ y = none0 k := fun h => by have := (hne.out.1 h).1; omega
                    have HZ2 : Hid (gath Y (k + 1) = gath Y k ++ [y]) := by
                      show gath Y (k + 1) = gath Y k ++ [y]
                      rw [HZ.out, if_neg hy]
                    clear hy hne HZ
                    go_wp2_with (at_builtin; refine wpList_append3 rfl (.tmp 82) (.tmp 84) 26 rfl _ _ rfl rfl _ _ hrun ?_)
                    go_roundw
                    case rel => exact ⟨k + 1, by omega, rfl, p4, n' + 1, cap4, rfl, by omega, by rw [HZ2.out]; exact own4⟩
                    case measure => simp [intOf]; omega
                  · exfalso; omega
      · go_wp2_with fail
        obtain ⟨B0, HB0⟩ : ∃ B0, Hid (B0 = A) := ⟨_, rfl⟩
        have hB0 : 0 ≤ B0 := by rw [HB0.out]; exact a0
        have hB1 : B0 ≤ y.b := by rw [HB0.out]; exact a1
        have rowW : VD.heap[X]? = some (.cells #[.int .i64 k, .int .i64 B0, .int .u64 0] 47 (0, 0)) := by rw [HB0.out]; exact rowD
        have ownW := ownD
        go_loopw [] (fun wq => ∃ B : Int, 0 ≤ B ∧ B ≤ y.b ∧ wq.heap[X]? = some (.cells #[.int .i64 k, .int .i64 B, .int .u64 0] 47 (0, 0)) ∧ Own w wq p' n' cap' (gath Y k)) (fun wq => (y.b - cellInt wq X 1).toNat)
        case atStart => exact ⟨B0, hB0, hB1, rowW, ownW⟩
        case round =>
          obtain ⟨B, hBa, hBb, rowQ, ownQ⟩ := hrel
          obtain ⟨⟨g0, g1, g2⟩, j0, j1, j2⟩ := rowc rowQ
          have HM : Hid (cellInt wr X 1 = B) := cellInt_of g1
          have hwB : IntKind.i64.wrap (B + 1) = B + 1 := by rw [IntKind.wrap_i64]; omega
          obtain ⟨va, HVa⟩ : ∃ v, Hid (v = inL xs k (B + 1)) := ⟨_, rfl⟩
          obtain ⟨vb, HVb⟩ : ∃ v, Hid (v = inL ys k (B + 1)) := ⟨_, rfl⟩
          have HD : Hid ((va || vb) = dot y (B + 1)) := by
            show (va || vb) = dot y (B + 1)
            rw [HVa.out, HVb.out]; exact DOT.out (B + 1) (by omega)
          have ca := rin_ok (cap := cap) (la.kept0 ownQ.ap) ha (k : Int) (B + 1) (by omega) (by omega)
          rw [← HVa.out] at ca
          have cbb := fun W (l : L W q M ys) => rin_ok (cap := cb) (w := W) l hb (k : Int) (B + 1) (by omega) (by omega)
          simp only [← HVb.out] at cbb
          cases va
          case true =>
            have hlt2 : B < y.b := by
              by_cases hc : B < y.b
              · exact hc
              · have he : B = y.b := by omega
                have := HD.out
                rw [he, dot_next WFY.out] at this
                simp at this
            go_wp2_with fail
            refine ca.mono ?_
            rintro r w5 ⟨rfl, a5⟩
            dsimp only
            have row5 := (a5.block X (lt_of_heap rowQ) (by simp)).trans rowQ
            obtain ⟨⟨u0, u1, u2⟩, v0, v1, v2⟩ := rowc row5
            have own5 := ownQ.kept a5
            go_wp2_with fail
            go_roundw
            case rel =>
              refine ⟨B + 1, by omega, by omega, ?_, own5.keptX ((Apart.refl [X] w5).setCell (.inl (by simp)) _) (fun j hj => by simpa using hown.out j hj) (by simpa using hw)⟩
              have := heap_setCell_same w5 X 1 _ 47 (.int .i64 (B + 1)) row5
              simpa using this
            case measure =>
              have row6 : (w5.setCell ⟨X, 1, none⟩ (.int .i64 (B + 1))).heap[X]? = some (.cells #[.int .i64 k, .int .i64 (B + 1), .int .u64 0] 47 (0, 0)) := by
                have := heap_setCell_same w5 X 1 _ 47 (.int .i64 (B + 1)) row5
                simpa using this
              rw [HM.out, cellInt_of (rowc row6).1.2.1]
              omega
          case false =>
            cases vb
            case true =>
              have hlt2 : B < y.b := by
                by_cases hc : B < y.b
                · exact hc
                · have he : B = y.b := by omega
                  have := HD.out
                  rw [he, dot_next WFY.out] at this
                  simp at this
              go_wp2_with fail
              refine ca.mono ?_
              rintro r w4 ⟨rfl, a4⟩
              dsimp only
              have row4 := (a4.block X (lt_of_heap rowQ) (by simp)).trans rowQ
              obtain ⟨⟨t0, t1, t2⟩, _⟩ := rowc row4
              have own4 := ownQ.kept a4
              go_wp2_with fail
              refine (cbb _ (lb.kept0 own4.ap)).mono ?_
              rintro r w5 ⟨rfl, a5⟩
              dsimp only
              have row5 := (a5.block X (lt_of_heap row4) (by simp)).trans row4
              obtain ⟨⟨u0, u1, u2⟩, v0, v1, v2⟩ := rowc row5
              have own5 := own4.kept a5
              go_wp2_with fail
              go_roundw
              case rel =>
                refine ⟨B + 1, by omega, by omega, ?_, own5.keptX ((Apart.refl [X] w5).setCell (.inl (by simp)) _) (fun j hj => by simpa using hown.out j hj) (by simpa using hw)⟩
                have := heap_setCell_same w5 X 1 _ 47 (.int .i64 (B + 1)) row5
                simpa using this
              case measure =>
                have row6 : (w5.setCell ⟨X, 1, none⟩ (.int .i64 (B + 1))).heap[X]? = some (.cells #[.int .i64 k, .int .i64 (B + 1), .int .u64 0] 47 (0, 0)) := by
                  have := heap_setCell_same w5 X 1 _ 47 (.int .i64 (B + 1)) row5
                  simpa using this
                rw [HM.out, cellInt_of (rowc row6).1.2.1]
                omega
            case false =>
              have hBy : B = y.b := by
                by_cases hc : B < y.b
                · have := HD.out
                  rw [dot_low (x := y) (c := B + 1) (by omega)] at this
                  simp at this
                · omega
              subst hBy
              go_wp2_with fail
              refine ca.mono ?_
              rintro r w4 ⟨rfl, a4⟩
              dsimp only
              have row4 := (a4.block X (lt_of_heap rowQ) (by simp)).trans rowQ
              obtain ⟨⟨t0, t1, t2⟩, _⟩ := rowc row4
              have own4 := ownQ.kept a4
              go_wp2_with fail
              refine (cbb _ (lb.kept0 own4.ap)).mono ?_
              rintro r w5 ⟨rfl, a5⟩
              dsimp only
              have row5 := (a5.block X (lt_of_heap row4) (by simp)).trans row4
              have own5 := own4.kept a5
              clear ca cbb HVa HVb HD HM row4 own4 rowQ ownQ a4 a5 g0 g1 g2 j0 j1 j2 t0 t1 t2
              have ev1 : y.t % 2 ^ 1 = 0 := WFY.out.ev
              go_wp2_with fail
              go_loopw [8] (fun v wz => ∃ i : Nat, 1 ≤ i ∧ i ≤ 64 ∧ v = .int .i64 i ∧ wz.heap[X]? = some (.cells #[.int .i64 k, .int .i64 y.b, .int .u64 ((y.t % 2 ^ i : Nat) : Int)] 47 (0, 0)) ∧ Own w wz p' n' cap' (gath Y k)) (fun v _ => 64 - (intOf v).toNat)
              case atStart => exact ⟨1, by omega, by omega, rfl, by rw [ev1]; exact row5, own5⟩
              case round =>
                clear row5 own5 ev1
                obtain ⟨i, hi1, hi64, rfl, rowZ, ownZ⟩ := hrel
                obtain ⟨⟨g0, g1, g2⟩, j0, j1, j2⟩ := rowc rowZ
                by_cases hi : i < 64
                · skip
                  have hw1 : IntKind.i64.wrap (y.b + 1) = y.b + 1 := by rw [IntKind.wrap_i64]; omega
                  have hw2 : IntKind.i64.wrap (y.b + 1 + (i : Int)) = y.b + 1 + (i : Int) := by rw [IntKind.wrap_i64]; omega
                  have he1 : 1 ≤ y.b + 1 + (i : Int) := by omega
                  have he2 : y.b + 1 + (i : Int) ≤ 4194304 := by omega
                  obtain ⟨va, HVa⟩ : ∃ v, Hid (v = inL xs k (y.b + 1 + (i : Int))) := ⟨_, rfl⟩
                  obtain ⟨vb, HVb⟩ : ∃ v, Hid (v = inL ys k (y.b + 1 + (i : Int))) := ⟨_, rfl⟩
                  have HD : Hid ((va || vb) = y.t.testBit i) := by
                    show (va || vb) = y.t.testBit i
                    rw [HVa.out, HVb.out, DOT.out _ he1]; exact dot_bit y i
                  have hi0 : (0 : Int) ≤ (i : Int) := by omega
                  have h64 : (i : Int) < 64 := by omega
                  have HT : Hid (y.t % 2 ^ (i + 1) = y.t % 2 ^ i + (if y.t.testBit i then 2 ^ i else 0)) := mod_next y.t i
                  have kD := fun W => @new1d wr (.int .i64 k) (.int .i64 (y.b + 1 + (i : Int))) 24 W
                  have aD0 : Apart [] wr (wr.alloc (.cells #[.int .i64 k, .int .i64 (y.b + 1 + (i : Int))] 24)) := (Apart.refl _ _).alloc _
                  have ownD0 := ownZ.kept aD0
                  have rowD0 := (aD0.block X (lt_of_heap rowZ) (by simp)).trans rowZ
                  have ca := rin_ok (cap := cap) (la.kept0 ownD0.ap) ha (k : Int) (y.b + 1 + (i : Int)) he2 (by omega)
                  rw [← HVa.out] at ca
                  have cbb := fun W (l : L W q M ys) => rin_ok (cap := cb) (w := W) l hb (k : Int) (y.b + 1 + (i : Int)) he2 (by omega)
                  simp only [← HVb.out] at cbb
                  go_wp2_with fail
                  generalize wr.alloc (.cells #[.int .i64 k, .int .i64 (y.b + 1 + (i : Int))] 24) = VZ at *
                  refine ca.mono ?_
                  rintro r w4 ⟨rfl, a4⟩
                  dsimp only
                  have own4 := ownD0.kept a4
                  have row4 := (a4.block X (lt_of_heap rowD0) (by simp)).trans rowD0
                  obtain ⟨k0, k1⟩ := kD w4 a4
                  clear g0 g1 g2 j0 j1 j2 rowZ ownZ
                  cases va
                  case true =>
                    have HN : Hid (y.t % 2 ^ (i + 1) = y.t % 2 ^ i + 2 ^ i) := by
                      show y.t % 2 ^ (i + 1) = y.t % 2 ^ i + 2 ^ i
                      have := HD.out
                      simp only [Bool.true_or] at this
                      rw [HT.out, if_pos this.symm]
                    clear HT HD ca cbb
                    have hadd := shl_add y.t i hi WFY.out.lt
                    obtain ⟨tb, Htb⟩ : ∃ tb, Hid (tb = y.t % 2 ^ i) := ⟨_, rfl⟩
                    rw [← Htb.out] at hadd row4 HN
                    obtain ⟨⟨u0, u1, u2⟩, v0, v1, v2⟩ := rowc row4
                    go_wp2_with fail
                    go_region
                    go_wp2
                    go_roundw
                    case rel =>
                      refine ⟨i + 1, by omega, by omega, rfl, ?_, own4.keptX (X := [X]) (by first | exact (((Apart.refl [X] w4).drew).setCell (.inl (by simp)) _) | exact (((Apart.refl [X] w4).setCell (.inl (by simp)) _).drew)) (fun j hj => by simpa using hown.out j hj) (by simpa using hw)⟩
                      have := heap_setCell_same w4 X 2 _ 47 (.int .u64 ((tb + 2 ^ i : Nat) : Int)) row4
                      rw [HN.out]
                      first | exact this | simpa using this
                    case measure => simp [intOf]; omega
                  case false =>
                    go_wp2_with fail
                    refine (cbb _ (lb.kept0 own4.ap)).mono ?_
                    rintro r w5 ⟨rfl, a5⟩
                    dsimp only
                    have own5 := own4.kept a5
                    have row5 := (a5.block X (lt_of_heap row4) (by simp)).trans row4
                    cases vb
                    case true =>
                      have HN : Hid (y.t % 2 ^ (i + 1) = y.t % 2 ^ i + 2 ^ i) := by
                        show y.t % 2 ^ (i + 1) = y.t % 2 ^ i + 2 ^ i
                        have := HD.out
                        simp only [Bool.false_or] at this
                        rw [HT.out, if_pos this.symm]
                      clear HT HD ca cbb
                      have hadd := shl_add y.t i hi WFY.out.lt
                      obtain ⟨tb, Htb⟩ : ∃ tb, Hid (tb = y.t % 2 ^ i) := ⟨_, rfl⟩
                      rw [← Htb.out] at hadd row5 HN
                      obtain ⟨⟨u0, u1, u2⟩, v0, v1, v2⟩ := rowc row5
                      go_wp2_with fail
                      go_region
                      go_wp2
                      go_roundw
                      case rel =>
                        refine ⟨i + 1, by omega, by omega, rfl, ?_, own5.keptX (X := [X]) (by first | exact (((Apart.refl [X] w5).drew).setCell (.inl (by simp)) _) | exact (((Apart.refl [X] w5).setCell (.inl (by simp)) _).drew)) (fun j hj => by simpa using hown.out j hj) (by simpa using hw)⟩
                        have := heap_setCell_same w5 X 2 _ 47 (.int .u64 ((tb + 2 ^ i : Nat) : Int)) row5
                        rw [HN.out]
                        first | exact this | simpa using this
                      case measure => simp [intOf]; omega
                    case false =>
                      have HN : Hid (y.t % 2 ^ (i + 1) = y.t % 2 ^ i) := by
                        show y.t % 2 ^ (i + 1) = y.t % 2 ^ i
                        have := HD.out
                        simp only [Bool.false_or] at this
                        rw [HT.out, ← this]; simp
                      clear HT HD ca cbb
                      go_wp2
                      go_roundw
                      case rel => exact ⟨i + 1, by omega, by omega, rfl, by rw [HN.out]; exact row5, own5⟩
                      case measure => simp [intOf]; omega
                · skip
                  have e64 : y.t % 2 ^ i = y.t := by
                    obtain rfl : i = 64 := by omega
                    exact Nat.mod_eq_of_lt WFY.out.lt
                  rw [e64] at rowZ g2
                  have HZ : Hid (gath Y (k + 1) = gath Y k ++ (if y = none0 k then [] else [y])) := by
                    show gath Y (k + 1) = gath Y k ++ (if y = none0 k then [] else [y])
                    rw [gath, HY.out]
                  have hne : Hid (y = none0 k ↔ (y.b = 0 ∧ y.t = 0)) := by
                    show y = none0 k ↔ (y.b = 0 ∧ y.t = 0)
                    constructor
                    · intro h; rw [h]; exact ⟨rfl, rfl⟩
                    · rintro ⟨h1, h2⟩
                      cases y
                      simp only [none0, S.mk.injEq]
                      simp only at h1 h2 YN
                      exact ⟨YN, h1, h2⟩
                  have yb0 : 0 ≤ y.b := WFY.out.b0
                  have own3 := ownZ.kept ((Apart.refl [] wr).alloc (.cells #[.int .i64 k, .int .i64 y.b, .int .u64 (y.t : Int)] 47))
                  have hcell : ∀ j u, [Value.int .i64 (k : Int), .int .i64 y.b, .int .u64 (y.t : Int)][j]? = some u → (wr.alloc (.cells #[.int .i64 k, .int .i64 y.b, .int .u64 (y.t : Int)] 47)).cell? ((⟨wr.heap.size, 0, none⟩ : Addr).add j) = some u := by
                    intro j u hj
                    match j, hj with
                    | 0, hj => simp at hj; subst hj; simp [Addr.add]
                    | 1, hj => simp at hj; subst hj; simp [Addr.add]
                    | 2, hj => simp at hj; subst hj; simp [Addr.add]
                  obtain ⟨p4, cap4, w4, hrun, own4⟩ := own_append own3 (by omega) 26 ⟨wr.heap.size, 0, none⟩ y (by rw [YN]; exact hcell 0 _ rfl) (hcell 1 _ rfl) (hcell 2 _ rfl)
                  clear own3 hcell
                  by_cases z1 : 0 < y.b
                  · have hy : ¬ y = none0 k := fun h => by have := (hne.out.1 h).1; omega
                    have HZ2 : Hid (gath Y (k + 1) = gath Y k ++ [y]) := by
                      show gath Y (k + 1) = gath Y k ++ [y]
                      rw [HZ.out, if_neg hy]
                    clear hy hne HZ
                    go_wp2_with (at_builtin; refine wpList_append3 rfl (.tmp 82) (.tmp 84) 26 rfl _ _ rfl rfl _ _ hrun ?_)
                    go_roundw
                    case rel => exact ⟨k + 1, by omega, rfl, p4, n' + 1, cap4, rfl, by omega, by rw [HZ2.out]; exact own4⟩
                    case measure => simp [intOf]; omega
                  · by_cases z2 : 0 < (y.t : Int)
                    · have hy : ¬ y = none0 k := fun h => by have := (hne.out.1 h).2; omega
                      have HZ2 : Hid (gath Y (k + 1) = gath Y k ++ [y]) := by
                        show gath Y (k + 1) = gath Y k ++ [y]
                        rw [HZ.out, if_neg hy]
                      have z3 : 0 < y.t := by omega
                      clear hy hne HZ
                      go_wp2_with (at_builtin; refine wpList_append3 rfl (.tmp 82) (.tmp 84) 26 rfl _ _ rfl rfl _ _ hrun ?_)
                      go_roundw
                      case rel => exact ⟨k + 1, by omega, rfl, p4, n' + 1, cap4, rfl, by omega, by rw [HZ2.out]; exact own4⟩
                      case measure => simp [intOf]; omega
                    · have hy : y = none0 k := hne.out.2 ⟨by omega, by omega⟩
                      have HZ2 : Hid (gath Y (k + 1) = gath Y k) := by
                        show gath Y (k + 1) = gath Y k
                        rw [HZ.out, if_pos hy, List.append_nil]
                      have z3 : ¬ 0 < y.t := by omega
                      clear hy hne HZ hrun own4
                      go_wp2
                      go_roundw
                      case rel => exact ⟨k + 1, by omega, rfl, p', n', cap', rfl, by omega, by rw [HZ2.out]; exact ownZ⟩
                      case measure => simp [intOf]; omega
    · obtain rfl : k = 8 := by omega
      go_wp2
      go_ret
      exact ⟨p', n', cap', rfl, own, by omega⟩
end Go.Proofs.YtokaeiahhmaokaaGreatDoor.ds

namespace Go.Proofs.YtokaeiahhmaokaaGreatDoor.ds
open Go.ChangeShapes Go.WideShapes Go.ChangeAt Go.RowKit
set_option linter.unusedVariables false
set_option linter.unusedSimpArgs false
theorem target_uni {gp : Int} {xs ys : List S} (ka : OkL gp xs) (kb : OkL gp ys) (h0 : 0 ≤ gp) (hg : gp ≤ 64) : Target xs ys (fun k => join (ofn xs k) (ofn ys k)) := by
  have okn := fun k : Nat => join_okn (ka.okn h0 hg k) (kb.okn h0 hg k)
  refine ⟨fun k => (okn k).n, fun k _ => (okn k).wf, fun k _ => ?_, fun k _ c hc => ?_, fun k _ => ⟨(ka.wf h0 hg k).b0, join_base.1⟩, fun k _ => ⟨(kb.wf h0 hg k).b0, join_base.2⟩⟩
  · have := (okn k).mx
    unfold top at this
    show (join (ofn xs k) (ofn ys k)).b ≤ 2097152
    omega
  · rw [inL_ofn ka _ _ hc, inL_ofn kb _ _ hc, join_dot]
section
variable {p q : Option Addr} {N cap M cb : Nat} {xs ys : List S} {w : World} (gap : Int)
theorem runion_arg (hg : ¬ (1 ≤ gap ∧ gap ≤ 64)) : Calls Tryz.prog 41 #[.slice p N cap, .slice q M cb, .int .i64 gap] w fun r w' => r = .returned (.tuple #[.slice none 0 0, .int .i64 1]) ∧ Apart [] w w' := by
  by_cases h1 : gap < 1
  · go_enter Tryz.func41, Tryz.ntmps41
    go_wp2
    go_ret2
    exact ⟨rfl, Apart.refl _ _⟩
  · have h2 : 64 < gap := by omega
    go_enter Tryz.func41, Tryz.ntmps41
    go_wp2
    go_ret2
    exact ⟨rfl, Apart.refl _ _⟩
theorem runion_set1 (h : L w p N xs) (h2 : L w q M ys) (hg : 1 ≤ gap ∧ gap ≤ 64) (k : ¬ OkL gap xs) : Calls Tryz.prog 41 #[.slice p N cap, .slice q M cb, .int .i64 gap] w fun r w' => r = .returned (.tuple #[.slice none 0 0, .int .i64 30]) ∧ Apart [] w w' := by
  have g1 : ¬ gap < 1 := by omega
  have g2 : ¬ 64 < gap := by omega
  go_enter Tryz.func41, Tryz.ntmps41
  go_wp2_with fail
  refine (right_no h hg k).mono ?_
  rintro r w1 ⟨rfl, a1⟩
  dsimp only
  go_wp2_with fail
  refine (right_ok (h2.kept0 a1) hg).mono ?_
  rintro r w2 ⟨⟨v, rfl, _⟩, a2⟩
  dsimp only
  go_wp2
  go_ret2
  exact ⟨rfl, a1.trans a2⟩
theorem runion_set2 (h : L w p N xs) (h2 : L w q M ys) (hg : 1 ≤ gap ∧ gap ≤ 64) (k : OkL gap xs) (k2 : ¬ OkL gap ys) : Calls Tryz.prog 41 #[.slice p N cap, .slice q M cb, .int .i64 gap] w fun r w' => r = .returned (.tuple #[.slice none 0 0, .int .i64 30]) ∧ Apart [] w w' := by
  have g1 : ¬ gap < 1 := by omega
  have g2 : ¬ 64 < gap := by omega
  go_enter Tryz.func41, Tryz.ntmps41
  go_wp2_with fail
  refine (right_yes h hg k).mono ?_
  rintro r w1 ⟨rfl, a1⟩
  dsimp only
  go_wp2_with fail
  refine (right_no (h2.kept0 a1) hg k2).mono ?_
  rintro r w2 ⟨rfl, a2⟩
  dsimp only
  go_wp2
  go_ret2
  exact ⟨rfl, a1.trans a2⟩
theorem runion_ok (h : L w p N xs) (h2 : L w q M ys) (hg : 1 ≤ gap ∧ gap ≤ 64) (k : OkL gap xs) (k2 : OkL gap ys) : Calls Tryz.prog 41 #[.slice p N cap, .slice q M cb, .int .i64 gap] w fun r w' => RPost w w' r (uni xs ys) := by
  have g1 : ¬ gap < 1 := by omega
  have g2 : ¬ 64 < gap := by omega
  go_enter Tryz.func41, Tryz.ntmps41
  go_wp2_with fail
  refine (right_yes h hg k).mono ?_
  rintro r w1 ⟨rfl, a1⟩
  dsimp only
  go_wp2_with fail
  refine (right_yes (h2.kept0 a1) hg k2).mono ?_
  rintro r w2 ⟨rfl, a2⟩
  dsimp only
  have a3 := a1.trans a2
  go_wp2_with fail
  refine (both_ok _ (target_uni k k2 (by omega) hg.2) (h.kept0 a3) (h2.kept0 a3) k.bases k2.bases).mono ?_
  rintro r w4 ⟨⟨p4, n4, c4, rfl, own, hn⟩⟩
  dsimp only
  go_wp2
  go_ret2
  exact ⟨p4, n4, c4, rfl, own.from a3, hn⟩
end
end Go.Proofs.YtokaeiahhmaokaaGreatDoor.ds

