import Derived.Test.YtmjfocbjkngniaaBad2
namespace Go.Proofs.Ytmjfocbjkngniaa.hp
open Go.ChangeShapes Go.WideShapes Go.ChangeAt Go.RowKit
set_option linter.unusedVariables false
theorem cell20 {w : World} {X : Nat} {t : TypeId} {a b : Value} (h : w.heap[X]? = some (.cells #[a, b] t (0, 0))) : w.cell? ⟨X, 0, none⟩ = some a := by rw [cell_of_row _ _ _ _ _ _ h]; rfl
theorem cell21 {w : World} {X : Nat} {t : TypeId} {a b : Value} (h : w.heap[X]? = some (.cells #[a, b] t (0, 0))) : w.cell? ⟨X, 1, none⟩ = some b := by rw [cell_of_row _ _ _ _ _ _ h]; rfl
theorem OwnB.put {B : Nat} {bits : Int} {w0 w : World} {H X : Nat} {es : List E} {n : Nat} (h : OwnB B bits w0 w H es n) {a b : Value} (hX : w.heap[X]? = some (.cells #[a, b] 28 (0, 0))) (x y : Value) : OwnB B bits w0 ((w.setCell ⟨X, 0, none⟩ x).setCell ⟨X, 1, none⟩ y) H es n := by
  obtain ⟨v, at2, hv⟩ := h.ex
  have aS : Apart [X] w ((w.setCell ⟨X, 0, none⟩ x).setCell ⟨X, 1, none⟩ y) := ((Apart.refl _ _).setCell (by simp) _).setCell (by simp) _
  refine ⟨⟨v, at2.kept aS ?_, hv⟩, h.hH⟩
  intro q hq
  simp at hq
  subst hq
  refine ⟨?_, ?_, ?_⟩
  · rintro rfl
    rw [at2.hh] at hX; simp at hX
  · intro e
    obtain ⟨cur, h2⟩ := own_typ at2.own e
    rw [hX] at h2; simp at h2
  · intro c hc e
    have h3 := at2.hc c hc
    rw [e, hX] at h3; simp at h3
theorem bad_new (w : World) (bits : Int) : OwnB w.heap.size bits w ((w.alloc (.cells #[.int .u64 bits] 34)).alloc (.cells #[.func (.func 16) #[] #[.pointer (some ⟨w.heap.size, 0, none⟩)], .slice none 0 0, .int .i64 0] 49)) (w.heap.size + 1) [] 0 := by
  have h1 := At.new (F := badF w.heap.size) (C := [(w.heap.size, bits)]) (w.alloc (.cells #[.int .u64 bits] 34)) (by intro b hb; simp at hb; subst hb; exact heap_alloc_new w _)
  rw [show (w.alloc (.cells #[.int .u64 bits] 34)).heap.size = w.heap.size + 1 from by simp] at h1
  exact ⟨⟨_, h1, by simp [Value.ownBlock]⟩, by omega⟩
set_option maxHeartbeats 4000000 in
set_option maxRecDepth 100000 in
theorem bad_walk (w : World) (bits : Int) (p : Option Addr) (N cap : Nat) (fs : Nat → Int) (hN : N ≤ 1100000) (hp : IsInts w p N fs) (p2 : Option Addr) (M cap2 : Nat) (gs : Nat → Int) (hM : M ≤ 1100000) (hq : IsInts w p2 M gs) :
    Calls Try.prog 4 #[.int .u64 bits, .slice p N cap, .slice p2 M cap2] w fun r w' => r = .returned (.bool true) ∧ Below w.heap.size w w' := by
  have hnil := nilq
  have hmf : ∀ (fn : Fn) (first cap : Array Value) (w : World), (Instr.makeFunc fn first cap).run Try.prog w = .ok (.func fn first cap) w := fun _ _ _ _ => rfl
  go_enter Try.func4, Try.ntmps4
  go_wp2_with fail
  refine (new_at _ 16 #[.pointer (some ⟨w.heap.size, 0, none⟩)]).mono ?_
  rintro r w1 ⟨rfl, hw1⟩
  have o1 : OwnB w.heap.size bits w w1 (w.heap.size + 1) [] 0 := by rw [hw1]; exact bad_new w bits
  have a1 : Apart [] w w1 := by rw [hw1]; exact ((Apart.refl _ _).alloc _).alloc _
  clear hw1 hmf
  go_wp2_with fail
  refine (able_ok w1).mono ?_
  rintro r w2 ⟨rfl, a2⟩
  have o2 := o1.kept a2
  have ap2 := a1.trans a2
  clear o1 a1 a2
  go_wp2
  go_loopw [8] (fun v wr => ∃ i : Nat, i ≤ N ∧ v = .int .i64 i ∧ Apart [] w wr ∧ ∃ cs, OwnB w.heap.size bits w wr (w.heap.size + 1) cs i ∧ cs.Perm (ents fs i)) (fun v _ => N - (intOf v).toNat)
  case atStart => exact ⟨0, Nat.zero_le _, rfl, ap2, [], o2, by simp [ents]⟩
  case round =>
    clear o2 ap2
    obtain ⟨i, hi, rfl, ap, cs, own, perm⟩ := hrel
    by_cases hlt : i < N
    · obtain ⟨P, o, rfl, hP, hc⟩ := hp (by omega)
      have e0 := (ap.cell (p := ⟨P, o + i, none⟩) hP (by simp)).trans (hc i hlt)
      have hPu := bad_push own (fs i) i (by rw [perm.length_eq, ents_length]; omega) (by omega) ap
      clear hc hp hq
      go_wp2_with fail
      refine hPu.mono ?_
      clear hPu
      rintro r w3 ⟨rfl, ⟨cs3, o3, p3⟩, a3⟩
      have q3 : cs3.Perm (ents fs (i + 1)) := by
        rw [← ents_succ]
        exact p3.trans (perm.append_right _)
      clear perm p3 own ap e0
      go_wp2
      go_roundw
      case rel => exact ⟨i + 1, by omega, by go_num, a3, cs3, o3, q3⟩
      case measure => simp [intOf]; omega
    · obtain rfl : N = i := by omega
      have hrun := make_bools wr N (by omega)
      obtain ⟨Z, hZ⟩ : ∃ Z, Z = (bools (rest N)).toArray := ⟨_, rfl⟩
      rw [← hZ] at hrun
      have aS : Apart [] wr (wr.alloc (.cells Z 4)) := (Apart.refl _ _).alloc _
      have inv0 : BInv fs w.heap.size bits w (wr.alloc (.cells Z 4)) (w.heap.size + 1) wr.heap.size N N cs (rest N) := by
        refine ⟨own.kept aS, ap.trans aS, by rw [perm.length_eq, ents_length], fun e he => ents_mem (perm.subset he), pw_perm perm (ents_nodup fs N), ?_, by simp [rest], fun e he => rest_get _ _, ap.size⟩
        rw [hZ]; exact heap_alloc_new wr _
      clear hZ own perm aS
      generalize hS : wr.heap.size = S at *
      clear ap
      go_wp2
      go_loopw [10, 11] (fun x v wq => ∃ L j : Nat, j + L = N ∧ x = .int .i64 L ∧ v = .int .i64 j ∧ ∃ cs bs, BInv fs w.heap.size bits w wq (w.heap.size + 1) S N L cs bs) (fun x _ _ => (intOf x).toNat)
      case atStart => exact ⟨N, 0, by omega, rfl, rfl, _, _, inv0⟩
      case round =>
        clear inv0 hrun hS
        obtain ⟨L, j, hjL, rfl, rfl, cs, bs, inv⟩ := hrel
        cases L with
        | zero =>
          have hPo := bad_pop_none inv.own inv.hl
          clear hp hq
          go_wp2_with fail
          refine hPo.mono ?_
          clear hPo
          rintro r w3 ⟨rfl, a3⟩
          have hL := bad_len ((inv.own.kept a3).kept ((Apart.refl [] w3).alloc (.cells #[.int .i64 0, .int .i64 0] 28))) 0 inv.hl
          have bel := ((inv.ap.trans a3).alloc (.cells #[.int .i64 0, .int .i64 0] 28)).below (Nat.le_refl _) (by simp)
          clear inv
          go_wp2_with fail
          refine hL.mono ?_
          clear hL
          rintro r w4 ⟨rfl, rfl⟩
          go_wp2
          go_ret
          exact ⟨rfl, bel⟩
        | succ L =>
          obtain ⟨P, o, rfl, hP, hc⟩ := hp (by omega)
          have hAl := bad_all inv.own (L + 1) inv.hl
          have hLpos : (0 : Int) < ((L + 1 : Nat) : Int) := by omega
          go_wp2_with fail
          refine hAl.mono ?_
          clear hAl
          rintro r w3 ⟨b1, rfl, a3⟩
          have hLe := bad_len (inv.own.kept a3) (L + 1) inv.hl
          go_wp2_with fail
          refine hLe.mono ?_
          clear hLe
          rintro r w4 ⟨rfl, rfl⟩
          have hLs := bad_least (inv.own.kept a3) (by rw [inv.hl]; omega)
          go_wp2_with fail
          refine hLs.mono ?_
          clear hLs
          rintro r w5 ⟨e5, rfl, a5⟩
          have aX : Apart [] wr (w5.alloc (.cells #[.int .i64 e5.r, .int .i64 e5.m] 28)) := (a3.trans a5).alloc _
          have bX := heap_alloc_new w5 (.cells #[.int .i64 e5.r, .int .i64 e5.m] 28)
          have hX0 : w.heap.size ≤ w5.heap.size := (inv.ap.trans (a3.trans a5)).size
          have ownX := inv.own.kept aX
          have apX := inv.ap.trans aX
          have bSX := (aX.block _ (lt_of_heap inv.hS) (by simp)).trans inv.hS
          generalize hWX : w5.alloc (.cells #[.int .i64 e5.r, .int .i64 e5.m] 28) = WX at *
          generalize hXX : w5.heap.size = X at *
          clear a3 a5 aX
          by_cases hjM : j < M
          · obtain ⟨P2, o2, rfl, hP2, hc2⟩ := hq (by omega)
            have e2 := (apX.cell (p := ⟨P2, o2 + j, none⟩) hP2 (by simp)).trans (hc2 j hjM)
            clear hc2 hq
            by_cases hk : gs j < 0 ∨ ((L + 1 : Nat) : Int) ≤ gs j
            · have hT := bad_take_none ownX (gs j) (by rw [inv.hl]; exact hk)
              go_wp2_with fail
              refine hT.mono ?_
              clear hT
              rintro r w55 ⟨rfl, a55⟩
              have b55 := (a55.block _ (lt_of_heap bX) (by simp)).trans bX
              have s55 := (a55.block _ (lt_of_heap bSX) (by simp)).trans bSX
              have y0 : w55.cell? ⟨X, 0, none⟩ = some (.int .i64 e5.r) := by rw [cell_of_row _ _ _ _ _ _ b55]; rfl
              have y1 : w55.cell? ⟨X, 1, none⟩ = some (.int .i64 e5.m) := by rw [cell_of_row _ _ _ _ _ _ b55]; rfl
              have fy0 := frozen_of_row w55 X 0 _ _ b55
              have fy1 := frozen_of_row w55 X 1 _ _ b55
              have b56 := row2 b55 (.int .i64 0) (.int .i64 0)
              have aP : Apart [X] w55 ((w55.setCell ⟨X, 0, none⟩ (.int .i64 0)).setCell ⟨X, 1, none⟩ (.int .i64 0)) := ((Apart.refl _ _).setCell (by simp) _).setCell (by simp) _
              have own56 := (ownX.kept a55).put b55 (.int .i64 0) (.int .i64 0)
              have ap56 := (apX.trans a55).trans' aP (by simp; exact hX0)
              have hneXS0 : S ≠ X := by
                rintro rfl
                rw [s55] at b55; simp at b55
              have s56 := (aP.block _ (lt_of_heap s55) (by simp; exact hneXS0)).trans s55
              have hPo := bad_pop own56 ap56 (by rw [inv.hl]; omega)
              clear a55 aP
              by_cases hk0 : gs j < 0
              · clear hk
                go_wp2_with fail
                refine hPo.mono ?_
                clear hPo
                rintro r w6 ⟨e, cs6, rfl, own6, perm6, ap6, _, k6⟩
                obtain ⟨k, hk, rfl⟩ := inv.mem e (perm6.subset (by simp))
                simp only [ent]
                have bX6 := k6 _ _ _ _ b56 (by decide) (by decide)
                have bS6 := k6 _ _ _ _ s56 (by decide) (by decide)
                have inv6 := inv.step k hk own6 ap6 perm6 bS6 _ _ bX6 hX0
                clear b55 s55 y0 y1 fy0 fy1 b56 s56 own56 ap56 ownX apX bX bSX e2
                have hun := inv6.2.2
                have bS7 := inv6.2.1
                have bX7 := row2 bX6 (.int .i64 (fs k)) (.int .i64 (k : Int))
                have cS : ((w6.setCell ⟨X, 0, none⟩ (.int .i64 (fs k))).setCell ⟨X, 1, none⟩ (.int .i64 k)).cell? ⟨S, k, none⟩ = some (.bool false) := by rw [cell_of_row _ _ _ _ _ _ bS7]; simp [bools, hun]
                have fS := frozen_of_row _ S k _ _ bS7
                have cX0 : ((w6.setCell ⟨X, 0, none⟩ (.int .i64 (fs k))).setCell ⟨X, 1, none⟩ (.int .i64 k)).cell? ⟨X, 0, none⟩ = some (.int .i64 (fs k)) := by rw [cell_of_row _ _ _ _ _ _ bX7]; rfl
                have cX1 : ((w6.setCell ⟨X, 0, none⟩ (.int .i64 (fs k))).setCell ⟨X, 1, none⟩ (.int .i64 k)).cell? ⟨X, 1, none⟩ = some (.int .i64 k) := by rw [cell_of_row _ _ _ _ _ _ bX7]; rfl
                have cP : ((w6.setCell ⟨X, 0, none⟩ (.int .i64 (fs k))).setCell ⟨X, 1, none⟩ (.int .i64 k)).cell? ⟨P, o + k, none⟩ = some (.int .i64 (fs k)) := ((ap6.trans' (((Apart.refl [X] w6).setCell (p := ⟨X, 0, none⟩) (by simp) (.int .i64 (fs k))).setCell (p := ⟨X, 1, none⟩) (by simp) (.int .i64 (k : Int))) (by simp; exact hX0)).cell (p := ⟨P, o + k, none⟩) hP (by simp)).trans (hc k hk)
                have x0 := cell20 bX6
                have x1 := cell21 bX6
                have fx0 := frozen_of_row w6 X 0 _ _ bX6
                have fx1 := frozen_of_row w6 X 1 _ _ bX6
                have inv7 := inv6.1
                have d1 : decide ((k : Int) < 0) = false := decide_eq_false (by omega)
                have d2 : decide ((N : Int) ≤ (k : Int)) = false := decide_eq_false (by omega)
                have d3 : (fs k != fs k) = false := by simp
                have hkI : (k : Int) < (N : Int) := by omega
                have hneXS : X ≠ S := by
                  rintro rfl
                  rw [bS6] at bX6; simp at bX6
                have hneSX : S ≠ X := fun e => hneXS e.symm
                have hL1c : ((L + 1 : Nat) : Int) - 1 = (L : Int) := by omega
                clear bS7 bX7 bS6 bX6 inv inv6 hun hc hp perm6 own6 ap6 k6 hnil
                go_wp2_with fail
                generalize hW7 : (w6.setCell ⟨X, 0, none⟩ (.int .i64 (fs k))).setCell ⟨X, 1, none⟩ (.int .i64 (k : Int)) = W7 at *
                clear x0 x1 fx0 fx1
                go_quiet (fail)
                clear d1 d2 d3
                go_wp2
                go_roundw
                case rel => exact ⟨L, j + 1, by omega, by go_num, by go_num, _, _, inv7.drewN _⟩
                case measure => first | (simp [intOf]; omega) | simp [intOf]
              · have hk1 : ((L + 1 : Nat) : Int) ≤ gs j := by omega
                clear hk
                go_wp2_with fail
                refine hPo.mono ?_
                clear hPo
                rintro r w6 ⟨e, cs6, rfl, own6, perm6, ap6, _, k6⟩
                obtain ⟨k, hk, rfl⟩ := inv.mem e (perm6.subset (by simp))
                simp only [ent]
                have bX6 := k6 _ _ _ _ b56 (by decide) (by decide)
                have bS6 := k6 _ _ _ _ s56 (by decide) (by decide)
                have inv6 := inv.step k hk own6 ap6 perm6 bS6 _ _ bX6 hX0
                clear b55 s55 y0 y1 fy0 fy1 b56 s56 own56 ap56 ownX apX bX bSX e2
                have hun := inv6.2.2
                have bS7 := inv6.2.1
                have bX7 := row2 bX6 (.int .i64 (fs k)) (.int .i64 (k : Int))
                have cS : ((w6.setCell ⟨X, 0, none⟩ (.int .i64 (fs k))).setCell ⟨X, 1, none⟩ (.int .i64 k)).cell? ⟨S, k, none⟩ = some (.bool false) := by rw [cell_of_row _ _ _ _ _ _ bS7]; simp [bools, hun]
                have fS := frozen_of_row _ S k _ _ bS7
                have cX0 : ((w6.setCell ⟨X, 0, none⟩ (.int .i64 (fs k))).setCell ⟨X, 1, none⟩ (.int .i64 k)).cell? ⟨X, 0, none⟩ = some (.int .i64 (fs k)) := by rw [cell_of_row _ _ _ _ _ _ bX7]; rfl
                have cX1 : ((w6.setCell ⟨X, 0, none⟩ (.int .i64 (fs k))).setCell ⟨X, 1, none⟩ (.int .i64 k)).cell? ⟨X, 1, none⟩ = some (.int .i64 k) := by rw [cell_of_row _ _ _ _ _ _ bX7]; rfl
                have cP : ((w6.setCell ⟨X, 0, none⟩ (.int .i64 (fs k))).setCell ⟨X, 1, none⟩ (.int .i64 k)).cell? ⟨P, o + k, none⟩ = some (.int .i64 (fs k)) := ((ap6.trans' (((Apart.refl [X] w6).setCell (p := ⟨X, 0, none⟩) (by simp) (.int .i64 (fs k))).setCell (p := ⟨X, 1, none⟩) (by simp) (.int .i64 (k : Int))) (by simp; exact hX0)).cell (p := ⟨P, o + k, none⟩) hP (by simp)).trans (hc k hk)
                have x0 := cell20 bX6
                have x1 := cell21 bX6
                have fx0 := frozen_of_row w6 X 0 _ _ bX6
                have fx1 := frozen_of_row w6 X 1 _ _ bX6
                have inv7 := inv6.1
                have d1 : decide ((k : Int) < 0) = false := decide_eq_false (by omega)
                have d2 : decide ((N : Int) ≤ (k : Int)) = false := decide_eq_false (by omega)
                have d3 : (fs k != fs k) = false := by simp
                have hkI : (k : Int) < (N : Int) := by omega
                have hneXS : X ≠ S := by
                  rintro rfl
                  rw [bS6] at bX6; simp at bX6
                have hneSX : S ≠ X := fun e => hneXS e.symm
                have hL1c : ((L + 1 : Nat) : Int) - 1 = (L : Int) := by omega
                clear bS7 bX7 bS6 bX6 inv inv6 hun hc hp perm6 own6 ap6 k6 hnil
                go_wp2_with fail
                generalize hW7 : (w6.setCell ⟨X, 0, none⟩ (.int .i64 (fs k))).setCell ⟨X, 1, none⟩ (.int .i64 (k : Int)) = W7 at *
                clear x0 x1 fx0 fx1
                go_quiet (fail)
                clear d1 d2 d3
                go_wp2
                go_roundw
                case rel => exact ⟨L, j + 1, by omega, by go_num, by go_num, _, _, inv7.drewN _⟩
                case measure => first | (simp [intOf]; omega) | simp [intOf]
            · obtain ⟨kk, hk2⟩ : ∃ k : Nat, gs j = k := ⟨(gs j).toNat, by omega⟩
              have hkL : kk < L + 1 := by omega
              rw [hk2] at e2
              have hT := bad_take ownX apX kk (by rw [inv.hl]; exact hkL)
              have g1 : ¬ ((kk : Int) < 0) := by omega
              have g2 : ¬ (((L + 1 : Nat) : Int) ≤ (kk : Int)) := by omega
              clear hk hk2
              go_wp2_with fail
              refine hT.mono ?_
              clear hT
              rintro r w6 ⟨e, cs6, rfl, own6, perm6, ap6, _, k6⟩
              obtain ⟨k, hk, rfl⟩ := inv.mem e (perm6.subset (by simp))
              simp only [ent]
              have bX6 := k6 _ _ _ _ bX (by decide) (by decide)
              have bS6 := k6 _ _ _ _ bSX (by decide) (by decide)
              have inv6 := inv.step k hk own6 ap6 perm6 bS6 _ _ bX6 hX0
              clear ownX apX bX bSX e2
              have hun := inv6.2.2
              have bS7 := inv6.2.1
              have bX7 := row2 bX6 (.int .i64 (fs k)) (.int .i64 (k : Int))
              have cS : ((w6.setCell ⟨X, 0, none⟩ (.int .i64 (fs k))).setCell ⟨X, 1, none⟩ (.int .i64 k)).cell? ⟨S, k, none⟩ = some (.bool false) := by rw [cell_of_row _ _ _ _ _ _ bS7]; simp [bools, hun]
              have fS := frozen_of_row _ S k _ _ bS7
              have cX0 : ((w6.setCell ⟨X, 0, none⟩ (.int .i64 (fs k))).setCell ⟨X, 1, none⟩ (.int .i64 k)).cell? ⟨X, 0, none⟩ = some (.int .i64 (fs k)) := by rw [cell_of_row _ _ _ _ _ _ bX7]; rfl
              have cX1 : ((w6.setCell ⟨X, 0, none⟩ (.int .i64 (fs k))).setCell ⟨X, 1, none⟩ (.int .i64 k)).cell? ⟨X, 1, none⟩ = some (.int .i64 k) := by rw [cell_of_row _ _ _ _ _ _ bX7]; rfl
              have cP : ((w6.setCell ⟨X, 0, none⟩ (.int .i64 (fs k))).setCell ⟨X, 1, none⟩ (.int .i64 k)).cell? ⟨P, o + k, none⟩ = some (.int .i64 (fs k)) := ((ap6.trans' (((Apart.refl [X] w6).setCell (p := ⟨X, 0, none⟩) (by simp) (.int .i64 (fs k))).setCell (p := ⟨X, 1, none⟩) (by simp) (.int .i64 (k : Int))) (by simp; exact hX0)).cell (p := ⟨P, o + k, none⟩) hP (by simp)).trans (hc k hk)
              have x0 := cell20 bX6
              have x1 := cell21 bX6
              have fx0 := frozen_of_row w6 X 0 _ _ bX6
              have fx1 := frozen_of_row w6 X 1 _ _ bX6
              have inv7 := inv6.1
              have d1 : decide ((k : Int) < 0) = false := decide_eq_false (by omega)
              have d2 : decide ((N : Int) ≤ (k : Int)) = false := decide_eq_false (by omega)
              have d3 : (fs k != fs k) = false := by simp
              have hkI : (k : Int) < (N : Int) := by omega
              have hneXS : X ≠ S := by
                rintro rfl
                rw [bS6] at bX6; simp at bX6
              have hneSX : S ≠ X := fun e => hneXS e.symm
              have hL1c : ((L + 1 : Nat) : Int) - 1 = (L : Int) := by omega
              clear bS7 bX7 bS6 bX6 inv inv6 hun hc hp perm6 own6 ap6 k6 hnil
              go_wp2_with fail
              generalize hW7 : (w6.setCell ⟨X, 0, none⟩ (.int .i64 (fs k))).setCell ⟨X, 1, none⟩ (.int .i64 (k : Int)) = W7 at *
              clear x0 x1 fx0 fx1
              go_quiet (fail)
              clear d1 d2 d3
              go_wp2
              go_roundw
              case rel => exact ⟨L, j + 1, by omega, by go_num, by go_num, _, _, inv7.drewN _⟩
              case measure => first | (simp [intOf]; omega) | simp [intOf]
          · have hT : Calls Try.prog 18 #[.pointer (some ⟨w.heap.size + 1, 0, none⟩), .int .i64 0] _ _ := bad_take ownX apX 0 (by rw [inv.hl]; omega)
            have g2 : ¬ (((L + 1 : Nat) : Int) ≤ 0) := by omega
            go_wp2_with fail
            refine hT.mono ?_
            clear hT
            rintro r w6 ⟨e, cs6, rfl, own6, perm6, ap6, _, k6⟩
            obtain ⟨k, hk, rfl⟩ := inv.mem e (perm6.subset (by simp))
            simp only [ent]
            have bX6 := k6 _ _ _ _ bX (by decide) (by decide)
            have bS6 := k6 _ _ _ _ bSX (by decide) (by decide)
            have inv6 := inv.step k hk own6 ap6 perm6 bS6 _ _ bX6 hX0
            clear ownX apX bX bSX
            have hun := inv6.2.2
            have bS7 := inv6.2.1
            have bX7 := row2 bX6 (.int .i64 (fs k)) (.int .i64 (k : Int))
            have cS : ((w6.setCell ⟨X, 0, none⟩ (.int .i64 (fs k))).setCell ⟨X, 1, none⟩ (.int .i64 k)).cell? ⟨S, k, none⟩ = some (.bool false) := by rw [cell_of_row _ _ _ _ _ _ bS7]; simp [bools, hun]
            have fS := frozen_of_row _ S k _ _ bS7
            have cX0 : ((w6.setCell ⟨X, 0, none⟩ (.int .i64 (fs k))).setCell ⟨X, 1, none⟩ (.int .i64 k)).cell? ⟨X, 0, none⟩ = some (.int .i64 (fs k)) := by rw [cell_of_row _ _ _ _ _ _ bX7]; rfl
            have cX1 : ((w6.setCell ⟨X, 0, none⟩ (.int .i64 (fs k))).setCell ⟨X, 1, none⟩ (.int .i64 k)).cell? ⟨X, 1, none⟩ = some (.int .i64 k) := by rw [cell_of_row _ _ _ _ _ _ bX7]; rfl
            have cP : ((w6.setCell ⟨X, 0, none⟩ (.int .i64 (fs k))).setCell ⟨X, 1, none⟩ (.int .i64 k)).cell? ⟨P, o + k, none⟩ = some (.int .i64 (fs k)) := ((ap6.trans' (((Apart.refl [X] w6).setCell (p := ⟨X, 0, none⟩) (by simp) (.int .i64 (fs k))).setCell (p := ⟨X, 1, none⟩) (by simp) (.int .i64 (k : Int))) (by simp; exact hX0)).cell (p := ⟨P, o + k, none⟩) hP (by simp)).trans (hc k hk)
            have x0 := cell20 bX6
            have x1 := cell21 bX6
            have fx0 := frozen_of_row w6 X 0 _ _ bX6
            have fx1 := frozen_of_row w6 X 1 _ _ bX6
            have inv7 := inv6.1
            have d1 : decide ((k : Int) < 0) = false := decide_eq_false (by omega)
            have d2 : decide ((N : Int) ≤ (k : Int)) = false := decide_eq_false (by omega)
            have d3 : (fs k != fs k) = false := by simp
            have hkI : (k : Int) < (N : Int) := by omega
            have hneXS : X ≠ S := by
              rintro rfl
              rw [bS6] at bX6; simp at bX6
            have hneSX : S ≠ X := fun e => hneXS e.symm
            have hL1c : ((L + 1 : Nat) : Int) - 1 = (L : Int) := by omega
            clear bS7 bX7 bS6 bX6 inv inv6 hun hc hp hq perm6 own6 ap6 k6 hnil
            go_wp2_with fail
            generalize hW7 : (w6.setCell ⟨X, 0, none⟩ (.int .i64 (fs k))).setCell ⟨X, 1, none⟩ (.int .i64 (k : Int)) = W7 at *
            clear x0 x1 fx0 fx1
            go_quiet (fail)
            clear d1 d2 d3
            go_wp2
            go_roundw
            case rel => exact ⟨L, j + 1, by omega, by go_num, by go_num, _, _, inv7.drewN _⟩
            case measure => first | (simp [intOf]; omega) | simp [intOf]
end Go.Proofs.Ytmjfocbjkngniaa.hp
