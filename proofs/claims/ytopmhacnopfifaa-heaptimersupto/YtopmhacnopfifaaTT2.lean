import Derived.Test.YtopmhacnopfifaaTT1
import Derived.Deep.CutRange
namespace Go.Proofs.Ytopmhacnopfifaa.tm
open Go.ChangeShapes Go.WideShapes Go.ChangeAt Go.RowKit
set_option linter.unusedVariables false
set_option linter.unusedSimpArgs false
def IsInts (w : World) (p : Option Addr) (len : Nat) (fs : Nat → Int) : Prop := 0 < len → ∃ P o, p = some ⟨P, o, none⟩ ∧ P < w.heap.size ∧ ∀ i, i < len → w.cell? ⟨P, o + i, none⟩ = some (.int .i64 (fs i))
set_option maxRecDepth 100000 in
theorem nilq (a : Addr) (W : World) : Sem.run Try.prog (binOp BinOp.eql 40 (Value.pointer (some a)) (Value.pointer none)) W = .ok (.bool false) W := by first | rfl | (simp [binOp, Try.underlying40, go_sem]; done)
theorem after_two {fs : Nat → Int} {w wr : World} {Q H S N : Nat} {row : List E} (q : Qu w wr Q H row (N + 1) 0) (hp : row.Perm (tss fs N)) (ap : Apart [] w wr) (hS : wr.heap[S]? = some (.cells (bools (rest (N + 1))).toArray 4 (0, 0))) (hS0 : w.heap.size ≤ S) : G3 fs w wr Q H S N (rest (N + 1)) row ∧ row.length = N := by
  refine ⟨⟨q, ap, hS, by simp [rest], fun e => ?_, hS0⟩, by rw [hp.length_eq, tss_length]⟩
  constructor
  · intro he
    obtain ⟨j, hj, e⟩ := tss_mem.1 (hp.subset he)
    exact ⟨j, hj, e, rest_get _ _⟩
  · rintro ⟨j, hj, rfl, _⟩
    exact hp.symm.subset (tss_mem.2 ⟨j, hj, rfl⟩)
theorem filt_tss {fs : Nat → Int} {row : List E} {N : Nat} {x : E} (hx : x.m = (N : Int) + 1) (h : row.Perm (tss fs N ++ [x])) : (row.filter (fun e => decide (e.m ≠ (N : Int) + 1))).Perm (tss fs N) := by
  refine (h.filter _).trans ?_
  rw [List.filter_append, List.filter_eq_self.2, List.filter_cons_of_neg (by simp [hx])]
  · simp
  · intro e he
    obtain ⟨j, hj, rfl⟩ := tss_mem.1 he
    simp [tE]; omega
theorem G3.same {fs : Nat → Int} {w wr w2 : World} {Q H S N : Nat} {bs : List Bool} {row : List E} (h : G3 fs w wr Q H S N bs row) (q2 : Qu w w2 Q H row (N + 1) 0) (a2 : Apart [] w w2) (k2 : KeptQ Q wr w2) : G3 fs w w2 Q H S N bs row :=
  ⟨q2, a2, k2.keep h.qu h.hS (by decide) (by decide) (by decide), h.bl, h.mem, h.hS0⟩
theorem G4.same {fs : Nat → Int} {w wr w2 : World} {Q H S L N left i : Nat} {bs : List Bool} {row : List E} {nw lr lm lk lc : Int} (h : G4 fs w wr Q H S L N left i bs row nw lr lm lk lc) (q2 : Qu w w2 Q H row (N + 1) nw) (a2 : Apart [] w w2) (k2 : KeptQ Q wr w2) : G4 fs w w2 Q H S L N left i bs row nw lr lm lk lc :=
  ⟨q2, a2, k2.keep h.qu h.hS (by decide) (by decide) (by decide), h.bl, h.mem, h.hS0, h.hl, h.hi, k2.keep h.qu h.hL (by decide) (by decide) (by decide), h.hL0, h.last⟩
theorem G3.no {fs : Nat → Int} {w wr : World} {Q H S N : Nat} {bs : List Bool} {row : List E} (h : G3 fs w wr Q H S N bs row) {k : Int} (hk : ¬ (1 ≤ k ∧ k ≤ N)) : ∀ e ∈ row, e.m ≠ k := fun e he e2 => by
  obtain ⟨j, hj, rfl, _⟩ := (h.mem e).1 he
  simp only [tE] at e2
  omega
theorem G3.no2 {fs : Nat → Int} {w wr : World} {Q H S N : Nat} {bs : List Bool} {row : List E} (h : G3 fs w wr Q H S N bs row) {t : Nat} (hb : bs.getD (t + 1) false = true) : ∀ e ∈ row, e.m ≠ (t : Int) + 1 := fun e he e2 => by
  obtain ⟨j, hj, rfl, hf⟩ := (h.mem e).1 he
  simp only [tE] at e2
  obtain rfl : j = t := by omega
  rw [hb] at hf; cases hf
theorem G3.yes {fs : Nat → Int} {w wr : World} {Q H S N : Nat} {bs : List Bool} {row : List E} (h : G3 fs w wr Q H S N bs row) {t : Nat} (ht : t < N) (hb : bs.getD (t + 1) false = false) : ∃ e ∈ row, e.m = (t : Int) + 1 := ⟨tE fs t, (h.mem _).2 ⟨t, ht, rfl, hb⟩, rfl⟩
set_option maxHeartbeats 8000000 in
set_option maxRecDepth 100000 in
theorem timers_walk (w : World) (p : Option Addr) (N cap : Nat) (fs : Nat → Int) (hN : N ≤ 1100000) (hp : IsInts w p N fs) (p2 : Option Addr) (M cap2 : Nat) (gs : Nat → Int) (hM : M ≤ 1100000) (hp2 : IsInts w p2 M gs) :
    Calls Try.prog 4 #[.slice p N cap, .slice p2 M cap2] w fun r w' => r = .returned (.bool true) ∧ Below w.heap.size w w' := by
  have hnil := nilq
  have HP := hid hp
  have HP2 := hid hp2
  clear hp hp2
  go_enter Try.func4, Try.ntmps4
  go_wp2_with fail
  refine (newQueue_ok w w (Nat.le_refl _)).mono ?_
  rintro r w1 ⟨rfl, q1, a1⟩
  dsimp only
  obtain ⟨Q, hQ⟩ : ∃ Q, w.heap.size + 1 = Q := ⟨_, rfl⟩
  obtain ⟨H, hH⟩ : ∃ H, w.heap.size = H := ⟨_, rfl⟩
  rw [hQ] at q1 ⊢
  have q1' : Qu w w1 Q H [] 0 0 := by rw [← hH]; exact q1
  clear q1 hQ
  have hmk := make_bools w1 (N + 1) (by omega)
  have e1 : ((N + 1 : Nat) : Int) = (N : Int) + 1 := by omega
  rw [e1] at hmk
  obtain ⟨Z, hZ⟩ : ∃ Z, (bools (rest (N + 1))).toArray = Z := ⟨_, rfl⟩
  rw [hZ] at hmk
  have HZ := hid hZ
  clear hZ e1 hH
  go_wp2_with fail
  have aS : Apart [] w1 (w1.alloc (.cells Z 4)) := (Apart.refl _ _).alloc _
  have hS : (w1.alloc (.cells Z 4)).heap[w1.heap.size]? = some (.cells Z 4 (0, 0)) := heap_alloc_new w1 _
  obtain ⟨S, hSS⟩ : ∃ S, w1.heap.size = S := ⟨_, rfl⟩
  have hS0 : w.heap.size ≤ S := by rw [← hSS]; exact a1.size
  rw [hSS] at hS ⊢
  have q2 := q1'.kept aS
  have a2 := a1.trans aS
  obtain ⟨W2, hW2⟩ : ∃ W2, w1.alloc (.cells Z 4) = W2 := ⟨_, rfl⟩
  rw [hW2] at hS q2 a2 ⊢
  clear hW2 hmk aS q1' a1 hSS
  go_loopw [7] (fun v wr => ∃ i : Nat, i ≤ N ∧ v = .int .i64 i ∧ Apart [] w wr ∧ wr.heap[S]? = some (.cells Z 4 (0, 0)) ∧ ∃ row, Qu w wr Q H row i 0 ∧ row.Perm (tss fs i)) (fun v _ => N - (intOf v).toNat)
  case atStart => exact ⟨0, Nat.zero_le _, rfl, a2, hS, [], q2, by simp [tss]⟩
  case round =>
    clear q2 a2 hS
    obtain ⟨i, hi, rfl, ap, hS, row, q, hpm⟩ := hrel
    have HPM := hid hpm
    clear hpm
    by_cases hlt : i < N
    · obtain ⟨P, o, rfl, hP, hc⟩ := HP.out (by omega)
      have e0 := (ap.cell (p := ⟨P, o + i, none⟩) hP (by simp)).trans (hc i hlt)
      have hA := arm_ok q ap (by omega) (by rw [HPM.out.length_eq, tss_length]; exact Nat.le_refl _) (fs i) ((i : Int) % 3) ((i : Int) * 7)
      have HQ := hid q
      clear hc q
      go_wp2_with fail
      refine hA.mono ?_
      clear hA
      rintro r w3 ⟨⟨rfl, q3, a3, k3⟩⟩
      dsimp only
      have hS3 := k3.keep HQ.out hS (by decide) (by decide) (by decide)
      have p3 : (rowAdd row ⟨fs i, (i : Int) + 1, (i : Int) % 3, (i : Int) * 7, i⟩).Perm (tss fs (i + 1)) := by
        rw [← tss_succ]
        exact (rowOf_perm _).trans (HPM.out.append_right _)
      clear ap e0 hS k3
      go_wp2
      go_roundw
      case rel => exact ⟨i + 1, by omega, by go_num, a3, hS3, _, q3, p3⟩
      case measure => simp [intOf]; omega
    · have hiN : N = i := by omega
      subst hiN
      have hA := arm_ok q ap (by omega) (by rw [HPM.out.length_eq, tss_length]; exact Nat.le_refl _) 4611686018427387904 1 1
      have HQ := hid q
      clear q
      go_wp2_with fail
      refine hA.mono ?_
      clear hA
      rintro r w3 ⟨⟨rfl, q3, a3, k3⟩⟩
      dsimp only
      have hS3 := k3.keep HQ.out hS (by decide) (by decide) (by decide)
      have p3 : (rowAdd row ⟨4611686018427387904, (N : Int) + 1, 1, 1, N⟩).Perm (tss fs N ++ [⟨4611686018427387904, (N : Int) + 1, 1, 1, N⟩]) := (rowOf_perm _).trans (HPM.out.append_right _)
      have f3 := filt_tss rfl p3
      generalize rowAdd row ⟨4611686018427387904, (N : Int) + 1, 1, 1, N⟩ = row3 at *
      have hC := cancel_ok q3 a3 ((N : Int) + 1)
      have HQ3 := hid q3
      have HP3 := hid p3
      have HF3 := hid f3
      clear ap hS k3 q3 p3 f3
      go_wp2_with fail
      refine hC.mono ?_
      clear hC
      rintro r w4 ⟨⟨hres, q4, a4, k4⟩⟩
      have hres' : r = .returned (.bool true) := by
        rcases hres with ⟨_, h⟩ | ⟨h, _⟩
        · exact absurd rfl (h ⟨4611686018427387904, (N : Int) + 1, 1, 1, N⟩ (HP3.out.symm.subset (by simp)))
        · exact h
      subst hres'
      clear hres
      dsimp only
      have hS4 := k4.keep HQ3.out hS3 (by decide) (by decide) (by decide)
      have hno : ∀ e ∈ row3.filter (fun e => decide (e.m ≠ (N : Int) + 1)), e.m ≠ (N : Int) + 1 := fun e he => of_decide_eq_true (List.mem_filter.1 he).2
      generalize row3.filter (fun e => decide (e.m ≠ (N : Int) + 1)) = row4 at *
      have hC := cancel_ok q4 a4 ((N : Int) + 1)
      have HQ4 := hid q4
      have HNO := hid hno
      clear q4 hno k4 hS3 a3
      go_wp2_with fail
      refine hC.mono ?_
      clear hC
      rintro r w5 ⟨⟨hres, q5, a5, k5⟩⟩
      have hres' : r = .returned (.bool false) := by
        rcases hres with ⟨h, _⟩ | ⟨_, e, he, hm⟩
        · exact h
        · exact absurd hm (HNO.out e he)
      subst hres'
      clear hres
      dsimp only
      rw [filter_all HNO.out] at q5
      have hS5 := k5.keep HQ4.out hS4 (by decide) (by decide) (by decide)
      rw [← HZ.out] at hS5
      obtain ⟨g5, hl5⟩ := after_two q5 HF3.out a5 hS5 hS0
      have G5 := hid g5
      have HL5 := hid hl5
      clear q5 k5 hS4 hS5 a4 a5 g5 hl5
      go_wp2_with fail
      go_loopw [8, 9] (fun vl vi wr => ∃ (j : Nat) (bs : List Bool) (row : List E), j ≤ M ∧ vl = .int .i64 row.length ∧ vi = .int .i64 j ∧ G3 fs w wr Q H S N bs row) (fun _ vi _ => M - (intOf vi).toNat)
      case atStart => exact ⟨0, _, _, Nat.zero_le _, by rw [HL5.out], rfl, G5.out⟩
      case round =>
        clear G5 HL5
        obtain ⟨j, bs, row5, hj, rfl, rfl, h3⟩ := hrel
        have hrl : row5.length ≤ 4000000 := by
          obtain ⟨es, o, pp⟩ := h3.qu.hr.ex
          obtain ⟨v, h1, _⟩ := o.ex
          rw [← pp.length_eq]; exact h1.hl
        by_cases hlt : j < M
        · obtain ⟨P2, o2, rfl, hP2, hc2⟩ := HP2.out (by omega)
          have e0 := (h3.ap.cell (p := ⟨P2, o2 + j, none⟩) hP2 (by simp)).trans (hc2 j hlt)
          have H3 := hid h3
          clear hc2 h3
          by_cases hk : 1 ≤ gs j ∧ gs j ≤ (N : Int)
          · obtain ⟨t, ht⟩ : ∃ t : Nat, gs j = (t : Int) + 1 := ⟨(gs j - 1).toNat, by omega⟩
            have htN : t < N := by omega
            rw [ht] at e0
            have hb := bool_at H3.out.hS (t + 1) (by rw [H3.out.bl]; omega)
            have hC := cancel_ok H3.out.qu H3.out.ap ((t : Int) + 1)
            have tn : ((t : Int) + 1).toNat = t + 1 := by omega
            clear hk ht
            cases hbv : bs.getD (t + 1) false with
            | true =>
              rw [hbv] at hb
              go_wp2_with fail
              refine hC.mono ?_
              clear hC
              rintro r w6 ⟨⟨hres, q6, a6, k6⟩⟩
              have hno := H3.out.no2 hbv
              have hres' : r = .returned (.bool false) := by
                rcases hres with ⟨h, _⟩ | ⟨_, e, he, hm⟩
                · exact h
                · exact absurd hm (hno e he)
              subst hres'
              dsimp only
              rw [filter_all hno] at q6
              have h6 := H3.out.same q6 a6 k6
              clear hres hno q6 a6 k6 hb e0
              go_wp2
              go_roundw
              case rel => exact ⟨j + 1, bs, row5, by omega, rfl, by go_num, h6⟩
              case measure => simp [intOf]; omega
            | false =>
              rw [hbv] at hb
              go_wp2_with fail
              refine hC.mono ?_
              clear hC
              rintro r w6 ⟨⟨hres, q6, a6, k6⟩⟩
              have hyes := H3.out.yes htN hbv
              have hres' : r = .returned (.bool true) := by
                rcases hres with ⟨_, h⟩ | ⟨h, _⟩
                · obtain ⟨e, he, hm⟩ := hyes
                  exact absurd hm (h e he)
                · exact h
              subst hres'
              dsimp only
              have hlen := len_filter H3.out.qu.hr.di H3.out.qu.hma hyes
              have h6 := H3.out.cancel htN q6 a6 k6
              have hS6 := k6.keep H3.out.qu H3.out.hS (by decide) (by decide) (by decide)
              have hb6 := bool_at hS6 (t + 1) (by rw [H3.out.bl]; omega)
              have fb6 := frozen_of_row w6 S (t + 1) _ _ hS6
              have hl6 : ((row5.length : Int) - 1) = ((row5.filter (fun e => decide (e.m ≠ ((t : Int) + 1)))).length : Int) := by omega
              have HL6 := hid hl6
              have H6 := hid h6
              clear hres q6 a6 k6 hb e0 hyes hlen hl6 h6 hS6
              go_wp2
              go_roundw
              case rel => exact ⟨j + 1, _, _, by omega, by rw [HL6.out], by go_num, H6.out⟩
              case measure => simp [intOf]; omega
          · have hC := cancel_ok H3.out.qu H3.out.ap (gs j)
            have hno := H3.out.no hk
            by_cases hk1 : 1 ≤ gs j
            · have hk2 : (N : Int) < gs j := by omega
              clear hk
              go_wp2_with fail
              refine hC.mono ?_
              clear hC
              rintro r w6 ⟨⟨hres, q6, a6, k6⟩⟩
              have hres' : r = .returned (.bool false) := by
                rcases hres with ⟨h, _⟩ | ⟨_, e, he, hm⟩
                · exact h
                · exact absurd hm (hno e he)
              subst hres'
              dsimp only
              rw [filter_all hno] at q6
              have h6 := H3.out.same q6 a6 k6
              clear hres hno q6 a6 k6 e0
              go_wp2
              go_roundw
              case rel => exact ⟨j + 1, bs, row5, by omega, rfl, by go_num, h6⟩
              case measure => simp [intOf]; omega
            · clear hk
              go_wp2_with fail
              refine hC.mono ?_
              clear hC
              rintro r w6 ⟨⟨hres, q6, a6, k6⟩⟩
              have hres' : r = .returned (.bool false) := by
                rcases hres with ⟨h, _⟩ | ⟨_, e, he, hm⟩
                · exact h
                · exact absurd hm (hno e he)
              subst hres'
              dsimp only
              rw [filter_all hno] at q6
              have h6 := H3.out.same q6 a6 k6
              clear hres hno q6 a6 k6 e0
              go_wp2
              go_roundw
              case rel => exact ⟨j + 1, bs, row5, by omega, rfl, by go_num, h6⟩
              case measure => simp [intOf]; omega
        · have aL : Apart [] wr (wr.alloc (.cells #[.int .i64 0, .int .i64 0, .int .i64 0, .int .i64 0] 46)) := (Apart.refl _ _).alloc _
          have hL : (wr.alloc (.cells #[.int .i64 0, .int .i64 0, .int .i64 0, .int .i64 0] 46)).heap[wr.heap.size]? = some (.cells #[.int .i64 0, .int .i64 0, .int .i64 0, .int .i64 0] 46 (0, 0)) := heap_alloc_new wr _
          have g4 := h3.fire aL hL h3.ap.size
          have G4' := hid g4
          clear g4 hL aL h3
          obtain ⟨left, hleft⟩ : ∃ left, row5.length = left := ⟨_, rfl⟩
          rw [hleft] at G4' hrl ⊢
          clear hleft
          go_wp2_with fail
          obtain ⟨L, hLL⟩ : ∃ L, wr.heap.size = L := ⟨_, rfl⟩
          rw [hLL] at G4' ⊢
          clear hLL
          go_loopw [12, 14] (fun vn vi wq => ∃ (i : Nat) (bs : List Bool) (row : List E) (nw lr lm lk lc : Int), vn = .int .i64 nw ∧ vi = .int .i64 i ∧ G4 fs w wq Q H S L N left i bs row nw lr lm lk lc) (fun _ vi _ => left - (intOf vi).toNat)
          case atStart => exact ⟨0, _, _, 0, 0, 0, 0, 0, rfl, rfl, G4'.out⟩
          case round =>
            clear G4'
            obtain ⟨i, bs4, row4', nw, lr, lm, lk, lc, rfl, rfl, h4⟩ := hrel
            have hil := h4.hi
            by_cases hi4 : i < left
            · have h0 : 0 < row4'.length := by rw [h4.hl]; omega
              obtain ⟨t, htN, he, hbt⟩ := h4.mem _ (g0_mem h0)
              have hF : Calls Try.prog 18 #[.pointer (some ⟨Q, 0, none⟩), .int .i64 0] _ _ := fire_some h4.qu h4.ap 0 h0
              have H4 := hid h4
              have HE := hid he
              have HBT := hid hbt
              clear h4 he hbt
              go_wp2_with fail
              refine hF.mono ?_
              clear hF
              rintro r w6 ⟨⟨rfl, q6, a6, k6⟩⟩
              rw [HE.out] at q6 ⊢
              dsimp only [tE] at q6 ⊢
              have hS6 := k6.keep H4.out.qu H4.out.hS (by decide) (by decide) (by decide)
              have hL6 := k6.keep H4.out.qu H4.out.hL (by decide) (by decide) (by decide)
              have aT : Apart [] w6 (w6.alloc (.cells #[.int .i64 (fs t), .int .i64 ((t : Int) + 1), .int .i64 ((t : Int) % 3), .int .i64 ((t : Int) * 7)] 46)) := (Apart.refl _ _).alloc _
              have bT : (w6.alloc (.cells #[.int .i64 (fs t), .int .i64 ((t : Int) + 1), .int .i64 ((t : Int) % 3), .int .i64 ((t : Int) * 7)] 46)).heap[w6.heap.size]? = some (.cells #[.int .i64 (fs t), .int .i64 ((t : Int) + 1), .int .i64 ((t : Int) % 3), .int .i64 ((t : Int) * 7)] 46 (0, 0)) := heap_alloc_new w6 _
              obtain ⟨P, o, rfl, hP, hc⟩ := HP.out (by omega)
              have hSlt := lt_of_heap hS6
              have hLlt := lt_of_heap hL6
              have inv4 := H4.out.step hi4 htN HE.out q6 a6 k6 (aT.drewN 1)
              have hPs : P < w6.heap.size := Nat.lt_of_lt_of_le hP a6.size
              have HLAST := hid H4.out.last
              have HM0 : Hid (tE fs t ∈ row4') := by have := g0_mem h0; rw [HE.out] at this; exact this
              go_wp2_with fail
              obtain ⟨W7, hW7⟩ : ∃ W7, w6.alloc (.cells #[.int .i64 (fs t), .int .i64 ((t : Int) + 1), .int .i64 ((t : Int) % 3), .int .i64 ((t : Int) * 7)] 46) = W7 := ⟨_, rfl⟩
              rw [hW7] at aT bT inv4 ⊢
              obtain ⟨D, hD⟩ : ∃ D, w6.heap.size = D := ⟨_, rfl⟩
              rw [hD] at bT ⊢
              have hSD : S ≠ D := by omega
              have hDS : D ≠ S := by omega
              have hLD : L ≠ D := by omega
              have hDL : D ≠ L := by omega
              have hS7 := (aT.block S hSlt (by simp)).trans hS6
              have hL7 := (aT.block L hLlt (by simp)).trans hL6
              have hSL : S ≠ L := fun e => by rw [e, hL7] at hS7; simp at hS7
              have hLS : L ≠ S := fun e => hSL e.symm
              have z0 : W7.cell? ⟨D, 0, none⟩ = some (.int .i64 (fs t)) := by rw [cell_of_row _ _ _ _ _ _ bT]; rfl
              have z1 : W7.cell? ⟨D, 1, none⟩ = some (.int .i64 ((t : Int) + 1)) := by rw [cell_of_row _ _ _ _ _ _ bT]; rfl
              have z2 : W7.cell? ⟨D, 2, none⟩ = some (.int .i64 ((t : Int) % 3)) := by rw [cell_of_row _ _ _ _ _ _ bT]; rfl
              have z3 : W7.cell? ⟨D, 3, none⟩ = some (.int .i64 ((t : Int) * 7)) := by rw [cell_of_row _ _ _ _ _ _ bT]; rfl
              have y1 := bool_at hS7 (t + 1) (by rw [H4.out.bl]; omega)
              rw [HBT.out] at y1
              have fy := frozen_of_row W7 S (t + 1) _ _ hS7
              have x0 : W7.cell? ⟨L, 0, none⟩ = some (.int .i64 lr) := by rw [cell_of_row _ _ _ _ _ _ hL7]; rfl
              have x1 : W7.cell? ⟨L, 1, none⟩ = some (.int .i64 lm) := by rw [cell_of_row _ _ _ _ _ _ hL7]; rfl
              have x2 : W7.cell? ⟨L, 2, none⟩ = some (.int .i64 lk) := by rw [cell_of_row _ _ _ _ _ _ hL7]; rfl
              have x3 : W7.cell? ⟨L, 3, none⟩ = some (.int .i64 lc) := by rw [cell_of_row _ _ _ _ _ _ hL7]; rfl
              have fl0 := frozen_of_row W7 L 0 _ _ hL7
              have fl1 := frozen_of_row W7 L 1 _ _ hL7
              have fl2 := frozen_of_row W7 L 2 _ _ hL7
              have fl3 := frozen_of_row W7 L 3 _ _ hL7
              have d0 : W7.cell? ⟨P, o + t, none⟩ = some (.int .i64 (fs t)) := ((a6.trans aT).cell (p := ⟨P, o + t, none⟩) hP (by simp)).trans (hc t htN)
              have tn : ((t : Int) + 1).toNat = t + 1 := by omega
              have hw7 : IntKind.wrap .i64 ((t : Int) * 7) = (t : Int) * 7 := by rw [IntKind.wrap_i64]; omega
              have INV4 : Hid (G4 fs w (markL W7.drew S L (t + 1) (fs t) ((t : Int) + 1) ((t : Int) % 3) ((t : Int) * 7)) Q H S L N left (i + 1) (bs4.set (t + 1) true) (row4'.eraseIdx 0) (max nw (fs t)) (fs t) ((t : Int) + 1) ((t : Int) % 3) ((t : Int) * 7)) := inv4
              have rz0 : ∀ X, Apart [] W7 X → X.cell? ⟨D, 0, none⟩ = some (.int .i64 (fs t)) := fun X a => (a.cell (p := ⟨D, 0, none⟩) (World.block_lt_of_cell? _ _ z0) (by simp)).trans z0
              have rz1 : ∀ X, Apart [] W7 X → X.cell? ⟨D, 1, none⟩ = some (.int .i64 ((t : Int) + 1)) := fun X a => (a.cell (p := ⟨D, 1, none⟩) (World.block_lt_of_cell? _ _ z1) (by simp)).trans z1
              have rz2 : ∀ X, Apart [] W7 X → X.cell? ⟨D, 2, none⟩ = some (.int .i64 ((t : Int) % 3)) := fun X a => (a.cell (p := ⟨D, 2, none⟩) (World.block_lt_of_cell? _ _ z2) (by simp)).trans z2
              have rz3 : ∀ X, Apart [] W7 X → X.cell? ⟨D, 3, none⟩ = some (.int .i64 ((t : Int) * 7)) := fun X a => (a.cell (p := ⟨D, 3, none⟩) (World.block_lt_of_cell? _ _ z3) (by simp)).trans z3
              have ry1 : ∀ X, Apart [] W7 X → X.cell? ⟨S, t + 1, none⟩ = some (.bool false) := fun X a => (a.cell (p := ⟨S, t + 1, none⟩) (World.block_lt_of_cell? _ _ y1) (by simp)).trans y1
              have rd0 : ∀ X, Apart [] W7 X → X.cell? ⟨P, o + t, none⟩ = some (.int .i64 (fs t)) := fun X a => (a.cell (p := ⟨P, o + t, none⟩) (World.block_lt_of_cell? _ _ d0) (by simp)).trans d0
              have aD7 : Apart [] W7 W7.drew := (Apart.refl _ _).drewN 1
              have c1 : ¬ ((t : Int) + 1 < 1) := by omega
              have c2 : ¬ ((N : Int) < (t : Int) + 1) := by omega
              have c3 : (t : Int) + 1 - 1 = (t : Int) := by omega
              have c4 : ¬ ((t : Int) + 1 < 0) := by omega
              have c5 : IntKind.wrap .i64 (t : Int) = (t : Int) := by rw [IntKind.wrap_i64]; omega
              have c6 : (t : Int).tmod 3 = (t : Int) % 3 := Int.tmod_eq_emod_of_nonneg (by omega)
              clear hc q6 a6 k6 hS6 hL6 aT bT hS7 hL7 inv4 hW7 hD hP hPs hSlt hLlt
              refine wp_region_held_drew (S := fun X => Apart [] W7 X) (by kernel_rfl) aD7 (fun hHeld => ?_)
              refine wpAnyH_take (i := 0) (oi := ⟨some 115, _, _, _, _, _⟩) (v := (.bool true)) rfl (by kernel_rfl) (by kernel_rfl) (by kernel_rfl) (fun _ _ _ h => h) (Or.inl ⟨by rfl, ?_⟩) (by assumption) ?_
              · intro W hSW; go_simp
              simp only [Act.put, List.setIfInBounds_toArray, List.set_cons_zero, List.set_cons_succ]
              refine wpAnyH_take (i := 1) (oi := ⟨some 116, _, _, _, _, _⟩) (v := (.bool false)) rfl (by kernel_rfl) (by kernel_rfl) (by kernel_rfl) (fun _ _ _ h => h) (Or.inl ⟨by rfl, ?_⟩) (by assumption) ?_
              · intro W hSW; go_simp
              simp only [Act.put, List.setIfInBounds_toArray, List.set_cons_zero, List.set_cons_succ]
              refine wpAnyH_take (i := 2) (oi := ⟨some 117, _, _, _, _, _⟩) (v := (.bool false)) rfl (by kernel_rfl) (by kernel_rfl) (by kernel_rfl) (fun _ _ _ h => h) (Or.inl ⟨by rfl, ?_⟩) (by assumption) ?_
              · intro W hSW; go_simp
              simp only [Act.put, List.setIfInBounds_toArray, List.set_cons_zero, List.set_cons_succ]
              refine wpAnyH_take (i := 3) (oi := ⟨some 118, _, _, _, _, _⟩) (v := (.pointer (some ⟨D, 1, none⟩))) rfl (by kernel_rfl) (by kernel_rfl) (by kernel_rfl) (fun _ _ _ h => h) (Or.inl ⟨by rfl, ?_⟩) (by assumption) ?_
              · intro W hSW; go_simp
              simp only [Act.put, List.setIfInBounds_toArray, List.set_cons_zero, List.set_cons_succ]
              refine wpAnyH_take (i := 4) (oi := ⟨some 119, _, _, _, _, _⟩) (v := (.int .i64 ((t : Int) + 1))) rfl (by kernel_rfl) (by kernel_rfl) (by kernel_rfl) (fun _ _ _ h => h) (Or.inl ⟨by rfl, ?_⟩) (by assumption) ?_
              · intro W hSW; go_simp
              simp only [Act.put, List.setIfInBounds_toArray, List.set_cons_zero, List.set_cons_succ]
              refine wpAnyH_take (i := 5) (oi := ⟨some 120, _, _, _, _, _⟩) (v := (.bool false)) rfl (by kernel_rfl) (by kernel_rfl) (by kernel_rfl) (fun _ _ _ h => h) (Or.inl ⟨by rfl, ?_⟩) (by assumption) ?_
              · intro W hSW; go_simp
              simp only [Act.put, List.setIfInBounds_toArray, List.set_cons_zero, List.set_cons_succ]
              refine wpAnyH_take (i := 6) (oi := ⟨some 121, _, _, _, _, _⟩) (v := (.bool false)) rfl (by kernel_rfl) (by kernel_rfl) (by kernel_rfl) (fun _ _ _ h => h) (Or.inl ⟨by rfl, ?_⟩) (by assumption) ?_
              · intro W hSW; go_simp
              simp only [Act.put, List.setIfInBounds_toArray, List.set_cons_zero, List.set_cons_succ]
              refine wpAnyH_take (i := 7) (oi := ⟨some 122, _, _, _, _, _⟩) (v := (.bool false)) rfl (by kernel_rfl) (by kernel_rfl) (by kernel_rfl) (fun _ _ _ h => h) (Or.inl ⟨by rfl, ?_⟩) (by assumption) ?_
              · intro W hSW; go_simp
              simp only [Act.put, List.setIfInBounds_toArray, List.set_cons_zero, List.set_cons_succ]
              refine wpAnyH_take (i := 8) (oi := ⟨some 123, _, _, _, _, _⟩) (v := (.pointer (some ⟨D, 1, none⟩))) rfl (by kernel_rfl) (by kernel_rfl) (by kernel_rfl) (fun _ _ _ h => h) (Or.inl ⟨by rfl, ?_⟩) (by assumption) ?_
              · intro W hSW; go_simp
              simp only [Act.put, List.setIfInBounds_toArray, List.set_cons_zero, List.set_cons_succ]
              refine wpAnyH_take (i := 9) (oi := ⟨some 124, _, _, _, _, _⟩) (v := (.int .i64 ((t : Int) + 1))) rfl (by kernel_rfl) (by kernel_rfl) (by kernel_rfl) (fun _ _ _ h => h) (Or.inl ⟨by rfl, ?_⟩) (by assumption) ?_
              · intro W hSW; go_simp
              simp only [Act.put, List.setIfInBounds_toArray, List.set_cons_zero, List.set_cons_succ]
              refine wpAnyH_take (i := 10) (oi := ⟨some 125, _, _, _, _, _⟩) (v := (.slice (some ⟨P, o, none⟩) N cap)) rfl (by kernel_rfl) (by kernel_rfl) (by kernel_rfl) (fun _ _ _ h => h) (Or.inl ⟨by rfl, ?_⟩) (by assumption) ?_
              · intro W hSW; go_simp
              simp only [Act.put, List.setIfInBounds_toArray, List.set_cons_zero, List.set_cons_succ]
              refine wpAnyH_take (i := 11) (oi := ⟨some 126, _, _, _, _, _⟩) (v := (.int .i64 (N : Int))) rfl (by kernel_rfl) (by kernel_rfl) (by kernel_rfl) (fun _ _ _ h => h) (Or.inl ⟨by rfl, ?_⟩) (by assumption) ?_
              · intro W hSW; go_simp
              simp only [Act.put, List.setIfInBounds_toArray, List.set_cons_zero, List.set_cons_succ]
              refine wpAnyH_take (i := 12) (oi := ⟨some 127, _, _, _, _, _⟩) (v := (.bool false)) rfl (by kernel_rfl) (by kernel_rfl) (by kernel_rfl) (fun _ _ _ h => h) (Or.inl ⟨by rfl, ?_⟩) (by assumption) ?_
              · intro W hSW; go_simp
              simp only [Act.put, List.setIfInBounds_toArray, List.set_cons_zero, List.set_cons_succ]
              refine wpAnyH_take (i := 13) (oi := ⟨some 128, _, _, _, _, _⟩) (v := (.bool false)) rfl (by kernel_rfl) (by kernel_rfl) (by kernel_rfl) (fun _ _ _ h => h) (Or.inl ⟨by rfl, ?_⟩) (by assumption) ?_
              · intro W hSW; go_simp
              simp only [Act.put, List.setIfInBounds_toArray, List.set_cons_zero, List.set_cons_succ]
              refine wpAnyH_take (i := 14) (oi := ⟨some 129, _, _, _, _, _⟩) (v := (.bool false)) rfl (by kernel_rfl) (by kernel_rfl) (by kernel_rfl) (fun _ _ _ h => h) (Or.inl ⟨by rfl, ?_⟩) (by assumption) ?_
              · intro W hSW; go_simp
              simp only [Act.put, List.setIfInBounds_toArray, List.set_cons_zero, List.set_cons_succ]
              refine wpAnyH_take (i := 15) (oi := ⟨some 130, _, _, _, _, _⟩) (v := (.slice (some ⟨S, 0, none⟩) (N + 1) (N + 1))) rfl (by kernel_rfl) (by kernel_rfl) (by kernel_rfl) (fun _ _ _ h => h) (Or.inl ⟨by rfl, ?_⟩) (by assumption) ?_
              · intro W hSW; go_simp
              simp only [Act.put, List.setIfInBounds_toArray, List.set_cons_zero, List.set_cons_succ]
              refine wpAnyH_take (i := 16) (oi := ⟨some 131, _, _, _, _, _⟩) (v := (.pointer (some ⟨D, 1, none⟩))) rfl (by kernel_rfl) (by kernel_rfl) (by kernel_rfl) (fun _ _ _ h => h) (Or.inl ⟨by rfl, ?_⟩) (by assumption) ?_
              · intro W hSW; go_simp
              simp only [Act.put, List.setIfInBounds_toArray, List.set_cons_zero, List.set_cons_succ]
              refine wpAnyH_take (i := 17) (oi := ⟨some 132, _, _, _, _, _⟩) (v := (.int .i64 ((t : Int) + 1))) rfl (by kernel_rfl) (by kernel_rfl) (by kernel_rfl) (fun _ _ _ h => h) (Or.inl ⟨by rfl, ?_⟩) (by assumption) ?_
              · intro W hSW; go_simp
              simp only [Act.put, List.setIfInBounds_toArray, List.set_cons_zero, List.set_cons_succ]
              refine wpAnyH_take (i := 18) (oi := ⟨some 133, _, _, _, _, _⟩) (v := (.pointer (some ⟨S, t + 1, none⟩))) rfl (by kernel_rfl) (by kernel_rfl) (by kernel_rfl) (fun _ _ _ h => h) (Or.inl ⟨by rfl, ?_⟩) (by assumption) ?_
              · intro W hSW; go_simp
              simp only [Act.put, List.setIfInBounds_toArray, List.set_cons_zero, List.set_cons_succ]
              refine wpAnyH_take (i := 19) (oi := ⟨some 134, _, _, _, _, _⟩) (v := (.bool false)) rfl (by kernel_rfl) (by kernel_rfl) (by kernel_rfl) (fun _ _ _ h => h) (Or.inl ⟨by rfl, ?_⟩) (by assumption) ?_
              · intro W hSW; go_simp
              simp only [Act.put, List.setIfInBounds_toArray, List.set_cons_zero, List.set_cons_succ]
              refine wpAnyH_take (i := 20) (oi := ⟨some 135, _, _, _, _, _⟩) (v := (.bool false)) rfl (by kernel_rfl) (by kernel_rfl) (by kernel_rfl) (fun _ _ _ h => h) (Or.inl ⟨by rfl, ?_⟩) (by assumption) ?_
              · intro W hSW; go_simp
              simp only [Act.put, List.setIfInBounds_toArray, List.set_cons_zero, List.set_cons_succ]
              refine wpAnyH_take (i := 21) (oi := ⟨some 136, _, _, _, _, _⟩) (v := (.bool false)) rfl (by kernel_rfl) (by kernel_rfl) (by kernel_rfl) (fun _ _ _ h => h) (Or.inl ⟨by rfl, ?_⟩) (by assumption) ?_
              · intro W hSW; go_simp
              simp only [Act.put, List.setIfInBounds_toArray, List.set_cons_zero, List.set_cons_succ]
              refine wpAnyH_take (i := 22) (oi := ⟨some 137, _, _, _, _, _⟩) (v := (.pointer (some ⟨D, 0, none⟩))) rfl (by kernel_rfl) (by kernel_rfl) (by kernel_rfl) (fun _ _ _ h => h) (Or.inl ⟨by rfl, ?_⟩) (by assumption) ?_
              · intro W hSW; go_simp
              simp only [Act.put, List.setIfInBounds_toArray, List.set_cons_zero, List.set_cons_succ]
              refine wpAnyH_take (i := 23) (oi := ⟨some 138, _, _, _, _, _⟩) (v := (.int .i64 (fs t))) rfl (by kernel_rfl) (by kernel_rfl) (by kernel_rfl) (fun _ _ _ h => h) (Or.inl ⟨by rfl, ?_⟩) (by assumption) ?_
              · intro W hSW; go_simp
              simp only [Act.put, List.setIfInBounds_toArray, List.set_cons_zero, List.set_cons_succ]
              refine wpAnyH_take (i := 24) (oi := ⟨some 139, _, _, _, _, _⟩) (v := (.slice (some ⟨P, o, none⟩) N cap)) rfl (by kernel_rfl) (by kernel_rfl) (by kernel_rfl) (fun _ _ _ h => h) (Or.inl ⟨by rfl, ?_⟩) (by assumption) ?_
              · intro W hSW; go_simp
              simp only [Act.put, List.setIfInBounds_toArray, List.set_cons_zero, List.set_cons_succ]
              refine wpAnyH_take (i := 25) (oi := ⟨some 140, _, _, _, _, _⟩) (v := (.pointer (some ⟨D, 1, none⟩))) rfl (by kernel_rfl) (by kernel_rfl) (by kernel_rfl) (fun _ _ _ h => h) (Or.inl ⟨by rfl, ?_⟩) (by assumption) ?_
              · intro W hSW; go_simp
              simp only [Act.put, List.setIfInBounds_toArray, List.set_cons_zero, List.set_cons_succ]
              refine wpAnyH_take (i := 26) (oi := ⟨some 141, _, _, _, _, _⟩) (v := (.int .i64 ((t : Int) + 1))) rfl (by kernel_rfl) (by kernel_rfl) (by kernel_rfl) (fun _ _ _ h => h) (Or.inl ⟨by rfl, ?_⟩) (by assumption) ?_
              · intro W hSW; go_simp
              simp only [Act.put, List.setIfInBounds_toArray, List.set_cons_zero, List.set_cons_succ]
              refine wpAnyH_take (i := 27) (oi := ⟨some 142, _, _, _, _, _⟩) (v := (.int .i64 (t : Int))) rfl (by kernel_rfl) (by kernel_rfl) (by kernel_rfl) (fun _ _ _ h => h) (Or.inl ⟨by rfl, ?_⟩) (by assumption) ?_
              · intro W hSW; go_simp
              simp only [Act.put, List.setIfInBounds_toArray, List.set_cons_zero, List.set_cons_succ]
              refine wpAnyH_take (i := 28) (oi := ⟨some 143, _, _, _, _, _⟩) (v := (.pointer (some ⟨P, o + t, none⟩))) rfl (by kernel_rfl) (by kernel_rfl) (by kernel_rfl) (fun _ _ _ h => h) (Or.inl ⟨by rfl, ?_⟩) (by assumption) ?_
              · intro W hSW; go_simp
              simp only [Act.put, List.setIfInBounds_toArray, List.set_cons_zero, List.set_cons_succ]
              refine wpAnyH_take (i := 29) (oi := ⟨some 144, _, _, _, _, _⟩) (v := (.int .i64 (fs t))) rfl (by kernel_rfl) (by kernel_rfl) (by kernel_rfl) (fun _ _ _ h => h) (Or.inl ⟨by rfl, ?_⟩) (by assumption) ?_
              · intro W hSW; go_simp
              simp only [Act.put, List.setIfInBounds_toArray, List.set_cons_zero, List.set_cons_succ]
              refine wpAnyH_take (i := 30) (oi := ⟨some 145, _, _, _, _, _⟩) (v := (.bool false)) rfl (by kernel_rfl) (by kernel_rfl) (by kernel_rfl) (fun _ _ _ h => h) (Or.inl ⟨by rfl, ?_⟩) (by assumption) ?_
              · intro W hSW; go_simp
              simp only [Act.put, List.setIfInBounds_toArray, List.set_cons_zero, List.set_cons_succ]
              refine wpAnyH_take (i := 31) (oi := ⟨some 146, _, _, _, _, _⟩) (v := (.bool false)) rfl (by kernel_rfl) (by kernel_rfl) (by kernel_rfl) (fun _ _ _ h => h) (Or.inl ⟨by rfl, ?_⟩) (by assumption) ?_
              · intro W hSW; go_simp
              simp only [Act.put, List.setIfInBounds_toArray, List.set_cons_zero, List.set_cons_succ]
              refine wpAnyH_take (i := 32) (oi := ⟨some 147, _, _, _, _, _⟩) (v := (.bool false)) rfl (by kernel_rfl) (by kernel_rfl) (by kernel_rfl) (fun _ _ _ h => h) (Or.inl ⟨by rfl, ?_⟩) (by assumption) ?_
              · intro W hSW; go_simp
              simp only [Act.put, List.setIfInBounds_toArray, List.set_cons_zero, List.set_cons_succ]
              refine wpAnyH_take (i := 33) (oi := ⟨some 148, _, _, _, _, _⟩) (v := (.pointer (some ⟨D, 2, none⟩))) rfl (by kernel_rfl) (by kernel_rfl) (by kernel_rfl) (fun _ _ _ h => h) (Or.inl ⟨by rfl, ?_⟩) (by assumption) ?_
              · intro W hSW; go_simp
              simp only [Act.put, List.setIfInBounds_toArray, List.set_cons_zero, List.set_cons_succ]
              refine wpAnyH_take (i := 34) (oi := ⟨some 149, _, _, _, _, _⟩) (v := (.int .i64 ((t : Int) % 3))) rfl (by kernel_rfl) (by kernel_rfl) (by kernel_rfl) (fun _ _ _ h => h) (Or.inl ⟨by rfl, ?_⟩) (by assumption) ?_
              · intro W hSW; go_simp
              simp only [Act.put, List.setIfInBounds_toArray, List.set_cons_zero, List.set_cons_succ]
              refine wpAnyH_take (i := 35) (oi := ⟨some 150, _, _, _, _, _⟩) (v := (.pointer (some ⟨D, 1, none⟩))) rfl (by kernel_rfl) (by kernel_rfl) (by kernel_rfl) (fun _ _ _ h => h) (Or.inl ⟨by rfl, ?_⟩) (by assumption) ?_
              · intro W hSW; go_simp
              simp only [Act.put, List.setIfInBounds_toArray, List.set_cons_zero, List.set_cons_succ]
              refine wpAnyH_take (i := 36) (oi := ⟨some 151, _, _, _, _, _⟩) (v := (.int .i64 ((t : Int) + 1))) rfl (by kernel_rfl) (by kernel_rfl) (by kernel_rfl) (fun _ _ _ h => h) (Or.inl ⟨by rfl, ?_⟩) (by assumption) ?_
              · intro W hSW; go_simp
              simp only [Act.put, List.setIfInBounds_toArray, List.set_cons_zero, List.set_cons_succ]
              refine wpAnyH_take (i := 37) (oi := ⟨some 152, _, _, _, _, _⟩) (v := (.int .i64 (t : Int))) rfl (by kernel_rfl) (by kernel_rfl) (by kernel_rfl) (fun _ _ _ h => h) (Or.inl ⟨by rfl, ?_⟩) (by assumption) ?_
              · intro W hSW; go_simp
              simp only [Act.put, List.setIfInBounds_toArray, List.set_cons_zero, List.set_cons_succ]
              refine wpAnyH_take (i := 38) (oi := ⟨some 153, _, _, _, _, _⟩) (v := (.int .i64 ((t : Int) % 3))) rfl (by kernel_rfl) (by kernel_rfl) (by kernel_rfl) (fun _ _ _ h => h) (Or.inl ⟨by rfl, ?_⟩) (by assumption) ?_
              · intro W hSW; go_simp
              simp only [Act.put, List.setIfInBounds_toArray, List.set_cons_zero, List.set_cons_succ]
              refine wpAnyH_take (i := 39) (oi := ⟨some 154, _, _, _, _, _⟩) (v := (.bool false)) rfl (by kernel_rfl) (by kernel_rfl) (by kernel_rfl) (fun _ _ _ h => h) (Or.inl ⟨by rfl, ?_⟩) (by assumption) ?_
              · intro W hSW; go_simp
              simp only [Act.put, List.setIfInBounds_toArray, List.set_cons_zero, List.set_cons_succ]
              refine wpAnyH_take (i := 40) (oi := ⟨some 155, _, _, _, _, _⟩) (v := (.bool false)) rfl (by kernel_rfl) (by kernel_rfl) (by kernel_rfl) (fun _ _ _ h => h) (Or.inl ⟨by rfl, ?_⟩) (by assumption) ?_
              · intro W hSW; go_simp
              simp only [Act.put, List.setIfInBounds_toArray, List.set_cons_zero, List.set_cons_succ]
              refine wpAnyH_take (i := 41) (oi := ⟨some 156, _, _, _, _, _⟩) (v := (.bool false)) rfl (by kernel_rfl) (by kernel_rfl) (by kernel_rfl) (fun _ _ _ h => h) (Or.inl ⟨by rfl, ?_⟩) (by assumption) ?_
              · intro W hSW; go_simp
              simp only [Act.put, List.setIfInBounds_toArray, List.set_cons_zero, List.set_cons_succ]
              refine wpAnyH_take (i := 42) (oi := ⟨some 157, _, _, _, _, _⟩) (v := (.pointer (some ⟨D, 3, none⟩))) rfl (by kernel_rfl) (by kernel_rfl) (by kernel_rfl) (fun _ _ _ h => h) (Or.inl ⟨by rfl, ?_⟩) (by assumption) ?_
              · intro W hSW; go_simp
              simp only [Act.put, List.setIfInBounds_toArray, List.set_cons_zero, List.set_cons_succ]
              refine wpAnyH_take (i := 43) (oi := ⟨some 158, _, _, _, _, _⟩) (v := (.int .i64 ((t : Int) * 7))) rfl (by kernel_rfl) (by kernel_rfl) (by kernel_rfl) (fun _ _ _ h => h) (Or.inl ⟨by rfl, ?_⟩) (by assumption) ?_
              · intro W hSW; go_simp
              simp only [Act.put, List.setIfInBounds_toArray, List.set_cons_zero, List.set_cons_succ]
              refine wpAnyH_take (i := 44) (oi := ⟨some 159, _, _, _, _, _⟩) (v := (.pointer (some ⟨D, 1, none⟩))) rfl (by kernel_rfl) (by kernel_rfl) (by kernel_rfl) (fun _ _ _ h => h) (Or.inl ⟨by rfl, ?_⟩) (by assumption) ?_
              · intro W hSW; go_simp
              simp only [Act.put, List.setIfInBounds_toArray, List.set_cons_zero, List.set_cons_succ]
              refine wpAnyH_take (i := 45) (oi := ⟨some 160, _, _, _, _, _⟩) (v := (.int .i64 ((t : Int) + 1))) rfl (by kernel_rfl) (by kernel_rfl) (by kernel_rfl) (fun _ _ _ h => h) (Or.inl ⟨by rfl, ?_⟩) (by assumption) ?_
              · intro W hSW; go_simp
              simp only [Act.put, List.setIfInBounds_toArray, List.set_cons_zero, List.set_cons_succ]
              refine wpAnyH_take (i := 46) (oi := ⟨some 161, _, _, _, _, _⟩) (v := (.int .i64 (t : Int))) rfl (by kernel_rfl) (by kernel_rfl) (by kernel_rfl) (fun _ _ _ h => h) (Or.inl ⟨by rfl, ?_⟩) (by assumption) ?_
              · intro W hSW; go_simp
              simp only [Act.put, List.setIfInBounds_toArray, List.set_cons_zero, List.set_cons_succ]
              refine wpAnyH_take (i := 47) (oi := ⟨some 162, _, _, _, _, _⟩) (v := (.int .i64 ((t : Int) * 7))) rfl (by kernel_rfl) (by kernel_rfl) (by kernel_rfl) (fun _ _ _ h => h) (Or.inl ⟨by rfl, ?_⟩) (by assumption) ?_
              · intro W hSW; go_simp
              simp only [Act.put, List.setIfInBounds_toArray, List.set_cons_zero, List.set_cons_succ]
              refine wpAnyH_take (i := 48) (oi := ⟨some 163, _, _, _, _, _⟩) (v := (.bool false)) rfl (by kernel_rfl) (by kernel_rfl) (by kernel_rfl) (fun _ _ _ h => h) (Or.inl ⟨by rfl, ?_⟩) (by assumption) ?_
              · intro W hSW; go_simp
              simp only [Act.put, List.setIfInBounds_toArray, List.set_cons_zero, List.set_cons_succ]
              refine wpAnyH_take (i := 49) (oi := ⟨some 164, _, _, _, _, _⟩) (v := (.bool false)) rfl (by kernel_rfl) (by kernel_rfl) (by kernel_rfl) (fun _ _ _ h => h) (Or.inl ⟨by rfl, ?_⟩) (by assumption) ?_
              · intro W hSW; go_simp
              simp only [Act.put, List.setIfInBounds_toArray, List.set_cons_zero, List.set_cons_succ]
              refine wpAnyH_done (by kernel_rfl) ?_ _
              clear rz0 rz1 rz2 rz3 ry1 rd0 c1 c2 c3 c5 c6 hw7 d0 aD7
              go_upto_region 31 with fail
              go_cut [187] from 165 to 186 (fun s wx => s = .bool false ∧ wx = W7.drew)
              case first =>
                by_cases hi0 : 0 < i
                · have hl := HLAST.out hi0 (tE fs t) HM0.out
                  simp only [tE] at hl
                  have k1 : ¬ (fs t < lr) := fun h => hl (.inl h)
                  have hi1 : (0 : Int) < (i : Int) := by omega
                  by_cases k2 : fs t = lr
                  · have k3 : ¬ ((t : Int) + 1 < lm) := fun h => hl (.inr ⟨k2, h⟩)
                    subst k2
                    clear hl k1
                    go_wp2_with fail
                    go_meet
                    exact ⟨rfl, rfl⟩
                  · clear hl
                    go_wp2_with fail
                    go_meet
                    exact ⟨rfl, rfl⟩
                · obtain rfl : i = 0 := by omega
                  go_wp2_with fail
                  go_meet
                  exact ⟨rfl, rfl⟩
              case rest =>
                obtain ⟨rfl, rfl⟩ := hcut
                have INV := INV4.out
                have HNO : Hid (∀ e ∈ row4'.eraseIdx 0, e.m ≠ (t : Int) + 1) := fun e he e2 => by
                  obtain ⟨q, hq, rfl, _⟩ := H4.out.mem e ((List.eraseIdx_sublist _ _).subset he)
                  have := di_first H4.out.qu.hr.di h0 _ he
                  rw [HE.out] at this
                  simp only [tE] at this e2
                  omega
                have zt : ((t : Int) + 1).toNat = t + 1 := tn
                clear INV4 HLAST HM0 HBT HE H4
                by_cases hmx : nw < fs t
                · rw [Int.max_eq_right (by omega)] at INV
                  simp only [markL] at INV
                  have hNw := now_ok INV.qu
                  have hCa := cancel_ok INV.qu INV.ap ((t : Int) + 1)
                  have HINV := hid INV
                  clear INV
                  go_wp2_with fail
                  refine hNw.mono ?_
                  clear hNw
                  rintro r w8 ⟨rfl, rfl⟩
                  dsimp only
                  go_wp2_with fail
                  refine hCa.mono ?_
                  clear hCa
                  rintro r w9 ⟨⟨hres, q9, a9, k9⟩⟩
                  have hres' : r = .returned (.bool false) := by
                    rcases hres with ⟨h, _⟩ | ⟨_, e, he, hm⟩
                    · exact h
                    · exact absurd hm (HNO.out e he)
                  subst hres'
                  dsimp only
                  rw [filter_all HNO.out] at q9
                  have h9 := HINV.out.same q9 a9 k9
                  clear hres q9 a9 k9 HINV
                  go_wp2
                  go_roundw
                  case rel => exact ⟨i + 1, _, _, _, _, _, _, _, rfl, by go_num, h9⟩
                  case measure => simp [intOf]; omega
                · rw [Int.max_eq_left (by omega)] at INV
                  simp only [markL] at INV
                  have hNw := now_ok INV.qu
                  have hCa := cancel_ok INV.qu INV.ap ((t : Int) + 1)
                  have HINV := hid INV
                  clear INV
                  go_wp2_with fail
                  refine hNw.mono ?_
                  clear hNw
                  rintro r w8 ⟨rfl, rfl⟩
                  dsimp only
                  go_wp2_with fail
                  refine hCa.mono ?_
                  clear hCa
                  rintro r w9 ⟨⟨hres, q9, a9, k9⟩⟩
                  have hres' : r = .returned (.bool false) := by
                    rcases hres with ⟨h, _⟩ | ⟨_, e, he, hm⟩
                    · exact h
                    · exact absurd hm (HNO.out e he)
                  subst hres'
                  dsimp only
                  rw [filter_all HNO.out] at q9
                  have h9 := HINV.out.same q9 a9 k9
                  clear hres q9 a9 k9 HINV
                  go_wp2
                  go_roundw
                  case rel => exact ⟨i + 1, _, _, _, _, _, _, _, rfl, by go_num, h9⟩
                  case measure => simp [intOf]; omega
            · obtain rfl : i = left := by omega
              have h0 : row4'.length = 0 := by rw [h4.hl]; omega
              have hF := fire_none h4.qu 0 (.inr (by omega))
              have H4 := hid h4
              clear h4
              go_wp2_with fail
              refine hF.mono ?_
              clear hF
              rintro r w6 ⟨⟨rfl, a6⟩⟩
              dsimp only
              have hl6 : row4'.length = 0 := h0
              have aT : Apart [] w6 (w6.alloc (.cells #[.int .i64 0, .int .i64 0, .int .i64 0, .int .i64 0] 46)) := (Apart.refl _ _).alloc _
              have q6 := (H4.out.qu.kept a6).kept aT
              have hLi := list_ok q6 0 hl6
              have A6 := hid ((H4.out.ap.trans a6).trans aT)
              have Q6 := hid q6
              have HL6 := hid hl6
              clear aT q6 hl6 h0 a6 H4
              go_wp2_with fail
              refine hLi.mono ?_
              clear hLi
              rintro r w7 ⟨B, rfl, _, _, a7⟩
              dsimp only
              have hAr := arm_ok (Q6.out.kept a7) (A6.out.trans a7) (by omega) (by rw [HL6.out]; omega) 0 0 0
              have ec : (((N + 1 : Nat) : Int) + 1) = (N : Int) + 2 := by omega
              go_wp2_with fail
              refine hAr.mono ?_
              clear hAr
              rintro r w8 ⟨⟨rfl, _, a8, _⟩⟩
              rw [ec]
              dsimp only
              have bel : Hid (Below w.heap.size w w8) := a8.below (Nat.le_refl _) (by simp)
              clear a8 a7 ec Q6 A6
              go_wp2
              go_ret
              exact ⟨rfl, bel.out⟩
end Go.Proofs.Ytopmhacnopfifaa.tm
