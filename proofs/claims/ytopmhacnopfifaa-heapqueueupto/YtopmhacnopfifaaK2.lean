import Derived.Test.YtopmhacnopfifaaK4
import Derived.Deep.CutBlock
namespace Go.Proofs.Ytopmhacnopfifaa.tm
open Go.ChangeShapes Go.WideShapes Go.ChangeAt Go.RowKit
set_option linter.unusedVariables false
set_option linter.unusedSimpArgs false
structure AskC where
  who : Int
  kind : Int
  a : Int
  b : Int
  c : Int
def IsAsk (w : World) (p : Option Addr) (len : Nat) (f : Nat → AskC) : Prop := 0 < len → ∃ P o, p = some ⟨P, o, none⟩ ∧ P < w.heap.size ∧ ∀ i, i < len → w.cell? ⟨P, o + i * 5, none⟩ = some (.int .i64 (f i).who) ∧ w.cell? ⟨P, o + i * 5 + 1, none⟩ = some (.int .i64 (f i).kind) ∧ w.cell? ⟨P, o + i * 5 + 2, none⟩ = some (.int .i64 (f i).a) ∧ w.cell? ⟨P, o + i * 5 + 3, none⟩ = some (.int .i64 (f i).b) ∧ w.cell? ⟨P, o + i * 5 + 4, none⟩ = some (.int .i64 (f i).c)
set_option maxRecDepth 100000 in
theorem nilq2 (a : Addr) (W : World) : Sem.run Try.prog (binOp BinOp.eql 40 (Value.pointer (some a)) (Value.pointer none)) W = .ok (.bool false) W := by first | rfl | (simp [binOp, Try.underlying40, go_sem]; done)
structure KI (w wr : World) (Q H i : Nat) (hv : Value) (hs : List Value) (row : List E) (n : Nat) (nw : Int) : Prop where
  qu : Qu w wr Q H row n nw
  ap : Apart [] w wr
  held : Held wr hv hs
  hl : hs.length = 8 * i
  hni : n ≤ i + 1
  rl : row.length ≤ n
  hv0 : ∀ k, hv.ownBlock = some k → w.heap.size ≤ k
/-- behind the call -/
structure KS (w wr wx : World) (Q H i : Nat) (hv : Value) (hs : List Value) (row : List E) (n : Nat) (nw : Int) : Prop where
  qu : Qu w wx Q H row n nw
  ap : Apart [] w wx
  held : Held wx hv hs
  hni : n ≤ i + 2
  rl : row.length ≤ n
theorem rowAdd_len (row : List E) (e : E) : (rowAdd row e).length = row.length + 1 := by unfold rowAdd; rw [(rowOf_perm _).length_eq]; simp
set_option maxHeartbeats 16000000 in
set_option maxRecDepth 100000 in
theorem kept_walk (w : World) (p : Option Addr) (N cap : Nat) (f : Nat → AskC) (hN : N ≤ 1100000) (hp : IsAsk w p N f) :
    Calls Try.prog 6 #[.slice p N cap] w fun r w' => r = .returned (.bool true) ∧ Below w.heap.size w w' := by
  have hnil := nilq2
  have HP := hid hp
  clear hp
  go_enter Try.func6, Try.ntmps6
  go_wp2_with fail
  refine (newQueue_ok w w (Nat.le_refl _)).mono ?_
  rintro r w1 ⟨rfl, q1, a1⟩
  dsimp only
  obtain ⟨Q, hQ⟩ : ∃ Q, w.heap.size + 1 = Q := ⟨_, rfl⟩
  obtain ⟨H, hH⟩ : ∃ H, w.heap.size = H := ⟨_, rfl⟩
  rw [hQ] at q1 ⊢
  have q1' : Qu w w1 Q H [] 0 0 := by rw [← hH]; exact q1
  clear q1 hQ hH
  have hA := arm_ok q1' a1 (by omega) (by simp) 5 1 2
  go_wp2_with fail
  refine hA.mono ?_
  clear hA
  rintro r w2 ⟨⟨rfl, q2, a2, k2⟩⟩
  rw [show (((0 : Nat) : Int) + 1) = 1 from rfl] at q2 ⊢
  dsimp only
  have hI0 : KI w w2 Q H 0 (.slice none 0 0) [] (rowAdd [] ⟨5, 1, 1, 2, ((0 : Nat) : Int)⟩) 1 0 := ⟨q2, a2, Held.nil _, rfl, by omega, by rw [rowAdd_len]; simp, by simp [Value.ownBlock]⟩
  have HI0 := hid hI0
  clear q1' a1 q2 a2 k2 hI0
  go_wp2_with fail
  go_loopw [4, 5] (fun vh vi wr => ∃ (hv : Value) (i : Nat) (hs : List Value) (row : List E) (n : Nat) (nw : Int), i ≤ 30 ∧ hv = vh ∧ vi = .int .i64 i ∧ KI w wr Q H i hv hs row n nw) (fun _ vi _ => 30 - (intOf vi).toNat)
  case atStart => exact ⟨_, 0, _, _, _, _, by omega, rfl, rfl, HI0.out⟩
  case round =>
    clear HI0
    obtain ⟨hv, i, hs, row, n, nw, hi, rfl, rfl, hK⟩ := hrel
    have HKI := hid hK
    clear hK
    by_cases hlt : i < N
    · by_cases hlt30 : i < 30
      · obtain ⟨P, o, rfl, hP, hc⟩ := HP.out (by omega)
        obtain ⟨e0, e1, e2, e3, e4⟩ := hc i hlt
        have x1 := (HKI.out.ap.cell (p := ⟨P, o + i * 5 + 1, none⟩) hP (by simp)).trans e1
        have x2 := (HKI.out.ap.cell (p := ⟨P, o + i * 5 + 2, none⟩) hP (by simp)).trans e2
        have x3 := (HKI.out.ap.cell (p := ⟨P, o + i * 5 + 3, none⟩) hP (by simp)).trans e3
        have x4 := (HKI.out.ap.cell (p := ⟨P, o + i * 5 + 4, none⟩) hP (by simp)).trans e4
        have HNN : Hid (n < 3000000) := by have := HKI.out.hni; unfold Hid; omega
        have r2 : ∀ X, Apart [] w X → X.cell? ⟨P, o + i * 5 + 2, none⟩ = some (.int .i64 (f i).a) := fun X a => (a.cell (p := ⟨P, o + i * 5 + 2, none⟩) hP (by simp)).trans e2
        have r3 : ∀ X, Apart [] w X → X.cell? ⟨P, o + i * 5 + 3, none⟩ = some (.int .i64 (f i).b) := fun X a => (a.cell (p := ⟨P, o + i * 5 + 3, none⟩) hP (by simp)).trans e3
        have r4 : ∀ X, Apart [] w X → X.cell? ⟨P, o + i * 5 + 4, none⟩ = some (.int .i64 (f i).c) := fun X a => (a.cell (p := ⟨P, o + i * 5 + 4, none⟩) hP (by simp)).trans e4
        clear hc e0 e1 e2 e3 e4
        go_upto_block 2 with fail
        go_cut [] from 24 to 75 (fun wx => ∃ row n nw, KS w wr wx Q H i hv hs row n nw)
        case first =>
          by_cases k1 : (f i).kind = 1
          · rw [k1]
            have aD : Apart [] wr wr.drew := (Apart.refl _ _).drewN 1
            have aWD : Apart [] w wr.drew := HKI.out.ap.trans aD
            go_wp2_with fail
            clear x1 x2 x3 x4
            refine wp_region_held_drew (S := fun X => Apart [] w X) (by kernel_rfl) aWD (fun hHeld => ?_)
            refine wpAnyH_take (i := 0) (oi := ⟨some 41, _, _, _, _, _⟩) (v := (.pointer (some ⟨Q, 0, none⟩))) rfl (by kernel_rfl) (by kernel_rfl) (by kernel_rfl) (fun _ _ _ h => h) (Or.inl ⟨by rfl, ?_⟩) (by assumption) ?_
            · intro W hSW; go_simp
            simp only [Act.put, List.setIfInBounds_toArray, List.set_cons_zero, List.set_cons_succ]
            refine wpAnyH_take (i := 1) (oi := ⟨some 42, _, _, _, _, _⟩) (v := (.slice (some ⟨P, o, none⟩) N cap)) rfl (by kernel_rfl) (by kernel_rfl) (by kernel_rfl) (fun _ _ _ h => h) (Or.inl ⟨by rfl, ?_⟩) (by assumption) ?_
            · intro W hSW; go_simp
            simp only [Act.put, List.setIfInBounds_toArray, List.set_cons_zero, List.set_cons_succ]
            refine wpAnyH_take (i := 2) (oi := ⟨some 43, _, _, _, _, _⟩) (v := (.int .i64 (i : Nat))) rfl (by kernel_rfl) (by kernel_rfl) (by kernel_rfl) (fun _ _ _ h => h) (Or.inl ⟨by rfl, ?_⟩) (by assumption) ?_
            · intro W hSW; go_simp
            simp only [Act.put, List.setIfInBounds_toArray, List.set_cons_zero, List.set_cons_succ]
            refine wpAnyH_take (i := 3) (oi := ⟨some 44, _, _, _, _, _⟩) (v := (.pointer (some ⟨P, o + i * 5, none⟩))) rfl (by kernel_rfl) (by kernel_rfl) (by kernel_rfl) (fun _ _ _ h => h) (Or.inl ⟨by rfl, ?_⟩) (by assumption) ?_
            · intro W hSW; go_simp
            simp only [Act.put, List.setIfInBounds_toArray, List.set_cons_zero, List.set_cons_succ]
            refine wpAnyH_take (i := 4) (oi := ⟨some 45, _, _, _, _, _⟩) (v := (.pointer (some ⟨P, o + i * 5 + 2, none⟩))) rfl (by kernel_rfl) (by kernel_rfl) (by kernel_rfl) (fun _ _ _ h => h) (Or.inl ⟨by rfl, ?_⟩) (by assumption) ?_
            · intro W hSW; go_simp
            simp only [Act.put, List.setIfInBounds_toArray, List.set_cons_zero, List.set_cons_succ]
            refine wpAnyH_take (i := 5) (oi := ⟨some 46, _, _, _, _, _⟩) (v := (.int .i64 (f i).a)) rfl (by kernel_rfl) (by kernel_rfl) (by kernel_rfl) (fun _ _ _ h => h) (Or.inl ⟨by rfl, ?_⟩) (by assumption) ?_
            · intro W hSW; go_simp
            simp only [Act.put, List.setIfInBounds_toArray, List.set_cons_zero, List.set_cons_succ]
            refine wpAnyH_take (i := 6) (oi := ⟨some 47, _, _, _, _, _⟩) (v := (.slice (some ⟨P, o, none⟩) N cap)) rfl (by kernel_rfl) (by kernel_rfl) (by kernel_rfl) (fun _ _ _ h => h) (Or.inl ⟨by rfl, ?_⟩) (by assumption) ?_
            · intro W hSW; go_simp
            simp only [Act.put, List.setIfInBounds_toArray, List.set_cons_zero, List.set_cons_succ]
            refine wpAnyH_take (i := 7) (oi := ⟨some 48, _, _, _, _, _⟩) (v := (.int .i64 (i : Nat))) rfl (by kernel_rfl) (by kernel_rfl) (by kernel_rfl) (fun _ _ _ h => h) (Or.inl ⟨by rfl, ?_⟩) (by assumption) ?_
            · intro W hSW; go_simp
            simp only [Act.put, List.setIfInBounds_toArray, List.set_cons_zero, List.set_cons_succ]
            refine wpAnyH_take (i := 8) (oi := ⟨some 49, _, _, _, _, _⟩) (v := (.pointer (some ⟨P, o + i * 5, none⟩))) rfl (by kernel_rfl) (by kernel_rfl) (by kernel_rfl) (fun _ _ _ h => h) (Or.inl ⟨by rfl, ?_⟩) (by assumption) ?_
            · intro W hSW; go_simp
            simp only [Act.put, List.setIfInBounds_toArray, List.set_cons_zero, List.set_cons_succ]
            refine wpAnyH_take (i := 9) (oi := ⟨some 50, _, _, _, _, _⟩) (v := (.pointer (some ⟨P, o + i * 5 + 3, none⟩))) rfl (by kernel_rfl) (by kernel_rfl) (by kernel_rfl) (fun _ _ _ h => h) (Or.inl ⟨by rfl, ?_⟩) (by assumption) ?_
            · intro W hSW; go_simp
            simp only [Act.put, List.setIfInBounds_toArray, List.set_cons_zero, List.set_cons_succ]
            refine wpAnyH_take (i := 10) (oi := ⟨some 51, _, _, _, _, _⟩) (v := (.int .i64 (f i).b)) rfl (by kernel_rfl) (by kernel_rfl) (by kernel_rfl) (fun _ _ _ h => h) (Or.inl ⟨by rfl, ?_⟩) (by assumption) ?_
            · intro W hSW; go_simp
            simp only [Act.put, List.setIfInBounds_toArray, List.set_cons_zero, List.set_cons_succ]
            refine wpAnyH_take (i := 11) (oi := ⟨some 52, _, _, _, _, _⟩) (v := (.slice (some ⟨P, o, none⟩) N cap)) rfl (by kernel_rfl) (by kernel_rfl) (by kernel_rfl) (fun _ _ _ h => h) (Or.inl ⟨by rfl, ?_⟩) (by assumption) ?_
            · intro W hSW; go_simp
            simp only [Act.put, List.setIfInBounds_toArray, List.set_cons_zero, List.set_cons_succ]
            refine wpAnyH_take (i := 12) (oi := ⟨some 53, _, _, _, _, _⟩) (v := (.int .i64 (i : Nat))) rfl (by kernel_rfl) (by kernel_rfl) (by kernel_rfl) (fun _ _ _ h => h) (Or.inl ⟨by rfl, ?_⟩) (by assumption) ?_
            · intro W hSW; go_simp
            simp only [Act.put, List.setIfInBounds_toArray, List.set_cons_zero, List.set_cons_succ]
            refine wpAnyH_take (i := 13) (oi := ⟨some 54, _, _, _, _, _⟩) (v := (.pointer (some ⟨P, o + i * 5, none⟩))) rfl (by kernel_rfl) (by kernel_rfl) (by kernel_rfl) (fun _ _ _ h => h) (Or.inl ⟨by rfl, ?_⟩) (by assumption) ?_
            · intro W hSW; go_simp
            simp only [Act.put, List.setIfInBounds_toArray, List.set_cons_zero, List.set_cons_succ]
            refine wpAnyH_take (i := 14) (oi := ⟨some 55, _, _, _, _, _⟩) (v := (.pointer (some ⟨P, o + i * 5 + 4, none⟩))) rfl (by kernel_rfl) (by kernel_rfl) (by kernel_rfl) (fun _ _ _ h => h) (Or.inl ⟨by rfl, ?_⟩) (by assumption) ?_
            · intro W hSW; go_simp
            simp only [Act.put, List.setIfInBounds_toArray, List.set_cons_zero, List.set_cons_succ]
            refine wpAnyH_take (i := 15) (oi := ⟨some 56, _, _, _, _, _⟩) (v := (.int .i64 (f i).c)) rfl (by kernel_rfl) (by kernel_rfl) (by kernel_rfl) (fun _ _ _ h => h) (Or.inl ⟨by rfl, ?_⟩) (by assumption) ?_
            · intro W hSW; go_simp
            simp only [Act.put, List.setIfInBounds_toArray, List.set_cons_zero, List.set_cons_succ]
            refine wpAnyH_ready (rs := [16]) (by kernel_rfl) (by simp) ?_
            refine AllReadyH.cons rfl (fun KK hKK => ?_) AllReadyH.nil
            go_simp
            refine (arm_ok (HKI.out.qu.kept aD) (HKI.out.ap.trans aD) HNN.out HKI.out.rl (f i).a (f i).b (f i).c).mono ?_
            rintro r w6 ⟨⟨rfl, q6, a6, k6⟩⟩
            dsimp only
            have sw := (HKI.out.held.kept0 aD).keptQ (HKI.out.qu.kept aD) k6
            refine hKK.out _ _ (by assumption) (fun hHeld => ?_)
            clear hKK KK
            refine wpAnyH_done (by kernel_rfl) ?_ _
            have KSX : Hid (∃ row n nw, KS w wr w6 Q H i hv hs row n nw) := ⟨_, _, _, q6, a6, sw, by have := HKI.out.hni; omega, by rw [rowAdd_len]; have := HKI.out.rl; omega⟩
            clear q6 k6 sw
            go_wp2_with fail
            go_meet
            exact KSX.out
          · by_cases k2 : (f i).kind = 2
            · rw [k2]
              go_wp2_with fail
              refine (cancel_ok HKI.out.qu HKI.out.ap (f i).a).mono ?_
              rintro r w6 ⟨⟨hres, q6, a6, k6⟩⟩
              have sw := HKI.out.held.keptQ HKI.out.qu k6
              have KSX : Hid (∃ row n nw, KS w wr w6 Q H i hv hs row n nw) := ⟨_, _, _, q6, a6, sw, by have := HKI.out.hni; omega, Nat.le_trans (List.length_filter_le _ _) HKI.out.rl⟩
              clear q6 a6 k6 sw
              rcases hres with ⟨rfl, _⟩ | ⟨rfl, _⟩
              · dsimp only
                go_wp2_with fail
                go_meet
                exact KSX.out
              · dsimp only
                go_wp2_with fail
                go_meet
                exact KSX.out
            · by_cases k3 : (f i).kind = 3
              · rw [k3]
                by_cases hk : (f i).a < 0 ∨ (row.length : Int) ≤ (f i).a
                · have hF := fire_none HKI.out.qu (f i).a hk
                  clear hk
                  go_wp2_with fail
                  refine hF.mono ?_
                  rintro r w6 ⟨⟨rfl, a6⟩⟩
                  dsimp only
                  have KSX : Hid (∃ row n nw, KS w wr w6 Q H i hv hs row n nw) := ⟨_, _, _, HKI.out.qu.kept a6, HKI.out.ap.trans a6, HKI.out.held.kept0 a6, by have := HKI.out.hni; omega, HKI.out.rl⟩
                  clear hF a6
                  go_wp2_with fail
                  go_meet
                  exact KSX.out
                · obtain ⟨t, ht⟩ : ∃ t : Nat, (f i).a = t := ⟨(f i).a.toNat, by omega⟩
                  have hF := fire_some HKI.out.qu HKI.out.ap t (by omega)
                  rw [ht] at x2
                  clear hk ht
                  go_wp2_with fail
                  refine hF.mono ?_
                  rintro r w6 ⟨⟨rfl, q6, a6, k6⟩⟩
                  dsimp only
                  have KSX : Hid (∃ row n nw, KS w wr w6 Q H i hv hs row n nw) := ⟨_, _, _, q6, a6, HKI.out.held.keptQ HKI.out.qu k6, by have := HKI.out.hni; omega, Nat.le_trans (List.length_eraseIdx_le _ _) HKI.out.rl⟩
                  clear hF q6 a6 k6
                  go_wp2_with fail
                  go_meet
                  exact KSX.out
              · have KSX : Hid (∃ row n nw, KS w wr wr Q H i hv hs row n nw) := ⟨_, _, _, HKI.out.qu, HKI.out.ap, HKI.out.held, by have := HKI.out.hni; omega, HKI.out.rl⟩
                go_wp2_with fail
                go_meet
                exact KSX.out
        case rest =>
          obtain ⟨row2, n2, nw2, ks⟩ := hcut
          clear x1 x2 x3 x4 r2 r3 r4
          obtain ⟨M, hM⟩ : ∃ M, row2.length = M := ⟨_, rfl⟩
          have HM := hid hM
          have hM32 : M ≤ 32 := by have h1 := ks.rl; have h2 := ks.hni; omega
          have hL1 := list_ok ks.qu M hM
          have KSH := hid ks
          clear hM ks
          go_wp2_with fail
          refine hL1.mono ?_
          clear hL1
          rintro r w3 ⟨B1, rfl, ob1, hB1, a3⟩
          dsimp only
          obtain ⟨p6, c6, w4, hrun, o6, a4, h6⟩ := first_run w3 49 B1 M row2 HM.out ob1 (by omega)
          have HO6 := hid o6
          have H6 := hid h6
          have A34 := hid (a3.trans a4)
          clear ob1 o6 h6 hB1 a3 a4
          go_wp2_with (at_builtin; refine wpList_append3 rfl (.const (.slice none 0 0)) (.tmp 77) 49 rfl _ _ rfl rfl _ _ hrun ?_)
          clear hrun
          have hL2 := list_ok (KSH.out.qu.kept A34.out) M HM.out
          go_wp2_with fail
          refine hL2.mono ?_
          clear hL2
          rintro r w5 ⟨LB, rfl, ol5, hLB, a5⟩
          dsimp only
          have hL3 := list_ok (KSH.out.qu.kept (A34.out.trans a5)) M HM.out
          go_wp2_with fail
          refine hL3.mono ?_
          clear hL3
          rintro r w6 ⟨MB, rfl, om6, hMB, a6⟩
          dsimp only
          have hLM : LB ≠ MB := by have := (ol5.lt LB rfl).2; omega
          have A46 : Apart [] w4 w6 := a5.trans a6
          have OL6 := hid (own_apart ol5 a6 (by simp))
          have OM6 := hid om6
          have HLB0 : Hid (wc.heap.size ≤ LB ∧ wc.heap.size ≤ MB) := by have h1 := A34.out.size; have h2 := a5.size; exact ⟨by omega, by omega⟩
          have HLB4 : Hid (w4.heap.size ≤ LB ∧ w4.heap.size ≤ MB) := by have h2 := a5.size; exact ⟨by omega, by omega⟩
          clear ol5 om6 a5 a6 hLB hMB
          go_wp2_with fail
          obtain ⟨xc, hxc⟩ : ∃ xc, -1000 - 2 * (i : Int) = xc := ⟨_, rfl⟩
          obtain ⟨yc, hyc⟩ : ∃ yc, -1001 - 2 * (i : Int) = yc := ⟨_, rfl⟩
          rw [hxc, hyc]
          have HXC := hid hxc
          have HYC := hid hyc
          clear hxc hyc
          have aXY : Apart [] w6 ((w6.alloc (.cells #[.int .i64 0, .int .i64 0, .int .i64 0, .int .i64 xc] 46)).alloc (.cells #[.int .i64 0, .int .i64 0, .int .i64 0, .int .i64 yc] 46)) := ((Apart.refl _ _).alloc _).alloc _
          have bX : ((w6.alloc (.cells #[.int .i64 0, .int .i64 0, .int .i64 0, .int .i64 xc] 46)).alloc (.cells #[.int .i64 0, .int .i64 0, .int .i64 0, .int .i64 yc] 46)).heap[w6.heap.size]? = some (.cells #[.int .i64 0, .int .i64 0, .int .i64 0, .int .i64 xc] 46 (0, 0)) := by
            rw [Below.heap_alloc _ _ _ (by simp)]; exact heap_alloc_new w6 _
          have bY : ((w6.alloc (.cells #[.int .i64 0, .int .i64 0, .int .i64 0, .int .i64 xc] 46)).alloc (.cells #[.int .i64 0, .int .i64 0, .int .i64 0, .int .i64 yc] 46)).heap[w6.heap.size + 1]? = some (.cells #[.int .i64 0, .int .i64 0, .int .i64 0, .int .i64 yc] 46 (0, 0)) := by
            have := heap_alloc_new (w6.alloc (.cells #[.int .i64 0, .int .i64 0, .int .i64 0, .int .i64 xc] 46)) (.cells #[.int .i64 0, .int .i64 0, .int .i64 0, .int .i64 yc] 46)
            simpa using this
          obtain ⟨W7, hW7⟩ : ∃ W7, (w6.alloc (.cells #[.int .i64 0, .int .i64 0, .int .i64 0, .int .i64 xc] 46)).alloc (.cells #[.int .i64 0, .int .i64 0, .int .i64 0, .int .i64 yc] 46) = W7 := ⟨_, rfl⟩
          rw [hW7] at aXY bX bY ⊢
          clear hW7
          have hLs := (OL6.out.lt LB rfl).2
          have hMs := (OM6.out.lt MB rfl).2
          obtain ⟨XB, hXB⟩ : ∃ XB, w6.heap.size = XB := ⟨_, rfl⟩
          rw [hXB] at bX bY hLs hMs ⊢
          have fk0 : Hid (FillK W7 W7 LB MB M 0 xc yc row2) := FillK.start (own_apart OL6.out aXY (by simp)) (own_apart OM6.out aXY (by simp))
          have A47 := hid (A46.trans aXY)
          have BX := hid bX
          have BY := hid bY
          clear hXB aXY bX bY A46
          go_loopw [11] (fun v wq => ∃ k : Nat, v = .int .i64 k ∧ FillK W7 wq LB MB M k xc yc row2) (fun v _ => M - (intOf v).toNat)
          case atStart => exact ⟨0, rfl, fk0.out⟩
          case round =>
            clear fk0
            obtain ⟨k, rfl, hF⟩ := hrel
            have HF := hid hF
            have hkM := hF.hk
            have bX7 := (hF.ap.block XB (lt_of_heap BX.out) (by simp; omega)).trans BX.out
            have bY7 := (hF.ap.block (XB + 1) (lt_of_heap BY.out) (by simp; omega)).trans BY.out
            clear hF
            by_cases hkl : k < M
            · obtain ⟨l0, l1, l2, l3⟩ := own4_get HF.out.ol (by rw [part_len _ _ _ (by rw [HM.out]; exact hkM)]; exact HM.out) rfl k hkl
              obtain ⟨m0, m1, m2, m3⟩ := own4_get HF.out.om (by rw [part_len _ _ _ (by rw [HM.out]; exact hkM)]; exact HM.out) rfl k hkl
              have fl0 := HF.out.ol.frozenAt (k * 4)
              have fl1 := HF.out.ol.frozenAt (k * 4 + 1)
              have fl2 := HF.out.ol.frozenAt (k * 4 + 2)
              have fl3 := HF.out.ol.frozenAt (k * 4 + 3)
              have fm0 := HF.out.om.frozenAt (k * 4)
              have fm1 := HF.out.om.frozenAt (k * 4 + 1)
              have fm2 := HF.out.om.frozenAt (k * 4 + 2)
              have fm3 := HF.out.om.frozenAt (k * 4 + 3)
              have z0 : wr.cell? ⟨XB, 0, none⟩ = some (.int .i64 0) := by rw [cell_of_row _ _ _ _ _ _ bX7]; rfl
              have z1 : wr.cell? ⟨XB, 1, none⟩ = some (.int .i64 0) := by rw [cell_of_row _ _ _ _ _ _ bX7]; rfl
              have z2 : wr.cell? ⟨XB, 2, none⟩ = some (.int .i64 0) := by rw [cell_of_row _ _ _ _ _ _ bX7]; rfl
              have z3 : wr.cell? ⟨XB, 3, none⟩ = some (.int .i64 xc) := by rw [cell_of_row _ _ _ _ _ _ bX7]; rfl
              have y0 : wr.cell? ⟨XB + 1, 0, none⟩ = some (.int .i64 0) := by rw [cell_of_row _ _ _ _ _ _ bY7]; rfl
              have y1 : wr.cell? ⟨XB + 1, 1, none⟩ = some (.int .i64 0) := by rw [cell_of_row _ _ _ _ _ _ bY7]; rfl
              have y2 : wr.cell? ⟨XB + 1, 2, none⟩ = some (.int .i64 0) := by rw [cell_of_row _ _ _ _ _ _ bY7]; rfl
              have y3 : wr.cell? ⟨XB + 1, 3, none⟩ = some (.int .i64 yc) := by rw [cell_of_row _ _ _ _ _ _ bY7]; rfl
              have inv2 := HF.out.step HM.out hkl hLM
              simp only [put4] at inv2
              have HI2 := hid inv2
              have n1 : LB ≠ XB := by omega
              have n2 : LB ≠ XB + 1 := by omega
              have n3 : MB ≠ XB := by omega
              have n4 : MB ≠ XB + 1 := by omega
              have n5 : XB ≠ LB := by omega
              have n6 : XB + 1 ≠ LB := by omega
              have n7 : MB ≠ LB := fun e => hLM e.symm
              have hkM' : k < M := hkl
              clear inv2 bX7 bY7
              go_wp2
              go_roundw
              case rel => exact ⟨k + 1, by go_num, HI2.out⟩
              case measure => simp [intOf]; omega
            · have hkM2 : M = k := by omega
              subst hkM2
              have ACV : Apart [] wc wr := (A34.out.trans A47.out).trans' HF.out.ap (by intro y hy; have h1 := HLB0.out; simp at hy; right; omega)
              have ol8 := HF.out.ol
              have om8 := HF.out.om
              have ep : ∀ e, part M e row2 = alk M e := fun e => by have := part_all e row2; rwa [HM.out] at this
              rw [ep] at ol8 om8
              have hE8 := KSH.out.held.kept0 ACV
              have HQ8 := hid (KSH.out.qu.kept ACV)
              have hsl := HKI.out.hl
              have HSL : Hid (hs.length ≤ 3000000) := by unfold Hid; omega
              have HN3 : Hid (M ≤ 1000) := by unfold Hid; omega
              have A78 : Apart [] w4 wr := A47.out.trans' HF.out.ap (by intro y hy; have h1 := HLB4.out; simp at hy; right; omega)
              have HO68 := hid (own_apart HO6.out A78 (by simp))
              have bX8 := (HF.out.ap.block XB (lt_of_heap BX.out) (by simp; omega)).trans BX.out
              have bY8 := (HF.out.ap.block (XB + 1) (lt_of_heap BY.out) (by simp; omega)).trans BY.out
              have BY8 := hid bY8
              have HE8 := hid hE8
              have HOM8 := hid om8
              have hV : Hid (Apart [] wc wr) := ACV
              have ownV := hE8.own
              have HOV := hid ownV
              have rz : ∀ X, Apart hv.ownBlock.toList wr X → X.heap[XB]? = some (.cells #[.int .i64 0, .int .i64 0, .int .i64 0, .int .i64 xc] 46 (0, 0)) := fun X a => cell_ofHold ownV a bX8
              have r0 : ∀ X, Apart hv.ownBlock.toList wr X → X.cell? ⟨XB, 0, none⟩ = some (.int .i64 0) := fun X a => by rw [cell_of_row _ _ _ _ _ _ (rz X a)]; rfl
              have r1 : ∀ X, Apart hv.ownBlock.toList wr X → X.cell? ⟨XB, 1, none⟩ = some (.int .i64 0) := fun X a => by rw [cell_of_row _ _ _ _ _ _ (rz X a)]; rfl
              have r2 : ∀ X, Apart hv.ownBlock.toList wr X → X.cell? ⟨XB, 2, none⟩ = some (.int .i64 0) := fun X a => by rw [cell_of_row _ _ _ _ _ _ (rz X a)]; rfl
              have r3 : ∀ X, Apart hv.ownBlock.toList wr X → X.cell? ⟨XB, 3, none⟩ = some (.int .i64 xc) := fun X a => by rw [cell_of_row _ _ _ _ _ _ (rz X a)]; rfl
              have aS0 : Apart hv.ownBlock.toList wr wr.drew := (Apart.refl _ _).drewN 1
              have aD0 : Apart [] wr wr.drew := (Apart.refl _ _).drewN 1
              have HOL := hid (own_apart ol8 aD0 (by simp))
              have HOH := hid (own_apart ownV aD0 (by simp))
              have HFL : Hid (Fl wr.drew (.slice (some ⟨LB, 0, none⟩) M M) (mkE xc)) := ⟨M, LB, M, rfl, HOL.out, by omega⟩
              clear hE8 om8 bX8 bY8 ownV rz ol8 ep A78 ACV BX BY HO6 HF aD0 bX7 bY7 hkl
              go_upto_region 27 with fail
              go_cut [4] from 24 to 135 (fun s wx => ∃ hv1 v1 v2 v3, hv1 = s ∧ HoldP wr wx hv hv1 hs (.slice (some ⟨LB, 0, none⟩) M M) v1 v2 v3 (mkE xc))
              case first =>
                clear KSH HKI HQ8 HE8 HOM8 HO68 BY8 HOV HXC HYC H6 A34 A47 HLB0 HLB4 OL6 OM6
                refine wp_region_held_drew (S := fun X => Apart hv.ownBlock.toList wr X) (by kernel_rfl) aS0 (fun hHeld => ?_)
                generalize wr.drew = W0 at *
                refine wpAnyH_take (i := 0) (oi := ⟨some 117, _, _, _, _, _⟩) (v := hv) rfl (by kernel_rfl) (by kernel_rfl) (by kernel_rfl) (fun _ _ _ h => h) (Or.inl ⟨by rfl, ?_⟩) (by assumption) ?_
                · intro W hSW; go_simp
                simp only [Act.put, List.setIfInBounds_toArray, List.set_cons_zero, List.set_cons_succ]
                refine wpAnyH_take (i := 1) (oi := ⟨some 118, _, _, _, _, _⟩) (v := (.slice (some ⟨LB, 0, none⟩) M M)) rfl (by kernel_rfl) (by kernel_rfl) (by kernel_rfl) (fun _ _ _ h => h) (Or.inl ⟨by rfl, ?_⟩) (by assumption) ?_
                · intro W hSW; go_simp
                simp only [Act.put, List.setIfInBounds_toArray, List.set_cons_zero, List.set_cons_succ]
                refine wpAnyH_take (i := 2) (oi := ⟨some 119, _, _, _, _, _⟩) (v := (.slice (some ⟨LB, 0, none⟩) M M)) rfl (by kernel_rfl) (by kernel_rfl) (by kernel_rfl) (fun _ _ _ h => h) (Or.inl ⟨by rfl, ?_⟩) (by assumption) ?_
                · intro W hSW; go_simp
                simp only [Act.put, List.setIfInBounds_toArray, List.set_cons_zero, List.set_cons_succ]
                refine wpAnyH_take (i := 3) (oi := ⟨some 120, _, _, _, _, _⟩) (v := (.agg #[.int .i64 0, .int .i64 0, .int .i64 0, .int .i64 xc])) rfl (by kernel_rfl) (by kernel_rfl) (by kernel_rfl) (fun _ _ _ h => h) (Or.inl ⟨by rfl, ?_⟩) (by assumption) ?_
                · intro W hSW; go_simp
                simp only [Act.put, List.setIfInBounds_toArray, List.set_cons_zero, List.set_cons_succ]
                refine wpAnyH_take (i := 6) (oi := ⟨some 123, _, _, _, _, _⟩) (v := (.slice (some ⟨LB, 0, none⟩) M M)) rfl (by kernel_rfl) (by kernel_rfl) (by kernel_rfl) (fun _ _ _ h => h) (Or.inl ⟨by rfl, ?_⟩) (by assumption) ?_
                · intro W hSW; go_simp
                simp only [Act.put, List.setIfInBounds_toArray, List.set_cons_zero, List.set_cons_succ]
                refine wpAnyH_take (i := 7) (oi := ⟨some 124, _, _, _, _, _⟩) (v := (.agg #[.int .i64 0, .int .i64 0, .int .i64 0, .int .i64 xc])) rfl (by kernel_rfl) (by kernel_rfl) (by kernel_rfl) (fun _ _ _ h => h) (Or.inl ⟨by rfl, ?_⟩) (by assumption) ?_
                · intro W hSW; go_simp
                simp only [Act.put, List.setIfInBounds_toArray, List.set_cons_zero, List.set_cons_succ]
                refine wpAnyH_take (i := 8) (oi := ⟨some 125, _, _, _, _, _⟩) (v := (.agg #[.int .i64 0, .int .i64 0, .int .i64 0, .int .i64 xc])) rfl (by kernel_rfl) (by kernel_rfl) (by kernel_rfl) (fun _ _ _ h => h) (Or.inl ⟨by rfl, ?_⟩) (by assumption) ?_
                · intro W hSW; go_simp
                simp only [Act.put, List.setIfInBounds_toArray, List.set_cons_zero, List.set_cons_succ]
                refine wpAnyH_take (i := 11) (oi := ⟨some 128, _, _, _, _, _⟩) (v := (.slice (some ⟨LB, 0, none⟩) M M)) rfl (by kernel_rfl) (by kernel_rfl) (by kernel_rfl) (fun _ _ _ h => h) (Or.inl ⟨by rfl, ?_⟩) (by assumption) ?_
                · intro W hSW; go_simp
                simp only [Act.put, List.setIfInBounds_toArray, List.set_cons_zero, List.set_cons_succ]
                refine wpAnyH_take (i := 12) (oi := ⟨some 129, _, _, _, _, _⟩) (v := (.agg #[.int .i64 0, .int .i64 0, .int .i64 0, .int .i64 xc])) rfl (by kernel_rfl) (by kernel_rfl) (by kernel_rfl) (fun _ _ _ h => h) (Or.inl ⟨by rfl, ?_⟩) (by assumption) ?_
                · intro W hSW; go_simp
                simp only [Act.put, List.setIfInBounds_toArray, List.set_cons_zero, List.set_cons_succ]
                refine wpAnyH_take (i := 13) (oi := ⟨some 130, _, _, _, _, _⟩) (v := (.agg #[.int .i64 0, .int .i64 0, .int .i64 0, .int .i64 xc])) rfl (by kernel_rfl) (by kernel_rfl) (by kernel_rfl) (fun _ _ _ h => h) (Or.inl ⟨by rfl, ?_⟩) (by assumption) ?_
                · intro W hSW; go_simp
                simp only [Act.put, List.setIfInBounds_toArray, List.set_cons_zero, List.set_cons_succ]
                refine wpAnyH_take (i := 14) (oi := ⟨some 131, _, _, _, _, _⟩) (v := (.agg #[.int .i64 0, .int .i64 0, .int .i64 0, .int .i64 xc])) rfl (by kernel_rfl) (by kernel_rfl) (by kernel_rfl) (fun _ _ _ h => h) (Or.inl ⟨by rfl, ?_⟩) (by assumption) ?_
                · intro W hSW; go_simp
                simp only [Act.put, List.setIfInBounds_toArray, List.set_cons_zero, List.set_cons_succ]
                refine chains_start (b := 117) (LB := LB) (M := M) (xc := xc) (hs := hs) (hv := hv) (V := wr) (W0 := W0) (fuel := 1) ?hc117 ?ev117 ?hr117 ?h18117 aS0 HOL.out HOH.out HFL.out HSL.out HN3.out _ ?hl117 ?fin117
                case hc117 => exact ⟨⟨_, rfl, rfl, rfl, rfl⟩, ⟨_, rfl, rfl, rfl, rfl⟩, ⟨_, rfl, rfl, rfl, rfl⟩, ⟨_, rfl, rfl, rfl, rfl⟩, ⟨_, rfl, rfl, rfl, rfl⟩, ⟨_, rfl, rfl, rfl, rfl⟩, ⟨_, rfl, rfl, rfl, rfl⟩, ⟨_, rfl, rfl, rfl, rfl⟩⟩
                case ev117 => exact ⟨by simp, rfl, rfl, rfl, rfl, rfl, rfl, rfl, rfl, rfl, rfl, rfl⟩
                case hr117 => decide +kernel
                case h18117 => kernel_rfl
                case hl117 => kernel_rfl
                intro fz W' v1 v2 v3 fin
                simp only [Act.put, List.setIfInBounds_toArray, List.set_cons_zero, List.set_cons_succ, Nat.reduceAdd] at fin ⊢
                have hHeld2 := fin.ap
                refine wpAnyH_take (i := 19) (oi := ⟨some 4, _, _, _, _, _⟩) (v := (fz 135)) rfl (by kernel_rfl) (by kernel_rfl) (by kernel_rfl) (fun _ _ _ h => h) (Or.inl ⟨by rfl, ?_⟩) (by assumption) ?_
                · intro W hSW; go_simp
                simp only [Act.put, List.setIfInBounds_toArray, List.set_cons_zero, List.set_cons_succ]
                refine wpAnyH_done (by kernel_rfl) ?_ _
                go_wp2_with fail
                go_meet
                exact ⟨_, _, _, _, rfl, fin⟩
              case rest =>
                obtain ⟨hv1, v1, v2, v3, rfl, hp1⟩ := hcut
                have own1 := hp1.own
                obtain ⟨hs1, hhs1⟩ : ∃ hs1, hs ++ [.slice (some ⟨LB, 0, none⟩) M M, v1, v2, v3] = hs1 := ⟨_, rfl⟩
                rw [hhs1] at own1
                have om9 := own_ofHold HOM8.out HOV.out hp1.ap
                have o69 := own_ofHold HO68.out HOV.out hp1.ap
                have bY9 := cell_ofHold HOV.out hp1.ap BY8.out
                have HQ9 := hid (HQ8.out.ofHold HOV.out hp1.ap)
                have hsl1 : hs1.length = 8 * i + 4 := by rw [← hhs1]; simp; exact hsl
                have HSL1 : Hid (hs1.length ≤ 3000000) := by unfold Hid; omega
                have rz : ∀ X, Apart hv1.ownBlock.toList wc X → X.heap[XB + 1]? = some (.cells #[.int .i64 0, .int .i64 0, .int .i64 0, .int .i64 yc] 46 (0, 0)) := fun X a => cell_ofHold own1 a bY9
                have q0 : ∀ X, Apart hv1.ownBlock.toList wc X → X.cell? ⟨XB + 1, 0, none⟩ = some (.int .i64 0) := fun X a => by rw [cell_of_row _ _ _ _ _ _ (rz X a)]; rfl
                have q1 : ∀ X, Apart hv1.ownBlock.toList wc X → X.cell? ⟨XB + 1, 1, none⟩ = some (.int .i64 0) := fun X a => by rw [cell_of_row _ _ _ _ _ _ (rz X a)]; rfl
                have q2 : ∀ X, Apart hv1.ownBlock.toList wc X → X.cell? ⟨XB + 1, 2, none⟩ = some (.int .i64 0) := fun X a => by rw [cell_of_row _ _ _ _ _ _ (rz X a)]; rfl
                have q3 : ∀ X, Apart hv1.ownBlock.toList wc X → X.cell? ⟨XB + 1, 3, none⟩ = some (.int .i64 yc) := fun X a => by rw [cell_of_row _ _ _ _ _ _ (rz X a)]; rfl
                replace aS0 : Apart hv1.ownBlock.toList wc wc.drew := (Apart.refl _ _).drewN 1
                have aD0 : Apart [] wc wc.drew := (Apart.refl _ _).drewN 1
                replace HOL := hid (own_apart om9 aD0 (by simp))
                replace HOH := hid (own_apart own1 aD0 (by simp))
                replace HFL : Hid (Fl wc.drew (.slice (some ⟨MB, 0, none⟩) M M) (mkE yc)) := ⟨M, MB, M, rfl, HOL.out, by omega⟩
                have HP1 := hid hp1
                have HOWN1 := hid own1
                have HO69 := hid o69
                have HHS1 := hid hhs1
                have HSL9 := hid hsl1
                clear hp1 own1 om9 o69 bY9 rz aD0 hhs1 HOM8 HO68 BY8 HQ8 r0 r1 r2 r3 hsl1
                go_upto_region 28 with fail
                go_cut [4] from 24 to 154 (fun s wx => ∃ hv2 u1 u2 u3, hv2 = s ∧ HoldP wc wx hv1 hv2 hs1 (.slice (some ⟨MB, 0, none⟩) M M) u1 u2 u3 (mkE yc))
                case first =>
                  clear KSH HKI HQ9 HE8 HO69 HOV HXC HYC H6 A34 A47 HLB0 HLB4 OL6 OM6 HP1 HOWN1 HHS1 HSL
                  refine wp_region_held_drew (S := fun X => Apart hv1.ownBlock.toList wc X) (by kernel_rfl) aS0 (fun hHeld => ?_)
                  generalize wc.drew = W0 at *
                  refine wpAnyH_take (i := 0) (oi := ⟨some 136, _, _, _, _, _⟩) (v := hv1) rfl (by kernel_rfl) (by kernel_rfl) (by kernel_rfl) (fun _ _ _ h => h) (Or.inl ⟨by rfl, ?_⟩) (by assumption) ?_
                  · intro W hSW; go_simp
                  simp only [Act.put, List.setIfInBounds_toArray, List.set_cons_zero, List.set_cons_succ]
                  refine wpAnyH_take (i := 1) (oi := ⟨some 137, _, _, _, _, _⟩) (v := (.slice (some ⟨MB, 0, none⟩) M M)) rfl (by kernel_rfl) (by kernel_rfl) (by kernel_rfl) (fun _ _ _ h => h) (Or.inl ⟨by rfl, ?_⟩) (by assumption) ?_
                  · intro W hSW; go_simp
                  simp only [Act.put, List.setIfInBounds_toArray, List.set_cons_zero, List.set_cons_succ]
                  refine wpAnyH_take (i := 2) (oi := ⟨some 138, _, _, _, _, _⟩) (v := (.slice (some ⟨MB, 0, none⟩) M M)) rfl (by kernel_rfl) (by kernel_rfl) (by kernel_rfl) (fun _ _ _ h => h) (Or.inl ⟨by rfl, ?_⟩) (by assumption) ?_
                  · intro W hSW; go_simp
                  simp only [Act.put, List.setIfInBounds_toArray, List.set_cons_zero, List.set_cons_succ]
                  refine wpAnyH_take (i := 3) (oi := ⟨some 139, _, _, _, _, _⟩) (v := (.agg #[.int .i64 0, .int .i64 0, .int .i64 0, .int .i64 yc])) rfl (by kernel_rfl) (by kernel_rfl) (by kernel_rfl) (fun _ _ _ h => h) (Or.inl ⟨by rfl, ?_⟩) (by assumption) ?_
                  · intro W hSW; go_simp
                  simp only [Act.put, List.setIfInBounds_toArray, List.set_cons_zero, List.set_cons_succ]
                  refine wpAnyH_take (i := 6) (oi := ⟨some 142, _, _, _, _, _⟩) (v := (.slice (some ⟨MB, 0, none⟩) M M)) rfl (by kernel_rfl) (by kernel_rfl) (by kernel_rfl) (fun _ _ _ h => h) (Or.inl ⟨by rfl, ?_⟩) (by assumption) ?_
                  · intro W hSW; go_simp
                  simp only [Act.put, List.setIfInBounds_toArray, List.set_cons_zero, List.set_cons_succ]
                  refine wpAnyH_take (i := 7) (oi := ⟨some 143, _, _, _, _, _⟩) (v := (.agg #[.int .i64 0, .int .i64 0, .int .i64 0, .int .i64 yc])) rfl (by kernel_rfl) (by kernel_rfl) (by kernel_rfl) (fun _ _ _ h => h) (Or.inl ⟨by rfl, ?_⟩) (by assumption) ?_
                  · intro W hSW; go_simp
                  simp only [Act.put, List.setIfInBounds_toArray, List.set_cons_zero, List.set_cons_succ]
                  refine wpAnyH_take (i := 8) (oi := ⟨some 144, _, _, _, _, _⟩) (v := (.agg #[.int .i64 0, .int .i64 0, .int .i64 0, .int .i64 yc])) rfl (by kernel_rfl) (by kernel_rfl) (by kernel_rfl) (fun _ _ _ h => h) (Or.inl ⟨by rfl, ?_⟩) (by assumption) ?_
                  · intro W hSW; go_simp
                  simp only [Act.put, List.setIfInBounds_toArray, List.set_cons_zero, List.set_cons_succ]
                  refine wpAnyH_take (i := 11) (oi := ⟨some 147, _, _, _, _, _⟩) (v := (.slice (some ⟨MB, 0, none⟩) M M)) rfl (by kernel_rfl) (by kernel_rfl) (by kernel_rfl) (fun _ _ _ h => h) (Or.inl ⟨by rfl, ?_⟩) (by assumption) ?_
                  · intro W hSW; go_simp
                  simp only [Act.put, List.setIfInBounds_toArray, List.set_cons_zero, List.set_cons_succ]
                  refine wpAnyH_take (i := 12) (oi := ⟨some 148, _, _, _, _, _⟩) (v := (.agg #[.int .i64 0, .int .i64 0, .int .i64 0, .int .i64 yc])) rfl (by kernel_rfl) (by kernel_rfl) (by kernel_rfl) (fun _ _ _ h => h) (Or.inl ⟨by rfl, ?_⟩) (by assumption) ?_
                  · intro W hSW; go_simp
                  simp only [Act.put, List.setIfInBounds_toArray, List.set_cons_zero, List.set_cons_succ]
                  refine wpAnyH_take (i := 13) (oi := ⟨some 149, _, _, _, _, _⟩) (v := (.agg #[.int .i64 0, .int .i64 0, .int .i64 0, .int .i64 yc])) rfl (by kernel_rfl) (by kernel_rfl) (by kernel_rfl) (fun _ _ _ h => h) (Or.inl ⟨by rfl, ?_⟩) (by assumption) ?_
                  · intro W hSW; go_simp
                  simp only [Act.put, List.setIfInBounds_toArray, List.set_cons_zero, List.set_cons_succ]
                  refine wpAnyH_take (i := 14) (oi := ⟨some 150, _, _, _, _, _⟩) (v := (.agg #[.int .i64 0, .int .i64 0, .int .i64 0, .int .i64 yc])) rfl (by kernel_rfl) (by kernel_rfl) (by kernel_rfl) (fun _ _ _ h => h) (Or.inl ⟨by rfl, ?_⟩) (by assumption) ?_
                  · intro W hSW; go_simp
                  simp only [Act.put, List.setIfInBounds_toArray, List.set_cons_zero, List.set_cons_succ]
                  refine chains_start (b := 136) (LB := MB) (M := M) (xc := yc) (hs := hs1) (hv := hv1) (V := wc) (W0 := W0) (fuel := 1) ?hc136 ?ev136 ?hr136 ?h18136 aS0 HOL.out HOH.out HFL.out HSL1.out HN3.out _ ?hl136 ?fin136
                  case hc136 => exact ⟨⟨_, rfl, rfl, rfl, rfl⟩, ⟨_, rfl, rfl, rfl, rfl⟩, ⟨_, rfl, rfl, rfl, rfl⟩, ⟨_, rfl, rfl, rfl, rfl⟩, ⟨_, rfl, rfl, rfl, rfl⟩, ⟨_, rfl, rfl, rfl, rfl⟩, ⟨_, rfl, rfl, rfl, rfl⟩, ⟨_, rfl, rfl, rfl, rfl⟩⟩
                  case ev136 => exact ⟨by simp, rfl, rfl, rfl, rfl, rfl, rfl, rfl, rfl, rfl, rfl, rfl⟩
                  case hr136 => decide +kernel
                  case h18136 => kernel_rfl
                  case hl136 => kernel_rfl
                  intro fz W' v1 v2 v3 fin
                  simp only [Act.put, List.setIfInBounds_toArray, List.set_cons_zero, List.set_cons_succ, Nat.reduceAdd] at fin ⊢
                  have hHeld2 := fin.ap
                  refine wpAnyH_take (i := 19) (oi := ⟨some 4, _, _, _, _, _⟩) (v := (fz 154)) rfl (by kernel_rfl) (by kernel_rfl) (by kernel_rfl) (fun _ _ _ h => h) (Or.inl ⟨by rfl, ?_⟩) (by assumption) ?_
                  · intro W hSW; go_simp
                  simp only [Act.put, List.setIfInBounds_toArray, List.set_cons_zero, List.set_cons_succ]
                  refine wpAnyH_done (by kernel_rfl) ?_ _
                  go_wp2_with fail
                  go_meet
                  exact ⟨_, _, _, _, rfl, fin⟩
                case rest =>
                  obtain ⟨hv2, u1, u2, u3, rfl, hp2⟩ := hcut
                  have hp1' := HP1.out
                  rw [← HXC.out] at hp1'
                  have hp2' := hp2
                  rw [← HYC.out, ← HHS1.out] at hp2'
                  have hE := held_more HE8.out hsl hp1' hp2'
                  have hqu := HQ9.out.ofHold HOWN1.out hp2.ap
                  have o6F := own_ofHold HO69.out HOWN1.out hp2.ap
                  have aww : Apart [] w wr := KSH.out.ap.trans hV.out
                  have hb1 : ∀ k, hv1.ownBlock = some k → w.heap.size ≤ k := fun k hk => by
                    rcases HP1.out.nw k hk with h | h
                    · exact HKI.out.hv0 k h
                    · have := aww.size; omega
                  have aw1 := aww.trans' HP1.out.ap (fun y hy => .inr (HKI.out.hv0 y (by simpa using hy)))
                  have aw2 := aw1.trans' hp2.ap (fun y hy => .inr (hb1 y (by simpa using hy)))
                  have hb2 : ∀ k, hv2.ownBlock = some k → w.heap.size ≤ k := fun k hk => by
                    rcases hp2.nw k hk with h | h
                    · exact hb1 k h
                    · have := aw1.size; omega
                  obtain ⟨hs2, hhs2⟩ : ∃ hs2, (hs ++ [.slice (some ⟨LB, 0, none⟩) M M, v1, v2, v3]) ++ [.slice (some ⟨MB, 0, none⟩) M M, u1, u2, u3] = hs2 := ⟨_, rfl⟩
                  rw [hhs2] at hE
                  have hl2 : hs2.length = 8 * (i + 1) := by rw [← hhs2]; simp; omega
                  have HEF := hid hE
                  have HQF := hid hqu
                  have HOF := hid o6F
                  have HAF := hid aw2
                  have HBF := hid hb2
                  have HLF := hid hl2
                  have hLi := list_ok hqu M HM.out
                  clear hp1' hp2' hE hqu o6F aww hb1 aw1 aw2 hb2 hhs2 hp2 HP1 HOWN1 HHS1 HQ9 HO69 HOL HOH HFL aS0 q0 q1 q2 q3 HE8 HOV hV
                  go_wp2_with fail
                  refine hLi.mono ?_
                  clear hLi
                  rintro r w9 ⟨B2, rfl, ob9, hB9, a9⟩
                  dsimp only
                  have HOB9 := hid ob9
                  have HO69 := hid (own_apart HOF.out a9 (by simp))
                  have HA9 := hid a9
                  clear ob9 a9 hB9
                  go_wp2_with fail
                  go_loopw [13] (fun v wq => ∃ k : Nat, k ≤ M ∧ v = .int .i64 k ∧ Apart [] w9 wq) (fun v _ => M - (intOf v).toNat)
                  case atStart => exact ⟨0, Nat.zero_le _, rfl, Apart.refl _ _⟩
                  case round =>
                    obtain ⟨k, hkM, rfl, aq⟩ := hrel
                    by_cases hkl : k < M
                    · obtain ⟨b6, hb6⟩ := H6.out (by omega)
                      subst hb6
                      have hN4 : ∀ X, Apart [] w9 X → X.cell? ⟨B2, k * 4, none⟩ = some (.int .i64 (g row2 k).r) ∧ X.cell? ⟨B2, k * 4 + 1, none⟩ = some (.int .i64 (g row2 k).m) ∧ X.cell? ⟨B2, k * 4 + 2, none⟩ = some (.int .i64 (g row2 k).k) ∧ X.cell? ⟨B2, k * 4 + 3, none⟩ = some (.int .i64 (g row2 k).c) := fun X a => own4_get (own_apart HOB9.out a (by simp)) HM.out rfl k hkl
                      have hF4 : ∀ X, Apart [] w9 X → X.cell? ⟨b6, k * 4, none⟩ = some (.int .i64 (g row2 k).r) ∧ X.cell? ⟨b6, k * 4 + 1, none⟩ = some (.int .i64 (g row2 k).m) ∧ X.cell? ⟨b6, k * 4 + 2, none⟩ = some (.int .i64 (g row2 k).k) ∧ X.cell? ⟨b6, k * 4 + 3, none⟩ = some (.int .i64 (g row2 k).c) := fun X a => own4_get (own_apart HO69.out a (by simp)) HM.out rfl k hkl
                      obtain ⟨e, He⟩ : ∃ e, Hid (g row2 k = e) := ⟨_, rfl⟩
                      rw [He.out] at hN4 hF4
                      have n0 := fun X a => (hN4 X a).1
                      have n1 := fun X a => (hN4 X a).2.1
                      have n2' := fun X a => (hN4 X a).2.2.1
                      have n3 := fun X a => (hN4 X a).2.2.2
                      have g0 := fun X a => (hF4 X a).1
                      have g1 := fun X a => (hF4 X a).2.1
                      have g2 := fun X a => (hF4 X a).2.2.1
                      have g3 := fun X a => (hF4 X a).2.2.2
                      have aqd : Apart [] w9 wr.drew := aq.trans ((Apart.refl _ _).drewN 1)
                      clear hN4 hF4 aq
                      go_wp2_with fail
                      refine wp_region_held_drew (S := fun X => Apart [] w9 X) (by kernel_rfl) aqd (fun hHeld => ?_)
                      refine wpAnyH_take (i := 0) (oi := ⟨some 163, _, _, _, _, _⟩) (v := (.slice (some ⟨B2, 0, none⟩) M M)) rfl (by kernel_rfl) (by kernel_rfl) (by kernel_rfl) (fun _ _ _ h => h) (Or.inl ⟨by rfl, ?_⟩) (by assumption) ?_
                      · intro W hSW; go_simp
                      simp only [Act.put, List.setIfInBounds_toArray, List.set_cons_zero, List.set_cons_succ]
                      refine wpAnyH_take (i := 1) (oi := ⟨some 164, _, _, _, _, _⟩) (v := (.int .i64 (M : Nat))) rfl (by kernel_rfl) (by kernel_rfl) (by kernel_rfl) (fun _ _ _ h => h) (Or.inl ⟨by rfl, ?_⟩) (by assumption) ?_
                      · intro W hSW; go_simp
                      simp only [Act.put, List.setIfInBounds_toArray, List.set_cons_zero, List.set_cons_succ]
                      refine wpAnyH_take (i := 2) (oi := ⟨some 165, _, _, _, _, _⟩) (v := (.slice (some ⟨b6, 0, none⟩) M c6)) rfl (by kernel_rfl) (by kernel_rfl) (by kernel_rfl) (fun _ _ _ h => h) (Or.inl ⟨by rfl, ?_⟩) (by assumption) ?_
                      · intro W hSW; go_simp
                      simp only [Act.put, List.setIfInBounds_toArray, List.set_cons_zero, List.set_cons_succ]
                      refine wpAnyH_take (i := 3) (oi := ⟨some 166, _, _, _, _, _⟩) (v := (.int .i64 (M : Nat))) rfl (by kernel_rfl) (by kernel_rfl) (by kernel_rfl) (fun _ _ _ h => h) (Or.inl ⟨by rfl, ?_⟩) (by assumption) ?_
                      · intro W hSW; go_simp
                      simp only [Act.put, List.setIfInBounds_toArray, List.set_cons_zero, List.set_cons_succ]
                      refine wpAnyH_take (i := 4) (oi := ⟨some 167, _, _, _, _, _⟩) (v := (.bool false)) rfl (by kernel_rfl) (by kernel_rfl) (by kernel_rfl) (fun _ _ _ h => h) (Or.inl ⟨by rfl, ?_⟩) (by assumption) ?_
                      · intro W hSW; go_simp
                      simp only [Act.put, List.setIfInBounds_toArray, List.set_cons_zero, List.set_cons_succ]
                      refine wpAnyH_take (i := 5) (oi := ⟨some 168, _, _, _, _, _⟩) (v := (.bool false)) rfl (by kernel_rfl) (by kernel_rfl) (by kernel_rfl) (fun _ _ _ h => h) (Or.inl ⟨by rfl, ?_⟩) (by assumption) ?_
                      · intro W hSW; go_simp
                      simp only [Act.put, List.setIfInBounds_toArray, List.set_cons_zero, List.set_cons_succ]
                      refine wpAnyH_take (i := 6) (oi := ⟨some 169, _, _, _, _, _⟩) (v := (.slice (some ⟨B2, 0, none⟩) M M)) rfl (by kernel_rfl) (by kernel_rfl) (by kernel_rfl) (fun _ _ _ h => h) (Or.inl ⟨by rfl, ?_⟩) (by assumption) ?_
                      · intro W hSW; go_simp
                      simp only [Act.put, List.setIfInBounds_toArray, List.set_cons_zero, List.set_cons_succ]
                      refine wpAnyH_take (i := 7) (oi := ⟨some 170, _, _, _, _, _⟩) (v := (.int .i64 (k : Nat))) rfl (by kernel_rfl) (by kernel_rfl) (by kernel_rfl) (fun _ _ _ h => h) (Or.inl ⟨by rfl, ?_⟩) (by assumption) ?_
                      · intro W hSW; go_simp
                      simp only [Act.put, List.setIfInBounds_toArray, List.set_cons_zero, List.set_cons_succ]
                      refine wpAnyH_take (i := 8) (oi := ⟨some 171, _, _, _, _, _⟩) (v := (.pointer (some ⟨B2, k * 4, none⟩))) rfl (by kernel_rfl) (by kernel_rfl) (by kernel_rfl) (fun _ _ _ h => h) (Or.inl ⟨by rfl, ?_⟩) (by assumption) ?_
                      · intro W hSW; go_simp
                      simp only [Act.put, List.setIfInBounds_toArray, List.set_cons_zero, List.set_cons_succ]
                      refine wpAnyH_take (i := 9) (oi := ⟨some 172, _, _, _, _, _⟩) (v := (.agg #[.int .i64 e.r, .int .i64 e.m, .int .i64 e.k, .int .i64 e.c])) rfl (by kernel_rfl) (by kernel_rfl) (by kernel_rfl) (fun _ _ _ h => h) (Or.inl ⟨by rfl, ?_⟩) (by assumption) ?_
                      · intro W hSW; go_simp
                      simp only [Act.put, List.setIfInBounds_toArray, List.set_cons_zero, List.set_cons_succ]
                      refine wpAnyH_take (i := 10) (oi := ⟨some 173, _, _, _, _, _⟩) (v := (.slice (some ⟨b6, 0, none⟩) M c6)) rfl (by kernel_rfl) (by kernel_rfl) (by kernel_rfl) (fun _ _ _ h => h) (Or.inl ⟨by rfl, ?_⟩) (by assumption) ?_
                      · intro W hSW; go_simp
                      simp only [Act.put, List.setIfInBounds_toArray, List.set_cons_zero, List.set_cons_succ]
                      refine wpAnyH_take (i := 11) (oi := ⟨some 174, _, _, _, _, _⟩) (v := (.int .i64 (k : Nat))) rfl (by kernel_rfl) (by kernel_rfl) (by kernel_rfl) (fun _ _ _ h => h) (Or.inl ⟨by rfl, ?_⟩) (by assumption) ?_
                      · intro W hSW; go_simp
                      simp only [Act.put, List.setIfInBounds_toArray, List.set_cons_zero, List.set_cons_succ]
                      refine wpAnyH_take (i := 12) (oi := ⟨some 175, _, _, _, _, _⟩) (v := (.pointer (some ⟨b6, k * 4, none⟩))) rfl (by kernel_rfl) (by kernel_rfl) (by kernel_rfl) (fun _ _ _ h => h) (Or.inl ⟨by rfl, ?_⟩) (by assumption) ?_
                      · intro W hSW; go_simp
                      simp only [Act.put, List.setIfInBounds_toArray, List.set_cons_zero, List.set_cons_succ]
                      refine wpAnyH_take (i := 13) (oi := ⟨some 176, _, _, _, _, _⟩) (v := (.agg #[.int .i64 e.r, .int .i64 e.m, .int .i64 e.k, .int .i64 e.c])) rfl (by kernel_rfl) (by kernel_rfl) (by kernel_rfl) (fun _ _ _ h => h) (Or.inl ⟨by rfl, ?_⟩) (by assumption) ?_
                      · intro W hSW; go_simp
                      simp only [Act.put, List.setIfInBounds_toArray, List.set_cons_zero, List.set_cons_succ]
                      refine wpAnyH_ready (rs := [14]) (by kernel_rfl) (by simp) ?_
                      refine AllReadyH.cons rfl (fun KK hKK => ?_) AllReadyH.nil
                      go_simp
                      refine (same_ok _ e).mono ?_
                      rintro r wS ⟨rfl, aS'⟩
                      dsimp only
                      have aq2 := aqd.trans aS'
                      refine hKK.out _ _ (by assumption) (fun hHeld => ?_)
                      clear hKK KK
                      refine wpAnyH_take (i := 15) (oi := ⟨some 178, _, _, _, _, _⟩) (v := (.bool false)) rfl (by kernel_rfl) (by kernel_rfl) (by kernel_rfl) (fun _ _ _ h => h) (Or.inl ⟨by rfl, ?_⟩) (by assumption) ?_
                      · intro W hSW; go_simp
                      simp only [Act.put, List.setIfInBounds_toArray, List.set_cons_zero, List.set_cons_succ]
                      refine wpAnyH_take (i := 16) (oi := ⟨some 179, _, _, _, _, _⟩) (v := (.bool false)) rfl (by kernel_rfl) (by kernel_rfl) (by kernel_rfl) (fun _ _ _ h => h) (Or.inl ⟨by rfl, ?_⟩) (by assumption) ?_
                      · intro W hSW; go_simp
                      simp only [Act.put, List.setIfInBounds_toArray, List.set_cons_zero, List.set_cons_succ]
                      refine wpAnyH_done (by kernel_rfl) ?_ _
                      clear n0 n1 n2' n3 g0 g1 g2 g3
                      go_wp2
                      go_roundw
                      case rel => exact ⟨k + 1, by omega, by go_num, aq2⟩
                      case measure => simp [intOf]; omega
                    · have hEq := HEF.out.kept0 (HA9.out.trans aq)
                      have hownq := hEq.own
                      obtain ⟨hcap, G2, hG2, hcl⟩ : ∃ hcap G2, hv2 = .slice (some ⟨G2, 0, none⟩) hs2.length hcap ∧ hs2.length ≤ hcap := by
                        obtain ⟨_, ⟨_, hz⟩ | ⟨g', cap', cur, hv', _, _, hle, _⟩⟩ := hownq
                        · rw [HLF.out] at hz; omega
                        · exact ⟨cap', g', hv', hle⟩
                      subst hG2
                      have HLJ := hid HLF.out
                      have HEQ := hid hEq
                      have KIF : Hid (KI w wr Q H (i + 1) (.slice (some ⟨G2, 0, none⟩) hs2.length hcap) hs2 row2 n2 nw2) := ⟨HQF.out.kept (HA9.out.trans aq), HAF.out.trans (HA9.out.trans aq), hEq, HLF.out, KSH.out.hni, KSH.out.rl, HBF.out⟩
                      obtain ⟨J, hJ⟩ : ∃ J, hs2.length = J := ⟨_, rfl⟩
                      have hJ30 : J ≤ 300 := by rw [← hJ, HLF.out]; omega
                      rw [hJ]
                      have HJ := hid hJ
                      clear hEq hownq aq hcl hJ
                      go_wp2_with fail
                      go_loopw [14] (fun v wq => ∃ j : Nat, j ≤ J ∧ v = .int .i64 j ∧ wq = wr) (fun v _ => J - (intOf v).toNat)
                      case atStart => exact ⟨0, Nat.zero_le _, rfl, rfl⟩
                      case round =>
                        obtain ⟨j, hjJ, rfl, rfl⟩ := hrel
                        by_cases hjl : j < J
                        · obtain ⟨x, hx⟩ : ∃ x, hs2[j]? = some x := ⟨_, List.getElem?_eq_getElem (by rw [HJ.out]; exact hjl)⟩
                          obtain ⟨nx, bx, cx, rfl, ox, hnx⟩ := (HEQ.out.fl j x hx).ex
                          have xj : wr.cell? ⟨G2, j, none⟩ = some (.slice (some ⟨bx, 0, none⟩) nx cx) := by
                            have := HEQ.out.own.cellAt j (by rw [HJ.out]; omega)
                            rw [this]; exact hx
                          have hq4 : (j : Int).tdiv 4 = ((j / 4 : Nat) : Int) := by rw [Int.tdiv_eq_ediv_of_nonneg (by omega)]; rfl
                          have OX := hid ox
                          clear hx ox
                          go_wp2_with fail
                          go_loopw [15] (fun v wq => ∃ k : Nat, k ≤ nx ∧ v = .int .i64 k ∧ wq = wr) (fun v _ => nx - (intOf v).toNat)
                          case atStart => exact ⟨0, Nat.zero_le _, rfl, rfl⟩
                          case round =>
                            obtain ⟨k, hkx, rfl, rfl⟩ := hrel
                            by_cases hkl2 : k < nx
                            · have ck : wr.cell? ⟨bx, k * 4 + 3, none⟩ = some (.int .i64 (-1000 - ((j / 4 : Nat) : Int))) := by
                                rw [OX.out.cellAt _ (by omega), alk_get _ _ _ hkl2]; rfl
                              go_wp2
                              go_roundw
                              case rel => exact ⟨k + 1, by omega, by go_num, by first | rfl | trivial⟩
                              case measure => simp [intOf]; omega
                            · obtain rfl : k = nx := by omega
                              go_wp2
                              go_roundw
                              case rel => exact ⟨j + 1, by omega, by go_num, by first | rfl | trivial⟩
                              case measure => simp [intOf]; omega
                        · have KF := KIF.out
                          rw [HJ.out] at KF
                          go_wp2
                          go_roundw
                          case rel => exact ⟨_, i + 1, hs2, row2, n2, nw2, by omega, rfl, by go_num, KF⟩
                          case measure => simp [intOf]; omega
      · have bel : Hid (Below w.heap.size w wr) := HKI.out.ap.below (Nat.le_refl _) (by simp)
        obtain rfl : i = 30 := by omega
        clear HKI
        go_wp2
        go_ret
        exact ⟨rfl, bel.out⟩
    · have bel : Hid (Below w.heap.size w wr) := HKI.out.ap.below (Nat.le_refl _) (by simp)
      clear HKI
      go_wp2
      go_ret
      exact ⟨rfl, bel.out⟩
end Go.Proofs.Ytopmhacnopfifaa.tm
