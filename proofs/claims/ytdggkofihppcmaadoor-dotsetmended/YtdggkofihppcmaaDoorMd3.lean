import Derived.Test.YtdggkofihppcmaaDoorMd2
import Derived.Test.YtdggkofihppcmaaDoorOne
import Derived.Test.YtdggkofihppcmaaDoorN1
namespace Go.Proofs.YtdggkofihppcmaaDoor.ds
open Go.ChangeShapes Go.WideShapes Go.ChangeAt Go.RowKit
set_option linter.unusedVariables false
set_option linter.unusedSimpArgs false
theorem eqfIn (d : Nat) (w : World) (f : Fn) (a c : Array Value) : (Op.equalIn (d + 1) 60 (.func f a c) .nilFunc).run Tryd.prog w = .ok false w := by
  simp [Op.equalIn, run_underlying Tryd.underlying60]
theorem eqf (w : World) (f : Fn) (a c : Array Value) : (binOp .eql 60 (.func f a c) .nilFunc).run Tryd.prog w = .ok (.bool false) w := by
  have e : (Op.equal 60 (.func f a c) .nilFunc).run Tryd.prog w = .ok false w := eqfIn 9999 w f a c
  simp only [binOp]
  simp [e]
attribute [local go_sem] eqf
theorem L.fr2 {w w' : World} {p : Option Addr} {N : Nat} {xs : List S} {K : Nat → Prop} (h : L w p N xs) (f : Fr K w w') (hK : ∀ k, k < w.heap.size → K k) : L w' p N xs := by
  by_cases h0 : xs.length = 0
  · obtain rfl : xs = [] := List.length_eq_zero_iff.1 h0
    have := h.len
    simp at this
    subst this
    exact L.nil w' p
  · obtain ⟨P, o, rfl, hP, _⟩ := h.sp (by omega)
    exact h.fr f (fun P' o' e => by cases e; exact hK P hP)
theorem own_pl {w w' : World} {p : Option Addr} {n cap : Nat} {xs : List S} (h : Own w w' p n cap xs) : Pl p n cap := by
  obtain ⟨_, ⟨hv, hz⟩ | ⟨g, cap', cur, hv, _⟩⟩ := h.own
  · simp only [Value.slice.injEq] at hv
    obtain ⟨rfl, rfl, rfl⟩ := hv
    exact pl_nil
  · simp only [Value.slice.injEq] at hv
    obtain ⟨rfl, _, _⟩ := hv
    exact pl_some _ _ _ _
theorem count_as {p : Option Addr} {N cap : Nat} {xs : List S} {w : World} {t : Nat} (h : L w p N xs) (k : OkL 64 xs) (ht : tot xs = t) : Calls Tryd.prog 19 #[.slice p N cap] w fun r w' => r = .returned (.int .i64 t) ∧ Apart [] w w' := by
  have := count_ok (cap := cap) h
  rwa [norm_of k, ht] at this
theorem tot_le {gp : Int} : ∀ {s : List S}, (∀ x ∈ s, Ok gp x) → tot s ≤ s.length * 1048640
  | [], _ => by simp [tot]
  | x :: s, h => by
    have h1 := tot_le (s := s) (fun y hy => h y (by simp [hy]))
    have h2 := cnt_le (h x (by simp))
    simp only [tot, List.map_cons, List.sum_cons, List.length_cons] at h1 ⊢
    omega
set_option maxHeartbeats 20000000 in
set_option maxRecDepth 100000 in
theorem mended_main (w : World) (T : Tab w) (p q : Option Addr) (N cap M cb : Nat) (xs ys : List S) (gp : Int) (la : L w p N xs) (lb : L w q M ys) (hg : 1 ≤ gp ∧ gp ≤ 64) (ka : OkL gp xs) (kb : OkL gp ys) (ht : tot xs ≤ 400) :
    Calls Tryd.prog 12 #[.slice p N cap, .slice q M cb, .int .i64 gp] w fun r w' => r = .returned (.bool true) ∧ Apart [] w w' := by
  have n8 : xs.length ≤ 8 := (ka.mono hg.2).le8
  have m8 : ys.length ≤ 8 := (kb.mono hg.2).le8
  have hN : N ≤ 4398046511104 := by have := la.len; omega
  have hM : M ≤ 4398046511104 := by have := lb.len; omega
  have HT4 := hid ht
  have fx := ka.fit hg.2
  have fy := kb.fit hg.2
  clear ht
  go_enter Tryd.func12, Tryd.ntmps12
  go_wp2_with fail
  refine (alive_ok w T).mono ?_
  rintro r w1 ⟨rfl, a1⟩
  dsimp only
  go_wp2_with fail
  refine (rcheck_yes (la.kept0 a1) hg ka).mono ?_
  rintro r w2 ⟨rfl, a2'⟩
  have a2 := a1.trans a2'
  dsimp only
  go_wp2_with fail
  refine (rcheck_yes (lb.kept0 a2) hg kb).mono ?_
  rintro r w3 ⟨rfl, a3'⟩
  have a3 := a2.trans a3'
  dsimp only
  go_wp2_with fail
  refine (rcount_ok (la.kept0 a3)).mono ?_
  rintro r w4 ⟨rfl, a4'⟩
  have a4 := a3.trans a4'
  dsimp only
  rw [norm_of (ka.mono hg.2)]
  obtain ⟨t, Ht⟩ : ∃ t, Hid (tot xs = t) := ⟨_, rfl⟩
  rw [Ht.out]
  have ht4 : ¬ (400 < (t : Int)) := by have := HT4.out; rw [Ht.out] at this; omega
  clear a1 a2' a2 a3' a3 a4'
  go_wp2_with fail
  refine (copied_ok (la.kept0 a4) hN).mono ?_
  rintro r w5 ⟨p5, c5, rfl, o5⟩
  dsimp only
  have a5 := a4.trans o5.ap
  go_wp2_with fail
  refine (copied_ok (lb.kept0 a5) hM).mono ?_
  rintro r w6 ⟨p6, c6, rfl, o6⟩
  dsimp only
  have a6 := a5.trans o6.ap
  go_wp2_with fail
  refine (union_ok gp (T.kept0 a6) ((o5.L (by omega) fx).kept0 o6.ap) (o6.L (by omega) fy) hg ka kb).mono ?_
  rintro r w7 ⟨u, un, uc, rfl, ou, hu8⟩
  dsimp only
  have a7 := a6.trans ou.ap
  have OU := hid ou
  clear o5 o6 ou a4 a5 a6
  go_wp2_with fail
  refine (copied_ok (la.kept0 a7) hN).mono ?_
  rintro r w8 ⟨p8, c8, rfl, o8⟩
  dsimp only
  have a8 := a7.trans o8.ap
  go_wp2_with fail
  refine (copied_ok (lb.kept0 a8) hM).mono ?_
  rintro r v1 ⟨p9, c9, rfl, o9⟩
  dsimp only
  have b1 := a8.trans o9.ap
  go_wp2_with fail
  refine (missing_ok _ _ _ _ _ _ _ _ _ ((o8.L (by omega) fx).kept0 o9.ap) (o9.L (by omega) fy) (own_pl o8) (own_pl o9)).mono ?_
  rintro r v2 ⟨⟨BA, BB, pa, na, ca, pb, nb, cb', rfl, hBA, hBB, hA, hB, la', lb', npa, npb, b2'⟩⟩
  dsimp only
  have b2 := b1.trans b2'
  have OU2 := hid (OU.out.kept ((o8.ap.trans o9.ap).trans b2'))
  rw [norm_of (ka.mono hg.2)] at la'
  rw [norm_of (kb.mono hg.2)] at lb'
  have HLA := hid la'
  have HLB := hid lb'
  have HPA := hid npa
  have HPB := hid npb
  have HHA := hid hA
  have HHB := hid hB
  clear la' lb' npa npb hA hB b2' o8 o9 a7 a8 b1 OU hBA hBB
  go_wp2_with fail
  refine (copied_ok (lb.kept0 b2) hM).mono ?_
  rintro r v3 ⟨p10, c10, rfl, o10⟩
  dsimp only
  have b3 := b2.trans o10.ap
  have O10 := hid o10
  have hA3 := hid (o10.ap.keep HHA.out)
  have hB3 := hid (o10.ap.keep HHB.out)
  have LA3 := hid (HLA.out.kept0 o10.ap)
  have LB3 := hid (HLB.out.kept0 o10.ap)
  have hv3 : Hid (v2.heap.size ≤ v3.heap.size) := o10.ap.size
  have OU3 := hid (OU2.out.kept o10.ap)
  clear o10 b2
  go_wp2_with fail
  have aB : Apart [] v3 ((v3.alloc (.cells #[.slice p10 M c10, .int .i64 gp, .int .i64 0, .int .i64 0, .int .i64 0, .bool false] 64)).alloc (.cells #[.pointer (some ⟨v3.heap.size, 0, none⟩)] 62)) := ((Apart.refl _ _).alloc _).alloc _
  have rH : ((v3.alloc (.cells #[.slice p10 M c10, .int .i64 gp, .int .i64 0, .int .i64 0, .int .i64 0, .bool false] 64)).alloc (.cells #[.pointer (some ⟨v3.heap.size, 0, none⟩)] 62)).heap[v3.heap.size]? = some (.cells #[.slice p10 M c10, .int .i64 gp, .int .i64 0, .int .i64 0, .int .i64 0, .bool false] 64 (0, 0)) := by
    rw [Below.heap_alloc _ _ _ (by simp)]; exact heap_alloc_new v3 _
  have rO : ((v3.alloc (.cells #[.slice p10 M c10, .int .i64 gp, .int .i64 0, .int .i64 0, .int .i64 0, .bool false] 64)).alloc (.cells #[.pointer (some ⟨v3.heap.size, 0, none⟩)] 62)).cell? ⟨v3.heap.size + 1, 0, none⟩ = some (.pointer (some ⟨v3.heap.size, 0, none⟩)) := by
    have := heap_alloc_new (v3.alloc (.cells #[.slice p10 M c10, .int .i64 gp, .int .i64 0, .int .i64 0, .int .i64 0, .bool false] 64)) (.cells #[.pointer (some ⟨v3.heap.size, 0, none⟩)] 62)
    rw [World.size_alloc] at this
    rw [cell_of_row _ _ _ _ _ _ this]; rfl
  obtain ⟨v4, hv4⟩ : ∃ v4, (v3.alloc (.cells #[.slice p10 M c10, .int .i64 gp, .int .i64 0, .int .i64 0, .int .i64 0, .bool false] 64)).alloc (.cells #[.pointer (some ⟨v3.heap.size, 0, none⟩)] 62) = v4 := ⟨_, rfl⟩
  rw [hv4] at aB rH rO ⊢
  have hs4 : Hid (v3.heap.size + 2 = v4.heap.size) := by rw [← hv4]; show v3.heap.size + 2 = _; simp
  clear hv4
  have T4 := hid (T.kept0 (b3.trans aB))
  have hhw : HW v4 v3.heap.size gp ⟨ys, 0, 0, 0, false⟩ := ⟨p10, M, c10, rH, own_apart O10.out.own aB (by simp), O10.out.len⟩
  have hw3 : Hid (w.heap.size ≤ v3.heap.size) := b3.size
  have h3p : 0 < v3.heap.size := Nat.lt_of_lt_of_le T.lt b3.size
  have ltA := block_lt_of_cell hA3.out
  have ltB := block_lt_of_cell hB3.out
  simp only at ltA ltB
  refine (mended_walk v4 T4.out (v3.heap.size + 1) BA BB v3.heap.size gp pa pb na ca nb cb' xs ys (aB.keep hA3.out) (aB.keep hB3.out) rO (LA3.out.kept0 aB) (LB3.out.kept0 aB) ka kb hg HT4.out hhw (by omega) (by omega) (by omega) (by omega) (fun P o e h => by have := (HPA.out P o e).2; have := hv3.out; omega) (fun P o e h => by have := (HPB.out P o e).2; have := hv3.out; omega)).mono ?_
  rintro r w9 ⟨⟨rv, rfl⟩, h9, f9⟩
  dsimp only
  obtain ⟨e1, e2, e3, e4⟩ := runs_all ka kb hg.1 hg.2
  obtain ⟨hp, hn, hc, hbH, ownH, hlH⟩ := h9.ex
  rw [e1] at ownH hlH
  rw [e2] at hbH
  obtain ⟨tu, Htu⟩ : ∃ tu, Hid (tot (uni xs ys) = tu) := ⟨_, rfl⟩
  obtain ⟨tb, Htb⟩ : ∃ tb, Hid (tot ys = tb) := ⟨_, rfl⟩
  rw [Htu.out, Htb.out] at e3
  have ku := uni_ok ka kb (by omega) hg.2
  have hu8' : (uni xs ys).length ≤ 8 := (ku.mono hg.2).le8
  have htu : (tu : Int) ≤ 8389120 := by
    have := tot_le ku.ok; rw [Htu.out] at this; omega
  have htb : (tb : Int) ≤ (tu : Int) := by omega
  have F9 : Fr (fun k => ¬ k = v3.heap.size) v3 w9 := (aB.fr).trans f9
  have LH : ∀ X, Apart [] w9 X → L X hp hn (uni xs ys) := fun X a => ⟨Sp.own (own_apart ownH a (by simp)) hlH, hlH.symm, by omega, ku.fit hg.2⟩
  have LU : ∀ X, Apart [] w9 X → L X u un (uni xs ys) := fun X a => ((OU3.out.L (by omega) (ku.fit hg.2)).fr2 F9 (fun k hk => by omega)).kept0 a
  have LA : ∀ X, Apart [] w9 X → L X p N xs := fun X a => ((la.kept0 b3).fr2 F9 (fun k hk => by omega)).kept0 a
  have LB : ∀ X, Apart [] w9 X → L X q M ys := fun X a => ((lb.kept0 b3).fr2 F9 (fun k hk => by omega)).kept0 a
  have TT : ∀ X, Apart [] w9 X → Tab X := fun X a => (F9.tab (T.kept0 b3) (by omega)).kept0 a
  have HKU := hid (ku.mono hg.2)
  have HKB := hid (kb.mono hg.2)
  have HTU := hid Htu.out
  have HTB := hid Htb.out
  have HK64 := hid (And.intro (ka.mono hg.2) (kb.mono hg.2))
  have cO : w9.cell? ⟨v3.heap.size + 1, 0, none⟩ = some (.pointer (some ⟨v3.heap.size, 0, none⟩)) := f9.cell rO (by show ¬ v3.heap.size + 1 = v3.heap.size; omega)
  have aR : Hid (Apart [] w w9) := by
    have b : Apart [v3.heap.size] v3 w9 := ⟨F9.os, F9.tape, F9.output, F9.size, fun k hk hx => F9.block k hk (by simpa using hx)⟩
    exact b3.trans' b (fun y hy => .inr (by simp at hy; have := hw3.out; omega))
  obtain ⟨BH, hBH⟩ : ∃ BH, v3.heap.size = BH := ⟨_, rfl⟩
  rw [hBH] at cO hbH
  have hO1 : ∀ X, Apart [] w9 X → X.cell? ⟨BH + 1, 0, none⟩ = some (.pointer (some ⟨BH, 0, none⟩)) := fun X a => a.keep cO
  have row : ∀ X, Apart [] w9 X → X.heap[BH]? = _ := fun X a => (a.block BH (lt_of_heap hbH) (by simp)).trans hbH
  have hc0 : ∀ X, Apart [] w9 X → X.cell? ⟨BH, 0, none⟩ = some (.slice hp hn hc) := fun X a => by rw [cell_of_row _ _ _ _ _ _ (row X a)]; rfl
  have hc5 : ∀ X, Apart [] w9 X → X.cell? ⟨BH, 5, none⟩ = some (.bool false) := fun X a => by rw [cell_of_row _ _ _ _ _ _ (row X a)]; rfl
  have hc2 : ∀ X, Apart [] w9 X → X.cell? ⟨BH, 2, none⟩ = some (.int .i64 ((tu : Int) - (tb : Int))) := fun X a => by rw [cell_of_row _ _ _ _ _ _ (row X a), ← e3]; rfl
  have aE : Apart [] w9 w9.drew := (Apart.refl _ _).drewN 1
  rw [hBH]
  have E4 : Hid ((tu : Int) - (tb : Int) = 0 ↔ Win xs ys) := by unfold Hid; rw [← e4, ← e3]; omega
  clear e1 e2 e3 e4 h9 hbH ownH hlH f9 F9 row cO aB rH rO hhw la lb T T4 LA3 LB3 hA3 hB3 HLA HLB HHA HHB HPA HPB OU3 OU2 O10 ku hu8' hw3 hv3 hs4 ltA ltB h3p b3 Htu Htb hBH ka kb fx fy n8 m8 hN hM hu8
  go_wp2_with fail
  by_cases hz : (tu : Int) - (tb : Int) = 0
  · have HZ : Hid (Is true (Win xs ys)) := ⟨by simp [← E4.out, hz]⟩
    have hz2 : (tu : Int) = (tb : Int) := by omega
    have hz3 : tu = tb := by omega
    rw [hz] at hc2
    clear E4
    have hw0 : IntKind.wrap .i64 0 = 0 := by decide
    subst hz3
    refine wp_region_held_drew (S := fun X => Apart [] w9 X) (by kernel_rfl) aE (fun hHeld => ?_)
    refine wpAnyH_take (i := 0) (oi := ⟨some 62, _, _, _, _, _⟩) (v := (.pointer (some ⟨BH, 0, none⟩))) rfl (by kernel_rfl) (by kernel_rfl) (by kernel_rfl) (fun _ _ _ h => h) (Or.inl ⟨by rfl, ?_⟩) (by assumption) ?_
    · intro W hSW; go_simp
    simp only [Act.put, List.setIfInBounds_toArray, List.set_cons_zero, List.set_cons_succ]
    refine wpAnyH_take (i := 1) (oi := ⟨some 63, _, _, _, _, _⟩) (v := (.pointer (some ⟨BH, 0, none⟩))) rfl (by kernel_rfl) (by kernel_rfl) (by kernel_rfl) (fun _ _ _ h => h) (Or.inl ⟨by rfl, ?_⟩) (by assumption) ?_
    · intro W hSW; go_simp
    simp only [Act.put, List.setIfInBounds_toArray, List.set_cons_zero, List.set_cons_succ]
    refine wpAnyH_take (i := 2) (oi := ⟨some 64, _, _, _, _, _⟩) (v := (.pointer (some ⟨BH, 5, none⟩))) rfl (by kernel_rfl) (by kernel_rfl) (by kernel_rfl) (fun _ _ _ h => h) (Or.inl ⟨by rfl, ?_⟩) (by assumption) ?_
    · intro W hSW; go_simp
    simp only [Act.put, List.setIfInBounds_toArray, List.set_cons_zero, List.set_cons_succ]
    refine wpAnyH_take (i := 3) (oi := ⟨some 65, _, _, _, _, _⟩) (v := (.bool false)) rfl (by kernel_rfl) (by kernel_rfl) (by kernel_rfl) (fun _ _ _ h => h) (Or.inl ⟨by rfl, ?_⟩) (by assumption) ?_
    · intro W hSW; go_simp
    simp only [Act.put, List.setIfInBounds_toArray, List.set_cons_zero, List.set_cons_succ]
    refine wpAnyH_take (i := 4) (oi := ⟨some 66, _, _, _, _, _⟩) (v := (.bool true)) rfl (by kernel_rfl) (by kernel_rfl) (by kernel_rfl) (fun _ _ _ h => h) (Or.inl ⟨by rfl, ?_⟩) (by assumption) ?_
    · intro W hSW; go_simp
    simp only [Act.put, List.setIfInBounds_toArray, List.set_cons_zero, List.set_cons_succ]
    refine wpAnyH_take (i := 5) (oi := ⟨some 67, _, _, _, _, _⟩) (v := (.bool true)) rfl (by kernel_rfl) (by kernel_rfl) (by kernel_rfl) (fun _ _ _ h => h) (Or.inl ⟨by rfl, ?_⟩) (by assumption) ?_
    · intro W hSW; go_simp
    simp only [Act.put, List.setIfInBounds_toArray, List.set_cons_zero, List.set_cons_succ]
    refine wpAnyH_take (i := 6) (oi := ⟨some 68, _, _, _, _, _⟩) (v := (.pointer (some ⟨BH, 0, none⟩))) rfl (by kernel_rfl) (by kernel_rfl) (by kernel_rfl) (fun _ _ _ h => h) (Or.inl ⟨by rfl, ?_⟩) (by assumption) ?_
    · intro W hSW; go_simp
    simp only [Act.put, List.setIfInBounds_toArray, List.set_cons_zero, List.set_cons_succ]
    refine wpAnyH_take (i := 7) (oi := ⟨some 69, _, _, _, _, _⟩) (v := (.pointer (some ⟨BH, 0, none⟩))) rfl (by kernel_rfl) (by kernel_rfl) (by kernel_rfl) (fun _ _ _ h => h) (Or.inl ⟨by rfl, ?_⟩) (by assumption) ?_
    · intro W hSW; go_simp
    simp only [Act.put, List.setIfInBounds_toArray, List.set_cons_zero, List.set_cons_succ]
    refine wpAnyH_take (i := 8) (oi := ⟨some 70, _, _, _, _, _⟩) (v := (.pointer (some ⟨BH, 0, none⟩))) rfl (by kernel_rfl) (by kernel_rfl) (by kernel_rfl) (fun _ _ _ h => h) (Or.inl ⟨by rfl, ?_⟩) (by assumption) ?_
    · intro W hSW; go_simp
    simp only [Act.put, List.setIfInBounds_toArray, List.set_cons_zero, List.set_cons_succ]
    refine wpAnyH_take (i := 9) (oi := ⟨some 71, _, _, _, _, _⟩) (v := (.slice hp hn hc)) rfl (by kernel_rfl) (by kernel_rfl) (by kernel_rfl) (fun _ _ _ h => h) (Or.inl ⟨by rfl, ?_⟩) (by assumption) ?_
    · intro W hSW; go_simp
    simp only [Act.put, List.setIfInBounds_toArray, List.set_cons_zero, List.set_cons_succ]
    refine wpAnyH_take (i := 10) (oi := ⟨some 72, _, _, _, _, _⟩) (v := (.slice u un uc)) rfl (by kernel_rfl) (by kernel_rfl) (by kernel_rfl) (fun _ _ _ h => h) (Or.inl ⟨by rfl, ?_⟩) (by assumption) ?_
    · intro W hSW; go_simp
    simp only [Act.put, List.setIfInBounds_toArray, List.set_cons_zero, List.set_cons_succ]
    refine wpAnyH_ready (rs := [11]) (by kernel_rfl) (by simp) ?_
    refine AllReadyH.cons rfl (fun KK hKK => ?_) AllReadyH.nil
    go_simp
    refine (same_as (LH _ aE) (LU _ aE) true ⟨by simp⟩).mono ?_
    rintro r e1 ⟨rfl, b1⟩
    dsimp only
    have aE1 := aE.trans b1
    refine hKK.out _ _ (by assumption) (fun hHeld => ?_)
    clear hKK KK
    refine wpAnyH_take (i := 12) (oi := ⟨some 74, _, _, _, _, _⟩) (v := (.bool true)) rfl (by kernel_rfl) (by kernel_rfl) (by kernel_rfl) (fun _ _ _ h => h) (Or.inl ⟨by rfl, ?_⟩) (by assumption) ?_
    · intro W hSW; go_simp
    simp only [Act.put, List.setIfInBounds_toArray, List.set_cons_zero, List.set_cons_succ]
    refine wpAnyH_take (i := 13) (oi := ⟨some 75, _, _, _, _, _⟩) (v := (.bool true)) rfl (by kernel_rfl) (by kernel_rfl) (by kernel_rfl) (fun _ _ _ h => h) (Or.inl ⟨by rfl, ?_⟩) (by assumption) ?_
    · intro W hSW; go_simp
    simp only [Act.put, List.setIfInBounds_toArray, List.set_cons_zero, List.set_cons_succ]
    refine wpAnyH_take (i := 14) (oi := ⟨some 76, _, _, _, _, _⟩) (v := (.pointer (some ⟨BH, 0, none⟩))) rfl (by kernel_rfl) (by kernel_rfl) (by kernel_rfl) (fun _ _ _ h => h) (Or.inl ⟨by rfl, ?_⟩) (by assumption) ?_
    · intro W hSW; go_simp
    simp only [Act.put, List.setIfInBounds_toArray, List.set_cons_zero, List.set_cons_succ]
    refine wpAnyH_take (i := 15) (oi := ⟨some 77, _, _, _, _, _⟩) (v := (.pointer (some ⟨BH, 0, none⟩))) rfl (by kernel_rfl) (by kernel_rfl) (by kernel_rfl) (fun _ _ _ h => h) (Or.inl ⟨by rfl, ?_⟩) (by assumption) ?_
    · intro W hSW; go_simp
    simp only [Act.put, List.setIfInBounds_toArray, List.set_cons_zero, List.set_cons_succ]
    refine wpAnyH_take (i := 16) (oi := ⟨some 78, _, _, _, _, _⟩) (v := (.pointer (some ⟨BH, 2, none⟩))) rfl (by kernel_rfl) (by kernel_rfl) (by kernel_rfl) (fun _ _ _ h => h) (Or.inl ⟨by rfl, ?_⟩) (by assumption) ?_
    · intro W hSW; go_simp
    simp only [Act.put, List.setIfInBounds_toArray, List.set_cons_zero, List.set_cons_succ]
    refine wpAnyH_take (i := 17) (oi := ⟨some 79, _, _, _, _, _⟩) (v := (.int .i64 0)) rfl (by kernel_rfl) (by kernel_rfl) (by kernel_rfl) (fun _ _ _ h => h) (Or.inl ⟨by rfl, ?_⟩) (by assumption) ?_
    · intro W hSW; go_simp
    simp only [Act.put, List.setIfInBounds_toArray, List.set_cons_zero, List.set_cons_succ]
    refine wpAnyH_take (i := 18) (oi := ⟨some 80, _, _, _, _, _⟩) (v := (.slice u un uc)) rfl (by kernel_rfl) (by kernel_rfl) (by kernel_rfl) (fun _ _ _ h => h) (Or.inl ⟨by rfl, ?_⟩) (by assumption) ?_
    · intro W hSW; go_simp
    simp only [Act.put, List.setIfInBounds_toArray, List.set_cons_zero, List.set_cons_succ]
    refine wpAnyH_take (i := 20) (oi := ⟨some 82, _, _, _, _, _⟩) (v := (.slice q M cb)) rfl (by kernel_rfl) (by kernel_rfl) (by kernel_rfl) (fun _ _ _ h => h) (Or.inl ⟨by rfl, ?_⟩) (by assumption) ?_
    · intro W hSW; go_simp
    simp only [Act.put, List.setIfInBounds_toArray, List.set_cons_zero, List.set_cons_succ]
    refine wpAnyH_ready (rs := [19]) (by kernel_rfl) (by simp) ?_
    refine AllReadyH.cons rfl (fun KK hKK => ?_) AllReadyH.nil
    go_simp
    refine (count_as (LU _ aE1) HKU.out HTU.out).mono ?_
    rintro r e2 ⟨rfl, b2⟩
    dsimp only
    have aE2 := aE1.trans b2
    refine hKK.out _ _ (by assumption) (fun hHeld => ?_)
    clear hKK KK
    refine wpAnyH_ready (rs := [21]) (by kernel_rfl) (by simp) ?_
    refine AllReadyH.cons rfl (fun KK hKK => ?_) AllReadyH.nil
    go_simp
    refine (count_as (LB _ aE2) HKB.out HTB.out).mono ?_
    rintro r e3 ⟨rfl, b3⟩
    dsimp only
    have aE3 := aE2.trans b3
    refine hKK.out _ _ (by assumption) (fun hHeld => ?_)
    clear hKK KK
    refine wpAnyH_take (i := 22) (oi := ⟨some 84, _, _, _, _, _⟩) (v := (.int .i64 0)) rfl (by kernel_rfl) (by kernel_rfl) (by kernel_rfl) (fun _ _ _ h => h) (Or.inl ⟨by rfl, ?_⟩) (by assumption) ?_
    · intro W hSW; go_simp
    simp only [Act.put, List.setIfInBounds_toArray, List.set_cons_zero, List.set_cons_succ]
    refine wpAnyH_take (i := 23) (oi := ⟨some 85, _, _, _, _, _⟩) (v := (.bool true)) rfl (by kernel_rfl) (by kernel_rfl) (by kernel_rfl) (fun _ _ _ h => h) (Or.inl ⟨by rfl, ?_⟩) (by assumption) ?_
    · intro W hSW; go_simp
    simp only [Act.put, List.setIfInBounds_toArray, List.set_cons_zero, List.set_cons_succ]
    refine wpAnyH_take (i := 24) (oi := ⟨some 86, _, _, _, _, _⟩) (v := (.bool true)) rfl (by kernel_rfl) (by kernel_rfl) (by kernel_rfl) (fun _ _ _ h => h) (Or.inl ⟨by rfl, ?_⟩) (by assumption) ?_
    · intro W hSW; go_simp
    simp only [Act.put, List.setIfInBounds_toArray, List.set_cons_zero, List.set_cons_succ]
    refine wpAnyH_take (i := 25) (oi := ⟨some 87, _, _, _, _, _⟩) (v := (.bool true)) rfl (by kernel_rfl) (by kernel_rfl) (by kernel_rfl) (fun _ _ _ h => h) (Or.inl ⟨by rfl, ?_⟩) (by assumption) ?_
    · intro W hSW; go_simp
    simp only [Act.put, List.setIfInBounds_toArray, List.set_cons_zero, List.set_cons_succ]
    refine wpAnyH_take (i := 26) (oi := ⟨some 88, _, _, _, _, _⟩) (v := (.pointer (some ⟨BH, 0, none⟩))) rfl (by kernel_rfl) (by kernel_rfl) (by kernel_rfl) (fun _ _ _ h => h) (Or.inl ⟨by rfl, ?_⟩) (by assumption) ?_
    · intro W hSW; go_simp
    simp only [Act.put, List.setIfInBounds_toArray, List.set_cons_zero, List.set_cons_succ]
    refine wpAnyH_take (i := 27) (oi := ⟨some 89, _, _, _, _, _⟩) (v := (.pointer (some ⟨BH, 0, none⟩))) rfl (by kernel_rfl) (by kernel_rfl) (by kernel_rfl) (fun _ _ _ h => h) (Or.inl ⟨by rfl, ?_⟩) (by assumption) ?_
    · intro W hSW; go_simp
    simp only [Act.put, List.setIfInBounds_toArray, List.set_cons_zero, List.set_cons_succ]
    refine wpAnyH_take (i := 28) (oi := ⟨some 90, _, _, _, _, _⟩) (v := (.pointer (some ⟨BH, 2, none⟩))) rfl (by kernel_rfl) (by kernel_rfl) (by kernel_rfl) (fun _ _ _ h => h) (Or.inl ⟨by rfl, ?_⟩) (by assumption) ?_
    · intro W hSW; go_simp
    simp only [Act.put, List.setIfInBounds_toArray, List.set_cons_zero, List.set_cons_succ]
    refine wpAnyH_take (i := 29) (oi := ⟨some 91, _, _, _, _, _⟩) (v := (.int .i64 0)) rfl (by kernel_rfl) (by kernel_rfl) (by kernel_rfl) (fun _ _ _ h => h) (Or.inl ⟨by rfl, ?_⟩) (by assumption) ?_
    · intro W hSW; go_simp
    simp only [Act.put, List.setIfInBounds_toArray, List.set_cons_zero, List.set_cons_succ]
    refine wpAnyH_take (i := 30) (oi := ⟨some 92, _, _, _, _, _⟩) (v := (.bool true)) rfl (by kernel_rfl) (by kernel_rfl) (by kernel_rfl) (fun _ _ _ h => h) (Or.inl ⟨by rfl, ?_⟩) (by assumption) ?_
    · intro W hSW; go_simp
    simp only [Act.put, List.setIfInBounds_toArray, List.set_cons_zero, List.set_cons_succ]
    refine wpAnyH_take (i := 31) (oi := ⟨some 93, _, _, _, _, _⟩) (v := (.slice p N cap)) rfl (by kernel_rfl) (by kernel_rfl) (by kernel_rfl) (fun _ _ _ h => h) (Or.inl ⟨by rfl, ?_⟩) (by assumption) ?_
    · intro W hSW; go_simp
    simp only [Act.put, List.setIfInBounds_toArray, List.set_cons_zero, List.set_cons_succ]
    refine wpAnyH_take (i := 32) (oi := ⟨some 94, _, _, _, _, _⟩) (v := (.slice q M cb)) rfl (by kernel_rfl) (by kernel_rfl) (by kernel_rfl) (fun _ _ _ h => h) (Or.inl ⟨by rfl, ?_⟩) (by assumption) ?_
    · intro W hSW; go_simp
    simp only [Act.put, List.setIfInBounds_toArray, List.set_cons_zero, List.set_cons_succ]
    refine wpAnyH_ready (rs := [33]) (by kernel_rfl) (by simp) ?_
    refine AllReadyH.cons rfl (fun KK hKK => ?_) AllReadyH.nil
    go_simp
    refine (within_as (TT _ aE3) (LA _ aE3) (LB _ aE3) HK64.out.1 HK64.out.2 true HZ.out).mono ?_
    rintro r e4 ⟨rfl, b4⟩
    dsimp only
    have aE4 := aE3.trans b4
    refine hKK.out _ _ (by assumption) (fun hHeld => ?_)
    clear hKK KK
    refine wpAnyH_take (i := 34) (oi := ⟨some 96, _, _, _, _, _⟩) (v := (.bool true)) rfl (by kernel_rfl) (by kernel_rfl) (by kernel_rfl) (fun _ _ _ h => h) (Or.inl ⟨by rfl, ?_⟩) (by assumption) ?_
    · intro W hSW; go_simp
    simp only [Act.put, List.setIfInBounds_toArray, List.set_cons_zero, List.set_cons_succ]
    refine wpAnyH_take (i := 35) (oi := ⟨some 97, _, _, _, _, _⟩) (v := (.bool true)) rfl (by kernel_rfl) (by kernel_rfl) (by kernel_rfl) (fun _ _ _ h => h) (Or.inl ⟨by rfl, ?_⟩) (by assumption) ?_
    · intro W hSW; go_simp
    simp only [Act.put, List.setIfInBounds_toArray, List.set_cons_zero, List.set_cons_succ]
    refine wpAnyH_take (i := 36) (oi := ⟨some 6, _, _, _, _, _⟩) (v := (.bool true)) rfl (by kernel_rfl) (by kernel_rfl) (by kernel_rfl) (fun _ _ _ h => h) (Or.inl ⟨by rfl, ?_⟩) (by assumption) ?_
    · intro W hSW; go_simp
    simp only [Act.put, List.setIfInBounds_toArray, List.set_cons_zero, List.set_cons_succ]
    refine wpAnyH_done (by kernel_rfl) ?_ _
    go_wp2
    go_ret
    exact ⟨rfl, aR.out.trans aE4⟩
  · have HZ : Hid (Is false (Win xs ys)) := ⟨by simp [← E4.out, hz]⟩
    have hz4 : (((tu : Int) - (tb : Int)) == 0) = false := by simpa using hz
    have hw0 : IntKind.wrap .i64 ((tu : Int) - (tb : Int)) = (tu : Int) - (tb : Int) := by rw [IntKind.wrap_i64]; omega
    clear E4
    refine wp_region_held_drew (S := fun X => Apart [] w9 X) (by kernel_rfl) aE (fun hHeld => ?_)
    refine wpAnyH_take (i := 0) (oi := ⟨some 62, _, _, _, _, _⟩) (v := (.pointer (some ⟨BH, 0, none⟩))) rfl (by kernel_rfl) (by kernel_rfl) (by kernel_rfl) (fun _ _ _ h => h) (Or.inl ⟨by rfl, ?_⟩) (by assumption) ?_
    · intro W hSW; go_simp
    simp only [Act.put, List.setIfInBounds_toArray, List.set_cons_zero, List.set_cons_succ]
    refine wpAnyH_take (i := 1) (oi := ⟨some 63, _, _, _, _, _⟩) (v := (.pointer (some ⟨BH, 0, none⟩))) rfl (by kernel_rfl) (by kernel_rfl) (by kernel_rfl) (fun _ _ _ h => h) (Or.inl ⟨by rfl, ?_⟩) (by assumption) ?_
    · intro W hSW; go_simp
    simp only [Act.put, List.setIfInBounds_toArray, List.set_cons_zero, List.set_cons_succ]
    refine wpAnyH_take (i := 2) (oi := ⟨some 64, _, _, _, _, _⟩) (v := (.pointer (some ⟨BH, 5, none⟩))) rfl (by kernel_rfl) (by kernel_rfl) (by kernel_rfl) (fun _ _ _ h => h) (Or.inl ⟨by rfl, ?_⟩) (by assumption) ?_
    · intro W hSW; go_simp
    simp only [Act.put, List.setIfInBounds_toArray, List.set_cons_zero, List.set_cons_succ]
    refine wpAnyH_take (i := 3) (oi := ⟨some 65, _, _, _, _, _⟩) (v := (.bool false)) rfl (by kernel_rfl) (by kernel_rfl) (by kernel_rfl) (fun _ _ _ h => h) (Or.inl ⟨by rfl, ?_⟩) (by assumption) ?_
    · intro W hSW; go_simp
    simp only [Act.put, List.setIfInBounds_toArray, List.set_cons_zero, List.set_cons_succ]
    refine wpAnyH_take (i := 4) (oi := ⟨some 66, _, _, _, _, _⟩) (v := (.bool true)) rfl (by kernel_rfl) (by kernel_rfl) (by kernel_rfl) (fun _ _ _ h => h) (Or.inl ⟨by rfl, ?_⟩) (by assumption) ?_
    · intro W hSW; go_simp
    simp only [Act.put, List.setIfInBounds_toArray, List.set_cons_zero, List.set_cons_succ]
    refine wpAnyH_take (i := 5) (oi := ⟨some 67, _, _, _, _, _⟩) (v := (.bool true)) rfl (by kernel_rfl) (by kernel_rfl) (by kernel_rfl) (fun _ _ _ h => h) (Or.inl ⟨by rfl, ?_⟩) (by assumption) ?_
    · intro W hSW; go_simp
    simp only [Act.put, List.setIfInBounds_toArray, List.set_cons_zero, List.set_cons_succ]
    refine wpAnyH_take (i := 6) (oi := ⟨some 68, _, _, _, _, _⟩) (v := (.pointer (some ⟨BH, 0, none⟩))) rfl (by kernel_rfl) (by kernel_rfl) (by kernel_rfl) (fun _ _ _ h => h) (Or.inl ⟨by rfl, ?_⟩) (by assumption) ?_
    · intro W hSW; go_simp
    simp only [Act.put, List.setIfInBounds_toArray, List.set_cons_zero, List.set_cons_succ]
    refine wpAnyH_take (i := 7) (oi := ⟨some 69, _, _, _, _, _⟩) (v := (.pointer (some ⟨BH, 0, none⟩))) rfl (by kernel_rfl) (by kernel_rfl) (by kernel_rfl) (fun _ _ _ h => h) (Or.inl ⟨by rfl, ?_⟩) (by assumption) ?_
    · intro W hSW; go_simp
    simp only [Act.put, List.setIfInBounds_toArray, List.set_cons_zero, List.set_cons_succ]
    refine wpAnyH_take (i := 8) (oi := ⟨some 70, _, _, _, _, _⟩) (v := (.pointer (some ⟨BH, 0, none⟩))) rfl (by kernel_rfl) (by kernel_rfl) (by kernel_rfl) (fun _ _ _ h => h) (Or.inl ⟨by rfl, ?_⟩) (by assumption) ?_
    · intro W hSW; go_simp
    simp only [Act.put, List.setIfInBounds_toArray, List.set_cons_zero, List.set_cons_succ]
    refine wpAnyH_take (i := 9) (oi := ⟨some 71, _, _, _, _, _⟩) (v := (.slice hp hn hc)) rfl (by kernel_rfl) (by kernel_rfl) (by kernel_rfl) (fun _ _ _ h => h) (Or.inl ⟨by rfl, ?_⟩) (by assumption) ?_
    · intro W hSW; go_simp
    simp only [Act.put, List.setIfInBounds_toArray, List.set_cons_zero, List.set_cons_succ]
    refine wpAnyH_take (i := 10) (oi := ⟨some 72, _, _, _, _, _⟩) (v := (.slice u un uc)) rfl (by kernel_rfl) (by kernel_rfl) (by kernel_rfl) (fun _ _ _ h => h) (Or.inl ⟨by rfl, ?_⟩) (by assumption) ?_
    · intro W hSW; go_simp
    simp only [Act.put, List.setIfInBounds_toArray, List.set_cons_zero, List.set_cons_succ]
    refine wpAnyH_ready (rs := [11]) (by kernel_rfl) (by simp) ?_
    refine AllReadyH.cons rfl (fun KK hKK => ?_) AllReadyH.nil
    go_simp
    refine (same_as (LH _ aE) (LU _ aE) true ⟨by simp⟩).mono ?_
    rintro r e1 ⟨rfl, b1⟩
    dsimp only
    have aE1 := aE.trans b1
    refine hKK.out _ _ (by assumption) (fun hHeld => ?_)
    clear hKK KK
    refine wpAnyH_take (i := 12) (oi := ⟨some 74, _, _, _, _, _⟩) (v := (.bool true)) rfl (by kernel_rfl) (by kernel_rfl) (by kernel_rfl) (fun _ _ _ h => h) (Or.inl ⟨by rfl, ?_⟩) (by assumption) ?_
    · intro W hSW; go_simp
    simp only [Act.put, List.setIfInBounds_toArray, List.set_cons_zero, List.set_cons_succ]
    refine wpAnyH_take (i := 13) (oi := ⟨some 75, _, _, _, _, _⟩) (v := (.bool true)) rfl (by kernel_rfl) (by kernel_rfl) (by kernel_rfl) (fun _ _ _ h => h) (Or.inl ⟨by rfl, ?_⟩) (by assumption) ?_
    · intro W hSW; go_simp
    simp only [Act.put, List.setIfInBounds_toArray, List.set_cons_zero, List.set_cons_succ]
    refine wpAnyH_take (i := 14) (oi := ⟨some 76, _, _, _, _, _⟩) (v := (.pointer (some ⟨BH, 0, none⟩))) rfl (by kernel_rfl) (by kernel_rfl) (by kernel_rfl) (fun _ _ _ h => h) (Or.inl ⟨by rfl, ?_⟩) (by assumption) ?_
    · intro W hSW; go_simp
    simp only [Act.put, List.setIfInBounds_toArray, List.set_cons_zero, List.set_cons_succ]
    refine wpAnyH_take (i := 15) (oi := ⟨some 77, _, _, _, _, _⟩) (v := (.pointer (some ⟨BH, 0, none⟩))) rfl (by kernel_rfl) (by kernel_rfl) (by kernel_rfl) (fun _ _ _ h => h) (Or.inl ⟨by rfl, ?_⟩) (by assumption) ?_
    · intro W hSW; go_simp
    simp only [Act.put, List.setIfInBounds_toArray, List.set_cons_zero, List.set_cons_succ]
    refine wpAnyH_take (i := 16) (oi := ⟨some 78, _, _, _, _, _⟩) (v := (.pointer (some ⟨BH, 2, none⟩))) rfl (by kernel_rfl) (by kernel_rfl) (by kernel_rfl) (fun _ _ _ h => h) (Or.inl ⟨by rfl, ?_⟩) (by assumption) ?_
    · intro W hSW; go_simp
    simp only [Act.put, List.setIfInBounds_toArray, List.set_cons_zero, List.set_cons_succ]
    refine wpAnyH_take (i := 17) (oi := ⟨some 79, _, _, _, _, _⟩) (v := (.int .i64 ((tu : Int) - (tb : Int)))) rfl (by kernel_rfl) (by kernel_rfl) (by kernel_rfl) (fun _ _ _ h => h) (Or.inl ⟨by rfl, ?_⟩) (by assumption) ?_
    · intro W hSW; go_simp
    simp only [Act.put, List.setIfInBounds_toArray, List.set_cons_zero, List.set_cons_succ]
    refine wpAnyH_take (i := 18) (oi := ⟨some 80, _, _, _, _, _⟩) (v := (.slice u un uc)) rfl (by kernel_rfl) (by kernel_rfl) (by kernel_rfl) (fun _ _ _ h => h) (Or.inl ⟨by rfl, ?_⟩) (by assumption) ?_
    · intro W hSW; go_simp
    simp only [Act.put, List.setIfInBounds_toArray, List.set_cons_zero, List.set_cons_succ]
    refine wpAnyH_take (i := 20) (oi := ⟨some 82, _, _, _, _, _⟩) (v := (.slice q M cb)) rfl (by kernel_rfl) (by kernel_rfl) (by kernel_rfl) (fun _ _ _ h => h) (Or.inl ⟨by rfl, ?_⟩) (by assumption) ?_
    · intro W hSW; go_simp
    simp only [Act.put, List.setIfInBounds_toArray, List.set_cons_zero, List.set_cons_succ]
    refine wpAnyH_ready (rs := [19]) (by kernel_rfl) (by simp) ?_
    refine AllReadyH.cons rfl (fun KK hKK => ?_) AllReadyH.nil
    go_simp
    refine (count_as (LU _ aE1) HKU.out HTU.out).mono ?_
    rintro r e2 ⟨rfl, b2⟩
    dsimp only
    have aE2 := aE1.trans b2
    refine hKK.out _ _ (by assumption) (fun hHeld => ?_)
    clear hKK KK
    refine wpAnyH_ready (rs := [21]) (by kernel_rfl) (by simp) ?_
    refine AllReadyH.cons rfl (fun KK hKK => ?_) AllReadyH.nil
    go_simp
    refine (count_as (LB _ aE2) HKB.out HTB.out).mono ?_
    rintro r e3 ⟨rfl, b3⟩
    dsimp only
    have aE3 := aE2.trans b3
    refine hKK.out _ _ (by assumption) (fun hHeld => ?_)
    clear hKK KK
    refine wpAnyH_take (i := 22) (oi := ⟨some 84, _, _, _, _, _⟩) (v := (.int .i64 ((tu : Int) - (tb : Int)))) rfl (by kernel_rfl) (by kernel_rfl) (by kernel_rfl) (fun _ _ _ h => h) (Or.inl ⟨by rfl, ?_⟩) (by assumption) ?_
    · intro W hSW; go_simp
    simp only [Act.put, List.setIfInBounds_toArray, List.set_cons_zero, List.set_cons_succ]
    refine wpAnyH_take (i := 23) (oi := ⟨some 85, _, _, _, _, _⟩) (v := (.bool true)) rfl (by kernel_rfl) (by kernel_rfl) (by kernel_rfl) (fun _ _ _ h => h) (Or.inl ⟨by rfl, ?_⟩) (by assumption) ?_
    · intro W hSW; go_simp
    simp only [Act.put, List.setIfInBounds_toArray, List.set_cons_zero, List.set_cons_succ]
    refine wpAnyH_take (i := 24) (oi := ⟨some 86, _, _, _, _, _⟩) (v := (.bool true)) rfl (by kernel_rfl) (by kernel_rfl) (by kernel_rfl) (fun _ _ _ h => h) (Or.inl ⟨by rfl, ?_⟩) (by assumption) ?_
    · intro W hSW; go_simp
    simp only [Act.put, List.setIfInBounds_toArray, List.set_cons_zero, List.set_cons_succ]
    refine wpAnyH_take (i := 25) (oi := ⟨some 87, _, _, _, _, _⟩) (v := (.bool true)) rfl (by kernel_rfl) (by kernel_rfl) (by kernel_rfl) (fun _ _ _ h => h) (Or.inl ⟨by rfl, ?_⟩) (by assumption) ?_
    · intro W hSW; go_simp
    simp only [Act.put, List.setIfInBounds_toArray, List.set_cons_zero, List.set_cons_succ]
    refine wpAnyH_take (i := 26) (oi := ⟨some 88, _, _, _, _, _⟩) (v := (.pointer (some ⟨BH, 0, none⟩))) rfl (by kernel_rfl) (by kernel_rfl) (by kernel_rfl) (fun _ _ _ h => h) (Or.inl ⟨by rfl, ?_⟩) (by assumption) ?_
    · intro W hSW; go_simp
    simp only [Act.put, List.setIfInBounds_toArray, List.set_cons_zero, List.set_cons_succ]
    refine wpAnyH_take (i := 27) (oi := ⟨some 89, _, _, _, _, _⟩) (v := (.pointer (some ⟨BH, 0, none⟩))) rfl (by kernel_rfl) (by kernel_rfl) (by kernel_rfl) (fun _ _ _ h => h) (Or.inl ⟨by rfl, ?_⟩) (by assumption) ?_
    · intro W hSW; go_simp
    simp only [Act.put, List.setIfInBounds_toArray, List.set_cons_zero, List.set_cons_succ]
    refine wpAnyH_take (i := 28) (oi := ⟨some 90, _, _, _, _, _⟩) (v := (.pointer (some ⟨BH, 2, none⟩))) rfl (by kernel_rfl) (by kernel_rfl) (by kernel_rfl) (fun _ _ _ h => h) (Or.inl ⟨by rfl, ?_⟩) (by assumption) ?_
    · intro W hSW; go_simp
    simp only [Act.put, List.setIfInBounds_toArray, List.set_cons_zero, List.set_cons_succ]
    refine wpAnyH_take (i := 29) (oi := ⟨some 91, _, _, _, _, _⟩) (v := (.int .i64 ((tu : Int) - (tb : Int)))) rfl (by kernel_rfl) (by kernel_rfl) (by kernel_rfl) (fun _ _ _ h => h) (Or.inl ⟨by rfl, ?_⟩) (by assumption) ?_
    · intro W hSW; go_simp
    simp only [Act.put, List.setIfInBounds_toArray, List.set_cons_zero, List.set_cons_succ]
    refine wpAnyH_take (i := 30) (oi := ⟨some 92, _, _, _, _, _⟩) (v := (.bool false)) rfl (by kernel_rfl) (by kernel_rfl) (by kernel_rfl) (fun _ _ _ h => h) (Or.inl ⟨by rfl, ?_⟩) (by assumption) ?_
    · intro W hSW; go_simp
    simp only [Act.put, List.setIfInBounds_toArray, List.set_cons_zero, List.set_cons_succ]
    refine wpAnyH_take (i := 31) (oi := ⟨some 93, _, _, _, _, _⟩) (v := (.slice p N cap)) rfl (by kernel_rfl) (by kernel_rfl) (by kernel_rfl) (fun _ _ _ h => h) (Or.inl ⟨by rfl, ?_⟩) (by assumption) ?_
    · intro W hSW; go_simp
    simp only [Act.put, List.setIfInBounds_toArray, List.set_cons_zero, List.set_cons_succ]
    refine wpAnyH_take (i := 32) (oi := ⟨some 94, _, _, _, _, _⟩) (v := (.slice q M cb)) rfl (by kernel_rfl) (by kernel_rfl) (by kernel_rfl) (fun _ _ _ h => h) (Or.inl ⟨by rfl, ?_⟩) (by assumption) ?_
    · intro W hSW; go_simp
    simp only [Act.put, List.setIfInBounds_toArray, List.set_cons_zero, List.set_cons_succ]
    refine wpAnyH_ready (rs := [33]) (by kernel_rfl) (by simp) ?_
    refine AllReadyH.cons rfl (fun KK hKK => ?_) AllReadyH.nil
    go_simp
    refine (within_as (TT _ aE3) (LA _ aE3) (LB _ aE3) HK64.out.1 HK64.out.2 false HZ.out).mono ?_
    rintro r e4 ⟨rfl, b4⟩
    dsimp only
    have aE4 := aE3.trans b4
    refine hKK.out _ _ (by assumption) (fun hHeld => ?_)
    clear hKK KK
    refine wpAnyH_take (i := 34) (oi := ⟨some 96, _, _, _, _, _⟩) (v := (.bool true)) rfl (by kernel_rfl) (by kernel_rfl) (by kernel_rfl) (fun _ _ _ h => h) (Or.inl ⟨by rfl, ?_⟩) (by assumption) ?_
    · intro W hSW; go_simp
    simp only [Act.put, List.setIfInBounds_toArray, List.set_cons_zero, List.set_cons_succ]
    refine wpAnyH_take (i := 35) (oi := ⟨some 97, _, _, _, _, _⟩) (v := (.bool true)) rfl (by kernel_rfl) (by kernel_rfl) (by kernel_rfl) (fun _ _ _ h => h) (Or.inl ⟨by rfl, ?_⟩) (by assumption) ?_
    · intro W hSW; go_simp
    simp only [Act.put, List.setIfInBounds_toArray, List.set_cons_zero, List.set_cons_succ]
    refine wpAnyH_take (i := 36) (oi := ⟨some 6, _, _, _, _, _⟩) (v := (.bool true)) rfl (by kernel_rfl) (by kernel_rfl) (by kernel_rfl) (fun _ _ _ h => h) (Or.inl ⟨by rfl, ?_⟩) (by assumption) ?_
    · intro W hSW; go_simp
    simp only [Act.put, List.setIfInBounds_toArray, List.set_cons_zero, List.set_cons_succ]
    refine wpAnyH_done (by kernel_rfl) ?_ _
    go_wp2
    go_ret
    exact ⟨rfl, aR.out.trans aE4⟩
end Go.Proofs.YtdggkofihppcmaaDoor.ds
