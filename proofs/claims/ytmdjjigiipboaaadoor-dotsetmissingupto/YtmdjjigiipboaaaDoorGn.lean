import Derived.Test.YtmdjjigiipboaaaDoorGn0
import Derived.Test.YtmdjjigiipboaaaDoorGf
import Derived.Test.YtmdjjigiipboaaaDoorGc
import Derived.Test.YtmdjjigiipboaaaDoorMg
import Derived.Test.YtmdjjigiipboaaaDoorWl
namespace Go.Proofs.YtmdjjigiipboaaaDoor.ds
open Go.ChangeShapes Go.WideShapes Go.ChangeAt Go.RowKit
set_option linter.unusedVariables false
set_option linter.unusedSimpArgs false
attribute [local go_sem] eqf
theorem OwnD.plt {w w' : World} {p : Option Addr} {n cap : Nat} {ds : List (Int × Int)} (h : OwnD w w' p n cap ds) : ∀ P o, p = some ⟨P, o, none⟩ → w.heap.size ≤ P ∧ P < w'.heap.size := by
  intro P o e
  obtain ⟨hl2, ⟨hv, hz⟩ | ⟨G, cap', cur, hv, hb, hr, hle, _⟩⟩ := id h.own
  · simp only [Value.slice.injEq] at hv
    rw [e] at hv; cases hv.1
  · simp only [Value.slice.injEq] at hv
    obtain ⟨hv1, _, _⟩ := hv
    rw [e] at hv1
    have : P = G := by injection hv1 with h1; injection h1
    subst this
    exact ⟨h.new P (by rw [e]; rfl), lt_of_heap hr⟩
theorem apart_fr {w w' : World} {G : Nat} (a : Apart [G] w w') : Fr (fun k => ¬ k = G) w w' := ⟨a.os, a.tape, a.output, a.size, fun k hk h => a.block k hk (by simpa using h)⟩
theorem Fr.two {w w' w2 : World} {G H : Nat} (f : Fr (fun k => ¬ k = G) w w') (g : Fr (fun k => ¬ k = H) w' w2) : Fr (fun k => ¬ (k = G ∨ k = H)) w w2 :=
  ⟨g.os.trans f.os, g.tape.trans f.tape, g.output.trans f.output, Nat.le_trans f.size g.size, fun k hk h => (g.block k (Nat.lt_of_lt_of_le hk f.size) (fun e => h (.inr e))).trans (f.block k hk (fun e => h (.inl e)))⟩
set_option maxHeartbeats 20000000 in
set_option maxRecDepth 100000 in
theorem gone_ok (w : World) (T : Tab w) (K gap st dn dc : Int) (pa pb : Option Addr) (na ca nb cb : Nat) (xs ys : List S) (la : L w pa na xs) (lb : L w pb nb ys) (hna : na ≤ 1048576) (hnb : nb ≤ 1048576) :
    Calls Tryd.prog 69 #[.agg #[.int .i64 K, .int .i64 gap, .int .i64 st, .slice pa na ca, .slice pb nb cb, .int .i64 dn, .int .i64 dc]] w fun r w' => r = .returned (.bool true) ∧ Apart [] w w' := by
  have hm := boxO w (.int .i64 K) (.int .i64 gap) (.int .i64 st) (.slice pa na ca) (.slice pb nb cb) (.int .i64 dn) (.int .i64 dc)
  have B : Apart [] w (w.alloc (.cells #[.int .i64 K, .int .i64 gap, .int .i64 st, .slice pa na ca, .slice pb nb cb, .int .i64 dn, .int .i64 dc] 48)) := (Apart.refl _ _).alloc _
  go_enter Tryd.func69, Tryd.ntmps69
  go_wp2_with fail
  generalize w.alloc (.cells #[.int .i64 K, .int .i64 gap, .int .i64 st, .slice pa na ca, .slice pb nb cb, .int .i64 dn, .int .i64 dc] 48) = V at *
  replace T := T.kept0 B
  replace la := la.kept0 B
  replace lb := lb.kept0 B
  refine (rmissing3_ok la lb).mono ?_
  rintro r w1 ⟨⟨p, n, cap, rfl, od⟩⟩
  dsimp only
  have OD := hid od
  have D1 := od.ap
  clear od
  obtain ⟨q0, q1, q2, q3, q4, q5, q6⟩ := hm _ D1
  go_wp2_with fail
  refine (lent_own (la.kept0 D1) (by omega)).mono ?_
  rintro r w2 ⟨⟨G1, c1, cur1, rfl, hc1, l1, x1, a2, g1, row1, sz1⟩⟩
  dsimp only
  clear q0 q1 q2 q3 q4 q5 q6
  have D2 := D1.trans a2
  obtain ⟨q0, q1, q2, q3, q4, q5, q6⟩ := hm _ D2
  go_wp2_with fail
  refine (lent_own (lb.kept0 D2) (by omega)).mono ?_
  rintro r w3 ⟨⟨G2, c2, cur2, rfl, hc2, l2, x2, a3, g2, row2, sz2⟩⟩
  dsimp only
  clear q0 q1 q2 q3 q4 q5 q6
  have D3 := D2.trans a3
  have hn1 : na ≤ c1 := by omega
  have hn2 : nb ≤ c2 := by omega
  have L1 := hid (l1.kept0 a3)
  have X1 := hid (x1.kept0 a3)
  have L2 := hid l2
  have X2 := hid x2
  have R1 := hid ((a3.block G1 (lt_of_heap row1) (by simp)).trans row1)
  have R2 := hid row2
  have OD3 := hid (OD.out.kept (a2.trans a3))
  have HG1 := hid g1
  have HG2 := hid g2
  have HG12 : Hid (G1 < w2.heap.size) := lt_of_heap row1
  have HG23 : Hid (G2 < w3.heap.size) := lt_of_heap row2
  have HA3 := hid a3
  have HA2 := hid a2
  have HD1 := hid D1
  have LA := hid (la.kept0 D3)
  have LB := hid (lb.kept0 D3)
  have HT := hid (T.kept0 D3)
  clear l1 x1 l2 x2 row1 row2 g1 g2
  go_wp2_with fail
  have aD : Apart [] w3 w3.drew := (Apart.refl _ _).drew
  have D4 := D3.trans aD
  have r3 : ∀ W, Apart [] V W → W.cell? ⟨w.heap.size, 3, none⟩ = some (.slice pa na ca) := fun W a => (hm W a).2.2.2.1
  have r4 : ∀ W, Apart [] V W → W.cell? ⟨w.heap.size, 4, none⟩ = some (.slice pb nb cb) := fun W a => (hm W a).2.2.2.2.1
  refine wp_region_held_drew (S := fun W => Apart [] V W) (by kernel_rfl) D4 (fun hHeld => ?_)
  refine wpAnyH_take (i := 0) (oi := ⟨some 22, _, _, _, _, _⟩) (v := (.slice (some ⟨G1, 0, none⟩) (na + 2 : Nat) c1)) rfl (by kernel_rfl) (by kernel_rfl) (by kernel_rfl) (fun _ _ _ h => h) (Or.inl ⟨by rfl, ?_⟩) (by assumption) ?_
  · intro W hSW; go_simp
  simp only [Act.put, List.setIfInBounds_toArray, List.set_cons_zero, List.set_cons_succ]
  refine wpAnyH_take (i := 1) (oi := ⟨some 23, _, _, _, _, _⟩) (v := (.pointer (some ⟨w.heap.size, 3, none⟩))) rfl (by kernel_rfl) (by kernel_rfl) (by kernel_rfl) (fun _ _ _ h => h) (Or.inl ⟨by rfl, ?_⟩) (by assumption) ?_
  · intro W hSW; go_simp
  simp only [Act.put, List.setIfInBounds_toArray, List.set_cons_zero, List.set_cons_succ]
  refine wpAnyH_take (i := 2) (oi := ⟨some 24, _, _, _, _, _⟩) (v := (.slice pa na ca)) rfl (by kernel_rfl) (by kernel_rfl) (by kernel_rfl) (fun _ _ _ h => h) (Or.inl ⟨by rfl, ?_⟩) (by assumption) ?_
  · intro W hSW; go_simp
  simp only [Act.put, List.setIfInBounds_toArray, List.set_cons_zero, List.set_cons_succ]
  refine wpAnyH_take (i := 3) (oi := ⟨some 25, _, _, _, _, _⟩) (v := (.int .i64 na)) rfl (by kernel_rfl) (by kernel_rfl) (by kernel_rfl) (fun _ _ _ h => h) (Or.inl ⟨by rfl, ?_⟩) (by assumption) ?_
  · intro W hSW; go_simp
  simp only [Act.put, List.setIfInBounds_toArray, List.set_cons_zero, List.set_cons_succ]
  refine wpAnyH_take (i := 4) (oi := ⟨some 26, _, _, _, _, _⟩) (v := (.slice (some ⟨G1, 0, none⟩) na c1)) rfl (by kernel_rfl) (by kernel_rfl) (by kernel_rfl) (fun _ _ _ h => h) (Or.inl ⟨by rfl, ?_⟩) (by assumption) ?_
  · intro W hSW; go_simp
  simp only [Act.put, List.setIfInBounds_toArray, List.set_cons_zero, List.set_cons_succ]
  refine wpAnyH_take (i := 5) (oi := ⟨some 27, _, _, _, _, _⟩) (v := (.slice (some ⟨G2, 0, none⟩) (nb + 2 : Nat) c2)) rfl (by kernel_rfl) (by kernel_rfl) (by kernel_rfl) (fun _ _ _ h => h) (Or.inl ⟨by rfl, ?_⟩) (by assumption) ?_
  · intro W hSW; go_simp
  simp only [Act.put, List.setIfInBounds_toArray, List.set_cons_zero, List.set_cons_succ]
  refine wpAnyH_take (i := 6) (oi := ⟨some 28, _, _, _, _, _⟩) (v := (.pointer (some ⟨w.heap.size, 4, none⟩))) rfl (by kernel_rfl) (by kernel_rfl) (by kernel_rfl) (fun _ _ _ h => h) (Or.inl ⟨by rfl, ?_⟩) (by assumption) ?_
  · intro W hSW; go_simp
  simp only [Act.put, List.setIfInBounds_toArray, List.set_cons_zero, List.set_cons_succ]
  refine wpAnyH_take (i := 7) (oi := ⟨some 29, _, _, _, _, _⟩) (v := (.slice pb nb cb)) rfl (by kernel_rfl) (by kernel_rfl) (by kernel_rfl) (fun _ _ _ h => h) (Or.inl ⟨by rfl, ?_⟩) (by assumption) ?_
  · intro W hSW; go_simp
  simp only [Act.put, List.setIfInBounds_toArray, List.set_cons_zero, List.set_cons_succ]
  refine wpAnyH_take (i := 8) (oi := ⟨some 30, _, _, _, _, _⟩) (v := (.int .i64 nb)) rfl (by kernel_rfl) (by kernel_rfl) (by kernel_rfl) (fun _ _ _ h => h) (Or.inl ⟨by rfl, ?_⟩) (by assumption) ?_
  · intro W hSW; go_simp
  simp only [Act.put, List.setIfInBounds_toArray, List.set_cons_zero, List.set_cons_succ]
  refine wpAnyH_take (i := 9) (oi := ⟨some 31, _, _, _, _, _⟩) (v := (.slice (some ⟨G2, 0, none⟩) nb c2)) rfl (by kernel_rfl) (by kernel_rfl) (by kernel_rfl) (fun _ _ _ h => h) (Or.inl ⟨by rfl, ?_⟩) (by assumption) ?_
  · intro W hSW; go_simp
  simp only [Act.put, List.setIfInBounds_toArray, List.set_cons_zero, List.set_cons_succ]
  refine wpAnyH_ready (rs := [10]) (by kernel_rfl) (by simp) ?_
  refine AllReadyH.cons rfl (fun KK hKK => ?_) AllReadyH.nil
  go_simp
  refine (missing_ok _ _ _ _ _ _ _ _ _ (X1.out.kept0 aD) (X2.out.kept0 aD) (pl_some _ _ _ _) (pl_some _ _ _ _)).mono ?_
  rintro r w4 ⟨⟨BA, BB, pa', na', ca', pb', nb', cb', rfl, hBA, hBB, hA, hB, la', lb', npa, npb, a4⟩⟩
  dsimp only
  have D5 := D4.trans a4
  refine hKK.out _ _ (by assumption) (fun hHeld => ?_)
  clear hKK KK
  refine wpAnyH_take (i := 11) (oi := ⟨some 6, _, _, _, _, _⟩) (v := (.func (.func 60) #[] #[.pointer (some ⟨BA, 0, none⟩), .pointer (some ⟨BB, 0, none⟩)])) rfl (by kernel_rfl) (by kernel_rfl) (by kernel_rfl) (fun _ _ _ h => h) (Or.inl ⟨by rfl, ?_⟩) (by assumption) ?_
  · intro W hSW; go_simp
  simp only [Act.put, List.setIfInBounds_toArray, List.set_cons_zero, List.set_cons_succ]
  refine wpAnyH_done (by kernel_rfl) ?_ _
  clear r3 r4
  obtain ⟨q0, q1, q2, q3, q4, q5, q6⟩ := hm _ D5
  have A34 : Apart [] w3 w4 := aD.trans a4
  have OD4 := hid (OD3.out.kept A34)
  have HN3 : n ≤ 300 := OD4.out.le3
  have HOP := hid (fun P o e => (OD.out.plt P o e).2 : ∀ P o, p = some ⟨P, o, none⟩ → P < w1.heap.size)
  have HLA := hid la'
  have HLB := hid lb'
  have HPA := hid npa
  have HPB := hid npb
  have HHA := hid hA
  have HHB := hid hB
  have HBA := hid hBA
  have HBB := hid hBB
  have H34 := hid A34
  clear la' lb' npa npb hA hB hBA hBB A34 a4 aD D4 OD3
  go_wp2_with fail
  refine (walk1 w4 (HT.out.kept0 H34.out) BA BB p pa' pb' n cap na' ca' nb' cb' st (norm xs) (norm ys) HHA.out HHB.out HLA.out HLB.out (norm_ok xs) (norm_ok ys) (fun P o e => (HPA.out P o e).2) (fun P o e => (HPB.out P o e).2) (fun P o e => (OD4.out.plt P o e).2) (OD4.out.LD (by omega))).mono ?_
  rintro r w5 ⟨⟨v5, rfl⟩, ⟨k5, en5, wk5, he5⟩, hO5, a5⟩
  dsimp only
  clear q0 q1 q2 q3 q4 q5 q6
  have D6 := D5.trans a5
  have WK5 := hid wk5
  have HE5 := hid he5
  clear wk5 he5
  obtain ⟨q0, q1, q2, q3, q4, q5, q6⟩ := hm _ D6
  go_wp2_with fail
  refine (well_ok WK5.out HE5.out).mono ?_
  rintro r w6 ⟨rfl, a6⟩
  dsimp only
  clear q0 q1 q2 q3 q4 q5 q6
  have E6 := (H34.out.trans a5).trans a6
  obtain ⟨q0, q1, q2, q3, q4, q5, q6⟩ := hm _ (D6.trans a6)
  go_wp2_with fail
  refine (lent_ok (LA.out.kept0 E6) (by omega)).mono ?_
  rintro r w7 ⟨⟨G3, c3, rfl, _, l3, _, a7⟩⟩
  dsimp only
  clear q0 q1 q2 q3 q4 q5 q6
  have E7 := E6.trans a7
  go_wp2_with fail
  refine (same_as (L1.out.kept0 E7) l3 true ⟨by simp⟩).mono ?_
  rintro r w8 ⟨rfl, a8⟩
  dsimp only
  have E8 := E7.trans a8
  obtain ⟨q0, q1, q2, q3, q4, q5, q6⟩ := hm _ (D3.trans E8)
  go_wp2_with fail
  refine (lent_ok (LB.out.kept0 E8) (by omega)).mono ?_
  rintro r w9 ⟨⟨G4, c4, rfl, _, l4, _, a9⟩⟩
  dsimp only
  clear q0 q1 q2 q3 q4 q5 q6
  have E9 := E8.trans a9
  go_wp2_with fail
  refine (same_as (L2.out.kept0 E9) l4 true ⟨by simp⟩).mono ?_
  rintro r w10 ⟨rfl, a10⟩
  dsimp only
  have E10 := hid (E9.trans a10)
  have E4 := hid ((((((a5.trans a6).trans a7).trans a8).trans a9).trans a10) : Apart [] w4 w10)
  have R10 := hid ((E10.out.block G1 (Nat.lt_of_lt_of_le HG12.out HA3.out.size) (by simp)).trans R1.out)
  have S10 := hid ((E10.out.block G2 HG23.out (by simp)).trans R2.out)
  have HL3 := hid L1.out.lim
  clear l3 l4 a5 a6 a7 a8 a9 a10 E6 E7 E8 E9 hO5
  go_wp2_with fail
  go_loopw [8] (fun v wr => ∃ i : Nat, i ≤ na + 2 ∧ v = .int .i64 i ∧ Apart [G1] w10 wr ∧ ∃ cur, wr.heap[G1]? = some (.cells cur 52 (0, 0)) ∧ (na + 2) * 3 ≤ cur.size) (fun v _ => na + 2 - (intOf v).toNat)
  case atStart => exact ⟨0, Nat.zero_le _, rfl, Apart.refl _ _, _, R10.out, sz1⟩
  case round =>
    obtain ⟨i, hi, rfl, aR, cur, row, sz⟩ := hrel
    by_cases hlt : i < na + 2
    · obtain ⟨u0, e0⟩ := cell_ex row (j := i * 3) (by omega)
      obtain ⟨u1, e1⟩ := cell_ex row (j := i * 3 + 1) (by omega)
      obtain ⟨u2, e2⟩ := cell_ex row (j := i * 3 + 2) (by omega)
      have z0 := frozen_of_row wr G1 (i * 3) _ _ row
      have z1 := frozen_of_row wr G1 (i * 3 + 1) _ _ row
      have z2 := frozen_of_row wr G1 (i * 3 + 2) _ _ row
      have HROW := hid row
      clear row
      have hwi : IntKind.i64.wrap ((i : Int) + 1) = (i : Int) + 1 := by rw [IntKind.wrap_i64]; omega
      go_wp2
      obtain ⟨cur', row', sz'⟩ := put3 HROW.out (i * 3) (.int .i64 ((i : Int) % 8)) (.int .i64 3) (.int .u64 0)
      go_roundw
      case rel => exact ⟨i + 1, by omega, by simp, ((aR.setCell (by simp) _).setCell (by simp) _).setCell (by simp) _, cur', row', by omega⟩
      case measure => simp [intOf]; omega
    · have RA := hid aR
      clear row sz aR cur
      obtain rfl : i = na + 2 := by omega
      have S11 := hid ((RA.out.block G2 (lt_of_heap S10.out) (by simp only [List.mem_singleton]; have h1 := HG2.out; have h2 := HG12.out; intro h; subst h; exact absurd h2 (Nat.not_lt.2 h1))).trans S10.out)
      go_wp2_with fail
      obtain ⟨w11, hw11⟩ : ∃ W, W = wr := ⟨_, rfl⟩
      rw [← hw11] at RA S11 ⊢
      clear hw11 wr
      go_loopw [9] (fun v wr => ∃ i : Nat, i ≤ nb + 2 ∧ v = .int .i64 i ∧ Apart [G2] w11 wr ∧ ∃ cur, wr.heap[G2]? = some (.cells cur 52 (0, 0)) ∧ (nb + 2) * 3 ≤ cur.size) (fun v _ => nb + 2 - (intOf v).toNat)
      case atStart => exact ⟨0, Nat.zero_le _, rfl, Apart.refl _ _, _, S11.out, sz2⟩
      case round =>
        obtain ⟨i, hi, rfl, aR, cur, row, sz⟩ := hrel
        by_cases hlt2 : i < nb + 2
        · obtain ⟨u0, e0⟩ := cell_ex row (j := i * 3) (by omega)
          obtain ⟨u1, e1⟩ := cell_ex row (j := i * 3 + 1) (by omega)
          obtain ⟨u2, e2⟩ := cell_ex row (j := i * 3 + 2) (by omega)
          have z0 := frozen_of_row wr G2 (i * 3) _ _ row
          have z1 := frozen_of_row wr G2 (i * 3 + 1) _ _ row
          have z2 := frozen_of_row wr G2 (i * 3 + 2) _ _ row
          have HROW := hid row
          clear row
          have hwi : IntKind.i64.wrap ((i : Int) + 1) = (i : Int) + 1 := by rw [IntKind.wrap_i64]; omega
          go_wp2
          obtain ⟨cur', row', sz'⟩ := put3 HROW.out (i * 3) (.int .i64 0) (.int .i64 0) (.int .u64 0)
          go_roundw
          case rel => exact ⟨i + 1, by omega, by simp, ((aR.setCell (by simp) _).setCell (by simp) _).setCell (by simp) _, cur', row', by omega⟩
          case measure => simp [intOf]; omega
        · have RB := hid aR
          clear row sz aR cur
          obtain ⟨w12, hw12⟩ : ∃ W, W = wr := ⟨_, rfl⟩
          rw [← hw12] at RB ⊢
          clear hw12 wr
          have F := hid ((apart_fr RA.out).two (apart_fr RB.out))
          have s3 : Hid (w2.heap.size ≤ w3.heap.size) := HA3.out.size
          have s4 : Hid (w3.heap.size ≤ w4.heap.size) := H34.out.size
          have s10 : Hid (w4.heap.size ≤ w10.heap.size) := E4.out.size
          have s12 : Hid (w10.heap.size ≤ w12.heap.size) := F.out.size
          have s1 : Hid (w1.heap.size ≤ w2.heap.size) := HA2.out.size
          have g1 : Hid (w1.heap.size ≤ G1) := HG1.out
          have g2 : Hid (w2.heap.size ≤ G2) := HG2.out
          have g12 : Hid (G1 < w2.heap.size) := HG12.out
          have g23 : Hid (G2 < w3.heap.size) := HG23.out
          have K3 : ∀ k, w3.heap.size ≤ k → ¬ (k = G1 ∨ k = G2) := fun k hk h => by
            have := g12.out; have := g23.out; have := s3.out; omega
          have K1 : ∀ k, k < w1.heap.size → ¬ (k = G1 ∨ k = G2) := fun k hk h => by
            have := g1.out; have := g2.out; have := s1.out; omega
          have HK3 := hid K3
          have HK1 := hid K1
          clear K3 K1
          have T12 := hid (F.out.tab ((HT.out.kept0 H34.out).kept0 E4.out) (HK1.out 0 (Nat.lt_of_lt_of_le T.lt HD1.out.size)))
          have hA12 := hid (F.out.cell (E4.out.keep HHA.out) (HK3.out BA (by first | exact HBA.out | exact Nat.le_trans (Nat.le_of_eq rfl) HBA.out)))
          have hB12 := hid (F.out.cell (E4.out.keep HHB.out) (HK3.out BB (by first | exact HBB.out | exact Nat.le_trans (Nat.le_of_eq rfl) HBB.out)))
          have la12 := hid ((HLA.out.kept0 E4.out).fr F.out (fun P o e => HK3.out P (HPA.out P o e).1))
          have lb12 := hid ((HLB.out.kept0 E4.out).fr F.out (fun P o e => HK3.out P (HPB.out P o e).1))
          have ld12 := hid (((OD4.out.LD (by omega)).kept0 E4.out).fr F.out (fun P o e => HK1.out P (HOP.out P o e)))
          go_wp2_with fail
          refine (walk2 w12 T12.out BA BB p pa' pb' n cap na' ca' nb' cb' (-1) (norm xs) (norm ys) hA12.out hB12.out la12.out lb12.out (norm_ok xs) (norm_ok ys) (fun P o e => by have := (HPA.out P o e).2; have := s10.out; have := s12.out; omega) (fun P o e => by have := (HPB.out P o e).2; have := s10.out; have := s12.out; omega) (fun P o e => by have := (OD4.out.plt P o e).2; have := s10.out; have := s12.out; omega) ld12.out).mono ?_
          rintro r w13 ⟨⟨v13, rfl⟩, ⟨k13, en13, wk13, he13⟩, hO13, a13⟩
          dsimp only
          have WK13 := hid wk13
          have HE13 := hid he13
          clear wk13 he13
          go_wp2_with fail
          refine (well_ok WK13.out HE13.out).mono ?_
          rintro r w14 ⟨rfl, a14⟩
          dsimp only
          go_wp2
          go_ret
          have b0 : Apart [] w w10 := B.trans (D3.trans E10.out)
          have sw : w.heap.size ≤ w1.heap.size := Nat.le_trans B.size HD1.out.size
          have b1 : Apart [] w w11 := b0.trans' RA.out (fun y hy => .inr (by simp at hy; have := g1.out; omega))
          have b2 : Apart [] w w12 := b1.trans' RB.out (fun y hy => .inr (by simp at hy; have := g2.out; have := s1.out; omega))
          exact ⟨rfl, b2.trans (a13.trans a14)⟩
end Go.Proofs.YtmdjjigiipboaaaDoor.ds
