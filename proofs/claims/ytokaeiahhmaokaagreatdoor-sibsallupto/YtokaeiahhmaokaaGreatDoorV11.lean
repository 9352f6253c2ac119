import Derived.Test.YtokaeiahhmaokaaGreatDoorV1
import Derived.Test.YtokaeiahhmaokaaGreatDoorV10
import Derived.Test.YtokaeiahhmaokaaGreatDoorV8
import Derived.Laws.BytesString
namespace Go.Proofs.YtokaeiahhmaokaaGreatDoor.ds
open Go.ChangeShapes Go.WideShapes Go.ChangeAt Go.RowKit Go.Sort
set_option linter.unusedVariables false
set_option linter.unusedSimpArgs false
/-- what Merge leaves, of the writes as they lie in memory; X: how their contexts read -/
noncomputable def leftE (X : E → List S) (es : List E) (u : E) : List E := es.filter fun t => !cvE (X u) u t
noncomputable def mergeE (X : E → List S) (es : List E) (u : E) : List E := if (leftE X es u).any (fun t => cvE (X t) t u) = true then leftE X es u else insE u (leftE X es u)
theorem leftE_len (X : E → List S) (es : List E) (u : E) : (leftE X es u).length ≤ es.length := List.length_filter_le _ _
theorem mergeE_len (X : E → List S) (es : List E) (u : E) : (mergeE X es u).length ≤ es.length + 1 := by
  have := leftE_len X es u
  unfold mergeE
  split
  · omega
  · rw [insE_length]; omega
theorem leftE_snoc (X : E → List S) (l : List E) (x u : E) : leftE X (l ++ [x]) u = leftE X l u ++ (if cvE (X u) u x = true then [] else [x]) := by
  unfold leftE
  rw [List.filter_append]
  by_cases h : cvE (X u) u x = true
  · simp [h]
  · simp [h]
theorem any_take {f : E → Bool} {es : List E} {i : Nat} (hi : i < es.length) : (es.take (i + 1)).any f = ((es.take i).any f || f (gE es i)) := by
  rw [takeE hi, List.any_append]; simp
/-- what Merge answers: the error, the list -/
noncomputable def merr (X : E → List S) (es : List E) (u : E) (lim : Int) : Int := if es.any (fun t => !keq t.k u.k) = true then 50 else if es.any (fun t => deq t u) = true then 0 else if lim < (mergeE X es u).length then 51 else 0
noncomputable def mlist (X : E → List S) (es : List E) (u : E) (lim : Int) : List E := if es.any (fun t => !keq t.k u.k) = true then [] else if es.any (fun t => deq t u) = true then es else if lim < (mergeE X es u).length then [] else mergeE X es u
set_option maxHeartbeats 16000000 in
set_option maxRecDepth 100000 in
theorem rmerge_ok (w : World) (p : Option Addr) (N cap : Nat) (es : List E) (u : E) (lim : Int) (X : E → List S) (h : LE w p N es) (hN : N ≤ 1100000) (hX : ∀ j, j < N → L w (gE es j).x.p (gE es j).x.n (X (gE es j))) (hu : L w u.x.p u.x.n (X u)) :
    Calls Tryz.prog 29 #[.slice p N cap, u.agg, .int .i64 lim] w fun r w' => ∃ s : Sl, r = .returned (.tuple #[s.v, .int .i64 (merr X es u lim)]) ∧ LE w' s.p s.n (mlist X es u lim) ∧ Apart [] w w' := by
  have aB : Apart [] w (w.alloc (boxE u)) := (Apart.refl [] w).alloc _
  have HB := hid aB
  have HC := hid (Cap.new w u)
  have HL := hid h
  have HN := hid h.len
  have HX := hid hX
  have HU := hid hu
  have hgd := guard24
  clear h aB hX hu
  unfold E.agg
  go_enter Tryz.func29, Tryz.ntmps29
  go_wp2_with fail
  go_loopw [8, 9] (fun v8 v9 wr => ∃ i : Nat, v9 = .int .i64 (i : Nat) ∧ i ≤ N ∧ v8 = .bool ((es.take i).any (fun t => deq t u)) ∧ (es.take i).any (fun t => !keq t.k u.k) = false ∧ Apart [] (w.alloc (boxE u)) wr) (fun _ v9 _ => N - (intOf v9).toNat)
  case atStart => exact ⟨0, rfl, Nat.zero_le _, by simp, by simp, Apart.refl _ _⟩
  case round =>
    obtain ⟨i, rfl, hi, rfl, hk0, ap⟩ := hrel
    have HA := hid ap
    have HK0 := hid hk0
    clear ap hk0
    have HCr := hid (HC.out.kept0 HA.out)
    by_cases hlt : i < N
    · obtain ⟨P, o, rfl, hP, hc⟩ := (HL.out.kept0 (HB.out.trans HA.out)).at (by omega)
      obtain ⟨c0, c1, c2, c3, c4, c5⟩ := hc i hlt
      obtain ⟨u0, u1, u2, u3, u4, u5⟩ := row6 HCr.out
      have hal : i < es.length := by rw [HN.out]; exact hlt
      have HT1 := hid (any_take (f := fun t => deq t u) hal)
      have HT2 := hid (any_take (f := fun t => !keq t.k u.k) hal)
      obtain ⟨x, hx⟩ : ∃ x, x = gE es i := ⟨_, rfl⟩
      have HXE := hid hx
      rw [← hx] at c0 c1 c2 c3 c4 c5 HT1 HT2
      have hq := fun W => eql24 W x.n x.c u.n u.c
      clear hc hx hal
      cases hkq : keq x.k u.k
      · have hk : (x.k.toList == u.k.toList) = false := hkq
        have HKQ := hid hkq
        clear hkq
        go_wp2_with fail
        go_quiet (fail)
        go_wp2
        go_ret2
        have e1 : es.any (fun t => !keq t.k u.k) = true := by
          rw [List.any_eq_true]
          refine ⟨gE es i, by rw [gE_eq _ _ (by rw [HN.out]; exact hlt)]; exact List.getElem_mem _, ?_⟩
          rw [← HXE.out, HKQ.out]; rfl
        exact ⟨⟨none, 0, 0⟩, by unfold merr; rw [if_pos e1]; rfl, by unfold mlist; rw [if_pos e1]; exact LE.nil _ _, (HB.out.trans HA.out).drewN _⟩
      · have hk : (x.k.toList == u.k.toList) = true := hkq
        have HKQ := hid hkq
        clear hkq
        cases hdq : deq x u
        · have hdq' : (decide (x.n = u.n) && decide (x.c = u.c)) = false := hdq
          have HDQ := hid hdq
          clear hdq
          rw [hdq'] at hq
          clear hdq'
          go_wp2_with fail
          go_quiet (fail)
          go_wp2_with fail
          go_quiet (fail)
          go_wp2
          go_roundw
          case rel => exact ⟨i + 1, by go_num, by omega, by rw [HT1.out, HDQ.out, Bool.or_false], by rw [HT2.out, HK0.out, HKQ.out]; rfl, HA.out.drewN _⟩
          case measure => simp [intOf]; omega
        · have hdq' : (decide (x.n = u.n) && decide (x.c = u.c)) = true := hdq
          have HDQ := hid hdq
          clear hdq
          rw [hdq'] at hq
          clear hdq'
          go_wp2_with fail
          go_quiet (fail)
          go_wp2_with fail
          go_quiet (fail)
          go_wp2
          go_roundw
          case rel => exact ⟨i + 1, by go_num, by omega, by rw [HT1.out, HDQ.out, Bool.or_true], by rw [HT2.out, HK0.out, HKQ.out]; rfl, HA.out.drewN _⟩
          case measure => simp [intOf]; omega
    · obtain rfl : N = i := by omega
      have htk : es.take N = es := List.take_of_length_le (by rw [HN.out]; exact Nat.le_refl _)
      rw [htk] at HK0
      cases hd : (es.take N).any (fun t => deq t u)
      · rw [htk] at hd
        have HD := hid hd
        clear hd htk
        have o0 : OwnE (w.alloc (boxE u)) wr ⟨none, 0, 0⟩ (leftE X (es.take 0) u) := OwnE.nil _ _ HA.out
        clear HCr
        go_wp2_with fail
        go_loopw [10, 11, 12] (fun v10 v11 v12 wq => ∃ (i : Nat) (s : Sl), v12 = .int .i64 (i : Nat) ∧ i ≤ N ∧ v10 = s.v ∧ v11 = .bool ((leftE X (es.take i) u).any (fun t => cvE (X t) t u)) ∧ OwnE (w.alloc (boxE u)) wq s (leftE X (es.take i) u)) (fun _ _ v12 _ => N - (intOf v12).toNat)
        case atStart => exact ⟨0, ⟨none, 0, 0⟩, rfl, Nat.zero_le _, rfl, rfl, o0⟩
        case round =>
          clear o0 HA
          obtain ⟨i, ⟨ps, ns, cs⟩, rfl, hi, rfl, rfl, own⟩ := hrel
          have HO := hid own
          have HA := hid own.nw.ap
          clear own
          have HCr := hid (HC.out.kept0 HA.out)
          have hns : ns ≤ 1100000 := by
            have h1 := HO.out.len
            have h2 := leftE_len X (es.take i) u
            rw [List.length_take] at h2
            simp only at h1
            omega
          have hbx := fun W => buildE W (gE es i)
          unfold Sl.v
          by_cases hlt : i < N
          · obtain ⟨P, o, hpe, hPw, _⟩ := HL.out.at (by omega)
            obtain ⟨P', o', hpe', hP, hc⟩ := (HL.out.kept0 (HB.out.trans HA.out)).at (by omega)
            rw [hpe] at hpe'
            simp at hpe'
            obtain ⟨rfl, rfl⟩ := hpe'
            subst hpe
            obtain ⟨c0, c1, c2, c3, c4, c5⟩ := hc i hlt
            obtain ⟨u0, u1, u2, u3, u4, u5⟩ := row6 HCr.out
            have hlB : w.heap.size < wr.drew.heap.size := lt_of_heap HCr.out
            have hlP : P < wr.drew.heap.size := hP
            have HTK := hid (takeE (es := es) (i := i) (by rw [HN.out]; exact hlt))
            have HXx := hid (HX.out i hlt)
            obtain ⟨x, hx⟩ : ∃ x, x = gE es i := ⟨_, rfl⟩
            rw [← hx] at c0 c1 c2 c3 c4 c5 hbx HTK HXx
            obtain ⟨v1, HV1⟩ : ∃ v1, Hid (v1 = cvE (X u) u x) := ⟨_, rfl⟩
            have hC1 := rcovers_ok u x (X u) wr.drew (HU.out.kept0 ((HB.out.trans HA.out).drew)) v1 HV1.out
            unfold Sl.v at c4 c5 u4 u5
            unfold E.agg Sl.v at hbx hC1
            clear hc hx
            go_wp2_with fail
            refine wp_region_held_drew (S := fun X => X.cell? ⟨w.heap.size, 0, none⟩ = some (.int .i64 u.n) ∧ X.cell? ⟨w.heap.size, 1, none⟩ = some (.int .i64 u.c) ∧ X.cell? ⟨w.heap.size, 2, none⟩ = some (.string u.k) ∧ X.cell? ⟨w.heap.size, 3, none⟩ = some (.bool u.d) ∧ X.cell? ⟨w.heap.size, 4, none⟩ = some (.slice u.v.p u.v.n u.v.c) ∧ X.cell? ⟨w.heap.size, 5, none⟩ = some (.slice u.x.p u.x.n u.x.c) ∧ X.cell? ⟨P, o + i * 6, none⟩ = some (.int .i64 x.n) ∧ X.cell? ⟨P, o + i * 6 + 1, none⟩ = some (.int .i64 x.c) ∧ X.cell? ⟨P, o + i * 6 + 2, none⟩ = some (.string x.k) ∧ X.cell? ⟨P, o + i * 6 + 3, none⟩ = some (.bool x.d) ∧ X.cell? ⟨P, o + i * 6 + 4, none⟩ = some (.slice x.v.p x.v.n x.v.c) ∧ X.cell? ⟨P, o + i * 6 + 5, none⟩ = some (.slice x.x.p x.x.n x.x.c)) (by kernel_rfl) ⟨u0, u1, u2, u3, u4, u5, c0, c1, c2, c3, c4, c5⟩ (fun hHeld => ?_)
            refine tk 0 43 (.agg #[.int .i64 u.n, .int .i64 u.c, .string u.k, .bool u.d, .slice u.v.p u.v.n u.v.c, .slice u.x.p u.x.n u.x.c]) rfl ?_ ?_
            · intro W hSW; obtain ⟨hu0, hu1, hu2, hu3, hu4, hu5, hx0, hx1, hx2, hx3, hx4, hx5⟩ := hSW; go_simp
            simp only [Act.put, List.setIfInBounds_toArray, List.set_cons_zero, List.set_cons_succ]
            refine tk 1 44 (.slice (some ⟨P, o, none⟩) N cap) rfl ?_ ?_
            · intro W hSW; obtain ⟨hu0, hu1, hu2, hu3, hu4, hu5, hx0, hx1, hx2, hx3, hx4, hx5⟩ := hSW; go_simp
            simp only [Act.put, List.setIfInBounds_toArray, List.set_cons_zero, List.set_cons_succ]
            refine tk 2 45 (.int .i64 (i : Nat)) rfl ?_ ?_
            · intro W hSW; obtain ⟨hu0, hu1, hu2, hu3, hu4, hu5, hx0, hx1, hx2, hx3, hx4, hx5⟩ := hSW; go_simp
            simp only [Act.put, List.setIfInBounds_toArray, List.set_cons_zero, List.set_cons_succ]
            refine tk 3 46 (.pointer (some ⟨P, o + i * 6, none⟩)) rfl ?_ ?_
            · intro W hSW; obtain ⟨hu0, hu1, hu2, hu3, hu4, hu5, hx0, hx1, hx2, hx3, hx4, hx5⟩ := hSW; go_simp
            simp only [Act.put, List.setIfInBounds_toArray, List.set_cons_zero, List.set_cons_succ]
            refine tk 4 47 (.agg #[.int .i64 x.n, .int .i64 x.c, .string x.k, .bool x.d, .slice x.v.p x.v.n x.v.c, .slice x.x.p x.x.n x.x.c]) rfl ?_ ?_
            · intro W hSW; obtain ⟨hu0, hu1, hu2, hu3, hu4, hu5, hx0, hx1, hx2, hx3, hx4, hx5⟩ := hSW; go_simp
            simp only [Act.put, List.setIfInBounds_toArray, List.set_cons_zero, List.set_cons_succ]
            refine wpAnyH_ready (rs := [5]) (by kernel_rfl) (by simp) ?_
            refine AllReadyH.cons rfl (fun KK hKK => ?_) AllReadyH.nil
            go_simp
            refine hC1.mono ?_
            clear hC1
            rintro r1 w2 ⟨rfl, a2⟩
            dsimp only
            have hSx : w2.cell? ⟨w.heap.size, 0, none⟩ = some (.int .i64 u.n) ∧ w2.cell? ⟨w.heap.size, 1, none⟩ = some (.int .i64 u.c) ∧ w2.cell? ⟨w.heap.size, 2, none⟩ = some (.string u.k) ∧ w2.cell? ⟨w.heap.size, 3, none⟩ = some (.bool u.d) ∧ w2.cell? ⟨w.heap.size, 4, none⟩ = some (.slice u.v.p u.v.n u.v.c) ∧ w2.cell? ⟨w.heap.size, 5, none⟩ = some (.slice u.x.p u.x.n u.x.c) ∧ w2.cell? ⟨P, o + i * 6, none⟩ = some (.int .i64 x.n) ∧ w2.cell? ⟨P, o + i * 6 + 1, none⟩ = some (.int .i64 x.c) ∧ w2.cell? ⟨P, o + i * 6 + 2, none⟩ = some (.string x.k) ∧ w2.cell? ⟨P, o + i * 6 + 3, none⟩ = some (.bool x.d) ∧ w2.cell? ⟨P, o + i * 6 + 4, none⟩ = some (.slice x.v.p x.v.n x.v.c) ∧ w2.cell? ⟨P, o + i * 6 + 5, none⟩ = some (.slice x.x.p x.x.n x.x.c) := ⟨(a2.cell (p := ⟨w.heap.size, 0, none⟩) hlB (by simp)).trans u0, (a2.cell (p := ⟨w.heap.size, 1, none⟩) hlB (by simp)).trans u1, (a2.cell (p := ⟨w.heap.size, 2, none⟩) hlB (by simp)).trans u2, (a2.cell (p := ⟨w.heap.size, 3, none⟩) hlB (by simp)).trans u3, (a2.cell (p := ⟨w.heap.size, 4, none⟩) hlB (by simp)).trans u4, (a2.cell (p := ⟨w.heap.size, 5, none⟩) hlB (by simp)).trans u5, (a2.cell (p := ⟨P, o + i * 6, none⟩) hlP (by simp)).trans c0, (a2.cell (p := ⟨P, o + i * 6 + 1, none⟩) hlP (by simp)).trans c1, (a2.cell (p := ⟨P, o + i * 6 + 2, none⟩) hlP (by simp)).trans c2, (a2.cell (p := ⟨P, o + i * 6 + 3, none⟩) hlP (by simp)).trans c3, (a2.cell (p := ⟨P, o + i * 6 + 4, none⟩) hlP (by simp)).trans c4, (a2.cell (p := ⟨P, o + i * 6 + 5, none⟩) hlP (by simp)).trans c5⟩
            refine hKK.out _ _ hSx (fun hHeld => ?_)
            clear hKK KK
            refine tk 6 49 (.bool (!v1)) rfl ?_ ?_
            · intro W hSW; obtain ⟨hu0, hu1, hu2, hu3, hu4, hu5, hx0, hx1, hx2, hx3, hx4, hx5⟩ := hSW; go_simp
            simp only [Act.put, List.setIfInBounds_toArray, List.set_cons_zero, List.set_cons_succ]
            refine wpAnyH_done (by kernel_rfl) ?_ _
            obtain ⟨du0, du1, du2, du3, du4, du5, dc0, dc1, dc2, dc3, dc4, dc5⟩ := hSx
            clear c0 c1 c2 c3 c4 c5 u0 u1 u2 u3 u4 u5
            have HA2 := hid (HA.out.drew.trans a2)
            cases v1
            · obtain ⟨s', W3, hrun, own', hn', ap'⟩ := run_appE (s := ⟨ps, ns, cs⟩) (HO.out.kept ((Apart.refl [] wr).drew.trans a2)) (by show ns ≤ _; omega) x 35
              have hb2 : w.heap.size < w2.heap.size := block_lt_of_cell du0
              have hp2 : P < w2.heap.size := block_lt_of_cell dc0
              have nB : w.heap.size ∉ (Sl.v ⟨ps, ns, cs⟩).ownBlock.toList := fun hm => by
                have := HO.out.nw.new _ (by simpa using hm)
                simp at this; omega
              have nP : P ∉ (Sl.v ⟨ps, ns, cs⟩).ownBlock.toList := fun hm => by
                have := HO.out.nw.new _ (by simpa using hm)
                simp at this; omega
              have eu0 := (ap'.cell (p := ⟨w.heap.size, 0, none⟩) hb2 nB).trans du0
              have eu1 := (ap'.cell (p := ⟨w.heap.size, 1, none⟩) hb2 nB).trans du1
              have eu2 := (ap'.cell (p := ⟨w.heap.size, 2, none⟩) hb2 nB).trans du2
              have eu3 := (ap'.cell (p := ⟨w.heap.size, 3, none⟩) hb2 nB).trans du3
              have eu4 := (ap'.cell (p := ⟨w.heap.size, 4, none⟩) hb2 nB).trans du4
              have eu5 := (ap'.cell (p := ⟨w.heap.size, 5, none⟩) hb2 nB).trans du5
              have ec0 := (ap'.cell (p := ⟨P, o + i * 6, none⟩) hp2 nP).trans dc0
              have ec1 := (ap'.cell (p := ⟨P, o + i * 6 + 1, none⟩) hp2 nP).trans dc1
              have ec2 := (ap'.cell (p := ⟨P, o + i * 6 + 2, none⟩) hp2 nP).trans dc2
              have ec3 := (ap'.cell (p := ⟨P, o + i * 6 + 3, none⟩) hp2 nP).trans dc3
              have ec4 := (ap'.cell (p := ⟨P, o + i * 6 + 4, none⟩) hp2 nP).trans dc4
              have ec5 := (ap'.cell (p := ⟨P, o + i * 6 + 5, none⟩) hp2 nP).trans dc5
              have HO2 := hid own'
              have HLS : Hid (leftE X (es.take (i + 1)) u = leftE X (es.take i) u ++ [x]) := by
                show leftE X (es.take (i + 1)) u = _
                rw [HTK.out, leftE_snoc, ← HV1.out]; simp
              have hlB3 : w.heap.size < W3.drew.heap.size := block_lt_of_cell eu0
              have hlP3 : P < W3.drew.heap.size := block_lt_of_cell ec0
              obtain ⟨v2, HV2⟩ : ∃ v2, Hid (v2 = cvE (X x) x u) := ⟨_, rfl⟩
              have hC2 := rcovers_ok x u (X x) W3.drew (HXx.out.kept0 ((HB.out.trans own'.nw.ap).drew)) v2 HV2.out
              unfold E.agg Sl.v at hC2
              unfold Sl.v boxE at hrun
              clear own' ap' hn' nB nP
              cases hcv : (leftE X (es.take i) u).any (fun t => cvE (X t) t u)
              · have HCV := hid hcv
                clear hcv
                go_wp2_with (at_builtin; refine wpList_append3 rfl (.tmp 50) (.tmp 55) 35 rfl _ _ rfl rfl _ _ hrun ?_)
                clear du0 du1 du2 du3 du4 du5 dc0 dc1 dc2 dc3 dc4 dc5
                refine wp_region_held_drew (S := fun X => X.cell? ⟨w.heap.size, 0, none⟩ = some (.int .i64 u.n) ∧ X.cell? ⟨w.heap.size, 1, none⟩ = some (.int .i64 u.c) ∧ X.cell? ⟨w.heap.size, 2, none⟩ = some (.string u.k) ∧ X.cell? ⟨w.heap.size, 3, none⟩ = some (.bool u.d) ∧ X.cell? ⟨w.heap.size, 4, none⟩ = some (.slice u.v.p u.v.n u.v.c) ∧ X.cell? ⟨w.heap.size, 5, none⟩ = some (.slice u.x.p u.x.n u.x.c) ∧ X.cell? ⟨P, o + i * 6, none⟩ = some (.int .i64 x.n) ∧ X.cell? ⟨P, o + i * 6 + 1, none⟩ = some (.int .i64 x.c) ∧ X.cell? ⟨P, o + i * 6 + 2, none⟩ = some (.string x.k) ∧ X.cell? ⟨P, o + i * 6 + 3, none⟩ = some (.bool x.d) ∧ X.cell? ⟨P, o + i * 6 + 4, none⟩ = some (.slice x.v.p x.v.n x.v.c) ∧ X.cell? ⟨P, o + i * 6 + 5, none⟩ = some (.slice x.x.p x.x.n x.x.c)) (by kernel_rfl) ⟨eu0, eu1, eu2, eu3, eu4, eu5, ec0, ec1, ec2, ec3, ec4, ec5⟩ (fun hHeld => ?_)
                refine tk 0 57 (.bool false) rfl ?_ ?_
                · intro W hSW; obtain ⟨hu0, hu1, hu2, hu3, hu4, hu5, hx0, hx1, hx2, hx3, hx4, hx5⟩ := hSW; go_simp
                simp only [Act.put, List.setIfInBounds_toArray, List.set_cons_zero, List.set_cons_succ]
                refine tk 1 58 (.bool false) rfl ?_ ?_
                · intro W hSW; obtain ⟨hu0, hu1, hu2, hu3, hu4, hu5, hx0, hx1, hx2, hx3, hx4, hx5⟩ := hSW; go_simp
                simp only [Act.put, List.setIfInBounds_toArray, List.set_cons_zero, List.set_cons_succ]
                refine tk 2 59 (.slice (some ⟨P, o, none⟩) N cap) rfl ?_ ?_
                · intro W hSW; obtain ⟨hu0, hu1, hu2, hu3, hu4, hu5, hx0, hx1, hx2, hx3, hx4, hx5⟩ := hSW; go_simp
                simp only [Act.put, List.setIfInBounds_toArray, List.set_cons_zero, List.set_cons_succ]
                refine tk 3 60 (.int .i64 (i : Nat)) rfl ?_ ?_
                · intro W hSW; obtain ⟨hu0, hu1, hu2, hu3, hu4, hu5, hx0, hx1, hx2, hx3, hx4, hx5⟩ := hSW; go_simp
                simp only [Act.put, List.setIfInBounds_toArray, List.set_cons_zero, List.set_cons_succ]
                refine tk 4 61 (.pointer (some ⟨P, o + i * 6, none⟩)) rfl ?_ ?_
                · intro W hSW; obtain ⟨hu0, hu1, hu2, hu3, hu4, hu5, hx0, hx1, hx2, hx3, hx4, hx5⟩ := hSW; go_simp
                simp only [Act.put, List.setIfInBounds_toArray, List.set_cons_zero, List.set_cons_succ]
                refine tk 5 62 (.agg #[.int .i64 x.n, .int .i64 x.c, .string x.k, .bool x.d, .slice x.v.p x.v.n x.v.c, .slice x.x.p x.x.n x.x.c]) rfl ?_ ?_
                · intro W hSW; obtain ⟨hu0, hu1, hu2, hu3, hu4, hu5, hx0, hx1, hx2, hx3, hx4, hx5⟩ := hSW; go_simp
                simp only [Act.put, List.setIfInBounds_toArray, List.set_cons_zero, List.set_cons_succ]
                refine tk 6 63 (.agg #[.int .i64 u.n, .int .i64 u.c, .string u.k, .bool u.d, .slice u.v.p u.v.n u.v.c, .slice u.x.p u.x.n u.x.c]) rfl ?_ ?_
                · intro W hSW; obtain ⟨hu0, hu1, hu2, hu3, hu4, hu5, hx0, hx1, hx2, hx3, hx4, hx5⟩ := hSW; go_simp
                simp only [Act.put, List.setIfInBounds_toArray, List.set_cons_zero, List.set_cons_succ]
                refine wpAnyH_ready (rs := [7]) (by kernel_rfl) (by simp) ?_
                refine AllReadyH.cons rfl (fun KK hKK => ?_) AllReadyH.nil
                go_simp
                refine hC2.mono ?_
                clear hC2
                rintro r1 w4 ⟨rfl, a4⟩
                dsimp only
                have hSy : w4.cell? ⟨w.heap.size, 0, none⟩ = some (.int .i64 u.n) ∧ w4.cell? ⟨w.heap.size, 1, none⟩ = some (.int .i64 u.c) ∧ w4.cell? ⟨w.heap.size, 2, none⟩ = some (.string u.k) ∧ w4.cell? ⟨w.heap.size, 3, none⟩ = some (.bool u.d) ∧ w4.cell? ⟨w.heap.size, 4, none⟩ = some (.slice u.v.p u.v.n u.v.c) ∧ w4.cell? ⟨w.heap.size, 5, none⟩ = some (.slice u.x.p u.x.n u.x.c) ∧ w4.cell? ⟨P, o + i * 6, none⟩ = some (.int .i64 x.n) ∧ w4.cell? ⟨P, o + i * 6 + 1, none⟩ = some (.int .i64 x.c) ∧ w4.cell? ⟨P, o + i * 6 + 2, none⟩ = some (.string x.k) ∧ w4.cell? ⟨P, o + i * 6 + 3, none⟩ = some (.bool x.d) ∧ w4.cell? ⟨P, o + i * 6 + 4, none⟩ = some (.slice x.v.p x.v.n x.v.c) ∧ w4.cell? ⟨P, o + i * 6 + 5, none⟩ = some (.slice x.x.p x.x.n x.x.c) := ⟨(a4.cell (p := ⟨w.heap.size, 0, none⟩) hlB3 (by simp)).trans eu0, (a4.cell (p := ⟨w.heap.size, 1, none⟩) hlB3 (by simp)).trans eu1, (a4.cell (p := ⟨w.heap.size, 2, none⟩) hlB3 (by simp)).trans eu2, (a4.cell (p := ⟨w.heap.size, 3, none⟩) hlB3 (by simp)).trans eu3, (a4.cell (p := ⟨w.heap.size, 4, none⟩) hlB3 (by simp)).trans eu4, (a4.cell (p := ⟨w.heap.size, 5, none⟩) hlB3 (by simp)).trans eu5, (a4.cell (p := ⟨P, o + i * 6, none⟩) hlP3 (by simp)).trans ec0, (a4.cell (p := ⟨P, o + i * 6 + 1, none⟩) hlP3 (by simp)).trans ec1, (a4.cell (p := ⟨P, o + i * 6 + 2, none⟩) hlP3 (by simp)).trans ec2, (a4.cell (p := ⟨P, o + i * 6 + 3, none⟩) hlP3 (by simp)).trans ec3, (a4.cell (p := ⟨P, o + i * 6 + 4, none⟩) hlP3 (by simp)).trans ec4, (a4.cell (p := ⟨P, o + i * 6 + 5, none⟩) hlP3 (by simp)).trans ec5⟩
                refine hKK.out _ _ hSy (fun hHeld => ?_)
                clear hKK KK
                refine tk 8 65 (.bool v2) rfl ?_ ?_
                · intro W hSW; obtain ⟨hu0, hu1, hu2, hu3, hu4, hu5, hx0, hx1, hx2, hx3, hx4, hx5⟩ := hSW; go_simp
                simp only [Act.put, List.setIfInBounds_toArray, List.set_cons_zero, List.set_cons_succ]
                refine tk 9 11 (.bool v2) rfl ?_ ?_
                · intro W hSW; obtain ⟨hu0, hu1, hu2, hu3, hu4, hu5, hx0, hx1, hx2, hx3, hx4, hx5⟩ := hSW; go_simp
                simp only [Act.put, List.setIfInBounds_toArray, List.set_cons_zero, List.set_cons_succ]
                refine wpAnyH_done (by kernel_rfl) ?_ _
                go_wp2
                go_roundw
                case rel => exact ⟨i + 1, s', by go_num, by omega, rfl, by rw [HLS.out, List.any_append, HCV.out, HV2.out]; simp, by rw [HLS.out]; exact (HO2.out.kept ((Apart.refl [] W3).drew.trans a4))⟩
                case measure => simp [intOf]; omega
              · have HCV := hid hcv
                clear hcv hC2
                go_wp2_with (at_builtin; refine wpList_append3 rfl (.tmp 50) (.tmp 55) 35 rfl _ _ rfl rfl _ _ hrun ?_)
                clear du0 du1 du2 du3 du4 du5 dc0 dc1 dc2 dc3 dc4 dc5
                refine wp_region_held_drew (S := fun X => X.cell? ⟨w.heap.size, 0, none⟩ = some (.int .i64 u.n) ∧ X.cell? ⟨w.heap.size, 1, none⟩ = some (.int .i64 u.c) ∧ X.cell? ⟨w.heap.size, 2, none⟩ = some (.string u.k) ∧ X.cell? ⟨w.heap.size, 3, none⟩ = some (.bool u.d) ∧ X.cell? ⟨w.heap.size, 4, none⟩ = some (.slice u.v.p u.v.n u.v.c) ∧ X.cell? ⟨w.heap.size, 5, none⟩ = some (.slice u.x.p u.x.n u.x.c) ∧ X.cell? ⟨P, o + i * 6, none⟩ = some (.int .i64 x.n) ∧ X.cell? ⟨P, o + i * 6 + 1, none⟩ = some (.int .i64 x.c) ∧ X.cell? ⟨P, o + i * 6 + 2, none⟩ = some (.string x.k) ∧ X.cell? ⟨P, o + i * 6 + 3, none⟩ = some (.bool x.d) ∧ X.cell? ⟨P, o + i * 6 + 4, none⟩ = some (.slice x.v.p x.v.n x.v.c) ∧ X.cell? ⟨P, o + i * 6 + 5, none⟩ = some (.slice x.x.p x.x.n x.x.c)) (by kernel_rfl) ⟨eu0, eu1, eu2, eu3, eu4, eu5, ec0, ec1, ec2, ec3, ec4, ec5⟩ (fun hHeld => ?_)
                refine tk 0 57 (.bool true) rfl ?_ ?_
                · intro W hSW; obtain ⟨hu0, hu1, hu2, hu3, hu4, hu5, hx0, hx1, hx2, hx3, hx4, hx5⟩ := hSW; go_simp
                simp only [Act.put, List.setIfInBounds_toArray, List.set_cons_zero, List.set_cons_succ]
                refine tk 1 58 (.bool true) rfl ?_ ?_
                · intro W hSW; obtain ⟨hu0, hu1, hu2, hu3, hu4, hu5, hx0, hx1, hx2, hx3, hx4, hx5⟩ := hSW; go_simp
                simp only [Act.put, List.setIfInBounds_toArray, List.set_cons_zero, List.set_cons_succ]
                refine tu 2 59 rfl ?_
                simp only [Act.put, List.setIfInBounds_toArray, List.set_cons_zero, List.set_cons_succ]
                refine tu 3 60 rfl ?_
                simp only [Act.put, List.setIfInBounds_toArray, List.set_cons_zero, List.set_cons_succ]
                refine tu 4 61 rfl ?_
                simp only [Act.put, List.setIfInBounds_toArray, List.set_cons_zero, List.set_cons_succ]
                refine tu 5 62 rfl ?_
                simp only [Act.put, List.setIfInBounds_toArray, List.set_cons_zero, List.set_cons_succ]
                refine tu 6 63 rfl ?_
                simp only [Act.put, List.setIfInBounds_toArray, List.set_cons_zero, List.set_cons_succ]
                refine tu 7 64 rfl ?_
                simp only [Act.put, List.setIfInBounds_toArray, List.set_cons_zero, List.set_cons_succ]
                refine tk 8 65 (.bool true) rfl ?_ ?_
                · intro W hSW; obtain ⟨hu0, hu1, hu2, hu3, hu4, hu5, hx0, hx1, hx2, hx3, hx4, hx5⟩ := hSW; go_simp
                simp only [Act.put, List.setIfInBounds_toArray, List.set_cons_zero, List.set_cons_succ]
                refine tk 9 11 (.bool true) rfl ?_ ?_
                · intro W hSW; obtain ⟨hu0, hu1, hu2, hu3, hu4, hu5, hx0, hx1, hx2, hx3, hx4, hx5⟩ := hSW; go_simp
                simp only [Act.put, List.setIfInBounds_toArray, List.set_cons_zero, List.set_cons_succ]
                refine wpAnyH_done (by kernel_rfl) ?_ _
                go_wp2
                go_roundw
                case rel => exact ⟨i + 1, s', by go_num, by omega, rfl, by rw [HLS.out, List.any_append, HCV.out]; rfl, by rw [HLS.out]; exact (HO2.out.kept ((Apart.refl [] W3).drew))⟩
                case measure => simp [intOf]; omega
            · have HLS : Hid (leftE X (es.take (i + 1)) u = leftE X (es.take i) u) := by
                show leftE X (es.take (i + 1)) u = _
                rw [HTK.out, leftE_snoc, ← HV1.out]; simp
              go_wp2
              go_roundw
              case rel => exact ⟨i + 1, ⟨ps, ns, cs⟩, by go_num, by omega, rfl, by rw [HLS.out], by rw [HLS.out]; exact HO.out.kept ((Apart.refl [] wr).drew.trans a2)⟩
              case measure => simp [intOf]; omega
          · obtain rfl : N = i := by omega
            have htk : es.take N = es := List.take_of_length_le (by rw [HN.out]; exact Nat.le_refl _)
            rw [htk] at HO
            have n1 : ¬ es.any (fun t => !keq t.k u.k) = true := by rw [HK0.out]; simp
            have n2 : ¬ es.any (fun t => deq t u) = true := by rw [HD.out]; simp
            have HN1 := hid n1
            have HN2 := hid n2
            obtain ⟨u0, u1, u2, u3, u4, u5⟩ := row6 HCr.out
            unfold Sl.v at u4 u5
            clear n1 n2 hbx
            cases hcv : (leftE X (es.take N) u).any (fun t => cvE (X t) t u)
            · rw [htk] at hcv
              have HM : Hid (mergeE X es u = insE u (leftE X es u)) := by
                show mergeE X es u = _
                unfold mergeE
                rw [if_neg (by rw [hcv]; simp)]
              clear hcv htk
              have hPu := put_ok wr ps ns cs (leftE X es u) u (HO.out.LE (by show ns ≤ _; omega)) (by omega)
              unfold E.agg Sl.v at hPu
              go_wp2_with fail
              refine hPu.mono ?_
              clear hPu
              rintro r w5 ⟨⟨p5, n5, c5⟩, rfl, own5⟩
              have HO5 := hid own5
              clear own5
              dsimp only
              have HL5 : Hid (((mergeE X es u).length : Nat) = n5) := by
                show (mergeE X es u).length = n5
                rw [HM.out]; exact HO5.out.len
              have hn5 : n5 ≤ 1200000 := by
                have h1 := mergeE_len X es u
                rw [HL5.out, HN.out] at h1
                omega
              by_cases hlm : lim < (n5 : Int)
              · go_wp2
                go_ret2
                exact ⟨⟨none, 0, 0⟩, by unfold merr; rw [if_neg HN1.out, if_neg HN2.out, HL5.out, if_pos hlm]; rfl, by unfold mlist; rw [if_neg HN1.out, if_neg HN2.out, HL5.out, if_pos hlm]; exact LE.nil _ _, (HB.out.trans HA.out).trans HO5.out.nw.ap⟩
              · go_wp2
                go_ret2
                exact ⟨⟨p5, n5, c5⟩, by unfold merr; rw [if_neg HN1.out, if_neg HN2.out, HL5.out, if_neg (Int.not_lt.2 hlm)]; rfl, by unfold mlist; rw [if_neg HN1.out, if_neg HN2.out, HL5.out, if_neg (Int.not_lt.2 hlm), HM.out]; exact HO5.out.LE (by show n5 ≤ _; omega), (HB.out.trans HA.out).trans HO5.out.nw.ap⟩
            · rw [htk] at hcv
              have HM : Hid (mergeE X es u = leftE X es u) := by
                show mergeE X es u = _
                unfold mergeE
                rw [if_pos hcv]
              have HL5 : Hid (((mergeE X es u).length : Nat) = ns) := by
                show (mergeE X es u).length = ns
                rw [HM.out]; exact HO.out.len
              clear hcv htk
              by_cases hlm : lim < (ns : Int)
              · go_wp2
                go_ret2
                exact ⟨⟨none, 0, 0⟩, by unfold merr; rw [if_neg HN1.out, if_neg HN2.out, HL5.out, if_pos hlm]; rfl, by unfold mlist; rw [if_neg HN1.out, if_neg HN2.out, HL5.out, if_pos hlm]; exact LE.nil _ _, HB.out.trans HA.out⟩
              · go_wp2
                go_ret2
                exact ⟨⟨ps, ns, cs⟩, by unfold merr; rw [if_neg HN1.out, if_neg HN2.out, HL5.out, if_neg (Int.not_lt.2 hlm)]; rfl, by unfold mlist; rw [if_neg HN1.out, if_neg HN2.out, HL5.out, if_neg (Int.not_lt.2 hlm), HM.out]; exact HO.out.LE (by show ns ≤ _; omega), HB.out.trans HA.out⟩
      · rw [htk] at hd
        have HD := hid hd
        clear hd htk
        go_wp2
        go_ret2
        exact ⟨⟨p, N, cap⟩, by unfold merr; rw [if_neg (by rw [HK0.out]; simp), if_pos HD.out]; rfl, by unfold mlist; rw [if_neg (by rw [HK0.out]; simp), if_pos HD.out]; exact HL.out.kept0 (HB.out.trans HA.out), HB.out.trans HA.out⟩
end Go.Proofs.YtokaeiahhmaokaaGreatDoor.ds
namespace Go.Proofs.YtokaeiahhmaokaaGreatDoor.ds
open Go.ChangeShapes Go.WideShapes Go.ChangeAt Go.RowKit Go.Sort
set_option linter.unusedVariables false
set_option linter.unusedSimpArgs false
theorem neq24 (W : World) (a b : Int) : Sem.run Tryz.prog (binOp BinOp.neq 24 (.agg #[.int .i64 a, .int .i64 b]) (.agg #[.int .i64 a, .int .i64 b])) W = .ok (.bool false) W := by
  have hS : Tryz.prog.underlying 24 = some (.struct (Tryz.prog.fieldsOf 24)) := by kernel_rfl
  have hp : Tryz.prog.stoodInHeld 24 = false := by kernel_rfl
  rw [run_neq_struct, show (10000 : Nat) = 9998 + 1 + 1 from rfl, run_equalIn_agg _ _ _ _ _ hS hp]
  simp only [Program.fieldsOf, Tryz.underlying24]
  simp [go_sem, Tryz.underlying3]
theorem neq38 (W : World) (a b : Int) (c : Int) : Sem.run Tryz.prog (binOp BinOp.neq 47 (.agg #[.int .i64 a, .int .i64 b, .int .u64 c]) (.agg #[.int .i64 a, .int .i64 b, .int .u64 c])) W = .ok (.bool false) W := by
  rw [neq52]; simp
theorem byts_at {w : World} {p : Option Addr} {bs : List Nat} (h : Rd w p (byts bs)) (h0 : 0 < bs.length) : ∃ P o, p = some ⟨P, o, none⟩ ∧ P < w.heap.size ∧ ∀ i (hi : i < bs.length), w.cell? ⟨P, o + i, none⟩ = some (.int .u8 ((bs[i] : Nat) : Int)) := by
  obtain ⟨P, o, e, hP, hc⟩ := h (by simpa [byts] using h0)
  refine ⟨P, o, e, hP, fun i hi => hc i _ ?_⟩
  simp [byts, List.getElem?_eq_getElem hi]
set_option maxHeartbeats 4000000 in
set_option maxRecDepth 100000 in
theorem same_yes (a b : E) (r : Wr) (w : World) (ha : Reads w a r) (hb : Reads w b r) : Calls Tryz.prog 27 #[a.agg, b.agg] w fun q w' => q = .returned (.bool true) ∧ Apart [] w w' := by
  obtain ⟨an, ac, ak, ad, ⟨ap, am, aq⟩, ⟨xp, xm, xq⟩⟩ := a
  obtain ⟨bn, bc, bk, bd, ⟨bp, bm, bq⟩, ⟨yp, ym, yq⟩⟩ := b
  obtain ⟨rn, rc, rk, rd, vs, xs⟩ := r
  obtain ⟨rfl, rfl, rfl, rfl, av, avn, avl, avb, ax, axl, avo, axo⟩ := ha
  obtain ⟨e1, e2, e3, e4, bv, bvn, bvl, bvb, bx, bxl, bvo, bxo⟩ := hb
  simp only at *
  subst e1 e2 e3 e4
  have axn := ax.len
  have bxn := bx.len
  obtain rfl : am = bm := by omega
  obtain rfl : xm = ym := by omega
  have aV : Apart [] w ((w.alloc (boxE ⟨bn, bc, bk, bd, ⟨ap, am, aq⟩, ⟨xp, xm, xq⟩⟩)).alloc (boxE ⟨bn, bc, bk, bd, ⟨bp, am, bq⟩, ⟨yp, xm, yq⟩⟩)) := ((Apart.refl [] w).alloc _).alloc _
  have hbox := box2 w ⟨bn, bc, bk, bd, ⟨ap, am, aq⟩, ⟨xp, xm, xq⟩⟩ ⟨bn, bc, bk, bd, ⟨bp, am, bq⟩, ⟨yp, xm, yq⟩⟩
  have HBX := hid hbox
  have hn24 := fun W => neq24 W bn bc
  have hg := guard24
  have hg2 := guard52
  have hkk : (bk.toList == bk.toList) = true := by simp
  obtain ⟨q1, q2⟩ := hbox _ (Apart.refl _ _)
  obtain ⟨t0, t1, t2, t3, t4, t5⟩ := row6 q1
  obtain ⟨u0, u1, u2, u3, u4, u5⟩ := row6 q2
  unfold Sl.v at t4 t5 u4 u5
  have HAV := hid av
  have HBV := hid bv
  have HAX := hid ax
  have HBX2 := hid bx
  have HVN := hid avn
  have HXN := hid axn
  have HA0 := hid aV
  clear q1 q2 hbox av bv ax bx avn bvn axn bxn aV avo axo bvo bxo avb bvb
  unfold E.agg Sl.v
  go_enter Tryz.func27, Tryz.ntmps27
  go_wp2_with fail
  clear t0 t1 t2 t3 t4 t5 u0 u1 u2 u3 u4 u5
  go_loopw [5] (fun v wr => ∃ i : Nat, v = .int .i64 (i : Nat) ∧ i ≤ am ∧ Apart [] ((w.alloc (boxE ⟨bn, bc, bk, bd, ⟨ap, am, aq⟩, ⟨xp, xm, xq⟩⟩)).alloc (boxE ⟨bn, bc, bk, bd, ⟨bp, am, bq⟩, ⟨yp, xm, yq⟩⟩)) wr) (fun v _ => am - (intOf v).toNat)
  case atStart => exact ⟨0, rfl, Nat.zero_le _, Apart.refl _ _⟩
  case round =>
    obtain ⟨i, rfl, hi, ap1⟩ := hrel
    have HA := hid ap1
    obtain ⟨q1, q2⟩ := HBX.out _ ap1
    obtain ⟨t0, t1, t2, t3, t4, t5⟩ := row6 q1
    obtain ⟨u0, u1, u2, u3, u4, u5⟩ := row6 q2
    unfold Sl.v at t4 t5 u4 u5
    clear q1 q2 ap1 t0 t1 t2 t3 u0 u1 u2 u3
    by_cases hlt : i < am
    · obtain ⟨P, o, rfl, hP, hc⟩ := byts_at (HAV.out.kept0 (HA0.out.trans HA.out)) (by rw [HVN.out]; omega)
      obtain ⟨P2, o2, rfl, hP2, hc2⟩ := byts_at (HBV.out.kept0 (HA0.out.trans HA.out)) (by rw [HVN.out]; omega)
      have c0 := hc i (by rw [HVN.out]; exact hlt)
      have c1 := hc2 i (by rw [HVN.out]; exact hlt)
      generalize vs[i]'(by rw [HVN.out]; exact hlt) = y at *
      clear hc hc2
      go_wp2_with fail
      go_quiet (fail)
      go_wp2
      go_roundw
      case rel => exact ⟨i + 1, by go_num, by omega, HA.out.drewN _⟩
      case measure => simp [intOf]; omega
    · obtain rfl : i = am := by omega
      go_wp2_with fail
      clear t4 t5 u4 u5
      go_loopw [6] (fun v wr => ∃ j : Nat, v = .int .i64 (j : Nat) ∧ j ≤ xm ∧ Apart [] ((w.alloc (boxE ⟨bn, bc, bk, bd, ⟨ap, i, aq⟩, ⟨xp, xm, xq⟩⟩)).alloc (boxE ⟨bn, bc, bk, bd, ⟨bp, i, bq⟩, ⟨yp, xm, yq⟩⟩)) wr) (fun v _ => xm - (intOf v).toNat)
      case atStart => exact ⟨0, rfl, Nat.zero_le _, HA.out⟩
      case round =>
        clear HA
        obtain ⟨j, rfl, hj, ap1⟩ := hrel
        have HA := hid ap1
        obtain ⟨q1, q2⟩ := HBX.out _ ap1
        obtain ⟨t0, t1, t2, t3, t4, t5⟩ := row6 q1
        obtain ⟨u0, u1, u2, u3, u4, u5⟩ := row6 q2
        unfold Sl.v at t4 t5 u4 u5
        clear q1 q2 ap1 t0 t1 t2 t3 u0 u1 u2 u3
        by_cases hlt : j < xm
        · obtain ⟨P, o, rfl, hP, hc⟩ := (HAX.out.kept0 (HA0.out.trans HA.out)).sp (by rw [HXN.out]; omega)
          obtain ⟨P2, o2, rfl, hP2, hc2⟩ := (HBX2.out.kept0 (HA0.out.trans HA.out)).sp (by rw [HXN.out]; omega)
          obtain ⟨c0, c1, c2⟩ := hc j (by rw [HXN.out]; exact hlt)
          obtain ⟨d0, d1, d2⟩ := hc2 j (by rw [HXN.out]; exact hlt)
          have hn38 := fun W => neq38 W (g xs j).n (g xs j).b ((g xs j).t : Int)
          clear hc hc2
          go_wp2_with fail
          go_quiet (fail)
          go_wp2
          go_roundw
          case rel => exact ⟨j + 1, by go_num, by omega, HA.out.drewN _⟩
          case measure => simp [intOf]; omega
        · obtain rfl : j = xm := by omega
          go_wp2
          go_ret
          exact ⟨rfl, HA0.out.trans HA.out⟩
end Go.Proofs.YtokaeiahhmaokaaGreatDoor.ds
namespace Go.Proofs.YtokaeiahhmaokaaGreatDoor.ds
open Go.ChangeShapes Go.WideShapes Go.ChangeAt Go.RowKit
set_option linter.unusedVariables false
set_option linter.unusedSimpArgs false
def strB (bs : List Nat) : ByteArray := (bs.map (fun (b : Nat) => (b : Int))).foldl (fun r n => r.push (UInt8.ofNat n.toNat)) ByteArray.empty
theorem conv_bytes {w : World} {s : Sl} {bs : List Nat} (h : Rd w s.p (byts bs)) (hl : bs.length = s.n) (ok : s.ok) : Sem.run Tryz.prog (convert 25 9 (.slice s.p s.n s.c)) w = .ok (.string (strB bs)) w := by
  rw [run_convert_bytes_string w 25 9 5 _ _ _ Tryz.underlying25 Tryz.underlying5 Tryz.underlying9]
  obtain ⟨p, n, c⟩ := s
  unfold Sl.ok at ok
  simp only at h hl ok ⊢
  have hbl : (byts bs).length = n := by simp [byts, hl]
  cases p with
  | none =>
    obtain ⟨rfl, rfl⟩ := ok rfl
    obtain rfl : bs = [] := List.eq_nil_of_length_eq_zero hl
    simp [Conv.bytesToString, strB]
  | some a =>
    refine run_bytesToString w _ _ _ (bs.map (fun (b : Nat) => (b : Int))) ?_
    have := run_loadCells_list (P := Tryz.prog) w a (byts bs) (fun j v hv => by
      obtain ⟨P, o, e, _, hc⟩ := h (by
        by_cases h0 : 0 < (byts bs).length
        · exact h0
        · rw [List.getElem?_eq_none (by omega)] at hv; cases hv)
      cases e
      rw [Addr.add_lit]; exact hc j v hv)
    rw [hbl] at this
    rw [this]
    simp [byts]
theorem strB_push (bs : List Nat) (r : ByteArray) : ((bs.map (fun (b : Nat) => (b : Int))).foldl (fun r n => r.push (UInt8.ofNat n.toNat)) r).data.toList = r.data.toList ++ bs.map (fun b => UInt8.ofNat b) := by
  induction bs generalizing r with
  | nil => simp
  | cons b bs ih =>
    simp only [List.map_cons, List.foldl_cons]
    rw [ih]
    simp [ByteArray.push]
theorem strB_inj {a b : List Nat} (ha : ∀ x ∈ a, x < 256) (hb : ∀ x ∈ b, x < 256) (h : strB a = strB b) : a = b := by
  have h1 := strB_push a ByteArray.empty
  have h2 := strB_push b ByteArray.empty
  have h3 : (strB a).data.toList = (strB b).data.toList := by rw [h]
  unfold strB at h3
  rw [h1, h2] at h3
  have h3' : a.map (fun b => UInt8.ofNat b) = b.map (fun b => UInt8.ofNat b) := by
    simpa using h3
  clear h h1 h2 h3
  induction a generalizing b with
  | nil => cases b with
    | nil => rfl
    | cons y b => simp at h3'
  | cons x a ih => cases b with
    | nil => simp at h3'
    | cons y b =>
      simp only [List.map_cons, List.cons.injEq] at h3'
      have hx : x < 256 := ha x (by simp)
      have hy : y < 256 := hb y (by simp)
      have e := congrArg UInt8.toNat h3'.1
      simp only [UInt8.toNat_ofNat'] at e
      have e' : x = y := by omega
      rw [e', ih (fun z hz => ha z (by simp [hz])) (fun z hz => hb z (by simp [hz])) h3'.2]
theorem beq_ok (a b : Sl) (xs ys : List Nat) (w : World) (ha : Rd w a.p (byts xs)) (hb : Rd w b.p (byts ys)) (la : xs.length = a.n) (lb : ys.length = b.n) (oa : a.ok) (ob : b.ok) (ba : ∀ x ∈ xs, x < 256) (bb : ∀ x ∈ ys, x < 256) :
    Calls Tryz.prog 50 #[.slice a.p a.n a.c, .slice b.p b.n b.c] w fun r w' => r = .returned (.bool (decide (xs = ys))) ∧ Apart [] w w' := by
  have c1 := conv_bytes ha la oa
  have c2 := conv_bytes hb lb ob
  have e : ((strB xs).toList == (strB ys).toList) = decide (xs = ys) := by
    by_cases h : xs = ys
    · subst h; simp
    · simp [h]
      exact fun e => h (strB_inj ba bb (toList_inj e))
  generalize strB xs = u at *
  generalize strB ys = v at *
  go_enter Tryz.func50, Tryz.ntmps50
  go_wp2
  go_ret
  exact ⟨by simp [e], Apart.refl _ _⟩
end Go.Proofs.YtokaeiahhmaokaaGreatDoor.ds
