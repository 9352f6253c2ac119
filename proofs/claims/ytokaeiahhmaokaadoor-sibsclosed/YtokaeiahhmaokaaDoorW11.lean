import Derived.Test.YtokaeiahhmaokaaDoorW1
import Derived.Test.YtokaeiahhmaokaaDoorW9
import Derived.Test.YtokaeiahhmaokaaDoorW10
import Derived.Deep.OwnRows
namespace Go.Proofs.YtokaeiahhmaokaaDoor.ds
open Go.ChangeShapes Go.WideShapes Go.ChangeAt Go.RowKit Go.Sort
set_option linter.unusedVariables false
set_option linter.unusedSimpArgs false
/-- a list whose i first and i last have changed places -/
def rvA (es : List E) (i k : Nat) : E := if k < i ∨ es.length ≤ k + i then gE es (es.length - 1 - k) else gE es k
def rv (es : List E) (i : Nat) : List E := (List.range es.length).map (rvA es i)
theorem rv_len (es : List E) (i : Nat) : (rv es i).length = es.length := by simp [rv]
theorem rv_get (es : List E) (i k : Nat) (h : k < es.length) : gE (rv es i) k = rvA es i k := by
  simp [gE, rv, List.getD_eq_getElem?_getD, h]
theorem rv_zero (es : List E) : rv es 0 = es := by
  apply List.ext_getElem (by simp [rv])
  intro k h1 h2
  simp only [rv, List.getElem_map, List.getElem_range, rvA]
  rw [if_neg (by omega), gE_eq _ _ h2]
theorem rv_end (es : List E) (i : Nat) (h : es.length ≤ 2 * i + 1) : rv es i = es.reverse := by
  apply List.ext_getElem (by simp [rv])
  intro k h1 h2
  have hk : k < es.length := by simpa [rv] using h1
  simp only [rv, List.getElem_map, List.getElem_range, rvA, List.getElem_reverse]
  by_cases hc : k < i ∨ es.length ≤ k + i
  · rw [if_pos hc, gE_eq _ _ (by omega)]
  · rw [if_neg hc, gE_eq _ _ hk]
    congr 1; omega
theorem rv_step (es : List E) (i : Nat) (h : 2 * i + 1 < es.length) : ((rv es i).set i (gE (rv es i) (es.length - 1 - i))).set (es.length - 1 - i) (gE (rv es i) i) = rv es (i + 1) := by
  apply List.ext_getElem (by simp [rv])
  intro k h1 h2
  have hk : k < es.length := by simpa [rv] using h2
  have g1 := rv_get es i (es.length - 1 - i) (by omega)
  have g2 := rv_get es i i (by omega)
  generalize gE (rv es i) (es.length - 1 - i) = y1 at *
  generalize gE (rv es i) i = y2 at *
  subst g1
  subst g2
  simp only [List.getElem_set, rv, List.getElem_map, List.getElem_range]
  by_cases ha : es.length - 1 - i = k
  · rw [if_pos ha]
    unfold rvA
    rw [if_neg (by omega), if_pos (by omega)]
    congr 1; omega
  · rw [if_neg ha]
    by_cases hb : i = k
    · rw [if_pos hb]
      unfold rvA
      rw [if_neg (by omega), if_pos (by omega), hb]
    · rw [if_neg hb]
      unfold rvA
      by_cases hc : k < i ∨ es.length ≤ k + i
      · rw [if_pos hc, if_pos (by omega)]
      · rw [if_neg hc, if_neg (by omega)]
set_option maxHeartbeats 8000000 in
set_option maxRecDepth 100000 in
theorem reverse_ok {w W : World} {s : Sl} {es : List E} (h : OwnE w W s es) (hn : s.n ≤ 2000000) : Calls Tryd.prog 93 #[s.v] W fun r W' => (∃ v, r = .returned v) ∧ OwnE w W' s es.reverse ∧ Apart s.v.ownBlock.toList W W' := by
  by_cases hz : s.n = 0
  · have he : es = [] := List.length_eq_zero_iff.1 (by rw [h.len]; exact hz)
    subst he
    have HH := hid h
    clear h
    obtain ⟨p, n, c⟩ := s
    simp only at hz
    subst hz
    unfold Sl.v
    go_enter Tryd.func93, Tryd.ntmps93
    go_wp2_with fail
    go_loopw [2, 3] (fun u v wr => u = .int .i64 0 ∧ v = .int .i64 (-1) ∧ wr = W) (fun _ _ _ => 0)
    case atStart => exact ⟨rfl, rfl, rfl⟩
    case round =>
      obtain ⟨rfl, rfl, rfl⟩ := hrel
      go_wp2_with fail
      go_end0
      exact ⟨⟨_, rfl⟩, HH.out, Apart.refl _ _⟩
  obtain ⟨G, c, hs⟩ : ∃ G c, s.v = .slice (some ⟨G, 0, none⟩) s.n c := by
    obtain ⟨_, ⟨hv, hz'⟩ | ⟨g, cap, cur, hv, _⟩⟩ := h.nw.own
    · exact absurd hz' hz
    · exact ⟨g, cap, hv⟩
  rw [hs]
  have HH := hid h
  have hln := h.len
  obtain ⟨n, hnn⟩ : ∃ n, s.n = n := ⟨_, rfl⟩
  rw [hnn] at hn hln ⊢
  have HNN := hid hnn
  have HS := hid hs
  clear h hnn hs
  go_enter Tryd.func93, Tryd.ntmps93
  go_wp2_with fail
  go_loopw [2, 3] (fun u v wr => ∃ i : Nat, u = .int .i64 (i : Nat) ∧ v = .int .i64 ((n : Int) - 1 - (i : Nat)) ∧ i ≤ n ∧ OwnE w wr s (rv es i) ∧ Apart [G] W wr) (fun u _ _ => n - (intOf u).toNat)
  case atStart => exact ⟨0, rfl, by simp, Nat.zero_le _, by rw [rv_zero]; exact HH.out, Apart.refl _ _⟩
  case round =>
    obtain ⟨i, rfl, rfl, hi, ho, ap⟩ := hrel
    have HO := hid ho
    have HA := hid ap
    by_cases hlt : 2 * i + 1 < n
    · obtain ⟨j, hj⟩ : ∃ j, n - 1 - i = j := ⟨_, rfl⟩
      have ej : (n : Int) - 1 - (i : Nat) = ((j : Nat) : Int) := by omega
      rw [ej]
      have hij : ((i : Nat) : Int) < ((j : Nat) : Int) := by omega
      have hjn : ((j : Nat) : Int) < (n : Int) := by omega
      have hin : ((i : Nat) : Int) < (n : Int) := by omega
      have ho := ho.kept (Apart.refl [] wr).drew
      have own1 := ho.nw.own
      rw [HS.out, HNN.out] at own1
      have AD := hid (Apart.refl [G] wr).drew
      have hLE := (ho.LE (by rw [HNN.out]; exact hn))
      rw [HNN.out] at hLE
      obtain ⟨P, o, hp, hP, hc⟩ := hLE.at (by omega)
      have hPG : P = G ∧ o = 0 := by
        have := HS.out
        unfold Sl.v at this
        rw [hp] at this
        simp at this
        exact this.1
      rw [hPG.1, hPG.2] at hc
      rw [hPG.1] at hP
      have ci := hc i (by omega)
      have cj := hc j (by omega)
      rw [Nat.zero_add] at ci cj
      unfold Sl.v at ci cj
      have CI := hid ci
      have CJ := hid cj
      have OW1 := hid own1
      have HST := hid (rv_step es i (by rw [hln]; exact hlt))
      rw [hln, hj] at HST
      generalize gE (rv es i) i = x at *
      generalize gE (rv es i) j = y at *
      have HJ := hid hj
      clear hc ho ap hLE hp hj ej hPG ci cj own1
      go_upto_region 3 with fail
      refine wp_region_held_drew (S := fun _ => True) (by kernel_rfl) trivial (fun hHeld => ?_)
      generalize wr.drew = wd at *
      have own1 := OW1.out
      obtain ⟨i0, i1, i2, i3, i4, i5⟩ := CI.out
      obtain ⟨j0, j1, j2, j3, j4, j5⟩ := CJ.out
      refine tk 0 14 (.slice (some ⟨G, 0, none⟩) n c) rfl ?_ ?_
      · intro W hSW; go_simp
      simp only [Act.put, List.setIfInBounds_toArray, List.set_cons_zero, List.set_cons_succ]
      refine tk 1 15 (.int .i64 (i : Nat)) rfl ?_ ?_
      · intro W hSW; go_simp
      simp only [Act.put, List.setIfInBounds_toArray, List.set_cons_zero, List.set_cons_succ]
      refine tk 2 16 (.slice (some ⟨G, 0, none⟩) n c) rfl ?_ ?_
      · intro W hSW; go_simp
      simp only [Act.put, List.setIfInBounds_toArray, List.set_cons_zero, List.set_cons_succ]
      refine tk 3 17 (.int .i64 (j : Nat)) rfl ?_ ?_
      · intro W hSW; go_simp
      simp only [Act.put, List.setIfInBounds_toArray, List.set_cons_zero, List.set_cons_succ]
      refine tk 4 18 (.slice (some ⟨G, 0, none⟩) n c) rfl ?_ ?_
      · intro W hSW; go_simp
      simp only [Act.put, List.setIfInBounds_toArray, List.set_cons_zero, List.set_cons_succ]
      refine tk 5 19 (.int .i64 (j : Nat)) rfl ?_ ?_
      · intro W hSW; go_simp
      simp only [Act.put, List.setIfInBounds_toArray, List.set_cons_zero, List.set_cons_succ]
      refine tk 6 20 (.pointer (some ⟨G, j * 6, none⟩)) rfl ?_ ?_
      · intro W hSW; go_simp
      simp only [Act.put, List.setIfInBounds_toArray, List.set_cons_zero, List.set_cons_succ]
      refine tk 8 22 (.slice (some ⟨G, 0, none⟩) n c) rfl ?_ ?_
      · intro W hSW; go_simp
      simp only [Act.put, List.setIfInBounds_toArray, List.set_cons_zero, List.set_cons_succ]
      refine tk 9 23 (.int .i64 (i : Nat)) rfl ?_ ?_
      · intro W hSW; go_simp
      simp only [Act.put, List.setIfInBounds_toArray, List.set_cons_zero, List.set_cons_succ]
      refine tk 10 24 (.pointer (some ⟨G, i * 6, none⟩)) rfl ?_ ?_
      · intro W hSW; go_simp
      simp only [Act.put, List.setIfInBounds_toArray, List.set_cons_zero, List.set_cons_succ]
      refine wpAnyH_ready (rs := [7, 11]) (by kernel_rfl) (by simp) ?_
      refine AllReadyH.cons rfl (fun KK hKK => ?_) (AllReadyH.cons rfl (fun KK hKK => ?_) AllReadyH.nil)
      · go_simp
        refine hKK.out _ _ trivial (fun hHeld => ?_)
        clear hKK KK
        refine wpAnyH_ready (rs := [11]) (by kernel_rfl) (by simp) ?_
        refine AllReadyH.cons rfl (fun KK hKK => ?_) AllReadyH.nil
        go_simp
        refine hKK.out _ _ trivial (fun hHeld => ?_)
        clear hKK KK
        have f0 := own1.frozenAt (i * 6)
        have f1 := own1.frozenAt (i * 6 + 1)
        have f2 := own1.frozenAt (i * 6 + 2)
        have f3 := own1.frozenAt (i * 6 + 3)
        have f4 := own1.frozenAt (i * 6 + 4)
        have f5 := own1.frozenAt (i * 6 + 5)
        refine tk 12 26 (.pointer (some ⟨G, i * 6, none⟩)) rfl ?_ ?_
        · intro W hSW; go_simp
        simp only [Act.put, List.setIfInBounds_toArray, List.set_cons_zero, List.set_cons_succ]
        refine wpAnyH_ready (rs := [13]) (by kernel_rfl) (by simp) ?_
        refine AllReadyH.cons rfl (fun KK hKK => ?_) AllReadyH.nil
        go_simp
        refine hKK.out _ _ trivial (fun hHeld => ?_)
        clear hKK KK f0 f1 f2 f3 f4 f5 i0 i1 i2 i3 i4 i5 j0 j1 j2 j3 j4 j5
        have hle : i < (rv es i).length := by rw [rv_len, hln]; omega
        have own2 := own_set6 own1 i hle y
        have A2 := hid (AD.out.trans (apart_set6 wd G (i * 6) y))
        change wpAnyH _ _ _ _ _ _ _ _ (set6 wd G (i * 6) y)
        generalize set6 wd G (i * 6) y = W2 at *
        clear own1 hle
        have HO2 := hid own2
        obtain ⟨P2, o2, hp2, _, hc2⟩ := (show LE W2 (some ⟨G, 0, none⟩) n ((rv es i).set i y) from ⟨Rd.own own2, by rw [List.length_set, rv_len, hln], hn⟩).at (by omega)
        simp at hp2
        obtain ⟨rfl, rfl⟩ := hp2
        obtain ⟨j0, j1, j2, j3, j4, j5⟩ := hc2 j (by omega)
        rw [Nat.zero_add] at j0 j1 j2 j3 j4 j5
        have f0 := own2.frozenAt (j * 6)
        have f1 := own2.frozenAt (j * 6 + 1)
        have f2 := own2.frozenAt (j * 6 + 2)
        have f3 := own2.frozenAt (j * 6 + 3)
        have f4 := own2.frozenAt (j * 6 + 4)
        have f5 := own2.frozenAt (j * 6 + 5)
        clear hc2 own2
        refine tk 14 27 (.pointer (some ⟨G, j * 6, none⟩)) rfl ?_ ?_
        · intro W hSW; go_simp
        simp only [Act.put, List.setIfInBounds_toArray, List.set_cons_zero, List.set_cons_succ]
        refine wpAnyH_ready (rs := [15]) (by kernel_rfl) (by simp) ?_
        refine AllReadyH.cons rfl (fun KK hKK => ?_) AllReadyH.nil
        go_simp
        refine hKK.out _ _ trivial (fun hHeld => ?_)
        clear hKK KK f0 f1 f2 f3 f4 f5 j0 j1 j2 j3 j4 j5
        have own3 := own_set6 HO2.out j (by rw [List.length_set, rv_len, hln]; omega) x
        have A3 := hid (apart_set6 W2 G (j * 6) x)
        change wpAnyH _ _ _ _ _ _ _ _ (set6 W2 G (j * 6) x)
        generalize set6 W2 G (j * 6) x = W3 at *
        rw [HST.out] at own3
        have HON : Hid (OwnE w W3 s (rv es (i + 1))) := by
          have hb := HO.out.nw
          refine ⟨⟨by rw [HS.out, HNN.out]; exact own3, hb.new, hb.ap.trans' (A2.out.trans A3.out) (fun k hk => ?_)⟩, by rw [rv_len, hln, HNN.out]⟩
          simp at hk
          subst hk
          exact .inr (hb.new _ (by rw [HS.out]; rfl))
        have HA3 := hid (HA.out.trans (A2.out.trans A3.out))
        clear own3
        refine wpAnyH_done (by kernel_rfl) ?_ _
        go_wp2_with fail
        go_roundw
        case rel => exact ⟨i + 1, by go_num, by have := HJ.out; simp; omega, by omega, HON.out, HA3.out⟩
        case measure => simp [intOf]; omega
      · go_simp
        refine hKK.out _ _ trivial (fun hHeld => ?_)
        clear hKK KK
        refine wpAnyH_ready (rs := [7]) (by kernel_rfl) (by simp) ?_
        refine AllReadyH.cons rfl (fun KK hKK => ?_) AllReadyH.nil
        go_simp
        refine hKK.out _ _ trivial (fun hHeld => ?_)
        clear hKK KK
        have f0 := own1.frozenAt (i * 6)
        have f1 := own1.frozenAt (i * 6 + 1)
        have f2 := own1.frozenAt (i * 6 + 2)
        have f3 := own1.frozenAt (i * 6 + 3)
        have f4 := own1.frozenAt (i * 6 + 4)
        have f5 := own1.frozenAt (i * 6 + 5)
        refine tk 12 26 (.pointer (some ⟨G, i * 6, none⟩)) rfl ?_ ?_
        · intro W hSW; go_simp
        simp only [Act.put, List.setIfInBounds_toArray, List.set_cons_zero, List.set_cons_succ]
        refine wpAnyH_ready (rs := [13]) (by kernel_rfl) (by simp) ?_
        refine AllReadyH.cons rfl (fun KK hKK => ?_) AllReadyH.nil
        go_simp
        refine hKK.out _ _ trivial (fun hHeld => ?_)
        clear hKK KK f0 f1 f2 f3 f4 f5 i0 i1 i2 i3 i4 i5 j0 j1 j2 j3 j4 j5
        have hle : i < (rv es i).length := by rw [rv_len, hln]; omega
        have own2 := own_set6 own1 i hle y
        have A2 := hid (AD.out.trans (apart_set6 wd G (i * 6) y))
        change wpAnyH _ _ _ _ _ _ _ _ (set6 wd G (i * 6) y)
        generalize set6 wd G (i * 6) y = W2 at *
        clear own1 hle
        have HO2 := hid own2
        obtain ⟨P2, o2, hp2, _, hc2⟩ := (show LE W2 (some ⟨G, 0, none⟩) n ((rv es i).set i y) from ⟨Rd.own own2, by rw [List.length_set, rv_len, hln], hn⟩).at (by omega)
        simp at hp2
        obtain ⟨rfl, rfl⟩ := hp2
        obtain ⟨j0, j1, j2, j3, j4, j5⟩ := hc2 j (by omega)
        rw [Nat.zero_add] at j0 j1 j2 j3 j4 j5
        have f0 := own2.frozenAt (j * 6)
        have f1 := own2.frozenAt (j * 6 + 1)
        have f2 := own2.frozenAt (j * 6 + 2)
        have f3 := own2.frozenAt (j * 6 + 3)
        have f4 := own2.frozenAt (j * 6 + 4)
        have f5 := own2.frozenAt (j * 6 + 5)
        clear hc2 own2
        refine tk 14 27 (.pointer (some ⟨G, j * 6, none⟩)) rfl ?_ ?_
        · intro W hSW; go_simp
        simp only [Act.put, List.setIfInBounds_toArray, List.set_cons_zero, List.set_cons_succ]
        refine wpAnyH_ready (rs := [15]) (by kernel_rfl) (by simp) ?_
        refine AllReadyH.cons rfl (fun KK hKK => ?_) AllReadyH.nil
        go_simp
        refine hKK.out _ _ trivial (fun hHeld => ?_)
        clear hKK KK f0 f1 f2 f3 f4 f5 j0 j1 j2 j3 j4 j5
        have own3 := own_set6 HO2.out j (by rw [List.length_set, rv_len, hln]; omega) x
        have A3 := hid (apart_set6 W2 G (j * 6) x)
        change wpAnyH _ _ _ _ _ _ _ _ (set6 W2 G (j * 6) x)
        generalize set6 W2 G (j * 6) x = W3 at *
        rw [HST.out] at own3
        have HON : Hid (OwnE w W3 s (rv es (i + 1))) := by
          have hb := HO.out.nw
          refine ⟨⟨by rw [HS.out, HNN.out]; exact own3, hb.new, hb.ap.trans' (A2.out.trans A3.out) (fun k hk => ?_)⟩, by rw [rv_len, hln, HNN.out]⟩
          simp at hk
          subst hk
          exact .inr (hb.new _ (by rw [HS.out]; rfl))
        have HA3 := hid (HA.out.trans (A2.out.trans A3.out))
        clear own3
        refine wpAnyH_done (by kernel_rfl) ?_ _
        go_wp2_with fail
        go_roundw
        case rel => exact ⟨i + 1, by go_num, by have := HJ.out; simp; omega, by omega, HON.out, HA3.out⟩
        case measure => simp [intOf]; omega
    · have HE := hid (rv_end es i (by rw [hln]; omega))
      rw [HE.out] at ho
      have HO2 := hid ho
      have hge : ¬ (((i : Nat) : Int) < (n : Int) - 1 - (i : Nat)) := by omega
      clear ho ap
      go_wp2_with fail
      go_end0
      exact ⟨⟨_, rfl⟩, HO2.out, HA.out⟩
end Go.Proofs.YtokaeiahhmaokaaDoor.ds
namespace Go.Proofs.YtokaeiahhmaokaaDoor.ds
open Go.ChangeShapes Go.WideShapes Go.ChangeAt Go.RowKit Go.Sort
set_option linter.unusedVariables false
set_option linter.unusedSimpArgs false
theorem infoBo : (Tryd.prog.info? 4).map (fun i => (i.zero, i.size, i.bytes)) = some (some (.bool false), 1, 1) := by kernel_rfl
theorem L.keptX {w w' : World} {p : Option Addr} {N : Nat} {xs : List S} {X : List Nat} (h : L w p N xs) (a : Apart X w w') (hX : 0 < N → ∀ P o, p = some ⟨P, o, none⟩ → P ∉ X) : L w' p N xs := by
  by_cases hz : 0 < N
  · exact h.kept a (hX hz)
  · have hz' : N = 0 := by omega
    subst hz'
    have he := List.length_eq_zero_iff.1 h.len
    subst he
    exact ⟨Sp.nil _ _, rfl, h.lim, h.fit⟩
theorem L.lt {w : World} {p : Option Addr} {N : Nat} {xs : List S} (h : L w p N xs) (h0 : 0 < N) (P o : Nat) (e : p = some ⟨P, o, none⟩) : P < w.heap.size := by
  obtain ⟨P', o', e', hP, _⟩ := h.sp (by rw [h.len]; exact h0)
  rw [e] at e'
  simp at e'
  rw [e'.1]; exact hP
/-- what stands in the boxes of covered and known -/
structure U1 (w W : World) (Cb b3 b4 N : Nat) (cs : List Bool) (kn : List S) (X : List Nat) : Prop where
  ap : Apart [] w W
  new : w.heap.size ≤ Cb ∧ w.heap.size ≤ b3 ∧ w.heap.size ≤ b4
  ne : Cb ≠ b3 ∧ Cb ≠ b4 ∧ b3 ≠ b4
  len : cs.length = N
  c3 : W.heap[b3]? = some (.cells #[.slice (some ⟨Cb, 0, none⟩) N N] 121 (0, 0))
  cC : W.heap[Cb]? = some (.cells (cs.map Value.bool).toArray 4 (0, 0))
  k : ∃ q n c, W.heap[b4]? = some (.cells #[.slice q n c] 26 (0, 0)) ∧ L W q n kn ∧ (0 < n → ∀ P o, q = some ⟨P, o, none⟩ → P ∉ Cb :: b3 :: b4 :: X)
theorem U1.apart {w W W' : World} {Cb b3 b4 N : Nat} {cs : List Bool} {kn : List S} {X Y : List Nat} (h : U1 w W Cb b3 b4 N cs kn X) (a : Apart Y W W') (hY : ∀ y ∈ Y, y ∈ X ∧ y ≠ Cb ∧ y ≠ b3 ∧ y ≠ b4 ∧ w.heap.size ≤ y) : U1 w W' Cb b3 b4 N cs kn X := by
  obtain ⟨q, n, c, h4, hl, hq⟩ := h.k
  refine ⟨h.ap.trans' a (fun y hy => .inr (hY y hy).2.2.2.2), h.new, h.ne, h.len, (a.block _ (lt_of_heap h.c3) (fun m => (hY _ m).2.2.1 rfl)).trans h.c3, (a.block _ (lt_of_heap h.cC) (fun m => (hY _ m).2.1 rfl)).trans h.cC, q, n, c, (a.block _ (lt_of_heap h4) (fun m => (hY _ m).2.2.2.1 rfl)).trans h4, hl.keptX a (fun h0 P o e m => hq h0 P o e (by have := (hY P m).1; simp [this])), hq⟩
theorem U1.apart0 {w W W' : World} {Cb b3 b4 N : Nat} {cs : List Bool} {kn : List S} {X : List Nat} (h : U1 w W Cb b3 b4 N cs kn X) (a : Apart [] W W') : U1 w W' Cb b3 b4 N cs kn X := h.apart a (by simp)
theorem U1.exch {w W : World} {Cb b3 b4 N : Nat} {cs : List Bool} {kn : List S} {X X' : List Nat} (h : U1 w W Cb b3 b4 N cs kn X) (hX : ∀ y ∈ X', y ∈ X ∨ W.heap.size ≤ y) : U1 w W Cb b3 b4 N cs kn X' := by
  obtain ⟨q, n, c, h4, hl, hq⟩ := h.k
  refine { h with k := ⟨q, n, c, h4, hl, fun h0 P o e m => ?_⟩ }
  have h1 := hq h0 P o e
  have h2 := hl.lt h0 P o e
  simp at m h1
  rcases m with m | m | m | m
  · exact h1.1 m
  · exact h1.2.1 m
  · exact h1.2.2.1 m
  · rcases hX P m with h3 | h3
    · exact h1.2.2.2 h3
    · omega
theorem U1.setC {w W : World} {Cb b3 b4 N : Nat} {cs : List Bool} {kn : List S} {X : List Nat} (h : U1 w W Cb b3 b4 N cs kn X) (i : Nat) (v : Bool) : U1 w (W.setCell ⟨Cb, i, none⟩ (.bool v)) Cb b3 b4 N (cs.set i v) kn X := by
  have a : Apart [Cb] W (W.setCell ⟨Cb, i, none⟩ (.bool v)) := (Apart.refl _ _).setCell (.inl (by simp)) _
  obtain ⟨q, n, c, h4, hl, hq⟩ := h.k
  refine ⟨h.ap.trans' a (fun y hy => by simp at hy; subst hy; exact .inr h.new.1), h.new, h.ne, by rw [List.length_set]; exact h.len, (a.block _ (lt_of_heap h.c3) (by simp; exact fun e => h.ne.1 e.symm)).trans h.c3, ?_, q, n, c, (a.block _ (lt_of_heap h4) (by simp; exact fun e => h.ne.2.1 e.symm)).trans h4, hl.keptX a (fun h0 P o e m => hq h0 P o e (by simp at m; simp [m])), hq⟩
  have := heap_setCell_same W Cb i _ 4 (.bool v) h.cC
  rw [this]
  congr 2
  rw [List.setIfInBounds_toArray, List.map_set]
theorem U1.setK {w W : World} {Cb b3 b4 N : Nat} {cs : List Bool} {kn kn' : List S} {X : List Nat} (h : U1 w W Cb b3 b4 N cs kn X) {q : Option Addr} {n : Nat} (c : Nat) (hl : L W q n kn') (hq : 0 < n → ∀ P o, q = some ⟨P, o, none⟩ → P ∉ Cb :: b3 :: b4 :: X) : U1 w (W.setCell ⟨b4, 0, none⟩ (.slice q n c)) Cb b3 b4 N cs kn' X := by
  have a : Apart [b4] W (W.setCell ⟨b4, 0, none⟩ (.slice q n c)) := (Apart.refl _ _).setCell (.inl (by simp)) _
  obtain ⟨q0, n0, c0, h4, _, _⟩ := h.k
  refine ⟨h.ap.trans' a (fun y hy => by simp at hy; subst hy; exact .inr h.new.2.2), h.new, h.ne, h.len, (a.block _ (lt_of_heap h.c3) (by simp; exact h.ne.2.2)).trans h.c3, (a.block _ (lt_of_heap h.cC) (by simp; exact h.ne.2.1)).trans h.cC, q, n, c, ?_, hl.keptX a (fun h0 P o e m => hq h0 P o e (by simp at m; simp [m])), hq⟩
  have := heap_setCell_same W b4 0 _ 26 (.slice q n c) h4
  rw [this]; rfl
theorem U1.start (w : World) (N : Nat) : U1 w (((w.alloc (.cells (madeCells #[.bool false] N) 4)).alloc (.cells #[.slice (some ⟨w.heap.size, 0, none⟩) N N] 121)).alloc (.cells #[.slice none 0 0] 26)) w.heap.size (w.heap.size + 1) (w.heap.size + 1 + 1) N (List.replicate N false) [] [] := by
  have hm : madeCells #[Value.bool false] N = ((List.replicate N false).map Value.bool).toArray := by
    apply Array.ext
    · simp [madeCells]
    · intro i h1 h2
      simp [madeCells, Nat.mod_one]
  refine ⟨(((Apart.refl _ _).alloc _).alloc _).alloc _, by omega, by omega, by simp, ?_, ?_, none, 0, 0, ?_, ⟨Sp.nil _ _, rfl, by decide, by simp⟩, fun h => absurd h (by omega)⟩
  · rw [Below.heap_alloc _ _ _ (by simp)]
    have := heap_alloc_new (w.alloc (.cells (madeCells #[.bool false] N) 4)) (.cells #[.slice (some ⟨w.heap.size, 0, none⟩) N N] 121)
    simpa using this
  · rw [Below.heap_alloc _ _ _ (by simp; omega), Below.heap_alloc _ _ _ (by simp), heap_alloc_new, hm]
  · have := heap_alloc_new ((w.alloc (.cells (madeCells #[.bool false] N) 4)).alloc (.cells #[.slice (some ⟨w.heap.size, 0, none⟩) N N] 121)) (.cells #[.slice none 0 0] 26)
    simpa using this
/-- the two slices that union is asked with -/
theorem two_lx {W : World} {q : Option Addr} {n : Nat} (c : Nat) {kn xs : List S} {s : Sl} (h1 : L W q n kn) (h2 : L W s.p s.n xs) : LX (W.alloc (.cells #[.slice q n c, .slice s.p s.n s.c] 26)) (some ⟨W.heap.size, 0, none⟩) 2 [⟨q, n, c⟩, s] [kn, xs] := by
  have a : Apart [] W (W.alloc (.cells #[.slice q n c, .slice s.p s.n s.c] 26)) := (Apart.refl _ _).alloc _
  refine ⟨fun _ => ⟨W.heap.size, 0, rfl, by simp, fun j u hj => ?_⟩, rfl, rfl, fun j hj => ?_⟩
  · rw [cell_of_row _ _ _ _ _ _ (heap_alloc_new W _)]
    match j with
    | 0 => simpa [Sl.v] using hj
    | 1 => simpa [Sl.v] using hj
    | j + 2 => simp at hj
  · match j with
    | 0 => exact h1.kept0 a
    | 1 => exact h2.kept0 a
    | j + 2 => omega
/-- a round of the first loop -/
theorem U1.round {w W0 W1 w6 w9 : World} {Cb b3 b4 N : Nat} {cs : List Bool} {kn xs : List S} {X : List Nat} {q q' : Option Addr} {n c n' c' i : Nat} {s : Sl} {v : Bool} (h : U1 w W0 Cb b3 b4 N cs kn X) (a1 : Apart [] W0 w6)
    (hX : ∀ y ∈ X, y < w6.heap.size) (a9 : Apart [] ((w6.setCell ⟨Cb, i, none⟩ (.bool v)).alloc (.cells #[.slice q n c, .slice s.p s.n s.c] 26)) w9) (hl : L w9 q' n' (unis 64 [kn, xs])) (hk : OkL 64 kn) (hn : NewP ((w6.setCell ⟨Cb, i, none⟩ (.bool v)).alloc (.cells #[.slice q n c, .slice s.p s.n s.c] 26)) q') :
    U1 w (w9.setCell ⟨b4, 0, none⟩ (.slice q' n' c')) Cb b3 b4 N (cs.set i v) (knows kn xs) X := by
  have h6 := h.apart0 a1
  have h7 := h6.setC i v
  have h8 := h7.apart0 (((Apart.refl [] _).alloc (.cells #[.slice q n c, .slice s.p s.n s.c] 26)).trans a9)
  rw [unis_two xs hk] at hl
  refine h8.setK c' hl (fun _ P o e m => ?_)
  have h1 := hn P o e
  have e1 := lt_of_heap h6.c3
  have e2 := lt_of_heap h6.cC
  obtain ⟨q0, n0, c0, h4, _, _⟩ := h6.k
  have e3 := lt_of_heap h4
  simp at h1 m
  rcases m with m | m | m | m
  · omega
  · omega
  · omega
  · have := hX P m; omega
end Go.Proofs.YtokaeiahhmaokaaDoor.ds
namespace Go.Proofs.YtokaeiahhmaokaaDoor.ds
open Go.ChangeShapes Go.WideShapes Go.ChangeAt Go.RowKit Go.Sort
set_option linter.unusedVariables false
set_option linter.unusedSimpArgs false
/-- one more at its end -/
theorem run_appEN {w W : World} {s : Sl} {es : List E} (h : OwnE w W s es) (hn : s.n ≤ 2000000) (e : E) (ty : TypeId) :
    ∃ s' W', (Builtin.append_ #[39, 39] ty #[s.v, .slice (some ⟨W.heap.size, 0, none⟩) 1 1]).run Tryd.prog (W.alloc (boxE e)) = .ok (Sl.v s') W' ∧ OwnE w W' s' (es ++ [e]) ∧ s'.n = s.n + 1 ∧ Apart s.v.ownBlock.toList W W' ∧ (s'.v.ownBlock = s.v.ownBlock ∨ ∃ q, s'.v.ownBlock = some q ∧ W.heap.size ≤ q) := by
  obtain ⟨i0, hi, hz0, hz1, hz2⟩ := info_parts infoW
  have o1 := (h.kept ((Apart.refl [] W).alloc (boxE e))).nw.own
  have hcs : ∀ j u, (E.cs e)[j]? = some u → (W.alloc (boxE e)).cell? ((⟨W.heap.size, 0, none⟩ : Addr).add j) = some u := by
    intro j u hj
    rw [Addr.add_lit, Nat.zero_add, cell_of_row _ _ _ _ _ _ (heap_alloc_new W (boxE e))]
    simpa [E.cs] using hj
  have one : ∀ u ∈ E.cs e, u.oneCell' = true := fun u hu => oneE [e] u (by simpa [flatE] using hu)
  have key : ∃ v' W', (Builtin.append_ #[39, 39] ty #[s.v, .slice (some ⟨W.heap.size, 0, none⟩) 1 1]).run Tryd.prog (W.alloc (boxE e)) = .ok v' W' ∧ W'.ownsRow 0 28 6 v' (s.n + 1) (flatE es ++ E.cs e) ∧ (W.alloc (boxE e)).grownBy W' s.v.ownBlock ∧ NewOr (W.alloc (boxE e)) s.v v' := by
    obtain ⟨p, n, c⟩ := s
    simp only at hn
    have o2 := o1
    unfold Sl.v at o1 ⊢
    obtain ⟨_, ⟨hv, hz⟩ | ⟨g, cap, cur, hv, _⟩⟩ := o2
    · unfold Sl.v at hv
      simp at hv
      obtain ⟨rfl, rfl, rfl⟩ := hv
      exact run_append2 (W.alloc (boxE e)) 39 ty 28 i0 _ 6 88 Tryd.underlying39 hi hz0 hz1 hz2 rfl (by decide) (.slice none 0 0) 0 (flatE es) o1 ⟨W.heap.size, 0, none⟩ 1 1 (E.cs e) (by simp) (by simp [E.cs]) hcs one (by decide) (by decide)
    · unfold Sl.v at hv
      simp at hv
      obtain ⟨rfl, rfl⟩ := hv
      exact run_append3 (W.alloc (boxE e)) 39 ty 28 i0 _ 6 88 Tryd.underlying39 hi hz0 hz1 hz2 rfl (by decide) g n c (flatE es) o1 ⟨W.heap.size, 0, none⟩ 1 1 (E.cs e) (by simp [E.cs]) hcs one (by unfold maxLen; omega) (by omega)
  obtain ⟨v', W', hrun, r1, r2, r3⟩ := key
  have ap : Apart s.v.ownBlock.toList W W' := (((Apart.refl _ W).alloc (boxE e))).trans (apart_grown r2)
  have hnew : ∀ k, v'.ownBlock = some k → w.heap.size ≤ k := by
    intro k hk
    rcases r3 with r3 | ⟨q, r3, hq⟩
    · exact h.nw.new k (r3 ▸ hk)
    · rw [r3] at hk; simp at hk; subst hk
      simp at hq
      have := h.nw.ap.size
      omega
  have hnq : v'.ownBlock = s.v.ownBlock ∨ ∃ q, v'.ownBlock = some q ∧ W.heap.size ≤ q := by
    rcases r3 with r3 | ⟨q, r3, hq⟩
    · exact .inl r3
    · exact .inr ⟨q, r3, by simp at hq; omega⟩
  obtain ⟨s', rfl, hs'⟩ : ∃ s' : Sl, v' = s'.v ∧ s'.n = s.n + 1 := by
    obtain ⟨_, ⟨hv, hz⟩ | ⟨g, cap, cur, hv, _⟩⟩ := r1
    · exact absurd hz (by omega)
    · exact ⟨⟨some ⟨g, 0, none⟩, s.n + 1, cap⟩, hv, rfl⟩
  refine ⟨s', W', hrun, ⟨⟨by rw [hs', ← flatE_snoc]; exact r1, hnew, h.nw.ap.trans' ap (fun y hy => ?_)⟩, by rw [List.length_append, h.len, hs']; rfl⟩, hs', ap, hnq⟩
  simp at hy
  exact .inr (h.nw.new y hy)

/-- a block that is no cells may change -/
theorem U1.grown {w W W' : World} {Cb b3 b4 N : Nat} {cs : List Bool} {kn : List S} {X : List Nat} {row : Option Nat} (h : U1 w W Cb b3 b4 N cs kn X) (hg : W.grownBy W' row) (hr : ∀ r, row = some r → w.heap.size ≤ r ∧ ∃ o : Obj, W.heap[r]? = some o ∧ o.isCells = false) : U1 w W' Cb b3 b4 N cs kn X := by
  have kc : ∀ (k : Nat) (o : Obj), W.heap[k]? = some o → o.isCells = true → W'.heap[k]? = W.heap[k]? := fun k o hk hc => grownBy_keeps_cells hg (fun r e => (hr r e).2) hk hc
  obtain ⟨q, n, c, h4, hl, hq⟩ := h.k
  refine ⟨h.ap.trans' (apart_grown hg) (fun y hy => ?_), h.new, h.ne, h.len, (kc _ _ h.c3 rfl).trans h.c3, (kc _ _ h.cC rfl).trans h.cC, q, n, c, (kc _ _ h4 rfl).trans h4, ?_, hq⟩
  · simp at hy; exact .inr (hr y hy).1
  · refine { hl with sp := fun h0 => ?_ }
    obtain ⟨P, o, e, hP, hc⟩ := hl.sp h0
    refine ⟨P, o, e, Nat.lt_of_lt_of_le hP hg.size, fun i hi => ?_⟩
    obtain ⟨a, b, c⟩ := hc i hi
    exact ⟨cell_kept a hg (fun r e => (hr r e).2), cell_kept b hg (fun r e => (hr r e).2), cell_kept c hg (fun r e => (hr r e).2)⟩
/-- .. and of left -/
structure U2 (w W : World) (Cb b3 b4 b7 z N : Nat) (cs : List Bool) (kn : List S) (left : List E) : Prop where
  ex : ∃ s : Sl, U1 w W Cb b3 b4 N cs kn (b7 :: s.v.ownBlock.toList) ∧ W.heap[b7]? = some (.cells #[s.v] 39 (0, 0)) ∧ OwnE w W s left ∧ ∀ B, s.v.ownBlock = some B → z ≤ B
  lt : Cb < z ∧ b3 < z ∧ b4 < z ∧ b7 < z
  n7 : w.heap.size ≤ b7
  ne : b7 ≠ Cb ∧ b7 ≠ b3 ∧ b7 ≠ b4
theorem U2.start {w W : World} {Cb b3 b4 N : Nat} {cs : List Bool} (h : U1 w W Cb b3 b4 N cs [] []) (z : Nat) (hz : W.heap.size < z) : U2 w (W.alloc (.cells #[.slice none 0 0] 39)) Cb b3 b4 W.heap.size z N cs [] [] := by
  have a : Apart [] W (W.alloc (.cells #[.slice none 0 0] 39)) := (Apart.refl _ _).alloc _
  have e1 := lt_of_heap h.c3
  have e2 := lt_of_heap h.cC
  obtain ⟨q, n, c, h4, _, _⟩ := h.k
  have e3 := lt_of_heap h4
  refine ⟨⟨⟨none, 0, 0⟩, (h.exch (X' := [W.heap.size]) (by simp)).apart0 a, heap_alloc_new W _, OwnE.nil _ _ (h.ap.trans a), fun B hB => by simp [Sl.v, Value.ownBlock] at hB⟩, by omega, h.ap.size, by omega⟩
theorem U2.apart0 {w W W' : World} {Cb b3 b4 b7 z N : Nat} {cs : List Bool} {kn : List S} {left : List E} (h : U2 w W Cb b3 b4 b7 z N cs kn left) (a : Apart [] W W') : U2 w W' Cb b3 b4 b7 z N cs kn left := by
  obtain ⟨s, h1, h7, ho, hB⟩ := h.ex
  exact ⟨⟨s, h1.apart0 a, (a.block _ (lt_of_heap h7) (by simp)).trans h7, ho.kept a, hB⟩, h.lt, h.n7, h.ne⟩
theorem U2.grown {w W W' : World} {Cb b3 b4 b7 z N : Nat} {cs : List Bool} {kn : List S} {left : List E} {row : Option Nat} (h : U2 w W Cb b3 b4 b7 z N cs kn left) (hg : W.grownBy W' row) (hr : ∀ r, row = some r → w.heap.size ≤ r ∧ ∃ o : Obj, W.heap[r]? = some o ∧ o.isCells = false) : U2 w W' Cb b3 b4 b7 z N cs kn left := by
  obtain ⟨s, h1, h7, ho, hB⟩ := h.ex
  have h1' := h1.grown hg hr
  refine ⟨⟨s, h1', (grownBy_keeps_cells hg (fun r e => (hr r e).2) h7 rfl).trans h7, ⟨⟨own_apart ho.nw.own (apart_grown hg) (fun k hk m => ?_), ho.nw.new, h1'.ap⟩, ho.len⟩, hB⟩, h.lt, h.n7, h.ne⟩
  obtain ⟨cur, hc⟩ := own_typ ho.nw.own hk
  simp at m
  obtain ⟨o, h2, h3⟩ := (hr k m).2
  rw [hc] at h2
  cases h2
  cases h3
/-- known is another list -/
theorem U2.setK {w W0 W : World} {Cb b3 b4 b7 z N : Nat} {cs : List Bool} {kn kn' : List S} {left : List E} (h : U2 w W0 Cb b3 b4 b7 z N cs kn left) (a : Apart [] W0 W) {q : Option Addr} {n : Nat} (c : Nat) (hl : L W q n kn') (hn : NewP W0 q) : U2 w (W.setCell ⟨b4, 0, none⟩ (.slice q n c)) Cb b3 b4 b7 z N cs kn' left := by
  obtain ⟨s, h1, h7, ho, hB⟩ := h.ex
  have ab : Apart [b4] W (W.setCell ⟨b4, 0, none⟩ (.slice q n c)) := (Apart.refl _ _).setCell (.inl (by simp)) _
  have e1 := lt_of_heap h1.c3
  have e2 := lt_of_heap h1.cC
  obtain ⟨q0, n0, c0, h4, _, _⟩ := h1.k
  have e3 := lt_of_heap h4
  have e7 := lt_of_heap h7
  have h2 := (h1.apart0 a).setK c hl (fun _ P o e m => by
    have hP := hn P o e
    simp at m
    rcases m with m | m | m | m | m
    · omega
    · omega
    · omega
    · omega
    · obtain ⟨cur, hc⟩ := own_typ ho.nw.own m
      have := lt_of_heap hc
      omega)
  refine ⟨⟨s, h2, (ab.block _ (Nat.lt_of_lt_of_le e7 a.size) (by simp; exact h.ne.2.2)).trans ((a.block _ e7 (by simp)).trans h7), ⟨⟨own_apart (ho.kept a).nw.own ab (fun k hk m => ?_), ho.nw.new, h2.ap⟩, ho.len⟩, hB⟩, h.lt, h.n7, h.ne⟩
  simp at m
  have := hB k hk
  have := h.lt.2.2.1
  omega
/-- what a round changes -/
structure Ch (z b4 b7 : Nat) (W W' : World) : Prop where
  size : W.heap.size ≤ W'.heap.size
  low : ∀ k, k < z → k < W.heap.size → k ≠ b4 → k ≠ b7 → W'.heap[k]? = W.heap[k]?
  oth : ∀ (k : Nat) (o : Obj), W.heap[k]? = some o → o.isCells = false → W'.heap[k]? = some o
theorem Ch.trans {z b4 b7 : Nat} {A B C : World} (h : Ch z b4 b7 A B) (k : Ch z b4 b7 B C) : Ch z b4 b7 A C :=
  ⟨Nat.le_trans h.size k.size, fun i h1 h2 h3 h4 => (k.low i h1 (Nat.lt_of_lt_of_le h2 h.size) h3 h4).trans (h.low i h1 h2 h3 h4), fun i o h1 h2 => k.oth i o (h.oth i o h1 h2) h2⟩
theorem Ch.of_apart {z b4 b7 : Nat} {A B : World} {X : List Nat} (a : Apart X A B) (hX : ∀ x ∈ X, (x = b4 ∨ x = b7 ∨ z ≤ x) ∧ ∃ o : Obj, A.heap[x]? = some o ∧ o.isCells = true) : Ch z b4 b7 A B := by
  refine ⟨a.size, fun k h1 h2 h3 h4 => a.block k h2 (fun m => ?_), fun k o h1 h2 => (a.block k (lt_of_heap h1) (fun m => ?_)).trans h1⟩
  · rcases (hX k m).1 with h | h | h
    · exact h3 h
    · exact h4 h
    · omega
  · obtain ⟨o', e1, e2⟩ := (hX k m).2
    rw [h1] at e1
    cases e1
    rw [h2] at e2
    cases e2
theorem Ch.of_apart0 {z b4 b7 : Nat} {A B : World} (a : Apart [] A B) : Ch z b4 b7 A B := Ch.of_apart a (by simp)
theorem U2.ch {w W0 W : World} {Cb b3 b4 b7 z N : Nat} {cs : List Bool} {kn : List S} {left : List E} (h : U2 w W0 Cb b3 b4 b7 z N cs kn left) (a : Apart [] W0 W) (v : Value) : Ch z b4 b7 W0 (W.setCell ⟨b4, 0, none⟩ v) := by
  obtain ⟨s, h1, h7, ho, hB⟩ := h.ex
  obtain ⟨q0, n0, c0, h4, _, _⟩ := h1.k
  exact (Ch.of_apart0 a).trans (Ch.of_apart (X := [b4]) ((Apart.refl _ _).setCell (.inl (by simp)) _) (fun x hx => by
    simp at hx; subst hx
    exact ⟨.inl rfl, _, (a.block _ (lt_of_heap h4) (by simp)).trans h4, rfl⟩))
/-- one more is left -/
theorem U2.app {w W : World} {Cb b3 b4 b7 z N : Nat} {cs : List Bool} {kn : List S} {left : List E} {s : Sl} (h : U2 w W Cb b3 b4 b7 z N cs kn left) (hz : z ≤ W.heap.size) (hs : W.heap[b7]? = some (.cells #[s.v] 39 (0, 0))) (hn : left.length ≤ 2000000) (x : E) (ty : TypeId) :
    ∃ s' W', (Builtin.append_ #[39, 39] ty #[s.v, .slice (some ⟨W.heap.size, 0, none⟩) 1 1]).run Tryd.prog (W.alloc (boxE x)) = .ok (Sl.v s') W' ∧ W'.heap[b7]? = some (.cells #[s.v] 39 (0, 0)) ∧ U2 w (W'.setCell ⟨b7, 0, none⟩ s'.v) Cb b3 b4 b7 z N cs kn (left ++ [x]) ∧ Ch z b4 b7 W (W'.setCell ⟨b7, 0, none⟩ s'.v) ∧ Apart s.v.ownBlock.toList W W' ∧ (∀ B, s.v.ownBlock = some B → z ≤ B) := by
  obtain ⟨s0, h1, h7, ho, hB⟩ := h.ex
  have hss : s0 = s := by
    rw [hs] at h7
    simp [Sl.v] at h7
    cases s0; cases s
    simp_all
  subst hss
  obtain ⟨s', W', hrun, ho', hn', ap, hnq⟩ := run_appEN ho (by rw [← ho.len]; exact hn) x ty
  have hlt7 := h.lt
  have h7' : W'.heap[b7]? = some (.cells #[s0.v] 39 (0, 0)) := (ap.block _ (lt_of_heap h7) (fun m => by simp at m; have := hB _ m; omega)).trans h7
  have hB' : ∀ B, s'.v.ownBlock = some B → z ≤ B := by
    intro B hb
    rcases hnq with e | ⟨q, e, hq⟩
    · exact hB B (e ▸ hb)
    · rw [e] at hb; cases hb; omega
  have u1 : U1 w W Cb b3 b4 N cs kn (b7 :: (s0.v.ownBlock.toList ++ s'.v.ownBlock.toList)) := h1.exch (fun y hy => by
    simp at hy
    rcases hy with hy | hy | hy
    · simp [hy]
    · simp [hy]
    · rcases hnq with e | ⟨q, e, hq⟩
      · rw [e] at hy; simp [hy]
      · rw [e] at hy; cases hy; exact .inr hq)
  have u2 : U1 w W' Cb b3 b4 N cs kn (b7 :: (s0.v.ownBlock.toList ++ s'.v.ownBlock.toList)) := u1.apart ap (fun y hy => by
    simp at hy
    have h3 := hB y hy
    have h4 := ho.nw.new y hy
    exact ⟨by simp [hy], by omega, by omega, by omega, h4⟩)
  have ab : Apart [b7] W' (W'.setCell ⟨b7, 0, none⟩ s'.v) := (Apart.refl _ _).setCell (.inl (by simp)) _
  have u3 := u2.apart ab (fun y hy => by simp at hy; subst hy; exact ⟨by simp, h.ne.1, h.ne.2.1, h.ne.2.2, h.n7⟩)
  refine ⟨s', W', hrun, h7', ⟨⟨s', u3.exch (fun y hy => .inl (by simp at hy ⊢; rcases hy with hy | hy <;> simp [hy])), ?_, ⟨⟨own_apart ho'.nw.own ab (fun k hk m => by simp at m; have := hB' k hk; omega), ho'.nw.new, u3.ap⟩, ho'.len⟩, hB'⟩, h.lt, h.n7, h.ne⟩, ?_, ap, hB⟩
  · have := heap_setCell_same W' b7 0 _ 39 s'.v h7'
    rw [this]; rfl
  · refine (Ch.of_apart ap (fun y hy => ?_)).trans (Ch.of_apart ab (fun y hy => ?_))
    · simp at hy
      obtain ⟨cur, hc⟩ := own_typ ho.nw.own hy
      exact ⟨.inr (.inr (hB y hy)), _, hc, rfl⟩
    · simp at hy; subst hy
      exact ⟨.inr (.inl rfl), _, h7', rfl⟩
/-- the second loop, on lists -/
noncomputable def stU (es : List E) (rs : List Wr) (st : List S × List E) (c : Nat) : List S × List E := (knows st.1 (gR rs c).xs, if (!cvd rs c && !hasd st.1 (gR rs c).n (gR rs c).c) = true then st.2 ++ [gE es c] else st.2)
noncomputable def foU (es : List E) (rs : List Wr) {N : Nat} (l : List (Fin N)) : List S × List E := l.foldl (fun st c => stU es rs st c.1) ([], [])
theorem foU_snoc (es : List E) (rs : List Wr) {N : Nat} (l : List (Fin N)) (c : Fin N) : foU es rs (l ++ [c]) = stU es rs (foU es rs l) c.1 := by simp [foU, List.foldl_append]
theorem fo_ok (es : List E) (rs : List Wr) {N : Nat} (l : List (Fin N)) : ∀ st : List S × List E, OkL 64 st.1 → OkL 64 (l.foldl (fun st c => stU es rs st c.1) st).1 := by
  induction l with
  | nil => intro st h; exact h
  | cons c l ih => intro st h; exact ih _ (knows_ok h)
theorem foU_ok (es : List E) (rs : List Wr) {N : Nat} (l : List (Fin N)) : OkL 64 (foU es rs l).1 := fo_ok es rs l _ (OkL.nil 64)
theorem fo_len (es : List E) (rs : List Wr) {N : Nat} (l : List (Fin N)) : ∀ st : List S × List E, (l.foldl (fun st c => stU es rs st c.1) st).2.length ≤ st.2.length + l.length := by
  induction l with
  | nil => intro st; simp
  | cons c l ih =>
    intro st
    refine Nat.le_trans (ih _) ?_
    unfold stU
    dsimp only
    split
    · rw [List.length_append, List.length_cons, List.length_nil, List.length_cons]; omega
    · rw [List.length_cons]; omega
theorem foU_len (es : List E) (rs : List Wr) {N : Nat} (l : List (Fin N)) : (foU es rs l).2.length ≤ l.length := by
  have := fo_len es rs l ([], [])
  simpa [foU] using this
theorem foU_dn (es : List E) (rs : List Wr) (N : Nat) (hl : rs.length = N) : ∀ m, m ≤ N → foU es rs (dn N m) = (bhd rs (N - m), bU es rs N m)
  | 0, _ => by simp [foU, dn, bU, bhd_end rs N (by omega)]
  | m + 1, hm => by
    rw [dn_succ N m (by omega), foU_snoc, foU_dn es rs N hl m (by omega)]
    have e1 : N - (m + 1) = N - 1 - m := by omega
    have e2 : N - 1 - m + 1 = N - m := by omega
    have e3 := bhd_pred rs (N - 1 - m) (by omega)
    rw [e2] at e3
    unfold stU
    dsimp only
    rw [e1, e3]
    congr 1
    conv => rhs; unfold bU
    unfold uncd
    rw [e2]
end Go.Proofs.YtokaeiahhmaokaaDoor.ds
