import Derived.Test.YtokaeiahhmaokaaDoorW19
import Derived.Test.YtokaeiahhmaokaaDoorW14
import Derived.Test.YtokaeiahhmaokaaDoorW1
import Derived.Test.YtokaeiahhmaokaaDoorW10
import Derived.Deep.CutRange
namespace Go.Proofs.YtokaeiahhmaokaaDoor.ds
open Go.ChangeShapes Go.WideShapes Go.ChangeAt Go.RowKit Go.Sort
set_option linter.unusedVariables false
set_option linter.unusedSimpArgs false
theorem deq2_ok (t u : E) (w : World) : Calls Tryd.prog 96 #[t.agg, u.agg] w fun r w' => r = .returned (.bool (deq t u)) ∧ Apart [] w w' := by
  have aV : Apart [] w ((w.alloc (boxE t)).alloc (boxE u)) := ((Apart.refl [] w).alloc _).alloc _
  obtain ⟨q1, q2⟩ := box2 w t u _ (Apart.refl _ _)
  obtain ⟨t0, t1, t2, t3, t4, t5⟩ := row6 q1
  obtain ⟨u0, u1, u2, u3, u4, u5⟩ := row6 q2
  have hq := fun W => eql24 W t.n t.c u.n u.c
  have hg := guard24
  clear q1 q2
  unfold E.agg
  go_enter Tryd.func96, Tryd.ntmps96
  go_wp2_with fail
  go_ret
  exact ⟨rfl, aV⟩
theorem flatE_take (ls : List E) (k : Nat) : (flatE ls).take (k * 6) = flatE (ls.take k) := by
  by_cases hk : k ≤ ls.length
  · have h : flatE ls = flatE (ls.take k) ++ flatE (ls.drop k) := by rw [← flatE_append, List.take_append_drop]
    have e : (flatE (ls.take k)).length = k * 6 := by rw [flatE_length, List.length_take, Nat.min_eq_left hk]
    rw [h, ← e, List.take_left']
    rfl
  · rw [List.take_of_length_le (by rw [flatE_length]; omega), List.take_of_length_le (by omega)]
theorem OwnE.pre {w W : World} {G N c : Nat} {ls : List E} (h : OwnE w W ⟨some ⟨G, 0, none⟩, N, c⟩ ls) (k : Nat) (hk : k ≤ N) : OwnE w W ⟨some ⟨G, 0, none⟩, k, c⟩ (ls.take k) := by
  have hl := h.len
  simp only at hl
  refine ⟨⟨?_, h.nw.new, h.nw.ap⟩, by rw [List.length_take]; simp only; omega⟩
  obtain ⟨hx, ⟨hv, hz⟩ | ⟨g, cap, cur, hv, hb, hr, hc, hm, hs, ht⟩⟩ := h.nw.own
  · unfold Sl.v at hv; simp at hv
  · unfold Sl.v at hv
    simp at hv
    obtain ⟨rfl, rfl⟩ := hv
    refine ⟨by rw [flatE_length, List.length_take, Nat.min_eq_left (by omega)], .inr ⟨G, c, cur, rfl, Nat.zero_le _, hr, by simp only at hc ⊢; omega, hm, hs, ?_⟩⟩
    simp only at ht ⊢
    rw [← flatE_take, ← ht, List.take_take, Nat.min_eq_left (by have := Nat.mul_le_mul_right 6 hk; omega)]
theorem zero28 (w : World) : (zeroValue 28).run Tryd.prog w = .ok (E.agg E.z) w := by
  obtain ⟨i0, hi, hz0, hz1, hz2⟩ := info_parts infoW
  simp [zeroValue, typeInfo, hi, hz0, E.agg, E.z, Sl.v]
/-- clear of what stands behind the first k -/
theorem clear_run {w W : World} {G N c : Nat} {ls : List E} (h : OwnE w W ⟨some ⟨G, 0, none⟩, N, c⟩ ls) (k : Nat) (hk : k ≤ N) (cc : Nat) (ty : TypeId) : ∃ W', (Builtin.clear_ #[39] ty #[.slice (some ⟨G, k * 6, none⟩) (N - k) cc]).run Tryd.prog W = .ok (.tuple #[]) W' ∧ OwnE w W' ⟨some ⟨G, 0, none⟩, k, c⟩ (ls.take k) ∧ Apart [G] W W' := by
  have hp := h.pre k hk
  by_cases hz : N - k = 0
  · refine ⟨W, ?_, hp, Apart.refl _ _⟩
    rw [hz]
    simp [Builtin.clear_, run_underlying Tryd.underlying39]
  · have hl := h.len
    simp only at hl
    obtain ⟨hx, ⟨hv, hz'⟩ | ⟨g, cap, cur, hv, hb, hr, hc, hm, hs, ht⟩⟩ := h.nw.own
    · unfold Sl.v at hv; simp at hv
    · unfold Sl.v at hv
      simp at hv
      obtain ⟨rfl, rfl⟩ := hv
      simp only at hc ht
      obtain ⟨n, hn⟩ : ∃ n, N - k = n + 1 := ⟨N - k - 1, by omega⟩
      have hcs : (E.agg E.z).cells = (E.cs E.z).toArray := rfl
      obtain ⟨vs, hvs⟩ : ∃ vs, (Builtin.zeroCells (E.agg E.z).cells (n + 1)).toList = vs := ⟨_, rfl⟩
      have hvl : vs.length = (n + 1) * 6 := by
        rw [← hvs, hcs]
        simp [Builtin.zeroCells, E.cs]
      have h1 : ∀ v ∈ vs, v.oneCell' = true := by
        intro v hv
        rw [← hvs, hcs] at hv
        unfold Builtin.zeroCells at hv
        rw [Array.toList_map, List.mem_map] at hv
        obtain ⟨i, _, rfl⟩ := hv
        have hlt : i % (E.cs E.z).toArray.size < 6 := Nat.mod_lt _ (by decide)
        generalize i % (E.cs E.z).toArray.size = r at hlt
        match r, hlt with
        | 0, _ => rfl
        | 1, _ => rfl
        | 2, _ => rfl
        | 3, _ => rfl
        | 4, _ => rfl
        | 5, _ => rfl
      have hst := run_storeCells_at (P := Tryd.prog) G (k * 6) 28 vs 0 cur W hr (by rw [hvl]; omega) h1
      refine ⟨W.setRow G (cur.toList.take (k * 6 + 0) ++ vs ++ cur.toList.drop (k * 6 + 0 + vs.length)).toArray, ?_, ?_, apart_setRow _ _ _⟩
      · rw [hn]
        simp [Builtin.clear_, run_underlying Tryd.underlying39, zero28]
        change ((Sem.run Tryd.prog (storeCells ⟨G, k * 6, none⟩ (Builtin.zeroCells (E.agg E.z).cells (n + 1)).toList) W).andThen fun a w' => Result.ok (Value.tuple #[]) w') = _
        rw [hvs, hst]
        simp [Result.andThen]
      · have ar : Apart [G] W (W.setRow G (cur.toList.take (k * 6 + 0) ++ vs ++ cur.toList.drop (k * 6 + 0 + vs.length)).toArray) := apart_setRow _ _ _
        refine ⟨⟨⟨by rw [flatE_length, List.length_take, Nat.min_eq_left (by omega)], .inr ⟨G, c, _, rfl, Nat.zero_le _, setRow_heap W G _ _ 28 _ hr, by simp only; omega, hm, ?_, ?_⟩⟩, h.nw.new, h.nw.ap.trans' ar (fun y hy => by simp at hy; subst hy; exact .inr (h.nw.new _ rfl))⟩, by rw [List.length_take]; simp only; omega⟩
        · simp
          omega
        · simp only
          rw [← flatE_take, ← ht, List.take_take, Nat.min_eq_left (by have := Nat.mul_le_mul_right 6 hk; omega)]
          simp
          rw [List.take_append_of_le_length (by simp; omega), List.take_take, Nat.min_self]
end Go.Proofs.YtokaeiahhmaokaaDoor.ds
namespace Go.Proofs.YtokaeiahhmaokaaDoor.ds
open Go.ChangeShapes Go.WideShapes Go.ChangeAt Go.RowKit Go.Sort
set_option linter.unusedVariables false
set_option linter.unusedSimpArgs false
/-- each that has not the dot of the one ahead of it -/
def cpF (f : Nat → E) : Nat → List E
  | 0 => []
  | n + 1 => cpF f n ++ (if n = 0 ∨ deq (f n) (f (n - 1)) = false then [f n] else [])
theorem cpF_all (f : Nat → E) : ∀ n, (∀ q, 1 ≤ q → q < n → deq (f q) (f (q - 1)) = false) → cpF f n = (List.range n).map f
  | 0, _ => by simp [cpF]
  | n + 1, h => by
    unfold cpF
    rw [cpF_all f n (fun q h1 h2 => h q h1 (by omega)), List.range_succ, List.map_append]
    congr 1
    rw [if_pos]
    · rfl
    · by_cases h0 : n = 0
      · exact .inl h0
      · exact .inr (h n (by omega) (by omega))
theorem range_gE (ls : List E) : (List.range ls.length).map (gE ls) = ls := by
  apply List.ext_getElem (by simp)
  intro k h1 h2
  simp only [List.getElem_map, List.getElem_range]
  rw [gE_eq _ _ h2]
theorem take_gE (ls : List E) (k : Nat) (h : k ≤ ls.length) : (List.range k).map (gE ls) = ls.take k := by
  apply List.ext_getElem (by simp; omega)
  intro q h1 h2
  simp only [List.getElem_map, List.getElem_range, List.getElem_take]
  have hq : q < ls.length := by simp at h1; omega
  rw [gE_eq _ _ hq]
theorem OwnE.cellsAt {w W : World} {G N c : Nat} {ls : List E} (h : OwnE w W ⟨some ⟨G, 0, none⟩, N, c⟩ ls) (k : Nat) (hk : k < N) (o : Nat) (ho : o = k * 6) : W.cell? ⟨G, o, none⟩ = some (.int .i64 (gE ls k).n) ∧ W.cell? ⟨G, o + 1, none⟩ = some (.int .i64 (gE ls k).c) ∧ W.cell? ⟨G, o + 2, none⟩ = some (.string (gE ls k).k) ∧ W.cell? ⟨G, o + 3, none⟩ = some (.bool (gE ls k).d) ∧ W.cell? ⟨G, o + 4, none⟩ = some (.slice (gE ls k).v.p (gE ls k).v.n (gE ls k).v.c) ∧ W.cell? ⟨G, o + 5, none⟩ = some (.slice (gE ls k).x.p (gE ls k).x.n (gE ls k).x.c) := by
  subst ho
  have hl := h.len
  simp only at hl
  obtain ⟨P', o', e, _, hc⟩ := h.nw.rd (by rw [flatE_length]; omega)
  simp at e
  obtain ⟨rfl, rfl⟩ := e
  simp only [Nat.zero_add] at hc
  obtain ⟨a0, a1, a2, a3, a4, a5⟩ := flatE_get ls k (by omega)
  exact ⟨hc _ _ a0, hc _ _ a1, hc _ _ a2, hc _ _ a3, hc _ _ a4, hc _ _ a5⟩
/-- while the rest is gone through: p have been looked at, k are left -/
structure Cpt (w wr : World) (G N c : Nat) (f : Nat → E) (p k : Nat) (ms : List E) : Prop where
  own : OwnE w wr ⟨some ⟨G, 0, none⟩, N, c⟩ ms
  len : ms.length = N
  pre : ms.take k = cpF f p
  kl : (cpF f p).length = k
  kp : k + 1 ≤ p
  rest : ∀ q, p ≤ q + 1 → q < N → gE ms q = f q
theorem Cpt.skip {w wr wr' : World} {G N c : Nat} {f : Nat → E} {p k : Nat} {ms : List E} (h : Cpt w wr G N c f p k ms) (a : Apart [] wr wr') (hd : deq (f p) (f (p - 1)) = true) (hp : 1 ≤ p)  : Cpt w wr' G N c f (p + 1) k ms := by
  have e : cpF f (p + 1) = cpF f p := by
    show cpF f p ++ _ = _
    rw [if_neg (by rw [hd]; simp; omega), List.append_nil]
  exact ⟨h.own.kept a, h.len, by rw [e]; exact h.pre, by rw [e]; exact h.kl, by have := h.kp; omega, fun q h1 h2 => h.rest q (by omega) h2⟩
theorem Cpt.put {w wr wr' : World} {G N c : Nat} {f : Nat → E} {p k : Nat} {ms : List E} (h : Cpt w wr G N c f p k ms) (hpN : p < N) (hd : deq (f p) (f (p - 1)) = false) (o : wr'.ownsRow 0 28 6 (.slice (some ⟨G, 0, none⟩) N c) N (flatE (ms.set k (f p)))) (a : Apart [G] wr wr')  : Cpt w wr' G N c f (p + 1) (k + 1) (ms.set k (f p)) := by
  have e : cpF f (p + 1) = cpF f p ++ [f p] := by
    show cpF f p ++ _ = _
    rw [if_pos (.inr hd)]
  have hk := h.kp
  have hl := h.len
  have hb := h.own.nw
  refine ⟨⟨⟨o, hb.new, hb.ap.trans' a (fun y hy => by simp at hy; subst hy; exact .inr (hb.new _ rfl))⟩, by rw [List.length_set]; exact h.own.len⟩, by rw [List.length_set]; exact h.len, ?_, by rw [e, List.length_append, h.kl]; rfl, by omega, fun q h1 h2 => ?_⟩
  · rw [e, ← h.pre, List.take_add_one, List.take_set, List.getElem?_set]
    have hkl : k < ms.length := by omega
    simp [hkl]
    rw [List.set_eq_of_length_le (by simp; omega)]
  · have : gE (ms.set k (f p)) q = gE ms q := by
      unfold gE
      rw [List.getD_eq_getElem?_getD, List.getD_eq_getElem?_getD, List.getElem?_set_ne (by omega)]
    rw [this]
    exact h.rest q (by omega) h2
set_option maxHeartbeats 16000000 in
set_option maxRecDepth 100000 in
theorem compact_ok {w W : World} {G N c : Nat} {ls : List E} (h : OwnE w W ⟨some ⟨G, 0, none⟩, N, c⟩ ls) (hN : N ≤ 2000000) : Calls Tryd.prog 95 #[.slice (some ⟨G, 0, none⟩) N c, .func (.func 96) #[] #[]] W fun r W' => ∃ n : Nat, r = .returned (.slice (some ⟨G, 0, none⟩) n c) ∧ OwnE w W' ⟨some ⟨G, 0, none⟩, n, c⟩ (cpF (gE ls) N) ∧ Apart [G] W W' := by
  have hlen := h.len
  simp only at hlen
  have HH := hid h
  have HLEN := hid hlen
  clear h hlen
  by_cases h2 : N < 2
  · have h2I : ((N : Nat) : Int) < 2 := by omega
    have HF : Hid (cpF (gE ls) N = ls) := by
      unfold Hid
      rw [cpF_all (gE ls) N (fun q h1 h2 => by omega), ← HLEN.out, range_gE]
    go_enter Tryd.func95, Tryd.ntmps95
    go_wp2_with fail
    go_ret
    exact ⟨N, rfl, by rw [HF.out]; exact HH.out, Apart.refl _ _⟩
  have h2I : ¬ (((N : Nat) : Int) < 2) := by omega
  go_enter Tryd.func95, Tryd.ntmps95
  go_wp2_with fail
  go_loopw [5] (fun v wr => ∃ k : Nat, v = .int .i64 (k : Nat) ∧ 1 ≤ k ∧ k ≤ N ∧ (∀ q, 1 ≤ q → q < k → deq (gE ls q) (gE ls (q - 1)) = false) ∧ Apart [] W wr) (fun v _ => N - (intOf v).toNat)
  case atStart => exact ⟨1, rfl, by decide, by omega, fun q h1 h2 => absurd h1 (by omega), Apart.refl _ _⟩
  case round =>
    obtain ⟨k, rfl, hk1, hkN, hno, ap⟩ := hrel
    have HNO := hid hno
    have HAP := hid ap
    have HO := hid (HH.out.kept ap)
    clear hno ap
    by_cases hlt : k < N
    · obtain ⟨j, hj⟩ : ∃ j, k = j + 1 := ⟨k - 1, by omega⟩
      have HKJ := hid hj
      have HWJ : Hid (IntKind.i64.wrap (((k : Nat) : Int) - 1) = ((j : Nat) : Int)) := by unfold Hid; rw [IntKind.wrap_i64]; omega
      have hkNI : ((k : Nat) : Int) < (N : Int) := by omega
      have hjNI : ((j : Nat) : Int) < (N : Int) := by omega
      have HCX : Hid (∀ X, Apart [] wr X → _) := fun X ax => (HO.out.kept ax).cellsAt k hlt (k * 6) rfl
      have HCY : Hid (∀ X, Apart [] wr X → _) := fun X ax => (HO.out.kept ax).cellsAt j (by omega) (j * 6) rfl
      clear hj
      obtain ⟨x, Hx⟩ : ∃ x, Hid (x = gE ls k) := ⟨_, rfl⟩
      obtain ⟨y, Hy⟩ : ∃ y, Hid (y = gE ls j) := ⟨_, rfl⟩
      rw [← Hx.out] at HCX
      rw [← Hy.out] at HCY
      obtain ⟨bb, HBB⟩ : ∃ bb, Hid (bb = deq x y) := ⟨_, rfl⟩
      have HCM : Hid (∀ X, Apart [] wr X → Calls Tryd.prog 96 #[x.agg, y.agg] X fun r w' => r = .returned (.bool bb) ∧ Apart [] X w') := fun X _ => by rw [HBB.out]; exact deq2_ok _ _ X
      unfold E.agg Sl.v at HCM
      go_upto_region 6 with fail
      go_cut [28] from 12 to 28 (fun s wx => s = .bool bb ∧ Apart [] wr wx)
      case first =>
        clear HNO Hx Hy HBB
        refine wp_region_held_drew (S := fun X => Apart [] wr X) (by kernel_rfl) (Apart.refl [] wr).drew (fun hHeld => ?_)
        generalize wr.drew = wd at *
        refine tk 0 18 (.func (.func 96) #[] #[]) rfl ?_ ?_
        · intro W hSW; go_simp
        simp only [Act.put, List.setIfInBounds_toArray, List.set_cons_zero, List.set_cons_succ]
        refine tk 1 19 (.slice (some ⟨G, 0, none⟩) N c) rfl ?_ ?_
        · intro W hSW; go_simp
        simp only [Act.put, List.setIfInBounds_toArray, List.set_cons_zero, List.set_cons_succ]
        refine tk 2 20 (.int .i64 (k : Nat)) rfl ?_ ?_
        · intro W hSW; go_simp
        simp only [Act.put, List.setIfInBounds_toArray, List.set_cons_zero, List.set_cons_succ]
        refine tk 3 21 (.pointer (some ⟨G, k * 6, none⟩)) rfl ?_ ?_
        · intro W hSW; go_simp
        simp only [Act.put, List.setIfInBounds_toArray, List.set_cons_zero, List.set_cons_succ]
        refine tk 4 22 (.agg #[.int .i64 x.n, .int .i64 x.c, .string x.k, .bool x.d, .slice x.v.p x.v.n x.v.c, .slice x.x.p x.x.n x.x.c]) rfl ?_ ?_
        · intro W hSW; obtain ⟨i0, i1, i2, i3, i4, i5⟩ := HCX.out W hSW; go_simp
        simp only [Act.put, List.setIfInBounds_toArray, List.set_cons_zero, List.set_cons_succ]
        refine tk 5 23 (.slice (some ⟨G, 0, none⟩) N c) rfl ?_ ?_
        · intro W hSW; go_simp
        simp only [Act.put, List.setIfInBounds_toArray, List.set_cons_zero, List.set_cons_succ]
        refine tk 6 24 (.int .i64 (k : Nat)) rfl ?_ ?_
        · intro W hSW; go_simp
        simp only [Act.put, List.setIfInBounds_toArray, List.set_cons_zero, List.set_cons_succ]
        refine tk 7 25 (.int .i64 (j : Nat)) rfl ?_ ?_
        · intro W hSW; have hw := HWJ.out; go_simp
        simp only [Act.put, List.setIfInBounds_toArray, List.set_cons_zero, List.set_cons_succ]
        refine tk 8 26 (.pointer (some ⟨G, j * 6, none⟩)) rfl ?_ ?_
        · intro W hSW; go_simp
        simp only [Act.put, List.setIfInBounds_toArray, List.set_cons_zero, List.set_cons_succ]
        refine tk 9 27 (.agg #[.int .i64 y.n, .int .i64 y.c, .string y.k, .bool y.d, .slice y.v.p y.v.n y.v.c, .slice y.x.p y.x.n y.x.c]) rfl ?_ ?_
        · intro W hSW; obtain ⟨i0, i1, i2, i3, i4, i5⟩ := HCY.out W hSW; go_simp
        simp only [Act.put, List.setIfInBounds_toArray, List.set_cons_zero, List.set_cons_succ]
        refine wpAnyH_ready (rs := [10]) (by kernel_rfl) (by simp) ?_
        refine AllReadyH.cons rfl (fun KK hKK => ?_) AllReadyH.nil
        go_simp
        refine (HCM.out _ hHeld).mono ?_
        rintro _ w5 ⟨rfl, a5⟩
        have hS5 : Apart [] wr w5 := hHeld.trans a5
        clear a5
        try dsimp only
        refine hKK.out _ _ hS5 (fun hHeld => ?_)
        clear hKK KK
        refine wpAnyH_done (by kernel_rfl) ?_ _
        go_wp2_with fail
        go_meet
        exact ⟨rfl, hS5⟩
      obtain ⟨rfl, ac⟩ := hcut
      have HAC := hid ac
      clear ac HCX HCY HCM
      cases hbv : bb
      case false =>
        have HN2 : Hid (∀ q, 1 ≤ q → q < k + 1 → deq (gE ls q) (gE ls (q - 1)) = false) := fun q h1 h2 => by
          by_cases e : q = k
          · rw [e, show k - 1 = j from by have := HKJ.out; omega, ← Hx.out, ← Hy.out, ← HBB.out]; exact hbv
          · exact HNO.out q h1 (by omega)
        go_wp2_with fail
        go_roundw
        case rel => exact ⟨k + 1, by go_num, by omega, by omega, HN2.out, HAP.out.trans HAC.out⟩
        case measure => simp [intOf]; omega
      case true =>
        have HCP : Hid (Cpt w wc G N c (gE ls) (k + 1) k ls) := by
          have e1 := cpF_all (gE ls) k HNO.out
          have e2 : cpF (gE ls) (k + 1) = cpF (gE ls) k := by
            show cpF (gE ls) k ++ _ = _
            rw [if_neg, List.append_nil]
            rw [show k - 1 = j from by have := HKJ.out; omega, ← Hx.out, ← Hy.out, ← HBB.out, hbv]
            simp
            omega
          have hl := HLEN.out
          exact ⟨HO.out.kept HAC.out, hl, by rw [e2, e1, take_gE ls k (by omega)], by rw [e2, e1]; simp, Nat.le_refl _, fun q _ _ => rfl⟩
        have HAPC : Hid (Apart [G] W wc) := (HAP.out.trans HAC.out).mono (by simp)
        have hcap : N ≤ c := by
          obtain ⟨_, ⟨hv, _⟩ | ⟨g, cap, cur, hv, _, _, hc, _⟩⟩ := HCP.out.own.nw.own
          · unfold Sl.v at hv; simp at hv
          · unfold Sl.v at hv
            simp at hv
            rw [hv.2]; exact hc
        have hcapI : ((N : Nat) : Int) ≤ (c : Int) := by omega
        have hkNI2 : ((k : Nat) : Int) ≤ (N : Int) := by omega
        clear Hx Hy HBB HNO HKJ HWJ HO HAP HAC
        go_wp2_with fail
        obtain ⟨M, hM⟩ : ∃ M, N - k = M := ⟨_, rfl⟩
        obtain ⟨c2, hc2⟩ : ∃ c2, c - k = c2 := ⟨_, rfl⟩
        obtain ⟨K, hK⟩ : ∃ K, K = k := ⟨_, rfl⟩
        rw [hM, hc2, ← hK]
        have HM := hid hM
        have HK := hid hK
        rw [← hK] at HM HCP
        have hKN : K < N := by omega
        have hKM : K + M = N := by omega
        have HKM := hid hKM
        have hM2 : M ≤ 2000000 := by omega
        clear hM hc2 hK hKM hkNI2
        go_loopw [5, 7] (fun u v wr => ∃ (kk k2 : Nat) (ms : List E), u = .int .i64 (kk : Nat) ∧ v = .int .i64 (k2 : Nat) ∧ 1 ≤ k2 ∧ k2 ≤ M ∧ Cpt w wr G N c (gE ls) (K + k2) kk ms ∧ Apart [G] W wr) (fun _ v _ => M - (intOf v).toNat)
        case atStart => exact ⟨K, 1, ls, rfl, rfl, by decide, by have := HKM.out; omega, HCP.out, HAPC.out⟩
        case round =>
          obtain ⟨kk, k2, ms, rfl, rfl, hk21, hk2M, hcp, ap⟩ := hrel
          have HCT := hid hcp
          have HAP := hid ap
          clear hcp ap HCP HAPC
          have hkkN : kk < N := by have h1 := HCT.out.kp; have h2 := HKM.out; omega
          by_cases hlt2 : k2 < M
          · obtain ⟨j, hj⟩ : ∃ j, k2 = j + 1 := ⟨k2 - 1, by omega⟩
            have HKJ := hid hj
            have HWJ : Hid (IntKind.i64.wrap (((k2 : Nat) : Int) - 1) = ((j : Nat) : Int)) := by unfold Hid; rw [IntKind.wrap_i64]; omega
            have hkNI3 : ((k2 : Nat) : Int) < (M : Int) := by omega
            have hjNI3 : ((j : Nat) : Int) < (M : Int) := by omega
            have HCX : Hid (∀ X, Apart [] wr X → _) := fun X ax => (HCT.out.own.kept ax).cellsAt (K + k2) (by have := HKM.out; omega) (K * 6 + k2 * 6) (by omega)
            have HCY : Hid (∀ X, Apart [] wr X → _) := fun X ax => (HCT.out.own.kept ax).cellsAt (K + j) (by have := HKM.out; omega) (K * 6 + j * 6) (by omega)
            rw [HCT.out.rest (K + k2) (by omega) (by have := HKM.out; omega)] at HCX
            rw [HCT.out.rest (K + j) (by omega) (by have := HKM.out; omega)] at HCY
            clear hj
            obtain ⟨x, Hx⟩ : ∃ x, Hid (x = gE ls (K + k2)) := ⟨_, rfl⟩
            obtain ⟨y, Hy⟩ : ∃ y, Hid (y = gE ls (K + j)) := ⟨_, rfl⟩
            rw [← Hx.out] at HCX
            rw [← Hy.out] at HCY
            obtain ⟨bb, HBB⟩ : ∃ bb, Hid (bb = deq x y) := ⟨_, rfl⟩
            have HCM : Hid (∀ X, Apart [] wr X → Calls Tryd.prog 96 #[x.agg, y.agg] X fun r w' => r = .returned (.bool bb) ∧ Apart [] X w') := fun X _ => by rw [HBB.out]; exact deq2_ok _ _ X
            unfold E.agg Sl.v at HCM
            go_upto_region 11 with fail
            go_cut [49] from 32 to 49 (fun s wx => s = .bool (!bb) ∧ Apart [] wr wx)
            case first =>
              clear Hx Hy HBB
              refine wp_region_held_drew (S := fun X => Apart [] wr X) (by kernel_rfl) (Apart.refl [] wr).drew (fun hHeld => ?_)
              generalize wr.drew = wd at *
              refine tk 0 38 (.func (.func 96) #[] #[]) rfl ?_ ?_
              · intro W hSW; go_simp
              simp only [Act.put, List.setIfInBounds_toArray, List.set_cons_zero, List.set_cons_succ]
              refine tk 1 39 (.slice (some ⟨G, K * 6, none⟩) M c2) rfl ?_ ?_
              · intro W hSW; go_simp
              simp only [Act.put, List.setIfInBounds_toArray, List.set_cons_zero, List.set_cons_succ]
              refine tk 2 40 (.int .i64 (k2 : Nat)) rfl ?_ ?_
              · intro W hSW; go_simp
              simp only [Act.put, List.setIfInBounds_toArray, List.set_cons_zero, List.set_cons_succ]
              refine tk 3 41 (.pointer (some ⟨G, K * 6 + k2 * 6, none⟩)) rfl ?_ ?_
              · intro W hSW; go_simp
              simp only [Act.put, List.setIfInBounds_toArray, List.set_cons_zero, List.set_cons_succ]
              refine tk 4 42 (.agg #[.int .i64 x.n, .int .i64 x.c, .string x.k, .bool x.d, .slice x.v.p x.v.n x.v.c, .slice x.x.p x.x.n x.x.c]) rfl ?_ ?_
              · intro W hSW; obtain ⟨i0, i1, i2, i3, i4, i5⟩ := HCX.out W hSW; go_simp
              simp only [Act.put, List.setIfInBounds_toArray, List.set_cons_zero, List.set_cons_succ]
              refine tk 5 43 (.slice (some ⟨G, K * 6, none⟩) M c2) rfl ?_ ?_
              · intro W hSW; go_simp
              simp only [Act.put, List.setIfInBounds_toArray, List.set_cons_zero, List.set_cons_succ]
              refine tk 6 44 (.int .i64 (k2 : Nat)) rfl ?_ ?_
              · intro W hSW; go_simp
              simp only [Act.put, List.setIfInBounds_toArray, List.set_cons_zero, List.set_cons_succ]
              refine tk 7 45 (.int .i64 (j : Nat)) rfl ?_ ?_
              · intro W hSW; have hw := HWJ.out; go_simp
              simp only [Act.put, List.setIfInBounds_toArray, List.set_cons_zero, List.set_cons_succ]
              refine tk 8 46 (.pointer (some ⟨G, K * 6 + j * 6, none⟩)) rfl ?_ ?_
              · intro W hSW; go_simp
              simp only [Act.put, List.setIfInBounds_toArray, List.set_cons_zero, List.set_cons_succ]
              refine tk 9 47 (.agg #[.int .i64 y.n, .int .i64 y.c, .string y.k, .bool y.d, .slice y.v.p y.v.n y.v.c, .slice y.x.p y.x.n y.x.c]) rfl ?_ ?_
              · intro W hSW; obtain ⟨i0, i1, i2, i3, i4, i5⟩ := HCY.out W hSW; go_simp
              simp only [Act.put, List.setIfInBounds_toArray, List.set_cons_zero, List.set_cons_succ]
              refine wpAnyH_ready (rs := [10]) (by kernel_rfl) (by simp) ?_
              refine AllReadyH.cons rfl (fun KK hKK => ?_) AllReadyH.nil
              go_simp
              refine (HCM.out _ hHeld).mono ?_
              rintro _ w5 ⟨rfl, a5⟩
              have hS5 : Apart [] wr w5 := hHeld.trans a5
              clear a5
              try dsimp only
              refine hKK.out _ _ hS5 (fun hHeld => ?_)
              clear hKK KK
              refine tk 11 49 (.bool (!bb)) rfl ?_ ?_
              · intro W hSW; go_simp
              simp only [Act.put, List.setIfInBounds_toArray, List.set_cons_zero, List.set_cons_succ]
              refine wpAnyH_done (by kernel_rfl) ?_ _
              go_wp2_with fail
              go_meet
              exact ⟨rfl, hS5⟩
            obtain ⟨rfl, ac⟩ := hcut
            have HAC := hid ac
            clear ac HCM HCY
            have HDE : Hid (bb = deq (gE ls (K + k2)) (gE ls (K + k2 - 1))) := by
              unfold Hid
              rw [HBB.out, Hx.out, Hy.out, show K + k2 - 1 = K + j from by have := HKJ.out; omega]
            cases hbv : bb
            case true =>
              have HC2 : Hid (Cpt w wc G N c (gE ls) (K + (k2 + 1)) kk ms) := HCT.out.skip HAC.out (by rw [← HDE.out]; exact hbv) (by omega)
              clear HCX
              go_wp2_with fail
              go_roundw
              case rel => exact ⟨kk, k2 + 1, ms, rfl, by go_num, by omega, by omega, HC2.out, HAP.out.trans (HAC.out.mono (by simp))⟩
              case measure => simp [intOf]; omega
            case false =>
              have hoc := HCT.out.own.kept HAC.out
              obtain ⟨x0, x1, x2, x3, x4, x5⟩ := HCX.out wc HAC.out
              obtain ⟨y0, y1, y2, y3, y4, y5⟩ := hoc.cellsAt kk hkkN (kk * 6) rfl
              have own1 := hoc.nw.own
              unfold Sl.v at own1
              simp only at own1
              have f0 := own1.frozenAt (kk * 6)
              have f1 := own1.frozenAt (kk * 6 + 1)
              have f2 := own1.frozenAt (kk * 6 + 2)
              have f3 := own1.frozenAt (kk * 6 + 3)
              have f4 := own1.frozenAt (kk * 6 + 4)
              have f5 := own1.frozenAt (kk * 6 + 5)
              have own2 := own_set6 own1 kk (by rw [HCT.out.len]; exact hkkN) x
              rw [Hx.out] at own2
              have A2 : Apart [G] wr (set6 wc G (kk * 6) (gE ls (K + k2))) := (HAC.out.mono (by simp)).trans (apart_set6 _ _ _ _)
              have HC2 := hid (HCT.out.put (by have := HKM.out; omega) (by rw [← HDE.out]; exact hbv) own2 A2)
              have HA2 := hid (HAP.out.trans A2)
              rw [← Hx.out] at HC2 HA2
              have hkkI : ((kk : Nat) : Int) < (N : Int) := by omega
              clear hoc own1 own2 A2 HCX
              go_wp2_with fail
              go_roundw
              case rel => exact ⟨kk + 1, k2 + 1, _, by go_num, by go_num, by omega, by omega, HC2.out, HA2.out⟩
              case measure => simp [intOf]; omega
          · obtain rfl : M = k2 := by omega
            have hcl := fun ty => clear_run HCT.out.own kk (by omega) (c - kk) ty
            have hpe : Hid (ms.take kk = cpF (gE ls) N) := by rw [HCT.out.pre, HKM.out]; rfl
            have hkkI : ((kk : Nat) : Int) ≤ (N : Int) := by omega
            obtain ⟨W6, hrun, ho6, a6⟩ := hcl 0
            have HO6 := hid ho6
            have HA6 := hid (HAP.out.trans a6)
            rw [hpe.out] at HO6
            clear ho6 a6 hcl hpe HCT
            go_wp2_with fail
            go_ret
            exact ⟨kk, rfl, HO6.out, HA6.out⟩
    · have HF : Hid (cpF (gE ls) N = ls) := by
        unfold Hid
        rw [cpF_all (gE ls) N (fun q h1 h2 => HNO.out q h1 (by omega)), ← HLEN.out, range_gE]
      go_wp2_with fail
      go_ret
      exact ⟨N, rfl, by rw [HF.out]; exact HO.out, HAP.out.mono (by simp)⟩
end Go.Proofs.YtokaeiahhmaokaaDoor.ds
namespace Go.Proofs.YtokaeiahhmaokaaDoor.ds
set_option linter.unusedVariables false
set_option linter.unusedSimpArgs false
theorem dl_irr {a : E} (h : dl a a) : False := by unfold dl at h; omega
theorem dl_tr {a b c : E} (h : dl a b) (k : dl b c) : dl a c := by unfold dl at *; omega
theorem deq_iff (a b : E) : deq a b = true ↔ a.n = b.n ∧ a.c = b.c := by unfold deq; simp
theorem below_iff (a b : E) : below a b = true ↔ dl a b := by unfold below dl; simp
/-- lists in strict order with the same members are one -/
theorem srt_ext : ∀ {l m : List E}, l.Pairwise dl → m.Pairwise dl → (∀ x, x ∈ l ↔ x ∈ m) → l = m
  | [], [], _, _, _ => rfl
  | [], b :: m, _, _, h => absurd ((h b).2 (by simp)) (by simp)
  | a :: l, [], _, _, h => absurd ((h a).1 (by simp)) (by simp)
  | a :: l, b :: m, hl, hm, h => by
    rw [List.pairwise_cons] at hl hm
    have hab : a = b := by
      rcases List.mem_cons.1 ((h a).1 (by simp)) with e | e
      · exact e
      · rcases List.mem_cons.1 ((h b).2 (by simp)) with f | f
        · exact f.symm
        · exact (dl_irr (dl_tr (hl.1 b f) (hm.1 a e))).elim
    subst hab
    rw [srt_ext hl.2 hm.2 (fun x => ?_)]
    constructor
    · intro hx
      rcases List.mem_cons.1 ((h x).1 (List.mem_cons_of_mem _ hx)) with e | e
      · rw [e] at hx; exact (dl_irr (hl.1 a hx)).elim
      · exact e
    · intro hx
      rcases List.mem_cons.1 ((h x).2 (List.mem_cons_of_mem _ hx)) with e | e
      · rw [e] at hx; exact (dl_irr (hm.1 a hx)).elim
      · exact e
/-- the document's: each dot once, by rising dots -/
def eachE (ls : List E) : List E := ls.foldl (fun out w => if out.any (fun o => deq o w) = true then out else insE w out) []
/-- the first of its dot -/
def Fst (ls : List E) (x : E) : Prop := ∃ k, k < ls.length ∧ gE ls k = x ∧ ∀ j, j < k → deq (gE ls j) x = false
theorem ins_mem (u x : E) : ∀ l : List E, x ∈ insE u l ↔ x = u ∨ x ∈ l
  | [] => by simp [insE]
  | y :: l => by
    unfold insE
    split
    · simp
    · rw [List.mem_cons, ins_mem u x l, List.mem_cons]
      constructor
      · rintro (h | h | h)
        · exact .inr (.inl h)
        · exact .inl h
        · exact .inr (.inr h)
      · rintro (h | h | h)
        · exact .inr (.inl h)
        · exact .inl h
        · exact .inr (.inr h)
theorem ins_srt (u : E) : ∀ l : List E, l.Pairwise dl → (∀ y ∈ l, deq y u = false) → (insE u l).Pairwise dl
  | [], _, _ => by simp [insE]
  | y :: l, h, hd => by
    rw [List.pairwise_cons] at h
    unfold insE
    split
    · rename_i hb
      rw [below_iff] at hb
      rw [List.pairwise_cons]
      refine ⟨fun z hz => ?_, List.pairwise_cons.2 h⟩
      rcases List.mem_cons.1 hz with e | e
      · rw [e]; exact hb
      · exact dl_tr hb (h.1 z e)
    · rename_i hb
      rw [below_iff] at hb
      rw [List.pairwise_cons]
      refine ⟨fun z hz => ?_, ins_srt u l h.2 (fun y hy => hd y (List.mem_cons_of_mem _ hy))⟩
      rcases (ins_mem u z l).1 hz with e | e
      · rw [e]
        have := hd y (by simp)
        rw [← Bool.not_eq_true, deq_iff] at this
        unfold dl at hb ⊢
        omega
      · exact h.1 z e
theorem gE_app (ls : List E) (w : E) (k : Nat) (h : k < ls.length) : gE (ls ++ [w]) k = gE ls k := by
  unfold gE; rw [List.getD_eq_getElem?_getD, List.getD_eq_getElem?_getD, List.getElem?_append_left h]
theorem gE_last (ls : List E) (w : E) : gE (ls ++ [w]) ls.length = w := by
  unfold gE; rw [List.getD_eq_getElem?_getD]; simp
theorem each_snoc (ls : List E) (w : E) : eachE (ls ++ [w]) = if (eachE ls).any (fun o => deq o w) = true then eachE ls else insE w (eachE ls) := by
  unfold eachE; rw [List.foldl_append]; rfl
/-- what each tells, from the last on -/
theorem each_ok : ∀ (n : Nat) (ls : List E), ls.length = n → (eachE ls).Pairwise dl ∧ ∀ x, x ∈ eachE ls ↔ Fst ls x
  | 0, ls, hn => by
    have : ls = [] := List.length_eq_zero_iff.1 hn
    subst this
    refine ⟨List.Pairwise.nil, fun x => ⟨fun h => absurd h (by simp [eachE]), fun ⟨k, hk, _⟩ => absurd hk (by simp)⟩⟩
  | n + 1, ls, hn => by
    obtain ⟨l, w, rfl⟩ : ∃ l w, ls = l ++ [w] := ⟨ls.dropLast, ls.getLast (by intro e; rw [e] at hn; simp at hn), (List.dropLast_concat_getLast _).symm⟩
    have hl : l.length = n := by simpa using hn
    obtain ⟨h1, h2⟩ := each_ok n l hl
    rw [each_snoc]
    have hfw : ∀ x, Fst (l ++ [w]) x ↔ Fst l x ∨ (x = w ∧ ∀ j, j < l.length → deq (gE l j) w = false) := by
      intro x
      constructor
      · rintro ⟨k, hk, e, hno⟩
        simp at hk
        by_cases hkl : k < l.length
        · exact .inl ⟨k, hkl, by rw [← gE_app l w k hkl]; exact e, fun j hj => by rw [← gE_app l w j (by omega)]; exact hno j hj⟩
        · have : k = l.length := by omega
          subst this
          rw [gE_last] at e
          refine .inr ⟨e.symm, fun j hj => ?_⟩
          have g := hno j hj
          rw [gE_app l w j hj, ← e] at g
          exact g
      · rintro (⟨k, hk, e, hno⟩ | ⟨e, hno⟩)
        · exact ⟨k, by simp; omega, by rw [gE_app l w k hk]; exact e, fun j hj => by rw [gE_app l w j (by omega)]; exact hno j hj⟩
        · exact ⟨l.length, by simp, by rw [gE_last, e], fun j hj => by rw [gE_app l w j hj, e]; exact hno j hj⟩
    by_cases ha : (eachE l).any (fun o => deq o w) = true
    · rw [if_pos ha]
      refine ⟨h1, fun x => ?_⟩
      rw [h2, hfw]
      constructor
      · exact .inl
      · rintro (h | ⟨e, hno⟩)
        · exact h
        · exfalso
          rw [List.any_eq_true] at ha
          obtain ⟨o, ho, hd⟩ := ha
          obtain ⟨k, hk, e2, _⟩ := (h2 o).1 ho
          have := hno k hk
          rw [e2, hd] at this
          cases this
    · rw [if_neg ha]
      have hna : ∀ y ∈ eachE l, deq y w = false := fun y hy => by
        cases hd : deq y w with
        | false => rfl
        | true => exact absurd (List.any_eq_true.2 ⟨y, hy, hd⟩) ha
      have hno : ∀ j, j < l.length → deq (gE l j) w = false := by
        intro j
        induction j using Nat.strongRecOn with
        | ind j ih =>
          intro hj
          cases hd : deq (gE l j) w with
          | false => rfl
          | true =>
            exfalso
            have : gE l j ∈ eachE l := (h2 _).2 ⟨j, hj, rfl, fun i hi => by
              have g1 := ih i hi (by omega)
              cases hq : deq (gE l i) (gE l j) with
              | false => rfl
              | true =>
                rw [deq_iff] at hq hd
                rw [← Bool.not_eq_true, deq_iff] at g1
                exact absurd ⟨hq.1.trans hd.1, hq.2.trans hd.2⟩ g1⟩
            have := hna _ this
            rw [hd] at this
            cases this
      refine ⟨ins_srt w _ h1 hna, fun x => ?_⟩
      rw [ins_mem, h2, hfw]
      constructor
      · rintro (e | h)
        · exact .inr ⟨e, hno⟩
        · exact .inl h
      · rintro (h | ⟨e, _⟩)
        · exact .inr h
        · exact .inl e
theorem cp_mem (f : Nat → E) (x : E) : ∀ n, x ∈ cpF f n ↔ ∃ k, k < n ∧ f k = x ∧ (k = 0 ∨ deq (f k) (f (k - 1)) = false)
  | 0 => by simp [cpF]
  | n + 1 => by
    unfold cpF
    rw [List.mem_append, cp_mem f x n]
    constructor
    · rintro (⟨k, h1, h2, h3⟩ | h)
      · exact ⟨k, by omega, h2, h3⟩
      · split at h
        · rename_i hc
          simp at h
          exact ⟨n, by omega, h.symm, hc⟩
        · simp at h
    · rintro ⟨k, h1, h2, h3⟩
      by_cases hk : k = n
      · right
        subst hk
        rw [if_pos h3]
        simp [h2]
      · exact .inl ⟨k, by omega, h2, h3⟩
theorem lt2_le {x y : E × Nat} (h : lt2 x y) : ¬ dl y.1 x.1 := by unfold lt2 dl at *; omega
/-- two that are left stand in strict order -/
theorem cp_dl {D : TF} {n k k' : Nat} (hs : Srt 0 n D) (hk : k < k') (hk' : k' < n) (h : deq (D k').1 (D (k' - 1)).1 = false) : dl (D k).1 (D k').1 := by
  have h1 := hs (k' - 1) k' (by omega) (by omega) hk'
  rw [← Bool.not_eq_true, deq_iff] at h
  have h2 : dl (D (k' - 1)).1 (D k').1 := by unfold lt2 at h1; rcases h1 with h1 | h1
                                             · exact h1
                                             · exact absurd ⟨h1.1.symm, h1.2.1.symm⟩ h
  by_cases e : k = k' - 1
  · rw [e]; exact h2
  · have h3 := lt2_le (hs k (k' - 1) (by omega) (by omega) (by omega))
    unfold dl at h2 h3 ⊢
    omega
theorem cp_srt {D : TF} {N : Nat} (hs : Srt 0 N D) : ∀ n, n ≤ N → (cpF (fun k => (D k).1) n).Pairwise dl
  | 0, _ => by simp [cpF]
  | n + 1, hn => by
    unfold cpF
    rw [List.pairwise_append]
    refine ⟨cp_srt hs n (by omega), ?_, ?_⟩
    · split
      · simp
      · simp
    · intro a ha b hb
      split at hb
      · rename_i hc
        simp at hb
        subst hb
        obtain ⟨k, h1, rfl, _⟩ := (cp_mem _ a n).1 ha
        rcases hc with h0 | h0
        · omega
        · exact cp_dl hs h1 (by omega) h0
      · simp at hb
/-- byDots on lists -/
theorem sorted_each {ls : List E} {D : TF} (p : Pm 0 ls.length (idx (gE ls)) D) (hs : Srt 0 ls.length D) : cpF (fun k => (D k).1) ls.length = eachE ls := by
  obtain ⟨e1, e2⟩ := each_ok _ ls rfl
  refine srt_ext (cp_srt hs _ (Nat.le_refl _)) e1 (fun x => ?_)
  rw [e2, cp_mem]
  obtain ⟨σ, τ, s1, s2, s3, s4⟩ := id p
  have hin : ∀ k, k < ls.length → σ k < ls.length := fun k hk => by
    by_cases hc : σ k < ls.length
    · exact hc
    · have e := s3 (σ k) (by omega)
      have e3 : τ (σ (σ k)) = τ (σ k) := by rw [e]
      rw [s2, s2] at e3
      omega
  have hti : ∀ k, k < ls.length → τ k < ls.length := fun k hk => by
    by_cases hc : τ k < ls.length
    · exact hc
    · have e := s3 (τ k) (by omega)
      rw [s1] at e
      omega
  have hD : ∀ k, D k = (gE ls (σ k), σ k) := fun k => by rw [s4]; rfl
  constructor
  · rintro ⟨k, hk, rfl, hc⟩
    refine ⟨σ k, hin k hk, by rw [hD], fun j hj => ?_⟩
    cases hd : deq (gE ls j) (D k).1 with
    | false => rfl
    | true =>
      exfalso
      rw [deq_iff] at hd
      have hjl : j < ls.length := Nat.lt_trans hj (hin k hk)
      have hq := hti j hjl
      have hDq : D (τ j) = (gE ls j, j) := by rw [hD, s1]
      have hne : τ j ≠ k := fun e => by have := s1 j; rw [e] at this; omega
      have hDk := hD k
      rcases Nat.lt_or_gt_of_ne hne with h | h
      · rcases hc with h0 | h0
        · omega
        · have := cp_dl hs h hk h0
          rw [hDq] at this
          unfold dl at this
          simp only at this
          omega
      · have := hs k (τ j) (by omega) h hq
        rw [hDq] at this
        unfold lt2 dl at this
        simp only at this
        have e5 : (D k).2 = σ k := by rw [hDk]
        omega
  · rintro ⟨k, hk, rfl, hno⟩
    have hDq : D (τ k) = (gE ls k, k) := by rw [hD, s1]
    refine ⟨τ k, hti k hk, by rw [hDq], ?_⟩
    by_cases h0 : τ k = 0
    · exact .inl h0
    · right
      cases hd : deq (D (τ k)).1 (D (τ k - 1)).1 with
      | false => rfl
      | true =>
        exfalso
        rw [deq_iff, hDq] at hd
        simp only at hd
        have h1 := hs (τ k - 1) (τ k) (by omega) (by omega) (hti k hk)
        have hDp := hD (τ k - 1)
        rw [hDq] at h1
        unfold lt2 dl at h1
        simp only at h1
        have e5 : (D (τ k - 1)).2 = σ (τ k - 1) := by rw [hDp]
        have h2 := hno (σ (τ k - 1)) (by omega)
        rw [← Bool.not_eq_true, deq_iff] at h2
        have e6 : (D (τ k - 1)).1 = gE ls (σ (τ k - 1)) := by rw [hDp]
        rw [e6] at hd
        exact h2 ⟨hd.1.symm, hd.2.symm⟩
end Go.Proofs.YtokaeiahhmaokaaDoor.ds
