import Derived.Test.YtokaeiahhmaokaaDoorW20
import Derived.Test.YtokaeiahhmaokaaDoorW14
import Derived.Lib.Walk
import Derived.Lib.SliceRun
import Derived.Lib.AppendZerosOnto
import Derived.Deep.CutRange
namespace Go.Proofs.YtokaeiahhmaokaaDoor.ds
open Go.ChangeShapes Go.WideShapes Go.ChangeAt Go.RowKit Go.Sort
set_option linter.unusedVariables false
set_option linter.unusedSimpArgs false
theorem own_af {w W : World} {G N c : Nat} {ls : List E} (h : OwnE w W ⟨some ⟨G, 0, none⟩, N, c⟩ ls) : AF w W G N c (idx (gE ls)) := by
  have hl := h.len
  simp only at hl
  refine ⟨?_⟩
  have e : (List.range N).map (fun k => (idx (gE ls) k).1) = ls := by rw [← hl]; exact range_gE ls
  rw [e]; exact h
theorem cpF_congr (f g : Nat → E) : ∀ n, (∀ k, k < n → f k = g k) → cpF f n = cpF g n
  | 0, _ => rfl
  | n + 1, h => by
    unfold cpF
    rw [cpF_congr f g n (fun k hk => h k (by omega)), h n (by omega)]
    by_cases h0 : n = 0
    · simp [h0]
    · rw [h (n - 1) (by omega)]
set_option maxHeartbeats 4000000 in
set_option maxRecDepth 100000 in
theorem byDots_ok {w W : World} {G N c : Nat} {ls : List E} (h : OwnE w W ⟨some ⟨G, 0, none⟩, N, c⟩ ls) (hN : N ≤ 1500000) : Calls Tryd.prog 56 #[.slice (some ⟨G, 0, none⟩) N c] W fun r W' => ∃ n : Nat, r = .returned (.slice (some ⟨G, 0, none⟩) n c) ∧ OwnE w W' ⟨some ⟨G, 0, none⟩, n, c⟩ (eachE ls) ∧ Apart [G] W W' := by
  have hl := h.len
  simp only at hl
  have hC := sortStable_ok (gE ls) (own_af h) hN
  have HL := hid hl
  clear h hl
  go_enter Tryd.func56, Tryd.ntmps56
  go_wp2_with fail
  refine hC.mono ?_
  clear hC
  rintro _ w1 ⟨⟨v, rfl⟩, ⟨D, haf, pm, sr⟩, a1⟩
  have hC2 := compact_ok haf.own (by omega)
  have HE : Hid (cpF (gE ((List.range N).map (fun k => (D k).1))) N = eachE ls) := by
    unfold Hid
    rw [cpF_congr _ (fun k => (D k).1) N (fun k hk => gE_rangeD N D k hk), ← HL.out]
    rw [← HL.out] at pm sr
    exact sorted_each pm sr
  rw [HE.out] at hC2
  have HA1 := hid a1
  clear haf pm sr a1 HE
  dsimp only
  go_wp2_with fail
  refine hC2.mono ?_
  clear hC2
  rintro _ w2 ⟨n, rfl, ho, a2⟩
  have HO := hid ho
  have HA2 := hid (HA1.out.trans a2)
  clear ho a2
  dsimp only
  go_wp2_with fail
  go_ret
  exact ⟨n, rfl, HO.out, HA2.out⟩
/-- append of a list that came in, to a list of the call's own -/
theorem app_any {w W : World} {s : Sl} {ls : List E} (h : OwnE w W s ls) (hn : s.n ≤ 1099512676352) {t : Sl} {es : List E} {rs : List Wr} (hi : In W t es rs) (ty : TypeId) :
    ∃ s' W', (Builtin.append_ #[39, 39] ty #[s.v, t.v]).run Tryd.prog W = .ok (Sl.v s') W' ∧ OwnE w W' s' (ls ++ es) ∧ s'.n = s.n + t.n := by
  by_cases h0 : 0 < s.n
  · exact app_in h h0 hn hi ty
  · obtain ⟨i0, hif, hz0, hz1, hz2⟩ := info_parts infoW
    have hls : ls = [] := List.length_eq_zero_iff.1 (by rw [h.len]; omega)
    subst hls
    have htn := hi.n
    have hlen : (flatE es).length = t.n * 6 := by rw [flatE_length, hi.le.len]
    by_cases hm : 0 < t.n
    · obtain ⟨P, o, hp, hP, hc⟩ := hi.le.rd (by rw [hlen]; omega)
      obtain ⟨s', W', hrun, hnw, hsn, ap, _⟩ := run_appS (s := s) 39 ty 28 i0 _ 6 88 Tryd.underlying39 hif hz0 hz1 hz2 rfl (by decide) h.nw ⟨P, o, none⟩ t.n t.c (flatE es) hm hlen (fun j u hj => by rw [Addr.add_lit]; exact hc j u hj) (oneE es) (by unfold maxLen; omega) (by omega)
      refine ⟨s', W', ?_, ⟨hnw, by rw [List.nil_append, hi.le.len, hsn]; omega⟩, hsn⟩
      unfold Sl.v at hrun ⊢
      rw [hp]
      exact hrun
    · have hz : t.n = 0 := by omega
      have he : es = [] := List.length_eq_zero_iff.1 (by rw [hi.le.len]; exact hz)
      subst he
      obtain ⟨p, n, c⟩ := t
      simp only at hz
      subst hz
      cases p with
      | none =>
        obtain ⟨_, hc⟩ := hi.ok rfl
        simp only at hc
        subst hc
        exact ⟨s, W, run_append_owned_none (P := Tryd.prog) W 0 39 ty 28 i0 6 Tryd.underlying39 hif s.v s.n (flatE []) h.nw.own, by rw [List.append_nil]; exact h, by simp⟩
      | some ad =>
        have own := h.nw.own
        rcases own with ⟨hx, ⟨hv, hz'⟩ | ⟨g, cap, cur, hv, _, _, hcap, _⟩⟩
        · have own := h.nw.own
          rw [hv] at own
          rw [hz'] at own
          obtain ⟨v', w', hrun, ho, hg, hiff⟩ := run_append_own (P := Tryd.prog) W 0 39 ty 28 i0 _ 6 88 Tryd.underlying39 hif hz0 hz1 hz2 rfl (by decide) (.slice none 0 0) 0 (flatE []) own ad 0 c [] (by simp) (by simp) (by simp) (by decide) (by decide) (Nat.zero_le _)
          have hv' := hiff.2 ⟨rfl, rfl⟩
          subst hv'
          refine ⟨s, w', by rw [hv]; exact hrun, ?_, by simp⟩
          rw [List.append_nil]
          rw [Nat.add_zero, List.append_nil] at ho
          exact ⟨⟨by rw [hv, hz']; exact ho, h.nw.new, h.nw.ap.trans' (apart_grown hg) (fun y hy => by simp [Value.ownBlock] at hy)⟩, h.len⟩
        · have own := h.nw.own
          rw [hv] at own
          obtain ⟨w', hrun, ho, hg⟩ := run_append_fits (P := Tryd.prog) W 0 39 ty 28 i0 6 Tryd.underlying39 hif hz1 g s.n cap (flatE []) own ad 0 c [] (by simp) (by simp) (by simp) (by omega)
          rw [Nat.add_zero, List.append_nil] at ho
          refine ⟨s, w', by rw [hv]; exact hrun, ?_, by simp⟩
          rw [List.append_nil]
          exact ⟨⟨by rw [hv]; exact ho, h.nw.new, h.nw.ap.trans' (apart_grown hg) (fun y hy => by simp at hy; subst hy; exact .inr (h.nw.new _ (by rw [hv]; rfl)))⟩, h.len⟩
theorem zcE (n : Nat) : (Builtin.zeroCells (E.agg E.z).cells n).size = n * 6 := by
  unfold Builtin.zeroCells
  rw [Array.size_map, Array.size_range]; rfl
structure GrowPost (w w' : World) (r : Ending) (n : Nat) : Prop where
  ex : ∃ s : Sl, r = .returned s.v ∧ OwnE w w' s []
set_option maxHeartbeats 4000000 in
set_option maxRecDepth 100000 in
theorem grow_ok (n : Nat) (h2 : n ≤ 1500000) (w : World) : Calls Tryd.prog 91 #[.slice none 0 0, .int .i64 (n : Nat)] w fun r w' => GrowPost w w' r n := by
  by_cases h1 : n = 0
  · subst h1
    go_enter Tryd.func91, Tryd.ntmps91
    go_wp2_with fail
    go_ret
    exact ⟨⟨none, 0, 0⟩, rfl, OwnE.nil _ _ (Apart.refl _ _)⟩
  obtain ⟨i0, hi, hz0, hz1, hz2⟩ := info_parts infoW
  have hold : (Builtin.firstCells i0.size 0 (.slice none 0 0)).run Tryd.prog w.drew = .ok ([] : List Value).toArray w.drew := run_firstCells_none w.drew i0.size 0 0 0
  have hrz : ∀ ty, (Builtin.append_ #[39, 3] ty #[.slice none 0 0, .int .i64 (n : Int)]).run Tryd.prog w =
      .ok (.slice (some ⟨w.heap.size, 0, none⟩) (0 + n) (grownCap w (0 + n) 0 28)) (w.drew.alloc (.cells (([] : List Value).toArray ++ Builtin.zeroCells (E.agg E.z).cells n ++ Builtin.zeroCells (E.agg E.z).cells (grownCap w (0 + n) 0 28 - (0 + n))) 28)) := fun ty =>
    Lib.run_append_grow_zeros w 39 3 ty 28 i0 (E.agg E.z) .i64 .i64 Tryd.underlying39 Tryd.underlying3 hi hz0 none 0 0 [] hold n (by omega) (by omega) (by omega) (by omega)
      (by rw [hz2]; omega)
      (by rw [hz2]; exact growslice_fits (by omega) (by omega))
  have hGn : 0 + n ≤ grownCap w (0 + n) 0 28 := grownCap_ge w _ _ _
  have hGm : grownCap w (0 + n) 0 28 ≤ maxLen := grownCap_le_maxLen w _ _ _ (by unfold maxLen; omega)
  obtain ⟨G, hG⟩ : ∃ G, G = grownCap w (0 + n) 0 28 := ⟨_, rfl⟩
  rw [← hG] at hrz hGn hGm
  have hG63 : G ≤ 9223372036854775807 := by unfold maxLen at hGm; omega
  obtain ⟨C, HC⟩ : ∃ C, Hid (C = ([] : List Value).toArray ++ Builtin.zeroCells (E.agg E.z).cells n ++ Builtin.zeroCells (E.agg E.z).cells (G - (0 + n))) := ⟨_, rfl⟩
  have HS : Hid (C.size = G * 6) := by
    show C.size = G * 6
    rw [HC.out, Array.size_append, Array.size_append, zcE, zcE]
    show 0 + n * 6 + (G - (0 + n)) * 6 = G * 6
    omega
  rw [← HC.out] at hrz
  rw [Nat.zero_add] at hrz
  clear hold hG HC
  go_enter Tryd.func91, Tryd.ntmps91
  go_wp2_with (at_builtin; refine Lib.wpList_append_run _ rfl _ _ _ _ rfl _ _ rfl rfl _ _ (hrz _) ?_)
  go_ret
  refine ⟨⟨⟨some ⟨w.heap.size, 0, none⟩, 0, G⟩, rfl, ⟨⟨rfl, .inr ⟨w.heap.size, G, C, rfl, Nat.zero_le _, ?_, Nat.zero_le _, hGm, HS.out, by simp [flatE]⟩⟩, fun b hb => ?_, ((Apart.refl _ _).drew).alloc _⟩, rfl⟩⟩
  · show (w.drew.heap.push _)[w.drew.heap.size]? = _
    exact Array.getElem?_push_size
  · simp [Sl.v, Value.ownBlock] at hb; omega
end Go.Proofs.YtokaeiahhmaokaaDoor.ds
namespace Go.Proofs.YtokaeiahhmaokaaDoor.ds
open Go.ChangeShapes Go.WideShapes Go.ChangeAt Go.RowKit Go.Sort
set_option linter.unusedVariables false
set_option linter.unusedSimpArgs false
def catL (F : Nat → Sl × List E × List Wr) : Nat → List E
  | 0 => []
  | i + 1 => catL F i ++ (F i).2.1
def totL (F : Nat → Sl × List E × List Wr) : Nat → Nat
  | 0 => 0
  | i + 1 => totL F i + (F i).1.n
theorem totL_mono (F : Nat → Sl × List E × List Wr) (i : Nat) : ∀ k, totL F i ≤ totL F (i + k)
  | 0 => Nat.le_refl _
  | k + 1 => Nat.le_trans (totL_mono F i k) (by show totL F (i + k) ≤ totL F (i + k) + _; omega)
theorem totL_le (F : Nat → Sl × List E × List Wr) {i n : Nat} (h : i ≤ n) : totL F i ≤ totL F n := by
  have := totL_mono F i (n - i)
  rwa [show i + (n - i) = n from by omega] at this
theorem Sets.kept0 {w w' : World} {p : Option Addr} {n : Nat} {F : Nat → Sl × List E × List Wr} (h : Sets w p n F) (a : Apart [] w w') : Sets w' p n F := fun h0 => by
  obtain ⟨P, o, e, hP, hc⟩ := h h0
  exact ⟨P, o, e, Nat.lt_of_lt_of_le hP a.size, fun i hi => ⟨(a.cell hP (by simp)).trans (hc i hi).1, (hc i hi).2.kept0 a⟩⟩
set_option maxHeartbeats 4000000 in
set_option maxRecDepth 100000 in
theorem concat_ok (w : World) (p : Option Addr) (n cc : Nat) (F : Nat → Sl × List E × List Wr) (h : Sets w p n F) (hn : n ≤ 1048576) (hT : totL F n ≤ 1500000) :
    Calls Tryd.prog 52 #[.slice p n cc] w fun r w' => ∃ s : Sl, r = .returned s.v ∧ s.n = totL F n ∧ OwnE w w' s (catL F n) := by
  have HS := hid h
  clear h
  go_enter Tryd.func52, Tryd.ntmps52
  go_wp2_with fail
  go_loopw [3, 11] (fun u v wr => ∃ i : Nat, u = .int .i64 (totL F i : Nat) ∧ v = .int .i64 (i : Nat) ∧ i ≤ n ∧ wr = w) (fun _ v _ => n - (intOf v).toNat)
  case atStart => exact ⟨0, rfl, rfl, Nat.zero_le _, rfl⟩
  case round =>
    obtain ⟨i, rfl, rfl, hi, hww⟩ := hrel
    have hwy := hww.symm
    clear hww
    subst hwy
    by_cases hlt : i < n
    · obtain ⟨P, o, rfl, hP, hc⟩ := HS.out (by omega)
      obtain ⟨c0, hin⟩ := hc i hlt
      have htl := totL_le F (show i + 1 ≤ n from hlt)
      have e1 : totL F (i + 1) = totL F i + (F i).1.n := rfl
      have wT : IntKind.i64.wrap (((totL F i : Nat) : Int) + (((F i).1.n : Nat) : Int)) = ((totL F (i + 1) : Nat) : Int) := by rw [IntKind.wrap_i64]; omega
      have hge : ¬ (((totL F (i + 1) : Nat) : Int) < 0) := by omega
      unfold Sl.v at c0
      obtain ⟨T1, HT1⟩ : ∃ T1, Hid (T1 = totL F (i + 1)) := ⟨_, rfl⟩
      rw [← HT1.out] at wT hge
      generalize totL F i = T0 at *
      generalize (F i).1 = t at *
      clear hc hin e1 htl
      go_wp2_with fail
      go_roundw
      case rel => exact ⟨i + 1, by rw [HT1.out], by go_num, by omega, by first | rfl | trivial⟩
      case measure => simp [intOf]; omega
    · obtain rfl : n = i := by omega
      have hC := grow_ok (totL F n) hT w
      go_wp2_with fail
      refine hC.mono ?_
      clear hC
      rintro _ w1 ⟨s, rfl, ho⟩
      have HO0 := hid ho
      clear ho
      dsimp only
      go_wp2_with fail
      go_loopw [6, 27] (fun u v wq => ∃ (i : Nat) (s : Sl), u = s.v ∧ v = .int .i64 (i : Nat) ∧ i ≤ n ∧ s.n = totL F i ∧ OwnE w wq s (catL F i)) (fun _ v _ => n - (intOf v).toNat)
      case atStart => exact ⟨0, s, rfl, rfl, Nat.zero_le _, HO0.out.len.symm, HO0.out⟩
      case round =>
        obtain ⟨i, s, rfl, rfl, hi, hsn, ho⟩ := hrel
        have HO := hid ho
        have HSN := hid hsn
        clear ho HO0 hsn
        by_cases hlt2 : i < n
        · obtain ⟨P, o, rfl, hP, hc⟩ := (HS.out.kept0 HO.out.nw.ap) (by omega)
          obtain ⟨c0, hin⟩ := hc i hlt2
          have htl := totL_le F hi
          obtain ⟨s', w6, hrun, ho6, hsn6⟩ := app_any HO.out (by rw [HSN.out]; omega) hin 39
          have HO6 : Hid (OwnE w w6 s' (catL F (i + 1))) := ho6
          have HS6 : Hid (s'.n = totL F (i + 1)) := by unfold Hid; rw [hsn6, HSN.out]; rfl
          unfold Sl.v at c0 hrun
          unfold Sl.v
          generalize (F i).1 = t at *
          clear hc hin ho6 hsn6 htl
          go_wp2_with (at_builtin; refine wpList_app2 rfl (.tmp 31) (.tmp 32) 39 39 rfl _ _ rfl rfl _ _ hrun ?_)
          go_roundw
          case rel => exact ⟨i + 1, s', rfl, by go_num, by omega, HS6.out, HO6.out⟩
          case measure => simp [intOf]; omega
        · obtain rfl : n = i := by omega
          unfold Sl.v
          go_wp2_with fail
          go_ret
          exact ⟨s, rfl, HSN.out, HO.out⟩
end Go.Proofs.YtokaeiahhmaokaaDoor.ds
namespace Go.Proofs.YtokaeiahhmaokaaDoor.ds
open Go.ChangeShapes Go.WideShapes Go.ChangeAt Go.RowKit Go.Sort
set_option linter.unusedVariables false
set_option linter.unusedSimpArgs false
theorem key2_ok (t : E) (key : ByteArray) (B : Nat) (w : World) (h : w.cell? ⟨B, 0, none⟩ = some (.string key)) : Calls Tryd.prog 54 #[t.agg, .pointer (some ⟨B, 0, none⟩)] w fun r w' => r = .returned (.bool (!keq t.k key)) ∧ Apart [] w w' := by
  have aV : Apart [] w (w.alloc (boxE t)) := (Apart.refl [] w).alloc _
  obtain ⟨t0, t1, t2, t3, t4, t5⟩ := row6 (Cap.new w t)
  have k0 : (w.alloc (boxE t)).cell? ⟨B, 0, none⟩ = some (.string key) := (aV.cell (block_lt_of_cell h) (by simp)).trans h
  have hk : (t.k.toList == key.toList) = keq t.k key := rfl
  generalize keq t.k key = v at *
  unfold E.agg
  go_enter Tryd.func54, Tryd.ntmps54
  go_wp2_with fail
  go_ret
  exact ⟨by first | rfl | simp [hk], aV⟩
set_option maxHeartbeats 2000000 in
theorem index54 {w : World} {p : Option Addr} {N cap : Nat} {c : Value} {es : List E} (h : LE w p N es) (f : E → Bool) (hf : Asks w 54 #[c] es f) : Calls Tryd.prog 84 #[.slice p N cap, .func (.func 54) #[] #[c]] w fun r w' => r = .returned (.int .i64 (idxE f es)) ∧ Apart [] w w' := by
  have HL := hid h
  have HF := hid hf
  have hN := h.len
  have hl := h.lim
  have HN := hid hN
  clear h hf hN
  go_enter Tryd.func84, Tryd.ntmps84
  go_wp2
  go_loopw [8] (fun v wr => ∃ j : Nat, j ≤ N ∧ v = .int .i64 j ∧ Apart [] w wr ∧ ∀ i, i < j → f (gE es i) = false) (fun v _ => N - (intOf v).toNat)
  case atStart => exact ⟨0, Nat.zero_le _, rfl, Apart.refl _ _, fun i hi => by omega⟩
  case round =>
    obtain ⟨j, hj, rfl, ap, hno⟩ := hrel
    have HA := hid ap
    have HNO := hid hno
    clear ap hno
    by_cases hlt : j < N
    · obtain ⟨P, o, rfl, hP, hc⟩ := (HL.out.kept0 HA.out).at (by omega)
      obtain ⟨c0, c1, c2, c3, c4, c5⟩ := hc j hlt
      have hC : Calls Tryd.prog 54 #[(gE es j).agg, c] wr _ := HF.out j (by rw [HN.out]; exact hlt) wr HA.out
      unfold Sl.v at c4 c5
      unfold E.agg Sl.v at hC
      clear hc
      go_wp2_with fail
      refine hC.mono ?_
      clear hC
      rintro r w1 ⟨rfl, a1⟩
      clear c0 c1 c2 c3 c4 c5
      cases hb : f (gE es j)
      · go_wp2
        go_roundw
        case rel => exact ⟨j + 1, by omega, by go_num, HA.out.trans a1, fun i hi => by
          by_cases e : i = j
          · subst e; exact hb
          · exact HNO.out i (by omega)⟩
        case measure => simp [intOf]; omega
      · go_wp2
        go_ret
        exact ⟨by rw [idxE_at (by rw [HN.out]; exact hlt) hb HNO.out]; rfl, HA.out.trans a1⟩
    · obtain rfl : j = N := by omega
      go_wp2
      go_ret
      exact ⟨by rw [idxE_none (by rw [HN.out]; exact HNO.out)]; rfl, HA.out⟩
/-- what is left of the first n -/
def flF (f : Nat → E) (g : E → Bool) : Nat → List E
  | 0 => []
  | n + 1 => flF f g n ++ (if g (f n) = true then [] else [f n])
theorem flF_filter (ls : List E) (g : E → Bool) : ∀ n, n ≤ ls.length → flF (gE ls) g n = (ls.take n).filter (fun e => !g e)
  | 0, _ => by simp [flF]
  | n + 1, h => by
    unfold flF
    rw [flF_filter ls g n (by omega), List.take_add_one, List.filter_append, List.getElem?_eq_getElem (by omega), gE_eq ls n (by omega)]
    congr 1
    cases hg : g ls[n] <;> simp [hg]
theorem flF_none (f : Nat → E) (g : E → Bool) : ∀ n, (∀ q, q < n → g (f q) = false) → flF f g n = (List.range n).map f
  | 0, _ => by simp [flF]
  | n + 1, h => by
    unfold flF
    rw [flF_none f g n (fun q hq => h q (by omega)), List.range_succ, List.map_append, if_neg (by rw [h n (by omega)]; simp)]
    rfl
structure Dl (w wr : World) (G N c : Nat) (f : Nat → E) (g : E → Bool) (p k : Nat) (ms : List E) : Prop where
  own : OwnE w wr ⟨some ⟨G, 0, none⟩, N, c⟩ ms
  len : ms.length = N
  pre : ms.take k = flF f g p
  kl : (flF f g p).length = k
  kp : k + 1 ≤ p
  rest : ∀ q, p ≤ q → q < N → gE ms q = f q
theorem Dl.skip {w wr wr' : World} {G N c : Nat} {f : Nat → E} {g : E → Bool} {p k : Nat} {ms : List E} (h : Dl w wr G N c f g p k ms) (a : Apart [] wr wr') (hd : g (f p) = true) : Dl w wr' G N c f g (p + 1) k ms := by
  have e : flF f g (p + 1) = flF f g p := by
    show flF f g p ++ _ = _
    rw [if_pos hd, List.append_nil]
  exact ⟨h.own.kept a, h.len, by rw [e]; exact h.pre, by rw [e]; exact h.kl, by have := h.kp; omega, fun q h1 h2 => h.rest q (by omega) h2⟩
theorem Dl.put {w wr wr' : World} {G N c : Nat} {f : Nat → E} {g : E → Bool} {p k : Nat} {ms : List E} (h : Dl w wr G N c f g p k ms) (hpN : p < N) (hd : g (f p) = false) (o : wr'.ownsRow 0 28 6 (.slice (some ⟨G, 0, none⟩) N c) N (flatE (ms.set k (f p)))) (a : Apart [G] wr wr') : Dl w wr' G N c f g (p + 1) (k + 1) (ms.set k (f p)) := by
  have e : flF f g (p + 1) = flF f g p ++ [f p] := by
    show flF f g p ++ _ = _
    rw [if_neg (by rw [hd]; simp)]
  have hk := h.kp
  have hl := h.len
  have hb := h.own.nw
  refine ⟨⟨⟨o, hb.new, hb.ap.trans' a (fun y hy => by simp at hy; subst hy; exact .inr (hb.new _ rfl))⟩, by rw [List.length_set]; exact h.own.len⟩, by rw [List.length_set]; exact h.len, ?_, by rw [e, List.length_append, h.kl]; rfl, by omega, fun q h1 h2 => ?_⟩
  · rw [e, ← h.pre, List.take_add_one, List.take_set, List.getElem?_set]
    have hkl : k < ms.length := by omega
    simp [hkl]
    rw [List.set_eq_of_length_le (by simp; omega)]
  · have : gE (ms.set k (f p)) q = gE ms q := by
      unfold gE
      rw [List.getD_eq_getElem?_getD, List.getD_eq_getElem?_getD, List.getElem?_set_ne (by omega)]
    rw [this]
    exact h.rest q (by omega) h2
set_option maxHeartbeats 8000000 in
set_option maxRecDepth 100000 in
theorem delete_ok {w W : World} {G N c : Nat} {ls : List E} (h : OwnE w W ⟨some ⟨G, 0, none⟩, N, c⟩ ls) (hN : N ≤ 2000000) (key : ByteArray) (B : Nat) (hB : W.cell? ⟨B, 0, none⟩ = some (.string key)) (hBG : B ≠ G) : Calls Tryd.prog 53 #[.slice (some ⟨G, 0, none⟩) N c, .func (.func 54) #[] #[.pointer (some ⟨B, 0, none⟩)]] W fun r W' => ∃ n : Nat, r = .returned (.slice (some ⟨G, 0, none⟩) n c) ∧ OwnE w W' ⟨some ⟨G, 0, none⟩, n, c⟩ (ls.filter (fun e => keq e.k key)) ∧ Apart [G] W W' := by
  have hlen := h.len
  simp only at hlen
  obtain ⟨g, Hg⟩ : ∃ g : E → Bool, Hid (g = fun e => !keq e.k key) := ⟨_, rfl⟩
  have HFT : Hid (flF (gE ls) g N = ls.filter (fun e => keq e.k key)) := by
    unfold Hid
    rw [flF_filter ls g N (by omega), List.take_of_length_le (by omega), Hg.out]
    simp
  have hI := index54 (cap := c) (h.LE hN) g (fun i hi X a => by rw [Hg.out]; exact key2_ok _ key B X ((a.cell (block_lt_of_cell hB) (by simp)).trans hB))
  have HCL : Hid (∀ (e : E) (X : World), Apart [G] W X → Calls Tryd.prog 54 #[e.agg, .pointer (some ⟨B, 0, none⟩)] X fun r w' => r = .returned (.bool (g e)) ∧ Apart [] X w') := fun e X a => by rw [Hg.out]; exact key2_ok _ key B X ((a.cell (block_lt_of_cell hB) (by simp; exact hBG)).trans hB)
  have hcap : N ≤ c := by
    obtain ⟨_, ⟨hv, _⟩ | ⟨g, cap, cur, hv, _, _, hc, _⟩⟩ := h.nw.own
    · unfold Sl.v at hv; simp at hv
    · unfold Sl.v at hv
      simp at hv
      rw [hv.2]; exact hc
  have hcapI : ((N : Nat) : Int) ≤ (c : Int) := by omega
  have HH := hid h
  have HLEN := hid hlen
  clear h hlen hB Hg
  unfold E.agg Sl.v at HCL
  by_cases hany : ∃ k, k < N ∧ g (gE ls k) = true
  case neg =>
    have hno : ∀ i, i < ls.length → g (gE ls i) = false := fun i hi => by
      cases hg : g (gE ls i) with
      | false => rfl
      | true => exact absurd ⟨i, by rw [← HLEN.out]; exact hi, hg⟩ hany
    rw [idxE_none hno] at hI
    have HF : Hid (ls.filter (fun e => keq e.k key) = ls) := by
      unfold Hid
      rw [← HFT.out, flF_none (gE ls) g N (fun q hq => hno q (by rw [HLEN.out]; exact hq)), ← HLEN.out, range_gE]
    clear hno hany
    go_enter Tryd.func53, Tryd.ntmps53
    go_wp2_with fail
    refine hI.mono ?_
    clear hI
    rintro _ w1 ⟨rfl, a1⟩
    have HA := hid a1
    clear a1
    dsimp only
    go_wp2_with fail
    go_ret
    exact ⟨N, rfl, by rw [HF.out]; exact HH.out.kept HA.out, HA.out.mono (by simp)⟩
  case pos =>
    obtain ⟨k, hkN, hgk, hfirst⟩ : ∃ k, k < N ∧ g (gE ls k) = true ∧ ∀ i, i < k → g (gE ls i) = false := by
      obtain ⟨k0, h1, h2⟩ := hany
      induction k0 using Nat.strongRecOn with
      | ind k0 ih =>
        by_cases hc : ∃ i, i < k0 ∧ g (gE ls i) = true
        · obtain ⟨i, h3, h4⟩ := hc
          exact ih i h3 (by omega) h4
        · exact ⟨k0, h1, h2, fun i hi => by
            cases hg : g (gE ls i) with
            | false => rfl
            | true => exact absurd ⟨i, hi, hg⟩ hc⟩
    have hll := HLEN.out
    rw [idxE_at (by omega) hgk hfirst] at hI
    have hne : ¬ ((k : Nat) : Int) = -1 := by omega
    have HDL : Hid (∀ X, Apart [] W X → Dl w X G N c (gE ls) g (k + 1) k ls) := fun X a => by
      have e1 := flF_none (gE ls) g k hfirst
      have e2 : flF (gE ls) g (k + 1) = flF (gE ls) g k := by
        show flF (gE ls) g k ++ _ = _
        rw [if_pos hgk, List.append_nil]
      exact ⟨HH.out.kept a, hll, by rw [e2, e1, take_gE ls k (by omega)], by rw [e2, e1]; simp, Nat.le_refl _, fun q _ _ => rfl⟩
    clear hgk hfirst hany hll HH
    go_enter Tryd.func53, Tryd.ntmps53
    go_wp2_with fail
    refine hI.mono ?_
    clear hI
    rintro _ w1 ⟨rfl, a1⟩
    have HA := hid a1
    clear a1
    dsimp only
    go_wp2_with fail
    go_loopw [5, 6] (fun u v wr => ∃ (kk p : Nat) (ms : List E), u = .int .i64 (kk : Nat) ∧ v = .int .i64 (p : Nat) ∧ p ≤ N ∧ Dl w wr G N c (gE ls) g p kk ms ∧ Apart [G] W wr) (fun _ v _ => N - (intOf v).toNat)
    case atStart => exact ⟨k, k + 1, ls, rfl, by go_num, by omega, HDL.out _ HA.out, HA.out.mono (by simp)⟩
    case round =>
      obtain ⟨kk, p, ms, rfl, rfl, hpN, hdl, ap⟩ := hrel
      have HD := hid hdl
      have HAP := hid ap
      clear hdl ap HDL HA
      have hkkN : kk < N := by have h1 := HD.out.kp; omega
      by_cases hlt : p < N
      · obtain ⟨x, Hx⟩ : ∃ x, Hid (x = gE ls p) := ⟨_, rfl⟩
        obtain ⟨k0, k1, k2, k3, k4, k5⟩ := HD.out.own.cellsAt p hlt (p * 6) rfl
        rw [HD.out.rest p (Nat.le_refl _) hlt, ← Hx.out] at k0 k1 k2 k3 k4 k5
        have aV : Apart [] wr (wr.alloc (boxE x)) := (Apart.refl [] wr).alloc _
        have hC := HCL.out x (wr.alloc (boxE x)) (HAP.out.trans (aV.mono (by simp)))
        have hb := heap_alloc_new wr (boxE x)
        obtain ⟨bx, Hbx⟩ : ∃ bx, Hid (bx = g x) := ⟨_, rfl⟩
        rw [← Hbx.out] at hC
        have HAV := hid aV
        have HB := hid hb
        have hGl : G < wr.heap.size := by
          have ow := HD.out.own.nw.own
          obtain ⟨cur, hc⟩ := own_typ ow (k := G) rfl
          exact lt_of_heap hc
        unfold boxE Sl.v at hC
        clear aV hb
        go_wp2_with fail
        refine hC.mono ?_
        clear hC k0 k1 k2 k3 k4 k5
        rintro _ w5 ⟨rfl, a5⟩
        have HA5 : Hid (Apart [] wr w5) := HAV.out.trans a5
        have HB5 : Hid (w5.heap[wr.heap.size]? = some (boxE x)) := (Apart.block a5 _ (lt_of_heap HB.out) (by simp)).trans HB.out
        clear a5 HAV HB
        dsimp only
        cases hbv : bx
        case true =>
          have HD2 := hid (HD.out.skip HA5.out (by rw [← Hx.out, ← Hbx.out]; exact hbv))
          go_wp2_with fail
          go_roundw
          case rel => exact ⟨kk, p + 1, ms, rfl, by go_num, by omega, HD2.out, HAP.out.trans (HA5.out.mono (by simp))⟩
          case measure => simp [intOf]; omega
        case false =>
          have hoc := HD.out.own.kept HA5.out
          obtain ⟨x0, x1, x2, x3, x4, x5⟩ := box9 HB5.out
          obtain ⟨y0, y1, y2, y3, y4, y5⟩ := hoc.cellsAt kk hkkN (kk * 6) rfl
          have own1 := hoc.nw.own
          unfold Sl.v at own1
          simp only at own1
          have f0 := own1.frozenAt (kk * 6)
          have f1 := own1.frozenAt (kk * 6 + 1)
          have f2 := own1.frozenAt (kk * 6 + 2)
          have f3 := own1.frozenAt (kk * 6 + 3)
          have f4 := own1.frozenAt (kk * 6 + 4)
          have f5 := own1.frozenAt (kk * 6 + 5)
          have own2 := own_set6 own1 kk (by rw [HD.out.len]; exact hkkN) x
          rw [Hx.out] at own2
          have A2 : Apart [G] wr (set6 w5 G (kk * 6) (gE ls p)) := (HA5.out.mono (by simp)).trans (apart_set6 _ _ _ _)
          have HD2 := hid (HD.out.put hlt (by rw [← Hx.out, ← Hbx.out]; exact hbv) own2 A2)
          have HA2 := hid (HAP.out.trans A2)
          rw [← Hx.out] at HD2 HA2
          have hkkI : ((kk : Nat) : Int) < (N : Int) := by omega
          clear hoc own1 own2 A2
          go_wp2_with fail
          go_roundw
          case rel => exact ⟨kk + 1, p + 1, _, by go_num, by go_num, by omega, HD2.out, HA2.out⟩
          case measure => simp [intOf]; omega
      · obtain rfl : N = p := by omega
        obtain ⟨W6, hrun, ho6, a6⟩ := clear_run HD.out.own kk (by omega) (c - kk) 0
        have hpe : Hid (ms.take kk = ls.filter (fun e => keq e.k key)) := by rw [HD.out.pre]; exact HFT.out
        have hkkI : ((kk : Nat) : Int) ≤ (N : Int) := by omega
        have HO6 := hid ho6
        have HA6 := hid (HAP.out.trans a6)
        rw [hpe.out] at HO6
        clear ho6 a6 hpe HD
        go_wp2_with fail
        go_ret
        exact ⟨kk, rfl, HO6.out, HA6.out⟩
end Go.Proofs.YtokaeiahhmaokaaDoor.ds
namespace Go.Proofs.YtokaeiahhmaokaaDoor.ds
open Go.ChangeShapes Go.WideShapes Go.ChangeAt Go.RowKit Go.Sort
set_option linter.unusedVariables false
set_option linter.unusedSimpArgs false
/-- .. as the writes read -/
def insWb (u : Wr) : List Wr → List Wr
  | [] => [u]
  | x :: l => if belowW u x = true then u :: x :: l else x :: insWb u l
def eachW (ls : List Wr) : List Wr := ls.foldl (fun out w => if out.any (fun o => deqW o w) = true then out else insWb w out) []
noncomputable def bUW (rs : List Wr) (N : Nat) : Nat → List Wr
  | 0 => []
  | m + 1 => if uncd rs (N - 1 - m) then bUW rs N m ++ [gR rs (N - 1 - m)] else bUW rs N m
noncomputable def uncW (rs : List Wr) : List Wr := (bUW rs rs.length rs.length).reverse
/-- Gather, of all the writes in their order -/
noncomputable def gathW (rs : List Wr) : List Wr := uncW (eachW (rs.filter (fun e => keq e.k (gR rs 0).k)))
/-- a reading of writes -/
structure Rdg (w : World) (R : E → Wr) (ls : List E) : Prop where
  rd : ∀ e ∈ ls, Reads w e (R e)
theorem Rdg.sub {w : World} {R : E → Wr} {ls ms : List E} (h : Rdg w R ls) (hs : ∀ e ∈ ms, e ∈ ls) : Rdg w R ms := ⟨fun e he => h.rd e (hs e he)⟩
theorem Rdg.kept0 {w w' : World} {R : E → Wr} {ls : List E} (h : Rdg w R ls) (a : Apart [] w w') : Rdg w' R ls := ⟨fun e he => (h.rd e he).kept0 a⟩
theorem Rdg.at {w : World} {R : E → Wr} {ls : List E} (h : Rdg w R ls) (j : Nat) (hj : j < ls.length) : Reads w (gE ls j) (gR (ls.map R) j) := by
  rw [gR_map R ls j hj]; exact h.rd _ (gE_memE ls j hj)
theorem ins_map {w : World} {R : E → Wr} {u : E} (hu : Reads w u (R u)) : ∀ l : List E, (∀ e ∈ l, Reads w e (R e)) → (insE u l).map R = insWb (R u) (l.map R)
  | [], _ => rfl
  | x :: l, h => by
    have hx := h x (by simp)
    have e : below u x = belowW (R u) (R x) := by unfold below belowW; rw [hu.n, hu.c, hx.n, hx.c]
    unfold insE
    simp only [List.map_cons]
    unfold insWb
    rw [e]
    split
    · rfl
    · rw [List.map_cons, ins_map hu l (fun e he => h e (List.mem_cons_of_mem _ he))]
theorem each_map {w : World} {R : E → Wr} : ∀ (ls : List E) (out : List E), (∀ e ∈ ls, Reads w e (R e)) → (∀ e ∈ out, Reads w e (R e)) → (ls.foldl (fun out w => if out.any (fun o => deq o w) = true then out else insE w out) out).map R = (ls.map R).foldl (fun out w => if out.any (fun o => deqW o w) = true then out else insWb w out) (out.map R)
  | [], out, _, _ => rfl
  | u :: l, out, h, ho => by
    have hu := h u (by simp)
    have e : out.any (fun o => deq o u) = (out.map R).any (fun o => deqW o (R u)) := by
      rw [List.any_map]
      apply Bool.eq_iff_iff.2
      rw [List.any_eq_true, List.any_eq_true]
      constructor
      · rintro ⟨o, h1, h2⟩
        refine ⟨o, h1, ?_⟩
        have hr := ho o h1
        unfold deq at h2
        show deqW (R o) (R u) = true
        unfold deqW
        rw [← hr.n, ← hr.c, ← hu.n, ← hu.c]; exact h2
      · rintro ⟨o, h1, h2⟩
        refine ⟨o, h1, ?_⟩
        have hr := ho o h1
        have h3 : deqW (R o) (R u) = true := h2
        unfold deqW at h3
        unfold deq
        rw [hr.n, hr.c, hu.n, hu.c]; exact h3
    simp only [List.foldl_cons, List.map_cons]
    rw [each_map l _ (fun e he => h e (List.mem_cons_of_mem _ he))]
    · congr 1
      rw [e]
      split
      · rfl
      · exact ins_map hu out ho
    · intro x hx
      split at hx
      · exact ho x hx
      · rcases (ins_mem u x out).1 hx with e | e
        · rw [e]; exact hu
        · exact ho x e
theorem eachE_map {w : World} {R : E → Wr} {ls : List E} (h : Rdg w R ls) : (eachE ls).map R = eachW (ls.map R) := each_map ls [] h.rd (by simp)
theorem each_len : ∀ (n : Nat) (ls : List E), ls.length = n → (eachE ls).length ≤ n
  | 0, ls, hn => by
    have : ls = [] := List.length_eq_zero_iff.1 hn
    subst this
    simp [eachE]
  | n + 1, ls, hn => by
    obtain ⟨l, w, rfl⟩ : ∃ l w, ls = l ++ [w] := ⟨ls.dropLast, ls.getLast (by intro e; rw [e] at hn; simp at hn), (List.dropLast_concat_getLast _).symm⟩
    have := each_len n l (by simpa using hn)
    rw [each_snoc]
    split
    · omega
    · rw [insE_length]; omega
theorem eachE_sub (ls : List E) : ∀ x ∈ eachE ls, x ∈ ls := fun x hx => by
  obtain ⟨k, hk, e, _⟩ := ((each_ok _ ls rfl).2 x).1 hx
  rw [← e]; exact gE_memE ls k hk
theorem filt_map {w : World} {R : E → Wr} {ls : List E} (h : Rdg w R ls) (key : ByteArray) : (ls.filter (fun e => keq e.k key)).map R = (ls.map R).filter (fun r => keq r.k key) := by
  rw [List.filter_map]
  congr 1
  apply List.filter_congr
  intro x hx
  show keq x.k key = keq (R x).k key
  rw [(h.rd x hx).k]
theorem bU_map {R : E → Wr} {es : List E} : ∀ m, m ≤ es.length → (bU es (es.map R) es.length m).map R = bUW (es.map R) es.length m
  | 0, _ => rfl
  | m + 1, h => by
    unfold bU bUW
    split
    · rw [List.map_append, bU_map m (by omega), gR_map R es _ (by omega)]; rfl
    · exact bU_map m (by omega)
theorem bU_sub (es : List E) (rs : List Wr) (N : Nat) (hN : N ≤ es.length) : ∀ m, m ≤ N → ∀ x ∈ bU es rs N m, x ∈ es
  | 0, _, x, hx => by simp [bU] at hx
  | m + 1, hm, x, hx => by
    unfold bU at hx
    split at hx
    · rcases List.mem_append.1 hx with h | h
      · exact bU_sub es rs N hN m (by omega) x h
      · simp at h; rw [h]; exact gE_memE es _ (by omega)
    · exact bU_sub es rs N hN m (by omega) x hx
theorem Nw.from {w0 w w' : World} {e size : Nat} {s : Sl} {us : List Value} (h : Nw w w' e size s us) (a : Apart [] w0 w) : Nw w0 w' e size s us := ⟨h.own, fun k hk => Nat.le_trans a.size (h.new k hk), a.trans h.ap⟩
theorem CpPost.from {w0 w w' : World} {r : Ending} {N : Nat} {rs : List Wr} (h : CpPost w w' r N rs) (a : Apart [] w0 w) : CpPost w0 w' r N rs := by
  obtain ⟨s, es, h1, h2, h3, h4, h5⟩ := h.ex
  exact ⟨s, es, h1, h2, h3, h4.from a, fun j hj => (h5 j hj).from a⟩
set_option maxHeartbeats 8000000 in
set_option maxRecDepth 100000 in
theorem gather_ok (w : World) (T : Tab w) (p : Option Addr) (n cc : Nat) (F : Nat → Sl × List E × List Wr) (h : Sets w p n F) (hn : n ≤ 1048576) (hT : totL F n ≤ 1500000) (R : E → Wr) (hR : Rdg w R (catL F n)) :
    Calls Tryd.prog 20 #[.slice p n cc] w fun r w' => CpPost w w' r (gathW ((catL F n).map R)).length (gathW ((catL F n).map R)) := by
  have hC := concat_ok w p n cc F h hn hT
  have HR := hid hR
  have HT := hid T
  obtain ⟨L0, HL0⟩ : ∃ L0, Hid (L0 = catL F n) := ⟨_, rfl⟩
  rw [← HL0.out] at hC HR ⊢
  generalize totL F n = N at *
  clear h T hR HL0
  go_enter Tryd.func20, Tryd.ntmps20
  go_wp2_with fail
  refine hC.mono ?_
  clear hC
  rintro _ w1 ⟨s, rfl, hsn, ho⟩
  by_cases hz : N = 0
  · have hl : L0 = [] := List.length_eq_zero_iff.1 (by rw [ho.len, hsn]; exact hz)
    subst hl
    have HA := hid ho.nw.ap
    have hs0 : s.n = 0 := by omega
    have HG : Hid (gathW (([] : List E).map R) = []) := by unfold Hid gathW; simp [eachW, uncW, bUW]
    obtain ⟨sp, sn, sc⟩ := s
    simp only at hs0
    subst hs0
    clear ho hsn
    unfold Sl.v
    dsimp only
    go_wp2_with fail
    go_ret
    rw [HG.out]
    exact ⟨⟨⟨none, 0, 0⟩, [], rfl, rfl, rfl, (OwnE.nil _ _ HA.out).nw, fun j hj => absurd hj (by simp)⟩⟩
  obtain ⟨G, c, hs⟩ : ∃ G c, s = ⟨some ⟨G, 0, none⟩, N, c⟩ := by
    obtain ⟨_, ⟨hv, hz'⟩ | ⟨g, cap, cur, hv, _⟩⟩ := ho.nw.own
    · omega
    · refine ⟨g, cap, ?_⟩
      unfold Sl.v at hv
      obtain ⟨sp, sn, sc⟩ := s
      simp at hv hsn
      rw [hv.1, hv.2, hsn]
  subst hs
  have HO := hid ho
  have hln := ho.len
  simp only at hln
  obtain ⟨k0, k1, k2, k3, k4, k5⟩ := ho.cellsAt 0 (by omega) 0 rfl
  have hGl : G < w1.heap.size := by
    obtain ⟨cur, hc⟩ := own_typ ho.nw.own (k := G) rfl
    exact lt_of_heap hc
  obtain ⟨key, Hkey⟩ : ∃ key, Hid (key = (gE L0 0).k) := ⟨_, rfl⟩
  rw [← Hkey.out] at k2
  have aB : Apart [] w1 (w1.alloc (.cells #[.string key] 9)) := (Apart.refl _ _).alloc _
  have hD := delete_ok (ho.kept aB) (by omega) key w1.heap.size (by simp) (by omega)
  have hz2 : ¬ ((N : Nat) : Int) = 0 := by omega
  have hz3 : (0 : Int) < (N : Int) := by omega
  clear ho hsn k0 k1 k3 k4 k5
  unfold Sl.v
  dsimp only
  go_wp2_with fail
  refine hD.mono ?_
  clear hD
  rintro _ w2 ⟨N1, rfl, ho2, a2⟩
  have hb1 : N1 ≤ N := by
    have := ho2.len
    simp only at this
    rw [← this, ← hln]
    exact List.length_filter_le _ _
  obtain ⟨L1, HL1⟩ : ∃ L1, Hid (L1 = L0.filter (fun e => keq e.k key)) := ⟨_, rfl⟩
  rw [← HL1.out] at ho2
  have hB := byDots_ok ho2 (by omega)
  have hln1 := ho2.len
  simp only at hln1
  clear a2 k2
  dsimp only
  go_wp2_with fail
  refine hB.mono ?_
  clear hB
  rintro _ w3 ⟨N2, rfl, ho3, a3⟩
  have hln2 := ho3.len
  simp only at hln2
  have hb2 : N2 ≤ N1 := by
    have := each_len _ L1 rfl
    omega
  have HRL : Hid (Rdg w3 R (eachE L1)) := ((HR.out.sub (fun e he => by
    have h1 := eachE_sub L1 e he
    rw [HL1.out] at h1
    exact (List.mem_filter.1 h1).1))).kept0 ho3.nw.ap
  obtain ⟨L2, HL2⟩ : ∃ L2, Hid (L2 = eachE L1) := ⟨_, rfl⟩
  rw [← HL2.out] at ho3 HRL hln2
  have hU := uncovered_ok (cap := c) (rs := L2.map R) (HT.out.kept0 ho3.nw.ap) (ho3.LE (by simp only; omega)) (fun j hj => HRL.out.at j (by rw [hln2]; exact hj)) (by rw [List.length_map]; exact hln2)
  have HO3 := hid ho3
  clear a3
  dsimp only
  go_wp2_with fail
  refine hU.mono ?_
  clear hU
  rintro _ w4 ⟨s4, rfl, ho4⟩
  have HRL4 : Hid (Rdg w4 R ((bU L2 (L2.map R) N2 N2).reverse)) := (HRL.out.sub (fun e he => by
    rw [List.mem_reverse] at he
    exact bU_sub L2 _ N2 (by omega) N2 (Nat.le_refl _) e he)).kept0 ho4.nw.ap
  have hb4 : s4.n ≤ 2000000 := by
    have h1 := ho4.len
    have h2 := bU_len L2 (L2.map R) N2 N2
    rw [List.length_reverse] at h1
    omega
  have HE : Hid (((bU L2 (L2.map R) N2 N2).reverse).map R = gathW (L0.map R)) := by
    unfold Hid gathW uncW
    have e1 : L2.length = N2 := hln2
    have e2 : eachW ((L0.map R).filter (fun e => keq e.k (gR (L0.map R) 0).k)) = L2.map R := by
      rw [HL2.out, eachE_map (HR.out.sub (fun e he => by rw [HL1.out] at he; exact (List.mem_filter.1 he).1)), HL1.out, filt_map HR.out]
      have h0 : (gR (L0.map R) 0).k = key := by
        rw [gR_map R L0 0 (by omega), Hkey.out, ← (HR.out.rd _ (gE_memE L0 0 (by omega))).k]
      rw [h0]
    rw [e2, List.map_reverse, ← e1, bU_map _ (Nat.le_refl _), List.length_map]
  have hnn : s4.n = (gathW (L0.map R)).length := by rw [← HE.out, List.length_map, ho4.len]
  have hcp := copies_ok w4 s4 (gathW (L0.map R)).length _ (gathW (L0.map R)) hnn ho4.nw.ok (by rw [← hnn]; exact ho4.LE hb4) (fun j hj => by rw [← HE.out]; exact HRL4.out.at j (by rw [ho4.len, hnn]; exact hj))
  clear hnn
  have HAP : Hid (Apart [] w w4) := HO3.out.nw.ap.trans ho4.nw.ap
  clear ho4 HRL4 HE
  unfold Sl.v at hcp ⊢
  dsimp only
  go_wp2_with fail
  refine hcp.mono ?_
  rintro r w5 hpost
  obtain ⟨s5, es5, rfl, q1, q2, q3, q4⟩ := hpost.ex
  have HPO := hid (hpost.from HAP.out)
  clear hpost hcp q1 q2 q3 q4
  dsimp only
  go_wp2_with fail
  go_ret
  exact HPO.out
end Go.Proofs.YtokaeiahhmaokaaDoor.ds
namespace Go.Proofs.YtokaeiahhmaokaaDoor.ds
open Go.ChangeShapes Go.WideShapes Go.ChangeAt Go.RowKit Go.Sort
set_option linter.unusedVariables false
set_option linter.unusedSimpArgs false
theorem infoL : (Tryd.prog.info? 39).map (fun i => (i.zero, i.size, i.bytes)) = some (some (.slice none 0 0), 1, 24) := by kernel_rfl
end Go.Proofs.YtokaeiahhmaokaaDoor.ds
namespace Go.Proofs.YtokaeiahhmaokaaDoor.ds
set_option linter.unusedVariables false
set_option linter.unusedSimpArgs false
/-- whether one of the first writes, the i-th aside, covers the i-th -/
noncomputable def cj (rs : List Wr) (i : Nat) : Nat → Bool
  | 0 => false
  | j + 1 => cj rs i j || (decide (j ≠ i) && cvW (gR rs j) (gR rs i))
theorem OwnE.from {w0 w w' : World} {s : Sl} {es : List E} (h : OwnE w w' s es) (a : Apart [] w0 w) : OwnE w0 w' s es := ⟨h.nw.from a, h.len⟩
end Go.Proofs.YtokaeiahhmaokaaDoor.ds
namespace Go.Proofs.YtokaeiahhmaokaaDoor.ds
open Go.ChangeShapes Go.WideShapes Go.ChangeAt Go.RowKit Go.Sort
set_option linter.unusedVariables false
set_option linter.unusedSimpArgs false
open Classical in
/-- what a write in memory reads as -/
noncomputable def Rof (w : World) (e : E) : Wr := if h : ∃ r, Reads w e r then h.choose else markW
theorem Rof_eq {w : World} {e : E} {r : Wr} (h : Reads w e r) : Rof w e = r := by
  have hx : ∃ r, Reads w e r := ⟨r, h⟩
  unfold Rof
  rw [dif_pos hx]
  exact Reads.det hx.choose_spec h
def catR (F : Nat → Sl × List E × List Wr) : Nat → List Wr
  | 0 => []
  | i + 1 => catR F i ++ (F i).2.2
theorem gR_eq (rs : List Wr) (k : Nat) (h : k < rs.length) : gR rs k = rs[k] := by simp [gR, List.getD_eq_getElem?_getD, h]
theorem In.reads {w : World} {s : Sl} {es : List E} {rs : List Wr} (h : In w s es rs) : (∀ e ∈ es, Reads w e (Rof w e)) ∧ es.map (Rof w) = rs := by
  have h1 := h.le.len
  have h2 := h.len
  refine ⟨fun e he => ?_, ?_⟩
  · obtain ⟨j, hj, rfl⟩ := List.getElem_of_mem he
    have := h.rd j (by omega)
    rw [gE_eq es j hj] at this
    rw [Rof_eq this]
    exact this
  · apply List.ext_getElem
    · rw [List.length_map]; omega
    · intro j hj1 hj2
      rw [List.length_map] at hj1
      have := h.rd j (by omega)
      rw [gE_eq es j hj1, gR_eq rs j hj2] at this
      rw [List.getElem_map, Rof_eq this]
theorem catL_reads {w : World} {F : Nat → Sl × List E × List Wr} : ∀ n, (∀ i, i < n → In w (F i).1 (F i).2.1 (F i).2.2) → Rdg w (Rof w) (catL F n) ∧ (catL F n).map (Rof w) = catR F n ∧ (catL F n).length = totL F n
  | 0, _ => ⟨⟨fun e he => by simp [catL] at he⟩, rfl, rfl⟩
  | n + 1, h => by
    obtain ⟨h1, h2, h3⟩ := catL_reads n (fun i hi => h i (by omega))
    obtain ⟨k1, k2⟩ := (h n (by omega)).reads
    refine ⟨⟨fun e he => ?_⟩, ?_, ?_⟩
    · rcases List.mem_append.1 (show e ∈ catL F n ++ (F n).2.1 from he) with he | he
      · exact h1.rd e he
      · exact k1 e he
    · show (catL F n ++ (F n).2.1).map _ = catR F n ++ (F n).2.2
      rw [List.map_append, h2, k2]
    · show (catL F n ++ (F n).2.1).length = totL F n + (F n).1.n
      rw [List.length_append, h3, (h n (by omega)).le.len]
end Go.Proofs.YtokaeiahhmaokaaDoor.ds
namespace Go.Proofs.YtokaeiahhmaokaaDoor.ds
open Go.ChangeShapes Go.WideShapes Go.ChangeAt Go.RowKit Go.Sort
set_option linter.unusedVariables false
set_option linter.unusedSimpArgs false
/-- both Gathers, as the writes read -/
theorem gather_R (w : World) (T : Tab w) (p : Option Addr) (n cc : Nat) (F : Nat → Sl × List E × List Wr) (h : Sets w p n F) (hI : ∀ i, i < n → In w (F i).1 (F i).2.1 (F i).2.2) (hn : n ≤ 1048576) (hT : totL F n ≤ 1048576) :
    Calls Tryd.prog 20 #[.slice p n cc] w fun r w' => CpPost w w' r (gathW (catR F n)).length (gathW (catR F n)) := by
  obtain ⟨h1, h2, h3⟩ := catL_reads n hI
  have := gather_ok w T p n cc F h hn (by omega) (Rof w) h1
  rw [h2] at this
  exact this
end Go.Proofs.YtokaeiahhmaokaaDoor.ds
