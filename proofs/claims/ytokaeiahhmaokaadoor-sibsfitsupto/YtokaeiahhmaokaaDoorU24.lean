import Derived.Test.YtokaeiahhmaokaaDoorU23
import Derived.Test.YtokaeiahhmaokaaDoorU15
import Derived.Lib.Walk
import Derived.Lib.SliceRun
import Derived.Lib.AppendZerosOnto
import Derived.Deep.CutRange
import Derived.Test.YtokaeiahhmaokaaDoorU8
namespace Go.Proofs.YtokaeiahhmaokaaDoor.ds
open Go.ChangeShapes Go.WideShapes Go.ChangeAt Go.RowKit Go.Sort
set_option linter.unusedVariables false
set_option linter.unusedSimpArgs false
theorem own_af {w W : World} {G N c : Nat} {ls : List E} (h : OwnE w W ⟨some ⟨G, 0, none⟩, N, c⟩ ls) : AF w W G N c (idx (gE ls)) := by
  have hl := h.len
  simp only at hl
  refine ⟨?_⟩
  have e : (List.range N).map (fun k => (idx (gE ls) k).1) = ls := by rw [← hl]; exact range_gE ls
  rw [e]; exact h
theorem cpF_congr (f g : Nat → E) : ∀ n, (∀ k, k < n → f k = g k) → cpF f n = cpF g n
  | 0, _ => rfl
  | n + 1, h => by
    unfold cpF
    rw [cpF_congr f g n (fun k hk => h k (by omega)), h n (by omega)]
    by_cases h0 : n = 0
    · simp [h0]
    · rw [h (n - 1) (by omega)]
set_option maxHeartbeats 4000000 in
set_option maxRecDepth 100000 in
theorem byDots_ok {w W : World} {G N c : Nat} {ls : List E} (h : OwnE w W ⟨some ⟨G, 0, none⟩, N, c⟩ ls) (hN : N ≤ 1500000) : Calls Tryd.prog 56 #[.slice (some ⟨G, 0, none⟩) N c] W fun r W' => ∃ n : Nat, r = .returned (.slice (some ⟨G, 0, none⟩) n c) ∧ OwnE w W' ⟨some ⟨G, 0, none⟩, n, c⟩ (eachE ls) ∧ Apart [G] W W' := by
  have hl := h.len
  simp only at hl
  have hC := sortStable_ok (gE ls) (own_af h) hN
  have HL := hid hl
  clear h hl
  go_enter Tryd.func56, Tryd.ntmps56
  go_wp2_with fail
  refine hC.mono ?_
  clear hC
  rintro _ w1 ⟨⟨v, rfl⟩, ⟨D, haf, pm, sr⟩, a1⟩
  have hC2 := compact_ok haf.own (by omega)
  have HE : Hid (cpF (gE ((List.range N).map (fun k => (D k).1))) N = eachE ls) := by
    unfold Hid
    rw [cpF_congr _ (fun k => (D k).1) N (fun k hk => gE_rangeD N D k hk), ← HL.out]
    rw [← HL.out] at pm sr
    exact sorted_each pm sr
  rw [HE.out] at hC2
  have HA1 := hid a1
  clear haf pm sr a1 HE
  dsimp only
  go_wp2_with fail
  refine hC2.mono ?_
  clear hC2
  rintro _ w2 ⟨n, rfl, ho, a2⟩
  have HO := hid ho
  have HA2 := hid (HA1.out.trans a2)
  clear ho a2
  dsimp only
  go_wp2_with fail
  go_ret
  exact ⟨n, rfl, HO.out, HA2.out⟩
/-- append of a list that came in, to a list of the call's own -/
theorem app_any {w W : World} {s : Sl} {ls : List E} (h : OwnE w W s ls) (hn : s.n ≤ 1099512676352) {t : Sl} {es : List E} {rs : List Wr} (hi : In W t es rs) (ty : TypeId) :
    ∃ s' W', (Builtin.append_ #[39, 39] ty #[s.v, t.v]).run Tryd.prog W = .ok (Sl.v s') W' ∧ OwnE w W' s' (ls ++ es) ∧ s'.n = s.n + t.n := by
  by_cases h0 : 0 < s.n
  · exact app_in h h0 hn hi ty
  · obtain ⟨i0, hif, hz0, hz1, hz2⟩ := info_parts infoW
    have hls : ls = [] := List.length_eq_zero_iff.1 (by rw [h.len]; omega)
    subst hls
    have htn := hi.n
    have hlen : (flatE es).length = t.n * 6 := by rw [flatE_length, hi.le.len]
    by_cases hm : 0 < t.n
    · obtain ⟨P, o, hp, hP, hc⟩ := hi.le.rd (by rw [hlen]; omega)
      obtain ⟨s', W', hrun, hnw, hsn, ap, _⟩ := run_appS (s := s) 39 ty 28 i0 _ 6 88 Tryd.underlying39 hif hz0 hz1 hz2 rfl (by decide) h.nw ⟨P, o, none⟩ t.n t.c (flatE es) hm hlen (fun j u hj => by rw [Addr.add_lit]; exact hc j u hj) (oneE es) (by unfold maxLen; omega) (by omega)
      refine ⟨s', W', ?_, ⟨hnw, by rw [List.nil_append, hi.le.len, hsn]; omega⟩, hsn⟩
      unfold Sl.v at hrun ⊢
      rw [hp]
      exact hrun
    · have hz : t.n = 0 := by omega
      have he : es = [] := List.length_eq_zero_iff.1 (by rw [hi.le.len]; exact hz)
      subst he
      obtain ⟨p, n, c⟩ := t
      simp only at hz
      subst hz
      cases p with
      | none =>
        obtain ⟨_, hc⟩ := hi.ok rfl
        simp only at hc
        subst hc
        exact ⟨s, W, run_append_owned_none (P := Tryd.prog) W 0 39 ty 28 i0 6 Tryd.underlying39 hif s.v s.n (flatE []) h.nw.own, by rw [List.append_nil]; exact h, by simp⟩
      | some ad =>
        have own := h.nw.own
        rcases own with ⟨hx, ⟨hv, hz'⟩ | ⟨g, cap, cur, hv, _, _, hcap, _⟩⟩
        · have own := h.nw.own
          rw [hv] at own
          rw [hz'] at own
          obtain ⟨v', w', hrun, ho, hg, hiff⟩ := run_append_own (P := Tryd.prog) W 0 39 ty 28 i0 _ 6 88 Tryd.underlying39 hif hz0 hz1 hz2 rfl (by decide) (.slice none 0 0) 0 (flatE []) own ad 0 c [] (by simp) (by simp) (by simp) (by decide) (by decide) (Nat.zero_le _)
          have hv' := hiff.2 ⟨rfl, rfl⟩
          subst hv'
          refine ⟨s, w', by rw [hv]; exact hrun, ?_, by simp⟩
          rw [List.append_nil]
          rw [Nat.add_zero, List.append_nil] at ho
          exact ⟨⟨by rw [hv, hz']; exact ho, h.nw.new, h.nw.ap.trans' (apart_grown hg) (fun y hy => by simp [Value.ownBlock] at hy)⟩, h.len⟩
        · have own := h.nw.own
          rw [hv] at own
          obtain ⟨w', hrun, ho, hg⟩ := run_append_fits (P := Tryd.prog) W 0 39 ty 28 i0 6 Tryd.underlying39 hif hz1 g s.n cap (flatE []) own ad 0 c [] (by simp) (by simp) (by simp) (by omega)
          rw [Nat.add_zero, List.append_nil] at ho
          refine ⟨s, w', by rw [hv]; exact hrun, ?_, by simp⟩
          rw [List.append_nil]
          exact ⟨⟨by rw [hv]; exact ho, h.nw.new, h.nw.ap.trans' (apart_grown hg) (fun y hy => by simp at hy; subst hy; exact .inr (h.nw.new _ (by rw [hv]; rfl)))⟩, h.len⟩
theorem zcE (n : Nat) : (Builtin.zeroCells (E.agg E.z).cells n).size = n * 6 := by
  unfold Builtin.zeroCells
  rw [Array.size_map, Array.size_range]; rfl
structure GrowPost (w w' : World) (r : Ending) (n : Nat) : Prop where
  ex : ∃ s : Sl, r = .returned s.v ∧ OwnE w w' s []
set_option maxHeartbeats 4000000 in
set_option maxRecDepth 100000 in
theorem grow_ok (n : Nat) (h2 : n ≤ 1500000) (w : World) : Calls Tryd.prog 91 #[.slice none 0 0, .int .i64 (n : Nat)] w fun r w' => GrowPost w w' r n := by
  by_cases h1 : n = 0
  · subst h1
    go_enter Tryd.func91, Tryd.ntmps91
    go_wp2_with fail
    go_ret
    exact ⟨⟨none, 0, 0⟩, rfl, OwnE.nil _ _ (Apart.refl _ _)⟩
  obtain ⟨i0, hi, hz0, hz1, hz2⟩ := info_parts infoW
  have hold : (Builtin.firstCells i0.size 0 (.slice none 0 0)).run Tryd.prog w.drew = .ok ([] : List Value).toArray w.drew := run_firstCells_none w.drew i0.size 0 0 0
  have hrz : ∀ ty, (Builtin.append_ #[39, 3] ty #[.slice none 0 0, .int .i64 (n : Int)]).run Tryd.prog w =
      .ok (.slice (some ⟨w.heap.size, 0, none⟩) (0 + n) (grownCap w (0 + n) 0 28)) (w.drew.alloc (.cells (([] : List Value).toArray ++ Builtin.zeroCells (E.agg E.z).cells n ++ Builtin.zeroCells (E.agg E.z).cells (grownCap w (0 + n) 0 28 - (0 + n))) 28)) := fun ty =>
    Lib.run_append_grow_zeros w 39 3 ty 28 i0 (E.agg E.z) .i64 .i64 Tryd.underlying39 Tryd.underlying3 hi hz0 none 0 0 [] hold n (by omega) (by omega) (by omega) (by omega)
      (by rw [hz2]; omega)
      (by rw [hz2]; exact growslice_fits (by omega) (by omega))
  have hGn : 0 + n ≤ grownCap w (0 + n) 0 28 := grownCap_ge w _ _ _
  have hGm : grownCap w (0 + n) 0 28 ≤ maxLen := grownCap_le_maxLen w _ _ _ (by unfold maxLen; omega)
  obtain ⟨G, hG⟩ : ∃ G, G = grownCap w (0 + n) 0 28 := ⟨_, rfl⟩
  rw [← hG] at hrz hGn hGm
  have hG63 : G ≤ 9223372036854775807 := by unfold maxLen at hGm; omega
  obtain ⟨C, HC⟩ : ∃ C, Hid (C = ([] : List Value).toArray ++ Builtin.zeroCells (E.agg E.z).cells n ++ Builtin.zeroCells (E.agg E.z).cells (G - (0 + n))) := ⟨_, rfl⟩
  have HS : Hid (C.size = G * 6) := by
    show C.size = G * 6
    rw [HC.out, Array.size_append, Array.size_append, zcE, zcE]
    show 0 + n * 6 + (G - (0 + n)) * 6 = G * 6
    omega
  rw [← HC.out] at hrz
  rw [Nat.zero_add] at hrz
  clear hold hG HC
  go_enter Tryd.func91, Tryd.ntmps91
  go_wp2_with (at_builtin; refine Lib.wpList_append_run _ rfl _ _ _ _ rfl _ _ rfl rfl _ _ (hrz _) ?_)
  go_ret
  refine ⟨⟨⟨some ⟨w.heap.size, 0, none⟩, 0, G⟩, rfl, ⟨⟨rfl, .inr ⟨w.heap.size, G, C, rfl, Nat.zero_le _, ?_, Nat.zero_le _, hGm, HS.out, by simp [flatE]⟩⟩, fun b hb => ?_, ((Apart.refl _ _).drew).alloc _⟩, rfl⟩⟩
  · show (w.drew.heap.push _)[w.drew.heap.size]? = _
    exact Array.getElem?_push_size
  · simp [Sl.v, Value.ownBlock] at hb; omega
end Go.Proofs.YtokaeiahhmaokaaDoor.ds
namespace Go.Proofs.YtokaeiahhmaokaaDoor.ds
open Go.ChangeShapes Go.WideShapes Go.ChangeAt Go.RowKit Go.Sort
set_option linter.unusedVariables false
set_option linter.unusedSimpArgs false
def catL (F : Nat → Sl × List E × List Wr) : Nat → List E
  | 0 => []
  | i + 1 => catL F i ++ (F i).2.1
def totL (F : Nat → Sl × List E × List Wr) : Nat → Nat
  | 0 => 0
  | i + 1 => totL F i + (F i).1.n
theorem totL_mono (F : Nat → Sl × List E × List Wr) (i : Nat) : ∀ k, totL F i ≤ totL F (i + k)
  | 0 => Nat.le_refl _
  | k + 1 => Nat.le_trans (totL_mono F i k) (by show totL F (i + k) ≤ totL F (i + k) + _; omega)
theorem totL_le (F : Nat → Sl × List E × List Wr) {i n : Nat} (h : i ≤ n) : totL F i ≤ totL F n := by
  have := totL_mono F i (n - i)
  rwa [show i + (n - i) = n from by omega] at this
theorem Sets.kept0 {w w' : World} {p : Option Addr} {n : Nat} {F : Nat → Sl × List E × List Wr} (h : Sets w p n F) (a : Apart [] w w') : Sets w' p n F := fun h0 => by
  obtain ⟨P, o, e, hP, hc⟩ := h h0
  exact ⟨P, o, e, Nat.lt_of_lt_of_le hP a.size, fun i hi => ⟨(a.cell hP (by simp)).trans (hc i hi).1, (hc i hi).2.kept0 a⟩⟩
set_option maxHeartbeats 4000000 in
set_option maxRecDepth 100000 in
theorem concat_ok (w : World) (p : Option Addr) (n cc : Nat) (F : Nat → Sl × List E × List Wr) (h : Sets w p n F) (hn : n ≤ 1048576) (hT : totL F n ≤ 1500000) :
    Calls Tryd.prog 52 #[.slice p n cc] w fun r w' => ∃ s : Sl, r = .returned s.v ∧ s.n = totL F n ∧ OwnE w w' s (catL F n) := by
  have HS := hid h
  clear h
  go_enter Tryd.func52, Tryd.ntmps52
  go_wp2_with fail
  go_loopw [3, 11] (fun u v wr => ∃ i : Nat, u = .int .i64 (totL F i : Nat) ∧ v = .int .i64 (i : Nat) ∧ i ≤ n ∧ wr = w) (fun _ v _ => n - (intOf v).toNat)
  case atStart => exact ⟨0, rfl, rfl, Nat.zero_le _, rfl⟩
  case round =>
    obtain ⟨i, rfl, rfl, hi, hww⟩ := hrel
    have hwy := hww.symm
    clear hww
    subst hwy
    by_cases hlt : i < n
    · obtain ⟨P, o, rfl, hP, hc⟩ := HS.out (by omega)
      obtain ⟨c0, hin⟩ := hc i hlt
      have htl := totL_le F (show i + 1 ≤ n from hlt)
      have e1 : totL F (i + 1) = totL F i + (F i).1.n := rfl
      have wT : IntKind.i64.wrap (((totL F i : Nat) : Int) + (((F i).1.n : Nat) : Int)) = ((totL F (i + 1) : Nat) : Int) := by rw [IntKind.wrap_i64]; omega
      have hge : ¬ (((totL F (i + 1) : Nat) : Int) < 0) := by omega
      unfold Sl.v at c0
      obtain ⟨T1, HT1⟩ : ∃ T1, Hid (T1 = totL F (i + 1)) := ⟨_, rfl⟩
      rw [← HT1.out] at wT hge
      generalize totL F i = T0 at *
      generalize (F i).1 = t at *
      clear hc hin e1 htl
      go_wp2_with fail
      go_roundw
      case rel => exact ⟨i + 1, by rw [HT1.out], by go_num, by omega, by first | rfl | trivial⟩
      case measure => simp [intOf]; omega
    · obtain rfl : n = i := by omega
      have hC := grow_ok (totL F n) hT w
      go_wp2_with fail
      refine hC.mono ?_
      clear hC
      rintro _ w1 ⟨s, rfl, ho⟩
      have HO0 := hid ho
      clear ho
      dsimp only
      go_wp2_with fail
      go_loopw [6, 27] (fun u v wq => ∃ (i : Nat) (s : Sl), u = s.v ∧ v = .int .i64 (i : Nat) ∧ i ≤ n ∧ s.n = totL F i ∧ OwnE w wq s (catL F i)) (fun _ v _ => n - (intOf v).toNat)
      case atStart => exact ⟨0, s, rfl, rfl, Nat.zero_le _, HO0.out.len.symm, HO0.out⟩
      case round =>
        obtain ⟨i, s, rfl, rfl, hi, hsn, ho⟩ := hrel
        have HO := hid ho
        have HSN := hid hsn
        clear ho HO0 hsn
        by_cases hlt2 : i < n
        · obtain ⟨P, o, rfl, hP, hc⟩ := (HS.out.kept0 HO.out.nw.ap) (by omega)
          obtain ⟨c0, hin⟩ := hc i hlt2
          have htl := totL_le F hi
          obtain ⟨s', w6, hrun, ho6, hsn6⟩ := app_any HO.out (by rw [HSN.out]; omega) hin 39
          have HO6 : Hid (OwnE w w6 s' (catL F (i + 1))) := ho6
          have HS6 : Hid (s'.n = totL F (i + 1)) := by unfold Hid; rw [hsn6, HSN.out]; rfl
          unfold Sl.v at c0 hrun
          unfold Sl.v
          generalize (F i).1 = t at *
          clear hc hin ho6 hsn6 htl
          go_wp2_with (at_builtin; refine wpList_app2 rfl (.tmp 31) (.tmp 32) 39 39 rfl _ _ rfl rfl _ _ hrun ?_)
          go_roundw
          case rel => exact ⟨i + 1, s', rfl, by go_num, by omega, HS6.out, HO6.out⟩
          case measure => simp [intOf]; omega
        · obtain rfl : n = i := by omega
          unfold Sl.v
          go_wp2_with fail
          go_ret
          exact ⟨s, rfl, HSN.out, HO.out⟩
end Go.Proofs.YtokaeiahhmaokaaDoor.ds
namespace Go.Proofs.YtokaeiahhmaokaaDoor.ds
open Go.ChangeShapes Go.WideShapes Go.ChangeAt Go.RowKit Go.Sort
set_option linter.unusedVariables false
set_option linter.unusedSimpArgs false
/-- .. as the writes read -/
def insWb (u : Wr) : List Wr → List Wr
  | [] => [u]
  | x :: l => if belowW u x = true then u :: x :: l else x :: insWb u l
def eachW (ls : List Wr) : List Wr := ls.foldl (fun out w => if out.any (fun o => deqW o w) = true then out else insWb w out) []
/-- a reading of writes -/
structure Rdg (w : World) (R : E → Wr) (ls : List E) : Prop where
  rd : ∀ e ∈ ls, Reads w e (R e)
theorem Rdg.sub {w : World} {R : E → Wr} {ls ms : List E} (h : Rdg w R ls) (hs : ∀ e ∈ ms, e ∈ ls) : Rdg w R ms := ⟨fun e he => h.rd e (hs e he)⟩
theorem Rdg.kept0 {w w' : World} {R : E → Wr} {ls : List E} (h : Rdg w R ls) (a : Apart [] w w') : Rdg w' R ls := ⟨fun e he => (h.rd e he).kept0 a⟩
theorem Rdg.at {w : World} {R : E → Wr} {ls : List E} (h : Rdg w R ls) (j : Nat) (hj : j < ls.length) : Reads w (gE ls j) (gR (ls.map R) j) := by
  rw [gR_map R ls j hj]; exact h.rd _ (gE_memE ls j hj)
theorem ins_map {w : World} {R : E → Wr} {u : E} (hu : Reads w u (R u)) : ∀ l : List E, (∀ e ∈ l, Reads w e (R e)) → (insE u l).map R = insWb (R u) (l.map R)
  | [], _ => rfl
  | x :: l, h => by
    have hx := h x (by simp)
    have e : below u x = belowW (R u) (R x) := by unfold below belowW; rw [hu.n, hu.c, hx.n, hx.c]
    unfold insE
    simp only [List.map_cons]
    unfold insWb
    rw [e]
    split
    · rfl
    · rw [List.map_cons, ins_map hu l (fun e he => h e (List.mem_cons_of_mem _ he))]
theorem each_map {w : World} {R : E → Wr} : ∀ (ls : List E) (out : List E), (∀ e ∈ ls, Reads w e (R e)) → (∀ e ∈ out, Reads w e (R e)) → (ls.foldl (fun out w => if out.any (fun o => deq o w) = true then out else insE w out) out).map R = (ls.map R).foldl (fun out w => if out.any (fun o => deqW o w) = true then out else insWb w out) (out.map R)
  | [], out, _, _ => rfl
  | u :: l, out, h, ho => by
    have hu := h u (by simp)
    have e : out.any (fun o => deq o u) = (out.map R).any (fun o => deqW o (R u)) := by
      rw [List.any_map]
      apply Bool.eq_iff_iff.2
      rw [List.any_eq_true, List.any_eq_true]
      constructor
      · rintro ⟨o, h1, h2⟩
        refine ⟨o, h1, ?_⟩
        have hr := ho o h1
        unfold deq at h2
        show deqW (R o) (R u) = true
        unfold deqW
        rw [← hr.n, ← hr.c, ← hu.n, ← hu.c]; exact h2
      · rintro ⟨o, h1, h2⟩
        refine ⟨o, h1, ?_⟩
        have hr := ho o h1
        have h3 : deqW (R o) (R u) = true := h2
        unfold deqW at h3
        unfold deq
        rw [hr.n, hr.c, hu.n, hu.c]; exact h3
    simp only [List.foldl_cons, List.map_cons]
    rw [each_map l _ (fun e he => h e (List.mem_cons_of_mem _ he))]
    · congr 1
      rw [e]
      split
      · rfl
      · exact ins_map hu out ho
    · intro x hx
      split at hx
      · exact ho x hx
      · rcases (ins_mem u x out).1 hx with e | e
        · rw [e]; exact hu
        · exact ho x e
theorem eachE_map {w : World} {R : E → Wr} {ls : List E} (h : Rdg w R ls) : (eachE ls).map R = eachW (ls.map R) := each_map ls [] h.rd (by simp)
theorem each_len : ∀ (n : Nat) (ls : List E), ls.length = n → (eachE ls).length ≤ n
  | 0, ls, hn => by
    have : ls = [] := List.length_eq_zero_iff.1 hn
    subst this
    simp [eachE]
  | n + 1, ls, hn => by
    obtain ⟨l, w, rfl⟩ : ∃ l w, ls = l ++ [w] := ⟨ls.dropLast, ls.getLast (by intro e; rw [e] at hn; simp at hn), (List.dropLast_concat_getLast _).symm⟩
    have := each_len n l (by simpa using hn)
    rw [each_snoc]
    split
    · omega
    · rw [insE_length]; omega
theorem eachE_sub (ls : List E) : ∀ x ∈ eachE ls, x ∈ ls := fun x hx => by
  obtain ⟨k, hk, e, _⟩ := ((each_ok _ ls rfl).2 x).1 hx
  rw [← e]; exact gE_memE ls k hk
theorem Nw.from {w0 w w' : World} {e size : Nat} {s : Sl} {us : List Value} (h : Nw w w' e size s us) (a : Apart [] w0 w) : Nw w0 w' e size s us := ⟨h.own, fun k hk => Nat.le_trans a.size (h.new k hk), a.trans h.ap⟩
end Go.Proofs.YtokaeiahhmaokaaDoor.ds
namespace Go.Proofs.YtokaeiahhmaokaaDoor.ds
open Go.ChangeShapes Go.WideShapes Go.ChangeAt Go.RowKit Go.Sort
set_option linter.unusedVariables false
set_option linter.unusedSimpArgs false
theorem infoL : (Tryd.prog.info? 39).map (fun i => (i.zero, i.size, i.bytes)) = some (some (.slice none 0 0), 1, 24) := by kernel_rfl
end Go.Proofs.YtokaeiahhmaokaaDoor.ds
namespace Go.Proofs.YtokaeiahhmaokaaDoor.ds
set_option linter.unusedVariables false
set_option linter.unusedSimpArgs false
/-- whether one of the first writes, the i-th aside, covers the i-th -/
noncomputable def cj (rs : List Wr) (i : Nat) : Nat → Bool
  | 0 => false
  | j + 1 => cj rs i j || (decide (j ≠ i) && cvW (gR rs j) (gR rs i))
theorem OwnE.from {w0 w w' : World} {s : Sl} {es : List E} (h : OwnE w w' s es) (a : Apart [] w0 w) : OwnE w0 w' s es := ⟨h.nw.from a, h.len⟩
end Go.Proofs.YtokaeiahhmaokaaDoor.ds
namespace Go.Proofs.YtokaeiahhmaokaaDoor.ds
open Go.ChangeShapes Go.WideShapes Go.ChangeAt Go.RowKit Go.Sort
set_option linter.unusedVariables false
set_option linter.unusedSimpArgs false
open Classical in
/-- what a write in memory reads as -/
noncomputable def Rof (w : World) (e : E) : Wr := if h : ∃ r, Reads w e r then h.choose else markW
theorem Rof_eq {w : World} {e : E} {r : Wr} (h : Reads w e r) : Rof w e = r := by
  have hx : ∃ r, Reads w e r := ⟨r, h⟩
  unfold Rof
  rw [dif_pos hx]
  exact Reads.det hx.choose_spec h
def catR (F : Nat → Sl × List E × List Wr) : Nat → List Wr
  | 0 => []
  | i + 1 => catR F i ++ (F i).2.2
theorem gR_eq (rs : List Wr) (k : Nat) (h : k < rs.length) : gR rs k = rs[k] := by simp [gR, List.getD_eq_getElem?_getD, h]
theorem In.reads {w : World} {s : Sl} {es : List E} {rs : List Wr} (h : In w s es rs) : (∀ e ∈ es, Reads w e (Rof w e)) ∧ es.map (Rof w) = rs := by
  have h1 := h.le.len
  have h2 := h.len
  refine ⟨fun e he => ?_, ?_⟩
  · obtain ⟨j, hj, rfl⟩ := List.getElem_of_mem he
    have := h.rd j (by omega)
    rw [gE_eq es j hj] at this
    rw [Rof_eq this]
    exact this
  · apply List.ext_getElem
    · rw [List.length_map]; omega
    · intro j hj1 hj2
      rw [List.length_map] at hj1
      have := h.rd j (by omega)
      rw [gE_eq es j hj1, gR_eq rs j hj2] at this
      rw [List.getElem_map, Rof_eq this]
theorem catL_reads {w : World} {F : Nat → Sl × List E × List Wr} : ∀ n, (∀ i, i < n → In w (F i).1 (F i).2.1 (F i).2.2) → Rdg w (Rof w) (catL F n) ∧ (catL F n).map (Rof w) = catR F n ∧ (catL F n).length = totL F n
  | 0, _ => ⟨⟨fun e he => by simp [catL] at he⟩, rfl, rfl⟩
  | n + 1, h => by
    obtain ⟨h1, h2, h3⟩ := catL_reads n (fun i hi => h i (by omega))
    obtain ⟨k1, k2⟩ := (h n (by omega)).reads
    refine ⟨⟨fun e he => ?_⟩, ?_, ?_⟩
    · rcases List.mem_append.1 (show e ∈ catL F n ++ (F n).2.1 from he) with he | he
      · exact h1.rd e he
      · exact k1 e he
    · show (catL F n ++ (F n).2.1).map _ = catR F n ++ (F n).2.2
      rw [List.map_append, h2, k2]
    · show (catL F n ++ (F n).2.1).length = totL F n + (F n).1.n
      rw [List.length_append, h3, (h n (by omega)).le.len]
end Go.Proofs.YtokaeiahhmaokaaDoor.ds
namespace Go.Proofs.YtokaeiahhmaokaaDoor.ds
open Go.ChangeShapes Go.WideShapes Go.ChangeAt Go.RowKit Go.Sort
set_option linter.unusedVariables false
set_option linter.unusedSimpArgs false
/-- lists of writes in new memory, and the list of them -/
structure Nm (w wr : World) (u : Sl) (T : Nat → Sl × List E × List Wr) (m : Nat) : Prop where
  nw : Nw w wr 39 1 u ((List.range m).map fun i => (T i).1.v)
  un : u.n = m
  own : ∀ i, i < m → OwnE w wr (T i).1 (T i).2.1
  fr : ∀ i, i < m → ∀ j, j < (T i).1.n → Fresh w wr (gE (T i).2.1 j) (gR (T i).2.2 j)
  ln : ∀ i, i < m → (T i).1.n ≤ 1048576 ∧ (T i).2.2.length = (T i).1.n
theorem Nm.nil (w wr : World) (a : Apart [] w wr) (T : Nat → Sl × List E × List Wr) : Nm w wr ⟨none, 0, 0⟩ T 0 :=
  ⟨⟨World.ownsRow_nil _ _ _ _, by simp [Sl.v, Value.ownBlock], a⟩, rfl, fun _ h => absurd h (by omega), fun _ h => absurd h (by omega), fun _ h => absurd h (by omega)⟩
theorem Nm.kept0 {w wr wx : World} {u : Sl} {T : Nat → Sl × List E × List Wr} {m : Nat} (h : Nm w wr u T m) (a : Apart [] wr wx) : Nm w wx u T m :=
  ⟨h.nw.kept a, h.un, fun i hi => (h.own i hi).kept a, fun i hi j hj => (h.fr i hi j hj).kept0 a, h.ln⟩
def updT (T : Nat → Sl × List E × List Wr) (m : Nat) (d : Sl × List E × List Wr) (i : Nat) : Sl × List E × List Wr := if i = m then d else T i
theorem updT_lt (T : Nat → Sl × List E × List Wr) (d : Sl × List E × List Wr) {i m : Nat} (h : i < m) : updT T m d i = T i := if_neg (by omega)
theorem updT_eq (T : Nat → Sl × List E × List Wr) (d : Sl × List E × List Wr) (m : Nat) : updT T m d m = d := if_pos rfl
theorem Nm.push {w wr : World} {u : Sl} {T : Nat → Sl × List E × List Wr} {m : Nat} (h : Nm w wr u T m) (hm : m ≤ 2000000) (s : Sl) (fs : List E) (rs : List Wr) (ho : OwnE w wr s fs) (hf : ∀ j, j < s.n → Fresh w wr (gE fs j) (gR rs j)) (hl : s.n ≤ 1048576 ∧ rs.length = s.n) (ty : TypeId) :
    ∃ u' w6, (Builtin.append_ #[22, 22] ty #[u.v, .slice (some ⟨wr.heap.size, 0, none⟩) 1 1]).run Tryd.prog (wr.alloc (.cells #[s.v] 39)) = .ok (Sl.v u') w6 ∧ Nm w w6 u' (updT T m (s, fs, rs)) (m + 1) := by
  obtain ⟨i0, hif, hz0, hz1, hz2⟩ := info_parts infoL
  have hun := h.un
  obtain ⟨u', w6, hrun, hnw, hsn, ap, k, hp, hc, hk⟩ := run_appM (s := u) 22 ty 39 i0 _ 1 24 Tryd.underlying22 hif hz0 hz1 hz2 rfl (by decide) h.nw 1 [s.v] (by decide) rfl (fun u hu => by simp at hu; rw [hu]; rfl) (by unfold maxLen; omega) (by omega)
  have e1 : (List.range m).map (fun i => (updT T m (s, fs, rs) i).1.v) = (List.range m).map fun i => (T i).1.v := List.map_congr_left (fun i hi => by rw [updT_lt T _ (List.mem_range.1 hi)])
  have htyp : ∀ k ∈ u.v.ownBlock.toList, ∃ cur, wr.heap[k]? = some (.cells cur 39 (0, 0)) := fun k hk => own_typ h.nw.own (by simpa using hk)
  have kO : ∀ {s : Sl} {fs : List E}, OwnE w wr s fs → OwnE w w6 s fs := fun o => ⟨o.nw.keepT ap hnw.ap (fun k hk cur hcur => by
    obtain ⟨c1, e1⟩ := htyp k hk
    rw [e1] at hcur
    simp at hcur), o.len⟩
  have kF : ∀ {e : E} {r : Wr}, Fresh w wr e r → Fresh w w6 e r := fun f => f.kept ap hnw.ap (fun k hk cur => by
    obtain ⟨c1, e1⟩ := htyp k hk
    rw [e1]
    simp)
  refine ⟨u', w6, hrun, ⟨by rw [List.range_succ, List.map_append, e1]; simp only [List.map_cons, List.map_nil, updT_eq]; exact hnw, by omega, fun i hi => ?_, fun i hi j hj => ?_, fun i hi => ?_⟩⟩
  · by_cases him : i = m
    · subst him; rw [updT_eq]; exact kO ho
    · rw [updT_lt T _ (by omega)]; exact kO (h.own i (by omega))
  · by_cases him : i = m
    · subst him; rw [updT_eq] at hj ⊢; exact kF (hf j hj)
    · rw [updT_lt T _ (by omega)] at hj ⊢; exact kF (h.fr i (by omega) j hj)
  · by_cases him : i = m
    · subst him; rw [updT_eq]; exact hl
    · rw [updT_lt T _ (by omega)]; exact h.ln i (by omega)
theorem Nm.ins {w wr : World} {u : Sl} {T : Nat → Sl × List E × List Wr} {m : Nat} (h : Nm w wr u T m) (i : Nat) (hi : i < m) : In wr (T i).1 (T i).2.1 (T i).2.2 := by
  obtain ⟨h1, h2⟩ := h.ln i hi
  exact ⟨(h.own i hi).LE (by omega), h1, h2, fun j hj => (h.fr i hi j hj).reads, (h.own i hi).nw.ok⟩
theorem Nm.sets {w wr : World} {u : Sl} {T : Nat → Sl × List E × List Wr} {m : Nat} (h : Nm w wr u T m) : Sets wr u.p m T := by
  intro h0
  obtain ⟨P, o, e, hP, hc⟩ := h.nw.rd (by rw [List.length_map, List.length_range]; exact h0)
  exact ⟨P, o, e, hP, fun i hi => ⟨hc i _ (by rw [List.getElem?_map, List.getElem?_range hi]; rfl), h.ins i hi⟩⟩
end Go.Proofs.YtokaeiahhmaokaaDoor.ds
namespace Go.Proofs.YtokaeiahhmaokaaDoor.ds
open Go.ChangeShapes Go.WideShapes Go.ChangeAt Go.RowKit Go.Sort
set_option linter.unusedVariables false
set_option linter.unusedSimpArgs false
theorem insWb_len (u : Wr) : ∀ l, (insWb u l).length = l.length + 1
  | [] => rfl
  | x :: l => by
    unfold insWb
    split
    · simp
    · simp [insWb_len u l]
theorem eachW_lenA : ∀ (ls out : List Wr), (ls.foldl (fun out w => if out.any (fun o => deqW o w) = true then out else insWb w out) out).length ≤ out.length + ls.length
  | [], out => by simp
  | x :: ls, out => by
    rw [List.foldl_cons]
    refine Nat.le_trans (eachW_lenA ls _) ?_
    split
    · simp only [List.length_cons]; omega
    · rw [insWb_len]; simp only [List.length_cons]; omega
theorem Sets.ins {w : World} {p : Option Addr} {n : Nat} {F : Nat → Sl × List E × List Wr} (h : Sets w p n F) (i : Nat) (hi : i < n) : In w (F i).1 (F i).2.1 (F i).2.2 := by
  obtain ⟨P, o, e, hP, hc⟩ := h (by omega)
  exact (hc i hi).2
end Go.Proofs.YtokaeiahhmaokaaDoor.ds
namespace Go.Proofs.YtokaeiahhmaokaaDoor.ds
open Go.ChangeShapes Go.WideShapes Go.ChangeAt Go.RowKit Go.Deep Go.Sort
set_option linter.unusedVariables false
set_option linter.unusedSimpArgs false
theorem all_snoc {H : Type} (d : DataW H) : ∀ l : List (DataW H), Rows.uptoBulkAll (l ++ [d]) = Rows.uptoBulkAll l + Rows.uptoBulk d
  | [] => by simp only [List.nil_append, all_cons, all_nil]; omega
  | x :: l => by
    rw [List.cons_append, all_cons, all_cons, all_snoc d l]; omega
theorem tot_bulk {H : Type} (f : Nat → Sl × List E × List Wr) (D : Nat → DataW H) : ∀ n, (∀ i, i < n → (f i).1.n ≤ Rows.uptoBulk (D i)) → totL f n ≤ Rows.uptoBulkAll ((List.range n).map D)
  | 0, _ => Nat.zero_le _
  | n + 1, h => by
    have h1 := tot_bulk f D n (fun i hi => h i (by omega))
    have h2 := h n (by omega)
    rw [List.range_succ, List.map_append, List.map_cons, List.map_nil, all_snoc]
    show totL f n + _ ≤ _
    omega
theorem list_len {H : Type} {enc : TypeId × Value → H} {W : World} {fuel : Nat} {s : Sl} {x : DataW H × List MemPlace} (h : DataW.trod enc Tryd.prog W 0 (fun _ => true) true fuel 39 [s.v] = some x) : s.n ≤ Rows.uptoBulk x.1 := by
  rcases open_slice Tryd.underlying39 h with ⟨hcs, _⟩ | ⟨a, len, cap, m, n, D, Pl, hcs, _, hl, hm, hmeq, hx, hall⟩
  · simp [Sl.v] at hcs
    omega
  · simp only [if_true] at hmeq
    subst hmeq
    simp [Sl.v] at hcs
    rw [hx]
    have h1 := slice_many ((List.range len).map D) ((List.range (m - len)).map fun j => D (len + j))
    have h2 := many ((List.range len).map D)
    simp only [List.length_map, List.length_range] at h2
    rw [hcs.2.1]
    exact Nat.le_trans h2 h1
set_option maxRecDepth 100000 in
theorem open_sets2 {H : Type} {enc : TypeId × Value → H} {W : World} {fuel : Nat} {v : Value} {x : DataW H × List MemPlace} (h : DataW.trod enc Tryd.prog W 0 (fun _ => true) true fuel 22 [v] = some x) (hb : Rows.uptoBulk x.1 ≤ 1048576) :
    ∃ p n c F, v = .slice p n c ∧ Sets W p n F ∧ n ≤ 1048576 ∧ totL F n ≤ 1048576 := by
  rcases open_slice Tryd.underlying22 h with ⟨hcs, _⟩ | ⟨a, len, cap, m, n, D, Pl, hcs, _, hl, hm, hmeq, hx, hall⟩
  · simp at hcs
    exact ⟨none, 0, 0, fun _ => (⟨none, 0, 0⟩, [], []), hcs, fun h => absurd h (by omega), by decide, by simp [totL]⟩
  · simp only [if_true] at hmeq
    subst hmeq
    simp at hcs
    rw [hx] at hb
    have hball := Nat.le_trans (slice_many ((List.range len).map D) ((List.range (m - len)).map fun j => D (len + j))) hb
    have hlim : len ≤ 1048576 := by
      have h2 := many ((List.range len).map D)
      simp only [List.length_map, List.length_range] at h2
      omega
    by_cases h0 : 0 < len
    · obtain ⟨P, o, spot⟩ := a
      have hspot : spot = none := by
        obtain ⟨cs', h1, h2⟩ := hall 0 (by omega)
        rw [cells34] at h1
        obtain ⟨_, hlen, hcell⟩ := World.cells?_some h1
        have hc := hcell 0 (by omega)
        rw [List.getElem?_eq_getElem (by omega)] at hc
        have := World.cell?_spot hc
        simpa [Addr.add] using this
      subst hspot
      have each : ∀ i, i < len → ∃ d : Sl × List E × List Wr, (W.cell? ⟨P, o + i, none⟩ = some d.1.v ∧ In W d.1 d.2.1 d.2.2) ∧ d.1.n ≤ Rows.uptoBulk (D i) := by
        intro i hi
        obtain ⟨cs', h1, h2⟩ := hall i (by omega)
        have hDi : Rows.uptoBulk (D i) ≤ 1048576 := Nat.le_trans (all_mem (List.mem_map.2 ⟨i, List.mem_range.2 hi, rfl⟩)) hball
        rw [cells34, Addr.add_lit, Nat.mul_one] at h1
        obtain ⟨_, hlen, hcell⟩ := World.cells?_some h1
        match cs', hlen with
        | [v0], _ =>
          obtain ⟨s, es, rs, rfl, hin⟩ := open_list h2 hDi
          have := hcell 0 (by omega)
          rw [Addr.add_lit] at this
          exact ⟨(s, es, rs), ⟨by simpa using this, hin⟩, list_len h2⟩
      obtain ⟨f, hf⟩ := @choose_lt (Sl × List E × List Wr) ⟨(⟨none, 0, 0⟩, [], [])⟩ _ _ each
      exact ⟨some ⟨P, o, none⟩, len, m, f, hcs, fun _ => ⟨P, o, rfl, block_lt_of_cell (hf 0 h0).1.1, fun i hi => (hf i hi).1⟩, hlim, Nat.le_trans (tot_bulk f D len (fun i hi => (hf i hi).2)) hball⟩
    · obtain rfl : len = 0 := by omega
      exact ⟨some a, 0, m, fun _ => (⟨none, 0, 0⟩, [], []), hcs, fun h => absurd h (by omega), by omega, by simp [totL]⟩
end Go.Proofs.YtokaeiahhmaokaaDoor.ds
namespace Go.Proofs.YtokaeiahhmaokaaDoor.ds
open Go.ChangeShapes Go.WideShapes Go.ChangeAt Go.RowKit
set_option linter.unusedVariables false
set_option linter.unusedSimpArgs false
/-- the set with the dot, node by node -/
def addF (xs : List S) (dn dc : Int) (j : Nat) : S := if (j : Int) = dn then withc (ofn xs dn) dc else ofn xs j
theorem addF_n (xs : List S) (dn dc : Int) (j : Nat) : (addF xs dn dc j).n = j := by
  unfold addF
  split
  · rename_i h; rw [withc_n, ofn_n, h]
  · exact ofn_n xs j
theorem addF_okn {gp : Int} {xs : List S} (k : OkL gp xs) (h0 : 1 ≤ gp) (hg : gp ≤ 64) (dn dc : Int) (hc : 1 ≤ dc ∧ dc ≤ 1048576) (hcg : dc ≤ (ofn xs dn).b + gp) (j : Nat) : Okn gp j (addF xs dn dc j) := by
  unfold addF
  split
  · rename_i h
    rw [h]
    exact withc_okn (k.okn (by omega) hg dn) hg hc.1 hc.2 hcg
  · exact k.okn (by omega) hg j
theorem addl_eq (xs : List S) (dn dc : Int) : addl xs dn dc = gath (addF xs dn dc) 8 := rfl
theorem addl_ok {gp : Int} {xs : List S} (k : OkL gp xs) (h0 : 1 ≤ gp) (hg : gp ≤ 64) (dn dc : Int) (hc : 1 ≤ dc ∧ dc ≤ 1048576) (hcg : dc ≤ (ofn xs dn).b + gp) : OkL gp (addl xs dn dc) := by
  rw [addl_eq]
  exact gath_ok (fun j _ => addF_okn k h0 hg dn dc hc hcg j) (fun j => addF_n xs dn dc j) 8 (by omega)
section
variable {p : Option Addr} {N cap : Nat} {xs : List S} {w : World} (dn dc gap : Int)
end
end Go.Proofs.YtokaeiahhmaokaaDoor.ds

