import Derived.Test.YtokaeiahhmaokaaDoorT23
import Derived.Test.YtokaeiahhmaokaaDoorT16
import Derived.Lib.Walk
import Derived.Lib.SliceRun
import Derived.Lib.AppendZerosOnto
import Derived.Deep.CutRange
namespace Go.Proofs.YtokaeiahhmaokaaDoor.ds
open Go.ChangeShapes Go.WideShapes Go.ChangeAt Go.RowKit Go.Sort
set_option linter.unusedVariables false
set_option linter.unusedSimpArgs false
theorem own_af {w W : World} {G N c : Nat} {ls : List E} (h : OwnE w W ⟨some ⟨G, 0, none⟩, N, c⟩ ls) : AF w W G N c (idx (gE ls)) := by
  have hl := h.len
  simp only at hl
  refine ⟨?_⟩
  have e : (List.range N).map (fun k => (idx (gE ls) k).1) = ls := by rw [← hl]; exact range_gE ls
  rw [e]; exact h
theorem cpF_congr (f g : Nat → E) : ∀ n, (∀ k, k < n → f k = g k) → cpF f n = cpF g n
  | 0, _ => rfl
  | n + 1, h => by
    unfold cpF
    rw [cpF_congr f g n (fun k hk => h k (by omega)), h n (by omega)]
    by_cases h0 : n = 0
    · simp [h0]
    · rw [h (n - 1) (by omega)]
set_option maxHeartbeats 4000000 in
set_option maxRecDepth 100000 in
theorem byDots_ok {w W : World} {G N c : Nat} {ls : List E} (h : OwnE w W ⟨some ⟨G, 0, none⟩, N, c⟩ ls) (hN : N ≤ 1500000) : Calls Tryd.prog 56 #[.slice (some ⟨G, 0, none⟩) N c] W fun r W' => ∃ n : Nat, r = .returned (.slice (some ⟨G, 0, none⟩) n c) ∧ OwnE w W' ⟨some ⟨G, 0, none⟩, n, c⟩ (eachE ls) ∧ Apart [G] W W' := by
  have hl := h.len
  simp only at hl
  have hC := sortStable_ok (gE ls) (own_af h) hN
  have HL := hid hl
  clear h hl
  go_enter Tryd.func56, Tryd.ntmps56
  go_wp2_with fail
  refine hC.mono ?_
  clear hC
  rintro _ w1 ⟨⟨v, rfl⟩, ⟨D, haf, pm, sr⟩, a1⟩
  have hC2 := compact_ok haf.own (by omega)
  have HE : Hid (cpF (gE ((List.range N).map (fun k => (D k).1))) N = eachE ls) := by
    unfold Hid
    rw [cpF_congr _ (fun k => (D k).1) N (fun k hk => gE_rangeD N D k hk), ← HL.out]
    rw [← HL.out] at pm sr
    exact sorted_each pm sr
  rw [HE.out] at hC2
  have HA1 := hid a1
  clear haf pm sr a1 HE
  dsimp only
  go_wp2_with fail
  refine hC2.mono ?_
  clear hC2
  rintro _ w2 ⟨n, rfl, ho, a2⟩
  have HO := hid ho
  have HA2 := hid (HA1.out.trans a2)
  clear ho a2
  dsimp only
  go_wp2_with fail
  go_ret
  exact ⟨n, rfl, HO.out, HA2.out⟩
/-- append of a list that came in, to a list of the call's own -/
theorem app_any {w W : World} {s : Sl} {ls : List E} (h : OwnE w W s ls) (hn : s.n ≤ 1099512676352) {t : Sl} {es : List E} {rs : List Wr} (hi : In W t es rs) (ty : TypeId) :
    ∃ s' W', (Builtin.append_ #[39, 39] ty #[s.v, t.v]).run Tryd.prog W = .ok (Sl.v s') W' ∧ OwnE w W' s' (ls ++ es) ∧ s'.n = s.n + t.n := by
  by_cases h0 : 0 < s.n
  · exact app_in h h0 hn hi ty
  · obtain ⟨i0, hif, hz0, hz1, hz2⟩ := info_parts infoW
    have hls : ls = [] := List.length_eq_zero_iff.1 (by rw [h.len]; omega)
    subst hls
    have htn := hi.n
    have hlen : (flatE es).length = t.n * 6 := by rw [flatE_length, hi.le.len]
    by_cases hm : 0 < t.n
    · obtain ⟨P, o, hp, hP, hc⟩ := hi.le.rd (by rw [hlen]; omega)
      obtain ⟨s', W', hrun, hnw, hsn, ap, _⟩ := run_appS (s := s) 39 ty 28 i0 _ 6 88 Tryd.underlying39 hif hz0 hz1 hz2 rfl (by decide) h.nw ⟨P, o, none⟩ t.n t.c (flatE es) hm hlen (fun j u hj => by rw [Addr.add_lit]; exact hc j u hj) (oneE es) (by unfold maxLen; omega) (by omega)
      refine ⟨s', W', ?_, ⟨hnw, by rw [List.nil_append, hi.le.len, hsn]; omega⟩, hsn⟩
      unfold Sl.v at hrun ⊢
      rw [hp]
      exact hrun
    · have hz : t.n = 0 := by omega
      have he : es = [] := List.length_eq_zero_iff.1 (by rw [hi.le.len]; exact hz)
      subst he
      obtain ⟨p, n, c⟩ := t
      simp only at hz
      subst hz
      cases p with
      | none =>
        obtain ⟨_, hc⟩ := hi.ok rfl
        simp only at hc
        subst hc
        exact ⟨s, W, run_append_owned_none (P := Tryd.prog) W 0 39 ty 28 i0 6 Tryd.underlying39 hif s.v s.n (flatE []) h.nw.own, by rw [List.append_nil]; exact h, by simp⟩
      | some ad =>
        have own := h.nw.own
        rcases own with ⟨hx, ⟨hv, hz'⟩ | ⟨g, cap, cur, hv, _, _, hcap, _⟩⟩
        · have own := h.nw.own
          rw [hv] at own
          rw [hz'] at own
          obtain ⟨v', w', hrun, ho, hg, hiff⟩ := run_append_own (P := Tryd.prog) W 0 39 ty 28 i0 _ 6 88 Tryd.underlying39 hif hz0 hz1 hz2 rfl (by decide) (.slice none 0 0) 0 (flatE []) own ad 0 c [] (by simp) (by simp) (by simp) (by decide) (by decide) (Nat.zero_le _)
          have hv' := hiff.2 ⟨rfl, rfl⟩
          subst hv'
          refine ⟨s, w', by rw [hv]; exact hrun, ?_, by simp⟩
          rw [List.append_nil]
          rw [Nat.add_zero, List.append_nil] at ho
          exact ⟨⟨by rw [hv, hz']; exact ho, h.nw.new, h.nw.ap.trans' (apart_grown hg) (fun y hy => by simp [Value.ownBlock] at hy)⟩, h.len⟩
        · have own := h.nw.own
          rw [hv] at own
          obtain ⟨w', hrun, ho, hg⟩ := run_append_fits (P := Tryd.prog) W 0 39 ty 28 i0 6 Tryd.underlying39 hif hz1 g s.n cap (flatE []) own ad 0 c [] (by simp) (by simp) (by simp) (by omega)
          rw [Nat.add_zero, List.append_nil] at ho
          refine ⟨s, w', by rw [hv]; exact hrun, ?_, by simp⟩
          rw [List.append_nil]
          exact ⟨⟨by rw [hv]; exact ho, h.nw.new, h.nw.ap.trans' (apart_grown hg) (fun y hy => by simp at hy; subst hy; exact .inr (h.nw.new _ (by rw [hv]; rfl)))⟩, h.len⟩
theorem zcE (n : Nat) : (Builtin.zeroCells (E.agg E.z).cells n).size = n * 6 := by
  unfold Builtin.zeroCells
  rw [Array.size_map, Array.size_range]; rfl
structure GrowPost (w w' : World) (r : Ending) (n : Nat) : Prop where
  ex : ∃ s : Sl, r = .returned s.v ∧ OwnE w w' s []
set_option maxHeartbeats 4000000 in
set_option maxRecDepth 100000 in
theorem grow_ok (n : Nat) (h2 : n ≤ 1500000) (w : World) : Calls Tryd.prog 91 #[.slice none 0 0, .int .i64 (n : Nat)] w fun r w' => GrowPost w w' r n := by
  by_cases h1 : n = 0
  · subst h1
    go_enter Tryd.func91, Tryd.ntmps91
    go_wp2_with fail
    go_ret
    exact ⟨⟨none, 0, 0⟩, rfl, OwnE.nil _ _ (Apart.refl _ _)⟩
  obtain ⟨i0, hi, hz0, hz1, hz2⟩ := info_parts infoW
  have hold : (Builtin.firstCells i0.size 0 (.slice none 0 0)).run Tryd.prog w.drew = .ok ([] : List Value).toArray w.drew := run_firstCells_none w.drew i0.size 0 0 0
  have hrz : ∀ ty, (Builtin.append_ #[39, 3] ty #[.slice none 0 0, .int .i64 (n : Int)]).run Tryd.prog w =
      .ok (.slice (some ⟨w.heap.size, 0, none⟩) (0 + n) (grownCap w (0 + n) 0 28)) (w.drew.alloc (.cells (([] : List Value).toArray ++ Builtin.zeroCells (E.agg E.z).cells n ++ Builtin.zeroCells (E.agg E.z).cells (grownCap w (0 + n) 0 28 - (0 + n))) 28)) := fun ty =>
    Lib.run_append_grow_zeros w 39 3 ty 28 i0 (E.agg E.z) .i64 .i64 Tryd.underlying39 Tryd.underlying3 hi hz0 none 0 0 [] hold n (by omega) (by omega) (by omega) (by omega)
      (by rw [hz2]; omega)
      (by rw [hz2]; exact growslice_fits (by omega) (by omega))
  have hGn : 0 + n ≤ grownCap w (0 + n) 0 28 := grownCap_ge w _ _ _
  have hGm : grownCap w (0 + n) 0 28 ≤ maxLen := grownCap_le_maxLen w _ _ _ (by unfold maxLen; omega)
  obtain ⟨G, hG⟩ : ∃ G, G = grownCap w (0 + n) 0 28 := ⟨_, rfl⟩
  rw [← hG] at hrz hGn hGm
  have hG63 : G ≤ 9223372036854775807 := by unfold maxLen at hGm; omega
  obtain ⟨C, HC⟩ : ∃ C, Hid (C = ([] : List Value).toArray ++ Builtin.zeroCells (E.agg E.z).cells n ++ Builtin.zeroCells (E.agg E.z).cells (G - (0 + n))) := ⟨_, rfl⟩
  have HS : Hid (C.size = G * 6) := by
    show C.size = G * 6
    rw [HC.out, Array.size_append, Array.size_append, zcE, zcE]
    show 0 + n * 6 + (G - (0 + n)) * 6 = G * 6
    omega
  rw [← HC.out] at hrz
  rw [Nat.zero_add] at hrz
  clear hold hG HC
  go_enter Tryd.func91, Tryd.ntmps91
  go_wp2_with (at_builtin; refine Lib.wpList_append_run _ rfl _ _ _ _ rfl _ _ rfl rfl _ _ (hrz _) ?_)
  go_ret
  refine ⟨⟨⟨some ⟨w.heap.size, 0, none⟩, 0, G⟩, rfl, ⟨⟨rfl, .inr ⟨w.heap.size, G, C, rfl, Nat.zero_le _, ?_, Nat.zero_le _, hGm, HS.out, by simp [flatE]⟩⟩, fun b hb => ?_, ((Apart.refl _ _).drew).alloc _⟩, rfl⟩⟩
  · show (w.drew.heap.push _)[w.drew.heap.size]? = _
    exact Array.getElem?_push_size
  · simp [Sl.v, Value.ownBlock] at hb; omega
end Go.Proofs.YtokaeiahhmaokaaDoor.ds
namespace Go.Proofs.YtokaeiahhmaokaaDoor.ds
open Go.ChangeShapes Go.WideShapes Go.ChangeAt Go.RowKit Go.Sort
set_option linter.unusedVariables false
set_option linter.unusedSimpArgs false
def catL (F : Nat → Sl × List E × List Wr) : Nat → List E
  | 0 => []
  | i + 1 => catL F i ++ (F i).2.1
def totL (F : Nat → Sl × List E × List Wr) : Nat → Nat
  | 0 => 0
  | i + 1 => totL F i + (F i).1.n
theorem totL_mono (F : Nat → Sl × List E × List Wr) (i : Nat) : ∀ k, totL F i ≤ totL F (i + k)
  | 0 => Nat.le_refl _
  | k + 1 => Nat.le_trans (totL_mono F i k) (by show totL F (i + k) ≤ totL F (i + k) + _; omega)
theorem totL_le (F : Nat → Sl × List E × List Wr) {i n : Nat} (h : i ≤ n) : totL F i ≤ totL F n := by
  have := totL_mono F i (n - i)
  rwa [show i + (n - i) = n from by omega] at this
theorem Sets.kept0 {w w' : World} {p : Option Addr} {n : Nat} {F : Nat → Sl × List E × List Wr} (h : Sets w p n F) (a : Apart [] w w') : Sets w' p n F := fun h0 => by
  obtain ⟨P, o, e, hP, hc⟩ := h h0
  exact ⟨P, o, e, Nat.lt_of_lt_of_le hP a.size, fun i hi => ⟨(a.cell hP (by simp)).trans (hc i hi).1, (hc i hi).2.kept0 a⟩⟩
set_option maxHeartbeats 4000000 in
set_option maxRecDepth 100000 in
theorem concat_ok (w : World) (p : Option Addr) (n cc : Nat) (F : Nat → Sl × List E × List Wr) (h : Sets w p n F) (hn : n ≤ 1048576) (hT : totL F n ≤ 1500000) :
    Calls Tryd.prog 52 #[.slice p n cc] w fun r w' => ∃ s : Sl, r = .returned s.v ∧ s.n = totL F n ∧ OwnE w w' s (catL F n) := by
  have HS := hid h
  clear h
  go_enter Tryd.func52, Tryd.ntmps52
  go_wp2_with fail
  go_loopw [3, 11] (fun u v wr => ∃ i : Nat, u = .int .i64 (totL F i : Nat) ∧ v = .int .i64 (i : Nat) ∧ i ≤ n ∧ wr = w) (fun _ v _ => n - (intOf v).toNat)
  case atStart => exact ⟨0, rfl, rfl, Nat.zero_le _, rfl⟩
  case round =>
    obtain ⟨i, rfl, rfl, hi, hww⟩ := hrel
    have hwy := hww.symm
    clear hww
    subst hwy
    by_cases hlt : i < n
    · obtain ⟨P, o, rfl, hP, hc⟩ := HS.out (by omega)
      obtain ⟨c0, hin⟩ := hc i hlt
      have htl := totL_le F (show i + 1 ≤ n from hlt)
      have e1 : totL F (i + 1) = totL F i + (F i).1.n := rfl
      have wT : IntKind.i64.wrap (((totL F i : Nat) : Int) + (((F i).1.n : Nat) : Int)) = ((totL F (i + 1) : Nat) : Int) := by rw [IntKind.wrap_i64]; omega
      have hge : ¬ (((totL F (i + 1) : Nat) : Int) < 0) := by omega
      unfold Sl.v at c0
      obtain ⟨T1, HT1⟩ : ∃ T1, Hid (T1 = totL F (i + 1)) := ⟨_, rfl⟩
      rw [← HT1.out] at wT hge
      generalize totL F i = T0 at *
      generalize (F i).1 = t at *
      clear hc hin e1 htl
      go_wp2_with fail
      go_roundw
      case rel => exact ⟨i + 1, by rw [HT1.out], by go_num, by omega, by first | rfl | trivial⟩
      case measure => simp [intOf]; omega
    · obtain rfl : n = i := by omega
      have hC := grow_ok (totL F n) hT w
      go_wp2_with fail
      refine hC.mono ?_
      clear hC
      rintro _ w1 ⟨s, rfl, ho⟩
      have HO0 := hid ho
      clear ho
      dsimp only
      go_wp2_with fail
      go_loopw [6, 27] (fun u v wq => ∃ (i : Nat) (s : Sl), u = s.v ∧ v = .int .i64 (i : Nat) ∧ i ≤ n ∧ s.n = totL F i ∧ OwnE w wq s (catL F i)) (fun _ v _ => n - (intOf v).toNat)
      case atStart => exact ⟨0, s, rfl, rfl, Nat.zero_le _, HO0.out.len.symm, HO0.out⟩
      case round =>
        obtain ⟨i, s, rfl, rfl, hi, hsn, ho⟩ := hrel
        have HO := hid ho
        have HSN := hid hsn
        clear ho HO0 hsn
        by_cases hlt2 : i < n
        · obtain ⟨P, o, rfl, hP, hc⟩ := (HS.out.kept0 HO.out.nw.ap) (by omega)
          obtain ⟨c0, hin⟩ := hc i hlt2
          have htl := totL_le F hi
          obtain ⟨s', w6, hrun, ho6, hsn6⟩ := app_any HO.out (by rw [HSN.out]; omega) hin 39
          have HO6 : Hid (OwnE w w6 s' (catL F (i + 1))) := ho6
          have HS6 : Hid (s'.n = totL F (i + 1)) := by unfold Hid; rw [hsn6, HSN.out]; rfl
          unfold Sl.v at c0 hrun
          unfold Sl.v
          generalize (F i).1 = t at *
          clear hc hin ho6 hsn6 htl
          go_wp2_with (at_builtin; refine wpList_app2 rfl (.tmp 31) (.tmp 32) 39 39 rfl _ _ rfl rfl _ _ hrun ?_)
          go_roundw
          case rel => exact ⟨i + 1, s', rfl, by go_num, by omega, HS6.out, HO6.out⟩
          case measure => simp [intOf]; omega
        · obtain rfl : n = i := by omega
          unfold Sl.v
          go_wp2_with fail
          go_ret
          exact ⟨s, rfl, HSN.out, HO.out⟩
end Go.Proofs.YtokaeiahhmaokaaDoor.ds
namespace Go.Proofs.YtokaeiahhmaokaaDoor.ds
open Go.ChangeShapes Go.WideShapes Go.ChangeAt Go.RowKit Go.Sort
set_option linter.unusedVariables false
set_option linter.unusedSimpArgs false
/-- .. as the writes read -/
def insWb (u : Wr) : List Wr → List Wr
  | [] => [u]
  | x :: l => if belowW u x = true then u :: x :: l else x :: insWb u l
def eachW (ls : List Wr) : List Wr := ls.foldl (fun out w => if out.any (fun o => deqW o w) = true then out else insWb w out) []
/-- a reading of writes -/
structure Rdg (w : World) (R : E → Wr) (ls : List E) : Prop where
  rd : ∀ e ∈ ls, Reads w e (R e)
theorem Rdg.sub {w : World} {R : E → Wr} {ls ms : List E} (h : Rdg w R ls) (hs : ∀ e ∈ ms, e ∈ ls) : Rdg w R ms := ⟨fun e he => h.rd e (hs e he)⟩
theorem Rdg.kept0 {w w' : World} {R : E → Wr} {ls : List E} (h : Rdg w R ls) (a : Apart [] w w') : Rdg w' R ls := ⟨fun e he => (h.rd e he).kept0 a⟩
theorem Rdg.at {w : World} {R : E → Wr} {ls : List E} (h : Rdg w R ls) (j : Nat) (hj : j < ls.length) : Reads w (gE ls j) (gR (ls.map R) j) := by
  rw [gR_map R ls j hj]; exact h.rd _ (gE_memE ls j hj)
theorem ins_map {w : World} {R : E → Wr} {u : E} (hu : Reads w u (R u)) : ∀ l : List E, (∀ e ∈ l, Reads w e (R e)) → (insE u l).map R = insWb (R u) (l.map R)
  | [], _ => rfl
  | x :: l, h => by
    have hx := h x (by simp)
    have e : below u x = belowW (R u) (R x) := by unfold below belowW; rw [hu.n, hu.c, hx.n, hx.c]
    unfold insE
    simp only [List.map_cons]
    unfold insWb
    rw [e]
    split
    · rfl
    · rw [List.map_cons, ins_map hu l (fun e he => h e (List.mem_cons_of_mem _ he))]
theorem each_map {w : World} {R : E → Wr} : ∀ (ls : List E) (out : List E), (∀ e ∈ ls, Reads w e (R e)) → (∀ e ∈ out, Reads w e (R e)) → (ls.foldl (fun out w => if out.any (fun o => deq o w) = true then out else insE w out) out).map R = (ls.map R).foldl (fun out w => if out.any (fun o => deqW o w) = true then out else insWb w out) (out.map R)
  | [], out, _, _ => rfl
  | u :: l, out, h, ho => by
    have hu := h u (by simp)
    have e : out.any (fun o => deq o u) = (out.map R).any (fun o => deqW o (R u)) := by
      rw [List.any_map]
      apply Bool.eq_iff_iff.2
      rw [List.any_eq_true, List.any_eq_true]
      constructor
      · rintro ⟨o, h1, h2⟩
        refine ⟨o, h1, ?_⟩
        have hr := ho o h1
        unfold deq at h2
        show deqW (R o) (R u) = true
        unfold deqW
        rw [← hr.n, ← hr.c, ← hu.n, ← hu.c]; exact h2
      · rintro ⟨o, h1, h2⟩
        refine ⟨o, h1, ?_⟩
        have hr := ho o h1
        have h3 : deqW (R o) (R u) = true := h2
        unfold deqW at h3
        unfold deq
        rw [hr.n, hr.c, hu.n, hu.c]; exact h3
    simp only [List.foldl_cons, List.map_cons]
    rw [each_map l _ (fun e he => h e (List.mem_cons_of_mem _ he))]
    · congr 1
      rw [e]
      split
      · rfl
      · exact ins_map hu out ho
    · intro x hx
      split at hx
      · exact ho x hx
      · rcases (ins_mem u x out).1 hx with e | e
        · rw [e]; exact hu
        · exact ho x e
theorem eachE_map {w : World} {R : E → Wr} {ls : List E} (h : Rdg w R ls) : (eachE ls).map R = eachW (ls.map R) := each_map ls [] h.rd (by simp)
theorem each_len : ∀ (n : Nat) (ls : List E), ls.length = n → (eachE ls).length ≤ n
  | 0, ls, hn => by
    have : ls = [] := List.length_eq_zero_iff.1 hn
    subst this
    simp [eachE]
  | n + 1, ls, hn => by
    obtain ⟨l, w, rfl⟩ : ∃ l w, ls = l ++ [w] := ⟨ls.dropLast, ls.getLast (by intro e; rw [e] at hn; simp at hn), (List.dropLast_concat_getLast _).symm⟩
    have := each_len n l (by simpa using hn)
    rw [each_snoc]
    split
    · omega
    · rw [insE_length]; omega
theorem eachE_sub (ls : List E) : ∀ x ∈ eachE ls, x ∈ ls := fun x hx => by
  obtain ⟨k, hk, e, _⟩ := ((each_ok _ ls rfl).2 x).1 hx
  rw [← e]; exact gE_memE ls k hk
theorem Nw.from {w0 w w' : World} {e size : Nat} {s : Sl} {us : List Value} (h : Nw w w' e size s us) (a : Apart [] w0 w) : Nw w0 w' e size s us := ⟨h.own, fun k hk => Nat.le_trans a.size (h.new k hk), a.trans h.ap⟩
end Go.Proofs.YtokaeiahhmaokaaDoor.ds
namespace Go.Proofs.YtokaeiahhmaokaaDoor.ds
open Go.ChangeShapes Go.WideShapes Go.ChangeAt Go.RowKit Go.Sort
set_option linter.unusedVariables false
set_option linter.unusedSimpArgs false
theorem any_upto (l : List E) (f : E → Bool) (k : Nat) (h : k < l.length) : (l.take (k + 1)).any f = ((l.take k).any f || f (gE l k)) := by
  rw [List.take_add_one, List.any_append, List.getElem?_eq_getElem h, gE_eq l k h]
  simp
set_option maxHeartbeats 16000000 in
set_option maxRecDepth 100000 in
theorem reach_ok (w : World) (p : Option Addr) (n cc : Nat) (F : Nat → Sl × List E × List Wr) (h : Sets w p n F) (hn : n ≤ 1048576) (hT : totL F n ≤ 1500000) (hcl : ∀ i, i ≤ n → (catL F i).length = totL F i) :
    Calls Tryd.prog 78 #[.slice p n cc] w fun r w' => ∃ s : Sl, r = .returned s.v ∧ OwnE w w' s (eachE (catL F n)) := by
  have HS := hid h
  have HCL := hid hcl
  clear h hcl
  go_enter Tryd.func78, Tryd.ntmps78
  go_wp2_with fail
  go_loopw [3, 4] (fun u v wr => ∃ (i : Nat) (s : Sl), u = s.v ∧ v = .int .i64 (i : Nat) ∧ i ≤ n ∧ OwnE w wr s (eachE (catL F i))) (fun _ v _ => n - (intOf v).toNat)
  case atStart => exact ⟨0, ⟨none, 0, 0⟩, rfl, rfl, Nat.zero_le _, OwnE.nil _ _ (Apart.refl _ _)⟩
  case round =>
    obtain ⟨i, s, rfl, rfl, hi, ho⟩ := hrel
    have HO := hid ho
    clear ho
    by_cases hlt : i < n
    · obtain ⟨P, o, rfl, hP, hc⟩ := HS.out (by omega)
      obtain ⟨cc0, hin⟩ := hc i hlt
      have HIN := hid hin
      have HCC := hid cc0
      obtain ⟨t, Ht⟩ : ∃ t, Hid (t = (F i).1) := ⟨_, rfl⟩
      obtain ⟨es, Hes⟩ : ∃ es, Hid (es = (F i).2.1) := ⟨_, rfl⟩
      rw [← Ht.out, ← Hes.out] at HIN
      rw [← Ht.out] at HCC
      have htn := HIN.out.n
      have HPT : Hid (∀ X, Apart [] w X → X.cell? ⟨P, o + i, none⟩ = some (.slice t.p t.n t.c)) := fun X a => (a.cell hP (by simp)).trans HCC.out
      have HEL : Hid (es.length = t.n) := HIN.out.le.len
      have HLB : Hid ((catL F i).length + t.n ≤ 1500000) := by
        have h1 := HCL.out i hi
        have h2 := totL_le F (show i + 1 ≤ n from hlt)
        have h3 : totL F (i + 1) = totL F i + (F i).1.n := rfl
        rw [← Ht.out] at h3
        unfold Hid; omega
      clear hc cc0 hin
      have p0 := HPT.out wr HO.out.nw.ap
      have hiI : ((i : Nat) : Int) < (n : Int) := by omega
      unfold Sl.v
      go_wp2_with fail
      clear p0
      go_loopw [3, 5] (fun u v wr => ∃ (j : Nat) (s : Sl), u = s.v ∧ v = .int .i64 (j : Nat) ∧ j ≤ t.n ∧ OwnE w wr s (eachE (catL F i ++ es.take j))) (fun _ v _ => t.n - (intOf v).toNat)
      case atStart => exact ⟨0, s, rfl, rfl, Nat.zero_le _, by simpa using HO.out⟩
      case round =>
        obtain ⟨j, s, rfl, rfl, hj, ho⟩ := hrel
        clear HO
        have HO := hid ho
        clear ho
        have p0 := HPT.out wr HO.out.nw.ap
        by_cases hlt2 : j < t.n
        · have hjI : ((j : Nat) : Int) < (t.n : Int) := by omega
          obtain ⟨Q, o2, hQ, _, hcs⟩ := (HIN.out.le.kept0 HO.out.nw.ap).at (by omega)
          obtain ⟨k0, k1, k2, k3, k4, k5⟩ := hcs j hlt2
          obtain ⟨x, Hx⟩ : ∃ x, Hid (x = gE es j) := ⟨_, rfl⟩
          rw [← Hx.out] at k0 k1 k2 k3 k4 k5
          unfold Sl.v at k4 k5
          rw [hQ] at p0
          have HO1 := hid (HO.out.kept ((Apart.refl [] wr).alloc (boxE x)))
          have HB1 := hid (heap_alloc_new wr (boxE x))
          have HSN : Hid (eachE (catL F i ++ es.take (j + 1)) = if (eachE (catL F i ++ es.take j)).any (fun q => deq q x) = true then eachE (catL F i ++ es.take j) else insE x (eachE (catL F i ++ es.take j))) := by
            unfold Hid
            have hel := HEL.out
            rw [List.take_add_one, List.getElem?_eq_getElem (by omega), ← gE_eq es j (by omega), ← Hx.out]
            show eachE (catL F i ++ (es.take j ++ [x])) = _
            rw [← List.append_assoc, each_snoc]
          have hol : s.n ≤ 1500000 := by
            have h1 := HO.out.len
            have h2 := each_len _ (catL F i ++ es.take j) rfl
            have h3 := HLB.out
            rw [List.length_append, List.length_take] at h2
            omega
          clear hcs HO
          unfold Sl.v
          go_wp2_with fail
          obtain ⟨W1, hW1⟩ : ∃ W1, wr.alloc (Obj.cells #[Value.int IntKind.i64 x.n, Value.int IntKind.i64 x.c, Value.string x.k, Value.bool x.d, Value.slice x.v.p x.v.n x.v.c, Value.slice x.x.p x.x.n x.x.c] 28) = W1 := ⟨_, rfl⟩
          have hW1' : wr.alloc (boxE x) = W1 := hW1
          rw [hW1'] at HO1 HB1
          rw [hW1]
          obtain ⟨B6, hB6⟩ : ∃ B6, wr.heap.size = B6 := ⟨_, rfl⟩
          rw [hB6] at HB1 ⊢
          clear hW1 hW1' hB6 k0 k1 k2 k3 k4 k5 p0
          generalize eachE (catL F i ++ es.take j) = L at *
          obtain ⟨sp, M, c⟩ := s
          simp only at hol
          dsimp only
          go_loopw [7, 8] (fun u v wr => ∃ k : Nat, u = .bool ((L.take k).any (fun q => deq q x)) ∧ v = .int .i64 (k : Nat) ∧ k ≤ M ∧ Apart [] W1 wr) (fun _ v _ => M - (intOf v).toNat)
          case atStart => exact ⟨0, by simp, rfl, Nat.zero_le _, Apart.refl _ _⟩
          case round =>
            obtain ⟨k, rfl, rfl, hk, ap⟩ := hrel
            have HAP := hid ap
            have HOK := hid (HO1.out.kept ap)
            clear ap
            have hLl := HO1.out.len
            simp only at hLl
            have HLL := hid hLl
            clear hLl
            by_cases hlt3 : k < M
            · obtain ⟨G, rfl⟩ : ∃ G, sp = some ⟨G, 0, none⟩ := by
                obtain ⟨_, ⟨hv, hz'⟩ | ⟨g, cap, cur, hv, _⟩⟩ := HO1.out.nw.own
                · simp only at hz'; omega
                · unfold Sl.v at hv
                  simp at hv
                  exact ⟨g, hv.1⟩
              obtain ⟨y, Hy⟩ : ∃ y, Hid (y = gE L k) := ⟨_, rfl⟩
              have HCY : Hid (∀ X, Apart [] wr X → X.cell? ⟨G, k * 6, none⟩ = some (.int .i64 y.n) ∧ X.cell? ⟨G, k * 6 + 1, none⟩ = some (.int .i64 y.c)) := fun X ax => by
                obtain ⟨a0, a1, _⟩ := (HOK.out.kept ax).cellsAt k hlt3 (k * 6) rfl
                rw [← Hy.out] at a0 a1
                exact ⟨a0, a1⟩
              have HCX : Hid (∀ X, Apart [] wr X → X.cell? ⟨B6, 0, none⟩ = some (.int .i64 x.n) ∧ X.cell? ⟨B6, 1, none⟩ = some (.int .i64 x.c)) := fun X ax => by
                obtain ⟨a0, a1, _⟩ := box9 (((HAP.out.trans ax).block _ (lt_of_heap HB1.out) (by simp)).trans HB1.out)
                exact ⟨a0, a1⟩
              have HQ := hid (fun W => eql24 W y.n y.c x.n x.c)
              have HAN : Hid ((L.take (k + 1)).any (fun q => deq q x) = ((L.take k).any (fun q => deq q x) || deq y x)) := by
                unfold Hid
                rw [any_upto L _ k (by rw [HLL.out]; exact hlt3), Hy.out]
              generalize (L.take k).any (fun q => deq q x) = mt at *
              have hkI : ((k : Nat) : Int) < (M : Int) := by omega
              go_upto_region 13 with fail
              cases mt
              case true =>
                have HAN2 := hid HAN.out
                clear HAN
                simp only [Bool.true_or] at HAN2
                refine wp_region_held_drew (S := fun X => Apart [] wr X) (by kernel_rfl) (Apart.refl [] wr).drew (fun hHeld => ?_)
                generalize wr.drew = wd at *
                refine wpAnyH_take (i := 0) (oi := ⟨some 37, _, _, _, _, _⟩) (v := (.bool true)) rfl (by kernel_rfl) (by kernel_rfl) (by kernel_rfl) (fun _ _ _ h => h) (Or.inl ⟨by rfl, ?_⟩) (by assumption) ?_
                · intro W hSW; go_simp
                simp only [Act.put, List.setIfInBounds_toArray, List.set_cons_zero, List.set_cons_succ]
                refine wpAnyH_take (i := 1) (oi := ⟨some 38, _, _, _, _, _⟩) (v := (.bool true)) rfl (by kernel_rfl) (by kernel_rfl) (by kernel_rfl) (fun _ _ _ h => h) (Or.inl ⟨by rfl, ?_⟩) (by assumption) ?_
                · intro W hSW; go_simp
                simp only [Act.put, List.setIfInBounds_toArray, List.set_cons_zero, List.set_cons_succ]
                refine wpAnyH_take (i := 2) (oi := ⟨some 39, _, _, _, _, _⟩) (v := undef) rfl (by kernel_rfl) (by kernel_rfl) (by kernel_rfl) (fun _ _ _ h => h) (Or.inr ⟨by kernel_rfl, rfl⟩) (by assumption) ?_
                simp only [Act.put, List.setIfInBounds_toArray, List.set_cons_zero, List.set_cons_succ]
                refine wpAnyH_take (i := 3) (oi := ⟨some 40, _, _, _, _, _⟩) (v := undef) rfl (by kernel_rfl) (by kernel_rfl) (by kernel_rfl) (fun _ _ _ h => h) (Or.inr ⟨by kernel_rfl, rfl⟩) (by assumption) ?_
                simp only [Act.put, List.setIfInBounds_toArray, List.set_cons_zero, List.set_cons_succ]
                refine wpAnyH_take (i := 4) (oi := ⟨some 41, _, _, _, _, _⟩) (v := undef) rfl (by kernel_rfl) (by kernel_rfl) (by kernel_rfl) (fun _ _ _ h => h) (Or.inr ⟨by kernel_rfl, rfl⟩) (by assumption) ?_
                simp only [Act.put, List.setIfInBounds_toArray, List.set_cons_zero, List.set_cons_succ]
                refine wpAnyH_take (i := 5) (oi := ⟨some 42, _, _, _, _, _⟩) (v := undef) rfl (by kernel_rfl) (by kernel_rfl) (by kernel_rfl) (fun _ _ _ h => h) (Or.inr ⟨by kernel_rfl, rfl⟩) (by assumption) ?_
                simp only [Act.put, List.setIfInBounds_toArray, List.set_cons_zero, List.set_cons_succ]
                refine wpAnyH_take (i := 6) (oi := ⟨some 43, _, _, _, _, _⟩) (v := undef) rfl (by kernel_rfl) (by kernel_rfl) (by kernel_rfl) (fun _ _ _ h => h) (Or.inr ⟨by kernel_rfl, rfl⟩) (by assumption) ?_
                simp only [Act.put, List.setIfInBounds_toArray, List.set_cons_zero, List.set_cons_succ]
                refine wpAnyH_take (i := 7) (oi := ⟨some 44, _, _, _, _, _⟩) (v := undef) rfl (by kernel_rfl) (by kernel_rfl) (by kernel_rfl) (fun _ _ _ h => h) (Or.inr ⟨by kernel_rfl, rfl⟩) (by assumption) ?_
                simp only [Act.put, List.setIfInBounds_toArray, List.set_cons_zero, List.set_cons_succ]
                refine wpAnyH_take (i := 8) (oi := ⟨some 45, _, _, _, _, _⟩) (v := undef) rfl (by kernel_rfl) (by kernel_rfl) (by kernel_rfl) (fun _ _ _ h => h) (Or.inr ⟨by kernel_rfl, rfl⟩) (by assumption) ?_
                simp only [Act.put, List.setIfInBounds_toArray, List.set_cons_zero, List.set_cons_succ]
                refine wpAnyH_take (i := 9) (oi := ⟨some 46, _, _, _, _, _⟩) (v := undef) rfl (by kernel_rfl) (by kernel_rfl) (by kernel_rfl) (fun _ _ _ h => h) (Or.inr ⟨by kernel_rfl, rfl⟩) (by assumption) ?_
                simp only [Act.put, List.setIfInBounds_toArray, List.set_cons_zero, List.set_cons_succ]
                refine wpAnyH_take (i := 10) (oi := ⟨some 47, _, _, _, _, _⟩) (v := (.bool true)) rfl (by kernel_rfl) (by kernel_rfl) (by kernel_rfl) (fun _ _ _ h => h) (Or.inl ⟨by rfl, ?_⟩) (by assumption) ?_
                · intro W hSW; go_simp
                simp only [Act.put, List.setIfInBounds_toArray, List.set_cons_zero, List.set_cons_succ]
                refine wpAnyH_take (i := 11) (oi := ⟨some 7, _, _, _, _, _⟩) (v := (.bool true)) rfl (by kernel_rfl) (by kernel_rfl) (by kernel_rfl) (fun _ _ _ h => h) (Or.inl ⟨by rfl, ?_⟩) (by assumption) ?_
                · intro W hSW; go_simp
                simp only [Act.put, List.setIfInBounds_toArray, List.set_cons_zero, List.set_cons_succ]
                refine wpAnyH_done (by kernel_rfl) ?_ _
                go_wp2_with fail
                go_roundw
                case rel => exact ⟨k + 1, by rw [HAN2.out], by go_num, by omega, HAP.out.trans hHeld⟩
                case measure => simp [intOf]; omega
              case false =>
                have HAN2 := hid HAN.out
                clear HAN
                simp only [Bool.false_or] at HAN2
                refine wp_region_held_drew (S := fun X => Apart [] wr X) (by kernel_rfl) (Apart.refl [] wr).drew (fun hHeld => ?_)
                generalize wr.drew = wd at *
                refine wpAnyH_take (i := 0) (oi := ⟨some 37, _, _, _, _, _⟩) (v := (.bool false)) rfl (by kernel_rfl) (by kernel_rfl) (by kernel_rfl) (fun _ _ _ h => h) (Or.inl ⟨by rfl, ?_⟩) (by assumption) ?_
                · intro W hSW; go_simp
                simp only [Act.put, List.setIfInBounds_toArray, List.set_cons_zero, List.set_cons_succ]
                refine wpAnyH_take (i := 1) (oi := ⟨some 38, _, _, _, _, _⟩) (v := (.bool false)) rfl (by kernel_rfl) (by kernel_rfl) (by kernel_rfl) (fun _ _ _ h => h) (Or.inl ⟨by rfl, ?_⟩) (by assumption) ?_
                · intro W hSW; go_simp
                simp only [Act.put, List.setIfInBounds_toArray, List.set_cons_zero, List.set_cons_succ]
                refine wpAnyH_take (i := 2) (oi := ⟨some 39, _, _, _, _, _⟩) (v := (.slice (some ⟨G, 0, none⟩) M c)) rfl (by kernel_rfl) (by kernel_rfl) (by kernel_rfl) (fun _ _ _ h => h) (Or.inl ⟨by rfl, ?_⟩) (by assumption) ?_
                · intro W hSW; go_simp
                simp only [Act.put, List.setIfInBounds_toArray, List.set_cons_zero, List.set_cons_succ]
                refine wpAnyH_take (i := 3) (oi := ⟨some 40, _, _, _, _, _⟩) (v := (.int .i64 (k : Nat))) rfl (by kernel_rfl) (by kernel_rfl) (by kernel_rfl) (fun _ _ _ h => h) (Or.inl ⟨by rfl, ?_⟩) (by assumption) ?_
                · intro W hSW; go_simp
                simp only [Act.put, List.setIfInBounds_toArray, List.set_cons_zero, List.set_cons_succ]
                refine wpAnyH_take (i := 4) (oi := ⟨some 41, _, _, _, _, _⟩) (v := (.pointer (some ⟨G, k * 6, none⟩))) rfl (by kernel_rfl) (by kernel_rfl) (by kernel_rfl) (fun _ _ _ h => h) (Or.inl ⟨by rfl, ?_⟩) (by assumption) ?_
                · intro W hSW; go_simp
                simp only [Act.put, List.setIfInBounds_toArray, List.set_cons_zero, List.set_cons_succ]
                refine wpAnyH_take (i := 5) (oi := ⟨some 42, _, _, _, _, _⟩) (v := (.pointer (some ⟨G, k * 6, none⟩))) rfl (by kernel_rfl) (by kernel_rfl) (by kernel_rfl) (fun _ _ _ h => h) (Or.inl ⟨by rfl, ?_⟩) (by assumption) ?_
                · intro W hSW; go_simp
                simp only [Act.put, List.setIfInBounds_toArray, List.set_cons_zero, List.set_cons_succ]
                refine wpAnyH_take (i := 6) (oi := ⟨some 43, _, _, _, _, _⟩) (v := (.agg #[.int .i64 y.n, .int .i64 y.c])) rfl (by kernel_rfl) (by kernel_rfl) (by kernel_rfl) (fun _ _ _ h => h) (Or.inl ⟨by rfl, ?_⟩) (by assumption) ?_
                · intro W hSW; obtain ⟨i0, i1⟩ := HCY.out W hSW; go_simp
                simp only [Act.put, List.setIfInBounds_toArray, List.set_cons_zero, List.set_cons_succ]
                refine wpAnyH_take (i := 7) (oi := ⟨some 44, _, _, _, _, _⟩) (v := (.pointer (some ⟨B6, 0, none⟩))) rfl (by kernel_rfl) (by kernel_rfl) (by kernel_rfl) (fun _ _ _ h => h) (Or.inl ⟨by rfl, ?_⟩) (by assumption) ?_
                · intro W hSW; go_simp
                simp only [Act.put, List.setIfInBounds_toArray, List.set_cons_zero, List.set_cons_succ]
                refine wpAnyH_take (i := 8) (oi := ⟨some 45, _, _, _, _, _⟩) (v := (.agg #[.int .i64 x.n, .int .i64 x.c])) rfl (by kernel_rfl) (by kernel_rfl) (by kernel_rfl) (fun _ _ _ h => h) (Or.inl ⟨by rfl, ?_⟩) (by assumption) ?_
                · intro W hSW; obtain ⟨i0, i1⟩ := HCX.out W hSW; go_simp
                simp only [Act.put, List.setIfInBounds_toArray, List.set_cons_zero, List.set_cons_succ]
                refine wpAnyH_take (i := 9) (oi := ⟨some 46, _, _, _, _, _⟩) (v := (.bool (deq y x))) rfl (by kernel_rfl) (by kernel_rfl) (by kernel_rfl) (fun _ _ _ h => h) (Or.inl ⟨by rfl, ?_⟩) (by assumption) ?_
                · intro W hSW; have hq := HQ.out W; have hg := guard24; unfold deq; go_simp; by_cases e1 : y.n = x.n <;> by_cases e2 : y.c = x.c <;> simp [e1, e2]
                simp only [Act.put, List.setIfInBounds_toArray, List.set_cons_zero, List.set_cons_succ]
                refine wpAnyH_take (i := 10) (oi := ⟨some 47, _, _, _, _, _⟩) (v := (.bool (deq y x))) rfl (by kernel_rfl) (by kernel_rfl) (by kernel_rfl) (fun _ _ _ h => h) (Or.inl ⟨by rfl, ?_⟩) (by assumption) ?_
                · intro W hSW; go_simp
                simp only [Act.put, List.setIfInBounds_toArray, List.set_cons_zero, List.set_cons_succ]
                refine wpAnyH_take (i := 11) (oi := ⟨some 7, _, _, _, _, _⟩) (v := (.bool (deq y x))) rfl (by kernel_rfl) (by kernel_rfl) (by kernel_rfl) (fun _ _ _ h => h) (Or.inl ⟨by rfl, ?_⟩) (by assumption) ?_
                · intro W hSW; go_simp
                simp only [Act.put, List.setIfInBounds_toArray, List.set_cons_zero, List.set_cons_succ]
                refine wpAnyH_done (by kernel_rfl) ?_ _
                go_wp2_with fail
                go_roundw
                case rel => exact ⟨k + 1, by rw [HAN2.out], by go_num, by omega, HAP.out.trans hHeld⟩
                case measure => simp [intOf]; omega
            · obtain rfl : M = k := by omega
              rw [List.take_of_length_le (by rw [HLL.out]; exact Nat.le_refl _)]
              cases hm : L.any (fun q => deq q x)
              case true =>
                have HOE : Hid (OwnE w wr ⟨sp, M, c⟩ (eachE (catL F i ++ es.take (j + 1)))) := by rw [HSN.out, if_pos hm]; exact HOK.out
                go_wp2_with fail
                go_roundw
                case rel => exact ⟨j + 1, ⟨sp, M, c⟩, rfl, by go_num, by omega, HOE.out⟩
                case measure => simp [intOf]; omega
              case false =>
                have hC := put_ok wr sp M c L x (HOK.out.LE (by simp only; omega)) hol
                obtain ⟨x0, x1, x2, x3, x4, x5⟩ := box9 ((HAP.out.block _ (lt_of_heap HB1.out) (by simp)).trans HB1.out)
                unfold E.agg Sl.v at hC
                go_wp2_with fail
                refine hC.mono ?_
                clear hC x0 x1 x2 x3 x4 x5
                rintro _ w7 ⟨s', rfl, ho7⟩
                have HOE : Hid (OwnE w w7 s' (eachE (catL F i ++ es.take (j + 1)))) := by
                  rw [HSN.out, if_neg (by rw [hm]; simp)]
                  exact ⟨ho7.nw.from HOK.out.nw.ap, ho7.len⟩
                clear ho7
                dsimp only
                go_wp2_with fail
                go_roundw
                case rel => exact ⟨j + 1, s', rfl, by go_num, by omega, HOE.out⟩
                case measure => simp [intOf]; omega
        · obtain rfl : t.n = j := by omega
          have HOE : Hid (OwnE w wr s (eachE (catL F (i + 1)))) := by
            have h1 := HO.out
            rw [List.take_of_length_le (by rw [HEL.out]; exact Nat.le_refl _), Hes.out] at h1
            exact h1
          unfold Sl.v
          go_wp2_with fail
          go_roundw
          case rel => exact ⟨i + 1, s, rfl, by go_num, by omega, HOE.out⟩
          case measure => simp [intOf]; omega
    · obtain rfl : n = i := by omega
      unfold Sl.v
      go_wp2_with fail
      go_ret
      exact ⟨s, rfl, HO.out⟩
end Go.Proofs.YtokaeiahhmaokaaDoor.ds
namespace Go.Proofs.YtokaeiahhmaokaaDoor.ds
open Go.ChangeShapes Go.WideShapes Go.ChangeAt Go.RowKit Go.Sort
set_option linter.unusedVariables false
set_option linter.unusedSimpArgs false
theorem infoL : (Tryd.prog.info? 39).map (fun i => (i.zero, i.size, i.bytes)) = some (some (.slice none 0 0), 1, 24) := by kernel_rfl
end Go.Proofs.YtokaeiahhmaokaaDoor.ds
namespace Go.Proofs.YtokaeiahhmaokaaDoor.ds
set_option linter.unusedVariables false
set_option linter.unusedSimpArgs false
/-- whether one of the first writes, the i-th aside, covers the i-th -/
noncomputable def cj (rs : List Wr) (i : Nat) : Nat → Bool
  | 0 => false
  | j + 1 => cj rs i j || (decide (j ≠ i) && cvW (gR rs j) (gR rs i))
theorem OwnE.from {w0 w w' : World} {s : Sl} {es : List E} (h : OwnE w w' s es) (a : Apart [] w0 w) : OwnE w0 w' s es := ⟨h.nw.from a, h.len⟩
end Go.Proofs.YtokaeiahhmaokaaDoor.ds
