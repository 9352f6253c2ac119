import Derived.Test.YtokaeiahhmaokaaDoorW24
import Derived.Test.YtokaeiahhmaokaaDoorW1
import Derived.Deep.CutRange
import Derived.Test.YtokaeiahhmaokaaDoorW8
namespace Go.Proofs.YtokaeiahhmaokaaDoor.ds
open Go.ChangeShapes Go.WideShapes Go.ChangeAt Go.RowKit Go.Sort
set_option linter.unusedVariables false
set_option linter.unusedSimpArgs false
/-- a number brought into range -/
def wth (x : Int) (n : Nat) : Nat := ((if x < 0 then -(x + 1) else x) % (n : Int)).toNat
theorem wth_lt (x : Int) {n : Nat} (hn : 0 < n) : wth x n < n := by
  unfold wth
  have h1 := Int.emod_lt_of_pos (if x < 0 then -(x + 1) else x) (show (0 : Int) < n by omega)
  have h2 := Int.emod_nonneg (if x < 0 then -(x + 1) else x) (show (n : Int) ≠ 0 by omega)
  omega
set_option maxHeartbeats 2000000 in
set_option maxRecDepth 100000 in
theorem within_law (x : Int) (n : Nat) (hn : 0 < n) (hn2 : n ≤ 1000000) (hx : -9223372036854775808 ≤ x ∧ x ≤ 9223372036854775807) (w : World) : Calls Tryd.prog 19 #[.int .i64 x, .int .i64 (n : Nat)] w fun r w' => r = .returned (.int .i64 ((wth x n : Nat) : Int)) ∧ w' = w := by
  have HN : Hid (∀ y : Int, 0 ≤ y → y.tmod n = ((y % n).toNat : Int)) := fun y hy => by
    have h1 := Int.emod_nonneg y (show (n : Int) ≠ 0 by omega)
    rw [Int.tmod_eq_emod_of_nonneg hy]
    omega
  by_cases h : x < 0
  · have w1 : IntKind.i64.wrap (x + 1) = x + 1 := by rw [IntKind.wrap_i64]; omega
    have w2 : IntKind.i64.wrap (-(x + 1)) = -(x + 1) := by rw [IntKind.wrap_i64]; omega
    have hnz : ¬ ((n : Nat) : Int) = 0 := by omega
    have HE : Hid ((-(x + 1)).tmod n = ((wth x n : Nat) : Int)) := by unfold Hid wth; rw [HN.out _ (by omega), if_pos h]
    go_enter Tryd.func19, Tryd.ntmps19
    go_wp2_with fail
    go_ret
    exact ⟨by show Ending.returned (Value.int .i64 (-((x + 1).tmod n))) = _; rw [← Int.neg_tmod, HE.out], rfl⟩
  · have hnz : ¬ ((n : Nat) : Int) = 0 := by omega
    have HE : Hid (x % (n : Int) = ((wth x n : Nat) : Int)) := by
      unfold Hid wth
      rw [if_neg h]
      have h1 := Int.emod_nonneg x (show (n : Int) ≠ 0 by omega)
      omega
    go_enter Tryd.func19, Tryd.ntmps19
    go_wp2_with fail
    go_ret
    exact ⟨by show Ending.returned (Value.int .i64 (x % (n : Int))) = _; rw [HE.out], rfl⟩
theorem within4 (x : Int) (hx : -9223372036854775808 ≤ x ∧ x ≤ 9223372036854775807) (w : World) : Calls Tryd.prog 19 #[.int .i64 x, .int .i64 4] w fun r w' => r = .returned (.int .i64 ((wth x 4 : Nat) : Int)) ∧ w' = w := within_law x 4 (by omega) (by omega) hx w
theorem within2 (x : Int) (hx : -9223372036854775808 ≤ x ∧ x ≤ 9223372036854775807) (w : World) : Calls Tryd.prog 19 #[.int .i64 x, .int .i64 2] w fun r w' => r = .returned (.int .i64 ((wth x 2 : Nat) : Int)) ∧ w' = w := within_law x 2 (by omega) (by omega) hx w
set_option maxHeartbeats 2000000 in
set_option maxRecDepth 100000 in
theorem name_law (k : Nat) (hk : k < 2) (w : World) : Calls Tryd.prog 57 #[.int .i64 (k : Nat)] w fun r w' => r = .returned (.string (nmK k)) ∧ Apart [] w w' := by
  have h := (show k = 0 ∨ k = 1 by omega)
  rcases h with e | e <;> subst e <;>
  · go_enter Tryd.func57, Tryd.ntmps57
    go_wp2_with fail
    go_ret
    exact ⟨rfl, (Apart.refl _ _).alloc _⟩
theorem cvW_dot {t u : Wr} (ht : OkL 64 t.xs) (hu : IsDot u.n u.c) : cvW t u = (keq t.k u.k && dot (ofn t.xs u.n) u.c) := by
  unfold cvW
  congr 1
  apply Bool.eq_iff_iff.2
  rw [hasd_iff ht]
  exact ⟨fun h => h.2, fun h => ⟨hu, h⟩⟩
theorem hasd_dot {a : List S} (ha : OkL 64 a) {n c : Int} (hd : IsDot n c) : hasd a n c = dot (ofn a n) c := by
  apply Bool.eq_iff_iff.2
  rw [hasd_iff ha]
  exact ⟨fun h => h.2, fun h => ⟨hd, h⟩⟩
set_option maxHeartbeats 2000000 in
/-- the statement's own covers -/
theorem lawcovers (t u : E) (rt ru : Wr) (w : World) (ht : Reads w t rt) (hu : Reads w u ru) (hok : OkL 64 rt.xs) (hd : IsDot ru.n ru.c) (v : Bool) (hv : v = cvW rt ru) : Calls Tryd.prog 16 #[t.agg, u.agg] w fun r w' => r = .returned (.bool v) ∧ Apart [] w w' := by
  have aV : Apart [] w ((w.alloc (boxE t)).alloc (boxE u)) := ((Apart.refl [] w).alloc _).alloc _
  obtain ⟨q1, q2⟩ := box2 w t u _ (Apart.refl _ _)
  obtain ⟨t0, t1, t2, t3, t4, t5⟩ := row6 q1
  obtain ⟨u0, u1, u2, u3, u4, u5⟩ := row6 q2
  have hk : (t.k.toList == u.k.toList) = keq t.k u.k := rfl
  have HA := hid aV
  have hde : IsDot u.n u.c := by rw [hu.n, hu.c]; exact hd
  have HHS := hid (lawhas_ok (cap := t.x.c) (ht.x.kept0 aV) hok hde)
  have HV : Hid (v = (keq t.k u.k && dot (ofn rt.xs u.n) u.c)) := by unfold Hid; rw [hv, cvW_dot hok hd, ht.k, hu.k, hu.n, hu.c]
  clear q1 q2 aV ht hu hok hd hv hde
  unfold E.agg
  cases hkq : keq t.k u.k
  · have hf : v = false := by rw [HV.out, hkq]; rfl
    subst hf
    rw [hkq] at hk
    clear hkq
    go_enter Tryd.func16, Tryd.ntmps16
    go_wp2_with fail
    go_ret
    exact ⟨rfl, HA.out⟩
  · have hf : v = dot (ofn rt.xs u.n) u.c := by rw [HV.out, hkq]; rfl
    have hH := HHS.out
    rw [← hf] at hH
    rw [hkq] at hk
    unfold Sl.v at t5
    clear hkq hf HV HHS
    go_enter Tryd.func16, Tryd.ntmps16
    go_wp2_with fail
    refine hH.mono ?_
    clear hH
    rintro r w1 ⟨rfl, a1⟩
    go_wp2_with fail
    go_ret
    exact ⟨rfl, HA.out.trans a1⟩
open Classical in
/-- what a node's taking leaves -/
noncomputable def tookW (st : Wd) (v k : Nat) (r : Wr) : Wd := if hasd (st.ck v) r.n r.c = true then st else takeW st v k r
structure TkP (wB wr w' : World) (X : Nat) (z : Ending) (st : Wd) : Prop where
  ex : ∃ g, z = .returned (.bool true) ∧ WM wB w' X g st
/-- .. with what stays -/
structure TkQ (wB wr w' : World) (X : Nat) (z : Ending) (st : Wd) : Prop where
  ex : ∃ g, z = .returned (.bool true) ∧ WM wB w' X g st ∧ Apart [X] wr w' ∧ w'.cell? ⟨X, 12, none⟩ = wr.cell? ⟨X, 12, none⟩
theorem sib_len {st : Wd} (h : Inv st) {v k : Nat} (hv : v < 4) (hk : k < 2) : (st.sb v k).length ≤ st.made.length := by
  have hs := h.sib v hv k hk
  have hnd : (st.sb v k).Nodup := hs.up.imp (fun {a b} hab e => by rw [e, belowW_ir] at hab; cases hab)
  exact hnd.length_le_of_subset (fun x hx => (mem_mkK.1 ((hs.mem x).1 hx).1).1)
theorem mergeW_len (rs : List Wr) (u : Wr) : (mergeW rs u).length ≤ rs.length + 1 := by
  have h1 : (leftW rs u).length ≤ rs.length := List.length_filter_le _ _
  have h2 : ∀ l, (insW u l).length = l.length + 1 := by
    intro l
    induction l with
    | nil => rfl
    | cons x l ih => simp only [insW]; split <;> simp [ih]
  unfold mergeW
  split
  · omega
  · rw [h2]; omega
theorem merge_fine {st : Wd} (h : Inv st) {v k : Nat} (hv : v < 4) (hk : k < 2) {r : Wr} (hr : r ∈ st.made) (hrk : r.k = nmK k) (hn : hasd (st.ck v) r.n r.c = false) (hm : st.made.length ≤ 60) : merrW (st.sb v k) r 1000 = 0 ∧ mlistW (st.sb v k) r 1000 = mergeW (st.sb v k) r := by
  have hs := h.sib v hv k hk
  have h1 : ((st.sb v k).any fun t => !keq t.k r.k) = false := by
    rw [List.any_eq_false]
    intro t ht
    have := (mem_mkK.1 ((hs.mem t).1 ht).1).2
    rw [(keq_iff _ _).2 (by rw [this, hrk])]
    simp
  have h2 : ((st.sb v k).any fun t => deqW t r) = false := by
    rw [List.any_eq_false]
    intro t ht hd
    obtain ⟨e1, e2⟩ := deqW_iff.1 hd
    have := ((hs.mem t).1 ht).2.1
    rw [e1, e2, hn] at this
    cases this
  have h3 : ¬ ((1000 : Int) < ((mergeW (st.sb v k) r).length : Nat)) := by
    have h4 := mergeW_len (st.sb v k) r
    have h5 := sib_len h hv hk
    omega
  unfold merrW mlistW
  rw [h1, h2, if_neg h3, if_neg h3]
  simp
set_option maxHeartbeats 8000000 in
set_option maxRecDepth 100000 in
theorem take_lawQ {wB wr : World} {X : Nat} {g : Gh} {st : Wd} (h : WM wB wr X g st) (hI : Inv st) (TB : Tab wr) (hm : st.made.length ≤ 60) {v k : Nat} (hv : v < 4) (hk : k < 2) (e : E) (r : Wr) (he : Reads wr e r) (hr : r ∈ st.made) (hrk : r.k = nmK k) :
    Calls Tryd.prog 81 #[.pointer (some ⟨X, 0, none⟩), .int .i64 (v : Nat), e.agg] wr fun z w' => TkQ wB wr w' X z (tookW st v k r) := by
  obtain ⟨wb, hwb⟩ : ∃ wb, wb = wr.alloc (boxE e) := ⟨_, rfl⟩
  have ab : Apart [] wr wb := by rw [hwb]; exact (Apart.refl [] wr).alloc _
  have hq : wb.heap[wr.heap.size]? = some (boxE e) := by rw [hwb]; exact heap_alloc_new wr _
  obtain ⟨BX, HBXe⟩ : ∃ BX, Hid (BX = wr.heap.size) := ⟨_, rfl⟩
  have HB0 : Hid (∀ W, Apart [] wb W → W.cell? ⟨BX, 0, none⟩ = some (.int .i64 e.n) ∧ W.cell? ⟨BX, 1, none⟩ = some (.int .i64 e.c) ∧ W.cell? ⟨BX, 2, none⟩ = some (.string e.k) ∧ W.cell? ⟨BX, 3, none⟩ = some (.bool e.d) ∧ W.cell? ⟨BX, 4, none⟩ = some (.slice e.v.p e.v.n e.v.c) ∧ W.cell? ⟨BX, 5, none⟩ = some (.slice e.x.p e.x.n e.x.c)) := fun W a => by
    rw [HBXe.out]
    exact row6 ((a.block _ (lt_of_heap hq) (by simp)).trans hq)
  have HW := hid (h.kept ab)
  have HAB := hid ab
  have HC12 : Hid (wr.cell? ⟨X, 12, none⟩ = some g.m.v) := (h.cell 12 (by omega)).trans (by rw [wc_made])
  have HI := hid hI
  have HT := hid (TB.kept0 ab)
  have HE := hid (he.kept0 ab)
  have hd := (hI.vw r hr).1.dt
  have hde : IsDot e.n e.c := by rw [he.n, he.c]; exact hd
  have HD := hid hde
  obtain ⟨t0, t1, t2, t3, t4, t5⟩ := HB0.out wb (Apart.refl _ _)
  rw [he.k, hrk] at t2
  have hkl : ((nmK k).toList == [108]) = decide (k = 1) := by
    have := (show k = 0 ∨ k = 1 by omega)
    rcases this with e | e <;> subst e <;> simp [nmK, ByteArray.toList_eq]
  obtain ⟨sc, Hsc⟩ : ∃ sc, Hid (sc = g.c v) := ⟨_, rfl⟩
  obtain ⟨ss, Hss⟩ : ∃ ss, Hid (ss = g.s v k) := ⟨_, rfl⟩
  have HCK0 : Hid (∀ W, Apart [] wb W → W.cell? ⟨X, v, none⟩ = some (.slice sc.p sc.n sc.c)) := fun W a => by
    rw [(HW.out.kept a).cell v (by omega), wc_clock _ _ v hv, Hsc.out]; rfl
  have HSB0 : Hid (∀ W, Apart [] wb W → W.cell? ⟨X, 4 + v * 2 + k, none⟩ = some (.slice ss.p ss.n ss.c)) := fun W a => by
    rw [(HW.out.kept a).cell _ (by omega), wc_sib _ _ v k hv hk, Hss.out]; rfl
  have hHs := fun W (a : Apart [] wb W) => lawhas_ok (cap := sc.c) (((HW.out.kept a).ck v hv).L) (hI.ckok v hv) hde
  rw [← Hsc.out] at hHs
  have HHS := hid hHs
  have hev : e.n = r.n ∧ e.c = r.c := ⟨he.n, he.c⟩
  have HEV := hid hev
  unfold boxE Sl.v at hwb
  unfold E.agg Sl.v
  clear h hI TB he ab hq hd hde hHs hev
  go_enter Tryd.func81, Tryd.ntmps81
  go_upto_region 1 with fail
  rw [← hwb, ← HBXe.out]
  clear hwb
  have hkc : k = 0 ∨ k = 1 := by omega
  have HST : Hid (hasd (st.ck v) r.n r.c = dot (ofn (st.ck v) e.n) e.c) := by
    unfold Hid
    rw [hasd_dot (HI.out.ckok v hv) (by rw [← HEV.out.1, ← HEV.out.2]; exact HD.out), HEV.out.1, HEV.out.2]
  have HKI : Hid (k < 2) := hk
  go_upto_if 14 with fail
  clear t0 t1 t2 t3 t4 t5
  go_cut [7] from 12 (fun s7 wx => s7 = .int .i64 (k : Nat) ∧ wx = wb)
  case first =>
    rcases hkc with e1 | e1
    · subst e1
      go_wp2_with fail
      go_meet
      exact ⟨rfl, rfl⟩
    · subst e1
      go_wp2_with fail
      go_meet
      exact ⟨rfl, rfl⟩
  case rest =>
    obtain ⟨rfl, rfl⟩ := hcut
    clear hkl hkc
    have HBX : Hid (∀ W, Apart [] wc W → W.cell? ⟨BX, 0, none⟩ = some (.int .i64 e.n) ∧ W.cell? ⟨BX, 1, none⟩ = some (.int .i64 e.c) ∧ W.cell? ⟨BX, 2, none⟩ = some (.string e.k) ∧ W.cell? ⟨BX, 3, none⟩ = some (.bool e.d) ∧ W.cell? ⟨BX, 4, none⟩ = some (.slice e.v.p e.v.n e.v.c) ∧ W.cell? ⟨BX, 5, none⟩ = some (.slice e.x.p e.x.n e.x.c)) := HB0.out
    have HCK := hid HCK0.out
    have HSB := hid HSB0.out
    go_upto_region 4 with fail
    refine wp_region_held_drew (S := fun X => Apart [] wc X) (by kernel_rfl) (Apart.refl [] wc).drew (fun hHeld => ?_)
    have HAD : Hid (Apart [] wc wc.drew) := (Apart.refl [] wc).drew
    generalize wc.drew = wd at *
    refine tk 0 15 (.pointer (some ⟨X, 0, none⟩)) rfl ?_ ?_
    · intro W hSW; go_simp
    simp only [Act.put, List.setIfInBounds_toArray, List.set_cons_zero, List.set_cons_succ]
    refine tk 1 16 (.int .i64 (v : Nat)) rfl ?_ ?_
    · intro W hSW; go_simp
    simp only [Act.put, List.setIfInBounds_toArray, List.set_cons_zero, List.set_cons_succ]
    refine tk 2 17 (.pointer (some ⟨X, 0, none⟩)) rfl ?_ ?_
    · intro W hSW; go_simp
    simp only [Act.put, List.setIfInBounds_toArray, List.set_cons_zero, List.set_cons_succ]
    refine tk 3 18 (.pointer (some ⟨X, 0, none⟩)) rfl ?_ ?_
    · intro W hSW; go_simp
    simp only [Act.put, List.setIfInBounds_toArray, List.set_cons_zero, List.set_cons_succ]
    refine tk 4 19 (.pointer (some ⟨X, v, none⟩)) rfl ?_ ?_
    · intro W hSW; go_simp <;> (first | omega | (intro hq; exfalso; omega))
    simp only [Act.put, List.setIfInBounds_toArray, List.set_cons_zero, List.set_cons_succ]
    refine tk 5 20 (.slice sc.p sc.n sc.c) rfl ?_ ?_
    · intro W hSW; have z := HCK.out W hSW; go_simp
    simp only [Act.put, List.setIfInBounds_toArray, List.set_cons_zero, List.set_cons_succ]
    refine tk 6 21 (.pointer (some ⟨BX, 0, none⟩)) rfl ?_ ?_
    · intro W hSW; go_simp
    simp only [Act.put, List.setIfInBounds_toArray, List.set_cons_zero, List.set_cons_succ]
    refine tk 7 22 (.agg #[.int .i64 e.n, .int .i64 e.c]) rfl ?_ ?_
    · intro W hSW; obtain ⟨x0, x1, x2, x3, x4, x5⟩ := HBX.out W hSW; go_simp
    simp only [Act.put, List.setIfInBounds_toArray, List.set_cons_zero, List.set_cons_succ]
    refine wpAnyH_ready (rs := [8]) (by kernel_rfl) (by simp) ?_
    refine AllReadyH.cons rfl (fun KK hKK => ?_) AllReadyH.nil
    go_simp
    refine (HHS.out _ HAD.out).mono ?_
    rintro _ w4 ⟨rfl, a4⟩
    have HA4 : Hid (Apart [] wc w4) := HAD.out.trans a4
    clear a4
    try dsimp only
    refine hKK.out _ _ HA4.out (fun hHeld => ?_)
    clear hKK KK
    refine wpAnyH_done (by kernel_rfl) ?_ _
    try dsimp only
    clear hHeld
    have HW4 := hid (HW.out.kept HA4.out)
    have HIX := hid HI.out
    cases hb : dot (ofn (st.ck v) e.n) e.c
    case true =>
      have HF : Hid (TkQ wB wr w4 X (.returned (.bool true)) (tookW st v k r)) := by
        unfold tookW
        rw [if_pos (by rw [HST.out, hb])]
        exact ⟨g, rfl, HW4.out, (HAB.out.trans HA4.out).mono (by simp), ((HW4.out.cell 12 (by omega)).trans (by rw [wc_made])).trans HC12.out.symm⟩
      clear hb
      go_wp2_with fail
      go_ret
      exact HF.out
    case false =>
      have HNO : Hid (hasd (st.ck v) r.n r.c = false) := by unfold Hid; rw [HST.out, hb]
      have HTW : Hid (tookW st v k r = takeW st v k r) := by
        unfold Hid tookW
        rw [if_neg (by rw [HNO.out]; simp)]
      clear hb
      obtain ⟨hm1, hm2⟩ := merge_fine HI.out hv hk hr hrk HNO.out hm
      have HM1 := hid hm1
      have HM2 := hid hm2
      have HSL := hid (sib_len HI.out hv hk)
      have HCK4 : Hid (∀ W, Apart [] w4 W → W.cell? ⟨X, v, none⟩ = some (.slice sc.p sc.n sc.c)) := fun W a => HCK0.out W (HA4.out.trans a)
      have HMG : Hid (∀ W, Apart [] w4 W → Calls Tryd.prog 18 #[.slice ss.p ss.n ss.c, .agg #[.int .i64 e.n, .int .i64 e.c, .string e.k, .bool e.d, .slice e.v.p e.v.n e.v.c, .slice e.x.p e.x.n e.x.c], .int .i64 1000] W fun z w' => ∃ (s : Sl) (fs : List E), z = .returned (.tuple #[s.v, .int .i64 0]) ∧ FL W w' s fs (mergeW (st.sb v k) r)) := fun W a => by
        have hf := (HW4.out.kept a).sb v hv k hk
        rw [← Hss.out] at hf
        have hl := hf.len
        have h1 := HSL.out
        have := merge_new W ss.p ss.n ss.c (g.se v k) (st.sb v k) e r 1000 (hf.le (by omega)) (by omega) hf.own.nw.ok hl hf.reads ((HE.out.kept0 HA4.out).kept0 a)
        rw [HM1.out, HM2.out] at this
        exact this
      have HAD9 : Hid (∀ W, Apart [] w4 W → Calls Tryd.prog 103 #[.slice sc.p sc.n sc.c, .agg #[.int .i64 e.n, .int .i64 e.c], .int .i64 64] W fun z w' => AS W w' z 64 (st.ck v) e.n e.c) := fun W a => by
        have ht := (HW4.out.kept a).ck v hv
        rw [← Hsc.out] at ht
        exact add_c 64 e.n e.c ((HT.out.kept0 HA4.out).kept0 a) ht.L
      have HSB4 : Hid (∀ W, Apart [] w4 W → W.cell? ⟨X, 4 + v * 2 + k, none⟩ = some (.slice ss.p ss.n ss.c)) := fun W a => HSB0.out W (HA4.out.trans a)
      have HBX4 : Hid (∀ W, Apart [] w4 W → W.cell? ⟨BX, 0, none⟩ = some (.int .i64 e.n) ∧ W.cell? ⟨BX, 1, none⟩ = some (.int .i64 e.c) ∧ W.cell? ⟨BX, 2, none⟩ = some (.string e.k) ∧ W.cell? ⟨BX, 3, none⟩ = some (.bool e.d) ∧ W.cell? ⟨BX, 4, none⟩ = some (.slice e.v.p e.v.n e.v.c) ∧ W.cell? ⟨BX, 5, none⟩ = some (.slice e.x.p e.x.n e.x.c)) := fun W a => HB0.out W (HA4.out.trans a)
      have HADC : Hid (AdC 64 (st.ck v) e.n e.c) := by unfold Hid; rw [HEV.out.1, HEV.out.2]; exact HI.out.adc hv hr hm
      clear HCK HSB HBX HAD
      clear HM1 HM2 hm1 hm2
      have HCK := HCK4
      have HSB := HSB4
      have HBX := HBX4
      go_upto_region 6 with fail
      refine wp_region_held_drew (S := fun X => Apart [] w4 X) (by kernel_rfl) (Apart.refl [] w4).drew (fun hHeld => ?_)
      have HAD : Hid (Apart [] w4 w4.drew) := (Apart.refl [] w4).drew
      generalize w4.drew = wd4 at *
      refine tk 0 25 (.pointer (some ⟨X, 0, none⟩)) rfl ?_ ?_
      · intro W hSW; go_simp
      simp only [Act.put, List.setIfInBounds_toArray, List.set_cons_zero, List.set_cons_succ]
      refine tk 1 26 (.int .i64 (v : Nat)) rfl ?_ ?_
      · intro W hSW; go_simp
      simp only [Act.put, List.setIfInBounds_toArray, List.set_cons_zero, List.set_cons_succ]
      refine tk 2 27 (.int .i64 (k : Nat)) rfl ?_ ?_
      · intro W hSW; go_simp
      simp only [Act.put, List.setIfInBounds_toArray, List.set_cons_zero, List.set_cons_succ]
      refine tk 3 28 (.pointer (some ⟨X, 0, none⟩)) rfl ?_ ?_
      · intro W hSW; go_simp
      simp only [Act.put, List.setIfInBounds_toArray, List.set_cons_zero, List.set_cons_succ]
      refine tk 4 29 (.pointer (some ⟨X, 4, none⟩)) rfl ?_ ?_
      · intro W hSW; go_simp
      simp only [Act.put, List.setIfInBounds_toArray, List.set_cons_zero, List.set_cons_succ]
      refine tk 5 30 (.pointer (some ⟨X, 4 + v * 2, none⟩)) rfl ?_ ?_
      · intro W hSW; go_simp <;> (first | omega | (intro hq; exfalso; omega))
      simp only [Act.put, List.setIfInBounds_toArray, List.set_cons_zero, List.set_cons_succ]
      refine tk 6 31 (.pointer (some ⟨X, 4 + v * 2 + k, none⟩)) rfl ?_ ?_
      · intro W hSW; go_simp <;> (first | omega | (intro hq; exfalso; omega))
      simp only [Act.put, List.setIfInBounds_toArray, List.set_cons_zero, List.set_cons_succ]
      refine tk 7 32 (.slice ss.p ss.n ss.c) rfl ?_ ?_
      · intro W hSW; have z := HSB.out W hSW; go_simp
      simp only [Act.put, List.setIfInBounds_toArray, List.set_cons_zero, List.set_cons_succ]
      refine tk 8 33 (.agg #[.int .i64 e.n, .int .i64 e.c, .string e.k, .bool e.d, .slice e.v.p e.v.n e.v.c, .slice e.x.p e.x.n e.x.c]) rfl ?_ ?_
      · intro W hSW; obtain ⟨x0, x1, x2, x3, x4, x5⟩ := HBX.out W hSW; go_simp
      simp only [Act.put, List.setIfInBounds_toArray, List.set_cons_zero, List.set_cons_succ]
      refine wpAnyH_ready (rs := [9]) (by kernel_rfl) (by simp) ?_
      refine AllReadyH.cons rfl (fun KK hKK => ?_) AllReadyH.nil
      go_simp
      refine (HMG.out _ HAD.out).mono ?_
      rintro _ w6 ⟨s6, fs6, rfl, hf6⟩
      have HF6 := hid hf6
      have HA6 : Hid (Apart [] w4 w6) := HAD.out.trans hf6.own.nw.ap
      have HSZ : Hid (Apart [] w4 wd4) := HAD.out
      clear hf6
      unfold Sl.v
      try dsimp only
      refine hKK.out _ _ HA6.out (fun hHeld => ?_)
      clear hKK KK
      refine tk 10 24 (.tuple #[.slice s6.p s6.n s6.c, .int .i64 0]) rfl ?_ ?_
      · intro W hSW; go_simp
      simp only [Act.put, List.setIfInBounds_toArray, List.set_cons_zero, List.set_cons_succ]
      refine tk 11 35 (.slice s6.p s6.n s6.c) rfl ?_ ?_
      · intro W hSW; go_simp
      simp only [Act.put, List.setIfInBounds_toArray, List.set_cons_zero, List.set_cons_succ]
      refine tk 12 36 (.int .i64 0) rfl ?_ ?_
      · intro W hSW; go_simp
      simp only [Act.put, List.setIfInBounds_toArray, List.set_cons_zero, List.set_cons_succ]
      refine tk 13 8 (.slice s6.p s6.n s6.c) rfl ?_ ?_
      · intro W hSW; go_simp
      simp only [Act.put, List.setIfInBounds_toArray, List.set_cons_zero, List.set_cons_succ]
      refine tk 14 9 (.int .i64 0) rfl ?_ ?_
      · intro W hSW; go_simp
      simp only [Act.put, List.setIfInBounds_toArray, List.set_cons_zero, List.set_cons_succ]
      refine wpAnyH_done (by kernel_rfl) ?_ _
      try dsimp only
      clear hHeld
      clear HCK HSB HBX HAD
      have HCK : Hid (∀ W, Apart [] w6 W → W.cell? ⟨X, v, none⟩ = some (.slice sc.p sc.n sc.c)) := fun W a => HCK4.out W (HA6.out.trans a)
      have HBX : Hid (∀ W, Apart [] w6 W → W.cell? ⟨BX, 0, none⟩ = some (.int .i64 e.n) ∧ W.cell? ⟨BX, 1, none⟩ = some (.int .i64 e.c) ∧ W.cell? ⟨BX, 2, none⟩ = some (.string e.k) ∧ W.cell? ⟨BX, 3, none⟩ = some (.bool e.d) ∧ W.cell? ⟨BX, 4, none⟩ = some (.slice e.v.p e.v.n e.v.c) ∧ W.cell? ⟨BX, 5, none⟩ = some (.slice e.x.p e.x.n e.x.c)) := fun W a => HBX4.out W (HA6.out.trans a)
      go_upto_region 9 with fail
      refine wp_region_held_drew (S := fun X => Apart [] w6 X) (by kernel_rfl) (Apart.refl [] w6).drew (fun hHeld => ?_)
      have HAD : Hid (Apart [] w6 w6.drew) := (Apart.refl [] w6).drew
      generalize w6.drew = wd6 at *
      refine tk 0 40 (.pointer (some ⟨X, 0, none⟩)) rfl ?_ ?_
      · intro W hSW; go_simp
      simp only [Act.put, List.setIfInBounds_toArray, List.set_cons_zero, List.set_cons_succ]
      refine tk 1 41 (.int .i64 (v : Nat)) rfl ?_ ?_
      · intro W hSW; go_simp
      simp only [Act.put, List.setIfInBounds_toArray, List.set_cons_zero, List.set_cons_succ]
      refine tk 2 42 (.pointer (some ⟨X, 0, none⟩)) rfl ?_ ?_
      · intro W hSW; go_simp
      simp only [Act.put, List.setIfInBounds_toArray, List.set_cons_zero, List.set_cons_succ]
      refine tk 3 43 (.pointer (some ⟨X, 0, none⟩)) rfl ?_ ?_
      · intro W hSW; go_simp
      simp only [Act.put, List.setIfInBounds_toArray, List.set_cons_zero, List.set_cons_succ]
      refine tk 4 44 (.pointer (some ⟨X, v, none⟩)) rfl ?_ ?_
      · intro W hSW; go_simp <;> (first | omega | (intro hq; exfalso; omega))
      simp only [Act.put, List.setIfInBounds_toArray, List.set_cons_zero, List.set_cons_succ]
      refine tk 5 45 (.slice sc.p sc.n sc.c) rfl ?_ ?_
      · intro W hSW; have z := HCK.out W hSW; go_simp
      simp only [Act.put, List.setIfInBounds_toArray, List.set_cons_zero, List.set_cons_succ]
      refine tk 6 46 (.pointer (some ⟨BX, 0, none⟩)) rfl ?_ ?_
      · intro W hSW; go_simp
      simp only [Act.put, List.setIfInBounds_toArray, List.set_cons_zero, List.set_cons_succ]
      refine tk 7 47 (.agg #[.int .i64 e.n, .int .i64 e.c]) rfl ?_ ?_
      · intro W hSW; obtain ⟨x0, x1, x2, x3, x4, x5⟩ := HBX.out W hSW; go_simp
      simp only [Act.put, List.setIfInBounds_toArray, List.set_cons_zero, List.set_cons_succ]
      refine wpAnyH_ready (rs := [8]) (by kernel_rfl) (by simp) ?_
      refine AllReadyH.cons rfl (fun KK hKK => ?_) AllReadyH.nil
      go_simp
      refine (HAD9.out _ (HA6.out.trans HAD.out)).mono ?_
      rintro _ w8 hh
      obtain ⟨q8, n8, c8, e8, rfl, a8, hcase⟩ := hh.ex
      clear hh
      obtain ⟨he8, hts8⟩ : e8 = 0 ∧ TS wd6 w8 q8 n8 c8 (addl (st.ck v) e.n e.c) := by
        rcases hcase with h | h
        · exact ⟨h.1, ⟨h.2.2.1, h.2.2.2, addl_fit h.2.1⟩⟩
        · exact absurd HADC.out h.2
      subst he8
      have HTS8 := hid hts8
      have HA8 : Hid (Apart [] w6 w8) := HAD.out.trans a8
      clear hcase a8 hts8
      try dsimp only
      refine hKK.out _ _ HA8.out (fun hHeld => ?_)
      clear hKK KK
      refine tk 9 39 (.tuple #[.slice q8 n8 c8, .int .i64 0]) rfl ?_ ?_
      · intro W hSW; go_simp
      simp only [Act.put, List.setIfInBounds_toArray, List.set_cons_zero, List.set_cons_succ]
      refine tk 10 49 (.slice q8 n8 c8) rfl ?_ ?_
      · intro W hSW; go_simp
      simp only [Act.put, List.setIfInBounds_toArray, List.set_cons_zero, List.set_cons_succ]
      refine tk 11 50 (.int .i64 0) rfl ?_ ?_
      · intro W hSW; go_simp
      simp only [Act.put, List.setIfInBounds_toArray, List.set_cons_zero, List.set_cons_succ]
      refine tk 12 10 (.slice q8 n8 c8) rfl ?_ ?_
      · intro W hSW; go_simp
      simp only [Act.put, List.setIfInBounds_toArray, List.set_cons_zero, List.set_cons_succ]
      refine tk 13 11 (.int .i64 0) rfl ?_ ?_
      · intro W hSW; go_simp
      simp only [Act.put, List.setIfInBounds_toArray, List.set_cons_zero, List.set_cons_succ]
      refine wpAnyH_done (by kernel_rfl) ?_ _
      try dsimp only
      clear hHeld
      have HW8 := hid (HW4.out.kept (HA6.out.trans HA8.out))
      have hne6 : ∀ b, g.m.v.ownBlock = some b → s6.v.ownBlock ≠ some b := fun b hb hs => by
        have h1 := HF6.out.own.nw.new b hs
        have h2 := (HW4.out.md.own.nw.own.lt b hb).2
        have h3 := HSZ.out.size
        omega
      have hS1 := HW8.out.setSib hv hk ((HF6.out.kept HA8.out).from (HW4.out.ap.trans HSZ.out)) hne6
      have hT8 : TS wB w8 q8 n8 c8 (addl (st.ck v) e.n e.c) := HTS8.out.from (HW4.out.ap.trans (HA6.out.trans HAD.out))
      have hK := HW8.out.set (4 + v * 2 + k) s6.v
      have hS2 := hS1.setClock hv (s := ⟨q8, n8, c8⟩) (hK.os hT8)
      have HF : Hid (TkQ wB wr ((w8.setCell ⟨X, 4 + v * 2 + k, none⟩ (.slice s6.p s6.n s6.c)).setCell ⟨X, v, none⟩ (.slice q8 n8 c8)) X (.returned (.bool true)) (tookW st v k r)) := by
        unfold Hid
        rw [HTW.out]
        unfold takeW
        rw [← HEV.out.1, ← HEV.out.2]
        exact ⟨_, rfl, hS2, ((((HAB.out.trans (HA4.out.trans (HA6.out.trans HA8.out))).mono (by simp)).setCell (.inl (by simp)) _).setCell (.inl (by simp)) _), ((hS2.cell 12 (by omega)).trans (by rw [wc_made])).trans HC12.out.symm⟩
      have z1 := HW8.out.cell (4 + v * 2 + k) (by omega)
      have z2 := HW8.out.frozen (4 + v * 2 + k)
      have y1 := hS1.cell v (by omega)
      have y2 := hS1.frozen v
      rw [wc_sib _ _ v k hv hk] at z1
      rw [wc_clock _ _ v hv] at y1
      unfold Sl.v at z1 y1 y2
      dsimp only at y1
      generalize g.s v k = sx at z1
      generalize g.c v = cx at y1
      clear hne6 hS1 hT8 hK hS2
      go_wp2_with fail
      go_ret
      exact HF.out
theorem take_law {wB wr : World} {X : Nat} {g : Gh} {st : Wd} (h : WM wB wr X g st) (hI : Inv st) (TB : Tab wr) (hm : st.made.length ≤ 60) {v k : Nat} (hv : v < 4) (hk : k < 2) (e : E) (r : Wr) (he : Reads wr e r) (hr : r ∈ st.made) (hrk : r.k = nmK k) :
    Calls Tryd.prog 81 #[.pointer (some ⟨X, 0, none⟩), .int .i64 (v : Nat), e.agg] wr fun z w' => TkP wB wr w' X z (tookW st v k r) :=
  (take_lawQ h hI TB hm hv hk e r he hr hrk).mono (fun z w' hh => by obtain ⟨g', h1, h2, _, _⟩ := hh.ex; exact ⟨g', h1, h2⟩)
end Go.Proofs.YtokaeiahhmaokaaDoor.ds
namespace Go.Proofs.YtokaeiahhmaokaaDoor.ds
open Go.ChangeShapes Go.WideShapes Go.ChangeAt Go.RowKit Go.Sort
set_option linter.unusedVariables false
set_option linter.unusedSimpArgs false
theorem flatD_at (ds : List (Int × Int)) (i : Nat) (d : Int × Int) (h : ds[i]? = some d) : (flatD ds)[i * 2]? = some (.int .i64 d.1) ∧ (flatD ds)[i * 2 + 1]? = some (.int .i64 d.2) := by
  induction ds generalizing i with
  | nil => simp at h
  | cons e l ih =>
    have e0 : flatD (e :: l) = Value.int .i64 e.1 :: Value.int .i64 e.2 :: flatD l := rfl
    rw [e0]
    cases i with
    | zero => simp at h; subst h; exact ⟨rfl, rfl⟩
    | succ i =>
      simp only [List.getElem?_cons_succ] at h
      obtain ⟨h1, h2⟩ := ih i h
      rw [show (i + 1) * 2 = i * 2 + 1 + 1 by omega, show i * 2 + 1 + 1 + 1 = (i * 2 + 1) + 1 + 1 by omega]
      simp only [List.getElem?_cons_succ]
      exact ⟨h1, h2⟩
theorem ND.at {wB w : World} {s : Sl} {ds : List (Int × Int)} (h : ND wB w s ds) (h0 : 0 < s.n) : ∃ P o, s.p = some ⟨P, o, none⟩ ∧ P < w.heap.size ∧ ∀ i d, ds[i]? = some d → w.cell? ⟨P, o + i * 2, none⟩ = some (.int .i64 d.1) ∧ w.cell? ⟨P, o + i * 2 + 1, none⟩ = some (.int .i64 d.2) := by
  have hr : Rd w s.p (flatD ds) := Rd.own h.nw.own
  obtain ⟨P, o, hp, hP, hc⟩ := hr (by rw [flatD_length, h.len]; omega)
  refine ⟨P, o, hp, hP, fun i d hd => ?_⟩
  obtain ⟨h1, h2⟩ := flatD_at ds i d hd
  exact ⟨hc _ _ h1, by rw [Nat.add_assoc]; exact hc _ _ h2⟩
set_option maxHeartbeats 8000000 in
set_option maxRecDepth 100000 in
theorem among_law {wB w : World} {s : Sl} {ds : List (Int × Int)} (h : ND wB w s ds) (hn : s.n ≤ 2000000) (a b : Int) (v : Bool) (hv : v = decide ((a, b) ∈ ds)) :
    Calls Tryd.prog 15 #[.slice s.p s.n s.c, .agg #[.int .i64 a, .int .i64 b]] w fun r w' => r = .returned (.bool v) ∧ Apart [] w w' := by
  obtain ⟨sp, N, sc⟩ := s
  simp only at hn
  have HN := hid h
  have HV := hid hv
  have hl : ds.length = N := h.len
  have HL := hid hl
  obtain ⟨w1, hw1⟩ : ∃ w1, w1 = w.alloc (.cells #[.int .i64 a, .int .i64 b] 24 (0, 0)) := ⟨_, rfl⟩
  have HA1 : Hid (Apart [] w w1) := by unfold Hid; rw [hw1]; exact (Apart.refl [] w).alloc _
  have HB1 : Hid (w1.heap[w.heap.size]? = some (.cells #[.int .i64 a, .int .i64 b] 24 (0, 0))) := by unfold Hid; rw [hw1]; exact heap_alloc_new w _
  obtain ⟨BX, HBX⟩ : ∃ BX, Hid (BX = w.heap.size) := ⟨_, rfl⟩
  have HBC : Hid (∀ W, Apart [] w1 W → W.cell? ⟨BX, 0, none⟩ = some (.int .i64 a) ∧ W.cell? ⟨BX, 1, none⟩ = some (.int .i64 b)) := fun W ap => by
    rw [HBX.out]
    have hb := (ap.block _ (lt_of_heap HB1.out) (by simp)).trans HB1.out
    exact ⟨by rw [cell_of_row _ _ _ _ _ _ hb]; rfl, by rw [cell_of_row _ _ _ _ _ _ hb]; rfl⟩
  clear h hv hl
  go_enter Tryd.func15, Tryd.ntmps15
  go_wp2_with fail
  rw [← hw1, ← HBX.out]
  clear hw1
  go_loopw [5] (fun u wr => ∃ i : Nat, u = .int .i64 (i : Nat) ∧ i ≤ N ∧ (∀ t, t < i → ds[t]? ≠ some (a, b)) ∧ Apart [] w1 wr) (fun u _ => N - (intOf u).toNat)
  case atStart => exact ⟨0, rfl, Nat.zero_le _, fun t ht => absurd ht (by omega), Apart.refl _ _⟩
  case round =>
    obtain ⟨i, rfl, hi, hne, ap⟩ := hrel
    have HNE := hid hne
    have HA := hid ap
    clear hne ap
    by_cases hlt : i < N
    · have hin : ((i : Nat) : Int) < (N : Int) := by omega
      obtain ⟨P, o, hp, hP, hc⟩ := (HN.out.kept (HA1.out.trans HA.out)).at (by show 0 < N; omega)
      simp only at hp
      subst hp
      obtain ⟨d, hd⟩ : ∃ d, ds[i]? = some d := ⟨_, List.getElem?_eq_getElem (by rw [HL.out]; exact hlt)⟩
      obtain ⟨k0, k1⟩ := hc i d hd
      obtain ⟨b0, b1⟩ := HBC.out wr HA.out
      have hq := fun W => eql24 W d.1 d.2 a b
      have hg := guard24
      have HD := hid hd
      clear hc hd
      have HKC : Hid (∀ W, Apart [] wr W → W.cell? ⟨P, o + i * 2, none⟩ = some (.int .i64 d.1) ∧ W.cell? ⟨P, o + i * 2 + 1, none⟩ = some (.int .i64 d.2)) := fun W a => ⟨(a.cell hP (by simp)).trans k0, (a.cell hP (by simp)).trans k1⟩
      have HBD : Hid (∀ W, Apart [] wr W → W.cell? ⟨BX, 0, none⟩ = some (.int .i64 a) ∧ W.cell? ⟨BX, 1, none⟩ = some (.int .i64 b)) := fun W ap => HBC.out W (HA.out.trans ap)
      have HG := hid hg
      have HQ := hid hq
      clear k0 k1 b0 b1 hq hg
      go_upto_region 4 with fail
      refine wp_region_held_drew (S := fun X => Apart [] wr X) (by kernel_rfl) (Apart.refl [] wr).drew (fun hHeld => ?_)
      have HAD : Hid (Apart [] wr wr.drew) := (Apart.refl [] wr).drew
      generalize wr.drew = we at *
      refine tk 0 12 (.slice (some ⟨P, o, none⟩) N sc) rfl ?_ ?_
      · intro W hSW; go_simp
      simp only [Act.put, List.setIfInBounds_toArray, List.set_cons_zero, List.set_cons_succ]
      refine tk 1 13 (.int .i64 (i : Nat)) rfl ?_ ?_
      · intro W hSW; go_simp
      simp only [Act.put, List.setIfInBounds_toArray, List.set_cons_zero, List.set_cons_succ]
      refine tk 2 14 (.pointer (some ⟨P, o + i * 2, none⟩)) rfl ?_ ?_
      · intro W hSW; go_simp <;> (first | omega | (intro hq; exfalso; omega))
      simp only [Act.put, List.setIfInBounds_toArray, List.set_cons_zero, List.set_cons_succ]
      refine tk 3 15 (.agg #[.int .i64 d.1, .int .i64 d.2]) rfl ?_ ?_
      · intro W hSW; obtain ⟨z0, z1⟩ := HKC.out W hSW; go_simp
      simp only [Act.put, List.setIfInBounds_toArray, List.set_cons_zero, List.set_cons_succ]
      refine tk 4 16 (.agg #[.int .i64 a, .int .i64 b]) rfl ?_ ?_
      · intro W hSW; obtain ⟨z0, z1⟩ := HBD.out W hSW; go_simp
      simp only [Act.put, List.setIfInBounds_toArray, List.set_cons_zero, List.set_cons_succ]
      cases hdq : (decide (d.1 = a) && decide (d.2 = b))
      case true =>
        have HVT : Hid (v = true) := by
          unfold Hid
          rw [HV.out, decide_eq_true_eq]
          simp at hdq
          have : d = (a, b) := Prod.ext hdq.1 hdq.2
          rw [← this]
          exact List.mem_of_getElem? HD.out
        refine tk 5 17 (.bool true) rfl ?_ ?_
        · intro W hSW; have hq := HQ.out W; have hg := HG.out; have e := hdq; simp at e; obtain ⟨e1, e2⟩ := e; (go_simp <;> simp [e1, e2])
        simp only [Act.put, List.setIfInBounds_toArray, List.set_cons_zero, List.set_cons_succ]
        refine wpAnyH_done (by kernel_rfl) ?_ _
        clear hHeld hdq
        go_wp2_with fail
        go_ret
        exact ⟨by have e := HVT.out; subst e; rfl, HA1.out.trans (HA.out.trans HAD.out)⟩
      case false =>
        have HNE2 : Hid (∀ t, t < i + 1 → ds[t]? ≠ some (a, b)) := by
          intro t ht
          rcases Nat.lt_or_ge t i with h1 | h1
          · exact HNE.out t h1
          · obtain rfl : t = i := by omega
            rw [HD.out]
            intro e
            cases e
            simp at hdq
        refine tk 5 17 (.bool false) rfl ?_ ?_
        · intro W hSW; have hq := HQ.out W; have hg := HG.out; have e := hdq; simp at e; (go_simp; exact e)
        simp only [Act.put, List.setIfInBounds_toArray, List.set_cons_zero, List.set_cons_succ]
        refine wpAnyH_done (by kernel_rfl) ?_ _
        clear hHeld hdq
        go_wp2_with fail
        go_roundw
        case rel => exact ⟨i + 1, by go_num, by omega, HNE2.out, HA.out.trans HAD.out⟩
        case measure => simp [intOf]; omega
    · have hin : ¬ ((i : Nat) : Int) < (N : Int) := by omega
      have HVF : Hid (v = false) := by
        unfold Hid
        rw [HV.out, decide_eq_false_iff_not]
        intro hm
        obtain ⟨t, ht, e⟩ := List.getElem_of_mem hm
        exact HNE.out t (by rw [HL.out] at ht; omega) (by rw [List.getElem?_eq_getElem ht, e])
      go_wp2_with fail
      go_ret
      exact ⟨by have e := HVF.out; subst e; rfl, HA1.out.trans HA.out⟩
end Go.Proofs.YtokaeiahhmaokaaDoor.ds
namespace Go.Proofs.YtokaeiahhmaokaaDoor.ds
open Go.ChangeShapes Go.WideShapes Go.ChangeAt Go.RowKit Go.Sort
set_option linter.unusedVariables false
set_option linter.unusedSimpArgs false
theorem info24 : (Tryd.prog.info? 24).map (fun i => (i.zero, i.size, i.bytes)) = some (some (.agg #[.int .i64 0, .int .i64 0]), 2, 16) := by kernel_rfl
theorem und43 : Tryd.prog.underlying 43 = some (.slice 24) := by kernel_rfl
theorem oneD (ds : List (Int × Int)) : ∀ u ∈ flatD ds, u.oneCell' = true := by
  intro u hu
  unfold flatD at hu
  rw [List.mem_flatMap] at hu
  obtain ⟨d, _, hd⟩ := hu
  simp at hd
  rcases hd with rfl | rfl <;> rfl
theorem appD (w : World) (s : Sl) (ds : List (Int × Int)) (ty : TypeId) (h : Rd w s.p (flatD ds)) (hl : ds.length = s.n) (hn : s.n ≤ 2000000) (ok : s.ok) :
    ∃ s' w', (Builtin.append_ #[43, 43] ty #[.slice none 0 0, s.v]).run Tryd.prog w = .ok (Sl.v s') w' ∧ Nw w w' 24 2 s' (flatD ds) ∧ s'.n = s.n := by
  obtain ⟨i0, hi, hz0, hz1, hz2⟩ := info_parts info24
  exact run_appNil w 43 ty 24 i0 _ 2 16 und43 hi hz0 hz1 hz2 rfl (by decide) s _ h (by rw [flatD_length, hl]) (oneD _) hn (by omega) ok
/-- the box of a write that is being made -/
def wbox (n c : Int) (k : ByteArray) (bb : Nat) (x : Value) : Obj := .cells #[.int .i64 n, .int .i64 c, .string k, .bool false, .slice (some ⟨bb, 0, none⟩) 1 1, x] 28 (0, 0)
/-- the write's box, its context and what its client was told, behind the 'if' -/
structure IfP (s : Value) (wB wr wx : World) (X : Nat) (g : Gh) (st : Wd) (n c : Int) (k : ByteArray) (ab bb i : Nat) (xs : List S) (ds : List (Int × Int)) : Prop where
  ex : ∃ tl sx : Sl, s = .slice tl.p tl.n tl.c ∧ Apart [] wr wx ∧ wx.heap[ab]? = some (wbox n c k bb sx.v) ∧ wx.heap[bb]? = some (.cells #[.int .u8 (i : Nat)] 5 (0, 0)) ∧ TS wB wx sx.p sx.n sx.c xs ∧ ND wB wx tl ds
/-- the memory of the 'if' that is taken -/
theorem if_mem {wB wr wk : World} {X : Nat} {g : Gh} {st : Wd} (h : WM wB wr X g st) (a : Apart [] wr wk) {q : Nat} (hq : q < 4) (hT : (st.cl q).told.length ≤ 2000000) {ab bb cb i : Nat} {n c : Int} {k : ByteArray} (hab : wr.heap.size ≤ ab) (hbb : wr.heap.size ≤ bb) (hne : ab ≠ bb) (hcb : ab ≠ cb)
    (hR : wk.heap[ab]? = some (wbox n c k bb (.slice none 0 0))) (hB : wk.heap[bb]? = some (.cells #[.int .u8 (i : Nat)] 5 (0, 0))) {ky : Nat} {ok : Bool} (hC : wk.heap[cb]? = some (.cells #[.int .i64 (ky : Nat), .bool ok, (g.ct q).v, (g.cx q).v] 45 (0, 0))) (t1 t2 : TypeId) :
    ∃ s1 w2 s2 w4, (Builtin.append_ #[26, 26] t1 #[.slice none 0 0, (g.cx q).v]).run Tryd.prog wk = .ok (Sl.v s1) w2 ∧ w2.cell? ⟨ab, 5, none⟩ = some (.slice none 0 0) ∧ w2.frozen? ⟨ab, 5, none⟩ = false ∧ (w2.setCell ⟨ab, 5, none⟩ s1.v).cell? ⟨cb, 2, none⟩ = some (g.ct q).v ∧ (Builtin.append_ #[43, 43] t2 #[.slice none 0 0, (g.ct q).v]).run Tryd.prog (w2.setCell ⟨ab, 5, none⟩ s1.v) = .ok (Sl.v s2) w4 ∧ IfP s2.v wB wr w4 X g st n c k ab bb i (st.cl q).tok (st.cl q).told := by
  have hk := h.kept a
  have hx := hk.cx q hq
  have hd := hk.ct q hq
  have ox : (g.cx q).ok := (show Nw wB wk 80 3 (g.cx q) (flat (st.cl q).tok) from ⟨hx.own.own, hx.own.new, hx.own.ap⟩).ok
  obtain ⟨s1, w2, r1, n1, e1⟩ := appS wk (g.cx q) (st.cl q).tok t1 hx.L (by have := hx.n8; omega) ox
  have R2 := (n1.ap.block _ (lt_of_heap hR) (by simp)).trans hR
  have B2 := (n1.ap.block _ (lt_of_heap hB) (by simp)).trans hB
  have C2 := (n1.ap.block _ (lt_of_heap hC) (by simp)).trans hC
  have ag : Apart [ab] w2 (w2.setCell ⟨ab, 5, none⟩ s1.v) := (Apart.refl _ _).setCell (.inl (by simp)) _
  have R3 : (w2.setCell ⟨ab, 5, none⟩ s1.v).heap[ab]? = some (wbox n c k bb s1.v) := by
    have := heap_setCell_same w2 ab 5 _ 28 s1.v R2
    simpa [wbox] using this
  have B3 := (ag.block _ (lt_of_heap B2) (by simp; omega)).trans B2
  have C3 := (ag.block _ (lt_of_heap C2) (by simp; omega)).trans C2
  have a3 : Apart [] wr (w2.setCell ⟨ab, 5, none⟩ s1.v) := (a.trans n1.ap).trans' ag (by intro y hy; simp at hy; subst hy; exact .inr hab)
  have o3 : Nw wk w2 80 3 s1 (flat (st.cl q).tok) := n1
  have hnew : ∀ b, s1.v.ownBlock = some b → b ∉ [ab] := fun b hb hm => by
    have h1 := n1.new b hb
    have h2 := lt_of_heap hR
    simp at hm
    omega
  have own3 := own_apart n1.own ag hnew
  have hd3 : ND wB (w2.setCell ⟨ab, 5, none⟩ s1.v) (g.ct q) (st.cl q).told := (h.kept a3).ct q hq
  obtain ⟨s2, w4, r2, n2, e2⟩ := appD (w2.setCell ⟨ab, 5, none⟩ s1.v) (g.ct q) (st.cl q).told t2 hd3.nw.rd hd3.len (by rw [← hd3.len]; exact hT) hd3.nw.ok
  refine ⟨s1, w2, s2, w4, r1, ?_, frozen_of_row _ _ 5 _ _ R2, ?_, r2, ⟨s2, s1, rfl, a3.trans n2.ap, (n2.ap.block _ (lt_of_heap R3) (by simp)).trans R3, (n2.ap.block _ (lt_of_heap B3) (by simp)).trans B3, ?_, ?_⟩⟩
  · rw [cell_of_row _ _ _ _ _ _ R2]; rfl
  · rw [cell_of_row _ _ _ _ _ _ C3]; rfl
  · refine ⟨⟨e1.trans hx.own.len, own_apart own3 n2.ap (by simp), fun b hb => Nat.le_trans hk.ap.size (n1.new b hb), h.ap.trans (a3.trans n2.ap)⟩, by rw [e1]; exact hx.n8, hx.fit⟩
  · exact ⟨⟨n2.own, fun b hb => Nat.le_trans (h.ap.trans a3).size (n2.new b hb), h.ap.trans (a3.trans n2.ap)⟩, by rw [e2]; exact hd3.len⟩
theorem fresh_if {wB wr wx : World} {n c : Int} {k : ByteArray} {bb i : Nat} {sx : Sl} {xs : List S} (a0 : Apart [] wB wr) (a : Apart [] wr wx) (hbb : wr.heap.size ≤ bb) (hi : i < 256) (hB : wx.heap[bb]? = some (.cells #[.int .u8 (i : Nat)] 5 (0, 0))) (hx : TS wB wx sx.p sx.n sx.c xs) :
    Fresh wB wx ⟨n, c, k, false, ⟨some ⟨bb, 0, none⟩, 1, 1⟩, sx⟩ ⟨n, c, k, false, [i], xs⟩ where
  n := rfl
  c := rfl
  k := rfl
  d := rfl
  v := ⟨⟨rfl, .inr ⟨bb, 1, _, rfl, Nat.zero_le _, hB, Nat.le_refl _, by unfold maxLen; omega, rfl, rfl⟩⟩, fun b hb => by simp [Sl.v, Value.ownBlock] at hb; have := a0.size; omega, a0.trans a⟩
  vn := rfl
  vl := by show 1 ≤ 2000000; omega
  vb := fun b hb => by simp at hb; omega
  x := ⟨hx.own.own, hx.own.new, hx.own.ap⟩
  xn := hx.own.len.symm
  xl := by have := hx.n8; show sx.n ≤ _; omega
  xf := hx.fit
end Go.Proofs.YtokaeiahhmaokaaDoor.ds
