import Derived.Test.YtokaeiahhmaokaaDoorW25
import Derived.Test.YtokaeiahhmaokaaDoorW12
import Derived.Test.YtokaeiahhmaokaaDoorW8
namespace Go.Proofs.YtokaeiahhmaokaaDoor.ds
open Go.ChangeShapes Go.WideShapes Go.ChangeAt Go.RowKit Go.Sort
set_option linter.unusedVariables false
set_option linter.unusedSimpArgs false
/-- is a write known to a node, is it covered there, is it one of its siblings? -/
noncomputable def kn (st : Wd) (v : Nat) (r : Wr) : Bool := hasd (st.ck v) r.n r.c
noncomputable def cvd2 (st : Wd) (v : Nat) (r y : Wr) : Bool := kn st v y && cvW y r
noncomputable def pA (st : Wd) (v k : Nat) (r : Wr) : Bool := (keq r.k (nmK k) && kn st v r) && !(st.made.any (cvd2 st v r))
theorem pA_iff {st : Wd} (h : Inv st) {v k : Nat} (hv : v < 4) (hk : k < 2) {r : Wr} (hr : r ∈ st.made) : pA st v k r = true ↔ r ∈ st.sb v k := by
  rw [(h.sib v hv k hk).mem]
  unfold pA kn
  rw [Bool.and_eq_true, Bool.and_eq_true, keq_iff, Bool.not_eq_true', List.any_eq_false]
  constructor
  · rintro ⟨⟨h1, h2⟩, h3⟩
    refine ⟨mem_mkK.2 ⟨hr, h1⟩, h2, fun y hy hky => ?_⟩
    have := h3 y (mem_mkK.1 hy).1
    unfold cvd2 kn at this
    rw [hky] at this
    simpa using this
  · rintro ⟨h1, h2, h3⟩
    refine ⟨⟨(mem_mkK.1 h1).2, h2⟩, fun y hy hc => ?_⟩
    unfold cvd2 kn at hc
    rw [Bool.and_eq_true] at hc
    have hyk : y.k = nmK k := by
      have := hc.2
      unfold cvW at this
      rw [Bool.and_eq_true, keq_iff] at this
      rw [this.1]; exact (mem_mkK.1 h1).2
    have := h3 y (mem_mkK.2 ⟨hy, hyk⟩) hc.1
    rw [hc.2] at this
    cases this
theorem pA_len {st : Wd} (h : Inv st) {v k : Nat} (hv : v < 4) (hk : k < 2) : (st.made.filter (pA st v k)).length = (st.sb v k).length := by
  have hs := h.sib v hv k hk
  have h1 : (st.sb v k).Nodup := hs.up.imp (fun {a b} hab e => by rw [e, belowW_ir] at hab; cases hab)
  have h2 : (st.made.filter (pA st v k)).Nodup := h.nd.filter _
  refine ((List.perm_ext_iff_of_nodup h2 h1).2 (fun x => ?_)).length_eq
  rw [List.mem_filter]
  constructor
  · rintro ⟨hx, hp⟩; exact (pA_iff h hv hk hx).1 hp
  · intro hx
    have hm := (mem_mkK.1 ((hs.mem x).1 hx).1).1
    exact ⟨hm, (pA_iff h hv hk hm).2 hx⟩
theorem filt_next (p : Wr → Bool) (l : List Wr) (i : Nat) (hi : i < l.length) : ((l.take (i + 1)).filter p).length = ((l.take i).filter p).length + (if p (gR l i) = true then 1 else 0) := by
  rw [List.take_add_one, List.getElem?_eq_getElem hi, List.filter_append, List.length_append, ← gR_eq l i hi]
  by_cases h : p (gR l i) = true
  · simp [h]
  · simp [h]
theorem any_next (p : Wr → Bool) (l : List Wr) (i : Nat) (hi : i < l.length) : (l.take (i + 1)).any p = ((l.take i).any p || p (gR l i)) := by
  rw [List.take_add_one, List.getElem?_eq_getElem hi, List.any_append, ← gR_eq l i hi]
  simp
set_option maxHeartbeats 32000000 in
set_option maxRecDepth 100000 in
theorem abstract_law {wB w0 : World} {X : Nat} {g : Gh} {st : Wd} (h : WM wB w0 X g st) (hI : Inv st) (hm : st.made.length ≤ 60) {v k : Nat} (hv : v < 4) (hk : k < 2) :
    Calls Tryd.prog 22 #[.pointer (some ⟨X, 0, none⟩), .int .i64 (v : Nat), .int .i64 (k : Nat)] w0 fun z w' => z = .returned (.bool true) ∧ Apart [] w0 w' := by
  have HW := hid h
  have HI := hid hI
  have hml := h.md.len
  have hsl := (h.sb v hv k hk).len
  have hsb := sib_len hI hv hk
  obtain ⟨sc, Hsc⟩ : ∃ sc, Hid (sc = g.c v) := ⟨_, rfl⟩
  obtain ⟨⟨sp, SN, sx⟩, Hss⟩ : ∃ ss, Hid (ss = g.s v k) := ⟨_, rfl⟩
  obtain ⟨⟨mp, MN, mc⟩, Hmm⟩ : ∃ mm, Hid (mm = g.m) := ⟨_, rfl⟩
  have HCK0 : Hid (∀ W, Apart [] w0 W → W.cell? ⟨X, v, none⟩ = some (.slice sc.p sc.n sc.c)) := fun W a => by
    rw [(HW.out.kept a).cell v (by omega), wc_clock _ _ v hv, Hsc.out]; rfl
  have HMD0 : Hid (∀ W, Apart [] w0 W → W.cell? ⟨X, 12, none⟩ = some (.slice mp MN mc)) := fun W a => by
    rw [(HW.out.kept a).cell 12 (by omega), wc_made, ← Hmm.out]; rfl
  have HMN : Hid (MN = st.made.length) := by unfold Hid; rw [hml, ← Hmm.out]
  have HSN : Hid (SN = (st.sb v k).length) := by unfold Hid; rw [hsl, ← Hss.out]
  have hMN : MN ≤ 60 := by rw [HMN.out]; exact hm
  have hSN : SN ≤ 60 := by rw [HSN.out]; omega
  have HFM : Hid (FL wB w0 ⟨mp, MN, mc⟩ g.me st.made) := by unfold Hid; rw [Hmm.out]; exact h.md
  have HFS : Hid (FL wB w0 ⟨sp, SN, sx⟩ (g.se v k) (st.sb v k)) := by unfold Hid; rw [Hss.out]; exact h.sb v hv k hk
  have HTS : Hid (TS wB w0 sc.p sc.n sc.c (st.ck v)) := by unfold Hid; rw [Hsc.out]; exact h.ck v hv
  have z0 : w0.cell? ⟨X, 4 + v * 2 + k, none⟩ = some (.slice sp SN sx) := by
    rw [h.cell _ (by omega), wc_sib _ _ v k hv hk, ← Hss.out]; rfl
  have HHS : Hid (∀ W, Apart [] w0 W → ∀ dn dc, IsDot dn dc → Calls Tryd.prog 30 #[.slice sc.p sc.n sc.c, .agg #[.int .i64 dn, .int .i64 dc]] W fun r w' => r = .returned (.bool (hasd (st.ck v) dn dc)) ∧ Apart [] W w') := fun W a dn dc hd => by
    rw [hasd_dot (HI.out.ckok v hv) hd]
    exact lawhas_ok (HTS.out.kept0 a).L (HI.out.ckok v hv) hd
  have HNM : Hid (∀ W, Calls Tryd.prog 57 #[.int .i64 (k : Nat)] W fun r w' => r = .returned (.string (nmK k)) ∧ Apart [] W w') := fun W => name_law k hk W
  clear h hI hml hsl hsb hm
  go_enter Tryd.func22, Tryd.ntmps22
  go_wp2_with fail
  clear z0
  go_loopw [8, 9] (fun a b wr => ∃ i : Nat, a = .int .i64 ((((st.made.take i).filter (pA st v k)).length : Nat) : Int) ∧ b = .int .i64 (i : Nat) ∧ i ≤ MN ∧ Apart [] w0 wr) (fun _ b _ => MN - (intOf b).toNat)
  case atStart => exact ⟨0, rfl, rfl, Nat.zero_le _, Apart.refl _ _⟩
  case round =>
    obtain ⟨i, rfl, rfl, hi, ap⟩ := hrel
    have HA := hid ap
    clear ap
    have z0 := HMD0.out wr HA.out
    by_cases hlt : i < MN
    · have hin : ((i : Nat) : Int) < (MN : Int) := by omega
      obtain ⟨PM, om, hpm, hPl, hcs⟩ := ((HFM.out.kept HA.out).le (by show MN ≤ 2000000; omega)).at (by show 0 < MN; omega)
      simp only at hpm
      subst hpm
      obtain ⟨k0, k1, k2, k3, k4, k5⟩ := hcs i hlt
      have HMC : Hid (∀ W, Apart [] wr W → ∀ j, j < MN → W.cell? ⟨PM, om + j * 6, none⟩ = some (.int .i64 (gE g.me j).n) ∧ W.cell? ⟨PM, om + j * 6 + 1, none⟩ = some (.int .i64 (gE g.me j).c) ∧ W.cell? ⟨PM, om + j * 6 + 2, none⟩ = some (.string (gE g.me j).k) ∧ W.cell? ⟨PM, om + j * 6 + 3, none⟩ = some (.bool (gE g.me j).d) ∧ W.cell? ⟨PM, om + j * 6 + 4, none⟩ = some (.slice (gE g.me j).v.p (gE g.me j).v.n (gE g.me j).v.c) ∧ W.cell? ⟨PM, om + j * 6 + 5, none⟩ = some (.slice (gE g.me j).x.p (gE g.me j).x.n (gE g.me j).x.c)) := fun W a j hj => by
        obtain ⟨k0, k1, k2, k3, k4, k5⟩ := hcs j hj
        exact ⟨(a.cell hPl (by simp)).trans k0, (a.cell hPl (by simp)).trans k1, (a.cell hPl (by simp)).trans k2, (a.cell hPl (by simp)).trans k3, (a.cell hPl (by simp)).trans k4, (a.cell hPl (by simp)).trans k5⟩
      have HR : Hid (∀ j, j < MN → Reads wr (gE g.me j) (gR st.made j) ∧ gR st.made j ∈ st.made) := fun j hj => ⟨(HFM.out.kept HA.out).reads j hj, by rw [gR_eq _ j (by rw [← HMN.out]; exact hj)]; exact List.getElem_mem _⟩
      obtain ⟨x, Hx⟩ : ∃ x, Hid (x = gE g.me i) := ⟨_, rfl⟩
      obtain ⟨rx, Hrx⟩ : ∃ rx, Hid (rx = gR st.made i) := ⟨_, rfl⟩
      have HRx : Hid (Reads wr x rx ∧ rx ∈ st.made) := by unfold Hid; rw [Hx.out, Hrx.out]; exact HR.out i hlt
      rw [← Hx.out] at k0 k1 k2 k3 k4 k5
      obtain ⟨wb, hwb⟩ : ∃ wb, wb = wr.alloc (boxE x) := ⟨_, rfl⟩
      have HAb : Hid (Apart [] wr wb) := by unfold Hid; rw [hwb]; exact (Apart.refl [] wr).alloc _
      have HQ0 : Hid (wb.heap[wr.heap.size]? = some (boxE x)) := by unfold Hid; rw [hwb]; exact heap_alloc_new wr _
      obtain ⟨BX, HBXe⟩ : ∃ BX, Hid (BX = wr.heap.size) := ⟨_, rfl⟩
      have HBX0 : Hid (∀ W, Apart [] wb W → W.cell? ⟨BX, 0, none⟩ = some (.int .i64 x.n) ∧ W.cell? ⟨BX, 1, none⟩ = some (.int .i64 x.c) ∧ W.cell? ⟨BX, 2, none⟩ = some (.string x.k) ∧ W.cell? ⟨BX, 3, none⟩ = some (.bool x.d) ∧ W.cell? ⟨BX, 4, none⟩ = some (.slice x.v.p x.v.n x.v.c) ∧ W.cell? ⟨BX, 5, none⟩ = some (.slice x.x.p x.x.n x.x.c)) := fun W a => by
        rw [HBXe.out]
        exact row6 ((a.block _ (lt_of_heap HQ0.out) (by simp)).trans HQ0.out)
      have HDX : Hid (IsDot x.n x.c) := by unfold Hid; rw [HRx.out.1.n, HRx.out.1.c]; exact (HI.out.vw rx HRx.out.2).1.dt
      have HNX := hid (filt_next (pA st v k) st.made i (by rw [← HMN.out]; exact hlt))
      rw [← Hrx.out] at HNX
      have HFL : Hid (((st.made.take i).filter (pA st v k)).length ≤ i) := Nat.le_trans (List.length_filter_le _ _) (by rw [List.length_take]; omega)
      obtain ⟨cn, Hcn⟩ : ∃ cn, Hid (cn = ((st.made.take i).filter (pA st v k)).length) := ⟨_, rfl⟩
      rw [← Hcn.out] at HNX HFL ⊢
      have HA0b : Hid (Apart [] w0 wb) := HA.out.trans HAb.out
      unfold boxE at hwb
      unfold Sl.v at k4 k5 hwb
      clear hcs
      go_upto_region 7 with fail
      rw [← hwb, ← HBXe.out]
      clear hwb k0 k1 k2 k3 k4 k5 z0
      have HCK : Hid (∀ W, Apart [] wb W → W.cell? ⟨X, v, none⟩ = some (.slice sc.p sc.n sc.c)) := fun W a => HCK0.out W (HA0b.out.trans a)
      have HBX := HBX0
      refine wp_region_held_drew (S := fun X => Apart [] wb X) (by kernel_rfl) (Apart.refl [] wb).drew (fun hHeld => ?_)
      have HAD : Hid (Apart [] wb wb.drew) := (Apart.refl [] wb).drew
      generalize wb.drew = wd at *
      refine tk 0 42 (.pointer (some ⟨BX, 2, none⟩)) rfl ?_ ?_
      · intro W hSW; go_simp
      simp only [Act.put, List.setIfInBounds_toArray, List.set_cons_zero, List.set_cons_succ]
      refine tk 1 43 (.string x.k) rfl ?_ ?_
      · intro W hSW; obtain ⟨x0, x1, x2, x3, x4, x5⟩ := HBX.out W hSW; go_simp
      simp only [Act.put, List.setIfInBounds_toArray, List.set_cons_zero, List.set_cons_succ]
      refine tk 2 44 (.int .i64 (k : Nat)) rfl ?_ ?_
      · intro W hSW; go_simp
      simp only [Act.put, List.setIfInBounds_toArray, List.set_cons_zero, List.set_cons_succ]
      refine wpAnyH_ready (rs := [3]) (by kernel_rfl) (by simp) ?_
      refine AllReadyH.cons rfl (fun KK hKK => ?_) AllReadyH.nil
      go_simp
      refine (HNM.out wd).mono ?_
      rintro _ w4 ⟨rfl, a4⟩
      have HA4 : Hid (Apart [] wb w4) := HAD.out.trans a4
      clear a4
      try dsimp only
      refine hKK.out _ _ HA4.out (fun hHeld => ?_)
      clear hKK KK
      cases hkq0 : keq x.k (nmK k)
      case false =>
        have hkq : (x.k.toList == (nmK k).toList) = false := hkq0
        have HPN : Hid (pA st v k rx = false) := by
          unfold Hid pA
          rw [← HRx.out.1.k, hkq0]; rfl
        refine tk 4 46 (.bool true) rfl ?_ ?_
        · intro W hSW; have hq := hkq; go_simp
        simp only [Act.put, List.setIfInBounds_toArray, List.set_cons_zero, List.set_cons_succ]
        refine tk 5 47 (.bool true) rfl ?_ ?_
        · intro W hSW; go_simp
        simp only [Act.put, List.setIfInBounds_toArray, List.set_cons_zero, List.set_cons_succ]
        refine tu 6 48 rfl ?_
        simp only [Act.put, List.setIfInBounds_toArray, List.set_cons_zero, List.set_cons_succ]
        refine tu 7 49 rfl ?_
        simp only [Act.put, List.setIfInBounds_toArray, List.set_cons_zero, List.set_cons_succ]
        refine tu 8 50 rfl ?_
        simp only [Act.put, List.setIfInBounds_toArray, List.set_cons_zero, List.set_cons_succ]
        refine tu 9 51 rfl ?_
        simp only [Act.put, List.setIfInBounds_toArray, List.set_cons_zero, List.set_cons_succ]
        refine tu 10 52 rfl ?_
        simp only [Act.put, List.setIfInBounds_toArray, List.set_cons_zero, List.set_cons_succ]
        refine tu 11 53 rfl ?_
        simp only [Act.put, List.setIfInBounds_toArray, List.set_cons_zero, List.set_cons_succ]
        refine tu 12 54 rfl ?_
        simp only [Act.put, List.setIfInBounds_toArray, List.set_cons_zero, List.set_cons_succ]
        refine tu 13 55 rfl ?_
        simp only [Act.put, List.setIfInBounds_toArray, List.set_cons_zero, List.set_cons_succ]
        refine wpAnyH_pass 14 (by kernel_rfl) rfl (by kernel_rfl) (by assumption) ?_
        simp only [Act.put, List.setIfInBounds_toArray, List.set_cons_zero, List.set_cons_succ]
        refine tu 15 57 rfl ?_
        simp only [Act.put, List.setIfInBounds_toArray, List.set_cons_zero, List.set_cons_succ]
        refine tk 16 58 (.bool true) rfl ?_ ?_
        · intro W hSW; go_simp
        simp only [Act.put, List.setIfInBounds_toArray, List.set_cons_zero, List.set_cons_succ]
        refine wpAnyH_done (by kernel_rfl) ?_ _
        have HAE : Hid (Apart [] w0 w4) := HA0b.out.trans HA4.out
        have HCE : Hid (((st.made.take (i + 1)).filter (pA st v k)).length = cn) := by unfold Hid; rw [HNX.out, HPN.out]; simp
        clear hHeld hkq hkq0
        go_wp2_with fail
        go_roundw
        case rel => exact ⟨i + 1, by rw [HCE.out], by go_num, by omega, HAE.out⟩
        case measure => simp [intOf]; omega
      case true =>
        have hkq : (x.k.toList == (nmK k).toList) = true := hkq0
        refine tk 4 46 (.bool false) rfl ?_ ?_
        · intro W hSW; have hq := hkq; go_simp
        simp only [Act.put, List.setIfInBounds_toArray, List.set_cons_zero, List.set_cons_succ]
        refine tk 5 47 (.bool false) rfl ?_ ?_
        · intro W hSW; go_simp
        simp only [Act.put, List.setIfInBounds_toArray, List.set_cons_zero, List.set_cons_succ]
        refine tk 6 48 (.pointer (some ⟨X, 0, none⟩)) rfl ?_ ?_
        · intro W hSW; go_simp
        simp only [Act.put, List.setIfInBounds_toArray, List.set_cons_zero, List.set_cons_succ]
        refine tk 7 49 (.int .i64 (v : Nat)) rfl ?_ ?_
        · intro W hSW; go_simp
        simp only [Act.put, List.setIfInBounds_toArray, List.set_cons_zero, List.set_cons_succ]
        refine tk 8 50 (.pointer (some ⟨X, 0, none⟩)) rfl ?_ ?_
        · intro W hSW; go_simp
        simp only [Act.put, List.setIfInBounds_toArray, List.set_cons_zero, List.set_cons_succ]
        refine tk 9 51 (.pointer (some ⟨X, 0, none⟩)) rfl ?_ ?_
        · intro W hSW; go_simp
        simp only [Act.put, List.setIfInBounds_toArray, List.set_cons_zero, List.set_cons_succ]
        refine tk 10 52 (.pointer (some ⟨X, v, none⟩)) rfl ?_ ?_
        · intro W hSW; go_simp <;> (first | omega | (intro hq; exfalso; omega))
        simp only [Act.put, List.setIfInBounds_toArray, List.set_cons_zero, List.set_cons_succ]
        refine tk 11 53 (.slice sc.p sc.n sc.c) rfl ?_ ?_
        · intro W hSW; have z := HCK.out W hSW; go_simp
        simp only [Act.put, List.setIfInBounds_toArray, List.set_cons_zero, List.set_cons_succ]
        refine tk 12 54 (.pointer (some ⟨BX, 0, none⟩)) rfl ?_ ?_
        · intro W hSW; go_simp
        simp only [Act.put, List.setIfInBounds_toArray, List.set_cons_zero, List.set_cons_succ]
        refine tk 13 55 (.agg #[.int .i64 x.n, .int .i64 x.c]) rfl ?_ ?_
        · intro W hSW; obtain ⟨x0, x1, x2, x3, x4, x5⟩ := HBX.out W hSW; go_simp
        simp only [Act.put, List.setIfInBounds_toArray, List.set_cons_zero, List.set_cons_succ]
        refine wpAnyH_ready (rs := [14]) (by kernel_rfl) (by simp) ?_
        refine AllReadyH.cons rfl (fun KK hKK => ?_) AllReadyH.nil
        go_simp
        refine (HHS.out w4 (HA0b.out.trans HA4.out) x.n x.c HDX.out).mono ?_
        rintro _ w5 ⟨rfl, a5⟩
        obtain ⟨hb, Hhb⟩ : ∃ hb, Hid (hb = hasd (st.ck v) x.n x.c) := ⟨_, rfl⟩
        rw [← Hhb.out]
        have HA5 : Hid (Apart [] wb w5) := HA4.out.trans a5
        clear a5
        try dsimp only
        refine hKK.out _ _ HA5.out (fun hHeld => ?_)
        clear hKK KK
        clear hkq
        have HKN : Hid (kn st v rx = hb) := by unfold Hid kn; rw [Hhb.out, HRx.out.1.n, HRx.out.1.c]
        have HA05 : Hid (Apart [] w0 w5) := HA0b.out.trans HA5.out
        cases hb
        case false =>
          refine tk 15 57 (.bool true) rfl ?_ ?_
          · intro W hSW; go_simp
          simp only [Act.put, List.setIfInBounds_toArray, List.set_cons_zero, List.set_cons_succ]
          refine tk 16 58 (.bool true) rfl ?_ ?_
          · intro W hSW; go_simp
          simp only [Act.put, List.setIfInBounds_toArray, List.set_cons_zero, List.set_cons_succ]
          refine wpAnyH_done (by kernel_rfl) ?_ _
          clear hHeld
          have HPN : Hid (pA st v k rx = false) := by
            unfold Hid pA
            rw [HKN.out]; simp
          have HCE : Hid (((st.made.take (i + 1)).filter (pA st v k)).length = cn) := by unfold Hid; rw [HNX.out, HPN.out]; simp
          clear hkq0
          go_wp2_with fail
          go_roundw
          case rel => exact ⟨i + 1, by rw [HCE.out], by go_num, by omega, HA05.out⟩
          case measure => simp [intOf]; omega
        case true =>
          refine tk 15 57 (.bool false) rfl ?_ ?_
          · intro W hSW; go_simp
          simp only [Act.put, List.setIfInBounds_toArray, List.set_cons_zero, List.set_cons_succ]
          refine tk 16 58 (.bool false) rfl ?_ ?_
          · intro W hSW; go_simp
          simp only [Act.put, List.setIfInBounds_toArray, List.set_cons_zero, List.set_cons_succ]
          refine wpAnyH_done (by kernel_rfl) ?_ _
          clear hHeld
          have HKQ : Hid (keq x.k (nmK k) = true) := hkq0
          clear hkq0
          have HMDb : Hid (∀ W, Apart [] wb W → W.cell? ⟨X, 12, none⟩ = some (.slice (some ⟨PM, om, none⟩) MN mc)) := fun W a => HMD0.out W (HA0b.out.trans a)
          have HCKb := HCK
          have HRxb : Hid (Reads wb x rx) := HRx.out.1.kept0 HAb.out
          have HRb : Hid (∀ j, j < MN → Reads wb (gE g.me j) (gR st.made j) ∧ gR st.made j ∈ st.made) := fun j hj => ⟨(HR.out j hj).1.kept0 HAb.out, (HR.out j hj).2⟩
          have HMCb := HMC
          clear HBX HCK
          go_wp2_with fail
          go_loopw [11, 12] (fun a b wt => ∃ j : Nat, a = .bool ((st.made.take j).any (cvd2 st v rx)) ∧ b = .int .i64 (j : Nat) ∧ j ≤ MN ∧ Apart [] wb wt) (fun _ b _ => MN - (intOf b).toNat)
          case atStart => exact ⟨0, by simp, rfl, Nat.zero_le _, HA5.out⟩
          case round =>
            obtain ⟨j, rfl, rfl, hj, ap⟩ := hrel
            have HT := hid ap
            clear ap
            have z0 := HMDb.out wr HT.out
            by_cases hjl : j < MN
            · have hjn : ((j : Nat) : Int) < (MN : Int) := by omega
              have HCK : Hid (∀ W, Apart [] wr W → W.cell? ⟨X, v, none⟩ = some (.slice sc.p sc.n sc.c)) := fun W a => HCKb.out W (HT.out.trans a)
              have HMD : Hid (∀ W, Apart [] wr W → W.cell? ⟨X, 12, none⟩ = some (.slice (some ⟨PM, om, none⟩) MN mc)) := fun W a => HMDb.out W (HT.out.trans a)
              have HBX : Hid (∀ W, Apart [] wr W → W.cell? ⟨BX, 0, none⟩ = some (.int .i64 x.n) ∧ W.cell? ⟨BX, 1, none⟩ = some (.int .i64 x.c) ∧ W.cell? ⟨BX, 2, none⟩ = some (.string x.k) ∧ W.cell? ⟨BX, 3, none⟩ = some (.bool x.d) ∧ W.cell? ⟨BX, 4, none⟩ = some (.slice x.v.p x.v.n x.v.c) ∧ W.cell? ⟨BX, 5, none⟩ = some (.slice x.x.p x.x.n x.x.c)) := fun W a => HBX0.out W (HT.out.trans a)
              obtain ⟨y, Hy⟩ : ∃ y, Hid (y = gE g.me j) := ⟨_, rfl⟩
              obtain ⟨ry, Hry⟩ : ∃ ry, Hid (ry = gR st.made j) := ⟨_, rfl⟩
              have HRy : Hid (Reads wr y ry ∧ ry ∈ st.made) := by
                unfold Hid; rw [Hy.out, Hry.out]
                exact ⟨(HRb.out j hjl).1.kept0 HT.out, (HRb.out j hjl).2⟩
              have HCY : Hid (∀ W, Apart [] wr W → W.cell? ⟨PM, om + j * 6, none⟩ = some (.int .i64 y.n) ∧ W.cell? ⟨PM, om + j * 6 + 1, none⟩ = some (.int .i64 y.c) ∧ W.cell? ⟨PM, om + j * 6 + 2, none⟩ = some (.string y.k) ∧ W.cell? ⟨PM, om + j * 6 + 3, none⟩ = some (.bool y.d) ∧ W.cell? ⟨PM, om + j * 6 + 4, none⟩ = some (.slice y.v.p y.v.n y.v.c) ∧ W.cell? ⟨PM, om + j * 6 + 5, none⟩ = some (.slice y.x.p y.x.n y.x.c)) := fun W a => by
                rw [Hy.out]; exact HMCb.out W (HAb.out.trans (HT.out.trans a)) j hjl
              have HDY : Hid (IsDot y.n y.c) := by unfold Hid; rw [HRy.out.1.n, HRy.out.1.c]; exact (HI.out.vw ry HRy.out.2).1.dt
              have HNXc : Hid ((st.made.take (j + 1)).any (cvd2 st v rx) = ((st.made.take j).any (cvd2 st v rx) || (kn st v ry && cvW ry rx))) := by
                unfold Hid; rw [any_next _ _ j (by rw [← HMN.out]; exact hjl), ← Hry.out]; rfl
              have HKY : Hid (kn st v ry = hasd (st.ck v) y.n y.c) := by unfold Hid kn; rw [HRy.out.1.n, HRy.out.1.c]
              have HCV : Hid (∀ W, Apart [] wr W → Calls Tryd.prog 16 #[.agg #[.int .i64 y.n, .int .i64 y.c, .string y.k, .bool y.d, .slice y.v.p y.v.n y.v.c, .slice y.x.p y.x.n y.x.c], .agg #[.int .i64 x.n, .int .i64 x.c, .string x.k, .bool x.d, .slice x.v.p x.v.n x.v.c, .slice x.x.p x.x.n x.x.c]] W fun r w' => r = .returned (.bool (cvW ry rx)) ∧ Apart [] W w') := fun W a =>
                lawcovers y x ry rx W (HRy.out.1.kept0 a) (HRxb.out.kept0 (HT.out.trans a)) (HI.out.vw ry HRy.out.2).1.ok (HI.out.vw rx HRx.out.2).1.dt _ rfl
              obtain ⟨cv, Hcv⟩ : ∃ cv, Hid (cv = (st.made.take j).any (cvd2 st v rx)) := ⟨_, rfl⟩
              rw [← Hcv.out] at HNXc ⊢
              go_upto_region 12 with fail
              clear z0
              refine wp_region_held_drew (S := fun X => Apart [] wr X) (by kernel_rfl) (Apart.refl [] wr).drew (fun hHeld => ?_)
              have HAD2 : Hid (Apart [] wr wr.drew) := (Apart.refl [] wr).drew
              generalize wr.drew = we at *
              cases cv
              case true =>
                refine tk 0 68 (.bool true) rfl ?_ ?_
                · intro W hSW; go_simp
                simp only [Act.put, List.setIfInBounds_toArray, List.set_cons_zero, List.set_cons_succ]
                refine tk 1 69 (.bool true) rfl ?_ ?_
                · intro W hSW; go_simp
                simp only [Act.put, List.setIfInBounds_toArray, List.set_cons_zero, List.set_cons_succ]
                refine tu 2 70 rfl ?_
                simp only [Act.put, List.setIfInBounds_toArray, List.set_cons_zero, List.set_cons_succ]
                refine tu 3 71 rfl ?_
                simp only [Act.put, List.setIfInBounds_toArray, List.set_cons_zero, List.set_cons_succ]
                refine tu 4 72 rfl ?_
                simp only [Act.put, List.setIfInBounds_toArray, List.set_cons_zero, List.set_cons_succ]
                refine tu 5 73 rfl ?_
                simp only [Act.put, List.setIfInBounds_toArray, List.set_cons_zero, List.set_cons_succ]
                refine tu 6 74 rfl ?_
                simp only [Act.put, List.setIfInBounds_toArray, List.set_cons_zero, List.set_cons_succ]
                refine tu 7 75 rfl ?_
                simp only [Act.put, List.setIfInBounds_toArray, List.set_cons_zero, List.set_cons_succ]
                refine tu 8 76 rfl ?_
                simp only [Act.put, List.setIfInBounds_toArray, List.set_cons_zero, List.set_cons_succ]
                refine tu 9 77 rfl ?_
                simp only [Act.put, List.setIfInBounds_toArray, List.set_cons_zero, List.set_cons_succ]
                refine tu 10 78 rfl ?_
                simp only [Act.put, List.setIfInBounds_toArray, List.set_cons_zero, List.set_cons_succ]
                refine tu 11 79 rfl ?_
                simp only [Act.put, List.setIfInBounds_toArray, List.set_cons_zero, List.set_cons_succ]
                refine tu 12 80 rfl ?_
                simp only [Act.put, List.setIfInBounds_toArray, List.set_cons_zero, List.set_cons_succ]
                refine tu 13 81 rfl ?_
                simp only [Act.put, List.setIfInBounds_toArray, List.set_cons_zero, List.set_cons_succ]
                refine tu 14 82 rfl ?_
                simp only [Act.put, List.setIfInBounds_toArray, List.set_cons_zero, List.set_cons_succ]
                refine tu 15 83 rfl ?_
                simp only [Act.put, List.setIfInBounds_toArray, List.set_cons_zero, List.set_cons_succ]
                refine wpAnyH_pass 16 (by kernel_rfl) rfl (by kernel_rfl) (by assumption) ?_
                simp only [Act.put, List.setIfInBounds_toArray, List.set_cons_zero, List.set_cons_succ]
                refine tu 17 85 rfl ?_
                simp only [Act.put, List.setIfInBounds_toArray, List.set_cons_zero, List.set_cons_succ]
                refine tu 18 86 rfl ?_
                simp only [Act.put, List.setIfInBounds_toArray, List.set_cons_zero, List.set_cons_succ]
                refine tu 19 87 rfl ?_
                simp only [Act.put, List.setIfInBounds_toArray, List.set_cons_zero, List.set_cons_succ]
                refine tu 20 88 rfl ?_
                simp only [Act.put, List.setIfInBounds_toArray, List.set_cons_zero, List.set_cons_succ]
                refine tu 21 89 rfl ?_
                simp only [Act.put, List.setIfInBounds_toArray, List.set_cons_zero, List.set_cons_succ]
                refine tu 22 90 rfl ?_
                simp only [Act.put, List.setIfInBounds_toArray, List.set_cons_zero, List.set_cons_succ]
                refine tu 23 91 rfl ?_
                simp only [Act.put, List.setIfInBounds_toArray, List.set_cons_zero, List.set_cons_succ]
                refine tu 24 92 rfl ?_
                simp only [Act.put, List.setIfInBounds_toArray, List.set_cons_zero, List.set_cons_succ]
                refine tu 25 93 rfl ?_
                simp only [Act.put, List.setIfInBounds_toArray, List.set_cons_zero, List.set_cons_succ]
                refine wpAnyH_pass 26 (by kernel_rfl) rfl (by kernel_rfl) (by assumption) ?_
                simp only [Act.put, List.setIfInBounds_toArray, List.set_cons_zero, List.set_cons_succ]
                refine tu 27 95 rfl ?_
                simp only [Act.put, List.setIfInBounds_toArray, List.set_cons_zero, List.set_cons_succ]
                refine tk 28 96 (.bool true) rfl ?_ ?_
                · intro W hSW; go_simp
                simp only [Act.put, List.setIfInBounds_toArray, List.set_cons_zero, List.set_cons_succ]
                refine tk 29 11 (.bool true) rfl ?_ ?_
                · intro W hSW; go_simp
                simp only [Act.put, List.setIfInBounds_toArray, List.set_cons_zero, List.set_cons_succ]
                refine wpAnyH_done (by kernel_rfl) ?_ _
                clear hHeld
                go_wp2_with fail
                go_roundw
                case rel => exact ⟨j + 1, by rw [HNXc.out]; rfl, by go_num, by omega, HT.out.trans HAD2.out⟩
                case measure => simp [intOf]; omega
              case false =>
                refine tk 0 68 (.bool false) rfl ?_ ?_
                · intro W hSW; go_simp
                simp only [Act.put, List.setIfInBounds_toArray, List.set_cons_zero, List.set_cons_succ]
                refine tk 1 69 (.bool false) rfl ?_ ?_
                · intro W hSW; go_simp
                simp only [Act.put, List.setIfInBounds_toArray, List.set_cons_zero, List.set_cons_succ]
                refine tk 2 70 (.pointer (some ⟨X, 0, none⟩)) rfl ?_ ?_
                · intro W hSW; go_simp
                simp only [Act.put, List.setIfInBounds_toArray, List.set_cons_zero, List.set_cons_succ]
                refine tk 3 71 (.int .i64 (v : Nat)) rfl ?_ ?_
                · intro W hSW; go_simp
                simp only [Act.put, List.setIfInBounds_toArray, List.set_cons_zero, List.set_cons_succ]
                refine tk 4 72 (.pointer (some ⟨X, 0, none⟩)) rfl ?_ ?_
                · intro W hSW; go_simp
                simp only [Act.put, List.setIfInBounds_toArray, List.set_cons_zero, List.set_cons_succ]
                refine tk 5 73 (.pointer (some ⟨X, 0, none⟩)) rfl ?_ ?_
                · intro W hSW; go_simp
                simp only [Act.put, List.setIfInBounds_toArray, List.set_cons_zero, List.set_cons_succ]
                refine tk 6 74 (.pointer (some ⟨X, v, none⟩)) rfl ?_ ?_
                · intro W hSW; go_simp <;> (first | omega | (intro hq; exfalso; omega))
                simp only [Act.put, List.setIfInBounds_toArray, List.set_cons_zero, List.set_cons_succ]
                refine tk 7 75 (.slice sc.p sc.n sc.c) rfl ?_ ?_
                · intro W hSW; have z := HCK.out W hSW; go_simp
                simp only [Act.put, List.setIfInBounds_toArray, List.set_cons_zero, List.set_cons_succ]
                refine tk 8 76 (.pointer (some ⟨X, 0, none⟩)) rfl ?_ ?_
                · intro W hSW; go_simp
                simp only [Act.put, List.setIfInBounds_toArray, List.set_cons_zero, List.set_cons_succ]
                refine tk 9 77 (.pointer (some ⟨X, 0, none⟩)) rfl ?_ ?_
                · intro W hSW; go_simp
                simp only [Act.put, List.setIfInBounds_toArray, List.set_cons_zero, List.set_cons_succ]
                refine tk 10 78 (.pointer (some ⟨X, 12, none⟩)) rfl ?_ ?_
                · intro W hSW; go_simp
                simp only [Act.put, List.setIfInBounds_toArray, List.set_cons_zero, List.set_cons_succ]
                refine tk 11 79 (.slice (some ⟨PM, om, none⟩) MN mc) rfl ?_ ?_
                · intro W hSW; have z := HMD.out W hSW; go_simp
                simp only [Act.put, List.setIfInBounds_toArray, List.set_cons_zero, List.set_cons_succ]
                refine tk 12 80 (.int .i64 (j : Nat)) rfl ?_ ?_
                · intro W hSW; go_simp
                simp only [Act.put, List.setIfInBounds_toArray, List.set_cons_zero, List.set_cons_succ]
                refine tk 13 81 (.pointer (some ⟨PM, om + j * 6, none⟩)) rfl ?_ ?_
                · intro W hSW; go_simp <;> (first | omega | (intro hq; exfalso; omega))
                simp only [Act.put, List.setIfInBounds_toArray, List.set_cons_zero, List.set_cons_succ]
                refine tk 14 82 (.pointer (some ⟨PM, om + j * 6, none⟩)) rfl ?_ ?_
                · intro W hSW; go_simp
                simp only [Act.put, List.setIfInBounds_toArray, List.set_cons_zero, List.set_cons_succ]
                refine tk 15 83 (.agg #[.int .i64 y.n, .int .i64 y.c]) rfl ?_ ?_
                · intro W hSW; obtain ⟨y0, y1, y2, y3, y4, y5⟩ := HCY.out W hSW; go_simp
                simp only [Act.put, List.setIfInBounds_toArray, List.set_cons_zero, List.set_cons_succ]
                refine wpAnyH_ready (rs := [16]) (by kernel_rfl) (by simp) ?_
                refine AllReadyH.cons rfl (fun KK hKK => ?_) AllReadyH.nil
                go_simp
                refine (HHS.out we (HA0b.out.trans (HT.out.trans HAD2.out)) y.n y.c HDY.out).mono ?_
                rintro _ w6 ⟨rfl, a6⟩
                have HA6 : Hid (Apart [] wr w6) := HAD2.out.trans a6
                clear a6
                rw [← HKY.out]
                obtain ⟨kb, Hkb⟩ : ∃ kb, Hid (kb = kn st v ry) := ⟨_, rfl⟩
                rw [← Hkb.out] at HNXc ⊢
                try dsimp only
                refine hKK.out _ _ HA6.out (fun hHeld => ?_)
                clear hKK KK
                cases kb
                case false =>
                  refine tk 17 85 (.bool false) rfl ?_ ?_
                  · intro W hSW; go_simp
                  simp only [Act.put, List.setIfInBounds_toArray, List.set_cons_zero, List.set_cons_succ]
                  refine tu 18 86 rfl ?_
                  simp only [Act.put, List.setIfInBounds_toArray, List.set_cons_zero, List.set_cons_succ]
                  refine tu 19 87 rfl ?_
                  simp only [Act.put, List.setIfInBounds_toArray, List.set_cons_zero, List.set_cons_succ]
                  refine tu 20 88 rfl ?_
                  simp only [Act.put, List.setIfInBounds_toArray, List.set_cons_zero, List.set_cons_succ]
                  refine tu 21 89 rfl ?_
                  simp only [Act.put, List.setIfInBounds_toArray, List.set_cons_zero, List.set_cons_succ]
                  refine tu 22 90 rfl ?_
                  simp only [Act.put, List.setIfInBounds_toArray, List.set_cons_zero, List.set_cons_succ]
                  refine tu 23 91 rfl ?_
                  simp only [Act.put, List.setIfInBounds_toArray, List.set_cons_zero, List.set_cons_succ]
                  refine tu 24 92 rfl ?_
                  simp only [Act.put, List.setIfInBounds_toArray, List.set_cons_zero, List.set_cons_succ]
                  refine tu 25 93 rfl ?_
                  simp only [Act.put, List.setIfInBounds_toArray, List.set_cons_zero, List.set_cons_succ]
                  refine wpAnyH_pass 26 (by kernel_rfl) rfl (by kernel_rfl) (by assumption) ?_
                  simp only [Act.put, List.setIfInBounds_toArray, List.set_cons_zero, List.set_cons_succ]
                  refine tk 27 95 (.bool false) rfl ?_ ?_
                  · intro W hSW; go_simp
                  simp only [Act.put, List.setIfInBounds_toArray, List.set_cons_zero, List.set_cons_succ]
                  refine tk 28 96 (.bool false) rfl ?_ ?_
                  · intro W hSW; go_simp
                  simp only [Act.put, List.setIfInBounds_toArray, List.set_cons_zero, List.set_cons_succ]
                  refine tk 29 11 (.bool false) rfl ?_ ?_
                  · intro W hSW; go_simp
                  simp only [Act.put, List.setIfInBounds_toArray, List.set_cons_zero, List.set_cons_succ]
                  refine wpAnyH_done (by kernel_rfl) ?_ _
                  clear hHeld
                  go_wp2_with fail
                  go_roundw
                  case rel => exact ⟨j + 1, by rw [HNXc.out]; rfl, by go_num, by omega, HT.out.trans HA6.out⟩
                  case measure => simp [intOf]; omega
                case true =>
                  refine tk 17 85 (.bool true) rfl ?_ ?_
                  · intro W hSW; go_simp
                  simp only [Act.put, List.setIfInBounds_toArray, List.set_cons_zero, List.set_cons_succ]
                  refine tk 18 86 (.pointer (some ⟨X, 0, none⟩)) rfl ?_ ?_
                  · intro W hSW; go_simp
                  simp only [Act.put, List.setIfInBounds_toArray, List.set_cons_zero, List.set_cons_succ]
                  refine tk 19 87 (.pointer (some ⟨X, 0, none⟩)) rfl ?_ ?_
                  · intro W hSW; go_simp
                  simp only [Act.put, List.setIfInBounds_toArray, List.set_cons_zero, List.set_cons_succ]
                  refine tk 20 88 (.pointer (some ⟨X, 12, none⟩)) rfl ?_ ?_
                  · intro W hSW; go_simp
                  simp only [Act.put, List.setIfInBounds_toArray, List.set_cons_zero, List.set_cons_succ]
                  refine tk 21 89 (.slice (some ⟨PM, om, none⟩) MN mc) rfl ?_ ?_
                  · intro W hSW; have z := HMD.out W hSW; go_simp
                  simp only [Act.put, List.setIfInBounds_toArray, List.set_cons_zero, List.set_cons_succ]
                  refine tk 22 90 (.int .i64 (j : Nat)) rfl ?_ ?_
                  · intro W hSW; go_simp
                  simp only [Act.put, List.setIfInBounds_toArray, List.set_cons_zero, List.set_cons_succ]
                  refine tk 23 91 (.pointer (some ⟨PM, om + j * 6, none⟩)) rfl ?_ ?_
                  · intro W hSW; go_simp <;> (first | omega | (intro hq; exfalso; omega))
                  simp only [Act.put, List.setIfInBounds_toArray, List.set_cons_zero, List.set_cons_succ]
                  refine tk 24 92 (.agg #[.int .i64 y.n, .int .i64 y.c, .string y.k, .bool y.d, .slice y.v.p y.v.n y.v.c, .slice y.x.p y.x.n y.x.c]) rfl ?_ ?_
                  · intro W hSW; obtain ⟨y0, y1, y2, y3, y4, y5⟩ := HCY.out W hSW; go_simp
                  simp only [Act.put, List.setIfInBounds_toArray, List.set_cons_zero, List.set_cons_succ]
                  refine tk 25 93 (.agg #[.int .i64 x.n, .int .i64 x.c, .string x.k, .bool x.d, .slice x.v.p x.v.n x.v.c, .slice x.x.p x.x.n x.x.c]) rfl ?_ ?_
                  · intro W hSW; obtain ⟨x0, x1, x2, x3, x4, x5⟩ := HBX.out W hSW; go_simp
                  simp only [Act.put, List.setIfInBounds_toArray, List.set_cons_zero, List.set_cons_succ]
                  refine wpAnyH_ready (rs := [26]) (by kernel_rfl) (by simp) ?_
                  refine AllReadyH.cons rfl (fun KK hKK => ?_) AllReadyH.nil
                  go_simp
                  refine (HCV.out w6 HA6.out).mono ?_
                  rintro _ w7 ⟨rfl, a7⟩
                  have HA7 : Hid (Apart [] wr w7) := HA6.out.trans a7
                  clear a7
                  obtain ⟨cb, Hcb⟩ : ∃ cb, Hid (cb = cvW ry rx) := ⟨_, rfl⟩
                  rw [← Hcb.out] at HNXc ⊢
                  try dsimp only
                  refine hKK.out _ _ HA7.out (fun hHeld => ?_)
                  clear hKK KK
                  refine tk 27 95 (.bool cb) rfl ?_ ?_
                  · intro W hSW; go_simp
                  simp only [Act.put, List.setIfInBounds_toArray, List.set_cons_zero, List.set_cons_succ]
                  refine tk 28 96 (.bool cb) rfl ?_ ?_
                  · intro W hSW; go_simp
                  simp only [Act.put, List.setIfInBounds_toArray, List.set_cons_zero, List.set_cons_succ]
                  refine tk 29 11 (.bool cb) rfl ?_ ?_
                  · intro W hSW; go_simp
                  simp only [Act.put, List.setIfInBounds_toArray, List.set_cons_zero, List.set_cons_succ]
                  refine wpAnyH_done (by kernel_rfl) ?_ _
                  clear hHeld
                  go_wp2_with fail
                  go_roundw
                  case rel => exact ⟨j + 1, by rw [HNXc.out]; rfl, by go_num, by omega, HT.out.trans HA7.out⟩
                  case measure => simp [intOf]; omega
            · have hnj : ¬ ((j : Nat) : Int) < (MN : Int) := by omega
              have HTK : Hid ((st.made.take j).any (cvd2 st v rx) = st.made.any (cvd2 st v rx)) := by
                unfold Hid; rw [List.take_of_length_le (by rw [← HMN.out]; omega)]
              rw [HTK.out]
              have HPE : Hid (pA st v k rx = !(st.made.any (cvd2 st v rx))) := by
                unfold Hid pA
                rw [HKN.out, ← HRx.out.1.k, HKQ.out]; simp
              obtain ⟨cv, Hcv⟩ : ∃ cv, Hid (cv = st.made.any (cvd2 st v rx)) := ⟨_, rfl⟩
              rw [← Hcv.out] at HPE ⊢
              cases cv
              case true =>
                have HCE : Hid (((st.made.take (i + 1)).filter (pA st v k)).length = cn) := by unfold Hid; rw [HNX.out, HPE.out]; simp
                go_wp2_with fail
                go_roundw
                case rel => exact ⟨i + 1, by rw [HCE.out], by go_num, by omega, HA0b.out.trans HT.out⟩
                case measure => simp [intOf]; omega
              case false =>
                have HCE : Hid (((st.made.take (i + 1)).filter (pA st v k)).length = cn + 1) := by unfold Hid; rw [HNX.out, HPE.out]; simp
                have HMEM : Hid (rx ∈ st.sb v k) := (pA_iff HI.out hv hk HRx.out.2).1 (by rw [HPE.out]; rfl)
                have hps0 : 0 < SN := by rw [HSN.out]; exact List.length_pos_of_mem HMEM.out
                obtain ⟨PS, os, hps, hPl2, hcs2⟩ := ((HFS.out.kept (HA0b.out.trans HT.out)).le (by show SN ≤ 2000000; omega)).at hps0
                simp only at hps
                subst hps
                have HSC : Hid (∀ W, Apart [] wr W → ∀ j, j < SN → W.cell? ⟨PS, os + j * 6, none⟩ = some (.int .i64 (gE (g.se v k) j).n) ∧ W.cell? ⟨PS, os + j * 6 + 1, none⟩ = some (.int .i64 (gE (g.se v k) j).c) ∧ W.cell? ⟨PS, os + j * 6 + 2, none⟩ = some (.string (gE (g.se v k) j).k) ∧ W.cell? ⟨PS, os + j * 6 + 3, none⟩ = some (.bool (gE (g.se v k) j).d) ∧ W.cell? ⟨PS, os + j * 6 + 4, none⟩ = some (.slice (gE (g.se v k) j).v.p (gE (g.se v k) j).v.n (gE (g.se v k) j).v.c) ∧ W.cell? ⟨PS, os + j * 6 + 5, none⟩ = some (.slice (gE (g.se v k) j).x.p (gE (g.se v k) j).x.n (gE (g.se v k) j).x.c)) := fun W a j hj => by
                  obtain ⟨k0, k1, k2, k3, k4, k5⟩ := hcs2 j hj
                  exact ⟨(a.cell hPl2 (by simp)).trans k0, (a.cell hPl2 (by simp)).trans k1, (a.cell hPl2 (by simp)).trans k2, (a.cell hPl2 (by simp)).trans k3, (a.cell hPl2 (by simp)).trans k4, (a.cell hPl2 (by simp)).trans k5⟩
                have HRS : Hid (∀ j, j < SN → Reads wr (gE (g.se v k) j) (gR (st.sb v k) j) ∧ gR (st.sb v k) j ∈ st.made) := fun j hj => ⟨(HFS.out.kept (HA0b.out.trans HT.out)).reads j hj, by
                  have hm : gR (st.sb v k) j ∈ st.sb v k := by rw [gR_eq _ j (by rw [← HSN.out]; exact hj)]; exact List.getElem_mem _
                  exact (mem_mkK.1 (((HI.out.sib v hv k hk).mem _).1 hm).1).1⟩
                have HRxw : Hid (Reads wr x rx) := HRxb.out.kept0 HT.out
                have HFS2 : Hid (((st.sb v k).take SN).any (fun y => deqW y rx) = true) := by
                  unfold Hid
                  rw [List.take_of_length_le (by rw [← HSN.out]; exact Nat.le_refl _), List.any_eq_true]
                  exact ⟨rx, HMEM.out, by simp [deqW]⟩
                clear hcs2
                go_wp2_with fail
                go_loopw [13, 14] (fun a b wt => ∃ j : Nat, a = .bool (((st.sb v k).take j).any (fun y => deqW y rx)) ∧ b = .int .i64 (j : Nat) ∧ j ≤ SN ∧ Apart [] wr wt) (fun _ b _ => SN - (intOf b).toNat)
                case atStart => exact ⟨0, by simp, rfl, Nat.zero_le _, Apart.refl _ _⟩
                case round =>
                  obtain ⟨q, rfl, rfl, hq, ap⟩ := hrel
                  have HU := hid ap
                  clear ap
                  by_cases hql : q < SN
                  · have hqn : ((q : Nat) : Int) < (SN : Int) := by omega
                    obtain ⟨j0, Hj0⟩ : ∃ j0, Hid (j0 = j) := ⟨_, rfl⟩
                    have HBX : Hid (∀ W, Apart [] wr W → W.cell? ⟨BX, 0, none⟩ = some (.int .i64 x.n) ∧ W.cell? ⟨BX, 1, none⟩ = some (.int .i64 x.c) ∧ W.cell? ⟨BX, 2, none⟩ = some (.string x.k) ∧ W.cell? ⟨BX, 3, none⟩ = some (.bool x.d) ∧ W.cell? ⟨BX, 4, none⟩ = some (.slice x.v.p x.v.n x.v.c) ∧ W.cell? ⟨BX, 5, none⟩ = some (.slice x.x.p x.x.n x.x.c)) := fun W a => HBX0.out W (HT.out.trans (HU.out.trans a))
                    obtain ⟨y, Hy⟩ : ∃ y, Hid (y = gE (g.se v k) q) := ⟨_, rfl⟩
                    obtain ⟨ry, Hry⟩ : ∃ ry, Hid (ry = gR (st.sb v k) q) := ⟨_, rfl⟩
                    have HRy : Hid (Reads wr y ry ∧ ry ∈ st.made) := by
                      unfold Hid; rw [Hy.out, Hry.out]
                      exact ⟨(HRS.out q hql).1.kept0 HU.out, (HRS.out q hql).2⟩
                    have HCY : Hid (∀ W, Apart [] wr W → W.cell? ⟨PS, os + q * 6, none⟩ = some (.int .i64 y.n) ∧ W.cell? ⟨PS, os + q * 6 + 1, none⟩ = some (.int .i64 y.c) ∧ W.cell? ⟨PS, os + q * 6 + 2, none⟩ = some (.string y.k) ∧ W.cell? ⟨PS, os + q * 6 + 3, none⟩ = some (.bool y.d) ∧ W.cell? ⟨PS, os + q * 6 + 4, none⟩ = some (.slice y.v.p y.v.n y.v.c) ∧ W.cell? ⟨PS, os + q * 6 + 5, none⟩ = some (.slice y.x.p y.x.n y.x.c)) := fun W a => by
                      rw [Hy.out]; exact HSC.out W (HU.out.trans a) q hql
                    have HNXf : Hid (((st.sb v k).take (q + 1)).any (fun y => deqW y rx) = (((st.sb v k).take q).any (fun y => deqW y rx) || deqW ry rx)) := by
                      unfold Hid; rw [any_next _ _ q (by rw [← HSN.out]; exact hql), ← Hry.out]
                    have HDE : Hid (deqW ry rx = (decide (y.n = x.n) && decide (y.c = x.c))) := by
                      unfold Hid deqW; rw [HRy.out.1.n, HRy.out.1.c, HRxw.out.n, HRxw.out.c]
                    have HQ := hid (fun W => eql24 W y.n y.c x.n x.c)
                    obtain ⟨fv, Hfv⟩ : ∃ fv, Hid (fv = ((st.sb v k).take q).any (fun y => deqW y rx)) := ⟨_, rfl⟩
                    rw [← Hfv.out] at HNXf ⊢
                    go_upto_region 19 with fail
                    refine wp_region_held_drew (S := fun X => Apart [] wr X) (by kernel_rfl) (Apart.refl [] wr).drew (fun hHeld => ?_)
                    have HAD3 : Hid (Apart [] wr wr.drew) := (Apart.refl [] wr).drew
                    generalize wr.drew = wg at *
                    cases fv
                    case true =>
                      refine tk 0 106 (.bool true) rfl ?_ ?_
                      · intro W hSW; go_simp
                      simp only [Act.put, List.setIfInBounds_toArray, List.set_cons_zero, List.set_cons_succ]
                      refine tk 1 107 (.bool true) rfl ?_ ?_
                      · intro W hSW; go_simp
                      simp only [Act.put, List.setIfInBounds_toArray, List.set_cons_zero, List.set_cons_succ]
                      refine tu 2 108 rfl ?_
                      simp only [Act.put, List.setIfInBounds_toArray, List.set_cons_zero, List.set_cons_succ]
                      refine tu 3 109 rfl ?_
                      simp only [Act.put, List.setIfInBounds_toArray, List.set_cons_zero, List.set_cons_succ]
                      refine tu 4 110 rfl ?_
                      simp only [Act.put, List.setIfInBounds_toArray, List.set_cons_zero, List.set_cons_succ]
                      refine tu 5 111 rfl ?_
                      simp only [Act.put, List.setIfInBounds_toArray, List.set_cons_zero, List.set_cons_succ]
                      refine tu 6 112 rfl ?_
                      simp only [Act.put, List.setIfInBounds_toArray, List.set_cons_zero, List.set_cons_succ]
                      refine tu 7 113 rfl ?_
                      simp only [Act.put, List.setIfInBounds_toArray, List.set_cons_zero, List.set_cons_succ]
                      refine tu 8 114 rfl ?_
                      simp only [Act.put, List.setIfInBounds_toArray, List.set_cons_zero, List.set_cons_succ]
                      refine tu 9 115 rfl ?_
                      simp only [Act.put, List.setIfInBounds_toArray, List.set_cons_zero, List.set_cons_succ]
                      refine tu 10 116 rfl ?_
                      simp only [Act.put, List.setIfInBounds_toArray, List.set_cons_zero, List.set_cons_succ]
                      refine tu 11 117 rfl ?_
                      simp only [Act.put, List.setIfInBounds_toArray, List.set_cons_zero, List.set_cons_succ]
                      refine tu 12 118 rfl ?_
                      simp only [Act.put, List.setIfInBounds_toArray, List.set_cons_zero, List.set_cons_succ]
                      refine tu 13 119 rfl ?_
                      simp only [Act.put, List.setIfInBounds_toArray, List.set_cons_zero, List.set_cons_succ]
                      refine tu 14 120 rfl ?_
                      simp only [Act.put, List.setIfInBounds_toArray, List.set_cons_zero, List.set_cons_succ]
                      refine tu 15 121 rfl ?_
                      simp only [Act.put, List.setIfInBounds_toArray, List.set_cons_zero, List.set_cons_succ]
                      refine tu 16 122 rfl ?_
                      simp only [Act.put, List.setIfInBounds_toArray, List.set_cons_zero, List.set_cons_succ]
                      refine tu 17 123 rfl ?_
                      simp only [Act.put, List.setIfInBounds_toArray, List.set_cons_zero, List.set_cons_succ]
                      refine tu 18 124 rfl ?_
                      simp only [Act.put, List.setIfInBounds_toArray, List.set_cons_zero, List.set_cons_succ]
                      refine tu 19 125 rfl ?_
                      simp only [Act.put, List.setIfInBounds_toArray, List.set_cons_zero, List.set_cons_succ]
                      refine tu 20 126 rfl ?_
                      simp only [Act.put, List.setIfInBounds_toArray, List.set_cons_zero, List.set_cons_succ]
                      refine tu 21 127 rfl ?_
                      simp only [Act.put, List.setIfInBounds_toArray, List.set_cons_zero, List.set_cons_succ]
                      refine tu 22 128 rfl ?_
                      simp only [Act.put, List.setIfInBounds_toArray, List.set_cons_zero, List.set_cons_succ]
                      refine tu 23 129 rfl ?_
                      simp only [Act.put, List.setIfInBounds_toArray, List.set_cons_zero, List.set_cons_succ]
                      refine tu 24 130 rfl ?_
                      simp only [Act.put, List.setIfInBounds_toArray, List.set_cons_zero, List.set_cons_succ]
                      refine tu 25 131 rfl ?_
                      simp only [Act.put, List.setIfInBounds_toArray, List.set_cons_zero, List.set_cons_succ]
                      refine tu 26 132 rfl ?_
                      simp only [Act.put, List.setIfInBounds_toArray, List.set_cons_zero, List.set_cons_succ]
                      refine tu 27 133 rfl ?_
                      simp only [Act.put, List.setIfInBounds_toArray, List.set_cons_zero, List.set_cons_succ]
                      refine tu 28 134 rfl ?_
                      simp only [Act.put, List.setIfInBounds_toArray, List.set_cons_zero, List.set_cons_succ]
                      refine tu 29 135 rfl ?_
                      simp only [Act.put, List.setIfInBounds_toArray, List.set_cons_zero, List.set_cons_succ]
                      refine tu 30 136 rfl ?_
                      simp only [Act.put, List.setIfInBounds_toArray, List.set_cons_zero, List.set_cons_succ]
                      refine tu 31 137 rfl ?_
                      simp only [Act.put, List.setIfInBounds_toArray, List.set_cons_zero, List.set_cons_succ]
                      refine tk 32 138 (.bool true) rfl ?_ ?_
                      · intro W hSW; go_simp
                      simp only [Act.put, List.setIfInBounds_toArray, List.set_cons_zero, List.set_cons_succ]
                      refine tk 33 13 (.bool true) rfl ?_ ?_
                      · intro W hSW; go_simp
                      simp only [Act.put, List.setIfInBounds_toArray, List.set_cons_zero, List.set_cons_succ]
                      refine wpAnyH_done (by kernel_rfl) ?_ _
                      clear hHeld
                      go_wp2_with fail
                      go_roundw
                      case rel => exact ⟨q + 1, by rw [HNXf.out]; rfl, by go_num, by omega, HU.out.trans HAD3.out⟩
                      case measure => simp [intOf]; omega
                    case false =>
                      refine tk 0 106 (.bool false) rfl ?_ ?_
                      · intro W hSW; go_simp
                      simp only [Act.put, List.setIfInBounds_toArray, List.set_cons_zero, List.set_cons_succ]
                      refine tk 1 107 (.bool false) rfl ?_ ?_
                      · intro W hSW; go_simp
                      simp only [Act.put, List.setIfInBounds_toArray, List.set_cons_zero, List.set_cons_succ]
                      refine tk 2 108 (.slice (some ⟨PS, os, none⟩) SN sx) rfl ?_ ?_
                      · intro W hSW; go_simp
                      simp only [Act.put, List.setIfInBounds_toArray, List.set_cons_zero, List.set_cons_succ]
                      refine tk 3 109 (.int .i64 (q : Nat)) rfl ?_ ?_
                      · intro W hSW; go_simp
                      simp only [Act.put, List.setIfInBounds_toArray, List.set_cons_zero, List.set_cons_succ]
                      refine tk 4 110 (.pointer (some ⟨PS, os + q * 6, none⟩)) rfl ?_ ?_
                      · intro W hSW; go_simp <;> (first | omega | (intro hq; exfalso; omega))
                      simp only [Act.put, List.setIfInBounds_toArray, List.set_cons_zero, List.set_cons_succ]
                      refine tk 5 111 (.pointer (some ⟨PS, os + q * 6, none⟩)) rfl ?_ ?_
                      · intro W hSW; go_simp
                      simp only [Act.put, List.setIfInBounds_toArray, List.set_cons_zero, List.set_cons_succ]
                      refine tk 6 112 (.agg #[.int .i64 y.n, .int .i64 y.c]) rfl ?_ ?_
                      · intro W hSW; obtain ⟨y0, y1, y2, y3, y4, y5⟩ := HCY.out W hSW; go_simp
                      simp only [Act.put, List.setIfInBounds_toArray, List.set_cons_zero, List.set_cons_succ]
                      refine tk 7 113 (.pointer (some ⟨BX, 0, none⟩)) rfl ?_ ?_
                      · intro W hSW; go_simp
                      simp only [Act.put, List.setIfInBounds_toArray, List.set_cons_zero, List.set_cons_succ]
                      refine tk 8 114 (.agg #[.int .i64 x.n, .int .i64 x.c]) rfl ?_ ?_
                      · intro W hSW; obtain ⟨x0, x1, x2, x3, x4, x5⟩ := HBX.out W hSW; go_simp
                      simp only [Act.put, List.setIfInBounds_toArray, List.set_cons_zero, List.set_cons_succ]
                      cases hdq : (decide (y.n = x.n) && decide (y.c = x.c))
                      case false =>
                        rw [hdq] at HDE
                        rw [HDE.out] at HNXf
                        refine tk 9 115 (.bool false) rfl ?_ ?_
                        · intro W hSW; have hq := HQ.out W; have hg := guard24; have e := hdq; simp at e; (go_simp; exact e)
                        simp only [Act.put, List.setIfInBounds_toArray, List.set_cons_zero, List.set_cons_succ]
                        refine tk 10 116 (.bool false) rfl ?_ ?_
                        · intro W hSW; go_simp
                        simp only [Act.put, List.setIfInBounds_toArray, List.set_cons_zero, List.set_cons_succ]
                        refine tu 11 117 rfl ?_
                        simp only [Act.put, List.setIfInBounds_toArray, List.set_cons_zero, List.set_cons_succ]
                        refine tu 12 118 rfl ?_
                        simp only [Act.put, List.setIfInBounds_toArray, List.set_cons_zero, List.set_cons_succ]
                        refine tu 13 119 rfl ?_
                        simp only [Act.put, List.setIfInBounds_toArray, List.set_cons_zero, List.set_cons_succ]
                        refine tu 14 120 rfl ?_
                        simp only [Act.put, List.setIfInBounds_toArray, List.set_cons_zero, List.set_cons_succ]
                        refine tu 15 121 rfl ?_
                        simp only [Act.put, List.setIfInBounds_toArray, List.set_cons_zero, List.set_cons_succ]
                        refine tu 16 122 rfl ?_
                        simp only [Act.put, List.setIfInBounds_toArray, List.set_cons_zero, List.set_cons_succ]
                        refine tu 17 123 rfl ?_
                        simp only [Act.put, List.setIfInBounds_toArray, List.set_cons_zero, List.set_cons_succ]
                        refine tu 18 124 rfl ?_
                        simp only [Act.put, List.setIfInBounds_toArray, List.set_cons_zero, List.set_cons_succ]
                        refine tk 19 125 (.bool false) rfl ?_ ?_
                        · intro W hSW; go_simp
                        simp only [Act.put, List.setIfInBounds_toArray, List.set_cons_zero, List.set_cons_succ]
                        refine tk 20 126 (.bool false) rfl ?_ ?_
                        · intro W hSW; go_simp
                        simp only [Act.put, List.setIfInBounds_toArray, List.set_cons_zero, List.set_cons_succ]
                        refine tu 21 127 rfl ?_
                        simp only [Act.put, List.setIfInBounds_toArray, List.set_cons_zero, List.set_cons_succ]
                        refine tu 22 128 rfl ?_
                        simp only [Act.put, List.setIfInBounds_toArray, List.set_cons_zero, List.set_cons_succ]
                        refine tu 23 129 rfl ?_
                        simp only [Act.put, List.setIfInBounds_toArray, List.set_cons_zero, List.set_cons_succ]
                        refine tu 24 130 rfl ?_
                        simp only [Act.put, List.setIfInBounds_toArray, List.set_cons_zero, List.set_cons_succ]
                        refine tu 25 131 rfl ?_
                        simp only [Act.put, List.setIfInBounds_toArray, List.set_cons_zero, List.set_cons_succ]
                        refine tu 26 132 rfl ?_
                        simp only [Act.put, List.setIfInBounds_toArray, List.set_cons_zero, List.set_cons_succ]
                        refine tu 27 133 rfl ?_
                        simp only [Act.put, List.setIfInBounds_toArray, List.set_cons_zero, List.set_cons_succ]
                        refine tu 28 134 rfl ?_
                        simp only [Act.put, List.setIfInBounds_toArray, List.set_cons_zero, List.set_cons_succ]
                        refine tu 29 135 rfl ?_
                        simp only [Act.put, List.setIfInBounds_toArray, List.set_cons_zero, List.set_cons_succ]
                        refine tu 30 136 rfl ?_
                        simp only [Act.put, List.setIfInBounds_toArray, List.set_cons_zero, List.set_cons_succ]
                        refine tk 31 137 (.bool false) rfl ?_ ?_
                        · intro W hSW; go_simp
                        simp only [Act.put, List.setIfInBounds_toArray, List.set_cons_zero, List.set_cons_succ]
                        refine tk 32 138 (.bool false) rfl ?_ ?_
                        · intro W hSW; go_simp
                        simp only [Act.put, List.setIfInBounds_toArray, List.set_cons_zero, List.set_cons_succ]
                        refine tk 33 13 (.bool false) rfl ?_ ?_
                        · intro W hSW; go_simp
                        simp only [Act.put, List.setIfInBounds_toArray, List.set_cons_zero, List.set_cons_succ]
                        refine wpAnyH_done (by kernel_rfl) ?_ _
                        clear hHeld
                        go_wp2_with fail
                        go_roundw
                        case rel => exact ⟨q + 1, by rw [HNXf.out]; rfl, by go_num, by omega, HU.out.trans HAD3.out⟩
                        case measure => simp [intOf]; omega
                      case true =>
                        rw [hdq] at HDE
                        rw [HDE.out] at HNXf
                        have HEQ : Hid (ry = rx) := by
                          refine HI.out.dd ry HRy.out.2 rx HRx.out.2 ?_
                          have := HDE.out
                          unfold deqW at this
                          rw [Bool.and_eq_true, decide_eq_true_eq, decide_eq_true_eq] at this
                          unfold dtW; rw [this.1, this.2]
                        have HKK : Hid ((y.k.toList == x.k.toList) = true) := by
                          unfold Hid; rw [HRy.out.1.k, HRxw.out.k, HEQ.out]; simp
                        obtain ⟨bs, Hbs⟩ : ∃ bs, Hid (bs = strB rx.vs) := ⟨_, rfl⟩
                        have HC1 : Hid (∀ W, Apart [] wr W → Sem.run Tryd.prog (convert 25 9 (.slice y.v.p y.v.n y.v.c)) W = .ok (.string bs) W) := fun W a => by
                          rw [Hbs.out, ← HEQ.out]
                          exact conv_bytes (HRy.out.1.v.kept0 a) HRy.out.1.vn HRy.out.1.vo
                        have HC2 : Hid (∀ W, Apart [] wr W → Sem.run Tryd.prog (convert 25 9 (.slice x.v.p x.v.n x.v.c)) W = .ok (.string bs) W) := fun W a => by
                          rw [Hbs.out]
                          exact conv_bytes (HRxw.out.v.kept0 (HU.out.trans a)) HRxw.out.vn HRxw.out.vo
                        refine tk 9 115 (.bool true) rfl ?_ ?_
                        · intro W hSW; have hq := HQ.out W; have hg := guard24; have e := hdq; simp at e; obtain ⟨e1, e2⟩ := e; (go_simp <;> simp [e1, e2])
                        simp only [Act.put, List.setIfInBounds_toArray, List.set_cons_zero, List.set_cons_succ]
                        refine tk 10 116 (.bool true) rfl ?_ ?_
                        · intro W hSW; go_simp
                        simp only [Act.put, List.setIfInBounds_toArray, List.set_cons_zero, List.set_cons_succ]
                        refine tk 11 117 (.slice (some ⟨PS, os, none⟩) SN sx) rfl ?_ ?_
                        · intro W hSW; go_simp
                        simp only [Act.put, List.setIfInBounds_toArray, List.set_cons_zero, List.set_cons_succ]
                        refine tk 12 118 (.int .i64 (q : Nat)) rfl ?_ ?_
                        · intro W hSW; go_simp
                        simp only [Act.put, List.setIfInBounds_toArray, List.set_cons_zero, List.set_cons_succ]
                        refine tk 13 119 (.pointer (some ⟨PS, os + q * 6, none⟩)) rfl ?_ ?_
                        · intro W hSW; go_simp <;> (first | omega | (intro hq; exfalso; omega))
                        simp only [Act.put, List.setIfInBounds_toArray, List.set_cons_zero, List.set_cons_succ]
                        refine tk 14 120 (.pointer (some ⟨PS, os + q * 6 + 2, none⟩)) rfl ?_ ?_
                        · intro W hSW; go_simp
                        simp only [Act.put, List.setIfInBounds_toArray, List.set_cons_zero, List.set_cons_succ]
                        refine tk 15 121 (.string y.k) rfl ?_ ?_
                        · intro W hSW; obtain ⟨y0, y1, y2, y3, y4, y5⟩ := HCY.out W hSW; go_simp
                        simp only [Act.put, List.setIfInBounds_toArray, List.set_cons_zero, List.set_cons_succ]
                        refine tk 16 122 (.pointer (some ⟨BX, 2, none⟩)) rfl ?_ ?_
                        · intro W hSW; go_simp
                        simp only [Act.put, List.setIfInBounds_toArray, List.set_cons_zero, List.set_cons_succ]
                        refine tk 17 123 (.string x.k) rfl ?_ ?_
                        · intro W hSW; obtain ⟨x0, x1, x2, x3, x4, x5⟩ := HBX.out W hSW; go_simp
                        simp only [Act.put, List.setIfInBounds_toArray, List.set_cons_zero, List.set_cons_succ]
                        refine tk 18 124 (.bool true) rfl ?_ ?_
                        · intro W hSW; have hq := HKK.out; go_simp
                        simp only [Act.put, List.setIfInBounds_toArray, List.set_cons_zero, List.set_cons_succ]
                        refine tk 19 125 (.bool true) rfl ?_ ?_
                        · intro W hSW; go_simp
                        simp only [Act.put, List.setIfInBounds_toArray, List.set_cons_zero, List.set_cons_succ]
                        refine tk 20 126 (.bool true) rfl ?_ ?_
                        · intro W hSW; go_simp
                        simp only [Act.put, List.setIfInBounds_toArray, List.set_cons_zero, List.set_cons_succ]
                        refine tk 21 127 (.slice (some ⟨PS, os, none⟩) SN sx) rfl ?_ ?_
                        · intro W hSW; go_simp
                        simp only [Act.put, List.setIfInBounds_toArray, List.set_cons_zero, List.set_cons_succ]
                        refine tk 22 128 (.int .i64 (q : Nat)) rfl ?_ ?_
                        · intro W hSW; go_simp
                        simp only [Act.put, List.setIfInBounds_toArray, List.set_cons_zero, List.set_cons_succ]
                        refine tk 23 129 (.pointer (some ⟨PS, os + q * 6, none⟩)) rfl ?_ ?_
                        · intro W hSW; go_simp <;> (first | omega | (intro hq; exfalso; omega))
                        simp only [Act.put, List.setIfInBounds_toArray, List.set_cons_zero, List.set_cons_succ]
                        refine tk 24 130 (.pointer (some ⟨PS, os + q * 6 + 4, none⟩)) rfl ?_ ?_
                        · intro W hSW; go_simp
                        simp only [Act.put, List.setIfInBounds_toArray, List.set_cons_zero, List.set_cons_succ]
                        refine tk 25 131 (.slice y.v.p y.v.n y.v.c) rfl ?_ ?_
                        · intro W hSW; obtain ⟨y0, y1, y2, y3, y4, y5⟩ := HCY.out W hSW; go_simp
                        simp only [Act.put, List.setIfInBounds_toArray, List.set_cons_zero, List.set_cons_succ]
                        refine tk 26 132 (.string bs) rfl ?_ ?_
                        · intro W hSW; have z := HC1.out W hSW; go_simp
                        simp only [Act.put, List.setIfInBounds_toArray, List.set_cons_zero, List.set_cons_succ]
                        refine tk 27 133 (.pointer (some ⟨BX, 4, none⟩)) rfl ?_ ?_
                        · intro W hSW; go_simp
                        simp only [Act.put, List.setIfInBounds_toArray, List.set_cons_zero, List.set_cons_succ]
                        refine tk 28 134 (.slice x.v.p x.v.n x.v.c) rfl ?_ ?_
                        · intro W hSW; obtain ⟨x0, x1, x2, x3, x4, x5⟩ := HBX.out W hSW; go_simp
                        simp only [Act.put, List.setIfInBounds_toArray, List.set_cons_zero, List.set_cons_succ]
                        refine tk 29 135 (.string bs) rfl ?_ ?_
                        · intro W hSW; have z := HC2.out W hSW; go_simp
                        simp only [Act.put, List.setIfInBounds_toArray, List.set_cons_zero, List.set_cons_succ]
                        refine tk 30 136 (.bool true) rfl ?_ ?_
                        · intro W hSW; go_simp
                        simp only [Act.put, List.setIfInBounds_toArray, List.set_cons_zero, List.set_cons_succ]
                        refine tk 31 137 (.bool true) rfl ?_ ?_
                        · intro W hSW; go_simp
                        simp only [Act.put, List.setIfInBounds_toArray, List.set_cons_zero, List.set_cons_succ]
                        refine tk 32 138 (.bool true) rfl ?_ ?_
                        · intro W hSW; go_simp
                        simp only [Act.put, List.setIfInBounds_toArray, List.set_cons_zero, List.set_cons_succ]
                        refine tk 33 13 (.bool true) rfl ?_ ?_
                        · intro W hSW; go_simp
                        simp only [Act.put, List.setIfInBounds_toArray, List.set_cons_zero, List.set_cons_succ]
                        refine wpAnyH_done (by kernel_rfl) ?_ _
                        clear hHeld
                        go_wp2_with fail
                        go_roundw
                        case rel => exact ⟨q + 1, by rw [HNXf.out]; rfl, by go_num, by omega, HU.out.trans HAD3.out⟩
                        case measure => simp [intOf]; omega
                  · obtain rfl : q = SN := by omega
                    rw [HFS2.out]
                    have hqn : ¬ ((q : Nat) : Int) < (q : Int) := by omega
                    have hcn := HFL.out
                    go_wp2_with fail
                    go_roundw
                    case rel => exact ⟨i + 1, by rw [HCE.out]; exact congrArg (Value.int .i64) (by unfold wrap64; omega), by go_num, by omega, HA0b.out.trans (HT.out.trans HU.out)⟩
                    case measure => simp [intOf]; omega
    · skip
      have hni : ¬ ((i : Nat) : Int) < (MN : Int) := by omega
      have HTK : Hid (((st.made.take i).filter (pA st v k)).length = SN) := by
        unfold Hid; rw [List.take_of_length_le (by rw [← HMN.out]; omega), pA_len HI.out hv hk, HSN.out]
      rw [HTK.out]
      go_wp2_with fail
      clear z0
      go_loopw [15] (fun a wt => ∃ j : Nat, a = .int .i64 (j : Nat) ∧ 1 ≤ j ∧ (j ≤ SN ∨ j = 1) ∧ Apart [] w0 wt) (fun a _ => SN - (intOf a).toNat)
      case atStart => exact ⟨1, rfl, by omega, .inr rfl, HA.out⟩
      case round =>
        obtain ⟨j, rfl, hj1, hj, ap⟩ := hrel
        have HB := hid ap
        clear ap
        by_cases hjl : j < SN
        · have hjn : ((j : Nat) : Int) < (SN : Int) := by omega
          obtain ⟨t, ht⟩ : ∃ t, t = j - 1 := ⟨_, rfl⟩
          have hwt : wrap64 (((j : Nat) : Int) - 1) = ((t : Nat) : Int) := by
            unfold wrap64; omega
          obtain ⟨PS, os, hps, hPl, hcs⟩ := ((HFS.out.kept HB.out).le (by show SN ≤ 2000000; omega)).at (by show 0 < SN; omega)
          simp only at hps
          subst hps
          obtain ⟨k0, k1, -, -, -, -⟩ := hcs t (by show t < SN; omega)
          obtain ⟨l0, l1, -, -, -, -⟩ := hcs j hjl
          have hbl : belowW (gR (st.sb v k) t) (gR (st.sb v k) j) = true := by
            have hu := (HI.out.sib v hv k hk).up
            have h1 : j < (st.sb v k).length := by rw [← HSN.out]; exact hjl
            rw [gR_eq _ t (by omega), gR_eq _ j h1]
            exact List.pairwise_iff_getElem.1 hu t j (by omega) h1 (by omega)
          have R1 := (HFS.out.kept HB.out).reads t (by show t < SN; omega)
          have R2 := (HFS.out.kept HB.out).reads j hjl
          unfold belowW at hbl
          rw [← R1.n, ← R1.c, ← R2.n, ← R2.c] at hbl
          clear R1 R2 hcs
          rw [ht] at k0 k1 hwt
          have htl : (((j - 1 : Nat) : Nat) : Int) < (SN : Int) := by omega
          rw [ht] at hbl
          clear ht t
          generalize gE (g.se v k) (j - 1) = y at *
          generalize gE (g.se v k) j = x at *
          have HD2 : Hid (Apart [] w0 ((wr.alloc (.cells #[.int .i64 y.n, .int .i64 y.c] 24 (0, 0))).alloc (.cells #[.int .i64 x.n, .int .i64 x.c] 24 (0, 0)))) := (HB.out.alloc _).alloc _
          have m0 : (wr.alloc (.cells #[.int .i64 y.n, .int .i64 y.c] 24 (0, 0))).cell? ⟨PS, os + j * 6, none⟩ = some (.int .i64 x.n) := (((Apart.refl [] wr).alloc _).cell hPl (by simp)).trans l0
          have m1 : (wr.alloc (.cells #[.int .i64 y.n, .int .i64 y.c] 24 (0, 0))).cell? ⟨PS, os + j * 6 + 1, none⟩ = some (.int .i64 x.c) := (((Apart.refl [] wr).alloc _).cell hPl (by simp)).trans l1
          by_cases hb1 : y.n < x.n
          · clear hbl
            go_wp2_with fail
            go_roundw
            case rel => exact ⟨j + 1, by go_num, by omega, by omega, (HB.out.alloc _).alloc _⟩
            case measure => simp [intOf]; omega
          · have hb2 : y.n = x.n ∧ y.c < x.c := by
              simpa [hb1] using hbl
            obtain ⟨hb2, hb3⟩ := hb2
            clear hbl
            go_wp2_with fail
            go_roundw
            case rel => exact ⟨j + 1, by go_num, by omega, by omega, (HB.out.alloc _).alloc _⟩
            case measure => simp [intOf]; omega
        · have hjn : ¬ ((j : Nat) : Int) < (SN : Int) := by omega
          go_wp2_with fail
          go_ret
          exact ⟨by simp, HB.out⟩
end Go.Proofs.YtokaeiahhmaokaaDoor.ds
