import Derived.Test.YtokaeiahhmaokaaDoorW25
import Derived.Test.YtokaeiahhmaokaaDoorW12
import Derived.Test.YtokaeiahhmaokaaDoorW28
namespace Go.Proofs.YtokaeiahhmaokaaDoor.ds
open Go.ChangeShapes Go.WideShapes Go.ChangeAt Go.RowKit Go.Sort
set_option linter.unusedVariables false
set_option linter.unusedSimpArgs false
/-- all that is carried through the events -/
structure Inv2 (st : Wd) : Prop where
  inv : Inv st
  dv : ∀ r ∈ st.made, r.d = false ∧ r.vs.length = 1
  tc : ∀ q, q < 4 → (st.cl q).told.length ≤ 60
  tt : ∀ d ∈ st.told, d.length ≤ 2000000
theorem Inv2.took {st : Wd} (h : Inv2 st) {v k : Nat} (hv : v < 4) (hk : k < 2) {r : Wr} (hr : r ∈ st.made) (hrk : r.k = nmK k) (hm : st.made.length ≤ 60) : Inv2 (tookW st v k r) ∧ (tookW st v k r).made = st.made ∧ (tookW st v k r).told = st.told := by
  unfold tookW
  by_cases hh : hasd (st.ck v) r.n r.c = true
  · rw [if_pos hh]; exact ⟨h, rfl, rfl⟩
  · rw [if_neg hh]
    exact ⟨⟨h.inv.take hv hk hr hrk (by simpa using hh) hm, h.dv, h.tc, h.tt⟩, rfl, rfl⟩
theorem Inv2.put {st : Wd} (h : Inv2 st) {r : Wr} {ds : List (Int × Int)} (hI : Inv (putW st r ds)) (hr : r.d = false ∧ r.vs.length = 1 ∧ ds.length ≤ 2000000) : Inv2 (putW st r ds) :=
  ⟨hI, fun x hx => by
    rcases List.mem_append.1 (show x ∈ st.made ++ [r] from hx) with hx | hx
    · exact h.dv x hx
    · simp at hx; subst hx; exact ⟨hr.1, hr.2.1⟩, h.tc, fun x hx => by
    rcases List.mem_append.1 (show x ∈ st.told ++ [ds] from hx) with hx | hx
    · exact h.tt x hx
    · simp at hx; subst hx; exact hr.2.2⟩
theorem Inv2.get {st : Wd} (h : Inv2 st) {q k : Nat} {told : List (Int × Int)} {tok : List S} (hI : Inv (getW st q k told tok)) (hl : told.length ≤ 60) : Inv2 (getW st q k told tok) :=
  ⟨hI, h.dv, fun p hp => by
    show (upd st.cl q ⟨k, true, told, tok⟩ p).told.length ≤ 60
    by_cases e : p = q
    · subst e; rw [upd_eq]; exact hl
    · rw [upd_ne _ _ e]; exact h.tc p hp, h.tt⟩
theorem nmK_size (k : Nat) : (nmK k).size = 1 := by unfold nmK; split <;> rfl
/-- siblings are valid -/
theorem sib_valid {st : Wd} (h : Inv2 st) {v k : Nat} (hv : v < 4) (hk : k < 2) : rvalP (st.sb v k) (st.sb v k).length 64 := by
  have hs := h.inv.sib v hv k hk
  have hmem : ∀ i, i < (st.sb v k).length → gR (st.sb v k) i ∈ st.sb v k := fun i hi => by rw [gR_eq _ i hi]; exact List.getElem_mem _
  refine ⟨by omega, fun i hi => ⟨⟨?_, ?_, fun h0 => ?_⟩, fun j hj => ?_⟩⟩
  · rw [keq_iff, (mem_mkK.1 ((hs.mem _).1 (hmem i hi)).1).2, (mem_mkK.1 ((hs.mem _).1 (hmem 0 (by omega))).1).2]
  · have hx := (hs.mem _).1 (hmem i hi)
    generalize gR (st.sb v k) i = r at hx
    obtain ⟨hm, hkey⟩ := mem_mkK.1 hx.1
    obtain ⟨hd, hl⟩ := h.dv r hm
    have hw := (h.inv.vw r hm).1
    refine ⟨⟨by rw [hkey, nmK_size]; omega, by rw [hl]; decide, by rw [hd]; simp⟩, (isd_iff _ _).2 hw.dt, ?_, ?_⟩
    · unfold chk; rw [if_pos (by omega), if_pos hw.ok]
    · have hir := (h.inv.cls k hk).ir r hx.1
      unfold cvW at hir
      rw [(keq_iff _ _).2 rfl, Bool.true_and] at hir
      exact hir
  · have := List.pairwise_iff_getElem.1 hs.up (i - 1) i (by omega) hi (by omega)
    rw [gR_eq _ i hi, gR_eq _ (i - 1) (by omega)]
    exact this
  · have h1 := (hs.mem _).1 (hmem i hi)
    have h2 := (hs.mem _).1 (hmem j hj)
    exact h2.2.2 _ h1.1 h1.2.1
/-- a list that has the known ones' tops, and one more of them merged -/
theorem Sib.again {α : Type} {cov lt : α → α → Bool} {M : List α} {K : α → Prop} {l : List α} (h : Sib cov lt M K l) (hc : Cl cov M) {u : α} (hu : u ∈ M) (hK : K u) : u ∈ l ∨ mrgA cov lt l u = l := by
  by_cases hul : u ∈ l
  · exact .inl hul
  · right
    have hf : l.filter (fun t => !cov u t) = l := by
      rw [List.filter_eq_self]
      intro x hx
      rw [((h.mem x).1 hx).2.2 u hu hK]; rfl
    obtain ⟨m, hm, hkm, hmu, hmax⟩ := hc.top' K hu hK
    have hml : m ∈ l := (h.mem m).2 ⟨hm, hkm, hmax⟩
    have hcm : cov m u = true := by
      rcases hmu with e | e
      · subst e; exact absurd hml hul
      · exact e
    unfold mrgA
    rw [hf, if_pos (List.any_eq_true.2 ⟨m, hml, hcm⟩)]
theorem sib_mlist {made : List Wr} {k : Nat} (hc : Cl cvW (mkK k made)) (hd : ∀ x ∈ made, ∀ y ∈ made, dtW x = dtW y → x = y) (hm : made.length ≤ 60) {K : Wr → Prop} {l : List Wr} (h : Sib cvW belowW (mkK k made) K l) {u : Wr} (hu : u ∈ mkK k made) :
    merrW l u 1000 = 0 ∧ Sib cvW belowW (mkK k made) (fun x => K x ∨ x = u) (mlistW l u 1000) := by
  have hk0 : l.any (fun t => !keq t.k u.k) = false := by
    rw [List.any_eq_false]
    intro x hx
    have : keq x.k u.k = true := by rw [keq_iff, (mem_mkK.1 ((h.mem x).1 hx).1).2, (mem_mkK.1 hu).2]
    simp [this]
  have hlen : l.length ≤ 60 := by
    have hnd : l.Nodup := h.up.imp (fun {a b} hab e => by rw [e, belowW_ir] at hab; cases hab)
    exact Nat.le_trans (hnd.length_le_of_subset (fun x hx => (mem_mkK.1 ((h.mem x).1 hx).1).1)) hm
  have hml := mergeW_len l u
  have hlim : ¬ ((1000 : Int) < ((mergeW l u).length : Int)) := by omega
  unfold merrW mlistW
  simp only [hk0, if_neg hlim]
  by_cases hq : l.any (fun t => deqW t u) = true
  · simp only [hq]
    refine ⟨by simp, ?_⟩
    simp only [if_pos, Bool.false_eq_true, if_false]
    obtain ⟨t, ht, e⟩ := List.any_eq_true.1 hq
    have etu : t = u := hd t (mem_mkK.1 ((h.mem t).1 ht).1).1 u (mem_mkK.1 hu).1 (deqW_dt.1 e)
    subst etu
    exact h.congr (fun x hx => ⟨.inl, fun hh => hh.elim id (fun e => by rw [e]; exact ((h.mem t).1 ht).2.1)⟩)
  · simp only [if_neg hq]
    refine ⟨by simp, ?_⟩
    simp only [Bool.false_eq_true, if_false]
    rw [mergeW_A]
    by_cases hK : K u
    · rcases h.again hc hu hK with hul | e
      · exact absurd (show (l.any fun t => deqW t u) = true from List.any_eq_true.2 ⟨u, hul, deqW_dt.2 rfl⟩) hq
      · rw [e]
        exact h.congr (fun x hx => ⟨.inl, fun hh => hh.elim id (fun e => by rw [e]; exact hK)⟩)
    · exact h.merge hc (od_W (fun x hx y hy e => hd x (mem_mkK.1 hx).1 y (mem_mkK.1 hy).1 e)) hu hK
/-- what Gather makes of a list that has all writes of a key, and no others -/
theorem gath_all {made : List Wr} {k : Nat} (hc : Cl cvW (mkK k made)) (hd : ∀ x ∈ made, ∀ y ∈ made, dtW x = dtW y → x = y) {rs : List Wr} (hr : ∀ x, x ∈ rs ↔ x ∈ mkK k made) : Sib cvW belowW (mkK k made) (fun _ => True) (gathW rs) := by
  have hk : ∀ x ∈ rs, keq x.k (nmK k) = true := fun x hx => (keq_iff _ _).2 (mem_mkK.1 ((hr x).1 hx)).2
  have hd' : ∀ x ∈ rs, ∀ y ∈ rs, dtW x = dtW y → x = y := fun x hx y hy e => hd x (mem_mkK.1 ((hr x).1 hx)).1 y (mem_mkK.1 ((hr y).1 hy)).1 e
  obtain ⟨gup, gmem⟩ := gathW_mem hk hd'
  refine Sib.of_all gup (fun x => ?_)
  rw [gmem, hr]
  refine and_congr_right (fun hx => ⟨fun hh y hy => ?_, fun hh y hy hne => ?_⟩)
  · by_cases e : y = x
    · rw [e]; exact hc.ir x hx
    · unfold cvW
      rw [hh y ((hr y).2 hy) e, Bool.and_false]
  · have h1 := hh y ((hr y).1 hy)
    unfold cvW at h1
    rw [(keq_iff _ _).2 (show y.k = x.k by rw [(mem_mkK.1 ((hr y).1 hy)).2, (mem_mkK.1 hx).2]), Bool.true_and] at h1
    exact h1
/-- what a write covers -/
theorem closed_iff {st : Wd} (h : Inv st) {i j : Nat} (hi : i < st.made.length) (hj : j < st.made.length) (hk : (gR st.made j).k = (gR st.made i).k) :
    cvW (gR st.made i) (gR st.made j) = true ↔ dtW (gR st.made j) ∈ st.told.getD i [] ∨ ∃ m, m < st.made.length ∧ (gR st.made m).k = (gR st.made i).k ∧ dtW (gR st.made m) ∈ st.told.getD i [] ∧ cvW (gR st.made m) (gR st.made j) = true := by
  have hmem : ∀ i, i < st.made.length → gR st.made i ∈ st.made := fun i hi => by rw [gR_eq _ i hi]; exact List.getElem_mem _
  obtain ⟨k, hk2, hkey⟩ := (h.vw _ (hmem i hi)).2.2
  have ht := h.tld i hi k hk2 hkey
  have hjm : gR st.made j ∈ mkK k st.made := mem_mkK.2 ⟨hmem j hj, by rw [hk, hkey]⟩
  have e1 : cvW (gR st.made i) (gR st.made j) = true ↔ hasd (gR st.made i).xs (dtW (gR st.made j)).1 (dtW (gR st.made j)).2 = true := by
    unfold cvW dtW
    rw [Bool.and_eq_true, keq_iff]
    exact ⟨fun hh => hh.2, fun hh => ⟨hk.symm, hh⟩⟩
  rw [e1, ht.iff _ hjm]
  refine or_congr Iff.rfl ⟨?_, ?_⟩
  · rintro ⟨x, hx, h1, h2⟩
    obtain ⟨m, hm, e⟩ := List.getElem_of_mem (mem_mkK.1 hx).1
    refine ⟨m, hm, ?_⟩
    rw [gR_eq _ m hm, e]
    exact ⟨by rw [(mem_mkK.1 hx).2, hkey], h1, h2⟩
  · rintro ⟨m, hm, h0, h1, h2⟩
    exact ⟨_, mem_mkK.2 ⟨hmem m hm, by rw [h0, hkey]⟩, h1, h2⟩
theorem closed_tr {st : Wd} (h : Inv st) {i j m : Nat} (hi : i < st.made.length) (hj : j < st.made.length) (hm : m < st.made.length) (hkj : (gR st.made j).k = (gR st.made i).k) (hkm : (gR st.made m).k = (gR st.made i).k) (h1 : cvW (gR st.made i) (gR st.made m) = true) (h2 : cvW (gR st.made m) (gR st.made j) = true) : cvW (gR st.made i) (gR st.made j) = true := by
  have hmem : ∀ i, i < st.made.length → gR st.made i ∈ st.made := fun i hi => by rw [gR_eq _ i hi]; exact List.getElem_mem _
  obtain ⟨k, hk2, hkey⟩ := (h.vw _ (hmem i hi)).2.2
  exact (h.cls k hk2).tr _ (mem_mkK.2 ⟨hmem i hi, hkey⟩) _ (mem_mkK.2 ⟨hmem m hm, by rw [hkm, hkey]⟩) _ (mem_mkK.2 ⟨hmem j hj, by rw [hkj, hkey]⟩) h1 h2
end Go.Proofs.YtokaeiahhmaokaaDoor.ds
namespace Go.Proofs.YtokaeiahhmaokaaDoor.ds
open Go.ChangeShapes Go.WideShapes Go.ChangeAt Go.RowKit Go.Sort
set_option linter.unusedVariables false
set_option linter.unusedSimpArgs false
/-- what an event leaves -/
structure EvP (wB w' : World) (X : Nat) (z : Ending) (st : Wd) : Prop where
  ex : ∃ (st' : Wd) (g' : Gh), z = .returned (.bool true) ∧ Inv2 st' ∧ st'.made.length ≤ st.made.length + 1 ∧ WM wB w' X g' st'
set_option maxHeartbeats 32000000 in
set_option maxRecDepth 100000 in
theorem event_law {wB w0 : World} {X : Nat} {g : Gh} {st : Wd} (h : WM wB w0 X g st) (hI : Inv2 st) (TB : Tab wB) (hm : st.made.length ≤ 59) (e : Ev) (he : e.ok) :
    Calls Tryd.prog 45 #[.pointer (some ⟨X, 0, none⟩), e.agg] w0 fun z w' => EvP wB w' X z st := by
  obtain ⟨w1, hw1⟩ : ∃ w1, w1 = w0.alloc e.box := ⟨_, rfl⟩
  have HA1 : Hid (Apart [] w0 w1) := by unfold Hid; rw [hw1]; exact (Apart.refl [] w0).alloc _
  have HQ1 : Hid (w1.heap[w0.heap.size]? = some e.box) := by unfold Hid; rw [hw1]; exact heap_alloc_new w0 _
  obtain ⟨BE, HBE⟩ : ∃ BE, Hid (BE = w0.heap.size) := ⟨_, rfl⟩
  have HXlt : Hid (X < w0.heap.size) := by obtain ⟨c, hc⟩ := h.blkX; exact lt_of_heap hc
  have HXB : Hid (X ≠ BE) := by unfold Hid; rw [HBE.out]; have := HXlt.out; omega
  have HEB : Hid (w1.heap[BE]? = some e.box) := by unfold Hid; rw [HBE.out]; exact HQ1.out
  have HW := hid (h.kept HA1.out)
  have HI := hid hI
  have HTB := hid TB
  have HOK := hid he
  obtain ⟨b0, b1, b2, b3, b4⟩ := row5 HEB.out
  have HPUT := hid (put_law HW.out hI.inv TB hm (fun q hq => by have := hI.tc q hq; omega) e he)
  have HGET := hid (get_law HW.out hI.inv TB (by omega) e he)
  clear h hI TB he
  unfold Ev.box at hw1
  unfold Ev.agg at HPUT HGET ⊢
  by_cases h1 : e.a = 1
  · rw [h1] at hw1 HPUT b0
    go_enter Tryd.func45, Tryd.ntmps45
    go_wp2_with fail
    rw [← hw1]
    refine HPUT.out.mono ?_
    rintro _ w9 hp
    obtain ⟨r, ds, v, k, hv, hk, hIP, hmem, hrk, hdv, htk⟩ := hp.ex
    obtain ⟨g9, rfl, hg9⟩ := htk.ex
    have HF : Hid (EvP wB w9 X (.returned (.bool true)) st) := by
      have hl : (putW st r ds).made.length = st.made.length + 1 := by show (st.made ++ [r]).length = _; simp
      have h2 := (HI.out.put hIP hdv).took hv hk hmem hrk (by rw [hl]; omega)
      exact ⟨_, g9, rfl, h2.1, by rw [h2.2.1, hl]; omega, hg9⟩
    clear hp htk hg9 hIP hmem hrk hdv
    try dsimp only
    go_wp2_with fail
    go_ret
    exact HF.out
  by_cases h2 : e.a = 2
  · rw [h2] at hw1 HGET b0
    go_enter Tryd.func45, Tryd.ntmps45
    go_wp2_with fail
    rw [← hw1]
    refine HGET.out.mono ?_
    rintro _ w9 hp
    obtain ⟨q, k, told, tok, hq, hk, hl, hIP, htk⟩ := hp.ex
    obtain ⟨g9, rfl, hg9⟩ := htk.ex
    have HF : Hid (EvP wB w9 X (.returned (.bool true)) st) := ⟨_, g9, rfl, HI.out.get hIP hl, by show st.made.length ≤ _; omega, hg9⟩
    clear hp htk hg9 hIP hl
    try dsimp only
    go_wp2_with fail
    go_ret
    exact HF.out
  by_cases h3 : e.a = 3
  · rw [h3] at hw1 b0
    obtain ⟨⟨mp, MN, mc⟩, Hmm⟩ : ∃ mm, Hid (mm = g.m) := ⟨_, rfl⟩
    have HMN : Hid (MN = st.made.length) := by unfold Hid; rw [HW.out.md.len, ← Hmm.out]
    have HFM : Hid (FL wB w1 ⟨mp, MN, mc⟩ g.me st.made) := by unfold Hid; rw [Hmm.out]; exact HW.out.md
    have HC12 : Hid (w1.cell? ⟨X, 12, none⟩ = some (.slice mp MN mc)) := by unfold Hid; rw [HW.out.cell 12 (by omega), wc_made, ← Hmm.out]; rfl
    by_cases hM0 : 0 < MN
    · have hMi : ((MN : Nat) : Int) > 0 := by omega
      have hM59 : MN ≤ 59 := by rw [HMN.out]; exact hm
      obtain ⟨v, Hv⟩ : ∃ v, Hid (v = wth e.n 4) := ⟨_, rfl⟩
      obtain ⟨a, Ha⟩ : ∃ a, Hid (a = wth e.q MN) := ⟨_, rfl⟩
      have hv : v < 4 := by rw [Hv.out]; exact wth_lt _ (by omega)
      have ha : a < MN := by rw [Ha.out]; exact wth_lt _ hM0
      have HL4 : Hid (∀ W, Calls Tryd.prog 19 #[.int .i64 e.n, .int .i64 4] W fun r w' => r = .returned (.int .i64 (v : Nat)) ∧ w' = W) := fun W => by rw [Hv.out]; exact within4 e.n HOK.out.n W
      have HLa : Hid (∀ W, Calls Tryd.prog 19 #[.int .i64 e.q, .int .i64 (MN : Nat)] W fun r w' => r = .returned (.int .i64 (a : Nat)) ∧ w' = W) := fun W => by rw [Ha.out]; exact within_law e.q MN hM0 (by omega) HOK.out.q W
      obtain ⟨PM, om, hpm, hPl, hcs⟩ := (HFM.out.le (by show MN ≤ 2000000; omega)).at hM0
      simp only at hpm
      subst hpm
      have hcs := hcs a ha
      have HRD := hid (HFM.out.reads a ha)
      have HMEM : Hid (gR st.made a ∈ st.made) := by unfold Hid; rw [gR_eq _ a (by rw [← HMN.out]; exact ha)]; exact List.getElem_mem _
      generalize gE g.me a = x at *
      generalize gR st.made a = r at *
      obtain ⟨k, hk, hrk⟩ := (HI.out.inv.vw r HMEM.out).2.2
      have HPX : Hid (PM ≠ X) := by
        intro e0
        obtain ⟨cu, hc⟩ := HW.out.blkX
        have h5 := hcs.1
        have hnb : ∃ cur, w1.heap[PM]? = some (.cells cur 28 (0, 0)) := own_typ HFM.out.own.nw.own (k := PM) (by simp [Sl.v, Value.ownBlock])
        obtain ⟨cur, hc2⟩ := hnb
        rw [e0, hc] at hc2
        simp at hc2
      have HTO := hid (HI.out.took hv hk HMEM.out hrk (by omega))
      obtain ⟨c0, c1, c2, c3, c4, c5⟩ := hcs
      have HX0 : Hid (w1.cell? ⟨PM, om + a * 6, none⟩ = some (.int .i64 x.n) ∧ w1.cell? ⟨PM, om + a * 6 + 1, none⟩ = some (.int .i64 x.c) ∧ w1.cell? ⟨PM, om + a * 6 + 2, none⟩ = some (.string x.k) ∧ w1.cell? ⟨PM, om + a * 6 + 3, none⟩ = some (.bool x.d) ∧ w1.cell? ⟨PM, om + a * 6 + 4, none⟩ = some (.slice x.v.p x.v.n x.v.c) ∧ w1.cell? ⟨PM, om + a * 6 + 5, none⟩ = some (.slice x.x.p x.x.n x.x.c)) := ⟨c0, c1, c2, c3, c4, c5⟩
      have HPl := hid hPl
      clear c0 c1 c2 c3 c4 c5 hPl
      have z12 := HC12.out
      rw [hw1] at z12
      go_enter Tryd.func45, Tryd.ntmps45
      go_upto_region 8 with fail
      rw [← hw1, ← HBE.out]
      clear hw1 b0 b1 b2 b3 b4 z12
      have HB1 : Hid (∀ W, (Apart [X] w1 W ∧ W.cell? ⟨X, 12, none⟩ = some (.slice (some ⟨PM, om, none⟩) MN mc)) → W.cell? ⟨BE, 1, none⟩ = some (.int .i64 e.n) ∧ W.cell? ⟨BE, 3, none⟩ = some (.int .i64 e.q)) := fun W a => by
        obtain ⟨_, y1, _, y3, _⟩ := row5 ((a.1.block _ (lt_of_heap HEB.out) (by have := HXB.out; simp; omega)).trans HEB.out)
        exact ⟨y1, y3⟩
      have HM12 : Hid (∀ W, (Apart [X] w1 W ∧ W.cell? ⟨X, 12, none⟩ = some (.slice (some ⟨PM, om, none⟩) MN mc)) → W.cell? ⟨X, 12, none⟩ = some (.slice (some ⟨PM, om, none⟩) MN mc)) := fun W a => a.2
      have HXC : Hid (∀ W, (Apart [X] w1 W ∧ W.cell? ⟨X, 12, none⟩ = some (.slice (some ⟨PM, om, none⟩) MN mc)) → W.cell? ⟨PM, om + a * 6, none⟩ = some (.int .i64 x.n) ∧ W.cell? ⟨PM, om + a * 6 + 1, none⟩ = some (.int .i64 x.c) ∧ W.cell? ⟨PM, om + a * 6 + 2, none⟩ = some (.string x.k) ∧ W.cell? ⟨PM, om + a * 6 + 3, none⟩ = some (.bool x.d) ∧ W.cell? ⟨PM, om + a * 6 + 4, none⟩ = some (.slice x.v.p x.v.n x.v.c) ∧ W.cell? ⟨PM, om + a * 6 + 5, none⟩ = some (.slice x.x.p x.x.n x.x.c)) := fun W hh => by
        have hn : PM ∉ [X] := by have := HPX.out; simp; exact this
        obtain ⟨y0, y1, y2, y3, y4, y5⟩ := HX0.out
        exact ⟨(hh.1.cell HPl.out hn).trans y0, (hh.1.cell HPl.out hn).trans y1, (hh.1.cell HPl.out hn).trans y2, (hh.1.cell HPl.out hn).trans y3, (hh.1.cell HPl.out hn).trans y4, (hh.1.cell HPl.out hn).trans y5⟩
      refine wp_region_held_drew (S := fun W => Apart [X] w1 W ∧ W.cell? ⟨X, 12, none⟩ = some (.slice (some ⟨PM, om, none⟩) MN mc)) (by kernel_rfl) ⟨(Apart.refl [X] w1).drew, HC12.out⟩ (fun hHeld => ?_)
      have Twd : Hid (Apart [X] w1 w1.drew ∧ w1.drew.cell? ⟨X, 12, none⟩ = some (.slice (some ⟨PM, om, none⟩) MN mc)) := ⟨(Apart.refl [X] w1).drew, HC12.out⟩
      have Tw0 : Hid (Apart [] w1 w1.drew) := (Apart.refl [] w1).drew
      have HTL := hid (take_lawQ (HW.out.kept Tw0.out) HI.out.inv (HTB.out.kept0 (HW.out.kept Tw0.out).ap) (by omega) hv hk x r (HRD.out.kept0 Tw0.out) HMEM.out hrk)
      unfold E.agg Sl.v at HTL
      generalize w1.drew = wd at *
      refine tk 0 25 (.pointer (some ⟨X, 0, none⟩)) rfl ?_ ?_
      · intro W hSW; go_simp
      simp only [Act.put, List.setIfInBounds_toArray, List.set_cons_zero, List.set_cons_succ]
      refine tk 1 26 (.pointer (some ⟨BE, 1, none⟩)) rfl ?_ ?_
      · intro W hSW; go_simp
      simp only [Act.put, List.setIfInBounds_toArray, List.set_cons_zero, List.set_cons_succ]
      refine tk 2 27 (.int .i64 e.n) rfl ?_ ?_
      · intro W hSW; obtain ⟨z1, z3⟩ := HB1.out W hSW; go_simp
      simp only [Act.put, List.setIfInBounds_toArray, List.set_cons_zero, List.set_cons_succ]
      refine tk 4 29 (.pointer (some ⟨X, 0, none⟩)) rfl ?_ ?_
      · intro W hSW; go_simp
      simp only [Act.put, List.setIfInBounds_toArray, List.set_cons_zero, List.set_cons_succ]
      refine tk 5 30 (.pointer (some ⟨X, 0, none⟩)) rfl ?_ ?_
      · intro W hSW; go_simp
      simp only [Act.put, List.setIfInBounds_toArray, List.set_cons_zero, List.set_cons_succ]
      refine tk 6 31 (.pointer (some ⟨X, 12, none⟩)) rfl ?_ ?_
      · intro W hSW; go_simp
      simp only [Act.put, List.setIfInBounds_toArray, List.set_cons_zero, List.set_cons_succ]
      refine tk 7 32 (.slice (some ⟨PM, om, none⟩) MN mc) rfl ?_ ?_
      · intro W hSW; have z := HM12.out W hSW; go_simp
      simp only [Act.put, List.setIfInBounds_toArray, List.set_cons_zero, List.set_cons_succ]
      refine tk 8 33 (.pointer (some ⟨BE, 3, none⟩)) rfl ?_ ?_
      · intro W hSW; go_simp
      simp only [Act.put, List.setIfInBounds_toArray, List.set_cons_zero, List.set_cons_succ]
      refine tk 9 34 (.int .i64 e.q) rfl ?_ ?_
      · intro W hSW; obtain ⟨z1, z3⟩ := HB1.out W hSW; go_simp
      simp only [Act.put, List.setIfInBounds_toArray, List.set_cons_zero, List.set_cons_succ]
      refine tk 10 35 (.pointer (some ⟨X, 0, none⟩)) rfl ?_ ?_
      · intro W hSW; go_simp
      simp only [Act.put, List.setIfInBounds_toArray, List.set_cons_zero, List.set_cons_succ]
      refine tk 11 36 (.pointer (some ⟨X, 0, none⟩)) rfl ?_ ?_
      · intro W hSW; go_simp
      simp only [Act.put, List.setIfInBounds_toArray, List.set_cons_zero, List.set_cons_succ]
      refine tk 12 37 (.pointer (some ⟨X, 12, none⟩)) rfl ?_ ?_
      · intro W hSW; go_simp
      simp only [Act.put, List.setIfInBounds_toArray, List.set_cons_zero, List.set_cons_succ]
      refine tk 13 38 (.slice (some ⟨PM, om, none⟩) MN mc) rfl ?_ ?_
      · intro W hSW; have z := HM12.out W hSW; go_simp
      simp only [Act.put, List.setIfInBounds_toArray, List.set_cons_zero, List.set_cons_succ]
      refine tk 14 39 (.int .i64 (MN : Nat)) rfl ?_ ?_
      · intro W hSW; go_simp
      simp only [Act.put, List.setIfInBounds_toArray, List.set_cons_zero, List.set_cons_succ]
      refine wpAnyH_ready (rs := [3]) (by kernel_rfl) (by simp) ?_
      refine AllReadyH.cons rfl (fun KK hKK => ?_) AllReadyH.nil
      go_simp
      refine (HL4.out wd).mono ?_
      rintro _ w' ⟨rfl, hw'⟩
      rw [hw']
      clear hw' w'
      try dsimp only
      refine hKK.out _ _ Twd.out (fun hHeld => ?_)
      clear hKK KK
      refine wpAnyH_ready (rs := [15]) (by kernel_rfl) (by simp) ?_
      refine AllReadyH.cons rfl (fun KK hKK => ?_) AllReadyH.nil
      go_simp
      refine (HLa.out wd).mono ?_
      rintro _ w' ⟨rfl, hw'⟩
      rw [hw']
      clear hw' w'
      try dsimp only
      refine hKK.out _ _ Twd.out (fun hHeld => ?_)
      clear hKK KK
      refine tk 16 41 (.pointer (some ⟨PM, om + a * 6, none⟩)) rfl ?_ ?_
      · intro W hSW; go_simp <;> (first | omega | (intro hq; exfalso; omega))
      simp only [Act.put, List.setIfInBounds_toArray, List.set_cons_zero, List.set_cons_succ]
      refine tk 17 42 (.agg #[.int .i64 x.n, .int .i64 x.c, .string x.k, .bool x.d, .slice x.v.p x.v.n x.v.c, .slice x.x.p x.x.n x.x.c]) rfl ?_ ?_
      · intro W hSW; obtain ⟨z0, z1, z2, z3, z4, z5⟩ := HXC.out W hSW; go_simp
      simp only [Act.put, List.setIfInBounds_toArray, List.set_cons_zero, List.set_cons_succ]
      refine wpAnyH_ready (rs := [18]) (by kernel_rfl) (by simp) ?_
      refine AllReadyH.cons rfl (fun KK hKK => ?_) AllReadyH.nil
      go_simp
      refine HTL.out.mono ?_
      rintro _ w9 hp
      obtain ⟨g9, rfl, hg9, ha9, hc9⟩ := hp.ex
      have HG9 := hid hg9
      have HS9 : Hid (Apart [X] w1 w9 ∧ w9.cell? ⟨X, 12, none⟩ = some (.slice (some ⟨PM, om, none⟩) MN mc)) := ⟨Twd.out.1.trans ha9, hc9.trans Twd.out.2⟩
      clear hp hg9 ha9 hc9
      try dsimp only
      refine hKK.out _ _ HS9.out (fun hHeld => ?_)
      clear hKK KK
      refine tk 19 4 (.bool true) rfl ?_ ?_
      · intro W hSW; go_simp
      simp only [Act.put, List.setIfInBounds_toArray, List.set_cons_zero, List.set_cons_succ]
      refine wpAnyH_done (by kernel_rfl) ?_ _
      try dsimp only
      clear hHeld
      go_wp2_with fail
      go_ret
      exact ⟨_, g9, rfl, HTO.out.1, by rw [HTO.out.2.1]; omega, HG9.out⟩
    · have hMi : ¬ ((MN : Nat) : Int) > 0 := by omega
      obtain rfl : MN = 0 := by omega
      have z12 := HC12.out
      rw [hw1] at z12
      go_enter Tryd.func45, Tryd.ntmps45
      go_wp2_with fail
      rw [← hw1]
      go_ret
      exact ⟨st, g, rfl, HI.out, by omega, HW.out⟩
  · go_enter Tryd.func45, Tryd.ntmps45
    go_wp2_with fail
    rw [← hw1]
    go_ret
    exact ⟨st, g, rfl, HI.out, by omega, HW.out⟩
end Go.Proofs.YtokaeiahhmaokaaDoor.ds
