import Derived.Test.YtokaeiahhmaokaaGreatDoorV1
import Derived.Test.YtokaeiahhmaokaaGreatDoorV21
import Derived.Test.YtokaeiahhmaokaaGreatDoorV22
import Derived.Test.YtokaeiahhmaokaaGreatDoorV20
namespace Go.Proofs.YtokaeiahhmaokaaGreatDoor.ds
open Go.ChangeShapes Go.WideShapes Go.ChangeAt Go.RowKit Go.Sort
set_option linter.unusedVariables false
set_option linter.unusedSimpArgs false
def caseO (S B : Value) (u : E) (lim gap : Int) : Obj := .cells #[S, .int .i64 u.n, .int .i64 u.c, .string u.k, .bool u.d, u.v.v, u.x.v, B, .int .i64 lim, .int .i64 gap] 31
theorem gR_rep (N j : Nat) (hj : j < N) : gR (List.replicate N markW) j = markW := by unfold gR; simp [List.getD_eq_getElem?_getD, hj]
theorem gE_rep (N j : Nat) (hj : j < N) : gE (List.replicate N markE) j = markE := by unfold gE; simp [List.getD_eq_getElem?_getD, hj]
theorem reads_one {W : World} {u : E} {ru : Wr} (h : Reads W u ru) : ∀ j, j < 1 → Reads W (gE [u] j) (gR [ru] j) := fun j hj => by
  have e : j = 0 := by omega
  subst e
  exact h
theorem rep_LE {w : World} {G N k c : Nat} (h : w.ownsRow 0 28 6 (.slice (some ⟨G, 0, none⟩) (N + k) c) (N + k) (flatE (List.replicate (N + k) markE))) (hN : N ≤ 2000000) : LE w (some ⟨G, 0, none⟩) N (List.replicate N markE) := by
  refine ⟨?_, by simp, hN⟩
  have := Rd.own (p := some ⟨G, 0, none⟩) (n := N + k) (cap := c) h
  rw [← List.replicate_append_replicate, flatE_append] at this
  exact this.pre
set_option maxHeartbeats 16000000 in
set_option maxRecDepth 100000 in
theorem merged_law (w : World) (S B : Value) (u : E) (ru : Wr) (lim gap : Int) (p : Option Addr) (N cap : Nat) (es : List E) (rs : List Wr) (hL : LE w p N es) (hN : N ≤ 1048576) (hrl : rs.length = N) (hR : ∀ j, j < N → Reads w (gE es j) (gR rs j)) (hu : Reads w u ru) :
    Calls Tryz.prog 10 #[.agg #[S, .int .i64 u.n, .int .i64 u.c, .string u.k, .bool u.d, u.v.v, u.x.v, B, .int .i64 lim, .int .i64 gap], .slice p N cap] w fun r w' => r = .returned (.bool true) ∧ Apart [] w w' := by
  obtain ⟨wB, hwB⟩ : ∃ wB, wB = w.alloc (caseO S B u lim gap) := ⟨_, rfl⟩
  have aB : Apart [] w wB := by rw [hwB]; exact (Apart.refl [] w).alloc _
  have bC : wB.heap[w.heap.size]? = some (.cells #[S, .int .i64 u.n, .int .i64 u.c, .string u.k, .bool u.d, u.v.v, u.x.v, B, .int .i64 lim, .int .i64 gap] 31 (0, 0)) := by rw [hwB]; exact heap_alloc_new w _
  have hcb : ∀ W : World, Apart [] wB W → W.cell? ⟨w.heap.size, 1, none⟩ = some (.int .i64 u.n) ∧ W.cell? ⟨w.heap.size, 2, none⟩ = some (.int .i64 u.c) ∧ W.cell? ⟨w.heap.size, 3, none⟩ = some (.string u.k) ∧ W.cell? ⟨w.heap.size, 4, none⟩ = some (.bool u.d) ∧ W.cell? ⟨w.heap.size, 5, none⟩ = some (.slice u.v.p u.v.n u.v.c) ∧ W.cell? ⟨w.heap.size, 6, none⟩ = some (.slice u.x.p u.x.n u.x.c) ∧ W.cell? ⟨w.heap.size, 8, none⟩ = some (.int .i64 lim) := fun W a => by
    have h := (a.block _ (lt_of_heap bC) (by simp)).trans bC
    refine ⟨?_, ?_, ?_, ?_, ?_, ?_, ?_⟩ <;> (rw [cell_of_row _ _ _ _ _ _ h]; rfl)
  have HCB := hid hcb
  have HB := hid aB
  have HL := hid hL
  have HR := hid hR
  have HU := hid hu
  have hLend1 := lend_ok wB p N cap es rs (hL.kept0 aB) (by omega) (fun j hj => (hR j hj).kept0 aB)
  have hbu := fun W => buildE W u
  have hM := mark_ok
  unfold markE E.agg Sl.v at hM
  unfold E.agg Sl.v at hbu
  unfold caseO Sl.v at hwB
  unfold Sl.v
  have hlk : wB.heap.size = w.heap.size + 1 := by rw [hwB]; simp
  have HLK := hid hlk
  clear bC hcb aB hL hR hu hlk
  go_enter Tryz.func10, Tryz.ntmps10
  go_upto_region 1 with fail
  rw [← hwB]
  clear hwB
  go_wp2_with fail
  refine hLend1.mono ?_
  clear hLend1
  rintro _ w1 ⟨LB, G, c, vv, xx, fs, vs, xs, rfl, lt1, a1⟩
  have HT1 := hid lt1
  have HA1 := hid a1
  clear lt1 a1
  dsimp only
  obtain ⟨c1, c2, c3, c4, c5, c6, c8⟩ := HCB.out w1 HA1.out
  have hLend2 := lend_ok (w1.alloc (boxE u)) (some ⟨w1.heap.size, 0, none⟩) 1 1 [u] [ru] (LE.one (Cap.new w1 u)) (by decide) (reads_one (HU.out.kept0 ((HB.out.trans HA1.out).alloc _)))
  go_wp2_with fail
  refine hLend2.mono ?_
  clear hLend2 c1 c2 c3 c4 c5 c6 c8
  rintro _ w2 ⟨LB2, G2, c2, vv2, xx2, fs2, vs2, xs2, rfl, lt2, a2⟩
  have HT2 := hid lt2
  have HA2 := hid (HA1.out.trans (((Apart.refl [] w1).alloc (boxE u)).trans a2))
  have HA12 := hid (((Apart.refl [] w1).alloc (boxE u)).trans a2)
  clear lt2 a2
  dsimp only
  obtain ⟨f, hf⟩ : ∃ f, f = gE fs2 0 := ⟨_, rfl⟩
  have HF := hid hf
  have o2 := HT2.out.one 0 (by decide)
  rw [← hf] at o2
  have HO2 := hid o2
  clear hf o2
  have HW3 : Hid (∀ X : World, Apart [] w2 X → X.cell? ⟨w.heap.size, 8, none⟩ = some (.int .i64 lim) ∧ X.cell? ⟨G2, 0, none⟩ = some (.int .i64 f.n) ∧ X.cell? ⟨G2, 1, none⟩ = some (.int .i64 f.c) ∧ X.cell? ⟨G2, 2, none⟩ = some (.string f.k) ∧ X.cell? ⟨G2, 3, none⟩ = some (.bool f.d) ∧ X.cell? ⟨G2, 4, none⟩ = some (.slice f.v.p f.v.n f.v.c) ∧ X.cell? ⟨G2, 5, none⟩ = some (.slice f.x.p f.x.n f.x.c)) := fun X a => by
    have hh := (HT2.out.kept0 a).LE (by decide)
    obtain ⟨P, o, e, _, hc⟩ := hh.at (by decide)
    simp at e
    obtain ⟨rfl, rfl⟩ := e
    have := hc 0 (by decide)
    rw [← HF.out] at this
    simp only [Nat.zero_add, Nat.zero_mul] at this
    exact ⟨(HCB.out X (HA2.out.trans a)).2.2.2.2.2.2, this⟩
  have HIN1 : Hid (∀ X : World, Apart [] w2 X → Calls Tryz.prog 12 #[.pointer (some ⟨LB, 0, none⟩)] X fun r w' => r = .returned (.slice (some ⟨G, 0, none⟩) N c) ∧ Apart [] X w') := fun X a => in_ok X LB G N c vv.v xx.v ((HT1.out.kept0 (HA12.out.trans a)).blk) HT1.out.cap (by omega)
  have HIN2 : Hid (∀ X : World, Apart [] w2 X → Calls Tryz.prog 12 #[.pointer (some ⟨LB2, 0, none⟩)] X fun r w' => r = .returned (.slice (some ⟨G2, 0, none⟩) 1 c2) ∧ Apart [] X w') := fun X a => in_ok X LB2 G2 1 c2 vv2.v xx2.v ((HT2.out.kept0 a).blk) HT2.out.cap (by decide)
  obtain ⟨er, her⟩ : ∃ er, er = merrW rs ru lim := ⟨_, rfl⟩
  obtain ⟨ml, hml⟩ : ∃ ml, ml = mlistW rs ru lim := ⟨_, rfl⟩
  have HER := hid her
  have HML := hid hml
  have HM3 : Hid (∀ X : World, Apart [] w2 X → Calls Tryz.prog 28 #[.slice (some ⟨G, 0, none⟩) N c, .agg #[.int .i64 f.n, .int .i64 f.c, .string f.k, .bool f.d, .slice f.v.p f.v.n f.v.c, .slice f.x.p f.x.n f.x.c], .int .i64 lim] X fun r w' => ∃ (s : Sl) (fs : List E), r = .returned (.tuple #[s.v, .int .i64 er]) ∧ s.n = ml.length ∧ Apart [] X w' ∧ ∀ (lo hi : Nat) (w2 : World), Fr lo hi w' w2 → hi ≤ X.heap.size → LE w2 s.p ml.length fs ∧ ∀ j, j < ml.length → Reads w2 (gE fs j) (gR ml j)) := fun X a => by
    rw [her, hml]
    have k1 := HT1.out.kept0 (HA12.out.trans a)
    exact merge_reads X (some ⟨G, 0, none⟩) N c fs rs f ru lim (k1.LE (by omega)) (by omega) (fun e => by cases e) hrl (fun j hj => (k1.one j hj).reads) ((HO2.out.kept0 a).reads)
  have hmll := mlistW_len rs ru lim
  rw [← hml, hrl] at hmll
  clear her hml
  go_upto_region 3 with fail
  refine wp_region_held_drew (S := fun X => Apart [] w2 X) (by kernel_rfl) (Apart.refl [] w2).drew (fun hHeld => ?_)
  have aS : Apart [] w2 w2.drew := (Apart.refl [] w2).drew
  refine tk 0 21 (.pointer (some ⟨LB, 0, none⟩)) rfl ?_ ?_
  · intro W hSW; go_simp
  simp only [Act.put, List.setIfInBounds_toArray, List.set_cons_zero, List.set_cons_succ]
  refine tk 2 23 (.pointer (some ⟨LB2, 0, none⟩)) rfl ?_ ?_
  · intro W hSW; go_simp
  simp only [Act.put, List.setIfInBounds_toArray, List.set_cons_zero, List.set_cons_succ]
  refine tk 6 27 (.pointer (some ⟨w.heap.size, 8, none⟩)) rfl ?_ ?_
  · intro W hSW; go_simp
  simp only [Act.put, List.setIfInBounds_toArray, List.set_cons_zero, List.set_cons_succ]
  refine tk 7 28 (.int .i64 lim) rfl ?_ ?_
  · intro W hSW; obtain ⟨hl, h0, h1, h2, h3, h4, h5⟩ := HW3.out W hSW; go_simp
  simp only [Act.put, List.setIfInBounds_toArray, List.set_cons_zero, List.set_cons_succ]
  refine wpAnyH_ready (rs := [1]) (by kernel_rfl) (by simp) ?_
  refine AllReadyH.cons rfl (fun KK hKK => ?_) AllReadyH.nil
  go_simp
  refine (HIN1.out _ aS).mono ?_
  rintro _ W1 ⟨rfl, a1⟩
  dsimp only
  have aT := aS.trans a1
  clear aS
  have aS := aT
  clear aT
  refine hKK.out _ _ aS (fun hHeld => ?_)
  clear hKK KK
  refine wpAnyH_ready (rs := [3]) (by kernel_rfl) (by simp) ?_
  refine AllReadyH.cons rfl (fun KK hKK => ?_) AllReadyH.nil
  go_simp
  refine (HIN2.out _ aS).mono ?_
  rintro _ W1 ⟨rfl, a1⟩
  dsimp only
  have aT := aS.trans a1
  clear aS
  have aS := aT
  clear aT
  refine hKK.out _ _ aS (fun hHeld => ?_)
  clear hKK KK
  refine tk 4 25 (.pointer (some ⟨G2, 0, none⟩)) rfl ?_ ?_
  · intro W hSW; go_simp
  simp only [Act.put, List.setIfInBounds_toArray, List.set_cons_zero, List.set_cons_succ]
  refine tk 5 26 (.agg #[.int .i64 f.n, .int .i64 f.c, .string f.k, .bool f.d, .slice f.v.p f.v.n f.v.c, .slice f.x.p f.x.n f.x.c]) rfl ?_ ?_
  · intro W hSW; obtain ⟨hl, h0, h1, h2, h3, h4, h5⟩ := HW3.out W hSW; go_simp
  simp only [Act.put, List.setIfInBounds_toArray, List.set_cons_zero, List.set_cons_succ]
  refine wpAnyH_ready (rs := [8]) (by kernel_rfl) (by simp) ?_
  refine AllReadyH.cons rfl (fun KK hKK => ?_) AllReadyH.nil
  go_simp
  refine (HM3.out _ aS).mono ?_
  rintro _ w3 ⟨⟨p3, n3, c3⟩, fs3, rfl, hn3, a3, later3⟩
  have HLA3 := hid later3
  have HNN3 := hid hn3
  have HZ3 := hid aS.size
  clear later3 hn3
  dsimp only [Sl.v]
  have aT := aS.trans a3
  clear aS
  have aS := aT
  clear aT
  refine hKK.out _ _ aS (fun hHeld => ?_)
  clear hKK KK
  refine tk 9 20 (.tuple #[(.slice p3 n3 c3), (.int .i64 er)]) rfl ?_ ?_
  · intro W hSW; go_simp
  simp only [Act.put, List.setIfInBounds_toArray, List.set_cons_zero, List.set_cons_succ]
  refine tk 10 30 (.slice p3 n3 c3) rfl ?_ ?_
  · intro W hSW; go_simp
  simp only [Act.put, List.setIfInBounds_toArray, List.set_cons_zero, List.set_cons_succ]
  refine tk 11 31 (.int .i64 er) rfl ?_ ?_
  · intro W hSW; go_simp
  simp only [Act.put, List.setIfInBounds_toArray, List.set_cons_zero, List.set_cons_succ]
  refine tk 12 7 (.slice p3 n3 c3) rfl ?_ ?_
  · intro W hSW; go_simp
  simp only [Act.put, List.setIfInBounds_toArray, List.set_cons_zero, List.set_cons_succ]
  refine tk 13 8 (.int .i64 er) rfl ?_ ?_
  · intro W hSW; go_simp
  simp only [Act.put, List.setIfInBounds_toArray, List.set_cons_zero, List.set_cons_succ]
  refine wpAnyH_done (by kernel_rfl) ?_ _
  have HA3 := hid aS
  clear aS hHeld HIN1 HIN2 HM3 HW3
  have HA13 := hid (HA2.out.trans HA3.out)
  have hBk1 := back_ok wB.heap.size w1.heap.size w3 LB G c vv xx fs vs xs rs N (HT1.out.kept0 (HA12.out.trans HA3.out)) (by omega) p cap es (HL.out.kept0 (HB.out.trans HA13.out)) (fun j hj => (HR.out j hj).kept0 (HB.out.trans HA13.out))
  go_wp2_with fail
  refine hBk1.mono ?_
  clear hBk1
  rintro _ w4 ⟨rfl, fr4, blk4, list4⟩
  have HF4 := hid fr4
  have HK4 := hid blk4
  have HI4 := hid list4
  have HA14 := hid (Fr.apart0 HA13.out fr4 (Nat.le_refl _))
  clear fr4 blk4 list4
  dsimp only
  obtain ⟨c1, c2', c3', c4, c5, c6, c8⟩ := HCB.out w4 HA14.out
  have hw1s : w1.heap.size ≤ (w1.alloc (boxE u)).heap.size := ((Apart.refl [] w1).alloc (boxE u)).size
  have HS1 := hid hw1s
  have hBk2 := back_ok (w1.alloc (boxE u)).heap.size w2.heap.size (w4.alloc (boxE u)) LB2 G2 c2 vv2 xx2 fs2 vs2 xs2 [ru] 1 (((HT2.out.kept0 HA3.out).fr HF4.out (.inr hw1s)).kept0 ((Apart.refl [] w4).alloc _)) (by decide) (some ⟨w4.heap.size, 0, none⟩) 1 [u] (LE.one (Cap.new w4 u)) (reads_one (HU.out.kept0 ((HB.out.trans HA14.out).alloc _)))
  clear hw1s
  go_wp2_with fail
  refine hBk2.mono ?_
  clear hBk2 c1 c2' c3' c4 c5 c6 c8
  rintro _ w5 ⟨rfl, fr5, blk5, list5⟩
  have HF5 := hid fr5
  have HK5 := hid blk5
  have HI5 := hid list5
  have HA15 := hid (Fr.apart0 (HA14.out.alloc (boxE u)) fr5 (Nat.le_trans HA1.out.size HS1.out))
  clear fr5 blk5 list5
  dsimp only
  obtain ⟨c1, c2', c3', c4, c5, c6, c8⟩ := HCB.out w5 HA15.out
  have hRm := rmerge_reads w5 p N cap es rs u ru lim (HL.out.kept0 (HB.out.trans HA15.out)) (by omega) hrl (fun j hj => (HR.out j hj).kept0 (HB.out.trans HA15.out)) (HU.out.kept0 (HB.out.trans HA15.out))
  rw [← HER.out, ← HML.out] at hRm
  unfold E.agg Sl.v at hRm
  go_wp2_with fail
  refine hRm.mono ?_
  clear hRm c1 c2' c3' c4 c5 c6 c8
  rintro _ w6 ⟨⟨p6, n6, c6⟩, fs6, rfl, hn6, L6, a6, R6⟩
  have frT : Fr wB.heap.size w2.heap.size w3 w6 := (((HF4.out.wide (Nat.le_refl _) HA12.out.size).trans (((Apart.refl [] w4).alloc (boxE u)).fr0 _ _)).trans (HF5.out.wide (Nat.le_trans HA1.out.size HS1.out) (Nat.le_refl _))).trans (a6.fr0 _ _)
  obtain ⟨L3, R3⟩ := HLA3.out _ _ w6 frT HZ3.out
  have e3 : n3 = ml.length := HNN3.out
  have e6 : n6 = ml.length := hn6
  have hSL := sameList_yes w6 p3 p6 ml.length c3 c6 fs3 fs6 ml L3 L6 R3 R6
  rw [← e3] at hSL
  obtain rfl : n6 = n3 := by omega
  have HA6 := hid a6
  clear L3 R3 L6 R6 frT hn6 e3 e6 a6
  dsimp only
  go_wp2_with fail
  refine hSL.mono ?_
  clear hSL
  rintro _ w7 ⟨rfl, a7⟩
  have HA57 := hid (HA6.out.trans a7)
  have HA17 := hid (HA15.out.trans HA57.out)
  have HF47 := hid (((((Apart.refl [] w4).alloc (boxE u)).fr0 _ _).trans HF5.out).trans (HA57.out.fr0 _ _))
  have hLBr := HT1.out.rLB
  have hGr := HT1.out.rG
  have hk7 : w7.heap[LB]? = _ := (HF47.out.block LB (lt_of_heap HK4.out) (.inl (Nat.lt_of_lt_of_le hLBr.2 HS1.out))).trans HK4.out
  have hi7 := own_fr HI4.out HF47.out (fun k hk => by simp [Value.ownBlock] at hk; subst hk; exact .inl (Nat.lt_of_lt_of_le hGr.2 HS1.out))
  have hk7' : w7.heap[LB2]? = _ := (HA57.out.block LB2 (lt_of_heap HK5.out) (by simp)).trans HK5.out
  have hi7' := own_apart HI5.out HA57.out (by simp)
  have HK7 := hid hk7
  have HI7 := hid hi7
  have HK7' := hid hk7'
  have HI7' := hid hi7'
  have HC1 := hid HT1.out.cap
  have HC2 := hid HT2.out.cap
  clear a7 hLBr hGr hk7 hi7 hk7' hi7' HF4 HF5 HK4 HI4 HK5 HI5 HT1 HT2 HLA3 HZ3 HNN3 HF HO2 HA6 HA12 HA13 HA14 HA15 HF47
  dsimp only
  have HW9 : Hid (∀ X : World, Apart [] w7 X → X.cell? ⟨w.heap.size, 8, none⟩ = some (.int .i64 lim) ∧ X.cell? ⟨G2, 0, none⟩ = some (.int .i64 77) ∧ X.cell? ⟨G2, 1, none⟩ = some (.int .i64 77) ∧ X.cell? ⟨G2, 2, none⟩ = some (.string ⟨#[109, 97, 114, 107]⟩) ∧ X.cell? ⟨G2, 3, none⟩ = some (.bool false) ∧ X.cell? ⟨G2, 4, none⟩ = some (.slice none 0 0) ∧ X.cell? ⟨G2, 5, none⟩ = some (.slice none 0 0)) := fun X a => by
    have hh := rep_LE (N := 1) (k := 2) (own_apart HI7'.out a (by simp)) (by decide)
    obtain ⟨P, o, e, _, hc⟩ := hh.at (by decide)
    simp at e
    obtain ⟨rfl, rfl⟩ := e
    have := hc 0 (by decide)
    rw [gE_rep 1 0 (by decide)] at this
    simp only [Nat.zero_add, Nat.zero_mul] at this
    exact ⟨(HCB.out X (HA17.out.trans a)).2.2.2.2.2.2, this⟩
  have HIN3 : Hid (∀ X : World, Apart [] w7 X → Calls Tryz.prog 12 #[.pointer (some ⟨LB, 0, none⟩)] X fun r w' => r = .returned (.slice (some ⟨G, 0, none⟩) N c) ∧ Apart [] X w') := fun X a => in_ok X LB G N c vv.v xx.v ((a.block LB (lt_of_heap HK7.out) (by simp)).trans HK7.out) HC1.out (by omega)
  have HIN4 : Hid (∀ X : World, Apart [] w7 X → Calls Tryz.prog 12 #[.pointer (some ⟨LB2, 0, none⟩)] X fun r w' => r = .returned (.slice (some ⟨G2, 0, none⟩) 1 c2) ∧ Apart [] X w') := fun X a => in_ok X LB2 G2 1 c2 vv2.v xx2.v ((a.block LB2 (lt_of_heap HK7'.out) (by simp)).trans HK7'.out) HC2.out (by decide)
  obtain ⟨ez, hez⟩ : ∃ ez, ez = merrW (List.replicate N markW) markW lim := ⟨_, rfl⟩
  obtain ⟨mz, hmz⟩ : ∃ mz, mz = mlistW (List.replicate N markW) markW lim := ⟨_, rfl⟩
  have HEZ := hid hez
  have HMZ := hid hmz
  have HM9 : Hid (∀ X : World, Apart [] w7 X → Calls Tryz.prog 28 #[.slice (some ⟨G, 0, none⟩) N c, (.agg #[.int .i64 77, .int .i64 77, .string ⟨#[109, 97, 114, 107]⟩, .bool false, .slice none 0 0, .slice none 0 0]), .int .i64 lim] X fun r w' => ∃ (s : Sl) (fs : List E), r = .returned (.tuple #[s.v, .int .i64 ez]) ∧ s.n = mz.length ∧ Apart [] X w' ∧ ∀ (lo hi : Nat) (w2 : World), Fr lo hi w' w2 → hi ≤ X.heap.size → LE w2 s.p mz.length fs ∧ ∀ j, j < mz.length → Reads w2 (gE fs j) (gR mz j)) := fun X a => by
    rw [hez, hmz]
    exact merge_reads X (some ⟨G, 0, none⟩) N c (List.replicate N markE) (List.replicate N markW) markE markW lim (rep_LE (k := 2) (own_apart HI7.out a (by simp)) (by omega)) (by omega) (fun e => by cases e) (by simp) (fun j hj => by rw [gE_rep N j hj, gR_rep N j hj]; exact mark_reads X) (mark_reads X)
  have hmzl := mlistW_len (List.replicate N markW) markW lim
  rw [← hmz, List.length_replicate] at hmzl
  clear hez hmz
  go_upto_region 9 with fail
  refine wp_region_held_drew (S := fun X => Apart [] w7 X) (by kernel_rfl) (Apart.refl [] w7).drew (fun hHeld => ?_)
  have aS : Apart [] w7 w7.drew := (Apart.refl [] w7).drew
  refine tk 0 67 (.pointer (some ⟨LB, 0, none⟩)) rfl ?_ ?_
  · intro W hSW; go_simp
  simp only [Act.put, List.setIfInBounds_toArray, List.set_cons_zero, List.set_cons_succ]
  refine tk 2 69 (.pointer (some ⟨LB2, 0, none⟩)) rfl ?_ ?_
  · intro W hSW; go_simp
  simp only [Act.put, List.setIfInBounds_toArray, List.set_cons_zero, List.set_cons_succ]
  refine tk 6 73 (.pointer (some ⟨w.heap.size, 8, none⟩)) rfl ?_ ?_
  · intro W hSW; go_simp
  simp only [Act.put, List.setIfInBounds_toArray, List.set_cons_zero, List.set_cons_succ]
  refine tk 7 74 (.int .i64 lim) rfl ?_ ?_
  · intro W hSW; obtain ⟨hl, h0, h1, h2, h3, h4, h5⟩ := HW9.out W hSW; go_simp
  simp only [Act.put, List.setIfInBounds_toArray, List.set_cons_zero, List.set_cons_succ]
  refine wpAnyH_ready (rs := [1]) (by kernel_rfl) (by simp) ?_
  refine AllReadyH.cons rfl (fun KK hKK => ?_) AllReadyH.nil
  go_simp
  refine (HIN3.out _ aS).mono ?_
  rintro _ W1 ⟨rfl, a1⟩
  dsimp only
  have aT := aS.trans a1
  clear aS
  have aS := aT
  clear aT
  refine hKK.out _ _ aS (fun hHeld => ?_)
  clear hKK KK
  refine wpAnyH_ready (rs := [3]) (by kernel_rfl) (by simp) ?_
  refine AllReadyH.cons rfl (fun KK hKK => ?_) AllReadyH.nil
  go_simp
  refine (HIN4.out _ aS).mono ?_
  rintro _ W1 ⟨rfl, a1⟩
  dsimp only
  have aT := aS.trans a1
  clear aS
  have aS := aT
  clear aT
  refine hKK.out _ _ aS (fun hHeld => ?_)
  clear hKK KK
  refine tk 4 71 (.pointer (some ⟨G2, 0, none⟩)) rfl ?_ ?_
  · intro W hSW; go_simp
  simp only [Act.put, List.setIfInBounds_toArray, List.set_cons_zero, List.set_cons_succ]
  refine tk 5 72 (.agg #[.int .i64 77, .int .i64 77, .string ⟨#[109, 97, 114, 107]⟩, .bool false, .slice none 0 0, .slice none 0 0]) rfl ?_ ?_
  · intro W hSW; obtain ⟨hl, h0, h1, h2, h3, h4, h5⟩ := HW9.out W hSW; go_simp
  simp only [Act.put, List.setIfInBounds_toArray, List.set_cons_zero, List.set_cons_succ]
  refine wpAnyH_ready (rs := [8]) (by kernel_rfl) (by simp) ?_
  refine AllReadyH.cons rfl (fun KK hKK => ?_) AllReadyH.nil
  go_simp
  refine (HM9.out _ aS).mono ?_
  rintro _ w9 ⟨⟨p9, n9, c9⟩, fs9, rfl, hn9, a9, later9⟩
  have HLA9 := hid later9
  have HNN9 := hid hn9
  have HZ9 := hid aS.size
  clear later9 hn9
  dsimp only [Sl.v]
  have aT := aS.trans a9
  clear aS
  have aS := aT
  clear aT
  refine hKK.out _ _ aS (fun hHeld => ?_)
  clear hKK KK
  refine tk 9 66 (.tuple #[(.slice p9 n9 c9), (.int .i64 ez)]) rfl ?_ ?_
  · intro W hSW; go_simp
  simp only [Act.put, List.setIfInBounds_toArray, List.set_cons_zero, List.set_cons_succ]
  refine tk 10 76 (.slice p9 n9 c9) rfl ?_ ?_
  · intro W hSW; go_simp
  simp only [Act.put, List.setIfInBounds_toArray, List.set_cons_zero, List.set_cons_succ]
  refine tk 11 77 (.int .i64 ez) rfl ?_ ?_
  · intro W hSW; go_simp
  simp only [Act.put, List.setIfInBounds_toArray, List.set_cons_zero, List.set_cons_succ]
  refine tk 12 13 (.slice p9 n9 c9) rfl ?_ ?_
  · intro W hSW; go_simp
  simp only [Act.put, List.setIfInBounds_toArray, List.set_cons_zero, List.set_cons_succ]
  refine tk 13 8 (.int .i64 ez) rfl ?_ ?_
  · intro W hSW; go_simp
  simp only [Act.put, List.setIfInBounds_toArray, List.set_cons_zero, List.set_cons_succ]
  refine wpAnyH_done (by kernel_rfl) ?_ _
  have HA9 := hid aS
  clear aS hHeld HIN3 HIN4 HM9 HW9
  have HW10 : Hid (∀ X : World, Apart [] w9 X → X.cell? ⟨w.heap.size, 8, none⟩ = some (.int .i64 lim)) := fun X a => (HCB.out X (HA17.out.trans (HA9.out.trans a))).2.2.2.2.2.2
  have HIN5 : Hid (∀ X : World, Apart [] w9 X → Calls Tryz.prog 12 #[.pointer (some ⟨LB, 0, none⟩)] X fun r w' => r = .returned (.slice (some ⟨G, 0, none⟩) N c) ∧ Apart [] X w') := fun X a => in_ok X LB G N c vv.v xx.v (((HA9.out.trans a).block LB (lt_of_heap HK7.out) (by simp)).trans HK7.out) HC1.out (by omega)
  have HTW : Hid (∀ X : World, Apart [] w9 X → Calls Tryz.prog 17 #[.slice (some ⟨G, 0, none⟩) N c] X fun r w' => ∃ (s : Sl) (fs : List E), r = .returned s.v ∧ OwnE X w' s fs ∧ s.n = N ∧ ∀ j, j < N → Fresh X w' (gE fs j) (gR (List.replicate N markW) j)) := fun X a => twinList_ok X (some ⟨G, 0, none⟩) N c (List.replicate N markE) (List.replicate N markW) (rep_LE (k := 2) (own_apart HI7.out (HA9.out.trans a) (by simp)) (by omega)) (by omega) (fun j hj => by rw [gE_rep N j hj, gR_rep N j hj]; exact mark_reads X)
  go_upto_region 10 with fail
  refine wp_region_held_drew (S := fun X => Apart [] w9 X) (by kernel_rfl) (Apart.refl [] w9).drew (fun hHeld => ?_)
  have aS : Apart [] w9 w9.drew := (Apart.refl [] w9).drew
  refine tk 0 79 (.pointer (some ⟨LB, 0, none⟩)) rfl ?_ ?_
  · intro W hSW; go_simp
  simp only [Act.put, List.setIfInBounds_toArray, List.set_cons_zero, List.set_cons_succ]
  refine tk 4 83 (.pointer (some ⟨w.heap.size, 8, none⟩)) rfl ?_ ?_
  · intro W hSW; go_simp
  simp only [Act.put, List.setIfInBounds_toArray, List.set_cons_zero, List.set_cons_succ]
  refine tk 5 84 (.int .i64 lim) rfl ?_ ?_
  · intro W hSW; have hl := HW10.out W hSW; go_simp
  simp only [Act.put, List.setIfInBounds_toArray, List.set_cons_zero, List.set_cons_succ]
  refine wpAnyH_ready (rs := [1]) (by kernel_rfl) (by simp) ?_
  refine AllReadyH.cons rfl (fun KK hKK => ?_) AllReadyH.nil
  go_simp
  refine (HIN5.out _ aS).mono ?_
  rintro _ W1 ⟨rfl, a1⟩
  dsimp only
  have aT := aS.trans a1
  clear aS
  have aS := aT
  clear aT
  refine hKK.out _ _ aS (fun hHeld => ?_)
  clear hKK KK
  refine wpAnyH_ready (rs := [2]) (by kernel_rfl) (by simp) ?_
  refine AllReadyH.cons rfl (fun KK hKK => ?_) AllReadyH.nil
  go_simp
  refine (HTW.out _ aS).mono ?_
  rintro _ WT ⟨⟨pT, nT, cT⟩, fsT, rfl, ownT, hnT, frT⟩
  have HOT := hid ownT
  have HFT := hid frT
  have HNT := hid hnT
  have aW := ownT.nw.ap
  clear ownT frT hnT
  dsimp only [Sl.v]
  have aT := aS.trans aW
  clear aS
  have aS := aT
  clear aT
  have aWT := Apart.refl [] WT
  refine hKK.out _ _ aS (fun hHeld => ?_)
  clear hKK KK
  refine wpAnyH_ready (rs := [3]) (by kernel_rfl) (by simp) ?_
  refine AllReadyH.cons rfl (fun KK hKK => ?_) AllReadyH.nil
  go_simp
  refine (hM _).mono ?_
  rintro _ W1 ⟨rfl, a1⟩
  have HA1 := hid (aWT.trans a1)
  dsimp only
  have aT := aS.trans a1
  clear aS
  have aS := aT
  clear aT
  refine hKK.out _ _ aS (fun hHeld => ?_)
  clear hKK KK
  refine wpAnyH_ready (rs := [6]) (by kernel_rfl) (by simp) ?_
  refine AllReadyH.cons rfl (fun KK hKK => ?_) AllReadyH.nil
  go_simp
  have hRM := rmerge_reads W1 pT nT cT fsT (List.replicate nT markW) markE markW lim ((HOT.out.kept HA1.out).LE (by have := HNT.out; simp only at this ⊢; omega)) (by have := HNT.out; simp only at this; omega) (by simp) (fun j hj => by rw [gR_rep _ _ hj, ← gR_rep N j (by have := HNT.out; simp only at this; omega)]; exact ((HFT.out j (by have := HNT.out; simp only at this; omega)).kept0 HA1.out).reads) (mark_reads W1)
  unfold markE E.agg Sl.v at hRM
  refine hRM.mono ?_
  rintro _ w10 ⟨⟨p10, n10, c10⟩, fs10, rfl, hn10, L10, a10, R10⟩
  have HN10 := hid hn10
  have HL10 := hid L10
  have HR10 := hid R10
  clear hn10 L10 R10 hRM
  have HNT2 : Hid (nT = N) := HNT.out
  dsimp only [Sl.v]
  have aT := aS.trans a10
  clear aS
  have aS := aT
  clear aT
  refine hKK.out _ _ aS (fun hHeld => ?_)
  clear hKK KK
  refine tk 7 78 (.tuple #[(.slice p10 n10 c10), (.int .i64 (merrW (List.replicate nT markW) markW lim))]) rfl ?_ ?_
  · intro W hSW; go_simp
  simp only [Act.put, List.setIfInBounds_toArray, List.set_cons_zero, List.set_cons_succ]
  refine tk 8 86 (.slice p10 n10 c10) rfl ?_ ?_
  · intro W hSW; go_simp
  simp only [Act.put, List.setIfInBounds_toArray, List.set_cons_zero, List.set_cons_succ]
  refine tk 9 87 (.int .i64 (merrW (List.replicate nT markW) markW lim)) rfl ?_ ?_
  · intro W hSW; go_simp
  simp only [Act.put, List.setIfInBounds_toArray, List.set_cons_zero, List.set_cons_succ]
  refine tk 10 11 (.slice p10 n10 c10) rfl ?_ ?_
  · intro W hSW; go_simp
  simp only [Act.put, List.setIfInBounds_toArray, List.set_cons_zero, List.set_cons_succ]
  refine tk 11 12 (.int .i64 (merrW (List.replicate nT markW) markW lim)) rfl ?_ ?_
  · intro W hSW; go_simp
  simp only [Act.put, List.setIfInBounds_toArray, List.set_cons_zero, List.set_cons_succ]
  refine wpAnyH_done (by kernel_rfl) ?_ _
  have HA10 := hid aS
  clear aS hHeld HIN5 HTW HW10
  have hnt := HNT2.out
  rw [hnt] at HN10 HL10 HR10 ⊢
  rw [← HMZ.out] at HN10 HL10 HR10
  rw [← HEZ.out]
  obtain ⟨L9, R9⟩ := HLA9.out 0 0 w10 (HA10.out.fr0 0 0) (Nat.zero_le _)
  have e9 : n9 = mz.length := HNN9.out
  have e10 : n10 = mz.length := HN10.out
  have hSL := sameList_yes w10 p9 p10 mz.length c9 c10 fs9 fs10 mz L9 HL10.out R9 HR10.out
  rw [← e9] at hSL
  obtain rfl : n10 = n9 := by omega
  clear L9 R9 e9 e10 hnt
  go_wp2_with fail
  refine hSL.mono ?_
  clear hSL
  rintro _ w11 ⟨rfl, a11⟩
  have HA11 := hid a11
  clear a11
  dsimp only
  go_wp2
  go_ret
  exact ⟨rfl, HB.out.trans (HA17.out.trans (HA9.out.trans (HA10.out.trans HA11.out)))⟩
end Go.Proofs.YtokaeiahhmaokaaGreatDoor.ds
namespace Go.Proofs.YtokaeiahhmaokaaGreatDoor.ds
open Go.ChangeShapes Go.WideShapes Go.ChangeAt Go.RowKit Go.Sort
set_option linter.unusedVariables false
set_option linter.unusedSimpArgs false
def aE : E := ⟨0, 1, ⟨#[107]⟩, false, ⟨none, 0, 0⟩, ⟨none, 0, 0⟩⟩
def bE (B : Nat) : E := ⟨1, 1, ⟨#[107]⟩, false, ⟨none, 0, 0⟩, ⟨some ⟨B, 0, none⟩, 1, 1⟩⟩
def aW : Wr := ⟨0, 1, ⟨#[107]⟩, false, [], []⟩
def bW : Wr := ⟨1, 1, ⟨#[107]⟩, false, [], [⟨0, 1, 0⟩]⟩
theorem okb : OkL 64 [(⟨0, 1, 0⟩ : S)] := ⟨fun x hx => by
  simp at hx
  subst hx
  exact ⟨by decide, by decide, by decide, by decide, by simp, by decide, by simp [bl], by simp [bl]⟩, by simp⟩
theorem hasb : hasd [(⟨0, 1, 0⟩ : S)] 0 1 = true := by
  unfold hasd
  rw [norm_of okb]
  unfold hasv
  simp [ofn, dot]
theorem kk : keq ⟨#[107]⟩ ⟨#[107]⟩ = true := by unfold keq; simp
theorem cv1 : cvW bW aW = true := by unfold cvW; show (keq ⟨#[107]⟩ ⟨#[107]⟩ && hasd [(⟨0, 1, 0⟩ : S)] 0 1) = true; rw [kk, hasb]; rfl
theorem left1 : leftW [aW] bW = [] := by unfold leftW; simp [cv1]
theorem merge1 : mergeW [aW] bW = [bW] := by unfold mergeW; rw [left1]; simp [insW]
theorem key1 : ([aW] : List Wr).any (fun t => !keq t.k bW.k) = false := by
  simp only [List.any_cons, List.any_nil, Bool.or_false]
  show (!keq ⟨#[107]⟩ ⟨#[107]⟩) = false
  rw [kk]; rfl
theorem dot1 : ([aW] : List Wr).any (fun t => deqW t bW) = false := by simp [deqW, aW, bW]
theorem merr1 : merrW [aW] bW 1 = 0 := by unfold merrW; rw [if_neg (by rw [key1]; simp), if_neg (by rw [dot1]; simp), merge1]; simp
theorem mlist1 : mlistW [aW] bW 1 = [bW] := by unfold mlistW; rw [if_neg (by rw [key1]; simp), if_neg (by rw [dot1]; simp), merge1]; simp
theorem a_reads (w : World) : Reads w aE aW := ⟨rfl, rfl, rfl, rfl, Rd.nil _ _, rfl, by decide, by simp [aW], ⟨Sp.nil _ _, rfl, by decide, by simp [aW]⟩, by decide, fun _ => ⟨rfl, rfl⟩, fun _ => ⟨rfl, rfl⟩⟩
theorem b_reads {w : World} {B : Nat} (h : w.heap[B]? = some (.cells #[.int .i64 0, .int .i64 1, .int .u64 0] 47 (0, 0))) : Reads w (bE B) bW := by
  refine ⟨rfl, rfl, rfl, rfl, Rd.nil _ _, rfl, by simp [bE], by simp [bW], ⟨fun _ => ⟨B, 0, rfl, lt_of_heap h, fun i hi => ?_⟩, rfl, by simp [bE], by simp [bW]⟩, by simp [bE], fun _ => ⟨rfl, rfl⟩, fun e => by cases e⟩
  have e : i = 0 := by simp [bW] at hi; exact hi
  subst e
  refine ⟨?_, ?_, ?_⟩ <;> (rw [cell_of_row _ _ _ _ _ _ h]; rfl)
theorem buildB (W : World) : Sem.run Tryz.prog (Instr.buildSlice 26 1 #[(0, .agg #[.int .i64 0, .int .i64 1, .int .u64 0])]) W = .ok (.slice (some ⟨W.heap.size, 0, none⟩) 1 1) (W.alloc (.cells #[.int .i64 0, .int .i64 1, .int .u64 0] 47)) := by
  obtain ⟨ie, hi, hz0, hz1, hz2⟩ := info_parts info52
  refine run_buildSlice W 26 47 1 _ _ ie _ Tryz.underlying26 hi hz0 (by rw [hz1]; decide) (by rw [hz1]; decide) ?_
  rw [hz1]
  first | rfl | (simp [Instr.fill, Array.range, Value.cells, Array.ofFn]; done) | kernel_rfl
set_option maxHeartbeats 8000000 in
set_option maxRecDepth 100000 in
theorem able_ok (w : World) : Calls Tryz.prog 9 #[] w fun r w' => r = .returned (.bool true) ∧ Apart [] w w' := by
  obtain ⟨wa, hwa⟩ : ∃ wa, wa = w.alloc (boxE aE) := ⟨_, rfl⟩
  obtain ⟨ws, hws⟩ : ∃ ws, ws = wa.alloc (.cells #[.int .i64 0, .int .i64 1, .int .u64 0] 47) := ⟨_, rfl⟩
  obtain ⟨wb, hwb⟩ : ∃ wb, wb = ws.alloc (boxE (bE wa.heap.size)) := ⟨_, rfl⟩
  obtain ⟨wl, hwl⟩ : ∃ wl, wl = wb.alloc (boxE aE) := ⟨_, rfl⟩
  have ra : wa.heap[w.heap.size]? = some (boxE aE) := by rw [hwa]; exact heap_alloc_new w _
  have rs : ws.heap[wa.heap.size]? = some (.cells #[.int .i64 0, .int .i64 1, .int .u64 0] 47 (0, 0)) := by rw [hws]; exact heap_alloc_new wa _
  have rb : wb.heap[ws.heap.size]? = some (boxE (bE wa.heap.size)) := by rw [hwb]; exact heap_alloc_new ws _
  have rl : wl.heap[wb.heap.size]? = some (boxE aE) := by rw [hwl]; exact heap_alloc_new wb _
  have asx : Apart [] wa ws := by rw [hws]; exact (Apart.refl _ _).alloc _
  have ab : Apart [] ws wb := by rw [hwb]; exact (Apart.refl _ _).alloc _
  have al : Apart [] wb wl := by rw [hwl]; exact (Apart.refl _ _).alloc _
  have a0 : Apart [] w wa := by rw [hwa]; exact (Apart.refl _ _).alloc _
  have hA : ∀ W : World, Apart [] wb W → Cap W w.heap.size aE := fun W a => (((asx.trans ab).trans a).block _ (lt_of_heap ra) (by simp)).trans ra
  have hB : ∀ W : World, Apart [] wb W → Cap W ws.heap.size (bE wa.heap.size) := fun W a => (a.block _ (lt_of_heap rb) (by simp)).trans rb
  have hS : ∀ W : World, Apart [] wb W → Reads W (bE wa.heap.size) bW := fun W a => b_reads (((ab.trans a).block _ (lt_of_heap rs) (by simp)).trans rs)
  have HA := hid hA
  have HB := hid hB
  have HS := hid hS
  have HAL := hid al
  have HA0 := hid (a0.trans (asx.trans ab))
  have hMg := merge_reads wl (some ⟨wb.heap.size, 0, none⟩) 1 1 [aE] [aW] (bE wa.heap.size) bW 1 (LE.one rl) (by decide) (fun e => by cases e) rfl (reads_one (a_reads _)) (hS wl al)
  rw [merr1, mlist1] at hMg
  have hb1 := fun W => buildE W aE
  have hb2 := buildB
  obtain ⟨t0, t1, t2, t3, t4, t5⟩ := row6 (hA wb (Apart.refl _ _))
  obtain ⟨u0, u1, u2, u3, u4, u5⟩ := row6 (hB wl al)
  dsimp only [bE, E.agg, Sl.v] at hMg
  dsimp only [aE, E.agg, Sl.v, boxE] at hb1
  dsimp only [aE, boxE, Sl.v] at hwa hwl
  dsimp only [bE, boxE, Sl.v] at hwb
  dsimp only [aE, Sl.v] at t0 t1 t2 t3 t4 t5
  dsimp only [bE, Sl.v] at u0 u1 u2 u3 u4 u5
  have hss : ws.heap.size = wa.heap.size + 1 := by rw [hws]; simp
  rw [hss] at u0 u1 u2 u3 u4 u5 HB
  subst hwl
  have cvb : ∀ W : World, Apart [] wb W → Calls Tryz.prog 24 #[(bE wa.heap.size).agg, aE.agg] W fun r w' => r = .returned (.bool true) ∧ Apart [] W w' := fun W a => covers_ok (bE wa.heap.size) aE [⟨0, 1, 0⟩] W (HS.out W a).x true (by unfold cvE; show true = (keq ⟨#[107]⟩ ⟨#[107]⟩ && hasd [(⟨0, 1, 0⟩ : S)] 0 1); rw [kk, hasb]; rfl)
  have cva : ∀ W : World, Calls Tryz.prog 24 #[aE.agg, (bE wa.heap.size).agg] W fun r w' => r = .returned (.bool false) ∧ Apart [] W w' := fun W => covers_ok aE (bE wa.heap.size) [] W (a_reads W).x false (by unfold cvE; rw [hasd_nil]; simp)
  have HCA := hid cva
  have HCBb := hid cvb
  clear ra rs rb rl asx ab al a0 hA hB hS hss cva cvb
  go_enter Tryz.func9, Tryz.ntmps9
  go_upto_region 2 with fail
  rw [← hwa]
  clear hwa
  go_upto_region 3 with fail
  rw [← hws, ← hwb]
  clear hws hwb
  go_wp2_with fail
  refine hMg.mono ?_
  clear hMg t0 t1 t2 t3 t4 t5 u0 u1 u2 u3 u4 u5
  rintro _ w3 ⟨⟨p3, n3, c3⟩, fs3, rfl, hn3, a3, later3⟩
  have HA3 := hid (HAL.out.trans a3)
  have HLA := hid later3
  have e3 : n3 = 1 := hn3
  subst e3
  clear later3 hn3 a3
  dsimp only
  obtain ⟨t0, t1, t2, t3, t4, t5⟩ := row6 (HA.out w3 HA3.out)
  obtain ⟨u0, u1, u2, u3, u4, u5⟩ := row6 (HB.out w3 HA3.out)
  have hc1 := HCBb.out w3 HA3.out
  dsimp only [aE, Sl.v] at t0 t1 t2 t3 t4 t5
  dsimp only [bE, Sl.v] at u0 u1 u2 u3 u4 u5
  dsimp only [aE, bE, E.agg, Sl.v] at hc1
  go_wp2_with fail
  refine hc1.mono ?_
  clear hc1 t0 t1 t2 t3 t4 t5 u0 u1 u2 u3 u4 u5
  rintro _ w4 ⟨rfl, a4⟩
  have HA4 := hid (HA3.out.trans a4)
  have HA34 := hid a4
  clear a4
  dsimp only
  obtain ⟨t0, t1, t2, t3, t4, t5⟩ := row6 (HA.out w4 HA4.out)
  obtain ⟨u0, u1, u2, u3, u4, u5⟩ := row6 (HB.out w4 HA4.out)
  have hc1 := HCA.out w4
  dsimp only [aE, Sl.v] at t0 t1 t2 t3 t4 t5
  dsimp only [bE, Sl.v] at u0 u1 u2 u3 u4 u5
  dsimp only [aE, bE, E.agg, Sl.v] at hc1
  go_wp2_with fail
  refine hc1.mono ?_
  clear hc1 t0 t1 t2 t3 t4 t5 u0 u1 u2 u3 u4 u5
  rintro _ w5 ⟨rfl, a5⟩
  have HA5 := hid (HA4.out.trans a5)
  obtain ⟨L5, R5⟩ := HLA.out 0 0 w5 ((HA34.out.trans a5).fr0 0 0) (Nat.zero_le _)
  obtain ⟨P, o, hP, _, hc⟩ := L5.at (by decide)
  have hr := R5 0 (by decide)
  obtain ⟨k0, _, k2, _⟩ := hc 0 (by decide)
  have q1 : (gE fs3 0).n = 1 := hr.n
  have q2 : (gE fs3 0).k = ⟨#[107]⟩ := hr.k
  rw [q1] at k0
  rw [q2] at k2
  subst hP
  rw [Nat.zero_mul, Nat.add_zero] at k0 k2
  clear a5 L5 R5 hc hr q1 q2
  dsimp only
  go_wp2
  go_ret
  exact ⟨rfl, HA0.out.trans HA5.out⟩
end Go.Proofs.YtokaeiahhmaokaaGreatDoor.ds
namespace Go.Proofs.YtokaeiahhmaokaaGreatDoor.ds
open Go.ChangeShapes Go.WideShapes Go.ChangeAt Go.RowKit Go.Sort
set_option linter.unusedVariables false
set_option linter.unusedSimpArgs false
/-- a list of writes that came in -/
structure In (w : World) (s : Sl) (es : List E) (rs : List Wr) : Prop where
  le : LE w s.p s.n es
  n : s.n ≤ 1048576
  len : rs.length = s.n
  rd : ∀ j, j < s.n → Reads w (gE es j) (gR rs j)
  ok : s.ok
theorem In.kept0 {w w' : World} {s : Sl} {es : List E} {rs : List Wr} (h : In w s es rs) (a : Apart [] w w') : In w' s es rs := ⟨h.le.kept0 a, h.n, h.len, fun j hj => (h.rd j hj).kept0 a, h.ok⟩
/-- the sets of a case -/
def Sets (w : World) (p : Option Addr) (n : Nat) (F : Nat → Sl × List E × List Wr) : Prop :=
  0 < n → ∃ P o, p = some ⟨P, o, none⟩ ∧ P < w.heap.size ∧ ∀ i, i < n → w.cell? ⟨P, o + i, none⟩ = some (F i).1.v ∧ In w (F i).1 (F i).2.1 (F i).2.2
theorem mergesO (w : World) (S B : Value) (u : E) (lim gap : Int) : (w.alloc (caseO S B u lim gap)).heap[w.heap.size]? = some (.cells #[S, .int .i64 u.n, .int .i64 u.c, .string u.k, .bool u.d, .slice u.v.p u.v.n u.v.c, .slice u.x.p u.x.n u.x.c, B, .int .i64 lim, .int .i64 gap] 31 (0, 0)) := heap_alloc_new w _
theorem caseCells {w : World} {C : Nat} {a b c d e f g h i j : Value} {t : TypeId} (hr : w.heap[C]? = some (.cells #[a, b, c, d, e, f, g, h, i, j] t (0, 0))) : w.cell? ⟨C, 0, none⟩ = some a ∧ w.cell? ⟨C, 1, none⟩ = some b ∧ w.cell? ⟨C, 2, none⟩ = some c ∧ w.cell? ⟨C, 3, none⟩ = some d ∧ w.cell? ⟨C, 4, none⟩ = some e ∧ w.cell? ⟨C, 5, none⟩ = some f ∧ w.cell? ⟨C, 6, none⟩ = some g ∧ w.cell? ⟨C, 7, none⟩ = some h ∧ w.cell? ⟨C, 8, none⟩ = some i ∧ w.cell? ⟨C, 9, none⟩ = some j := by
  refine ⟨?_, ?_, ?_, ?_, ?_, ?_, ?_, ?_, ?_, ?_⟩ <;> (rw [cell_of_row _ _ _ _ _ _ hr]; rfl)
/-- all the writes, one set behind the other -/
def catE (F : Nat → Sl × List E × List Wr) (u : E) : Nat → List E
  | 0 => [u]
  | i + 1 => catE F u i ++ (F i).2.1
/-- each of them can be read -/
def AllR (w : World) (ls : List E) : Prop := ∀ e ∈ ls, ∃ r, Reads w e r
theorem AllR.kept0 {w w' : World} {ls : List E} (h : AllR w ls) (a : Apart [] w w') : AllR w' ls := fun e he => by
  obtain ⟨r, hr⟩ := h e he
  exact ⟨r, hr.kept0 a⟩
theorem gE_memE (ls : List E) (j : Nat) (h : j < ls.length) : gE ls j ∈ ls := by rw [gE_eq ls j h]; exact List.getElem_mem h
theorem cat_all {w : World} {p : Option Addr} {n : Nat} {F : Nat → Sl × List E × List Wr} (hS : Sets w p n F) {u : E} {ru : Wr} (hu : Reads w u ru) : ∀ i, i ≤ n → AllR w (catE F u i)
  | 0, _ => fun e he => by
    simp [catE] at he
    subst he
    exact ⟨ru, hu⟩
  | i + 1, hi => fun e he => by
    unfold catE at he
    rcases List.mem_append.1 he with h | h
    · exact cat_all hS hu i (by omega) e h
    · obtain ⟨P, o, _, _, hc⟩ := hS (by omega)
      obtain ⟨_, hin⟩ := hc i (by omega)
      obtain ⟨k, hk, rfl⟩ := List.mem_iff_getElem.1 h
      have hk' : k < (F i).1.n := by rw [← hin.le.len]; exact hk
      rw [← gE_eq _ _ hk]
      exact ⟨_, hin.rd k hk'⟩
/-- append of a list that came in, to a list of the call's own that is not empty -/
theorem app_in {w W : World} {s : Sl} {ls : List E} (h : OwnE w W s ls) (h0 : 0 < s.n) (hn : s.n ≤ 1099512676352) {t : Sl} {es : List E} {rs : List Wr} (hi : In W t es rs) (ty : TypeId) :
    ∃ s' W', (Builtin.append_ #[35, 35] ty #[s.v, t.v]).run Tryz.prog W = .ok (Sl.v s') W' ∧ OwnE w W' s' (ls ++ es) ∧ s'.n = s.n + t.n := by
  obtain ⟨i0, hif, hz0, hz1, hz2⟩ := info_parts infoW
  have htn := hi.n
  have hlen : (flatE es).length = t.n * 6 := by rw [flatE_length, hi.le.len]
  by_cases hm : 0 < t.n
  · obtain ⟨P, o, hp, hP, hc⟩ := hi.le.rd (by rw [hlen]; omega)
    obtain ⟨s', W', hrun, hnw, hsn, ap, _⟩ := run_appS (s := s) 35 ty 28 i0 _ 6 88 Tryz.underlying35 hif hz0 hz1 hz2 rfl (by decide) h.nw ⟨P, o, none⟩ t.n t.c (flatE es) hm hlen (fun j u hj => by rw [Addr.add_lit]; exact hc j u hj) (oneE es) (by unfold maxLen; omega) (by omega)
    refine ⟨s', W', ?_, ⟨by rw [flatE_append]; exact hnw, by rw [List.length_append, h.len, hi.le.len, hsn]⟩, hsn⟩
    unfold Sl.v at hrun ⊢
    rw [hp]
    exact hrun
  · have hz : t.n = 0 := by omega
    have he : es = [] := List.length_eq_zero_iff.1 (by rw [hi.le.len]; exact hz)
    subst he
    obtain ⟨p, n, c⟩ := t
    simp only at hz
    subst hz
    cases p with
    | none =>
      obtain ⟨_, hc⟩ := hi.ok rfl
      simp only at hc
      subst hc
      exact ⟨s, W, run_append_owned_none (P := Tryz.prog) W 0 35 ty 28 i0 6 Tryz.underlying35 hif s.v s.n (flatE ls) h.nw.own, by rw [List.append_nil]; exact h, by simp⟩
    | some ad =>
      obtain ⟨_, ⟨hv, hz'⟩ | ⟨g, cap, cur, hv, _, _, hcap, _⟩⟩ := h.nw.own
      · exact absurd hz' (by omega)
      · have own := h.nw.own
        rw [hv] at own
        obtain ⟨w', hrun, ho, hg⟩ := run_append_fits (P := Tryz.prog) W 0 35 ty 28 i0 6 Tryz.underlying35 hif hz1 g s.n cap (flatE ls) own ad 0 c [] (by simp) (by simp) (by simp) (by omega)
        rw [Nat.add_zero, List.append_nil] at ho
        refine ⟨s, w', by rw [hv]; exact hrun, ?_, by simp⟩
        rw [List.append_nil]
        exact ⟨⟨by rw [hv]; exact ho, h.nw.new, h.nw.ap.trans' (apart_grown hg) (fun y hy => by simp at hy; subst hy; exact .inr (h.nw.new _ (by rw [hv]; rfl)))⟩, h.len⟩
end Go.Proofs.YtokaeiahhmaokaaGreatDoor.ds
