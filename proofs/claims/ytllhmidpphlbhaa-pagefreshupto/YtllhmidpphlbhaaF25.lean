import Derived.Deep.RegionHeld
import Derived.OrdersHeld
import Derived.WalkKit
import Derived.ProofKit
import Derived.Lib.TrailingZeros
import Derived.Test.YtllhmidpphlbhaaChecked
import Derived.OpenShut
import Derived.Deep.QuietTactic
import Derived.BigQuiet
import Derived.BigRegion
import Derived.Laws.CopyOwn
import Derived.Laws.Bits64b
import Derived.Laws.MathBits
import Derived.Laws.ShiftsVarLaws
import Derived.WalkSmall
import Derived.Laws.ResultCell
import Derived.Lib.BitFns
import Derived.Laws.StructEq
import Derived.ArgAppend
import Derived.Deep.RegionLaw
import Derived.Deep.DeepAppendRoom
import Derived.Sort.WalkA
import Derived.Laws.Strings
import Derived.Deep.CutBlock
import Derived.Great.BuildSlice
import Derived.Laws.AppendOwnNone
import Derived.Lib.Overlaps
import Derived.Lib.AppendZerosOnto
import Derived.Laws.NewBlocks
import Derived.Laws.Externs
import Derived.Laws.IdiomCopy
import Derived.Laws.BytesString
import Derived.Deep.CutRange
import Derived.RangeFuncNested
import Derived.RangeFuncBound
import Derived.RangeFuncCalls
import Derived.RangeFuncLeaves
import Derived.Shelf.Abstract
import Derived.Shelf.RegionOpen
import Derived.OwnWalkIn
import Derived.TacticsInMore
import Derived.LoopNIn
import Derived.LoopIn
import GoSem.Claim
import GoSem.ClaimJoined
import GoSem.ClaimMapViews
import Derived.JoinedTies
import Derived.KernelRfl
import Derived.Deep.OwnRows
import Derived.Lib.LaidTab
import Derived.JoinedCond
import Derived.ShutString
import Derived.ChangeOld
import Derived.Below
import Derived.Carry
import Derived.ChangeSlices
import Derived.Deep.Slices
import Derived.Deep.DeepHandedRow
import Derived.RowKit
import Derived.ChangeShapes
import Derived.SizedLaws
import Derived.ChangeMaps5
import Derived.Lib.Walk
import Derived.Lib.SliceRun
import Derived.Lib.AppendStr
import Derived.Lib.ConvBytes
import Derived.Deep.RegionHeld3
import Derived.Deep.MidRow
import Derived.Laws.MakeOwn
import Derived.Lib.SlBytesConst
import Derived.Test.YtllhmidpphlbhaaRows
import Derived.Test.YtllhmidpphlbhaaF22
import Derived.Test.YtllhmidpphlbhaaF24
namespace Go.Proofs.Ytllhmidpphlbhaa.ds
open Go.ChangeShapes Go.WideShapes Go.ChangeAt Go.RowKit Go.Sort
set_option linter.unusedVariables false
set_option linter.unusedSimpArgs false

theorem crow {w : World} {g : Nat} {t : TypeId} {cs : Array Value} (h : w.heap[g]? = some (.cells cs t (0, 0))) (i : Nat) (v : Value) (hv : cs[i]? = some v) : w.cell? ⟨g, i, none⟩ = some v := by
  rw [cell_of_row _ _ _ _ _ _ h]; exact hv
/-- the list of the lent clocks, cell by cell -/
theorem LCI.kcells {w wt : World} {A X : Nat} {row : Array Value} {cs : List (Int × List S)} {i : Nat} {sk sx : Sl} {xl : List Sl} {kk : List Ck} (h : LCI w wt A X row cs i sk sx xl kk [mkK]) : ∃ G, sk.p = some ⟨G, 0, none⟩ ∧ G < wt.heap.size ∧ i + 1 ≤ sk.c ∧ sk.c ≤ maxLen ∧ (wt.cell? ⟨G, i * 2, none⟩ = some (.int .i64 (-71)) ∧ wt.cell? ⟨G, i * 2 + 1, none⟩ = some (.slice none 0 0)) ∧ ∀ j, j < i → wt.cell? ⟨G, j * 2, none⟩ = some (.int .i64 (gC cs j).1) ∧ wt.cell? ⟨G, j * 2 + 1, none⟩ = some (.slice (gS xl j).p (gC cs j).2.length (gS xl j).c) := by
  have hsn : sk.n = i + 1 := by have := h.k.own.1; rw [flatK_len, List.length_append, h.kn] at this; simp at this; omega
  obtain ⟨G, cur, hp, _, hb, hle, _, _, _, hmx⟩ := h.k.blk (by omega)
  have hl : (kk ++ [mkK]).length = i + 1 := by rw [List.length_append, h.kn]; rfl
  obtain ⟨P', o', e, hP, hc⟩ := h.k.rd (by rw [flatK_len, hl]; omega)
  rw [hp] at e
  simp at e
  obtain ⟨rfl, rfl⟩ := e
  have hcell : ∀ j, j < i + 1 → wt.cell? ⟨G, j * 2, none⟩ = some (.int .i64 (gK (kk ++ [mkK]) j).r) ∧ wt.cell? ⟨G, j * 2 + 1, none⟩ = some (.slice (gK (kk ++ [mkK]) j).s.p (gK (kk ++ [mkK]) j).s.n (gK (kk ++ [mkK]) j).s.c) := fun j hj => by
    obtain ⟨g0, g1⟩ := flatK_get (kk ++ [mkK]) j (by omega)
    exact ⟨by simpa using hc _ _ g0, by simpa using hc _ _ g1⟩
  refine ⟨G, hp, hP, by omega, hmx, ?_, fun j hj => ?_⟩
  · have := hcell i (by omega)
    have e1 : gK (kk ++ [mkK]) i = mkK := by have := gK_r (l := kk) (t := mkK); rw [h.kn] at this; exact this
    rw [e1] at this
    exact this
  · have := hcell j (by omega)
    rw [gK_l (by rw [h.kn]; exact hj), h.ke j hj] at this
    exact this
set_option maxHeartbeats 16000000 in
set_option maxRecDepth 100000 in
theorem clocks_law (w : World) (kd gn ow : Int) (s t : Sl) (ks : List Ck) (cs : List (Int × List S)) (h : RCs w s ks cs) (hx : ∀ j, j < s.n → (gC cs j).2.length ≤ 2000000) : Calls Try.prog 40 #[.agg #[.int .i64 kd, .int .i64 gn, .int .i64 ow, .slice s.p s.n s.c, .slice t.p t.n t.c]] w fun q w' => CO w w' q (eClocks gn cs) (pcC gn cs) := by
  have HC := hid h
  have hcl := h.cl
  have HX := hid hx
  have hlim := h.lim
  have HF : Hid (∀ j, j < cs.length → (∀ x ∈ (gC cs j).2, x.t < 2 ^ 64) ∧ (gC cs j).2.length ≤ 2000000) := fun j hj => ⟨(h.each j (by omega)).2.1.fit, hx j (by omega)⟩
  clear h hx
  obtain ⟨A, HXA⟩ : ∃ A, Hid (A = w.heap.size) := ⟨_, rfl⟩
  obtain ⟨w1, hw1⟩ : ∃ V, V = w.alloc (.cells #[.int .i64 kd, .int .i64 gn, .int .i64 ow, .slice s.p s.n s.c, .slice t.p t.n t.c] 25) := ⟨_, rfl⟩
  obtain ⟨X, HXX⟩ : ∃ X, Hid (X = w1.heap.size) := ⟨_, rfl⟩
  obtain ⟨w2, hw2⟩ : ∃ V, V = w1.alloc (.cells #[.slice none 0 0, .slice none 0 0] 88) := ⟨_, rfl⟩
  have a1 : Apart [] w w1 := by rw [hw1]; exact (Apart.refl [] w).alloc _
  have a2 : Apart [] w1 w2 := by rw [hw2]; exact (Apart.refl [] w1).alloc _
  have hA1 : w1.heap[A]? = some (.cells #[.int .i64 kd, .int .i64 gn, .int .i64 ow, .slice s.p s.n s.c, .slice t.p t.n t.c] 25 (0, 0)) := by rw [hw1, HXA.out]; exact heap_alloc_new w _
  have hX2 : w2.heap[X]? = some (.cells #[.slice none 0 0, .slice none 0 0] 88 (0, 0)) := by rw [hw2, HXX.out]; exact heap_alloc_new w1 _
  have HI2 : Hid (LCI w w2 A X #[.int .i64 kd, .int .i64 gn, .int .i64 ow, .slice s.p s.n s.c, .slice t.p t.n t.c] cs 0 slz slz [] [] []) := ⟨⟨hX2, by rw [HXX.out]; exact a1.size, RR.nil (a1.trans a2), RR.nil (a1.trans a2)⟩, ⟨World.ownsRow_nil _ _ _ _, by simp [Sl.v, slz, Value.ownBlock], a1.trans a2⟩, rfl, rfl, fun j hj => absurd hj (by omega), keep0 a2 hA1⟩
  clear a1 a2 hA1 hX2
  go_enter Try.func40, Try.ntmps40
  go_upto_region 1 with fail
  rw [← hw1, ← HXA.out]
  clear hw1
  go_upto_region 2 with fail
  rw [← hw2, ← HXX.out]
  clear hw2 HXX
  go_wp2_with fail
  go_loopw [6, 7] (fun a b wt => ∃ (i : Nat) (sk sx : Sl) (xl : List Sl) (kk : List Ck), a = .slice sk.p sk.n sk.c ∧ b = .int .i64 (i : Nat) ∧ i ≤ s.n ∧ LCI w wt A X #[.int .i64 kd, .int .i64 gn, .int .i64 ow, .slice s.p s.n s.c, .slice t.p t.n t.c] cs i sk sx xl kk []) (fun _ b _ => s.n - (intOf b).toNat)
  case atStart => exact ⟨0, slz, slz, [], [], rfl, rfl, Nat.zero_le _, HI2.out⟩
  case round =>
    clear HI2
    obtain ⟨i, sk, sx, xl, kk, rfl, rfl, hile, hI⟩ := hrel
    have HI := hid hI
    have z3 := crow hI.a 3 (.slice s.p s.n s.c) rfl
    clear hI
    by_cases hlt : i < s.n
    · have hlti : ((i : Nat) : Int) < (s.n : Int) := by omega
      have HCW : Hid (∀ W, Apart [] w W → RCs W s ks cs) := fun W a => HC.out.kept0 a
      obtain ⟨P, o, hP, hPl, -⟩ := HC.out.cells i hlt
      have HCL : Hid (∀ W, (W.heap[A]? = some (.cells #[.int .i64 kd, .int .i64 gn, .int .i64 ow, .slice s.p s.n s.c, .slice t.p t.n t.c] 25 (0, 0)) ∧ Apart [] w W) → W.cell? ⟨A, 3, none⟩ = some (.slice (some ⟨P, o, none⟩) s.n s.c) ∧ W.cell? ⟨P, o + i * 2, none⟩ = some (.int .i64 (gC cs i).1) ∧ W.cell? ⟨P, o + i * 2 + 1, none⟩ = some (.slice (gK ks i).s.p (gK ks i).s.n (gK ks i).s.c)) := fun W hW => by
        obtain ⟨P', o', hP', _, c0, c1⟩ := (HC.out.kept0 hW.2).cells i hlt
        rw [hP] at hP'
        simp at hP'
        obtain ⟨rfl, rfl⟩ := hP'
        rw [(HC.out.each i hlt).1] at c0
        exact ⟨by rw [← hP]; exact crow hW.1 3 _ rfl, c0, c1⟩
      have HEX := hid (HC.out.each i hlt)
      have HXL := hid (HX.out i hlt)
      have HIC : Hid (i < cs.length) := by unfold Hid; omega
      generalize gK ks i = ki at *
      have HSN : Hid (s.p = some ⟨P, o, none⟩) := hP
      rw [hP] at z3
      have HId := hid (HI.out.kept0 (Apart.refl [] wr).drew)
      go_upto_region 6 with fail
      refine wp_region_held_drew (S := fun W => W.heap[A]? = some (.cells #[.int .i64 kd, .int .i64 gn, .int .i64 ow, .slice s.p s.n s.c, .slice t.p t.n t.c] 25 (0, 0)) ∧ Apart [] w W) (by kernel_rfl) ⟨HId.out.a, HId.out.ld.ap⟩ (fun hHeld => ?_)
      generalize wr.drew = wd at *
      clear z3 hP hPl
      refine tk 0 23 (.slice sk.p sk.n sk.c) rfl ?_ ?_
      · intro W hSW; go_simp
      simp only [Act.put, List.setIfInBounds_toArray, List.set_cons_zero, List.set_cons_succ]
      refine tk 1 24 (.pointer (some ⟨A, 3, none⟩)) rfl ?_ ?_
      · intro W hSW; go_simp
      simp only [Act.put, List.setIfInBounds_toArray, List.set_cons_zero, List.set_cons_succ]
      refine tk 2 25 (.slice (some ⟨P, o, none⟩) s.n s.c) rfl ?_ ?_
      · intro W hSW; obtain ⟨c0, c1, c2⟩ := HCL.out W hSW; go_simp
      simp only [Act.put, List.setIfInBounds_toArray, List.set_cons_zero, List.set_cons_succ]
      refine tk 3 26 (.int .i64 (i : Nat)) rfl ?_ ?_
      · intro W hSW; go_simp
      simp only [Act.put, List.setIfInBounds_toArray, List.set_cons_zero, List.set_cons_succ]
      refine tk 4 27 (.pointer (some ⟨P, o + i * 2, none⟩)) rfl ?_ ?_
      · intro W hSW; go_simp
      simp only [Act.put, List.setIfInBounds_toArray, List.set_cons_zero, List.set_cons_succ]
      refine tk 5 28 (.pointer (some ⟨P, o + i * 2, none⟩)) rfl ?_ ?_
      · intro W hSW; go_simp
      simp only [Act.put, List.setIfInBounds_toArray, List.set_cons_zero, List.set_cons_succ]
      refine tk 6 29 (.int .i64 (gC cs i).1) rfl ?_ ?_
      · intro W hSW; obtain ⟨c0, c1, c2⟩ := HCL.out W hSW; go_simp
      simp only [Act.put, List.setIfInBounds_toArray, List.set_cons_zero, List.set_cons_succ]
      refine tk 7 30 (.pointer (some ⟨X, 0, none⟩)) rfl ?_ ?_
      · intro W hSW; go_simp
      simp only [Act.put, List.setIfInBounds_toArray, List.set_cons_zero, List.set_cons_succ]
      refine tk 8 31 (.pointer (some ⟨A, 3, none⟩)) rfl ?_ ?_
      · intro W hSW; go_simp
      simp only [Act.put, List.setIfInBounds_toArray, List.set_cons_zero, List.set_cons_succ]
      refine tk 9 32 (.slice (some ⟨P, o, none⟩) s.n s.c) rfl ?_ ?_
      · intro W hSW; obtain ⟨c0, c1, c2⟩ := HCL.out W hSW; go_simp
      simp only [Act.put, List.setIfInBounds_toArray, List.set_cons_zero, List.set_cons_succ]
      refine tk 10 33 (.int .i64 (i : Nat)) rfl ?_ ?_
      · intro W hSW; go_simp
      simp only [Act.put, List.setIfInBounds_toArray, List.set_cons_zero, List.set_cons_succ]
      refine tk 11 34 (.pointer (some ⟨P, o + i * 2, none⟩)) rfl ?_ ?_
      · intro W hSW; go_simp
      simp only [Act.put, List.setIfInBounds_toArray, List.set_cons_zero, List.set_cons_succ]
      refine tk 12 35 (.pointer (some ⟨P, o + i * 2 + 1, none⟩)) rfl ?_ ?_
      · intro W hSW; go_simp
      simp only [Act.put, List.setIfInBounds_toArray, List.set_cons_zero, List.set_cons_succ]
      refine tk 13 36 (.slice ki.s.p ki.s.n ki.s.c) rfl ?_ ?_
      · intro W hSW; obtain ⟨c0, c1, c2⟩ := HCL.out W hSW; go_simp
      simp only [Act.put, List.setIfInBounds_toArray, List.set_cons_zero, List.set_cons_succ]
      refine wpAnyH_ready (rs := [14]) (by kernel_rfl) (by simp) ?_
      refine AllReadyH.cons rfl (fun KK hKK => ?_) AllReadyH.nil
      go_simp
      have hLx := HEX.out.2.1.kept0 hHeld.2
      refine (lset_ok HId.out.ld ki.s (gC cs i).2 hLx (by have := hLx.len; have := HXL.out; omega) HEX.out.2.2 (by rw [HId.out.xn]; omega)).mono ?_
      rintro _ wa ⟨sx', tt, rfl, hL, htk⟩
      clear hLx
      have hSa : wa.heap[A]? = some (.cells #[.int .i64 kd, .int .i64 gn, .int .i64 ow, .slice s.p s.n s.c, .slice t.p t.n t.c] 25 (0, 0)) ∧ Apart [] w wa := ⟨htk.block HId.out.a (by decide), hL.ap⟩
      obtain ⟨s2, W2, hrun, hI2⟩ := HId.out.next HIC.out (by omega) hL htk
      have HRUN := hid hrun
      have HI3 := hid hI2
      have hSb : (wa.alloc (Obj.cells #[.int .i64 (gC cs i).1, .slice tt.p (gC cs i).2.length tt.c] 61)).heap[A]? = some (.cells #[.int .i64 kd, .int .i64 gn, .int .i64 ow, .slice s.p s.n s.c, .slice t.p t.n t.c] 25 (0, 0)) ∧ Apart [] w (wa.alloc (Obj.cells #[.int .i64 (gC cs i).1, .slice tt.p (gC cs i).2.length tt.c] 61)) := ⟨keep0 ((Apart.refl [] wa).alloc _) hSa.1, hSa.2.alloc _⟩
      have hSc : W2.heap[A]? = some (.cells #[.int .i64 kd, .int .i64 gn, .int .i64 ow, .slice s.p s.n s.c, .slice t.p t.n t.c] 25 (0, 0)) ∧ Apart [] w W2 := ⟨hI2.a, hI2.ld.ap⟩
      clear hL htk hrun hI2
      try dsimp only
      refine hKK.out _ _ hSa (fun hHeld => ?_)
      clear hKK KK
      try simp only [Act.put, List.setIfInBounds_toArray, List.set_cons_zero, List.set_cons_succ]
      refine tk 15 38 (.agg #[.int .i64 (gC cs i).1, .slice tt.p (gC cs i).2.length tt.c]) rfl ?_ ?_
      · intro W hSW; go_simp
      simp only [Act.put, List.setIfInBounds_toArray, List.set_cons_zero, List.set_cons_succ]
      refine wpAnyH_ready (rs := [16]) (by kernel_rfl) (by simp) ?_
      refine AllReadyH.cons rfl (fun KK hKK => ?_) AllReadyH.nil
      go_simp
      refine hKK.out _ _ hSb (fun hHeld => ?_)
      clear hKK KK
      try simp only [Act.put, List.setIfInBounds_toArray, List.set_cons_zero, List.set_cons_succ]
      refine wpAnyH_ready (rs := [17]) (by kernel_rfl) (by simp) ?_
      refine AllReadyH.cons rfl (fun KK hKK => ?_) AllReadyH.nil
      refine step_app2 (o := ⟨some 40, _, _, _, _, _⟩) rfl (.tmp 23) (.tmp 39) 22 22 rfl _ _ rfl rfl _ _ HRUN.out ?_
      refine hKK.out _ _ hSc (fun hHeld => ?_)
      clear hKK KK
      try simp only [Act.put, List.setIfInBounds_toArray, List.set_cons_zero, List.set_cons_succ]
      refine tk 18 6 (.slice s2.p s2.n s2.c) rfl ?_ ?_
      · intro W hSW; go_simp
      simp only [Act.put, List.setIfInBounds_toArray, List.set_cons_zero, List.set_cons_succ]
      refine wpAnyH_done (by kernel_rfl) ?_ _
      clear hHeld hSa hSb hSc
      go_wp2_with fail
      go_roundw
      case rel => exact ⟨i + 1, s2, sx', _, _, rfl, by go_num, by omega, HI3.out⟩
      case measure => simp [intOf]; omega
    · skip
      have hlti : ¬ ((i : Nat) : Int) < (s.n : Int) := by omega
      have hie : i = s.n := by omega
      clear hile hlt
      rw [hie] at HI hlti ⊢
      clear hie i
      obtain ⟨s2, W2, hrun, hI2, hs2⟩ := HI.out.mark hlim
      have HR2 := hid hrun
      have HI3 := hid hI2
      have y3 := crow hI2.a 3 (.slice s.p s.n s.c) rfl
      obtain ⟨G, hG, hGl, hcap, hmx, hmk, hks⟩ := hI2.kcells
      have HMK := hid hmk
      have HKS := hid hks
      have HGL := hid hGl
      have hcapi : ((s.n : Nat) : Int) ≤ (s2.c : Int) := by omega
      have hcapn : s.n ≤ s2.c := by omega
      unfold maxLen at hmx
      clear HI hrun hI2 hmk hks hGl
      obtain ⟨s2p, s2n, s2c⟩ := s2
      dsimp only at HR2 HI3 hs2 hG hcap hcapi hcapn hmx
      subst hG hs2
      go_upto_region 8 with (at_builtin; refine wpList_app2 rfl (.tmp 41) (.tmp 43) 22 22 rfl _ _ rfl rfl _ _ HR2.out ?_)
      clear HR2 z3
      go_upto_region 9 with fail
      clear y3
      have HI3d := hid (HI3.out.kept0 (Apart.refl [] W2).drew)
      have HMKd : Hid (W2.drew.cell? ⟨G, s.n * 2, none⟩ = some (.int .i64 (-71)) ∧ W2.drew.cell? ⟨G, s.n * 2 + 1, none⟩ = some (.slice none 0 0)) := HMK.out
      have HKSd : Hid (∀ j, j < s.n → W2.drew.cell? ⟨G, j * 2, none⟩ = some (.int .i64 (gC cs j).1) ∧ W2.drew.cell? ⟨G, j * 2 + 1, none⟩ = some (.slice (gS xl j).p (gC cs j).2.length (gS xl j).c)) := HKS.out
      have HGLd : Hid (G < W2.drew.heap.size) := HGL.out
      go_cut [9, 10] from 48 to 56 (fun s9 s10 wx => ∃ sp : Sl, .slice sp.p sp.n sp.c = s9 ∧ .int .i64 (eClocks gn cs) = s10 ∧ (∃ W2d : World, LCI w W2d A X #[.int .i64 kd, .int .i64 gn, .int .i64 ow, .slice s.p s.n s.c, .slice t.p t.n t.c] cs s.n ⟨some ⟨G, 0, none⟩, s.n + 1, s2c⟩ sx xl kk [mkK] ∧ (W2d.cell? ⟨G, s.n * 2, none⟩ = some (.int .i64 (-71)) ∧ W2d.cell? ⟨G, s.n * 2 + 1, none⟩ = some (.slice none 0 0)) ∧ (∀ j, j < s.n → W2d.cell? ⟨G, j * 2, none⟩ = some (.int .i64 (gC cs j).1) ∧ W2d.cell? ⟨G, j * 2 + 1, none⟩ = some (.slice (gS xl j).p (gC cs j).2.length (gS xl j).c)) ∧ G < W2d.heap.size ∧ Apart [] W2d wx ∧ (eClocks gn cs ≠ 0 → sp = slz) ∧ (eClocks gn cs = 0 → ∃ g, sp = ⟨some ⟨g, 0, none⟩, 2048, 2048⟩ ∧ W2d.heap.size ≤ g ∧ wx.heap[g]? = some (.cells (byts (pad (encPc (pcC gn cs)))).toArray 5 (0, 0)))))
      case first =>
        refine wp_region_held_drew (S := fun W => W.heap[A]? = some (.cells #[.int .i64 kd, .int .i64 gn, .int .i64 ow, .slice s.p s.n s.c, .slice t.p t.n t.c] 25 (0, 0))) (by kernel_rfl) HI3d.out.a (fun hHeld => ?_)
        generalize W2.drew = wd at *
        refine tk 0 49 (.pointer (some ⟨A, 1, none⟩)) rfl ?_ ?_
        · intro W hSW; go_simp
        simp only [Act.put, List.setIfInBounds_toArray, List.set_cons_zero, List.set_cons_succ]
        refine tk 1 50 (.int .i64 gn) rfl ?_ ?_
        · intro W hSW; have y3 := crow hSW 1 (.int .i64 gn) rfl; go_simp
        simp only [Act.put, List.setIfInBounds_toArray, List.set_cons_zero, List.set_cons_succ]
        refine tk 2 51 (.slice (some ⟨G, 0, none⟩) (s.n + 1) s2c) rfl ?_ ?_
        · intro W hSW; go_simp
        simp only [Act.put, List.setIfInBounds_toArray, List.set_cons_zero, List.set_cons_succ]
        refine tk 3 52 (.int .i64 (s.n : Nat)) rfl ?_ ?_
        · intro W hSW; go_simp
        simp only [Act.put, List.setIfInBounds_toArray, List.set_cons_zero, List.set_cons_succ]
        refine tk 4 53 (.slice (some ⟨G, 0, none⟩) s.n s2c) rfl ?_ ?_
        · intro W hSW; go_simp
        simp only [Act.put, List.setIfInBounds_toArray, List.set_cons_zero, List.set_cons_succ]
        refine wpAnyH_ready (rs := [5]) (by kernel_rfl) (by simp) ?_
        refine AllReadyH.cons rfl (fun KK hKK => ?_) AllReadyH.nil
        go_simp
        have hRC := HI3d.out
        have hnc : s.n = cs.length := by omega
        have hRC2 : RCs wd ⟨some ⟨G, 0, none⟩, s.n, s2c⟩ kk cs := by
          rw [hnc] at hRC ⊢
          exact hRC.rcs HF.out (by omega)
        have HB := hid (buildClocks_ok gn ⟨some ⟨G, 0, none⟩, s.n, s2c⟩ kk cs hRC2)
        clear hRC hRC2 hnc
        refine HB.out.mono ?_
        intro q wx hbo
        obtain ⟨sp, rfl, hno, hok⟩ := hbo.q
        have HBA := hid hbo.a
        have HNO := hid hno
        have HOK := hid hok
        have hSx := keep0 hbo.a HI3d.out.a
        clear hbo hno hok HB
        try dsimp only
        refine hKK.out _ _ hSx (fun hHeld => ?_)
        clear hKK KK
        try simp only [Act.put, List.setIfInBounds_toArray, List.set_cons_zero, List.set_cons_succ]
        refine tk 6 48 (.tuple #[.slice sp.p sp.n sp.c, .int .i64 (eClocks gn cs)]) rfl ?_ ?_
        · intro W hSW; go_simp
        simp only [Act.put, List.setIfInBounds_toArray, List.set_cons_zero, List.set_cons_succ]
        refine tk 7 55 (.slice sp.p sp.n sp.c) rfl ?_ ?_
        · intro W hSW; go_simp
        simp only [Act.put, List.setIfInBounds_toArray, List.set_cons_zero, List.set_cons_succ]
        refine tk 8 56 (.int .i64 (eClocks gn cs)) rfl ?_ ?_
        · intro W hSW; go_simp
        simp only [Act.put, List.setIfInBounds_toArray, List.set_cons_zero, List.set_cons_succ]
        refine tk 9 9 (.slice sp.p sp.n sp.c) rfl ?_ ?_
        · intro W hSW; go_simp
        simp only [Act.put, List.setIfInBounds_toArray, List.set_cons_zero, List.set_cons_succ]
        refine tk 10 10 (.int .i64 (eClocks gn cs)) rfl ?_ ?_
        · intro W hSW; go_simp
        simp only [Act.put, List.setIfInBounds_toArray, List.set_cons_zero, List.set_cons_succ]
        refine wpAnyH_done (by kernel_rfl) ?_ _
        clear hHeld hSx
        go_wp2_with fail
        go_meet
        exact ⟨sp, rfl, rfl, wd, HI3d.out, HMKd.out, HKSd.out, HGLd.out, HBA.out, HNO.out, HOK.out⟩
      clear HI3d HMKd HKSd HGLd HI3 HMK HKS HGL
      obtain ⟨sp, rfl, rfl, W2d, hi3, hmk, hks, hgl, hba, hno, hok⟩ := hcut
      have HI4 := hid (hi3.kept0 hba)
      have HI3 := hid hi3
      have HBA := hid hba
      have HNO := hid hno
      have HOK := hid hok
      have HKS : Hid (∀ j, j < s.n → wc.cell? ⟨G, j * 2, none⟩ = some (.int .i64 (gC cs j).1) ∧ wc.cell? ⟨G, j * 2 + 1, none⟩ = some (.slice (gS xl j).p (gC cs j).2.length (gS xl j).c)) := fun j hj => ⟨(hba.cell (p := ⟨G, j * 2, none⟩) hgl (by simp)).trans (hks j hj).1, (hba.cell (p := ⟨G, j * 2 + 1, none⟩) hgl (by simp)).trans (hks j hj).2⟩
      have HGL : Hid (G < wc.heap.size) := Nat.lt_of_lt_of_le hgl hba.size
      have m0 := (hba.cell (p := ⟨G, s.n * 2, none⟩) hgl (by simp)).trans hmk.1
      have m1 := (hba.cell (p := ⟨G, s.n * 2 + 1, none⟩) hgl (by simp)).trans hmk.2
      have hsn1 : ((s.n : Nat) : Int) < ((s.n + 1 : Nat) : Int) := by omega
      have hsn2 : s.n < s.n + 1 := by omega
      clear hi3 hmk hks hgl hba hno hok
      go_wp2_with fail
      clear m0 m1
      generalize wc = wk at *
      go_loopw [11, 12] (fun a b wt => ∃ i : Nat, a = .bool true ∧ b = .int .i64 (i : Nat) ∧ i ≤ s.n ∧ Apart [] wk wt) (fun _ b _ => s.n - (intOf b).toNat)
      case atStart => exact ⟨0, rfl, rfl, Nat.zero_le _, Apart.refl _ _⟩
      case round =>
        obtain ⟨i, rfl, rfl, hile, hap⟩ := hrel
        have HAP := hid hap
        clear hap
        by_cases hlt : i < s.n
        · have hlti : ((i : Nat) : Int) < ((s.n : Nat) : Int) := by omega
          have hlt1 : ((i : Nat) : Int) < ((s.n + 1 : Nat) : Int) := by omega
          have hlt2 : i < s.n + 1 := by omega
          obtain ⟨P, o, hP, hPl, -⟩ := HC.out.cells i hlt
          have HCL : Hid (∀ W, Apart [] wk W → W.cell? ⟨A, 3, none⟩ = some (.slice (some ⟨P, o, none⟩) s.n s.c) ∧ W.cell? ⟨P, o + i * 2, none⟩ = some (.int .i64 (gC cs i).1) ∧ W.cell? ⟨P, o + i * 2 + 1, none⟩ = some (.slice (gK ks i).s.p (gK ks i).s.n (gK ks i).s.c) ∧ W.cell? ⟨G, i * 2, none⟩ = some (.int .i64 (gC cs i).1) ∧ W.cell? ⟨G, i * 2 + 1, none⟩ = some (.slice (gS xl i).p (gC cs i).2.length (gS xl i).c)) := fun W hW => by
            obtain ⟨P', o', hP', _, c0, c1⟩ := (HC.out.kept0 (HI4.out.ld.ap.trans hW)).cells i hlt
            rw [hP] at hP'
            simp at hP'
            obtain ⟨rfl, rfl⟩ := hP'
            rw [(HC.out.each i hlt).1] at c0
            exact ⟨by rw [← hP]; exact crow (keep0 hW HI4.out.a) 3 _ rfl, c0, c1, (hW.cell (p := ⟨G, i * 2, none⟩) HGL.out (by simp)).trans (HKS.out i hlt).1, (hW.cell (p := ⟨G, i * 2 + 1, none⟩) HGL.out (by simp)).trans (HKS.out i hlt).2⟩
          have hcall : ∀ W, Apart [] wk W → Calls Try.prog 57 #[.slice (gS xl i).p (gC cs i).2.length (gS xl i).c, .slice (gK ks i).s.p (gK ks i).s.n (gK ks i).s.c] W fun r w' => r = .returned (.bool true) ∧ Apart [] W w' := fun W hW => by
            have hnc : s.n = cs.length := by omega
            have hRC := HI4.out
            have hRC2 : RCs wk ⟨some ⟨G, 0, none⟩, s.n, s2c⟩ kk cs := by
              rw [hnc] at hRC ⊢
              exact hRC.rcs HF.out (by omega)
            have hke := HI4.out.ke i hlt
            have h1 := (hRC2.each i hlt).2.1
            rw [hke] at h1
            exact spans_ok (h1.kept0 hW) ((HC.out.each i hlt).2.1.kept0 (HI4.out.ld.ap.trans hW)) true (by simp)
          have HCALL := hid hcall
          clear hcall hP hPl
          generalize gK ks i = ki at *
          generalize gS xl i = xi at *
          have hAd := HAP.out.drew
          go_upto_region 14 with fail
          refine wp_region_held_drew (S := fun W => Apart [] wk W) (by kernel_rfl) hAd (fun hHeld => ?_)
          generalize wr.drew = wd at *
          refine tk 0 77 (.bool true) rfl ?_ ?_
          · intro W hSW; go_simp
          simp only [Act.put, List.setIfInBounds_toArray, List.set_cons_zero, List.set_cons_succ]
          refine tk 1 78 (.bool true) rfl ?_ ?_
          · intro W hSW; go_simp
          simp only [Act.put, List.setIfInBounds_toArray, List.set_cons_zero, List.set_cons_succ]
          refine tk 2 79 (.slice (some ⟨G, 0, none⟩) (s.n + 1) s2c) rfl ?_ ?_
          · intro W hSW; go_simp
          simp only [Act.put, List.setIfInBounds_toArray, List.set_cons_zero, List.set_cons_succ]
          refine tk 3 80 (.int .i64 (i : Nat)) rfl ?_ ?_
          · intro W hSW; go_simp
          simp only [Act.put, List.setIfInBounds_toArray, List.set_cons_zero, List.set_cons_succ]
          refine tk 4 81 (.pointer (some ⟨G, i * 2, none⟩)) rfl ?_ ?_
          · intro W hSW; go_simp; intro hh; exfalso; omega
          simp only [Act.put, List.setIfInBounds_toArray, List.set_cons_zero, List.set_cons_succ]
          refine tk 5 82 (.pointer (some ⟨G, i * 2, none⟩)) rfl ?_ ?_
          · intro W hSW; go_simp
          simp only [Act.put, List.setIfInBounds_toArray, List.set_cons_zero, List.set_cons_succ]
          refine tk 6 83 (.int .i64 (gC cs i).1) rfl ?_ ?_
          · intro W hSW; obtain ⟨c0, c1, c2, d0, d1⟩ := HCL.out W hSW; go_simp
          simp only [Act.put, List.setIfInBounds_toArray, List.set_cons_zero, List.set_cons_succ]
          refine tk 7 84 (.pointer (some ⟨A, 3, none⟩)) rfl ?_ ?_
          · intro W hSW; go_simp
          simp only [Act.put, List.setIfInBounds_toArray, List.set_cons_zero, List.set_cons_succ]
          refine tk 8 85 (.slice (some ⟨P, o, none⟩) s.n s.c) rfl ?_ ?_
          · intro W hSW; obtain ⟨c0, c1, c2, d0, d1⟩ := HCL.out W hSW; go_simp
          simp only [Act.put, List.setIfInBounds_toArray, List.set_cons_zero, List.set_cons_succ]
          refine tk 9 86 (.int .i64 (i : Nat)) rfl ?_ ?_
          · intro W hSW; go_simp
          simp only [Act.put, List.setIfInBounds_toArray, List.set_cons_zero, List.set_cons_succ]
          refine tk 10 87 (.pointer (some ⟨P, o + i * 2, none⟩)) rfl ?_ ?_
          · intro W hSW; go_simp
          simp only [Act.put, List.setIfInBounds_toArray, List.set_cons_zero, List.set_cons_succ]
          refine tk 11 88 (.pointer (some ⟨P, o + i * 2, none⟩)) rfl ?_ ?_
          · intro W hSW; go_simp
          simp only [Act.put, List.setIfInBounds_toArray, List.set_cons_zero, List.set_cons_succ]
          refine tk 12 89 (.int .i64 (gC cs i).1) rfl ?_ ?_
          · intro W hSW; obtain ⟨c0, c1, c2, d0, d1⟩ := HCL.out W hSW; go_simp
          simp only [Act.put, List.setIfInBounds_toArray, List.set_cons_zero, List.set_cons_succ]
          refine tk 13 90 (.bool true) rfl ?_ ?_
          · intro W hSW; go_simp
          simp only [Act.put, List.setIfInBounds_toArray, List.set_cons_zero, List.set_cons_succ]
          refine tk 14 91 (.bool true) rfl ?_ ?_
          · intro W hSW; go_simp
          simp only [Act.put, List.setIfInBounds_toArray, List.set_cons_zero, List.set_cons_succ]
          refine tk 15 92 (.bool true) rfl ?_ ?_
          · intro W hSW; go_simp
          simp only [Act.put, List.setIfInBounds_toArray, List.set_cons_zero, List.set_cons_succ]
          refine tk 16 93 (.slice (some ⟨G, 0, none⟩) (s.n + 1) s2c) rfl ?_ ?_
          · intro W hSW; go_simp
          simp only [Act.put, List.setIfInBounds_toArray, List.set_cons_zero, List.set_cons_succ]
          refine tk 17 94 (.int .i64 (i : Nat)) rfl ?_ ?_
          · intro W hSW; go_simp
          simp only [Act.put, List.setIfInBounds_toArray, List.set_cons_zero, List.set_cons_succ]
          refine tk 18 95 (.pointer (some ⟨G, i * 2, none⟩)) rfl ?_ ?_
          · intro W hSW; go_simp; intro hh; exfalso; omega
          simp only [Act.put, List.setIfInBounds_toArray, List.set_cons_zero, List.set_cons_succ]
          refine tk 19 96 (.pointer (some ⟨G, i * 2 + 1, none⟩)) rfl ?_ ?_
          · intro W hSW; go_simp
          simp only [Act.put, List.setIfInBounds_toArray, List.set_cons_zero, List.set_cons_succ]
          refine tk 20 97 (.slice xi.p (gC cs i).2.length xi.c) rfl ?_ ?_
          · intro W hSW; obtain ⟨c0, c1, c2, d0, d1⟩ := HCL.out W hSW; go_simp
          simp only [Act.put, List.setIfInBounds_toArray, List.set_cons_zero, List.set_cons_succ]
          refine tk 21 98 (.pointer (some ⟨A, 3, none⟩)) rfl ?_ ?_
          · intro W hSW; go_simp
          simp only [Act.put, List.setIfInBounds_toArray, List.set_cons_zero, List.set_cons_succ]
          refine tk 22 99 (.slice (some ⟨P, o, none⟩) s.n s.c) rfl ?_ ?_
          · intro W hSW; obtain ⟨c0, c1, c2, d0, d1⟩ := HCL.out W hSW; go_simp
          simp only [Act.put, List.setIfInBounds_toArray, List.set_cons_zero, List.set_cons_succ]
          refine tk 23 100 (.int .i64 (i : Nat)) rfl ?_ ?_
          · intro W hSW; go_simp
          simp only [Act.put, List.setIfInBounds_toArray, List.set_cons_zero, List.set_cons_succ]
          refine tk 24 101 (.pointer (some ⟨P, o + i * 2, none⟩)) rfl ?_ ?_
          · intro W hSW; go_simp
          simp only [Act.put, List.setIfInBounds_toArray, List.set_cons_zero, List.set_cons_succ]
          refine tk 25 102 (.pointer (some ⟨P, o + i * 2 + 1, none⟩)) rfl ?_ ?_
          · intro W hSW; go_simp
          simp only [Act.put, List.setIfInBounds_toArray, List.set_cons_zero, List.set_cons_succ]
          refine tk 26 103 (.slice ki.s.p ki.s.n ki.s.c) rfl ?_ ?_
          · intro W hSW; obtain ⟨c0, c1, c2, d0, d1⟩ := HCL.out W hSW; go_simp
          simp only [Act.put, List.setIfInBounds_toArray, List.set_cons_zero, List.set_cons_succ]
          refine wpAnyH_ready (rs := [27]) (by kernel_rfl) (by simp) ?_
          refine AllReadyH.cons rfl (fun KK hKK => ?_) AllReadyH.nil
          go_simp
          refine (HCALL.out _ hHeld).mono ?_
          rintro _ wa ⟨rfl, ha⟩
          have hSa := hHeld.trans ha
          have HSa := hid hSa
          clear ha
          try dsimp only
          refine hKK.out _ _ hSa (fun hHeld => ?_)
          clear hKK KK
          try simp only [Act.put, List.setIfInBounds_toArray, List.set_cons_zero, List.set_cons_succ]
          refine tk 28 105 (.bool true) rfl ?_ ?_
          · intro W hSW; go_simp
          simp only [Act.put, List.setIfInBounds_toArray, List.set_cons_zero, List.set_cons_succ]
          refine tk 29 11 (.bool true) rfl ?_ ?_
          · intro W hSW; go_simp
          simp only [Act.put, List.setIfInBounds_toArray, List.set_cons_zero, List.set_cons_succ]
          refine wpAnyH_done (by kernel_rfl) ?_ _
          clear hHeld hSa hAd
          go_wp2_with fail
          go_roundw
          case rel => exact ⟨i + 1, rfl, by go_num, by omega, HSa.out⟩
          case measure => simp [intOf]; omega
        · have hlti : ¬ ((i : Nat) : Int) < ((s.n : Nat) : Int) := by omega
          have HLD := hid (HI4.out.ld.kept0 HAP.out)
          go_wp2_with fail
          refine (kept_ok HLD.out W2d.heap.size (fun j hj => absurd hj (by simp)) HI3.out.ld.x.lows (by simp) (by rw [HI3.out.xn]; exact hlim)).mono ?_
          rintro _ wm ⟨rfl, hfr⟩
          have HFR := hid hfr
          clear hfr
          try dsimp only
          go_wp2_with fail
          go_ret3
          refine ⟨HFR.out.base HLD.out.ap (Nat.le_refl _), sp, rfl, HNO.out, fun he => ?_⟩
          obtain ⟨g, e1, e2, e3⟩ := HOK.out he
          exact ⟨g, e1, Nat.le_trans HI3.out.ld.ap.size e2, HFR.out.block (keep0 HAP.out e3) (.inr e2)⟩
end Go.Proofs.Ytllhmidpphlbhaa.ds
