import Derived.Test.YtdggkofihppcmaaDoorMs0
namespace Go.Proofs.YtdggkofihppcmaaDoor.ds
open Go.ChangeShapes Go.WideShapes Go.ChangeAt Go.RowKit Go.Shelf
set_option linter.unusedVariables false
set_option linter.unusedSimpArgs false
attribute [local go_sem] Oper.semAt_some
/-- a client whose state may grow: blocks of cells stay -/
structure ClientC (J Jx : List (Int × Int) → World → Prop) : Prop where
  st : ∀ pre A B, J pre A → A.heap.size ≤ B.heap.size → (∀ (k : Nat) (o : Obj), A.heap[k]? = some o → o.isCells = true → B.heap[k]? = some o) → J pre B
  stx : ∀ pre A B, Jx pre A → A.heap.size ≤ B.heap.size → (∀ (k : Nat) (o : Obj), A.heap[k]? = some o → o.isCells = true → B.heap[k]? = some o) → Jx pre B
set_option maxRecDepth 100000 in
set_option maxHeartbeats 8000000 in
theorem miss_walk38c (w : World) (T : Tab w) (BO BA BB : Nat) (C : Nat → Prop) (J Jx : List (Int × Int) → World → Prop) (cl : ClientC J Jx) (pa pb : Option Addr) (na ca nb cb : Nat) (xs ys : List S) (hA : w.cell? ⟨BA, 0, none⟩ = some (.slice pa na ca)) (hB : w.cell? ⟨BB, 0, none⟩ = some (.slice pb nb cb))
    (la : L w pa na xs) (lb : L w pb nb ys) (ka : OkL 64 xs) (kb : OkL 64 ys) (hlt : ∀ k, C k → k < w.heap.size) (n0 : ¬ C 0) (nA : ¬ C BA) (nB : ¬ C BB) (npa : ∀ P o, pa = some ⟨P, o, none⟩ → ¬ C P) (npb : ∀ P o, pb = some ⟨P, o, none⟩ → ¬ C P)
    (call : ∀ pre d W, J pre W → Fr (fun k => ¬ C k) w W → Calls Tryd.prog 38 #[.agg #[.int .i64 d.1, .int .i64 d.2], .pointer (some ⟨BO, 0, none⟩)] W fun e W' => ((e = .returned (.bool true) ∧ J (pre ++ [d]) W') ∨ (e = .returned (.bool false) ∧ Jx (pre ++ [d]) W')) ∧ Fr (fun k => ¬ C k) W W')
    (h0 : J [] w) :
    Calls Tryd.prog 60 #[.func (.func 38) #[] #[.pointer (some ⟨BO, 0, none⟩)], .pointer (some ⟨BA, 0, none⟩), .pointer (some ⟨BB, 0, none⟩)] w fun e w' => (∃ v, e = .returned v) ∧ ((J (lackL xs ys) w') ∨ (∃ pre, pre <+: lackL xs ys ∧ Jx pre w')) ∧ Fr (fun k => ¬ C k) w w' := by
  have aV : Apart [] w (w.alloc (.cells #[.func (.func 38) #[] #[.pointer (some ⟨BO, 0, none⟩)]] 65)) := (Apart.refl _ _).alloc _
  have hA' : (w.alloc (.cells #[.func (.func 38) #[] #[.pointer (some ⟨BO, 0, none⟩)]] 65)).cell? ⟨BA, 0, none⟩ = some (.slice pa na ca) := (aV.cell (block_lt_of_cell hA) (by simp)).trans hA
  have hY' : (w.alloc (.cells #[.func (.func 38) #[] #[.pointer (some ⟨BO, 0, none⟩)]] 65)).cell? ⟨w.heap.size, 0, none⟩ = some (.func (.func 38) #[] #[.pointer (some ⟨BO, 0, none⟩)]) := by simp
  have LA := hid la
  have LB := hid lb
  have KA := hid ka
  have KB := hid kb
  have HA := hid hA
  have HB := hid hB
  have HTB := hid T
  have HLT := hid hlt
  have HN0 := hid n0
  have HNA := hid nA
  have HNB := hid nB
  have HPA := hid npa
  have HPB := hid npb
  have HCL := hid cl
  have CALL := hid call
  have hn8 : na ≤ 9223372036854775807 := la.lim
  have FV : Hid (Fr (fun k => ¬ C k) w (w.alloc (.cells #[.func (.func 38) #[] #[.pointer (some ⟨BO, 0, none⟩)]] 65))) := aV.fr
  have J0 : Hid (J [] (w.alloc (.cells #[.func (.func 38) #[] #[.pointer (some ⟨BO, 0, none⟩)]] 65))) := cl.st _ _ _ h0 aV.size (fun k o hk _ => (aV.block k (lt_of_heap hk) (by simp)).trans hk)
  have HYV := hid hY'
  clear la lb ka kb hA hB T hlt n0 nA nB npa npb cl call h0 hY'
  refine (callsIn_wide (n := 6)).1 ?_
  refine callsIn_of_wp_marks Tryd.func60 rfl trivial ?_ rfl
  refine Code.wpIn_mono noPanic_of ?_
  simp only [Tryd.ntmps60, List.size_toArray, List.length_cons, List.length_nil, Nat.reduceAdd, Nat.reduceSub, Array.replicate_succ, Array.replicate_zero, List.push_toArray, List.append_toArray, List.nil_append, List.cons_append]
  gi_wp2
  obtain ⟨V, hV⟩ : ∃ V, w.alloc (.cells #[.func (.func 38) #[] #[.pointer (some ⟨BO, 0, none⟩)]] 65) = V := ⟨_, rfl⟩
  rw [hV] at FV J0 HYV ⊢
  obtain ⟨BY, hBY⟩ : ∃ BY, w.heap.size = BY := ⟨_, rfl⟩
  have HBY := hid hBY
  rw [hBY] at HYV ⊢
  clear hV hA' aV hBY
  refine wpIn_loop (fun a wr => ∃ (i : Nat) (Ds : List Nat), i ≤ na ∧ (∃ u5 u6 u10 u11 u12 u13 u14 u15 u16 u17 u18 u19 u20 u21 u22 u23 u24 u25 u26 u27, a = { tmps := #[.func (.func 38) #[] #[.pointer (some ⟨BO, 0, none⟩)], .pointer (some ⟨BA, 0, none⟩), .pointer (some ⟨BB, 0, none⟩), .pointer (some ⟨BY, 0, none⟩), undef, u5, u6, .slice pa na ca, .int .i64 na, .int .i64 i, u10, u11, u12, u13, u14, u15, u16, u17, u18, u19, u20, u21, u22, u23, u24, u25, u26, u27], defers := Ds.map dmk }) ∧ J (lackL (xs.take i) ys) wr ∧ Fr (fun k => ¬ C k) V wr ∧ Ds.Nodup ∧ ∀ D ∈ Ds, w.heap.size ≤ D ∧ wr.heap[D]? = some (.deferred (some []))) (fun a _ => na - (intOf (a.tmps.getD 9 undef)).toNat) ?_ ?_
  · exact ⟨0, [], Nat.zero_le _, ⟨_, _, _, _, _, _, _, _, _, _, _, _, _, _, _, _, _, _, _, _, rfl⟩, J0.out, Fr.refl _ _, List.nodup_nil, by simp⟩
  · rintro a wr ⟨i, Ds, hi, ⟨u5, u6, u10, u11, u12, u13, u14, u15, u16, u17, u18, u19, u20, u21, u22, u23, u24, u25, u26, u27, rfl⟩, hJ, hF, hnd, hDs⟩
    have HJ := hid hJ
    have HF := hid hF
    have HND := hid hnd
    have HDS := hid hDs
    clear hJ hF hnd hDs J0
    by_cases hin : i < na
    · have FW := hid (FV.out.trans HF.out)
      have la' := LA.out.fr FW.out (fun P o h => HPA.out P o h)
      have hxl := hid la'.len
      obtain ⟨P, o, rfl, hP, hc⟩ := la'.sp (by rw [hxl.out]; omega)
      obtain ⟨c0, c1, c2⟩ := hc i (by rw [hxl.out]; exact hin)
      obtain ⟨x, Hx⟩ : ∃ x, Hid (x = g xs i) := ⟨_, rfl⟩
      have okx : Ok 64 x := by rw [Hx.out]; exact KA.out.ok _ (g_mem (by rw [hxl.out]; exact hin))
      have OKX := hid okx
      rw [← Hx.out] at c0 c1 c2
      have cB := FW.out.cell HB.out HNB.out
      have aX : Apart [] wr (wr.alloc (.cells #[.int .i64 x.n, .int .i64 x.b, .int .u64 (x.t : Int)] 52)) := (Apart.refl _ _).alloc _
      have cB' := aX.keep cB
      have LBX := hid ((LB.out.fr FW.out (fun P o h => HPB.out P o h)).kept0 aX)
      have HX := hid aX
      clear hc la' okx cB aX
      gi_wp2
      have bx : Bsp (wr.alloc (.cells #[.int .i64 x.n, .int .i64 x.b, .int .u64 (x.t : Int)] 52)) wr.heap.size x := ⟨by simp, by simp, by simp⟩
      obtain ⟨X1, hX1⟩ : ∃ X1, wr.alloc (.cells #[.int .i64 x.n, .int .i64 x.b, .int .u64 (x.t : Int)] 52) = X1 := ⟨_, rfl⟩
      obtain ⟨X0, hX0⟩ : ∃ X0, wr.heap.size = X0 := ⟨_, rfl⟩
      rw [hX1] at bx cB' LBX HX ⊢
      rw [hX0] at bx ⊢
      have HX0 := hid hX0
      have BX := hid bx
      obtain ⟨e0, e1, e2⟩ := bx
      obtain ⟨y, Hy⟩ : ∃ y, Hid (y = ofn ys x.n) := ⟨_, rfl⟩
      have SP := spanOf_ok pb nb cb ys x.n X1.drew (LBX.out.kept0 ((Apart.refl [] X1).drewN 1)).sp LBX.out.len LBX.out.lim
      rw [← Hy.out] at SP
      have HSP := hid SP
      clear hX1 hX0 SP c0 c1 c2
      gi_region_with (first | (refine ⟨trivial, ?_⟩; refine (callsIn_wide.2 HSP.out).mono ?_; rintro e w2 ⟨rfl, a2⟩; obtain ⟨d0, d1, d2⟩ := (show Bsp w2 X0 x from Bsp.kept (W := X1) BX.out (((Apart.refl [] X1).drewN 1).trans a2)); have cB2 := (((Apart.refl [] X1).drewN 1).trans a2).keep cB'; have A2 := hid a2; clear a2) | (refine ⟨trivial, ?_⟩; refine (callsIn_wide.2 (lacking_ok x y w2)).mono ?_; rintro e w3 ⟨By, Bx, rfl, b1, b2, hb1, hb2, a3⟩))
      all_goals
        have A13 : Apart [] X1 w3 := (((Apart.refl [] X1).drewN 1).trans A2.out).trans a3
        have F3 := hid (Apart.fr (K := fun k => ¬ C k) (HX.out.trans A13))
        have B1 := hid b1
        have B2 := hid b2
        have hX0w : Hid (w.heap.size ≤ X0) := by
          have h1 := FV.out.size
          have h2 := HF.out.size
          have h3 := HX0.out
          unfold Hid; omega
        have hnC : Hid (∀ k, w.heap.size ≤ k → ¬ C k) := fun k hk hc => by have := HLT.out k hc; omega
        have hw3 : Hid (w.heap.size ≤ w3.heap.size) := by
          have h1 := FV.out.size
          have h2 := HF.out.size
          have h3 := F3.out.size
          unfold Hid; omega
        have BX3 := hid (BX.out.kept A13)
        have HBy : Hid (w.heap.size ≤ By ∧ w.heap.size ≤ Bx) := by
          have h1 := FV.out.size
          have h2 := HF.out.size
          have h3 := HX.out.size
          have h4 := A2.out.size
          have h5 : X1.heap.size ≤ w2.heap.size := h4
          exact ⟨by omega, by omega⟩
        have J3 : Hid (J (lackL (xs.take i) ys) w3) := HCL.out.st _ _ _ HJ.out F3.out.size (fun k o hk _ => ((HX.out.trans A13).block k (lt_of_heap hk) (by simp)).trans hk)
        have T3 := hid (F3.out.tab (HF.out.tab (FV.out.tab HTB.out HN0.out) HN0.out) HN0.out)
        have CY : Hid (w3.cell? ⟨BY, 0, none⟩ = some (.func (.func 38) #[] #[.pointer (some ⟨BO, 0, none⟩)])) := F3.out.cell (HF.out.cell HYV.out (hnC.out BY (by rw [HBY.out]; exact Nat.le_refl _))) (hnC.out BY (by rw [HBY.out]; exact Nat.le_refl _))
        have wfx : Wf x := OKX.out.wf (by decide)
        have oky := KB.out.okn (by decide) (by decide) x.n
        rw [← Hy.out] at oky
        have wfy : Wf y := oky.wf
        have hyb : y.b ≤ 1048576 := Int.le_trans (base_le_top y) oky.mx
        have HWX := hid wfx
        have HWY := hid wfy
        have HYB := hid hyb
        clear A13 a3 b1 b2 hb1 hb2 d0 d1 d2 cB2 e0 e1 e2 cB' wfx oky wfy hyb
        gi_wp2
        refine wpIn_rangeFunc_ownG rfl (by decide) (gf := 73) (lb := #[.pointer (some ⟨By, 0, none⟩), .pointer (some ⟨Bx, 0, none⟩)]) rfl trivial (enters_of Tryd.func73 (by kernel_rfl) rfl)
          (lack_stops (6 - 1) (by decide) C By Bx x y HWX.out HWY.out OKX.out.bM HYB.out w3 T3.out B1.out B2.out HN0.out (hnC.out By HBy.out.1) (hnC.out Bx HBy.out.2)) (fun h k j hj hc => (k j hj hc).trans (h j hj hc)) (fun W l o' o'' hl ho hc hw j hj hcj => World.putObj_heap_other (by omega)) (Below.refl _ _) (fun _ => rfl)
          (fun pre W => J (lackL (xs.take i) ys ++ pre.map fun (c : Nat) => (x.n, (c : Int))) W ∧ Fr (fun k => ¬ C k) w3 W)
          (fun c pre W => c = .ret ∧ Jx (lackL (xs.take i) ys ++ pre.map fun (c : Nat) => (x.n, (c : Int))) W ∧ Fr (fun k => ¬ C k) w3 W)
          ?hI ?hIx ⟨by simpa using J3.out, Fr.refl _ _⟩
          (fun c => { tmps := #[.func (.func 38) #[] #[.pointer (some ⟨BO, 0, none⟩)], .pointer (some ⟨BA, 0, none⟩), .pointer (some ⟨BB, 0, none⟩), .pointer (some ⟨BY, 0, none⟩), undef, .pointer (some ⟨X0, 0, none⟩), .int .i64 (c : Int), .slice (some ⟨P, o, none⟩) na ca, .int .i64 na, .int .i64 i, .bool true, .pointer (some ⟨P, o + i * 3, none⟩), .agg #[.int .i64 x.n, .int .i64 x.b, .int .u64 (x.t : Int)], .agg #[.int .i64 x.n, .int .i64 x.b, .int .u64 (x.t : Int)], .slice pb nb cb, .pointer (some ⟨X0, 0, none⟩), .int .i64 x.n, spv y, .func (.func 73) #[] #[.pointer (some ⟨By, 0, none⟩), .pointer (some ⟨Bx, 0, none⟩)], .int .i64 (c : Int), u20, u21, u22, u23, u24, u25, u26, u27], defers := [] }) ?assign ?body ?done ?stop
        case hI =>
          intro s A B row hs hg hr
          have hbl : ∀ k, k < w3.heap.size → B.heap[k]? = A.heap[k]? := fun k hk => hg.block k (Nat.lt_of_lt_of_le hk hs.2.size) (fun e => by
            have := (hr k (by first | exact e | exact e.symm)).1; omega)
          exact ⟨HCL.out.st _ A B hs.1 hg.size (fun k o hk hc => (hg.block k (lt_of_heap hk) (fun e => by obtain ⟨_, o2, ho, hn⟩ := hr k (by first | exact e | exact e.symm); rw [hk] at ho; cases ho; rw [hn] at hc; cases hc)).trans hk), ⟨hg.os.trans hs.2.os, hg.tape.trans hs.2.tape, hg.output.trans hs.2.output, Nat.le_trans hs.2.size hg.size, fun k hk hK => (hbl k hk).trans (hs.2.block k hk hK)⟩⟩
        case hIx =>
          intro cc s A B row hs hg hr
          have hbl : ∀ k, k < w3.heap.size → B.heap[k]? = A.heap[k]? := fun k hk => hg.block k (Nat.lt_of_lt_of_le hk hs.2.2.size) (fun e => by
            have := (hr k (by first | exact e | exact e.symm)).1; omega)
          exact ⟨hs.1, HCL.out.stx _ A B hs.2.1 hg.size (fun k o hk hc => (hg.block k (lt_of_heap hk) (fun e => by obtain ⟨_, o2, ho, hn⟩ := hr k (by first | exact e | exact e.symm); rw [hk] at ho; cases ho; rw [hn] at hc; cases hc)).trans hk), ⟨hg.os.trans hs.2.2.os, hg.tape.trans hs.2.2.tape, hg.output.trans hs.2.2.output, Nat.le_trans hs.2.2.size hg.size, fun k hk hK => (hbl k hk).trans (hs.2.2.block k hk hK)⟩⟩
        case assign =>
          intro l c W K hK
          gi_wp2
          exact hK
        case body =>
          rintro l pre c W ⟨hJ, hF⟩ hlen
          have cY := hF.cell CY.out (hnC.out BY (by rw [HBY.out]; exact Nat.le_refl _))
          have cX := hF.cell BX3.out.c0 (hnC.out X0 hX0w.out)
          have CL := hid (CALL.out _ (x.n, (c : Int)) W hJ (((FV.out.trans HF.out).trans F3.out).trans hF))
          have HF4 := hid hF
          clear hJ hF hlen
          gi_wp2
          refine ⟨trivial, ?_⟩
          refine (CallsIn.inRound l (callsIn_wide.2 CL.out)).mono ?_
          rintro e W' ⟨(⟨rfl, hJ'⟩ | ⟨rfl, hJx'⟩), hF'⟩
          · dsimp only
            have KF : Hid (KeepsFrom w3.heap.size W W') := ⟨hF'.size, fun k o hB hk ho => (hF'.block k (lt_of_heap hk) (hnC.out k (Nat.le_trans hw3.out hB))).trans hk⟩
            have KP : Hid (Kpc C w3.heap.size W W') := fun k hk hc => hF'.block k (Nat.lt_of_lt_of_le hk HF4.out.size) hc
            have HJ' : Hid (J (lackL (xs.take i) ys ++ (pre ++ [c]).map fun (c : Nat) => (x.n, (c : Int))) W') := by
              unfold Hid
              rw [List.map_append, ← List.append_assoc]; exact hJ'
            have HF' := hid (HF4.out.trans hF')
            clear hJ' hF' cY cX
            gi_wp2
            exact ⟨KF.out, KP.out, HJ'.out, HF'.out⟩
          · dsimp only
            have KF : Hid (KeepsFrom w3.heap.size W W') := ⟨hF'.size, fun k o hB hk ho => (hF'.block k (lt_of_heap hk) (hnC.out k (Nat.le_trans hw3.out hB))).trans hk⟩
            have HJ' : Hid (Jx (lackL (xs.take i) ys ++ (pre ++ [c]).map fun (c : Nat) => (x.n, (c : Int))) W') := by
              unfold Hid
              rw [List.map_append, ← List.append_assoc]; exact hJx'
            have HF' := hid (HF4.out.trans hF')
            clear hJx' hF' cY cX
            gi_wp2
            exact ⟨KF.out, rfl, HJ'.out, HF'.out⟩
        case done =>
          rintro D zs W hD rfl ⟨hJ, hF⟩ hdD
          have HJD : Hid (J (lackL (xs.take (i + 1)) ys) W) := by
            unfold Hid
            rw [lackL_take (by rw [hxl.out]; exact hin), ← Hx.out, ← Hy.out]; exact hJ
          have HFD := hid ((HF.out.trans F3.out).trans hF)
          have HDD : Hid (∀ D' ∈ D :: Ds, w.heap.size ≤ D' ∧ W.heap[D']? = some (.deferred (some []))) := by
            intro D' hm
            rcases List.mem_cons.1 hm with rfl | hm
            · exact ⟨Nat.le_trans hw3.out hD, hdD⟩
            · have h1 := HDS.out D' hm
              have hl := lt_of_heap h1.2
              exact ⟨h1.1, ((F3.out.trans hF).block D' hl (hnC.out D' h1.1)).trans h1.2⟩
          have HNN : Hid ((D :: Ds).Nodup) := List.nodup_cons.2 ⟨fun hm => by
            have hl := lt_of_heap (HDS.out D hm).2
            have := F3.out.size
            omega, HND.out⟩
          clear hJ hF hdD
          gi_wp2
          have e1 : ((i : Int) + 1) = ((i + 1 : Nat) : Int) := rfl
          rw [e1]
          refine ⟨⟨i + 1, D :: Ds, by omega, ⟨_, _, _, _, _, _, _, _, _, _, _, _, _, _, _, _, _, _, _, _, rfl⟩, HJD.out, HFD.out, HNN.out, HDD.out⟩, ?_⟩
          simp [intOf]
          omega
        case stop =>
          rintro D c pre W hD hpre ⟨rfl, hJx, hF⟩ hdD
          have HPR : Hid (lackL (xs.take i) ys ++ (pre.map fun (c : Nat) => (x.n, (c : Int))) <+: lackL xs ys) := by
            have h1 : lackL (xs.take i) ys ++ (pre.map fun (c : Nat) => (x.n, (c : Int))) <+: lackL (xs.take (i + 1)) ys := by
              rw [lackL_take (by rw [hxl.out]; exact hin), ← Hx.out, ← Hy.out]
              exact (List.prefix_append_right_inj _).2 (hpre.map _)
            exact h1.trans lackL_pre
          have HJX := hid hJx
          have HFD := hid (((FV.out.trans HF.out).trans F3.out).trans hF)
          have HDD : Hid (∀ D' ∈ D :: Ds, w.heap.size ≤ D' ∧ W.heap[D']? = some (.deferred (some []))) := by
            intro D' hm
            rcases List.mem_cons.1 hm with rfl | hm
            · exact ⟨Nat.le_trans hw3.out hD, hdD⟩
            · have h1 := HDS.out D' hm
              have hl := lt_of_heap h1.2
              exact ⟨h1.1, ((F3.out.trans hF).block D' hl (hnC.out D' h1.1)).trans h1.2⟩
          have HNN : Hid ((D :: Ds).Nodup) := List.nodup_cons.2 ⟨fun hm => by
            have hl := lt_of_heap (HDS.out D hm).2
            have := F3.out.size
            omega, HND.out⟩
          clear hJx hF hdD hpre
          gi_wp2
          simp only [noPanic, bodyPostM]
          refine leave_all rfl (D :: Ds) W HNN.out (fun D hD => (HDD.out D hD).2) (fun W' h1 h2 h3 h4 h5 => ?_)
          have hb : ∀ k, k < w.heap.size → W'.heap[k]? = W.heap[k]? := fun k hk => h1 k (fun hm => by have := (HDD.out k hm).1; omega)
          refine ⟨⟨_, rfl⟩, .inr ⟨_, HPR.out, HCL.out.stx _ _ _ HJX.out (by omega) (fun k o hk hc => (h1 k (fun hm => by rw [(HDD.out k hm).2] at hk; cases hk; cases hc)).trans hk)⟩, ?_⟩
          have f := HFD.out
          exact ⟨h3.trans f.os, h4.trans f.tape, h5.trans f.output, by have := f.size; omega, fun k hk hK => (hb k hk).trans (f.block k hk hK)⟩
    · obtain rfl : i = na := by omega
      gi_wp2
      simp only [noPanic, bodyPostM]
      refine leave_all rfl Ds wr HND.out (fun D hD => (HDS.out D hD).2) (fun W' h1 h2 h3 h4 h5 => ?_)
      have hb : ∀ k, k < w.heap.size → W'.heap[k]? = wr.heap[k]? := fun k hk => h1 k (fun hm => by have := (HDS.out k hm).1; omega)
      refine ⟨⟨_, rfl⟩, .inl ?_, ?_⟩
      · have := HJ.out
        rw [List.take_of_length_le (by rw [LA.out.len]; exact Nat.le_refl _)] at this
        exact HCL.out.st _ _ _ this (by omega) (fun k o hk hc => (h1 k (fun hm => by rw [(HDS.out k hm).2] at hk; cases hk; cases hc)).trans hk)
      · have f := FV.out.trans HF.out
        exact ⟨h3.trans f.os, h4.trans f.tape, h5.trans f.output, by have := f.size; omega, fun k hk hK => (hb k hk).trans (f.block k hk hK)⟩
end Go.Proofs.YtdggkofihppcmaaDoor.ds
