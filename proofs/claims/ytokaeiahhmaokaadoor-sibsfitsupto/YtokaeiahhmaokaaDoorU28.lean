import Derived.Test.YtokaeiahhmaokaaDoorU26
import Derived.Test.YtokaeiahhmaokaaDoorU27
import Derived.Deep.CutRange
namespace Go.Proofs.YtokaeiahhmaokaaDoor.ds
open Go.ChangeShapes Go.WideShapes Go.ChangeAt Go.RowKit Go.Sort
set_option linter.unusedVariables false
set_option linter.unusedSimpArgs false
theorem catR_mem (T : Nat → Sl × List E × List Wr) : ∀ n i, i < n → ∀ r ∈ (T i).2.2, r ∈ catR T n
  | 0, i, hi, _, _ => absurd hi (by omega)
  | n + 1, i, hi, r, hr => by
    show r ∈ catR T n ++ (T n).2.2
    rw [List.mem_append]
    by_cases e : i = n
    · subst e; exact .inr hr
    · exact .inl (catR_mem T n i (by omega) r hr)
theorem catR_all {P : Wr → Prop} (T : Nat → Sl × List E × List Wr) : ∀ n, (∀ i, i < n → ∀ r ∈ (T i).2.2, P r) → ∀ r ∈ catR T n, P r
  | 0, _, r, hr => by simp [catR] at hr
  | n + 1, h, r, hr => by
    rcases List.mem_append.1 (show r ∈ catR T n ++ (T n).2.2 from hr) with h1 | h1
    · exact catR_all T n (fun i hi => h i (by omega)) r h1
    · exact h n (by omega) r h1
theorem totL_sub {T F : Nat → Sl × List E × List Wr} : ∀ n, (∀ i, i < n → (T i).1.n ≤ (F i).1.n) → totL T n ≤ totL F n
  | 0, _ => Nat.le_refl _
  | n + 1, h => by
    have h1 := totL_sub n (fun i hi => h i (by omega))
    have h2 := h n (by omega)
    show totL T n + (T n).1.n ≤ totL F n + (F n).1.n
    omega
theorem deq_deqW {w : World} {a b : E} {ra rb : Wr} (ha : Reads w a ra) (hb : Reads w b rb) : deq a b = deqW ra rb := by
  unfold deq deqW
  rw [ha.n, ha.c, hb.n, hb.c]
theorem any_take_W (O : List Wr) (f : Wr → Bool) (k : Nat) (hk : k < O.length) : (O.take (k + 1)).any f = ((O.take k).any f || f (gR O k)) := by
  rw [List.take_add_one, List.getElem?_eq_getElem hk, List.any_append, gR_eq O k hk]
  simp
theorem any_bsX (B : Nat → Sl × List S) (f : List S → Bool) (k : Nat) : (bsX B (k + 1)).any f = ((bsX B k).any f || f (B k).2) := by
  unfold bsX
  rw [List.range_succ, List.map_append, List.any_append]
  simp
/-- the sets of right writes, as they are made -/
structure SA (wA wr : World) (u : Sl) (T F : Nat → Sl × List E × List Wr) (i : Nat) : Prop where
  nm : Nm wA wr u T i
  le : ∀ k, k < i → (T k).1.n ≤ (F k).1.n
  vw : ∀ k, k < i → ∀ r ∈ (T k).2.2, Vw r
structure SB (wi wr : World) (s : Sl) (es : List E) (rs : List Wr) (j : Nat) : Prop where
  fl : FL wi wr s es rs
  le : s.n ≤ j
  vw : ∀ r ∈ rs, Vw r
open Classical in
set_option maxHeartbeats 32000000 in
set_option maxRecDepth 100000 in
theorem fits_walk (w : World) (TB : Tab w) (sp : Option Addr) (n sc : Nat) (u : E) (ru : Wr) (lim gap : Int) (F : Nat → Sl × List E × List Wr) (hS : Sets w sp n F) (hn : n ≤ 1048576) (hT : totL F n ≤ 1048576) (hu : Reads w u ru) (bp : Option Addr) (m bc : Nat) (B : Nat → Sl × List S) (hB : Bss w bp m B) (hm : m ≤ 1048576) :
    Calls Tryd.prog 8 #[.agg #[.slice sp n sc, .int .i64 u.n, .int .i64 u.c, .string u.k, .bool u.d, u.v.v, u.x.v, .slice bp m bc, .int .i64 lim, .int .i64 gap]] w fun r w' => r = .returned (.bool true) ∧ Apart [] w w' := by
  obtain ⟨wB, hwB⟩ : ∃ wB, wB = w.alloc (caseO (.slice sp n sc) (.slice bp m bc) u lim gap) := ⟨_, rfl⟩
  have aB : Apart [] w wB := by rw [hwB]; exact (Apart.refl [] w).alloc _
  have bC := mergesO w (.slice sp n sc) (.slice bp m bc) u lim gap
  rw [← hwB] at bC
  have HBC := hid bC
  have HB := hid aB
  have HSS := hid hS
  have HBS := hid hB
  have HT := hid TB
  have HTL := hid hT
  have hAb := able_ok wB
  unfold caseO Sl.v at hwB
  unfold Sl.v
  clear bC aB hS TB hB hu hT
  go_enter Tryd.func8, Tryd.ntmps8
  go_upto_region 1 with fail
  rw [← hwB]
  clear hwB
  have HC0 : Hid (∀ W : World, Apart [] wB W → W.cell? ⟨w.heap.size, 0, none⟩ = some (.slice sp n sc) ∧ W.cell? ⟨w.heap.size, 7, none⟩ = some (.slice bp m bc)) := fun W a => by
    obtain ⟨b0, b1, b2, b3, b4, b5, b6, b7, b8, b9⟩ := caseCells ((a.block _ (lt_of_heap HBC.out) (by simp)).trans HBC.out)
    exact ⟨b0, b7⟩
  go_wp2_with fail
  refine hAb.mono ?_
  clear hAb
  rintro _ wA ⟨rfl, aA⟩
  have HAA := hid aA
  clear aA
  dsimp only
  go_wp2_with fail
  go_loopw [3, 4] (fun x v wr => ∃ (i : Nat) (uu : Sl) (T : Nat → Sl × List E × List Wr), x = uu.v ∧ v = .int .i64 (i : Nat) ∧ i ≤ n ∧ SA wA wr uu T F i) (fun _ v _ => n - (intOf v).toNat)
  case atStart => exact ⟨0, ⟨none, 0, 0⟩, F, rfl, rfl, Nat.zero_le _, ⟨Nm.nil _ _ (Apart.refl _ _) _, fun k hk => absurd hk (by omega), fun k hk => absurd hk (by omega)⟩⟩
  case round =>
    obtain ⟨i, uu, T, rfl, rfl, hi, hsa⟩ := hrel
    have HSA := hid hsa
    clear hsa
    have b0 := (HC0.out wr (HAA.out.trans HSA.out.nm.nw.ap)).1
    by_cases hlt : i < n
    · have hin : ((i : Nat) : Int) < (n : Int) := by omega
      have HIF := hid (HSS.out.ins i hlt)
      obtain ⟨P, o, rfl, hP, hc⟩ := HSS.out (by omega)
      have HPc : Hid (∀ X, Apart [] wB X → X.cell? ⟨P, o + i, none⟩ = some (.slice (F i).1.p (F i).1.n (F i).1.c)) := fun X a => ((HB.out.trans a).cell hP (by simp)).trans (hc i hlt).1
      have hFn := HIF.out.n
      obtain ⟨fn, Hfn⟩ : ∃ fn, Hid (fn = (F i).1.n) := ⟨_, rfl⟩
      obtain ⟨fp, Hfp⟩ : ∃ fp, Hid (fp = (F i).1.p) := ⟨_, rfl⟩
      obtain ⟨fc, Hfc⟩ : ∃ fc, Hid (fc = (F i).1.c) := ⟨_, rfl⟩
      rw [← Hfn.out] at HPc hFn
      rw [← Hfp.out] at HPc
      rw [← Hfc.out] at HPc
      clear hc
      generalize wr = wi at *
      unfold Sl.v
      go_wp2_with fail
      clear b0
      go_loopw [5, 6] (fun x v wr => ∃ (j : Nat) (s : Sl) (es : List E) (rs : List Wr), x = s.v ∧ v = .int .i64 (j : Nat) ∧ j ≤ fn ∧ SB wi wr s es rs j) (fun _ v _ => fn - (intOf v).toNat)
      case atStart => exact ⟨0, ⟨none, 0, 0⟩, [], [], rfl, rfl, Nat.zero_le _, ⟨FL.nil _ _ (Apart.refl _ _), Nat.le_refl _, fun r hr => by simp at hr⟩⟩
      case round =>
        obtain ⟨j, s, es, rs, rfl, rfl, hj, hsb⟩ := hrel
        have HSB := hid hsb
        have HAB : Hid (Apart [] wB wr) := HAA.out.trans (HSA.out.nm.nw.ap.trans hsb.fl.own.nw.ap)
        clear hsb
        have b0 := (HC0.out wr HAB.out).1
        have z0 := HPc.out wr HAB.out
        by_cases hlt2 : j < fn
        · have hjn : ((j : Nat) : Int) < (fn : Int) := by omega
          have hjF : j < (F i).1.n := by rw [← Hfn.out]; exact hlt2
          have hI := HIF.out.kept0 (HB.out.trans HAB.out)
          obtain ⟨Q, o2, hQ, hQl, hcs⟩ := hI.le.at (by omega)
          obtain ⟨k0, k1, k2, k3, k4, k5⟩ := hcs j hjF
          have HRx := hid (hI.rd j hjF)
          rw [← Hfp.out] at hQ
          subst hQ
          have hs2 : s.n ≤ 2000000 := by have := HSB.out.le; omega
          obtain ⟨x, Hx⟩ : ∃ x, Hid (x = gE (F i).2.1 j) := ⟨_, rfl⟩
          obtain ⟨rx, Hrx⟩ : ∃ rx, Hid (rx = gR (F i).2.2 j) := ⟨_, rfl⟩
          rw [← Hx.out] at k0 k1 k2 k3 k4 k5 HRx
          rw [← Hrx.out] at HRx
          obtain ⟨wb, hwb⟩ : ∃ wb, wb = wr.alloc (boxE x) := ⟨_, rfl⟩
          have HAb : Hid (Apart [] wr wb) := by unfold Hid; rw [hwb]; exact (Apart.refl [] wr).alloc _
          have HQ : Hid (wb.heap[wr.heap.size]? = some (boxE x)) := by unfold Hid; rw [hwb]; exact heap_alloc_new wr _
          obtain ⟨t0, t1, t2, t3, t4, t5⟩ := row6 (show wb.heap[wr.heap.size]? = _ from HQ.out)
          obtain ⟨wc, hwc⟩ : ∃ wc, wc = wb.alloc (boxE x) := ⟨_, rfl⟩
          have HAc : Hid (Apart [] wb wc) := by unfold Hid; rw [hwc]; exact (Apart.refl [] wb).alloc _
          have HQc : Hid (wc.heap[wb.heap.size]? = some (boxE x)) := by unfold Hid; rw [hwc]; exact heap_alloc_new wb _
          obtain ⟨v, Hv⟩ : ∃ v : Bool, Hid (v = true ↔ rvalP [rx] 1 64) := ⟨decide (rvalP [rx] 1 64), by unfold Hid; simp⟩
          have hLE : LE wc (some ⟨wb.heap.size, 0, none⟩) 1 [x] := by
            refine ⟨fun _ => ⟨wb.heap.size, 0, rfl, lt_of_heap HQc.out, fun q uq hq => ?_⟩, rfl, by decide⟩
            rw [Nat.zero_add, cell_of_row _ _ _ _ _ _ HQc.out]
            have e : flatE [x] = E.cs x := by simp [flatE]
            rw [e] at hq
            simpa [E.cs] using hq
          have hRd : ∀ q, q < 1 → Reads wc (gE [x] q) (gR [rx] q) := fun q hq => by
            match q, hq with
            | 0, _ => exact (HRx.out.kept0 HAb.out).kept0 HAc.out
          have hVal := rvalid_ok (cap := 1) 64 hLE hRd v Hv.out
          unfold boxE at hwb hwc
          unfold Sl.v at k4 k5 t4 t5 hwb hwc
          unfold Sl.v
          clear hcs hI hLE hRd
          go_upto_region 12 with fail
          rw [← hwb]
          clear hwb k0 k1 k2 k3 k4 k5
          go_wp2_with fail
          rw [← hwc]
          refine hVal.mono ?_
          clear hVal hwc
          rintro _ w4 ⟨rfl, a4⟩
          have HA4 : Hid (Apart [] wr w4) := HAb.out.trans (HAc.out.trans a4)
          obtain ⟨t0, t1, t2, t3, t4, t5⟩ := row6 (((HAc.out.trans a4).block _ (lt_of_heap HQ.out) (by simp)).trans HQ.out)
          unfold Sl.v at t4 t5
          clear a4
          dsimp only
          cases v
          case true =>
            have hTw := twin_ok x rx w4 (HRx.out.kept0 HA4.out)
            unfold E.agg Sl.v at hTw
            go_wp2_with fail
            refine hTw.mono ?_
            clear hTw t0 t1 t2 t3 t4 t5
            rintro _ w5 ⟨e', rfl, fr⟩
            have HFR := hid fr
            have HA5 := hid (HA4.out.trans fr.v.ap)
            clear fr
            obtain ⟨s6, w6, hrun, hfl6, hn6⟩ := (HSB.out.fl.kept HA5.out).push hs2 (HFR.out.from (HSB.out.fl.own.nw.ap.trans HA4.out)) 39
            have HSB6 : Hid (SB wi w6 s6 (es ++ [e']) (rs ++ [rx]) (j + 1)) := ⟨hfl6, by have := HSB.out.le; omega, fun r hr => by
              rcases List.mem_append.1 hr with h | h
              · exact HSB.out.vw r h
              · simp at h; rw [h]; exact Vw.of (Hv.out.1 (by simp))⟩
            clear hfl6 hn6
            unfold Sl.v boxE at hrun
            have HRUN : Hid ((Builtin.append_ #[39, 39] 39 #[.slice s.p s.n s.c, .slice (some ⟨w5.heap.size, 0, none⟩) 1 1]).run Tryd.prog (w5.alloc (Obj.cells #[Value.int IntKind.i64 e'.n, Value.int IntKind.i64 e'.c, Value.string e'.k, Value.bool e'.d, Value.slice e'.v.p e'.v.n e'.v.c, Value.slice e'.x.p e'.x.n e'.x.c] 28)) = .ok (.slice s6.p s6.n s6.c) w6) := hrun
            clear hrun
            dsimp only
            go_wp2_with (at_builtin; refine wpList_app2 rfl (.tmp 50) (.tmp 53) 39 39 rfl _ _ rfl rfl _ _ HRUN.out ?_)
            go_roundw
            case rel => exact ⟨j + 1, s6, _, _, rfl, by go_num, by omega, HSB6.out⟩
            case measure => simp [intOf]; omega
          case false =>
            have HSB6 : Hid (SB wi w4 s es rs (j + 1)) := ⟨HSB.out.fl.kept HA4.out, by have := HSB.out.le; omega, HSB.out.vw⟩
            clear t0 t1 t2 t3 t4 t5
            go_wp2_with fail
            go_roundw
            case rel => exact ⟨j + 1, s, _, _, rfl, by go_num, by omega, HSB6.out⟩
            case measure => simp [intOf]; omega
        · obtain rfl : fn = j := by omega
          obtain ⟨u2, w6, hrun, hnm2⟩ := (HSA.out.nm.kept0 HSB.out.fl.own.nw.ap).push (by omega) s es rs (HSB.out.fl.own.from HSA.out.nm.nw.ap) (fun q hq => (HSB.out.fl.fr q hq).from HSA.out.nm.nw.ap) ⟨by have := HSB.out.le; omega, HSB.out.fl.len⟩ 22
          have HSA2 : Hid (SA wA w6 u2 (updT T i (s, es, rs)) F (i + 1)) := ⟨hnm2, fun k hk => by
              by_cases e : k = i
              · subst e; rw [updT_eq]; show s.n ≤ _; rw [← Hfn.out]; exact HSB.out.le
              · rw [updT_lt T _ (by omega)]; exact HSA.out.le k (by omega), fun k hk => by
              by_cases e : k = i
              · subst e; rw [updT_eq]; exact HSB.out.vw
              · rw [updT_lt T _ (by omega)]; exact HSA.out.vw k (by omega)⟩
          clear hnm2
          unfold Sl.v at hrun ⊢
          have HRUN := hid hrun
          clear hrun
          go_wp2_with (at_builtin; refine wpList_app2 rfl (.tmp 55) (.tmp 57) 22 22 rfl _ _ rfl rfl _ _ HRUN.out ?_)
          go_roundw
          case rel => exact ⟨i + 1, u2, _, rfl, by go_num, by omega, HSA2.out⟩
          case measure => simp [intOf]; omega
    · obtain rfl : n = i := by omega
      generalize wr = wC at *
      unfold Sl.v
      go_wp2_with fail
      clear b0
      go_loopw [8, 9] (fun x v wr => ∃ (i mm : Nat) (bs : Sl) (Bs : Nat → Sl × List S), x = bs.v ∧ v = .int .i64 (i : Nat) ∧ i ≤ m ∧ mm ≤ i ∧ Nb wC wr bs Bs mm) (fun _ v _ => m - (intOf v).toNat)
      case atStart => exact ⟨0, 0, ⟨none, 0, 0⟩, B, rfl, rfl, Nat.zero_le _, Nat.le_refl _, Nb.nil _ _ (Apart.refl _ _) _⟩
      case round =>
        obtain ⟨i, mm, bs, Bs, rfl, rfl, hi, hmm, hnb⟩ := hrel
        have HNB := hid hnb
        have HAB : Hid (Apart [] wB wr) := HAA.out.trans (HSA.out.nm.nw.ap.trans hnb.nw.ap)
        clear hnb
        have b7 := (HC0.out wr HAB.out).2
        by_cases hlt : i < m
        · have hin : ((i : Nat) : Int) < (m : Int) := by omega
          have HIS := hid ((HBS.out.ins i hlt).kept0 (HB.out.trans HAB.out))
          obtain ⟨P, o, rfl, hP, hc⟩ := HBS.out (by omega)
          have HPc : Hid (∀ X, Apart [] wB X → X.cell? ⟨P, o + i, none⟩ = some (.slice (B i).1.p (B i).1.n (B i).1.c)) := fun X a => ((HB.out.trans a).cell hP (by simp)).trans (hc i hlt).1
          have z0 := HPc.out wr HAB.out
          have hFn := HIS.out.n
          by_cases hok : OkL 64 (B i).2
          · have hCk := rcheck_as (cap := (B i).1.c) (gap := 64) HIS.out.l 0 (by unfold chk; rw [if_pos (by omega), if_pos hok])
            clear hc
            unfold Sl.v
            go_wp2_with fail
            refine hCk.mono ?_
            clear hCk b7 z0
            rintro _ w3 ⟨rfl, a3⟩
            have HA3 := hid a3
            obtain ⟨s1, w4, hr1, n1, hs1⟩ := appS w3 (B i).1 (B i).2 26 (HIS.out.l.kept0 a3) (by omega) HIS.out.ok
            obtain ⟨bs2, w5, hr2, hnb2⟩ := (HNB.out.kept0 (a3.trans n1.ap)).push (by omega) s1 (B i).2 (n1.from (HNB.out.nw.ap.trans a3)) ⟨by rw [HIS.out.l.len, hs1], by omega⟩ hok 29
            have HNB2 := hid hnb2
            have b73 := (HC0.out w3 (HAB.out.trans a3)).2
            have z3 := HPc.out w3 (HAB.out.trans a3)
            have HRUN1 : Hid ((Builtin.append_ #[26, 26] 26 #[.slice none 0 0, .slice (B i).1.p (B i).1.n (B i).1.c]).run Tryd.prog w3 = .ok (.slice s1.p s1.n s1.c) w4) := hr1
            have HRUN2 : Hid ((Builtin.append_ #[29, 29] 29 #[.slice bs.p bs.n bs.c, .slice (some ⟨w4.heap.size, 0, none⟩) 1 1]).run Tryd.prog (w4.alloc (Obj.cells #[.slice s1.p s1.n s1.c] 26)) = .ok (.slice bs2.p bs2.n bs2.c) w5) := hr2
            clear hr1 hr2 n1 hs1 hnb2 a3
            dsimp only
            go_wp2_with (at_builtin; first
              | refine wpList_app2 rfl (.const (.slice none 0 0)) (.tmp 78) 26 26 rfl _ _ rfl rfl _ _ HRUN1.out ?_
              | refine wpList_app2 rfl (.tmp 73) (.tmp 80) 29 29 rfl _ _ rfl rfl _ _ HRUN2.out ?_)
            go_roundw
            case rel => exact ⟨i + 1, mm + 1, bs2, _, rfl, by go_num, by omega, by omega, HNB2.out⟩
            case measure => simp [intOf]; omega
          · have hCk := rcheck_as (cap := (B i).1.c) (gap := 64) HIS.out.l 30 (by unfold chk; rw [if_pos (by omega), if_neg hok])
            clear hc
            unfold Sl.v
            go_wp2_with fail
            refine hCk.mono ?_
            clear hCk b7 z0
            rintro _ w3 ⟨rfl, a3⟩
            have HNB2 := hid (HNB.out.kept0 a3)
            clear a3
            dsimp only
            go_wp2_with fail
            go_roundw
            case rel => exact ⟨i + 1, mm, bs, _, rfl, by go_num, by omega, by omega, HNB2.out⟩
            case measure => simp [intOf]; omega
        · obtain rfl : m = i := by omega
          generalize wr = w6 at *
          have HAm : Hid (Apart [] wC w6) := HNB.out.nw.ap
          have HNM : Hid (Nm wA w6 uu T n) := HSA.out.nm.kept0 HAm.out
          have HTL2 : Hid (totL T n ≤ 1048576) := Nat.le_trans (totL_sub n (fun i hi => HSA.out.le i hi)) HTL.out
          have hun := HNM.out.un
          have hbn := HNB.out.un
          have hTk := token_R w6 (HT.out.kept0 (HB.out.trans HAB.out)) uu.p n uu.c T HNM.out.sets HNM.out.ins hn HTL2.out bs.p mm bs.c _ _ HNB.out.lx (by omega) 64
          have HOKB : Hid (∀ b ∈ bsX Bs mm, OkL 64 b) := fun b hb => by
            unfold bsX at hb
            rw [List.mem_map] at hb
            obtain ⟨k, hk, rfl⟩ := hb
            exact HNB.out.ok k (List.mem_range.1 hk)
          have HVW : Hid (∀ i, i < n → ∀ r ∈ (T i).2.2, Vw r) := HSA.out.vw
          have HFT := hid (fits_all HOKB.out (catR_all T n HVW.out))
          have HOL : Hid ((tokO 64 (bsX Bs mm) (catR T n)).length ≤ 1048576) := tokO_lenF 64 _ HNM.out.ins HTL2.out
          have HCL : Hid (∀ i, i ≤ n → (catR T i).length ≤ 1048576) := fun i hi => by
            obtain ⟨h1, h2, h3⟩ := catL_reads i (fun k hk => HNM.out.ins k (by omega))
            rw [← h2, List.length_map, h3]
            exact Nat.le_trans (totL_le T hi) HTL2.out
          have HTTL := hid (tot_le HFT.out.ok (by omega) (by omega))
          have HSUM : Hid (tot (tokT 64 (bsX Bs mm) (catR T n)) ≤ totW (catR T n) + totB Bs mm) := by
            have := HFT.out.tot
            rwa [totB_sum] at this
          obtain ⟨TT, HTT⟩ : ∃ TT, Hid (TT = tokT 64 (bsX Bs mm) (catR T n)) := ⟨_, rfl⟩
          obtain ⟨OO, HOO⟩ : ∃ OO, Hid (OO = tokO 64 (bsX Bs mm) (catR T n)) := ⟨_, rfl⟩
          rw [← HTT.out, ← HOO.out] at hTk
          rw [← HOO.out] at HOL
          rw [← HTT.out] at HSUM
          have HF1 : Hid (OkL 64 TT) := by unfold Hid; rw [HTT.out]; exact HFT.out.ok
          have HF2 : Hid (∀ k, k < mm → Win (Bs k).2 TT) := fun k hk => by
            rw [HTT.out]
            exact HFT.out.win _ (by unfold bsX; exact List.mem_map.2 ⟨k, List.mem_range.2 hk, rfl⟩)
          have HF3 : Hid (∀ x ∈ catR T n, ¬ (OO.any (fun o => deqW o x) = true ∧ (decide (x.c ≤ 64) || (bsX Bs mm).any (fun b => dot (ofn b x.n) x.c)) = true)) := fun x hx h => by
            refine HFT.out.fit x hx ⟨?_, ?_⟩
            · obtain ⟨o, ho, hd⟩ := List.any_eq_true.1 h.1
              rw [HOO.out] at ho
              exact ⟨o, ho, hd⟩
            · rcases Bool.or_eq_true_iff.1 h.2 with h1 | h1
              · exact .inl (by simpa using h1)
              · obtain ⟨b, hb, hd⟩ := List.any_eq_true.1 h1
                exact .inr ⟨b, hb, hd⟩
          have HF4 : Hid (∀ x ∈ catR T n, OO.any (fun o => deqW o x) = false → dot (ofn TT x.n) x.c = true) := fun x hx h => by
            rw [HTT.out]
            refine HFT.out.has x hx (fun ⟨o, ho, hd⟩ => ?_)
            have : OO.any (fun o => deqW o x) = true := List.any_eq_true.2 ⟨o, by rw [HOO.out]; exact ho, hd⟩
            rw [h] at this
            cases this
          obtain ⟨up, un, uc⟩ := uu
          obtain ⟨bsp, bsn, bsc⟩ := bs
          simp only at hun hbn
          subst hun
          subst hbn
          clear HFT HSA HOKB
          unfold Sl.v
          dsimp only at hTk ⊢
          go_wp2_with fail
          refine hTk.mono ?_
          clear hTk b7
          rintro r w7 hpost
          obtain ⟨q7, nq7, cq7, s7, es7, rfl, ts7, hs7, hl7, hnw7, hfr7⟩ := hpost.ex
          clear hpost
          have HTS := hid ts7
          have HS7 := hid hs7
          have HL7 := hid hl7
          have HNW7 := hid hnw7
          have HFR7 := hid hfr7
          have HA67 := hid hnw7.ap
          have HAW7 : Hid (Apart [] w w7) := HB.out.trans (HAB.out.trans hnw7.ap)
          have HNB7 := hid (HNB.out.kept0 hnw7.ap)
          have HNM7 := hid (HNM.out.kept0 hnw7.ap)
          clear ts7 hs7 hl7 hnw7 hfr7 HNB HNM
          have hCk := check_as (cap := cq7) (gap := 64) HTS.out.L 0 (by unfold chk; rw [if_pos (by omega), if_pos HF1.out])
          unfold Sl.v
          dsimp only
          go_wp2_with fail
          refine hCk.mono ?_
          clear hCk
          rintro _ w8 ⟨rfl, a8⟩
          have HA8 := hid a8
          clear a8
          dsimp only
          go_wp2_with fail
          go_loopw [12] (fun v wr => ∃ i : Nat, v = .int .i64 (i : Nat) ∧ i ≤ bsn ∧ Apart [] w7 wr) (fun v _ => bsn - (intOf v).toNat)
          case atStart => exact ⟨0, rfl, Nat.zero_le _, HA8.out⟩
          case round =>
            obtain ⟨i, rfl, hi, ap⟩ := hrel
            have HA := hid ap
            clear ap
            by_cases hlt : i < bsn
            · have hin : ((i : Nat) : Int) < (bsn : Int) := by omega
              have hX := (HNB7.out.kept0 HA.out).lx
              obtain ⟨PB, ob, hp, hP, hc⟩ := hX.rd (by rw [List.length_map, hX.len]; omega)
              simp only at hp
              subst hp
              have c0 := hc i (Bs i).1.v (by rw [List.map_map, List.getElem?_map, List.getElem?_range hlt]; rfl)
              have hWi := within_ok (cap := (Bs i).1.c) (cb := cq7) (HT.out.kept0 (HAW7.out.trans HA.out)) ((HNB7.out.kept0 HA.out).L i hlt) (HTS.out.L.kept0 HA.out)
              have HW2 := hid (HF2.out i hlt)
              have HN1 : Hid (norm (Bs i).2 = (Bs i).2 ∧ norm TT = TT) := ⟨norm_of (HNB7.out.ok i hlt), norm_of HF1.out⟩
              unfold Sl.v at c0
              clear hX hc
              go_wp2_with fail
              refine hWi.mono ?_
              clear hWi c0
              rintro _ w9 ⟨⟨v9, rfl, hv9⟩, a9⟩
              have hv : v9 = true := hv9.2 (by rw [HN1.out.1, HN1.out.2]; exact HW2.out)
              have HA9 := hid (HA.out.trans a9)
              subst hv
              clear a9 hv9
              dsimp only
              go_wp2_with fail
              go_roundw
              case rel => exact ⟨i + 1, by go_num, by omega, HA9.out⟩
              case measure => simp [intOf]; omega
            · obtain rfl : bsn = i := by omega
              clear HA8
              go_wp2_with fail
              go_loopw [13] (fun v wr => ∃ i : Nat, v = .int .i64 (i : Nat) ∧ i ≤ un ∧ Apart [] w7 wr) (fun v _ => un - (intOf v).toNat)
              case atStart => exact ⟨0, rfl, Nat.zero_le _, HA.out⟩
              case round =>
                clear HA
                obtain ⟨i, rfl, hi, ap⟩ := hrel
                have HA := hid ap
                clear ap
                by_cases hlt : i < un
                · have hin : ((i : Nat) : Int) < (un : Int) := by omega
                  have HIT := hid (HNM7.out.ins i hlt)
                  obtain ⟨P, o, hp, hP, hc⟩ := HNM7.out.sets (by omega)
                  simp only at hp
                  subst hp
                  have HPc : Hid (∀ X, Apart [] w7 X → X.cell? ⟨P, o + i, none⟩ = some (.slice (T i).1.p (T i).1.n (T i).1.c)) := fun X a => (a.cell hP (by simp)).trans (hc i hlt).1
                  have hFn := HIT.out.n
                  obtain ⟨fn, Hfn⟩ : ∃ fn, Hid (fn = (T i).1.n) := ⟨_, rfl⟩
                  obtain ⟨fp, Hfp⟩ : ∃ fp, Hid (fp = (T i).1.p) := ⟨_, rfl⟩
                  obtain ⟨fc, Hfc⟩ : ∃ fc, Hid (fc = (T i).1.c) := ⟨_, rfl⟩
                  rw [← Hfn.out] at HPc hFn
                  rw [← Hfp.out] at HPc
                  rw [← Hfc.out] at HPc
                  clear hc
                  go_wp2_with fail
                  go_loopw [14] (fun v wr => ∃ j : Nat, v = .int .i64 (j : Nat) ∧ j ≤ fn ∧ Apart [] w7 wr) (fun v _ => fn - (intOf v).toNat)
                  case atStart => exact ⟨0, rfl, Nat.zero_le _, HA.out⟩
                  case round =>
                    clear HA
                    obtain ⟨j, rfl, hj, ap⟩ := hrel
                    have HA := hid ap
                    clear ap
                    have z0 := HPc.out wr HA.out
                    by_cases hlt2 : j < fn
                    · have hjn : ((j : Nat) : Int) < (fn : Int) := by omega
                      have hjT : j < (T i).1.n := by rw [← Hfn.out]; exact hlt2
                      have hI := HIT.out.kept0 HA.out
                      obtain ⟨Q, o2, hQ, hQl, hcs⟩ := hI.le.at (by omega)
                      obtain ⟨k0, k1, k2, k3, k4, k5⟩ := hcs j hjT
                      have HRx := hid (hI.rd j hjT)
                      have HMX : Hid (gR (T i).2.2 j ∈ (T i).2.2) := by unfold Hid; rw [gR_eq _ j (by rw [HIT.out.len]; exact hjT)]; exact List.getElem_mem _
                      have HVx := hid (HVW.out i hlt _ HMX.out)
                      have HCX0 := hid (catR_mem T un i hlt _ HMX.out)
                      rw [← Hfp.out] at hQ
                      subst hQ
                      obtain ⟨x, Hx⟩ : ∃ x, Hid (x = gE (T i).2.1 j) := ⟨_, rfl⟩
                      obtain ⟨rx, Hrx⟩ : ∃ rx, Hid (rx = gR (T i).2.2 j) := ⟨_, rfl⟩
                      rw [← Hx.out] at k0 k1 k2 k3 k4 k5 HRx
                      rw [← Hrx.out] at HRx HVx HCX0
                      obtain ⟨wb, hwb⟩ : ∃ wb, wb = wr.alloc (boxE x) := ⟨_, rfl⟩
                      have HAb : Hid (Apart [] wr wb) := by unfold Hid; rw [hwb]; exact (Apart.refl [] wr).alloc _
                      have HQ : Hid (wb.heap[wr.heap.size]? = some (boxE x)) := by unfold Hid; rw [hwb]; exact heap_alloc_new wr _
                      obtain ⟨B6, HB6⟩ : ∃ B6, Hid (B6 = wr.heap.size) := ⟨_, rfl⟩
                      have HCXa : Hid (∀ X, Apart [] wb X → X.cell? ⟨B6, 0, none⟩ = some (.int .i64 x.n) ∧ X.cell? ⟨B6, 1, none⟩ = some (.int .i64 x.c)) := fun X ax => by
                        rw [HB6.out]
                        obtain ⟨a0, a1, _⟩ := row6 ((ax.block _ (lt_of_heap HQ.out) (by simp)).trans HQ.out)
                        exact ⟨a0, a1⟩
                      have HA7b : Hid (Apart [] w7 wb) := HA.out.trans HAb.out
                      have hOn : s7.n ≤ 2000000 := by have h1 := HOL.out; have h2 := HS7.out; omega
                      have HLO : Hid (LE w7 s7.p s7.n es7) := ⟨HNW7.out.rd, by rw [HL7.out, HS7.out], hOn⟩
                      unfold boxE at hwb
                      unfold Sl.v at k4 k5 hwb
                      clear hcs hI
                      go_upto_region 36 with fail
                      rw [← hwb]
                      clear hwb k0 k1 k2 k3 k4 k5 z0
                      rw [← HB6.out]
                      have HXN : Hid (x.n = rx.n ∧ x.c = rx.c) := ⟨HRx.out.n, HRx.out.c⟩
                      have HRb := hid (HRx.out.kept0 HAb.out)
                      have HDX : Hid (IsDot x.n x.c) := by unfold Hid; rw [HXN.out.1, HXN.out.2]; exact HVx.out.dt
                      obtain ⟨op, ON, oc⟩ := s7
                      simp only at hOn HLO HS7
                      dsimp only
                      clear HA HQ HB6 HVx HMX
                      go_wp2_with fail
                      go_loopw [16, 17] (fun a v wr => ∃ k : Nat, a = .bool ((OO.take k).any (fun o => deqW o rx)) ∧ v = .int .i64 (k : Nat) ∧ k ≤ ON ∧ Apart [] wb wr) (fun _ v _ => ON - (intOf v).toNat)
                      case atStart => exact ⟨0, by simp, rfl, Nat.zero_le _, Apart.refl _ _⟩
                      case round =>
                        obtain ⟨k, rfl, rfl, hk, ap⟩ := hrel
                        have HAP := hid ap
                        clear ap
                        by_cases hlt3 : k < ON
                        · have hkI : ((k : Nat) : Int) < (ON : Int) := by omega
                          obtain ⟨GO, oo, hpo, hGl, hcY⟩ := HLO.out.at (by omega)
                          subst hpo
                          obtain ⟨y, Hy⟩ : ∃ y, Hid (y = gE es7 k) := ⟨_, rfl⟩
                          have HCY : Hid (∀ X, Apart [] wr X → X.cell? ⟨GO, oo + k * 6, none⟩ = some (.int .i64 y.n) ∧ X.cell? ⟨GO, oo + k * 6 + 1, none⟩ = some (.int .i64 y.c)) := fun X ax => by
                            obtain ⟨a0, a1, _⟩ := hcY k hlt3
                            rw [← Hy.out] at a0 a1
                            have aa := HA7b.out.trans (HAP.out.trans ax)
                            exact ⟨(aa.cell hGl (by simp)).trans a0, (aa.cell hGl (by simp)).trans a1⟩
                          have HCX : Hid (∀ X, Apart [] wr X → X.cell? ⟨B6, 0, none⟩ = some (.int .i64 x.n) ∧ X.cell? ⟨B6, 1, none⟩ = some (.int .i64 x.c)) := fun X ax => HCXa.out X (HAP.out.trans ax)
                          have HQ := hid (fun W => eql24 W y.n y.c x.n x.c)
                          have HAN : Hid ((OO.take (k + 1)).any (fun o => deqW o rx) = ((OO.take k).any (fun o => deqW o rx) || deq y x)) := by
                            unfold Hid
                            rw [any_take_W OO _ k (by rw [← HS7.out]; exact hlt3), Hy.out, deq_deqW ((HFR7.out k (by rw [← HS7.out]; exact hlt3)).reads.kept0 HA7b.out) HRb.out]
                          generalize (OO.take k).any (fun o => deqW o rx) = mt at *
                          clear hcY
                          go_upto_region 40 with fail
                          cases mt
                          case true =>
                            have HAN2 := hid HAN.out
                            clear HAN
                            simp only [Bool.true_or] at HAN2
                            refine wp_region_held_drew (S := fun X => Apart [] wr X) (by kernel_rfl) (Apart.refl [] wr).drew (fun hHeld => ?_)
                            generalize wr.drew = wd at *
                            refine wpAnyH_take (i := 0) (oi := ⟨some 132, _, _, _, _, _⟩) (v := (.bool true)) rfl (by kernel_rfl) (by kernel_rfl) (by kernel_rfl) (fun _ _ _ h => h) (Or.inl ⟨by rfl, ?_⟩) (by assumption) ?_
                            · intro W hSW; go_simp
                            simp only [Act.put, List.setIfInBounds_toArray, List.set_cons_zero, List.set_cons_succ]
                            refine wpAnyH_take (i := 1) (oi := ⟨some 133, _, _, _, _, _⟩) (v := (.bool true)) rfl (by kernel_rfl) (by kernel_rfl) (by kernel_rfl) (fun _ _ _ h => h) (Or.inl ⟨by rfl, ?_⟩) (by assumption) ?_
                            · intro W hSW; go_simp
                            simp only [Act.put, List.setIfInBounds_toArray, List.set_cons_zero, List.set_cons_succ]
                            refine wpAnyH_take (i := 2) (oi := ⟨some 134, _, _, _, _, _⟩) (v := undef) rfl (by kernel_rfl) (by kernel_rfl) (by kernel_rfl) (fun _ _ _ h => h) (Or.inr ⟨by kernel_rfl, rfl⟩) (by assumption) ?_
                            simp only [Act.put, List.setIfInBounds_toArray, List.set_cons_zero, List.set_cons_succ]
                            refine wpAnyH_take (i := 3) (oi := ⟨some 135, _, _, _, _, _⟩) (v := undef) rfl (by kernel_rfl) (by kernel_rfl) (by kernel_rfl) (fun _ _ _ h => h) (Or.inr ⟨by kernel_rfl, rfl⟩) (by assumption) ?_
                            simp only [Act.put, List.setIfInBounds_toArray, List.set_cons_zero, List.set_cons_succ]
                            refine wpAnyH_take (i := 4) (oi := ⟨some 136, _, _, _, _, _⟩) (v := undef) rfl (by kernel_rfl) (by kernel_rfl) (by kernel_rfl) (fun _ _ _ h => h) (Or.inr ⟨by kernel_rfl, rfl⟩) (by assumption) ?_
                            simp only [Act.put, List.setIfInBounds_toArray, List.set_cons_zero, List.set_cons_succ]
                            refine wpAnyH_take (i := 5) (oi := ⟨some 137, _, _, _, _, _⟩) (v := undef) rfl (by kernel_rfl) (by kernel_rfl) (by kernel_rfl) (fun _ _ _ h => h) (Or.inr ⟨by kernel_rfl, rfl⟩) (by assumption) ?_
                            simp only [Act.put, List.setIfInBounds_toArray, List.set_cons_zero, List.set_cons_succ]
                            refine wpAnyH_take (i := 6) (oi := ⟨some 138, _, _, _, _, _⟩) (v := undef) rfl (by kernel_rfl) (by kernel_rfl) (by kernel_rfl) (fun _ _ _ h => h) (Or.inr ⟨by kernel_rfl, rfl⟩) (by assumption) ?_
                            simp only [Act.put, List.setIfInBounds_toArray, List.set_cons_zero, List.set_cons_succ]
                            refine wpAnyH_take (i := 7) (oi := ⟨some 139, _, _, _, _, _⟩) (v := undef) rfl (by kernel_rfl) (by kernel_rfl) (by kernel_rfl) (fun _ _ _ h => h) (Or.inr ⟨by kernel_rfl, rfl⟩) (by assumption) ?_
                            simp only [Act.put, List.setIfInBounds_toArray, List.set_cons_zero, List.set_cons_succ]
                            refine wpAnyH_take (i := 8) (oi := ⟨some 140, _, _, _, _, _⟩) (v := undef) rfl (by kernel_rfl) (by kernel_rfl) (by kernel_rfl) (fun _ _ _ h => h) (Or.inr ⟨by kernel_rfl, rfl⟩) (by assumption) ?_
                            simp only [Act.put, List.setIfInBounds_toArray, List.set_cons_zero, List.set_cons_succ]
                            refine wpAnyH_take (i := 9) (oi := ⟨some 141, _, _, _, _, _⟩) (v := undef) rfl (by kernel_rfl) (by kernel_rfl) (by kernel_rfl) (fun _ _ _ h => h) (Or.inr ⟨by kernel_rfl, rfl⟩) (by assumption) ?_
                            simp only [Act.put, List.setIfInBounds_toArray, List.set_cons_zero, List.set_cons_succ]
                            refine wpAnyH_take (i := 10) (oi := ⟨some 142, _, _, _, _, _⟩) (v := (.bool true)) rfl (by kernel_rfl) (by kernel_rfl) (by kernel_rfl) (fun _ _ _ h => h) (Or.inl ⟨by rfl, ?_⟩) (by assumption) ?_
                            · intro W hSW; go_simp
                            simp only [Act.put, List.setIfInBounds_toArray, List.set_cons_zero, List.set_cons_succ]
                            refine wpAnyH_take (i := 11) (oi := ⟨some 16, _, _, _, _, _⟩) (v := (.bool true)) rfl (by kernel_rfl) (by kernel_rfl) (by kernel_rfl) (fun _ _ _ h => h) (Or.inl ⟨by rfl, ?_⟩) (by assumption) ?_
                            · intro W hSW; go_simp
                            simp only [Act.put, List.setIfInBounds_toArray, List.set_cons_zero, List.set_cons_succ]
                            refine wpAnyH_done (by kernel_rfl) ?_ _
                            go_wp2_with fail
                            go_roundw
                            case rel => exact ⟨k + 1, by rw [HAN2.out], by go_num, by omega, HAP.out.trans hHeld⟩
                            case measure => simp [intOf]; omega
                          case false =>
                            have HAN2 := hid HAN.out
                            clear HAN
                            simp only [Bool.false_or] at HAN2
                            refine wp_region_held_drew (S := fun X => Apart [] wr X) (by kernel_rfl) (Apart.refl [] wr).drew (fun hHeld => ?_)
                            generalize wr.drew = wd at *
                            refine wpAnyH_take (i := 0) (oi := ⟨some 132, _, _, _, _, _⟩) (v := (.bool false)) rfl (by kernel_rfl) (by kernel_rfl) (by kernel_rfl) (fun _ _ _ h => h) (Or.inl ⟨by rfl, ?_⟩) (by assumption) ?_
                            · intro W hSW; go_simp
                            simp only [Act.put, List.setIfInBounds_toArray, List.set_cons_zero, List.set_cons_succ]
                            refine wpAnyH_take (i := 1) (oi := ⟨some 133, _, _, _, _, _⟩) (v := (.bool false)) rfl (by kernel_rfl) (by kernel_rfl) (by kernel_rfl) (fun _ _ _ h => h) (Or.inl ⟨by rfl, ?_⟩) (by assumption) ?_
                            · intro W hSW; go_simp
                            simp only [Act.put, List.setIfInBounds_toArray, List.set_cons_zero, List.set_cons_succ]
                            refine wpAnyH_take (i := 2) (oi := ⟨some 134, _, _, _, _, _⟩) (v := (.slice (some ⟨GO, oo, none⟩) ON oc)) rfl (by kernel_rfl) (by kernel_rfl) (by kernel_rfl) (fun _ _ _ h => h) (Or.inl ⟨by rfl, ?_⟩) (by assumption) ?_
                            · intro W hSW; go_simp
                            simp only [Act.put, List.setIfInBounds_toArray, List.set_cons_zero, List.set_cons_succ]
                            refine wpAnyH_take (i := 3) (oi := ⟨some 135, _, _, _, _, _⟩) (v := (.int .i64 (k : Nat))) rfl (by kernel_rfl) (by kernel_rfl) (by kernel_rfl) (fun _ _ _ h => h) (Or.inl ⟨by rfl, ?_⟩) (by assumption) ?_
                            · intro W hSW; go_simp
                            simp only [Act.put, List.setIfInBounds_toArray, List.set_cons_zero, List.set_cons_succ]
                            refine wpAnyH_take (i := 4) (oi := ⟨some 136, _, _, _, _, _⟩) (v := (.pointer (some ⟨GO, oo + k * 6, none⟩))) rfl (by kernel_rfl) (by kernel_rfl) (by kernel_rfl) (fun _ _ _ h => h) (Or.inl ⟨by rfl, ?_⟩) (by assumption) ?_
                            · intro W hSW; go_simp
                            simp only [Act.put, List.setIfInBounds_toArray, List.set_cons_zero, List.set_cons_succ]
                            refine wpAnyH_take (i := 5) (oi := ⟨some 137, _, _, _, _, _⟩) (v := (.pointer (some ⟨GO, oo + k * 6, none⟩))) rfl (by kernel_rfl) (by kernel_rfl) (by kernel_rfl) (fun _ _ _ h => h) (Or.inl ⟨by rfl, ?_⟩) (by assumption) ?_
                            · intro W hSW; go_simp
                            simp only [Act.put, List.setIfInBounds_toArray, List.set_cons_zero, List.set_cons_succ]
                            refine wpAnyH_take (i := 6) (oi := ⟨some 138, _, _, _, _, _⟩) (v := (.agg #[.int .i64 y.n, .int .i64 y.c])) rfl (by kernel_rfl) (by kernel_rfl) (by kernel_rfl) (fun _ _ _ h => h) (Or.inl ⟨by rfl, ?_⟩) (by assumption) ?_
                            · intro W hSW; obtain ⟨i0, i1⟩ := HCY.out W hSW; go_simp
                            simp only [Act.put, List.setIfInBounds_toArray, List.set_cons_zero, List.set_cons_succ]
                            refine wpAnyH_take (i := 7) (oi := ⟨some 139, _, _, _, _, _⟩) (v := (.pointer (some ⟨B6, 0, none⟩))) rfl (by kernel_rfl) (by kernel_rfl) (by kernel_rfl) (fun _ _ _ h => h) (Or.inl ⟨by rfl, ?_⟩) (by assumption) ?_
                            · intro W hSW; go_simp
                            simp only [Act.put, List.setIfInBounds_toArray, List.set_cons_zero, List.set_cons_succ]
                            refine wpAnyH_take (i := 8) (oi := ⟨some 140, _, _, _, _, _⟩) (v := (.agg #[.int .i64 x.n, .int .i64 x.c])) rfl (by kernel_rfl) (by kernel_rfl) (by kernel_rfl) (fun _ _ _ h => h) (Or.inl ⟨by rfl, ?_⟩) (by assumption) ?_
                            · intro W hSW; obtain ⟨i0, i1⟩ := HCX.out W hSW; go_simp
                            simp only [Act.put, List.setIfInBounds_toArray, List.set_cons_zero, List.set_cons_succ]
                            refine wpAnyH_take (i := 9) (oi := ⟨some 141, _, _, _, _, _⟩) (v := (.bool (deq y x))) rfl (by kernel_rfl) (by kernel_rfl) (by kernel_rfl) (fun _ _ _ h => h) (Or.inl ⟨by rfl, ?_⟩) (by assumption) ?_
                            · intro W hSW; have hq := HQ.out W; have hg := guard24; unfold deq; go_simp; by_cases e1 : y.n = x.n <;> by_cases e2 : y.c = x.c <;> simp [e1, e2]
                            simp only [Act.put, List.setIfInBounds_toArray, List.set_cons_zero, List.set_cons_succ]
                            refine wpAnyH_take (i := 10) (oi := ⟨some 142, _, _, _, _, _⟩) (v := (.bool (deq y x))) rfl (by kernel_rfl) (by kernel_rfl) (by kernel_rfl) (fun _ _ _ h => h) (Or.inl ⟨by rfl, ?_⟩) (by assumption) ?_
                            · intro W hSW; go_simp
                            simp only [Act.put, List.setIfInBounds_toArray, List.set_cons_zero, List.set_cons_succ]
                            refine wpAnyH_take (i := 11) (oi := ⟨some 16, _, _, _, _, _⟩) (v := (.bool (deq y x))) rfl (by kernel_rfl) (by kernel_rfl) (by kernel_rfl) (fun _ _ _ h => h) (Or.inl ⟨by rfl, ?_⟩) (by assumption) ?_
                            · intro W hSW; go_simp
                            simp only [Act.put, List.setIfInBounds_toArray, List.set_cons_zero, List.set_cons_succ]
                            refine wpAnyH_done (by kernel_rfl) ?_ _
                            go_wp2_with fail
                            go_roundw
                            case rel => exact ⟨k + 1, by rw [HAN2.out], by go_num, by omega, HAP.out.trans hHeld⟩
                            case measure => simp [intOf]; omega
                        · obtain rfl : ON = k := by omega
                          rw [List.take_of_length_le (by rw [← HS7.out]; exact Nat.le_refl _)]
                          obtain ⟨lf, Hlf⟩ : ∃ lf, Hid (lf = OO.any (fun o => deqW o rx)) := ⟨_, rfl⟩
                          rw [← Hlf.out]
                          have HAPG := hid HAP.out
                          obtain ⟨x0, x1⟩ := HCXa.out wr HAP.out
                          clear HAP
                          go_wp2_with fail
                          clear x0 x1
                          go_loopw [18, 19] (fun a v wr => ∃ k : Nat, a = .bool (decide (x.c ≤ 64) || (bsX Bs k).any (fun b => dot (ofn b x.n) x.c)) ∧ v = .int .i64 (k : Nat) ∧ k ≤ bsn ∧ Apart [] wb wr) (fun _ v _ => bsn - (intOf v).toNat)
                          case atStart => exact ⟨0, by simp [bsX], rfl, Nat.zero_le _, HAPG.out⟩
                          case round =>
                            clear HAPG
                            obtain ⟨k, rfl, rfl, hk, ap⟩ := hrel
                            have HAP := hid ap
                            clear ap
                            by_cases hlt3 : k < bsn
                            · have hkI : ((k : Nat) : Int) < (bsn : Int) := by omega
                              have HA7 : Hid (Apart [] w7 wr) := HA7b.out.trans HAP.out
                              have hX := HNB7.out.lx
                              obtain ⟨PB, ob, hp, hP, hc⟩ := hX.rd (by rw [List.length_map, hX.len]; omega)
                              simp only at hp
                              subst hp
                              have c0 := hc k (Bs k).1.v (by rw [List.map_map, List.getElem?_map, List.getElem?_range hlt3]; rfl)
                              have HCX : Hid (∀ X, Apart [] wr X → X.cell? ⟨B6, 0, none⟩ = some (.int .i64 x.n) ∧ X.cell? ⟨B6, 1, none⟩ = some (.int .i64 x.c)) := fun X ax => HCXa.out X (HAP.out.trans ax)
                              have HAN := hid (any_bsX Bs (fun b => dot (ofn b x.n) x.c) k)
                              have HHS : Hid (∀ X, Apart [] wr X → Calls Tryd.prog 30 #[.slice (Bs k).1.p (Bs k).1.n (Bs k).1.c, .agg #[.int .i64 x.n, .int .i64 x.c]] X fun r w' => r = .returned (.bool (dot (ofn (Bs k).2 x.n) x.c)) ∧ Apart [] X w') := fun X a => lawhas_ok ((HNB7.out.L k hlt3).kept0 (HA7.out.trans a)) (HNB7.out.ok k hlt3) HDX.out
                              have HCB : Hid (∀ X, Apart [] wr X → X.cell? ⟨PB, ob + k, none⟩ = some (.slice (Bs k).1.p (Bs k).1.n (Bs k).1.c)) := fun X a => ((HA7.out.trans a).cell hP (by simp)).trans c0
                              obtain ⟨hv, Hhv⟩ : ∃ hv, Hid (hv = dot (ofn (Bs k).2 x.n) x.c) := ⟨_, rfl⟩
                              rw [← Hhv.out] at HHS HAN
                              generalize (Bs k).1 = sb at *
                              have HAN3 : Hid ((decide (x.c ≤ 64) || (bsX Bs (k + 1)).any (fun b => dot (ofn b x.n) x.c)) = ((decide (x.c ≤ 64) || (bsX Bs k).any (fun b => dot (ofn b x.n) x.c)) || hv)) := by
                                unfold Hid
                                rw [HAN.out, Bool.or_assoc]
                              generalize (decide (x.c ≤ 64) || (bsX Bs k).any (fun b => dot (ofn b x.n) x.c)) = mt at *
                              clear hX hc c0 HAN
                              go_upto_region 45 with fail
                              cases mt
                              case true =>
                                have HAN2 := hid HAN3.out
                                clear HAN3
                                simp only [Bool.true_or] at HAN2
                                refine wp_region_held_drew (S := fun X => Apart [] wr X) (by kernel_rfl) (Apart.refl [] wr).drew (fun hHeld => ?_)
                                generalize wr.drew = wd at *
                                refine wpAnyH_take (i := 0) (oi := ⟨some 153, _, _, _, _, _⟩) (v := (.bool true)) rfl (by kernel_rfl) (by kernel_rfl) (by kernel_rfl) (fun _ _ _ h => h) (Or.inl ⟨by rfl, ?_⟩) (by assumption) ?_
                                · intro W hSW; go_simp
                                simp only [Act.put, List.setIfInBounds_toArray, List.set_cons_zero, List.set_cons_succ]
                                refine wpAnyH_take (i := 1) (oi := ⟨some 154, _, _, _, _, _⟩) (v := (.bool true)) rfl (by kernel_rfl) (by kernel_rfl) (by kernel_rfl) (fun _ _ _ h => h) (Or.inl ⟨by rfl, ?_⟩) (by assumption) ?_
                                · intro W hSW; go_simp
                                simp only [Act.put, List.setIfInBounds_toArray, List.set_cons_zero, List.set_cons_succ]
                                refine wpAnyH_take (i := 2) (oi := ⟨some 155, _, _, _, _, _⟩) (v := undef) rfl (by kernel_rfl) (by kernel_rfl) (by kernel_rfl) (fun _ _ _ h => h) (Or.inr ⟨by kernel_rfl, rfl⟩) (by assumption) ?_
                                simp only [Act.put, List.setIfInBounds_toArray, List.set_cons_zero, List.set_cons_succ]
                                refine wpAnyH_take (i := 3) (oi := ⟨some 156, _, _, _, _, _⟩) (v := undef) rfl (by kernel_rfl) (by kernel_rfl) (by kernel_rfl) (fun _ _ _ h => h) (Or.inr ⟨by kernel_rfl, rfl⟩) (by assumption) ?_
                                simp only [Act.put, List.setIfInBounds_toArray, List.set_cons_zero, List.set_cons_succ]
                                refine wpAnyH_take (i := 4) (oi := ⟨some 157, _, _, _, _, _⟩) (v := undef) rfl (by kernel_rfl) (by kernel_rfl) (by kernel_rfl) (fun _ _ _ h => h) (Or.inr ⟨by kernel_rfl, rfl⟩) (by assumption) ?_
                                simp only [Act.put, List.setIfInBounds_toArray, List.set_cons_zero, List.set_cons_succ]
                                refine wpAnyH_take (i := 5) (oi := ⟨some 158, _, _, _, _, _⟩) (v := undef) rfl (by kernel_rfl) (by kernel_rfl) (by kernel_rfl) (fun _ _ _ h => h) (Or.inr ⟨by kernel_rfl, rfl⟩) (by assumption) ?_
                                simp only [Act.put, List.setIfInBounds_toArray, List.set_cons_zero, List.set_cons_succ]
                                refine wpAnyH_take (i := 6) (oi := ⟨some 159, _, _, _, _, _⟩) (v := undef) rfl (by kernel_rfl) (by kernel_rfl) (by kernel_rfl) (fun _ _ _ h => h) (Or.inr ⟨by kernel_rfl, rfl⟩) (by assumption) ?_
                                simp only [Act.put, List.setIfInBounds_toArray, List.set_cons_zero, List.set_cons_succ]
                                refine wpAnyH_take (i := 7) (oi := ⟨some 160, _, _, _, _, _⟩) (v := undef) rfl (by kernel_rfl) (by kernel_rfl) (by kernel_rfl) (fun _ _ _ h => h) (Or.inr ⟨by kernel_rfl, rfl⟩) (by assumption) ?_
                                simp only [Act.put, List.setIfInBounds_toArray, List.set_cons_zero, List.set_cons_succ]
                                refine wpAnyH_pass 8 (by kernel_rfl) rfl (by kernel_rfl) (by assumption) ?_
                                simp only [Act.put, List.setIfInBounds_toArray, List.set_cons_zero, List.set_cons_succ]
                                refine wpAnyH_take (i := 9) (oi := ⟨some 162, _, _, _, _, _⟩) (v := (.bool true)) rfl (by kernel_rfl) (by kernel_rfl) (by kernel_rfl) (fun _ _ _ h => h) (Or.inl ⟨by rfl, ?_⟩) (by assumption) ?_
                                · intro W hSW; go_simp
                                simp only [Act.put, List.setIfInBounds_toArray, List.set_cons_zero, List.set_cons_succ]
                                refine wpAnyH_take (i := 10) (oi := ⟨some 18, _, _, _, _, _⟩) (v := (.bool true)) rfl (by kernel_rfl) (by kernel_rfl) (by kernel_rfl) (fun _ _ _ h => h) (Or.inl ⟨by rfl, ?_⟩) (by assumption) ?_
                                · intro W hSW; go_simp
                                simp only [Act.put, List.setIfInBounds_toArray, List.set_cons_zero, List.set_cons_succ]
                                refine wpAnyH_done (by kernel_rfl) ?_ _
                                go_wp2_with fail
                                go_roundw
                                case rel => exact ⟨k + 1, by rw [HAN2.out], by go_num, by omega, HAP.out.trans hHeld⟩
                                case measure => simp [intOf]; omega
                              case false =>
                                have HAN2 := hid HAN3.out
                                clear HAN3
                                simp only [Bool.false_or] at HAN2
                                refine wp_region_held_drew (S := fun X => Apart [] wr X) (by kernel_rfl) (Apart.refl [] wr).drew (fun hHeld => ?_)
                                have HAD : Hid (Apart [] wr wr.drew) := (Apart.refl [] wr).drew
                                generalize wr.drew = wd at *
                                refine wpAnyH_take (i := 0) (oi := ⟨some 153, _, _, _, _, _⟩) (v := (.bool false)) rfl (by kernel_rfl) (by kernel_rfl) (by kernel_rfl) (fun _ _ _ h => h) (Or.inl ⟨by rfl, ?_⟩) (by assumption) ?_
                                · intro W hSW; go_simp
                                simp only [Act.put, List.setIfInBounds_toArray, List.set_cons_zero, List.set_cons_succ]
                                refine wpAnyH_take (i := 1) (oi := ⟨some 154, _, _, _, _, _⟩) (v := (.bool false)) rfl (by kernel_rfl) (by kernel_rfl) (by kernel_rfl) (fun _ _ _ h => h) (Or.inl ⟨by rfl, ?_⟩) (by assumption) ?_
                                · intro W hSW; go_simp
                                simp only [Act.put, List.setIfInBounds_toArray, List.set_cons_zero, List.set_cons_succ]
                                refine wpAnyH_take (i := 2) (oi := ⟨some 155, _, _, _, _, _⟩) (v := (.slice (some ⟨PB, ob, none⟩) bsn bsc)) rfl (by kernel_rfl) (by kernel_rfl) (by kernel_rfl) (fun _ _ _ h => h) (Or.inl ⟨by rfl, ?_⟩) (by assumption) ?_
                                · intro W hSW; go_simp
                                simp only [Act.put, List.setIfInBounds_toArray, List.set_cons_zero, List.set_cons_succ]
                                refine wpAnyH_take (i := 3) (oi := ⟨some 156, _, _, _, _, _⟩) (v := (.int .i64 (k : Nat))) rfl (by kernel_rfl) (by kernel_rfl) (by kernel_rfl) (fun _ _ _ h => h) (Or.inl ⟨by rfl, ?_⟩) (by assumption) ?_
                                · intro W hSW; go_simp
                                simp only [Act.put, List.setIfInBounds_toArray, List.set_cons_zero, List.set_cons_succ]
                                refine wpAnyH_take (i := 4) (oi := ⟨some 157, _, _, _, _, _⟩) (v := (.pointer (some ⟨PB, ob + k, none⟩))) rfl (by kernel_rfl) (by kernel_rfl) (by kernel_rfl) (fun _ _ _ h => h) (Or.inl ⟨by rfl, ?_⟩) (by assumption) ?_
                                · intro W hSW; go_simp
                                simp only [Act.put, List.setIfInBounds_toArray, List.set_cons_zero, List.set_cons_succ]
                                refine wpAnyH_take (i := 5) (oi := ⟨some 158, _, _, _, _, _⟩) (v := (.slice sb.p sb.n sb.c)) rfl (by kernel_rfl) (by kernel_rfl) (by kernel_rfl) (fun _ _ _ h => h) (Or.inl ⟨by rfl, ?_⟩) (by assumption) ?_
                                · intro W hSW; have z := HCB.out W hSW; go_simp
                                simp only [Act.put, List.setIfInBounds_toArray, List.set_cons_zero, List.set_cons_succ]
                                refine wpAnyH_take (i := 6) (oi := ⟨some 159, _, _, _, _, _⟩) (v := (.pointer (some ⟨B6, 0, none⟩))) rfl (by kernel_rfl) (by kernel_rfl) (by kernel_rfl) (fun _ _ _ h => h) (Or.inl ⟨by rfl, ?_⟩) (by assumption) ?_
                                · intro W hSW; go_simp
                                simp only [Act.put, List.setIfInBounds_toArray, List.set_cons_zero, List.set_cons_succ]
                                refine wpAnyH_take (i := 7) (oi := ⟨some 160, _, _, _, _, _⟩) (v := (.agg #[.int .i64 x.n, .int .i64 x.c])) rfl (by kernel_rfl) (by kernel_rfl) (by kernel_rfl) (fun _ _ _ h => h) (Or.inl ⟨by rfl, ?_⟩) (by assumption) ?_
                                · intro W hSW; obtain ⟨i0, i1⟩ := HCX.out W hSW; go_simp
                                simp only [Act.put, List.setIfInBounds_toArray, List.set_cons_zero, List.set_cons_succ]
                                refine wpAnyH_ready (rs := [8]) (by kernel_rfl) (by simp) ?_
                                refine AllReadyH.cons rfl (fun KK hKK => ?_) AllReadyH.nil
                                go_simp
                                refine (HHS.out _ HAD.out).mono ?_
                                rintro _ w9 ⟨rfl, a9⟩
                                have HA9 : Hid (Apart [] wr w9) := HAD.out.trans a9
                                clear a9
                                try dsimp only
                                refine hKK.out _ _ HA9.out (fun hHeld => ?_)
                                clear hKK KK
                                refine wpAnyH_take (i := 9) (oi := ⟨some 162, _, _, _, _, _⟩) (v := (.bool hv)) rfl (by kernel_rfl) (by kernel_rfl) (by kernel_rfl) (fun _ _ _ h => h) (Or.inl ⟨by rfl, ?_⟩) (by assumption) ?_
                                · intro W hSW; go_simp
                                simp only [Act.put, List.setIfInBounds_toArray, List.set_cons_zero, List.set_cons_succ]
                                refine wpAnyH_take (i := 10) (oi := ⟨some 18, _, _, _, _, _⟩) (v := (.bool hv)) rfl (by kernel_rfl) (by kernel_rfl) (by kernel_rfl) (fun _ _ _ h => h) (Or.inl ⟨by rfl, ?_⟩) (by assumption) ?_
                                · intro W hSW; go_simp
                                simp only [Act.put, List.setIfInBounds_toArray, List.set_cons_zero, List.set_cons_succ]
                                refine wpAnyH_done (by kernel_rfl) ?_ _
                                go_wp2_with fail
                                go_roundw
                                case rel => exact ⟨k + 1, by rw [HAN2.out], by go_num, by omega, HAP.out.trans HA9.out⟩
                                case measure => simp [intOf]; omega
                            · obtain rfl : bsn = k := by omega
                              obtain ⟨nr, Hnr⟩ : ∃ nr, Hid (nr = (decide (x.c ≤ 64) || (bsX Bs bsn).any (fun b => dot (ofn b x.n) x.c))) := ⟨_, rfl⟩
                              rw [← Hnr.out]
                              have HA7 : Hid (Apart [] w7 wr) := HA7b.out.trans HAP.out
                              have HF5 : Hid (¬ (lf = true ∧ nr = true)) := by
                                rw [Hnr.out, Hlf.out, HXN.out.1, HXN.out.2]
                                exact HF3.out rx HCX0.out
                              have HF6 : Hid (lf = false → dot (ofn TT x.n) x.c = true) := fun h => by
                                rw [HXN.out.1, HXN.out.2]
                                exact HF4.out rx HCX0.out (by rw [← Hlf.out]; exact h)
                              cases lf
                              case true =>
                                cases nr
                                case true => exact absurd ⟨rfl, rfl⟩ HF5.out
                                case false =>
                                  go_wp2_with fail
                                  go_roundw
                                  case rel => exact ⟨j + 1, by go_num, by omega, HA7.out⟩
                                  case measure => simp [intOf]; omega
                              case false =>
                                have hH := lawhas_ok (cap := cq7) (HTS.out.L.kept0 HA7.out) HF1.out HDX.out
                                rw [HF6.out rfl] at hH
                                obtain ⟨x0, x1⟩ := HCXa.out wr HAP.out
                                cases nr <;>
                                · go_wp2_with fail
                                  refine hH.mono ?_
                                  clear hH x0 x1
                                  rintro _ w9 ⟨rfl, a9⟩
                                  have HA9 := hid (HA7.out.trans a9)
                                  clear a9
                                  dsimp only
                                  go_wp2_with fail
                                  go_roundw
                                  case rel => exact ⟨j + 1, by go_num, by omega, HA9.out⟩
                                  case measure => simp [intOf]; omega
                    · obtain rfl : fn = j := by omega
                      go_wp2_with fail
                      go_roundw
                      case rel => exact ⟨i + 1, by go_num, by omega, HA.out⟩
                      case measure => simp [intOf]; omega
                · obtain rfl : un = i := by omega
                  have hCn := count_ok (cap := cq7) (HTS.out.L.kept0 HA.out)
                  rw [norm_of HF1.out] at hCn
                  have HTo : Hid (∀ X, Apart [] w7 X → Calls Tryd.prog 32 #[.slice up un uc, .slice bsp bsn bsc] X fun r w' => r = .returned (.int .i64 ((totW (catR T un) + totB Bs bsn : Nat) : Int)) ∧ Apart [] X w') := fun X a => total_ok X up un uc T (HNM7.out.kept0 a).sets HVW.out hn HCL.out bsp bsn bsc Bs (HNB7.out.kept0 a).lx (fun i hi => HNB7.out.ok i hi) (by omega)
                  obtain ⟨t1, Ht1⟩ : ∃ t1, Hid (t1 = tot TT) := ⟨_, rfl⟩
                  obtain ⟨t2, Ht2⟩ : ∃ t2, Hid (t2 = totW (catR T un) + totB Bs bsn) := ⟨_, rfl⟩
                  rw [← Ht1.out] at hCn HSUM
                  rw [← Ht2.out] at HTo HSUM
                  go_wp2_with fail
                  refine hCn.mono ?_
                  clear hCn
                  rintro _ w9 ⟨rfl, a9⟩
                  have HA9 := hid (HA.out.trans a9)
                  clear a9
                  dsimp only
                  go_wp2_with fail
                  refine (HTo.out _ HA9.out).mono ?_
                  rintro _ w10 ⟨rfl, a10⟩
                  have HEND := hid (HAW7.out.trans (HA9.out.trans a10))
                  have hle : ((t1 : Nat) : Int) ≤ (t2 : Int) := by have := HSUM.out; omega
                  clear a10
                  dsimp only
                  go_wp2_with fail
                  go_ret
                  exact ⟨rfl, HEND.out⟩
end Go.Proofs.YtokaeiahhmaokaaDoor.ds
