import Derived.Test.YtokaeiahhmaokaaGreatDoorV38
import Derived.Test.YtokaeiahhmaokaaGreatDoorV32
import Derived.Test.YtokaeiahhmaokaaGreatDoorV35
namespace Go.Proofs.YtokaeiahhmaokaaGreatDoor.ds
open Go.ChangeShapes Go.WideShapes Go.ChangeAt Go.RowKit Go.Sort
set_option linter.unusedVariables false
set_option linter.unusedSimpArgs false
structure RkPost (w w' : World) (r : Ending) (T : List S) (O : List Wr) : Prop where
  ex : ∃ q n c s es, r = .returned (.tuple #[.slice q n c, Sl.v s]) ∧ TS w w' q n c T ∧ OwnE w w' s es ∧ s.n = O.length ∧ ∀ j, j < s.n → Reads w' (gE es j) (gR O j)
theorem range_gR (rs : List Wr) : (List.range rs.length).map (gR rs) = rs := by
  apply List.ext_getElem
  · simp
  · intro j h1 h2
    rw [List.getElem_map, List.getElem_range, gR_eq rs j h2]
/-- how the writes of the document's list read -/
theorem RkPost.mk' {w w' : World} {q : Option Addr} {n c : Nat} {s : Sl} {es ls : List E} {T : List S} {O : List Wr} {R : E → Wr} (ht : TS w w' q n c T) (ho : OwnE w w' s es) (hm : es.map R = O) (hR : Rdg w' R es) : RkPost w w' (.returned (.tuple #[.slice q n c, Sl.v s])) T O := by
  refine ⟨q, n, c, s, es, rfl, ht, ho, by rw [← hm, List.length_map, ho.len], fun j hj => ?_⟩
  rw [← hm]
  exact hR.at j (by rw [ho.len]; exact hj)
set_option maxHeartbeats 16000000 in
set_option maxRecDepth 100000 in
theorem rtoken_ok (w : World) (p : Option Addr) (n cc : Nat) (F : Nat → Sl × List E × List Wr) (h : Sets w p n F) (hn : n ≤ 1048576) (hT : totL F n ≤ 1048576) (R : E → Wr) (hR : Rdg w R (catL F n)) (hcl : ∀ i, i ≤ n → (catL F i).length = totL F i) (bp : Option Addr) (m bc : Nat) (ss : List Sl) (xss : List (List S)) (hX : LX w bp m ss xss) (hm : m ≤ 1048576) (gap : Int) :
    Calls Tryz.prog 20 #[.slice p n cc, .slice bp m bc, .int .i64 gap] w fun r w' => RkPost w w' r (tokT gap xss ((catL F n).map R)) (tokO gap xss ((catL F n).map R)) := by
  have hE := reach_ok w p n cc F h hn (by omega) hcl
  have HR := hid hR
  have HXX := hid hX
  obtain ⟨L2, HL2⟩ : ∃ L2, Hid (L2 = eachE (catL F n)) := ⟨_, rfl⟩
  obtain ⟨T0, HT0⟩ : ∃ T0, Hid (T0 = unis gap xss) := ⟨_, rfl⟩
  rw [← HL2.out] at hE
  have HL2l : Hid (L2.length ≤ 1048576) := by
    unfold Hid
    rw [HL2.out]
    have h1 := each_len _ (catL F n) rfl
    have h2 := hcl n (Nat.le_refl _)
    omega
  have HRL : Hid (Rdg w R L2) := hR.sub (fun e he => by rw [HL2.out] at he; exact eachE_sub _ e he)
  have HEW : Hid (eachW ((catL F n).map R) = L2.map R) := by
    unfold Hid
    rw [HL2.out, eachE_map hR]
  have HFT : Hid (tokT gap xss ((catL F n).map R) = tkT gap T0 (L2.map R) L2.length) := by
    unfold Hid tokT
    rw [HEW.out, ← HT0.out, List.length_map]
  have HFO : Hid (tokO gap xss ((catL F n).map R) = tkO gap T0 (L2.map R) L2.length) := by
    unfold Hid tokO
    rw [HEW.out, ← HT0.out, List.length_map]
  rw [HFT.out, HFO.out]
  clear h hR hX hT hcl HFT HFO HEW HL2
  by_cases hg : ¬ (1 ≤ gap ∧ gap ≤ 64)
  · have HNO : Hid (tkT gap T0 (L2.map R) L2.length = [] ∧ tkO gap T0 (L2.map R) L2.length = L2.map R) := by
      obtain ⟨h1, h2⟩ := tk_none hg T0 (L2.map R) L2.length
      refine ⟨by rw [h1, HT0.out, unis_no hg], ?_⟩
      rw [h2]
      have := range_gR (L2.map R)
      rw [List.length_map] at this
      exact this
    rw [HNO.out.1, HNO.out.2]
    clear HNO
    by_cases h1 : gap < 1
    · clear hg
      go_enter Tryz.func20, Tryz.ntmps20
      go_wp2_with fail
      refine hE.mono ?_
      clear hE
      rintro _ w1 ⟨s1, rfl, ho⟩
      have HF : Hid (RkPost w w1 (.returned (.tuple #[.slice none 0 0, Sl.v s1])) [] (L2.map R)) := RkPost.mk' (ls := []) (R := R) (TS.nil _ _ ho.nw.ap) ho rfl (HRL.out.kept0 ho.nw.ap)
      clear ho
      unfold Sl.v at HF ⊢
      dsimp only
      go_wp2_with fail
      go_ret2
      exact HF.out
    · have h2 : 64 < gap := by omega
      clear hg
      go_enter Tryz.func20, Tryz.ntmps20
      go_wp2_with fail
      refine hE.mono ?_
      clear hE
      rintro _ w1 ⟨s1, rfl, ho⟩
      have HF : Hid (RkPost w w1 (.returned (.tuple #[.slice none 0 0, Sl.v s1])) [] (L2.map R)) := RkPost.mk' (ls := []) (R := R) (TS.nil _ _ ho.nw.ap) ho rfl (HRL.out.kept0 ho.nw.ap)
      clear ho
      unfold Sl.v at HF ⊢
      dsimp only
      go_wp2_with fail
      go_ret2
      exact HF.out
  replace hg := Decidable.not_not.1 hg
  have HG := hid hg
  have g1 : ¬ gap < 1 := by omega
  have g2 : ¬ 64 < gap := by omega
  clear hg
  go_enter Tryz.func20, Tryz.ntmps20
  go_wp2_with fail
  refine hE.mono ?_
  clear hE
  rintro _ w1 ⟨s1, rfl, ho1⟩
  have HO1 := hid ho1
  have HA1 := hid ho1.nw.ap
  have HL3 := hid ho1.len
  have hs1 : s1.n ≤ 1048576 := by have := HL2l.out; have := ho1.len; omega
  clear ho1
  obtain ⟨sp, N, sc⟩ := s1
  simp only at hs1
  unfold Sl.v
  dsimp only
  go_wp2_with fail
  go_loopw [9, 10] (fun a v wr => ∃ (i : Nat) (q : Option Addr) (n c : Nat), a = .slice q n c ∧ v = .int .i64 (i : Nat) ∧ i ≤ m ∧ TS w wr q n c (unis gap (xss.take i)) ∧ Apart [] w1 wr) (fun _ v _ => m - (intOf v).toNat)
  case atStart => exact ⟨0, none, 0, 0, rfl, rfl, Nat.zero_le _, TS.nil _ _ HA1.out, Apart.refl _ _⟩
  case round =>
    obtain ⟨i, q, nq, cq, rfl, rfl, hi, hts, ha⟩ := hrel
    have HTS := hid hts
    have HAW := hid (HA1.out.trans ha)
    have HA := hid ha
    clear hts ha
    by_cases hlt : i < m
    · have hin : ((i : Nat) : Int) < (m : Int) := by omega
      have hX := HXX.out.kept0 HAW.out
      obtain ⟨P, o, hp, hP, hc⟩ := hX.rd (by rw [List.length_map, hX.len]; omega)
      have c0 := hc i (gS ss i).v (by rw [List.getElem?_map]; unfold gS; rw [List.getD_eq_getElem?_getD, List.getElem?_eq_getElem (by rw [hX.len]; exact hlt)]; rfl)
      have HLS := hid (hX.l i hlt)
      have HSN := hid (unis_snoc gap xss i (by rw [hX.lx]; exact hlt))
      have HOK : Hid (OkL gap (unis gap (xss.take i))) := unis_ok HG.out _
      unfold Sl.v at c0
      generalize gS ss i = s at *
      generalize xss.getD i [] = ys at *
      generalize unis gap (xss.take i) = acc at *
      subst hp
      have HPC : Hid (∀ X, Apart [] wr X → X.cell? ⟨P, o + i, none⟩ = some (.slice s.p s.n s.c)) := fun X a => (a.cell hP (by simp)).trans c0
      clear hX hc
      by_cases k2 : OkL gap ys
      · have hCk := rcheck_as (cap := s.c) (gap := gap) HLS.out 0 (by unfold chk; rw [if_pos HG.out, if_pos k2])
        go_wp2_with fail
        refine hCk.mono ?_
        clear hCk c0
        rintro _ w3 ⟨rfl, a3⟩
        have c1 := HPC.out _ a3
        have hU := runion_c (cap := cq) (cb := s.c) gap (HTS.out.kept0 a3).L (HLS.out.kept0 a3)
        have HA3 := hid a3
        clear a3
        dsimp only
        go_wp2_with fail
        refine hU.mono ?_
        clear hU c1
        rintro _ w4 hh
        obtain ⟨q1, n1, c1, e1, rfl, a4, hcase⟩ := hh.ex
        clear hh
        have HK : Hid (TS w w4 q1 n1 c1 (unis gap (xss.take (i + 1))) ∧ Apart [] w1 w4) := by
          refine ⟨?_, HA.out.trans (HA3.out.trans a4)⟩
          rw [HSN.out]
          rcases hcase with h | h
          · rw [knowG_of h.2.1]
            exact ⟨Own.from (HAW.out.trans HA3.out) h.2.2.1, h.2.2.2, uni_fit h.2.1⟩
          · exact absurd ⟨HG.out, HOK.out, k2⟩ h.2
        clear hcase a4
        dsimp only
        go_wp2_with fail
        go_roundw
        case rel => exact ⟨i + 1, q1, n1, c1, rfl, by go_num, by omega, HK.out.1, HK.out.2⟩
        case measure => simp [intOf]; omega
      · have hCk := rcheck_as (cap := s.c) (gap := gap) HLS.out 30 (by unfold chk; rw [if_pos HG.out, if_neg k2])
        go_wp2_with fail
        refine hCk.mono ?_
        clear hCk c0
        rintro _ w3 ⟨rfl, a3⟩
        have HK : Hid (TS w w3 q nq cq (unis gap (xss.take (i + 1))) ∧ Apart [] w1 w3) := by
          refine ⟨?_, HA.out.trans a3⟩
          rw [HSN.out, knowG_not (fun h => k2 h.2.2)]
          exact HTS.out.kept0 a3
        clear a3
        dsimp only
        go_wp2_with fail
        go_roundw
        case rel => exact ⟨i + 1, q, nq, cq, rfl, by go_num, by omega, HK.out.1, HK.out.2⟩
        case measure => simp [intOf]; omega
    · obtain rfl : m = i := by omega
      have HTS0 : Hid (TS w wr q nq cq T0) := by
        have := HTS.out
        rwa [List.take_of_length_le (by rw [HXX.out.lx]; omega), ← HT0.out] at this
      obtain ⟨w2, hw2⟩ : ∃ w2, w2 = wr := ⟨_, rfl⟩
      rw [← hw2] at HTS0 HAW HA
      have HO2 : Hid (OwnE w w2 ⟨sp, N, sc⟩ L2) := HO1.out.kept HA.out
      subst hw2
      clear HTS HA HO1 HA1
      go_wp2_with fail
      go_loopw [9, 11, 12] (fun a o v wr => ∃ (i : Nat) (q : Option Addr) (n c : Nat) (so : Sl), a = .slice q n c ∧ o = so.v ∧ v = .int .i64 (i : Nat) ∧ i ≤ N ∧ TS w wr q n c (tkT gap T0 (L2.map R) i) ∧ OwnE w2 wr so (tkE gap T0 (L2.map R) L2 i)) (fun _ _ v _ => N - (intOf v).toNat)
      case atStart => exact ⟨0, q, nq, cq, ⟨none, 0, 0⟩, rfl, rfl, rfl, Nat.zero_le _, HTS0.out, OwnE.nil _ _ (Apart.refl _ _)⟩
      case round =>
        obtain ⟨i, q, nq, cq, so, rfl, rfl, rfl, hi, hts, hso⟩ := hrel
        have HTS := hid hts
        have HSO := hid hso
        have HAR := hid (HAW.out.trans hso.nw.ap)
        clear hts hso HTS0
        by_cases hlt : i < N
        · have hin : ((i : Nat) : Int) < (N : Int) := by omega
          obtain ⟨P, o, hp, hP, hc⟩ := ((HO2.out.kept HSO.out.nw.ap).LE (by show N ≤ 2000000; omega)).at (by show 0 < N; omega)
          simp only at hp
          subst hp
          have hcX := hc i hlt
          have HRx : Hid (Reads wr (gE L2 i) (gR (L2.map R) i)) := (HRL.out.kept0 HAR.out).at i (by have : L2.length = N := HL3.out; omega)
          have hso2 : so.n ≤ 2000000 := by
            have h1 := HSO.out.len
            have h2 := tkE_len gap T0 (L2.map R) L2 i
            omega
          obtain ⟨x, Hx⟩ : ∃ x, Hid (x = gE L2 i) := ⟨_, rfl⟩
          obtain ⟨rx, Hrx⟩ : ∃ rx, Hid (rx = gR (L2.map R) i) := ⟨_, rfl⟩
          rw [← Hx.out] at hcX HRx
          rw [← Hrx.out] at HRx
          have hxn := HRx.out.n
          have hxc := HRx.out.c
          have HPC : Hid (∀ X, Apart [] wr X → X.cell? ⟨P, o + i * 6, none⟩ = some (.int .i64 x.n) ∧ X.cell? ⟨P, o + i * 6 + 1, none⟩ = some (.int .i64 x.c) ∧ X.cell? ⟨P, o + i * 6 + 2, none⟩ = some (.string x.k) ∧ X.cell? ⟨P, o + i * 6 + 3, none⟩ = some (.bool x.d) ∧ X.cell? ⟨P, o + i * 6 + 4, none⟩ = some (.slice x.v.p x.v.n x.v.c) ∧ X.cell? ⟨P, o + i * 6 + 5, none⟩ = some (.slice x.x.p x.x.n x.x.c)) := fun X a => by
            obtain ⟨k0, k1, k2, k3, k4, k5⟩ := hcX
            exact ⟨(a.cell hP (by simp)).trans k0, (a.cell hP (by simp)).trans k1, (a.cell hP (by simp)).trans k2, (a.cell hP (by simp)).trans k3, (a.cell hP (by simp)).trans k4, (a.cell hP (by simp)).trans k5⟩
          obtain ⟨TT, HTT⟩ : ∃ TT, Hid (TT = tkT gap T0 (L2.map R) i) := ⟨_, rfl⟩
          rw [← HTT.out] at HTS
          have hU := runion_c (cap := cq) (cb := x.x.c) gap HTS.out.L HRx.out.x
          obtain ⟨k0, k1, k2, k3, k4, k5⟩ := HPC.out wr (Apart.refl _ _)
          have HNO : Hid (∀ w5, Apart [] wr w5 → ¬ TkC gap TT rx → ∃ s6 w6, (Builtin.append_ #[35, 35] 35 #[.slice so.p so.n so.c, .slice (some ⟨w5.heap.size, 0, none⟩) 1 1]).run Tryz.prog (w5.alloc (Obj.cells #[Value.int IntKind.i64 x.n, Value.int IntKind.i64 x.c, Value.string x.k, Value.bool x.d, Value.slice x.v.p x.v.n x.v.c, Value.slice x.x.p x.x.n x.x.c] 28)) = .ok (Sl.v s6) w6 ∧ TS w w6 q nq cq (tkT gap T0 (L2.map R) (i + 1)) ∧ OwnE w2 w6 s6 (tkE gap T0 (L2.map R) L2 (i + 1))) := fun w5 a5 hnc => by
            rw [HTT.out, Hrx.out] at hnc
            obtain ⟨s6, w6, hrun, ho6, hn6, ap6⟩ := run_appE (HSO.out.kept a5) hso2 x 35
            refine ⟨s6, w6, hrun, ?_, ?_⟩
            · rw [tkT_no hnc, ← HTT.out]
              exact (HTS.out.kept0 a5).keptW (HSO.out.kept a5).nw ap6 (HAW.out.trans ho6.nw.ap)
            · rw [tkE_no hnc, ← Hx.out]
              exact ho6
          clear hc hcX
          unfold Sl.v
          go_wp2_with fail
          refine hU.mono ?_
          clear hU k0 k1 k2 k3 k4 k5
          rintro _ w3 hh
          obtain ⟨q3, n3, c3, e3, rfl, a3, hcase⟩ := hh.ex
          clear hh
          have HA3 := hid a3
          have HCS := hid hcase
          clear a3 hcase
          dsimp only
          by_cases he : e3 = 0
          · obtain ⟨hu, hown, hn8⟩ : UnC gap TT rx.xs ∧ Own wr w3 q3 n3 c3 (uni TT rx.xs) ∧ n3 ≤ 8 := by
              rcases HCS.out with h | h
              · exact h.2
              · exact absurd he h.1
            subst he
            have hAd := radd_c (cap := c3) gap rx.n rx.c (hown.L (by omega) (uni_fit hu))
            obtain ⟨k0, k1, _⟩ := HPC.out w3 HA3.out
            rw [hxn] at k0
            rw [hxc] at k1
            have HU := hid hu
            clear HCS hu hown hn8
            go_wp2_with fail
            refine hAd.mono ?_
            clear hAd k0 k1
            rintro _ w4 hh
            obtain ⟨q4, n4, c4, e4, rfl, a4, hcase⟩ := hh.ex
            clear hh
            have HA4 := hid (HA3.out.trans a4)
            have HCS := hid hcase
            clear a4 hcase
            dsimp only
            by_cases he2 : e4 = 0
            · have HK : Hid (TS w w4 q4 n4 c4 (tkT gap T0 (L2.map R) (i + 1)) ∧ OwnE w2 w4 so (tkE gap T0 (L2.map R) L2 (i + 1))) := by
                rcases HCS.out with h | h
                · have hc : TkC gap TT rx := ⟨HU.out, h.2.1⟩
                  rw [HTT.out, Hrx.out] at hc
                  rw [tkT_yes hc, tkE_yes hc, ← HTT.out, ← Hrx.out]
                  exact ⟨⟨Own.from (HAR.out.trans HA3.out) h.2.2.1, h.2.2.2, addl_fit h.2.1⟩, HSO.out.kept HA4.out⟩
                · exact absurd he2 h.1
              subst he2
              go_wp2_with fail
              go_roundw
              case rel => exact ⟨i + 1, q4, n4, c4, so, rfl, rfl, by go_num, by omega, HK.out.1, HK.out.2⟩
              case measure => simp [intOf]; omega
            · have hnc : ¬ TkC gap TT rx := by
                rcases HCS.out with h | h
                · exact absurd h.1 he2
                · exact fun k => h.2 k.2
              obtain ⟨s6, w6, hrun, hk1, hk2⟩ := HNO.out w4 HA4.out hnc
              have HK1 := hid hk1
              have HK2 := hid hk2
              obtain ⟨k0, k1, k2, k3, k4, k5⟩ := HPC.out w4 HA4.out
              unfold Sl.v at hrun
              have HRUN := hid hrun
              clear hrun hk1 hk2 hnc hxn hxc
              go_wp2_with (at_builtin; refine wpList_app2 rfl (.tmp 80) (.tmp 85) 35 35 rfl _ _ rfl rfl _ _ HRUN.out ?_)
              go_roundw
              case rel => exact ⟨i + 1, q, nq, cq, s6, rfl, rfl, by go_num, by omega, HK1.out, HK2.out⟩
              case measure => simp [intOf]; omega
          · have hnc : ¬ TkC gap TT rx := by
              rcases HCS.out with h | h
              · exact absurd h.1 he
              · exact fun k => h.2 k.1
            obtain ⟨s6, w6, hrun, hk1, hk2⟩ := HNO.out w3 HA3.out hnc
            have HK1 := hid hk1
            have HK2 := hid hk2
            obtain ⟨k0, k1, k2, k3, k4, k5⟩ := HPC.out w3 HA3.out
            unfold Sl.v at hrun
            have HRUN := hid hrun
            clear hrun hk1 hk2 hnc hxn hxc
            go_wp2_with (at_builtin; refine wpList_app2 rfl (.tmp 80) (.tmp 85) 35 35 rfl _ _ rfl rfl _ _ HRUN.out ?_)
            go_roundw
            case rel => exact ⟨i + 1, q, nq, cq, s6, rfl, rfl, by go_num, by omega, HK1.out, HK2.out⟩
            case measure => simp [intOf]; omega
        · obtain rfl : N = i := by omega
          have HLN : Hid (L2.length = N) := HL3.out
          have HM : Hid ((tkE gap T0 (L2.map R) L2 N).map R = tkO gap T0 (L2.map R) N) := tkE_map gap T0 R L2 N (by have := HLN.out; omega)
          have HSB : Hid (∀ e ∈ tkE gap T0 (L2.map R) L2 N, e ∈ L2) := tkE_sub gap T0 _ L2 N (by have := HLN.out; omega)
          have HF : Hid (RkPost w wr (.returned (.tuple #[.slice q nq cq, Sl.v so])) (tkT gap T0 (L2.map R) L2.length) (tkO gap T0 (L2.map R) L2.length)) := by
            rw [HLN.out]
            exact RkPost.mk' (ls := []) (R := R) HTS.out (HSO.out.from HAW.out) HM.out ((HRL.out.sub HSB.out).kept0 HAR.out)
          unfold Sl.v at HF ⊢
          go_wp2_with fail
          go_ret2
          exact HF.out
end Go.Proofs.YtokaeiahhmaokaaGreatDoor.ds
namespace Go.Proofs.YtokaeiahhmaokaaGreatDoor.ds
open Go.ChangeShapes Go.WideShapes Go.ChangeAt Go.RowKit Go.Sort
set_option linter.unusedVariables false
set_option linter.unusedSimpArgs false
set_option maxHeartbeats 4000000 in
set_option maxRecDepth 100000 in
theorem sameSpans_yes {p q : Option Addr} {N cap cb : Nat} {xs : List S} {w : World} (h : L w p N xs) (h2 : L w q N xs) : Calls Tryz.prog 19 #[.slice p N cap, .slice q N cb] w fun r w' => r = .returned (.bool true) ∧ Apart [] w w' := by
  have hlim := h.lim
  have HX := hid h
  have HX2 := hid h2
  have HN := hid h.len
  clear h h2
  go_enter Tryz.func19, Tryz.ntmps19
  go_wp2_with fail
  go_loopw [5] (fun v wr => ∃ j : Nat, v = .int .i64 (j : Nat) ∧ j ≤ N ∧ Apart [] w wr) (fun v _ => N - (intOf v).toNat)
  case atStart => exact ⟨0, rfl, Nat.zero_le _, Apart.refl _ _⟩
  case round =>
    obtain ⟨j, rfl, hj, ap1⟩ := hrel
    have HA := hid ap1
    clear ap1
    by_cases hlt : j < N
    · obtain ⟨P, o, rfl, hP, hc⟩ := (HX.out.kept0 HA.out).sp (by rw [HN.out]; omega)
      obtain ⟨P2, o2, rfl, hP2, hc2⟩ := (HX2.out.kept0 HA.out).sp (by rw [HN.out]; omega)
      obtain ⟨c0, c1, c2⟩ := hc j (by rw [HN.out]; exact hlt)
      obtain ⟨d0, d1, d2⟩ := hc2 j (by rw [HN.out]; exact hlt)
      have hn38 := fun W => neq38 W (g xs j).n (g xs j).b ((g xs j).t : Int)
      clear hc hc2
      go_wp2_with fail
      go_quiet (fail)
      go_wp2
      go_roundw
      case rel => exact ⟨j + 1, by go_num, by omega, HA.out.drewN _⟩
      case measure => simp [intOf]; omega
    · obtain rfl : j = N := by omega
      go_wp2
      go_ret
      exact ⟨rfl, HA.out⟩
/-- both Tokens, as the writes read -/
theorem token_R (w : World) (T : Tab w) (p : Option Addr) (n cc : Nat) (F : Nat → Sl × List E × List Wr) (h : Sets w p n F) (hI : ∀ i, i < n → In w (F i).1 (F i).2.1 (F i).2.2) (hn : n ≤ 1048576) (hT : totL F n ≤ 1048576) (bp : Option Addr) (m bc : Nat) (ss : List Sl) (xss : List (List S)) (hX : LX w bp m ss xss) (hm : m ≤ 1048576) (gap : Int) :
    Calls Tryz.prog 18 #[.slice p n cc, .slice bp m bc, .int .i64 gap] w fun r w' => TkPost w w' r (tokT gap xss (catR F n)) (tokO gap xss (catR F n)) := by
  obtain ⟨h1, h2, h3⟩ := catL_reads n hI
  have := token_ok w T p n cc F h hn hT (Rof w) h1 h3 bp m bc ss xss hX hm gap
  rw [h2] at this
  exact this
theorem rtoken_R (w : World) (p : Option Addr) (n cc : Nat) (F : Nat → Sl × List E × List Wr) (h : Sets w p n F) (hI : ∀ i, i < n → In w (F i).1 (F i).2.1 (F i).2.2) (hn : n ≤ 1048576) (hT : totL F n ≤ 1048576) (bp : Option Addr) (m bc : Nat) (ss : List Sl) (xss : List (List S)) (hX : LX w bp m ss xss) (hm : m ≤ 1048576) (gap : Int) :
    Calls Tryz.prog 20 #[.slice p n cc, .slice bp m bc, .int .i64 gap] w fun r w' => RkPost w w' r (tokT gap xss (catR F n)) (tokO gap xss (catR F n)) := by
  obtain ⟨h1, h2, h3⟩ := catL_reads n hI
  have := rtoken_ok w p n cc F h hn hT (Rof w) h1 (fun i hi => (catL_reads i (fun k hk => hI k (by omega))).2.2) bp m bc ss xss hX hm gap
  rw [h2] at this
  exact this
theorem tokO_len (gap : Int) (bs : List (List S)) (rs : List Wr) : (tokO gap bs rs).length ≤ rs.length := by
  have h1 := tkO_len gap (unis gap bs) (eachW rs) (eachW rs).length
  have h2 := eachW_lenA rs []
  unfold tokO
  unfold eachW at *
  rw [List.length_nil, Nat.zero_add] at h2
  omega
theorem tokO_lenF {w : World} {F : Nat → Sl × List E × List Wr} {n : Nat} (gap : Int) (bs : List (List S)) (hI : ∀ i, i < n → In w (F i).1 (F i).2.1 (F i).2.2) (hT : totL F n ≤ 1048576) : (tokO gap bs (catR F n)).length ≤ 1048576 := by
  obtain ⟨h1, h2, h3⟩ := catL_reads n hI
  have := tokO_len gap bs (catR F n)
  rw [← h2, List.length_map] at this
  rw [← h2]
  omega
theorem TS.fr {w wr wx : World} {q : Option Addr} {n c : Nat} {T : List S} (h : TS w wr q n c T) {lo hi : Nat} (f : Fr lo hi wr wx) (hh : hi ≤ w.heap.size) : ds.L wx q n T := by
  have ho := own_fr h.own.own f (fun k hk => .inr (Nat.le_trans hh (h.own.new k hk)))
  exact ⟨Sp.own ho h.own.len, h.own.len.symm, by have := h.n8; omega, h.fit⟩
theorem mark_cells {wr : World} {g c n : Nat} {xs : List S} (h : wr.ownsRow 0 47 3 (.slice (some ⟨g, 0, none⟩) (n + 2) c) (n + 2) (flat (xs ++ spM))) (hl : xs.length = n) : wr.cell? ⟨g, n * 3, none⟩ = some (.int .i64 77) ∧ wr.cell? ⟨g, (n + 1) * 3, none⟩ = some (.int .i64 78) := by
  have hfl := flat_length xs
  rw [flat_append] at h
  refine ⟨(h.cellAt _ (by omega)).trans ?_, (h.cellAt _ (by omega)).trans ?_⟩
  · rw [List.getElem?_append_right (by omega), hfl, hl, Nat.sub_self]; rfl
  · rw [List.getElem?_append_right (by omega), hfl, hl, show (n + 1) * 3 - n * 3 = 3 from by omega]; rfl
end Go.Proofs.YtokaeiahhmaokaaGreatDoor.ds
