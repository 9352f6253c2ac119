import Derived.Deep.RegionHeld
import Derived.OrdersHeld
import Derived.WalkKit
import Derived.ProofKit
import Derived.Lib.TrailingZeros
import Derived.Test.YtllhmidpphlbhaaChecked
import Derived.OpenShut
import Derived.Deep.QuietTactic
import Derived.BigQuiet
import Derived.BigRegion
import Derived.Laws.CopyOwn
import Derived.Laws.Bits64b
import Derived.Laws.MathBits
import Derived.Laws.ShiftsVarLaws
import Derived.WalkSmall
import Derived.Laws.ResultCell
import Derived.Lib.BitFns
import Derived.Laws.StructEq
import Derived.ArgAppend
import Derived.Deep.RegionLaw
import Derived.Deep.DeepAppendRoom
import Derived.Sort.WalkA
import Derived.Laws.Strings
import Derived.Deep.CutBlock
import Derived.Great.BuildSlice
import Derived.Laws.AppendOwnNone
import Derived.Lib.Overlaps
import Derived.Lib.AppendZerosOnto
import Derived.Laws.NewBlocks
import Derived.Laws.Externs
import Derived.Laws.IdiomCopy
import Derived.Laws.BytesString
import Derived.Deep.CutRange
import Derived.RangeFuncNested
import Derived.RangeFuncBound
import Derived.RangeFuncCalls
import Derived.RangeFuncLeaves
import Derived.Shelf.Abstract
import Derived.Shelf.RegionOpen
import Derived.OwnWalkIn
import Derived.TacticsInMore
import Derived.LoopNIn
import Derived.LoopIn
import GoSem.Claim
import GoSem.ClaimJoined
import GoSem.ClaimMapViews
import Derived.JoinedTies
import Derived.KernelRfl
import Derived.Deep.OwnRows
import Derived.Lib.LaidTab
import Derived.JoinedCond
import Derived.ShutString
import Derived.ChangeOld
import Derived.Below
import Derived.Carry
import Derived.ChangeSlices
import Derived.Deep.Slices
import Derived.Deep.DeepHandedRow
import Derived.RowKit
import Derived.ChangeShapes
import Derived.SizedLaws
import Derived.ChangeMaps5
import Derived.Lib.Walk
import Derived.Lib.SliceRun
import Derived.Lib.AppendStr
import Derived.Lib.ConvBytes
import Derived.Deep.RegionHeld3
import Derived.Deep.MidRow
import Derived.Laws.MakeOwn
import Derived.Lib.SlBytesConst
import Derived.Test.YtllhmidpphlbhaaRows
import Derived.Test.YtllhmidpphlbhaaF51
namespace Go.Proofs.Ytllhmidpphlbhaa.ds
open Go.ChangeShapes Go.WideShapes Go.ChangeAt Go.RowKit Go.Sort
set_option linter.unusedVariables false
set_option linter.unusedSimpArgs false
set_option maxHeartbeats 16000000 in
set_option maxRecDepth 1000000 in
theorem blk8 {w : World} {T : Nat} {K : List Nat} {gl : List Gh} {wl : List Ct} {sl su : Sl} {W : World} (HF : Hid (Lf w W K T gl)) (HW : Hid (Ww w W gl wl)) (HN : Hid (Nw w W 25 5 sl (flatT (gl.map Gh.c)))) (HM : Hid (Nw w W 25 5 su (flatT wl))) (hg : gl.length ≤ 16) {sl0 sl1 sl2 sl3 sl4 sl7 sl8 sl9 sl10 sl11 sl12 sl13 sl14 sl15 sl16 sl17 sl18 sl19 sl20 sl21 sl22 sl23 sl24 sl25 sl26 sl27 sl28 sl30 sl31 sl32 sl33 sl34 sl35 sl36 sl37 sl38 sl39 sl40 sl41 sl42 sl43 sl44 sl45 sl46 sl47 sl48 sl49 sl50 sl51 sl52 sl53 sl54 sl55 sl56 sl57 sl58 sl59 sl60 sl61 sl62 sl63 sl64 sl65 sl66 sl67 sl68 sl69 sl70 sl71 sl72 sl73 sl74 sl75 sl76 sl77 sl78 sl79 sl80 sl81 sl82 sl83 sl84 sl85 sl86 sl87 sl88 sl89 sl90 sl91 sl92 sl93 sl94 sl95 sl96 sl97 sl98 sl99 sl100 sl101 sl102 sl103 sl104 sl105 sl106 sl107 sl108 sl109 sl110 sl111 sl112 sl113 sl114 sl115 sl116 sl117 sl118 sl119 sl120 sl121 sl122 sl123 sl124 sl125 sl126 sl127 sl128 sl129 sl130 sl131 sl132 sl133 sl134 sl135 sl136 sl137 sl138 sl139 sl140 sl141 sl142 sl143 sl144 sl145 sl146 sl147 sl148 sl149 sl150 sl151 sl152 sl153 sl154 sl155 sl156 sl157 sl158 sl159 sl160 sl161 sl162 sl163 sl164 sl165 sl166 sl167 sl168 sl169 sl170 sl171 sl172 sl173 sl174 sl175 sl176 sl177 sl178 sl179 sl180 sl181 sl182 sl183 sl184 sl185 sl186 sl187 sl188 sl189 sl190 sl191 sl192 sl193 sl194 sl195 sl196 sl197 sl198 sl199 sl200 sl201 sl202 sl203 sl204 sl205 sl206 sl207 sl208 sl209 sl210 sl211 sl212 sl213 sl214 sl215 sl216 sl217 sl218 sl219 sl220 sl221 sl222 sl223 sl224 sl225 sl226 sl227 sl228 sl229 sl230 sl231 sl232 sl233 sl234 sl235 sl236 sl237 sl238 sl239 sl240 sl241 sl242 sl243 sl244 sl245 sl246 sl247 sl248 sl249 sl250 sl251 sl252 sl253 sl254 sl255 sl256 sl257 sl258 sl259 sl260 sl261 sl262 sl263 sl264 sl265 sl266 sl267 sl268 sl269 sl270 sl271 sl272 sl273 sl274 sl275 sl276 sl277 sl278 sl279 sl280 sl281 sl282 sl283 sl284 sl285 sl286 sl287 sl288 sl289 sl290 sl291 sl292 sl293 sl294 sl295 sl296 sl297 sl298 sl299 sl300 sl301 sl302 sl303 sl304 sl305 sl306 sl307 sl308 sl309 sl310 sl311 sl312 sl313 sl314 sl315 sl316 sl317 sl318 sl319 sl320 sl321 sl322 : Value} {K' : Act → World → Prop} {Q' : Exit → Act → World → Prop} (hQ : ∀ x (a : Act) (d : Nat) v (w : World), Q' (.panic x) (a.put (some d) v) w → Q' (.panic x) a w) (hK : ∀ (W' : World) (nt2 nt29 nt246 nt247 nt248 nt249 nt250 nt251 nt252 nt253 nt254 nt255 nt256 nt257 nt258 nt259 nt260 nt261 : Value), Apart [] W W' → K' ⟨#[sl0, sl1, nt2, sl3, sl4, (.slice sl.p sl.n sl.c), (.slice su.p su.n su.c), sl7, sl8, sl9, sl10, sl11, sl12, sl13, sl14, sl15, sl16, sl17, sl18, sl19, sl20, sl21, sl22, sl23, sl24, sl25, sl26, sl27, sl28, nt29, sl30, sl31, sl32, sl33, sl34, sl35, sl36, sl37, sl38, sl39, sl40, sl41, sl42, sl43, sl44, sl45, sl46, sl47, sl48, sl49, sl50, sl51, sl52, sl53, sl54, sl55, sl56, sl57, sl58, sl59, sl60, sl61, sl62, sl63, sl64, sl65, sl66, sl67, sl68, sl69, sl70, sl71, sl72, sl73, sl74, sl75, sl76, sl77, sl78, sl79, sl80, sl81, sl82, sl83, sl84, sl85, sl86, sl87, sl88, sl89, sl90, sl91, sl92, sl93, sl94, sl95, sl96, sl97, sl98, sl99, sl100, sl101, sl102, sl103, sl104, sl105, sl106, sl107, sl108, sl109, sl110, sl111, sl112, sl113, sl114, sl115, sl116, sl117, sl118, sl119, sl120, sl121, sl122, sl123, sl124, sl125, sl126, sl127, sl128, sl129, sl130, sl131, sl132, sl133, sl134, sl135, sl136, sl137, sl138, sl139, sl140, sl141, sl142, sl143, sl144, sl145, sl146, sl147, sl148, sl149, sl150, sl151, sl152, sl153, sl154, sl155, sl156, sl157, sl158, sl159, sl160, sl161, sl162, sl163, sl164, sl165, sl166, sl167, sl168, sl169, sl170, sl171, sl172, sl173, sl174, sl175, sl176, sl177, sl178, sl179, sl180, sl181, sl182, sl183, sl184, sl185, sl186, sl187, sl188, sl189, sl190, sl191, sl192, sl193, sl194, sl195, sl196, sl197, sl198, sl199, sl200, sl201, sl202, sl203, sl204, sl205, sl206, sl207, sl208, sl209, sl210, sl211, sl212, sl213, sl214, sl215, sl216, sl217, sl218, sl219, sl220, sl221, sl222, sl223, sl224, sl225, sl226, sl227, sl228, sl229, sl230, sl231, sl232, sl233, sl234, sl235, sl236, sl237, sl238, sl239, sl240, sl241, sl242, sl243, sl244, sl245, nt246, nt247, nt248, nt249, nt250, nt251, nt252, nt253, nt254, nt255, nt256, nt257, nt258, nt259, nt260, nt261, sl262, sl263, sl264, sl265, sl266, sl267, sl268, sl269, sl270, sl271, sl272, sl273, sl274, sl275, sl276, sl277, sl278, sl279, sl280, sl281, sl282, sl283, sl284, sl285, sl286, sl287, sl288, sl289, sl290, sl291, sl292, sl293, sl294, sl295, sl296, sl297, sl298, sl299, sl300, sl301, sl302, sl303, sl304, sl305, sl306, sl307, sl308, sl309, sl310, sl311, sl312, sl313, sl314, sl315, sl316, sl317, sl318, sl319, sl320, sl321, sl322], []⟩ W') :
    Code.wp Try.prog (lopC 8) (Exit.inBlock 8 (Exit.then K' Q')) ⟨#[sl0, sl1, sl2, sl3, sl4, (.slice sl.p sl.n sl.c), (.slice su.p su.n su.c), sl7, sl8, sl9, sl10, sl11, sl12, sl13, sl14, sl15, sl16, sl17, sl18, sl19, sl20, sl21, sl22, sl23, sl24, sl25, sl26, sl27, sl28, (.int .i64 0), sl30, sl31, sl32, sl33, sl34, sl35, sl36, sl37, sl38, sl39, sl40, sl41, sl42, sl43, sl44, sl45, sl46, sl47, sl48, sl49, sl50, sl51, sl52, sl53, sl54, sl55, sl56, sl57, sl58, sl59, sl60, sl61, sl62, sl63, sl64, sl65, sl66, sl67, sl68, sl69, sl70, sl71, sl72, sl73, sl74, sl75, sl76, sl77, sl78, sl79, sl80, sl81, sl82, sl83, sl84, sl85, sl86, sl87, sl88, sl89, sl90, sl91, sl92, sl93, sl94, sl95, sl96, sl97, sl98, sl99, sl100, sl101, sl102, sl103, sl104, sl105, sl106, sl107, sl108, sl109, sl110, sl111, sl112, sl113, sl114, sl115, sl116, sl117, sl118, sl119, sl120, sl121, sl122, sl123, sl124, sl125, sl126, sl127, sl128, sl129, sl130, sl131, sl132, sl133, sl134, sl135, sl136, sl137, sl138, sl139, sl140, sl141, sl142, sl143, sl144, sl145, sl146, sl147, sl148, sl149, sl150, sl151, sl152, sl153, sl154, sl155, sl156, sl157, sl158, sl159, sl160, sl161, sl162, sl163, sl164, sl165, sl166, sl167, sl168, sl169, sl170, sl171, sl172, sl173, sl174, sl175, sl176, sl177, sl178, sl179, sl180, sl181, sl182, sl183, sl184, sl185, sl186, sl187, sl188, sl189, sl190, sl191, sl192, sl193, sl194, sl195, sl196, sl197, sl198, sl199, sl200, sl201, sl202, sl203, sl204, sl205, sl206, sl207, sl208, sl209, sl210, sl211, sl212, sl213, sl214, sl215, sl216, sl217, sl218, sl219, sl220, sl221, sl222, sl223, sl224, sl225, sl226, sl227, sl228, sl229, sl230, sl231, sl232, sl233, sl234, sl235, sl236, sl237, sl238, sl239, sl240, sl241, sl242, sl243, sl244, sl245, sl246, sl247, sl248, sl249, sl250, sl251, sl252, sl253, sl254, sl255, sl256, sl257, sl258, sl259, sl260, sl261, sl262, sl263, sl264, sl265, sl266, sl267, sl268, sl269, sl270, sl271, sl272, sl273, sl274, sl275, sl276, sl277, sl278, sl279, sl280, sl281, sl282, sl283, sl284, sl285, sl286, sl287, sl288, sl289, sl290, sl291, sl292, sl293, sl294, sl295, sl296, sl297, sl298, sl299, sl300, sl301, sl302, sl303, sl304, sl305, sl306, sl307, sl308, sl309, sl310, sl311, sl312, sl313, sl314, sl315, sl316, sl317, sl318, sl319, sl320, sl321, sl322], []⟩ W := by
  have HKK := hid hK
  clear hK
  conv => arg 2; whnf
  dsimp only
  have HLN : Hid (sl.n = gl.length) := by unfold Hid; have := HN.out.own.1; rw [flatT_len, List.length_map] at this; omega
  have HLM : Hid (su.n = gl.length) := by unfold Hid; have := HM.out.own.1; rw [flatT_len, HW.out.len] at this; omega
  go_loopw [29] (fun a wt => ∃ i : Nat, a = .int .i64 (i : Nat) ∧ i ≤ gl.length ∧ Apart [] W wt) (fun a _ => gl.length - (intOf a).toNat)
  case atStart => exact ⟨0, rfl, Nat.zero_le _, Apart.refl _ _⟩
  case round =>
    obtain ⟨i, rfl, hile, hap⟩ := hrel
    have HAP := hid hap
    clear hap
    by_cases hlt : i < gl.length
    · have hlti : ((i : Nat) : Int) < (sl.n : Int) := by have := HLN.out; omega
      have hltu : ((i : Nat) : Int) < (su.n : Int) := by have := HLM.out; omega
      have hi1 : i < (gl.map Gh.c).length := by rw [List.length_map]; exact hlt
      have hi2 : i < wl.length := by rw [HW.out.len]; exact hlt
      obtain ⟨P, o, hP, -⟩ := rt_at HN.out.rd hi1
      obtain ⟨Q, q, hQ, -⟩ := rt_at HM.out.rd hi2
      obtain ⟨c, HC⟩ : ∃ c, Hid ((gG gl i).c = c) := ⟨_, rfl⟩
      obtain ⟨d, HD⟩ : ∃ d, Hid (gT wl i = d) := ⟨_, rfl⟩
      have HCL : Hid (∀ X, Apart [] W X → (X.cell? ⟨P, o + i * 5, none⟩ = some (.int .i64 c.kd) ∧ X.cell? ⟨P, o + i * 5 + 1, none⟩ = some (.int .i64 c.gn) ∧ X.cell? ⟨P, o + i * 5 + 2, none⟩ = some (.int .i64 c.ow) ∧ X.cell? ⟨P, o + i * 5 + 3, none⟩ = some (.slice c.s.p c.s.n c.s.c) ∧ X.cell? ⟨P, o + i * 5 + 4, none⟩ = some (.slice c.t.p c.t.n c.t.c)) ∧ X.cell? ⟨Q, q + i * 5, none⟩ = some (.int .i64 d.kd) ∧ X.cell? ⟨Q, q + i * 5 + 1, none⟩ = some (.int .i64 d.gn) ∧ X.cell? ⟨Q, q + i * 5 + 2, none⟩ = some (.int .i64 d.ow) ∧ X.cell? ⟨Q, q + i * 5 + 3, none⟩ = some (.slice d.s.p d.s.n d.s.c) ∧ X.cell? ⟨Q, q + i * 5 + 4, none⟩ = some (.slice d.t.p d.t.n d.t.c)) := fun X a => by
        obtain ⟨P', o', hP', -, c0, c1, c2, c3, c4⟩ := rt_at (HN.out.kept a).rd hi1
        obtain ⟨Q', q', hQ', -, e0, e1, e2, e3, e4⟩ := rt_at (HM.out.kept a).rd hi2
        rw [hP] at hP'
        rw [hQ] at hQ'
        simp only [Option.some.injEq, Addr.mk.injEq, and_true] at hP' hQ'
        obtain ⟨rfl, rfl⟩ := hP'
        obtain ⟨rfl, rfl⟩ := hQ'
        rw [gT_map hlt, HC.out] at c0 c1 c2 c3 c4
        rw [HD.out] at e0 e1 e2 e3 e4
        exact ⟨⟨c0, c1, c2, c3, c4⟩, e0, e1, e2, e3, e4⟩
      have HCA : Hid (∀ X, Apart [] W X → Calls Try.prog 34 #[.agg c.cs, .agg d.cs] X fun r w' => r = .returned (.bool true) ∧ Apart [] X w') := fun X a => by
        have := Ww.alike (HF.out.kept0 a (HN.out.ap.trans a)) (HW.out.kept0 a) (HN.out.ap.trans a) hlt
        rwa [HC.out, HD.out] at this
      rw [hP, hQ]
      have HP := hid hP
      have HQ' := hid hQ
      clear hP hQ hi1 hi2 HC HD
      go_upto_region 55 with fail
      have hAd : Apart [] W wr.drew := HAP.out.drew
      refine wp_region_held_drew (S := fun X => Apart [] W X) (by kernel_rfl) hAd (fun hHeld => ?_)
      generalize wr.drew = wd at *
      refine tk 0 252 (.slice (some ⟨P, o, none⟩) sl.n sl.c) rfl ?_ ?_ (hQ := fun _ _ _ h => hQ _ _ _ _ _ h)
      · intro W hSW; go_simp
      simp only [Act.put, List.setIfInBounds_toArray, List.set_cons_zero, List.set_cons_succ]
      refine tk 1 253 (.int .i64 (i : Nat)) rfl ?_ ?_ (hQ := fun _ _ _ h => hQ _ _ _ _ _ h)
      · intro W hSW; go_simp
      simp only [Act.put, List.setIfInBounds_toArray, List.set_cons_zero, List.set_cons_succ]
      refine tk 2 254 (.pointer (some ⟨P, o + i * 5, none⟩)) rfl ?_ ?_ (hQ := fun _ _ _ h => hQ _ _ _ _ _ h)
      · intro W hSW; go_simp
      simp only [Act.put, List.setIfInBounds_toArray, List.set_cons_zero, List.set_cons_succ]
      refine tk 3 255 (.agg #[.int .i64 c.kd, .int .i64 c.gn, .int .i64 c.ow, .slice c.s.p c.s.n c.s.c, .slice c.t.p c.t.n c.t.c]) rfl ?_ ?_ (hQ := fun _ _ _ h => hQ _ _ _ _ _ h)
      · intro W hSW; obtain ⟨⟨c0, c1, c2, c3, c4⟩, e0, e1, e2, e3, e4⟩ := HCL.out W hSW; go_simp
      simp only [Act.put, List.setIfInBounds_toArray, List.set_cons_zero, List.set_cons_succ]
      refine tk 4 256 (.slice (some ⟨Q, q, none⟩) su.n su.c) rfl ?_ ?_ (hQ := fun _ _ _ h => hQ _ _ _ _ _ h)
      · intro W hSW; go_simp
      simp only [Act.put, List.setIfInBounds_toArray, List.set_cons_zero, List.set_cons_succ]
      refine tk 5 257 (.int .i64 (i : Nat)) rfl ?_ ?_ (hQ := fun _ _ _ h => hQ _ _ _ _ _ h)
      · intro W hSW; go_simp
      simp only [Act.put, List.setIfInBounds_toArray, List.set_cons_zero, List.set_cons_succ]
      refine tk 6 258 (.pointer (some ⟨Q, q + i * 5, none⟩)) rfl ?_ ?_ (hQ := fun _ _ _ h => hQ _ _ _ _ _ h)
      · intro W hSW; go_simp
      simp only [Act.put, List.setIfInBounds_toArray, List.set_cons_zero, List.set_cons_succ]
      refine tk 7 259 (.agg #[.int .i64 d.kd, .int .i64 d.gn, .int .i64 d.ow, .slice d.s.p d.s.n d.s.c, .slice d.t.p d.t.n d.t.c]) rfl ?_ ?_ (hQ := fun _ _ _ h => hQ _ _ _ _ _ h)
      · intro W hSW; obtain ⟨⟨c0, c1, c2, c3, c4⟩, e0, e1, e2, e3, e4⟩ := HCL.out W hSW; go_simp
      simp only [Act.put, List.setIfInBounds_toArray, List.set_cons_zero, List.set_cons_succ]
      refine wpAnyH_ready (rs := [8]) (by kernel_rfl) (by simp) ?_
      refine AllReadyH.cons rfl (fun KK hKK => ?_) AllReadyH.nil
      go_simp
      refine (HCA.out _ hHeld).mono ?_
      rintro _ wa ⟨rfl, ha⟩
      have hSa := hHeld.trans ha
      have HSa := hid hSa
      clear ha
      try dsimp only
      refine hKK.out _ _ hSa (fun hHeld => ?_)
      clear hKK KK
      try simp only [Act.put, List.setIfInBounds_toArray, List.set_cons_zero, List.set_cons_succ]
      refine tk 9 261 (.bool false) rfl ?_ ?_ (hQ := fun _ _ _ h => hQ _ _ _ _ _ h)
      · intro W hSW; go_simp
      simp only [Act.put, List.setIfInBounds_toArray, List.set_cons_zero, List.set_cons_succ]
      refine wpAnyH_done (by kernel_rfl) ?_ _
      clear hHeld hSa hAd
      go_wp2_with fail
      go_roundw
      case rel => exact ⟨i + 1, by go_num, by omega, HSa.out⟩
      case measure => simp [intOf]; omega
    · have hlti : ¬ ((i : Nat) : Int) < (sl.n : Int) := by have := HLN.out; omega
      go_wp2_with fail
      exact HKK.out _ _ _ _ _ _ _ _ _ _ _ _ _ _ _ _ _ _ _ HAP.out
end Go.Proofs.Ytllhmidpphlbhaa.ds
