import Derived.Deep.RegionHeld
import Derived.OrdersHeld
import Derived.WalkKit
import Derived.ProofKit
import Derived.Lib.TrailingZeros
import Derived.Test.YtllhmidpphlbhaaChecked
import Derived.OpenShut
import Derived.Deep.QuietTactic
import Derived.BigQuiet
import Derived.BigRegion
import Derived.Laws.CopyOwn
import Derived.Laws.Bits64b
import Derived.Laws.MathBits
import Derived.Laws.ShiftsVarLaws
import Derived.WalkSmall
import Derived.Laws.ResultCell
import Derived.Lib.BitFns
import Derived.Laws.StructEq
import Derived.ArgAppend
import Derived.Deep.RegionLaw
import Derived.Deep.DeepAppendRoom
import Derived.Sort.WalkA
import Derived.Laws.Strings
import Derived.Deep.CutBlock
import Derived.Great.BuildSlice
import Derived.Laws.AppendOwnNone
import Derived.Lib.Overlaps
import Derived.Lib.AppendZerosOnto
import Derived.Laws.NewBlocks
import Derived.Laws.Externs
import Derived.Laws.IdiomCopy
import Derived.Laws.BytesString
import Derived.Deep.CutRange
import Derived.RangeFuncNested
import Derived.RangeFuncBound
import Derived.RangeFuncCalls
import Derived.RangeFuncLeaves
import Derived.Shelf.Abstract
import Derived.Shelf.RegionOpen
import Derived.OwnWalkIn
import Derived.TacticsInMore
import Derived.LoopNIn
import Derived.LoopIn
import GoSem.Claim
import GoSem.ClaimJoined
import GoSem.ClaimMapViews
import Derived.JoinedTies
import Derived.KernelRfl
import Derived.Deep.OwnRows
import Derived.Lib.LaidTab
import Derived.JoinedCond
import Derived.ShutString
import Derived.ChangeOld
import Derived.Below
import Derived.Carry
import Derived.ChangeSlices
import Derived.Deep.Slices
import Derived.Deep.DeepHandedRow
import Derived.RowKit
import Derived.ChangeShapes
import Derived.SizedLaws
import Derived.ChangeMaps5
import Derived.Lib.Walk
import Derived.Lib.SliceRun
import Derived.Lib.AppendStr
import Derived.Lib.ConvBytes
import Derived.Deep.RegionHeld3
import Derived.Deep.MidRow
import Derived.Laws.MakeOwn
import Derived.Lib.SlBytesConst
import Derived.Test.YtllhmidpphlbhaaRows
import Derived.Test.YtllhmidpphlbhaaF51
namespace Go.Proofs.Ytllhmidpphlbhaa.ds
open Go.ChangeShapes Go.WideShapes Go.ChangeAt Go.RowKit Go.Sort
set_option linter.unusedVariables false
set_option linter.unusedSimpArgs false
set_option maxHeartbeats 16000000 in
set_option maxRecDepth 1000000 in
theorem blk12 {w : World} {H m lo hi : Nat} {K : List Nat} {c : Ct} {es : List E} {ks : List Ck} {rs : List Wr} {cs : List (Int × List S)} {W : World} {sl : Sl} {l : List Ct} {i : Nat} (HS : Hid (Sh w W H K m)) (HL : Hid (LP w W K c es ks rs cs 0 0 0 lo hi)) (HN : Hid (Nw w W 25 5 sl (flatT l))) (hil : i < l.length) (hgc : gT l i = c) (hm : m ≤ 4000) {sl0 sl1 sl2 sl3 sl6 sl7 sl8 sl9 sl10 sl11 sl12 sl13 sl14 sl15 sl16 sl17 sl18 sl19 sl20 sl21 sl22 sl23 sl24 sl25 sl26 sl27 sl28 sl29 sl32 sl33 sl34 sl35 sl36 sl37 sl38 sl39 sl40 sl41 sl42 sl43 sl44 sl45 sl46 sl47 sl48 sl49 sl50 sl51 sl52 sl53 sl54 sl55 sl56 sl57 sl58 sl59 sl60 sl61 sl62 sl63 sl64 sl65 sl66 sl67 sl68 sl69 sl70 sl71 sl72 sl73 sl74 sl75 sl76 sl77 sl78 sl79 sl80 sl81 sl82 sl83 sl84 sl85 sl86 sl87 sl88 sl89 sl90 sl91 sl92 sl93 sl94 sl95 sl96 sl97 sl98 sl99 sl100 sl101 sl102 sl103 sl104 sl105 sl106 sl107 sl108 sl109 sl110 sl111 sl112 sl113 sl114 sl115 sl116 sl117 sl118 sl119 sl120 sl121 sl122 sl123 sl124 sl125 sl126 sl127 sl128 sl129 sl130 sl131 sl132 sl133 sl134 sl135 sl136 sl137 sl138 sl139 sl140 sl141 sl142 sl143 sl144 sl145 sl146 sl147 sl148 sl149 sl150 sl151 sl152 sl153 sl154 sl155 sl156 sl157 sl158 sl159 sl160 sl161 sl162 sl163 sl164 sl165 sl166 sl167 sl168 sl169 sl170 sl171 sl172 sl173 sl174 sl175 sl176 sl177 sl178 sl179 sl180 sl181 sl182 sl183 sl184 sl185 sl186 sl187 sl188 sl189 sl190 sl191 sl192 sl193 sl194 sl195 sl196 sl197 sl198 sl199 sl200 sl201 sl202 sl203 sl204 sl205 sl206 sl207 sl208 sl209 sl210 sl211 sl212 sl213 sl214 sl215 sl216 sl217 sl218 sl219 sl220 sl221 sl222 sl223 sl224 sl225 sl226 sl227 sl228 sl229 sl230 sl231 sl232 sl233 sl234 sl235 sl236 sl237 sl238 sl239 sl240 sl241 sl242 sl243 sl244 sl245 sl246 sl247 sl248 sl249 sl250 sl251 sl252 sl253 sl254 sl255 sl256 sl257 sl258 sl259 sl260 sl261 sl262 sl263 sl264 sl265 sl266 sl267 sl268 sl269 sl270 sl271 sl272 sl273 sl274 sl275 sl276 sl277 sl278 sl279 sl280 sl281 sl282 sl283 sl284 sl285 sl286 sl287 sl288 sl289 sl290 sl291 sl292 sl293 sl294 sl295 sl296 sl297 sl298 sl299 sl300 sl301 sl302 sl303 sl304 sl305 sl306 sl307 sl308 sl309 sl310 sl311 sl312 sl313 sl314 sl315 sl316 sl317 sl318 sl319 sl320 sl321 sl322 : Value} {K' : Act → World → Prop} {Q' : Exit → Act → World → Prop} (hQ : ∀ x (a : Act) (d : Nat) v (w : World), Q' (.panic x) (a.put (some d) v) w → Q' (.panic x) a w) (hK : ∀ (W' : World) (nt31 nt268 nt269 nt270 nt271 nt272 nt273 nt274 nt275 nt276 nt277 nt278 nt279 nt280 nt281 nt282 nt283 nt284 nt285 nt286 nt287 nt288 nt289 nt290 nt291 nt292 nt293 nt294 nt295 nt296 nt297 nt298 nt299 : Value), (∃ K2, Sh w W' H K2 (m + 2 * rs.length) ∧ Mv w W K W' K2 lo hi ∧ LP w W' K2 c es ks rs cs rs.length rs.length 0 lo hi) → K' ⟨#[sl0, sl1, sl2, sl3, (.pointer (some ⟨H, 0, none⟩)), (.slice sl.p sl.n sl.c), sl6, sl7, sl8, sl9, sl10, sl11, sl12, sl13, sl14, sl15, sl16, sl17, sl18, sl19, sl20, sl21, sl22, sl23, sl24, sl25, sl26, sl27, sl28, sl29, (.int .i64 (i : Nat)), nt31, sl32, sl33, sl34, sl35, sl36, sl37, sl38, sl39, sl40, sl41, sl42, sl43, sl44, sl45, sl46, sl47, sl48, sl49, sl50, sl51, sl52, sl53, sl54, sl55, sl56, sl57, sl58, sl59, sl60, sl61, sl62, sl63, sl64, sl65, sl66, sl67, sl68, sl69, sl70, sl71, sl72, sl73, sl74, sl75, sl76, sl77, sl78, sl79, sl80, sl81, sl82, sl83, sl84, sl85, sl86, sl87, sl88, sl89, sl90, sl91, sl92, sl93, sl94, sl95, sl96, sl97, sl98, sl99, sl100, sl101, sl102, sl103, sl104, sl105, sl106, sl107, sl108, sl109, sl110, sl111, sl112, sl113, sl114, sl115, sl116, sl117, sl118, sl119, sl120, sl121, sl122, sl123, sl124, sl125, sl126, sl127, sl128, sl129, sl130, sl131, sl132, sl133, sl134, sl135, sl136, sl137, sl138, sl139, sl140, sl141, sl142, sl143, sl144, sl145, sl146, sl147, sl148, sl149, sl150, sl151, sl152, sl153, sl154, sl155, sl156, sl157, sl158, sl159, sl160, sl161, sl162, sl163, sl164, sl165, sl166, sl167, sl168, sl169, sl170, sl171, sl172, sl173, sl174, sl175, sl176, sl177, sl178, sl179, sl180, sl181, sl182, sl183, sl184, sl185, sl186, sl187, sl188, sl189, sl190, sl191, sl192, sl193, sl194, sl195, sl196, sl197, sl198, sl199, sl200, sl201, sl202, sl203, sl204, sl205, sl206, sl207, sl208, sl209, sl210, sl211, sl212, sl213, sl214, sl215, sl216, sl217, sl218, sl219, sl220, sl221, sl222, sl223, sl224, sl225, sl226, sl227, sl228, sl229, sl230, sl231, sl232, sl233, sl234, sl235, sl236, sl237, sl238, sl239, sl240, sl241, sl242, sl243, sl244, sl245, sl246, sl247, sl248, sl249, sl250, sl251, sl252, sl253, sl254, sl255, sl256, sl257, sl258, sl259, sl260, sl261, sl262, sl263, sl264, sl265, sl266, sl267, nt268, nt269, nt270, nt271, nt272, nt273, nt274, nt275, nt276, nt277, nt278, nt279, nt280, nt281, nt282, nt283, nt284, nt285, nt286, nt287, nt288, nt289, nt290, nt291, nt292, nt293, nt294, nt295, nt296, nt297, nt298, nt299, sl300, sl301, sl302, sl303, sl304, sl305, sl306, sl307, sl308, sl309, sl310, sl311, sl312, sl313, sl314, sl315, sl316, sl317, sl318, sl319, sl320, sl321, sl322], []⟩ W') :
    Code.wp Try.prog (lopC 12) (Exit.inBlock 12 (Exit.then K' Q')) ⟨#[sl0, sl1, sl2, sl3, (.pointer (some ⟨H, 0, none⟩)), (.slice sl.p sl.n sl.c), sl6, sl7, sl8, sl9, sl10, sl11, sl12, sl13, sl14, sl15, sl16, sl17, sl18, sl19, sl20, sl21, sl22, sl23, sl24, sl25, sl26, sl27, sl28, sl29, (.int .i64 (i : Nat)), (.int .i64 0), sl32, sl33, sl34, sl35, sl36, sl37, sl38, sl39, sl40, sl41, sl42, sl43, sl44, sl45, sl46, sl47, sl48, sl49, sl50, sl51, sl52, sl53, sl54, sl55, sl56, sl57, sl58, sl59, sl60, sl61, sl62, sl63, sl64, sl65, sl66, sl67, sl68, sl69, sl70, sl71, sl72, sl73, sl74, sl75, sl76, sl77, sl78, sl79, sl80, sl81, sl82, sl83, sl84, sl85, sl86, sl87, sl88, sl89, sl90, sl91, sl92, sl93, sl94, sl95, sl96, sl97, sl98, sl99, sl100, sl101, sl102, sl103, sl104, sl105, sl106, sl107, sl108, sl109, sl110, sl111, sl112, sl113, sl114, sl115, sl116, sl117, sl118, sl119, sl120, sl121, sl122, sl123, sl124, sl125, sl126, sl127, sl128, sl129, sl130, sl131, sl132, sl133, sl134, sl135, sl136, sl137, sl138, sl139, sl140, sl141, sl142, sl143, sl144, sl145, sl146, sl147, sl148, sl149, sl150, sl151, sl152, sl153, sl154, sl155, sl156, sl157, sl158, sl159, sl160, sl161, sl162, sl163, sl164, sl165, sl166, sl167, sl168, sl169, sl170, sl171, sl172, sl173, sl174, sl175, sl176, sl177, sl178, sl179, sl180, sl181, sl182, sl183, sl184, sl185, sl186, sl187, sl188, sl189, sl190, sl191, sl192, sl193, sl194, sl195, sl196, sl197, sl198, sl199, sl200, sl201, sl202, sl203, sl204, sl205, sl206, sl207, sl208, sl209, sl210, sl211, sl212, sl213, sl214, sl215, sl216, sl217, sl218, sl219, sl220, sl221, sl222, sl223, sl224, sl225, sl226, sl227, sl228, sl229, sl230, sl231, sl232, sl233, sl234, sl235, sl236, sl237, sl238, sl239, sl240, sl241, sl242, sl243, sl244, sl245, sl246, sl247, sl248, sl249, sl250, sl251, sl252, sl253, sl254, sl255, sl256, sl257, sl258, sl259, sl260, sl261, sl262, sl263, sl264, sl265, sl266, sl267, sl268, sl269, sl270, sl271, sl272, sl273, sl274, sl275, sl276, sl277, sl278, sl279, sl280, sl281, sl282, sl283, sl284, sl285, sl286, sl287, sl288, sl289, sl290, sl291, sl292, sl293, sl294, sl295, sl296, sl297, sl298, sl299, sl300, sl301, sl302, sl303, sl304, sl305, sl306, sl307, sl308, sl309, sl310, sl311, sl312, sl313, sl314, sl315, sl316, sl317, sl318, sl319, sl320, sl321, sl322], []⟩ W := by
  have HKK := hid hK
  clear hK
  conv => arg 2; whnf
  dsimp only
  have hl16 : rs.length ≤ 16 := HL.out.lim.2
  have hln : sl.n = l.length := by have := HN.out.own.1; rw [flatT_len] at this; omega
  have hii : ((i : Nat) : Int) < (sl.n : Int) := by omega
  clear hln
  go_loopw [31] (fun a wt => ∃ (j : Nat) (Kj : List Nat), a = .int .i64 (j : Nat) ∧ j ≤ rs.length ∧ Hid (Sh w wt H Kj (m + 2 * j) ∧ Mv w W K wt Kj lo hi ∧ LP w wt Kj c es ks rs cs j j 0 lo hi)) (fun a _ => rs.length - (intOf a).toNat)
  case atStart => exact ⟨0, K, rfl, Nat.zero_le _, hid ⟨HS.out, Mv.refl HL.out.ns.ap, HL.out⟩⟩
  case round =>
    obtain ⟨j, Kj, rfl, hjle, HI⟩ := hrel
    have HNr : Hid (Nw w wr 25 5 sl (flatT l)) := hid (HI.out.2.1.nw HN.out (by decide) (by decide))
    obtain ⟨P0, o0, hP0, hPl0, -, -, -, z3, z4⟩ := rt_at HNr.out.rd hil
    rw [hgc] at z3 z4
    rw [hP0]
    have htn := HI.out.2.2.tn
    by_cases hlt : j < rs.length
    · have hlti : ((j : Nat) : Int) < (c.t.n : Int) := by omega
      obtain ⟨P, o, hP, hPl, c4, c5⟩ := HI.out.2.2.wcell hlt
      rw [hP] at z4
      have hKV := keepV_ok HI.out.1 HI.out.2.2 hlt (by omega)
      have HKV := hid hKV
      clear hKV z3
      go_wp2_with fail
      refine HKV.out.mono ?_
      clear HKV c4 c5 z4
      rintro _ w1 ⟨rfl, K1, s1, v1, l1⟩
      have HI1 := hid (And.intro s1 (And.intro (HI.out.2.1.trans v1) l1))
      have HN1 : Hid (Nw w w1 25 5 sl (flatT l)) := hid (v1.nw HNr.out (by decide) (by decide))
      clear s1 v1 l1
      obtain ⟨P', o', hP', hPl', c4, c5⟩ := HI1.out.2.2.wcell hlt
      rw [hP] at hP'
      simp only [Option.some.injEq, Addr.mk.injEq, and_true] at hP'
      obtain ⟨rfl, rfl⟩ := hP'
      obtain ⟨Q0, q0, hQ0, -, -, -, -, -, z4⟩ := rt_at HN1.out.rd hil
      rw [hP0] at hQ0
      simp only [Option.some.injEq, Addr.mk.injEq, and_true] at hQ0
      obtain ⟨rfl, rfl⟩ := hQ0
      rw [hgc, hP] at z4
      have hKV := keepX_ok HI1.out.1 HI1.out.2.2 hlt (by omega)
      have HKV := hid hKV
      clear hKV
      try dsimp only
      go_wp2_with fail
      refine HKV.out.mono ?_
      clear HKV c4 c5 z4
      rintro _ w2 ⟨rfl, K2, s2, v2, l2⟩
      have HI2 := hid (And.intro s2 (And.intro (HI1.out.2.1.trans v2) l2))
      clear s2 v2 l2 HI1 HI
      try dsimp only
      go_wp2_with fail
      go_roundw
      case rel => exact ⟨j + 1, K2, by go_num, by omega, hid ⟨by have := HI2.out.1; rwa [show m + 2 * (j + 1) = m + 2 * j + 1 + 1 by omega], HI2.out.2⟩⟩
      case measure => simp [intOf]; omega
    · have hlti : ¬ ((j : Nat) : Int) < (c.t.n : Int) := by omega
      have hj : j = rs.length := by omega
      go_wp2_with fail
      subst hj
      rw [← hP0]
      exact HKK.out _ _ _ _ _ _ _ _ _ _ _ _ _ _ _ _ _ _ _ _ _ _ _ _ _ _ _ _ _ _ _ _ _ _ ⟨Kj, HI.out⟩
set_option maxHeartbeats 16000000 in
set_option maxRecDepth 1000000 in
theorem blk14 {w : World} {H m lo hi : Nat} {K : List Nat} {c : Ct} {es : List E} {ks : List Ck} {rs : List Wr} {cs : List (Int × List S)} {W : World} {sl : Sl} {l : List Ct} {i : Nat} {jv jx : Nat} (HS : Hid (Sh w W H K m)) (HL : Hid (LP w W K c es ks rs cs jv jx 0 lo hi)) (HN : Hid (Nw w W 25 5 sl (flatT l))) (hil : i < l.length) (hgc : gT l i = c) (hm : m ≤ 4000) {sl0 sl1 sl2 sl3 sl6 sl7 sl8 sl9 sl10 sl11 sl12 sl13 sl14 sl15 sl16 sl17 sl18 sl19 sl20 sl21 sl22 sl23 sl24 sl25 sl26 sl27 sl28 sl29 sl31 sl33 sl34 sl35 sl36 sl37 sl38 sl39 sl40 sl41 sl42 sl43 sl44 sl45 sl46 sl47 sl48 sl49 sl50 sl51 sl52 sl53 sl54 sl55 sl56 sl57 sl58 sl59 sl60 sl61 sl62 sl63 sl64 sl65 sl66 sl67 sl68 sl69 sl70 sl71 sl72 sl73 sl74 sl75 sl76 sl77 sl78 sl79 sl80 sl81 sl82 sl83 sl84 sl85 sl86 sl87 sl88 sl89 sl90 sl91 sl92 sl93 sl94 sl95 sl96 sl97 sl98 sl99 sl100 sl101 sl102 sl103 sl104 sl105 sl106 sl107 sl108 sl109 sl110 sl111 sl112 sl113 sl114 sl115 sl116 sl117 sl118 sl119 sl120 sl121 sl122 sl123 sl124 sl125 sl126 sl127 sl128 sl129 sl130 sl131 sl132 sl133 sl134 sl135 sl136 sl137 sl138 sl139 sl140 sl141 sl142 sl143 sl144 sl145 sl146 sl147 sl148 sl149 sl150 sl151 sl152 sl153 sl154 sl155 sl156 sl157 sl158 sl159 sl160 sl161 sl162 sl163 sl164 sl165 sl166 sl167 sl168 sl169 sl170 sl171 sl172 sl173 sl174 sl175 sl176 sl177 sl178 sl179 sl180 sl181 sl182 sl183 sl184 sl185 sl186 sl187 sl188 sl189 sl190 sl191 sl192 sl193 sl194 sl195 sl196 sl197 sl198 sl199 sl200 sl201 sl202 sl203 sl204 sl205 sl206 sl207 sl208 sl209 sl210 sl211 sl212 sl213 sl214 sl215 sl216 sl217 sl218 sl219 sl220 sl221 sl222 sl223 sl224 sl225 sl226 sl227 sl228 sl229 sl230 sl231 sl232 sl233 sl234 sl235 sl236 sl237 sl238 sl239 sl240 sl241 sl242 sl243 sl244 sl245 sl246 sl247 sl248 sl249 sl250 sl251 sl252 sl253 sl254 sl255 sl256 sl257 sl258 sl259 sl260 sl261 sl262 sl263 sl264 sl265 sl266 sl267 sl268 sl269 sl270 sl271 sl272 sl273 sl274 sl275 sl276 sl277 sl278 sl279 sl280 sl281 sl282 sl283 sl284 sl285 sl286 sl287 sl288 sl289 sl290 sl291 sl292 sl293 sl294 sl295 sl296 sl297 sl298 sl299 sl300 sl301 sl302 sl303 sl304 sl305 sl306 sl307 sl308 sl309 sl310 sl311 sl312 sl313 sl314 sl315 sl316 sl317 sl318 sl319 sl320 sl321 sl322 : Value} {K' : Act → World → Prop} {Q' : Exit → Act → World → Prop} (hQ : ∀ x (a : Act) (d : Nat) v (w : World), Q' (.panic x) (a.put (some d) v) w → Q' (.panic x) a w) (hK : ∀ (W' : World) (nt32 nt300 nt301 nt302 nt303 nt304 nt305 nt306 nt307 nt308 nt309 nt310 nt311 nt312 nt313 nt314 nt315 nt316 nt317 nt318 nt319 nt320 : Value), (∃ K2, Sh w W' H K2 (m + cs.length) ∧ Mv w W K W' K2 lo hi ∧ LP w W' K2 c es ks rs cs jv jx cs.length lo hi) → K' ⟨#[sl0, sl1, sl2, sl3, (.pointer (some ⟨H, 0, none⟩)), (.slice sl.p sl.n sl.c), sl6, sl7, sl8, sl9, sl10, sl11, sl12, sl13, sl14, sl15, sl16, sl17, sl18, sl19, sl20, sl21, sl22, sl23, sl24, sl25, sl26, sl27, sl28, sl29, (.int .i64 (i : Nat)), sl31, nt32, sl33, sl34, sl35, sl36, sl37, sl38, sl39, sl40, sl41, sl42, sl43, sl44, sl45, sl46, sl47, sl48, sl49, sl50, sl51, sl52, sl53, sl54, sl55, sl56, sl57, sl58, sl59, sl60, sl61, sl62, sl63, sl64, sl65, sl66, sl67, sl68, sl69, sl70, sl71, sl72, sl73, sl74, sl75, sl76, sl77, sl78, sl79, sl80, sl81, sl82, sl83, sl84, sl85, sl86, sl87, sl88, sl89, sl90, sl91, sl92, sl93, sl94, sl95, sl96, sl97, sl98, sl99, sl100, sl101, sl102, sl103, sl104, sl105, sl106, sl107, sl108, sl109, sl110, sl111, sl112, sl113, sl114, sl115, sl116, sl117, sl118, sl119, sl120, sl121, sl122, sl123, sl124, sl125, sl126, sl127, sl128, sl129, sl130, sl131, sl132, sl133, sl134, sl135, sl136, sl137, sl138, sl139, sl140, sl141, sl142, sl143, sl144, sl145, sl146, sl147, sl148, sl149, sl150, sl151, sl152, sl153, sl154, sl155, sl156, sl157, sl158, sl159, sl160, sl161, sl162, sl163, sl164, sl165, sl166, sl167, sl168, sl169, sl170, sl171, sl172, sl173, sl174, sl175, sl176, sl177, sl178, sl179, sl180, sl181, sl182, sl183, sl184, sl185, sl186, sl187, sl188, sl189, sl190, sl191, sl192, sl193, sl194, sl195, sl196, sl197, sl198, sl199, sl200, sl201, sl202, sl203, sl204, sl205, sl206, sl207, sl208, sl209, sl210, sl211, sl212, sl213, sl214, sl215, sl216, sl217, sl218, sl219, sl220, sl221, sl222, sl223, sl224, sl225, sl226, sl227, sl228, sl229, sl230, sl231, sl232, sl233, sl234, sl235, sl236, sl237, sl238, sl239, sl240, sl241, sl242, sl243, sl244, sl245, sl246, sl247, sl248, sl249, sl250, sl251, sl252, sl253, sl254, sl255, sl256, sl257, sl258, sl259, sl260, sl261, sl262, sl263, sl264, sl265, sl266, sl267, sl268, sl269, sl270, sl271, sl272, sl273, sl274, sl275, sl276, sl277, sl278, sl279, sl280, sl281, sl282, sl283, sl284, sl285, sl286, sl287, sl288, sl289, sl290, sl291, sl292, sl293, sl294, sl295, sl296, sl297, sl298, sl299, nt300, nt301, nt302, nt303, nt304, nt305, nt306, nt307, nt308, nt309, nt310, nt311, nt312, nt313, nt314, nt315, nt316, nt317, nt318, nt319, nt320, sl321, sl322], []⟩ W') :
    Code.wp Try.prog (lopC 14) (Exit.inBlock 14 (Exit.then K' Q')) ⟨#[sl0, sl1, sl2, sl3, (.pointer (some ⟨H, 0, none⟩)), (.slice sl.p sl.n sl.c), sl6, sl7, sl8, sl9, sl10, sl11, sl12, sl13, sl14, sl15, sl16, sl17, sl18, sl19, sl20, sl21, sl22, sl23, sl24, sl25, sl26, sl27, sl28, sl29, (.int .i64 (i : Nat)), sl31, (.int .i64 0), sl33, sl34, sl35, sl36, sl37, sl38, sl39, sl40, sl41, sl42, sl43, sl44, sl45, sl46, sl47, sl48, sl49, sl50, sl51, sl52, sl53, sl54, sl55, sl56, sl57, sl58, sl59, sl60, sl61, sl62, sl63, sl64, sl65, sl66, sl67, sl68, sl69, sl70, sl71, sl72, sl73, sl74, sl75, sl76, sl77, sl78, sl79, sl80, sl81, sl82, sl83, sl84, sl85, sl86, sl87, sl88, sl89, sl90, sl91, sl92, sl93, sl94, sl95, sl96, sl97, sl98, sl99, sl100, sl101, sl102, sl103, sl104, sl105, sl106, sl107, sl108, sl109, sl110, sl111, sl112, sl113, sl114, sl115, sl116, sl117, sl118, sl119, sl120, sl121, sl122, sl123, sl124, sl125, sl126, sl127, sl128, sl129, sl130, sl131, sl132, sl133, sl134, sl135, sl136, sl137, sl138, sl139, sl140, sl141, sl142, sl143, sl144, sl145, sl146, sl147, sl148, sl149, sl150, sl151, sl152, sl153, sl154, sl155, sl156, sl157, sl158, sl159, sl160, sl161, sl162, sl163, sl164, sl165, sl166, sl167, sl168, sl169, sl170, sl171, sl172, sl173, sl174, sl175, sl176, sl177, sl178, sl179, sl180, sl181, sl182, sl183, sl184, sl185, sl186, sl187, sl188, sl189, sl190, sl191, sl192, sl193, sl194, sl195, sl196, sl197, sl198, sl199, sl200, sl201, sl202, sl203, sl204, sl205, sl206, sl207, sl208, sl209, sl210, sl211, sl212, sl213, sl214, sl215, sl216, sl217, sl218, sl219, sl220, sl221, sl222, sl223, sl224, sl225, sl226, sl227, sl228, sl229, sl230, sl231, sl232, sl233, sl234, sl235, sl236, sl237, sl238, sl239, sl240, sl241, sl242, sl243, sl244, sl245, sl246, sl247, sl248, sl249, sl250, sl251, sl252, sl253, sl254, sl255, sl256, sl257, sl258, sl259, sl260, sl261, sl262, sl263, sl264, sl265, sl266, sl267, sl268, sl269, sl270, sl271, sl272, sl273, sl274, sl275, sl276, sl277, sl278, sl279, sl280, sl281, sl282, sl283, sl284, sl285, sl286, sl287, sl288, sl289, sl290, sl291, sl292, sl293, sl294, sl295, sl296, sl297, sl298, sl299, sl300, sl301, sl302, sl303, sl304, sl305, sl306, sl307, sl308, sl309, sl310, sl311, sl312, sl313, sl314, sl315, sl316, sl317, sl318, sl319, sl320, sl321, sl322], []⟩ W := by
  have HKK := hid hK
  clear hK
  conv => arg 2; whnf
  dsimp only
  have hl16 : cs.length ≤ 16 := HL.out.lim.1
  have hln : sl.n = l.length := by have := HN.out.own.1; rw [flatT_len] at this; omega
  have hii : ((i : Nat) : Int) < (sl.n : Int) := by omega
  clear hln
  go_loopw [32] (fun a wt => ∃ (j : Nat) (Kj : List Nat), a = .int .i64 (j : Nat) ∧ j ≤ cs.length ∧ Hid (Sh w wt H Kj (m + j) ∧ Mv w W K wt Kj lo hi ∧ LP w wt Kj c es ks rs cs jv jx j lo hi)) (fun a _ => cs.length - (intOf a).toNat)
  case atStart => exact ⟨0, K, rfl, Nat.zero_le _, hid ⟨HS.out, Mv.refl HL.out.ns.ap, HL.out⟩⟩
  case round =>
    obtain ⟨j, Kj, rfl, hjle, HI⟩ := hrel
    have HNr : Hid (Nw w wr 25 5 sl (flatT l)) := hid (HI.out.2.1.nw HN.out (by decide) (by decide))
    obtain ⟨P0, o0, hP0, hPl0, -, -, -, z3, z4⟩ := rt_at HNr.out.rd hil
    rw [hgc] at z3 z4
    rw [hP0]
    have htn := HI.out.2.2.sn
    by_cases hlt : j < cs.length
    · have hlti : ((j : Nat) : Int) < (c.s.n : Int) := by omega
      obtain ⟨P, o, hP, hPl, c4⟩ := HI.out.2.2.kcell hlt
      rw [hP] at z3
      have hKV := keepS_ok HI.out.1 HI.out.2.2 hlt (by omega)
      have HKV := hid hKV
      clear hKV z4
      go_wp2_with fail
      refine HKV.out.mono ?_
      clear HKV c4 z3
      rintro _ w1 ⟨rfl, K1, s1, v1, l1⟩
      have HI1 := hid (And.intro s1 (And.intro (HI.out.2.1.trans v1) l1))
      clear s1 v1 l1 HI
      try dsimp only
      go_wp2_with fail
      go_roundw
      case rel => exact ⟨j + 1, K1, by go_num, by omega, hid HI1.out⟩
      case measure => simp [intOf]; omega
    · have hlti : ¬ ((j : Nat) : Int) < (c.s.n : Int) := by omega
      have hj : j = cs.length := by omega
      go_wp2_with fail
      subst hj
      rw [← hP0]
      exact HKK.out _ _ _ _ _ _ _ _ _ _ _ _ _ _ _ _ _ _ _ _ _ _ _ ⟨Kj, HI.out⟩
end Go.Proofs.Ytllhmidpphlbhaa.ds
namespace Go.Proofs.Ytllhmidpphlbhaa.ds
open Go.ChangeShapes Go.WideShapes Go.ChangeAt Go.RowKit Go.Sort
set_option linter.unusedVariables false
set_option linter.unusedSimpArgs false
theorem then_self (Q : Exit → Act → World → Prop) : Exit.then (Q .normal) Q = Q := by funext e a w; cases e <;> rfl
set_option maxHeartbeats 16000000 in
set_option maxRecDepth 1000000 in
theorem blk10 {w : World} {H m T : Nat} {K : List Nat} {gl : List Gh} {sl : Sl} {W : World} (HS : Hid (Sh w W H K m)) (HF : Hid (Lf w W K T gl)) (HN : Hid (Nw w W 25 5 sl (flatT (gl.map Gh.c)))) (hg : gl.length ≤ 16) (hm : m ≤ 3000) {sl0 sl1 sl2 sl3 sl6 sl7 sl8 sl9 sl10 sl11 sl12 sl13 sl14 sl15 sl16 sl17 sl18 sl19 sl20 sl21 sl22 sl23 sl24 sl25 sl26 sl27 sl28 sl29 sl31 sl32 sl33 sl34 sl35 sl36 sl37 sl38 sl39 sl40 sl41 sl42 sl43 sl44 sl45 sl46 sl47 sl48 sl49 sl50 sl51 sl52 sl53 sl54 sl55 sl56 sl57 sl58 sl59 sl60 sl61 sl62 sl63 sl64 sl65 sl66 sl67 sl68 sl69 sl70 sl71 sl72 sl73 sl74 sl75 sl76 sl77 sl78 sl79 sl80 sl81 sl82 sl83 sl84 sl85 sl86 sl87 sl88 sl89 sl90 sl91 sl92 sl93 sl94 sl95 sl96 sl97 sl98 sl99 sl100 sl101 sl102 sl103 sl104 sl105 sl106 sl107 sl108 sl109 sl110 sl111 sl112 sl113 sl114 sl115 sl116 sl117 sl118 sl119 sl120 sl121 sl122 sl123 sl124 sl125 sl126 sl127 sl128 sl129 sl130 sl131 sl132 sl133 sl134 sl135 sl136 sl137 sl138 sl139 sl140 sl141 sl142 sl143 sl144 sl145 sl146 sl147 sl148 sl149 sl150 sl151 sl152 sl153 sl154 sl155 sl156 sl157 sl158 sl159 sl160 sl161 sl162 sl163 sl164 sl165 sl166 sl167 sl168 sl169 sl170 sl171 sl172 sl173 sl174 sl175 sl176 sl177 sl178 sl179 sl180 sl181 sl182 sl183 sl184 sl185 sl186 sl187 sl188 sl189 sl190 sl191 sl192 sl193 sl194 sl195 sl196 sl197 sl198 sl199 sl200 sl201 sl202 sl203 sl204 sl205 sl206 sl207 sl208 sl209 sl210 sl211 sl212 sl213 sl214 sl215 sl216 sl217 sl218 sl219 sl220 sl221 sl222 sl223 sl224 sl225 sl226 sl227 sl228 sl229 sl230 sl231 sl232 sl233 sl234 sl235 sl236 sl237 sl238 sl239 sl240 sl241 sl242 sl243 sl244 sl245 sl246 sl247 sl248 sl249 sl250 sl251 sl252 sl253 sl254 sl255 sl256 sl257 sl258 sl259 sl260 sl261 sl262 sl263 sl264 sl265 sl266 sl267 sl268 sl269 sl270 sl271 sl272 sl273 sl274 sl275 sl276 sl277 sl278 sl279 sl280 sl281 sl282 sl283 sl284 sl285 sl286 sl287 sl288 sl289 sl290 sl291 sl292 sl293 sl294 sl295 sl296 sl297 sl298 sl299 sl300 sl301 sl302 sl303 sl304 sl305 sl306 sl307 sl308 sl309 sl310 sl311 sl312 sl313 sl314 sl315 sl316 sl317 sl318 sl319 sl320 sl321 sl322 : Value} {K' : Act → World → Prop} {Q' : Exit → Act → World → Prop} (hQ : ∀ x (a : Act) (d : Nat) v (w : World), Q' (.panic x) (a.put (some d) v) w → Q' (.panic x) a w) (hK : ∀ (W' : World) (nt30 nt31 nt32 nt262 nt263 nt264 nt265 nt266 nt267 nt268 nt269 nt270 nt271 nt272 nt273 nt274 nt275 nt276 nt277 nt278 nt279 nt280 nt281 nt282 nt283 nt284 nt285 nt286 nt287 nt288 nt289 nt290 nt291 nt292 nt293 nt294 nt295 nt296 nt297 nt298 nt299 nt300 nt301 nt302 nt303 nt304 nt305 nt306 nt307 nt308 nt309 nt310 nt311 nt312 nt313 nt314 nt315 nt316 nt317 nt318 nt319 nt320 : Value), (∃ K2 m2, Sh w W' H K2 m2 ∧ m2 ≤ 10000) → K' ⟨#[sl0, sl1, sl2, sl3, (.pointer (some ⟨H, 0, none⟩)), (.slice sl.p sl.n sl.c), sl6, sl7, sl8, sl9, sl10, sl11, sl12, sl13, sl14, sl15, sl16, sl17, sl18, sl19, sl20, sl21, sl22, sl23, sl24, sl25, sl26, sl27, sl28, sl29, nt30, nt31, nt32, sl33, sl34, sl35, sl36, sl37, sl38, sl39, sl40, sl41, sl42, sl43, sl44, sl45, sl46, sl47, sl48, sl49, sl50, sl51, sl52, sl53, sl54, sl55, sl56, sl57, sl58, sl59, sl60, sl61, sl62, sl63, sl64, sl65, sl66, sl67, sl68, sl69, sl70, sl71, sl72, sl73, sl74, sl75, sl76, sl77, sl78, sl79, sl80, sl81, sl82, sl83, sl84, sl85, sl86, sl87, sl88, sl89, sl90, sl91, sl92, sl93, sl94, sl95, sl96, sl97, sl98, sl99, sl100, sl101, sl102, sl103, sl104, sl105, sl106, sl107, sl108, sl109, sl110, sl111, sl112, sl113, sl114, sl115, sl116, sl117, sl118, sl119, sl120, sl121, sl122, sl123, sl124, sl125, sl126, sl127, sl128, sl129, sl130, sl131, sl132, sl133, sl134, sl135, sl136, sl137, sl138, sl139, sl140, sl141, sl142, sl143, sl144, sl145, sl146, sl147, sl148, sl149, sl150, sl151, sl152, sl153, sl154, sl155, sl156, sl157, sl158, sl159, sl160, sl161, sl162, sl163, sl164, sl165, sl166, sl167, sl168, sl169, sl170, sl171, sl172, sl173, sl174, sl175, sl176, sl177, sl178, sl179, sl180, sl181, sl182, sl183, sl184, sl185, sl186, sl187, sl188, sl189, sl190, sl191, sl192, sl193, sl194, sl195, sl196, sl197, sl198, sl199, sl200, sl201, sl202, sl203, sl204, sl205, sl206, sl207, sl208, sl209, sl210, sl211, sl212, sl213, sl214, sl215, sl216, sl217, sl218, sl219, sl220, sl221, sl222, sl223, sl224, sl225, sl226, sl227, sl228, sl229, sl230, sl231, sl232, sl233, sl234, sl235, sl236, sl237, sl238, sl239, sl240, sl241, sl242, sl243, sl244, sl245, sl246, sl247, sl248, sl249, sl250, sl251, sl252, sl253, sl254, sl255, sl256, sl257, sl258, sl259, sl260, sl261, nt262, nt263, nt264, nt265, nt266, nt267, nt268, nt269, nt270, nt271, nt272, nt273, nt274, nt275, nt276, nt277, nt278, nt279, nt280, nt281, nt282, nt283, nt284, nt285, nt286, nt287, nt288, nt289, nt290, nt291, nt292, nt293, nt294, nt295, nt296, nt297, nt298, nt299, nt300, nt301, nt302, nt303, nt304, nt305, nt306, nt307, nt308, nt309, nt310, nt311, nt312, nt313, nt314, nt315, nt316, nt317, nt318, nt319, nt320, sl321, sl322], []⟩ W') :
    Code.wp Try.prog (lopC 10) (Exit.inBlock 10 (Exit.then K' Q')) ⟨#[sl0, sl1, sl2, sl3, (.pointer (some ⟨H, 0, none⟩)), (.slice sl.p sl.n sl.c), sl6, sl7, sl8, sl9, sl10, sl11, sl12, sl13, sl14, sl15, sl16, sl17, sl18, sl19, sl20, sl21, sl22, sl23, sl24, sl25, sl26, sl27, sl28, sl29, (.int .i64 0), sl31, sl32, sl33, sl34, sl35, sl36, sl37, sl38, sl39, sl40, sl41, sl42, sl43, sl44, sl45, sl46, sl47, sl48, sl49, sl50, sl51, sl52, sl53, sl54, sl55, sl56, sl57, sl58, sl59, sl60, sl61, sl62, sl63, sl64, sl65, sl66, sl67, sl68, sl69, sl70, sl71, sl72, sl73, sl74, sl75, sl76, sl77, sl78, sl79, sl80, sl81, sl82, sl83, sl84, sl85, sl86, sl87, sl88, sl89, sl90, sl91, sl92, sl93, sl94, sl95, sl96, sl97, sl98, sl99, sl100, sl101, sl102, sl103, sl104, sl105, sl106, sl107, sl108, sl109, sl110, sl111, sl112, sl113, sl114, sl115, sl116, sl117, sl118, sl119, sl120, sl121, sl122, sl123, sl124, sl125, sl126, sl127, sl128, sl129, sl130, sl131, sl132, sl133, sl134, sl135, sl136, sl137, sl138, sl139, sl140, sl141, sl142, sl143, sl144, sl145, sl146, sl147, sl148, sl149, sl150, sl151, sl152, sl153, sl154, sl155, sl156, sl157, sl158, sl159, sl160, sl161, sl162, sl163, sl164, sl165, sl166, sl167, sl168, sl169, sl170, sl171, sl172, sl173, sl174, sl175, sl176, sl177, sl178, sl179, sl180, sl181, sl182, sl183, sl184, sl185, sl186, sl187, sl188, sl189, sl190, sl191, sl192, sl193, sl194, sl195, sl196, sl197, sl198, sl199, sl200, sl201, sl202, sl203, sl204, sl205, sl206, sl207, sl208, sl209, sl210, sl211, sl212, sl213, sl214, sl215, sl216, sl217, sl218, sl219, sl220, sl221, sl222, sl223, sl224, sl225, sl226, sl227, sl228, sl229, sl230, sl231, sl232, sl233, sl234, sl235, sl236, sl237, sl238, sl239, sl240, sl241, sl242, sl243, sl244, sl245, sl246, sl247, sl248, sl249, sl250, sl251, sl252, sl253, sl254, sl255, sl256, sl257, sl258, sl259, sl260, sl261, sl262, sl263, sl264, sl265, sl266, sl267, sl268, sl269, sl270, sl271, sl272, sl273, sl274, sl275, sl276, sl277, sl278, sl279, sl280, sl281, sl282, sl283, sl284, sl285, sl286, sl287, sl288, sl289, sl290, sl291, sl292, sl293, sl294, sl295, sl296, sl297, sl298, sl299, sl300, sl301, sl302, sl303, sl304, sl305, sl306, sl307, sl308, sl309, sl310, sl311, sl312, sl313, sl314, sl315, sl316, sl317, sl318, sl319, sl320, sl321, sl322], []⟩ W := by
  have HKK := hid hK
  clear hK
  conv => arg 2; whnf
  dsimp only
  have hln : sl.n = gl.length := by have := HN.out.own.1; rw [flatT_len, List.length_map] at this; omega
  have HLN := hid hln
  clear hln
  go_loopw [30, 31, 32] (fun a _ _ wt => ∃ (i : Nat) (Ki : List Nat) (mi : Nat), a = .int .i64 (i : Nat) ∧ i ≤ gl.length ∧ Hid (Sh w wt H Ki mi ∧ mi ≤ m + 48 * i ∧ Lf w wt Ki T (gl.drop i) ∧ Nw w wt 25 5 sl (flatT (gl.map Gh.c)))) (fun a _ _ _ => gl.length - (intOf a).toNat)
  case atStart => exact ⟨0, K, m, rfl, Nat.zero_le _, hid ⟨HS.out, by omega, by simpa using HF.out, HN.out⟩⟩
  case round =>
    obtain ⟨i, Ki, mi, rfl, hile, HI⟩ := hrel
    clear HS HF HN
    by_cases hlt : i < gl.length
    · have hlti : ((i : Nat) : Int) < (sl.n : Int) := by have := HLN.out; omega
      obtain ⟨g, HG⟩ : ∃ g, Hid (gG gl i = g) := ⟨_, rfl⟩
      obtain ⟨hL, hR, hB⟩ := Lf.tail (by have := HI.out.2.2.1; rw [gG_drop hlt, HG.out] at this; exact this)
      have HL := hid hL
      have HR := hid hR
      have HBb := hid hB
      have hgc : gT (gl.map Gh.c) i = g.c := by rw [gT_map hlt, HG.out]
      have HGC := hid hgc
      have hil : i < (gl.map Gh.c).length := by rw [List.length_map]; exact hlt
      have HIL := hid hil
      have hmi : mi ≤ 3800 := by have := HI.out.2.1; omega
      have l1 : g.rs.length ≤ 16 := hL.lim.2
      have l2 : g.cs.length ≤ 16 := hL.lim.1
      have HS0 := hid HI.out.1
      have HN0 := hid HI.out.2.2.2
      clear hL hR hB hgc hil
      go_wp2_with fail
      refine blk12 (l := gl.map Gh.c) (i := i) HS0 HL HN0 HIL.out HGC.out (by omega) (fun _ _ _ _ _ h => hQ _ _ _ _ _ h) (fun W1 _ _ _ _ _ _ _ _ _ _ _ _ _ _ _ _ _ _ _ _ _ _ _ _ _ _ _ _ _ _ _ _ _ hq1 => ?_)
      obtain ⟨K1, s1, v1, p1⟩ := hq1
      have HS1 := hid s1
      have HV1 := hid v1
      have HL1 := hid p1
      have HN1 := hid (v1.nw HN0.out (by decide) (by decide))
      clear s1 v1 p1
      try dsimp only
      go_wp2_with fail
      conv => arg 3; arg 2; rw [← then_self (Exit.inBlock 11 _)]
      refine blk14 (l := gl.map Gh.c) (i := i) HS1 HL1 HN1 HIL.out HGC.out (by omega) (fun _ _ _ _ _ h => hQ _ _ _ _ _ h) (fun W2 _ _ _ _ _ _ _ _ _ _ _ _ _ _ _ _ _ _ _ _ _ _ hq2 => ?_)
      obtain ⟨K2, s2, v2, p2⟩ := hq2
      have HS2 := hid s2
      have HV2 := hid (HV1.out.trans v2)
      have HN2 := hid (v2.nw HN1.out (by decide) (by decide))
      clear s2 v2 p2
      dsimp only [Exit.inBlock, Exit.then]
      go_wp2_with fail
      go_roundw
      case rel => exact ⟨i + 1, K2, _, by go_num, by omega, hid ⟨HS2.out, by have := HI.out.2.1; omega, HV2.out.lf HR.out (fun b hb => .inr (HBb.out b hb)), HN2.out⟩⟩
      case measure => simp [intOf]; omega
    · have hlti : ¬ ((i : Nat) : Int) < (sl.n : Int) := by have := HLN.out; omega
      go_wp2_with fail
      exact HKK.out _ _ _ _ _ _ _ _ _ _ _ _ _ _ _ _ _ _ _ _ _ _ _ _ _ _ _ _ _ _ _ _ _ _ _ _ _ _ _ _ _ _ _ _ _ _ _ _ _ _ _ _ _ _ _ _ _ _ _ _ _ _ _ ⟨Ki, mi, HI.out.1, by have := HI.out.2.1; omega⟩
end Go.Proofs.Ytllhmidpphlbhaa.ds
