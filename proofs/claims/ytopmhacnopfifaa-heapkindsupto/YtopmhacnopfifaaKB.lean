import Derived.Test.YtopmhacnopfifaaKA
import Derived.Deep.CutBlock
import Derived.Great.BuildSlice
import Derived.Laws.StructEq
namespace Go.Proofs.Ytopmhacnopfifaa.kk
open Go.ChangeShapes Go.WideShapes Go.ChangeAt Go.RowKit
set_option linter.unusedVariables false
set_option linter.unusedSimpArgs false
set_option maxHeartbeats 16000000 in
set_option maxRecDepth 1000000 in
theorem blk2 {w0 : World} {A B C : Nat} {T : Nat → ByteArray} {f : Nat → Int} {pn : Option Addr} {N cn : Nat} {pt : Option Addr} {M ct : Nat} {W1 : World} {Bl Bn : Nat} {l : List im.E} {nn : List tm.E} (hN : N ≤ 1048576) (HOL : Hid (W1.ownsRow 0 3 1 (.slice (some ⟨Bl, 0, none⟩) N N) N (im.flat2 l))) (HON : Hid (W1.ownsRow 0 46 4 (.slice (some ⟨Bn, 0, none⟩) N N) N (tm.flat2 nn))) (hll : l.length = N) (hnl : nn.length = N) (srtL : ∀ i, i + 1 < N → (im.g l (i + 1)).r ≤ (im.g l i).r) (srtN : ∀ i, i + 1 < N → (tm.g nn i).c ≤ (tm.g nn (i + 1)).c ∧ ((tm.g nn (i + 1)).c = (tm.g nn i).c → (tm.g nn i).m ≤ (tm.g nn (i + 1)).m)) {sl0 sl1 sl2 sl3 sl4 sl5 sl6 sl7 sl8 sl10 sl13 sl14 sl15 sl16 sl17 sl18 sl19 sl20 sl21 sl22 sl23 sl24 sl25 sl26 sl27 sl28 sl29 sl30 sl31 sl32 sl33 sl34 sl35 sl36 sl37 sl38 sl39 sl40 sl41 sl42 sl43 sl44 sl45 sl46 sl47 sl48 sl49 sl50 sl51 sl52 sl53 sl54 sl55 sl56 sl57 sl58 sl59 sl60 sl61 sl62 sl63 sl64 sl65 sl66 sl67 sl68 sl69 sl70 sl71 sl72 sl73 sl74 sl75 sl76 sl77 sl78 sl79 sl80 sl81 sl82 sl83 sl84 sl85 sl86 sl87 sl88 sl89 sl90 sl91 sl92 sl93 sl94 sl95 sl96 sl97 sl98 sl99 sl100 sl101 sl102 sl103 sl104 sl105 sl106 sl107 sl108 sl109 sl110 sl111 sl112 sl113 sl114 sl115 sl116 sl117 sl118 sl119 sl120 sl121 sl122 sl123 sl124 sl125 sl126 sl127 sl128 sl129 sl130 sl131 sl132 sl133 sl134 sl135 sl136 sl137 sl138 sl139 sl140 sl141 sl142 sl143 sl144 sl145 sl146 sl147 sl148 sl149 sl150 sl151 sl152 sl153 sl154 sl155 sl156 sl157 sl158 sl159 sl160 sl161 sl162 sl163 sl164 sl165 sl166 sl167 sl168 sl169 sl170 sl171 sl172 sl173 sl174 sl175 sl176 sl177 sl178 sl179 sl180 sl181 sl182 sl183 sl184 sl185 sl186 sl187 sl188 sl189 sl190 sl191 sl192 sl193 sl194 sl195 sl196 sl197 sl198 sl199 sl200 sl201 sl202 sl203 sl204 sl205 sl206 sl207 sl208 sl209 sl210 sl211 sl212 sl213 sl214 sl215 sl216 sl217 sl218 sl219 sl220 sl221 sl222 sl223 sl224 sl225 sl226 sl227 sl228 sl229 sl230 sl231 sl232 sl233 sl234 sl235 sl236 sl237 sl238 sl239 sl240 sl241 sl242 sl243 sl244 sl245 sl246 sl247 sl248 sl249 sl250 sl251 sl252 sl253 sl254 sl255 sl256 sl257 sl258 sl259 sl260 sl261 sl262 sl263 sl264 sl265 sl266 sl267 sl268 sl269 sl270 sl271 sl272 sl273 sl274 sl275 sl276 sl277 sl278 sl279 sl280 sl281 sl282 sl283 sl284 sl285 sl286 sl287 sl288 sl289 sl290 sl291 sl292 sl293 sl294 sl295 sl296 sl297 sl298 sl299 sl300 sl301 sl302 sl303 sl304 sl305 sl306 sl307 sl308 sl309 sl310 sl311 sl312 sl313 sl314 sl315 sl316 sl317 sl318 sl319 sl320 sl321 sl322 sl323 sl324 sl325 sl326 sl327 sl328 : Value} {K' : Act → World → Prop} {Q' : Exit → Act → World → Prop} (hQ : ∀ x (a : Act) (d : Nat) v (w : World), Q' (.panic x) (a.put (some d) v) w → Q' (.panic x) a w) (hK : ∀ (W' : World) (nt4 nt12 nt104 nt105 nt106 nt107 nt108 nt109 nt110 nt111 nt112 nt113 nt114 nt115 nt116 nt117 nt118 nt119 nt120 nt121 nt122 nt123 nt124 nt125 nt126 nt127 nt128 nt129 nt130 nt131 nt132 nt133 nt134 nt135 nt136 nt137 nt138 nt139 nt140 nt141 nt142 nt143 nt144 nt145 nt146 nt147 nt148 nt149 nt150 nt151 nt152 nt153 nt154 nt155 nt156 nt157 nt158 nt159 nt160 nt161 : Value), im.Apart [] W1 W' → K' ⟨#[sl0, sl1, sl2, sl3, nt4, sl5, sl6, sl7, sl8, (.slice (some ⟨Bl, 0, none⟩) N N), sl10, (.slice (some ⟨Bn, 0, none⟩) N N), nt12, sl13, sl14, sl15, sl16, sl17, sl18, sl19, sl20, sl21, sl22, sl23, sl24, sl25, sl26, sl27, sl28, sl29, sl30, sl31, sl32, sl33, sl34, sl35, sl36, sl37, sl38, sl39, sl40, sl41, sl42, sl43, sl44, sl45, sl46, sl47, sl48, sl49, sl50, sl51, sl52, sl53, sl54, sl55, sl56, sl57, sl58, sl59, sl60, sl61, sl62, sl63, sl64, sl65, sl66, sl67, sl68, sl69, sl70, sl71, sl72, sl73, sl74, sl75, sl76, sl77, sl78, sl79, sl80, sl81, sl82, sl83, sl84, sl85, sl86, sl87, sl88, sl89, sl90, sl91, sl92, sl93, sl94, sl95, sl96, sl97, sl98, sl99, sl100, sl101, sl102, sl103, nt104, nt105, nt106, nt107, nt108, nt109, nt110, nt111, nt112, nt113, nt114, nt115, nt116, nt117, nt118, nt119, nt120, nt121, nt122, nt123, nt124, nt125, nt126, nt127, nt128, nt129, nt130, nt131, nt132, nt133, nt134, nt135, nt136, nt137, nt138, nt139, nt140, nt141, nt142, nt143, nt144, nt145, nt146, nt147, nt148, nt149, nt150, nt151, nt152, nt153, nt154, nt155, nt156, nt157, nt158, nt159, nt160, nt161, sl162, sl163, sl164, sl165, sl166, sl167, sl168, sl169, sl170, sl171, sl172, sl173, sl174, sl175, sl176, sl177, sl178, sl179, sl180, sl181, sl182, sl183, sl184, sl185, sl186, sl187, sl188, sl189, sl190, sl191, sl192, sl193, sl194, sl195, sl196, sl197, sl198, sl199, sl200, sl201, sl202, sl203, sl204, sl205, sl206, sl207, sl208, sl209, sl210, sl211, sl212, sl213, sl214, sl215, sl216, sl217, sl218, sl219, sl220, sl221, sl222, sl223, sl224, sl225, sl226, sl227, sl228, sl229, sl230, sl231, sl232, sl233, sl234, sl235, sl236, sl237, sl238, sl239, sl240, sl241, sl242, sl243, sl244, sl245, sl246, sl247, sl248, sl249, sl250, sl251, sl252, sl253, sl254, sl255, sl256, sl257, sl258, sl259, sl260, sl261, sl262, sl263, sl264, sl265, sl266, sl267, sl268, sl269, sl270, sl271, sl272, sl273, sl274, sl275, sl276, sl277, sl278, sl279, sl280, sl281, sl282, sl283, sl284, sl285, sl286, sl287, sl288, sl289, sl290, sl291, sl292, sl293, sl294, sl295, sl296, sl297, sl298, sl299, sl300, sl301, sl302, sl303, sl304, sl305, sl306, sl307, sl308, sl309, sl310, sl311, sl312, sl313, sl314, sl315, sl316, sl317, sl318, sl319, sl320, sl321, sl322, sl323, sl324, sl325, sl326, sl327, sl328], []⟩ W') :
    Code.wp Try.prog (blkC 2) (Exit.then K' Q') ⟨#[sl0, sl1, sl2, sl3, sl4, sl5, sl6, sl7, sl8, (.slice (some ⟨Bl, 0, none⟩) N N), sl10, (.slice (some ⟨Bn, 0, none⟩) N N), (.int .i64 1), sl13, sl14, sl15, sl16, sl17, sl18, sl19, sl20, sl21, sl22, sl23, sl24, sl25, sl26, sl27, sl28, sl29, sl30, sl31, sl32, sl33, sl34, sl35, sl36, sl37, sl38, sl39, sl40, sl41, sl42, sl43, sl44, sl45, sl46, sl47, sl48, sl49, sl50, sl51, sl52, sl53, sl54, sl55, sl56, sl57, sl58, sl59, sl60, sl61, sl62, sl63, sl64, sl65, sl66, sl67, sl68, sl69, sl70, sl71, sl72, sl73, sl74, sl75, sl76, sl77, sl78, sl79, sl80, sl81, sl82, sl83, sl84, sl85, sl86, sl87, sl88, sl89, sl90, sl91, sl92, sl93, sl94, sl95, sl96, sl97, sl98, sl99, sl100, sl101, sl102, sl103, sl104, sl105, sl106, sl107, sl108, sl109, sl110, sl111, sl112, sl113, sl114, sl115, sl116, sl117, sl118, sl119, sl120, sl121, sl122, sl123, sl124, sl125, sl126, sl127, sl128, sl129, sl130, sl131, sl132, sl133, sl134, sl135, sl136, sl137, sl138, sl139, sl140, sl141, sl142, sl143, sl144, sl145, sl146, sl147, sl148, sl149, sl150, sl151, sl152, sl153, sl154, sl155, sl156, sl157, sl158, sl159, sl160, sl161, sl162, sl163, sl164, sl165, sl166, sl167, sl168, sl169, sl170, sl171, sl172, sl173, sl174, sl175, sl176, sl177, sl178, sl179, sl180, sl181, sl182, sl183, sl184, sl185, sl186, sl187, sl188, sl189, sl190, sl191, sl192, sl193, sl194, sl195, sl196, sl197, sl198, sl199, sl200, sl201, sl202, sl203, sl204, sl205, sl206, sl207, sl208, sl209, sl210, sl211, sl212, sl213, sl214, sl215, sl216, sl217, sl218, sl219, sl220, sl221, sl222, sl223, sl224, sl225, sl226, sl227, sl228, sl229, sl230, sl231, sl232, sl233, sl234, sl235, sl236, sl237, sl238, sl239, sl240, sl241, sl242, sl243, sl244, sl245, sl246, sl247, sl248, sl249, sl250, sl251, sl252, sl253, sl254, sl255, sl256, sl257, sl258, sl259, sl260, sl261, sl262, sl263, sl264, sl265, sl266, sl267, sl268, sl269, sl270, sl271, sl272, sl273, sl274, sl275, sl276, sl277, sl278, sl279, sl280, sl281, sl282, sl283, sl284, sl285, sl286, sl287, sl288, sl289, sl290, sl291, sl292, sl293, sl294, sl295, sl296, sl297, sl298, sl299, sl300, sl301, sl302, sl303, sl304, sl305, sl306, sl307, sl308, sl309, sl310, sl311, sl312, sl313, sl314, sl315, sl316, sl317, sl318, sl319, sl320, sl321, sl322, sl323, sl324, sl325, sl326, sl327, sl328], []⟩ W1 := by
  have HKK := hid hK
  clear hK
  conv => arg 2; whnf
  go_wp2_with fail
  go_loopw [12] (fun v wr => ∃ i : Nat, v = .int .i64 ((i + 1 : Nat) : Int) ∧ (i = 0 ∨ i + 1 ≤ N) ∧ im.Apart [] W1 wr) (fun v _ => N - (intOf v).toNat)
  case atStart => exact ⟨0, rfl, .inl rfl, im.Apart.refl _ _⟩
  case round =>
    obtain ⟨i, rfl, hi, ap⟩ := hrel
    by_cases h1 : i + 1 < N
    · have ol := im.own_apart HOL.out ap (by simp)
      have on := im.own_apart HON.out ap (by simp)
      have a0 := (ol.cellAt (i + 1) (by omega)).trans (im.flat2_get l (i + 1) (by omega))
      have a1 := (ol.cellAt i (by omega)).trans (im.flat2_get l i (by omega))
      obtain ⟨q0, q1, q2, q3⟩ := tm.flat2_get nn (i + 1) (by omega)
      obtain ⟨r0, r1, r2, r3⟩ := tm.flat2_get nn i (by omega)
      have b1 := (on.cellAt ((i + 1) * 4 + 1) (by omega)).trans q1
      have b3 := (on.cellAt ((i + 1) * 4 + 3) (by omega)).trans q3
      have c1 := (on.cellAt (i * 4 + 1) (by omega)).trans r1
      have c3 := (on.cellAt (i * 4 + 3) (by omega)).trans r3
      have HR := hid ap
      clear ap
      have s1 := srtL i h1
      have s2 := srtN i h1
      clear q0 q1 q2 q3 r0 r1 r2 r3 ol on
      have HSL := hid srtL
      have HSN := hid srtN
      clear srtL srtN
      generalize (im.g l (i + 1)).r = x1 at *
      generalize (im.g l i).r = x0 at *
      generalize (tm.g nn (i + 1)).c = y1 at *
      generalize (tm.g nn i).c = y0 at *
      generalize (tm.g nn (i + 1)).m = z1 at *
      generalize (tm.g nn i).m = z0 at *
      have t1 : ¬ x0 < x1 := by omega
      have t2 : ¬ y1 < y0 := by omega
      have u0 : (0 : Int) ≤ (i : Int) + 1 := by omega
      have u1 : decide (x0 < x1) = false := decide_eq_false t1
      have u2 : decide (y1 < y0) = false := decide_eq_false t2
      by_cases t3 : y1 = y0
      · have t4 : ¬ z1 < z0 := by omega
        have u4 : decide (z1 < z0) = false := decide_eq_false t4
        clear s1 s2
        subst t3
        go_wp2_with fail
        go_quiet (fail)
        go_wp2
        go_roundw
        case rel => exact ⟨i + 1, by go_num, .inr (by omega), HR.out.drewN _⟩
        case measure => simp [intOf]; omega
      · clear s1 s2
        have u3 : decide (y1 = y0) = false := decide_eq_false t3
        have u5 : (y1 == y0) = false := by simp; exact t3
        go_wp2_with fail
        go_quiet (fail)
        go_wp2
        go_roundw
        case rel => exact ⟨i + 1, by go_num, .inr (by omega), HR.out.drewN _⟩
        case measure => simp [intOf]; omega
    · go_wp2_with fail
      exact HKK.out _ _ _ _ _ _ _ _ _ _ _ _ _ _ _ _ _ _ _ _ _ _ _ _ _ _ _ _ _ _ _ _ _ _ _ _ _ _ _ _ _ _ _ _ _ _ _ _ _ _ _ _ _ _ _ _ _ _ _ _ _ ap
end Go.Proofs.Ytopmhacnopfifaa.kk
