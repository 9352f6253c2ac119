import Derived.Laws.Strings
import Derived.Test.YtopmhacnopfifaaKA
import Derived.Deep.CutBlock
import Derived.Great.BuildSlice
import Derived.Laws.StructEq
namespace Go.Proofs.Ytopmhacnopfifaa.kk
open Go.ChangeShapes Go.WideShapes Go.ChangeAt Go.RowKit
set_option linter.unusedVariables false
set_option linter.unusedSimpArgs false
set_option maxRecDepth 100000 in
theorem neq9 (W : World) (t : ByteArray) : Sem.run Try.prog (binOp BinOp.neq 9 (.string t) (.string t)) W = .ok (.bool false) W := by
  simp [binOp, Op.stringOp, go_sem]
set_option maxHeartbeats 16000000 in
set_option maxRecDepth 1000000 in
theorem blk4 {w0 : World} {A B C : Nat} {T : Nat → ByteArray} {f : Nat → Int} {pn : Option Addr} {N cn : Nat} {pt : Option Addr} {M ct : Nat} {W1 : World} {Bm : Nat} {ms : List nm.E} {K : Nat → Nat} (hM : M ≤ 1048576) (HT : Hid (Strs w0 pt M T)) (HAP : Hid (im.Apart [] w0 W1)) (HOM : Hid (W1.ownsRow 0 72 2 (.slice (some ⟨Bm, 0, none⟩) M M) M (nm.flat2 ms))) (hml : ms.length = M) (HLI : Hid (∀ i, i < M → K i < M ∧ ∃ L, (nm.g ms i).m = ⟨some ⟨L, 0, none⟩, 1, 1⟩ ∧ W1.heap[L]? = some (.cells #[.int .i64 (K i : Int)] 3 (0, 0)) ∧ (nm.g ms i).r = T (K i))) (HSM : Hid (∀ i, i + 1 < M → (T (K i)).size ≤ (T (K (i + 1))).size ∧ ((T (K i)).size = (T (K (i + 1))).size → K i ≤ K (i + 1)))) {sl0 sl2 sl3 sl4 sl5 sl6 sl7 sl8 sl9 sl11 sl12 sl14 sl15 sl16 sl17 sl18 sl19 sl20 sl21 sl22 sl23 sl24 sl25 sl26 sl27 sl28 sl29 sl30 sl31 sl32 sl33 sl34 sl35 sl36 sl37 sl38 sl39 sl40 sl41 sl42 sl43 sl44 sl45 sl46 sl47 sl48 sl49 sl50 sl51 sl52 sl53 sl54 sl55 sl56 sl57 sl58 sl59 sl60 sl61 sl62 sl63 sl64 sl65 sl66 sl67 sl68 sl69 sl70 sl71 sl72 sl73 sl74 sl75 sl76 sl77 sl78 sl79 sl80 sl81 sl82 sl83 sl84 sl85 sl86 sl87 sl88 sl89 sl90 sl91 sl92 sl93 sl94 sl95 sl96 sl97 sl98 sl99 sl100 sl101 sl102 sl103 sl104 sl105 sl106 sl107 sl108 sl109 sl110 sl111 sl112 sl113 sl114 sl115 sl116 sl117 sl118 sl119 sl120 sl121 sl122 sl123 sl124 sl125 sl126 sl127 sl128 sl129 sl130 sl131 sl132 sl133 sl134 sl135 sl136 sl137 sl138 sl139 sl140 sl141 sl142 sl143 sl144 sl145 sl146 sl147 sl148 sl149 sl150 sl151 sl152 sl153 sl154 sl155 sl156 sl157 sl158 sl159 sl160 sl161 sl162 sl163 sl164 sl165 sl166 sl167 sl168 sl169 sl170 sl171 sl172 sl173 sl174 sl175 sl176 sl177 sl178 sl179 sl180 sl181 sl182 sl183 sl184 sl185 sl186 sl187 sl188 sl189 sl190 sl191 sl192 sl193 sl194 sl195 sl196 sl197 sl198 sl199 sl200 sl201 sl202 sl203 sl204 sl205 sl206 sl207 sl208 sl209 sl210 sl211 sl212 sl213 sl214 sl215 sl216 sl217 sl218 sl219 sl220 sl221 sl222 sl223 sl224 sl225 sl226 sl227 sl228 sl229 sl230 sl231 sl232 sl233 sl234 sl235 sl236 sl237 sl238 sl239 sl240 sl241 sl242 sl243 sl244 sl245 sl246 sl247 sl248 sl249 sl250 sl251 sl252 sl253 sl254 sl255 sl256 sl257 sl258 sl259 sl260 sl261 sl262 sl263 sl264 sl265 sl266 sl267 sl268 sl269 sl270 sl271 sl272 sl273 sl274 sl275 sl276 sl277 sl278 sl279 sl280 sl281 sl282 sl283 sl284 sl285 sl286 sl287 sl288 sl289 sl290 sl291 sl292 sl293 sl294 sl295 sl296 sl297 sl298 sl299 sl300 sl301 sl302 sl303 sl304 sl305 sl306 sl307 sl308 sl309 sl310 sl311 sl312 sl313 sl314 sl315 sl316 sl317 sl318 sl319 sl320 sl321 sl322 sl323 sl324 sl325 sl326 sl327 sl328 : Value} {K' : Act → World → Prop} {Q' : Exit → Act → World → Prop} (hQ : ∀ x (a : Act) (d : Nat) v (w : World), Q' (.panic x) (a.put (some d) v) w → Q' (.panic x) a w) (hK : ∀ (W' : World) (nt4 nt13 nt162 nt163 nt164 nt165 nt166 nt167 nt168 nt169 nt170 nt171 nt172 nt173 nt174 nt175 nt176 nt177 nt178 nt179 nt180 nt181 nt182 nt183 nt184 nt185 nt186 nt187 nt188 nt189 nt190 nt191 nt192 nt193 nt194 nt195 nt196 nt197 nt198 nt199 nt200 nt201 nt202 nt203 nt204 nt205 nt206 nt207 nt208 nt209 nt210 nt211 nt212 nt213 nt214 nt215 nt216 nt217 nt218 nt219 nt220 nt221 nt222 nt223 nt224 nt225 nt226 nt227 nt228 nt229 nt230 nt231 nt232 nt233 nt234 nt235 nt236 nt237 nt238 nt239 nt240 nt241 nt242 nt243 nt244 nt245 nt246 nt247 nt248 nt249 nt250 nt251 nt252 nt253 nt254 nt255 nt256 nt257 nt258 nt259 nt260 nt261 nt262 nt263 nt264 nt265 nt266 : Value), im.Apart [] W1 W' → K' ⟨#[sl0, (.slice pt M ct), sl2, sl3, nt4, sl5, sl6, sl7, sl8, sl9, (.slice (some ⟨Bm, 0, none⟩) M M), sl11, sl12, nt13, sl14, sl15, sl16, sl17, sl18, sl19, sl20, sl21, sl22, sl23, sl24, sl25, sl26, sl27, sl28, sl29, sl30, sl31, sl32, sl33, sl34, sl35, sl36, sl37, sl38, sl39, sl40, sl41, sl42, sl43, sl44, sl45, sl46, sl47, sl48, sl49, sl50, sl51, sl52, sl53, sl54, sl55, sl56, sl57, sl58, sl59, sl60, sl61, sl62, sl63, sl64, sl65, sl66, sl67, sl68, sl69, sl70, sl71, sl72, sl73, sl74, sl75, sl76, sl77, sl78, sl79, sl80, sl81, sl82, sl83, sl84, sl85, sl86, sl87, sl88, sl89, sl90, sl91, sl92, sl93, sl94, sl95, sl96, sl97, sl98, sl99, sl100, sl101, sl102, sl103, sl104, sl105, sl106, sl107, sl108, sl109, sl110, sl111, sl112, sl113, sl114, sl115, sl116, sl117, sl118, sl119, sl120, sl121, sl122, sl123, sl124, sl125, sl126, sl127, sl128, sl129, sl130, sl131, sl132, sl133, sl134, sl135, sl136, sl137, sl138, sl139, sl140, sl141, sl142, sl143, sl144, sl145, sl146, sl147, sl148, sl149, sl150, sl151, sl152, sl153, sl154, sl155, sl156, sl157, sl158, sl159, sl160, sl161, nt162, nt163, nt164, nt165, nt166, nt167, nt168, nt169, nt170, nt171, nt172, nt173, nt174, nt175, nt176, nt177, nt178, nt179, nt180, nt181, nt182, nt183, nt184, nt185, nt186, nt187, nt188, nt189, nt190, nt191, nt192, nt193, nt194, nt195, nt196, nt197, nt198, nt199, nt200, nt201, nt202, nt203, nt204, nt205, nt206, nt207, nt208, nt209, nt210, nt211, nt212, nt213, nt214, nt215, nt216, nt217, nt218, nt219, nt220, nt221, nt222, nt223, nt224, nt225, nt226, nt227, nt228, nt229, nt230, nt231, nt232, nt233, nt234, nt235, nt236, nt237, nt238, nt239, nt240, nt241, nt242, nt243, nt244, nt245, nt246, nt247, nt248, nt249, nt250, nt251, nt252, nt253, nt254, nt255, nt256, nt257, nt258, nt259, nt260, nt261, nt262, nt263, nt264, nt265, nt266, sl267, sl268, sl269, sl270, sl271, sl272, sl273, sl274, sl275, sl276, sl277, sl278, sl279, sl280, sl281, sl282, sl283, sl284, sl285, sl286, sl287, sl288, sl289, sl290, sl291, sl292, sl293, sl294, sl295, sl296, sl297, sl298, sl299, sl300, sl301, sl302, sl303, sl304, sl305, sl306, sl307, sl308, sl309, sl310, sl311, sl312, sl313, sl314, sl315, sl316, sl317, sl318, sl319, sl320, sl321, sl322, sl323, sl324, sl325, sl326, sl327, sl328], []⟩ W') :
    Code.wp Try.prog (blkC 4) (Exit.then K' Q') ⟨#[sl0, (.slice pt M ct), sl2, sl3, sl4, sl5, sl6, sl7, sl8, sl9, (.slice (some ⟨Bm, 0, none⟩) M M), sl11, sl12, (.int .i64 0), sl14, sl15, sl16, sl17, sl18, sl19, sl20, sl21, sl22, sl23, sl24, sl25, sl26, sl27, sl28, sl29, sl30, sl31, sl32, sl33, sl34, sl35, sl36, sl37, sl38, sl39, sl40, sl41, sl42, sl43, sl44, sl45, sl46, sl47, sl48, sl49, sl50, sl51, sl52, sl53, sl54, sl55, sl56, sl57, sl58, sl59, sl60, sl61, sl62, sl63, sl64, sl65, sl66, sl67, sl68, sl69, sl70, sl71, sl72, sl73, sl74, sl75, sl76, sl77, sl78, sl79, sl80, sl81, sl82, sl83, sl84, sl85, sl86, sl87, sl88, sl89, sl90, sl91, sl92, sl93, sl94, sl95, sl96, sl97, sl98, sl99, sl100, sl101, sl102, sl103, sl104, sl105, sl106, sl107, sl108, sl109, sl110, sl111, sl112, sl113, sl114, sl115, sl116, sl117, sl118, sl119, sl120, sl121, sl122, sl123, sl124, sl125, sl126, sl127, sl128, sl129, sl130, sl131, sl132, sl133, sl134, sl135, sl136, sl137, sl138, sl139, sl140, sl141, sl142, sl143, sl144, sl145, sl146, sl147, sl148, sl149, sl150, sl151, sl152, sl153, sl154, sl155, sl156, sl157, sl158, sl159, sl160, sl161, sl162, sl163, sl164, sl165, sl166, sl167, sl168, sl169, sl170, sl171, sl172, sl173, sl174, sl175, sl176, sl177, sl178, sl179, sl180, sl181, sl182, sl183, sl184, sl185, sl186, sl187, sl188, sl189, sl190, sl191, sl192, sl193, sl194, sl195, sl196, sl197, sl198, sl199, sl200, sl201, sl202, sl203, sl204, sl205, sl206, sl207, sl208, sl209, sl210, sl211, sl212, sl213, sl214, sl215, sl216, sl217, sl218, sl219, sl220, sl221, sl222, sl223, sl224, sl225, sl226, sl227, sl228, sl229, sl230, sl231, sl232, sl233, sl234, sl235, sl236, sl237, sl238, sl239, sl240, sl241, sl242, sl243, sl244, sl245, sl246, sl247, sl248, sl249, sl250, sl251, sl252, sl253, sl254, sl255, sl256, sl257, sl258, sl259, sl260, sl261, sl262, sl263, sl264, sl265, sl266, sl267, sl268, sl269, sl270, sl271, sl272, sl273, sl274, sl275, sl276, sl277, sl278, sl279, sl280, sl281, sl282, sl283, sl284, sl285, sl286, sl287, sl288, sl289, sl290, sl291, sl292, sl293, sl294, sl295, sl296, sl297, sl298, sl299, sl300, sl301, sl302, sl303, sl304, sl305, sl306, sl307, sl308, sl309, sl310, sl311, sl312, sl313, sl314, sl315, sl316, sl317, sl318, sl319, sl320, sl321, sl322, sl323, sl324, sl325, sl326, sl327, sl328], []⟩ W1 := by
  have HKK := hid hK
  clear hK
  conv => arg 2; whnf
  go_wp2_with fail
  go_loopw [13] (fun v wr => ∃ i : Nat, v = .int .i64 (i : Nat) ∧ i ≤ M ∧ im.Apart [] W1 wr) (fun v _ => M - (intOf v).toNat)
  case atStart => exact ⟨0, rfl, Nat.zero_le _, im.Apart.refl _ _⟩
  case round =>
    obtain ⟨i, rfl, hi, ap⟩ := hrel
    have HR := hid ap
    clear ap
    by_cases h1 : i < M
    · obtain ⟨hk, L, hm, hL, hr⟩ := HLI.out i h1
      obtain ⟨P2, o2, rfl, hP2, hc2⟩ := HT.out (by omega)
      have om := im.own_apart HOM.out HR.out (by simp)
      obtain ⟨q0, q1⟩ := nm.flat2_get ms i (by omega)
      have b0 := (om.cellAt (i * 2) (by omega)).trans q0
      have b1 := (om.cellAt (i * 2 + 1) (by omega)).trans q1
      have bL := (HR.out.block L (im.lt_of_heap hL) (by simp)).trans hL
      have eL : wr.cell? ⟨L, 0, none⟩ = some (.int .i64 (K i)) := by rw [cell_of_row _ _ _ _ _ _ bL]; rfl
      have e2 := ((HAP.out.trans HR.out).cell (p := ⟨P2, o2 + K i, none⟩) hP2 (by simp)).trans (hc2 (K i) hk)
      rw [hr] at b0
      rw [hm] at b1
      simp only at b1
      obtain rfl | ⟨j, rfl⟩ : i = 0 ∨ ∃ j, i = j + 1 := by cases i with | zero => exact .inl rfl | succ j => exact .inr ⟨j, rfl⟩
      · clear q0 q1 hL hc2 om bL hr hm
        generalize K 0 = k at *
        generalize T k = t at *
        have hsq := fun W => neq9 W t
        have g1 : decide ((k : Int) < 0) = false := decide_eq_false (by omega)
        have g2 : decide (M ≤ k) = false := decide_eq_false (by omega)
        have g20 : decide ((M : Int) ≤ (k : Int)) = false := decide_eq_false (by omega)
        have g3 : ¬ ((M : Int) ≤ (k : Int)) := by omega
        have g4 : ¬ ((k : Int) < 0) := by omega
        go_wp2_with fail
        go_quiet (fail)
        go_wp2_with fail
        go_quiet (fail)
        go_wp2
        go_roundw
        case rel => exact ⟨0 + 1, by go_num, by omega, HR.out.drewN _⟩
        case measure => simp [intOf]; omega
      · obtain ⟨hk', L', hm', hL', hr'⟩ := HLI.out j (by omega)
        obtain ⟨q0', q1'⟩ := nm.flat2_get ms j (by omega)
        have b0' := (om.cellAt (j * 2) (by omega)).trans q0'
        have b1' := (om.cellAt (j * 2 + 1) (by omega)).trans q1'
        have bL' := (HR.out.block L' (im.lt_of_heap hL') (by simp)).trans hL'
        have eL' : wr.cell? ⟨L', 0, none⟩ = some (.int .i64 (K j)) := by rw [cell_of_row _ _ _ _ _ _ bL']; rfl
        rw [hr'] at b0'
        rw [hm'] at b1'
        simp only at b1'
        obtain ⟨s1, s2⟩ := HSM.out j h1
        clear q0 q1 hL hc2 om bL hr hm q0' q1' hL' bL' hr' hm'
        generalize K (j + 1) = k at *
        generalize K j = k' at *
        have g1 : decide ((k : Int) < 0) = false := decide_eq_false (by omega)
        have g2 : decide (M ≤ k) = false := decide_eq_false (by omega)
        have g20 : decide ((M : Int) ≤ (k : Int)) = false := decide_eq_false (by omega)
        have g3 : ¬ ((M : Int) ≤ (k : Int)) := by omega
        have g4 : ¬ ((k : Int) < 0) := by omega
        generalize ht : T k = t at *
        generalize ht' : T k' = t' at *
        have g5 : decide ((t.size : Int) < (t'.size : Int)) = false := decide_eq_false (by omega)
        have g50 : decide (t.size < t'.size) = false := decide_eq_false (by omega)
        have g6 : ¬ ((t.size : Int) < (t'.size : Int)) := by omega
        have g7 : (0 : Int) < (j : Int) + 1 := by omega
        have u0 : (0 : Int) ≤ (j : Int) + 1 := by omega
        have g8 : decide ((0 : Int) < (j : Int) + 1) = true := decide_eq_true g7
        clear ht ht'
        have hsq := fun W => neq9 W t
        by_cases g9 : t.size = t'.size
        · have g10 : ¬ ((k : Int) < (k' : Int)) := by have := s2 g9.symm; omega
          have g11 : decide ((k : Int) < (k' : Int)) = false := decide_eq_false g10
          have g110 : decide (k < k') = false := decide_eq_false (by omega)
          have g12 : ((t.size : Int) == (t'.size : Int)) = true := by simp; omega
          have HG := hid g9
          clear s1 s2 g9
          go_wp2_with fail
          go_quiet (fail)
          go_wp2_with fail
          go_quiet (fail)
          go_wp2
          go_roundw
          case rel => exact ⟨j + 1 + 1, by go_num, by omega, HR.out.drewN _⟩
          case measure => simp [intOf]; omega
        · have g12 : ((t.size : Int) == (t'.size : Int)) = false := by simp; omega
          have HG := hid g9
          clear s1 s2 g9
          go_wp2_with fail
          go_quiet (fail)
          go_wp2_with fail
          go_quiet (fail)
          go_wp2
          go_roundw
          case rel => exact ⟨j + 1 + 1, by go_num, by omega, HR.out.drewN _⟩
          case measure => simp [intOf]; omega
    · obtain rfl : i = M := by omega
      go_wp2_with fail
      exact HKK.out _ _ _ _ _ _ _ _ _ _ _ _ _ _ _ _ _ _ _ _ _ _ _ _ _ _ _ _ _ _ _ _ _ _ _ _ _ _ _ _ _ _ _ _ _ _ _ _ _ _ _ _ _ _ _ _ _ _ _ _ _ _ _ _ _ _ _ _ _ _ _ _ _ _ _ _ _ _ _ _ _ _ _ _ _ _ _ _ _ _ _ _ _ _ _ _ _ _ _ _ _ _ _ _ _ _ _ _ HR.out
end Go.Proofs.Ytopmhacnopfifaa.kk
