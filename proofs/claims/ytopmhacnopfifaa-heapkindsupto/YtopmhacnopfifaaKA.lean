import Derived.Test.YtopmhacnopfifaaKK0
import Derived.Deep.CutBlock
import Derived.Great.BuildSlice
import Derived.Laws.StructEq
namespace Go.Proofs.Ytopmhacnopfifaa.kk
open Go.ChangeShapes Go.WideShapes Go.ChangeAt Go.RowKit
set_option linter.unusedVariables false
set_option linter.unusedSimpArgs false
def findCode (t : Nat) (b : Bool) : Code → Option Code
  | .region n ops d => if b = true ∧ n = t then some (.region n ops d) else none
  | .seq x y => match findCode t b x with
    | some c => some c
    | none => findCode t b y
  | .cond _ x y => match findCode t b x with
    | some c => some c
    | none => findCode t b y
  | .block n c => if b = false ∧ n = t then some (.block n c) else findCode t b c
  | .loop c => findCode t b c
  | .scope c => findCode t b c
  | _ => none
noncomputable def regC (t : Nat) : Code := (Try.f7.body.bind (findCode t true)).getD .skip
noncomputable def blkC (t : Nat) : Code := (Try.f7.body.bind (findCode t false)).getD .skip
theorem hid {p : Prop} (h : p) : Hid p := h
def Ints (w : World) (p : Option Addr) (len : Nat) (f : Nat → Int) : Prop := 0 < len → ∃ P o, p = some ⟨P, o, none⟩ ∧ P < w.heap.size ∧ ∀ i, i < len → w.cell? ⟨P, o + i, none⟩ = some (.int .i64 (f i))
def Strs (w : World) (p : Option Addr) (len : Nat) (f : Nat → ByteArray) : Prop := 0 < len → ∃ P o, p = some ⟨P, o, none⟩ ∧ P < w.heap.size ∧ ∀ i, i < len → w.cell? ⟨P, o + i, none⟩ = some (.string (f i))
theorem build1 (W : World) (i : Int) : Sem.run Try.prog (Instr.buildSlice 39 1 #[(0, Value.int .i64 i)]) W = .ok (.slice (some ⟨W.heap.size, 0, none⟩) 1 1) (W.alloc (.cells #[.int .i64 i] 3)) := by
  obtain ⟨ie, hi, hz0, hz1, hz2⟩ := info_parts im.info28
  refine run_buildSlice W 39 3 1 _ _ ie _ Try.underlying39 hi hz0 (by rw [hz1]; decide) (by rw [hz1]; decide) ?_
  rw [hz1]
  first | rfl | decide | (simp [Instr.fill, Array.range, Value.cells, Array.ofFn]; done) | kernel_rfl
set_option maxHeartbeats 16000000 in
set_option maxRecDepth 1000000 in
theorem blk0 {w0 : World} {A B C : Nat} {T : Nat → ByteArray} {f : Nat → Int} {pn : Option Addr} {N cn : Nat} {pt : Option Addr} {M ct : Nat} {W1 : World} (hN : N ≤ 1048576) (HI : Hid (Ints w0 pn N f)) (hM : M ≤ 1048576) (HT : Hid (Strs w0 pt M T)) (HS : Hid (St w0 W1 A B C T [] [] [] 0 0 0)) {sl2 sl3 sl4 sl9 sl10 sl11 sl12 sl13 sl14 sl15 sl16 sl17 sl18 sl19 sl20 sl21 sl22 sl23 sl24 sl25 sl26 sl27 sl28 sl29 sl30 sl31 sl32 sl33 sl34 sl35 sl36 sl37 sl38 sl39 sl40 sl41 sl42 sl43 sl44 sl45 sl46 sl47 sl48 sl49 sl50 sl51 sl52 sl53 sl54 sl55 sl56 sl57 sl58 sl59 sl60 sl61 sl62 sl63 sl64 sl65 sl66 sl67 sl68 sl69 sl70 sl71 sl72 sl73 sl74 sl75 sl76 sl77 sl78 sl79 sl80 sl81 sl82 sl83 sl84 sl85 sl86 sl87 sl88 sl89 sl90 sl91 sl92 sl93 sl94 sl95 sl96 sl97 sl98 sl99 sl100 sl101 sl102 sl103 sl104 sl105 sl106 sl107 sl108 sl109 sl110 sl111 sl112 sl113 sl114 sl115 sl116 sl117 sl118 sl119 sl120 sl121 sl122 sl123 sl124 sl125 sl126 sl127 sl128 sl129 sl130 sl131 sl132 sl133 sl134 sl135 sl136 sl137 sl138 sl139 sl140 sl141 sl142 sl143 sl144 sl145 sl146 sl147 sl148 sl149 sl150 sl151 sl152 sl153 sl154 sl155 sl156 sl157 sl158 sl159 sl160 sl161 sl162 sl163 sl164 sl165 sl166 sl167 sl168 sl169 sl170 sl171 sl172 sl173 sl174 sl175 sl176 sl177 sl178 sl179 sl180 sl181 sl182 sl183 sl184 sl185 sl186 sl187 sl188 sl189 sl190 sl191 sl192 sl193 sl194 sl195 sl196 sl197 sl198 sl199 sl200 sl201 sl202 sl203 sl204 sl205 sl206 sl207 sl208 sl209 sl210 sl211 sl212 sl213 sl214 sl215 sl216 sl217 sl218 sl219 sl220 sl221 sl222 sl223 sl224 sl225 sl226 sl227 sl228 sl229 sl230 sl231 sl232 sl233 sl234 sl235 sl236 sl237 sl238 sl239 sl240 sl241 sl242 sl243 sl244 sl245 sl246 sl247 sl248 sl249 sl250 sl251 sl252 sl253 sl254 sl255 sl256 sl257 sl258 sl259 sl260 sl261 sl262 sl263 sl264 sl265 sl266 sl267 sl268 sl269 sl270 sl271 sl272 sl273 sl274 sl275 sl276 sl277 sl278 sl279 sl280 sl281 sl282 sl283 sl284 sl285 sl286 sl287 sl288 sl289 sl290 sl291 sl292 sl293 sl294 sl295 sl296 sl297 sl298 sl299 sl300 sl301 sl302 sl303 sl304 sl305 sl306 sl307 sl308 sl309 sl310 sl311 sl312 sl313 sl314 sl315 sl316 sl317 sl318 sl319 sl320 sl321 sl322 sl323 sl324 sl325 sl326 sl327 sl328 : Value} {K' : Act → World → Prop} {Q' : Exit → Act → World → Prop} (hQ : ∀ x (a : Act) (d : Nat) v (w : World), Q' (.panic x) (a.put (some d) v) w → Q' (.panic x) a w) (hK : ∀ (ea : List im.E) (eb : List nm.E) (ec : List tm.E) (W' : World) (nt8 nt36 nt37 nt38 nt39 nt40 nt41 nt42 nt43 nt44 nt45 nt46 nt47 nt48 nt49 nt50 nt51 nt52 nt53 nt54 nt55 nt56 nt57 nt58 nt59 nt60 nt61 nt62 nt63 nt64 nt65 nt66 nt67 nt68 nt69 nt70 nt71 nt72 nt73 nt74 nt75 nt76 nt77 nt78 : Value), St w0 W' A B C T ea eb ec N M N → K' ⟨#[(.slice pn N cn), (.slice pt M ct), sl2, sl3, sl4, (.pointer (some ⟨A, 0, none⟩)), (.pointer (some ⟨B, 0, none⟩)), (.pointer (some ⟨C, 0, none⟩)), nt8, sl9, sl10, sl11, sl12, sl13, sl14, sl15, sl16, sl17, sl18, sl19, sl20, sl21, sl22, sl23, sl24, sl25, sl26, sl27, sl28, sl29, sl30, sl31, sl32, sl33, sl34, sl35, nt36, nt37, nt38, nt39, nt40, nt41, nt42, nt43, nt44, nt45, nt46, nt47, nt48, nt49, nt50, nt51, nt52, nt53, nt54, nt55, nt56, nt57, nt58, nt59, nt60, nt61, nt62, nt63, nt64, nt65, nt66, nt67, nt68, nt69, nt70, nt71, nt72, nt73, nt74, nt75, nt76, nt77, nt78, sl79, sl80, sl81, sl82, sl83, sl84, sl85, sl86, sl87, sl88, sl89, sl90, sl91, sl92, sl93, sl94, sl95, sl96, sl97, sl98, sl99, sl100, sl101, sl102, sl103, sl104, sl105, sl106, sl107, sl108, sl109, sl110, sl111, sl112, sl113, sl114, sl115, sl116, sl117, sl118, sl119, sl120, sl121, sl122, sl123, sl124, sl125, sl126, sl127, sl128, sl129, sl130, sl131, sl132, sl133, sl134, sl135, sl136, sl137, sl138, sl139, sl140, sl141, sl142, sl143, sl144, sl145, sl146, sl147, sl148, sl149, sl150, sl151, sl152, sl153, sl154, sl155, sl156, sl157, sl158, sl159, sl160, sl161, sl162, sl163, sl164, sl165, sl166, sl167, sl168, sl169, sl170, sl171, sl172, sl173, sl174, sl175, sl176, sl177, sl178, sl179, sl180, sl181, sl182, sl183, sl184, sl185, sl186, sl187, sl188, sl189, sl190, sl191, sl192, sl193, sl194, sl195, sl196, sl197, sl198, sl199, sl200, sl201, sl202, sl203, sl204, sl205, sl206, sl207, sl208, sl209, sl210, sl211, sl212, sl213, sl214, sl215, sl216, sl217, sl218, sl219, sl220, sl221, sl222, sl223, sl224, sl225, sl226, sl227, sl228, sl229, sl230, sl231, sl232, sl233, sl234, sl235, sl236, sl237, sl238, sl239, sl240, sl241, sl242, sl243, sl244, sl245, sl246, sl247, sl248, sl249, sl250, sl251, sl252, sl253, sl254, sl255, sl256, sl257, sl258, sl259, sl260, sl261, sl262, sl263, sl264, sl265, sl266, sl267, sl268, sl269, sl270, sl271, sl272, sl273, sl274, sl275, sl276, sl277, sl278, sl279, sl280, sl281, sl282, sl283, sl284, sl285, sl286, sl287, sl288, sl289, sl290, sl291, sl292, sl293, sl294, sl295, sl296, sl297, sl298, sl299, sl300, sl301, sl302, sl303, sl304, sl305, sl306, sl307, sl308, sl309, sl310, sl311, sl312, sl313, sl314, sl315, sl316, sl317, sl318, sl319, sl320, sl321, sl322, sl323, sl324, sl325, sl326, sl327, sl328], []⟩ W') :
    Code.wp Try.prog (blkC 0) (Exit.then K' Q') ⟨#[(.slice pn N cn), (.slice pt M ct), sl2, sl3, sl4, (.pointer (some ⟨A, 0, none⟩)), (.pointer (some ⟨B, 0, none⟩)), (.pointer (some ⟨C, 0, none⟩)), (.int .i64 0), sl9, sl10, sl11, sl12, sl13, sl14, sl15, sl16, sl17, sl18, sl19, sl20, sl21, sl22, sl23, sl24, sl25, sl26, sl27, sl28, sl29, sl30, sl31, sl32, sl33, sl34, sl35, sl36, sl37, sl38, sl39, sl40, sl41, sl42, sl43, sl44, sl45, sl46, sl47, sl48, sl49, sl50, sl51, sl52, sl53, sl54, sl55, sl56, sl57, sl58, sl59, sl60, sl61, sl62, sl63, sl64, sl65, sl66, sl67, sl68, sl69, sl70, sl71, sl72, sl73, sl74, sl75, sl76, sl77, sl78, sl79, sl80, sl81, sl82, sl83, sl84, sl85, sl86, sl87, sl88, sl89, sl90, sl91, sl92, sl93, sl94, sl95, sl96, sl97, sl98, sl99, sl100, sl101, sl102, sl103, sl104, sl105, sl106, sl107, sl108, sl109, sl110, sl111, sl112, sl113, sl114, sl115, sl116, sl117, sl118, sl119, sl120, sl121, sl122, sl123, sl124, sl125, sl126, sl127, sl128, sl129, sl130, sl131, sl132, sl133, sl134, sl135, sl136, sl137, sl138, sl139, sl140, sl141, sl142, sl143, sl144, sl145, sl146, sl147, sl148, sl149, sl150, sl151, sl152, sl153, sl154, sl155, sl156, sl157, sl158, sl159, sl160, sl161, sl162, sl163, sl164, sl165, sl166, sl167, sl168, sl169, sl170, sl171, sl172, sl173, sl174, sl175, sl176, sl177, sl178, sl179, sl180, sl181, sl182, sl183, sl184, sl185, sl186, sl187, sl188, sl189, sl190, sl191, sl192, sl193, sl194, sl195, sl196, sl197, sl198, sl199, sl200, sl201, sl202, sl203, sl204, sl205, sl206, sl207, sl208, sl209, sl210, sl211, sl212, sl213, sl214, sl215, sl216, sl217, sl218, sl219, sl220, sl221, sl222, sl223, sl224, sl225, sl226, sl227, sl228, sl229, sl230, sl231, sl232, sl233, sl234, sl235, sl236, sl237, sl238, sl239, sl240, sl241, sl242, sl243, sl244, sl245, sl246, sl247, sl248, sl249, sl250, sl251, sl252, sl253, sl254, sl255, sl256, sl257, sl258, sl259, sl260, sl261, sl262, sl263, sl264, sl265, sl266, sl267, sl268, sl269, sl270, sl271, sl272, sl273, sl274, sl275, sl276, sl277, sl278, sl279, sl280, sl281, sl282, sl283, sl284, sl285, sl286, sl287, sl288, sl289, sl290, sl291, sl292, sl293, sl294, sl295, sl296, sl297, sl298, sl299, sl300, sl301, sl302, sl303, sl304, sl305, sl306, sl307, sl308, sl309, sl310, sl311, sl312, sl313, sl314, sl315, sl316, sl317, sl318, sl319, sl320, sl321, sl322, sl323, sl324, sl325, sl326, sl327, sl328], []⟩ W1 := by
  have HKK := hid hK
  clear hK
  conv => arg 2; whnf
  go_wp2_with fail
  go_loopw [8] (fun v wr => ∃ i : Nat, v = .int .i64 (i : Nat) ∧ i ≤ max N M ∧ ∃ ea eb ec na nb, na = min i N ∧ nb = min i M ∧ St w0 wr A B C T ea eb ec na nb na) (fun v _ => max N M - (intOf v).toNat)
  case atStart => exact ⟨0, rfl, by omega, _, _, _, 0, 0, by omega, by omega, HS.out⟩
  case round =>
    clear HS
    obtain ⟨i, rfl, hi, ea, eb, ec, na, nb, hna0, hnb0, hS⟩ := hrel
    have HS := hid hS
    have hna := hid hna0
    have hnb := hid hnb0
    clear hS hna0 hnb0
    have hi1 : i ≤ N ∨ i ≤ M := by omega
    clear hi
    have hbs := fun W => build1 W (i : Int)
    by_cases h1 : i < N
    · obtain rfl : na = i := by have := hna.out; omega
      have g1 : decide ((na : Int) < (N : Int)) = true := decide_eq_true (by omega)
      obtain ⟨P, o, rfl, hP, hc⟩ := HI.out (by omega)
      have e0 := (HS.out.ap.cell (p := ⟨P, o + na, none⟩) hP (by simp)).trans (hc na h1)
      have hA := HS.out.pushA (f na) (by omega)
      go_wp2_with fail
      refine hA.mono ?_
      clear hA
      rintro r w2 ⟨rfl, ea2, hS2⟩
      have HS2 := hid hS2
      clear hS2 e0
      have e1 := (HS2.out.ap.cell (p := ⟨P, o + na, none⟩) hP (by simp)).trans (hc na h1)
      have hC := HS2.out.pushC (f na) (by omega)
      go_wp2_with fail
      refine hC.mono ?_
      clear hC
      rintro r w3 ⟨rfl, ec3, hS3⟩
      have HS3 := hid hS3
      clear hS3 e1 hc
      by_cases h2 : na < M
      · obtain rfl : nb = na := by have := hnb.out; omega
        have g2 : decide ((nb : Int) < (M : Int)) = true := decide_eq_true (by omega)
        obtain ⟨P2, o2, rfl, hP2, hc2⟩ := HT.out (by omega)
        have e2 := (HS3.out.ap.cell (p := ⟨P2, o2 + nb, none⟩) hP2 (by simp)).trans (hc2 nb h2)
        have hB := (HS3.out.keep (w' := w3.alloc (.cells #[.int .i64 nb] 3)) ((im.Apart.refl _ _).alloc _)).pushB w3.heap.size (heap_alloc_new w3 _) (by omega)
        clear hc2
        go_wp2_with fail
        refine hB.mono ?_
        clear hB
        rintro r w4 ⟨rfl, eb4, hS4⟩
        have HS4 := hid hS4
        clear hS4 e2
        go_wp2
        go_roundw
        case rel => exact ⟨nb + 1, by go_num, by omega, _, _, _, _, _, by have := hna.out; have := hnb.out; omega, by have := hna.out; have := hnb.out; omega, HS4.out⟩
        case measure => simp [intOf]; omega
      · have g2 : decide ((na : Int) < (M : Int)) = false := decide_eq_false (by omega)
        go_wp2
        go_roundw
        case rel => exact ⟨na + 1, by go_num, by omega, _, _, _, _, _, by have := hna.out; have := hnb.out; omega, by have := hna.out; have := hnb.out; omega, HS3.out⟩
        case measure => simp [intOf]; omega
    · by_cases h2 : i < M
      · obtain rfl : nb = i := by have := hnb.out; omega
        have g1 : decide ((nb : Int) < (N : Int)) = false := decide_eq_false (by omega)
        have g2 : decide ((nb : Int) < (M : Int)) = true := decide_eq_true (by omega)
        obtain ⟨P2, o2, rfl, hP2, hc2⟩ := HT.out (by omega)
        have e2 := (HS.out.ap.cell (p := ⟨P2, o2 + nb, none⟩) hP2 (by simp)).trans (hc2 nb h2)
        have hB := (HS.out.keep (w' := wr.alloc (.cells #[.int .i64 nb] 3)) ((im.Apart.refl _ _).alloc _)).pushB wr.heap.size (heap_alloc_new wr _) (by omega)
        clear hc2
        go_wp2_with fail
        refine hB.mono ?_
        clear hB
        rintro r w4 ⟨rfl, eb4, hS4⟩
        have HS4 := hid hS4
        clear hS4 e2
        go_wp2
        go_roundw
        case rel => exact ⟨nb + 1, by go_num, by omega, _, _, _, _, _, by have := hna.out; have := hnb.out; omega, by have := hna.out; have := hnb.out; omega, HS4.out⟩
        case measure => simp [intOf]; omega
      · obtain rfl : na = N := by have := hna.out; omega
        obtain rfl : nb = M := by have := hnb.out; omega
        have g1 : decide ((i : Int) < (na : Int)) = false := decide_eq_false (by omega)
        have g2 : decide ((i : Int) < (nb : Int)) = false := decide_eq_false (by omega)
        go_wp2_with fail
        exact HKK.out _ _ _ _ _ _ _ _ _ _ _ _ _ _ _ _ _ _ _ _ _ _ _ _ _ _ _ _ _ _ _ _ _ _ _ _ _ _ _ _ _ _ _ _ _ _ _ _ HS.out
end Go.Proofs.Ytopmhacnopfifaa.kk
