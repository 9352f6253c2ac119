import Derived.Test.YtopmhacnopfifaaKA
import Derived.Deep.CutBlock
import Derived.Great.BuildSlice
import Derived.Laws.StructEq
namespace Go.Proofs.Ytopmhacnopfifaa.kk
open Go.ChangeShapes Go.WideShapes Go.ChangeAt Go.RowKit
set_option linter.unusedVariables false
set_option linter.unusedSimpArgs false

theorem guard46 : Try.prog.eqGuardType Try.prog.depth 46 = false := by kernel_rfl
set_option maxRecDepth 100000 in
theorem neq46 (W : World) (a b c d : Int) : Sem.run Try.prog (binOp BinOp.neq 46 (.agg #[.int .i64 a, .int .i64 b, .int .i64 c, .int .i64 d]) (.agg #[.int .i64 a, .int .i64 b, .int .i64 c, .int .i64 d])) W = .ok (.bool false) W := by
  have hS : Try.prog.underlying 46 = some (.struct (Try.prog.fieldsOf 46)) := by kernel_rfl
  have hp : Try.prog.stoodInHeld 46 = false := by kernel_rfl
  rw [run_neq_struct, show (10000 : Nat) = 9998 + 1 + 1 from rfl, run_equalIn_agg _ _ _ _ _ hS hp]
  simp only [Program.fieldsOf, Try.underlying46]
  simp [go_sem, Try.underlying3]
/-- both heaps while they are emptied -/
structure P4 (w0 w : World) (A B C Bl Bn : Nat) (l : List im.E) (nn : List tm.E) (eb : List nm.E) (N na nb nc i j : Nat) : Prop where
  ap : im.Apart [] w0 w
  a : ∃ ea, HA w0 w A ea na ∧ (l.drop i).Perm ea
  b : HB w0 w B eb nb
  c : ∃ ec, HC w0 w C ec nc ∧ (nn.take (N - j)).Perm ec
  ol : w.ownsRow 0 3 1 (.slice (some ⟨Bl, 0, none⟩) N N) N (im.flat2 l)
  on : w.ownsRow 0 46 4 (.slice (some ⟨Bn, 0, none⟩) N N) N (tm.flat2 nn)
/-- the rows are in order, no age twice -/
structure R4 (l : List im.E) (nn : List tm.E) (N : Nat) : Prop where
  ll : l.length = N
  nl : nn.length = N
  sl : l.Pairwise (fun x y => im.lex y x = false)
  sn : nn.Pairwise (fun x y => tm.lexC y x = false)
  dl : l.Pairwise (fun x y => x.a ≠ y.a)
  dn : nn.Pairwise (fun x y => x.a ≠ y.a)
section
variable {w0 w w' : World} {A B C Bl Bn : Nat} {l : List im.E} {nn : List tm.E} {eb : List nm.E} {N na nb nc i j : Nat}
theorem P4.keep (h : P4 w0 w A B C Bl Bn l nn eb N na nb nc i j) (a : im.Apart [] w w') : P4 w0 w' A B C Bl Bn l nn eb N na nb nc i j := by
  have m : Mv w0 [] w w' := .of a
  obtain ⟨ea, a1, a2⟩ := h.a
  obtain ⟨ec, c1, c2⟩ := h.c
  exact ⟨m.ap h.ap, ⟨ea, a1.mv m (by simp) (by simp), a2⟩, h.b.mv m (by simp) (by simp), ⟨ec, c1.mv m (by simp) (by simp), c2⟩, m.row h.ol (by simp), m.row h.on (by simp)⟩
theorem P4.pop (h : P4 w0 w A B C Bl Bn l nn eb N na nb nc i j) (r : R4 l nn N) (hi : i < N) :
    Calls Try.prog 37 #[.pointer (some ⟨A, 0, none⟩)] w fun r w' => r = .returned (.tuple #[.int .i64 (im.g l i).r, .bool true]) ∧ P4 w0 w' A B C Bl Bn l nn eb N na nb nc (i + 1) j := by
  obtain ⟨ea, a1, a2⟩ := h.a
  obtain ⟨ec, c1, c2⟩ := h.c
  have hil : i < l.length := by rw [r.ll]; exact hi
  have hd : l.drop i = im.g l i :: l.drop (i + 1) := by rw [im.g_eq _ _ hil]; exact List.drop_eq_getElem_cons hil
  have hle : ea.length = N - (i + 1) + 1 := by rw [← a2.length_eq, List.length_drop, r.ll]; omega
  refine (a1.pop (l := l.drop (i + 1)) (M := N - (i + 1)) (im.g l i) (by rw [← hd]; exact a2) (by rw [← hd]; exact r.sl.sublist (List.drop_sublist i l)) (pw_perm a2.symm (r.dl.sublist (List.drop_sublist i l))) hle h.ap.size).mono ?_
  rintro r w' ⟨rfl, m, cs, h1, p⟩
  exact ⟨rfl, m.ap h.ap, ⟨cs, h1, p⟩, h.b.mv m (by simp) (by simp), ⟨ec, c1.mv m (by simp) (by simp), c2⟩, m.row h.ol (by simp), m.row h.on (by simp)⟩
theorem P4.take (h : P4 w0 w A B C Bl Bn l nn eb N na nb nc i j) (r : R4 l nn N) (k : Nat) (hj : N = j + 1 + k) :
    Calls Try.prog 38 #[.pointer (some ⟨C, 0, none⟩), .int .i64 (k : Int)] w fun r w' => r = .returned (.tuple #[.agg #[.int .i64 (tm.g nn k).r, .int .i64 (tm.g nn k).m, .int .i64 (tm.g nn k).k, .int .i64 (tm.g nn k).c], .bool true]) ∧ P4 w0 w' A B C Bl Bn l nn eb N na nb nc i (j + 1) := by
  obtain ⟨ea, a1, a2⟩ := h.a
  obtain ⟨ec, c1, c2⟩ := h.c
  have hkl : k < nn.length := by rw [r.nl]; omega
  have hd : nn.take (N - j) = nn.take k ++ [tm.g nn k] := by
    rw [tm.g_eq _ _ hkl, show N - j = k + 1 from by omega, List.take_add_one, List.getElem?_eq_getElem hkl]; rfl
  refine (c1.take (l := nn.take k) (M := k) (tm.g nn k) (by rw [← hd]; exact c2) (by rw [← hd]; exact r.sn.sublist (List.take_sublist _ _)) (pw_perm c2.symm (r.dn.sublist (List.take_sublist _ _))) (by rw [List.length_take, r.nl]; omega) h.ap.size).mono ?_
  rintro r w' ⟨rfl, m, cs, h1, p⟩
  refine ⟨rfl, m.ap h.ap, ⟨ea, a1.mv m (by simp) (by simp), a2⟩, h.b.mv m (by simp) (by simp), ⟨cs, h1, ?_⟩, m.row h.ol (by simp), m.row h.on (by simp)⟩
  rw [show N - (j + 1) = k from by omega]
  exact p
end
set_option maxHeartbeats 16000000 in
set_option maxRecDepth 1000000 in
theorem blk6 {w0 : World} {A B C : Nat} {T : Nat → ByteArray} {f : Nat → Int} {pn : Option Addr} {N cn : Nat} {pt : Option Addr} {M ct : Nat} {W1 : World} {Bl Bn : Nat} {l : List im.E} {nn : List tm.E} {eb : List nm.E} {na nb nc : Nat} (hN : N ≤ 1048576) (HR4 : Hid (R4 l nn N)) (HP : Hid (P4 w0 W1 A B C Bl Bn l nn eb N na nb nc 0 0)) {sl0 sl1 sl2 sl3 sl4 sl6 sl8 sl10 sl12 sl13 sl15 sl16 sl17 sl18 sl19 sl20 sl21 sl22 sl23 sl24 sl25 sl26 sl27 sl28 sl29 sl30 sl31 sl32 sl33 sl34 sl35 sl36 sl37 sl38 sl39 sl40 sl41 sl42 sl43 sl44 sl45 sl46 sl47 sl48 sl49 sl50 sl51 sl52 sl53 sl54 sl55 sl56 sl57 sl58 sl59 sl60 sl61 sl62 sl63 sl64 sl65 sl66 sl67 sl68 sl69 sl70 sl71 sl72 sl73 sl74 sl75 sl76 sl77 sl78 sl79 sl80 sl81 sl82 sl83 sl84 sl85 sl86 sl87 sl88 sl89 sl90 sl91 sl92 sl93 sl94 sl95 sl96 sl97 sl98 sl99 sl100 sl101 sl102 sl103 sl104 sl105 sl106 sl107 sl108 sl109 sl110 sl111 sl112 sl113 sl114 sl115 sl116 sl117 sl118 sl119 sl120 sl121 sl122 sl123 sl124 sl125 sl126 sl127 sl128 sl129 sl130 sl131 sl132 sl133 sl134 sl135 sl136 sl137 sl138 sl139 sl140 sl141 sl142 sl143 sl144 sl145 sl146 sl147 sl148 sl149 sl150 sl151 sl152 sl153 sl154 sl155 sl156 sl157 sl158 sl159 sl160 sl161 sl162 sl163 sl164 sl165 sl166 sl167 sl168 sl169 sl170 sl171 sl172 sl173 sl174 sl175 sl176 sl177 sl178 sl179 sl180 sl181 sl182 sl183 sl184 sl185 sl186 sl187 sl188 sl189 sl190 sl191 sl192 sl193 sl194 sl195 sl196 sl197 sl198 sl199 sl200 sl201 sl202 sl203 sl204 sl205 sl206 sl207 sl208 sl209 sl210 sl211 sl212 sl213 sl214 sl215 sl216 sl217 sl218 sl219 sl220 sl221 sl222 sl223 sl224 sl225 sl226 sl227 sl228 sl229 sl230 sl231 sl232 sl233 sl234 sl235 sl236 sl237 sl238 sl239 sl240 sl241 sl242 sl243 sl244 sl245 sl246 sl247 sl248 sl249 sl250 sl251 sl252 sl253 sl254 sl255 sl256 sl257 sl258 sl259 sl260 sl261 sl262 sl263 sl264 sl265 sl266 sl267 sl268 sl269 sl270 sl271 sl272 sl273 sl274 sl275 sl276 sl277 sl278 sl279 sl280 sl281 sl282 sl283 sl284 sl285 sl286 sl287 sl288 sl289 sl290 sl291 sl292 sl293 sl294 sl295 sl296 sl297 sl298 sl299 sl300 sl301 sl302 sl303 sl304 sl305 sl306 sl307 sl308 sl309 sl310 sl311 sl312 sl313 sl314 sl315 sl316 sl317 sl318 sl319 sl320 sl321 sl322 sl323 sl324 sl325 sl326 sl327 sl328 : Value} {K' : Act → World → Prop} {Q' : Exit → Act → World → Prop} (hQ : ∀ x (a : Act) (d : Nat) v (w : World), Q' (.panic x) (a.put (some d) v) w → Q' (.panic x) a w) (hK : ∀ (W' : World) (nt4 nt14 nt15 nt16 nt17 nt18 nt267 nt268 nt269 nt270 nt271 nt272 nt273 nt274 nt275 nt276 nt277 nt278 nt279 nt280 nt281 nt282 nt283 nt284 nt285 nt286 nt287 nt288 nt289 nt290 nt291 nt292 nt293 nt294 nt295 nt296 nt297 nt298 nt299 nt300 nt301 nt302 nt303 nt304 nt305 nt306 nt307 nt308 nt309 nt310 nt311 nt312 nt313 : Value), P4 w0 W' A B C Bl Bn l nn eb N na nb nc N N → K' ⟨#[sl0, sl1, sl2, sl3, nt4, (.pointer (some ⟨A, 0, none⟩)), sl6, (.pointer (some ⟨C, 0, none⟩)), sl8, (.slice (some ⟨Bl, 0, none⟩) N N), sl10, (.slice (some ⟨Bn, 0, none⟩) N N), sl12, sl13, nt14, nt15, nt16, nt17, nt18, sl19, sl20, sl21, sl22, sl23, sl24, sl25, sl26, sl27, sl28, sl29, sl30, sl31, sl32, sl33, sl34, sl35, sl36, sl37, sl38, sl39, sl40, sl41, sl42, sl43, sl44, sl45, sl46, sl47, sl48, sl49, sl50, sl51, sl52, sl53, sl54, sl55, sl56, sl57, sl58, sl59, sl60, sl61, sl62, sl63, sl64, sl65, sl66, sl67, sl68, sl69, sl70, sl71, sl72, sl73, sl74, sl75, sl76, sl77, sl78, sl79, sl80, sl81, sl82, sl83, sl84, sl85, sl86, sl87, sl88, sl89, sl90, sl91, sl92, sl93, sl94, sl95, sl96, sl97, sl98, sl99, sl100, sl101, sl102, sl103, sl104, sl105, sl106, sl107, sl108, sl109, sl110, sl111, sl112, sl113, sl114, sl115, sl116, sl117, sl118, sl119, sl120, sl121, sl122, sl123, sl124, sl125, sl126, sl127, sl128, sl129, sl130, sl131, sl132, sl133, sl134, sl135, sl136, sl137, sl138, sl139, sl140, sl141, sl142, sl143, sl144, sl145, sl146, sl147, sl148, sl149, sl150, sl151, sl152, sl153, sl154, sl155, sl156, sl157, sl158, sl159, sl160, sl161, sl162, sl163, sl164, sl165, sl166, sl167, sl168, sl169, sl170, sl171, sl172, sl173, sl174, sl175, sl176, sl177, sl178, sl179, sl180, sl181, sl182, sl183, sl184, sl185, sl186, sl187, sl188, sl189, sl190, sl191, sl192, sl193, sl194, sl195, sl196, sl197, sl198, sl199, sl200, sl201, sl202, sl203, sl204, sl205, sl206, sl207, sl208, sl209, sl210, sl211, sl212, sl213, sl214, sl215, sl216, sl217, sl218, sl219, sl220, sl221, sl222, sl223, sl224, sl225, sl226, sl227, sl228, sl229, sl230, sl231, sl232, sl233, sl234, sl235, sl236, sl237, sl238, sl239, sl240, sl241, sl242, sl243, sl244, sl245, sl246, sl247, sl248, sl249, sl250, sl251, sl252, sl253, sl254, sl255, sl256, sl257, sl258, sl259, sl260, sl261, sl262, sl263, sl264, sl265, sl266, nt267, nt268, nt269, nt270, nt271, nt272, nt273, nt274, nt275, nt276, nt277, nt278, nt279, nt280, nt281, nt282, nt283, nt284, nt285, nt286, nt287, nt288, nt289, nt290, nt291, nt292, nt293, nt294, nt295, nt296, nt297, nt298, nt299, nt300, nt301, nt302, nt303, nt304, nt305, nt306, nt307, nt308, nt309, nt310, nt311, nt312, nt313, sl314, sl315, sl316, sl317, sl318, sl319, sl320, sl321, sl322, sl323, sl324, sl325, sl326, sl327, sl328], []⟩ W') :
    Code.wp Try.prog (blkC 6) (Exit.then K' Q') ⟨#[sl0, sl1, sl2, sl3, sl4, (.pointer (some ⟨A, 0, none⟩)), sl6, (.pointer (some ⟨C, 0, none⟩)), sl8, (.slice (some ⟨Bl, 0, none⟩) N N), sl10, (.slice (some ⟨Bn, 0, none⟩) N N), sl12, sl13, (.int .i64 0), sl15, sl16, sl17, sl18, sl19, sl20, sl21, sl22, sl23, sl24, sl25, sl26, sl27, sl28, sl29, sl30, sl31, sl32, sl33, sl34, sl35, sl36, sl37, sl38, sl39, sl40, sl41, sl42, sl43, sl44, sl45, sl46, sl47, sl48, sl49, sl50, sl51, sl52, sl53, sl54, sl55, sl56, sl57, sl58, sl59, sl60, sl61, sl62, sl63, sl64, sl65, sl66, sl67, sl68, sl69, sl70, sl71, sl72, sl73, sl74, sl75, sl76, sl77, sl78, sl79, sl80, sl81, sl82, sl83, sl84, sl85, sl86, sl87, sl88, sl89, sl90, sl91, sl92, sl93, sl94, sl95, sl96, sl97, sl98, sl99, sl100, sl101, sl102, sl103, sl104, sl105, sl106, sl107, sl108, sl109, sl110, sl111, sl112, sl113, sl114, sl115, sl116, sl117, sl118, sl119, sl120, sl121, sl122, sl123, sl124, sl125, sl126, sl127, sl128, sl129, sl130, sl131, sl132, sl133, sl134, sl135, sl136, sl137, sl138, sl139, sl140, sl141, sl142, sl143, sl144, sl145, sl146, sl147, sl148, sl149, sl150, sl151, sl152, sl153, sl154, sl155, sl156, sl157, sl158, sl159, sl160, sl161, sl162, sl163, sl164, sl165, sl166, sl167, sl168, sl169, sl170, sl171, sl172, sl173, sl174, sl175, sl176, sl177, sl178, sl179, sl180, sl181, sl182, sl183, sl184, sl185, sl186, sl187, sl188, sl189, sl190, sl191, sl192, sl193, sl194, sl195, sl196, sl197, sl198, sl199, sl200, sl201, sl202, sl203, sl204, sl205, sl206, sl207, sl208, sl209, sl210, sl211, sl212, sl213, sl214, sl215, sl216, sl217, sl218, sl219, sl220, sl221, sl222, sl223, sl224, sl225, sl226, sl227, sl228, sl229, sl230, sl231, sl232, sl233, sl234, sl235, sl236, sl237, sl238, sl239, sl240, sl241, sl242, sl243, sl244, sl245, sl246, sl247, sl248, sl249, sl250, sl251, sl252, sl253, sl254, sl255, sl256, sl257, sl258, sl259, sl260, sl261, sl262, sl263, sl264, sl265, sl266, sl267, sl268, sl269, sl270, sl271, sl272, sl273, sl274, sl275, sl276, sl277, sl278, sl279, sl280, sl281, sl282, sl283, sl284, sl285, sl286, sl287, sl288, sl289, sl290, sl291, sl292, sl293, sl294, sl295, sl296, sl297, sl298, sl299, sl300, sl301, sl302, sl303, sl304, sl305, sl306, sl307, sl308, sl309, sl310, sl311, sl312, sl313, sl314, sl315, sl316, sl317, sl318, sl319, sl320, sl321, sl322, sl323, sl324, sl325, sl326, sl327, sl328], []⟩ W1 := by
  have HKK := hid hK
  clear hK
  conv => arg 2; whnf
  go_wp2_with fail
  go_loopw [14] (fun v wr => ∃ i : Nat, v = .int .i64 (i : Nat) ∧ i ≤ N ∧ P4 w0 wr A B C Bl Bn l nn eb N na nb nc i i) (fun v _ => N - (intOf v).toNat)
  case atStart => exact ⟨0, rfl, Nat.zero_le _, HP.out⟩
  case round =>
    clear HP
    obtain ⟨i, rfl, hi, hP⟩ := hrel
    have HP := hid hP
    clear hP
    by_cases h1 : i < N
    · have hA := HP.out.pop HR4.out h1
      go_wp2_with fail
      refine hA.mono ?_
      clear hA
      rintro r w2 ⟨rfl, hP2⟩
      have HP2 := hid hP2
      clear hP2
      obtain ⟨k, hk⟩ : ∃ k, N = i + 1 + k := ⟨N - (i + 1), by omega⟩
      have hx : (N : Int) - 1 - (i : Int) = (k : Int) := by omega
      have HKE := hid hk
      have hkN : k < N := by omega
      have hC := HP2.out.take HR4.out k hk
      clear hk
      go_wp2_with fail
      refine hC.mono ?_
      clear hC
      rintro r w3 ⟨rfl, hP3⟩
      have HP3 := hid hP3
      clear hP3
      have hP4 := HP3.out.keep (w' := w3.alloc (.cells #[.int .i64 (tm.g nn k).r, .int .i64 (tm.g nn k).m, .int .i64 (tm.g nn k).k, .int .i64 (tm.g nn k).c] 46)) ((im.Apart.refl _ _).alloc _)
      have HP4 := hid hP4
      clear hP4
      have a0 := (HP4.out.ol.cellAt i (by omega)).trans (im.flat2_get l i (by rw [HR4.out.ll]; exact h1))
      obtain ⟨q0, q1, q2, q3⟩ := tm.flat2_get nn k (by rw [HR4.out.nl]; exact hkN)
      have b0 := (HP4.out.on.cellAt (k * 4) (by omega)).trans q0
      have b1 := (HP4.out.on.cellAt (k * 4 + 1) (by omega)).trans q1
      have b2 := (HP4.out.on.cellAt (k * 4 + 2) (by omega)).trans q2
      have b3 := (HP4.out.on.cellAt (k * 4 + 3) (by omega)).trans q3
      have hneq := fun W => neq46 W (tm.g nn k).r (tm.g nn k).m (tm.g nn k).k (tm.g nn k).c
      have hgd := guard46
      have bX := heap_alloc_new w3 (.cells #[.int .i64 (tm.g nn k).r, .int .i64 (tm.g nn k).m, .int .i64 (tm.g nn k).k, .int .i64 (tm.g nn k).c] 46)
      clear q0 q1 q2 q3
      generalize (tm.g nn k).r = y0 at *
      generalize (tm.g nn k).m = y1 at *
      generalize (tm.g nn k).k = y2 at *
      generalize (tm.g nn k).c = y3 at *
      generalize (im.g l i).r = x0 at *
      go_wp2_with fail
      have x0' : (w3.alloc (.cells #[.int .i64 y0, .int .i64 y1, .int .i64 y2, .int .i64 y3] 46)).cell? ⟨w3.heap.size, 0, none⟩ = some (.int .i64 y0) := by rw [cell_of_row _ _ _ _ _ _ bX]; rfl
      have x1' : (w3.alloc (.cells #[.int .i64 y0, .int .i64 y1, .int .i64 y2, .int .i64 y3] 46)).cell? ⟨w3.heap.size, 1, none⟩ = some (.int .i64 y1) := by rw [cell_of_row _ _ _ _ _ _ bX]; rfl
      have x2' : (w3.alloc (.cells #[.int .i64 y0, .int .i64 y1, .int .i64 y2, .int .i64 y3] 46)).cell? ⟨w3.heap.size, 2, none⟩ = some (.int .i64 y2) := by rw [cell_of_row _ _ _ _ _ _ bX]; rfl
      have x3' : (w3.alloc (.cells #[.int .i64 y0, .int .i64 y1, .int .i64 y2, .int .i64 y3] 46)).cell? ⟨w3.heap.size, 3, none⟩ = some (.int .i64 y3) := by rw [cell_of_row _ _ _ _ _ _ bX]; rfl
      clear bX
      generalize w3.alloc (.cells #[.int .i64 y0, .int .i64 y1, .int .i64 y2, .int .i64 y3] 46) = w4 at *
      go_quiet (fail)
      go_wp2
      go_roundw
      case rel => exact ⟨i + 1, by go_num, by omega, HP4.out.keep ((im.Apart.refl _ _).drewN _)⟩
      case measure => simp [intOf]; omega
    · obtain rfl : i = N := by omega
      go_wp2_with fail
      exact HKK.out _ _ _ _ _ _ _ _ _ _ _ _ _ _ _ _ _ _ _ _ _ _ _ _ _ _ _ _ _ _ _ _ _ _ _ _ _ _ _ _ _ _ _ _ _ _ _ _ _ _ _ _ _ _ HP.out
end Go.Proofs.Ytopmhacnopfifaa.kk
