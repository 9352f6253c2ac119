import Derived.Test.YtdggkofihppcmaaDoorKw6a
import Derived.Deep.CutBlock
namespace Go.Proofs.YtdggkofihppcmaaDoor.ds
open Go.ChangeShapes Go.WideShapes Go.ChangeAt Go.RowKit
set_option linter.unusedVariables false
set_option linter.unusedSimpArgs false
set_option maxHeartbeats 16000000 in
set_option maxRecDepth 1000000 in
theorem blkF {w : World} {i OB : Nat} {kind gap stop : Int} {pa : Option Addr} {na ca : Nat} {pb : Option Addr} {nb cb : Nat} {dn dc : Int} {xs ys : List S} {e1 : Int} {z1 : List S} {e2 : Int} {z2 : List S} {av qv : Value} {G cg GB : Nat} {gp : Nat → Option Addr} {gn gc : Nat → Nat} {qv2 av2 : Value} {p1 : Option Addr} {n1 c1 : Nat} {p2 : Option Addr} {n2 c2 : Nat} {p3 : Option Addr} {n3 c3 : Nat} {p4 : Option Addr} {n4 c4 : Nat} {p5 : Option Addr} {n5 c5 : Nat} {p6 : Option Addr} {n6 c6 : Nat} {W17 : World} {A : List (Value × List S)} (hna : na ≤ 1048576) (hxs : xs.length = na) (HC : Hid (CI w W17 i 3 OB GB #[.int .i64 kind, .int .i64 gap, .int .i64 stop, .slice pa na ca, .slice pb nb cb, .int .i64 dn, .int .i64 dc] gp gn gc av2 qv2 A [(.slice p1 n1 c1, z1), (.slice p2 n2 c2, z1), (.slice p3 n3 c3, z2), (.slice p4 n4 c4, z2), (.slice p5 n5 c5, bas (norm xs)), (.slice p6 n6 c6, bas (norm xs))] (some (G, na + 2, cg, xs ++ [m1, m2])))) {sl0 sl1 sl2 sl3 sl4 sl5 sl6 sl7 sl8 sl9 sl10 sl11 sl12 sl13 sl14 sl15 sl17 sl18 sl19 sl20 sl21 sl22 sl23 sl24 sl26 sl27 sl28 sl29 sl30 sl31 sl32 sl33 sl34 sl35 sl36 sl37 sl38 sl39 sl40 sl41 sl42 sl43 sl44 sl45 sl46 sl47 sl48 sl49 sl50 sl51 sl52 sl53 sl54 sl55 sl56 sl57 sl58 sl59 sl60 sl61 sl62 sl63 sl64 sl65 sl66 sl67 sl68 sl69 sl70 sl71 sl72 sl73 sl74 sl75 sl76 sl77 sl78 sl79 sl80 sl81 sl82 sl83 sl84 sl85 sl86 sl87 sl88 sl89 sl90 sl91 sl92 sl93 sl94 sl95 sl96 sl97 sl98 sl99 sl100 sl101 sl102 sl103 sl104 sl105 sl106 sl107 sl108 sl109 sl110 sl111 sl112 sl113 sl114 sl115 sl116 sl117 sl118 sl119 sl120 sl121 sl122 sl123 sl124 sl125 sl126 sl127 sl128 sl129 sl130 sl131 sl132 sl133 sl134 sl135 sl136 sl137 sl138 sl139 sl140 sl141 sl142 sl143 sl144 sl145 sl146 sl147 sl148 sl149 sl150 sl151 sl152 sl153 sl154 sl155 sl156 sl157 sl158 sl159 sl160 sl161 sl162 sl163 sl164 sl165 sl166 sl167 sl168 sl169 sl170 sl171 sl172 sl173 sl174 sl175 sl176 sl177 sl178 sl179 sl180 sl181 sl182 sl183 sl184 sl185 sl186 sl187 sl188 sl189 sl190 sl191 sl192 sl193 sl194 sl195 sl196 sl197 sl198 sl199 sl200 sl201 sl202 sl203 sl204 sl205 sl206 sl207 sl208 sl209 sl210 sl211 sl212 sl213 sl214 sl215 sl216 sl217 sl218 sl219 sl220 sl221 sl222 sl223 sl224 sl225 sl226 sl227 sl228 sl229 sl230 sl231 sl232 sl233 sl234 sl235 sl236 sl237 sl238 sl239 sl240 sl241 sl242 sl243 sl244 sl245 sl246 sl247 sl248 sl249 sl250 sl251 sl252 sl253 sl254 sl255 sl256 sl257 : Value} {K' : Act → World → Prop} {Q' : Exit → Act → World → Prop} (hQ : ∀ x (a : Act) (d : Nat) v (w : World), Q' (.panic x) (a.put (some d) v) w → Q' (.panic x) a w) (hK : ∀ (W' : World) (nt25 nt195 nt196 nt197 nt198 nt199 nt200 nt201 nt202 nt203 nt204 nt205 : Value), (CI w W' i 3 OB GB #[.int .i64 kind, .int .i64 gap, .int .i64 stop, .slice pa na ca, .slice pb nb cb, .int .i64 dn, .int .i64 dc] gp gn gc av2 qv2 A [(.slice p1 n1 c1, z1), (.slice p2 n2 c2, z1), (.slice p3 n3 c3, z2), (.slice p4 n4 c4, z2), (.slice p5 n5 c5, bas (norm xs)), (.slice p6 n6 c6, bas (norm xs))] (some (G, na + 2, cg, ((List.range na).map sp4 ++ [sp4 na, sp4 (na + 1)])))) → K' ⟨#[sl0, sl1, sl2, sl3, sl4, sl5, sl6, sl7, sl8, sl9, sl10, sl11, sl12, sl13, sl14, sl15, (.slice (some ⟨G, 0, none⟩) (na + 2) cg), sl17, sl18, sl19, sl20, sl21, sl22, sl23, sl24, nt25, sl26, sl27, sl28, sl29, sl30, sl31, sl32, sl33, sl34, sl35, sl36, sl37, sl38, sl39, sl40, sl41, sl42, sl43, sl44, sl45, sl46, sl47, sl48, sl49, sl50, sl51, sl52, sl53, sl54, sl55, sl56, sl57, sl58, sl59, sl60, sl61, sl62, sl63, sl64, sl65, sl66, sl67, sl68, sl69, sl70, sl71, sl72, sl73, sl74, sl75, sl76, sl77, sl78, sl79, sl80, sl81, sl82, sl83, sl84, sl85, sl86, sl87, sl88, sl89, sl90, sl91, sl92, sl93, sl94, sl95, sl96, sl97, sl98, sl99, sl100, sl101, sl102, sl103, sl104, sl105, sl106, sl107, sl108, sl109, sl110, sl111, sl112, sl113, sl114, sl115, sl116, sl117, sl118, sl119, sl120, sl121, sl122, sl123, sl124, sl125, sl126, sl127, sl128, sl129, sl130, sl131, sl132, sl133, sl134, sl135, sl136, sl137, sl138, sl139, sl140, sl141, sl142, sl143, sl144, sl145, sl146, sl147, sl148, sl149, sl150, sl151, sl152, sl153, sl154, sl155, sl156, sl157, sl158, sl159, sl160, sl161, sl162, sl163, sl164, sl165, sl166, sl167, sl168, sl169, sl170, sl171, sl172, sl173, sl174, sl175, sl176, sl177, sl178, sl179, sl180, sl181, sl182, sl183, sl184, sl185, sl186, sl187, sl188, sl189, sl190, sl191, sl192, sl193, sl194, nt195, nt196, nt197, nt198, nt199, nt200, nt201, nt202, nt203, nt204, nt205, sl206, sl207, sl208, sl209, sl210, sl211, sl212, sl213, sl214, sl215, sl216, sl217, sl218, sl219, sl220, sl221, sl222, sl223, sl224, sl225, sl226, sl227, sl228, sl229, sl230, sl231, sl232, sl233, sl234, sl235, sl236, sl237, sl238, sl239, sl240, sl241, sl242, sl243, sl244, sl245, sl246, sl247, sl248, sl249, sl250, sl251, sl252, sl253, sl254, sl255, sl256, sl257], []⟩ W') :
    Code.wp Tryd.prog (blkC 8) (Exit.then K' Q') ⟨#[sl0, sl1, sl2, sl3, sl4, sl5, sl6, sl7, sl8, sl9, sl10, sl11, sl12, sl13, sl14, sl15, (.slice (some ⟨G, 0, none⟩) (na + 2) cg), sl17, sl18, sl19, sl20, sl21, sl22, sl23, sl24, (.int .i64 0), sl26, sl27, sl28, sl29, sl30, sl31, sl32, sl33, sl34, sl35, sl36, sl37, sl38, sl39, sl40, sl41, sl42, sl43, sl44, sl45, sl46, sl47, sl48, sl49, sl50, sl51, sl52, sl53, sl54, sl55, sl56, sl57, sl58, sl59, sl60, sl61, sl62, sl63, sl64, sl65, sl66, sl67, sl68, sl69, sl70, sl71, sl72, sl73, sl74, sl75, sl76, sl77, sl78, sl79, sl80, sl81, sl82, sl83, sl84, sl85, sl86, sl87, sl88, sl89, sl90, sl91, sl92, sl93, sl94, sl95, sl96, sl97, sl98, sl99, sl100, sl101, sl102, sl103, sl104, sl105, sl106, sl107, sl108, sl109, sl110, sl111, sl112, sl113, sl114, sl115, sl116, sl117, sl118, sl119, sl120, sl121, sl122, sl123, sl124, sl125, sl126, sl127, sl128, sl129, sl130, sl131, sl132, sl133, sl134, sl135, sl136, sl137, sl138, sl139, sl140, sl141, sl142, sl143, sl144, sl145, sl146, sl147, sl148, sl149, sl150, sl151, sl152, sl153, sl154, sl155, sl156, sl157, sl158, sl159, sl160, sl161, sl162, sl163, sl164, sl165, sl166, sl167, sl168, sl169, sl170, sl171, sl172, sl173, sl174, sl175, sl176, sl177, sl178, sl179, sl180, sl181, sl182, sl183, sl184, sl185, sl186, sl187, sl188, sl189, sl190, sl191, sl192, sl193, sl194, sl195, sl196, sl197, sl198, sl199, sl200, sl201, sl202, sl203, sl204, sl205, sl206, sl207, sl208, sl209, sl210, sl211, sl212, sl213, sl214, sl215, sl216, sl217, sl218, sl219, sl220, sl221, sl222, sl223, sl224, sl225, sl226, sl227, sl228, sl229, sl230, sl231, sl232, sl233, sl234, sl235, sl236, sl237, sl238, sl239, sl240, sl241, sl242, sl243, sl244, sl245, sl246, sl247, sl248, sl249, sl250, sl251, sl252, sl253, sl254, sl255, sl256, sl257], []⟩ W17 := by
  have HKK := hid hK
  clear hK
  conv => arg 2; whnf
  go_wp2_with fail
  go_loopw [25] (fun vj wr => ∃ j : Nat, j ≤ na + 2 ∧ vj = .int .i64 (j : Nat) ∧ (CI w wr i 3 OB GB #[.int .i64 kind, .int .i64 gap, .int .i64 stop, .slice pa na ca, .slice pb nb cb, .int .i64 dn, .int .i64 dc] gp gn gc av2 qv2 A [(.slice p1 n1 c1, z1), (.slice p2 n2 c2, z1), (.slice p3 n3 c3, z2), (.slice p4 n4 c4, z2), (.slice p5 n5 c5, bas (norm xs)), (.slice p6 n6 c6, bas (norm xs))] (some (G, na + 2, cg, (af j (xs ++ [m1, m2])))))) (fun vj _ => na + 2 - (intOf vj).toNat)
  case atStart => exact ⟨0, by omega, rfl, by rw [af_zero]; exact HC.out⟩
  case round =>
    clear HC
    obtain ⟨j, hj, rfl, hC⟩ := hrel
    have HC := hid hC
    clear hC
    by_cases hjn : j < na + 2
    · obtain ⟨o3, hn3, hb3⟩ := HC.out.st.lt
      have hll : (xs ++ [m1, m2]).length = na + 2 := by simp [hxs]
      obtain ⟨cur, hcur, hsz⟩ := own_cells3 o3 hn3
      have ce : ∀ q, q < (na + 2) * 3 → ∃ u, wr.cell? ⟨G, q, none⟩ = some u := fun q hq => ⟨_, by rw [cell_of_row _ _ _ _ _ _ hcur, Array.getElem?_eq_getElem (by omega)]⟩
      obtain ⟨x0, k0⟩ := ce (j * 3) (by omega)
      obtain ⟨x1, k1⟩ := ce (j * 3 + 1) (by omega)
      obtain ⟨x2, k2⟩ := ce (j * 3 + 2) (by omega)
      have f0 := frozen_of_row wr G (j * 3) _ _ hcur
      have f1 := frozen_of_row wr G (j * 3 + 1) _ _ hcur
      have f2 := frozen_of_row wr G (j * 3 + 2) _ _ hcur
      have aX : Apart [G] wr (((wr.setCell ⟨G, j * 3, none⟩ (.int .i64 (sp4 j).n)).setCell ⟨G, j * 3 + 1, none⟩ (.int .i64 (sp4 j).b)).setCell ⟨G, j * 3 + 2, none⟩ (.int .u64 ((sp4 j).t : Int))) := apart3 (Apart.refl _ _) (by simp) _ _ _ _ _ _
      have oX := own_set3 o3 hn3 j (by omega) (sp4 j)
      rw [af_set j _ (by omega)] at oX
      have sX := HC.out.st.lentW aX oX (by rw [af_len _ _ (by omega)]; omega)
      have oO := (aX.block OB (lt_of_heap HC.out.ob) (by simpa using hb3 OB (by simp))).trans HC.out.ob
      have oG := (aX.block GB (lt_of_heap HC.out.gb) (by simpa using hb3 GB (by simp))).trans HC.out.gb
      have HCX : Hid (CI w (((wr.setCell ⟨G, j * 3, none⟩ (.int .i64 (j : Int))).setCell ⟨G, j * 3 + 1, none⟩ (.int .i64 4)).setCell ⟨G, j * 3 + 2, none⟩ (.int .u64 0)) i 3 OB GB #[.int .i64 kind, .int .i64 gap, .int .i64 stop, .slice pa na ca, .slice pb nb cb, .int .i64 dn, .int .i64 dc] gp gn gc av2 qv2 A [(.slice p1 n1 c1, z1), (.slice p2 n2 c2, z1), (.slice p3 n3 c3, z2), (.slice p4 n4 c4, z2), (.slice p5 n5 c5, bas (norm xs)), (.slice p6 n6 c6, bas (norm xs))] (some (G, na + 2, cg, (af (j + 1) (xs ++ [m1, m2]))))) := ⟨sX, HC.out.len, HC.out.vals, HC.out.done, oO, oG⟩
      clear o3 hn3 hb3 hcur hsz ce aX oX sX oO oG
      go_wp2
      go_roundw
      case rel => exact ⟨j + 1, by omega, by go_num, HCX.out⟩
      case measure => simp [intOf]; omega
    · obtain rfl : j = na + 2 := by omega
      have hll : (xs ++ [m1, m2]).length = na + 2 := by simp [hxs]
      have HC2 : Hid (CI w wr i 3 OB GB #[.int .i64 kind, .int .i64 gap, .int .i64 stop, .slice pa na ca, .slice pb nb cb, .int .i64 dn, .int .i64 dc] gp gn gc av2 qv2 A [(.slice p1 n1 c1, z1), (.slice p2 n2 c2, z1), (.slice p3 n3 c3, z2), (.slice p4 n4 c4, z2), (.slice p5 n5 c5, bas (norm xs)), (.slice p6 n6 c6, bas (norm xs))] (some (G, na + 2, cg, ((List.range na).map sp4 ++ [sp4 na, sp4 (na + 1)])))) := by rw [← af_all _ na hll]; exact HC.out
      clear HC
      go_wp2_with fail
      exact HKK.out _ _ _ _ _ _ _ _ _ _ _ _ _ HC2.out
set_option maxHeartbeats 16000000 in
set_option maxRecDepth 1000000 in
theorem r43 {w : World} {i OB : Nat} {kind gap stop : Int} {pa : Option Addr} {na ca : Nat} {pb : Option Addr} {nb cb : Nat} {dn dc : Int} {xs ys : List S} {e1 : Int} {z1 : List S} {e2 : Int} {z2 : List S} {av qv : Value} {G cg GB : Nat} {gp : Nat → Option Addr} {gn gc : Nat → Nat} {qv2 av2 : Value} {p1 : Option Addr} {n1 c1 : Nat} {p2 : Option Addr} {n2 c2 : Nat} {p3 : Option Addr} {n3 c3 : Nat} {p4 : Option Addr} {n4 c4 : Nat} {p5 : Option Addr} {n5 c5 : Nat} {p6 : Option Addr} {n6 c6 : Nat} {W18 : World} {A : List (Value × List S)} (HT : Hid (Tab w)) (hna : na ≤ 1048576) (HC : Hid (CI w W18 i 3 OB GB #[.int .i64 kind, .int .i64 gap, .int .i64 stop, .slice pa na ca, .slice pb nb cb, .int .i64 dn, .int .i64 dc] gp gn gc av2 qv2 A [(.slice p1 n1 c1, z1), (.slice p2 n2 c2, z1), (.slice p3 n3 c3, z2), (.slice p4 n4 c4, z2), (.slice p5 n5 c5, bas (norm xs)), (.slice p6 n6 c6, bas (norm xs))] (some (G, na + 2, cg, ((List.range na).map sp4 ++ [sp4 na, sp4 (na + 1)]))))) {sl0 sl1 sl2 sl3 sl4 sl5 sl6 sl8 sl9 sl10 sl11 sl12 sl13 sl14 sl15 sl16 sl18 sl19 sl20 sl21 sl22 sl23 sl24 sl25 sl27 sl28 sl29 sl30 sl31 sl32 sl33 sl34 sl35 sl36 sl37 sl38 sl39 sl40 sl41 sl42 sl43 sl44 sl45 sl46 sl47 sl48 sl49 sl50 sl51 sl52 sl53 sl54 sl55 sl56 sl57 sl58 sl59 sl60 sl61 sl62 sl63 sl64 sl65 sl66 sl67 sl68 sl69 sl70 sl71 sl72 sl73 sl74 sl75 sl76 sl77 sl78 sl79 sl80 sl81 sl82 sl83 sl84 sl85 sl86 sl87 sl88 sl89 sl90 sl91 sl92 sl93 sl94 sl95 sl96 sl97 sl98 sl99 sl100 sl101 sl102 sl103 sl104 sl105 sl106 sl107 sl108 sl109 sl110 sl111 sl112 sl113 sl114 sl115 sl116 sl117 sl118 sl119 sl120 sl121 sl122 sl123 sl124 sl125 sl126 sl127 sl128 sl129 sl130 sl131 sl132 sl133 sl134 sl135 sl136 sl137 sl138 sl139 sl140 sl141 sl142 sl143 sl144 sl145 sl146 sl147 sl148 sl149 sl150 sl151 sl152 sl153 sl154 sl155 sl156 sl157 sl158 sl159 sl160 sl161 sl162 sl163 sl164 sl165 sl166 sl167 sl168 sl169 sl170 sl171 sl172 sl173 sl174 sl175 sl176 sl177 sl178 sl179 sl180 sl181 sl182 sl183 sl184 sl185 sl186 sl187 sl188 sl189 sl190 sl191 sl192 sl193 sl194 sl195 sl196 sl197 sl198 sl199 sl200 sl201 sl202 sl203 sl204 sl205 sl206 sl207 sl208 sl209 sl210 sl211 sl212 sl213 sl214 sl215 sl216 sl217 sl218 sl219 sl220 sl221 sl222 sl223 sl224 sl225 sl226 sl227 sl228 sl229 sl230 sl231 sl232 sl233 sl234 sl235 sl236 sl237 sl238 sl239 sl240 sl241 sl242 sl243 sl244 sl245 sl246 sl247 sl248 sl249 sl250 sl251 sl252 sl253 sl254 sl255 sl256 sl257 : Value} {K' : Act → World → Prop} {Q' : Exit → Act → World → Prop} (hQ : ∀ x (a : Act) (d : Nat) v (w : World), Q' (.panic x) (a.put (some d) v) w → Q' (.panic x) a w) (hK : ∀ (W' : World) (nt208 nt209 nt210 nt211 nt212 nt213 nt214 nt215 nt216 nt217 nt218 nt219 nt220 nt221 nt222 nt223 nt224 nt225 nt226 nt227 nt228 nt229 nt230 nt231 nt232 nt233 nt234 nt235 nt236 : Value), (CI w W' i 3 OB GB #[.int .i64 kind, .int .i64 gap, .int .i64 stop, .slice pa na ca, .slice pb nb cb, .int .i64 dn, .int .i64 dc] gp gn gc av2 qv2 A [(.slice p1 n1 c1, z1), (.slice p2 n2 c2, z1), (.slice p3 n3 c3, z2), (.slice p4 n4 c4, z2), (.slice p5 n5 c5, bas (norm xs)), (.slice p6 n6 c6, bas (norm xs))] (some (G, na + 2, cg, ((List.range na).map sp4 ++ [sp4 na, sp4 (na + 1)])))) → K' ⟨#[sl0, sl1, sl2, sl3, sl4, sl5, sl6, (.pointer (some ⟨OB, 0, none⟩)), sl8, sl9, sl10, sl11, sl12, sl13, sl14, sl15, sl16, (.slice (some ⟨G, 0, none⟩) na cg), sl18, sl19, sl20, sl21, sl22, sl23, sl24, sl25, (.int .i64 (na : Nat)), sl27, sl28, sl29, sl30, sl31, sl32, sl33, sl34, sl35, sl36, sl37, sl38, sl39, sl40, sl41, sl42, sl43, sl44, sl45, sl46, sl47, sl48, sl49, sl50, sl51, sl52, sl53, sl54, sl55, sl56, sl57, sl58, sl59, sl60, sl61, sl62, sl63, sl64, sl65, sl66, sl67, sl68, sl69, sl70, sl71, sl72, sl73, sl74, sl75, sl76, sl77, sl78, sl79, sl80, sl81, sl82, sl83, sl84, sl85, sl86, sl87, sl88, sl89, sl90, sl91, sl92, sl93, sl94, sl95, sl96, sl97, sl98, sl99, sl100, sl101, sl102, sl103, sl104, sl105, sl106, sl107, sl108, sl109, sl110, sl111, sl112, sl113, sl114, sl115, sl116, sl117, sl118, sl119, sl120, sl121, sl122, sl123, sl124, sl125, sl126, sl127, sl128, sl129, sl130, sl131, sl132, sl133, sl134, sl135, sl136, sl137, sl138, sl139, sl140, sl141, sl142, sl143, sl144, sl145, sl146, sl147, sl148, sl149, sl150, sl151, sl152, sl153, sl154, sl155, sl156, sl157, sl158, sl159, sl160, sl161, sl162, sl163, sl164, sl165, sl166, sl167, sl168, sl169, sl170, sl171, sl172, sl173, sl174, sl175, sl176, sl177, sl178, sl179, sl180, sl181, sl182, sl183, sl184, sl185, sl186, sl187, sl188, sl189, sl190, sl191, sl192, sl193, sl194, sl195, sl196, sl197, sl198, sl199, sl200, sl201, sl202, sl203, sl204, sl205, sl206, sl207, nt208, nt209, nt210, nt211, nt212, nt213, nt214, nt215, nt216, nt217, nt218, nt219, nt220, nt221, nt222, nt223, nt224, nt225, nt226, nt227, nt228, nt229, nt230, nt231, nt232, nt233, nt234, nt235, nt236, (.bool false), sl238, sl239, sl240, sl241, sl242, sl243, sl244, sl245, sl246, sl247, sl248, sl249, sl250, sl251, sl252, sl253, sl254, sl255, sl256, sl257], []⟩ W') :
    Code.wp Tryd.prog (regC 43) (Exit.then K' Q') ⟨#[sl0, sl1, sl2, sl3, sl4, sl5, sl6, (.pointer (some ⟨OB, 0, none⟩)), sl8, sl9, sl10, sl11, sl12, sl13, sl14, sl15, sl16, (.slice (some ⟨G, 0, none⟩) na cg), sl18, sl19, sl20, sl21, sl22, sl23, sl24, sl25, (.int .i64 (na : Nat)), sl27, sl28, sl29, sl30, sl31, sl32, sl33, sl34, sl35, sl36, sl37, sl38, sl39, sl40, sl41, sl42, sl43, sl44, sl45, sl46, sl47, sl48, sl49, sl50, sl51, sl52, sl53, sl54, sl55, sl56, sl57, sl58, sl59, sl60, sl61, sl62, sl63, sl64, sl65, sl66, sl67, sl68, sl69, sl70, sl71, sl72, sl73, sl74, sl75, sl76, sl77, sl78, sl79, sl80, sl81, sl82, sl83, sl84, sl85, sl86, sl87, sl88, sl89, sl90, sl91, sl92, sl93, sl94, sl95, sl96, sl97, sl98, sl99, sl100, sl101, sl102, sl103, sl104, sl105, sl106, sl107, sl108, sl109, sl110, sl111, sl112, sl113, sl114, sl115, sl116, sl117, sl118, sl119, sl120, sl121, sl122, sl123, sl124, sl125, sl126, sl127, sl128, sl129, sl130, sl131, sl132, sl133, sl134, sl135, sl136, sl137, sl138, sl139, sl140, sl141, sl142, sl143, sl144, sl145, sl146, sl147, sl148, sl149, sl150, sl151, sl152, sl153, sl154, sl155, sl156, sl157, sl158, sl159, sl160, sl161, sl162, sl163, sl164, sl165, sl166, sl167, sl168, sl169, sl170, sl171, sl172, sl173, sl174, sl175, sl176, sl177, sl178, sl179, sl180, sl181, sl182, sl183, sl184, sl185, sl186, sl187, sl188, sl189, sl190, sl191, sl192, sl193, sl194, sl195, sl196, sl197, sl198, sl199, sl200, sl201, sl202, sl203, sl204, sl205, sl206, sl207, sl208, sl209, sl210, sl211, sl212, sl213, sl214, sl215, sl216, sl217, sl218, sl219, sl220, sl221, sl222, sl223, sl224, sl225, sl226, sl227, sl228, sl229, sl230, sl231, sl232, sl233, sl234, sl235, sl236, sl237, sl238, sl239, sl240, sl241, sl242, sl243, sl244, sl245, sl246, sl247, sl248, sl249, sl250, sl251, sl252, sl253, sl254, sl255, sl256, sl257], []⟩ W18 := by
  have HKK := hid hK
  clear hK
  conv => arg 2; whnf
  have hlen : ((List.range na).map sp4).length = na := by simp
  have hfit : ∀ x ∈ (List.range na).map sp4, x.t < 2 ^ 64 := by
    intro x hx
    simp only [List.mem_map, List.mem_range] at hx
    obtain ⟨j, _, rfl⟩ := hx
    exact (by decide : (0 : Nat) < 2 ^ 64)
  have HFIT := hid hfit
  have hl0 := HC.out.st.la hfit (by rw [hlen]; omega)
  rw [hlen] at hl0
  have HL0 := hid hl0
  clear hfit hl0
  by_cases h8 : na ≤ 8
  · have hCo := count_ok (cap := cg) HL0.out
    rw [cnt4 na h8] at hCo
    have i8 : (na : Int) ≤ 8 := by omega
    have iM : IntKind.i64.wrap (4 * (na : Int)) = 4 * (na : Int) := by rw [IntKind.wrap_i64]; omega
    go_wp2_with fail
    refine hCo.mono ?_
    rintro r Wc ⟨rfl, ac⟩
    dsimp only
    have HCc : Hid (CI w Wc i 3 OB GB #[.int .i64 kind, .int .i64 gap, .int .i64 stop, .slice pa na ca, .slice pb nb cb, .int .i64 dn, .int .i64 dc] gp gn gc av2 qv2 A [(.slice p1 n1 c1, z1), (.slice p2 n2 c2, z1), (.slice p3 n3 c3, z2), (.slice p4 n4 c4, z2), (.slice p5 n5 c5, bas (norm xs)), (.slice p6 n6 c6, bas (norm xs))] (some (G, na + 2, cg, ((List.range na).map sp4 ++ [sp4 na, sp4 (na + 1)])))) := ⟨HC.out.st.kept0 ac, HC.out.len, HC.out.vals, HC.out.done, (ac.block OB (lt_of_heap HC.out.ob) (by simp)).trans HC.out.ob, (ac.block GB (lt_of_heap HC.out.gb) (by simp)).trans HC.out.gb⟩
    have HLc := hid (HL0.out.kept0 ac)
    clear hCo ac
    by_cases h0 : na = 0
    · have i0 : ¬ (0 < (na : Int)) := by omega
      clear h0
      have b7 := box7 HCc.out.ob
      obtain ⟨b71, b73, b74, b75, b76⟩ := b7
      have hRe := replaced_ok (cap := cg) (HT.out.kept0 HCc.out.st.ap) HLc.out (by omega) dn dc gap
      go_wp2_with fail
      refine hRe.mono ?_
      rintro r Wd ⟨rfl, ad⟩
      dsimp only
      have HCd : Hid (CI w Wd i 3 OB GB #[.int .i64 kind, .int .i64 gap, .int .i64 stop, .slice pa na ca, .slice pb nb cb, .int .i64 dn, .int .i64 dc] gp gn gc av2 qv2 A [(.slice p1 n1 c1, z1), (.slice p2 n2 c2, z1), (.slice p3 n3 c3, z2), (.slice p4 n4 c4, z2), (.slice p5 n5 c5, bas (norm xs)), (.slice p6 n6 c6, bas (norm xs))] (some (G, na + 2, cg, ((List.range na).map sp4 ++ [sp4 na, sp4 (na + 1)])))) := ⟨HCc.out.st.kept0 ad, HCc.out.len, HCc.out.vals, HCc.out.done, (ad.block OB (lt_of_heap HCc.out.ob) (by simp)).trans HCc.out.ob, (ad.block GB (lt_of_heap HCc.out.gb) (by simp)).trans HCc.out.gb⟩
      clear hRe ad b71 b73 b74 b75 b76
      go_wp2_with fail
      exact HKK.out _ _ _ _ _ _ _ _ _ _ _ _ _ _ _ _ _ _ _ _ _ _ _ _ _ _ _ _ _ _ HCd.out
    · have hH := has_yes (cap := cg) ((na : Int) - 1) 4 HLc.out ⟨⟨by omega, by omega⟩, by decide, by decide⟩
      rw [has4 na h8 (by omega)] at hH
      have i0 : 0 < (na : Int) := by omega
      clear h0
      have iS : IntKind.i64.wrap ((na : Int) - 1) = (na : Int) - 1 := by rw [IntKind.wrap_i64]; omega
      go_wp2_with fail
      refine hH.mono ?_
      rintro r We ⟨rfl, ae⟩
      dsimp only
      have HCe : Hid (CI w We i 3 OB GB #[.int .i64 kind, .int .i64 gap, .int .i64 stop, .slice pa na ca, .slice pb nb cb, .int .i64 dn, .int .i64 dc] gp gn gc av2 qv2 A [(.slice p1 n1 c1, z1), (.slice p2 n2 c2, z1), (.slice p3 n3 c3, z2), (.slice p4 n4 c4, z2), (.slice p5 n5 c5, bas (norm xs)), (.slice p6 n6 c6, bas (norm xs))] (some (G, na + 2, cg, ((List.range na).map sp4 ++ [sp4 na, sp4 (na + 1)])))) := ⟨HCc.out.st.kept0 ae, HCc.out.len, HCc.out.vals, HCc.out.done, (ae.block OB (lt_of_heap HCc.out.ob) (by simp)).trans HCc.out.ob, (ae.block GB (lt_of_heap HCc.out.gb) (by simp)).trans HCc.out.gb⟩
      have HLe := hid (HLc.out.kept0 ae)
      clear hH ae
      have b7 := box7 HCe.out.ob
      obtain ⟨b71, b73, b74, b75, b76⟩ := b7
      have hRe := replaced_ok (cap := cg) (HT.out.kept0 HCe.out.st.ap) HLe.out (by omega) dn dc gap
      go_wp2_with fail
      refine hRe.mono ?_
      rintro r Wd ⟨rfl, ad⟩
      dsimp only
      have HCd : Hid (CI w Wd i 3 OB GB #[.int .i64 kind, .int .i64 gap, .int .i64 stop, .slice pa na ca, .slice pb nb cb, .int .i64 dn, .int .i64 dc] gp gn gc av2 qv2 A [(.slice p1 n1 c1, z1), (.slice p2 n2 c2, z1), (.slice p3 n3 c3, z2), (.slice p4 n4 c4, z2), (.slice p5 n5 c5, bas (norm xs)), (.slice p6 n6 c6, bas (norm xs))] (some (G, na + 2, cg, ((List.range na).map sp4 ++ [sp4 na, sp4 (na + 1)])))) := ⟨HCe.out.st.kept0 ad, HCe.out.len, HCe.out.vals, HCe.out.done, (ad.block OB (lt_of_heap HCe.out.ob) (by simp)).trans HCe.out.ob, (ad.block GB (lt_of_heap HCe.out.gb) (by simp)).trans HCe.out.gb⟩
      clear hRe ad b71 b73 b74 b75 b76
      go_wp2_with fail
      exact HKK.out _ _ _ _ _ _ _ _ _ _ _ _ _ _ _ _ _ _ _ _ _ _ _ _ _ _ _ _ _ _ HCd.out
  · have i8 : ¬ ((na : Int) ≤ 8) := by omega
    have b7 := box7 HC.out.ob
    obtain ⟨b71, b73, b74, b75, b76⟩ := b7
    have hRe := replaced_ok (cap := cg) (HT.out.kept0 HC.out.st.ap) HL0.out (by omega) dn dc gap
    go_wp2_with fail
    refine hRe.mono ?_
    rintro r Wd ⟨rfl, ad⟩
    dsimp only
    have HCd : Hid (CI w Wd i 3 OB GB #[.int .i64 kind, .int .i64 gap, .int .i64 stop, .slice pa na ca, .slice pb nb cb, .int .i64 dn, .int .i64 dc] gp gn gc av2 qv2 A [(.slice p1 n1 c1, z1), (.slice p2 n2 c2, z1), (.slice p3 n3 c3, z2), (.slice p4 n4 c4, z2), (.slice p5 n5 c5, bas (norm xs)), (.slice p6 n6 c6, bas (norm xs))] (some (G, na + 2, cg, ((List.range na).map sp4 ++ [sp4 na, sp4 (na + 1)])))) := ⟨HC.out.st.kept0 ad, HC.out.len, HC.out.vals, HC.out.done, (ad.block OB (lt_of_heap HC.out.ob) (by simp)).trans HC.out.ob, (ad.block GB (lt_of_heap HC.out.gb) (by simp)).trans HC.out.gb⟩
    clear hRe ad b71 b73 b74 b75 b76
    go_wp2_with fail
    exact HKK.out _ _ _ _ _ _ _ _ _ _ _ _ _ _ _ _ _ _ _ _ _ _ _ _ _ _ _ _ _ _ HCd.out
end Go.Proofs.YtdggkofihppcmaaDoor.ds
