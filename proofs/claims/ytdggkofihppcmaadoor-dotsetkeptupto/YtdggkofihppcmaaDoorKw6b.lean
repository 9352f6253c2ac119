import Derived.Test.YtdggkofihppcmaaDoorKw6a
import Derived.Deep.CutBlock
namespace Go.Proofs.YtdggkofihppcmaaDoor.ds
open Go.ChangeShapes Go.WideShapes Go.ChangeAt Go.RowKit
set_option linter.unusedVariables false
set_option linter.unusedSimpArgs false
set_option maxHeartbeats 16000000 in
set_option maxRecDepth 1000000 in
theorem r14 {w : World} {i OB : Nat} {kind gap stop : Int} {pa : Option Addr} {na ca : Nat} {pb : Option Addr} {nb cb : Nat} {dn dc : Int} {xs ys : List S} {e1 : Int} {z1 : List S} {e2 : Int} {z2 : List S} {av qv : Value} {W5 : World} {p1 : Option Addr} {n1 c1 : Nat} {p2 : Option Addr} {n2 c2 : Nat} {p3 : Option Addr} {n3 c3 : Nat} {p4 : Option Addr} {n4 c4 : Nat} (HT : Hid (Tab w)) (HLA : Hid (L w pa na xs)) (hna : na ≤ 1048576) (hlt30 : i < 30) (HS5 : Hid (ST w W5 av qv (3 * i) (2 * (3 * i)) 0 0 [] [(.slice p1 n1 c1, z1), (.slice p2 n2 c2, z1), (.slice p3 n3 c3, z2), (.slice p4 n4 c4, z2)] [OB] none)) (HB5 : Hid (W5.heap[OB]? = some (.cells #[.int .i64 kind, .int .i64 gap, .int .i64 stop, .slice pa na ca, .slice pb nb cb, .int .i64 dn, .int .i64 dc] 48 (0, 0)))) {sl0 sl1 sl2 sl3 sl4 sl6 sl9 sl11 sl13 sl15 sl16 sl17 sl18 sl19 sl20 sl21 sl22 sl23 sl24 sl25 sl26 sl27 sl28 sl29 sl30 sl31 sl32 sl33 sl34 sl35 sl36 sl37 sl38 sl39 sl40 sl41 sl42 sl43 sl44 sl45 sl46 sl47 sl48 sl49 sl50 sl51 sl52 sl53 sl54 sl55 sl56 sl57 sl58 sl59 sl60 sl61 sl62 sl63 sl64 sl65 sl66 sl67 sl68 sl69 sl70 sl71 sl72 sl73 sl74 sl75 sl76 sl77 sl78 sl79 sl80 sl81 sl82 sl83 sl84 sl85 sl86 sl87 sl88 sl89 sl90 sl91 sl92 sl93 sl94 sl95 sl96 sl97 sl98 sl99 sl100 sl101 sl102 sl103 sl104 sl105 sl106 sl107 sl108 sl109 sl110 sl111 sl112 sl113 sl114 sl115 sl116 sl117 sl118 sl119 sl120 sl121 sl122 sl123 sl124 sl125 sl126 sl127 sl128 sl129 sl130 sl131 sl132 sl133 sl134 sl135 sl136 sl137 sl138 sl139 sl140 sl141 sl142 sl143 sl144 sl145 sl146 sl147 sl148 sl149 sl150 sl151 sl152 sl153 sl154 sl155 sl156 sl157 sl158 sl159 sl160 sl161 sl162 sl163 sl164 sl165 sl166 sl167 sl168 sl169 sl170 sl171 sl172 sl173 sl174 sl175 sl176 sl177 sl178 sl179 sl180 sl181 sl182 sl183 sl184 sl185 sl186 sl187 sl188 sl189 sl190 sl191 sl192 sl193 sl194 sl195 sl196 sl197 sl198 sl199 sl200 sl201 sl202 sl203 sl204 sl205 sl206 sl207 sl208 sl209 sl210 sl211 sl212 sl213 sl214 sl215 sl216 sl217 sl218 sl219 sl220 sl221 sl222 sl223 sl224 sl225 sl226 sl227 sl228 sl229 sl230 sl231 sl232 sl233 sl234 sl235 sl236 sl237 sl238 sl239 sl240 sl241 sl242 sl243 sl244 sl245 sl246 sl247 sl248 sl249 sl250 sl251 sl252 sl253 sl254 sl255 sl256 sl257 : Value} {K' : Act → World → Prop} {Q' : Exit → Act → World → Prop} (hQ : ∀ x (a : Act) (d : Nat) v (w : World), Q' (.panic x) (a.put (some d) v) w → Q' (.panic x) a w) (hK : ∀ (qv2 : Value) (p5 : Option Addr) (n5 c5 : Nat) (p6 : Option Addr) (n6 c6 : Nat) (W' : World) (nt91 nt92 nt93 nt94 nt95 nt96 nt97 nt98 nt99 nt100 nt101 nt102 nt103 nt104 nt105 : Value), (ST w W' av qv2 (3 * i) (2 * (3 * i)) 0 6 [] [(.slice p1 n1 c1, z1), (.slice p2 n2 c2, z1), (.slice p3 n3 c3, z2), (.slice p4 n4 c4, z2), (.slice p5 n5 c5, bas (norm xs)), (.slice p6 n6 c6, bas (norm xs))] [OB] none ∧ W'.heap[OB]? = some (.cells #[.int .i64 kind, .int .i64 gap, .int .i64 stop, .slice pa na ca, .slice pb nb cb, .int .i64 dn, .int .i64 dc] 48 (0, 0))) → K' ⟨#[sl0, sl1, sl2, sl3, sl4, qv2, sl6, (.pointer (some ⟨OB, 0, none⟩)), (.slice p1 n1 c1), sl9, (.slice p2 n2 c2), sl11, (.slice p3 n3 c3), sl13, (.slice p4 n4 c4), sl15, sl16, sl17, sl18, sl19, sl20, sl21, sl22, sl23, sl24, sl25, sl26, sl27, sl28, sl29, sl30, sl31, sl32, sl33, sl34, sl35, sl36, sl37, sl38, sl39, sl40, sl41, sl42, sl43, sl44, sl45, sl46, sl47, sl48, sl49, sl50, sl51, sl52, sl53, sl54, sl55, sl56, sl57, sl58, sl59, sl60, sl61, sl62, sl63, sl64, sl65, sl66, sl67, sl68, sl69, sl70, sl71, sl72, sl73, sl74, sl75, sl76, sl77, sl78, sl79, sl80, sl81, sl82, sl83, sl84, sl85, sl86, sl87, sl88, sl89, sl90, nt91, nt92, nt93, nt94, nt95, nt96, nt97, nt98, nt99, nt100, nt101, nt102, nt103, nt104, nt105, sl106, sl107, sl108, sl109, sl110, sl111, sl112, sl113, sl114, sl115, sl116, sl117, sl118, sl119, sl120, sl121, sl122, sl123, sl124, sl125, sl126, sl127, sl128, sl129, sl130, sl131, sl132, sl133, sl134, sl135, sl136, sl137, sl138, sl139, sl140, sl141, sl142, sl143, sl144, sl145, sl146, sl147, sl148, sl149, sl150, sl151, sl152, sl153, sl154, sl155, sl156, sl157, sl158, sl159, sl160, sl161, sl162, sl163, sl164, sl165, sl166, sl167, sl168, sl169, sl170, sl171, sl172, sl173, sl174, sl175, sl176, sl177, sl178, sl179, sl180, sl181, sl182, sl183, sl184, sl185, sl186, sl187, sl188, sl189, sl190, sl191, sl192, sl193, sl194, sl195, sl196, sl197, sl198, sl199, sl200, sl201, sl202, sl203, sl204, sl205, sl206, sl207, sl208, sl209, sl210, sl211, sl212, sl213, sl214, sl215, sl216, sl217, sl218, sl219, sl220, sl221, sl222, sl223, sl224, sl225, sl226, sl227, sl228, sl229, sl230, sl231, sl232, sl233, sl234, sl235, sl236, sl237, sl238, sl239, sl240, sl241, sl242, sl243, sl244, sl245, sl246, sl247, sl248, sl249, sl250, sl251, sl252, sl253, sl254, sl255, sl256, sl257], []⟩ W') :
    Code.wp Tryd.prog (regC 14) (Exit.then K' Q') ⟨#[sl0, sl1, sl2, sl3, sl4, qv, sl6, (.pointer (some ⟨OB, 0, none⟩)), (.slice p1 n1 c1), sl9, (.slice p2 n2 c2), sl11, (.slice p3 n3 c3), sl13, (.slice p4 n4 c4), sl15, sl16, sl17, sl18, sl19, sl20, sl21, sl22, sl23, sl24, sl25, sl26, sl27, sl28, sl29, sl30, sl31, sl32, sl33, sl34, sl35, sl36, sl37, sl38, sl39, sl40, sl41, sl42, sl43, sl44, sl45, sl46, sl47, sl48, sl49, sl50, sl51, sl52, sl53, sl54, sl55, sl56, sl57, sl58, sl59, sl60, sl61, sl62, sl63, sl64, sl65, sl66, sl67, sl68, sl69, sl70, sl71, sl72, sl73, sl74, sl75, sl76, sl77, sl78, sl79, sl80, sl81, sl82, sl83, sl84, sl85, sl86, sl87, sl88, sl89, sl90, sl91, sl92, sl93, sl94, sl95, sl96, sl97, sl98, sl99, sl100, sl101, sl102, sl103, sl104, sl105, sl106, sl107, sl108, sl109, sl110, sl111, sl112, sl113, sl114, sl115, sl116, sl117, sl118, sl119, sl120, sl121, sl122, sl123, sl124, sl125, sl126, sl127, sl128, sl129, sl130, sl131, sl132, sl133, sl134, sl135, sl136, sl137, sl138, sl139, sl140, sl141, sl142, sl143, sl144, sl145, sl146, sl147, sl148, sl149, sl150, sl151, sl152, sl153, sl154, sl155, sl156, sl157, sl158, sl159, sl160, sl161, sl162, sl163, sl164, sl165, sl166, sl167, sl168, sl169, sl170, sl171, sl172, sl173, sl174, sl175, sl176, sl177, sl178, sl179, sl180, sl181, sl182, sl183, sl184, sl185, sl186, sl187, sl188, sl189, sl190, sl191, sl192, sl193, sl194, sl195, sl196, sl197, sl198, sl199, sl200, sl201, sl202, sl203, sl204, sl205, sl206, sl207, sl208, sl209, sl210, sl211, sl212, sl213, sl214, sl215, sl216, sl217, sl218, sl219, sl220, sl221, sl222, sl223, sl224, sl225, sl226, sl227, sl228, sl229, sl230, sl231, sl232, sl233, sl234, sl235, sl236, sl237, sl238, sl239, sl240, sl241, sl242, sl243, sl244, sl245, sl246, sl247, sl248, sl249, sl250, sl251, sl252, sl253, sl254, sl255, sl256, sl257], []⟩ W5 := by
  have HKK := hid hK
  clear hK
  conv => arg 2; whnf
  have sD5 : ST w W5.drew av qv (3 * i) (2 * (3 * i)) 0 0 [] [(.slice p1 n1 c1, z1), (.slice p2 n2 c2, z1), (.slice p3 n3 c3, z2), (.slice p4 n4 c4, z2)] [OB] none := HS5.out.kept0 ((Apart.refl [] _).drewN 1)
  have HSD5 := hid sD5
  have HBD5 : Hid (W5.drew.heap[OB]? = some (.cells #[.int .i64 kind, .int .i64 gap, .int .i64 stop, .slice pa na ca, .slice pb nb cb, .int .i64 dn, .int .i64 dc] 48 (0, 0))) := HB5.out
  have cD5 := box7 HBD5.out
  have hC5 := copied_ok (cap := ca) (HLA.out.kept0 sD5.ap) (by omega)
  clear sD5
  refine wp_region_held_drew (S := fun X => X.cell? ⟨OB, 1, none⟩ = some (.int .i64 gap) ∧ X.cell? ⟨OB, 3, none⟩ = some (.slice pa na ca) ∧ X.cell? ⟨OB, 4, none⟩ = some (.slice pb nb cb) ∧ X.cell? ⟨OB, 5, none⟩ = some (.int .i64 dn) ∧ X.cell? ⟨OB, 6, none⟩ = some (.int .i64 dc)) (by kernel_rfl) cD5 (fun hHeld => ?_)
  refine wpAnyH_take (i := 0) (oi := ⟨some 91, _, _, _, _, _⟩) (v := (qv)) rfl (by kernel_rfl) (by kernel_rfl) (by kernel_rfl) (fun _ _ _ h => hQ _ _ _ _ _ h) (Or.inl ⟨by rfl, ?_⟩) (by assumption) ?_
  · intro W hSW; go_simp
  simp only [Act.put, List.setIfInBounds_toArray, List.set_cons_zero, List.set_cons_succ]
  refine wpAnyH_take (i := 1) (oi := ⟨some 92, _, _, _, _, _⟩) (v := (.slice p1 n1 c1)) rfl (by kernel_rfl) (by kernel_rfl) (by kernel_rfl) (fun _ _ _ h => hQ _ _ _ _ _ h) (Or.inl ⟨by rfl, ?_⟩) (by assumption) ?_
  · intro W hSW; go_simp
  simp only [Act.put, List.setIfInBounds_toArray, List.set_cons_zero, List.set_cons_succ]
  refine wpAnyH_take (i := 2) (oi := ⟨some 93, _, _, _, _, _⟩) (v := (.slice p2 n2 c2)) rfl (by kernel_rfl) (by kernel_rfl) (by kernel_rfl) (fun _ _ _ h => hQ _ _ _ _ _ h) (Or.inl ⟨by rfl, ?_⟩) (by assumption) ?_
  · intro W hSW; go_simp
  simp only [Act.put, List.setIfInBounds_toArray, List.set_cons_zero, List.set_cons_succ]
  refine wpAnyH_take (i := 3) (oi := ⟨some 94, _, _, _, _, _⟩) (v := (.slice p3 n3 c3)) rfl (by kernel_rfl) (by kernel_rfl) (by kernel_rfl) (fun _ _ _ h => hQ _ _ _ _ _ h) (Or.inl ⟨by rfl, ?_⟩) (by assumption) ?_
  · intro W hSW; go_simp
  simp only [Act.put, List.setIfInBounds_toArray, List.set_cons_zero, List.set_cons_succ]
  refine wpAnyH_take (i := 4) (oi := ⟨some 95, _, _, _, _, _⟩) (v := (.slice p4 n4 c4)) rfl (by kernel_rfl) (by kernel_rfl) (by kernel_rfl) (fun _ _ _ h => hQ _ _ _ _ _ h) (Or.inl ⟨by rfl, ?_⟩) (by assumption) ?_
  · intro W hSW; go_simp
  simp only [Act.put, List.setIfInBounds_toArray, List.set_cons_zero, List.set_cons_succ]
  refine wpAnyH_take (i := 5) (oi := ⟨some 96, _, _, _, _, _⟩) (v := (.pointer (some ⟨OB, 3, none⟩))) rfl (by kernel_rfl) (by kernel_rfl) (by kernel_rfl) (fun _ _ _ h => hQ _ _ _ _ _ h) (Or.inl ⟨by rfl, ?_⟩) (by assumption) ?_
  · intro W hSW; go_simp
  simp only [Act.put, List.setIfInBounds_toArray, List.set_cons_zero, List.set_cons_succ]
  refine wpAnyH_take (i := 6) (oi := ⟨some 97, _, _, _, _, _⟩) (v := (.slice pa na ca)) rfl (by kernel_rfl) (by kernel_rfl) (by kernel_rfl) (fun _ _ _ h => hQ _ _ _ _ _ h) (Or.inl ⟨by rfl, ?_⟩) (by assumption) ?_
  · intro W hSW; go_simp
  simp only [Act.put, List.setIfInBounds_toArray, List.set_cons_zero, List.set_cons_succ]
  refine wpAnyH_take (i := 9) (oi := ⟨some 100, _, _, _, _, _⟩) (v := (.pointer (some ⟨OB, 3, none⟩))) rfl (by kernel_rfl) (by kernel_rfl) (by kernel_rfl) (fun _ _ _ h => hQ _ _ _ _ _ h) (Or.inl ⟨by rfl, ?_⟩) (by assumption) ?_
  · intro W hSW; go_simp
  simp only [Act.put, List.setIfInBounds_toArray, List.set_cons_zero, List.set_cons_succ]
  refine wpAnyH_take (i := 10) (oi := ⟨some 101, _, _, _, _, _⟩) (v := (.slice pa na ca)) rfl (by kernel_rfl) (by kernel_rfl) (by kernel_rfl) (fun _ _ _ h => hQ _ _ _ _ _ h) (Or.inl ⟨by rfl, ?_⟩) (by assumption) ?_
  · intro W hSW; go_simp
  simp only [Act.put, List.setIfInBounds_toArray, List.set_cons_zero, List.set_cons_succ]
  refine wpAnyH_ready (rs := [7]) (by kernel_rfl) (by simp) ?_
  refine AllReadyH.cons rfl (fun KK hKK => ?_) AllReadyH.nil
  go_simp
  refine hC5.mono ?_
  rintro r W5a ⟨⟨p5a, c5a, rfl, o1⟩⟩
  dsimp only
  have HS5a : Hid (ST w W5a av qv (3 * i) (2 * (3 * i)) 0 0 [] [(.slice p1 n1 c1, z1), (.slice p2 n2 c2, z1), (.slice p3 n3 c3, z2), (.slice p4 n4 c4, z2)] [OB] none) := HSD5.out.kept0 o1.ap
  have HB5a : Hid (W5a.heap[OB]? = some (.cells #[.int .i64 kind, .int .i64 gap, .int .i64 stop, .slice pa na ca, .slice pb nb cb, .int .i64 dn, .int .i64 dc] 48 (0, 0))) := (o1.ap.block OB (lt_of_heap HBD5.out) (by simp)).trans HBD5.out
  have cB5a := box7 HB5a.out
  have hBs := bases_own (cap := c5a) (o1.L (by omega) HLA.out.fit)
  clear o1 hC5
  refine hKK.out _ _ cB5a (fun hHeld => ?_)
  clear hKK KK
  refine wpAnyH_ready (rs := [8]) (by kernel_rfl) (by simp) ?_
  refine AllReadyH.cons rfl (fun KK hKK => ?_) AllReadyH.nil
  go_simp
  refine hBs.mono ?_
  rintro r W5b ⟨p5, n5, c5, rfl, o2, hn2, hf2⟩
  dsimp only
  have HS5b : Hid (ST w W5b av qv (3 * i) (2 * (3 * i)) 0 0 [] [(.slice p1 n1 c1, z1), (.slice p2 n2 c2, z1), (.slice p3 n3 c3, z2), (.slice p4 n4 c4, z2), (.slice p5 n5 c5, bas (norm xs))] [OB] none) := HS5a.out.addQ o2 hn2 hf2
  have HB5b : Hid (W5b.heap[OB]? = some (.cells #[.int .i64 kind, .int .i64 gap, .int .i64 stop, .slice pa na ca, .slice pb nb cb, .int .i64 dn, .int .i64 dc] 48 (0, 0))) := (o2.ap.block OB (lt_of_heap HB5a.out) (by simp)).trans HB5a.out
  have cB5b := box7 HB5b.out
  have hC5b := copied_ok (cap := ca) (HLA.out.kept0 HS5b.out.ap) (by omega)
  clear o2 hn2 hf2 hBs cB5a
  refine hKK.out _ _ cB5b (fun hHeld => ?_)
  clear hKK KK
  refine wpAnyH_ready (rs := [11]) (by kernel_rfl) (by simp) ?_
  refine AllReadyH.cons rfl (fun KK hKK => ?_) AllReadyH.nil
  go_simp
  refine hC5b.mono ?_
  rintro r W5c ⟨⟨p5c, c5c, rfl, o1⟩⟩
  dsimp only
  have HS5c : Hid (ST w W5c av qv (3 * i) (2 * (3 * i)) 0 0 [] [(.slice p1 n1 c1, z1), (.slice p2 n2 c2, z1), (.slice p3 n3 c3, z2), (.slice p4 n4 c4, z2), (.slice p5 n5 c5, bas (norm xs))] [OB] none) := HS5b.out.kept0 o1.ap
  have HB5c : Hid (W5c.heap[OB]? = some (.cells #[.int .i64 kind, .int .i64 gap, .int .i64 stop, .slice pa na ca, .slice pb nb cb, .int .i64 dn, .int .i64 dc] 48 (0, 0))) := (o1.ap.block OB (lt_of_heap HB5b.out) (by simp)).trans HB5b.out
  have cB5c := box7 HB5c.out
  have hBs := bases_own (cap := c5c) (o1.L (by omega) HLA.out.fit)
  clear o1 hC5b
  refine hKK.out _ _ cB5c (fun hHeld => ?_)
  clear hKK KK
  refine wpAnyH_ready (rs := [12]) (by kernel_rfl) (by simp) ?_
  refine AllReadyH.cons rfl (fun KK hKK => ?_) AllReadyH.nil
  go_simp
  refine hBs.mono ?_
  rintro r W5d ⟨p6, n6, c6, rfl, o2, hn2, hf2⟩
  dsimp only
  have HS5d : Hid (ST w W5d av qv (3 * i) (2 * (3 * i)) 0 0 [] [(.slice p1 n1 c1, z1), (.slice p2 n2 c2, z1), (.slice p3 n3 c3, z2), (.slice p4 n4 c4, z2), (.slice p5 n5 c5, bas (norm xs)), (.slice p6 n6 c6, bas (norm xs))] [OB] none) := HS5c.out.addQ o2 hn2 hf2
  have HB5d : Hid (W5d.heap[OB]? = some (.cells #[.int .i64 kind, .int .i64 gap, .int .i64 stop, .slice pa na ca, .slice pb nb cb, .int .i64 dn, .int .i64 dc] 48 (0, 0))) := (o2.ap.block OB (lt_of_heap HB5c.out) (by simp)).trans HB5c.out
  have cB5d := box7 HB5d.out
  have hC5d := copied_ok (cap := ca) (HLA.out.kept0 HS5d.out.ap) (by omega)
  clear o2 hn2 hf2 hBs cB5c
  refine hKK.out _ _ cB5d (fun hHeld => ?_)
  clear hKK KK
  clear hC5d
  have aN : Apart [] W5d (W5d.alloc (.cells #[.slice p1 n1 c1, .slice p2 n2 c2, .slice p3 n3 c3, .slice p4 n4 c4, .slice p5 n5 c5, .slice p6 n6 c6] 22)) := (Apart.refl _ _).alloc _
  have bN : (W5d.alloc (.cells #[.slice p1 n1 c1, .slice p2 n2 c2, .slice p3 n3 c3, .slice p4 n4 c4, .slice p5 n5 c5, .slice p6 n6 c6] 22)).heap[W5d.heap.size]? = some (.cells #[.slice p1 n1 c1, .slice p2 n2 c2, .slice p3 n3 c3, .slice p4 n4 c4, .slice p5 n5 c5, .slice p6 n6 c6] 22 (0, 0)) := heap_alloc_new W5d _
  have HSe : Hid (ST w (W5d.alloc (.cells #[.slice p1 n1 c1, .slice p2 n2 c2, .slice p3 n3 c3, .slice p4 n4 c4, .slice p5 n5 c5, .slice p6 n6 c6] 22)) av qv (3 * i) (2 * (3 * i)) 0 0 [] [(.slice p1 n1 c1, z1), (.slice p2 n2 c2, z1), (.slice p3 n3 c3, z2), (.slice p4 n4 c4, z2), (.slice p5 n5 c5, bas (norm xs)), (.slice p6 n6 c6, bas (norm xs))] [OB] none) := HS5d.out.kept0 aN
  have HBe : Hid ((W5d.alloc (.cells #[.slice p1 n1 c1, .slice p2 n2 c2, .slice p3 n3 c3, .slice p4 n4 c4, .slice p5 n5 c5, .slice p6 n6 c6] 22)).heap[OB]? = some (.cells #[.int .i64 kind, .int .i64 gap, .int .i64 stop, .slice pa na ca, .slice pb nb cb, .int .i64 dn, .int .i64 dc] 48 (0, 0))) := (aN.block OB (lt_of_heap HB5d.out) (by simp)).trans HB5d.out
  have cBe := box7 HBe.out
  obtain ⟨qv2, W6, hrun, s6, hb6⟩ := HSe.out.growQ 46 (by simp) ⟨W5d.heap.size, 0, none⟩ 6 (by
    intro r hr
    match r, hr with
    | 0, _ => exact ⟨_, _, rfl, by rw [Addr.add_lit, cell_of_row _ _ _ _ _ _ bN]; rfl⟩
    | 1, _ => exact ⟨_, _, rfl, by rw [Addr.add_lit, cell_of_row _ _ _ _ _ _ bN]; rfl⟩
    | 2, _ => exact ⟨_, _, rfl, by rw [Addr.add_lit, cell_of_row _ _ _ _ _ _ bN]; rfl⟩
    | 3, _ => exact ⟨_, _, rfl, by rw [Addr.add_lit, cell_of_row _ _ _ _ _ _ bN]; rfl⟩
    | 4, _ => exact ⟨_, _, rfl, by rw [Addr.add_lit, cell_of_row _ _ _ _ _ _ bN]; rfl⟩
    | 5, _ => exact ⟨_, _, rfl, by rw [Addr.add_lit, cell_of_row _ _ _ _ _ _ bN]; rfl⟩) (by
    intro r v x hr
    match r, hr with
    | 0, hr => simp at hr; rw [← hr.1]; rfl
    | 1, hr => simp at hr; rw [← hr.1]; rfl
    | 2, hr => simp at hr; rw [← hr.1]; rfl
    | 3, hr => simp at hr; rw [← hr.1]; rfl
    | 4, hr => simp at hr; rw [← hr.1]; rfl
    | 5, hr => simp at hr; rw [← hr.1]; rfl
    | r + 6, hr => simp at hr) (by simp; omega)
  have HB6 : Hid (W6.heap[OB]? = some (.cells #[.int .i64 kind, .int .i64 gap, .int .i64 stop, .slice pa na ca, .slice pb nb cb, .int .i64 dn, .int .i64 dc] 48 (0, 0))) := (hb6 OB (by simp)).trans HBe.out
  have cB6 := box7 HB6.out
  have HS6 : Hid (ST w W6 av qv2 (3 * i) (2 * (3 * i)) 0 6 [] [(.slice p1 n1 c1, z1), (.slice p2 n2 c2, z1), (.slice p3 n3 c3, z2), (.slice p4 n4 c4, z2), (.slice p5 n5 c5, bas (norm xs)), (.slice p6 n6 c6, bas (norm xs))] [OB] none) := s6
  clear aN bN hb6 s6 HS5 HSD5 HBD5 HS5a HS5b HS5c HS5d HB5 HB5a HB5b HB5c HB5d HSe cD5
  refine wpAnyH_ready (rs := [13]) (by kernel_rfl) (by simp) ?_
  refine AllReadyH.cons rfl (fun KK hKK => ?_) AllReadyH.nil
  go_simp
  refine hKK.out _ _ cBe (fun hHeld => ?_)
  clear hKK KK
  refine wpAnyH_ready (rs := [14]) (by kernel_rfl) (by simp) ?_
  refine AllReadyH.cons rfl (fun KK hKK => ?_) AllReadyH.nil
  refine step_append3 (o := ⟨some 105, _, _, _, _, _⟩) rfl (.tmp 91) (.tmp 104) 46 rfl _ _ rfl rfl _ _ hrun ?_
  clear hrun
  simp only [Act.put, List.setIfInBounds_toArray, List.set_cons_zero, List.set_cons_succ]
  refine hKK.out _ _ cB6 (fun hHeld => ?_)
  clear hKK KK cBe HBe
  refine wpAnyH_take (i := 15) (oi := ⟨some 5, _, _, _, _, _⟩) (v := (qv2)) rfl (by kernel_rfl) (by kernel_rfl) (by kernel_rfl) (fun _ _ _ h => hQ _ _ _ _ _ h) (Or.inl ⟨by rfl, ?_⟩) (by assumption) ?_
  · intro W hSW; go_simp
  simp only [Act.put, List.setIfInBounds_toArray, List.set_cons_zero, List.set_cons_succ]
  refine wpAnyH_done (by kernel_rfl) ?_ _
  clear cB6
  exact HKK.out qv2 p5 n5 c5 p6 n6 c6 _ _ _ _ _ _ _ _ _ _ _ _ _ _ _ _ ⟨HS6.out, HB6.out⟩
set_option maxHeartbeats 16000000 in
set_option maxRecDepth 1000000 in
theorem blkD {w : World} {i OB : Nat} {kind gap stop : Int} {pa : Option Addr} {na ca : Nat} {pb : Option Addr} {nb cb : Nat} {dn dc : Int} {xs ys : List S} {e1 : Int} {z1 : List S} {e2 : Int} {z2 : List S} {av qv : Value} {G cg GB : Nat} {gp : Nat → Option Addr} {gn gc : Nat → Nat} {qv2 av2 : Value} {p1 : Option Addr} {n1 c1 : Nat} {p2 : Option Addr} {n2 c2 : Nat} {p3 : Option Addr} {n3 c3 : Nat} {p4 : Option Addr} {n4 c4 : Nat} {p5 : Option Addr} {n5 c5 : Nat} {p6 : Option Addr} {n6 c6 : Nat} {W15 : World} {A : List (Value × List S)} (HC : Hid (CI w W15 i 3 OB GB #[.int .i64 kind, .int .i64 gap, .int .i64 stop, .slice pa na ca, .slice pb nb cb, .int .i64 dn, .int .i64 dc] gp gn gc av2 qv2 A [(.slice p1 n1 c1, z1), (.slice p2 n2 c2, z1), (.slice p3 n3 c3, z2), (.slice p4 n4 c4, z2), (.slice p5 n5 c5, bas (norm xs)), (.slice p6 n6 c6, bas (norm xs))] (some (G, na + 2, cg, xs ++ [m1, m2])))) {sl0 sl1 sl2 sl3 sl4 sl5 sl6 sl7 sl8 sl9 sl10 sl11 sl12 sl13 sl14 sl15 sl16 sl17 sl19 sl20 sl21 sl24 sl25 sl26 sl27 sl28 sl29 sl30 sl31 sl32 sl33 sl34 sl35 sl36 sl37 sl38 sl39 sl40 sl41 sl42 sl43 sl44 sl45 sl46 sl47 sl48 sl49 sl50 sl51 sl52 sl53 sl54 sl55 sl56 sl57 sl58 sl59 sl60 sl61 sl62 sl63 sl64 sl65 sl66 sl67 sl68 sl69 sl70 sl71 sl72 sl73 sl74 sl75 sl76 sl77 sl78 sl79 sl80 sl81 sl82 sl83 sl84 sl85 sl86 sl87 sl88 sl89 sl90 sl91 sl92 sl93 sl94 sl95 sl96 sl97 sl98 sl99 sl100 sl101 sl102 sl103 sl104 sl105 sl106 sl107 sl108 sl109 sl110 sl111 sl112 sl113 sl114 sl115 sl116 sl117 sl118 sl119 sl120 sl121 sl122 sl123 sl124 sl125 sl126 sl127 sl128 sl129 sl130 sl131 sl132 sl133 sl134 sl135 sl136 sl137 sl138 sl139 sl140 sl141 sl142 sl143 sl144 sl145 sl146 sl147 sl148 sl149 sl150 sl151 sl152 sl153 sl154 sl155 sl156 sl157 sl158 sl159 sl160 sl161 sl162 sl163 sl164 sl165 sl166 sl167 sl168 sl169 sl170 sl171 sl172 sl173 sl174 sl175 sl176 sl177 sl178 sl179 sl180 sl181 sl182 sl183 sl184 sl185 sl186 sl187 sl188 sl189 sl190 sl191 sl192 sl193 sl194 sl195 sl196 sl197 sl198 sl199 sl200 sl201 sl202 sl203 sl204 sl205 sl206 sl207 sl208 sl209 sl210 sl211 sl212 sl213 sl214 sl215 sl216 sl217 sl218 sl219 sl220 sl221 sl222 sl223 sl224 sl225 sl226 sl227 sl228 sl229 sl230 sl231 sl232 sl233 sl234 sl235 sl236 sl237 sl238 sl239 sl240 sl241 sl242 sl243 sl244 sl245 sl246 sl247 sl248 sl249 sl250 sl251 sl252 sl253 sl254 sl255 sl256 sl257 : Value} {K' : Act → World → Prop} {Q' : Exit → Act → World → Prop} (hQ : ∀ x (a : Act) (d : Nat) v (w : World), Q' (.panic x) (a.put (some d) v) w → Q' (.panic x) a w) (hK : ∀ (W' : World) (nt23 nt24 nt168 nt169 nt170 nt171 nt172 nt173 nt174 nt175 nt176 nt177 nt178 nt179 nt180 nt181 nt182 nt183 nt184 : Value), (CI w W' i 3 OB GB #[.int .i64 kind, .int .i64 gap, .int .i64 stop, .slice pa na ca, .slice pb nb cb, .int .i64 dn, .int .i64 dc] gp gn gc av2 qv2 A [(.slice p1 n1 c1, z1), (.slice p2 n2 c2, z1), (.slice p3 n3 c3, z2), (.slice p4 n4 c4, z2), (.slice p5 n5 c5, bas (norm xs)), (.slice p6 n6 c6, bas (norm xs))] (some (G, na + 2, cg, xs ++ [m1, m2]))) → K' ⟨#[sl0, sl1, sl2, sl3, sl4, sl5, sl6, sl7, sl8, sl9, sl10, sl11, sl12, sl13, sl14, sl15, sl16, sl17, (.pointer (some ⟨GB, 0, none⟩)), sl19, sl20, sl21, (.int .i64 240), nt23, nt24, sl25, sl26, sl27, sl28, sl29, sl30, sl31, sl32, sl33, sl34, sl35, sl36, sl37, sl38, sl39, sl40, sl41, sl42, sl43, sl44, sl45, sl46, sl47, sl48, sl49, sl50, sl51, sl52, sl53, sl54, sl55, sl56, sl57, sl58, sl59, sl60, sl61, sl62, sl63, sl64, sl65, sl66, sl67, sl68, sl69, sl70, sl71, sl72, sl73, sl74, sl75, sl76, sl77, sl78, sl79, sl80, sl81, sl82, sl83, sl84, sl85, sl86, sl87, sl88, sl89, sl90, sl91, sl92, sl93, sl94, sl95, sl96, sl97, sl98, sl99, sl100, sl101, sl102, sl103, sl104, sl105, sl106, sl107, sl108, sl109, sl110, sl111, sl112, sl113, sl114, sl115, sl116, sl117, sl118, sl119, sl120, sl121, sl122, sl123, sl124, sl125, sl126, sl127, sl128, sl129, sl130, sl131, sl132, sl133, sl134, sl135, sl136, sl137, sl138, sl139, sl140, sl141, sl142, sl143, sl144, sl145, sl146, sl147, sl148, sl149, sl150, sl151, sl152, sl153, sl154, sl155, sl156, sl157, sl158, sl159, sl160, sl161, sl162, sl163, sl164, sl165, sl166, sl167, nt168, nt169, nt170, nt171, nt172, nt173, nt174, nt175, nt176, nt177, nt178, nt179, nt180, nt181, nt182, nt183, nt184, sl185, sl186, sl187, sl188, sl189, sl190, sl191, sl192, sl193, sl194, sl195, sl196, sl197, sl198, sl199, sl200, sl201, sl202, sl203, sl204, sl205, sl206, sl207, sl208, sl209, sl210, sl211, sl212, sl213, sl214, sl215, sl216, sl217, sl218, sl219, sl220, sl221, sl222, sl223, sl224, sl225, sl226, sl227, sl228, sl229, sl230, sl231, sl232, sl233, sl234, sl235, sl236, sl237, sl238, sl239, sl240, sl241, sl242, sl243, sl244, sl245, sl246, sl247, sl248, sl249, sl250, sl251, sl252, sl253, sl254, sl255, sl256, sl257], []⟩ W') :
    Code.wp Tryd.prog (blkC 6) (Exit.then K' Q') ⟨#[sl0, sl1, sl2, sl3, sl4, sl5, sl6, sl7, sl8, sl9, sl10, sl11, sl12, sl13, sl14, sl15, sl16, sl17, (.pointer (some ⟨GB, 0, none⟩)), sl19, sl20, sl21, (.int .i64 0), (.int .i64 0), sl24, sl25, sl26, sl27, sl28, sl29, sl30, sl31, sl32, sl33, sl34, sl35, sl36, sl37, sl38, sl39, sl40, sl41, sl42, sl43, sl44, sl45, sl46, sl47, sl48, sl49, sl50, sl51, sl52, sl53, sl54, sl55, sl56, sl57, sl58, sl59, sl60, sl61, sl62, sl63, sl64, sl65, sl66, sl67, sl68, sl69, sl70, sl71, sl72, sl73, sl74, sl75, sl76, sl77, sl78, sl79, sl80, sl81, sl82, sl83, sl84, sl85, sl86, sl87, sl88, sl89, sl90, sl91, sl92, sl93, sl94, sl95, sl96, sl97, sl98, sl99, sl100, sl101, sl102, sl103, sl104, sl105, sl106, sl107, sl108, sl109, sl110, sl111, sl112, sl113, sl114, sl115, sl116, sl117, sl118, sl119, sl120, sl121, sl122, sl123, sl124, sl125, sl126, sl127, sl128, sl129, sl130, sl131, sl132, sl133, sl134, sl135, sl136, sl137, sl138, sl139, sl140, sl141, sl142, sl143, sl144, sl145, sl146, sl147, sl148, sl149, sl150, sl151, sl152, sl153, sl154, sl155, sl156, sl157, sl158, sl159, sl160, sl161, sl162, sl163, sl164, sl165, sl166, sl167, sl168, sl169, sl170, sl171, sl172, sl173, sl174, sl175, sl176, sl177, sl178, sl179, sl180, sl181, sl182, sl183, sl184, sl185, sl186, sl187, sl188, sl189, sl190, sl191, sl192, sl193, sl194, sl195, sl196, sl197, sl198, sl199, sl200, sl201, sl202, sl203, sl204, sl205, sl206, sl207, sl208, sl209, sl210, sl211, sl212, sl213, sl214, sl215, sl216, sl217, sl218, sl219, sl220, sl221, sl222, sl223, sl224, sl225, sl226, sl227, sl228, sl229, sl230, sl231, sl232, sl233, sl234, sl235, sl236, sl237, sl238, sl239, sl240, sl241, sl242, sl243, sl244, sl245, sl246, sl247, sl248, sl249, sl250, sl251, sl252, sl253, sl254, sl255, sl256, sl257], []⟩ W15 := by
  have HKK := hid hK
  clear hK
  conv => arg 2; whnf
  go_wp2_with fail
  go_loopw [22, 23] (fun vm vk wr => ∃ k : Nat, k ≤ 3 ∧ vk = .int .i64 (k : Nat) ∧ vm = .int .i64 ((80 * k : Nat) : Int) ∧ (CI w wr i 3 OB GB #[.int .i64 kind, .int .i64 gap, .int .i64 stop, .slice pa na ca, .slice pb nb cb, .int .i64 dn, .int .i64 dc] gp gn gc av2 qv2 A [(.slice p1 n1 c1, z1), (.slice p2 n2 c2, z1), (.slice p3 n3 c3, z2), (.slice p4 n4 c4, z2), (.slice p5 n5 c5, bas (norm xs)), (.slice p6 n6 c6, bas (norm xs))] (some (G, na + 2, cg, xs ++ [m1, m2])))) (fun _ vk _ => 3 - (intOf vk).toNat)
  case atStart => exact ⟨0, by omega, rfl, rfl, HC.out⟩
  case round =>
    clear HC
    obtain ⟨k, hk3, rfl, rfl, hC⟩ := hrel
    have HC := hid hC
    clear hC
    by_cases hk : k < 3
    · have iK : (k : Int) < 3 := by omega
      obtain ⟨z, hz⟩ := HC.out.vals k hk
      have an := HC.out.st.ans hz
      have hzn : z.length = gn k := by
        obtain ⟨p', c', e⟩ := own_shape an.1
        simp at e; exact e.2.1.symm
      have hG := grown_ok an.1 (by have := an.2.1; omega)
      have cq1 := box3 HC.out.gb k hk
      have hz8 : gn k ≤ 8 := by rw [← hzn]; exact an.2.1
      rw [hzn] at hG
      have HZ := hid hz
      have HAN := hid an
      clear hz an
      go_wp2_with fail
      refine hG.mono ?_
      rintro r Wg ⟨pq, dq, rfl, a2, o2⟩
      dsimp only
      have sG := HC.out.st.mark HZ.out a2 (xs' := z) (by rw [hzn]; exact o2) HAN.out.2.1 HAN.out.2.2.1
      rw [set_self HZ.out] at sG
      have oG := (a2.block OB (lt_of_heap HC.out.ob) (fun m => HAN.out.2.2.2 OB (by simp) (by simpa using m))).trans HC.out.ob
      have gG := (a2.block GB (lt_of_heap HC.out.gb) (fun m => HAN.out.2.2.2 GB (by simp) (by simpa using m))).trans HC.out.gb
      have HCG : Hid (CI w Wg i 3 OB GB #[.int .i64 kind, .int .i64 gap, .int .i64 stop, .slice pa na ca, .slice pb nb cb, .int .i64 dn, .int .i64 dc] gp gn gc av2 qv2 A [(.slice p1 n1 c1, z1), (.slice p2 n2 c2, z1), (.slice p3 n3 c3, z2), (.slice p4 n4 c4, z2), (.slice p5 n5 c5, bas (norm xs)), (.slice p6 n6 c6, bas (norm xs))] (some (G, na + 2, cg, xs ++ [m1, m2]))) := ⟨sG, HC.out.len, HC.out.vals, HC.out.done, oG, gG⟩
      have cq2 := box3 gG k hk
      have iD : IntKind.i64.wrap (80 * (k : Int) + ((gn k : Int) + 80)) = 80 * (k : Int) + ((gn k : Int) + 80) := by rw [IntKind.wrap_i64]; omega
      have iE : IntKind.i64.wrap (80 * (k : Int) + ((gn k : Int) + 80) - (gn k : Int)) = 80 * (k : Int) + 80 := by rw [IntKind.wrap_i64]; omega
      clear a2 o2 hG sG oG gG cq1
      go_wp2
      go_roundw
      case rel => exact ⟨k + 1, by omega, by go_num, by go_num, HCG.out⟩
      case measure => simp [intOf]; omega
    · obtain rfl : k = 3 := by omega
      go_wp2_with fail
      exact HKK.out _ _ _ _ _ _ _ _ _ _ _ _ _ _ _ _ _ _ _ _ HC.out
set_option maxHeartbeats 16000000 in
set_option maxRecDepth 1000000 in
theorem r36 {w : World} {i OB : Nat} {kind gap stop : Int} {pa : Option Addr} {na ca : Nat} {pb : Option Addr} {nb cb : Nat} {dn dc : Int} {xs ys : List S} {e1 : Int} {z1 : List S} {e2 : Int} {z2 : List S} {av qv : Value} {G cg GB : Nat} {gp : Nat → Option Addr} {gn gc : Nat → Nat} {qv2 av2 : Value} {p1 : Option Addr} {n1 c1 : Nat} {p2 : Option Addr} {n2 c2 : Nat} {p3 : Option Addr} {n3 c3 : Nat} {p4 : Option Addr} {n4 c4 : Nat} {p5 : Option Addr} {n5 c5 : Nat} {p6 : Option Addr} {n6 c6 : Nat} {W16 : World} {A : List (Value × List S)} (HLA : Hid (L w pa na xs)) (hna : na ≤ 1048576) (HC : Hid (CI w W16 i 3 OB GB #[.int .i64 kind, .int .i64 gap, .int .i64 stop, .slice pa na ca, .slice pb nb cb, .int .i64 dn, .int .i64 dc] gp gn gc av2 qv2 A [(.slice p1 n1 c1, z1), (.slice p2 n2 c2, z1), (.slice p3 n3 c3, z2), (.slice p4 n4 c4, z2), (.slice p5 n5 c5, bas (norm xs)), (.slice p6 n6 c6, bas (norm xs))] (some (G, na + 2, cg, xs ++ [m1, m2])))) {sl0 sl1 sl2 sl3 sl4 sl5 sl6 sl8 sl9 sl10 sl11 sl12 sl13 sl14 sl15 sl17 sl18 sl19 sl20 sl21 sl23 sl24 sl25 sl26 sl27 sl28 sl29 sl30 sl31 sl32 sl33 sl34 sl35 sl36 sl37 sl38 sl39 sl40 sl41 sl42 sl43 sl44 sl45 sl46 sl47 sl48 sl49 sl50 sl51 sl52 sl53 sl54 sl55 sl56 sl57 sl58 sl59 sl60 sl61 sl62 sl63 sl64 sl65 sl66 sl67 sl68 sl69 sl70 sl71 sl72 sl73 sl74 sl75 sl76 sl77 sl78 sl79 sl80 sl81 sl82 sl83 sl84 sl85 sl86 sl87 sl88 sl89 sl90 sl91 sl92 sl93 sl94 sl95 sl96 sl97 sl98 sl99 sl100 sl101 sl102 sl103 sl104 sl105 sl106 sl107 sl108 sl109 sl110 sl111 sl112 sl113 sl114 sl115 sl116 sl117 sl118 sl119 sl120 sl121 sl122 sl123 sl124 sl125 sl126 sl127 sl128 sl129 sl130 sl131 sl132 sl133 sl134 sl135 sl136 sl137 sl138 sl139 sl140 sl141 sl142 sl143 sl144 sl145 sl146 sl147 sl148 sl149 sl150 sl151 sl152 sl153 sl154 sl155 sl156 sl157 sl158 sl159 sl160 sl161 sl162 sl163 sl164 sl165 sl166 sl167 sl168 sl169 sl170 sl171 sl172 sl173 sl174 sl175 sl176 sl177 sl178 sl179 sl180 sl181 sl182 sl183 sl184 sl185 sl186 sl187 sl188 sl189 sl190 sl191 sl192 sl193 sl194 sl195 sl196 sl197 sl198 sl199 sl200 sl201 sl202 sl203 sl204 sl205 sl206 sl207 sl208 sl209 sl210 sl211 sl212 sl213 sl214 sl215 sl216 sl217 sl218 sl219 sl220 sl221 sl222 sl223 sl224 sl225 sl226 sl227 sl228 sl229 sl230 sl231 sl232 sl233 sl234 sl235 sl236 sl237 sl238 sl239 sl240 sl241 sl242 sl243 sl244 sl245 sl246 sl247 sl248 sl249 sl250 sl251 sl252 sl253 sl254 sl255 sl256 sl257 : Value} {K' : Act → World → Prop} {Q' : Exit → Act → World → Prop} (hQ : ∀ x (a : Act) (d : Nat) v (w : World), Q' (.panic x) (a.put (some d) v) w → Q' (.panic x) a w) (hK : ∀ (W' : World) (nt185 nt186 nt187 nt188 nt189 nt190 nt191 nt192 nt193 : Value), (CI w W' i 3 OB GB #[.int .i64 kind, .int .i64 gap, .int .i64 stop, .slice pa na ca, .slice pb nb cb, .int .i64 dn, .int .i64 dc] gp gn gc av2 qv2 A [(.slice p1 n1 c1, z1), (.slice p2 n2 c2, z1), (.slice p3 n3 c3, z2), (.slice p4 n4 c4, z2), (.slice p5 n5 c5, bas (norm xs)), (.slice p6 n6 c6, bas (norm xs))] (some (G, na + 2, cg, xs ++ [m1, m2]))) → K' ⟨#[sl0, sl1, sl2, sl3, sl4, sl5, sl6, (.pointer (some ⟨OB, 0, none⟩)), sl8, sl9, sl10, sl11, sl12, sl13, sl14, sl15, (.slice (some ⟨G, 0, none⟩) (na + 2) cg), sl17, sl18, sl19, sl20, sl21, (.int .i64 240), sl23, sl24, sl25, sl26, sl27, sl28, sl29, sl30, sl31, sl32, sl33, sl34, sl35, sl36, sl37, sl38, sl39, sl40, sl41, sl42, sl43, sl44, sl45, sl46, sl47, sl48, sl49, sl50, sl51, sl52, sl53, sl54, sl55, sl56, sl57, sl58, sl59, sl60, sl61, sl62, sl63, sl64, sl65, sl66, sl67, sl68, sl69, sl70, sl71, sl72, sl73, sl74, sl75, sl76, sl77, sl78, sl79, sl80, sl81, sl82, sl83, sl84, sl85, sl86, sl87, sl88, sl89, sl90, sl91, sl92, sl93, sl94, sl95, sl96, sl97, sl98, sl99, sl100, sl101, sl102, sl103, sl104, sl105, sl106, sl107, sl108, sl109, sl110, sl111, sl112, sl113, sl114, sl115, sl116, sl117, sl118, sl119, sl120, sl121, sl122, sl123, sl124, sl125, sl126, sl127, sl128, sl129, sl130, sl131, sl132, sl133, sl134, sl135, sl136, sl137, sl138, sl139, sl140, sl141, sl142, sl143, sl144, sl145, sl146, sl147, sl148, sl149, sl150, sl151, sl152, sl153, sl154, sl155, sl156, sl157, sl158, sl159, sl160, sl161, sl162, sl163, sl164, sl165, sl166, sl167, sl168, sl169, sl170, sl171, sl172, sl173, sl174, sl175, sl176, sl177, sl178, sl179, sl180, sl181, sl182, sl183, sl184, nt185, nt186, nt187, nt188, nt189, nt190, nt191, nt192, nt193, (.bool false), sl195, sl196, sl197, sl198, sl199, sl200, sl201, sl202, sl203, sl204, sl205, sl206, sl207, sl208, sl209, sl210, sl211, sl212, sl213, sl214, sl215, sl216, sl217, sl218, sl219, sl220, sl221, sl222, sl223, sl224, sl225, sl226, sl227, sl228, sl229, sl230, sl231, sl232, sl233, sl234, sl235, sl236, sl237, sl238, sl239, sl240, sl241, sl242, sl243, sl244, sl245, sl246, sl247, sl248, sl249, sl250, sl251, sl252, sl253, sl254, sl255, sl256, sl257], []⟩ W') :
    Code.wp Tryd.prog (regC 36) (Exit.then K' Q') ⟨#[sl0, sl1, sl2, sl3, sl4, sl5, sl6, (.pointer (some ⟨OB, 0, none⟩)), sl8, sl9, sl10, sl11, sl12, sl13, sl14, sl15, (.slice (some ⟨G, 0, none⟩) (na + 2) cg), sl17, sl18, sl19, sl20, sl21, (.int .i64 240), sl23, sl24, sl25, sl26, sl27, sl28, sl29, sl30, sl31, sl32, sl33, sl34, sl35, sl36, sl37, sl38, sl39, sl40, sl41, sl42, sl43, sl44, sl45, sl46, sl47, sl48, sl49, sl50, sl51, sl52, sl53, sl54, sl55, sl56, sl57, sl58, sl59, sl60, sl61, sl62, sl63, sl64, sl65, sl66, sl67, sl68, sl69, sl70, sl71, sl72, sl73, sl74, sl75, sl76, sl77, sl78, sl79, sl80, sl81, sl82, sl83, sl84, sl85, sl86, sl87, sl88, sl89, sl90, sl91, sl92, sl93, sl94, sl95, sl96, sl97, sl98, sl99, sl100, sl101, sl102, sl103, sl104, sl105, sl106, sl107, sl108, sl109, sl110, sl111, sl112, sl113, sl114, sl115, sl116, sl117, sl118, sl119, sl120, sl121, sl122, sl123, sl124, sl125, sl126, sl127, sl128, sl129, sl130, sl131, sl132, sl133, sl134, sl135, sl136, sl137, sl138, sl139, sl140, sl141, sl142, sl143, sl144, sl145, sl146, sl147, sl148, sl149, sl150, sl151, sl152, sl153, sl154, sl155, sl156, sl157, sl158, sl159, sl160, sl161, sl162, sl163, sl164, sl165, sl166, sl167, sl168, sl169, sl170, sl171, sl172, sl173, sl174, sl175, sl176, sl177, sl178, sl179, sl180, sl181, sl182, sl183, sl184, sl185, sl186, sl187, sl188, sl189, sl190, sl191, sl192, sl193, sl194, sl195, sl196, sl197, sl198, sl199, sl200, sl201, sl202, sl203, sl204, sl205, sl206, sl207, sl208, sl209, sl210, sl211, sl212, sl213, sl214, sl215, sl216, sl217, sl218, sl219, sl220, sl221, sl222, sl223, sl224, sl225, sl226, sl227, sl228, sl229, sl230, sl231, sl232, sl233, sl234, sl235, sl236, sl237, sl238, sl239, sl240, sl241, sl242, sl243, sl244, sl245, sl246, sl247, sl248, sl249, sl250, sl251, sl252, sl253, sl254, sl255, sl256, sl257], []⟩ W16 := by
  have HKK := hid hK
  clear hK
  conv => arg 2; whnf
  have b7 := box7 HC.out.ob
  obtain ⟨b71, b73, b74, b75, b76⟩ := b7
  have hL := lentO (cap := ca) (HLA.out.kept0 HC.out.st.ap) (by omega)
  go_wp2_with fail
  refine hL.mono ?_
  rintro r Wl ⟨G2, cg2, rfl, hcg2, ol⟩
  dsimp only
  have hfit : ∀ x ∈ xs ++ [m1, m2], x.t < 2 ^ 64 := by
    intro x hx
    simp only [List.mem_append, List.mem_cons, List.not_mem_nil, or_false] at hx
    rcases hx with hx | rfl | rfl
    · exact HLA.out.fit x hx
    · decide
    · decide
  have hla : L Wl (some ⟨G, 0, none⟩) (na + 2) (xs ++ [m1, m2]) := by
    have s2 := HC.out.st.kept0 ol.ap
    obtain ⟨o3, hn3, _⟩ := s2.lt
    rw [hn3] at o3
    have l3 : L Wl (some ⟨G, 0, none⟩) (xs ++ [m1, m2]).length (xs ++ [m1, m2]) := ⟨Sp.own o3 rfl, rfl, by rw [← hn3]; omega, hfit⟩
    rw [← hn3] at l3
    exact l3
  have hSa := same_as (cap := cg) (cb := cg2) hla (ol.L (by omega) hfit) true ⟨by simp⟩
  have HCl : Hid (CI w Wl i 3 OB GB #[.int .i64 kind, .int .i64 gap, .int .i64 stop, .slice pa na ca, .slice pb nb cb, .int .i64 dn, .int .i64 dc] gp gn gc av2 qv2 A [(.slice p1 n1 c1, z1), (.slice p2 n2 c2, z1), (.slice p3 n3 c3, z2), (.slice p4 n4 c4, z2), (.slice p5 n5 c5, bas (norm xs)), (.slice p6 n6 c6, bas (norm xs))] (some (G, na + 2, cg, xs ++ [m1, m2]))) := ⟨HC.out.st.kept0 ol.ap, HC.out.len, HC.out.vals, HC.out.done, (ol.ap.block OB (lt_of_heap HC.out.ob) (by simp)).trans HC.out.ob, (ol.ap.block GB (lt_of_heap HC.out.gb) (by simp)).trans HC.out.gb⟩
  clear hL ol hla b71 b73 b74 b75 b76 hfit
  go_wp2_with fail
  refine hSa.mono ?_
  rintro r Wm ⟨rfl, am⟩
  dsimp only
  have HCm : Hid (CI w Wm i 3 OB GB #[.int .i64 kind, .int .i64 gap, .int .i64 stop, .slice pa na ca, .slice pb nb cb, .int .i64 dn, .int .i64 dc] gp gn gc av2 qv2 A [(.slice p1 n1 c1, z1), (.slice p2 n2 c2, z1), (.slice p3 n3 c3, z2), (.slice p4 n4 c4, z2), (.slice p5 n5 c5, bas (norm xs)), (.slice p6 n6 c6, bas (norm xs))] (some (G, na + 2, cg, xs ++ [m1, m2]))) := ⟨HCl.out.st.kept0 am, HC.out.len, HC.out.vals, HC.out.done, (am.block OB (lt_of_heap HCl.out.ob) (by simp)).trans HCl.out.ob, (am.block GB (lt_of_heap HCl.out.gb) (by simp)).trans HCl.out.gb⟩
  clear hSa am HCl
  go_wp2_with fail
  exact HKK.out _ _ _ _ _ _ _ _ _ _ HCm.out
end Go.Proofs.YtdggkofihppcmaaDoor.ds
