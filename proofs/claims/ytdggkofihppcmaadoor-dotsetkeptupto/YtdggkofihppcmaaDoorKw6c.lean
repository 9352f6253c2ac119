import Derived.Test.YtdggkofihppcmaaDoorKw6a
import Derived.Deep.CutBlock
namespace Go.Proofs.YtdggkofihppcmaaDoor.ds
open Go.ChangeShapes Go.WideShapes Go.ChangeAt Go.RowKit
set_option linter.unusedVariables false
set_option linter.unusedSimpArgs false
set_option maxHeartbeats 16000000 in
set_option maxRecDepth 1000000 in
theorem blkCC {w : World} {i OB : Nat} {kind gap stop : Int} {pa : Option Addr} {na ca : Nat} {pb : Option Addr} {nb cb : Nat} {dn dc : Int} {xs ys : List S} {e1 : Int} {z1 : List S} {e2 : Int} {z2 : List S} {av qv : Value} {G cg GB : Nat} {gp : Nat → Option Addr} {gn gc : Nat → Nat} {qv2 av2 : Value} {p1 : Option Addr} {n1 c1 : Nat} {p2 : Option Addr} {n2 c2 : Nat} {p3 : Option Addr} {n3 c3 : Nat} {p4 : Option Addr} {n4 c4 : Nat} {p5 : Option Addr} {n5 c5 : Nat} {p6 : Option Addr} {n6 c6 : Nat} {W14 : World} {A0 : List (Value × List S)} (hlt30 : i < 30) (HC0 : Hid (CI w W14 i 0 OB GB #[.int .i64 kind, .int .i64 gap, .int .i64 stop, .slice pa na ca, .slice pb nb cb, .int .i64 dn, .int .i64 dc] gp gn gc av qv2 A0 [(.slice p1 n1 c1, z1), (.slice p2 n2 c2, z1), (.slice p3 n3 c3, z2), (.slice p4 n4 c4, z2), (.slice p5 n5 c5, bas (norm xs)), (.slice p6 n6 c6, bas (norm xs))] (some (G, na + 2, cg, xs ++ [m1, m2])))) {sl0 sl1 sl2 sl3 sl5 sl7 sl8 sl9 sl10 sl11 sl12 sl13 sl14 sl15 sl16 sl17 sl20 sl21 sl22 sl23 sl24 sl25 sl26 sl27 sl28 sl29 sl30 sl31 sl32 sl33 sl34 sl35 sl36 sl37 sl38 sl39 sl40 sl41 sl42 sl43 sl44 sl45 sl46 sl47 sl48 sl49 sl50 sl51 sl52 sl53 sl54 sl55 sl56 sl57 sl58 sl59 sl60 sl61 sl62 sl63 sl64 sl65 sl66 sl67 sl68 sl69 sl70 sl71 sl72 sl73 sl74 sl75 sl76 sl77 sl78 sl79 sl80 sl81 sl82 sl83 sl84 sl85 sl86 sl87 sl88 sl89 sl90 sl91 sl92 sl93 sl94 sl95 sl96 sl97 sl98 sl99 sl100 sl101 sl102 sl103 sl104 sl105 sl106 sl107 sl108 sl109 sl110 sl111 sl112 sl113 sl114 sl115 sl116 sl117 sl118 sl119 sl120 sl121 sl122 sl123 sl124 sl125 sl126 sl127 sl128 sl129 sl130 sl131 sl132 sl133 sl134 sl135 sl136 sl137 sl138 sl139 sl140 sl141 sl142 sl143 sl144 sl145 sl146 sl147 sl148 sl149 sl150 sl151 sl152 sl153 sl154 sl155 sl156 sl157 sl158 sl159 sl160 sl161 sl162 sl163 sl164 sl165 sl166 sl167 sl168 sl169 sl170 sl171 sl172 sl173 sl174 sl175 sl176 sl177 sl178 sl179 sl180 sl181 sl182 sl183 sl184 sl185 sl186 sl187 sl188 sl189 sl190 sl191 sl192 sl193 sl194 sl195 sl196 sl197 sl198 sl199 sl200 sl201 sl202 sl203 sl204 sl205 sl206 sl207 sl208 sl209 sl210 sl211 sl212 sl213 sl214 sl215 sl216 sl217 sl218 sl219 sl220 sl221 sl222 sl223 sl224 sl225 sl226 sl227 sl228 sl229 sl230 sl231 sl232 sl233 sl234 sl235 sl236 sl237 sl238 sl239 sl240 sl241 sl242 sl243 sl244 sl245 sl246 sl247 sl248 sl249 sl250 sl251 sl252 sl253 sl254 sl255 sl256 sl257 : Value} {K' : Act → World → Prop} {Q' : Exit → Act → World → Prop} (hQ : ∀ x (a : Act) (d : Nat) v (w : World), Q' (.panic x) (a.put (some d) v) w → Q' (.panic x) a w) (hK : ∀ (av2 : Value) (A : List (Value × List S)) (W' : World) (nt19 nt20 nt21 nt136 nt137 nt138 nt139 nt140 nt141 nt142 nt143 nt144 nt145 nt146 nt147 nt148 nt149 nt150 nt151 nt152 nt153 nt154 nt155 nt156 nt157 nt158 nt159 nt160 nt161 nt162 nt163 nt164 nt165 nt166 nt167 : Value), (CI w W' i 3 OB GB #[.int .i64 kind, .int .i64 gap, .int .i64 stop, .slice pa na ca, .slice pb nb cb, .int .i64 dn, .int .i64 dc] gp gn gc av2 qv2 A [(.slice p1 n1 c1, z1), (.slice p2 n2 c2, z1), (.slice p3 n3 c3, z2), (.slice p4 n4 c4, z2), (.slice p5 n5 c5, bas (norm xs)), (.slice p6 n6 c6, bas (norm xs))] (some (G, na + 2, cg, xs ++ [m1, m2]))) → K' ⟨#[sl0, sl1, sl2, sl3, av2, sl5, (.int .i64 (i : Nat)), sl7, sl8, sl9, sl10, sl11, sl12, sl13, sl14, sl15, sl16, sl17, (.pointer (some ⟨GB, 0, none⟩)), nt19, nt20, nt21, sl22, sl23, sl24, sl25, sl26, sl27, sl28, sl29, sl30, sl31, sl32, sl33, sl34, sl35, sl36, sl37, sl38, sl39, sl40, sl41, sl42, sl43, sl44, sl45, sl46, sl47, sl48, sl49, sl50, sl51, sl52, sl53, sl54, sl55, sl56, sl57, sl58, sl59, sl60, sl61, sl62, sl63, sl64, sl65, sl66, sl67, sl68, sl69, sl70, sl71, sl72, sl73, sl74, sl75, sl76, sl77, sl78, sl79, sl80, sl81, sl82, sl83, sl84, sl85, sl86, sl87, sl88, sl89, sl90, sl91, sl92, sl93, sl94, sl95, sl96, sl97, sl98, sl99, sl100, sl101, sl102, sl103, sl104, sl105, sl106, sl107, sl108, sl109, sl110, sl111, sl112, sl113, sl114, sl115, sl116, sl117, sl118, sl119, sl120, sl121, sl122, sl123, sl124, sl125, sl126, sl127, sl128, sl129, sl130, sl131, sl132, sl133, sl134, sl135, nt136, nt137, nt138, nt139, nt140, nt141, nt142, nt143, nt144, nt145, nt146, nt147, nt148, nt149, nt150, nt151, nt152, nt153, nt154, nt155, nt156, nt157, nt158, nt159, nt160, nt161, nt162, nt163, nt164, nt165, nt166, nt167, sl168, sl169, sl170, sl171, sl172, sl173, sl174, sl175, sl176, sl177, sl178, sl179, sl180, sl181, sl182, sl183, sl184, sl185, sl186, sl187, sl188, sl189, sl190, sl191, sl192, sl193, sl194, sl195, sl196, sl197, sl198, sl199, sl200, sl201, sl202, sl203, sl204, sl205, sl206, sl207, sl208, sl209, sl210, sl211, sl212, sl213, sl214, sl215, sl216, sl217, sl218, sl219, sl220, sl221, sl222, sl223, sl224, sl225, sl226, sl227, sl228, sl229, sl230, sl231, sl232, sl233, sl234, sl235, sl236, sl237, sl238, sl239, sl240, sl241, sl242, sl243, sl244, sl245, sl246, sl247, sl248, sl249, sl250, sl251, sl252, sl253, sl254, sl255, sl256, sl257], []⟩ W') :
    Code.wp Tryd.prog (blkC 2) (Exit.then K' Q') ⟨#[sl0, sl1, sl2, sl3, av, sl5, (.int .i64 (i : Nat)), sl7, sl8, sl9, sl10, sl11, sl12, sl13, sl14, sl15, sl16, sl17, (.pointer (some ⟨GB, 0, none⟩)), (.int .i64 0), sl20, sl21, sl22, sl23, sl24, sl25, sl26, sl27, sl28, sl29, sl30, sl31, sl32, sl33, sl34, sl35, sl36, sl37, sl38, sl39, sl40, sl41, sl42, sl43, sl44, sl45, sl46, sl47, sl48, sl49, sl50, sl51, sl52, sl53, sl54, sl55, sl56, sl57, sl58, sl59, sl60, sl61, sl62, sl63, sl64, sl65, sl66, sl67, sl68, sl69, sl70, sl71, sl72, sl73, sl74, sl75, sl76, sl77, sl78, sl79, sl80, sl81, sl82, sl83, sl84, sl85, sl86, sl87, sl88, sl89, sl90, sl91, sl92, sl93, sl94, sl95, sl96, sl97, sl98, sl99, sl100, sl101, sl102, sl103, sl104, sl105, sl106, sl107, sl108, sl109, sl110, sl111, sl112, sl113, sl114, sl115, sl116, sl117, sl118, sl119, sl120, sl121, sl122, sl123, sl124, sl125, sl126, sl127, sl128, sl129, sl130, sl131, sl132, sl133, sl134, sl135, sl136, sl137, sl138, sl139, sl140, sl141, sl142, sl143, sl144, sl145, sl146, sl147, sl148, sl149, sl150, sl151, sl152, sl153, sl154, sl155, sl156, sl157, sl158, sl159, sl160, sl161, sl162, sl163, sl164, sl165, sl166, sl167, sl168, sl169, sl170, sl171, sl172, sl173, sl174, sl175, sl176, sl177, sl178, sl179, sl180, sl181, sl182, sl183, sl184, sl185, sl186, sl187, sl188, sl189, sl190, sl191, sl192, sl193, sl194, sl195, sl196, sl197, sl198, sl199, sl200, sl201, sl202, sl203, sl204, sl205, sl206, sl207, sl208, sl209, sl210, sl211, sl212, sl213, sl214, sl215, sl216, sl217, sl218, sl219, sl220, sl221, sl222, sl223, sl224, sl225, sl226, sl227, sl228, sl229, sl230, sl231, sl232, sl233, sl234, sl235, sl236, sl237, sl238, sl239, sl240, sl241, sl242, sl243, sl244, sl245, sl246, sl247, sl248, sl249, sl250, sl251, sl252, sl253, sl254, sl255, sl256, sl257], []⟩ W14 := by
  have HKK := hid hK
  clear hK
  conv => arg 2; whnf
  go_wp2_with fail
  go_loopw [4, 19] (fun va vk wr => ∃ (av2 : Value) (k : Nat) (A : List (Value × List S)), k ≤ 3 ∧ av2 = va ∧ vk = .int .i64 (k : Nat) ∧ (CI w wr i k OB GB #[.int .i64 kind, .int .i64 gap, .int .i64 stop, .slice pa na ca, .slice pb nb cb, .int .i64 dn, .int .i64 dc] gp gn gc av2 qv2 A [(.slice p1 n1 c1, z1), (.slice p2 n2 c2, z1), (.slice p3 n3 c3, z2), (.slice p4 n4 c4, z2), (.slice p5 n5 c5, bas (norm xs)), (.slice p6 n6 c6, bas (norm xs))] (some (G, na + 2, cg, xs ++ [m1, m2])))) (fun _ vk _ => 3 - (intOf vk).toNat)
  case atStart => exact ⟨_, 0, _, by omega, rfl, rfl, HC0.out⟩
  case round =>
    clear HC0
    obtain ⟨av2, k, A, hk3, rfl, rfl, hC⟩ := hrel
    have HC := hid hC
    clear hC
    by_cases hk : k < 3
    · have iK : (k : Int) < 3 := by omega
      obtain ⟨z, hz⟩ := HC.out.vals k hk
      have HZ := hid hz
      have hzn : z.length = gn k := by
        obtain ⟨o, _⟩ := HC.out.st.ans hz
        obtain ⟨p', c', e⟩ := own_shape o
        simp at e; exact e.2.1.symm
      have hz8 : gn k ≤ 8 := by rw [← hzn]; exact (HC.out.st.ans hz).2.1
      have HZF := hid (HC.out.st.ans hz).2.2.1
      have hM := mark_ok wr (10 + (3 * i + k)) (by omega)
      have hcast : (((10 + (3 * i + k) : Nat)) : Int) = 10 + 3 * (i : Int) + (k : Int) := by omega
      rw [hcast] at hM
      have iD1 : IntKind.i64.wrap (3 * (i : Int)) = 3 * (i : Int) := by rw [IntKind.wrap_i64]; omega
      have iD2 : IntKind.i64.wrap (10 + 3 * (i : Int)) = 10 + 3 * (i : Int) := by rw [IntKind.wrap_i64]; omega
      have iD3 : IntKind.i64.wrap (10 + 3 * (i : Int) + (k : Int)) = 10 + 3 * (i : Int) + (k : Int) := by rw [IntKind.wrap_i64]; omega
      clear hz
      go_wp2_with fail
      refine hM.mono ?_
      rintro r Wm ⟨rfl, am⟩
      dsimp only
      obtain ⟨MB, hMB⟩ : ∃ MB, Wm.heap.size = MB := ⟨_, rfl⟩
      have sm := HC.out.st.kept0 am
      have om := (am.block OB (lt_of_heap HC.out.ob) (by simp)).trans HC.out.ob
      have gm := (am.block GB (lt_of_heap HC.out.gb) (by simp)).trans HC.out.gb
      have an : Apart [] Wm (Wm.alloc (.cells #[.int .i64 (mrk (10 + (3 * i + k))).n, .int .i64 (mrk (10 + (3 * i + k))).b, .int .u64 ((mrk (10 + (3 * i + k))).t : Int)] 52)) := (Apart.refl _ _).alloc _
      have mm : (Wm.alloc (.cells #[.int .i64 (mrk (10 + (3 * i + k))).n, .int .i64 (mrk (10 + (3 * i + k))).b, .int .u64 ((mrk (10 + (3 * i + k))).t : Int)] 52)).heap[Wm.heap.size]? = some (.cells #[.int .i64 (mrk (10 + (3 * i + k))).n, .int .i64 (mrk (10 + (3 * i + k))).b, .int .u64 ((mrk (10 + (3 * i + k))).t : Int)] 52 (0, 0)) := heap_alloc_new Wm _
      rw [hMB] at mm
      have HS0 : Hid (ST w (Wm.alloc (.cells #[.int .i64 (mrk (10 + (3 * i + k))).n, .int .i64 (mrk (10 + (3 * i + k))).b, .int .u64 ((mrk (10 + (3 * i + k))).t : Int)] 52)) av2 qv2 (3 * i) (2 * (3 * i)) k 6 A [(.slice p1 n1 c1, z1), (.slice p2 n2 c2, z1), (.slice p3 n3 c3, z2), (.slice p4 n4 c4, z2), (.slice p5 n5 c5, bas (norm xs)), (.slice p6 n6 c6, bas (norm xs))] [MB, GB, OB] (some (G, na + 2, cg, xs ++ [m1, m2]))) := sm.box an MB (by omega) (lt_of_heap mm)
      have HO0 : Hid ((Wm.alloc (.cells #[.int .i64 (mrk (10 + (3 * i + k))).n, .int .i64 (mrk (10 + (3 * i + k))).b, .int .u64 ((mrk (10 + (3 * i + k))).t : Int)] 52)).heap[OB]? = some (.cells #[.int .i64 kind, .int .i64 gap, .int .i64 stop, .slice pa na ca, .slice pb nb cb, .int .i64 dn, .int .i64 dc] 48 (0, 0))) := (an.block OB (lt_of_heap om) (by simp)).trans om
      have HG0 : Hid ((Wm.alloc (.cells #[.int .i64 (mrk (10 + (3 * i + k))).n, .int .i64 (mrk (10 + (3 * i + k))).b, .int .u64 ((mrk (10 + (3 * i + k))).t : Int)] 52)).heap[GB]? = some (.cells #[.slice (gp 0) (gn 0) (gc 0), .slice (gp 1) (gn 1) (gc 1), .slice (gp 2) (gn 2) (gc 2)] 49 (0, 0))) := (an.block GB (lt_of_heap gm) (by simp)).trans gm
      have HM0 : Hid ((Wm.alloc (.cells #[.int .i64 (mrk (10 + (3 * i + k))).n, .int .i64 (mrk (10 + (3 * i + k))).b, .int .u64 ((mrk (10 + (3 * i + k))).t : Int)] 52)).heap[MB]? = some (.cells #[.int .i64 (mrk (10 + (3 * i + k))).n, .int .i64 (mrk (10 + (3 * i + k))).b, .int .u64 ((mrk (10 + (3 * i + k))).t : Int)] 52 (0, 0))) := mm
      clear hM am sm om gm an mm iD1 iD2 iD3
      go_wp2_with fail
      generalize hX0 : Wm.alloc (.cells #[.int .i64 (mrk (10 + (3 * i + k))).n, .int .i64 (mrk (10 + (3 * i + k))).b, .int .u64 ((mrk (10 + (3 * i + k))).t : Int)] 52) = X0 at HS0 HO0 HG0 HM0 ⊢
      clear hX0
      go_loopw [21] (fun vj wr => ∃ j : Nat, j ≤ gn k ∧ vj = .int .i64 (j : Nat) ∧ ST w wr av2 qv2 (3 * i) (2 * (3 * i)) k 6 (A.set k ((.slice (gp k) (gn k) (gc k)), mfill (mrk (10 + (3 * i + k))) j z)) [(.slice p1 n1 c1, z1), (.slice p2 n2 c2, z1), (.slice p3 n3 c3, z2), (.slice p4 n4 c4, z2), (.slice p5 n5 c5, bas (norm xs)), (.slice p6 n6 c6, bas (norm xs))] [MB, GB, OB] (some (G, na + 2, cg, xs ++ [m1, m2])) ∧ wr.heap[OB]? = some (.cells #[.int .i64 kind, .int .i64 gap, .int .i64 stop, .slice pa na ca, .slice pb nb cb, .int .i64 dn, .int .i64 dc] 48 (0, 0)) ∧ wr.heap[GB]? = some (.cells #[.slice (gp 0) (gn 0) (gc 0), .slice (gp 1) (gn 1) (gc 1), .slice (gp 2) (gn 2) (gc 2)] 49 (0, 0)) ∧ wr.heap[MB]? = some (.cells #[.int .i64 (mrk (10 + (3 * i + k))).n, .int .i64 (mrk (10 + (3 * i + k))).b, .int .u64 ((mrk (10 + (3 * i + k))).t : Int)] 52 (0, 0))) (fun vj _ => gn k - (intOf vj).toNat)
      case atStart => exact ⟨0, by omega, rfl, by rw [mfill_zero, set_self HZ.out]; exact HS0.out, HO0.out, HG0.out, HM0.out⟩
      case round =>
        clear HS0 HO0 HG0 HM0
        obtain ⟨j, hj, rfl, hS, hO, hG, hMM⟩ := hrel
        have HS := hid hS
        have HO := hid hO
        have HG := hid hG
        have HMB := hid hMM
        clear hS hO hG hMM
        have cg0 := box3 HG.out k hk
        by_cases hjn : j < gn k
        · have hl2 := mfill_len (mrk (10 + (3 * i + k))) j z (by omega)
          have hAk : (A.set k ((.slice (gp k) (gn k) (gc k)), mfill (mrk (10 + (3 * i + k))) j z))[k]? = some ((.slice (gp k) (gn k) (gc k)), mfill (mrk (10 + (3 * i + k))) j z) := set_at (by rw [HC.out.len]; exact hk)
          have sD : ST w wr.drew av2 qv2 (3 * i) (2 * (3 * i)) k 6 (A.set k ((.slice (gp k) (gn k) (gc k)), mfill (mrk (10 + (3 * i + k))) j z)) [(.slice p1 n1 c1, z1), (.slice p2 n2 c2, z1), (.slice p3 n3 c3, z2), (.slice p4 n4 c4, z2), (.slice p5 n5 c5, bas (norm xs)), (.slice p6 n6 c6, bas (norm xs))] [MB, GB, OB] (some (G, na + 2, cg, xs ++ [m1, m2])) := HS.out.kept0 ((Apart.refl [] wr).drewN 1)
          have oA := (sD.ans hAk).1
          have hfA := (sD.ans hAk).2.2.1
          have hnb := (sD.ans hAk).2.2.2
          rw [hl2, hzn] at oA
          obtain ⟨P2, hgp⟩ := own_some oA (by omega)
          rw [hgp] at oA cg0 hnb
          obtain ⟨cur, hcur, hsz⟩ := own_cells3 oA (by rw [hl2, hzn])
          have cGD : wr.drew.cell? ⟨GB, k, none⟩ = some (.slice (some ⟨P2, 0, none⟩) (gn k) (gc k)) := cg0
          have mq0 : wr.drew.cell? ⟨MB, 0, none⟩ = some (.int .i64 (mrk (10 + (3 * i + k))).n) := by rw [cell_of_row _ _ _ _ _ _ (show wr.drew.heap[MB]? = _ from HMB.out)]; rfl
          have mq1 : wr.drew.cell? ⟨MB, 1, none⟩ = some (.int .i64 (mrk (10 + (3 * i + k))).b) := by rw [cell_of_row _ _ _ _ _ _ (show wr.drew.heap[MB]? = _ from HMB.out)]; rfl
          have mq2 : wr.drew.cell? ⟨MB, 2, none⟩ = some (.int .u64 ((mrk (10 + (3 * i + k))).t : Int)) := by rw [cell_of_row _ _ _ _ _ _ (show wr.drew.heap[MB]? = _ from HMB.out)]; rfl
          have ce : ∀ q, q < gn k * 3 → ∃ u, wr.drew.cell? ⟨P2, q, none⟩ = some u := fun q hq => ⟨_, by rw [cell_of_row _ _ _ _ _ _ hcur, Array.getElem?_eq_getElem (by omega)]⟩
          obtain ⟨x0, k0⟩ := ce (j * 3) (by omega)
          obtain ⟨x1, k1⟩ := ce (j * 3 + 1) (by omega)
          obtain ⟨x2, k2⟩ := ce (j * 3 + 2) (by omega)
          have f0 := frozen_of_row wr.drew P2 (j * 3) _ _ hcur
          have f1 := frozen_of_row wr.drew P2 (j * 3 + 1) _ _ hcur
          have f2 := frozen_of_row wr.drew P2 (j * 3 + 2) _ _ hcur
          have aX : Apart [P2] wr.drew (((wr.drew.setCell ⟨P2, j * 3, none⟩ (.int .i64 (mrk (10 + (3 * i + k))).n)).setCell ⟨P2, j * 3 + 1, none⟩ (.int .i64 (mrk (10 + (3 * i + k))).b)).setCell ⟨P2, j * 3 + 2, none⟩ (.int .u64 ((mrk (10 + (3 * i + k))).t : Int))) := apart3 (Apart.refl _ _) (by simp) _ _ _ _ _ _
          have nG : GB ≠ P2 := fun e => hnb GB (by simp) (by rw [e]; rfl)
          have nO : OB ≠ P2 := fun e => hnb OB (by simp) (by rw [e]; rfl)
          have nM : MB ≠ P2 := fun e => hnb MB (by simp) (by rw [e]; rfl)
          have oX := own_set3 oA (by rw [hl2, hzn]) j hjn (mrk (10 + (3 * i + k)))
          rw [mfill_set _ j z (by omega)] at oX
          have hl3 := mfill_len (mrk (10 + (3 * i + k))) (j + 1) z (by omega)
          have sX := sD.mark hAk (by rw [hgp]; exact aX) (xs' := mfill (mrk (10 + (3 * i + k))) (j + 1) z) (by rw [hl3, hzn, hgp]; exact oX) (by rw [hl3, hzn]; exact hz8) (mfill_fit _ _ _ (mrk_fit _) HZF.out)
          rw [List.set_set] at sX
          have HSX := hid sX
          have HOX := hid ((aX.block OB (lt_of_heap (show wr.drew.heap[OB]? = _ from HO.out)) (by simpa using nO)).trans HO.out)
          have HGX := hid ((aX.block GB (lt_of_heap (show wr.drew.heap[GB]? = _ from HG.out)) (by simpa using nG)).trans HG.out)
          have HMX := hid ((aX.block MB (lt_of_heap (show wr.drew.heap[MB]? = _ from HMB.out)) (by simpa using nM)).trans HMB.out)
          have y0 := (aX.cell (p := ⟨GB, k, none⟩) (block_lt_of_cell cGD) (by simpa using nG)).trans cGD
          have y1 := (aX.cell (p := ⟨MB, 0, none⟩) (block_lt_of_cell mq0) (by simpa using nM)).trans mq0
          have y2 := (aX.cell (p := ⟨MB, 1, none⟩) (block_lt_of_cell mq1) (by simpa using nM)).trans mq1
          have y3 := (aX.cell (p := ⟨MB, 2, none⟩) (block_lt_of_cell mq2) (by simpa using nM)).trans mq2
          have SY := hid (And.intro y0 (And.intro y1 (And.intro y2 y3)))
          have SD := And.intro cGD (And.intro mq0 (And.intro mq1 mq2))
          clear sD oA hfA hnb hcur hsz ce aX nG nO nM oX hAk sX y0 y1 y2 y3 hl2 hl3 mq0 mq1 mq2 cGD
          go_wp2_with fail
          refine wp_region_held_drew (S := fun X => X.cell? ⟨GB, k, none⟩ = some (.slice (some ⟨P2, 0, none⟩) (gn k) (gc k)) ∧ X.cell? ⟨MB, 0, none⟩ = some (.int .i64 (mrk (10 + (3 * i + k))).n) ∧ X.cell? ⟨MB, 1, none⟩ = some (.int .i64 (mrk (10 + (3 * i + k))).b) ∧ X.cell? ⟨MB, 2, none⟩ = some (.int .u64 ((mrk (10 + (3 * i + k))).t : Int))) (by kernel_rfl) SD (fun hHeld => ?_)
          generalize wr.drew = WD at k0 k1 k2 f0 f1 f2 SD SY HSX HOX HGX HMX ⊢
          refine wpAnyH_take (i := 0) (oi := ⟨some 154, _, _, _, _, _⟩) (v := (.int .i64 (k : Nat))) rfl (by kernel_rfl) (by kernel_rfl) (by kernel_rfl) (fun _ _ _ h => hQ _ _ _ _ _ h) (Or.inl ⟨by rfl, ?_⟩) (by assumption) ?_
          · intro W hSW; go_simp
          simp only [Act.put, List.setIfInBounds_toArray, List.set_cons_zero, List.set_cons_succ]
          refine wpAnyH_take (i := 1) (oi := ⟨some 155, _, _, _, _, _⟩) (v := (.pointer (some ⟨GB, k, none⟩))) rfl (by kernel_rfl) (by kernel_rfl) (by kernel_rfl) (fun _ _ _ h => hQ _ _ _ _ _ h) (Or.inl ⟨by rfl, ?_⟩) (by assumption) ?_
          · intro W hSW; go_simp
          simp only [Act.put, List.setIfInBounds_toArray, List.set_cons_zero, List.set_cons_succ]
          refine wpAnyH_take (i := 2) (oi := ⟨some 156, _, _, _, _, _⟩) (v := (.slice (some ⟨P2, 0, none⟩) (gn k) (gc k))) rfl (by kernel_rfl) (by kernel_rfl) (by kernel_rfl) (fun _ _ _ h => hQ _ _ _ _ _ h) (Or.inl ⟨by rfl, ?_⟩) (by assumption) ?_
          · intro W hSW; go_simp
          simp only [Act.put, List.setIfInBounds_toArray, List.set_cons_zero, List.set_cons_succ]
          refine wpAnyH_take (i := 3) (oi := ⟨some 157, _, _, _, _, _⟩) (v := (.int .i64 (j : Nat))) rfl (by kernel_rfl) (by kernel_rfl) (by kernel_rfl) (fun _ _ _ h => hQ _ _ _ _ _ h) (Or.inl ⟨by rfl, ?_⟩) (by assumption) ?_
          · intro W hSW; go_simp
          simp only [Act.put, List.setIfInBounds_toArray, List.set_cons_zero, List.set_cons_succ]
          refine wpAnyH_take (i := 4) (oi := ⟨some 158, _, _, _, _, _⟩) (v := (.agg #[.int .i64 (mrk (10 + (3 * i + k))).n, .int .i64 (mrk (10 + (3 * i + k))).b, .int .u64 ((mrk (10 + (3 * i + k))).t : Int)])) rfl (by kernel_rfl) (by kernel_rfl) (by kernel_rfl) (fun _ _ _ h => hQ _ _ _ _ _ h) (Or.inl ⟨by rfl, ?_⟩) (by assumption) ?_
          · intro W hSW; go_simp
          simp only [Act.put, List.setIfInBounds_toArray, List.set_cons_zero, List.set_cons_succ]
          refine wpAnyH_take (i := 5) (oi := ⟨some 159, _, _, _, _, _⟩) (v := (.pointer (some ⟨P2, j * 3, none⟩))) rfl (by kernel_rfl) (by kernel_rfl) (by kernel_rfl) (fun _ _ _ h => hQ _ _ _ _ _ h) (Or.inl ⟨by rfl, ?_⟩) (by assumption) ?_
          · intro W hSW; go_simp
          simp only [Act.put, List.setIfInBounds_toArray, List.set_cons_zero, List.set_cons_succ]
          refine wpAnyH_ready (rs := [6]) (by kernel_rfl) (by simp) ?_
          refine AllReadyH.cons rfl (fun KK hKK => ?_) AllReadyH.nil
          go_simp
          refine hKK.out _ _ SY.out (fun hHeld => ?_)
          clear hKK KK
          refine wpAnyH_done (by kernel_rfl) ?_ _
          clear k0 k1 k2 f0 f1 f2 SD SY
          go_wp2
          go_roundw
          case rel => exact ⟨j + 1, by omega, by go_num, HSX.out, HOX.out, HGX.out, HMX.out⟩
          case measure => simp [intOf]; omega
        · obtain rfl : j = gn k := by omega
          have hfull : mfill (mrk (10 + (3 * i + k))) (gn k) z = List.replicate (gn k) (mrk (10 + (3 * i + k))) := by rw [← hzn, mfill_all]
          have sW := HS.out
          rw [hfull] at sW
          have sD : ST w wr.drew av2 qv2 (3 * i) (2 * (3 * i)) k 6 (A.set k (.slice (gp k) (gn k) (gc k), List.replicate (gn k) (mrk (10 + (3 * i + k))))) [(.slice p1 n1 c1, z1), (.slice p2 n2 c2, z1), (.slice p3 n3 c3, z2), (.slice p4 n4 c4, z2), (.slice p5 n5 c5, bas (norm xs)), (.slice p6 n6 c6, bas (norm xs))] [MB, GB, OB] (some (G, na + 2, cg, xs ++ [m1, m2])) := sW.kept0 ((Apart.refl [] wr).drewN 1)
          have cGD : wr.drew.cell? ⟨GB, k, none⟩ = some (.slice (gp k) (gn k) (gc k)) := cg0
          have mq0 : wr.drew.cell? ⟨MB, 0, none⟩ = some (.int .i64 (mrk (10 + (3 * i + k))).n) := by rw [cell_of_row _ _ _ _ _ _ (show wr.drew.heap[MB]? = _ from HMB.out)]; rfl
          have mq1 : wr.drew.cell? ⟨MB, 1, none⟩ = some (.int .i64 (mrk (10 + (3 * i + k))).b) := by rw [cell_of_row _ _ _ _ _ _ (show wr.drew.heap[MB]? = _ from HMB.out)]; rfl
          have mq2 : wr.drew.cell? ⟨MB, 2, none⟩ = some (.int .u64 ((mrk (10 + (3 * i + k))).t : Int)) := by rw [cell_of_row _ _ _ _ _ _ (show wr.drew.heap[MB]? = _ from HMB.out)]; rfl
          have SD := And.intro cGD (And.intro mq0 (And.intro mq1 mq2))
          have aN : Apart [] wr.drew (wr.drew.alloc (.cells #[.slice (gp k) (gn k) (gc k), .int .i64 (mrk (10 + (3 * i + k))).n, .int .i64 (mrk (10 + (3 * i + k))).b, .int .u64 ((mrk (10 + (3 * i + k))).t : Int)] 55)) := (Apart.refl _ _).alloc _
          have bN : (wr.drew.alloc (.cells #[.slice (gp k) (gn k) (gc k), .int .i64 (mrk (10 + (3 * i + k))).n, .int .i64 (mrk (10 + (3 * i + k))).b, .int .u64 ((mrk (10 + (3 * i + k))).t : Int)] 55)).heap[wr.drew.heap.size]? = some (.cells #[.slice (gp k) (gn k) (gc k), .int .i64 (mrk (10 + (3 * i + k))).n, .int .i64 (mrk (10 + (3 * i + k))).b, .int .u64 ((mrk (10 + (3 * i + k))).t : Int)] 55 (0, 0)) := heap_alloc_new wr.drew _
          have sN := sD.kept0 aN
          have oN := (aN.block OB (lt_of_heap (show wr.drew.heap[OB]? = _ from HO.out)) (by simp)).trans HO.out
          have gN := (aN.block GB (lt_of_heap (show wr.drew.heap[GB]? = _ from HG.out)) (by simp)).trans HG.out
          have mN := (aN.block MB (lt_of_heap (show wr.drew.heap[MB]? = _ from HMB.out)) (by simp)).trans HMB.out
          have cells : ∀ X : World, X.heap[GB]? = some (.cells #[.slice (gp 0) (gn 0) (gc 0), .slice (gp 1) (gn 1) (gc 1), .slice (gp 2) (gn 2) (gc 2)] 49 (0, 0)) → X.heap[MB]? = some (.cells #[.int .i64 (mrk (10 + (3 * i + k))).n, .int .i64 (mrk (10 + (3 * i + k))).b, .int .u64 ((mrk (10 + (3 * i + k))).t : Int)] 52 (0, 0)) → X.cell? ⟨GB, k, none⟩ = some (.slice (gp k) (gn k) (gc k)) ∧ X.cell? ⟨MB, 0, none⟩ = some (.int .i64 (mrk (10 + (3 * i + k))).n) ∧ X.cell? ⟨MB, 1, none⟩ = some (.int .i64 (mrk (10 + (3 * i + k))).b) ∧ X.cell? ⟨MB, 2, none⟩ = some (.int .u64 ((mrk (10 + (3 * i + k))).t : Int)) := fun X h1 h2 => ⟨box3 h1 k hk, by rw [cell_of_row _ _ _ _ _ _ h2]; rfl, by rw [cell_of_row _ _ _ _ _ _ h2]; rfl, by rw [cell_of_row _ _ _ _ _ _ h2]; rfl⟩
          have SN := hid (cells _ gN mN)
          obtain ⟨av3, X3, hrun, s3, hb3⟩ := sN.growA 45 (set_at (by rw [HC.out.len]; exact hk)) rfl ⟨wr.drew.heap.size, 0, none⟩ 1 (by rw [Addr.add_lit, cell_of_row _ _ _ _ _ _ bN]; rfl) (by rw [Addr.add_lit, cell_of_row _ _ _ _ _ _ bN]; rfl) (by rw [Addr.add_lit, cell_of_row _ _ _ _ _ _ bN]; rfl) (by rw [Addr.add_lit, cell_of_row _ _ _ _ _ _ bN]; rfl) (by omega)
          have o3 := (hb3 OB (by simp)).trans oN
          have g3 := (hb3 GB (by simp)).trans gN
          have q3 := (hb3 MB (by simp)).trans mN
          have S3 := hid (cells _ g3 q3)
          have hvals : ∀ r, r < 3 → ∃ x, (A.set k (.slice (gp k) (gn k) (gc k), List.replicate (gn k) (mrk (10 + (3 * i + k)))))[r]? = some (.slice (gp r) (gn r) (gc r), x) := by
            intro r hr
            by_cases e : r = k
            · subst e; exact ⟨_, set_at (by rw [HC.out.len]; exact hr)⟩
            · obtain ⟨x, hx⟩ := HC.out.vals r hr
              exact ⟨x, by rw [List.getElem?_set_ne (fun e2 => e e2.symm)]; exact hx⟩
          have hdone : ∀ r, r < k + 1 → ∃ n, (A.set k (.slice (gp k) (gn k) (gc k), List.replicate (gn k) (mrk (10 + (3 * i + k)))))[r]? = some (.slice (gp r) (gn r) (gc r), List.replicate n (mrk (10 + (3 * i + r)))) := by
            intro r hr
            by_cases e : r = k
            · subst e; exact ⟨_, set_at (by rw [HC.out.len]; exact hk)⟩
            · obtain ⟨x, hx⟩ := HC.out.done r (by omega)
              exact ⟨x, by rw [List.getElem?_set_ne (fun e2 => e e2.symm)]; exact hx⟩
          have HE : Hid (∃ A', (CI w X3 i (k + 1) OB GB #[.int .i64 kind, .int .i64 gap, .int .i64 stop, .slice pa na ca, .slice pb nb cb, .int .i64 dn, .int .i64 dc] gp gn gc av3 qv2 A' [(.slice p1 n1 c1, z1), (.slice p2 n2 c2, z1), (.slice p3 n3 c3, z2), (.slice p4 n4 c4, z2), (.slice p5 n5 c5, bas (norm xs)), (.slice p6 n6 c6, bas (norm xs))] (some (G, na + 2, cg, xs ++ [m1, m2])))) := ⟨_, s3.fewer (BS' := [GB, OB]) (by simp), by rw [List.length_set]; exact HC.out.len, hvals, hdone, o3, g3⟩
          clear sW sD cGD mq0 mq1 mq2 aN bN sN oN gN mN cells s3 hb3 o3 g3 q3 hfull hvals hdone
          go_wp2_with fail
          refine wp_region_held_drew (S := fun X => X.cell? ⟨GB, k, none⟩ = some (.slice (gp k) (gn k) (gc k)) ∧ X.cell? ⟨MB, 0, none⟩ = some (.int .i64 (mrk (10 + (3 * i + k))).n) ∧ X.cell? ⟨MB, 1, none⟩ = some (.int .i64 (mrk (10 + (3 * i + k))).b) ∧ X.cell? ⟨MB, 2, none⟩ = some (.int .u64 ((mrk (10 + (3 * i + k))).t : Int))) (by kernel_rfl) SD (fun hHeld => ?_)
          refine wpAnyH_take (i := 0) (oi := ⟨some 160, _, _, _, _, _⟩) (v := (av2)) rfl (by kernel_rfl) (by kernel_rfl) (by kernel_rfl) (fun _ _ _ h => hQ _ _ _ _ _ h) (Or.inl ⟨by rfl, ?_⟩) (by assumption) ?_
          · intro W hSW; go_simp
          simp only [Act.put, List.setIfInBounds_toArray, List.set_cons_zero, List.set_cons_succ]
          refine wpAnyH_take (i := 1) (oi := ⟨some 161, _, _, _, _, _⟩) (v := (.int .i64 (k : Nat))) rfl (by kernel_rfl) (by kernel_rfl) (by kernel_rfl) (fun _ _ _ h => hQ _ _ _ _ _ h) (Or.inl ⟨by rfl, ?_⟩) (by assumption) ?_
          · intro W hSW; go_simp
          simp only [Act.put, List.setIfInBounds_toArray, List.set_cons_zero, List.set_cons_succ]
          refine wpAnyH_take (i := 2) (oi := ⟨some 162, _, _, _, _, _⟩) (v := (.pointer (some ⟨GB, k, none⟩))) rfl (by kernel_rfl) (by kernel_rfl) (by kernel_rfl) (fun _ _ _ h => hQ _ _ _ _ _ h) (Or.inl ⟨by rfl, ?_⟩) (by assumption) ?_
          · intro W hSW; go_simp
          simp only [Act.put, List.setIfInBounds_toArray, List.set_cons_zero, List.set_cons_succ]
          refine wpAnyH_take (i := 3) (oi := ⟨some 163, _, _, _, _, _⟩) (v := (.slice (gp k) (gn k) (gc k))) rfl (by kernel_rfl) (by kernel_rfl) (by kernel_rfl) (fun _ _ _ h => hQ _ _ _ _ _ h) (Or.inl ⟨by rfl, ?_⟩) (by assumption) ?_
          · intro W hSW; go_simp
          simp only [Act.put, List.setIfInBounds_toArray, List.set_cons_zero, List.set_cons_succ]
          refine wpAnyH_take (i := 4) (oi := ⟨some 164, _, _, _, _, _⟩) (v := (.agg #[.int .i64 (mrk (10 + (3 * i + k))).n, .int .i64 (mrk (10 + (3 * i + k))).b, .int .u64 ((mrk (10 + (3 * i + k))).t : Int)])) rfl (by kernel_rfl) (by kernel_rfl) (by kernel_rfl) (fun _ _ _ h => hQ _ _ _ _ _ h) (Or.inl ⟨by rfl, ?_⟩) (by assumption) ?_
          · intro W hSW; go_simp
          simp only [Act.put, List.setIfInBounds_toArray, List.set_cons_zero, List.set_cons_succ]
          refine wpAnyH_take (i := 5) (oi := ⟨some 165, _, _, _, _, _⟩) (v := (.agg #[.slice (gp k) (gn k) (gc k), .int .i64 (mrk (10 + (3 * i + k))).n, .int .i64 (mrk (10 + (3 * i + k))).b, .int .u64 ((mrk (10 + (3 * i + k))).t : Int)])) rfl (by kernel_rfl) (by kernel_rfl) (by kernel_rfl) (fun _ _ _ h => hQ _ _ _ _ _ h) (Or.inl ⟨by rfl, ?_⟩) (by assumption) ?_
          · intro W hSW; go_simp
          simp only [Act.put, List.setIfInBounds_toArray, List.set_cons_zero, List.set_cons_succ]
          refine wpAnyH_ready (rs := [6]) (by kernel_rfl) (by simp) ?_
          refine AllReadyH.cons rfl (fun KK hKK => ?_) AllReadyH.nil
          go_simp
          refine hKK.out _ _ SN.out (fun hHeld => ?_)
          clear hKK KK
          refine wpAnyH_ready (rs := [7]) (by kernel_rfl) (by simp) ?_
          refine AllReadyH.cons rfl (fun KK hKK => ?_) AllReadyH.nil
          refine step_append3 (o := ⟨some 167, _, _, _, _, _⟩) rfl (.tmp 160) (.tmp 166) 45 rfl _ _ rfl rfl _ _ hrun ?_
          clear hrun
          simp only [Act.put, List.setIfInBounds_toArray, List.set_cons_zero, List.set_cons_succ]
          refine hKK.out _ _ S3.out (fun hHeld => ?_)
          clear hKK KK
          refine wpAnyH_take (i := 8) (oi := ⟨some 4, _, _, _, _, _⟩) (v := (av3)) rfl (by kernel_rfl) (by kernel_rfl) (by kernel_rfl) (fun _ _ _ h => hQ _ _ _ _ _ h) (Or.inl ⟨by rfl, ?_⟩) (by assumption) ?_
          · intro W hSW; go_simp
          simp only [Act.put, List.setIfInBounds_toArray, List.set_cons_zero, List.set_cons_succ]
          refine wpAnyH_done (by kernel_rfl) ?_ _
          obtain ⟨A', hE⟩ := HE.out
          have HE2 := hid hE
          clear hE HE SN S3 SD cg0
          go_wp2
          go_roundw
          case rel => exact ⟨av3, k + 1, A', by omega, rfl, by go_num, HE2.out⟩
          case measure => simp [intOf]; omega
    · obtain rfl : k = 3 := by omega
      go_wp2_with fail
      exact HKK.out _ A _ _ _ _ _ _ _ _ _ _ _ _ _ _ _ _ _ _ _ _ _ _ _ _ _ _ _ _ _ _ _ _ _ _ _ _ HC.out
end Go.Proofs.YtdggkofihppcmaaDoor.ds
