import Derived.Deep.RegionHeld
import Derived.OrdersHeld
import Derived.WalkKit
import Derived.ProofKit
import Derived.Lib.TrailingZeros
import Derived.Test.YtllhmidpphlbhaaChecked
import Derived.OpenShut
import Derived.Deep.QuietTactic
import Derived.BigQuiet
import Derived.BigRegion
import Derived.Laws.CopyOwn
import Derived.Laws.Bits64b
import Derived.Laws.MathBits
import Derived.Laws.ShiftsVarLaws
import Derived.WalkSmall
import Derived.Laws.ResultCell
import Derived.Lib.BitFns
import Derived.Laws.StructEq
import Derived.ArgAppend
import Derived.Deep.RegionLaw
import Derived.Deep.DeepAppendRoom
import Derived.Sort.WalkA
import Derived.Laws.Strings
import Derived.Deep.CutBlock
import Derived.Great.BuildSlice
import Derived.Laws.AppendOwnNone
import Derived.Lib.Overlaps
import Derived.Lib.AppendZerosOnto
import Derived.Laws.NewBlocks
import Derived.Laws.Externs
import Derived.Laws.IdiomCopy
import Derived.Laws.BytesString
import Derived.Deep.CutRange
import Derived.RangeFuncNested
import Derived.RangeFuncBound
import Derived.RangeFuncCalls
import Derived.RangeFuncLeaves
import Derived.Shelf.Abstract
import Derived.Shelf.RegionOpen
import Derived.OwnWalkIn
import Derived.TacticsInMore
import Derived.LoopNIn
import Derived.LoopIn
import GoSem.Claim
import GoSem.ClaimJoined
import GoSem.ClaimMapViews
import Derived.JoinedTies
import Derived.KernelRfl
import Derived.Deep.OwnRows
import Derived.Lib.LaidTab
import Derived.JoinedCond
import Derived.ShutString
import Derived.ChangeOld
import Derived.Below
import Derived.Carry
import Derived.ChangeSlices
import Derived.Deep.Slices
import Derived.Deep.DeepHandedRow
import Derived.RowKit
import Derived.ChangeShapes
import Derived.SizedLaws
import Derived.ChangeMaps5
import Derived.Lib.Walk
import Derived.Lib.SliceRun
import Derived.Lib.AppendStr
import Derived.Lib.ConvBytes
import Derived.Deep.RegionHeld3
import Derived.Deep.MidRow
import Derived.Laws.MakeOwn
import Derived.Lib.SlBytesConst
import Derived.Test.YtllhmidpphlbhaaRows
import Derived.Test.YtllhmidpphlbhaaF51
namespace Go.Proofs.Ytllhmidpphlbhaa.ds
open Go.ChangeShapes Go.WideShapes Go.ChangeAt Go.RowKit Go.Sort
set_option linter.unusedVariables false
set_option linter.unusedSimpArgs false
theorem Mv.up {w W W' : World} {K K' : List Nat} {lo hi lo' hi' : Nat} (h : Mv w W K W' K' lo hi) (h1 : lo' ≤ lo) (h2 : hi ≤ hi') : Mv w W K W' K' lo' hi' := by
  obtain ⟨Z, a, hz⟩ := h.z
  refine ⟨⟨Z, a, fun k hk => ?_⟩, fun k hk => ?_, h.ap⟩
  · obtain ⟨cur, t, e, ht⟩ := hz k hk
    exact ⟨cur, t, e, ht.imp id (fun ⟨x, y, z⟩ => ⟨x, by omega, by omega⟩)⟩
  · rcases h.k k hk with x | x | x
    · exact .inl x
    · exact .inr (.inl (by omega))
    · exact .inr (.inr x)
theorem Sh.lt {w W : World} {H m : Nat} {K : List Nat} (h : Sh w W H K m) : ∀ k ∈ K, k < W.heap.size := fun k hk => by
  obtain ⟨_, _, _, _, _, _, _, _, _, q⟩ := h
  obtain ⟨cur, t, _, e⟩ := q.kt k hk
  exact lt_of_heap e
theorem Sh.ap {w W : World} {H m : Nat} {K : List Nat} (h : Sh w W H K m) : Apart [] w W := by
  obtain ⟨_, _, _, _, _, _, _, _, _, q⟩ := h
  exact q.ap
/-- the page at hand and its view -/
structure Cu (w W : World) (s : Sl) (V : Nat) (B : List Nat) : Prop where
  bf : Bf w W s B
  pb : Pb W s B
  v : Vw W V s
theorem Pb.of_bf {w W W' : World} {s : Sl} {B : List Nat} (h : Pb W s B) (b : Bf w W' s B) : Pb W' s B := { h with rd := b.nw.rd }
theorem Mv.cu {w W W' : World} {K K' : List Nat} {a b : Nat} (h : Mv w W K W' K' a b) {s : Sl} {V : Nat} {B : List Nat} (c : Cu w W s V B) (hd : W.heap.size ≤ a) : Cu w W' s V B := by
  have b' := h.bf c.bf (fun k hk => .inl (by have := (c.bf.nw.own_p hk).2.2; omega))
  exact ⟨b', c.pb.of_bf b', h.block c.v (by decide) (by decide)⟩
theorem Cu.kept0 {w W W' : World} {s : Sl} {V : Nat} {B : List Nat} (c : Cu w W s V B) (a : Apart [] W W') : Cu w W' s V B := (Mv.of0 (K := []) (lo := W.heap.size) (hi := 0) a (c.bf.nw.ap.trans a)).cu c (Nat.le_refl _)
set_option maxHeartbeats 16000000 in
set_option maxRecDepth 1000000 in
theorem blk2 {w : World} {H m : Nat} {K : List Nat} {W : World} {s : Sl} {V : Nat} {B : List Nat} {P0 o0 i un uc : Nat} {c0 : Ct} {ks0 : List Ck} {cs0 : List (Int × List S)} {es0 : List E} {rs0 : List Wr} (HS : Hid (Sh w W H K m)) (HC : Hid (Cu w W s V B)) (HSN : Hid (s.n = 2048)) (HIN : Hid (∀ X, Apart [] w X → X.cell? ⟨P0, o0 + i * 5, none⟩ = some (.int .i64 c0.kd) ∧ X.cell? ⟨P0, o0 + i * 5 + 1, none⟩ = some (.int .i64 c0.gn) ∧ X.cell? ⟨P0, o0 + i * 5 + 2, none⟩ = some (.int .i64 c0.ow) ∧ X.cell? ⟨P0, o0 + i * 5 + 3, none⟩ = some (.slice c0.s.p c0.s.n c0.s.c) ∧ X.cell? ⟨P0, o0 + i * 5 + 4, none⟩ = some (.slice c0.t.p c0.t.n c0.t.c))) (hiu : ((i : Nat) : Int) < (un : Int)) (HR0 : Hid (RCt w c0 ks0 cs0 es0 rs0)) (HBK : Hid (Bk B c0.kd c0.gn c0.ow cs0 rs0)) (hm : m ≤ 3000) {sl1 sl2 sl3 sl5 sl6 sl8 sl9 sl10 sl12 sl13 sl16 sl17 sl18 sl19 sl20 sl22 sl23 sl24 sl25 sl26 sl27 sl28 sl29 sl30 sl31 sl32 sl33 sl34 sl35 sl36 sl37 sl38 sl39 sl40 sl41 sl42 sl43 sl44 sl45 sl46 sl47 sl48 sl49 sl50 sl51 sl52 sl53 sl54 sl55 sl56 sl57 sl58 sl59 sl60 sl61 sl62 sl63 sl64 sl65 sl66 sl67 sl68 sl69 sl70 sl71 sl72 sl73 sl74 sl75 sl76 sl77 sl78 sl79 sl80 sl81 sl82 sl83 sl84 sl85 sl86 sl87 sl88 sl89 sl90 sl91 sl92 sl93 sl94 sl95 sl96 sl97 sl98 sl99 sl100 sl101 sl102 sl103 sl104 sl105 sl106 sl107 sl108 sl109 sl110 sl111 sl112 sl113 sl114 sl115 sl116 sl117 sl118 sl119 sl120 sl121 sl122 sl123 sl124 sl125 sl126 sl127 sl128 sl129 sl130 sl131 sl132 sl133 sl134 sl135 sl136 sl137 sl138 sl139 sl140 sl141 sl142 sl143 sl144 sl145 sl146 sl147 sl148 sl149 sl150 sl151 sl152 sl153 sl154 sl155 sl156 sl157 sl158 sl159 sl160 sl161 sl162 sl163 sl164 sl165 sl166 sl167 sl168 sl169 sl170 sl171 sl172 sl173 sl174 sl175 sl176 sl177 sl178 sl179 sl180 sl181 sl182 sl183 sl184 sl185 sl186 sl187 sl188 sl189 sl190 sl191 sl192 sl193 sl194 sl195 sl196 sl197 sl198 sl199 sl200 sl201 sl202 sl203 sl204 sl205 sl206 sl207 sl208 sl209 sl210 sl211 sl212 sl213 sl214 sl215 sl216 sl217 sl218 sl219 sl220 sl221 sl222 sl223 sl224 sl225 sl226 sl227 sl228 sl229 sl230 sl231 sl232 sl233 sl234 sl235 sl236 sl237 sl238 sl239 sl240 sl241 sl242 sl243 sl244 sl245 sl246 sl247 sl248 sl249 sl250 sl251 sl252 sl253 sl254 sl255 sl256 sl257 sl258 sl259 sl260 sl261 sl262 sl263 sl264 sl265 sl266 sl267 sl268 sl269 sl270 sl271 sl272 sl273 sl274 sl275 sl276 sl277 sl278 sl279 sl280 sl281 sl282 sl283 sl284 sl285 sl286 sl287 sl288 sl289 sl290 sl291 sl292 sl293 sl294 sl295 sl296 sl297 sl298 sl299 sl300 sl301 sl302 sl303 sl304 sl305 sl306 sl307 sl308 sl309 sl310 sl311 sl312 sl313 sl314 sl315 sl316 sl317 sl318 sl319 sl320 sl321 sl322 : Value} {K' : Act → World → Prop} {Q' : Exit → Act → World → Prop} (hQ : ∀ x (a : Act) (d : Nat) v (w : World), Q' (.panic x) (a.put (some d) v) w → Q' (.panic x) a w) (hK : ∀ (W' : World) (nt2 nt21 nt22 nt23 nt24 nt25 nt131 nt132 nt133 nt134 nt135 nt136 nt137 nt138 nt139 nt140 nt141 nt142 nt143 nt144 nt145 nt146 nt147 nt148 nt149 nt150 nt151 nt152 nt153 nt154 nt155 nt156 nt157 nt158 nt159 nt160 nt161 nt162 nt163 nt164 nt165 nt166 nt167 nt168 nt169 nt170 nt171 nt172 nt173 nt174 nt175 nt176 nt177 nt178 nt179 nt180 nt181 nt182 nt183 nt184 nt185 nt186 nt187 nt188 nt189 nt190 nt191 nt192 nt193 nt194 nt195 nt196 nt197 nt198 : Value), (∃ K2 m2, Sh w W' H K2 m2 ∧ m2 ≤ m + 96 ∧ Mv w W K W' K2 W.heap.size W'.heap.size) → K' ⟨#[(.slice (some ⟨P0, o0, none⟩) un uc), sl1, nt2, sl3, (.pointer (some ⟨H, 0, none⟩)), sl5, sl6, (.int .i64 (i : Nat)), sl8, sl9, sl10, (.slice s.p s.n s.c), sl12, sl13, (.string (strB B)), (.pointer (some ⟨V, 0, none⟩)), sl16, sl17, sl18, sl19, sl20, nt21, nt22, nt23, nt24, nt25, sl26, sl27, sl28, sl29, sl30, sl31, sl32, sl33, sl34, sl35, sl36, sl37, sl38, sl39, sl40, sl41, sl42, sl43, sl44, sl45, sl46, sl47, sl48, sl49, sl50, sl51, sl52, sl53, sl54, sl55, sl56, sl57, sl58, sl59, sl60, sl61, sl62, sl63, sl64, sl65, sl66, sl67, sl68, sl69, sl70, sl71, sl72, sl73, sl74, sl75, sl76, sl77, sl78, sl79, sl80, sl81, sl82, sl83, sl84, sl85, sl86, sl87, sl88, sl89, sl90, sl91, sl92, sl93, sl94, sl95, sl96, sl97, sl98, sl99, sl100, sl101, sl102, sl103, sl104, sl105, sl106, sl107, sl108, sl109, sl110, sl111, sl112, sl113, sl114, sl115, sl116, sl117, sl118, sl119, sl120, sl121, sl122, sl123, sl124, sl125, sl126, sl127, sl128, sl129, sl130, nt131, nt132, nt133, nt134, nt135, nt136, nt137, nt138, nt139, nt140, nt141, nt142, nt143, nt144, nt145, nt146, nt147, nt148, nt149, nt150, nt151, nt152, nt153, nt154, nt155, nt156, nt157, nt158, nt159, nt160, nt161, nt162, nt163, nt164, nt165, nt166, nt167, nt168, nt169, nt170, nt171, nt172, nt173, nt174, nt175, nt176, nt177, nt178, nt179, nt180, nt181, nt182, nt183, nt184, nt185, nt186, nt187, nt188, nt189, nt190, nt191, nt192, nt193, nt194, nt195, nt196, nt197, nt198, sl199, sl200, sl201, sl202, sl203, sl204, sl205, sl206, sl207, sl208, sl209, sl210, sl211, sl212, sl213, sl214, sl215, sl216, sl217, sl218, sl219, sl220, sl221, sl222, sl223, sl224, sl225, sl226, sl227, sl228, sl229, sl230, sl231, sl232, sl233, sl234, sl235, sl236, sl237, sl238, sl239, sl240, sl241, sl242, sl243, sl244, sl245, sl246, sl247, sl248, sl249, sl250, sl251, sl252, sl253, sl254, sl255, sl256, sl257, sl258, sl259, sl260, sl261, sl262, sl263, sl264, sl265, sl266, sl267, sl268, sl269, sl270, sl271, sl272, sl273, sl274, sl275, sl276, sl277, sl278, sl279, sl280, sl281, sl282, sl283, sl284, sl285, sl286, sl287, sl288, sl289, sl290, sl291, sl292, sl293, sl294, sl295, sl296, sl297, sl298, sl299, sl300, sl301, sl302, sl303, sl304, sl305, sl306, sl307, sl308, sl309, sl310, sl311, sl312, sl313, sl314, sl315, sl316, sl317, sl318, sl319, sl320, sl321, sl322], []⟩ W') :
    Code.wp Try.prog (lopC 2) (Exit.inBlock 2 (Exit.then K' Q')) ⟨#[(.slice (some ⟨P0, o0, none⟩) un uc), sl1, sl2, sl3, (.pointer (some ⟨H, 0, none⟩)), sl5, sl6, (.int .i64 (i : Nat)), sl8, sl9, sl10, (.slice s.p s.n s.c), sl12, sl13, (.string (strB B)), (.pointer (some ⟨V, 0, none⟩)), sl16, sl17, sl18, sl19, sl20, (.int .i64 0), sl22, sl23, sl24, sl25, sl26, sl27, sl28, sl29, sl30, sl31, sl32, sl33, sl34, sl35, sl36, sl37, sl38, sl39, sl40, sl41, sl42, sl43, sl44, sl45, sl46, sl47, sl48, sl49, sl50, sl51, sl52, sl53, sl54, sl55, sl56, sl57, sl58, sl59, sl60, sl61, sl62, sl63, sl64, sl65, sl66, sl67, sl68, sl69, sl70, sl71, sl72, sl73, sl74, sl75, sl76, sl77, sl78, sl79, sl80, sl81, sl82, sl83, sl84, sl85, sl86, sl87, sl88, sl89, sl90, sl91, sl92, sl93, sl94, sl95, sl96, sl97, sl98, sl99, sl100, sl101, sl102, sl103, sl104, sl105, sl106, sl107, sl108, sl109, sl110, sl111, sl112, sl113, sl114, sl115, sl116, sl117, sl118, sl119, sl120, sl121, sl122, sl123, sl124, sl125, sl126, sl127, sl128, sl129, sl130, sl131, sl132, sl133, sl134, sl135, sl136, sl137, sl138, sl139, sl140, sl141, sl142, sl143, sl144, sl145, sl146, sl147, sl148, sl149, sl150, sl151, sl152, sl153, sl154, sl155, sl156, sl157, sl158, sl159, sl160, sl161, sl162, sl163, sl164, sl165, sl166, sl167, sl168, sl169, sl170, sl171, sl172, sl173, sl174, sl175, sl176, sl177, sl178, sl179, sl180, sl181, sl182, sl183, sl184, sl185, sl186, sl187, sl188, sl189, sl190, sl191, sl192, sl193, sl194, sl195, sl196, sl197, sl198, sl199, sl200, sl201, sl202, sl203, sl204, sl205, sl206, sl207, sl208, sl209, sl210, sl211, sl212, sl213, sl214, sl215, sl216, sl217, sl218, sl219, sl220, sl221, sl222, sl223, sl224, sl225, sl226, sl227, sl228, sl229, sl230, sl231, sl232, sl233, sl234, sl235, sl236, sl237, sl238, sl239, sl240, sl241, sl242, sl243, sl244, sl245, sl246, sl247, sl248, sl249, sl250, sl251, sl252, sl253, sl254, sl255, sl256, sl257, sl258, sl259, sl260, sl261, sl262, sl263, sl264, sl265, sl266, sl267, sl268, sl269, sl270, sl271, sl272, sl273, sl274, sl275, sl276, sl277, sl278, sl279, sl280, sl281, sl282, sl283, sl284, sl285, sl286, sl287, sl288, sl289, sl290, sl291, sl292, sl293, sl294, sl295, sl296, sl297, sl298, sl299, sl300, sl301, sl302, sl303, sl304, sl305, sl306, sl307, sl308, sl309, sl310, sl311, sl312, sl313, sl314, sl315, sl316, sl317, sl318, sl319, sl320, sl321, sl322], []⟩ W := by
  have HKK := hid hK
  clear hK
  conv => arg 2; whnf
  dsimp only
  go_loopw [21, 22, 23, 24, 25] (fun a _ _ _ _ wt => ∃ (t : Nat) (Kt : List Nat) (mt : Nat), a = .int .i64 (t : Nat) ∧ t ≤ 2 ∧ Hid (Sh w wt H Kt mt ∧ mt ≤ m + 48 * t ∧ Mv w W K wt Kt W.heap.size wt.heap.size)) (fun a _ _ _ _ _ => 2 - (intOf a).toNat)
  case atStart => exact ⟨0, K, m, rfl, by omega, hid ⟨HS.out, by omega, Mv.refl HS.out.ap⟩⟩
  case round =>
    obtain ⟨t, Kt, mt, rfl, htle, HI⟩ := hrel
    have HCr := hid (HI.out.2.2.cu HC.out (Nat.le_refl _))
    have hmt : mt ≤ 3200 := by have := HI.out.2.1; omega
    clear HS HC
    by_cases hlt : t < 2
    · have hlti : ((t : Nat) : Int) < 2 := by omega
      go_wp2_with fail
      refine (told_ok HCr.out.pb HSN.out HCr.out.v HBK.out.good).mono ?_
      intro q w1 htp
      have a1 := htp.a
      obtain ⟨c, ks, es, rfl, j1, j2, j3, hlp⟩ := lp_of HCr.out.pb.b8 HI.out.1.ap HI.out.1.lt htp
      obtain ⟨X, HX⟩ : ∃ X, Hid (X = w1.heap.size) := ⟨_, rfl⟩
      obtain ⟨w2, hw2⟩ : ∃ V, V = w1.alloc (.cells #[.int .i64 c.kd, .int .i64 c.gn, .int .i64 c.ow, .slice c.s.p c.s.n c.s.c, .slice c.t.p c.t.n c.t.c] 25) := ⟨_, rfl⟩
      have a2 : Apart [] w1 w2 := by rw [hw2]; exact (Apart.refl [] w1).alloc _
      have HX2 : Hid (w2.heap[X]? = some (.cells #[.int .i64 c.kd, .int .i64 c.gn, .int .i64 c.ow, .slice c.s.p c.s.n c.s.c, .slice c.t.p c.t.n c.t.c] 25 (0, 0))) := by unfold Hid; rw [hw2, HX.out]; exact heap_alloc_new w1 _
      have HA2 := hid ((HI.out.1.ap.trans a1).trans a2)
      have HL2 := hid ((Mv.of0 (lo := w1.heap.size) (hi := w1.heap.size) a2 HA2.out).lp hlp (.inl (Nat.le_refl _)))
      have HA12 := hid (a1.trans a2)
      have HCH := hid (And.intro j1 (And.intro j2 j3))
      have HSZ := hid (And.intro a1.size a2.size)
      clear htp j1 j2 j3 hlp a1
      unfold Ct.cs
      try dsimp only
      go_upto_region 32 with fail
      rw [← hw2, ← HX.out]
      clear hw2 a2
      have hAd : Apart [] w2 w2.drew := (Apart.refl [] w2).drew
      refine wp_region_held_drew (S := fun X => Apart [] w2 X) (by kernel_rfl) hAd (fun hHeld => ?_)
      generalize w2.drew = wd at *
      refine tk 0 140 (.bool true) rfl ?_ ?_ (hQ := fun _ _ _ h => hQ _ _ _ _ _ h)
      · intro W hSW; go_simp
      simp only [Act.put, List.setIfInBounds_toArray, List.set_cons_zero, List.set_cons_succ]
      refine tk 1 141 (.bool false) rfl ?_ ?_ (hQ := fun _ _ _ h => hQ _ _ _ _ _ h)
      · intro W hSW; go_simp
      simp only [Act.put, List.setIfInBounds_toArray, List.set_cons_zero, List.set_cons_succ]
      refine tk 2 142 (.bool false) rfl ?_ ?_ (hQ := fun _ _ _ h => hQ _ _ _ _ _ h)
      · intro W hSW; go_simp
      simp only [Act.put, List.setIfInBounds_toArray, List.set_cons_zero, List.set_cons_succ]
      refine tk 3 143 (.agg #[.int .i64 c.kd, .int .i64 c.gn, .int .i64 c.ow, .slice c.s.p c.s.n c.s.c, .slice c.t.p c.t.n c.t.c]) rfl ?_ ?_ (hQ := fun _ _ _ h => hQ _ _ _ _ _ h)
      · intro W hSW; obtain ⟨x0, x1, x2, x3, x4⟩ := row5v (keep0 hSW HX2.out); go_simp
      simp only [Act.put, List.setIfInBounds_toArray, List.set_cons_zero, List.set_cons_succ]
      refine tk 4 144 (.slice (some ⟨P0, o0, none⟩) un uc) rfl ?_ ?_ (hQ := fun _ _ _ h => hQ _ _ _ _ _ h)
      · intro W hSW; go_simp
      simp only [Act.put, List.setIfInBounds_toArray, List.set_cons_zero, List.set_cons_succ]
      refine tk 5 145 (.int .i64 (i : Nat)) rfl ?_ ?_ (hQ := fun _ _ _ h => hQ _ _ _ _ _ h)
      · intro W hSW; go_simp
      simp only [Act.put, List.setIfInBounds_toArray, List.set_cons_zero, List.set_cons_succ]
      refine tk 6 146 (.pointer (some ⟨P0, o0 + i * 5, none⟩)) rfl ?_ ?_ (hQ := fun _ _ _ h => hQ _ _ _ _ _ h)
      · intro W hSW; go_simp
      simp only [Act.put, List.setIfInBounds_toArray, List.set_cons_zero, List.set_cons_succ]
      refine tk 7 147 (.agg #[.int .i64 c0.kd, .int .i64 c0.gn, .int .i64 c0.ow, .slice c0.s.p c0.s.n c0.s.c, .slice c0.t.p c0.t.n c0.t.c]) rfl ?_ ?_ (hQ := fun _ _ _ h => hQ _ _ _ _ _ h)
      · intro W hSW; obtain ⟨e0, e1, e2, e3, e4⟩ := HIN.out W (HA2.out.trans hSW); go_simp
      simp only [Act.put, List.setIfInBounds_toArray, List.set_cons_zero, List.set_cons_succ]
      refine wpAnyH_ready (rs := [8]) (by kernel_rfl) (by simp) ?_
      refine AllReadyH.cons rfl (fun KK hKK => ?_) AllReadyH.nil
      go_simp
      refine (plain_ok w _ (HA2.out.trans hHeld) c0.kd c0.gn c0.ow c0.s c0.t ks0 cs0 es0 rs0 HR0.out.hc HR0.out.hw).mono ?_
      intro q wa hpl
      obtain ⟨ha, d, ksd, esd, rfl, y1, y2, y3, hrc, hrw, -⟩ := hpl
      have hSa := hHeld.trans ha
      have HSa := hid hSa
      have HRC := hid hrc
      have HRW := hid hrw
      have HY := hid (And.intro y1 (And.intro y2 y3))
      clear ha y1 y2 y3 hrc hrw
      unfold Ct.cs
      try dsimp only
      refine hKK.out _ _ hSa (fun hHeld => ?_)
      clear hKK KK
      try simp only [Act.put, List.setIfInBounds_toArray, List.set_cons_zero, List.set_cons_succ]
      refine wpAnyH_ready (rs := [9]) (by kernel_rfl) (by simp) ?_
      refine AllReadyH.cons rfl (fun KK hKK => ?_) AllReadyH.nil
      go_simp
      have hal : Calls Try.prog 34 #[.agg #[.int .i64 c.kd, .int .i64 c.gn, .int .i64 c.ow, .slice c.s.p c.s.n c.s.c, .slice c.t.p c.t.n c.t.c], .agg #[.int .i64 d.kd, .int .i64 d.gn, .int .i64 d.ow, .slice d.s.p d.s.n d.s.c, .slice d.t.p d.t.n d.t.c]] wa fun r w' => r = .returned (.bool true) ∧ Apart [] wa w' := by
        obtain ⟨f1, f2⟩ := HL2.out.rd
        have b := back_lists HBK.out
        rw [b.1] at f1
        rw [b.2] at f2
        rw [HY.out.1, HY.out.2.1, HY.out.2.2, HCH.out.1, HCH.out.2.1, HCH.out.2.2, HBK.out.k, HBK.out.g, HBK.out.o]
        exact alike_ok wa _ _ _ _ _ _ _ _ _ _ _ _ _ (f1.kept0 HSa.out) HRC.out (f2.kept0 HSa.out) HRW.out
      refine hal.mono ?_
      clear hal
      rintro _ wb ⟨rfl, hb⟩
      have hSb := HSa.out.trans hb
      have HSb := hid hSb
      clear hb
      try dsimp only
      refine hKK.out _ _ hSb (fun hHeld => ?_)
      clear hKK KK
      try simp only [Act.put, List.setIfInBounds_toArray, List.set_cons_zero, List.set_cons_succ]
      refine tk 10 150 (.bool false) rfl ?_ ?_ (hQ := fun _ _ _ h => hQ _ _ _ _ _ h)
      · intro W hSW; go_simp
      simp only [Act.put, List.setIfInBounds_toArray, List.set_cons_zero, List.set_cons_succ]
      refine tk 11 151 (.bool false) rfl ?_ ?_ (hQ := fun _ _ _ h => hQ _ _ _ _ _ h)
      · intro W hSW; go_simp
      simp only [Act.put, List.setIfInBounds_toArray, List.set_cons_zero, List.set_cons_succ]
      refine wpAnyH_done (by kernel_rfl) ?_ _
      clear hHeld hAd
      have HS3 := hid (HI.out.1.kept0 (HA12.out.trans HSb.out))
      have HM3 := hid (Mv.of0 (K := Kt) (lo := wr.heap.size) (hi := w1.heap.size) (HA12.out.trans HSb.out) HS3.out.ap)
      have HL3 := hid ((Mv.of0 (K := Kt) (lo := w1.heap.size) (hi := w1.heap.size) HSb.out HS3.out.ap).lp HL2.out (.inl (Nat.le_refl _)))
      have HB3 : Hid (wb.heap[X]? = some (.cells c.cs 25 (0, 0))) := hid (keep0 HSb.out HX2.out)
      have HZ3 := hid HSb.out.size
      clear HX2 HL2 HRC HRW HY HSa hSa hSb HSb
      go_wp2_with fail
      refine blk4 HS3 HL3 HB3 (by omega) (fun _ _ _ _ _ h => hQ _ _ _ _ _ h) (fun W4 _ _ _ _ _ _ _ _ _ _ _ _ _ _ _ _ _ _ _ _ _ _ _ _ hq => ?_)
      obtain ⟨K4, s4, v4, p4⟩ := hq
      have HS4 := hid s4
      have HM4 := hid (HM3.out.trans v4)
      have HL4 := hid p4
      have HB4 : Hid (W4.heap[X]? = some (.cells c.cs 25 (0, 0))) := hid (v4.block HB3.out (by decide) (by decide))
      have HZ4 := hid v4.size
      have hl1 : (rsT B).length ≤ 16 := p4.lim.2
      have hl2 : (csT B).length ≤ 16 := p4.lim.1
      clear s4 v4 p4
      try dsimp only
      go_wp2_with fail
      refine blk6 HS4 HL4 HB4 (by omega) (fun _ _ _ _ _ h => hQ _ _ _ _ _ h) (fun W6 _ _ _ _ _ _ _ _ _ _ _ _ _ _ _ _ hq => ?_)
      obtain ⟨K6, s6, v6, p6⟩ := hq
      have HS6 := hid s6
      have HM6 := hid (HM4.out.trans v6)
      have HZ6 := hid v6.size
      have HC6 := hid (HM6.out.cu HCr.out (Nat.le_refl _))
      have hcv := conv_bytes HC6.out.pb.rd HC6.out.pb.len HC6.out.pb.ok
      clear s6 v6 p6 HB3 HB4 HL3 HL4
      try dsimp only
      go_wp2_with fail
      refine (stands_ok HS6.out (by omega)).mono ?_
      rintro _ w7 ⟨rfl, a7⟩
      have HS7 := hid (HS6.out.kept0 a7)
      have HM7 : Hid (Mv w W K w7 K6 W.heap.size w7.heap.size) := by
        have z1 := HI.out.2.2.size
        have z2 := HSZ.out
        have z3 := HZ3.out
        have z4 := HZ4.out
        have z6 := HZ6.out
        have z7 := a7.size
        exact hid (((HI.out.2.2.up (Nat.le_refl _) (by omega)).trans (HM6.out.up z1 (by omega))).trans (Mv.of0 a7 HS7.out.ap))
      have hfin := HI.out.2.1
      clear a7 hcv
      try dsimp only
      go_wp2_with fail
      go_roundw
      case rel => exact ⟨t + 1, K6, _, by go_num, by omega, hid ⟨HS7.out, by omega, HM7.out⟩⟩
      case measure => simp [intOf]; omega
    · have hlti : ¬ ((t : Nat) : Int) < 2 := by omega
      go_wp2_with fail
      exact HKK.out _ _ _ _ _ _ _ _ _ _ _ _ _ _ _ _ _ _ _ _ _ _ _ _ _ _ _ _ _ _ _ _ _ _ _ _ _ _ _ _ _ _ _ _ _ _ _ _ _ _ _ _ _ _ _ _ _ _ _ _ _ _ _ _ _ _ _ _ _ _ _ _ _ _ _ ⟨Kt, mt, HI.out.1, by have := HI.out.2.1; omega, HI.out.2.2⟩
end Go.Proofs.Ytllhmidpphlbhaa.ds
namespace Go.Proofs.Ytllhmidpphlbhaa.ds
open Go.ChangeShapes Go.WideShapes Go.ChangeAt Go.RowKit Go.Sort
set_option linter.unusedVariables false
set_option linter.unusedSimpArgs false

theorem Pn.tk {w W W' : World} {K : List Nat} {es : List E} {rs : List Wr} {ks : List Ck} {cs : List (Int × List S)} {jv jx q lo hi : Nat} (P : Pn w W K es rs ks cs jv jx q lo hi) (t : TK [25] W W') (ap : Apart [] w W') : Pn w W' K es rs ks cs jv jx q lo hi :=
  { P with v := fun i h1 h2 => ⟨⟨t.nw (P.v i h1 h2).1.nw ap (by decide), (P.v i h1 h2).1.len⟩, (P.v i h1 h2).2⟩, x := fun i h1 h2 => ⟨t.nw (P.x i h1 h2).1 ap (by decide), (P.x i h1 h2).2⟩, s := fun i h1 h2 => ⟨t.nw (P.s i h1 h2).1 ap (by decide), (P.s i h1 h2).2⟩ }
theorem LP.tk {w W W' : World} {K : List Nat} {c : Ct} {es : List E} {ks : List Ck} {rs : List Wr} {cs : List (Int × List S)} {jv jx q lo hi : Nat} (h : LP w W K c es ks rs cs jv jx q lo hi) (t : TK [25] W W') (ap : Apart [] w W') : LP w W' K c es ks rs cs jv jx q lo hi :=
  { h with ns := t.nw h.ns ap (by decide), nt := t.nw h.nt ap (by decide), p := h.p.tk t ap }
theorem Lf.tk {w W W' : World} {K : List Nat} {T : Nat} {gl : List Gh} (l : Lf w W K T gl) (t : TK [25] W W') (ap : Apart [] w W') : Lf w W' K T gl := ⟨fun g hg => ⟨LP.tk (l.l g hg).1 t ap, (l.l g hg).2⟩, l.pw⟩
theorem WC.tk {w W W' : World} {c : Ct} {cs : List (Int × List S)} {rs : List Wr} (h : WC w W c cs rs) (t : TK [25] W W') : WC w W' c cs rs :=
  ⟨h.1, h.2.imp id (fun ⟨X, e, r, e1, e2, e3⟩ => ⟨X, e, r, e1, t.block e2 (by decide), e3⟩)⟩
theorem Ww.tk {wB W W' : World} {gl : List Gh} {wl : List Ct} (l : Ww wB W gl wl) (t : TK [25] W W') : Ww wB W' gl wl := ⟨l.len, l.h, fun j hj => (l.w j hj).tk t⟩
theorem Sh.tk {w W W' : World} {H m : Nat} {K : List Nat} (h : Sh w W H K m) (t : TK [25] W W') (ap : Apart [] w W') : Sh w W' H K m := by
  obtain ⟨bl, bc, sl, wl, sc, rb, rh, rs, rw', q⟩ := h
  obtain ⟨Z, a, hz⟩ := t
  have nK : ∀ k ∈ K, k ∉ Z := fun k hk hm => by
    obtain ⟨cur, t, ht, e⟩ := q.kt k hk
    obtain ⟨cu, t', ht', e'⟩ := hz k hm
    rw [e] at e'
    simp at e' ht'
    rw [ht'] at e'
    rcases ht with rfl | rfl <;> exact absurd e'.2 (by decide)
  have nB : ∀ {k : Nat} {cur : Array Value} {t : TypeId}, W.heap[k]? = some (.cells cur t (0, 0)) → t ∈ shT → k ∉ Z := fun {k cur t} e ht hm => by
    obtain ⟨cu, t', ht', e'⟩ := hz k hm
    rw [e] at e'
    simp at e' ht'
    rw [e'.2, ht'] at ht
    exact absurd ht (by decide)
  have row : ∀ {e : Nat} {s : Sl} {us : List Value}, e ∈ shT → Nw w W e 1 s us → Nw w W' e 1 s us := fun he hn => hn.off a ap (fun k hk => by obtain ⟨cur, hc⟩ := own_typ hn.own hk; exact nB hc he)
  refine ⟨bl, bc, sl, wl, sc, rb, rh, rs, rw', { q with ap := ap, blk := (a.block H (lt_of_heap q.blk) (nB q.blk (by decide))).trans q.blk, nb := row (by decide) q.nb, nh := row (by decide) q.nh, ns := row (by decide) q.ns, nw := row (by decide) q.nw, b := fun i hi => ⟨(q.b i hi).1.kept a (fun P o hP => nK P ((q.b i hi).2 P o hP)), (q.b i hi).2⟩, s := fun i hi => ⟨⟨(q.s i hi).1.1.kept a (fun P o hP => nK P ((q.s i hi).1.2 P o hP)), (q.s i hi).1.2⟩, (q.s i hi).2.1.kept a (fun P o hP => nK P ((q.s i hi).2.2 P o hP)), (q.s i hi).2.2⟩, kt := fun P hP => ?_ }⟩
  obtain ⟨cur, t, ht, e⟩ := q.kt P hP
  exact ⟨cur, t, ht, (a.block P (lt_of_heap e) (nK P hP)).trans e⟩
theorem Cu.tk {w W W' : World} {s : Sl} {V : Nat} {B : List Nat} (c : Cu w W s V B) (t : TK [25] W W') (ap : Apart [] w W') : Cu w W' s V B := by
  have b : Bf w W' s B := ⟨t.nw c.bf.nw ap (by decide), c.bf.len⟩
  exact ⟨b, c.pb.of_bf b, t.block c.v (by decide)⟩
/-- an empty shelf -/
theorem sh_new {w W : World} (ap : Apart [] w W) {H : Nat} (hH : w.heap.size ≤ H) (blk : W.heap[H]? = some (.cells #[.slice none 0 0, .slice none 0 0, .slice none 0 0, .slice none 0 0, .int .i64 0] 73 (0, 0))) : Sh w W H [] 0 :=
  ⟨[], [], [], [], [], slz, slz, slz, slz, ⟨ap, hH, blk, Nw.none0 ap _ _, Nw.none0 ap _ _, Nw.none0 ap _ _, Nw.none0 ap _ _, by simp [slz, Sl.v, Value.ownBlock], rfl, rfl, rfl, by simp, fun i hi => by simp at hi, fun i hi => by simp at hi, fun P hP => by simp at hP⟩⟩
/-- between two contents -/
structure St (w W : World) (H : Nat) (K : List Nat) (m T : Nat) (gl : List Gh) (wl : List Ct) (sl su : Sl) : Prop where
  sh : Sh w W H K m
  lf : Lf w W K T gl
  hT : T ≤ W.heap.size
  ww : Ww w W gl wl
  nl : Nw w W 25 5 sl (flatT (gl.map Gh.c))
  nw : Nw w W 25 5 su (flatT wl)
  dif : ∀ k, sl.v.ownBlock = some k → su.v.ownBlock ≠ some k
theorem St.kept0 {w W W' : World} {H : Nat} {K : List Nat} {m T : Nat} {gl : List Gh} {wl : List Ct} {sl su : Sl} (h : St w W H K m T gl wl sl su) (a : Apart [] W W') : St w W' H K m T gl wl sl su :=
  { h with sh := h.sh.kept0 a, lf := h.lf.kept0 a (h.sh.ap.trans a), hT := Nat.le_trans h.hT a.size, ww := h.ww.kept0 a, nl := h.nl.kept a, nw := h.nw.kept a }
theorem St.mv {w W W' : World} {H : Nat} {K K' : List Nat} {m m' T a b : Nat} {gl : List Gh} {wl : List Ct} {sl su : Sl} (h : St w W H K m T gl wl sl su) (v : Mv w W K W' K' a b) (ha : T ≤ a) (s : Sh w W' H K' m') : St w W' H K' m' T gl wl sl su :=
  { h with sh := s, lf := v.lfT h.lf ha, hT := Nat.le_trans h.hT v.size, ww := v.ww h.ww, nl := v.nw h.nl (by decide) (by decide), nw := v.nw h.nw (by decide) (by decide) }
end Go.Proofs.Ytllhmidpphlbhaa.ds
