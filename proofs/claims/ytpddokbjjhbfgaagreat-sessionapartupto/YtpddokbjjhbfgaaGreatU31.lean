import Derived.Test.YtpddokbjjhbfgaaGreatChecked
import Derived.WalkKit
import Derived.ProofKit
import Derived.Maps.OwnSet
import Derived.Maps.RangeWalk
import Derived.DeepKeys4
import Derived.MapViews
import Derived.StringKeys
import Derived.Lib.TrailingZeros
import Derived.OpenShut
import Derived.Deep.QuietTactic
import Derived.BigQuiet
import Derived.BigRegion
import Derived.Laws.CopyOwn
import Derived.Laws.Bits64b
import Derived.Laws.MathBits
import Derived.Laws.ShiftsVarLaws
import Derived.WalkSmall
import Derived.Laws.ResultCell
import Derived.Lib.BitFns
import Derived.Laws.StructEq
import Derived.Deep.RegionHeld
import Derived.ArgAppend
import Derived.Deep.RegionLaw
import Derived.Deep.DeepAppendRoom
import Derived.Sort.WalkA
import Derived.Laws.Strings
import Derived.Deep.CutBlock
import Derived.Great.BuildSlice
import Derived.Laws.BytesString
import Derived.Laws.AppendOwnNone
import Derived.Lib.Overlaps
import Derived.Lib.AppendZerosOnto
import Derived.Laws.NewBlocks
import Derived.Laws.Externs
import Derived.Laws.IdiomCopy
import Derived.RangeFuncNested
import Derived.RangeFuncBound
import Derived.RangeFuncCalls
import Derived.RangeFuncLeaves
import Derived.Shelf.Abstract
import Derived.Shelf.RegionOpen
import Derived.OwnWalkIn
import Derived.TacticsInMore
import Derived.LoopNIn
import Derived.LoopIn
import Derived.Deep.CutRange
import Derived.Deep.OwnRows
import Derived.Lib.Walk
import Derived.Lib.SliceRun
import GoSem.Claim
import GoSem.ClaimJoined
import GoSem.ClaimMapViews
import Derived.JoinedTies
import Derived.KernelRfl
import Derived.Lib.LaidTab
import Derived.JoinedCond
import Derived.ShutString
import Derived.ChangeOld
import Derived.Below
import Derived.Carry
import Derived.ChangeSlices
import Derived.Deep.Slices
import Derived.Deep.DeepHandedRow
import Derived.RowKit
import Derived.ChangeShapes
import Derived.SizedLaws
import Derived.ChangeMaps5
import Derived.OrdersHeld
import Derived.Lib.AppendStr
import Derived.Lib.ConvBytes
import Derived.Deep.RegionHeld3
import Derived.Deep.MidRow
import Derived.Laws.BitsAllLaws
import Derived.Sort.Grow
import Derived.Shelf.SlSortCmp.WholeK
import Derived.Shelf.Lay
import Derived.Ground.SlsfProg
import Derived.Sort.LotA
import Derived.Sort.MapsRangeIn
import Derived.RangeFuncSeq
import Derived.RangeFuncKeeps
import Derived.Maps.AppendAt
import Derived.OwnWalk
import Derived.Test.YtpddokbjjhbfgaaGreatRows
import Derived.Test.YtpddokbjjhbfgaaGreatU25
import Derived.Test.YtpddokbjjhbfgaaGreatU30
namespace Go.Proofs.YtpddokbjjhbfgaaGreat.ds
open Go.ChangeShapes Go.WideShapes Go.ChangeAt Go.RowKit Go.Sort
set_option linter.unusedVariables false
set_option linter.unusedSimpArgs false

theorem insP_up (x : Dt) : ∀ (l : List Dt), UpD l → x ∉ l → UpD (rg.dt.insP x l)
  | [], _, _ => by unfold rg.dt.insP; exact List.pairwise_singleton _ _
  | y :: r, h, hx => by
    unfold rg.dt.insP
    have hc := List.pairwise_cons.1 h
    split
    · rename_i hl
      rw [rg.dt.ltP_iff] at hl
      refine List.pairwise_cons.2 ⟨fun z hz => ?_, h⟩
      rcases List.mem_cons.1 hz with rfl | hz
      · exact hl
      · have := hc.1 z hz
        unfold ltD at this ⊢
        omega
    · rename_i hl
      have hl2 : rg.dt.ltP x y = false := by simpa using hl
      rw [rg.dt.ltP_not] at hl2
      refine List.pairwise_cons.2 ⟨fun z hz => ?_, insP_up x r hc.2 (fun hm => hx (List.mem_cons_of_mem _ hm))⟩
      rcases List.mem_cons.1 ((rg.dt.insP_perm x r).mem_iff.1 hz) with rfl | hz
      · have hne : z ≠ y := fun e => hx (by simp [e])
        unfold ltD
        have : ¬ (z.1 = y.1 ∧ z.2 = y.2) := fun e => hne (Prod.ext e.1 e.2)
        omega
      · exact hc.1 z hz
/-- the heads behind a write -/
noncomputable def wroteH (l : List Dt) (e : E) (xs : List S) : List Dt := rg.dt.insP (dotE e) (l.filter (fun d => !hz xs d && !decide (d = dotE e)))
theorem wroteH_up {l : List Dt} (h : UpD l) (e : E) (xs : List S) : UpD (wroteH l e xs) := insP_up _ _ (h.filter _) (fun hm => by have := (List.mem_filter.1 hm).2; simp at this)
theorem wroteH_mem (l : List Dt) (e : E) (xs : List S) (d : Dt) : d ∈ wroteH l e xs ↔ d ∈ dotE e :: l.filter (fun d => !hz xs d) := by
  unfold wroteH
  rw [(rg.dt.insP_perm _ _).mem_iff, List.mem_cons, List.mem_cons, List.mem_filter, List.mem_filter]
  by_cases e1 : d = dotE e <;> simp [e1]
theorem wroteH_len (l : List Dt) (e : E) (xs : List S) : (wroteH l e xs).length ≤ l.length + 1 := by
  unfold wroteH
  rw [(rg.dt.insP_perm _ _).length_eq, List.length_cons]
  exact Nat.succ_le_succ (List.length_filter_le _ _)
open Classical in
noncomputable def updF (f : ByteArray → Sg) (s : ByteArray) (y : Sg) : ByteArray → Sg := fun t => if t = s then y else f t
/-- another sight of a key -/
theorem Ss.seen {w : World} {G : Gs} {c : Cf} {nn rr pp : Nat} {lk : List Int} {f : ByteArray → Sg} {N : Nat} (h : Ss w G c nn rr pp lk f N) {w1 w' : World} (a1 : Apart [] w w1) {s : ByteArray} (hs : s.size ≤ maxLen) {h0 : Nat} {k : Int} {y : Sg} {N' : Nat} (hN : N ≤ N') (hy : SetAt w1 h0 y.1 (N' + 1)) (hyk : y.2 = k) (hyu : UpD y.1) (hyl : y.1.length ≤ N' + 1) (hnew : w.heap.size ≤ h0) (hmp : MapK w' G.M (updK G.g s (h0, k)) (N + 1)) (hg : w1.grownBy w' (some G.M)) :
    Ss w' { G with g := updK G.g s (h0, k) } c nn rr pp lk (updF f s y) (N' + 1) := by
  have h1 := h.kept0 a1
  have b : Apart [G.M] w1 w' := ap_grown hg
  have hM : ∀ k, k < w1.heap.size → k ≠ G.M → w'.heap[k]? = w1.heap[k]? := fun k hk hne => b.block k hk (by simp [hne])
  have notM : ∀ {k : Nat} {cur : Array Value} {t : TypeId}, w1.heap[k]? = some (.cells cur t (0, 0)) → k ≠ G.M := fun {k cur t} hk e => by
    obtain ⟨D, ⟨es, ck, h2, _⟩, _⟩ := h1.mp
    rw [← e, hk] at h2
    cases h2
  obtain ⟨cur, hrow, -⟩ := h1.li.row
  have hRM : G.R ≠ G.M := fun e => by
    obtain ⟨D, ⟨es, ck, h2, _⟩, _⟩ := h1.mp
    have := h1.ring.c0
    rw [e] at this
    simp [World.cell?, h2] at this
  have hMlt := h.mp.lt
  refine { h1 with blk := (hM _ (lt_of_heap h1.blk) (notM h1.blk)).trans h1.blk, ring := Rg_same h1.ring (hM _ h1.ring.lt hRM), li := h1.li.kept (hM _ h1.li.lt (notM hrow)), mp := hmp.mono (by omega), hd := fun t ht => ?_ }
  unfold updF updK
  by_cases e : t = s
  · subst e
    simp only [if_pos]
    exact ⟨⟨hy.kept (hM _ hy.lt (by omega)), hyk, by show h0 ≠ G.M; omega⟩, hyu, hyl⟩
  · simp only [if_neg e]
    refine ⟨?_, (h1.hd t ht).2.1, Nat.le_trans (h1.hd t ht).2.2 (by omega)⟩
    have := (h1.hd t ht).1
    show HdOk w' G.M (N' + 1) (G.g t) (f t)
    cases eg : G.g t with
    | none => rw [eg] at this; exact this
    | some p =>
      rw [eg] at this
      exact ⟨(this.1.kept (hM _ this.1.lt this.2.2)).mono (by omega), this.2⟩
theorem Gs.has_new {G : Gs} {s : ByteArray} {h0 : Nat} {k : Int} {n : Nat} (hn : n ≤ h0) {j : Nat} (hj : Gs.has { G with g := updK G.g s (h0, k) } j) : G.has j ∨ n ≤ j := by
  rcases hj with e | e | e | e | ⟨t, x, ht, hx, e⟩
  · exact .inl (.inl e)
  · exact .inl (.inr (.inl e))
  · exact .inl (.inr (.inr (.inl e)))
  · exact .inl (.inr (.inr (.inr (.inl e))))
  · unfold updK at hx
    simp only at hx
    split at hx
    · cases hx; exact .inr (by omega)
    · exact .inl (.inr (.inr (.inr (.inr ⟨t, x, ht, hx, e⟩))))
/-- what a session's call that writes leaves -/
structure Wp (w w' : World) (G G' : Gs) : Prop where
  S : G'.S = G.S
  ap : Apart [G.M] w w'
  new : ∀ j, G'.has j → G.has j ∨ w.heap.size ≤ j
def WroteP (w : World) (G : Gs) (c : Cf) (nn rr pp : Nat) (lk : List Int) (f : ByteArray → Sg) (N : Nat) (v : Bool) (e : E) (xs : List S) (r : Ending) (w' : World) : Prop :=
  (v = false → r = .returned (.int .i64 52) ∧ Apart [] w w') ∧ (v = true → r = .returned (.int .i64 0) ∧ ∃ G', Ss w' G' c nn rr pp lk (updF f e.k (wroteH (f e.k).1 e xs, (f e.k).2)) (N + 1) ∧ Wp w w' G G')
set_option maxHeartbeats 8000000 in
set_option maxRecDepth 100000 in
theorem wrote_ok {w : World} {G : Gs} {c : Cf} {nn rr pp : Nat} {lk : List Int} {f : ByteArray → Sg} {N : Nat} (h : Ss w G c nn rr pp lk f N) (hN : N ≤ 2000000) (e : E) {xs : List S} (hx : L w e.x.p e.x.n xs) (hk : e.k.size ≤ maxLen) (hd : Dok (dotE e)) :
    Calls Tryz.prog 13 #[.pointer (some ⟨G.S, 0, none⟩), .agg #[.int .i64 e.n, .int .i64 e.c, .string e.k, .bool e.d, .slice e.v.p e.v.n e.v.c, .slice e.x.p e.x.n e.x.c]] w fun r w' => WroteP w G c nn rr pp lk f N (wrR c e xs) e xs r w' := by
  obtain ⟨X, HXX⟩ : ∃ X, Hid (X = w.heap.size) := ⟨_, rfl⟩
  obtain ⟨w1, hw1⟩ : ∃ V, V = w.alloc (.cells #[.int .i64 e.n, .int .i64 e.c, .string e.k, .bool e.d, .slice e.v.p e.v.n e.v.c, .slice e.x.p e.x.n e.x.c] 38) := ⟨_, rfl⟩
  have a1 : Apart [] w w1 := by rw [hw1]; exact (Apart.refl [] w).alloc _
  have hX1 : w1.heap[X]? = some (.cells #[.int .i64 e.n, .int .i64 e.c, .string e.k, .bool e.d, .slice e.v.p e.v.n e.v.c, .slice e.x.p e.x.n e.x.c] 38 (0, 0)) := by rw [hw1, HXX.out]; exact heap_alloc_new w _
  have hS1 := keep0 a1 h.blk
  have hXM : X ≠ G.M := by have := h.mp.lt; rw [HXX.out]; omega
  have hSM : G.S ≠ G.M := fun e2 => by
    obtain ⟨D, ⟨es, ck, h2, _⟩, _⟩ := h.mp
    rw [← e2, h.blk] at h2
    cases h2
  have HA1 := hid a1
  have HS := hid h
  have HL1 := hid (hx.kept0 a1)
  have HKD := hid (And.intro hk hd)
  obtain ⟨v, Hv⟩ : ∃ b : Bool, Hid (b = wrR c e xs) := ⟨_, rfl⟩
  have HWR : Hid (∀ W, Apart [] w1 W → Calls Tryz.prog 31 #[.agg c.a, .agg #[.int .i64 e.n, .int .i64 e.c, .string e.k, .bool e.d, .slice e.v.p e.v.n e.v.c, .slice e.x.p e.x.n e.x.c]] W fun r w' => r = .returned (.bool v) ∧ Apart [] W w') := fun W a => by rw [Hv.out]; exact rwrite_ok c e (HL1.out.kept0 a) (by have := HKD.out.1; unfold maxLen at this; omega)
  have HSC : Hid (∀ W, Apart [G.M] w1 W → (∀ j v, (sesA c G.R G.L nn G.cap G.M)[j]? = some v → W.cell? ⟨G.S, j, none⟩ = some v) ∧ (∀ j v, (#[.int .i64 e.n, .int .i64 e.c, .string e.k, .bool e.d, .slice e.v.p e.v.n e.v.c, .slice e.x.p e.x.n e.x.c] : Array Value)[j]? = some v → W.cell? ⟨X, j, none⟩ = some v)) := fun W a => ⟨fun j v hj => crow (keepB a hS1 hSM) j v hj, fun j v hj => crow (keepB a hX1 hXM) j v hj⟩
  rw [← Hv.out]
  obtain ⟨m, hv, hat⟩ := h.hdAt hk
  have HLK : Hid (∀ W, Apart [] w1 W → (Instr.lookup 79 (.map (some G.M)) (.string e.k) false).run Tryz.prog W = .ok (.agg #[.map m, .int .i64 (f e.k).2]) W) := fun W a => by rw [← hv]; exact ((HS.out.kept0 (HA1.out.trans a)).mp).look HKD.out.1
  have HAT := hid (hat.kept0 a1)
  have HU := hid (h.hd e.k hk).2
  have HNN := hid hN
  clear a1 h hx hk hd hX1 hS1 hXM hSM hv hat hN
  unfold Cf.a at HWR
  go_enter Tryz.func13, Tryz.ntmps13
  go_upto_region 1 with fail
  rw [← hw1, ← HXX.out]
  clear hw1 HXX
  go_cut [11] from 5 to 11 (fun s11 wx => s11 = .bool (!v) ∧ Hid (Apart [] w1 wx))
  case first =>
    have hAd : Apart [] w1 w1.drew := (Apart.refl [] w1).drew
    refine wp_region_held_drew (S := fun W => Apart [] w1 W) (by kernel_rfl) hAd (fun hHeld => ?_)
    generalize w1.drew = wd at *
    clear hAd
    refine tk 0 5 (.pointer (some ⟨G.S, 0, none⟩)) rfl ?_ ?_
    · intro W hSW; go_simp
    simp only [Act.put, List.setIfInBounds_toArray, List.set_cons_zero, List.set_cons_succ]
    refine tk 1 6 (.pointer (some ⟨G.S, 0, none⟩)) rfl ?_ ?_
    · intro W hSW; go_simp
    simp only [Act.put, List.setIfInBounds_toArray, List.set_cons_zero, List.set_cons_succ]
    refine tk 2 7 (.pointer (some ⟨G.S, 0, none⟩)) rfl ?_ ?_
    · intro W hSW; go_simp
    simp only [Act.put, List.setIfInBounds_toArray, List.set_cons_zero, List.set_cons_succ]
    refine tk 3 8 (.agg #[.int .i64 c.n, .int .i64 c.p, .int .i64 c.r, .int .i64 c.s, .int .i64 c.g, .int .i64 c.c, .int .i64 c.k, .int .i64 c.h, .int .i64 c.b]) rfl ?_ ?_
    · intro W hSW; have u0 := (HSC.out W (hSW.mono (by simp))).1 0 (.int .i64 c.n) rfl; have u1 := (HSC.out W (hSW.mono (by simp))).1 1 (.int .i64 c.p) rfl; have u2 := (HSC.out W (hSW.mono (by simp))).1 2 (.int .i64 c.r) rfl; have u3 := (HSC.out W (hSW.mono (by simp))).1 3 (.int .i64 c.s) rfl; have u4 := (HSC.out W (hSW.mono (by simp))).1 4 (.int .i64 c.g) rfl; have u5 := (HSC.out W (hSW.mono (by simp))).1 5 (.int .i64 c.c) rfl; have u6 := (HSC.out W (hSW.mono (by simp))).1 6 (.int .i64 c.k) rfl; have u7 := (HSC.out W (hSW.mono (by simp))).1 7 (.int .i64 c.h) rfl; have u8 := (HSC.out W (hSW.mono (by simp))).1 8 (.int .i64 c.b) rfl; go_simp
    simp only [Act.put, List.setIfInBounds_toArray, List.set_cons_zero, List.set_cons_succ]
    refine tk 4 9 (.agg #[.int .i64 e.n, .int .i64 e.c, .string e.k, .bool e.d, .slice e.v.p e.v.n e.v.c, .slice e.x.p e.x.n e.x.c]) rfl ?_ ?_
    · intro W hSW; have x0 := (HSC.out W (hSW.mono (by simp))).2 0 (.int .i64 e.n) rfl; have x1 := (HSC.out W (hSW.mono (by simp))).2 1 (.int .i64 e.c) rfl; have x2 := (HSC.out W (hSW.mono (by simp))).2 2 (.string e.k) rfl; have x3 := (HSC.out W (hSW.mono (by simp))).2 3 (.bool e.d) rfl; have x4 := (HSC.out W (hSW.mono (by simp))).2 4 (.slice e.v.p e.v.n e.v.c) rfl; have x5 := (HSC.out W (hSW.mono (by simp))).2 5 (.slice e.x.p e.x.n e.x.c) rfl; go_simp
    simp only [Act.put, List.setIfInBounds_toArray, List.set_cons_zero, List.set_cons_succ]
    refine wpAnyH_ready (rs := [5]) (by kernel_rfl) (by simp) ?_
    refine AllReadyH.cons rfl (fun KK hKK => ?_) AllReadyH.nil
    go_simp
    refine (HWR.out wd hHeld).mono ?_
    rintro _ w2 ⟨rfl, a2⟩
    have hS2 := hHeld.trans a2
    clear a2
    try dsimp only
    refine hKK.out _ _ hS2 (fun hHeld => ?_)
    clear hKK KK
    try simp only [Act.put, List.setIfInBounds_toArray, List.set_cons_zero, List.set_cons_succ]
    refine tk 6 11 (.bool (!v)) rfl ?_ ?_
    · intro W hSW; go_simp
    simp only [Act.put, List.setIfInBounds_toArray, List.set_cons_zero, List.set_cons_succ]
    refine wpAnyH_done (by kernel_rfl) ?_ _
    go_wp2_with fail
    go_meet
    exact ⟨rfl, hid hHeld⟩
  obtain ⟨rfl, HA2⟩ := hcut
  generalize wc = w2 at *
  cases v with
  | false =>
    go_wp2_with fail
    go_ret
    unfold WroteP
    exact ⟨fun _ => ⟨rfl, HA1.out.trans HA2.out⟩, fun hh => (by cases hh)⟩
  | true =>
    go_upto_region 3 with fail
    have hAd : Apart [] w1 w2.drew := HA2.out.trans (Apart.refl [] w2).drew
    have hAm : Apart [G.M] w1 w2.drew := hAd.mono (by simp)
    refine wp_region_held_drew (S := fun W => Apart [G.M] w1 W) (by kernel_rfl) hAm (fun hHeld => ?_)
    have HAD := hid hAd
    generalize w2.drew = wd at *
    clear hAd hAm
    refine tk 0 12 (.pointer (some ⟨G.S, 0, none⟩)) rfl ?_ ?_
    · intro W hSW; go_simp
    simp only [Act.put, List.setIfInBounds_toArray, List.set_cons_zero, List.set_cons_succ]
    refine tk 1 13 (.pointer (some ⟨G.S, 0, none⟩)) rfl ?_ ?_
    · intro W hSW; go_simp
    simp only [Act.put, List.setIfInBounds_toArray, List.set_cons_zero, List.set_cons_succ]
    refine tk 2 14 (.pointer (some ⟨G.S, 11, none⟩)) rfl ?_ ?_
    · intro W hSW; go_simp
    simp only [Act.put, List.setIfInBounds_toArray, List.set_cons_zero, List.set_cons_succ]
    refine tk 3 15 (.map (some G.M)) rfl ?_ ?_
    · intro W hSW; have u11 := (HSC.out W hSW).1 11 (.map (some G.M)) rfl; go_simp
    simp only [Act.put, List.setIfInBounds_toArray, List.set_cons_zero, List.set_cons_succ]
    refine tk 4 16 (.pointer (some ⟨X, 2, none⟩)) rfl ?_ ?_
    · intro W hSW; go_simp
    simp only [Act.put, List.setIfInBounds_toArray, List.set_cons_zero, List.set_cons_succ]
    refine tk 5 17 (.string e.k) rfl ?_ ?_
    · intro W hSW; have x2 := (HSC.out W hSW).2 2 (.string e.k) rfl; go_simp
    simp only [Act.put, List.setIfInBounds_toArray, List.set_cons_zero, List.set_cons_succ]
    refine tk 6 18 (.pointer (some ⟨G.S, 0, none⟩)) rfl ?_ ?_
    · intro W hSW; go_simp
    simp only [Act.put, List.setIfInBounds_toArray, List.set_cons_zero, List.set_cons_succ]
    refine tk 7 19 (.pointer (some ⟨G.S, 0, none⟩)) rfl ?_ ?_
    · intro W hSW; go_simp
    simp only [Act.put, List.setIfInBounds_toArray, List.set_cons_zero, List.set_cons_succ]
    refine tk 8 20 (.pointer (some ⟨G.S, 11, none⟩)) rfl ?_ ?_
    · intro W hSW; go_simp
    simp only [Act.put, List.setIfInBounds_toArray, List.set_cons_zero, List.set_cons_succ]
    refine tk 9 21 (.map (some G.M)) rfl ?_ ?_
    · intro W hSW; have u11 := (HSC.out W hSW).1 11 (.map (some G.M)) rfl; go_simp
    simp only [Act.put, List.setIfInBounds_toArray, List.set_cons_zero, List.set_cons_succ]
    refine tk 10 22 (.pointer (some ⟨X, 2, none⟩)) rfl ?_ ?_
    · intro W hSW; go_simp
    simp only [Act.put, List.setIfInBounds_toArray, List.set_cons_zero, List.set_cons_succ]
    refine tk 11 23 (.string e.k) rfl ?_ ?_
    · intro W hSW; have x2 := (HSC.out W hSW).2 2 (.string e.k) rfl; go_simp
    simp only [Act.put, List.setIfInBounds_toArray, List.set_cons_zero, List.set_cons_succ]
    refine tk 13 25 (.agg #[.int .i64 e.n, .int .i64 e.c, .string e.k, .bool e.d, .slice e.v.p e.v.n e.v.c, .slice e.x.p e.x.n e.x.c]) rfl ?_ ?_
    · intro W hSW; have x0 := (HSC.out W hSW).2 0 (.int .i64 e.n) rfl; have x1 := (HSC.out W hSW).2 1 (.int .i64 e.c) rfl; have x2 := (HSC.out W hSW).2 2 (.string e.k) rfl; have x3 := (HSC.out W hSW).2 3 (.bool e.d) rfl; have x4 := (HSC.out W hSW).2 4 (.slice e.v.p e.v.n e.v.c) rfl; have x5 := (HSC.out W hSW).2 5 (.slice e.x.p e.x.n e.x.c) rfl; go_simp
    simp only [Act.put, List.setIfInBounds_toArray, List.set_cons_zero, List.set_cons_succ]
    refine wpAnyH_ready (rs := [12]) (by kernel_rfl) (by simp) ?_
    refine AllReadyH.cons rfl (fun KK hKK => ?_) AllReadyH.nil
    have hlk := HLK.out wd HAD.out
    go_simp
    clear hlk
    refine hKK.out _ _ hHeld (fun hHeld => ?_)
    clear hKK KK
    try simp only [Act.put, List.setIfInBounds_toArray, List.set_cons_zero, List.set_cons_succ]
    refine wpAnyH_ready (rs := [14]) (by kernel_rfl) (by simp) ?_
    refine AllReadyH.cons rfl (fun KK hKK => ?_) AllReadyH.nil
    go_simp
    have hbeh : Calls Tryz.prog 32 #[.agg #[.map m, .int .i64 (f e.k).2], .agg #[.int .i64 e.n, .int .i64 e.c, .string e.k, .bool e.d, .slice e.v.p e.v.n e.v.c, .slice e.x.p e.x.n e.x.c]] wd fun r w' => ∃ M, r = .returned (.agg #[.map (some M), .int .i64 (f e.k).2]) ∧ wd.heap.size ≤ M ∧ SetAt w' M (wroteH (f e.k).1 e xs) (N + 1) ∧ Apart [] wd w' := by
      cases m with
      | none =>
        have e0 : (f e.k).1 = [] := HAT.out
        refine (behind_none HKD.out.2 (HL1.out.kept0 HAD.out)).mono (fun r w' hh => ?_)
        obtain ⟨M, e1, h1, h2, h3⟩ := hh
        exact ⟨M, e1, h1, (h2.perm (fun d => by rw [wroteH_mem, e0]; simp)).mono (by omega), h3⟩
      | some h0 =>
        have hs0 : SetAt w1 h0 (f e.k).1 N := HAT.out
        refine (behind_some HKD.out.2 (HL1.out.kept0 HAD.out) (hs0.kept0 HAD.out) (by have := HNN.out; omega)).mono (fun r w' hh => ?_)
        obtain ⟨M, e1, h1, h2, h3⟩ := hh
        exact ⟨M, e1, h1, h2.perm (fun d => wroteH_mem _ _ _ d), h3⟩
    refine hbeh.mono ?_
    clear hbeh
    rintro _ w3 ⟨M2, rfl, hM2, hset, a3⟩
    have hA3 : Apart [] w1 w3 := HAD.out.trans a3
    have hAw3 : Apart [] w w3 := HA1.out.trans hA3
    obtain ⟨w4, hrun, hmk, hgr⟩ := ((HS.out.kept0 hAw3).mp).put HKD.out.1 (by have := HNN.out; omega) (M2, (f e.k).2)
    have b4 : Apart [G.M] w3 w4 := ap_grown hgr
    have hA4 : Apart [G.M] w1 w4 := (hA3.mono (by simp)).trans b4
    have hnew : w.heap.size ≤ M2 := Nat.le_trans (HA1.out.trans HAD.out).size hM2
    have HE : Hid (∃ G', Ss w4 G' c nn rr pp lk (updF f e.k (wroteH (f e.k).1 e xs, (f e.k).2)) (N + 1) ∧ Wp w w4 G G') := by
      refine hid ⟨_, HS.out.seen hAw3 HKD.out.1 (Nat.le_refl N) hset rfl (wroteH_up HU.out.1 e xs) (Nat.le_trans (wroteH_len _ e xs) (by have := HU.out.2; omega)) hnew hmk hgr, ⟨rfl, (hAw3.mono (by simp)).trans b4, fun j hj => Gs.has_new hnew hj⟩⟩
    unfold sgV at hrun
    clear hset hmk hgr b4 hM2 hnew
    try dsimp only
    refine hKK.out _ _ (hA3.mono (by simp)) (fun hHeld => ?_)
    clear hKK KK
    try simp only [Act.put, List.setIfInBounds_toArray, List.set_cons_zero, List.set_cons_succ]
    refine wpAnyH_ready (rs := [15]) (by kernel_rfl) (by simp) ?_
    refine AllReadyH.cons rfl (fun KK hKK => ?_) AllReadyH.nil
    go_simp
    clear hrun
    refine hKK.out _ _ hA4 (fun hHeld => ?_)
    clear hKK KK
    try simp only [Act.put, List.setIfInBounds_toArray, List.set_cons_zero, List.set_cons_succ]
    refine wpAnyH_done (by kernel_rfl) ?_ _
    clear hHeld
    go_wp2_with fail
    go_ret
    unfold WroteP
    exact ⟨fun hh => (by cases hh), fun _ => ⟨rfl, HE.out⟩⟩
end Go.Proofs.YtpddokbjjhbfgaaGreat.ds
namespace Go.Proofs.YtpddokbjjhbfgaaGreat.ds
open Go.ChangeShapes Go.WideShapes Go.ChangeAt Go.RowKit Go.Sort
set_option linter.unusedVariables false
set_option linter.unusedSimpArgs false

/-- what Got answers, out of what its parts answer -/
def gotE (call : Int) (b1 b2 b3 b4 : Bool) : Int := if call < 1 ∨ call > 4096 then 1 else if b1 = false then 50 else if b2 = false then 30 else if b3 = false then 52 else if b4 = false then 150 else 0
def GotP (w : World) (G : Gs) (c : Cf) (nn rr pp : Nat) (lk : List Int) (f : ByteArray → Sg) (N : Nat) (call : Int) (key : ByteArray) (es : List E) (er : Int) (r : Ending) (w' : World) : Prop :=
  r = .returned (.int .i64 er) ∧ (er ≠ 0 → Apart [] w w') ∧ (er = 0 → ∃ G', Ss w' G' c nn rr pp lk (updF f key (es.map dotE, call)) (N + es.length + 1) ∧ Wp w w' G G')
/-- the writes' dots rise -/
theorem areR_up {c : Cf} {key : ByteArray} {tok : List S} {es : List E} {X : Nat → List S} (h : areR c key tok es X = true) : UpD (es.map dotE) := by
  unfold areR at h
  rw [List.all_eq_true] at h
  have hstep : ∀ i, i + 1 < es.length → ltD (dotE (gE es i)) (dotE (gE es (i + 1))) := fun i hi => by
    have := h (i + 1) (List.mem_range.2 hi)
    unfold okI at this
    simp only [Bool.and_eq_true, Bool.or_eq_true] at this
    have h4 := this.2
    simp only [Nat.add_sub_cancel] at h4
    rcases h4 with h4 | h4
    · simp at h4
    · rw [rg.dt.cfP_lt, rg.dt.ltP_iff] at h4; exact h4
  have htr : ∀ a b d : Dt, ltD a b → ltD b d → ltD a d := fun a b d h1 h2 => by unfold ltD at *; omega
  have hall : ∀ k i, i + (k + 1) < es.length → ltD (dotE (gE es i)) (dotE (gE es (i + (k + 1)))) := fun k => by
    induction k with
    | zero => exact fun i hi => hstep i hi
    | succ k ih => exact fun i hi => htr _ _ _ (ih i (by omega)) (hstep (i + (k + 1)) (by omega))
  unfold UpD
  rw [List.pairwise_iff_getElem]
  intro i j hi hj hij
  simp at hi hj
  have := hall (j - i - 1) i (by omega)
  have e : i + (j - i - 1 + 1) = j := by omega
  rw [e] at this
  unfold gE at this
  rw [List.getD_eq_getElem?_getD, List.getElem?_eq_getElem hi, List.getD_eq_getElem?_getD, List.getElem?_eq_getElem hj] at this
  simpa using this
set_option maxHeartbeats 16000000 in
set_option maxRecDepth 100000 in
theorem got_ok {w : World} {G : Gs} {c : Cf} {nn rr pp : Nat} {lk : List Int} {f : ByteArray → Sg} {N : Nat} (h : Ss w G c nn rr pp lk f N) (hN : N ≤ 2000000) (call : Int) {key : ByteArray} (hk : key.size ≤ maxLen) {p : Option Addr} {n cap : Nat} {es : List E} {X : Nat → List S} (hw : Ws w p n es X) (hn : n ≤ 1500000) {tp : Option Addr} {tn tc : Nat} {tok : List S} (ht : L w tp tn tok) :
    Calls Tryz.prog 14 #[.pointer (some ⟨G.S, 0, none⟩), .int .i64 call, .string key, .slice tp tn tc, .slice p n cap] w fun r w' => GotP w G c nn rr pp lk f N call key es (gotE call (keyR key) (setR c tok) (areR c key tok es X) ((f key).1.all (hz tok))) r w' := by
  obtain ⟨b1, Hb1⟩ : ∃ b : Bool, Hid (b = keyR key) := ⟨_, rfl⟩
  obtain ⟨b2, Hb2⟩ : ∃ b : Bool, Hid (b = setR c tok) := ⟨_, rfl⟩
  obtain ⟨b3, Hb3⟩ : ∃ b : Bool, Hid (b = areR c key tok es X) := ⟨_, rfl⟩
  obtain ⟨b4, Hb4⟩ : ∃ b : Bool, Hid (b = (f key).1.all (hz tok)) := ⟨_, rfl⟩
  rw [← Hb1.out, ← Hb2.out, ← Hb3.out, ← Hb4.out]
  have HS := hid h
  have HW := hid hw
  have hlen := hw.len
  have HKK1 := hid hk
  have HK : Hid (Calls Tryz.prog 33 #[.string key] w fun r w' => r = .returned (.bool b1) ∧ w' = w) := by rw [Hb1.out]; exact rkey_ok w key (by unfold maxLen at hk; omega)
  have HST : Hid (∀ W, Apart [] w W → Calls Tryz.prog 34 #[.agg #[.int .i64 c.n, .int .i64 c.p, .int .i64 c.r, .int .i64 c.s, .int .i64 c.g, .int .i64 c.c, .int .i64 c.k, .int .i64 c.h, .int .i64 c.b], .slice tp tn tc] W fun r w' => r = .returned (.bool b2) ∧ Apart [] W w') := fun W a => by rw [Hb2.out]; exact rset_ok c (ht.kept0 a)
  have HAR : Hid (∀ W, Apart [] w W → Calls Tryz.prog 35 #[.pointer (some ⟨G.S, 0, none⟩), .string key, .slice tp tn tc, .slice p n cap] W fun r w' => r = .returned (.bool b3) ∧ Apart [] W w') := fun W a => by rw [Hb3.out]; exact areOf_ok (HS.out.kept0 a) (HW.out.kept0 a) (by omega) (ht.kept0 a)
  obtain ⟨m, hv, hat⟩ := h.hdAt hk
  have HAT := hid hat
  have HWI : Hid (∀ W, Apart [] w W → Calls Tryz.prog 36 #[.agg #[.map m, .int .i64 (f key).2], .slice tp tn tc] W fun r w' => r = .returned (.bool b4) ∧ Apart [] W w') := fun W a => by
    rw [Hb4.out]
    cases m with
    | none =>
      have e0 : (f key).1 = [] := HAT.out
      rw [e0]
      exact within_none
    | some h0 => exact within_some (SetAt.kept0 HAT.out a) (ht.kept0 a)
  have HLK : Hid (∀ W, Apart [] w W → (Instr.lookup 79 (.map (some G.M)) (.string key) false).run Tryz.prog W = .ok (.agg #[.map m, .int .i64 (f key).2]) W) := fun W a => by rw [← hv]; exact ((HS.out.kept0 a).mp).look HKK1.out
  have HSC : Hid (∀ W, Apart [] w W → ∀ j v, (sesA c G.R G.L nn G.cap G.M)[j]? = some v → W.cell? ⟨G.S, j, none⟩ = some v) := fun W a j v hj => crow (keep0 a HS.out.blk) j v hj
  have HUP : Hid (b3 = true → UpD (es.map dotE)) := fun e => areR_up (by rw [← Hb3.out]; exact e)
  have HNN := hid (And.intro hN hn)
  clear h hw ht hk hv hat hN hn Hb1 Hb2 Hb3 Hb4
  by_cases t1 : call < 1
  · have HE : Hid (gotE call b1 b2 b3 b4 = 1) := by unfold Hid gotE; rw [if_pos (.inl t1)]
    rw [HE.out]
    go_enter Tryz.func14, Tryz.ntmps14
    go_wp2_with fail
    go_ret
    exact ⟨rfl, fun _ => Apart.refl _ _, fun hh => absurd hh (by decide)⟩
  by_cases t2 : call > 4096
  · have HE : Hid (gotE call b1 b2 b3 b4 = 1) := by unfold Hid gotE; rw [if_pos (.inr t2)]
    rw [HE.out]
    go_enter Tryz.func14, Tryz.ntmps14
    go_wp2_with fail
    go_ret
    exact ⟨rfl, fun _ => Apart.refl _ _, fun hh => absurd hh (by decide)⟩
  have HE : Hid (gotE call b1 b2 b3 b4 = if b1 = false then 50 else if b2 = false then 30 else if b3 = false then 52 else if b4 = false then 150 else 0) := by unfold Hid gotE; rw [if_neg (by omega)]
  rw [HE.out]
  clear HE
  go_enter Tryz.func14, Tryz.ntmps14
  go_wp2_with fail
  refine HK.out.mono ?_
  rintro _ wn ⟨rfl, hwn⟩
  rw [hwn]
  clear hwn wn HK
  try dsimp only
  cases b1 with
  | false =>
    go_wp2_with fail
    go_ret
    exact ⟨rfl, fun _ => Apart.refl _ _, fun hh => absurd hh (by decide)⟩
  | true =>
    have u0 := HSC.out w (Apart.refl _ _) 0 (.int .i64 c.n) rfl
    have u1 := HSC.out w (Apart.refl _ _) 1 (.int .i64 c.p) rfl
    have u2 := HSC.out w (Apart.refl _ _) 2 (.int .i64 c.r) rfl
    have u3 := HSC.out w (Apart.refl _ _) 3 (.int .i64 c.s) rfl
    have u4 := HSC.out w (Apart.refl _ _) 4 (.int .i64 c.g) rfl
    have u5 := HSC.out w (Apart.refl _ _) 5 (.int .i64 c.c) rfl
    have u6 := HSC.out w (Apart.refl _ _) 6 (.int .i64 c.k) rfl
    have u7 := HSC.out w (Apart.refl _ _) 7 (.int .i64 c.h) rfl
    have u8 := HSC.out w (Apart.refl _ _) 8 (.int .i64 c.b) rfl
    go_wp2_with fail
    refine (HST.out w (Apart.refl _ _)).mono ?_
    rintro _ w2 ⟨rfl, a2⟩
    have HA2 := hid a2
    clear a2 u0 u1 u2 u3 u4 u5 u6 u7 u8 HST
    try dsimp only
    cases b2 with
    | false =>
      go_wp2_with fail
      go_ret
      exact ⟨rfl, fun _ => HA2.out, fun hh => absurd hh (by decide)⟩
    | true =>
      go_wp2_with fail
      refine (HAR.out w2 HA2.out).mono ?_
      rintro _ w3 ⟨rfl, a3⟩
      have HA3 := hid (HA2.out.trans a3)
      clear a3 HAR
      try dsimp only
      cases b3 with
      | false =>
        go_wp2_with fail
        go_ret
        exact ⟨rfl, fun _ => HA3.out, fun hh => absurd hh (by decide)⟩
      | true =>
        have u11 := HSC.out w3 HA3.out 11 (.map (some G.M)) rfl
        have hlk := HLK.out w3 HA3.out
        go_wp2_with fail
        refine (HWI.out w3 HA3.out).mono ?_
        rintro _ w4 ⟨rfl, a4⟩
        have HA4 := hid (HA3.out.trans a4)
        clear a4 HWI u11 hlk
        try dsimp only
        cases b4 with
        | false =>
          go_wp2_with fail
          go_ret
          exact ⟨rfl, fun _ => HA4.out, fun hh => absurd hh (by decide)⟩
        | true =>
          go_upto_region 11 with fail
          have hAd : Apart [] w w4.drew := HA4.out.trans (Apart.refl [] w4).drew
          have hAm : Apart [G.M] w w4.drew := hAd.mono (by simp)
          have HSM : Hid (∀ W, Apart [G.M] w W → W.cell? ⟨G.S, 11, none⟩ = some (.map (some G.M))) := fun W a => by
            have hSM : G.S ≠ G.M := fun e2 => by
              obtain ⟨D, ⟨es, ck, h2, _⟩, _⟩ := HS.out.mp
              rw [← e2, HS.out.blk] at h2
              cases h2
            exact crow (keepB a HS.out.blk hSM) 11 _ rfl
          refine wp_region_held_drew (S := fun W => Apart [G.M] w W) (by kernel_rfl) hAm (fun hHeld => ?_)
          have HAD := hid hAd
          generalize w4.drew = wd at *
          clear hAd hAm
          refine tk 0 47 (.pointer (some ⟨G.S, 0, none⟩)) rfl ?_ ?_
          · intro W hSW; go_simp
          simp only [Act.put, List.setIfInBounds_toArray, List.set_cons_zero, List.set_cons_succ]
          refine tk 1 48 (.pointer (some ⟨G.S, 0, none⟩)) rfl ?_ ?_
          · intro W hSW; go_simp
          simp only [Act.put, List.setIfInBounds_toArray, List.set_cons_zero, List.set_cons_succ]
          refine tk 2 49 (.pointer (some ⟨G.S, 11, none⟩)) rfl ?_ ?_
          · intro W hSW; go_simp
          simp only [Act.put, List.setIfInBounds_toArray, List.set_cons_zero, List.set_cons_succ]
          refine tk 3 50 (.map (some G.M)) rfl ?_ ?_
          · intro W hSW; have u11 := HSM.out W hSW; go_simp
          simp only [Act.put, List.setIfInBounds_toArray, List.set_cons_zero, List.set_cons_succ]
          refine tk 4 51 (.string key) rfl ?_ ?_
          · intro W hSW; go_simp
          simp only [Act.put, List.setIfInBounds_toArray, List.set_cons_zero, List.set_cons_succ]
          refine tk 5 52 (.int .i64 call) rfl ?_ ?_
          · intro W hSW; go_simp
          simp only [Act.put, List.setIfInBounds_toArray, List.set_cons_zero, List.set_cons_succ]
          refine tk 6 53 (.slice p n cap) rfl ?_ ?_
          · intro W hSW; go_simp
          simp only [Act.put, List.setIfInBounds_toArray, List.set_cons_zero, List.set_cons_succ]
          refine wpAnyH_ready (rs := [7]) (by kernel_rfl) (by simp) ?_
          refine AllReadyH.cons rfl (fun KK hKK => ?_) AllReadyH.nil
          go_simp
          have hwd := HW.out.kept0 HAD.out
          refine (sightOf_ok (s := ⟨p, n, cap⟩) hwd.rd (by show n = es.length; omega) (by have := HNN.out.2; omega) (fun e he => by obtain ⟨j, hj, rfl⟩ := List.getElem_of_mem he; have := hwd.dok j (by omega); unfold gE at this; rw [List.getD_eq_getElem?_getD, List.getElem?_eq_getElem hj] at this; exact this) call).mono ?_
          clear hwd
          rintro _ w5 ⟨M2, rfl, hM2, hset, a5⟩
          have hAw5 : Apart [] w w5 := HAD.out.trans a5
          obtain ⟨w6, hrun, hmk, hgr⟩ := ((HS.out.kept0 hAw5).mp).put HKK1.out (by have := HNN.out.1; omega) (M2, call)
          have b6 : Apart [G.M] w5 w6 := ap_grown hgr
          have hA6 : Apart [G.M] w w6 := (hAw5.mono (by simp)).trans b6
          have hnew : w.heap.size ≤ M2 := Nat.le_trans HAD.out.size hM2
          have HEN : Hid (∃ G', Ss w6 G' c nn rr pp lk (updF f key (es.map dotE, call)) (N + es.length + 1) ∧ Wp w w6 G G') := hid ⟨_, HS.out.seen hAw5 HKK1.out (show N ≤ N + es.length by omega) (y := (es.map dotE, call)) (hset.mono (by omega)) rfl (HUP.out trivial) (by simp; omega) hnew hmk hgr, ⟨rfl, hA6, fun j hj => Gs.has_new hnew hj⟩⟩
          unfold sgV at hrun
          clear hset hmk hgr b6 hM2 hnew
          try dsimp only
          refine hKK.out _ _ (hAw5.mono (by simp)) (fun hHeld => ?_)
          clear hKK KK
          try simp only [Act.put, List.setIfInBounds_toArray, List.set_cons_zero, List.set_cons_succ]
          refine wpAnyH_ready (rs := [8]) (by kernel_rfl) (by simp) ?_
          refine AllReadyH.cons rfl (fun KK hKK => ?_) AllReadyH.nil
          go_simp
          clear hrun
          refine hKK.out _ _ hA6 (fun hHeld => ?_)
          clear hKK KK
          try simp only [Act.put, List.setIfInBounds_toArray, List.set_cons_zero, List.set_cons_succ]
          refine wpAnyH_done (by kernel_rfl) ?_ _
          clear hHeld
          go_wp2_with fail
          go_ret
          exact ⟨rfl, fun hh => absurd rfl hh, fun _ => HEN.out⟩
end Go.Proofs.YtpddokbjjhbfgaaGreat.ds
