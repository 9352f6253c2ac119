import Derived.Test.YtpddokbjjhbfgaaGreatChecked
import Derived.WalkKit
import Derived.ProofKit
import Derived.Maps.OwnSet
import Derived.Maps.RangeWalk
import Derived.DeepKeys4
import Derived.MapViews
import Derived.StringKeys
import Derived.Lib.TrailingZeros
import Derived.OpenShut
import Derived.Deep.QuietTactic
import Derived.BigQuiet
import Derived.BigRegion
import Derived.Laws.CopyOwn
import Derived.Laws.Bits64b
import Derived.Laws.MathBits
import Derived.Laws.ShiftsVarLaws
import Derived.WalkSmall
import Derived.Laws.ResultCell
import Derived.Lib.BitFns
import Derived.Laws.StructEq
import Derived.Deep.RegionHeld
import Derived.ArgAppend
import Derived.Deep.RegionLaw
import Derived.Deep.DeepAppendRoom
import Derived.Sort.WalkA
import Derived.Laws.Strings
import Derived.Deep.CutBlock
import Derived.Great.BuildSlice
import Derived.Laws.BytesString
import Derived.Laws.AppendOwnNone
import Derived.Lib.Overlaps
import Derived.Lib.AppendZerosOnto
import Derived.Laws.NewBlocks
import Derived.Laws.Externs
import Derived.Laws.IdiomCopy
import Derived.RangeFuncNested
import Derived.RangeFuncBound
import Derived.RangeFuncCalls
import Derived.RangeFuncLeaves
import Derived.Shelf.Abstract
import Derived.Shelf.RegionOpen
import Derived.OwnWalkIn
import Derived.TacticsInMore
import Derived.LoopNIn
import Derived.LoopIn
import Derived.Deep.CutRange
import Derived.Deep.OwnRows
import Derived.Lib.Walk
import Derived.Lib.SliceRun
import GoSem.Claim
import GoSem.ClaimJoined
import GoSem.ClaimMapViews
import Derived.JoinedTies
import Derived.KernelRfl
import Derived.Lib.LaidTab
import Derived.JoinedCond
import Derived.ShutString
import Derived.ChangeOld
import Derived.Below
import Derived.Carry
import Derived.ChangeSlices
import Derived.Deep.Slices
import Derived.Deep.DeepHandedRow
import Derived.RowKit
import Derived.ChangeShapes
import Derived.SizedLaws
import Derived.ChangeMaps5
import Derived.OrdersHeld
import Derived.Lib.AppendStr
import Derived.Lib.ConvBytes
import Derived.Deep.RegionHeld3
import Derived.Deep.MidRow
import Derived.Laws.BitsAllLaws
import Derived.Sort.Grow
import Derived.Shelf.SlSortCmp.WholeK
import Derived.Shelf.Lay
import Derived.Ground.SlsfProg
import Derived.Sort.LotA
import Derived.Sort.MapsRangeIn
import Derived.RangeFuncSeq
import Derived.RangeFuncKeeps
import Derived.Maps.AppendAt
import Derived.OwnWalk
import Derived.Test.YtpddokbjjhbfgaaGreatRows
import Derived.Test.YtpddokbjjhbfgaaGreatU23
import Derived.Test.YtpddokbjjhbfgaaGreatU34
import Derived.Test.YtpddokbjjhbfgaaGreatU38
import Derived.Test.YtpddokbjjhbfgaaGreatU41
namespace Go.Proofs.YtpddokbjjhbfgaaGreat.ds
open Go.ChangeShapes Go.WideShapes Go.ChangeAt Go.RowKit Go.Sort
set_option linter.unusedVariables false
set_option linter.unusedSimpArgs false
theorem info151 : (Tryz.prog.info? 151).map (fun i => (i.zero, i.size, i.bytes)) = some (some (.agg #[.string ⟨#[]⟩, .slice none 0 0, .int .i64 0]), 3, 48) := by kernel_rfl
/-- the same world with no memory -/
def bare (w : World) : World := { w with heap := #[] }
theorem Nw.bare {w : World} {e size : Nat} {s : Sl} {us : List Value} (h : w.ownsRow 0 e size s.v s.n us) : Nw (ds.bare w) w e size s us := ⟨h, fun _ _ => Nat.zero_le _, rfl, rfl, rfl, Nat.zero_le _, fun k hk _ => by simp [ds.bare] at hk⟩
theorem appSn {w : World} {q : Sl} {g : List Sn} (h : w.ownsRow 0 151 3 q.v q.n (flSn g)) (x : Sn) (hl : g.length ≤ 2000000) :
    ∃ q' W', (Builtin.append_ #[114, 114] 114 #[.slice q.p q.n q.c, .slice (some ⟨w.heap.size, 0, none⟩) 1 1]).run Tryz.prog (w.alloc (Obj.cells #[.string x.k, .slice x.s.p x.s.n x.s.c, .int .i64 x.c] 151)) = .ok (.slice (Sl.p q') (Sl.n q') (Sl.c q')) W' ∧ W'.ownsRow 0 151 3 q'.v q'.n (flSn (g ++ [x])) ∧ Apart q.v.ownBlock.toList w W' ∧ ∀ k, q'.v.ownBlock = some k → (q.v.ownBlock = some k ∨ w.heap.size ≤ k) := by
  obtain ⟨i0, hi, hz0, hz1, hz2⟩ := info_parts info151
  have hn : q.n = g.length := by have := h.1; rw [flSn_len] at this; omega
  obtain ⟨s', W', hrun, r1, r2, r3, k, r4, -, r6⟩ := run_appM (s := q) 114 114 151 i0 _ 3 48 Tryz.underlying114 hi hz0 hz1 hz2 rfl (by decide) (Nw.bare h) 1 x.cs (by decide) rfl (fun u hu => flSn_one (g := [x]) (by simpa [flSn] using hu)) (by unfold maxLen; omega) (by omega)
  refine ⟨s', W', hrun, ?_, r3, fun j hj => ?_⟩
  · have e : flSn (g ++ [x]) = flSn g ++ x.cs := by simp [flSn]
    rw [e]
    exact r1.own
  · unfold Sl.v at hj
    rw [r4] at hj
    simp [Value.ownBlock] at hj
    rw [← hj]
    exact r6
theorem flSn_take (g : List Sn) (i : Nat) : (flSn g).take (i * 3) = flSn (g.take i) := by
  induction g generalizing i with
  | nil => simp [flSn]
  | cons x l ih =>
    cases i with
    | zero => simp [flSn]
    | succ i =>
      have e : flSn (x :: l) = x.cs ++ flSn l := by simp [flSn]
      have e2 : flSn ((x :: l).take (i + 1)) = x.cs ++ flSn (l.take i) := by simp [flSn]
      have h3 : x.cs.length = 3 := rfl
      rw [e, e2, List.take_append, h3, show (i + 1) * 3 - 3 = i * 3 by omega, ih, List.take_of_length_le (by omega)]
theorem flSn_drop (g : List Sn) (i : Nat) : (flSn g).drop (i * 3) = flSn (g.drop i) := by
  induction g generalizing i with
  | nil => simp [flSn]
  | cons x l ih =>
    cases i with
    | zero => simp [flSn]
    | succ i =>
      have e : flSn (x :: l) = x.cs ++ flSn l := by simp [flSn]
      have h3 : x.cs.length = 3 := rfl
      rw [e, List.drop_append, h3, show (i + 1) * 3 - 3 = i * 3 by omega, ih, List.drop_of_length_le (by omega)]
      simp
theorem flSn_set (g : List Sn) (i : Nat) (hi : i < g.length) (x : Sn) : flSn (g.set i x) = flSn (g.take i) ++ x.cs ++ flSn (g.drop (i + 1)) := by
  rw [List.set_eq_take_append_cons_drop, if_pos hi, flSn_append]
  simp [flSn, List.flatMap_cons]
theorem own_setSn {w : World} {q : Sl} {g : List Sn} (h : w.ownsRow 0 151 3 q.v q.n (flSn g)) {Q : Nat} (hq : q.v.ownBlock = some Q) {i : Nat} (hi : i < q.n) (x : Sn) : ((((w.setCell ⟨Q, i * 3, none⟩ (.string x.k)).setCell ⟨Q, i * 3 + 1, none⟩ (.slice x.s.p x.s.n x.s.c)).setCell ⟨Q, i * 3 + 2, none⟩ (.int .i64 x.c))).ownsRow 0 151 3 q.v q.n (flSn (g.set i x)) := by
  obtain ⟨hl, ⟨hv, hz⟩ | ⟨gB, cap, cur, hv, hb, hr, hle, hm, hs, ht⟩⟩ := h
  · omega
  have hgq : gB = Q := by rw [hv] at hq; simpa [Value.ownBlock] using hq
  subst hgq
  have hgl : g.length = q.n := by rw [flSn_len] at hl; omega
  have hset := heap_setCells_same (g := gB) (t := 151) x.cs (i * 3) w cur hr
  have hsp := spl_list x.cs (i * 3) cur.toList (by simp [Sn.cs]; omega)
  rw [Array.toArray_toList] at hsp
  refine ⟨by rw [flSn_len]; simp; omega, .inr ⟨gB, cap, _, hv, hb, hset, hle, hm, ?_, ?_⟩⟩
  · rw [hsp]
    simp [Sn.cs]
    omega
  · rw [hsp, flSn_set g i (by omega), ← flSn_take, ← flSn_drop, ← ht]
    have h3 : x.cs.length = 3 := rfl
    rw [h3]
    simp only [List.toList_toArray]
    rw [List.take_append, List.take_append, List.take_take, List.take_take]
    have e1 : min (q.n * 3) (i * 3) = i * 3 := by omega
    have e1' : min (i * 3) (q.n * 3) = i * 3 := by omega
    have e2 : ((cur.toList.take (i * 3)).length) = i * 3 := by simp; omega
    rw [e1, e1', List.length_append, e2, h3, List.take_of_length_le (l := x.cs) (by rw [h3]; omega), List.drop_take, show (i + 1) * 3 = i * 3 + 3 by omega]
theorem lookSn_snoc {g : List Sn} {x : Sn} (hno : ∀ j, j < g.length → keq (gSn g j).k x.k = false) {f : ByteArray → Sg} (hf : ∀ s : ByteArray, s.size ≤ maxLen → lookSn g s = f s) (s : ByteArray) (hs : s.size ≤ maxLen) : lookSn (g ++ [x]) s = updF f x.k (x.d, x.c) s := by
  unfold updF
  by_cases e : s = x.k
  · subst e
    rw [if_pos rfl]
    unfold lookSn
    rw [List.find?_append]
    have h0 : g.find? (fun y => keq y.k x.k) = none := by
      rw [List.find?_eq_none]
      intro y hy
      obtain ⟨i, hi, rfl⟩ := List.mem_iff_getElem.1 hy
      have := hno i hi
      unfold gSn at this
      rw [List.getD_eq_getElem?_getD, List.getElem?_eq_getElem hi] at this
      simpa using this
    rw [h0]
    simp [(keq_iff x.k x.k).2 rfl]
  · rw [if_neg e, ← hf s hs]
    unfold lookSn
    rw [List.find?_append]
    have h1 : keq x.k s = false := by
      cases h : keq x.k s
      · rfl
      · exact absurd ((keq_iff _ _).1 h).symm e
    cases g.find? (fun y => keq y.k s) with
    | some y => rfl
    | none => simp [h1]
theorem lookSn_set {g : List Sn} {x : Sn} {i : Nat} (hi : i < g.length) (hno : ∀ j, j < i → keq (gSn g j).k x.k = false) (hyes : keq (gSn g i).k x.k = true) {f : ByteArray → Sg} (hf : ∀ s : ByteArray, s.size ≤ maxLen → lookSn g s = f s) (s : ByteArray) (hs : s.size ≤ maxLen) : lookSn (g.set i x) s = updF f x.k (x.d, x.c) s := by
  unfold updF
  have hlen : (g.set i x).length = g.length := by simp
  have hsame : ∀ j, j ≠ i → gSn (g.set i x) j = gSn g j := fun j hj => by unfold gSn; rw [List.getD_eq_getElem?_getD, List.getD_eq_getElem?_getD, List.getElem?_set_ne (by omega)]
  have hat : gSn (g.set i x) i = x := by unfold gSn; rw [List.getD_eq_getElem?_getD, List.getElem?_set_self hi]; rfl
  by_cases e : s = x.k
  · subst e
    rw [if_pos rfl, lookSn_at (i := i) (by rw [hlen]; exact hi) (fun j hj => by rw [hsame j (by omega)]; exact hno j hj) (by rw [hat]; exact (keq_iff _ _).2 rfl), hat]
  · rw [if_neg e, ← hf s hs]
    have hgk : (gSn g i).k = x.k := (keq_iff _ _).1 hyes
    have hk : ∀ j, keq (gSn (g.set i x) j).k s = keq (gSn g j).k s := fun j => by
      by_cases hj : j = i
      · subst hj; rw [hat, hgk]
      · rw [hsame j hj]
    by_cases hex : ∃ j, j < g.length ∧ keq (gSn g j).k s = true
    · have hmin : ∃ j, (j < g.length ∧ keq (gSn g j).k s = true) ∧ ∀ m, m < j → ¬ (m < g.length ∧ keq (gSn g m).k s = true) := by
        obtain ⟨j, hj⟩ := hex
        induction j using Nat.strongRecOn with
        | ind j ih =>
          by_cases hm : ∃ m, m < j ∧ (m < g.length ∧ keq (gSn g m).k s = true)
          · obtain ⟨m, hm1, hm2⟩ := hm
            exact ih m hm1 hm2
          · exact ⟨j, hj, fun m hm1 hm2 => hm ⟨m, hm1, hm2⟩⟩
      obtain ⟨j, ⟨hj1, hj2⟩, hj3⟩ := hmin
      have hlow : ∀ m, m < j → keq (gSn g m).k s = false := fun m hm => by
        have := hj3 m hm
        cases hb : keq (gSn g m).k s
        · rfl
        · exact absurd ⟨by omega, hb⟩ this
      have hji : j ≠ i := fun h => by
        subst h
        have := (keq_iff _ _).1 hj2
        exact e (this.symm.trans hgk)
      rw [lookSn_at hj1 hlow hj2, lookSn_at (g := g.set i x) (i := j) (by rw [hlen]; exact hj1) (fun m hm => by rw [hk]; exact hlow m hm) (by rw [hk]; exact hj2), hsame j hji]
    · have hall : ∀ j, j < g.length → keq (gSn g j).k s = false := fun j hj => by
        cases hb : keq (gSn g j).k s
        · rfl
        · exact absurd ⟨j, hj, hb⟩ hex
      rw [lookSn_none hall, lookSn_none (g := g.set i x) (fun j hj => by rw [hk]; exact hall j (by rw [hlen] at hj; exact hj))]
/-- what put leaves -/
def PutP (w : World) (T : Ts) (c : Cf) (nn rr pp : Nat) (lk : List Int) (f : ByteArray → Sg) (N : Nat) (x : Sn) (w' : World) : Prop := ∃ T', Rs w' T' c nn rr pp lk (updF f x.k (x.d, x.c)) (N + 1) ∧ T'.S = T.S ∧ Apart (T.S :: T.q.v.ownBlock.toList) w w' ∧ ∀ j, T'.has j → T.has j ∨ w.heap.size ≤ j ∨ x.s.v.ownBlock = some j
end Go.Proofs.YtpddokbjjhbfgaaGreat.ds
namespace Go.Proofs.YtpddokbjjhbfgaaGreat.ds
open Go.ChangeShapes Go.WideShapes Go.ChangeAt Go.RowKit Go.Sort
set_option linter.unusedVariables false
set_option linter.unusedSimpArgs false
set_option maxHeartbeats 8000000 in
set_option maxRecDepth 100000 in
theorem rput_ok {w : World} {T : Ts} {c : Cf} {nn rr pp : Nat} {lk : List Int} {f : ByteArray → Sg} {N : Nat} (h : Rs w T c nn rr pp lk f N) (hN : N ≤ 2000000) (x : Sn) (hk : x.k.size ≤ maxLen) (hd : w.ownsRow 0 34 2 x.s.v x.s.n (flD x.d)) (hdl : x.d.length ≤ N + 1) : Calls Tryz.prog 93 #[.pointer (some ⟨T.S, 0, none⟩), .agg #[.string x.k, .slice x.s.p x.s.n x.s.c, .int .i64 x.c]] w fun r w' => r = .returned (.tuple #[]) ∧ PutP w T c nn rr pp lk f N x w' := by
  have HS := hid h
  have hqn : T.q.n ≤ 2000000 := by have := h.gn; have := h.sn; omega
  obtain ⟨B, HXB⟩ : ∃ X, Hid (X = w.heap.size) := ⟨_, hid rfl⟩
  obtain ⟨w1, hw1⟩ : ∃ V, V = w.alloc (.cells #[.string x.k, .slice x.s.p x.s.n x.s.c, .int .i64 x.c] 151) := ⟨_, rfl⟩
  have a1 : Apart [] w w1 := by rw [hw1]; exact (Apart.refl [] w).alloc _
  have hB1 : w1.heap[B]? = some (.cells #[.string x.k, .slice x.s.p x.s.n x.s.c, .int .i64 x.c] 151 (0, 0)) := by rw [hw1, HXB.out]; exact heap_alloc_new w _
  have HA1 := hid a1
  have HB1 := hid hB1
  have HNB : Hid (w.heap.size = B ∧ w1.heap.size = B + 1) := hid ⟨HXB.out.symm, by rw [hw1, HXB.out]; exact Array.size_push _⟩
  have HS1 := hid (h.kept0 a1)
  have HD1 : Hid (w1.ownsRow 0 34 2 x.s.v x.s.n (flD x.d)) := hid (own_same hd (fun k hk _ => a1.block k hk (by simp)))
  have HDL := hid hdl
  have HCE := hid HS1.out.cells
  have HTS : Hid (T.S < w.heap.size) := hid (lt_of_heap h.blk)
  have HKS := hid hk
  clear h a1 hB1 hk hd hdl
  go_enter Tryz.func93, Tryz.ntmps93
  go_upto_region 1 with fail
  rw [← hw1, ← HXB.out]
  clear hw1 HXB
  go_wp2_with fail
  go_loopw [4] (fun a wt => ∃ i : Nat, a = .int .i64 (i : Nat) ∧ i ≤ T.q.n ∧ Hid (Apart [] w1 wt ∧ ∀ j, j < i → keq (gSn T.g j).k x.k = false)) (fun a _ => T.q.n - (intOf a).toNat)
  case atStart => exact ⟨0, rfl, Nat.zero_le _, hid ⟨Apart.refl _ _, fun j hj => by omega⟩⟩
  case round =>
    obtain ⟨i, rfl, hile, HI⟩ := hrel
    obtain ⟨z0, z1, z9, z10, z11⟩ := HCE.out wr HI.out.1
    clear z0 z1 z9 z10
    by_cases hlt : i < T.q.n
    · have hlti : ((i : Nat) : Int) < ((T.q.n : Nat) : Int) := by omega
      obtain ⟨Q, hQp, hQo, hQl, hQc⟩ := HS1.out.entry hlt
      obtain ⟨y, Hy⟩ : ∃ y, Hid (y = gSn T.g i) := ⟨_, hid rfl⟩
      rw [← Hy.out] at hQc
      have HCW : Hid (∀ W, Apart [] w1 W → W.cell? ⟨T.S, 11, none⟩ = some (.slice (some ⟨Q, 0, none⟩) T.q.n T.q.c) ∧ W.cell? ⟨Q, i * 3, none⟩ = some (.string y.k) ∧ W.cell? ⟨B, 0, none⟩ = some (.string x.k)) := fun W a => ⟨by rw [← hQp]; exact (HCE.out W a).2.2.2.2, (hQc W a).1, crow (keep0 a HB1.out) 0 _ rfl⟩
      have HQP := hid hQp
      have HQO := hid hQo
      have HQL := hid hQl
      rw [hQp] at z11
      clear hQc hQo hQp hQl
      obtain ⟨b, Hb⟩ : ∃ b : Bool, Hid (b = keq y.k x.k) := ⟨_, hid rfl⟩
      have HKE : Hid ((y.k.toList == x.k.toList) = b) := hid (by rw [Hb.out]; rfl)
      go_upto_region 4 with fail
      clear z11
      go_cut [24] from 14 to 24 (fun s24 wx => s24 = .bool b ∧ Hid (Apart [] w1 wx))
      case first =>
        have hAd : Apart [] w1 wr.drew := HI.out.1.trans ((Apart.refl [] wr).drew)
        refine wp_region_held_drew (S := fun W => Apart [] w1 W) (by kernel_rfl) hAd (fun hHeld => ?_)
        generalize wr.drew = wd at *
        clear hAd
        refine tk 0 14 (.pointer (some ⟨T.S, 0, none⟩)) rfl ?_ ?_
        · intro W hSW; go_simp
        simp only [Act.put, List.setIfInBounds_toArray, List.set_cons_zero, List.set_cons_succ]
        refine tk 1 15 (.pointer (some ⟨T.S, 0, none⟩)) rfl ?_ ?_
        · intro W hSW; go_simp
        simp only [Act.put, List.setIfInBounds_toArray, List.set_cons_zero, List.set_cons_succ]
        refine tk 2 16 (.pointer (some ⟨T.S, 11, none⟩)) rfl ?_ ?_
        · intro W hSW; go_simp
        simp only [Act.put, List.setIfInBounds_toArray, List.set_cons_zero, List.set_cons_succ]
        refine tk 3 17 (.slice (some ⟨Q, 0, none⟩) T.q.n T.q.c) rfl ?_ ?_
        · intro W hSW; obtain ⟨u0, u1, u2⟩ := HCW.out W hSW; go_simp
        simp only [Act.put, List.setIfInBounds_toArray, List.set_cons_zero, List.set_cons_succ]
        refine tk 4 18 (.int .i64 (i : Nat)) rfl ?_ ?_
        · intro W hSW; go_simp
        simp only [Act.put, List.setIfInBounds_toArray, List.set_cons_zero, List.set_cons_succ]
        refine tk 5 19 (.pointer (some ⟨Q, i * 3, none⟩)) rfl ?_ ?_
        · intro W hSW; go_simp
        simp only [Act.put, List.setIfInBounds_toArray, List.set_cons_zero, List.set_cons_succ]
        refine tk 6 20 (.pointer (some ⟨Q, i * 3, none⟩)) rfl ?_ ?_
        · intro W hSW; go_simp
        simp only [Act.put, List.setIfInBounds_toArray, List.set_cons_zero, List.set_cons_succ]
        refine tk 7 21 (.string y.k) rfl ?_ ?_
        · intro W hSW; obtain ⟨u0, u1, u2⟩ := HCW.out W hSW; go_simp
        simp only [Act.put, List.setIfInBounds_toArray, List.set_cons_zero, List.set_cons_succ]
        refine tk 8 22 (.pointer (some ⟨B, 0, none⟩)) rfl ?_ ?_
        · intro W hSW; go_simp
        simp only [Act.put, List.setIfInBounds_toArray, List.set_cons_zero, List.set_cons_succ]
        refine tk 9 23 (.string x.k) rfl ?_ ?_
        · intro W hSW; obtain ⟨u0, u1, u2⟩ := HCW.out W hSW; go_simp
        simp only [Act.put, List.setIfInBounds_toArray, List.set_cons_zero, List.set_cons_succ]
        refine tk 10 24 (.bool b) rfl ?_ ?_
        · intro W hSW; have hke := HKE.out; go_simp
        simp only [Act.put, List.setIfInBounds_toArray, List.set_cons_zero, List.set_cons_succ]
        refine wpAnyH_done (by kernel_rfl) ?_ _
        have HZ := hid hHeld
        clear hHeld
        go_wp2_with fail
        go_meet
        exact ⟨rfl, HZ⟩
      obtain ⟨rfl, HC⟩ := hcut
      generalize wc = w2 at *
      cases b with
      | false =>
        have HE : Hid (Apart [] w1 w2 ∧ ∀ j, j < i + 1 → keq (gSn T.g j).k x.k = false) := hid ⟨HC.out, fun j hj => by
          by_cases hji : j = i
          · subst hji; rw [← Hy.out]; exact Hb.out.symm
          · exact HI.out.2 j (by omega)⟩
        go_wp2_with fail
        go_roundw
        case rel => exact ⟨i + 1, by go_num, by omega, HE⟩
        case measure => simp [intOf]; omega
      | true =>
        have hil : i < T.g.length := by rw [HS1.out.gn]; exact hlt
        have HS2 := hid (HS1.out.kept0 HC.out)
        have HD2 : Hid (w2.ownsRow 0 34 2 x.s.v x.s.n (flD x.d)) := hid (own_same HD1.out (fun k hk _ => HC.out.block k hk (by simp)))
        have HB2 := hid (keep0 HC.out HB1.out)
        have HQ2 : Hid (Q ≠ T.S ∧ Q ≠ B ∧ Q < w.heap.size) := by
          obtain ⟨cur, hcur⟩ := own_typ HS.out.se HQO.out
          refine hid ⟨fun e => ?_, ?_, lt_of_heap hcur⟩
          · rw [e, HS.out.blk] at hcur; simp at hcur
          · have := lt_of_heap hcur; have := HNB.out; omega
        have HAD : Hid (Apart [] w2 w2.drew) := (Apart.refl [] w2).drew
        go_upto_region 5 with fail
        have HS3 := hid (HS2.out.kept0 HAD.out)
        have HD3 : Hid (w2.drew.ownsRow 0 34 2 x.s.v x.s.n (flD x.d)) := hid (own_same HD2.out (fun k hk _ => HAD.out.block k hk (by simp)))
        have HB3 := hid (keep0 HAD.out HB2.out)
        have HA3 := hid ((HA1.out.trans HC.out).trans HAD.out)
        refine wp_region_held_drew (S := fun W => Apart [Q] w2.drew W) (by kernel_rfl) (Apart.refl _ _) (fun hHeld => ?_)
        generalize w2.drew = wd at *
        clear HAD
        have HCW2 : Hid (∀ W, Apart [Q] wd W → W.cell? ⟨T.S, 11, none⟩ = some (.slice (some ⟨Q, 0, none⟩) T.q.n T.q.c) ∧ W.cell? ⟨B, 0, none⟩ = some (.string x.k) ∧ W.cell? ⟨B, 1, none⟩ = some (.slice x.s.p x.s.n x.s.c) ∧ W.cell? ⟨B, 2, none⟩ = some (.int .i64 x.c)) := fun W a => by
          have b1 := keepB a HS3.out.blk HQ2.out.1.symm
          have b2 := keepB a HB3.out HQ2.out.2.1.symm
          exact ⟨by rw [← HQP.out]; exact crow b1 11 _ rfl, crow b2 0 _ rfl, crow b2 1 _ rfl, crow b2 2 _ rfl⟩
        refine tk 0 25 (.pointer (some ⟨T.S, 0, none⟩)) rfl ?_ ?_
        · intro W hSW; go_simp
        simp only [Act.put, List.setIfInBounds_toArray, List.set_cons_zero, List.set_cons_succ]
        refine tk 1 26 (.pointer (some ⟨T.S, 0, none⟩)) rfl ?_ ?_
        · intro W hSW; go_simp
        simp only [Act.put, List.setIfInBounds_toArray, List.set_cons_zero, List.set_cons_succ]
        refine tk 2 27 (.pointer (some ⟨T.S, 11, none⟩)) rfl ?_ ?_
        · intro W hSW; go_simp
        simp only [Act.put, List.setIfInBounds_toArray, List.set_cons_zero, List.set_cons_succ]
        refine tk 3 28 (.slice (some ⟨Q, 0, none⟩) T.q.n T.q.c) rfl ?_ ?_
        · intro W hSW; obtain ⟨u0, u1, u2, u3⟩ := HCW2.out W hSW; go_simp
        simp only [Act.put, List.setIfInBounds_toArray, List.set_cons_zero, List.set_cons_succ]
        refine tk 4 29 (.int .i64 (i : Nat)) rfl ?_ ?_
        · intro W hSW; go_simp
        simp only [Act.put, List.setIfInBounds_toArray, List.set_cons_zero, List.set_cons_succ]
        refine tk 5 30 (.agg #[.string x.k, .slice x.s.p x.s.n x.s.c, .int .i64 x.c]) rfl ?_ ?_
        · intro W hSW; obtain ⟨u0, u1, u2, u3⟩ := HCW2.out W hSW; go_simp
        simp only [Act.put, List.setIfInBounds_toArray, List.set_cons_zero, List.set_cons_succ]
        refine tk 6 31 (.pointer (some ⟨Q, i * 3, none⟩)) rfl ?_ ?_
        · intro W hSW; go_simp
        simp only [Act.put, List.setIfInBounds_toArray, List.set_cons_zero, List.set_cons_succ]
        have hso := own_setSn HS3.out.se HQO.out hlt x
        obtain ⟨⟨v0, hv0⟩, hf0⟩ := (show Ov wd Q 151 (T.q.n * 3) from ((Nw.bare HS3.out.se).ov HQP.out).1).cell (i := i * 3) (by omega)
        obtain ⟨⟨v1, hv1⟩, hf1⟩ := (show Ov wd Q 151 (T.q.n * 3) from ((Nw.bare HS3.out.se).ov HQP.out).1).cell (i := i * 3 + 1) (by omega)
        obtain ⟨⟨v2, hv2⟩, hf2⟩ := (show Ov wd Q 151 (T.q.n * 3) from ((Nw.bare HS3.out.se).ov HQP.out).1).cell (i := i * 3 + 2) (by omega)
        obtain ⟨w4, hw4⟩ : ∃ V, V = ((wd.setCell ⟨Q, i * 3, none⟩ (.string x.k)).setCell ⟨Q, i * 3 + 1, none⟩ (.slice x.s.p x.s.n x.s.c)).setCell ⟨Q, i * 3 + 2, none⟩ (.int .i64 x.c) := ⟨_, rfl⟩
        rw [← hw4] at hso
        have a4 : Apart [Q] wd w4 := by rw [hw4]; exact (((Apart.refl _ _).setCell (.inl (by simp)) _).setCell (.inl (by simp)) _).setCell (.inl (by simp)) _
        have hoff : ∀ k, k < wd.heap.size → k ≠ Q → w4.heap[k]? = wd.heap[k]? := fun k hk hne => a4.block k hk (by simp [hne])
        have hown : ∀ {e size n : Nat} {vv : Value} {xs : List Value}, wd.ownsRow 0 e size vv n xs → e ≠ 151 → w4.ownsRow 0 e size vv n xs := fun {e size n vv xs} ho he => own_same ho (fun k hk hb => hoff k hk (fun e2 => by
          obtain ⟨cur, hc⟩ := own_typ ho hb
          obtain ⟨cu2, hc2⟩ := own_typ HS3.out.se HQO.out
          rw [e2, hc2] at hc
          simp at hc
          exact he hc.2.symm))
        have HE : Hid (PutP w T c nn rr pp lk f N x w4) := by
          refine hid ⟨⟨T.S, T.R, T.l, T.q, T.g.set i x⟩, { HS3.out with
            blk := keepB a4 HS3.out.blk HQ2.out.1.symm
            ring := Rg_same HS3.out.ring (hoff _ HS3.out.ring.lt (fun e => HS3.out.rs.2 (by rw [e]; exact HQO.out)))
            li := hown HS3.out.li (by decide)
            se := hso
            sn := by simp; have := HS3.out.sn; omega
            hd := fun y hy => ?_
            fe := fun s hs => lookSn_set hil HI.out.2 (by rw [← Hy.out]; exact Hb.out.symm) HS3.out.fe s hs }, rfl, HA3.out.mono (by simp) |>.trans (a4.mono (by rw [HQO.out]; simp)), fun j hj => ?_⟩
          · rcases List.mem_or_eq_of_mem_set hy with h | h
            · exact ⟨hown (HS3.out.hd y h).1 (by decide), Nat.le_trans (HS3.out.hd y h).2 (by omega)⟩
            · rw [h]; exact ⟨hown HD3.out (by decide), HDL.out⟩
          · rcases hj with h | h | h | h | ⟨y, hy, h⟩
            · exact .inl (.inl h)
            · exact .inl (.inr (.inl h))
            · exact .inl (.inr (.inr (.inl h)))
            · exact .inl (.inr (.inr (.inr (.inl h))))
            · rcases List.mem_or_eq_of_mem_set hy with h2 | h2
              · exact .inl (.inr (.inr (.inr (.inr ⟨y, h2, h⟩))))
              · rw [h2] at h; exact .inr (.inr h)
        clear hso hoff hown
        refine wpAnyH_ready (rs := [7]) (by kernel_rfl) (by simp) ?_
        refine AllReadyH.cons rfl (fun KK hKK => ?_) AllReadyH.nil
        go_simp
        rw [← hw4]
        clear hw4
        refine hKK.out _ _ a4 (fun hHeld => ?_)
        clear hKK KK
        try simp only [Act.put, List.setIfInBounds_toArray, List.set_cons_zero, List.set_cons_succ]
        refine wpAnyH_done (by kernel_rfl) ?_ _
        clear hHeld a4
        go_wp2_with fail
        first
        | (refine bodyPost_end (results_none rfl _ _ _) rfl ?_; exact ⟨rfl, HE.out⟩)
        | (refine bodyPost_ret (results_none rfl _ _ _) rfl ?_; exact ⟨rfl, HE.out⟩)
    · have hlti : ¬ ((i : Nat) : Int) < ((T.q.n : Nat) : Int) := by omega
      have HNO : Hid (∀ j, j < T.g.length → keq (gSn T.g j).k x.k = false) := hid (fun j hj => HI.out.2 j (by have := HS.out.gn; omega))
      go_upto_region 6 with fail
      clear z11
      have HAD : Hid (Apart [] wr wr.drew) := (Apart.refl [] wr).drew
      have HAW := hid (HI.out.1.trans HAD.out)
      have HS3 := hid (HS1.out.kept0 HAW.out)
      have HD3 : Hid (wr.drew.ownsRow 0 34 2 x.s.v x.s.n (flD x.d)) := hid (own_same HD1.out (fun k hk _ => HAW.out.block k hk (by simp)))
      have HB3 := hid (keep0 HAW.out HB1.out)
      have HA3 := hid (HA1.out.trans HAW.out)
      refine wp_region_held_drew (S := fun W => Apart (T.S :: T.q.v.ownBlock.toList) wr.drew W) (by kernel_rfl) (Apart.refl _ _) (fun hHeld => ?_)
      generalize wr.drew = wd at *
      clear HAD HI
      have HQ : Hid (∀ k, T.q.v.ownBlock = some k → k ≠ T.S ∧ k ≠ B ∧ k < w.heap.size) := hid (fun k hk => by
        obtain ⟨cur, hcur⟩ := own_typ HS.out.se hk
        refine ⟨fun e => ?_, ?_, lt_of_heap hcur⟩
        · rw [e, HS.out.blk] at hcur; simp at hcur
        · have := lt_of_heap hcur; have := HNB.out; omega)
      have HBS : Hid (B ≠ T.S) := hid (by have := HTS.out; have := HNB.out; omega)
      have HCW3 : Hid (∀ W, Apart (T.S :: T.q.v.ownBlock.toList) wd W → W.cell? ⟨B, 0, none⟩ = some (.string x.k) ∧ W.cell? ⟨B, 1, none⟩ = some (.slice x.s.p x.s.n x.s.c) ∧ W.cell? ⟨B, 2, none⟩ = some (.int .i64 x.c)) := fun W a => by
        have b2 : W.heap[B]? = some (.cells #[.string x.k, .slice x.s.p x.s.n x.s.c, .int .i64 x.c] 151 (0, 0)) := (a.block B (lt_of_heap HB3.out) (by
          simp only [List.mem_cons, not_or]
          exact ⟨HBS.out, fun hm => (HQ.out B (by simpa using hm)).2.1 rfl⟩)).trans HB3.out
        exact ⟨crow b2 0 _ rfl, crow b2 1 _ rfl, crow b2 2 _ rfl⟩
      refine tk 0 32 (.pointer (some ⟨T.S, 0, none⟩)) rfl ?_ ?_
      · intro W hSW; go_simp
      simp only [Act.put, List.setIfInBounds_toArray, List.set_cons_zero, List.set_cons_succ]
      refine tk 1 33 (.pointer (some ⟨T.S, 0, none⟩)) rfl ?_ ?_
      · intro W hSW; go_simp
      simp only [Act.put, List.setIfInBounds_toArray, List.set_cons_zero, List.set_cons_succ]
      refine tk 2 34 (.pointer (some ⟨T.S, 0, none⟩)) rfl ?_ ?_
      · intro W hSW; go_simp
      simp only [Act.put, List.setIfInBounds_toArray, List.set_cons_zero, List.set_cons_succ]
      refine tk 3 35 (.pointer (some ⟨T.S, 11, none⟩)) rfl ?_ ?_
      · intro W hSW; go_simp
      simp only [Act.put, List.setIfInBounds_toArray, List.set_cons_zero, List.set_cons_succ]
      refine tk 5 37 (.agg #[.string x.k, .slice x.s.p x.s.n x.s.c, .int .i64 x.c]) rfl ?_ ?_
      · intro W hSW; obtain ⟨u0, u1, u2⟩ := HCW3.out W hSW; go_simp
      simp only [Act.put, List.setIfInBounds_toArray, List.set_cons_zero, List.set_cons_succ]
      obtain ⟨q', w7, hrun, hso, hap7, hq'⟩ := appSn HS3.out.se x (by have := HS.out.sn; omega)
      have HRUN := hid hrun
      have hS7 : w7.heap[T.S]? = some (.cells (refA c T.R T.l T.q) 116 (0, 0)) := (hap7.block _ (lt_of_heap HS3.out.blk) (fun hm => (HQ.out T.S (by simpa using hm)).1 rfl)).trans HS3.out.blk
      have hA7 : Apart (T.S :: T.q.v.ownBlock.toList) wd w7 := hap7.mono (fun y hy => List.mem_cons_of_mem _ hy)
      have z7 := crow hS7 11 (.slice T.q.p T.q.n T.q.c) rfl
      have f7 := frozen_of_row _ _ 11 _ _ hS7
      obtain ⟨w8, hw8⟩ : ∃ V, V = w7.setCell ⟨T.S, 11, none⟩ (.slice q'.p q'.n q'.c) := ⟨_, rfl⟩
      have a8 : Apart [T.S] w7 w8 := by rw [hw8]; exact (Apart.refl _ _).setCell (.inl (by simp)) _
      have hS8 : w8.heap[T.S]? = some (.cells (refA c T.R T.l q') 116 (0, 0)) := by rw [hw8]; have := heap_setCell_same w7 T.S 11 _ 116 (.slice q'.p q'.n q'.c) hS7; simpa using this
      have hA8 : Apart (T.S :: T.q.v.ownBlock.toList) wd w8 := hA7.trans (a8.mono (by simp))
      have hoff : ∀ k, k < wd.heap.size → k ≠ T.S → T.q.v.ownBlock ≠ some k → w8.heap[k]? = wd.heap[k]? := fun k hk h1 h2 => hA8.block k hk (by
        simp only [List.mem_cons, not_or]
        exact ⟨h1, fun hm => h2 (by simpa using hm)⟩)
      have hown : ∀ {e size n : Nat} {vv : Value} {xs : List Value}, wd.ownsRow 0 e size vv n xs → e ≠ 151 → e ≠ 116 → w8.ownsRow 0 e size vv n xs := fun {e size n vv xs} ho he he2 => own_same ho (fun k hk hb => by
        obtain ⟨cur, hc⟩ := own_typ ho hb
        refine hoff k hk (fun e2 => ?_) (fun e2 => ?_)
        · rw [e2, HS3.out.blk] at hc
          simp at hc
          exact he2 hc.2.symm
        · obtain ⟨cu2, hc2⟩ := own_typ HS3.out.se e2
          rw [hc2] at hc
          simp at hc
          exact he hc.2.symm)
      have hso8 : w8.ownsRow 0 151 3 q'.v q'.n (flSn (T.g ++ [x])) := own_same hso (fun k hk hb => a8.block k hk (by
        simp
        intro e
        obtain ⟨cur, hc⟩ := own_typ hso hb
        rw [e, hS7] at hc
        simp at hc))
      have hwd : w.heap.size ≤ wd.heap.size := HA3.out.size
      have HE : Hid (PutP w T c nn rr pp lk f N x w8) := by
        refine hid ⟨⟨T.S, T.R, T.l, q', T.g ++ [x]⟩, { HS3.out with
          blk := hS8
          ring := Rg_same HS3.out.ring (hoff _ HS3.out.ring.lt HS3.out.rs.1 HS3.out.rs.2)
          rs := ⟨HS3.out.rs.1, fun e => by
            rcases hq' _ e with h | h
            · exact HS3.out.rs.2 h
            · have h3 : T.R < wd.heap.size := HS3.out.ring.lt
              have h4 : wd.heap.size ≤ T.R := h
              omega⟩
          li := hown HS3.out.li (by decide) (by decide)
          se := hso8
          sn := by simp; exact HS3.out.sn
          hd := fun y hy => ?_
          fe := fun s hs => lookSn_snoc HNO.out HS3.out.fe s hs }, rfl, (HA3.out.mono (by simp)).trans hA8, fun j hj => ?_⟩
        · rcases List.mem_append.1 hy with h | h
          · exact ⟨hown (HS3.out.hd y h).1 (by decide) (by decide), Nat.le_trans (HS3.out.hd y h).2 (by omega)⟩
          · simp at h; rw [h]; exact ⟨hown HD3.out (by decide) (by decide), HDL.out⟩
        · rcases hj with h | h | h | h | ⟨y, hy, h⟩
          · exact .inl (.inl h)
          · exact .inl (.inr (.inl h))
          · exact .inl (.inr (.inr (.inl h)))
          · rcases hq' j h with h2 | h2
            · exact .inl (.inr (.inr (.inr (.inl h2))))
            · exact .inr (.inl (by omega))
          · rcases List.mem_append.1 hy with h2 | h2
            · exact .inl (.inr (.inr (.inr (.inr ⟨y, h2, h⟩))))
            · simp at h2; rw [h2] at h; exact .inr (.inr h)
      have aL : Apart [] wd (wd.alloc (Obj.cells #[.string x.k, .slice x.s.p x.s.n x.s.c, .int .i64 x.c] 151)) := (Apart.refl [] wd).alloc _
      have z1 := crow HS3.out.blk 11 (.slice T.q.p T.q.n T.q.c) rfl
      have z2 := crow (keep0 aL HS3.out.blk) 11 (.slice T.q.p T.q.n T.q.c) rfl
      have hAL : Apart (T.S :: T.q.v.ownBlock.toList) wd (wd.alloc (Obj.cells #[.string x.k, .slice x.s.p x.s.n x.s.c, .int .i64 x.c] 151)) := aL.mono (by simp)
      clear hrun hso hap7 hq' hS7 a8 hS8 hoff hown hso8 aL hwd
      refine wpAnyH_ready (rs := [4, 6]) (by kernel_rfl) (by simp) ?_
      refine AllReadyH.cons rfl (fun KK hKK => ?_) (AllReadyH.cons rfl (fun KK hKK => ?_) AllReadyH.nil)
      · skip
        go_simp
        refine hKK.out _ _ hHeld (fun hHeld => ?_)
        clear hKK KK
        try simp only [Act.put, List.setIfInBounds_toArray, List.set_cons_zero, List.set_cons_succ]
        refine wpAnyH_ready (rs := [6]) (by kernel_rfl) (by simp) ?_
        refine AllReadyH.cons rfl (fun KK hKK => ?_) AllReadyH.nil
        go_simp
        refine hKK.out _ _ hAL (fun hHeld => ?_)
        clear hKK KK
        try simp only [Act.put, List.setIfInBounds_toArray, List.set_cons_zero, List.set_cons_succ]
        refine wpAnyH_ready (rs := [7]) (by kernel_rfl) (by simp) ?_
        refine AllReadyH.cons rfl (fun KK hKK => ?_) AllReadyH.nil
        refine step_app2 (o := ⟨some 39, _, _, _, _, _⟩) rfl (.tmp 36) (.tmp 38) 114 114 rfl _ _ rfl rfl _ _ HRUN.out ?_
        refine hKK.out _ _ hA7 (fun hHeld => ?_)
        clear hKK KK
        try simp only [Act.put, List.setIfInBounds_toArray, List.set_cons_zero, List.set_cons_succ]
        refine tk 8 40 (.pointer (some ⟨T.S, 0, none⟩)) rfl ?_ ?_
        · intro W hSW; go_simp
        simp only [Act.put, List.setIfInBounds_toArray, List.set_cons_zero, List.set_cons_succ]
        refine tk 9 41 (.pointer (some ⟨T.S, 11, none⟩)) rfl ?_ ?_
        · intro W hSW; go_simp
        simp only [Act.put, List.setIfInBounds_toArray, List.set_cons_zero, List.set_cons_succ]
        refine wpAnyH_ready (rs := [10]) (by kernel_rfl) (by simp) ?_
        refine AllReadyH.cons rfl (fun KK hKK => ?_) AllReadyH.nil
        go_simp
        rw [← hw8]
        clear hw8
        refine hKK.out _ _ hA8 (fun hHeld => ?_)
        clear hKK KK
        try simp only [Act.put, List.setIfInBounds_toArray, List.set_cons_zero, List.set_cons_succ]
        refine wpAnyH_done (by kernel_rfl) ?_ _
        clear hHeld
        go_wp2_with fail
        first
        | (refine bodyPost_end (results_none rfl _ _ _) rfl ?_; exact ⟨rfl, HE.out⟩)
        | (refine bodyPost_ret (results_none rfl _ _ _) rfl ?_; exact ⟨rfl, HE.out⟩)
      · skip
        go_simp
        refine hKK.out _ _ hAL (fun hHeld => ?_)
        clear hKK KK
        try simp only [Act.put, List.setIfInBounds_toArray, List.set_cons_zero, List.set_cons_succ]
        refine wpAnyH_ready (rs := [4]) (by kernel_rfl) (by simp) ?_
        refine AllReadyH.cons rfl (fun KK hKK => ?_) AllReadyH.nil
        go_simp
        refine hKK.out _ _ hAL (fun hHeld => ?_)
        clear hKK KK
        try simp only [Act.put, List.setIfInBounds_toArray, List.set_cons_zero, List.set_cons_succ]
        refine wpAnyH_ready (rs := [7]) (by kernel_rfl) (by simp) ?_
        refine AllReadyH.cons rfl (fun KK hKK => ?_) AllReadyH.nil
        refine step_app2 (o := ⟨some 39, _, _, _, _, _⟩) rfl (.tmp 36) (.tmp 38) 114 114 rfl _ _ rfl rfl _ _ HRUN.out ?_
        refine hKK.out _ _ hA7 (fun hHeld => ?_)
        clear hKK KK
        try simp only [Act.put, List.setIfInBounds_toArray, List.set_cons_zero, List.set_cons_succ]
        refine tk 8 40 (.pointer (some ⟨T.S, 0, none⟩)) rfl ?_ ?_
        · intro W hSW; go_simp
        simp only [Act.put, List.setIfInBounds_toArray, List.set_cons_zero, List.set_cons_succ]
        refine tk 9 41 (.pointer (some ⟨T.S, 11, none⟩)) rfl ?_ ?_
        · intro W hSW; go_simp
        simp only [Act.put, List.setIfInBounds_toArray, List.set_cons_zero, List.set_cons_succ]
        refine wpAnyH_ready (rs := [10]) (by kernel_rfl) (by simp) ?_
        refine AllReadyH.cons rfl (fun KK hKK => ?_) AllReadyH.nil
        go_simp
        rw [← hw8]
        clear hw8
        refine hKK.out _ _ hA8 (fun hHeld => ?_)
        clear hKK KK
        try simp only [Act.put, List.setIfInBounds_toArray, List.set_cons_zero, List.set_cons_succ]
        refine wpAnyH_done (by kernel_rfl) ?_ _
        clear hHeld
        go_wp2_with fail
        first
        | (refine bodyPost_end (results_none rfl _ _ _) rfl ?_; exact ⟨rfl, HE.out⟩)
        | (refine bodyPost_ret (results_none rfl _ _ _) rfl ?_; exact ⟨rfl, HE.out⟩)
end Go.Proofs.YtpddokbjjhbfgaaGreat.ds
namespace Go.Proofs.YtpddokbjjhbfgaaGreat.ds
theorem core15 : True := trivial -- Apart.below Aq Aq.grown BegP Bf Bf.cap Bf.keepT Bf.kept Bf.nil Cf.a GotP Gs Gs.has Gs.has_new HdAt HdAt.kept0 HdOk HdOk.mono L0 LendP Lk.app1 Lm Ln Ln.keepT Ln.kept MapK.mono Mk NewP NewP.ret NextP Nw.bare Nw.blk Nw.none0 Nw.off Nw.ov Nw.own_p Nx Ob_ird OfP Ov Ov.cell Ov.off Ov.set PutP RHd RNewP.ret RNewP.rs Rd.pre Rd_dot Rg_same Rs Rs.cells Rs.entry Rs.gn Rs.kept Rs.kept0 Rs.ln Rs.mono Sg Sn Sn.cs Sn.z SpP Sps Sps.L Sps.cap Sps.keepT Sps.kept Sps.nil Sps.off Sps.pre SqP SqS Ss Ss.SL Ss.cells Ss.gl Ss.hdAt Ss.kept Ss.kept0 Ss.mono Ss.notM Ss.relike Ss.seen TK TK.block TK.nw TK.own TK.size TK.trans Tp Ts Ts.has UpD UpD.nodup Wp WroteP Ws Ws.kept0 Ws0 alive_ok ap9 appD appI appSn app_byte app_span appendSeq_gen appendSeq_ok ar areOf_ok areR areR0 areR_no areR_up back_ok bare begun_ok belowD below_ok bit1 bl_bit byts_app c0 c23 c3 cfgC cfgC_ok collect_ok config_ok contains55_ok crow d5right_ok dright_ok dset_ok dtop_ok e0 failL failL_filter failL_perm failed_ok find_first flD flD_len flSn flSn_append flSn_drop flSn_get flSn_len flSn_one flSn_set flSn_take flat_snoc gSn gSn_mem got0 gotE got_c got_ok heads_ok heap_setCells_same hid hz1 idxO in64_wf index55_ok info151 info27 infoD insP_up insertion_nil kc kc_key kc_pref kc_sz keep0 keepB keys_ok keys_stops_none kkey kkey_key laidOut len81_ok lend_ok like43 likeL likeL_mem likeL_nodup likeL_succ likeN likeN_ok lookSn lookSn_at lookSn_none lookSn_set lookSn_snoc ltD member_ok mk7 mkS mod_succ_bit mostI new_arg new_node new_ok news_bad news_good news_walk next_ok noPanic noPanic_of of_ok okI okl_b open_il open_start ord_below ord_nodup own_ird own_same own_setSn pdq_nil permIn_of prefK pref_ex ptr0 put9 r5R r9_eq ra rchk_ok refA rest2 results_tmp_row rfailed_ok rheads_ok rnew_arg rnew_node rnext_ok row2v row3v row9 rowv6 rput_ok rset_ok rtoken_ok sameD_yes sameS_yes sesA setR setR1 shr_mod slz sortD_ok sort_nil sortedFunc_ok sortedIn_of spansL_ok spl spl_all spl_list srt_up step_store_mid strB_size strB_snoc take_nat token_ok updF upd_c wiI wiI_lo within_ok wpListIn_app2 wpList_cutat wr0 wroteH wroteH1 wroteH_len wroteH_mem wroteH_up wrote_ok cfg_nat RowAt open_int DataW trod_struct Reads OwnE FL Fresh app_any run_appM Nw keepT conv_bytes rowv6 gE flatE Sp of_rd L kept0 okl_b open_ints wpAnyH_pass wpList_cutat run_appNil Ws0 L0 open_start open_il
end Go.Proofs.YtpddokbjjhbfgaaGreat.ds
