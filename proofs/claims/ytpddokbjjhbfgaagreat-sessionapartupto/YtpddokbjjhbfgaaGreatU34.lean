import Derived.Test.YtpddokbjjhbfgaaGreatChecked
import Derived.WalkKit
import Derived.ProofKit
import Derived.Maps.OwnSet
import Derived.Maps.RangeWalk
import Derived.DeepKeys4
import Derived.MapViews
import Derived.StringKeys
import Derived.Lib.TrailingZeros
import Derived.OpenShut
import Derived.Deep.QuietTactic
import Derived.BigQuiet
import Derived.BigRegion
import Derived.Laws.CopyOwn
import Derived.Laws.Bits64b
import Derived.Laws.MathBits
import Derived.Laws.ShiftsVarLaws
import Derived.WalkSmall
import Derived.Laws.ResultCell
import Derived.Lib.BitFns
import Derived.Laws.StructEq
import Derived.Deep.RegionHeld
import Derived.ArgAppend
import Derived.Deep.RegionLaw
import Derived.Deep.DeepAppendRoom
import Derived.Sort.WalkA
import Derived.Laws.Strings
import Derived.Deep.CutBlock
import Derived.Great.BuildSlice
import Derived.Laws.BytesString
import Derived.Laws.AppendOwnNone
import Derived.Lib.Overlaps
import Derived.Lib.AppendZerosOnto
import Derived.Laws.NewBlocks
import Derived.Laws.Externs
import Derived.Laws.IdiomCopy
import Derived.RangeFuncNested
import Derived.RangeFuncBound
import Derived.RangeFuncCalls
import Derived.RangeFuncLeaves
import Derived.Shelf.Abstract
import Derived.Shelf.RegionOpen
import Derived.OwnWalkIn
import Derived.TacticsInMore
import Derived.LoopNIn
import Derived.LoopIn
import Derived.Deep.CutRange
import Derived.Deep.OwnRows
import Derived.Lib.Walk
import Derived.Lib.SliceRun
import GoSem.Claim
import GoSem.ClaimJoined
import GoSem.ClaimMapViews
import Derived.JoinedTies
import Derived.KernelRfl
import Derived.Lib.LaidTab
import Derived.JoinedCond
import Derived.ShutString
import Derived.ChangeOld
import Derived.Below
import Derived.Carry
import Derived.ChangeSlices
import Derived.Deep.Slices
import Derived.Deep.DeepHandedRow
import Derived.RowKit
import Derived.ChangeShapes
import Derived.SizedLaws
import Derived.ChangeMaps5
import Derived.OrdersHeld
import Derived.Lib.AppendStr
import Derived.Lib.ConvBytes
import Derived.Deep.RegionHeld3
import Derived.Deep.MidRow
import Derived.Laws.BitsAllLaws
import Derived.Sort.Grow
import Derived.Shelf.SlSortCmp.WholeK
import Derived.Shelf.Lay
import Derived.Ground.SlsfProg
import Derived.Sort.LotA
import Derived.Sort.MapsRangeIn
import Derived.RangeFuncSeq
import Derived.RangeFuncKeeps
import Derived.Maps.AppendAt
import Derived.OwnWalk
import Derived.Test.YtpddokbjjhbfgaaGreatRows
import Derived.Test.YtpddokbjjhbfgaaGreatU33
namespace Go.Proofs.YtpddokbjjhbfgaaGreat.ds
open Go.ChangeShapes Go.WideShapes Go.ChangeAt Go.RowKit Go.Sort
set_option linter.unusedVariables false
set_option linter.unusedSimpArgs false
theorem failL_filter {lk : List Int} (hd : lk.Nodup) {v : Int} (hm : v ∈ lk) : failL lk v = lk.filter (fun x => decide (x ≠ v)) ++ [v] := by
  unfold failL
  rw [if_pos hm]
  congr 1
  have e1 : lk.take (lk.idxOf v) ++ lk.drop (lk.idxOf v + 1) = lk.eraseIdx (lk.idxOf v) := (List.eraseIdx_eq_take_drop_succ _ _).symm
  rw [e1, ← List.erase_eq_eraseIdx_of_idxOf rfl, hd.erase_eq_filter]
  apply List.filter_congr
  intro x _
  by_cases hx : x = v <;> simp [hx]
/-- what a call of the document's session that writes leaves -/
structure Tp (w w' : World) (T T' : Ts) : Prop where
  S : T'.S = T.S
  ap : Apart (T.S :: T.q.v.ownBlock.toList) w w'
  new : ∀ j, T'.has j → T.has j ∨ w.heap.size ≤ j
set_option maxHeartbeats 4000000 in
set_option maxRecDepth 100000 in
theorem rfailed_ok {w : World} {T : Ts} {c : Cf} {nn rr pp : Nat} {lk : List Int} {f : ByteArray → Sg} {N : Nat} (h : Rs w T c nn rr pp lk f N) (hn8 : nn ≤ 8) (hd : lk.Nodup) (hm : ∀ v : Int, v ∈ lk ↔ 0 ≤ v ∧ v < nn) (v : Int) : Calls Tryz.prog 65 #[.pointer (some ⟨T.S, 0, none⟩), .int .i64 v] w fun r w' => r = .returned (.tuple #[]) ∧ ∃ T', Rs w' T' c nn rr pp (failL lk v) f N ∧ Tp w w' T T' := by
  have HS := hid h
  obtain ⟨z0, z1, z9, z10, z11⟩ := h.cells w (Apart.refl _ _)
  have hln := h.ln
  by_cases hv : 0 ≤ v ∧ v < nn
  · have hml : v ∈ lk := (hm v).2 hv
    have HF : Hid (failL lk v = lk.filter (fun x => decide (x ≠ v)) ++ [v]) := hid (failL_filter hd hml)
    have HP : Hid ((failL lk v).Perm lk) := hid (failL_perm lk v)
    have b1 : ¬ v < 0 := by omega
    have b2 : ¬ v ≥ (nn : Int) := by omega
    have HLI := hid (own_ird h.li)
    obtain ⟨L0, lo, hL0, hLl, hLc⟩ := HLI.out.rd (by have := h.ring.n1; omega)
    have HLL := hid HLI.out.len
    rw [hln] at HLL
    have HLC := hid hLc
    rw [hL0, hln] at z10
    clear hv hml hd hm z1 z9 z11 hLc hL0 h
    go_enter Tryz.func65, Tryz.ntmps65
    go_wp2_with fail
    go_loopw [4, 5] (fun a b wt => ∃ (i : Nat) (s : Sl), a = .slice s.p s.n s.c ∧ b = .int .i64 (i : Nat) ∧ i ≤ nn ∧ Hid (Nw w wt 3 1 s (iV ((lk.take i).filter (fun x => decide (x ≠ v)))))) (fun _ b _ => nn - (intOf b).toNat)
    case atStart => exact ⟨0, slz, rfl, rfl, Nat.zero_le _, hid (Nw.none0 (Apart.refl _ _) _ _)⟩
    case round =>
      obtain ⟨i, s, rfl, rfl, hile, HI⟩ := hrel
      have y10 := (HI.out.ap.cell (block_lt_of_cell z10) (by simp)).trans z10
      by_cases hlt : i < nn
      · have hlti : ((i : Nat) : Int) < ((nn : Nat) : Int) := by omega
        have hil : i < lk.length := by rw [HLL.out]; exact hlt
        obtain ⟨x, Hx⟩ : ∃ x : Int, Hid (x = lk[i]) := ⟨_, hid rfl⟩
        have cx := HLC.out i hil
        rw [← Hx.out] at cx
        have cy := (HI.out.ap.cell (block_lt_of_cell cx) (by simp)).trans cx
        have HTK : Hid (lk.take (i + 1) = lk.take i ++ [x]) := hid (by rw [List.take_add_one, List.getElem?_eq_getElem hil, Hx.out]; rfl)
        clear cx
        by_cases hxv : x = v
        · have hb : (x != v) = false := by simp [hxv]
          have HE : Hid (Nw w wr 3 1 s (iV ((lk.take (i + 1)).filter (fun x => decide (x ≠ v))))) := by
            rw [HTK.out, List.filter_append]
            simp only [List.filter_cons, hxv]
            simpa using HI
          clear hxv
          go_wp2_with fail
          go_roundw
          case rel => exact ⟨i + 1, s, rfl, by go_num, by omega, HE⟩
          case measure => simp [intOf]; omega
        · have hb : (x != v) = true := by simp [hxv]
          obtain ⟨s2, w2, hrun, hn2, ha2⟩ := appI HI.out x (by have h1 := List.length_filter_le (fun x => decide (x ≠ v)) (lk.take i); have h2 := List.length_take_le i lk; omega)
          have HRUN := hid hrun
          have HE : Hid (Nw w w2 3 1 s2 (iV ((lk.take (i + 1)).filter (fun x => decide (x ≠ v))))) := by
            rw [HTK.out, List.filter_append]
            have e : [x].filter (fun x => decide (x ≠ v)) = [x] := by simp [hxv]
            rw [e]
            exact hid hn2
          clear hxv hrun hn2 ha2
          go_wp2_with (at_builtin; refine wpList_app2 rfl (.tmp 35) (.tmp 43) 54 54 rfl _ _ rfl rfl _ _ HRUN.out ?_)
          go_roundw
          case rel => exact ⟨i + 1, s2, rfl, by go_num, by omega, HE⟩
          case measure => simp [intOf]; omega
      · have hlti : ¬ ((i : Nat) : Int) < ((nn : Nat) : Int) := by omega
        have HJ : Hid (Nw w wr 3 1 s (iV (lk.filter (fun x => decide (x ≠ v))))) := by
          have := HI.out
          rw [List.take_of_length_le (by rw [HLL.out]; omega)] at this
          exact hid this
        obtain ⟨s2, w2, hrun, hn2, ha2⟩ := appI HJ.out v (by have h1 := List.length_filter_le (fun x => decide (x ≠ v)) lk; have := HLL.out; omega)
        have HRUN := hid hrun
        rw [← HF.out] at hn2
        have hS2 : w2.heap[T.S]? = some (.cells (refA c T.R T.l T.q) 116 (0, 0)) := keep0 hn2.ap HS.out.blk
        have z7 := crow hS2 10 (.slice T.l.p T.l.n T.l.c) rfl
        have f7 := frozen_of_row _ _ 10 _ _ hS2
        obtain ⟨w3, hw3⟩ : ∃ V, V = w2.setCell ⟨T.S, 10, none⟩ (.slice s2.p s2.n s2.c) := ⟨_, rfl⟩
        have a3 : Apart [T.S] w2 w3 := by rw [hw3]; exact (Apart.refl _ _).setCell (.inl (by simp)) _
        have hS3 : w3.heap[T.S]? = some (.cells (refA c T.R s2 T.q) 116 (0, 0)) := by rw [hw3]; have := heap_setCell_same w2 T.S 10 _ 116 (.slice s2.p s2.n s2.c) hS2; simpa using this
        have aw : Apart [T.S] w w3 := (hn2.ap.mono (by simp)).trans a3
        have hTS : T.S < w.heap.size := lt_of_heap HS.out.blk
        have hoff : ∀ k, k < w.heap.size → k ≠ T.S → w3.heap[k]? = w.heap[k]? := fun k hk hne => aw.block k hk (by simp [hne])
        have hty : ∀ {t : Nat} {cur : Array Value} {k : Nat}, w.heap[k]? = some (.cells cur t (0, 0)) → t ≠ 116 → k ≠ T.S := fun {t cur k} hk ht e => by
          rw [e, HS.out.blk] at hk
          simp at hk
          exact ht hk.2.symm
        have hown : ∀ {e size n : Nat} {vv : Value} {xs : List Value}, w.ownsRow 0 e size vv n xs → e ≠ 116 → w3.ownsRow 0 e size vv n xs := fun {e size n vv xs} ho he => own_same ho (fun k hk hb => hoff k hk (by obtain ⟨cur, hc⟩ := own_typ ho hb; exact hty hc he))
        have HE : Hid (Rs w3 ⟨T.S, T.R, s2, T.q, T.g⟩ c nn rr pp (failL lk v) f N ∧ Tp w w3 T ⟨T.S, T.R, s2, T.q, T.g⟩) := hid ⟨{ HS.out with
            blk := hS3
            ring := Rg_same HS.out.ring (hoff _ HS.out.ring.lt HS.out.rs.1)
            li := own_same hn2.own (fun k hk hb => a3.block k hk (by
              have := hn2.new k hb
              simp; omega))
            ll := HP.out.length_eq.trans HS.out.ll
            se := hown HS.out.se (by decide)
            hd := fun x hx => ⟨hown (HS.out.hd x hx).1 (by decide), (HS.out.hd x hx).2⟩ }, rfl, aw.mono (by simp), fun j hj => by
              rcases hj with h | h | h | h | h
              · exact .inl (.inl h)
              · exact .inl (.inr (.inl h))
              · exact .inr (hn2.new j h)
              · exact .inl (.inr (.inr (.inr (.inl h))))
              · exact .inl (.inr (.inr (.inr (.inr h))))⟩
        clear hrun hn2 ha2 hS2 a3 hS3 aw hoff hty hown
        go_wp2_with (at_builtin; refine wpList_app2 rfl (.tmp 46) (.tmp 48) 54 54 rfl _ _ rfl rfl _ _ HRUN.out ?_)
        rw [← hw3]
        clear hw3
        refine bodyPost_end (results_none rfl _ _ _) rfl ?_
        exact ⟨rfl, _, HE.out⟩
  · have hml : v ∉ lk := fun hh => hv ((hm v).1 hh)
    have HF : Hid (failL lk v = lk) := hid (by unfold failL; rw [if_neg hml])
    have HE : Hid (Rs w T c nn rr pp (failL lk v) f N ∧ Tp w w T T) := hid ⟨by rw [HF.out]; exact h, rfl, Apart.refl _ _, fun j hj => .inl hj⟩
    by_cases b1 : v < 0
    · clear hv hml h hd hm
      go_enter Tryz.func65, Tryz.ntmps65
      go_wp2_with fail
      first
      | (refine bodyPost_end (results_none rfl _ _ _) rfl ?_; exact ⟨rfl, _, HE.out⟩)
      | (refine bodyPost_ret (results_none rfl _ _ _) rfl ?_; exact ⟨rfl, _, HE.out⟩)
    · have b2 : v ≥ (nn : Int) := by omega
      clear hv hml h hd hm
      go_enter Tryz.func65, Tryz.ntmps65
      go_wp2_with fail
      first
      | (refine bodyPost_end (results_none rfl _ _ _) rfl ?_; exact ⟨rfl, _, HE.out⟩)
      | (refine bodyPost_ret (results_none rfl _ _ _) rfl ?_; exact ⟨rfl, _, HE.out⟩)
end Go.Proofs.YtpddokbjjhbfgaaGreat.ds
