import Derived.Deep.RegionHeld
import Derived.OrdersHeld
import Derived.WalkKit
import Derived.ProofKit
import Derived.Lib.TrailingZeros
import Derived.Test.YtllhmidpphlbhaaChecked
import Derived.OpenShut
import Derived.Deep.QuietTactic
import Derived.BigQuiet
import Derived.BigRegion
import Derived.Laws.CopyOwn
import Derived.Laws.Bits64b
import Derived.Laws.MathBits
import Derived.Laws.ShiftsVarLaws
import Derived.WalkSmall
import Derived.Laws.ResultCell
import Derived.Lib.BitFns
import Derived.Laws.StructEq
import Derived.ArgAppend
import Derived.Deep.RegionLaw
import Derived.Deep.DeepAppendRoom
import Derived.Sort.WalkA
import Derived.Laws.Strings
import Derived.Deep.CutBlock
import Derived.Great.BuildSlice
import Derived.Laws.AppendOwnNone
import Derived.Lib.Overlaps
import Derived.Lib.AppendZerosOnto
import Derived.Laws.NewBlocks
import Derived.Laws.Externs
import Derived.Laws.IdiomCopy
import Derived.Laws.BytesString
import Derived.Deep.CutRange
import Derived.RangeFuncNested
import Derived.RangeFuncBound
import Derived.RangeFuncCalls
import Derived.RangeFuncLeaves
import Derived.Shelf.Abstract
import Derived.Shelf.RegionOpen
import Derived.OwnWalkIn
import Derived.TacticsInMore
import Derived.LoopNIn
import Derived.LoopIn
import GoSem.Claim
import GoSem.ClaimJoined
import GoSem.ClaimMapViews
import Derived.JoinedTies
import Derived.KernelRfl
import Derived.Deep.OwnRows
import Derived.Lib.LaidTab
import Derived.JoinedCond
import Derived.ShutString
import Derived.ChangeOld
import Derived.Below
import Derived.Carry
import Derived.ChangeSlices
import Derived.Deep.Slices
import Derived.Deep.DeepHandedRow
import Derived.RowKit
import Derived.ChangeShapes
import Derived.SizedLaws
import Derived.ChangeMaps5
import Derived.Lib.Walk
import Derived.Lib.SliceRun
import Derived.Lib.AppendStr
import Derived.Lib.ConvBytes
import Derived.Deep.RegionHeld3
import Derived.Deep.MidRow
import Derived.Laws.MakeOwn
import Derived.Lib.SlBytesConst
import Derived.Test.YtllhmidpphlbhaaRows
import Derived.Test.YtllhmidpphlbhaaF33
import Derived.Test.YtllhmidpphlbhaaF46
namespace Go.Proofs.Ytllhmidpphlbhaa.ds
open Go.ChangeShapes Go.WideShapes Go.ChangeAt Go.RowKit Go.Sort
set_option linter.unusedVariables false
set_option linter.unusedSimpArgs false

/-- the shelf, whatever is on it -/
def Sh (w W : World) (H : Nat) (K : List Nat) (m : Nat) : Prop := ∃ bl bc sl wl sc rb rh rs rw, Shf w W H K bl bc sl wl sc rb rh rs rw m
/-- a slice's block -/
def pBlk (s : Sl) : List Nat := match s.p with | some ⟨P, _, none⟩ => [P] | _ => []
theorem pBlk_of {s : Sl} {P o : Nat} (h : s.p = some ⟨P, o, none⟩) : P ∈ pBlk s := by unfold pBlk; rw [h]; simp
theorem of_pBlk {s : Sl} {P : Nat} (h : P ∈ pBlk s) : ∃ o, s.p = some ⟨P, o, none⟩ := by
  unfold pBlk at h
  split at h
  · rename_i Q o hq; simp at h; exact ⟨o, by rw [hq, h]⟩
  · simp at h
/-- what keep leaves -/
structure KeP (w W : World) (H : Nat) (K : List Nat) (m : Nat) (b : Sl) (e : Ending) (W' : World) : Prop where
  e : e = .returned (.tuple #[])
  s : ∃ K', Sh w W' H K' (m + 1) ∧ ∀ k ∈ K', k ∈ K ∨ b.v.ownBlock = some k ∨ W.heap.size ≤ k
  t : Wt b.v.ownBlock.toList W W'
theorem Rv.rbs {W : World} {s : Sl} {l : List Nat} (h : Rv W 1 s (byts l)) (h8 : ∀ b ∈ l, b < 256) : RBs W s l := ⟨h.rd, by have := h.len; rw [byts_len] at this; omega, h8, h.ok⟩
theorem L8.snoc {l : List Nat} (h : L8 l) {x : Nat} (hx : x < 256) : L8 (l ++ [x]) := h.app (fun y hy => by simp at hy; rw [hy]; exact hx)
theorem Shf.cell {w W : World} {H : Nat} {K : List Nat} {bl : List Sl} {bc : List (List Nat)} {sl wl : List Sl} {sc : List (List S)} {rb rh rs rw : Sl} {m : Nat} (h : Shf w W H K bl bc sl wl sc rb rh rs rw m) : W.cell? ⟨H, 0, none⟩ = some (.slice rb.p rb.n rb.c) ∧ W.cell? ⟨H, 1, none⟩ = some (.slice rh.p rh.n rh.c) ∧ W.cell? ⟨H, 2, none⟩ = some (.slice rs.p rs.n rs.c) ∧ W.cell? ⟨H, 3, none⟩ = some (.slice rw.p rw.n rw.c) ∧ W.cell? ⟨H, 4, none⟩ = some (.int .i64 (m : Nat)) := row5v h.blk
/-- a block of its own that is not on the shelf may be written -/
theorem Shf.over {w W W' : World} {H : Nat} {K : List Nat} {bl : List Sl} {bc : List (List Nat)} {sl wl : List Sl} {sc : List (List S)} {rb rh rs rw : Sl} {m : Nat} (h : Shf w W H K bl bc sl wl sc rb rh rs rw m) {e size : Nat} {s : Sl} {us : List Value} (hs : Nw w W e size s us) (he : e ∉ shT) (a : Apart s.v.ownBlock.toList W W') (hk : ∀ k, s.v.ownBlock = some k → k ∉ K) : Shf w W' H K bl bc sl wl sc rb rh rs rw m := h.kept a (fun k hk' => by
  have hk' : s.v.ownBlock = some k := by simpa using hk'
  obtain ⟨cur, hc⟩ := own_typ hs.own hk'
  exact ⟨hk k hk', hs.new k hk', cur, e, he, hc⟩)
set_option maxHeartbeats 32000000 in
set_option maxRecDepth 100000 in
theorem keep_ok {w W : World} {H : Nat} {K : List Nat} {m : Nat} {b : Sl} {us : List Nat} (hsh : Sh w W H K m) (hb : Bf w W b us) (h8 : L8 us) (hl : us.length ≤ 2048) (hk : ∀ k, b.v.ownBlock = some k → k ∉ K) (hm : m ≤ 5000) : Calls Try.prog 35 #[.pointer (some ⟨H, 0, none⟩), .slice b.p b.n b.c] W fun e W' => KeP w W H K m b e W' := by
  obtain ⟨bl, bc, sl, wl, sc, rb, rh, rs, rw', hS⟩ := hsh
  obtain ⟨hS1, hW1t⟩ := hS.mark
  obtain ⟨M, HM⟩ : ∃ M, Hid (M = m + 1) := ⟨_, rfl⟩
  have hwm : IntKind.i64.wrap (((m : Nat) : Int) + 1) = ((M : Nat) : Int) := by rw [IntKind.wrap_i64, HM.out]; omega
  have hlim0 := hS.lim
  have HLIM : Hid (bl.length + 3 ≤ 3 * M ∧ M ≤ 5001) := by unfold Hid; rw [HM.out]; omega
  rw [← HM.out] at hS1 hW1t
  obtain ⟨W1, hW1⟩ : ∃ V, V = W.setCell ⟨H, 4, none⟩ (.int .i64 (M : Nat)) := ⟨_, rfl⟩
  rw [← hW1] at hS1 hW1t
  have HKT : Hid (∀ k ∈ K, k < W.heap.size) := fun k hk => by obtain ⟨cur, t, -, hh⟩ := hS.kt k hk; exact lt_of_heap hh
  have x4 := hS.cell.2.2.2.2
  have f4 := frozen_of_row _ _ 4 _ _ hS.blk
  have hbn := hb.len
  have HBN := hid hbn
  have HK := hid hk
  have hb1 : Bf w W1 b us := ⟨hW1t.nw hb.nw hS1.ap (by decide) (by simp), hb.len⟩
  have HS1 := hid hS1
  have HB1 := hid hb1
  have HT1 : Hid (Wt b.v.ownBlock.toList W W1) := hW1t.mono (by simp)
  have H8 := hid h8
  have HSZ : Hid (W.heap.size ≤ W1.heap.size) := hW1t.size
  have hn2048 : b.n ≤ 2048 := by omega
  clear hS hS1 hW1t hb hb1 h8 hk hl hlim0 hbn
  go_enter Try.func35, Try.ntmps35
  go_upto_region 1 with fail
  rw [← hW1]
  clear hW1 x4 f4 hwm
  go_wp2_with fail
  go_loopw [4] (fun a wt => ∃ (i : Nat) (us' : List Nat), a = .int .i64 (i : Nat) ∧ i ≤ b.n ∧ Shf w wt H K bl bc sl wl sc rb rh rs rw' M ∧ Bf w wt b us' ∧ L8 us' ∧ us'.length = us.length ∧ Wt b.v.ownBlock.toList W wt) (fun a _ => b.n - (intOf a).toNat)
  case atStart => exact ⟨0, us, rfl, Nat.zero_le _, HS1.out, HB1.out, H8.out, rfl, HT1.out⟩
  case round =>
    clear HS1 HB1 H8 HT1
    obtain ⟨i, us', rfl, hile, hS, hB, h8', hul, hT⟩ := hrel
    have HS := hid hS
    have HB := hid hB
    have H8 := hid h8'
    have HT := hid hT
    have HUL := hid hul
    clear hS hB h8' hT hul
    by_cases hlt : i < b.n
    · have hlti : ((i : Nat) : Int) < (b.n : Int) := by omega
      obtain ⟨x, Hx⟩ : ∃ x : Nat, Hid (x = (M + i) % 256) := ⟨_, rfl⟩
      have hx8 : x < 256 := by rw [Hx.out]; omega
      have hxi : (((M : Nat) : Int) + ((i : Nat) : Int)) % 256 = ((x : Nat) : Int) := by rw [Hx.out]; omega
      have hws : IntKind.i64.wrap (((M : Nat) : Int) + ((i : Nat) : Int)) = ((M : Nat) : Int) + ((i : Nat) : Int) := by rw [IntKind.wrap_i64]; have := HLIM.out; omega
      obtain ⟨g, hp, c0, c1, hgw, hB2⟩ := HB.out.set i (by rw [← HB.out.len]; exact hlt) x
      have x4 := HS.out.cell.2.2.2.2
      obtain ⟨wx, hwx⟩ : ∃ V, V = wr.setCell ⟨g, i, none⟩ (.int .u8 (x : Int)) := ⟨_, rfl⟩
      have hown : b.v.ownBlock = some g := own_pp hp
      have ax : Apart b.v.ownBlock.toList wr wx := by rw [hwx, hown]; exact (Apart.refl _ wr).setCell (.inl (by simp)) _
      rw [← hwx] at hB2
      have HB2 := hid hB2
      have HS2 := hid (HS.out.over HB.out.nw (by decide) ax HK.out)
      have HT2 := hid (HT.out.trans (Wt.of ax (fun k hk => hk)))
      have H82 : Hid (L8 (us'.set i x)) := fun y hy => by
        rcases List.mem_or_eq_of_mem_set hy with hy | hy
        · exact H8.out y hy
        · rw [hy]; exact hx8
      clear hB2 ax hown hx8 hgw
      obtain ⟨bp, bn, bc'⟩ := b
      dsimp only at hp hlti hile hlt hn2048
      subst hp
      go_wp2_with fail
      rw [← hwx]
      go_roundw
      case rel => exact ⟨i + 1, us'.set i x, by go_num, by omega, HS2.out, HB2.out, H82.out, by rw [List.length_set]; exact HUL.out, HT2.out⟩
      case measure => simp [intOf]; omega
    · have hlti : ¬ ((i : Nat) : Int) < (b.n : Int) := by omega
      clear hlt hile
      obtain ⟨i0, hi, hz0, hz1, hz2⟩ := info_parts infoB
      obtain ⟨g, V1, hrun1, hgn, h, V2, hrun2, hhn, aV, sV, hho, hgo, gc, xx, hT3, hgc, hxx⟩ := tri_of 28 28 5 i0 (.int .u8 0) 1 1 Try.underlying28 hi hz0 hz1 hz2 rfl (by decide) HB.out.nw [.int .u8 1] [.int .u8 2, .int .u8 2] rfl rfl (by intro u hu; simp at hu; subst hu; rfl) (by intro u hu; simp at hu; subst hu; rfl) (by unfold maxLen; omega) (by omega)
      have HRUN1 : Hid ((Builtin.append_ #[28, 28] 28 #[.slice b.p b.n b.c, .slice (some ⟨wr.heap.size, 0, none⟩) 1 1]).run Try.prog (wr.alloc (Obj.cells #[.int .u8 1] 5)) = .ok (.slice g.p g.n g.c) V1) := hrun1
      have HRUN2 : Hid ((Builtin.append_ #[28, 28] 28 #[.slice b.p b.n b.c, .slice (some ⟨V1.heap.size, 0, none⟩) 2 2]).run Try.prog (V1.alloc (Obj.cells #[.int .u8 2, .int .u8 2] 5)) = .ok (.slice h.p h.n h.c) V2) := hrun2
      obtain ⟨ug, hug, hug8⟩ : ∃ ug : List Nat, gc = byts ug ∧ L8 ug := by
        rcases hxx with rfl | rfl
        · exact ⟨us' ++ [1], by rw [hgc]; simp [byts], H8.out.snoc (by decide)⟩
        · exact ⟨us' ++ [2], by rw [hgc]; simp [byts], H8.out.snoc (by decide)⟩
      obtain ⟨uh, huh, huh8⟩ : ∃ uh : List Nat, byts us' ++ [.int .u8 2, .int .u8 2] = byts uh ∧ L8 uh := ⟨us' ++ [2] ++ [2], by simp [byts], (H8.out.snoc (by decide)).snoc (by decide)⟩
      have hS2 := HS.out.over HB.out.nw (by decide) aV HK.out
      have hWr : W.heap.size ≤ wr.heap.size := HT.out.size
      have HLOOP : Hid (Tri w V2 5 1 b g h b.n (byts us') (byts ug) (byts uh) ∧ L8 uh ∧ Shf w V2 H K bl bc sl wl sc rb rh rs rw' M ∧ Wt b.v.ownBlock.toList W V2 ∧ ∀ k, h.v.ownBlock = some k → b.v.ownBlock = some k ∨ W.heap.size ≤ k) := ⟨by rw [← hug, ← huh]; exact hT3, huh8, hS2, HT.out.trans (Wt.of aV (fun k hk => hk)), fun k hk => (hho k hk).imp id (fun h => by omega)⟩
      have HUG8 := hid hug8
      have HGO : Hid (∀ k, g.v.ownBlock = some k → b.v.ownBlock = some k ∨ W.heap.size ≤ k) := fun k hk => (hgo k hk).imp id (fun h => by omega)
      have HHN := hid hhn
      clear hrun1 hrun2 hT3 hgc hxx hug hug8 huh huh8 hS2 hWr aV sV hho hgo hi hz0 hz1 hz2 HS HB HT hgn hhn
      go_upto_region 7 with (at_builtin; first | refine wpList_app2 rfl (.tmp 31) (.tmp 32) 28 28 rfl _ _ rfl rfl _ _ HRUN1.out ?_ | refine wpList_app2 rfl (.tmp 34) (.tmp 35) 28 28 rfl _ _ rfl rfl _ _ HRUN2.out ?_)
      clear HRUN1 HRUN2
      go_wp2_with fail
      go_loopw [6, 7] (fun a c wt => ∃ (j : Nat) (h : Sl) (uh : List Nat), a = .slice h.p h.n h.c ∧ c = .int .i64 (j : Nat) ∧ j ≤ 80 ∧ h.n = b.n + 2 + j ∧ Tri w wt 5 1 b g h b.n (byts us') (byts ug) (byts uh) ∧ L8 uh ∧ Shf w wt H K bl bc sl wl sc rb rh rs rw' M ∧ Wt b.v.ownBlock.toList W wt ∧ ∀ k, h.v.ownBlock = some k → b.v.ownBlock = some k ∨ W.heap.size ≤ k) (fun _ c _ => 80 - (intOf c).toNat)
      case atStart => exact ⟨0, h, uh, rfl, rfl, by omega, HHN.out, HLOOP.out⟩
      case round =>
        clear HLOOP HHN
        obtain ⟨j, h, uh, rfl, rfl, hj80, hhn, hT3, h8h, hS, hT, hho⟩ := hrel
        have HT3 := hid hT3
        have H8H := hid h8h
        have HS := hid hS
        have HT := hid hT
        have HHO := hid hho
        have HHN := hid hhn
        clear hT3 h8h hS hT hho hhn
        by_cases hjl : j < 80
        · have hji : ((j : Nat) : Int) < 80 := by omega
          obtain ⟨x, Hx⟩ : ∃ x : Nat, Hid (x = (3 + M) % 256) := ⟨_, rfl⟩
          have hx8 : x < 256 := by rw [Hx.out]; omega
          have hxi : (3 + ((M : Nat) : Int)) % 256 = ((x : Nat) : Int) := by rw [Hx.out]; omega
          have hws : IntKind.i64.wrap (3 + ((M : Nat) : Int)) = 3 + ((M : Nat) : Int) := by rw [IntKind.wrap_i64]; have := HLIM.out; omega
          obtain ⟨i0, hi, hz0, hz1, hz2⟩ := info_parts infoB
          obtain ⟨h', V', hrun, hn', hT', aV, ho'⟩ := Tri.more 28 28 5 i0 (.int .u8 0) 1 1 Try.underlying28 hi hz0 hz1 hz2 rfl (by decide) HT3.out [.int .u8 (x : Nat)] rfl (by intro u hu; simp at hu; subst hu; rfl) (by have := HHN.out; unfold maxLen; omega) (by have := HHN.out; omega)
          have HHN2 := hid hn'
          clear hn'
          have HRUN : Hid ((Builtin.append_ #[28, 28] 28 #[.slice h.p h.n h.c, .slice (some ⟨wr.heap.size, 0, none⟩) 1 1]).run Try.prog (wr.alloc (Obj.cells #[.int .u8 (x : Nat)] 5)) = .ok (.slice h'.p h'.n h'.c) V') := hrun
          have HT4 : Hid (Tri w V' 5 1 b g h' b.n (byts us') (byts ug) (byts (uh ++ [x]))) := by unfold Hid; rw [byts_app]; exact hT'
          have x4 := HS.out.cell.2.2.2.2
          have hkn : ∀ k, h.v.ownBlock = some k → k ∉ K := fun k hk hm => by
            rcases HHO.out k hk with h1 | h1
            · exact HK.out k h1 hm
            · have := HKT.out k hm; omega
          have HS2 := hid (HS.out.over HT3.out.nh (by decide) aV hkn)
          have HT2 : Hid (Wt b.v.ownBlock.toList W V') := by
            unfold Hid
            obtain ⟨Z, aZ, hZ⟩ := HT.out
            have hsz := HT.out.size
            refine ⟨Z ++ (h.v.ownBlock.toList).filter (fun y => y < W.heap.size), (aZ.mono (fun x hx => List.mem_append_left _ hx)).trans' aV (fun y hy => ?_), fun k hk => ?_⟩
            · by_cases hs : y < W.heap.size
              · left; simp [hs]; right; simpa using hy
              · right; omega
            · rcases List.mem_append.1 hk with hk | hk
              · exact hZ k hk
              · simp at hk
                rcases HHO.out k hk.1 with h1 | h1
                · exact .inl (by simpa using h1)
                · omega
          have HHO2 : Hid (∀ k, h'.v.ownBlock = some k → b.v.ownBlock = some k ∨ W.heap.size ≤ k) := fun k hk => by
            rcases ho' k hk with h1 | h1
            · exact HHO.out k h1
            · have := HT.out.size; exact .inr (by omega)
          have H8H2 := hid (H8H.out.snoc hx8)
          clear hrun hT' aV ho' hkn hi hz0 hz1 hz2 hx8
          go_wp2_with (at_builtin; refine wpList_app2 rfl (.tmp 41) (.tmp 48) 28 28 rfl _ _ rfl rfl _ _ HRUN.out ?_)
          go_roundw
          case rel => exact ⟨j + 1, h', uh ++ [x], rfl, by go_num, by omega, by have := HHN.out; have := HHN2.out; omega, HT4.out, H8H2.out, HS2.out, HT2.out, HHO2.out⟩
          case measure => simp [intOf]; omega
        · have hji : ¬ ((j : Nat) : Int) < 80 := by omega
          have T := HT3.out
          obtain ⟨K', hK'⟩ : ∃ K', K' = K ++ (pBlk b ++ (pBlk g ++ pBlk h)) := ⟨_, rfl⟩
          have k1 : InK K' b := fun P o hP => by rw [hK']; simp only [List.mem_append]; exact .inr (.inl (pBlk_of hP))
          have k2 : InK K' g := fun P o hP => by rw [hK']; simp only [List.mem_append]; exact .inr (.inr (.inl (pBlk_of hP)))
          have k3 : InK K' h := fun P o hP => by rw [hK']; simp only [List.mem_append]; exact .inr (.inr (.inr (pBlk_of hP)))
          have kt : ∀ P ∈ K', ∃ cur t, (t = 5 ∨ t = 85) ∧ wr.heap[P]? = some (.cells cur t (0, 0)) := fun P hP => by
            rw [hK'] at hP
            simp only [List.mem_append] at hP
            rcases hP with hP | hP | hP | hP
            · exact HS.out.kt P hP
            · obtain ⟨o, hp⟩ := of_pBlk hP; obtain ⟨cur, hc⟩ := T.ty P o (.inl hp); exact ⟨cur, 5, .inl rfl, hc⟩
            · obtain ⟨o, hp⟩ := of_pBlk hP; obtain ⟨cur, hc⟩ := T.ty P o (.inr hp); exact ⟨cur, 5, .inl rfl, hc⟩
            · obtain ⟨o, hp⟩ := of_pBlk hP; obtain ⟨cur, hc⟩ := own_typ T.nh.own (own_pp hp); exact ⟨cur, 5, .inl rfl, hc⟩
          obtain ⟨s1, W3, hr1, hH3, W4, hW4, blk4, rb4, rg4, rh4, s2, W5, hr2, hH5, ⟨rb5, rg5, rh5⟩, hSf, hWf⟩ := HS.out.pushB (by have := HLIM.out; omega) HLIM.out.1 b g h us' ug uh (T.rb.rbs H8.out) (T.rg.rbs HUG8.out) (T.nh.rv.rbs H8H.out) K' (fun k hk => by rw [hK']; exact List.mem_append_left _ hk) k1 k2 k3 kt
          have HR1 := hid hr1
          have HR2 := hid hr2
          have HKN : Hid (∀ k ∈ K', k ∈ K ∨ b.v.ownBlock = some k ∨ W.heap.size ≤ k) := fun k hk => by
            rw [hK'] at hk
            simp only [List.mem_append] at hk
            rcases hk with hk | hk | hk | hk
            · exact .inl hk
            · obtain ⟨o, hp⟩ := of_pBlk hk; exact .inr (.inl (own_pp hp))
            · obtain ⟨o, hp⟩ := of_pBlk hk; exact .inr (HGO.out k (own_pp hp))
            · obtain ⟨o, hp⟩ := of_pBlk hk; exact .inr (HHO.out k (own_pp hp))
          obtain ⟨W6, hW6⟩ : ∃ V, V = W5.setCell ⟨H, 1, none⟩ (.slice s2.p s2.n s2.c) := ⟨_, rfl⟩
          rw [← hW6] at hSf hWf
          have HP : Hid (KeP w W H K m b (.returned (.tuple #[])) W6) := ⟨rfl, ⟨K', ⟨_, _, _, _, _, _, _, _, _, by rw [← HM.out]; exact hSf⟩, HKN.out⟩, HT.out.trans (hWf.mono (by simp))⟩
          have HA6 : Hid (RBs W6 b us' ∧ RBs W6 g ug ∧ RBs W6 h uh) := by
            unfold Hid
            have hl : bl.length = bl.length := rfl
            have q0 := hSf.b bl.length (by simp)
            have q1 := hSf.b (bl.length + 1) (by simp)
            have q2 := hSf.b (bl.length + 2) (by simp)
            obtain ⟨-, g1, g2, g3⟩ := gL_3 (l := bc) (a := us') (b := ug) (c := uh)
            rw [HS.out.lb] at g1 g2 g3
            rw [g1] at q0
            rw [g2] at q1
            rw [g3] at q2
            have e0 : gS (bl ++ [b, g, h]) bl.length = b := by unfold gS; simp [List.getD_eq_getElem?_getD]
            have e1 : gS (bl ++ [b, g, h]) (bl.length + 1) = g := by unfold gS; simp [List.getD_eq_getElem?_getD]
            have e2 : gS (bl ++ [b, g, h]) (bl.length + 2) = h := by unfold gS; simp [List.getD_eq_getElem?_getD]
            rw [e0] at q0
            rw [e1] at q1
            rw [e2] at q2
            exact ⟨q0.1, q1.1, q2.1⟩
          have z0 := HS.out.cell.1
          have z1 := crow hH3 0 (.slice rb.p rb.n rb.c) rfl
          have z2 := frozen_of_row _ _ 0 _ _ hH3
          clear hr1 hr2 hSf hWf k1 k2 k3 kt hK' T
          go_upto_region 12 with (at_builtin; refine wpList_app2 rfl (.tmp 54) (.tmp 58) 69 69 rfl _ _ rfl rfl _ _ HR1.out ?_)
          rw [← hW4]
          clear hW4 z0 z1 z2 hH3
          have HCV : Hid (∀ W, (RBs W b us' ∧ RBs W g ug ∧ RBs W h uh) → Sem.run Try.prog (convert 28 9 (.slice b.p b.n b.c)) W = .ok (.string (strB us')) W ∧ Sem.run Try.prog (convert 28 9 (.slice g.p g.n g.c)) W = .ok (.string (strB ug)) W ∧ Sem.run Try.prog (convert 28 9 (.slice h.p h.n h.c)) W = .ok (.string (strB uh)) W) := fun W a => ⟨conv_bytes a.1.rd a.1.len a.1.ok, conv_bytes a.2.1.rd a.2.1.len a.2.1.ok, conv_bytes a.2.2.rd a.2.2.len a.2.2.ok⟩
          have z1 := crow hH5 1 (.slice rh.p rh.n rh.c) rfl
          have z2 := frozen_of_row _ _ 1 _ _ hH5
          have ad : Apart [] W4 W4.drew := (Apart.refl [] W4).drew
          have y1 := crow (keep0 ad blk4) 1 (.slice rh.p rh.n rh.c) rfl
          have aL : Apart [] W4.drew (W4.drew.alloc (Obj.cells #[.string (strB us'), .string (strB ug), .string (strB uh)] 9)) := (Apart.refl [] _).alloc _
          have y2 := crow (keep0 (ad.trans aL) blk4) 1 (.slice rh.p rh.n rh.c) rfl
          have hAd : RBs W4.drew b us' ∧ RBs W4.drew g ug ∧ RBs W4.drew h uh := ⟨rb4.kept0 ad, rg4.kept0 ad, rh4.kept0 ad⟩
          have hAl : RBs (W4.drew.alloc (Obj.cells #[.string (strB us'), .string (strB ug), .string (strB uh)] 9)) b us' ∧ RBs (W4.drew.alloc (Obj.cells #[.string (strB us'), .string (strB ug), .string (strB uh)] 9)) g ug ∧ RBs (W4.drew.alloc (Obj.cells #[.string (strB us'), .string (strB ug), .string (strB uh)] 9)) h uh := ⟨hAd.1.kept0 aL, hAd.2.1.kept0 aL, hAd.2.2.kept0 aL⟩
          have hA5 : RBs W5 b us' ∧ RBs W5 g ug ∧ RBs W5 h uh := ⟨rb5, rg5, rh5⟩
          have hA6 : RBs W6 b us' ∧ RBs W6 g ug ∧ RBs W6 h uh := HA6.out
          clear rb4 rg4 rh4 blk4 rb5 rg5 rh5 aL ad
          refine wp_region_held_drew (S := fun W => RBs W b us' ∧ RBs W g ug ∧ RBs W h uh) (by kernel_rfl) hAd (fun hHeld => ?_)
          generalize W4.drew = wd at *
          refine tk 0 62 (.pointer (some ⟨H, 0, none⟩)) rfl ?_ ?_
          · intro W hSW; go_simp
          simp only [Act.put, List.setIfInBounds_toArray, List.set_cons_zero, List.set_cons_succ]
          refine tk 1 63 (.pointer (some ⟨H, 0, none⟩)) rfl ?_ ?_
          · intro W hSW; go_simp
          simp only [Act.put, List.setIfInBounds_toArray, List.set_cons_zero, List.set_cons_succ]
          refine tk 2 64 (.pointer (some ⟨H, 0, none⟩)) rfl ?_ ?_
          · intro W hSW; go_simp
          simp only [Act.put, List.setIfInBounds_toArray, List.set_cons_zero, List.set_cons_succ]
          refine tk 3 65 (.pointer (some ⟨H, 1, none⟩)) rfl ?_ ?_
          · intro W hSW; go_simp
          simp only [Act.put, List.setIfInBounds_toArray, List.set_cons_zero, List.set_cons_succ]
          refine tk 5 67 (.slice b.p b.n b.c) rfl ?_ ?_
          · intro W hSW; go_simp
          simp only [Act.put, List.setIfInBounds_toArray, List.set_cons_zero, List.set_cons_succ]
          refine tk 6 68 (.string (strB us')) rfl ?_ ?_
          · intro W hSW; obtain ⟨cv0, cv1, cv2⟩ := HCV.out W hSW; go_simp
          simp only [Act.put, List.setIfInBounds_toArray, List.set_cons_zero, List.set_cons_succ]
          refine tk 7 69 (.slice g.p g.n g.c) rfl ?_ ?_
          · intro W hSW; go_simp
          simp only [Act.put, List.setIfInBounds_toArray, List.set_cons_zero, List.set_cons_succ]
          refine tk 8 70 (.string (strB ug)) rfl ?_ ?_
          · intro W hSW; obtain ⟨cv0, cv1, cv2⟩ := HCV.out W hSW; go_simp
          simp only [Act.put, List.setIfInBounds_toArray, List.set_cons_zero, List.set_cons_succ]
          refine tk 9 71 (.slice h.p h.n h.c) rfl ?_ ?_
          · intro W hSW; go_simp
          simp only [Act.put, List.setIfInBounds_toArray, List.set_cons_zero, List.set_cons_succ]
          refine tk 10 72 (.string (strB uh)) rfl ?_ ?_
          · intro W hSW; obtain ⟨cv0, cv1, cv2⟩ := HCV.out W hSW; go_simp
          simp only [Act.put, List.setIfInBounds_toArray, List.set_cons_zero, List.set_cons_succ]
          refine wpAnyH_ready (rs := [4, 11]) (by kernel_rfl) (by simp) ?_
          refine AllReadyH.cons rfl (fun KK hKK => ?_) (AllReadyH.cons rfl (fun KK hKK => ?_) AllReadyH.nil)
          · skip
            go_simp
            refine hKK.out _ _ hAd (fun hHeld => ?_)
            clear hKK KK
            try simp only [Act.put, List.setIfInBounds_toArray, List.set_cons_zero, List.set_cons_succ]
            refine wpAnyH_ready (rs := [11]) (by kernel_rfl) (by simp) ?_
            refine AllReadyH.cons rfl (fun KK hKK => ?_) AllReadyH.nil
            go_simp
            refine hKK.out _ _ hAl (fun hHeld => ?_)
            clear hKK KK
            try simp only [Act.put, List.setIfInBounds_toArray, List.set_cons_zero, List.set_cons_succ]
            refine wpAnyH_ready (rs := [12]) (by kernel_rfl) (by simp) ?_
            refine AllReadyH.cons rfl (fun KK hKK => ?_) AllReadyH.nil
            refine step_app2 (o := ⟨some 74, _, _, _, _, _⟩) rfl (.tmp 66) (.tmp 73) 70 70 rfl _ _ rfl rfl _ _ HR2.out ?_
            refine hKK.out _ _ hA5 (fun hHeld => ?_)
            clear hKK KK
            try simp only [Act.put, List.setIfInBounds_toArray, List.set_cons_zero, List.set_cons_succ]
            refine tk 13 75 (.pointer (some ⟨H, 0, none⟩)) rfl ?_ ?_
            · intro W hSW; go_simp
            simp only [Act.put, List.setIfInBounds_toArray, List.set_cons_zero, List.set_cons_succ]
            refine tk 14 76 (.pointer (some ⟨H, 1, none⟩)) rfl ?_ ?_
            · intro W hSW; go_simp
            simp only [Act.put, List.setIfInBounds_toArray, List.set_cons_zero, List.set_cons_succ]
            refine wpAnyH_ready (rs := [15]) (by kernel_rfl) (by simp) ?_
            refine AllReadyH.cons rfl (fun KK hKK => ?_) AllReadyH.nil
            go_simp
            rw [← hW6]
            clear hW6
            refine hKK.out _ _ hA6 (fun hHeld => ?_)
            clear hKK KK
            try simp only [Act.put, List.setIfInBounds_toArray, List.set_cons_zero, List.set_cons_succ]
            refine wpAnyH_done (by kernel_rfl) ?_ _
            clear hHeld
            go_wp2_with fail
            refine bodyPost_ret (v := .tuple #[]) ?_ rfl HP.out
            simp [results, Try.results35, go_sem]
          · skip
            go_simp
            refine hKK.out _ _ hAl (fun hHeld => ?_)
            clear hKK KK
            try simp only [Act.put, List.setIfInBounds_toArray, List.set_cons_zero, List.set_cons_succ]
            refine wpAnyH_ready (rs := [4]) (by kernel_rfl) (by simp) ?_
            refine AllReadyH.cons rfl (fun KK hKK => ?_) AllReadyH.nil
            go_simp
            refine hKK.out _ _ hAl (fun hHeld => ?_)
            clear hKK KK
            try simp only [Act.put, List.setIfInBounds_toArray, List.set_cons_zero, List.set_cons_succ]
            refine wpAnyH_ready (rs := [12]) (by kernel_rfl) (by simp) ?_
            refine AllReadyH.cons rfl (fun KK hKK => ?_) AllReadyH.nil
            refine step_app2 (o := ⟨some 74, _, _, _, _, _⟩) rfl (.tmp 66) (.tmp 73) 70 70 rfl _ _ rfl rfl _ _ HR2.out ?_
            refine hKK.out _ _ hA5 (fun hHeld => ?_)
            clear hKK KK
            try simp only [Act.put, List.setIfInBounds_toArray, List.set_cons_zero, List.set_cons_succ]
            refine tk 13 75 (.pointer (some ⟨H, 0, none⟩)) rfl ?_ ?_
            · intro W hSW; go_simp
            simp only [Act.put, List.setIfInBounds_toArray, List.set_cons_zero, List.set_cons_succ]
            refine tk 14 76 (.pointer (some ⟨H, 1, none⟩)) rfl ?_ ?_
            · intro W hSW; go_simp
            simp only [Act.put, List.setIfInBounds_toArray, List.set_cons_zero, List.set_cons_succ]
            refine wpAnyH_ready (rs := [15]) (by kernel_rfl) (by simp) ?_
            refine AllReadyH.cons rfl (fun KK hKK => ?_) AllReadyH.nil
            go_simp
            rw [← hW6]
            clear hW6
            refine hKK.out _ _ hA6 (fun hHeld => ?_)
            clear hKK KK
            try simp only [Act.put, List.setIfInBounds_toArray, List.set_cons_zero, List.set_cons_succ]
            refine wpAnyH_done (by kernel_rfl) ?_ _
            clear hHeld
            go_wp2_with fail
            refine bodyPost_ret (v := .tuple #[]) ?_ rfl HP.out
            simp [results, Try.results35, go_sem]
end Go.Proofs.Ytllhmidpphlbhaa.ds
