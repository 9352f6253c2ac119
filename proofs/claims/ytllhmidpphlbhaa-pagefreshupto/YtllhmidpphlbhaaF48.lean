import Derived.Deep.RegionHeld
import Derived.OrdersHeld
import Derived.WalkKit
import Derived.ProofKit
import Derived.Lib.TrailingZeros
import Derived.Test.YtllhmidpphlbhaaChecked
import Derived.OpenShut
import Derived.Deep.QuietTactic
import Derived.BigQuiet
import Derived.BigRegion
import Derived.Laws.CopyOwn
import Derived.Laws.Bits64b
import Derived.Laws.MathBits
import Derived.Laws.ShiftsVarLaws
import Derived.WalkSmall
import Derived.Laws.ResultCell
import Derived.Lib.BitFns
import Derived.Laws.StructEq
import Derived.ArgAppend
import Derived.Deep.RegionLaw
import Derived.Deep.DeepAppendRoom
import Derived.Sort.WalkA
import Derived.Laws.Strings
import Derived.Deep.CutBlock
import Derived.Great.BuildSlice
import Derived.Laws.AppendOwnNone
import Derived.Lib.Overlaps
import Derived.Lib.AppendZerosOnto
import Derived.Laws.NewBlocks
import Derived.Laws.Externs
import Derived.Laws.IdiomCopy
import Derived.Laws.BytesString
import Derived.Deep.CutRange
import Derived.RangeFuncNested
import Derived.RangeFuncBound
import Derived.RangeFuncCalls
import Derived.RangeFuncLeaves
import Derived.Shelf.Abstract
import Derived.Shelf.RegionOpen
import Derived.OwnWalkIn
import Derived.TacticsInMore
import Derived.LoopNIn
import Derived.LoopIn
import GoSem.Claim
import GoSem.ClaimJoined
import GoSem.ClaimMapViews
import Derived.JoinedTies
import Derived.KernelRfl
import Derived.Deep.OwnRows
import Derived.Lib.LaidTab
import Derived.JoinedCond
import Derived.ShutString
import Derived.ChangeOld
import Derived.Below
import Derived.Carry
import Derived.ChangeSlices
import Derived.Deep.Slices
import Derived.Deep.DeepHandedRow
import Derived.RowKit
import Derived.ChangeShapes
import Derived.SizedLaws
import Derived.ChangeMaps5
import Derived.Lib.Walk
import Derived.Lib.SliceRun
import Derived.Lib.AppendStr
import Derived.Lib.ConvBytes
import Derived.Deep.RegionHeld3
import Derived.Deep.MidRow
import Derived.Laws.MakeOwn
import Derived.Lib.SlBytesConst
import Derived.Test.YtllhmidpphlbhaaRows
import Derived.Test.YtllhmidpphlbhaaF47
namespace Go.Proofs.Ytllhmidpphlbhaa.ds
open Go.ChangeShapes Go.WideShapes Go.ChangeAt Go.RowKit Go.Sort
set_option linter.unusedVariables false
set_option linter.unusedSimpArgs false

theorem flat_set : ∀ (xs : List S) (i : Nat) (y : S), i < xs.length → flat (xs.set i y) = (((flat xs).set (i * 3) (.int .i64 y.n)).set (i * 3 + 1) (.int .i64 y.b)).set (i * 3 + 2) (.int .u64 (y.t : Int))
  | [], i, y, h => by simp at h
  | x :: xs, 0, y, h => by simp [flat, ec]
  | x :: xs, i + 1, y, h => by
    have ih := flat_set xs i y (by simpa using h)
    have e : ∀ z : List S, flat (x :: z) = [.int .i64 x.n, .int .i64 x.b, .int .u64 (x.t : Int)] ++ flat z := fun z => by simp [flat, ec]
    rw [List.set_cons_succ, e, e, ih]
    rw [show (i + 1) * 3 = i * 3 + 3 from by omega, show i * 3 + 3 + 1 = i * 3 + 1 + 3 from by omega, show i * 3 + 3 + 2 = i * 3 + 2 + 3 from by omega]
    simp only [List.cons_append, List.nil_append, List.set_cons_succ]
/-- a span of a list of one's own is made another -/
theorem Nw.setS {w W : World} {s : Sl} {xs : List S} (h : Nw w W 85 3 s (flat xs)) {i : Nat} (hi : i < xs.length) (y : S) : ∃ gB, s.p = some ⟨gB, 0, none⟩ ∧ (∃ v0 v1 v2, W.cell? ⟨gB, i * 3, none⟩ = some v0 ∧ W.cell? ⟨gB, i * 3 + 1, none⟩ = some v1 ∧ W.cell? ⟨gB, i * 3 + 2, none⟩ = some v2) ∧ (W.frozen? ⟨gB, i * 3, none⟩ = false ∧ W.frozen? ⟨gB, i * 3 + 1, none⟩ = false ∧ W.frozen? ⟨gB, i * 3 + 2, none⟩ = false) ∧ Nw w (((W.setCell ⟨gB, i * 3, none⟩ (.int .i64 y.n)).setCell ⟨gB, i * 3 + 1, none⟩ (.int .i64 y.b)).setCell ⟨gB, i * 3 + 2, none⟩ (.int .u64 (y.t : Int))) 85 3 s (flat (xs.set i y)) ∧ Apart s.v.ownBlock.toList W (((W.setCell ⟨gB, i * 3, none⟩ (.int .i64 y.n)).setCell ⟨gB, i * 3 + 1, none⟩ (.int .i64 y.b)).setCell ⟨gB, i * 3 + 2, none⟩ (.int .u64 (y.t : Int))) := by
  have hn : s.n = xs.length := by have := h.own.1; rw [flat_length] at this; omega
  obtain ⟨g, cur, hp, ho, hr, hle, hs, ht, hnew, hmx⟩ := h.blk (by omega)
  have hcs : xs.length * 3 ≤ cur.size := by rw [hs, ← hn]; exact Nat.mul_le_mul_right _ hle
  have cell : ∀ j, j < 3 → ∃ v, W.cell? ⟨g, i * 3 + j, none⟩ = some v := fun j hj => by
    rw [cell_of_row _ _ _ _ _ _ hr]
    exact ⟨_, Array.getElem?_eq_getElem (by omega)⟩
  obtain ⟨v0, c0⟩ := cell 0 (by omega)
  obtain ⟨v1, c1⟩ := cell 1 (by omega)
  obtain ⟨v2, c2⟩ := cell 2 (by omega)
  have b3 := heap_setCell_same _ g (i * 3 + 2) _ 85 (.int .u64 (y.t : Int)) (heap_setCell_same _ g (i * 3 + 1) _ 85 (.int .i64 y.b) (heap_setCell_same W g (i * 3) _ 85 (.int .i64 y.n) hr))
  have a : Apart [g] W (((W.setCell ⟨g, i * 3, none⟩ (.int .i64 y.n)).setCell ⟨g, i * 3 + 1, none⟩ (.int .i64 y.b)).setCell ⟨g, i * 3 + 2, none⟩ (.int .u64 (y.t : Int))) := (((Apart.refl [g] W).setCell (.inl (by simp)) _).setCell (.inl (by simp)) _).setCell (.inl (by simp)) _
  refine ⟨g, hp, ⟨v0, v1, v2, c0, c1, c2⟩, ⟨frozen_of_row _ _ _ _ _ hr, frozen_of_row _ _ _ _ _ hr, frozen_of_row _ _ _ _ _ hr⟩, ?_, by rw [ho]; exact a⟩
  have := h.over (by omega) hp (by simp; rw [hs]) b3 a
  have e : (((cur.setIfInBounds (i * 3) (Value.int .i64 y.n)).setIfInBounds (i * 3 + 1) (.int .i64 y.b)).setIfInBounds (i * 3 + 2) (.int .u64 (y.t : Int))).toList.take (s.n * 3) = flat (xs.set i y) := by
    rw [flat_set xs i y hi, ← ht]
    simp only [Array.toList_setIfInBounds, List.take_set]
  rw [e] at this
  exact this
def F64 (l : List S) : Prop := ∀ x ∈ l, x.t < 2 ^ 64
theorem F64.snoc {l : List S} (h : F64 l) {x : S} (hx : x.t < 2 ^ 64) : F64 (l ++ [x]) := fun y hy => by
  rcases List.mem_append.1 hy with hy | hy
  · exact h y hy
  · simp at hy; rw [hy]; exact hx
theorem Rv.lst {W : World} {s : Sl} {l : List S} (h : Rv W 3 s (flat l)) (hf : F64 l) (hl : l.length ≤ 2000000) : L W s.p s.n l ∧ s.n = l.length := by
  have hn : s.n = l.length := by have := h.len; rw [flat_length] at this; omega
  exact ⟨⟨Sp.of_rd h.rd, hn.symm, by omega, hf⟩, hn⟩
set_option maxHeartbeats 32000000 in
set_option maxRecDepth 100000 in
theorem keepSet_ok {w W : World} {H : Nat} {K : List Nat} {m : Nat} {b : Sl} {us : List S} (hsh : Sh w W H K m) (hb : Nw w W 85 3 b (flat us)) (h8 : F64 us) (hl : us.length ≤ 2048) (hk : ∀ k, b.v.ownBlock = some k → k ∉ K) (hm : m ≤ 5000) : Calls Try.prog 36 #[.pointer (some ⟨H, 0, none⟩), .slice b.p b.n b.c] W fun e W' => KeP w W H K m b e W' := by
  obtain ⟨bl, bc, sl, wl, sc, rb, rh, rs, rw', hS⟩ := hsh
  obtain ⟨hS1, hW1t⟩ := hS.mark
  obtain ⟨M, HM⟩ : ∃ M, Hid (M = m + 1) := ⟨_, rfl⟩
  have hwm : IntKind.i64.wrap (((m : Nat) : Int) + 1) = ((M : Nat) : Int) := by rw [IntKind.wrap_i64, HM.out]; omega
  have hlim0 := hS.lim
  have HLIM : Hid (sl.length + 3 ≤ 3 * M ∧ M ≤ 5001) := by unfold Hid; rw [HM.out]; omega
  rw [← HM.out] at hS1 hW1t
  obtain ⟨W1, hW1⟩ : ∃ V, V = W.setCell ⟨H, 4, none⟩ (.int .i64 (M : Nat)) := ⟨_, rfl⟩
  rw [← hW1] at hS1 hW1t
  have HKT : Hid (∀ k ∈ K, k < W.heap.size) := fun k hk => by obtain ⟨cur, t, -, hh⟩ := hS.kt k hk; exact lt_of_heap hh
  have x4 := hS.cell.2.2.2.2
  have f4 := frozen_of_row _ _ 4 _ _ hS.blk
  have hbn : b.n = us.length := by have := hb.own.1; rw [flat_length] at this; omega
  have HBN := hid hbn
  have HK := hid hk
  have hb1 : Nw w W1 85 3 b (flat us) := hW1t.nw hb hS1.ap (by decide) (by simp)
  have HS1 := hid hS1
  have HB1 := hid hb1
  have HT1 : Hid (Wt b.v.ownBlock.toList W W1) := hW1t.mono (by simp)
  have H8 := hid h8
  have HSZ : Hid (W.heap.size ≤ W1.heap.size) := hW1t.size
  have hn2048 : b.n ≤ 2048 := by omega
  clear hS hS1 hW1t hb hb1 h8 hk hl hlim0 hbn
  go_enter Try.func36, Try.ntmps36
  go_upto_region 1 with fail
  rw [← hW1]
  clear hW1 x4 f4 hwm
  go_wp2_with fail
  go_loopw [4] (fun a wt => ∃ (i : Nat) (us' : List S), a = .int .i64 (i : Nat) ∧ i ≤ b.n ∧ Shf w wt H K bl bc sl wl sc rb rh rs rw' M ∧ Nw w wt 85 3 b (flat us') ∧ F64 us' ∧ us'.length = us.length ∧ Wt b.v.ownBlock.toList W wt) (fun a _ => b.n - (intOf a).toNat)
  case atStart => exact ⟨0, us, rfl, Nat.zero_le _, HS1.out, HB1.out, H8.out, rfl, HT1.out⟩
  case round =>
    clear HS1 HB1 H8 HT1
    obtain ⟨i, us', rfl, hile, hS, hB, h8', hul, hT⟩ := hrel
    have HS := hid hS
    have HB := hid hB
    have H8 := hid h8'
    have HT := hid hT
    have HUL := hid hul
    clear hS hB h8' hT hul
    by_cases hlt : i < b.n
    · have hlti : ((i : Nat) : Int) < (b.n : Int) := by omega
      obtain ⟨g, hp, ⟨v0, v1, v2, c0, c1, c2⟩, ⟨d0, d1, d2⟩, hB2, ax⟩ := HB.out.setS (i := i) (by rw [HUL.out, ← HBN.out]; exact hlt) ⟨(M : Nat), (i : Nat), 0⟩
      have x4 := HS.out.cell.2.2.2.2
      obtain ⟨wx, hwx⟩ : ∃ V, V = ((wr.setCell ⟨g, i * 3, none⟩ (.int .i64 (M : Nat))).setCell ⟨g, i * 3 + 1, none⟩ (.int .i64 (i : Nat))).setCell ⟨g, i * 3 + 2, none⟩ (.int .u64 0) := ⟨_, rfl⟩
      have hB3 : Nw w wx 85 3 b (flat (us'.set i ⟨(M : Nat), (i : Nat), 0⟩)) := by rw [hwx]; exact hB2
      have ax : Apart b.v.ownBlock.toList wr wx := by rw [hwx]; exact ax
      have HB2 := hid hB3
      have HS2 := hid (HS.out.over HB.out (by decide) ax HK.out)
      have HT2 := hid (HT.out.trans (Wt.of ax (fun k hk => hk)))
      have H82 : Hid (F64 (us'.set i ⟨(M : Nat), (i : Nat), 0⟩)) := fun y hy => by
        rcases List.mem_or_eq_of_mem_set hy with hy | hy
        · exact H8.out y hy
        · rw [hy]; show (0 : Nat) < 2 ^ 64; decide
      clear hB2 hB3 ax
      obtain ⟨bp, bn, bc'⟩ := b
      dsimp only at hp hlti hile hlt hn2048
      subst hp
      go_wp2_with fail
      rw [← hwx]
      go_roundw
      case rel => exact ⟨i + 1, us'.set i ⟨(M : Nat), (i : Nat), 0⟩, by go_num, by omega, HS2.out, HB2.out, H82.out, by rw [List.length_set]; exact HUL.out, HT2.out⟩
      case measure => simp [intOf]; omega
    · have hlti : ¬ ((i : Nat) : Int) < (b.n : Int) := by omega
      clear hlt hile
      obtain ⟨i0, hi, hz0, hz1, hz2⟩ := info_parts info52
      obtain ⟨g, V1, hrun1, hgn, h, V2, hrun2, hhn, aV, sV, hho, hgo, gc, xx, hT3, hgc, hxx⟩ := tri_of 48 48 85 i0 _ 3 24 Try.underlying48 hi hz0 hz1 hz2 rfl (by decide) HB.out [.int .i64 (-1), .int .i64 0, .int .u64 0] [.int .i64 (-2), .int .i64 0, .int .u64 0, .int .i64 (-3), .int .i64 0, .int .u64 0] rfl rfl (by intro u hu; simp at hu; rcases hu with rfl | rfl | rfl <;> rfl) (by intro u hu; simp at hu; rcases hu with rfl | rfl | rfl | rfl | rfl | rfl <;> rfl) (by unfold maxLen; omega) (by omega)
      have HRUN1 : Hid ((Builtin.append_ #[48, 48] 48 #[.slice b.p b.n b.c, .slice (some ⟨wr.heap.size, 0, none⟩) 1 1]).run Try.prog (wr.alloc (Obj.cells #[.int .i64 (-1), .int .i64 0, .int .u64 0] 85)) = .ok (.slice g.p g.n g.c) V1) := hrun1
      have HRUN2 : Hid ((Builtin.append_ #[48, 48] 48 #[.slice b.p b.n b.c, .slice (some ⟨V1.heap.size, 0, none⟩) 2 2]).run Try.prog (V1.alloc (Obj.cells #[.int .i64 (-2), .int .i64 0, .int .u64 0, .int .i64 (-3), .int .i64 0, .int .u64 0] 85)) = .ok (.slice h.p h.n h.c) V2) := hrun2
      obtain ⟨ug, hug, hug8, hugl⟩ : ∃ ug : List S, gc = flat ug ∧ F64 ug ∧ ug.length = us'.length + 1 := by
        rcases hxx with rfl | rfl
        · exact ⟨us' ++ [⟨-1, 0, 0⟩], by rw [hgc, flat_snoc]; rfl, H8.out.snoc (by show (0 : Nat) < 2 ^ 64; decide), by simp⟩
        · exact ⟨us' ++ [⟨-2, 0, 0⟩], by rw [hgc, flat_snoc]; rfl, H8.out.snoc (by show (0 : Nat) < 2 ^ 64; decide), by simp⟩
      obtain ⟨uh, huh, huh8, huhl⟩ : ∃ uh : List S, flat us' ++ [.int .i64 (-2), .int .i64 0, .int .u64 0, .int .i64 (-3), .int .i64 0, .int .u64 0] = flat uh ∧ F64 uh ∧ uh.length = us'.length + 2 := ⟨us' ++ [⟨-2, 0, 0⟩] ++ [⟨-3, 0, 0⟩], by rw [flat_snoc, flat_snoc]; simp, (H8.out.snoc (by show (0 : Nat) < 2 ^ 64; decide)).snoc (by show (0 : Nat) < 2 ^ 64; decide), by simp⟩
      have HUGL := hid hugl
      have HUHL := hid huhl
      clear hugl huhl
      have hS2 := HS.out.over HB.out (by decide) aV HK.out
      have hWr : W.heap.size ≤ wr.heap.size := HT.out.size
      have HLOOP : Hid (Tri w V2 85 3 b g h b.n (flat us') (flat ug) (flat uh) ∧ F64 uh ∧ Shf w V2 H K bl bc sl wl sc rb rh rs rw' M ∧ Wt b.v.ownBlock.toList W V2 ∧ ∀ k, h.v.ownBlock = some k → b.v.ownBlock = some k ∨ W.heap.size ≤ k) := ⟨by rw [← hug, ← huh]; exact hT3, huh8, hS2, HT.out.trans (Wt.of aV (fun k hk => hk)), fun k hk => (hho k hk).imp id (fun h => by omega)⟩
      have HUG8 := hid hug8
      have HGO : Hid (∀ k, g.v.ownBlock = some k → b.v.ownBlock = some k ∨ W.heap.size ≤ k) := fun k hk => (hgo k hk).imp id (fun h => by omega)
      have HHN := hid hhn
      clear hrun1 hrun2 hT3 hgc hxx hug hug8 huh huh8 hS2 hWr aV sV hho hgo hi hz0 hz1 hz2 HS HB HT hgn hhn
      go_upto_region 7 with (at_builtin; first | refine wpList_app2 rfl (.tmp 30) (.tmp 32) 48 48 rfl _ _ rfl rfl _ _ HRUN1.out ?_ | refine wpList_app2 rfl (.tmp 34) (.tmp 37) 48 48 rfl _ _ rfl rfl _ _ HRUN2.out ?_)
      clear HRUN1 HRUN2
      go_wp2_with fail
      go_loopw [6, 7] (fun a c wt => ∃ (j : Nat) (h : Sl) (uh : List S), a = .slice h.p h.n h.c ∧ c = .int .i64 (j : Nat) ∧ j ≤ 12 ∧ h.n = b.n + 2 + j ∧ Tri w wt 85 3 b g h b.n (flat us') (flat ug) (flat uh) ∧ (F64 uh ∧ uh.length = us'.length + 2 + j) ∧ Shf w wt H K bl bc sl wl sc rb rh rs rw' M ∧ Wt b.v.ownBlock.toList W wt ∧ ∀ k, h.v.ownBlock = some k → b.v.ownBlock = some k ∨ W.heap.size ≤ k) (fun _ c _ => 12 - (intOf c).toNat)
      case atStart => exact ⟨0, h, uh, rfl, rfl, by omega, HHN.out, HLOOP.out.1, ⟨HLOOP.out.2.1, HUHL.out⟩, HLOOP.out.2.2⟩
      case round =>
        clear HLOOP HHN
        obtain ⟨j, h, uh, rfl, rfl, hj80, hhn, hT3, h8h, hS, hT, hho⟩ := hrel
        have HT3 := hid hT3
        have H8H := hid h8h
        have HS := hid hS
        have HT := hid hT
        have HHO := hid hho
        have HHN := hid hhn
        clear hT3 h8h hS hT hho hhn
        by_cases hjl : j < 12
        · have hji : ((j : Nat) : Int) < 12 := by omega
          obtain ⟨i0, hi, hz0, hz1, hz2⟩ := info_parts info52
          obtain ⟨h', V', hrun, hn', hT', aV, ho'⟩ := Tri.more 48 48 85 i0 _ 3 24 Try.underlying48 hi hz0 hz1 hz2 rfl (by decide) HT3.out [.int .i64 (-4), .int .i64 (M : Nat), .int .u64 0] rfl (by intro u hu; simp at hu; rcases hu with rfl | rfl | rfl <;> rfl) (by have := HHN.out; unfold maxLen; omega) (by have := HHN.out; omega)
          have HHN2 := hid hn'
          clear hn'
          have HRUN : Hid ((Builtin.append_ #[48, 48] 48 #[.slice h.p h.n h.c, .slice (some ⟨wr.heap.size, 0, none⟩) 1 1]).run Try.prog (wr.alloc (Obj.cells #[.int .i64 (-4), .int .i64 (M : Nat), .int .u64 0] 85)) = .ok (.slice h'.p h'.n h'.c) V') := hrun
          have HT4 : Hid (Tri w V' 85 3 b g h' b.n (flat us') (flat ug) (flat (uh ++ [⟨-4, (M : Nat), 0⟩]))) := by unfold Hid; rw [flat_snoc]; exact hT'
          have x4 := HS.out.cell.2.2.2.2
          have hkn : ∀ k, h.v.ownBlock = some k → k ∉ K := fun k hk hm => by
            rcases HHO.out k hk with h1 | h1
            · exact HK.out k h1 hm
            · have := HKT.out k hm; omega
          have HS2 := hid (HS.out.over HT3.out.nh (by decide) aV hkn)
          have HT2 : Hid (Wt b.v.ownBlock.toList W V') := by
            unfold Hid
            obtain ⟨Z, aZ, hZ⟩ := HT.out
            have hsz := HT.out.size
            refine ⟨Z ++ (h.v.ownBlock.toList).filter (fun y => y < W.heap.size), (aZ.mono (fun x hx => List.mem_append_left _ hx)).trans' aV (fun y hy => ?_), fun k hk => ?_⟩
            · by_cases hs : y < W.heap.size
              · left; simp [hs]; right; simpa using hy
              · right; omega
            · rcases List.mem_append.1 hk with hk | hk
              · exact hZ k hk
              · simp at hk
                rcases HHO.out k hk.1 with h1 | h1
                · exact .inl (by simpa using h1)
                · omega
          have HHO2 : Hid (∀ k, h'.v.ownBlock = some k → b.v.ownBlock = some k ∨ W.heap.size ≤ k) := fun k hk => by
            rcases ho' k hk with h1 | h1
            · exact HHO.out k h1
            · have := HT.out.size; exact .inr (by omega)
          have H8H2 : Hid (F64 (uh ++ [⟨-4, (M : Nat), 0⟩]) ∧ (uh ++ [(⟨-4, (M : Nat), 0⟩ : S)]).length = us'.length + 2 + (j + 1)) := ⟨H8H.out.1.snoc (by show (0 : Nat) < 2 ^ 64; decide), by have := H8H.out.2; simp; omega⟩
          clear hrun hT' aV ho' hkn hi hz0 hz1 hz2
          go_wp2_with (at_builtin; refine wpList_app2 rfl (.tmp 43) (.tmp 49) 48 48 rfl _ _ rfl rfl _ _ HRUN.out ?_)
          go_roundw
          case rel => exact ⟨j + 1, h', uh ++ [⟨-4, (M : Nat), 0⟩], rfl, by go_num, by omega, by have := HHN.out; have := HHN2.out; omega, HT4.out, H8H2.out, HS2.out, HT2.out, HHO2.out⟩
          case measure => simp [intOf]; omega
        · have hji : ¬ ((j : Nat) : Int) < 12 := by omega
          have T := HT3.out
          obtain ⟨K', hK'⟩ : ∃ K', K' = K ++ (pBlk b ++ (pBlk g ++ pBlk h)) := ⟨_, rfl⟩
          have k1 : InK K' b := fun P o hP => by rw [hK']; simp only [List.mem_append]; exact .inr (.inl (pBlk_of hP))
          have k2 : InK K' g := fun P o hP => by rw [hK']; simp only [List.mem_append]; exact .inr (.inr (.inl (pBlk_of hP)))
          have k3 : InK K' h := fun P o hP => by rw [hK']; simp only [List.mem_append]; exact .inr (.inr (.inr (pBlk_of hP)))
          have kt : ∀ P ∈ K', ∃ cur t, (t = 5 ∨ t = 85) ∧ wr.heap[P]? = some (.cells cur t (0, 0)) := fun P hP => by
            rw [hK'] at hP
            simp only [List.mem_append] at hP
            rcases hP with hP | hP | hP | hP
            · exact HS.out.kt P hP
            · obtain ⟨o, hp⟩ := of_pBlk hP; obtain ⟨cur, hc⟩ := T.ty P o (.inl hp); exact ⟨cur, 85, .inr rfl, hc⟩
            · obtain ⟨o, hp⟩ := of_pBlk hP; obtain ⟨cur, hc⟩ := T.ty P o (.inr hp); exact ⟨cur, 85, .inr rfl, hc⟩
            · obtain ⟨o, hp⟩ := of_pBlk hP; obtain ⟨cur, hc⟩ := own_typ T.nh.own (own_pp hp); exact ⟨cur, 85, .inr rfl, hc⟩
          obtain ⟨lb, nb⟩ := T.rb.lst H8.out (by have := HUL.out; have := HBN.out; omega)
          obtain ⟨lg, ng⟩ := T.rg.lst HUG8.out (by have := HUGL.out; have := HUL.out; have := HBN.out; omega)
          obtain ⟨lh, nh⟩ := T.nh.rv.lst H8H.out.1 (by have := H8H.out.2; have := HUL.out; have := HBN.out; omega)
          obtain ⟨s1, W3, hr1, hH3, W4, hW4, blk4, e1, V1, hv1, av1, e2, V2, hv2, av2, e3, V3, hv3, av3, s2, W5, hr2, hH5, ⟨K3, hK3, hKn, hSf⟩, hWf⟩ := HS.out.pushS (by have := HLIM.out; omega) HLIM.out.1 b g h us' ug uh lb lg lh ⟨T.rb.ok, by rw [nb]; have := HUL.out; have := HBN.out; omega⟩ ⟨T.rg.ok, by rw [ng]; have := HUGL.out; have := HUL.out; have := HBN.out; omega⟩ ⟨T.nh.ok, by rw [nh]; have := H8H.out.2; have := HUL.out; have := HBN.out; omega⟩ K' (fun k hk => by rw [hK']; exact List.mem_append_left _ hk) k1 k2 k3 kt
          have HR1 := hid hr1
          have HR2 := hid hr2
          have HV1 := hid hv1
          have HV2 := hid hv2
          have HV3 := hid hv3
          have hwr := HT.out.size
          have HKN : Hid (∀ k ∈ K3, k ∈ K ∨ b.v.ownBlock = some k ∨ W.heap.size ≤ k) := fun k hk => by
            rcases hKn k hk with hk | hk
            rotate_left
            · exact .inr (.inr (by omega))
            rw [hK'] at hk
            simp only [List.mem_append] at hk
            rcases hk with hk | hk | hk | hk
            · exact .inl hk
            · obtain ⟨o, hp⟩ := of_pBlk hk; exact .inr (.inl (own_pp hp))
            · obtain ⟨o, hp⟩ := of_pBlk hk; exact .inr (HGO.out k (own_pp hp))
            · obtain ⟨o, hp⟩ := of_pBlk hk; exact .inr (HHO.out k (own_pp hp))
          obtain ⟨W6, hW6⟩ : ∃ V, V = W5.setCell ⟨H, 3, none⟩ (.slice s2.p s2.n s2.c) := ⟨_, rfl⟩
          rw [← hW6] at hSf hWf
          have HP : Hid (KeP w W H K m b (.returned (.tuple #[])) W6) := ⟨rfl, ⟨K3, ⟨_, _, _, _, _, _, _, _, _, by rw [← HM.out]; exact hSf⟩, HKN.out⟩, HT.out.trans (hWf.mono (by simp))⟩
          have z0 := HS.out.cell.2.2.1
          have z1 := crow hH3 2 (.slice rs.p rs.n rs.c) rfl
          have z2 := frozen_of_row _ _ 2 _ _ hH3
          clear hr1 hr2 hSf hWf k1 k2 k3 kt hK' T hv1 hv2 hv3 hKn hK3 lb lg lh nb ng nh hwr
          go_upto_region 12 with (at_builtin; refine wpList_app2 rfl (.tmp 55) (.tmp 59) 71 71 rfl _ _ rfl rfl _ _ HR1.out ?_)
          rw [← hW4]
          clear hW4 z0 z1 z2 hH3
          have z1 := crow hH5 3 (.slice rw'.p rw'.n rw'.c) rfl
          have z2 := frozen_of_row _ _ 3 _ _ hH5
          have ad : Apart [] W4 W4.drew := (Apart.refl [] W4).drew
          have y0 := crow (keep0 ad blk4) 3 (.slice rw'.p rw'.n rw'.c) rfl
          have y1 := crow (keep0 (ad.trans av1) blk4) 3 (.slice rw'.p rw'.n rw'.c) rfl
          have y2 := crow (keep0 (ad.trans (av1.trans av2)) blk4) 3 (.slice rw'.p rw'.n rw'.c) rfl
          have y3 := crow (keep0 (ad.trans (av1.trans (av2.trans av3))) blk4) 3 (.slice rw'.p rw'.n rw'.c) rfl
          have y4 := crow (keep0 ((ad.trans (av1.trans (av2.trans av3))).alloc (Obj.cells #[.slice e1.p e1.n e1.c, .slice e2.p e2.n e2.c, .slice e3.p e3.n e3.c] 48)) blk4) 3 (.slice rw'.p rw'.n rw'.c) rfl
          clear blk4 hH5 ad av1 av2 av3
          refine wp_region_held_drew (S := fun W => True) (by kernel_rfl) trivial (fun hHeld => ?_)
          generalize W4.drew = wd at *
          refine tk 0 63 (.pointer (some ⟨H, 0, none⟩)) rfl ?_ ?_
          · intro W hSW; go_simp
          simp only [Act.put, List.setIfInBounds_toArray, List.set_cons_zero, List.set_cons_succ]
          refine tk 1 64 (.pointer (some ⟨H, 0, none⟩)) rfl ?_ ?_
          · intro W hSW; go_simp
          simp only [Act.put, List.setIfInBounds_toArray, List.set_cons_zero, List.set_cons_succ]
          refine tk 2 65 (.pointer (some ⟨H, 0, none⟩)) rfl ?_ ?_
          · intro W hSW; go_simp
          simp only [Act.put, List.setIfInBounds_toArray, List.set_cons_zero, List.set_cons_succ]
          refine tk 3 66 (.pointer (some ⟨H, 3, none⟩)) rfl ?_ ?_
          · intro W hSW; go_simp
          simp only [Act.put, List.setIfInBounds_toArray, List.set_cons_zero, List.set_cons_succ]
          refine tk 5 68 (.slice b.p b.n b.c) rfl ?_ ?_
          · intro W hSW; go_simp
          simp only [Act.put, List.setIfInBounds_toArray, List.set_cons_zero, List.set_cons_succ]
          refine tk 7 70 (.slice g.p g.n g.c) rfl ?_ ?_
          · intro W hSW; go_simp
          simp only [Act.put, List.setIfInBounds_toArray, List.set_cons_zero, List.set_cons_succ]
          refine tk 9 72 (.slice h.p h.n h.c) rfl ?_ ?_
          · intro W hSW; go_simp
          simp only [Act.put, List.setIfInBounds_toArray, List.set_cons_zero, List.set_cons_succ]
          refine wpAnyH_ready (rs := [4, 6]) (by kernel_rfl) (by simp) ?_
          refine AllReadyH.cons rfl (fun KK hKK => ?_) (AllReadyH.cons rfl (fun KK hKK => ?_) AllReadyH.nil)
          · skip
            go_simp
            refine hKK.out _ _ trivial (fun hHeld => ?_)
            clear hKK KK
            try simp only [Act.put, List.setIfInBounds_toArray, List.set_cons_zero, List.set_cons_succ]
            refine wpAnyH_ready (rs := [6]) (by kernel_rfl) (by simp) ?_
            refine AllReadyH.cons rfl (fun KK hKK => ?_) AllReadyH.nil
            refine step_app2 (o := ⟨some 69, _, _, _, _, _⟩) rfl (.const (.slice none 0 0)) (.tmp 68) 48 48 rfl _ _ rfl rfl _ _ HV1.out ?_
            refine hKK.out _ _ trivial (fun hHeld => ?_)
            clear hKK KK
            try simp only [Act.put, List.setIfInBounds_toArray, List.set_cons_zero, List.set_cons_succ]
            refine wpAnyH_ready (rs := [8]) (by kernel_rfl) (by simp) ?_
            refine AllReadyH.cons rfl (fun KK hKK => ?_) AllReadyH.nil
            refine step_app2 (o := ⟨some 71, _, _, _, _, _⟩) rfl (.const (.slice none 0 0)) (.tmp 70) 48 48 rfl _ _ rfl rfl _ _ HV2.out ?_
            refine hKK.out _ _ trivial (fun hHeld => ?_)
            clear hKK KK
            try simp only [Act.put, List.setIfInBounds_toArray, List.set_cons_zero, List.set_cons_succ]
            refine wpAnyH_ready (rs := [10]) (by kernel_rfl) (by simp) ?_
            refine AllReadyH.cons rfl (fun KK hKK => ?_) AllReadyH.nil
            refine step_app2 (o := ⟨some 73, _, _, _, _, _⟩) rfl (.const (.slice none 0 0)) (.tmp 72) 48 48 rfl _ _ rfl rfl _ _ HV3.out ?_
            refine hKK.out _ _ trivial (fun hHeld => ?_)
            clear hKK KK
            try simp only [Act.put, List.setIfInBounds_toArray, List.set_cons_zero, List.set_cons_succ]
            refine wpAnyH_ready (rs := [11]) (by kernel_rfl) (by simp) ?_
            refine AllReadyH.cons rfl (fun KK hKK => ?_) AllReadyH.nil
            go_simp
            refine hKK.out _ _ trivial (fun hHeld => ?_)
            clear hKK KK
            try simp only [Act.put, List.setIfInBounds_toArray, List.set_cons_zero, List.set_cons_succ]
            refine wpAnyH_ready (rs := [12]) (by kernel_rfl) (by simp) ?_
            refine AllReadyH.cons rfl (fun KK hKK => ?_) AllReadyH.nil
            refine step_app2 (o := ⟨some 75, _, _, _, _, _⟩) rfl (.tmp 67) (.tmp 74) 71 71 rfl _ _ rfl rfl _ _ HR2.out ?_
            refine hKK.out _ _ trivial (fun hHeld => ?_)
            clear hKK KK
            try simp only [Act.put, List.setIfInBounds_toArray, List.set_cons_zero, List.set_cons_succ]
            refine tk 13 76 (.pointer (some ⟨H, 0, none⟩)) rfl ?_ ?_
            · intro W hSW; go_simp
            simp only [Act.put, List.setIfInBounds_toArray, List.set_cons_zero, List.set_cons_succ]
            refine tk 14 77 (.pointer (some ⟨H, 3, none⟩)) rfl ?_ ?_
            · intro W hSW; go_simp
            simp only [Act.put, List.setIfInBounds_toArray, List.set_cons_zero, List.set_cons_succ]
            refine wpAnyH_ready (rs := [15]) (by kernel_rfl) (by simp) ?_
            refine AllReadyH.cons rfl (fun KK hKK => ?_) AllReadyH.nil
            go_simp
            rw [← hW6]
            clear hW6
            refine hKK.out _ _ trivial (fun hHeld => ?_)
            clear hKK KK
            try simp only [Act.put, List.setIfInBounds_toArray, List.set_cons_zero, List.set_cons_succ]
            refine wpAnyH_done (by kernel_rfl) ?_ _
            clear hHeld
            go_wp2_with fail
            refine bodyPost_ret (v := .tuple #[]) ?_ rfl HP.out
            simp [results, Try.results36, go_sem]
          · skip
            refine step_app2 (o := ⟨some 69, _, _, _, _, _⟩) rfl (.const (.slice none 0 0)) (.tmp 68) 48 48 rfl _ _ rfl rfl _ _ HV1.out ?_
            refine hKK.out _ _ trivial (fun hHeld => ?_)
            clear hKK KK
            try simp only [Act.put, List.setIfInBounds_toArray, List.set_cons_zero, List.set_cons_succ]
            refine wpAnyH_ready (rs := [4, 8]) (by kernel_rfl) (by simp) ?_
            refine AllReadyH.cons rfl (fun KK hKK => ?_) (AllReadyH.cons rfl (fun KK hKK => ?_) AllReadyH.nil)
            · skip
              go_simp
              refine hKK.out _ _ trivial (fun hHeld => ?_)
              clear hKK KK
              try simp only [Act.put, List.setIfInBounds_toArray, List.set_cons_zero, List.set_cons_succ]
              refine wpAnyH_ready (rs := [8]) (by kernel_rfl) (by simp) ?_
              refine AllReadyH.cons rfl (fun KK hKK => ?_) AllReadyH.nil
              refine step_app2 (o := ⟨some 71, _, _, _, _, _⟩) rfl (.const (.slice none 0 0)) (.tmp 70) 48 48 rfl _ _ rfl rfl _ _ HV2.out ?_
              refine hKK.out _ _ trivial (fun hHeld => ?_)
              clear hKK KK
              try simp only [Act.put, List.setIfInBounds_toArray, List.set_cons_zero, List.set_cons_succ]
              refine wpAnyH_ready (rs := [10]) (by kernel_rfl) (by simp) ?_
              refine AllReadyH.cons rfl (fun KK hKK => ?_) AllReadyH.nil
              refine step_app2 (o := ⟨some 73, _, _, _, _, _⟩) rfl (.const (.slice none 0 0)) (.tmp 72) 48 48 rfl _ _ rfl rfl _ _ HV3.out ?_
              refine hKK.out _ _ trivial (fun hHeld => ?_)
              clear hKK KK
              try simp only [Act.put, List.setIfInBounds_toArray, List.set_cons_zero, List.set_cons_succ]
              refine wpAnyH_ready (rs := [11]) (by kernel_rfl) (by simp) ?_
              refine AllReadyH.cons rfl (fun KK hKK => ?_) AllReadyH.nil
              go_simp
              refine hKK.out _ _ trivial (fun hHeld => ?_)
              clear hKK KK
              try simp only [Act.put, List.setIfInBounds_toArray, List.set_cons_zero, List.set_cons_succ]
              refine wpAnyH_ready (rs := [12]) (by kernel_rfl) (by simp) ?_
              refine AllReadyH.cons rfl (fun KK hKK => ?_) AllReadyH.nil
              refine step_app2 (o := ⟨some 75, _, _, _, _, _⟩) rfl (.tmp 67) (.tmp 74) 71 71 rfl _ _ rfl rfl _ _ HR2.out ?_
              refine hKK.out _ _ trivial (fun hHeld => ?_)
              clear hKK KK
              try simp only [Act.put, List.setIfInBounds_toArray, List.set_cons_zero, List.set_cons_succ]
              refine tk 13 76 (.pointer (some ⟨H, 0, none⟩)) rfl ?_ ?_
              · intro W hSW; go_simp
              simp only [Act.put, List.setIfInBounds_toArray, List.set_cons_zero, List.set_cons_succ]
              refine tk 14 77 (.pointer (some ⟨H, 3, none⟩)) rfl ?_ ?_
              · intro W hSW; go_simp
              simp only [Act.put, List.setIfInBounds_toArray, List.set_cons_zero, List.set_cons_succ]
              refine wpAnyH_ready (rs := [15]) (by kernel_rfl) (by simp) ?_
              refine AllReadyH.cons rfl (fun KK hKK => ?_) AllReadyH.nil
              go_simp
              rw [← hW6]
              clear hW6
              refine hKK.out _ _ trivial (fun hHeld => ?_)
              clear hKK KK
              try simp only [Act.put, List.setIfInBounds_toArray, List.set_cons_zero, List.set_cons_succ]
              refine wpAnyH_done (by kernel_rfl) ?_ _
              clear hHeld
              go_wp2_with fail
              refine bodyPost_ret (v := .tuple #[]) ?_ rfl HP.out
              simp [results, Try.results36, go_sem]
            · skip
              refine step_app2 (o := ⟨some 71, _, _, _, _, _⟩) rfl (.const (.slice none 0 0)) (.tmp 70) 48 48 rfl _ _ rfl rfl _ _ HV2.out ?_
              refine hKK.out _ _ trivial (fun hHeld => ?_)
              clear hKK KK
              try simp only [Act.put, List.setIfInBounds_toArray, List.set_cons_zero, List.set_cons_succ]
              refine wpAnyH_ready (rs := [4, 10]) (by kernel_rfl) (by simp) ?_
              refine AllReadyH.cons rfl (fun KK hKK => ?_) (AllReadyH.cons rfl (fun KK hKK => ?_) AllReadyH.nil)
              · skip
                go_simp
                refine hKK.out _ _ trivial (fun hHeld => ?_)
                clear hKK KK
                try simp only [Act.put, List.setIfInBounds_toArray, List.set_cons_zero, List.set_cons_succ]
                refine wpAnyH_ready (rs := [10]) (by kernel_rfl) (by simp) ?_
                refine AllReadyH.cons rfl (fun KK hKK => ?_) AllReadyH.nil
                refine step_app2 (o := ⟨some 73, _, _, _, _, _⟩) rfl (.const (.slice none 0 0)) (.tmp 72) 48 48 rfl _ _ rfl rfl _ _ HV3.out ?_
                refine hKK.out _ _ trivial (fun hHeld => ?_)
                clear hKK KK
                try simp only [Act.put, List.setIfInBounds_toArray, List.set_cons_zero, List.set_cons_succ]
                refine wpAnyH_ready (rs := [11]) (by kernel_rfl) (by simp) ?_
                refine AllReadyH.cons rfl (fun KK hKK => ?_) AllReadyH.nil
                go_simp
                refine hKK.out _ _ trivial (fun hHeld => ?_)
                clear hKK KK
                try simp only [Act.put, List.setIfInBounds_toArray, List.set_cons_zero, List.set_cons_succ]
                refine wpAnyH_ready (rs := [12]) (by kernel_rfl) (by simp) ?_
                refine AllReadyH.cons rfl (fun KK hKK => ?_) AllReadyH.nil
                refine step_app2 (o := ⟨some 75, _, _, _, _, _⟩) rfl (.tmp 67) (.tmp 74) 71 71 rfl _ _ rfl rfl _ _ HR2.out ?_
                refine hKK.out _ _ trivial (fun hHeld => ?_)
                clear hKK KK
                try simp only [Act.put, List.setIfInBounds_toArray, List.set_cons_zero, List.set_cons_succ]
                refine tk 13 76 (.pointer (some ⟨H, 0, none⟩)) rfl ?_ ?_
                · intro W hSW; go_simp
                simp only [Act.put, List.setIfInBounds_toArray, List.set_cons_zero, List.set_cons_succ]
                refine tk 14 77 (.pointer (some ⟨H, 3, none⟩)) rfl ?_ ?_
                · intro W hSW; go_simp
                simp only [Act.put, List.setIfInBounds_toArray, List.set_cons_zero, List.set_cons_succ]
                refine wpAnyH_ready (rs := [15]) (by kernel_rfl) (by simp) ?_
                refine AllReadyH.cons rfl (fun KK hKK => ?_) AllReadyH.nil
                go_simp
                rw [← hW6]
                clear hW6
                refine hKK.out _ _ trivial (fun hHeld => ?_)
                clear hKK KK
                try simp only [Act.put, List.setIfInBounds_toArray, List.set_cons_zero, List.set_cons_succ]
                refine wpAnyH_done (by kernel_rfl) ?_ _
                clear hHeld
                go_wp2_with fail
                refine bodyPost_ret (v := .tuple #[]) ?_ rfl HP.out
                simp [results, Try.results36, go_sem]
              · skip
                refine step_app2 (o := ⟨some 73, _, _, _, _, _⟩) rfl (.const (.slice none 0 0)) (.tmp 72) 48 48 rfl _ _ rfl rfl _ _ HV3.out ?_
                refine hKK.out _ _ trivial (fun hHeld => ?_)
                clear hKK KK
                try simp only [Act.put, List.setIfInBounds_toArray, List.set_cons_zero, List.set_cons_succ]
                refine wpAnyH_ready (rs := [4, 11]) (by kernel_rfl) (by simp) ?_
                refine AllReadyH.cons rfl (fun KK hKK => ?_) (AllReadyH.cons rfl (fun KK hKK => ?_) AllReadyH.nil)
                · skip
                  go_simp
                  refine hKK.out _ _ trivial (fun hHeld => ?_)
                  clear hKK KK
                  try simp only [Act.put, List.setIfInBounds_toArray, List.set_cons_zero, List.set_cons_succ]
                  refine wpAnyH_ready (rs := [11]) (by kernel_rfl) (by simp) ?_
                  refine AllReadyH.cons rfl (fun KK hKK => ?_) AllReadyH.nil
                  go_simp
                  refine hKK.out _ _ trivial (fun hHeld => ?_)
                  clear hKK KK
                  try simp only [Act.put, List.setIfInBounds_toArray, List.set_cons_zero, List.set_cons_succ]
                  refine wpAnyH_ready (rs := [12]) (by kernel_rfl) (by simp) ?_
                  refine AllReadyH.cons rfl (fun KK hKK => ?_) AllReadyH.nil
                  refine step_app2 (o := ⟨some 75, _, _, _, _, _⟩) rfl (.tmp 67) (.tmp 74) 71 71 rfl _ _ rfl rfl _ _ HR2.out ?_
                  refine hKK.out _ _ trivial (fun hHeld => ?_)
                  clear hKK KK
                  try simp only [Act.put, List.setIfInBounds_toArray, List.set_cons_zero, List.set_cons_succ]
                  refine tk 13 76 (.pointer (some ⟨H, 0, none⟩)) rfl ?_ ?_
                  · intro W hSW; go_simp
                  simp only [Act.put, List.setIfInBounds_toArray, List.set_cons_zero, List.set_cons_succ]
                  refine tk 14 77 (.pointer (some ⟨H, 3, none⟩)) rfl ?_ ?_
                  · intro W hSW; go_simp
                  simp only [Act.put, List.setIfInBounds_toArray, List.set_cons_zero, List.set_cons_succ]
                  refine wpAnyH_ready (rs := [15]) (by kernel_rfl) (by simp) ?_
                  refine AllReadyH.cons rfl (fun KK hKK => ?_) AllReadyH.nil
                  go_simp
                  rw [← hW6]
                  clear hW6
                  refine hKK.out _ _ trivial (fun hHeld => ?_)
                  clear hKK KK
                  try simp only [Act.put, List.setIfInBounds_toArray, List.set_cons_zero, List.set_cons_succ]
                  refine wpAnyH_done (by kernel_rfl) ?_ _
                  clear hHeld
                  go_wp2_with fail
                  refine bodyPost_ret (v := .tuple #[]) ?_ rfl HP.out
                  simp [results, Try.results36, go_sem]
                · skip
                  go_simp
                  refine hKK.out _ _ trivial (fun hHeld => ?_)
                  clear hKK KK
                  try simp only [Act.put, List.setIfInBounds_toArray, List.set_cons_zero, List.set_cons_succ]
                  refine wpAnyH_ready (rs := [4]) (by kernel_rfl) (by simp) ?_
                  refine AllReadyH.cons rfl (fun KK hKK => ?_) AllReadyH.nil
                  go_simp
                  refine hKK.out _ _ trivial (fun hHeld => ?_)
                  clear hKK KK
                  try simp only [Act.put, List.setIfInBounds_toArray, List.set_cons_zero, List.set_cons_succ]
                  refine wpAnyH_ready (rs := [12]) (by kernel_rfl) (by simp) ?_
                  refine AllReadyH.cons rfl (fun KK hKK => ?_) AllReadyH.nil
                  refine step_app2 (o := ⟨some 75, _, _, _, _, _⟩) rfl (.tmp 67) (.tmp 74) 71 71 rfl _ _ rfl rfl _ _ HR2.out ?_
                  refine hKK.out _ _ trivial (fun hHeld => ?_)
                  clear hKK KK
                  try simp only [Act.put, List.setIfInBounds_toArray, List.set_cons_zero, List.set_cons_succ]
                  refine tk 13 76 (.pointer (some ⟨H, 0, none⟩)) rfl ?_ ?_
                  · intro W hSW; go_simp
                  simp only [Act.put, List.setIfInBounds_toArray, List.set_cons_zero, List.set_cons_succ]
                  refine tk 14 77 (.pointer (some ⟨H, 3, none⟩)) rfl ?_ ?_
                  · intro W hSW; go_simp
                  simp only [Act.put, List.setIfInBounds_toArray, List.set_cons_zero, List.set_cons_succ]
                  refine wpAnyH_ready (rs := [15]) (by kernel_rfl) (by simp) ?_
                  refine AllReadyH.cons rfl (fun KK hKK => ?_) AllReadyH.nil
                  go_simp
                  rw [← hW6]
                  clear hW6
                  refine hKK.out _ _ trivial (fun hHeld => ?_)
                  clear hKK KK
                  try simp only [Act.put, List.setIfInBounds_toArray, List.set_cons_zero, List.set_cons_succ]
                  refine wpAnyH_done (by kernel_rfl) ?_ _
                  clear hHeld
                  go_wp2_with fail
                  refine bodyPost_ret (v := .tuple #[]) ?_ rfl HP.out
                  simp [results, Try.results36, go_sem]
end Go.Proofs.Ytllhmidpphlbhaa.ds
