import Derived.Test.YtpddokbjjhbfgaaGreatChecked
import Derived.WalkKit
import Derived.ProofKit
import Derived.Maps.OwnSet
import Derived.Maps.RangeWalk
import Derived.DeepKeys4
import Derived.MapViews
import Derived.StringKeys
import Derived.Lib.TrailingZeros
import Derived.OpenShut
import Derived.Deep.QuietTactic
import Derived.BigQuiet
import Derived.BigRegion
import Derived.Laws.CopyOwn
import Derived.Laws.Bits64b
import Derived.Laws.MathBits
import Derived.Laws.ShiftsVarLaws
import Derived.WalkSmall
import Derived.Laws.ResultCell
import Derived.Lib.BitFns
import Derived.Laws.StructEq
import Derived.Deep.RegionHeld
import Derived.ArgAppend
import Derived.Deep.RegionLaw
import Derived.Deep.DeepAppendRoom
import Derived.Sort.WalkA
import Derived.Laws.Strings
import Derived.Deep.CutBlock
import Derived.Great.BuildSlice
import Derived.Laws.BytesString
import Derived.Laws.AppendOwnNone
import Derived.Lib.Overlaps
import Derived.Lib.AppendZerosOnto
import Derived.Laws.NewBlocks
import Derived.Laws.Externs
import Derived.Laws.IdiomCopy
import Derived.RangeFuncNested
import Derived.RangeFuncBound
import Derived.RangeFuncCalls
import Derived.RangeFuncLeaves
import Derived.Shelf.Abstract
import Derived.Shelf.RegionOpen
import Derived.OwnWalkIn
import Derived.TacticsInMore
import Derived.LoopNIn
import Derived.LoopIn
import Derived.Deep.CutRange
import Derived.Deep.OwnRows
import Derived.Lib.Walk
import Derived.Lib.SliceRun
import GoSem.Claim
import GoSem.ClaimJoined
import GoSem.ClaimMapViews
import Derived.JoinedTies
import Derived.KernelRfl
import Derived.Lib.LaidTab
import Derived.JoinedCond
import Derived.ShutString
import Derived.ChangeOld
import Derived.Below
import Derived.Carry
import Derived.ChangeSlices
import Derived.Deep.Slices
import Derived.Deep.DeepHandedRow
import Derived.RowKit
import Derived.ChangeShapes
import Derived.SizedLaws
import Derived.ChangeMaps5
import Derived.OrdersHeld
import Derived.Lib.AppendStr
import Derived.Lib.ConvBytes
import Derived.Deep.RegionHeld3
import Derived.Deep.MidRow
import Derived.Laws.BitsAllLaws
import Derived.Sort.Grow
import Derived.Shelf.SlSortCmp.WholeK
import Derived.Shelf.Lay
import Derived.Ground.SlsfProg
import Derived.Sort.LotA
import Derived.Sort.MapsRangeIn
import Derived.RangeFuncSeq
import Derived.RangeFuncKeeps
import Derived.Maps.AppendAt
import Derived.OwnWalk
import Derived.Test.YtpddokbjjhbfgaaGreatRows
import Derived.Test.YtpddokbjjhbfgaaGreatU18
import Derived.Test.YtpddokbjjhbfgaaGreatU20
namespace Go.Proofs.YtpddokbjjhbfgaaGreat.rg
open Go.ChangeShapes Go.WideShapes Go.ChangeAt Go.RowKit Go.Sort
set_option linter.unusedVariables false
set_option linter.unusedSimpArgs false
def strN (s : ByteArray) : List Nat := s.data.toList.map UInt8.toNat
theorem strN_len (s : ByteArray) : (strN s).length = s.size := by simp [strN]
theorem strN_get (s : ByteArray) (j : Nat) (hj : j < s.size) : (strN s).getD j 0 = (s.data.toList.getD j 0).toNat := by
  have h1 : j < s.data.toList.length := by simpa using hj
  simp [strN, List.getD_eq_getElem?_getD, List.getElem?_eq_getElem h1]
theorem strN_lt (s : ByteArray) : ∀ x ∈ strN s, x < 256 := by
  intro x hx
  simp only [strN, List.mem_map] at hx
  obtain ⟨b, _, rfl⟩ := hx
  exact b.toNat_lt
theorem bytes_apart (w : World) (e : TypeId) (s : ByteArray) : Apart [] w (Lib.bytesWorld w e s) :=
  ⟨rfl, rfl, rfl, by rw [Lib.bytesWorld_size]; omega, fun k hk _ => Lib.bytesWorld_at_old w e s k hk⟩
theorem bytes_by (w : World) (e : TypeId) (s : ByteArray) : By (Lib.bytesWorld w e s) (some ⟨w.heap.size, 0, none⟩) s.size (strN s) := by
  refine ⟨strN_len s, strN_lt s, fun h0 => ⟨w.heap.size, 0, rfl, by rw [Lib.bytesWorld_size]; omega, fun i hi => ?_⟩⟩
  rw [strN_len] at hi
  rw [Nat.zero_add, Lib.bytesWorld_cell w e s i hi, strN_get s i hi]
set_option maxHeartbeats 2000000 in
set_option maxRecDepth 100000 in
theorem range_ok {w : World} {R n m : Nat} (G : Rg w R n m) (s : ByteArray) (hs : s.size ≤ 9223372036854775807) : Calls Tryz.prog 22 #[.pointer (some ⟨R, 0, none⟩), .string s] w fun r w' => r = .returned (.int .i64 (hashN (strN s) % m : Nat)) ∧ Apart [] w w' := by
  have r1 : ∀ X, Apart [] w X → X.cell? ⟨R, 1, none⟩ = some (.int .i64 (m : Nat)) := fun X a => (a.cell (p := ⟨R, 1, none⟩) G.lt (by simp)).trans G.c1
  have hm1 := G.m1
  have hm16 := G.m16
  have aD : Apart [] w w.drew := (Apart.refl _ _).drew
  have hconv := Lib.run_convert_string_bytes (P := Tryz.prog) w.drew 9 35 5 s Tryz.underlying9 Tryz.underlying35 Tryz.underlying5
  have aB : Apart [] w (Lib.bytesWorld w.drew 5 s) := aD.trans (bytes_apart w.drew 5 s)
  have hBy := bytes_by w.drew 5 s
  have hwm : IntKind.u32.wrap (m : Int) = (m : Int) := by simp [IntKind.wrap, IntKind.bits, IntKind.signed]; omega
  have hh := hashN_lt (strN s)
  have hm0 : ¬ ((m : Int) = 0) := by omega
  obtain ⟨cb, Hcb⟩ : ∃ cb, Hid (cb = grownCap w.drew s.size 0 5) := ⟨_, rfl⟩
  rw [← Hcb.out] at hconv
  generalize Lib.bytesWorld w.drew 5 s = Z at *
  obtain ⟨h, Hh⟩ : ∃ h, Hid (h = hashN (strN s)) := ⟨_, rfl⟩
  obtain ⟨q, Hq⟩ : ∃ q, Hid (q = h % m) := ⟨_, rfl⟩
  have hlt : q < 16 := by rw [Hq.out]; exact Nat.lt_of_lt_of_le (Nat.mod_lt _ (by omega)) hm16
  have hrem : ((h : Int)).tmod (m : Int) = (q : Int) := by rw [Hq.out, Int.ofNat_tmod]
  have hwq : IntKind.i64.wrap (q : Int) = (q : Int) := by simp [IntKind.wrap, IntKind.bits, IntKind.signed]; omega
  have hm00 : ¬ m = 0 := by omega
  rw [← Hh.out] at hh ⊢
  rw [← Hq.out]
  go_enter Tryz.func22, Tryz.ntmps22
  go_wp2_with fail
  refine wp_region_held_drew (S := fun X => Apart [] w X) (by kernel_rfl) aD (fun hHeld => ?_)
  refine wpAnyH_take (i := 0) (oi := ⟨some 5, _, _, _, _, _⟩) (v := (.string s)) rfl (by kernel_rfl) (by kernel_rfl) (by kernel_rfl) (fun _ _ _ h => h) (Or.inl ⟨by rfl, ?_⟩) (by assumption) ?_
  · intro W hSW; go_simp
  simp only [Act.put, List.setIfInBounds_toArray, List.set_cons_zero, List.set_cons_succ]
  refine wpAnyH_take (i := 3) (oi := ⟨some 8, _, _, _, _, _⟩) (v := (.pointer (some ⟨R, 0, none⟩))) rfl (by kernel_rfl) (by kernel_rfl) (by kernel_rfl) (fun _ _ _ h => h) (Or.inl ⟨by rfl, ?_⟩) (by assumption) ?_
  · intro W hSW; go_simp
  simp only [Act.put, List.setIfInBounds_toArray, List.set_cons_zero, List.set_cons_succ]
  refine wpAnyH_take (i := 4) (oi := ⟨some 9, _, _, _, _, _⟩) (v := (.pointer (some ⟨R, 0, none⟩))) rfl (by kernel_rfl) (by kernel_rfl) (by kernel_rfl) (fun _ _ _ h => h) (Or.inl ⟨by rfl, ?_⟩) (by assumption) ?_
  · intro W hSW; go_simp
  simp only [Act.put, List.setIfInBounds_toArray, List.set_cons_zero, List.set_cons_succ]
  refine wpAnyH_take (i := 5) (oi := ⟨some 10, _, _, _, _, _⟩) (v := (.pointer (some ⟨R, 1, none⟩))) rfl (by kernel_rfl) (by kernel_rfl) (by kernel_rfl) (fun _ _ _ h => h) (Or.inl ⟨by rfl, ?_⟩) (by assumption) ?_
  · intro W hSW; go_simp
  simp only [Act.put, List.setIfInBounds_toArray, List.set_cons_zero, List.set_cons_succ]
  refine wpAnyH_take (i := 6) (oi := ⟨some 11, _, _, _, _, _⟩) (v := (.int .i64 (m : Nat))) rfl (by kernel_rfl) (by kernel_rfl) (by kernel_rfl) (fun _ _ _ h => h) (Or.inl ⟨by rfl, ?_⟩) (by assumption) ?_
  · intro W hSW; go_simp
  simp only [Act.put, List.setIfInBounds_toArray, List.set_cons_zero, List.set_cons_succ]
  refine wpAnyH_take (i := 7) (oi := ⟨some 12, _, _, _, _, _⟩) (v := (.int .u32 (m : Nat))) rfl (by kernel_rfl) (by kernel_rfl) (by kernel_rfl) (fun _ _ _ h => h) (Or.inl ⟨by rfl, ?_⟩) (by assumption) ?_
  · intro W hSW; go_simp
  simp only [Act.put, List.setIfInBounds_toArray, List.set_cons_zero, List.set_cons_succ]
  refine wpAnyH_ready (rs := [1]) (by kernel_rfl) (by simp) ?_
  refine AllReadyH.cons rfl (fun KK hKK => ?_) AllReadyH.nil
  go_simp
  refine hKK.out _ _ (by assumption) (fun hHeld => ?_)
  clear hKK KK
  refine wpAnyH_ready (rs := [2]) (by kernel_rfl) (by simp) ?_
  refine AllReadyH.cons rfl (fun KK hKK => ?_) AllReadyH.nil
  go_simp
  refine (hash_ok hBy (by omega)).mono ?_
  rintro r w2 ⟨rfl, rfl⟩
  dsimp only
  rw [← Hh.out]
  refine hKK.out _ _ (by assumption) (fun hHeld => ?_)
  clear hKK KK
  refine wpAnyH_take (i := 8) (oi := ⟨some 13, _, _, _, _, _⟩) (v := (.int .u32 (q : Nat))) rfl (by kernel_rfl) (by kernel_rfl) (by kernel_rfl) (fun _ _ _ h => h) (Or.inl ⟨by rfl, ?_⟩) (by assumption) ?_
  · intro W hSW; go_simp
  simp only [Act.put, List.setIfInBounds_toArray, List.set_cons_zero, List.set_cons_succ]
  refine wpAnyH_take (i := 9) (oi := ⟨some 14, _, _, _, _, _⟩) (v := (.int .i64 (q : Nat))) rfl (by kernel_rfl) (by kernel_rfl) (by kernel_rfl) (fun _ _ _ h => h) (Or.inl ⟨by rfl, ?_⟩) (by assumption) ?_
  · intro W hSW; go_simp
  simp only [Act.put, List.setIfInBounds_toArray, List.set_cons_zero, List.set_cons_succ]
  refine wpAnyH_take (i := 10) (oi := ⟨some 4, _, _, _, _, _⟩) (v := (.int .i64 (q : Nat))) rfl (by kernel_rfl) (by kernel_rfl) (by kernel_rfl) (fun _ _ _ h => h) (Or.inl ⟨by rfl, ?_⟩) (by assumption) ?_
  · intro W hSW; go_simp
  simp only [Act.put, List.setIfInBounds_toArray, List.set_cons_zero, List.set_cons_succ]
  refine wpAnyH_done (by kernel_rfl) ?_ _
  go_wp2_with fail
  go_ret
  exact ⟨rfl, by assumption⟩
end Go.Proofs.YtpddokbjjhbfgaaGreat.rg
namespace Go.Proofs.YtpddokbjjhbfgaaGreat.ds
open Go.ChangeShapes Go.WideShapes Go.ChangeAt Go.RowKit Go.Sort
set_option linter.unusedVariables false
set_option linter.unusedSimpArgs false

theorem ord_below : ∀ n < 9, ∀ r < 16, ∀ i ∈ rg.ord n r, i < n := by decide +kernel
theorem ord_nodup : ∀ n < 9, ∀ r < 16, (rg.ord n r).Nodup := by decide +kernel
/-- the liking behind a failure -/
def failL (lk : List Int) (v : Int) : List Int := if v ∈ lk then (lk.take (lk.idxOf v) ++ lk.drop (lk.idxOf v + 1)) ++ [v] else lk
theorem failL_perm (lk : List Int) (v : Int) : (failL lk v).Perm lk := by
  unfold failL
  split
  · rename_i hm
    have hi : lk.idxOf v < lk.length := List.idxOf_lt_length_of_mem hm
    have hv : lk[lk.idxOf v] = v := List.getElem_idxOf hi
    have e : lk.take (lk.idxOf v) ++ v :: lk.drop (lk.idxOf v + 1) = lk := by
      have h1 := List.drop_eq_getElem_cons hi
      rw [hv] at h1
      rw [← h1, List.take_append_drop]
    refine (List.perm_append_singleton v _).trans ?_
    refine (List.perm_middle.symm).trans ?_
    rw [e]
  · exact List.Perm.refl _
theorem Lk.app1 {w : World} {L cap : Nat} {xs : List Int} (h : Lk w L cap xs) (hc : xs.length < cap) (v : Int) :
    ∃ w', (Builtin.append_ #[54, 54] 54 #[.slice (some ⟨L, 0, none⟩) xs.length cap, .slice (some ⟨w.heap.size, 0, none⟩) 1 1]).run Tryz.prog (w.alloc (Obj.cells #[.int .i64 v] 3)) = .ok (.slice (some ⟨L, 0, none⟩) (xs.length + 1) cap) w' ∧ Lk w' L cap (xs ++ [v]) ∧ Apart [L] w w' := by
  obtain ⟨i0, hif, hz0, hz1, hz2⟩ := info_parts info3i
  have a1 : Apart [] w (w.alloc (Obj.cells #[.int .i64 v] 3)) := (Apart.refl [] w).alloc _
  have h1 := h.kept (a1.block L h.lt (by simp))
  obtain ⟨w', hrun, r1, r2⟩ := run_append_own_spare (P := Tryz.prog) (w.alloc (Obj.cells #[.int .i64 v] 3)) 0 54 54 3 i0 1 Tryz.underlying54 hif hz1 L xs.length cap (iV xs) h1.own ⟨w.heap.size, 0, none⟩ 1 1 (iV [v]) (by simp [iV])
    (fun j u hj => by
      rw [Addr.add_lit, Nat.zero_add, cell_of_row _ _ _ _ _ _ (heap_alloc_new w (.cells #[.int .i64 v] 3))]
      simpa [iV] using hj) (fun u hu => iV_one hu) (by omega)
  refine ⟨w', hrun, ⟨?_⟩, ?_⟩
  · have e2 : (xs ++ [v]).length = xs.length + 1 := by simp
    rw [e2]
    have e3 : iV (xs ++ [v]) = iV xs ++ iV [v] := by simp [iV]
    rw [e3]
    exact r1
  · exact (a1.mono (by simp)).trans (by simpa [Value.ownBlock] using ap_grown r2)
theorem Ss.SL {w : World} {G : Gs} {c : Cf} {nn rr pp : Nat} {lk : List Int} {f : ByteArray → Sg} {N : Nat} (h : Ss w G c nn rr pp lk f N) : G.S ≠ G.L := fun e => by
  obtain ⟨cur, hr, _⟩ := h.li.row
  have := h.blk
  rw [e, hr] at this
  simp at this
theorem Ss.notM {w : World} {G : Gs} {c : Cf} {nn rr pp : Nat} {lk : List Int} {f : ByteArray → Sg} {N : Nat} (h : Ss w G c nn rr pp lk f N) {k : Nat} {cur : Array Value} {t : TypeId} (hk : w.heap[k]? = some (.cells cur t (0, 0))) : k ≠ G.M := fun e => by
  obtain ⟨D, ⟨es, ck, h2, _⟩, _⟩ := h.mp
  rw [← e, hk] at h2
  cases h2
/-- the session with another liking -/
theorem Ss.relike {w : World} {G : Gs} {c : Cf} {nn rr pp : Nat} {lk : List Int} {f : ByteArray → Sg} {N : Nat} (h : Ss w G c nn rr pp lk f N) {w' : World} {lk' : List Int} (a : Apart [G.S, G.L] w w') (hb : w'.heap[G.S]? = some (.cells (sesA c G.R G.L nn G.cap G.M) 81 (0, 0))) (hl : Lk w' G.L G.cap lk') (hp : lk'.Perm lk) : Ss w' G c nn rr pp lk' f N := by
  have hk : ∀ k, k < w.heap.size → k ≠ G.S → k ≠ G.L → w'.heap[k]? = w.heap[k]? := fun k hk h1 h2 => a.block k hk (by simp [h1, h2])
  obtain ⟨cur, hrow, -⟩ := h.li.row
  have hMS : G.M ≠ G.S := (h.notM h.blk).symm
  have hML : G.M ≠ G.L := (h.notM hrow).symm
  exact { h with
    blk := hb
    ring := Rg_same h.ring (hk _ h.ring.lt h.rs.1 h.rs.2)
    li := hl
    ll := hp.length_eq.trans h.ll
    lm := fun v => hp.mem_iff.trans (h.lm v)
    ld := hp.nodup_iff.2 h.ld
    mp := h.mp.kept (hk _ h.mp.lt hMS hML)
    hd := fun s hs => ⟨by
      have := (h.hd s hs).1
      cases e : G.g s with
      | none => rw [e] at this; exact this
      | some p =>
        rw [e] at this
        obtain ⟨-, D, ⟨es, ck, h2, -⟩, -⟩ := id this.1
        exact ⟨this.1.kept (hk _ this.1.lt (fun e2 => by rw [e2, h.blk] at h2; cases h2) (fun e2 => by rw [e2, hrow] at h2; cases h2)), this.2⟩, (h.hd s hs).2⟩ }
set_option maxHeartbeats 4000000 in
set_option maxRecDepth 100000 in
theorem failed_ok {w : World} {G : Gs} {c : Cf} {nn rr pp : Nat} {lk : List Int} {f : ByteArray → Sg} {N : Nat} (h : Ss w G c nn rr pp lk f N) (hn8 : nn ≤ 8) (v : Int) : Calls Tryz.prog 25 #[.pointer (some ⟨G.S, 0, none⟩), .int .i64 v] w fun r w' => r = .returned (.tuple #[]) ∧ Ss w' G c nn rr pp (failL lk v) f N ∧ Apart [G.S, G.L] w w' := by
  have HS := hid h
  have hll := h.ll
  obtain ⟨-, -, z10, -⟩ := h.cells w (Apart.refl _ _)
  have hix := index46 (cap := G.cap) h.li.ird (by omega) v
  rw [hll] at hix
  have HIX := hid hix
  clear hix h
  by_cases hm : v ∈ lk
  · obtain ⟨i, Hi⟩ : ∃ i, Hid (i = lk.idxOf v) := ⟨_, rfl⟩
    have hi : i < nn := by rw [Hi.out, ← hll]; exact List.idxOf_lt_length_of_mem hm
    have hidx : idxI lk v = (i : Nat) := by unfold idxI; rw [if_pos hm, Hi.out]
    have hde := delete47 HS.out.li (by omega) i (by omega)
    rw [hll] at hde
    have HDE := hid hde
    have HF : Hid (failL lk v = (lk.take i ++ lk.drop (i + 1)) ++ [v]) := by unfold Hid failL; rw [if_pos hm, Hi.out]
    rw [hidx] at HIX
    have hge : ((i : Nat) : Int) ≥ 0 := by omega
    clear hde hidx hm
    go_enter Tryz.func25, Tryz.ntmps25
    go_wp2_with fail
    refine HIX.out.mono ?_
    rintro _ wn ⟨rfl, hwn⟩
    rw [hwn]
    clear hwn wn
    try dsimp only
    go_wp2_with fail
    refine HDE.out.mono ?_
    rintro _ w1 ⟨rfl, hl1, a1⟩
    obtain ⟨ys, Hys⟩ : ∃ ys, Hid (ys = lk.take i ++ lk.drop (i + 1)) := ⟨_, rfl⟩
    rw [← Hys.out] at hl1 HF
    have hyl : ys.length = nn - 1 := by rw [Hys.out]; simp; omega
    obtain ⟨cur, -, hcap, -, -, -⟩ := HS.out.li.row
    obtain ⟨w2, hrun, hl2, a2⟩ := hl1.app1 (by omega) v
    rw [hyl] at hrun
    have enn : nn - 1 + 1 = nn := by omega
    rw [enn] at hrun
    have HRUN := hid hrun
    have hS1 : w1.heap[G.S]? = some (.cells (sesA c G.R G.L nn G.cap G.M) 81 (0, 0)) := keepB a1 HS.out.blk HS.out.SL
    have hS2 : w2.heap[G.S]? = some (.cells (sesA c G.R G.L nn G.cap G.M) 81 (0, 0)) := keepB a2 hS1 HS.out.SL
    have z1 := crow hS2 10 (.slice (some ⟨G.L, 0, none⟩) nn G.cap) rfl
    have f1 := frozen_of_row _ _ 10 _ _ hS2
    obtain ⟨w3, hw3⟩ : ∃ V, V = w2.setCell ⟨G.S, 10, none⟩ (.slice (some ⟨G.L, 0, none⟩) nn G.cap) := ⟨_, rfl⟩
    have hS3 : w3.heap[G.S]? = some (.cells (sesA c G.R G.L nn G.cap G.M) 81 (0, 0)) := by
      rw [hw3]; have := heap_setCell_same w2 G.S 10 _ 81 (.slice (some ⟨G.L, 0, none⟩) nn G.cap) hS2; simpa using this
    have a3 : Apart [G.S] w2 w3 := by rw [hw3]; exact (Apart.refl _ _).setCell (.inl (by simp)) _
    have hl3 : Lk w3 G.L G.cap (ys ++ [v]) := hl2.kept (a3.block _ hl2.lt (by simp; exact HS.out.SL.symm))
    have ha : Apart [G.S, G.L] w w3 := ((a1.mono (by simp)).trans (a2.mono (by simp))).trans (a3.mono (by simp))
    have HE : Hid (Ss w3 G c nn rr pp (failL lk v) f N ∧ Apart [G.S, G.L] w w3) := by
      have hpm := failL_perm lk v
      rw [HF.out] at hpm
      rw [HF.out]
      exact hid ⟨HS.out.relike ha hS3 hl3 hpm, ha⟩
    clear hl1 a1 hl2 a2 hS1 hS2 hS3 a3 hl3 ha hrun z10
    try dsimp only
    go_wp2_with (at_builtin; refine wpList_app2 rfl (.tmp 21) (.tmp 23) 54 54 rfl _ _ rfl rfl _ _ HRUN.out ?_)
    rw [← hw3]
    clear hw3
    refine bodyPost_end (results_none rfl _ _ _) rfl ?_
    exact ⟨rfl, HE.out⟩
  · have hidx : idxI lk v = -1 := by unfold idxI; rw [if_neg hm]
    have HF : Hid (failL lk v = lk) := by unfold Hid failL; rw [if_neg hm]
    rw [hidx] at HIX
    go_enter Tryz.func25, Tryz.ntmps25
    go_wp2_with fail
    refine HIX.out.mono ?_
    rintro _ wn ⟨rfl, hwn⟩
    rw [hwn]
    clear hwn wn
    try dsimp only
    go_wp2_with fail
    refine bodyPost_end (results_none rfl _ _ _) rfl ?_
    exact ⟨rfl, by rw [HF.out]; exact HS.out, Apart.refl _ _⟩
/-- the nodes that a key's range prefers -/
noncomputable def prefK (nn rr pp : Nat) (s : ByteArray) : List Int := rg.ints ((rg.ord nn (rg.hashN (rg.strN s) % rr)).take pp)
theorem Ob_ird {w : World} {P o n cap : Nat} {zs : List Int} (h : rg.Ob w P o n cap zs) : Ird w (some ⟨P, o, none⟩) n zs := ⟨h.len, fun _ => by
  obtain ⟨cur, hr, hs, _, hc⟩ := h.ex
  refine ⟨P, o, rfl, lt_of_heap hr, fun i hi => ?_⟩
  rw [cell_of_row _ _ _ _ _ _ hr]
  have := hc i (by rw [← h.len]; exact hi)
  rw [List.getD_eq_getElem?_getD, List.getElem?_eq_getElem hi] at this
  exact this⟩
/-- what Next answers -/
def NextP (w : World) (kb : Bool) (lk pref : List Int) (r : Ending) (w' : World) : Prop := (kb = false → r = .returned (.tuple #[.int .i64 0, .int .i64 50])) ∧ (kb = true → ∃ v, r = .returned (.tuple #[.int .i64 v, .int .i64 0]) ∧ lk.find? (fun y => decide (y ∈ pref)) = some v) ∧ Apart [] w w'
/-- what Next's lines leave -/
structure Nx (w wx : World) (B : Nat) (zs : List Int) (n : Nat) : Prop where
  ap : Apart [] w wx
  ex : ∃ p cap, wx.heap[B]? = some (.cells #[.slice p n cap] 54 (0, 0)) ∧ Ird wx p n zs
set_option maxHeartbeats 8000000 in
set_option maxRecDepth 100000 in
theorem next_ok {w : World} {G : Gs} {c : Cf} {nn rr pp : Nat} {lk : List Int} {f : ByteArray → Sg} {N : Nat} (h : Ss w G c nn rr pp lk f N) (hn8 : nn ≤ 8) (s : ByteArray) (hs : s.size ≤ maxLen) : Calls Tryz.prog 23 #[.pointer (some ⟨G.S, 0, none⟩), .string s] w fun r w' => NextP w (keyR s) lk (prefK nn rr pp s) r w' := by
  have HS := hid h
  have hsz : s.size ≤ 9223372036854775807 := by unfold maxLen at hs; omega
  obtain ⟨kb, Hkb⟩ : ∃ b : Bool, Hid (b = keyR s) := ⟨_, rfl⟩
  have HKY : Hid (Calls Tryz.prog 33 #[.string s] w fun r w' => r = .returned (.bool kb) ∧ w' = w) := by rw [Hkb.out]; exact rkey_ok w s hsz
  have HCE := hid h.cells
  rw [← Hkb.out]
  have hm16 := h.ring.m16
  have hm1 := h.ring.m1
  have hn1 := h.ring.n1
  have hp1 := h.p1
  have hpn := h.pn
  obtain ⟨q, Hq⟩ : ∃ q, Hid (q = rg.hashN (rg.strN s) % rr) := ⟨_, rfl⟩
  have hqr : q < rr := by rw [Hq.out]; exact Nat.mod_lt _ hm1
  have HRN : Hid (∀ W, Apart [] w W → Calls Tryz.prog 22 #[.pointer (some ⟨G.R, 0, none⟩), .string s] W fun r w' => r = .returned (.int .i64 (q : Nat)) ∧ Apart [] W w') := fun W a => (rg.range_ok (HS.out.ring.kept0 (ar a)) s hsz).mono (fun r w' ⟨e, b⟩ => ⟨by rw [Hq.out]; exact e, ra b⟩)
  have HPF : Hid (∀ W, Apart [] w W → Calls Tryz.prog 21 #[.pointer (some ⟨G.R, 0, none⟩), .int .i64 (q : Nat), .int .i64 (pp : Nat)] W fun r w' => ∃ P o cap, r = .returned (.tuple #[.slice (some ⟨P, o, none⟩) pp cap, .int .i64 0]) ∧ Apart [] W w' ∧ W.heap.size ≤ P ∧ Ird w' (some ⟨P, o, none⟩) pp (prefK nn rr pp s)) := fun W a => (rg.pref_ok (HS.out.ring.kept0 (ar a)) q hqr pp hp1 hpn).mono (fun r w' hp => by
    obtain ⟨P, o, cap, e, hP, b, ob⟩ := hp.ex
    refine ⟨P, o, cap, e, ra b, hP, ?_⟩
    unfold prefK
    rw [← Hq.out]
    exact Ob_ird ob)
  have HEX : Hid (∃ y ∈ lk, y ∈ prefK nn rr pp s) := by
    unfold Hid prefK
    rw [← Hq.out]
    have hl := rg.ord_len nn (by omega) q (by omega)
    have hl0 : 0 < (rg.ord nn q).length := by omega
    have hlt := ord_below nn (by omega) q (by omega) _ (List.getElem_mem hl0)
    refine ⟨((rg.ord nn q)[0] : Nat), (HS.out.lm _).2 ⟨by omega, by omega⟩, ?_⟩
    unfold rg.ints
    rw [List.mem_map]
    exact ⟨(rg.ord nn q)[0], by rw [List.mem_take_iff_getElem]; exact ⟨0, by omega, rfl⟩, rfl⟩
  clear h hs hqr
  go_enter Tryz.func23, Tryz.ntmps23
  go_wp2_with fail
  refine HKY.out.mono ?_
  rintro _ wn ⟨rfl, hwn⟩
  rw [hwn]
  clear hwn wn
  try dsimp only
  cases kb with
  | false =>
    go_wp2_with fail
    go_ret2
    unfold NextP
    exact ⟨fun _ => rfl, fun hh => (by cases hh), Apart.refl _ _⟩
  | true =>
    go_upto_region 3 with fail
    go_cut [6, 7] from 12 to 30 (fun s6 s7 wx => ∃ B, s6 = .pointer (some ⟨B, 0, none⟩) ∧ s7 = .int .i64 0 ∧ Hid (Nx w wx B (prefK nn rr pp s) pp))
    case first =>
      have hAd : Apart [] w w.drew := (Apart.refl [] w).drew
      refine wp_region_held_drew (S := fun W => Apart [] w W) (by kernel_rfl) hAd (fun hHeld => ?_)
      generalize w.drew = wd at *
      clear hAd
      refine tk 0 13 (.pointer (some ⟨G.S, 0, none⟩)) rfl ?_ ?_
      · intro W hSW; go_simp
      simp only [Act.put, List.setIfInBounds_toArray, List.set_cons_zero, List.set_cons_succ]
      refine tk 1 14 (.pointer (some ⟨G.S, 0, none⟩)) rfl ?_ ?_
      · intro W hSW; go_simp
      simp only [Act.put, List.setIfInBounds_toArray, List.set_cons_zero, List.set_cons_succ]
      refine tk 2 15 (.pointer (some ⟨G.S, 9, none⟩)) rfl ?_ ?_
      · intro W hSW; go_simp
      simp only [Act.put, List.setIfInBounds_toArray, List.set_cons_zero, List.set_cons_succ]
      refine tk 3 16 (.pointer (some ⟨G.R, 0, none⟩)) rfl ?_ ?_
      · intro W hSW; obtain ⟨z1, z9, z10, z11⟩ := HCE.out W hSW; go_simp
      simp only [Act.put, List.setIfInBounds_toArray, List.set_cons_zero, List.set_cons_succ]
      refine tk 4 17 (.pointer (some ⟨G.S, 0, none⟩)) rfl ?_ ?_
      · intro W hSW; go_simp
      simp only [Act.put, List.setIfInBounds_toArray, List.set_cons_zero, List.set_cons_succ]
      refine tk 5 18 (.pointer (some ⟨G.S, 0, none⟩)) rfl ?_ ?_
      · intro W hSW; go_simp
      simp only [Act.put, List.setIfInBounds_toArray, List.set_cons_zero, List.set_cons_succ]
      refine tk 6 19 (.pointer (some ⟨G.S, 9, none⟩)) rfl ?_ ?_
      · intro W hSW; go_simp
      simp only [Act.put, List.setIfInBounds_toArray, List.set_cons_zero, List.set_cons_succ]
      refine tk 7 20 (.pointer (some ⟨G.R, 0, none⟩)) rfl ?_ ?_
      · intro W hSW; obtain ⟨z1, z9, z10, z11⟩ := HCE.out W hSW; go_simp
      simp only [Act.put, List.setIfInBounds_toArray, List.set_cons_zero, List.set_cons_succ]
      refine tk 8 21 (.string s) rfl ?_ ?_
      · intro W hSW; go_simp
      simp only [Act.put, List.setIfInBounds_toArray, List.set_cons_zero, List.set_cons_succ]
      refine tk 10 23 (.pointer (some ⟨G.S, 0, none⟩)) rfl ?_ ?_
      · intro W hSW; go_simp
      simp only [Act.put, List.setIfInBounds_toArray, List.set_cons_zero, List.set_cons_succ]
      refine tk 11 24 (.pointer (some ⟨G.S, 0, none⟩)) rfl ?_ ?_
      · intro W hSW; go_simp
      simp only [Act.put, List.setIfInBounds_toArray, List.set_cons_zero, List.set_cons_succ]
      refine tk 12 25 (.pointer (some ⟨G.S, 0, none⟩)) rfl ?_ ?_
      · intro W hSW; go_simp
      simp only [Act.put, List.setIfInBounds_toArray, List.set_cons_zero, List.set_cons_succ]
      refine tk 13 26 (.pointer (some ⟨G.S, 1, none⟩)) rfl ?_ ?_
      · intro W hSW; go_simp
      simp only [Act.put, List.setIfInBounds_toArray, List.set_cons_zero, List.set_cons_succ]
      refine tk 14 27 (.int .i64 (pp : Nat)) rfl ?_ ?_
      · intro W hSW; obtain ⟨z1, z9, z10, z11⟩ := HCE.out W hSW; go_simp
      simp only [Act.put, List.setIfInBounds_toArray, List.set_cons_zero, List.set_cons_succ]
      refine wpAnyH_ready (rs := [9, 19]) (by kernel_rfl) (by simp) ?_
      refine AllReadyH.cons rfl (fun KK hKK => ?_) (AllReadyH.cons rfl (fun KK hKK => ?_) AllReadyH.nil)
      · skip
        go_simp
        refine (HRN.out wd hHeld).mono ?_
        rintro _ x0 ⟨rfl, b0⟩
        have hHx := hHeld.trans b0
        try dsimp only
        refine hKK.out _ _ hHx (fun hHeld => ?_)
        clear hKK KK
        try simp only [Act.put, List.setIfInBounds_toArray, List.set_cons_zero, List.set_cons_succ]
        clear hHx
        refine wpAnyH_ready (rs := [15, 19]) (by kernel_rfl) (by simp) ?_
        refine AllReadyH.cons rfl (fun KK hKK => ?_) (AllReadyH.cons rfl (fun KK hKK => ?_) AllReadyH.nil)
        · skip
          go_simp
          refine (HPF.out x0 hHeld).mono ?_
          rintro _ x1 ⟨P, o, cap, rfl, b1, hPn, hird⟩
          have hHx := hHeld.trans b1
          try dsimp only
          refine hKK.out _ _ hHx (fun hHeld => ?_)
          clear hKK KK
          try simp only [Act.put, List.setIfInBounds_toArray, List.set_cons_zero, List.set_cons_succ]
          clear hHx
          refine tk 16 12 (.tuple #[.slice (some ⟨P, o, none⟩) pp cap, .int .i64 0]) rfl ?_ ?_
          · intro W hSW; go_simp
          simp only [Act.put, List.setIfInBounds_toArray, List.set_cons_zero, List.set_cons_succ]
          refine tk 17 29 (.slice (some ⟨P, o, none⟩) pp cap) rfl ?_ ?_
          · intro W hSW; go_simp
          simp only [Act.put, List.setIfInBounds_toArray, List.set_cons_zero, List.set_cons_succ]
          refine tk 18 30 (.int .i64 0) rfl ?_ ?_
          · intro W hSW; go_simp
          simp only [Act.put, List.setIfInBounds_toArray, List.set_cons_zero, List.set_cons_succ]
          refine wpAnyH_ready (rs := [19]) (by kernel_rfl) (by simp) ?_
          refine AllReadyH.cons rfl (fun KK hKK => ?_) AllReadyH.nil
          obtain ⟨x2, hx2⟩ : ∃ V, V = x1.alloc (.cells #[.slice none 0 0] 54) := ⟨_, rfl⟩
          obtain ⟨B, HB⟩ : ∃ B, Hid (B = x1.heap.size) := ⟨_, rfl⟩
          have b2 : Apart [] x1 x2 := by rw [hx2]; exact (Apart.refl [] x1).alloc _
          have hbx : x2.heap[B]? = some (.cells #[.slice none 0 0] 54 (0, 0)) := by rw [hx2, HB.out]; exact heap_alloc_new x1 _
          have nB : w.heap.size ≤ B := by rw [HB.out]; exact hHeld.size
          have hPB : P ≠ B := by obtain ⟨P2, o2, e2, hP2, -⟩ := hird.rd (by omega); simp at e2; rw [e2.1, HB.out]; omega
          replace hird := hird.kept0 b2
          have hHx := hHeld.trans b2
          go_simp
          rw [← hx2, ← HB.out]
          clear hx2 HB b2
          refine hKK.out _ _ hHx (fun hHeld => ?_)
          clear hKK KK
          try simp only [Act.put, List.setIfInBounds_toArray, List.set_cons_zero, List.set_cons_succ]
          clear hHx
          have q0 := crow hbx 0 (.slice none 0 0) rfl
          have f0 := frozen_of_row _ _ 0 _ _ hbx
          obtain ⟨w6, hw6⟩ : ∃ V, V = x2.setCell ⟨B, 0, none⟩ (.slice (some ⟨P, o, none⟩) pp cap) := ⟨_, rfl⟩
          have a6 : Apart [B] x2 w6 := by rw [hw6]; exact (Apart.refl _ _).setCell (.inl (by simp)) _
          have h6 : w6.heap[B]? = some (.cells #[.slice (some ⟨P, o, none⟩) pp cap] 54 (0, 0)) := by rw [hw6]; have := heap_setCell_same x2 B 0 _ 54 (.slice (some ⟨P, o, none⟩) pp cap) hbx; simpa using this
          have hE : Nx w w6 B (prefK nn rr pp s) pp := ⟨hHeld.trans' a6 (fun y hy => .inr (by simp at hy; subst hy; exact nB)), _, cap, h6, hird.len, fun h0 => by
            obtain ⟨P', o', e, hP', hc⟩ := hird.rd h0
            simp at e
            refine ⟨P', o', by rw [e.1, e.2], Nat.lt_of_lt_of_le hP' a6.size, fun i hi => (a6.cell (p := ⟨P', o' + i, none⟩) hP' (by simp; rw [← e.1]; exact hPB)).trans (hc i hi)⟩⟩
          refine wpAnyH_ready (rs := [20]) (by kernel_rfl) (by simp) ?_
          refine AllReadyH.cons rfl (fun KK hKK => ?_) AllReadyH.nil
          go_simp
          rw [← hw6]
          clear hw6 q0 f0 a6 h6
          refine hKK.out _ _ hE.ap (fun hHeld => ?_)
          clear hKK KK
          try simp only [Act.put, List.setIfInBounds_toArray, List.set_cons_zero, List.set_cons_succ]
          refine tk 21 7 (.int .i64 0) rfl ?_ ?_
          · intro W hSW; go_simp
          simp only [Act.put, List.setIfInBounds_toArray, List.set_cons_zero, List.set_cons_succ]
          refine wpAnyH_done (by kernel_rfl) ?_ _
          clear hHeld
          go_wp2_with fail
          go_meet
          exact ⟨B, rfl, rfl, hid hE⟩
        · skip
          obtain ⟨x1, hx1⟩ : ∃ V, V = x0.alloc (.cells #[.slice none 0 0] 54) := ⟨_, rfl⟩
          obtain ⟨B, HB⟩ : ∃ B, Hid (B = x0.heap.size) := ⟨_, rfl⟩
          have b1 : Apart [] x0 x1 := by rw [hx1]; exact (Apart.refl [] x0).alloc _
          have hbx : x1.heap[B]? = some (.cells #[.slice none 0 0] 54 (0, 0)) := by rw [hx1, HB.out]; exact heap_alloc_new x0 _
          have nB : w.heap.size ≤ B := by rw [HB.out]; exact hHeld.size
          have hHx := hHeld.trans b1
          go_simp
          rw [← hx1, ← HB.out]
          clear hx1 HB b1
          refine hKK.out _ _ hHx (fun hHeld => ?_)
          clear hKK KK
          try simp only [Act.put, List.setIfInBounds_toArray, List.set_cons_zero, List.set_cons_succ]
          clear hHx
          refine wpAnyH_ready (rs := [15]) (by kernel_rfl) (by simp) ?_
          refine AllReadyH.cons rfl (fun KK hKK => ?_) AllReadyH.nil
          go_simp
          refine (HPF.out x1 hHeld).mono ?_
          rintro _ x2 ⟨P, o, cap, rfl, b2, hPn, hird⟩
          have hHx := hHeld.trans b2
          try dsimp only
          have hPB : P ≠ B := by have := lt_of_heap hbx; omega
          replace hbx := keep0 b2 hbx
          refine hKK.out _ _ hHx (fun hHeld => ?_)
          clear hKK KK
          try simp only [Act.put, List.setIfInBounds_toArray, List.set_cons_zero, List.set_cons_succ]
          clear hHx
          refine tk 16 12 (.tuple #[.slice (some ⟨P, o, none⟩) pp cap, .int .i64 0]) rfl ?_ ?_
          · intro W hSW; go_simp
          simp only [Act.put, List.setIfInBounds_toArray, List.set_cons_zero, List.set_cons_succ]
          refine tk 17 29 (.slice (some ⟨P, o, none⟩) pp cap) rfl ?_ ?_
          · intro W hSW; go_simp
          simp only [Act.put, List.setIfInBounds_toArray, List.set_cons_zero, List.set_cons_succ]
          refine tk 18 30 (.int .i64 0) rfl ?_ ?_
          · intro W hSW; go_simp
          simp only [Act.put, List.setIfInBounds_toArray, List.set_cons_zero, List.set_cons_succ]
          have q0 := crow hbx 0 (.slice none 0 0) rfl
          have f0 := frozen_of_row _ _ 0 _ _ hbx
          obtain ⟨w6, hw6⟩ : ∃ V, V = x2.setCell ⟨B, 0, none⟩ (.slice (some ⟨P, o, none⟩) pp cap) := ⟨_, rfl⟩
          have a6 : Apart [B] x2 w6 := by rw [hw6]; exact (Apart.refl _ _).setCell (.inl (by simp)) _
          have h6 : w6.heap[B]? = some (.cells #[.slice (some ⟨P, o, none⟩) pp cap] 54 (0, 0)) := by rw [hw6]; have := heap_setCell_same x2 B 0 _ 54 (.slice (some ⟨P, o, none⟩) pp cap) hbx; simpa using this
          have hE : Nx w w6 B (prefK nn rr pp s) pp := ⟨hHeld.trans' a6 (fun y hy => .inr (by simp at hy; subst hy; exact nB)), _, cap, h6, hird.len, fun h0 => by
            obtain ⟨P', o', e, hP', hc⟩ := hird.rd h0
            simp at e
            refine ⟨P', o', by rw [e.1, e.2], Nat.lt_of_lt_of_le hP' a6.size, fun i hi => (a6.cell (p := ⟨P', o' + i, none⟩) hP' (by simp; rw [← e.1]; exact hPB)).trans (hc i hi)⟩⟩
          refine wpAnyH_ready (rs := [20]) (by kernel_rfl) (by simp) ?_
          refine AllReadyH.cons rfl (fun KK hKK => ?_) AllReadyH.nil
          go_simp
          rw [← hw6]
          clear hw6 q0 f0 a6 h6
          refine hKK.out _ _ hE.ap (fun hHeld => ?_)
          clear hKK KK
          try simp only [Act.put, List.setIfInBounds_toArray, List.set_cons_zero, List.set_cons_succ]
          refine tk 21 7 (.int .i64 0) rfl ?_ ?_
          · intro W hSW; go_simp
          simp only [Act.put, List.setIfInBounds_toArray, List.set_cons_zero, List.set_cons_succ]
          refine wpAnyH_done (by kernel_rfl) ?_ _
          clear hHeld
          go_wp2_with fail
          go_meet
          exact ⟨B, rfl, rfl, hid hE⟩
      · skip
        obtain ⟨x0, hx0⟩ : ∃ V, V = wd.alloc (.cells #[.slice none 0 0] 54) := ⟨_, rfl⟩
        obtain ⟨B, HB⟩ : ∃ B, Hid (B = wd.heap.size) := ⟨_, rfl⟩
        have b0 : Apart [] wd x0 := by rw [hx0]; exact (Apart.refl [] wd).alloc _
        have hbx : x0.heap[B]? = some (.cells #[.slice none 0 0] 54 (0, 0)) := by rw [hx0, HB.out]; exact heap_alloc_new wd _
        have nB : w.heap.size ≤ B := by rw [HB.out]; exact hHeld.size
        have hHx := hHeld.trans b0
        go_simp
        rw [← hx0, ← HB.out]
        clear hx0 HB b0
        refine hKK.out _ _ hHx (fun hHeld => ?_)
        clear hKK KK
        try simp only [Act.put, List.setIfInBounds_toArray, List.set_cons_zero, List.set_cons_succ]
        clear hHx
        refine wpAnyH_ready (rs := [9]) (by kernel_rfl) (by simp) ?_
        refine AllReadyH.cons rfl (fun KK hKK => ?_) AllReadyH.nil
        go_simp
        refine (HRN.out x0 hHeld).mono ?_
        rintro _ x1 ⟨rfl, b1⟩
        have hHx := hHeld.trans b1
        try dsimp only
        replace hbx := keep0 b1 hbx
        refine hKK.out _ _ hHx (fun hHeld => ?_)
        clear hKK KK
        try simp only [Act.put, List.setIfInBounds_toArray, List.set_cons_zero, List.set_cons_succ]
        clear hHx
        refine wpAnyH_ready (rs := [15]) (by kernel_rfl) (by simp) ?_
        refine AllReadyH.cons rfl (fun KK hKK => ?_) AllReadyH.nil
        go_simp
        refine (HPF.out x1 hHeld).mono ?_
        rintro _ x2 ⟨P, o, cap, rfl, b2, hPn, hird⟩
        have hHx := hHeld.trans b2
        try dsimp only
        have hPB : P ≠ B := by have := lt_of_heap hbx; omega
        replace hbx := keep0 b2 hbx
        refine hKK.out _ _ hHx (fun hHeld => ?_)
        clear hKK KK
        try simp only [Act.put, List.setIfInBounds_toArray, List.set_cons_zero, List.set_cons_succ]
        clear hHx
        refine tk 16 12 (.tuple #[.slice (some ⟨P, o, none⟩) pp cap, .int .i64 0]) rfl ?_ ?_
        · intro W hSW; go_simp
        simp only [Act.put, List.setIfInBounds_toArray, List.set_cons_zero, List.set_cons_succ]
        refine tk 17 29 (.slice (some ⟨P, o, none⟩) pp cap) rfl ?_ ?_
        · intro W hSW; go_simp
        simp only [Act.put, List.setIfInBounds_toArray, List.set_cons_zero, List.set_cons_succ]
        refine tk 18 30 (.int .i64 0) rfl ?_ ?_
        · intro W hSW; go_simp
        simp only [Act.put, List.setIfInBounds_toArray, List.set_cons_zero, List.set_cons_succ]
        have q0 := crow hbx 0 (.slice none 0 0) rfl
        have f0 := frozen_of_row _ _ 0 _ _ hbx
        obtain ⟨w6, hw6⟩ : ∃ V, V = x2.setCell ⟨B, 0, none⟩ (.slice (some ⟨P, o, none⟩) pp cap) := ⟨_, rfl⟩
        have a6 : Apart [B] x2 w6 := by rw [hw6]; exact (Apart.refl _ _).setCell (.inl (by simp)) _
        have h6 : w6.heap[B]? = some (.cells #[.slice (some ⟨P, o, none⟩) pp cap] 54 (0, 0)) := by rw [hw6]; have := heap_setCell_same x2 B 0 _ 54 (.slice (some ⟨P, o, none⟩) pp cap) hbx; simpa using this
        have hE : Nx w w6 B (prefK nn rr pp s) pp := ⟨hHeld.trans' a6 (fun y hy => .inr (by simp at hy; subst hy; exact nB)), _, cap, h6, hird.len, fun h0 => by
          obtain ⟨P', o', e, hP', hc⟩ := hird.rd h0
          simp at e
          refine ⟨P', o', by rw [e.1, e.2], Nat.lt_of_lt_of_le hP' a6.size, fun i hi => (a6.cell (p := ⟨P', o' + i, none⟩) hP' (by simp; rw [← e.1]; exact hPB)).trans (hc i hi)⟩⟩
        refine wpAnyH_ready (rs := [20]) (by kernel_rfl) (by simp) ?_
        refine AllReadyH.cons rfl (fun KK hKK => ?_) AllReadyH.nil
        go_simp
        rw [← hw6]
        clear hw6 q0 f0 a6 h6
        refine hKK.out _ _ hE.ap (fun hHeld => ?_)
        clear hKK KK
        try simp only [Act.put, List.setIfInBounds_toArray, List.set_cons_zero, List.set_cons_succ]
        refine tk 21 7 (.int .i64 0) rfl ?_ ?_
        · intro W hSW; go_simp
        simp only [Act.put, List.setIfInBounds_toArray, List.set_cons_zero, List.set_cons_succ]
        refine wpAnyH_done (by kernel_rfl) ?_ _
        clear hHeld
        go_wp2_with fail
        go_meet
        exact ⟨B, rfl, rfl, hid hE⟩
    obtain ⟨B, rfl, rfl, HN⟩ := hcut
    generalize wc = w4 at *
    obtain ⟨p, cap, hB, hI⟩ := HN.out.ex
    obtain ⟨-, -, z10, -⟩ := HCE.out w4 HN.out.ap
    have hli := HS.out.li.ird.kept0 HN.out.ap
    rw [HS.out.ll] at hli
    have HQ := hid (index43 (c := G.cap) hB hI (by omega) hli (by omega) HEX.out)
    have HLI := hid hli
    clear hI hli hB
    go_wp2_with fail
    refine HQ.out.mono ?_
    rintro _ wn ⟨⟨i, hi, rfl, hfi⟩, hwn⟩
    rw [hwn]
    clear hwn wn
    have hin : i < nn := by rw [← HS.out.ll]; exact hi
    have hini : ((i : Nat) : Int) < (nn : Int) := by omega
    obtain ⟨P, o, hP, -, hc⟩ := HLI.out.rd (by omega)
    simp at hP
    obtain ⟨hP1, hP2⟩ := hP
    subst hP2
    have c1 := hc i hi
    rw [← hP1, Nat.zero_add] at c1
    clear hP1
    have HFI := hid hfi
    clear hc hfi HQ
    try dsimp only
    go_wp2_with fail
    go_ret2
    unfold NextP
    exact ⟨fun hh => (by cases hh), fun _ => ⟨_, rfl, HFI.out⟩, HN.out.ap⟩
end Go.Proofs.YtpddokbjjhbfgaaGreat.ds
