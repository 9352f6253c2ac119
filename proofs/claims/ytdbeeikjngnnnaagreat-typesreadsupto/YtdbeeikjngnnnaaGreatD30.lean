import Derived.Test.YtdbeeikjngnnnaaGreatChecked
import Derived.WalkKit
import Derived.ProofKit
import Derived.OpenShut
import Derived.Deep.QuietTactic
import Derived.BigQuiet
import Derived.BigRegion
import Derived.Laws.CopyOwn
import Derived.Laws.IdiomCopy
import Derived.WalkSmall
import Derived.Laws.ResultCell
import Derived.Laws.AppendOwnNone
import Derived.Deep.RegionHeld
import Derived.Deep.DeepAppendRoom
import Derived.Great.BuildSlice
import Derived.Deep.CutBlock
import Derived.Deep.RegionLaw
import Derived.ArgAppend
import Derived.Laws.Strings
import Derived.Laws.StructEq
import Derived.Below
import Derived.Deep.MidRow
import Derived.Great.Ranges
import Derived.Deep.RegionHeld3
import Derived.Laws.NewBlocks
import Derived.OrdersHeld
import Derived.Stop.BytesEq
import Derived.Laws.BytesString
import Derived.Lib.ConvBytes
import Derived.Laws.BitsAllLaws
import Derived.WalkLawsBesides
import Derived.Lib.Bytealg
import Derived.Laws.Externs
import Derived.Lib.SliceRun
import Derived.Lib.AppendZerosOnto
import Derived.Lib.AppendStr
import Derived.Lib.SlBytesConst
import Derived.Sort.Walk0
import Derived.Laws.Cover1
import Derived.Lib.Strings
import Derived.Lib.MinMaxS
import GoSem.Claim
import GoSem.ClaimJoined
import GoSem.ClaimMapViews
import Derived.JoinedTies
import Derived.KernelRfl
import Derived.JoinedCond
import Derived.ShutString
import Derived.ChangeOld
import Derived.Carry
import Derived.ChangeSlices
import Derived.Deep.Slices
import Derived.Deep.DeepHandedRow
import Derived.RowKit
import Derived.ChangeShapes
import Derived.SizedLaws
import Derived.ChangeMaps5
import Derived.Sort.WalkA
import Derived.Test.YtdbeeikjngnnnaaGreatRows
import Derived.Test.YtdbeeikjngnnnaaGreatD22
namespace Go.Proofs.YtdbeeikjngnnnaaGreat.ty
open Go.ChangeShapes Go.WideShapes Go.ChangeAt Go.RowKit
set_option linter.unusedVariables false
set_option linter.unusedSimpArgs false
/-- a reader in memory, over bytes that lie in wB -/
structure Dr (wB w : World) (R : Nat) (s : Sl) (bs : List Nat) (a : Nat) (bad : Bool) : Prop where
  blk : w.heap[R]? = some (.cells #[.slice s.p s.n s.c, .int .i64 (a : Int), .bool bad] 134 (0, 0))
  new : wB.heap.size ≤ R
  ap : Apart [] wB w
  rd : Rd wB s.p (byts bs)
  len : bs.length = s.n
  ok : s.ok
  u8 : U8 bs
  le : bs.length ≤ 64
  at_ : a ≤ bs.length
theorem Dr.kept0 {wB w w' : World} {R : Nat} {s : Sl} {bs : List Nat} {a : Nat} {bad : Bool} (h : Dr wB w R s bs a bad) (k : Apart [] w w') : Dr wB w' R s bs a bad := ⟨keep0 k h.blk, h.new, h.ap.trans k, h.rd, h.len, h.ok, h.u8, h.le, h.at_⟩
theorem Dr.kept {wB w w' : World} {R : Nat} {s : Sl} {bs : List Nat} {a : Nat} {bad : Bool} {X : List Nat} (h : Dr wB w R s bs a bad) (k : Apart X w w') (hR : R ∉ X) (hX : ∀ x ∈ X, wB.heap.size ≤ x) : Dr wB w' R s bs a bad := ⟨(k.block R (lt_of_heap h.blk) hR).trans h.blk, h.new, h.ap.trans' k (fun y hy => .inr (hX y hy)), h.rd, h.len, h.ok, h.u8, h.le, h.at_⟩
theorem Dr.c0 {wB w : World} {R : Nat} {s : Sl} {bs : List Nat} {a : Nat} {bad : Bool} (h : Dr wB w R s bs a bad) : w.cell? ⟨R, 0, none⟩ = some (.slice s.p s.n s.c) := by rw [cell_of_row _ _ _ _ _ _ h.blk]; rfl
theorem Dr.c1 {wB w : World} {R : Nat} {s : Sl} {bs : List Nat} {a : Nat} {bad : Bool} (h : Dr wB w R s bs a bad) : w.cell? ⟨R, 1, none⟩ = some (.int .i64 (a : Int)) := by rw [cell_of_row _ _ _ _ _ _ h.blk]; rfl
theorem Dr.c2 {wB w : World} {R : Nat} {s : Sl} {bs : List Nat} {a : Nat} {bad : Bool} (h : Dr wB w R s bs a bad) : w.cell? ⟨R, 2, none⟩ = some (.bool bad) := by rw [cell_of_row _ _ _ _ _ _ h.blk]; rfl
theorem Dr.fr {wB w : World} {R : Nat} {s : Sl} {bs : List Nat} {a : Nat} {bad : Bool} (h : Dr wB w R s bs a bad) (i : Nat) : w.frozen? ⟨R, i, none⟩ = false := frozen_of_row _ _ _ _ _ h.blk
theorem Dr.setAt {wB w : World} {R : Nat} {s : Sl} {bs : List Nat} {a : Nat} {bad : Bool} (h : Dr wB w R s bs a bad) {b : Nat} (hb : b ≤ bs.length) : Dr wB (w.setCell ⟨R, 1, none⟩ (.int .i64 (b : Int))) R s bs b bad := ⟨by
  rw [heap_setCell_same _ _ _ _ _ _ h.blk]; rfl, h.new, h.ap.setCell (.inr h.new) _, h.rd, h.len, h.ok, h.u8, h.le, hb⟩
theorem Dr.setBad {wB w : World} {R : Nat} {s : Sl} {bs : List Nat} {a : Nat} {bad : Bool} (h : Dr wB w R s bs a bad) : Dr wB (w.setCell ⟨R, 2, none⟩ (.bool true)) R s bs a true := ⟨by
  rw [heap_setCell_same _ _ _ _ _ _ h.blk]; rfl, h.new, h.ap.setCell (.inr h.new) _, h.rd, h.len, h.ok, h.u8, h.le, h.at_⟩
def dnum (bs : List Nat) (a k : Nat) : Nat := if a + k ≤ bs.length then leV ((bs.drop a).take k) else 0
def dat (bs : List Nat) (a k : Nat) : Nat := if a + k ≤ bs.length then a + k else bs.length
def dbad (bs : List Nat) (a k : Nat) : Bool := decide (bs.length < a + k)
theorem dat_le (bs : List Nat) (a k : Nat) : dat bs a k ≤ bs.length := by unfold dat; split <;> omega
theorem dnum_lt {bs : List Nat} (h : U8 bs) (a k : Nat) : dnum bs a k < 2 ^ (8 * k) := by
  unfold dnum
  split
  · refine Nat.lt_of_lt_of_le (leV_lt (fun x hx => h x (List.mem_of_mem_drop (List.mem_of_mem_take hx)))) (Nat.pow_le_pow_right (by omega) ?_)
    rw [List.length_take]; omega
  · exact Nat.pow_pos (by omega)
end Go.Proofs.YtdbeeikjngnnnaaGreat.ty
namespace Go.Proofs.YtdbeeikjngnnnaaGreat.ty
open Go.ChangeShapes Go.WideShapes Go.ChangeAt Go.RowKit
set_option linter.unusedVariables false
set_option linter.unusedSimpArgs false
theorem take_snoc {l : List Nat} {i : Nat} (h : i < l.length) : l.take (i + 1) = l.take i ++ [l[i]] := List.take_succ_eq_append_getElem h
set_option maxHeartbeats 4000000 in
set_option maxRecDepth 100000 in
/-- the document's number -/
theorem dnumber_ok {wB w : World} {R : Nat} {s : Sl} {bs : List Nat} {a : Nat} {bad : Bool} (h : Dr wB w R s bs a bad) {k : Nat} (hk : k ≤ 3) : Calls Tryz.prog 62 #[.pointer (some ⟨R, 0, none⟩), .int .i64 (k : Int)] w fun x w' => x = .returned (.int .i64 ((dnum bs a k : Nat) : Int)) ∧ Dr wB w' R s bs (dat bs a k) (bad || dbad bs a k) ∧ Apart [R] w w' := by
  have H0 : Hid (Dr wB w R s bs (a + 0) bad) := hid h
  have Hk := hid hk
  have HR0 := hid h
  obtain ⟨N, HN⟩ : ∃ N, Hid (N = bs.length) := ⟨_, hid rfl⟩
  have HsN : Hid (s.n = N) := hid (by rw [HN.out]; exact h.len.symm)
  have HaN : Hid (a ≤ N) := hid (by rw [HN.out]; exact h.at_)
  have HN64 : Hid (N ≤ 64) := hid (by rw [HN.out]; exact h.le)
  have HA0 := hid (Apart.refl [R] w)
  clear h
  go_enter Tryz.func62, Tryz.ntmps62
  go_upto_region 4 with fail
  go_loopw [5, 6, 7] (fun v5 v6 v7 wt => ∃ i nn uu : Nat, v5 = .int .i64 (nn : Int) ∧ v6 = .int .i64 (uu : Int) ∧ v7 = .int .i64 (i : Int) ∧ i ≤ k ∧ Hid (nn = leV ((bs.drop a).take i)) ∧ Hid (uu = 2 ^ (8 * i)) ∧ Hid (a + i ≤ N) ∧ Hid (Dr wB wt R s bs (a + i) bad) ∧ Hid (Apart [R] w wt)) (fun _ _ v7 _ => k - natV v7)
  case atStart => exact ⟨0, 0, 1, rfl, rfl, rfl, Nat.zero_le _, hid (by simp [leV]), hid rfl, hid (by have := HaN.out; omega), H0, HA0⟩
  case round =>
    clear H0 HA0
    obtain ⟨i, nn, uu, rfl, rfl, rfl, hik, Hn, Hu, HaI, HD, HA⟩ := hrel
    generalize wr = wt at *
    by_cases hlt : i < k
    · have hlti : ((i : Nat) : Int) < ((k : Nat) : Int) := by omega
      have Hlt := hid hlt
      obtain ⟨q, Hq⟩ : ∃ q, Hid (q = a + i) := ⟨_, hid rfl⟩
      rw [← Hq.out] at HD HaI
      have HRl := hid (lt_of_heap HD.out.blk)
      have Hc0 : Hid (wt.cell? ⟨R, 0, none⟩ = some (.slice s.p N s.c)) := hid (by rw [HD.out.c0, HsN.out])
      have Hc1 := hid HD.out.c1
      obtain ⟨ge, Hgee⟩ : ∃ b, Hid (b = decide (N ≤ q)) := ⟨_, hid rfl⟩
      have Hge : Hid (decide (N ≤ q) = ge) := hid Hgee.out.symm
      go_upto_region 6 with fail
      go_cut [22] from 13 to 22 (fun v wx => v = .bool ge ∧ Apart [] wt wx)
      case first =>
        have hAd : Apart [] wt wt.drew := (Apart.refl [] wt).drew
        refine wp_region_held_drew (S := fun W => Apart [] wt W) (by kernel_rfl) hAd (fun hHeld => ?_)
        generalize wt.drew = wd at *
        clear hAd
        refine tk 0 13 (.pointer (some ⟨R, 0, none⟩)) rfl ?_ ?_
        · intro W hSW; go_simp
        simp only [Act.put, List.setIfInBounds_toArray, List.set_cons_zero, List.set_cons_succ]
        refine tk 1 14 (.pointer (some ⟨R, 0, none⟩)) rfl ?_ ?_
        · intro W hSW; go_simp
        simp only [Act.put, List.setIfInBounds_toArray, List.set_cons_zero, List.set_cons_succ]
        refine tk 2 15 (.pointer (some ⟨R, 1, none⟩)) rfl ?_ ?_
        · intro W hSW; go_simp
        simp only [Act.put, List.setIfInBounds_toArray, List.set_cons_zero, List.set_cons_succ]
        refine tk 3 16 (.int .i64 (q : Nat)) rfl ?_ ?_
        · intro W hSW; have z : W.cell? ⟨R, 1, none⟩ = some (.int .i64 (q : Nat)) := (hSW.cell HRl.out (by simp)).trans Hc1.out; go_simp
        simp only [Act.put, List.setIfInBounds_toArray, List.set_cons_zero, List.set_cons_succ]
        refine tk 4 17 (.pointer (some ⟨R, 0, none⟩)) rfl ?_ ?_
        · intro W hSW; go_simp
        simp only [Act.put, List.setIfInBounds_toArray, List.set_cons_zero, List.set_cons_succ]
        refine tk 5 18 (.pointer (some ⟨R, 0, none⟩)) rfl ?_ ?_
        · intro W hSW; go_simp
        simp only [Act.put, List.setIfInBounds_toArray, List.set_cons_zero, List.set_cons_succ]
        refine tk 6 19 (.pointer (some ⟨R, 0, none⟩)) rfl ?_ ?_
        · intro W hSW; go_simp
        simp only [Act.put, List.setIfInBounds_toArray, List.set_cons_zero, List.set_cons_succ]
        refine tk 7 20 (.slice s.p N s.c) rfl ?_ ?_
        · intro W hSW; have z : W.cell? ⟨R, 0, none⟩ = some (.slice s.p N s.c) := (hSW.cell HRl.out (by simp)).trans Hc0.out; go_simp
        simp only [Act.put, List.setIfInBounds_toArray, List.set_cons_zero, List.set_cons_succ]
        refine tk 8 21 (.int .i64 (N : Nat)) rfl ?_ ?_
        · intro W hSW; go_simp
        simp only [Act.put, List.setIfInBounds_toArray, List.set_cons_zero, List.set_cons_succ]
        refine tk 9 22 (.bool ge) rfl ?_ ?_
        · intro W hSW; have h := Hge.out; go_simp
        simp only [Act.put, List.setIfInBounds_toArray, List.set_cons_zero, List.set_cons_succ]
        refine wpAnyH_done (by kernel_rfl) ?_ _
        have HAt := hid hHeld
        clear hHeld
        go_wp2_with fail
        go_meet
        exact ⟨rfl, HAt.out⟩
      obtain ⟨rfl, apc⟩ := hcut
      have HD2 := hid (HD.out.kept0 apc)
      have HA2 := hid (HA.out.trans (apc.mono (by simp)))
      clear apc HD HA Hc0 Hc1 Hge
      generalize wc = w2 at *
      cases hge : ge
      case true =>
        have Hqn : Hid (q = N) := hid (by
          have h1 := Hgee.out
          rw [hge] at h1
          have h2 := of_decide_eq_true h1.symm
          have := HaI.out
          omega)
        have f2 := HD2.out.fr 2
        have z2 := HD2.out.c2
        have HDn := hid HD2.out.setBad
        have HAn : Hid (Apart [R] w (w2.setCell ⟨R, 2, none⟩ (.bool true))) := hid (HA2.out.setCell (.inl (by simp)) _)
        have Hov : Hid (bs.length < a + k) := hid (by have h1 := Hqn.out; have h2 := Hq.out; have h3 := Hlt.out; have h4 := HN.out; omega)
        have Hr : Hid (dnum bs a k = 0 ∧ dat bs a k = q ∧ (bad || dbad bs a k) = true) := hid ⟨by unfold dnum; rw [if_neg (by have := Hov.out; omega)], by unfold dat; rw [if_neg (by have := Hov.out; omega), ← HN.out, Hqn.out], by unfold dbad; rw [decide_eq_true Hov.out]; simp⟩
        go_wp2_with fail
        go_ret
        rw [Hr.out.1, Hr.out.2.1, Hr.out.2.2]
        exact ⟨rfl, HDn.out, HAn.out⟩
      case false =>
        have Hqn : Hid (q < N) := hid (by
          have h1 := Hgee.out
          rw [hge] at h1
          have h2 := of_decide_eq_false h1.symm
          omega)
        have Hqb : Hid (q < bs.length) := hid (by rw [← HN.out]; exact Hqn.out)
        obtain ⟨B, o, hp, hB, hc⟩ := HD2.out.rd (by rw [byts_len]; have := Hqb.out; omega)
        obtain ⟨x, Hxe⟩ : ∃ x, Hid (x = bs[q]'Hqb.out) := ⟨_, hid rfl⟩
        have hx0 : wB.cell? ⟨B, o + q, none⟩ = some (.int .u8 (x : Nat)) := hc q _ (by rw [Hxe.out]; simp [byts, Hqb.out])
        have HBl : Hid (B < w2.heap.size) := hid (Nat.lt_of_lt_of_le hB HD2.out.ap.size)
        have Hx : Hid (w2.cell? ⟨B, o + q, none⟩ = some (.int .u8 (x : Nat))) := hid ((HD2.out.ap.cell hB (by simp)).trans hx0)
        have Hx8 : Hid (x < 256) := hid (by rw [Hxe.out]; exact HD2.out.u8 _ (List.getElem_mem _))
        have HRl := hid (lt_of_heap HD2.out.blk)
        have Hc0 : Hid (w2.cell? ⟨R, 0, none⟩ = some (.slice (some ⟨B, o, none⟩) N s.c)) := hid (by rw [HD2.out.c0, HsN.out, hp])
        have Hc1 := hid HD2.out.c1
        have Hqi : Hid (((q : Nat) : Int) < ((N : Nat) : Int)) := hid (Int.ofNat_lt.2 Hqn.out)
        have Hi2 : Hid (i ≤ 2) := hid (by have := Hk.out; have := Hlt.out; omega)
        have Hub : Hid (uu ≤ 65536) := hid (by
          rw [Hu.out]
          have h1 : 2 ^ (8 * i) ≤ 2 ^ 16 := Nat.pow_le_pow_right (by omega) (by have := Hi2.out; omega)
          exact h1)
        have Hux : Hid (uu * x ≤ 16711680) := hid (by
          have h1 := Nat.mul_le_mul Hub.out (show x ≤ 255 by have := Hx8.out; omega)
          omega)
        have Hnb : Hid (nn < 16777216) := hid (by
          rw [Hn.out]
          have h1 := leV_lt (l := (bs.drop a).take i) (fun y hy => HD2.out.u8 y (List.mem_of_mem_drop (List.mem_of_mem_take hy)))
          have h2 : ((bs.drop a).take i).length ≤ 3 := by rw [List.length_take]; have := Hi2.out; omega
          have h3 : 2 ^ (8 * ((bs.drop a).take i).length) ≤ 2 ^ 24 := Nat.pow_le_pow_right (by omega) (by omega)
          omega)
        have Hxw : Hid (IntKind.i64.wrap ((x : Nat) : Int) = ((x : Nat) : Int)) := hid (by rw [IntKind.wrap_i64]; have := Hx8.out; omega)
        have Hmi : Hid ((uu : Int) * (x : Int) = ((uu * x : Nat) : Int)) := hid (Int.natCast_mul uu x).symm
        have Hmw : Hid (IntKind.i64.wrap ((uu : Int) * (x : Int)) = (uu : Int) * (x : Int)) := hid (by rw [Hmi.out, IntKind.wrap_i64]; have := Hux.out; omega)
        have Haw : Hid (IntKind.i64.wrap ((nn : Int) + (uu : Int) * (x : Int)) = (nn : Int) + (uu : Int) * (x : Int)) := hid (by rw [Hmi.out, IntKind.wrap_i64]; have := Hux.out; have := Hnb.out; omega)
        clear hp hB hc hx0
        go_upto_region 9 with fail
        have hAd : Apart [] w2 w2.drew := (Apart.refl [] w2).drew
        refine wp_region_held_drew (S := fun W => Apart [] w2 W) (by kernel_rfl) hAd (fun hHeld => ?_)
        generalize w2.drew = wd at *
        clear hAd
        refine tk 0 26 (.int .i64 (nn : Nat)) rfl ?_ ?_
        · intro W hSW; go_simp
        simp only [Act.put, List.setIfInBounds_toArray, List.set_cons_zero, List.set_cons_succ]
        refine tk 1 27 (.int .i64 (uu : Nat)) rfl ?_ ?_
        · intro W hSW; go_simp
        simp only [Act.put, List.setIfInBounds_toArray, List.set_cons_zero, List.set_cons_succ]
        refine tk 2 28 (.pointer (some ⟨R, 0, none⟩)) rfl ?_ ?_
        · intro W hSW; go_simp
        simp only [Act.put, List.setIfInBounds_toArray, List.set_cons_zero, List.set_cons_succ]
        refine tk 3 29 (.pointer (some ⟨R, 0, none⟩)) rfl ?_ ?_
        · intro W hSW; go_simp
        simp only [Act.put, List.setIfInBounds_toArray, List.set_cons_zero, List.set_cons_succ]
        refine tk 4 30 (.pointer (some ⟨R, 0, none⟩)) rfl ?_ ?_
        · intro W hSW; go_simp
        simp only [Act.put, List.setIfInBounds_toArray, List.set_cons_zero, List.set_cons_succ]
        refine tk 5 31 (.slice (some ⟨B, o, none⟩) N s.c) rfl ?_ ?_
        · intro W hSW; have z : W.cell? ⟨R, 0, none⟩ = some (.slice (some ⟨B, o, none⟩) N s.c) := (hSW.cell HRl.out (by simp)).trans Hc0.out; go_simp
        simp only [Act.put, List.setIfInBounds_toArray, List.set_cons_zero, List.set_cons_succ]
        refine tk 6 32 (.pointer (some ⟨R, 0, none⟩)) rfl ?_ ?_
        · intro W hSW; go_simp
        simp only [Act.put, List.setIfInBounds_toArray, List.set_cons_zero, List.set_cons_succ]
        refine tk 7 33 (.pointer (some ⟨R, 0, none⟩)) rfl ?_ ?_
        · intro W hSW; go_simp
        simp only [Act.put, List.setIfInBounds_toArray, List.set_cons_zero, List.set_cons_succ]
        refine tk 8 34 (.pointer (some ⟨R, 1, none⟩)) rfl ?_ ?_
        · intro W hSW; go_simp
        simp only [Act.put, List.setIfInBounds_toArray, List.set_cons_zero, List.set_cons_succ]
        refine tk 9 35 (.int .i64 (q : Nat)) rfl ?_ ?_
        · intro W hSW; have z : W.cell? ⟨R, 1, none⟩ = some (.int .i64 (q : Nat)) := (hSW.cell HRl.out (by simp)).trans Hc1.out; go_simp
        simp only [Act.put, List.setIfInBounds_toArray, List.set_cons_zero, List.set_cons_succ]
        refine tk 10 36 (.pointer (some ⟨B, o + q, none⟩)) rfl ?_ ?_
        · intro W hSW; have hq := Hqi.out; go_simp
        simp only [Act.put, List.setIfInBounds_toArray, List.set_cons_zero, List.set_cons_succ]
        refine tk 11 37 (.int .u8 (x : Nat)) rfl ?_ ?_
        · intro W hSW; have z : W.cell? ⟨B, o + q, none⟩ = some (.int .u8 (x : Nat)) := (hSW.cell HBl.out (by simp)).trans Hx.out; go_simp
        simp only [Act.put, List.setIfInBounds_toArray, List.set_cons_zero, List.set_cons_succ]
        refine tk 12 38 (.int .i64 (x : Nat)) rfl ?_ ?_
        · intro W hSW; have hx := Hxw.out; go_simp
        simp only [Act.put, List.setIfInBounds_toArray, List.set_cons_zero, List.set_cons_succ]
        refine tk 13 39 (.int .i64 ((uu : Int) * (x : Int))) rfl ?_ ?_
        · intro W hSW; have hx := Hmw.out; go_simp
        simp only [Act.put, List.setIfInBounds_toArray, List.set_cons_zero, List.set_cons_succ]
        refine tk 14 40 (.int .i64 ((nn : Int) + (uu : Int) * (x : Int))) rfl ?_ ?_
        · intro W hSW; have hx := Haw.out; go_simp
        simp only [Act.put, List.setIfInBounds_toArray, List.set_cons_zero, List.set_cons_succ]
        refine tk 15 5 (.int .i64 ((nn : Int) + (uu : Int) * (x : Int))) rfl ?_ ?_
        · intro W hSW; go_simp
        simp only [Act.put, List.setIfInBounds_toArray, List.set_cons_zero, List.set_cons_succ]
        refine wpAnyH_done (by kernel_rfl) ?_ _
        have HA3 := hid hHeld
        clear hHeld
        generalize wd = w3 at *
        obtain ⟨n2, Hn2⟩ : ∃ n2 : Nat, Hid (n2 = nn + uu * x) := ⟨_, hid rfl⟩
        have Hn2i : Hid ((nn : Int) + (uu : Int) * (x : Int) = (n2 : Int)) := hid (by rw [Hn2.out, Int.natCast_add, Int.natCast_mul])
        rw [Hn2i.out]
        have HD3 := hid (HD2.out.kept0 HA3.out)
        have HA4 := hid (HA2.out.trans (HA3.out.mono (by simp)))
        have z1 := HD3.out.c1
        have f1 := HD3.out.fr 1
        have hub : uu ≤ 65536 := Hub.out
        have hqN : q ≤ 64 := by have := Hqn.out; have := HN64.out; omega
        have hw2 : wrap64 ((uu : Int) * 256) = (uu : Int) * 256 := IntWalk.wrap64_in _ (by omega)
        have hw3 : wrap64 ((q : Int) + 1) = (q : Int) + 1 := IntWalk.wrap64_in _ (by omega)
        have Hstep : Hid (n2 = leV ((bs.drop a).take (i + 1))) := hid (by
          have hl : i < (bs.drop a).length := by rw [List.length_drop]; have := Hqb.out; have := Hq.out; omega
          have hx : (bs.drop a)[i]'hl = x := by
            rw [Hxe.out, List.getElem_drop]
            congr 1
            exact Hq.out.symm
          rw [take_snoc hl, leV_snoc, List.length_take, Nat.min_eq_left (by omega), Hn2.out, Hn.out, Hu.out, hx, Nat.mul_comm x])
        have HDn := hid (HD3.out.setAt (b := q + 1) (by have := Hqb.out; omega))
        have HAn : Hid (Apart [R] w (w3.setCell ⟨R, 1, none⟩ (.int .i64 ((q + 1 : Nat) : Int)))) := hid (HA4.out.setCell (.inl (by simp)) _)
        have Hq1 : Hid (q + 1 = a + (i + 1)) := hid (by have := Hq.out; omega)
        have hq1i : ((q : Int) + 1) = ((q + 1 : Nat) : Int) := by omega
        rw [hq1i] at hw3
        have Hu2 : Hid (uu * 256 = 2 ^ (8 * (i + 1))) := hid (by rw [Hu.out, Nat.mul_add, Nat.pow_add])
        clear hq1i
        go_wp2_with fail
        refine ⟨⟨i + 1, n2, uu * 256, rfl, by rw [Int.natCast_mul]; rfl, by go_num, by omega, Hstep, Hu2, hid (by rw [← Hq1.out]; have := Hqn.out; omega), ?_, ?_⟩, by simp [natV]; omega⟩
        · rw [← Hq1.out]; exact HDn
        · exact HAn
    · have hlti : ¬ ((i : Nat) : Int) < ((k : Nat) : Int) := by omega
      obtain rfl : i = k := by omega
      have Hfit : Hid (a + i ≤ bs.length) := hid (by rw [← HN.out]; exact HaI.out)
      have Hr : Hid (dnum bs a i = nn ∧ dat bs a i = a + i ∧ (bad || dbad bs a i) = bad) := hid ⟨by unfold dnum; rw [if_pos Hfit.out, Hn.out], by unfold dat; rw [if_pos Hfit.out], by unfold dbad; rw [decide_eq_false (by have := Hfit.out; omega)]; simp⟩
      go_wp2_with fail
      go_ret
      rw [Hr.out.1, Hr.out.2.1, Hr.out.2.2]
      exact ⟨rfl, HD.out, HA.out⟩
end Go.Proofs.YtdbeeikjngnnnaaGreat.ty
