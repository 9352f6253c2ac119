import Derived.Deep.RegionHeld
import Derived.OrdersHeld
import Derived.WalkKit
import Derived.ProofKit
import Derived.Lib.TrailingZeros
import Derived.Test.YtllhmidpphlbhaaChecked
import Derived.OpenShut
import Derived.Deep.QuietTactic
import Derived.BigQuiet
import Derived.BigRegion
import Derived.Laws.CopyOwn
import Derived.Laws.Bits64b
import Derived.Laws.MathBits
import Derived.Laws.ShiftsVarLaws
import Derived.WalkSmall
import Derived.Laws.ResultCell
import Derived.Lib.BitFns
import Derived.Laws.StructEq
import Derived.ArgAppend
import Derived.Deep.RegionLaw
import Derived.Deep.DeepAppendRoom
import Derived.Sort.WalkA
import Derived.Laws.Strings
import Derived.Deep.CutBlock
import Derived.Great.BuildSlice
import Derived.Laws.AppendOwnNone
import Derived.Lib.Overlaps
import Derived.Lib.AppendZerosOnto
import Derived.Laws.NewBlocks
import Derived.Laws.Externs
import Derived.Laws.IdiomCopy
import Derived.Laws.BytesString
import Derived.Deep.CutRange
import Derived.RangeFuncNested
import Derived.RangeFuncBound
import Derived.RangeFuncCalls
import Derived.RangeFuncLeaves
import Derived.Shelf.Abstract
import Derived.Shelf.RegionOpen
import Derived.OwnWalkIn
import Derived.TacticsInMore
import Derived.LoopNIn
import Derived.LoopIn
import GoSem.Claim
import GoSem.ClaimJoined
import GoSem.ClaimMapViews
import Derived.JoinedTies
import Derived.KernelRfl
import Derived.Deep.OwnRows
import Derived.Lib.LaidTab
import Derived.JoinedCond
import Derived.ShutString
import Derived.ChangeOld
import Derived.Below
import Derived.Carry
import Derived.ChangeSlices
import Derived.Deep.Slices
import Derived.Deep.DeepHandedRow
import Derived.RowKit
import Derived.ChangeShapes
import Derived.SizedLaws
import Derived.ChangeMaps5
import Derived.Lib.Walk
import Derived.Lib.SliceRun
import Derived.Lib.AppendStr
import Derived.Lib.ConvBytes
import Derived.Deep.RegionHeld3
import Derived.Deep.MidRow
import Derived.Laws.MakeOwn
import Derived.Lib.SlBytesConst
import Derived.Test.YtllhmidpphlbhaaRows
import Derived.Test.YtllhmidpphlbhaaF40
namespace Go.Proofs.Ytllhmidpphlbhaa.ds
open Go.ChangeShapes Go.WideShapes Go.ChangeAt Go.RowKit Go.Sort
set_option linter.unusedVariables false
set_option linter.unusedSimpArgs false

theorem headR_kn (B : List Nat) (s : Ps) (h : ¬ ((headR B s).1.k = 2 ∨ (headR B s).1.k = 3)) : (headR B s).1.kn = 0 := by
  revert h
  unfold headR
  dsimp only
  split
  · intro _; rfl
  · split
    · rename_i h2
      intro h
      exact absurd (Or.inl h2) h
    · split
      · rename_i h3
        intro h
        exact absurd (Or.inr h3) h
      · intro _; rfl
theorem conv_key {W : World} {P o : Nat} {B : List Nat} (hrd : Rd W (some ⟨P, o, none⟩) (byts B)) (hl : B.length = 2048) : Sem.run Try.prog (convert 28 9 (keyV P o (headR B ⟨0, false⟩).1)) W = .ok (.string (strB ((B.drop (headR B ⟨0, false⟩).1.kb).take (headR B ⟨0, false⟩).1.kn))) W := by
  have hat := headR_at B ⟨0, false⟩
  have hk : (headR B ⟨0, false⟩).1.kb + (headR B ⟨0, false⟩).1.kn ≤ 2048 := by
    have := hat.2.2.2.2.2.2.1
    dsimp only at this
    omega
  by_cases hh : (headR B ⟨0, false⟩).1.k = 2 ∨ (headR B ⟨0, false⟩).1.k = 3
  · unfold keyV
    rw [if_pos hh]
    obtain ⟨h1, h2⟩ := tsl_rd hrd hl hk
    exact conv_bytes (s := ⟨_, (headR B ⟨0, false⟩).1.kn, (headR B ⟨0, false⟩).1.kn⟩) h1 h2 (fun h => by simp at h)
  · unfold keyV
    rw [if_neg hh, headR_kn B _ hh]
    exact conv_bytes (s := slz) (bs := []) (fun h => by simp [byts] at h) rfl (fun _ => ⟨rfl, rfl⟩)
theorem range_app {w : World} {X : Nat} {t : TypeId} {a b : List Value} (h : w.heap[X]? = some (.cells (a ++ b).toArray t (0, 0))) : w.rangeAt X a.length b := by
  intro j v hj
  rw [cell_of_row _ _ _ _ _ _ h, List.getElem?_toArray, List.getElem?_append_right (by omega), Nat.add_sub_cancel_left]
  exact hj
/-- a write that a view tells: in new memory -/
structure WvP (w : World) (B : List Nat) (z : Int) (e : Ending) (w' : World) : Prop where
  a : Apart [] w w'
  no : vErr B z ≠ 0 → e = .returned (.tuple #[.agg #[.int .i64 0, .int .i64 0, .string ⟨#[]⟩, .bool false, .slice none 0 0, .slice none 0 0], .int .i64 (vErr B z : Nat)])
  ok : vErr B z = 0 → ∃ v x : Sl, e = .returned (.tuple #[.agg #[.int .i64 ((vPw B z).n : Nat), .int .i64 ((vPw B z).c : Nat), .string (strB ((B.drop (headR B ⟨0, false⟩).1.kb).take (headR B ⟨0, false⟩).1.kn)), .bool (vPw B z).d, .slice v.p v.n v.c, .slice x.p x.n x.c], .int .i64 0]) ∧ Bf w w' v ((B.drop (vPw B z).vb).take (vPw B z).vn) ∧ Nw w w' 85 3 x (flat (vPw B z).xs)
set_option maxHeartbeats 16000000 in
set_option maxRecDepth 100000 in
theorem vwriteW_ok {w : World} {s : Sl} {B : List Nat} {V : Nat} (h : Pb w s B) (hn : s.n = 2048) (hv : Vw w V s) (z : Int) : Calls Try.prog 26 #[.pointer (some ⟨V, 0, none⟩), .int .i64 z] w fun e w' => WvP w B z e w' := by
  obtain ⟨F, HXF⟩ : ∃ X, Hid (X = w.heap.size) := ⟨_, rfl⟩
  obtain ⟨w0, hw0⟩ : ∃ W, W = w.alloc (.cells #[.int .i64 0, .int .i64 0, .string ⟨#[]⟩, .bool false, .slice none 0 0, .slice none 0 0] 50) := ⟨_, rfl⟩
  have a0 : Apart [] w w0 := by rw [hw0]; exact (Apart.refl [] w).alloc _
  have hF0 : w0.heap[F]? = some (.cells #[.int .i64 0, .int .i64 0, .string ⟨#[]⟩, .bool false, .slice none 0 0, .slice none 0 0] 50 (0, 0)) := by rw [HXF.out, hw0]; exact heap_alloc_new w _
  have HFw : Hid (w.heap.size ≤ F) := by unfold Hid; rw [HXF.out]; exact Nat.le_refl _
  obtain ⟨P, o, hp, hc⟩ := vwrite_ok (h.kept0 a0) hn (keep0 a0 hv) z
  have HC := hid hc
  obtain ⟨kp, kn, kc, hkv⟩ : ∃ kp kn kc, vKey P o B z = .slice kp kn kc := by
    unfold vKey
    split
    · exact keyV_sl P o _
    · exact ⟨_, _, _, rfl⟩
  have HQ : Hid (∀ e w', VwP w0 P o B z e w' → e = .returned (.tuple #[.slice kp kn kc, .agg (vCs P o B z).toArray, .int .i64 (vErr B z : Nat)]) ∧ Apart [] w0 w') := fun e w' hh => ⟨by rw [hh.q, hkv], hh.a⟩
  have HL29 := hid (vCs_len P o B z)
  have HONE := hid (vCs_one P o B z)
  have HC3 : Hid ((vCs P o B z)[0]? = some (.int .i64 ((vPw B z).n : Nat)) ∧ (vCs P o B z)[1]? = some (.int .i64 ((vPw B z).c : Nat)) ∧ (vCs P o B z)[2]? = some (.bool (vPw B z).d) ∧ (vCs P o B z)[3]? = some (.slice (vSl P o B z).p (vSl P o B z).n (vSl P o B z).c)) := ⟨rfl, rfl, rfl, rfl⟩
  have HC4 : Hid (vCs P o B z = [.int .i64 ((vPw B z).n : Nat), .int .i64 ((vPw B z).c : Nat), .bool (vPw B z).d, .slice (vSl P o B z).p (vSl P o B z).n (vSl P o B z).c] ++ setL (vPw B z).xs (vPw B z).xs.length) := rfl
  have hl2 : B.length = 2048 := by rw [h.len, hn]
  have HRD : Hid (∀ W, Apart [] w W → Rd W (some ⟨P, o, none⟩) (byts B)) := fun W a => by have := h.rd.kept0 a; rwa [hp] at this
  have H8 := hid h.b8
  have HBL := hid hl2
  have HKV := hid hkv
  have HF0 := hid hF0
  have HA0 := hid a0
  clear h hn hv hp hc hkv hl2 hF0 a0
  obtain ⟨ll, Hll⟩ : ∃ l, Hid (l = vCs P o B z) := ⟨_, rfl⟩
  rw [← Hll.out] at HQ HL29 HONE HC3 HC4
  go_enter Try.func26, Try.ntmps26
  go_upto_region 1 with fail
  rw [← hw0, ← HXF.out]
  clear hw0
  go_wp2_with fail
  refine HC.out.mono ?_
  intro e w1 hh
  obtain ⟨rfl, a1⟩ := HQ.out e w1 hh
  have HA1 := hid (HA0.out.trans a1)
  have HF1 := hid (keep0 a1 HF0.out)
  clear hh a1 HC HQ
  try dsimp only
  obtain ⟨er, Her⟩ : ∃ e, Hid (e = vErr B z) := ⟨_, rfl⟩
  rw [← Her.out]
  obtain ⟨X, HXX⟩ : ∃ X, Hid (X = w1.heap.size) := ⟨_, rfl⟩
  obtain ⟨w2, hw2⟩ : ∃ W, W = w1.alloc (.cells #[.int .i64 0, .int .i64 0, .bool false, .slice none 0 0, .int .i64 0, .int .i64 0, .int .u64 0, .int .i64 0, .int .i64 0, .int .u64 0, .int .i64 0, .int .i64 0, .int .u64 0, .int .i64 0, .int .i64 0, .int .u64 0, .int .i64 0, .int .i64 0, .int .u64 0, .int .i64 0, .int .i64 0, .int .u64 0, .int .i64 0, .int .i64 0, .int .u64 0, .int .i64 0, .int .i64 0, .int .u64 0, .int .i64 0] 107) := ⟨_, rfl⟩
  have a2 : Apart [] w1 w2 := by rw [hw2]; exact (Apart.refl [] w1).alloc _
  have HX2 : Hid (w2.heap[X]? = some (.cells zW.toArray 107 (0, 0))) := by unfold Hid; rw [HXX.out, hw2]; exact heap_alloc_new w1 _
  have HA2 := hid (HA1.out.trans a2)
  have HF2 := hid (keep0 a2 HF1.out)
  have HXw : Hid (w.heap.size ≤ X) := by unfold Hid; rw [HXX.out]; exact HA1.out.size
  have HFX : Hid (F ≠ X) := by unfold Hid; have := lt_of_heap HF1.out; rw [HXX.out]; omega
  clear a2
  rename_i K1 hK1
  refine hK1 _ _ ?_
  clear hK1
  refine wpList_cutat 6 (fun a' w' => Hid (wpList _ _ _ (List.drop 6 _) a' w')) (fun T hT => ?_) (fun _ _ h => h)
  dsimp only [List.take, List.cons_append, List.nil_append, List.append]
  go_wp2_with fail
  refine hT _ _ ?_
  clear hT T
  unfold Hid
  dsimp only [List.drop]
  rw [← hw2, ← HXX.out]
  clear hw2
  refine wpList_store_mid rfl 107 (.tmp 7) (.tmp 15) rfl X 0 ll.toArray rfl rfl (there_of HX2.out _ _ (by rw [List.size_toArray, HL29.out]; show 0 + 29 ≤ 29; omega)) (by rw [size107, List.size_toArray, HL29.out]) HONE.out ?_
  obtain ⟨w3, hw3⟩ : ∃ z, z = w2.setCells X 0 ll := ⟨_, rfl⟩
  rw [show ll.toArray.toList = ll from rfl, ← hw3]
  have b3 : Apart [X] w2 w3 := by rw [hw3]; exact apart_setCells _ _ _ (Apart.refl _ _) (.inl (by simp))
  have HX3 : Hid (w3.heap[X]? = some (.cells ll.toArray 107 (0, 0))) := by
    unfold Hid
    rw [hw3]
    have := heap_setCells_same ll 0 w2 _ HX2.out
    rw [spl_all (by rw [HL29.out]; rfl)] at this
    exact this
  have HA3 := hid (HA2.out.trans' b3 (by intro y hy; simp at hy; rw [hy]; exact .inr HXw.out))
  have HF3 := hid (keepB b3 HF2.out HFX.out)
  clear b3 hw3
  by_cases he : er = 0
  · have hbe : (((er : Nat) : Int) != 0) = false := by rw [he]; rfl
    have HE : Hid (vErr B z = 0) := by unfold Hid; rw [← Her.out, he]
    clear he
    obtain ⟨-, -, -, -, -, hvb, hxf⟩ := vErr_0 H8.out HE.out
    have hx8 := vPw_x B z
    have hvs : vSl P o B z = ⟨some ⟨P, if (vPw B z).vn = 0 then o else o + (vPw B z).vb, none⟩, (vPw B z).vn, (vPw B z).vn⟩ := by unfold vSl; rw [if_pos HE.out]
    rw [hvs] at HC3 HC4
    have hkv2 : (Value.slice kp kn kc) = keyV P o (headR B ⟨0, false⟩).1 := by rw [← HKV.out]; unfold vKey; rw [if_pos HE.out]
    have HCV : Hid (∀ W, Apart [] w W → Sem.run Try.prog (convert 28 9 (.slice kp kn kc)) W = .ok (.string (strB ((B.drop (headR B ⟨0, false⟩).1.kb).take (headR B ⟨0, false⟩).1.kn))) W) := fun W a => by rw [hkv2]; exact conv_key (HRD.out W a) HBL.out
    obtain ⟨p, Hp⟩ : ∃ p, Hid (p = vPw B z) := ⟨_, rfl⟩
    obtain ⟨key, Hkey⟩ : ∃ k, Hid (k = strB ((B.drop (headR B ⟨0, false⟩).1.kb).take (headR B ⟨0, false⟩).1.kn)) := ⟨_, rfl⟩
    rw [← Hkey.out] at HCV
    rw [← Hp.out] at HC3 HC4 hvb hxf hx8
    obtain ⟨ob, Hob⟩ : ∃ x, Hid (x = if p.vn = 0 then o else o + p.vb) := ⟨_, rfl⟩
    obtain ⟨hvr, hvl⟩ := tsl_rd (HRD.out w3 HA3.out) HBL.out hvb
    rw [← Hob.out] at HC3 HC4 hvr
    obtain ⟨tv, W4, hrun, hn4, htn⟩ := appB w3 ⟨some ⟨P, ob, none⟩, p.vn, p.vn⟩ ((B.drop p.vb).take p.vn) 28 hvr hvl (by show p.vn ≤ _; omega) (fun h => by simp at h)
    have HRUN : Hid ((Builtin.append_ #[28, 28] 28 #[.slice none 0 0, .slice (some ⟨P, ob, none⟩) p.vn p.vn]).run Try.prog w3 = .ok (.slice tv.p tv.n tv.c) W4) := hrun
    have HBV : Hid (Bf w W4 tv ((B.drop p.vb).take p.vn)) := ⟨hn4.from HA3.out, by rw [htn, hvl]⟩
    have x3 := crow HX3.out 3 (.slice (some ⟨P, ob, none⟩) p.vn p.vn) (by rw [List.getElem?_toArray]; exact HC3.out.2.2.2)
    have HX4 := hid (keep0 hn4.ap HX3.out)
    have HF4 := hid (keep0 hn4.ap HF3.out)
    have HA4 := hid (HA3.out.trans hn4.ap)
    have HXF := hid hxf
    have HX8 := hid hx8
    clear hrun hn4 htn hvr hvl hvb hxf hx8 hvs hkv2
    go_upto_region 5 with (at_builtin; refine wpList_app2 rfl (.const (.slice none 0 0)) (.tmp 22) 28 28 rfl _ _ rfl rfl _ _ HRUN.out ?_)
    clear x3 hbe
    have HFd := hid (keep0 (Apart.refl [] W4).drew HF4.out)
    have HBd := hid (HBV.out.kept (Apart.refl [] W4).drew)
    have hSd : W4.drew.heap[X]? = some (.cells ll.toArray 107 (0, 0)) ∧ Apart [] w W4.drew := ⟨keep0 (Apart.refl [] W4).drew HX4.out, HA4.out.drew⟩
    refine wp_region_held_drew (S := fun W => W.heap[X]? = some (.cells ll.toArray 107 (0, 0)) ∧ Apart [] w W) (by kernel_rfl) hSd (fun hHeld => ?_)
    generalize W4.drew = wd at *
    refine tk 0 24 (.pointer (some ⟨X, 0, none⟩)) rfl ?_ ?_
    · intro W hSW; go_simp
    simp only [Act.put, List.setIfInBounds_toArray, List.set_cons_zero, List.set_cons_succ]
    refine tk 1 25 (.agg #[.int .i64 (p.n : Nat), .int .i64 (p.c : Nat)]) rfl ?_ ?_
    · intro W hSW; have c0 := crow hSW.1 0 _ (by rw [List.getElem?_toArray]; exact HC3.out.1); have c1 := crow hSW.1 1 _ (by rw [List.getElem?_toArray]; exact HC3.out.2.1); have c2 := crow hSW.1 2 _ (by rw [List.getElem?_toArray]; exact HC3.out.2.2.1); go_simp
    simp only [Act.put, List.setIfInBounds_toArray, List.set_cons_zero, List.set_cons_succ]
    refine tk 2 26 (.slice kp kn kc) rfl ?_ ?_
    · intro W hSW; go_simp
    simp only [Act.put, List.setIfInBounds_toArray, List.set_cons_zero, List.set_cons_succ]
    refine tk 3 27 (.string key) rfl ?_ ?_
    · intro W hSW; have cv := HCV.out W hSW.2; go_simp
    simp only [Act.put, List.setIfInBounds_toArray, List.set_cons_zero, List.set_cons_succ]
    refine tk 4 28 (.pointer (some ⟨X, 2, none⟩)) rfl ?_ ?_
    · intro W hSW; go_simp
    simp only [Act.put, List.setIfInBounds_toArray, List.set_cons_zero, List.set_cons_succ]
    refine tk 5 29 (.bool p.d) rfl ?_ ?_
    · intro W hSW; have c0 := crow hSW.1 0 _ (by rw [List.getElem?_toArray]; exact HC3.out.1); have c1 := crow hSW.1 1 _ (by rw [List.getElem?_toArray]; exact HC3.out.2.1); have c2 := crow hSW.1 2 _ (by rw [List.getElem?_toArray]; exact HC3.out.2.2.1); go_simp
    simp only [Act.put, List.setIfInBounds_toArray, List.set_cons_zero, List.set_cons_succ]
    refine tk 6 30 (.slice tv.p tv.n tv.c) rfl ?_ ?_
    · intro W hSW; go_simp
    simp only [Act.put, List.setIfInBounds_toArray, List.set_cons_zero, List.set_cons_succ]
    refine tk 7 31 (.pointer (some ⟨X, 4, none⟩)) rfl ?_ ?_
    · intro W hSW; go_simp
    simp only [Act.put, List.setIfInBounds_toArray, List.set_cons_zero, List.set_cons_succ]
    refine wpAnyH_take (i := 8) (oi := ⟨some 32, _, _, _, _, _⟩) (v := .agg (setL p.xs p.xs.length).toArray) rfl (by kernel_rfl) (by kernel_rfl) (by kernel_rfl) (fun _ _ _ h => h) (yieldsIf_load_mid (by rfl) 103 (.tmp 31) rfl X 4 rfl (setL p.xs p.xs.length) _ (fun W hSW => by have := hSW.1; rw [HC4.out] at this; exact range_app this) Try.underlying103 rfl (by rw [size103, setL_len HX8.out])) (by assumption) ?_
    simp only [Act.put, List.setIfInBounds_toArray, List.set_cons_zero, List.set_cons_succ]
    refine wpAnyH_ready (rs := [9]) (by kernel_rfl) (by simp) ?_
    refine AllReadyH.cons rfl (fun KK hKK => ?_) AllReadyH.nil
    go_simp
    refine (list_ok _ p.xs HX8.out HXF.out).mono ?_
    rintro _ wa ⟨tx, rfl, hnx, -⟩
    have hSa : wa.heap[X]? = some (.cells ll.toArray 107 (0, 0)) ∧ Apart [] w wa := ⟨keep0 hnx.ap hHeld.1, hHeld.2.trans hnx.ap⟩
    have HFa := hid (keep0 hnx.ap HFd.out)
    have HBa := hid (HBd.out.kept hnx.ap)
    have HNa := hid (hnx.from hHeld.2)
    clear hnx
    try dsimp only
    refine hKK.out _ _ hSa (fun hHeld => ?_)
    clear hKK KK
    try simp only [Act.put, List.setIfInBounds_toArray, List.set_cons_zero, List.set_cons_succ]
    refine tk 10 34 (.agg #[.int .i64 (p.n : Nat), .int .i64 (p.c : Nat), .string key, .bool p.d, .slice tv.p tv.n tv.c, .slice tx.p tx.n tx.c]) rfl ?_ ?_
    · intro W hSW; go_simp
    simp only [Act.put, List.setIfInBounds_toArray, List.set_cons_zero, List.set_cons_succ]
    obtain ⟨b0, b1, b2, b3, b4, b5⟩ := rowv6 HFa.out
    have p0 := frozen_of_row _ _ 0 _ _ HFa.out
    have p1 := frozen_of_row _ _ 1 _ _ HFa.out
    have p2 := frozen_of_row _ _ 2 _ _ HFa.out
    have p3 := frozen_of_row _ _ 3 _ _ HFa.out
    have p4 := frozen_of_row _ _ 4 _ _ HFa.out
    have p5 := frozen_of_row _ _ 5 _ _ HFa.out
    obtain ⟨hFe, ae⟩ := set6 (.int .i64 (p.n : Nat)) (.int .i64 (p.c : Nat)) (.string key) (.bool p.d) (.slice tv.p tv.n tv.c) (.slice tx.p tx.n tx.c) HFa.out
    obtain ⟨we, hwe⟩ : ∃ V, V = ((((((wa.setCell ⟨F, 0, none⟩ (.int .i64 (p.n : Nat))).setCell ⟨F, 1, none⟩ (.int .i64 (p.c : Nat))).setCell ⟨F, 2, none⟩ (.string key)).setCell ⟨F, 3, none⟩ (.bool p.d)).setCell ⟨F, 4, none⟩ (.slice tv.p tv.n tv.c)).setCell ⟨F, 5, none⟩ (.slice tx.p tx.n tx.c)) := ⟨_, rfl⟩
    rw [← hwe] at hFe ae
    have hap : Apart [] w we := hSa.2.trans' ae (fun y hy => by simp at hy; exact .inr (by rw [hy]; exact HFw.out))
    have tke : TK [50] wa we := TK.one ae HFa.out (by simp)
    have hSe : we.heap[X]? = some (.cells ll.toArray 107 (0, 0)) ∧ Apart [] w we := ⟨tke.block hSa.1 (by decide), hap⟩
    have HP : Hid (WvP w B z (.returned (.tuple #[.agg #[.int .i64 (p.n : Nat), .int .i64 (p.c : Nat), .string key, .bool p.d, .slice tv.p tv.n tv.c, .slice tx.p tx.n tx.c], .int .i64 0])) we) := ⟨hap, fun h => absurd HE.out h, fun _ => ⟨tv, tx, by rw [Hkey.out, Hp.out], by rw [← Hp.out]; exact ⟨tke.nw HBa.out.nw hap (by decide), HBa.out.len⟩, by rw [← Hp.out]; exact tke.nw HNa.out hap (by decide)⟩⟩
    have HFe := hid hFe
    clear hFe ae hap tke
    refine wpAnyH_ready (rs := [11]) (by kernel_rfl) (by simp) ?_
    refine AllReadyH.cons rfl (fun KK hKK => ?_) AllReadyH.nil
    go_simp
    rw [← hwe]
    refine hKK.out _ _ hSe (fun hHeld => ?_)
    clear hKK KK
    try simp only [Act.put, List.setIfInBounds_toArray, List.set_cons_zero, List.set_cons_succ]
    refine tk 12 5 (.int .i64 0) rfl ?_ ?_
    · intro W hSW; go_simp
    simp only [Act.put, List.setIfInBounds_toArray, List.set_cons_zero, List.set_cons_succ]
    refine wpAnyH_done (by kernel_rfl) ?_ _
    clear hHeld hSd hSa hSe hwe b0 b1 b2 b3 b4 b5 p0 p1 p2 p3 p4 p5
    go_wp2_with fail
    obtain ⟨d0, d1, d2, d3, d4, d5⟩ := rowv6 HFe.out
    refine bodyPost_ret (v := .tuple #[.agg #[.int .i64 (p.n : Nat), .int .i64 (p.c : Nat), .string key, .bool p.d, .slice tv.p tv.n tv.c, .slice tx.p tx.n tx.c], .int .i64 0]) ?_ rfl HP.out
    simp [results, Try.results26, go_sem, d0, d1, d2, d3, d4, d5]
  · have hbe : (((er : Nat) : Int) != 0) = true := by rw [bne_iff_ne]; omega
    have HE := hid he
    clear he
    obtain ⟨b0, b1, b2, b3, b4, b5⟩ := rowv6 HF3.out
    have p0 := frozen_of_row _ _ 0 _ _ HF3.out
    have p1 := frozen_of_row _ _ 1 _ _ HF3.out
    have p2 := frozen_of_row _ _ 2 _ _ HF3.out
    have p3 := frozen_of_row _ _ 3 _ _ HF3.out
    have p4 := frozen_of_row _ _ 4 _ _ HF3.out
    have p5 := frozen_of_row _ _ 5 _ _ HF3.out
    obtain ⟨hFe, ae⟩ := set6 (.int .i64 0) (.int .i64 0) (.string ⟨#[]⟩) (.bool false) (.slice none 0 0) (.slice none 0 0) HF3.out
    obtain ⟨we, hwe⟩ : ∃ V, V = (((((w3.setCell ⟨F, 0, none⟩ (.int .i64 0)).setCell ⟨F, 1, none⟩ (.int .i64 0)).setCell ⟨F, 2, none⟩ (.string ⟨#[]⟩)).setCell ⟨F, 3, none⟩ (.bool false)).setCell ⟨F, 4, none⟩ (.slice none 0 0)).setCell ⟨F, 5, none⟩ (.slice none 0 0) := ⟨_, rfl⟩
    rw [← hwe] at hFe ae
    have HFe := hid hFe
    have HAe := hid (HA3.out.trans' ae (fun y hy => by simp at hy; exact .inr (by rw [hy]; exact HFw.out)))
    clear hFe ae
    go_wp2_with fail
    rw [← hwe]
    obtain ⟨d0, d1, d2, d3, d4, d5⟩ := rowv6 HFe.out
    have HP : WvP w B z (.returned (.tuple #[.agg #[.int .i64 0, .int .i64 0, .string ⟨#[]⟩, .bool false, .slice none 0 0, .slice none 0 0], .int .i64 (er : Nat)])) we := ⟨HAe.out, fun _ => by rw [Her.out], fun h => absurd (Her.out.trans h) HE.out⟩
    refine bodyPost_ret (v := .tuple #[.agg #[.int .i64 0, .int .i64 0, .string ⟨#[]⟩, .bool false, .slice none 0 0, .slice none 0 0], .int .i64 (er : Nat)]) ?_ rfl HP
    simp [results, Try.results26, go_sem, d0, d1, d2, d3, d4, d5]
end Go.Proofs.Ytllhmidpphlbhaa.ds
