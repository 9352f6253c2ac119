import Derived.Test.YtdbeeikjngnnnaaGreatChecked
import Derived.WalkKit
import Derived.ProofKit
import Derived.OpenShut
import Derived.Deep.QuietTactic
import Derived.BigQuiet
import Derived.BigRegion
import Derived.Laws.CopyOwn
import Derived.Laws.IdiomCopy
import Derived.WalkSmall
import Derived.Laws.ResultCell
import Derived.Laws.AppendOwnNone
import Derived.Deep.RegionHeld
import Derived.Deep.DeepAppendRoom
import Derived.Great.BuildSlice
import Derived.Deep.CutBlock
import Derived.Deep.RegionLaw
import Derived.ArgAppend
import Derived.Laws.Strings
import Derived.Laws.StructEq
import Derived.Below
import Derived.Deep.MidRow
import Derived.Great.Ranges
import Derived.Deep.RegionHeld3
import Derived.Laws.NewBlocks
import Derived.OrdersHeld
import Derived.Stop.BytesEq
import Derived.Laws.BytesString
import Derived.Lib.ConvBytes
import Derived.Laws.BitsAllLaws
import Derived.WalkLawsBesides
import Derived.Lib.Bytealg
import Derived.Laws.Externs
import Derived.Lib.SliceRun
import Derived.Lib.AppendZerosOnto
import Derived.Lib.AppendStr
import Derived.Lib.SlBytesConst
import Derived.Sort.Walk0
import Derived.Laws.Cover1
import Derived.Lib.Strings
import Derived.Lib.MinMaxS
import GoSem.Claim
import GoSem.ClaimJoined
import GoSem.ClaimMapViews
import Derived.JoinedTies
import Derived.KernelRfl
import Derived.JoinedCond
import Derived.ShutString
import Derived.ChangeOld
import Derived.Carry
import Derived.ChangeSlices
import Derived.Deep.Slices
import Derived.Deep.DeepHandedRow
import Derived.RowKit
import Derived.ChangeShapes
import Derived.SizedLaws
import Derived.ChangeMaps5
import Derived.Sort.WalkA
import Derived.Test.YtdbeeikjngnnnaaGreatRows
import Derived.Test.YtdbeeikjngnnnaaGreatD13
import Derived.Test.YtdbeeikjngnnnaaGreatD17
import Derived.Test.YtdbeeikjngnnnaaGreatD18
namespace Go.Proofs.YtdbeeikjngnnnaaGreat.ty
open Go.ChangeShapes Go.WideShapes Go.ChangeAt Go.RowKit
set_option linter.unusedVariables false
set_option linter.unusedSimpArgs false
theorem rwI_bd {mask wd : Nat} {us : List Nat} (hu : ∀ x ∈ us, x < 256) : ∀ i, (∀ x ∈ (rwI mask wd i us).1, 0 ≤ x ∧ x < 2 ^ (8 * wd)) ∧ (∀ x ∈ (rwI mask wd i us).2, x < 256)
  | 0 => ⟨by simp [rwI], hu⟩
  | i + 1 => by
    obtain ⟨h1, h2⟩ := rwI_bd (mask := mask) (wd := wd) hu i
    unfold rwI
    have hp : (0 : Int) < 2 ^ (8 * wd) := by
      have : (0 : Nat) < 2 ^ (8 * wd) := Nat.pow_pos (by decide)
      exact_mod_cast this
    split
    · refine ⟨fun x hx => ?_, fun x hx => h2 x (List.mem_of_mem_drop hx)⟩
      rcases List.mem_append.1 hx with hx | hx
      · exact h1 x hx
      · simp at hx
        subst hx
        refine ⟨by omega, ?_⟩
        have h3 := leV_lt (l := (rwI mask wd i us).2.take wd) (fun x hx => h2 x (List.mem_of_mem_take hx))
        have h4 : 2 ^ (8 * ((rwI mask wd i us).2.take wd).length) ≤ 2 ^ (8 * wd) := Nat.pow_le_pow_right (by decide) (by rw [List.length_take]; omega)
        have h5 : leV ((rwI mask wd i us).2.take wd) < 2 ^ (8 * wd) := Nat.lt_of_lt_of_le h3 h4
        exact_mod_cast h5
    · refine ⟨fun x hx => ?_, h2⟩
      rcases List.mem_append.1 hx with hx | hx
      · exact h1 x hx
      · simp at hx
        subst hx
        exact ⟨by omega, hp⟩
theorem mix_step {a b : List Int} (ha : a.length = 8) (hb : b.length = 8) (i : Nat) (hi : i < 8) : (a.take i ++ b.drop i).set i (a.getD i 0) = a.take (i + 1) ++ b.drop (i + 1) := by
  have h1 : (a.take i).length = i := by rw [List.length_take]; omega
  rw [List.set_append_right _ _ (by omega), h1, Nat.sub_self, List.drop_eq_getElem_cons (by omega), List.set_cons_zero, List.take_succ_eq_append_getElem (by omega), List.append_assoc]
  simp [ha, hi]
theorem mix_len {a b : List Int} (ha : a.length = 8) (hb : b.length = 8) (i : Nat) (hi : i ≤ 8) : (a.take i ++ b.drop i).length = 8 := by simp; omega
def cuR (g : List Int) : List Int := g.map fun n => n % 16777216
def cdR (g : List Int) : List Int := g.map fun n => n / 16777216
theorem getD_map {g : List Int} {f : Int → Int} {i : Nat} (h : i < g.length) : (g.map f).getD i 0 = f (g.getD i 0) := by
  simp [h]
set_option maxHeartbeats 2000000 in
set_option maxRecDepth 100000 in
theorem cread_ok {wB w : World} {R : Nat} {s : Sl} {us : List Nat} (h : Rr wB w R s us) (hl : us.length ≤ 1000000) : Calls Tryz.prog 103 #[.agg (rv (zr ++ zr)).toArray, .pointer (some ⟨R, 0, none⟩)] w fun r w' => r = .returned (.iface 101 (.agg (rv (cuR (rowR (us.drop 1) 6).1 ++ cdR (rowR (us.drop 1) 6).1)).toArray)) ∧ Apart [R] w w' := by
  have HWB : Hid (wB.heap.size ≤ w.heap.size) := hid h.ap.size
  have HR := hid h
  have Hl := hid hl
  have hRl := lt_of_heap h.blk
  clear h hl
  obtain ⟨r1, Hr1⟩ : ∃ r, Hid (r = rowR (us.drop 1) 6) := ⟨_, hid rfl⟩
  rw [← Hr1.out]
  have Hgl0 : Hid (r1.1.length = 8) := hid (by rw [Hr1.out]; exact rwI_len _ _ _ _)
  have Hbd0 : Hid (∀ x ∈ r1.1, 0 ≤ x ∧ x < 2 ^ (8 * 6)) := hid (by rw [Hr1.out]; exact (rwI_bd (fun x hx => HR.out.u8 x (List.mem_of_mem_drop (List.mem_of_mem_drop hx))) 8).1)
  obtain ⟨g, Hg⟩ : ∃ g, Hid (g = r1.1) := ⟨_, hid rfl⟩
  rw [← Hg.out] at Hgl0 Hbd0 ⊢
  go_enter Tryz.func103, Tryz.ntmps103
  go_upto_region 1 with fail
  obtain ⟨X, HXX⟩ : ∃ X, Hid (X = w.heap.size) := ⟨_, rfl⟩
  obtain ⟨w1, hw1⟩ : ∃ W, W = w.alloc (.cells (rv (zr ++ zr)).toArray 101) := ⟨_, rfl⟩
  have HSw1 : Hid (Apart [] w w1) := by unfold Hid; rw [hw1]; exact (Apart.refl [] w).alloc _
  have HBX : Hid (w1.heap[X]? = some (.cells (rv (zr ++ zr)).toArray 101 (0, 0))) := by unfold Hid; rw [HXX.out, hw1]; exact heap_alloc_new w _
  have HLX : Hid (w.heap.size ≤ X) := by unfold Hid; rw [HXX.out]; exact Nat.le_refl _
  have HN : Hid (X ≠ R) := hid (by have := HLX.out; omega)
  rw [← hw1, ← HXX.out]
  clear hw1 HXX hRl
  have HC := hid (next_ok (HR.out.kept0 HSw1.out) Hl.out 1 (by omega))
  go_upto_region 2 with (go_at_call 108; refine HC.out.mono ?_; rintro _ w2 ⟨a2, rfl, p2, b2, q2, s2⟩; have HR2 := hid q2; have HS2 := hid s2; clear p2 q2 s2 HC)
  have HBX2 := hid (keepB HS2.out HBX.out HN.out)
  have HC := hid (row_ok HR2.out (by have := Hl.out; rw [List.length_drop]; omega) 6 (by omega))
  rw [← Hr1.out, ← Hg.out] at HC
  clear HBX HR
  go_wp2_with (go_at_call 109; refine HC.out.mono ?_; rintro _ w3 ⟨rfl, ⟨b3, q3⟩, s3⟩; have HS3 := hid s3; have HBX3 := hid (keepB HS3.out HBX2.out HN.out); clear q3 s3 HC)
  have HA3 : Hid (Apart [R] w w3) := hid (((HSw1.out.mono (by simp)).trans HS2.out).trans HS3.out)
  clear HBX2 HS3 HS2 HSw1 HR2
  go_loopw [11] (fun v wt => ∃ i : Nat, v = .int .i64 (i : Nat) ∧ i ≤ 8 ∧ Hid (wt.heap[X]? = some (.cells (rv (((cuR g).take i ++ zr.drop i) ++ ((cdR g).take i ++ zr.drop i))).toArray 101 (0, 0))) ∧ Hid (Apart [R] w wt)) (fun v _ => 8 - (intOf v).toNat)
  case atStart => exact ⟨0, rfl, Nat.zero_le _, HBX3, HA3⟩
  case round =>
    clear HBX3 HA3
    obtain ⟨i, rfl, hi, HBX, HA⟩ := hrel
    generalize wr = wt at *
    have Hcu : Hid ((cuR g).length = 8) := hid (by simp [cuR, Hgl0.out])
    have Hcd : Hid ((cdR g).length = 8) := hid (by simp [cdR, Hgl0.out])
    by_cases hlt : i < 8
    · have hlti : ((i : Nat) : Int) < 8 := by omega
      have hlt0 : (0 : Int) ≤ ((i : Nat) : Int) ∧ ((i : Nat) : Int) < 8 := by omega
      have hri := fun (wx : World) => run_idx (b := g) i Hgl0.out hlt wx
      have Hx : Hid (0 ≤ g.getD i 0 ∧ g.getD i 0 < 2 ^ (8 * 6)) := hid (by
        have hm : g.getD i 0 ∈ g := by
          rw [List.getD_eq_getElem?_getD, List.getElem?_eq_getElem (by rw [Hgl0.out]; exact hlt)]
          exact List.getElem_mem _
        exact Hbd0.out _ hm)
      obtain ⟨n, Hn⟩ : ∃ n : Nat, Hid (g.getD i 0 = (n : Int)) := ⟨(g.getD i 0).toNat, hid (by have := Hx.out; omega)⟩
      rw [Hn.out] at hri
      have hn48 : n < 281474976710656 := by have h1 := Hx.out; rw [Hn.out] at h1; omega
      have Hand : Hid (bits .and .i64 (n : Int) 16777215 = ((n % 16777216 : Nat) : Int)) := hid (by
        have := i64_and_nat n 16777215 (by omega) (by omega)
        have e : n &&& 16777215 = n % 16777216 := Nat.and_two_pow_sub_one_eq_mod n 24
        rw [e] at this
        exact this)
      have Hu1 : Hid ((cuR g).getD i 0 = ((n % 16777216 : Nat) : Int)) := hid (by rw [cuR, getD_map (by rw [Hgl0.out]; exact hlt), Hn.out]; rfl)
      have Hd1 : Hid ((cdR g).getD i 0 = ((n / 16777216 : Nat) : Int)) := hid (by rw [cdR, getD_map (by rw [Hgl0.out]; exact hlt), Hn.out]; rfl)
      have z1 := cell20 HBX.out i (by rw [mix_len Hcu.out rfl i hi]; exact hlt)
      have z2 := cell28 (mix_len Hcu.out rfl i hi) HBX.out i (by rw [mix_len Hcd.out rfl i hi]; exact hlt)
      have f1 := frozen_of_row _ _ i _ _ HBX.out
      have f2 := frozen_of_row _ _ (8 + i) _ _ HBX.out
      go_wp2_with fail
      rw [Hand.out]
      refine ⟨⟨i + 1, by go_num, by omega, ?_, ?_⟩, by simp [intOf]; omega⟩
      · unfold Hid
        have e1 := heap_setCell_same wt X i _ 101 (.int .i64 ((n % 16777216 : Nat) : Int)) HBX.out
        rw [heap_setCell_same _ X (8 + i) _ 101 _ e1]
        have ed : ((n : Int) / 16777216) = ((n / 16777216 : Nat) : Int) := by rw [Int.natCast_ediv]; rfl
        have hA : ((cuR g).take i ++ zr.drop i).length = 8 := mix_len Hcu.out rfl i hi
        rw [ed, List.setIfInBounds_toArray, List.setIfInBounds_toArray, rv_set, rv_set, List.set_append_left _ _ (by rw [hA]; exact hlt), List.set_append_right _ _ (by rw [List.length_set, hA]; omega), List.length_set, hA, show 8 + i - 8 = i from by omega, ← Hu1.out, ← Hd1.out, mix_step Hcu.out rfl i hlt, mix_step Hcd.out rfl i hlt]
      · exact hid ((HA.out.setCell (p := ⟨X, i, none⟩) (.inr HLX.out) _).setCell (p := ⟨X, 8 + i, none⟩) (.inr HLX.out) _)
    · have hlti : ¬ ((i : Nat) : Int) < 8 := by omega
      obtain rfl : i = 8 := by omega
      have HBX5 : Hid (wt.heap[X]? = some (.cells (rv (cuR g ++ cdR g)).toArray 101 (0, 0))) := hid (by
        have h1 := HBX.out
        rw [List.take_of_length_le (by rw [Hcu.out]; exact Nat.le_refl _), List.take_of_length_le (by rw [Hcd.out]; exact Nat.le_refl _), show zr.drop 8 = [] from rfl, List.append_nil, List.append_nil] at h1
        exact h1)
      go_wp2_with (refine wpList_load_row rfl 101 _ rfl X rfl 101 _ (0, 0) _ HBX5.out Tryz.underlying101 rfl (by rw [size88]; simp [rv_len, Hcu.out, Hcd.out]) ?_)
      go_ret
      exact ⟨rfl, HA.out⟩
end Go.Proofs.YtdbeeikjngnnnaaGreat.ty
namespace Go.Proofs.YtdbeeikjngnnnaaGreat.ty
open Go.ChangeShapes Go.WideShapes Go.ChangeAt Go.RowKit
set_option linter.unusedVariables false
set_option linter.unusedSimpArgs false
def U8 (l : List Nat) : Prop := ∀ x ∈ l, x < 256
theorem U8.app {a b : List Nat} (h : U8 a) (k : U8 b) : U8 (a ++ b) := fun x hx => by
  rcases List.mem_append.1 hx with hx | hx
  · exact h x hx
  · exact k x hx
theorem U8.cons {a : Nat} {b : List Nat} (h : a < 256) (k : U8 b) : U8 (a :: b) := fun x hx => by
  rcases List.mem_cons.1 hx with rfl | hx
  · exact h
  · exact k x hx
theorem U8.nil : U8 [] := fun x hx => by simp at hx
theorem leB_u8 (n : Nat) : ∀ k, U8 (leB n k)
  | 0 => U8.nil
  | k + 1 => by
    unfold leB
    exact (leB_u8 n k).app (U8.cons (Nat.mod_lt _ (by decide)) U8.nil)
theorem nb8_u8 (r : List Int) (wd : Nat) : ∀ i, U8 (nb8 r wd i)
  | 0 => U8.nil
  | i + 1 => by
    unfold nb8
    split
    · exact (nb8_u8 r wd i).app (leB_u8 _ _)
    · exact nb8_u8 r wd i
theorem rowB_u8 (r : List Int) (wd : Nat) : U8 (rowB r wd) := U8.cons (mk8_lt r 8) (nb8_u8 r wd 8)
theorem bsk_u8 (t : ByteArray) : U8 (bsk t) := fun x hx => by
  unfold bsk at hx
  obtain ⟨b, _, rfl⟩ := List.mem_map.1 hx
  exact UInt8.toNat_lt b
theorem esB_u8 : ∀ es : List En, U8 (esB es)
  | [] => U8.nil
  | x :: r => by
    unfold esB enB
    exact (U8.cons (Nat.mod_lt _ (by decide)) ((bsk_u8 _).app (rowB_u8 _ _))).app (esB_u8 r)
/-- a value's form -/
def formV (v : Vl) : List Nat := match v with
  | Sum.inl (u, d) => 1 :: rowB (ob u d) 6
  | Sum.inr (Sum.inl (c, es)) => setB c es
  | Sum.inr (Sum.inr (Sum.inl (c, g))) => 3 :: (rowB c 2 ++ rowB g 2)
  | Sum.inr (Sum.inr (Sum.inr (s, a, t))) => 4 :: (leB s.toNat 3 ++ (a.toNat % 256) :: bsk t)
theorem formV_u8 (v : Vl) : U8 (formV v) := by
  cases v using Vl.el with
  | cnt u d => exact U8.cons (by decide) (rowB_u8 _ _)
  | set c es => exact U8.cons (by decide) ((rowB_u8 _ _).app (U8.cons (Nat.mod_lt _ (by decide)) (esB_u8 _)))
  | flg c g => exact U8.cons (by decide) ((rowB_u8 _ _).app (rowB_u8 _ _))
  | rgs s a t => exact U8.cons (by decide) ((leB_u8 _ _).app (U8.cons (Nat.mod_lt _ (by decide)) (bsk_u8 _)))
/-- is it one that there may be? -/
def rightV (v : Vl) : Bool := match v with
  | Sum.inl _ => true
  | Sum.inr (Sum.inl (c, es)) => srR c es
  | Sum.inr (Sum.inr (Sum.inl (c, g))) => gr g c == c
  | Sum.inr (Sum.inr (Sum.inr (s, a, t))) => rtR s a t
/-- what is read -/
def readV (k : Nat) (us : List Nat) : Vl :=
  if k = 1 then .cnt (cuR (rowR (us.drop 1) 6).1) (cdR (rowR (us.drop 1) 6).1)
  else if k = 2 then .set (rowR (us.drop 1) 2).1 (esI (leV ((rowR (us.drop 1) 2).2.take 1)) ((rowR (us.drop 1) 2).2.drop 1)).1
  else if k = 3 then .flg (rowR (us.drop 1) 2).1 (rowR (rowR (us.drop 1) 2).2 2).1
  else .rgs ((regR us).1 : Int) ((regR us).2.1 : Int) (strB (regR us).2.2)
theorem Wd.of {l : List Int} (h : l.length = 8) (k : ∀ x ∈ l, 0 ≤ x ∧ x ≤ 16777215) : Wd l := ⟨h, k⟩
theorem rowR_bd {us : List Nat} (h : U8 us) (wd : Nat) : (rowR us wd).1.length = 8 ∧ (∀ x ∈ (rowR us wd).1, 0 ≤ x ∧ x < 2 ^ (8 * wd)) ∧ U8 (rowR us wd).2 := by
  have hh : ∀ x ∈ us.drop 1, x < 256 := fun x hx => h x (List.mem_of_mem_drop hx)
  obtain ⟨h1, h2⟩ := rwI_bd (mask := leV (us.take 1)) (wd := wd) hh 8
  exact ⟨rwI_len _ _ _ _, h1, h2⟩
theorem Cn.of {r : List Int} (hl : r.length = 8) (h : ∀ x ∈ r, 0 ≤ x ∧ x < 65536) : Cn r := ⟨hl, fun i => by
  rw [List.getD_eq_getElem?_getD]
  rcases Nat.lt_or_ge i r.length with h1 | h1
  · rw [List.getElem?_eq_getElem h1]
    have := h _ (List.getElem_mem h1)
    simp
    omega
  · rw [List.getElem?_eq_none h1]; simp⟩
theorem U8.drop {l : List Nat} (h : U8 l) (n : Nat) : U8 (l.drop n) := fun x hx => h x (List.mem_of_mem_drop hx)
theorem esI_bd {us : List Nat} (h : U8 us) : ∀ i, (∀ x ∈ (esI i us).1, x.e.size ≤ us.length ∧ Cn x.t) ∧ U8 (esI i us).2
  | 0 => ⟨by simp [esI], h⟩
  | i + 1 => by
    obtain ⟨h1, h2⟩ := esI_bd h i
    have h3 := rowR_bd ((h2.drop 1).drop (leV ((esI i us).2.take 1))) 2
    refine ⟨fun x hx => ?_, h3.2.2⟩
    unfold esI at hx
    rcases List.mem_append.1 hx with hx | hx
    · exact h1 x hx
    · rw [List.mem_singleton] at hx
      rw [hx]
      refine ⟨?_, Cn.of h3.1 (fun y hy => ?_)⟩
      · show (strB _).size ≤ us.length
        have h4 := esI_left us i
        rw [strB_size, List.length_take, List.length_drop]
        omega
      · have := h3.2.1 y hy
        have e : (2 : Int) ^ (8 * 2) = 65536 := by decide
        rw [e] at this
        exact this
theorem leV1 {us : List Nat} (h : U8 us) : leV (us.take 1) < 256 := by
  have h1 := leV_lt (l := us.take 1) (fun x hx => h x (List.mem_of_mem_take hx))
  have h2 : (us.take 1).length ≤ 1 := by rw [List.length_take]; omega
  have h3 : 2 ^ (8 * (us.take 1).length) ≤ 2 ^ 8 := Nat.pow_le_pow_right (by omega) (by omega)
  omega
theorem cu_wd {g : List Int} (hl : g.length = 8) (h : ∀ x ∈ g, 0 ≤ x ∧ x < 2 ^ (8 * 6)) : Wd (cuR g) ∧ Wd (cdR g) := by
  refine ⟨Wd.of (by simp [cuR, hl]) (fun x hx => ?_), Wd.of (by simp [cdR, hl]) (fun x hx => ?_)⟩
  · obtain ⟨y, hy, rfl⟩ := List.mem_map.1 hx
    omega
  · obtain ⟨y, hy, rfl⟩ := List.mem_map.1 hx
    have := h y hy
    have e : (2 : Int) ^ (8 * 6) = 281474976710656 := by decide
    rw [e] at this
    omega
end Go.Proofs.YtdbeeikjngnnnaaGreat.ty
namespace Go.Proofs.YtdbeeikjngnnnaaGreat.ty
open Go.ChangeShapes Go.WideShapes Go.ChangeAt Go.RowKit
set_option linter.unusedVariables false
set_option linter.unusedSimpArgs false
theorem row_ext {a b : List Int} (ha : a.length = 8) (hb : b.length = 8) (h : ∀ i, i < 8 → a.getD i 0 = b.getD i 0) : a = b := by
  apply List.ext_getElem?
  intro i
  rcases Nat.lt_or_ge i 8 with hi | hi
  · have := h i hi
    rw [List.getD_eq_getElem?_getD, List.getD_eq_getElem?_getD] at this
    rw [List.getElem?_eq_getElem (by omega), List.getElem?_eq_getElem (by omega)] at this ⊢
    simp at this
    rw [this]
  · rw [List.getElem?_eq_none (by omega), List.getElem?_eq_none (by omega)]
theorem gr_at {a b : List Int} (ha : a.length = 8) (hb : b.length = 8) (i : Nat) (hi : i < 8) : (gr a b).getD i 0 = max (a.getD i 0) (b.getD i 0) := by
  unfold gr
  rw [List.getD_eq_getElem?_getD, List.getElem?_zipWith, List.getD_eq_getElem?_getD, List.getD_eq_getElem?_getD, List.getElem?_eq_getElem (by omega), List.getElem?_eq_getElem (by omega)]
  rfl
theorem zrD (i : Nat) : zr.getD i 0 = 0 := by
  have e : zr = List.replicate 8 0 := rfl
  rw [e, List.getD_eq_getElem?_getD, List.getElem?_replicate]
  split <;> simp
/-- no number of the one is above that of the other, and none is below 0 -/
def Wi (a c : List Int) : Prop := a.length = 8 ∧ c.length = 8 ∧ ∀ i, i < 8 → 0 ≤ a.getD i 0 ∧ a.getD i 0 ≤ c.getD i 0
theorem Wi.of_gr {a c : List Int} (ha : a.length = 8) (hc : c.length = 8) (h0 : ∀ i, i < 8 → 0 ≤ a.getD i 0) (h : gr a c = c) : Wi a c := ⟨ha, hc, fun i hi => by
  have h1 := gr_at ha hc i hi
  rw [h] at h1
  have := h0 i hi
  omega⟩
theorem Wi.zr {c : List Int} (hc : c.length = 8) (h0 : ∀ i, i < 8 → 0 ≤ c.getD i 0) : Wi ty.zr c := ⟨rfl, hc, fun i hi => by rw [zrD]; exact ⟨Int.le_refl _, h0 i hi⟩⟩
/-- one number of the tags that are left -/
def m1 (t c o r : Int) : Int := max (st t o r) (st o t c)
/-- the tags of an element -/
def tg : List En → ByteArray → List Int
  | [], _ => zr
  | x :: r, e => if x.e = e then x.t else tg r e
theorem tg_mem {es : List En} (h : So es) {x : En} (hx : x ∈ es) : tg es x.e = x.t := by
  induction es with
  | nil => simp at hx
  | cons y r ih =>
    unfold tg
    rcases List.mem_cons.1 hx with rfl | hx
    · simp
    · have h1 := (List.pairwise_cons.1 h).1 x hx
      have hne : ¬ y.e = x.e := by intro e; rw [e, bl_irrefl] at h1; cases h1
      simp only [hne, if_false]
      exact ih (List.pairwise_cons.1 h).2 hx
theorem tg_or (es : List En) (e : ByteArray) : tg es e = zr ∨ ∃ x ∈ es, x.e = e ∧ tg es e = x.t := by
  induction es with
  | nil => exact .inl rfl
  | cons y r ih =>
    unfold tg
    by_cases h : y.e = e
    · exact .inr ⟨y, by simp, h, by simp [h]⟩
    · simp only [h, if_false]
      rcases ih with ih | ⟨x, hx, e1, e2⟩
      · exact .inl ih
      · exact .inr ⟨x, List.mem_cons_of_mem _ hx, e1, e2⟩
/-- a set as it may be -/
structure Gs (c : List Int) (es : List En) : Prop where
  so : So es
  nz : ∀ x ∈ es, x.t ≠ zr
  wi : ∀ x ∈ es, Wi x.t c
  len : c.length = 8
  ge : ∀ i, i < 8 → 0 ≤ c.getD i 0
theorem Gs.tg {c : List Int} {es : List En} (h : Gs c es) (e : ByteArray) : Wi (ty.tg es e) c := by
  rcases tg_or es e with h1 | ⟨x, hx, -, h1⟩
  · rw [h1]; exact Wi.zr h.len h.ge
  · rw [h1]; exact h.wi x hx
theorem Gs.new : Gs zr [] := ⟨List.Pairwise.nil, by simp, by simp, rfl, fun i _ => by rw [zrD]; exact Int.le_refl _⟩
end Go.Proofs.YtdbeeikjngnnnaaGreat.ty
namespace Go.Proofs.YtdbeeikjngnnnaaGreat.ty
open Go.ChangeShapes Go.WideShapes Go.ChangeAt Go.RowKit
set_option linter.unusedVariables false
set_option linter.unusedSimpArgs false
/-- the tags tell these rows -/
structure Ts (ts : List Tg) (T : ByteArray → List Int) : Prop where
  og : To ts
  len : ∀ e, (T e).length = 8
  eq : ∀ e a, a < 8 → (T e).getD a 0 = (numT ts e a : Int)
theorem Ts.nil : Ts [] (fun _ => zr) := ⟨⟨by simp, List.Pairwise.nil⟩, fun _ => rfl, fun e a _ => by rw [zrD]; rfl⟩
/-- take -/
def takeT (ts : List Tg) (e : ByteArray) : List Tg := ts.filter fun t => !decide (t.e = e)
theorem Ts.take {ts : List Tg} {T : ByteArray → List Int} (h : Ts ts T) (e : ByteArray) : Ts (takeT ts e) (fun x => if x = e then zr else T x) := by
  refine ⟨h.og.sub _, fun x => ?_, fun x a ha => ?_⟩
  · split
    · rfl
    · exact h.len x
  · rcases numT_filter h.og (fun t => !decide (t.e = e)) x a with ⟨h1, h2⟩ | ⟨t, ht, h1, h2, h3, h4⟩
    · unfold takeT
      rw [h1]
      by_cases hx : x = e
      · rw [if_pos hx, zrD]; rfl
      · rw [if_neg hx, h.eq x a ha]
        rcases numT_or ts x a with ⟨h5, -⟩ | ⟨t, ht, h6, h7, -⟩
        · rw [h5]
        · have := h2 t ht h6 h7
          simp only [Bool.not_eq_false', decide_eq_true_eq] at this
          exact absurd (h6.symm.trans this) hx
    · unfold takeT
      rw [h4]
      simp only [Bool.not_eq_true', decide_eq_false_iff_not] at h3
      have hx : ¬ x = e := fun k => h3 (h1.trans k)
      rw [if_neg hx, h.eq x a ha, ← h1, ← h2, numT_mem h.og ht]
/-- put, behind a take -/
theorem Ts.put {ts : List Tg} {T : ByteArray → List Int} (h : Ts ts T) {e : ByteArray} (he : T e = zr) {a n : Nat} (ha : a < 8) (hn : 0 < n) : Ts (ts ++ [⟨e, a, n⟩]) (fun x => if x = e then zr.set a (n : Int) else T x) := by
  have hno : ∀ t ∈ ts, t.e ≠ e := fun t ht k => by
    have h1 := numT_mem h.og ht
    have h2 := h.eq t.e t.a (h.og.ok t ht).1
    rw [k, he, zrD] at h2
    have h3 := (h.og.ok t ht).2
    rw [k] at h1
    omega
  refine ⟨⟨fun t ht => ?_, List.pairwise_append.2 ⟨h.og.one, List.pairwise_singleton _ _, fun s hs t ht => ?_⟩⟩, fun x => ?_, fun x i hi => ?_⟩
  · rcases List.mem_append.1 ht with ht | ht
    · exact h.og.ok t ht
    · rw [List.mem_singleton] at ht; rw [ht]; exact ⟨ha, hn⟩
  · rw [List.mem_singleton] at ht
    rw [ht]
    exact fun k => hno s hs k.1
  · split
    · rw [List.length_set]; rfl
    · exact h.len x
  · rw [numT_app]
    by_cases hx : x = e
    · subst hx
      rw [if_pos rfl, if_neg (fun ⟨t, ht, k, _⟩ => hno t ht k)]
      rw [List.getD_eq_getElem?_getD, List.getElem?_set]
      unfold numT
      by_cases hia : a = i
      · subst hia
        rw [if_pos rfl, if_pos (show a < zr.length from ha), if_pos (show isT x a ⟨x, a, n⟩ = true from isT_iff.2 ⟨rfl, rfl⟩)]; rfl
      · rw [if_neg hia, if_neg (fun k => hia (isT_iff.1 k).2)]
        have := zrD i
        rw [List.getD_eq_getElem?_getD] at this
        rw [this]; rfl
    · rw [if_neg hx, h.eq x i hi]
      by_cases hex : ∃ t ∈ ts, t.e = x ∧ t.a = i
      · rw [if_pos hex]
      · rw [if_neg hex]
        rcases numT_or ts x i with ⟨h5, -⟩ | ⟨t, ht, h6, h7, -⟩
        · rw [h5]
          unfold numT
          rw [if_neg (fun k => hx (isT_iff.1 k).1.symm)]; rfl
        · exact absurd ⟨t, ht, h6, h7⟩ hex
end Go.Proofs.YtdbeeikjngnnnaaGreat.ty
namespace Go.Proofs.YtdbeeikjngnnnaaGreat.ty
open Go.ChangeShapes Go.WideShapes Go.ChangeAt Go.RowKit
set_option linter.unusedVariables false
set_option linter.unusedSimpArgs false
/-- bytes that were handed in -/
structure Gv (w : World) (sl : Sl) (bs : List Nat) : Prop where
  rd : Rd w sl.p (byts bs)
  len : bs.length = sl.n
  ok : sl.ok
  u8 : U8 bs
  le : bs.length ≤ 2000000
theorem Gv.kept0 {w w' : World} {sl : Sl} {bs : List Nat} (h : Gv w sl bs) (a : Apart [] w w') : Gv w' sl bs := ⟨h.rd.kept0 a, h.len, h.ok, h.u8, h.le⟩
/-- a copy of them -/
theorem copyB {w : World} {sl : Sl} {bs : List Nat} (h : Gv w sl bs) : ∃ s' w', (Builtin.append_ #[29, 29] 29 #[.slice none 0 0, .slice sl.p sl.n sl.c]).run Tryz.prog w = .ok (.slice s'.p s'.n s'.c) w' ∧ Nw w w' 5 1 s' (byts bs) ∧ s'.n = sl.n ∧ Apart [] w w' := by
  obtain ⟨i0, hif, hz0, hz1, hz2⟩ := info_of info5
  have h1 := h.len
  have h2 := h.le
  obtain ⟨s', w', hrun, n', l'⟩ := run_appNil w 29 29 5 i0 _ 1 1 Tryz.underlying29 hif hz0 hz1 hz2 rfl (by decide) sl (byts bs) h.rd (by rw [byts_len]; omega) (oneB _) (by omega) (by omega) h.ok
  exact ⟨s', w', hrun, n', l', n'.ap⟩
theorem Nw.cap {w w' : World} {e size : Nat} {s : Sl} {us : List Value} (h : Nw w w' e size s us) : s.n ≤ s.c := by
  obtain ⟨_, ⟨hv, hz⟩ | ⟨g, cap, cur, hv, hbb, hr', hle, hrest⟩⟩ := h.own
  · omega
  · simp only [Sl.v, Value.slice.injEq] at hv; omega
end Go.Proofs.YtdbeeikjngnnnaaGreat.ty
namespace Go.Proofs.YtdbeeikjngnnnaaGreat.ty
open Go.ChangeShapes Go.WideShapes Go.ChangeAt Go.RowKit
set_option linter.unusedVariables false
set_option linter.unusedSimpArgs false
theorem mr_read1 (cs : Array Value) (w : World) : (method 284 101 (.agg cs) "rookery/types.read").run Tryz.prog w = .ok (103, .agg cs) w := by kernel_rfl
theorem mr_right1 (cs : Array Value) (w : World) : (method 284 101 (.agg cs) "rookery/types.right").run Tryz.prog w = .ok (104, .agg cs) w := by kernel_rfl
theorem mr_form1 (cs : Array Value) (w : World) : (method 284 101 (.agg cs) "rookery/types.form").run Tryz.prog w = .ok (102, .agg cs) w := by kernel_rfl
theorem mr_read2 (cs : Array Value) (w : World) : (method 284 104 (.agg cs) "rookery/types.read").run Tryz.prog w = .ok (115, .agg cs) w := by kernel_rfl
theorem mr_right2 (cs : Array Value) (w : World) : (method 284 104 (.agg cs) "rookery/types.right").run Tryz.prog w = .ok (116, .agg cs) w := by kernel_rfl
theorem mr_form2 (cs : Array Value) (w : World) : (method 284 104 (.agg cs) "rookery/types.form").run Tryz.prog w = .ok (113, .agg cs) w := by kernel_rfl
theorem mr_read3 (cs : Array Value) (w : World) : (method 284 106 (.agg cs) "rookery/types.read").run Tryz.prog w = .ok (130, .agg cs) w := by kernel_rfl
theorem mr_right3 (cs : Array Value) (w : World) : (method 284 106 (.agg cs) "rookery/types.right").run Tryz.prog w = .ok (131, .agg cs) w := by kernel_rfl
theorem mr_form3 (cs : Array Value) (w : World) : (method 284 106 (.agg cs) "rookery/types.form").run Tryz.prog w = .ok (128, .agg cs) w := by kernel_rfl
theorem mr_read4 (cs : Array Value) (w : World) : (method 284 108 (.agg cs) "rookery/types.read").run Tryz.prog w = .ok (134, .agg cs) w := by kernel_rfl
theorem mr_right4 (cs : Array Value) (w : World) : (method 284 108 (.agg cs) "rookery/types.right").run Tryz.prog w = .ok (135, .agg cs) w := by kernel_rfl
theorem mr_form4 (cs : Array Value) (w : World) : (method 284 108 (.agg cs) "rookery/types.form").run Tryz.prog w = .ok (133, .agg cs) w := by kernel_rfl
/-- what it reads and tells, by the type -/
structure Rdy (k : Nat) (w : World) (sl : Sl) (bs : List Nat) : Prop where
  rd : Rd w sl.p (byts bs)
  len : bs.length = sl.n
  ok : sl.ok
  cap : sl.n ≤ sl.c
  u8 : U8 bs
  le : bs.length ≤ 64
theorem Rdy.rr {k : Nat} {w : World} {sl : Sl} {bs : List Nat} (h : Rdy k w sl bs) : Rr w (w.alloc (.cells #[.slice sl.p sl.n sl.c] 131)) w.heap.size sl bs :=
  ⟨heap_alloc_new w _, Nat.le_refl _, (Apart.refl [] w).alloc _, h.rd, h.len, h.cap, h.ok, h.u8⟩
theorem apR {w w1 w2 : World} (h : Apart [] w w1) (k : Apart [w.heap.size] w1 w2) : Apart [] w w2 := h.trans' k (by intro y hy; simp at hy; rw [hy]; exact .inr (Nat.le_refl _))
theorem Rdy.read1 {w : World} {sl : Sl} {bs : List Nat} (h : Rdy 1 w sl bs) : Calls Tryz.prog 103 #[.agg (rv (zr ++ zr)).toArray, .pointer (some ⟨w.heap.size, 0, none⟩)] (w.alloc (.cells #[.slice sl.p sl.n sl.c] 131)) fun r w' => ∃ cs, r = .returned (.iface 101 (.agg cs)) ∧ Apart [] w w' ∧ (∀ wx, Apart [] w' wx → Calls Tryz.prog 104 #[.agg cs] wx fun r w2 => r = .returned (.bool (rightV (readV 1 bs))) ∧ Apart [] wx w2) ∧ (∀ wx, Apart [] w' wx → Calls Tryz.prog 102 #[.agg cs] wx fun r w2 => ∃ s', r = .returned (.slice s'.p s'.n s'.c) ∧ Bf wx w2 s' (formV (readV 1 bs))) ∧ (∀ wx V, Apart [] w' wx → Bd wx V (.iface 101 (.agg cs)) → Ho wx V (readV 1 bs)) := by
  have hle := h.le
  have hb := rowR_bd (h.u8.drop 1) 6
  have hw := cu_wd hb.1 hb.2.1
  refine (cread_ok h.rr (by omega)).mono ?_
  rintro _ w' ⟨rfl, a'⟩
  exact ⟨_, rfl, apR ((Apart.refl [] w).alloc _) a', fun wx _ => cright_ok _, fun wx _ => cform_ok hw.1 hw.2, fun wx V _ hB => hB⟩
theorem Rdy.read2 {w : World} {sl : Sl} {bs : List Nat} (h : Rdy 2 w sl bs) : Calls Tryz.prog 115 #[.agg (sv zr ⟨none, 0, 0⟩), .pointer (some ⟨w.heap.size, 0, none⟩)] (w.alloc (.cells #[.slice sl.p sl.n sl.c] 131)) fun r w' => ∃ cs, r = .returned (.iface 104 (.agg cs)) ∧ Apart [] w w' ∧ (∀ wx, Apart [] w' wx → Calls Tryz.prog 116 #[.agg cs] wx fun r w2 => r = .returned (.bool (rightV (readV 2 bs))) ∧ Apart [] wx w2) ∧ (∀ wx, Apart [] w' wx → Calls Tryz.prog 113 #[.agg cs] wx fun r w2 => ∃ s', r = .returned (.slice s'.p s'.n s'.c) ∧ Bf wx w2 s' (formV (readV 2 bs))) ∧ (∀ wx V, Apart [] w' wx → Bd wx V (.iface 104 (.agg cs)) → Ho wx V (readV 2 bs)) := by
  have hle := h.le
  have hb := rowR_bd (h.u8.drop 1) 2
  have hs := esI_bd (hb.2.2.drop 1) (leV ((rowR (bs.drop 1) 2).2.take 1))
  have hn := leV1 hb.2.2
  have hl1 := rowR_left (bs.drop 1) 2
  rw [List.length_drop] at hl1
  refine (sread_ok h.rr (by omega)).mono ?_
  rintro _ w' ⟨s', rfl, e', a'⟩
  refine ⟨_, rfl, a', fun wx ax => sright_ok hb.1 (e'.kept0 ax) (by rw [esI_len]; omega), fun wx ax => sform_ok hb.1 (e'.kept0 ax) (by rw [esI_len]; omega) (fun x hx => ?_), fun wx V ax hB => ⟨s', hB, e'.kept0 ax⟩⟩
  have h1 := (hs.1 x hx).1
  rw [List.length_drop] at h1
  omega
theorem Rdy.read3 {w : World} {sl : Sl} {bs : List Nat} (h : Rdy 3 w sl bs) : Calls Tryz.prog 130 #[.agg (rv (zr ++ zr)).toArray, .pointer (some ⟨w.heap.size, 0, none⟩)] (w.alloc (.cells #[.slice sl.p sl.n sl.c] 131)) fun r w' => ∃ cs, r = .returned (.iface 106 (.agg cs)) ∧ Apart [] w w' ∧ (∀ wx, Apart [] w' wx → Calls Tryz.prog 131 #[.agg cs] wx fun r w2 => r = .returned (.bool (rightV (readV 3 bs))) ∧ Apart [] wx w2) ∧ (∀ wx, Apart [] w' wx → Calls Tryz.prog 128 #[.agg cs] wx fun r w2 => ∃ s', r = .returned (.slice s'.p s'.n s'.c) ∧ Bf wx w2 s' (formV (readV 3 bs))) ∧ (∀ wx V, Apart [] w' wx → Bd wx V (.iface 106 (.agg cs)) → Ho wx V (readV 3 bs)) := by
  have hle := h.le
  have hb := rowR_bd (h.u8.drop 1) 2
  have hb2 := rowR_bd hb.2.2 2
  refine (fread_ok h.rr (by omega)).mono ?_
  rintro _ w' ⟨rfl, a'⟩
  exact ⟨_, rfl, apR ((Apart.refl [] w).alloc _) a', fun wx _ => fright_ok hb.1 hb2.1, fun wx _ => fform_ok hb.1 hb2.1, fun wx V _ hB => hB⟩
theorem Rdy.read4 {w : World} {sl : Sl} {bs : List Nat} (h : Rdy 4 w sl bs) : Calls Tryz.prog 134 #[.agg (ty.rg 0 0 ⟨#[]⟩), .pointer (some ⟨w.heap.size, 0, none⟩)] (w.alloc (.cells #[.slice sl.p sl.n sl.c] 131)) fun r w' => ∃ cs, r = .returned (.iface 108 (.agg cs)) ∧ Apart [] w w' ∧ (∀ wx, Apart [] w' wx → Calls Tryz.prog 135 #[.agg cs] wx fun r w2 => r = .returned (.bool (rightV (readV 4 bs))) ∧ Apart [] wx w2) ∧ (∀ wx, Apart [] w' wx → Calls Tryz.prog 133 #[.agg cs] wx fun r w2 => ∃ s', r = .returned (.slice s'.p s'.n s'.c) ∧ Bf wx w2 s' (formV (readV 4 bs))) ∧ (∀ wx V, Apart [] w' wx → Bd wx V (.iface 108 (.agg cs)) → Ho wx V (readV 4 bs)) := by
  have hle := h.le
  refine (gread_ok h.rr (by omega)).mono ?_
  rintro _ w' ⟨rfl, a'⟩
  refine ⟨_, rfl, apR ((Apart.refl [] w).alloc _) a', fun wx _ => gright_ok, fun wx _ => ?_, fun wx V _ hB => hB⟩
  exact gform_ok (by rw [strB_size]; show ((((bs.drop 1).drop 3).drop 1).take 59).length ≤ 1000; rw [List.length_take]; omega)
end Go.Proofs.YtdbeeikjngnnnaaGreat.ty
