import Derived.Test.YtdbeeikjngnnnaaT42
namespace Go.Proofs.Ytdbeeikjngnnnaa.ty
open Go.ChangeShapes Go.WideShapes Go.ChangeAt Go.RowKit
set_option linter.unusedVariables false
set_option linter.unusedSimpArgs false
theorem rwI_bd {mask wd : Nat} {us : List Nat} (hu : ∀ x ∈ us, x < 256) : ∀ i, (∀ x ∈ (rwI mask wd i us).1, 0 ≤ x ∧ x < 2 ^ (8 * wd)) ∧ (∀ x ∈ (rwI mask wd i us).2, x < 256)
  | 0 => ⟨by simp [rwI], hu⟩
  | i + 1 => by
    obtain ⟨h1, h2⟩ := rwI_bd (mask := mask) (wd := wd) hu i
    unfold rwI
    have hp : (0 : Int) < 2 ^ (8 * wd) := by
      have : (0 : Nat) < 2 ^ (8 * wd) := Nat.pow_pos (by decide)
      exact_mod_cast this
    split
    · refine ⟨fun x hx => ?_, fun x hx => h2 x (List.mem_of_mem_drop hx)⟩
      rcases List.mem_append.1 hx with hx | hx
      · exact h1 x hx
      · simp at hx
        subst hx
        refine ⟨by omega, ?_⟩
        have h3 := leV_lt (l := (rwI mask wd i us).2.take wd) (fun x hx => h2 x (List.mem_of_mem_take hx))
        have h4 : 2 ^ (8 * ((rwI mask wd i us).2.take wd).length) ≤ 2 ^ (8 * wd) := Nat.pow_le_pow_right (by decide) (by rw [List.length_take]; omega)
        have h5 : leV ((rwI mask wd i us).2.take wd) < 2 ^ (8 * wd) := Nat.lt_of_lt_of_le h3 h4
        exact_mod_cast h5
    · refine ⟨fun x hx => ?_, h2⟩
      rcases List.mem_append.1 hx with hx | hx
      · exact h1 x hx
      · simp at hx
        subst hx
        exact ⟨by omega, hp⟩
theorem mix_step {a b : List Int} (ha : a.length = 8) (hb : b.length = 8) (i : Nat) (hi : i < 8) : (a.take i ++ b.drop i).set i (a.getD i 0) = a.take (i + 1) ++ b.drop (i + 1) := by
  have h1 : (a.take i).length = i := by rw [List.length_take]; omega
  rw [List.set_append_right _ _ (by omega), h1, Nat.sub_self, List.drop_eq_getElem_cons (by omega), List.set_cons_zero, List.take_succ_eq_append_getElem (by omega), List.append_assoc]
  simp [ha, hi]
theorem mix_len {a b : List Int} (ha : a.length = 8) (hb : b.length = 8) (i : Nat) (hi : i ≤ 8) : (a.take i ++ b.drop i).length = 8 := by simp; omega
def cuR (g : List Int) : List Int := g.map fun n => n % 16777216
def cdR (g : List Int) : List Int := g.map fun n => n / 16777216
theorem getD_map {g : List Int} {f : Int → Int} {i : Nat} (h : i < g.length) : (g.map f).getD i 0 = f (g.getD i 0) := by
  simp [h]
set_option maxHeartbeats 2000000 in
set_option maxRecDepth 100000 in
theorem cread_ok {wB w : World} {R : Nat} {s : Sl} {us : List Nat} (h : Rr wB w R s us) (hl : us.length ≤ 1000000) : Calls Try.prog 78 #[.agg (rv (zr ++ zr)).toArray, .pointer (some ⟨R, 0, none⟩)] w fun r w' => r = .returned (.iface 88 (.agg (rv (cuR (rowR (us.drop 1) 6).1 ++ cdR (rowR (us.drop 1) 6).1)).toArray)) ∧ Apart [R] w w' := by
  have HWB : Hid (wB.heap.size ≤ w.heap.size) := hid h.ap.size
  have HR := hid h
  have Hl := hid hl
  have hRl := lt_of_heap h.blk
  clear h hl
  obtain ⟨r1, Hr1⟩ : ∃ r, Hid (r = rowR (us.drop 1) 6) := ⟨_, hid rfl⟩
  rw [← Hr1.out]
  have Hgl0 : Hid (r1.1.length = 8) := hid (by rw [Hr1.out]; exact rwI_len _ _ _ _)
  have Hbd0 : Hid (∀ x ∈ r1.1, 0 ≤ x ∧ x < 2 ^ (8 * 6)) := hid (by rw [Hr1.out]; exact (rwI_bd (fun x hx => HR.out.u8 x (List.mem_of_mem_drop (List.mem_of_mem_drop hx))) 8).1)
  obtain ⟨g, Hg⟩ : ∃ g, Hid (g = r1.1) := ⟨_, hid rfl⟩
  rw [← Hg.out] at Hgl0 Hbd0 ⊢
  go_enter Try.func78, Try.ntmps78
  go_upto_region 1 with fail
  obtain ⟨X, HXX⟩ : ∃ X, Hid (X = w.heap.size) := ⟨_, rfl⟩
  obtain ⟨w1, hw1⟩ : ∃ W, W = w.alloc (.cells (rv (zr ++ zr)).toArray 88) := ⟨_, rfl⟩
  have HSw1 : Hid (Apart [] w w1) := by unfold Hid; rw [hw1]; exact (Apart.refl [] w).alloc _
  have HBX : Hid (w1.heap[X]? = some (.cells (rv (zr ++ zr)).toArray 88 (0, 0))) := by unfold Hid; rw [HXX.out, hw1]; exact heap_alloc_new w _
  have HLX : Hid (w.heap.size ≤ X) := by unfold Hid; rw [HXX.out]; exact Nat.le_refl _
  have HN : Hid (X ≠ R) := hid (by have := HLX.out; omega)
  rw [← hw1, ← HXX.out]
  clear hw1 HXX hRl
  have HC := hid (next_ok (HR.out.kept0 HSw1.out) Hl.out 1 (by omega))
  go_upto_region 2 with (go_at_call 83; refine HC.out.mono ?_; rintro _ w2 ⟨a2, rfl, p2, b2, q2, s2⟩; have HR2 := hid q2; have HS2 := hid s2; clear p2 q2 s2 HC)
  have HBX2 := hid (keepB HS2.out HBX.out HN.out)
  have HC := hid (row_ok HR2.out (by have := Hl.out; rw [List.length_drop]; omega) 6 (by omega))
  rw [← Hr1.out, ← Hg.out] at HC
  clear HBX HR
  go_wp2_with (go_at_call 84; refine HC.out.mono ?_; rintro _ w3 ⟨rfl, ⟨b3, q3⟩, s3⟩; have HS3 := hid s3; have HBX3 := hid (keepB HS3.out HBX2.out HN.out); clear q3 s3 HC)
  have HA3 : Hid (Apart [R] w w3) := hid (((HSw1.out.mono (by simp)).trans HS2.out).trans HS3.out)
  clear HBX2 HS3 HS2 HSw1 HR2
  go_loopw [11] (fun v wt => ∃ i : Nat, v = .int .i64 (i : Nat) ∧ i ≤ 8 ∧ Hid (wt.heap[X]? = some (.cells (rv (((cuR g).take i ++ zr.drop i) ++ ((cdR g).take i ++ zr.drop i))).toArray 88 (0, 0))) ∧ Hid (Apart [R] w wt)) (fun v _ => 8 - (intOf v).toNat)
  case atStart => exact ⟨0, rfl, Nat.zero_le _, HBX3, HA3⟩
  case round =>
    clear HBX3 HA3
    obtain ⟨i, rfl, hi, HBX, HA⟩ := hrel
    generalize wr = wt at *
    have Hcu : Hid ((cuR g).length = 8) := hid (by simp [cuR, Hgl0.out])
    have Hcd : Hid ((cdR g).length = 8) := hid (by simp [cdR, Hgl0.out])
    by_cases hlt : i < 8
    · have hlti : ((i : Nat) : Int) < 8 := by omega
      have hlt0 : (0 : Int) ≤ ((i : Nat) : Int) ∧ ((i : Nat) : Int) < 8 := by omega
      have hri := fun (wx : World) => run_idx (b := g) i Hgl0.out hlt wx
      have Hx : Hid (0 ≤ g.getD i 0 ∧ g.getD i 0 < 2 ^ (8 * 6)) := hid (by
        have hm : g.getD i 0 ∈ g := by
          rw [List.getD_eq_getElem?_getD, List.getElem?_eq_getElem (by rw [Hgl0.out]; exact hlt)]
          exact List.getElem_mem _
        exact Hbd0.out _ hm)
      obtain ⟨n, Hn⟩ : ∃ n : Nat, Hid (g.getD i 0 = (n : Int)) := ⟨(g.getD i 0).toNat, hid (by have := Hx.out; omega)⟩
      rw [Hn.out] at hri
      have hn48 : n < 281474976710656 := by have h1 := Hx.out; rw [Hn.out] at h1; omega
      have Hand : Hid (bits .and .i64 (n : Int) 16777215 = ((n % 16777216 : Nat) : Int)) := hid (by
        have := i64_and_nat n 16777215 (by omega) (by omega)
        have e : n &&& 16777215 = n % 16777216 := Nat.and_two_pow_sub_one_eq_mod n 24
        rw [e] at this
        exact this)
      have Hu1 : Hid ((cuR g).getD i 0 = ((n % 16777216 : Nat) : Int)) := hid (by rw [cuR, getD_map (by rw [Hgl0.out]; exact hlt), Hn.out]; rfl)
      have Hd1 : Hid ((cdR g).getD i 0 = ((n / 16777216 : Nat) : Int)) := hid (by rw [cdR, getD_map (by rw [Hgl0.out]; exact hlt), Hn.out]; rfl)
      have z1 := cell20 HBX.out i (by rw [mix_len Hcu.out rfl i hi]; exact hlt)
      have z2 := cell28 (mix_len Hcu.out rfl i hi) HBX.out i (by rw [mix_len Hcd.out rfl i hi]; exact hlt)
      have f1 := frozen_of_row _ _ i _ _ HBX.out
      have f2 := frozen_of_row _ _ (8 + i) _ _ HBX.out
      go_wp2_with fail
      rw [Hand.out]
      refine ⟨⟨i + 1, by go_num, by omega, ?_, ?_⟩, by simp [intOf]; omega⟩
      · unfold Hid
        have e1 := heap_setCell_same wt X i _ 88 (.int .i64 ((n % 16777216 : Nat) : Int)) HBX.out
        rw [heap_setCell_same _ X (8 + i) _ 88 _ e1]
        have ed : ((n : Int) / 16777216) = ((n / 16777216 : Nat) : Int) := by rw [Int.natCast_ediv]; rfl
        have hA : ((cuR g).take i ++ zr.drop i).length = 8 := mix_len Hcu.out rfl i hi
        rw [ed, List.setIfInBounds_toArray, List.setIfInBounds_toArray, rv_set, rv_set, List.set_append_left _ _ (by rw [hA]; exact hlt), List.set_append_right _ _ (by rw [List.length_set, hA]; omega), List.length_set, hA, show 8 + i - 8 = i from by omega, ← Hu1.out, ← Hd1.out, mix_step Hcu.out rfl i hlt, mix_step Hcd.out rfl i hlt]
      · exact hid ((HA.out.setCell (p := ⟨X, i, none⟩) (.inr HLX.out) _).setCell (p := ⟨X, 8 + i, none⟩) (.inr HLX.out) _)
    · have hlti : ¬ ((i : Nat) : Int) < 8 := by omega
      obtain rfl : i = 8 := by omega
      have HBX5 : Hid (wt.heap[X]? = some (.cells (rv (cuR g ++ cdR g)).toArray 88 (0, 0))) := hid (by
        have h1 := HBX.out
        rw [List.take_of_length_le (by rw [Hcu.out]; exact Nat.le_refl _), List.take_of_length_le (by rw [Hcd.out]; exact Nat.le_refl _), show zr.drop 8 = [] from rfl, List.append_nil, List.append_nil] at h1
        exact h1)
      go_wp2_with (refine wpList_load_row rfl 88 _ rfl X rfl 88 _ (0, 0) _ HBX5.out Try.underlying88 rfl (by rw [size88]; simp [rv_len, Hcu.out, Hcd.out]) ?_)
      go_ret
      exact ⟨rfl, HA.out⟩
end Go.Proofs.Ytdbeeikjngnnnaa.ty
