import Derived.Test.YtdbeeikjngnnnaaT48
namespace Go.Proofs.Ytdbeeikjngnnnaa.ty
open Go.ChangeShapes Go.WideShapes Go.ChangeAt Go.RowKit
set_option linter.unusedVariables false
set_option linter.unusedSimpArgs false
/-- are the bytes a value's of the type? -/
def rdOk (k : Nat) (bs : List Nat) : Bool := rightV (readV k bs) && decide (formV (readV k bs) = bs)
theorem Rdy.any {k j : Nat} {w : World} {sl : Sl} {bs : List Nat} (h : Rdy k w sl bs) : Rdy j w sl bs := ⟨h.rd, h.len, h.ok, h.cap, h.u8, h.le⟩
theorem Read_ok {w : World} {sl : Sl} {bs : List Nat} (k : Nat) (h1 : 1 ≤ k) (h4 : k ≤ 4) (h : Rdy k w sl bs) (hr : rdOk k bs = true) : Calls Try.prog 8 #[.int .i64 (k : Int), .slice sl.p sl.n sl.c] w fun r w' => ∃ V, r = .returned (.tuple #[.pointer (some ⟨V, 0, none⟩), .int .i64 0]) ∧ w.heap.size ≤ V ∧ Ho w' V (readV k bs) ∧ Apart [] w w' := by
  unfold rdOk at hr
  simp only [Bool.and_eq_true, decide_eq_true_eq] at hr
  obtain rfl | rfl | rfl | rfl : k = 1 ∨ k = 2 ∨ k = 3 ∨ k = 4 := by omega
  · exact Read1_yes h hr.1 hr.2
  · exact Read2_yes h hr.1 hr.2
  · exact Read3_yes h hr.1 hr.2
  · exact Read4_yes h hr.1 hr.2
theorem Read_bad {w : World} {sl : Sl} {bs : List Nat} (k : Nat) (h1 : 1 ≤ k) (h4 : k ≤ 4) (h : Rdy k w sl bs) (hr : rdOk k bs = false) : Calls Try.prog 8 #[.int .i64 (k : Int), .slice sl.p sl.n sl.c] w fun r w' => r = .returned (.tuple #[.pointer none, .int .i64 190]) ∧ Apart [] w w' := by
  unfold rdOk at hr
  cases hb : rightV (readV k bs)
  · obtain rfl | rfl | rfl | rfl : k = 1 ∨ k = 2 ∨ k = 3 ∨ k = 4 := by omega
    · exact Read1_bad h hb
    · exact Read2_bad h hb
    · exact Read3_bad h hb
    · exact Read4_bad h hb
  · rw [hb] at hr
    have he : formV (readV k bs) ≠ bs := by simpa using hr
    obtain rfl | rfl | rfl | rfl : k = 1 ∨ k = 2 ∨ k = 3 ∨ k = 4 := by omega
    · exact Read1_ne h hb he
    · exact Read2_ne h hb he
    · exact Read3_ne h hb he
    · exact Read4_ne h hb he
set_option maxRecDepth 100000 in
theorem Read_none {w : World} (k : Int) (hk : ¬ (1 ≤ k ∧ k ≤ 4)) (v : Value) : Calls Try.prog 8 #[.int .i64 k, v] w fun r w' => r = .returned (.tuple #[.pointer none, .int .i64 1]) ∧ w' = w := by
  have HB := hid (blank_none w k hk)
  clear hk
  go_enter Try.func8, Try.ntmps8
  go_wp2_with (go_at_call 29; refine HB.out.mono ?_; rintro _ _ ⟨rfl, rfl⟩)
  go_wp2_with fail
  go_ret2
  exact ⟨rfl, rfl⟩
set_option maxRecDepth 100000 in
theorem Read_long {w : World} (k : Nat) (h1 : 1 ≤ k) (h4 : k ≤ 4) (p : Option Addr) (n c : Nat) (hn : ((n : Nat) : Int) > 64) : Calls Try.prog 8 #[.int .i64 (k : Int), .slice p n c] w fun r w' => r = .returned (.tuple #[.pointer none, .int .i64 2]) ∧ w' = w := by
  have HB := hid (blank_ok w k h1 h4)
  have hz := fun wx => zb_ne k wx
  have hg := fun x y wx => zb_gd k x y wx
  clear h1 h4
  go_enter Try.func8, Try.ntmps8
  go_wp2_with (go_at_call 29; refine HB.out.mono ?_; rintro _ _ ⟨rfl, rfl⟩)
  go_wp2_with fail
  go_ret2
  exact ⟨rfl, rfl⟩
/-- its form can be told -/
def OkF (v : Vl) : Prop := match v with
  | Sum.inl (u, d) => Wd u ∧ Wd d
  | Sum.inr (Sum.inl (c, es)) => c.length = 8 ∧ es.length ≤ 500 ∧ ∀ x ∈ es, x.e.size ≤ 1000
  | Sum.inr (Sum.inr (Sum.inl (c, g))) => c.length = 8 ∧ g.length = 8
  | Sum.inr (Sum.inr (Sum.inr (s, a, t))) => 0 ≤ s ∧ 0 ≤ a ∧ t.size ≤ 1000
set_option maxRecDepth 100000 in
theorem Bytes1_p {w : World} {V : Nat} {cs : Array Value} {bs : List Nat} (hV : Bd w V (.iface 88 (.agg cs))) (hc : Calls Try.prog 77 #[.agg cs] w fun r w' => ∃ s, r = .returned (.slice s.p s.n s.c) ∧ Bf w w' s bs) (hl : bs.length ≤ 64) : Calls Try.prog 10 #[.pointer (some ⟨V, 0, none⟩)] w fun r w' => ∃ s, r = .returned (.tuple #[.slice s.p s.n s.c, .int .i64 0]) ∧ Bf w w' s bs := by
  have z : w.cell? ⟨V, 0, none⟩ = some (.iface 88 (.agg cs)) := by rw [cell_of_row _ _ _ _ _ _ hV]; rfl
  have hm := fun wx => mr_form1 cs wx
  have HC := hid hc
  have Hl := hid hl
  clear hV hc hl
  go_enter Try.func10, Try.ntmps10
  go_upto_region 2 with (go_at_call 77; refine HC.out.mono ?_; rintro _ w1 ⟨s, rfl, b1⟩; have HB := hid b1; clear b1)
  have hn : ¬ ((s.n : Nat) : Int) > 64 := by have h1 := HB.out.len; have h2 := Hl.out; omega
  go_wp2_with fail
  go_ret2
  exact ⟨s, rfl, HB.out⟩
set_option maxRecDepth 100000 in
theorem Bytes2_p {w : World} {V : Nat} {cs : Array Value} {bs : List Nat} (hV : Bd w V (.iface 91 (.agg cs))) (hc : Calls Try.prog 87 #[.agg cs] w fun r w' => ∃ s, r = .returned (.slice s.p s.n s.c) ∧ Bf w w' s bs) (hl : bs.length ≤ 64) : Calls Try.prog 10 #[.pointer (some ⟨V, 0, none⟩)] w fun r w' => ∃ s, r = .returned (.tuple #[.slice s.p s.n s.c, .int .i64 0]) ∧ Bf w w' s bs := by
  have z : w.cell? ⟨V, 0, none⟩ = some (.iface 91 (.agg cs)) := by rw [cell_of_row _ _ _ _ _ _ hV]; rfl
  have hm := fun wx => mr_form2 cs wx
  have HC := hid hc
  have Hl := hid hl
  clear hV hc hl
  go_enter Try.func10, Try.ntmps10
  go_upto_region 2 with (go_at_call 87; refine HC.out.mono ?_; rintro _ w1 ⟨s, rfl, b1⟩; have HB := hid b1; clear b1)
  have hn : ¬ ((s.n : Nat) : Int) > 64 := by have h1 := HB.out.len; have h2 := Hl.out; omega
  go_wp2_with fail
  go_ret2
  exact ⟨s, rfl, HB.out⟩
set_option maxRecDepth 100000 in
theorem Bytes3_p {w : World} {V : Nat} {cs : Array Value} {bs : List Nat} (hV : Bd w V (.iface 93 (.agg cs))) (hc : Calls Try.prog 102 #[.agg cs] w fun r w' => ∃ s, r = .returned (.slice s.p s.n s.c) ∧ Bf w w' s bs) (hl : bs.length ≤ 64) : Calls Try.prog 10 #[.pointer (some ⟨V, 0, none⟩)] w fun r w' => ∃ s, r = .returned (.tuple #[.slice s.p s.n s.c, .int .i64 0]) ∧ Bf w w' s bs := by
  have z : w.cell? ⟨V, 0, none⟩ = some (.iface 93 (.agg cs)) := by rw [cell_of_row _ _ _ _ _ _ hV]; rfl
  have hm := fun wx => mr_form3 cs wx
  have HC := hid hc
  have Hl := hid hl
  clear hV hc hl
  go_enter Try.func10, Try.ntmps10
  go_upto_region 2 with (go_at_call 102; refine HC.out.mono ?_; rintro _ w1 ⟨s, rfl, b1⟩; have HB := hid b1; clear b1)
  have hn : ¬ ((s.n : Nat) : Int) > 64 := by have h1 := HB.out.len; have h2 := Hl.out; omega
  go_wp2_with fail
  go_ret2
  exact ⟨s, rfl, HB.out⟩
set_option maxRecDepth 100000 in
theorem Bytes4_p {w : World} {V : Nat} {cs : Array Value} {bs : List Nat} (hV : Bd w V (.iface 95 (.agg cs))) (hc : Calls Try.prog 107 #[.agg cs] w fun r w' => ∃ s, r = .returned (.slice s.p s.n s.c) ∧ Bf w w' s bs) (hl : bs.length ≤ 64) : Calls Try.prog 10 #[.pointer (some ⟨V, 0, none⟩)] w fun r w' => ∃ s, r = .returned (.tuple #[.slice s.p s.n s.c, .int .i64 0]) ∧ Bf w w' s bs := by
  have z : w.cell? ⟨V, 0, none⟩ = some (.iface 95 (.agg cs)) := by rw [cell_of_row _ _ _ _ _ _ hV]; rfl
  have hm := fun wx => mr_form4 cs wx
  have HC := hid hc
  have Hl := hid hl
  clear hV hc hl
  go_enter Try.func10, Try.ntmps10
  go_upto_region 2 with (go_at_call 107; refine HC.out.mono ?_; rintro _ w1 ⟨s, rfl, b1⟩; have HB := hid b1; clear b1)
  have hn : ¬ ((s.n : Nat) : Int) > 64 := by have h1 := HB.out.len; have h2 := Hl.out; omega
  go_wp2_with fail
  go_ret2
  exact ⟨s, rfl, HB.out⟩
theorem Bytes_v {w : World} {V : Nat} {v : Vl} (hV : Ho w V v) (ok : OkF v) (hl : (formV v).length ≤ 64) : Calls Try.prog 10 #[.pointer (some ⟨V, 0, none⟩)] w fun r w' => ∃ s, r = .returned (.tuple #[.slice s.p s.n s.c, .int .i64 0]) ∧ Bf w w' s (formV v) := by
  cases v using Vl.el with
  | cnt u d => exact Bytes1_p hV (cform_ok ok.1 ok.2) hl
  | set c es =>
    obtain ⟨s, h1, h2⟩ := hV
    exact Bytes2_p h1 (sform_ok ok.1 h2 ok.2.1 ok.2.2) hl
  | flg c g => exact Bytes3_p hV (fform_ok ok.1 ok.2) hl
  | rgs s a t =>
    obtain ⟨n, rfl⟩ := Int.eq_ofNat_of_zero_le ok.1
    obtain ⟨b, rfl⟩ := Int.eq_ofNat_of_zero_le ok.2.1
    exact Bytes4_p hV (gform_ok ok.2.2) hl
theorem readV_okF {k : Nat} (h1 : 1 ≤ k) (h4 : k ≤ 4) {bs : List Nat} (h8 : U8 bs) (hl : bs.length ≤ 64) : OkF (readV k bs) := by
  obtain rfl | rfl | rfl | rfl : k = 1 ∨ k = 2 ∨ k = 3 ∨ k = 4 := by omega
  · have hb := rowR_bd (h8.drop 1) 6
    exact cu_wd hb.1 hb.2.1
  · have hb := rowR_bd (h8.drop 1) 2
    have hs := esI_bd (hb.2.2.drop 1) (leV ((rowR (bs.drop 1) 2).2.take 1))
    have hn := leV1 hb.2.2
    have hl1 := rowR_left (bs.drop 1) 2
    rw [List.length_drop] at hl1
    refine ⟨hb.1, by rw [esI_len]; omega, fun x hx => ?_⟩
    have h1 := (hs.1 x hx).1
    rw [List.length_drop] at h1
    omega
  · have hb := rowR_bd (h8.drop 1) 2
    have hb2 := rowR_bd hb.2.2 2
    exact ⟨hb.1, hb2.1⟩
  · refine ⟨Int.natCast_nonneg _, Int.natCast_nonneg _, ?_⟩
    rw [strB_size]
    show ((((bs.drop 1).drop 3).drop 1).take 59).length ≤ 1000
    rw [List.length_take]; omega
theorem new0_okF (k : Nat) : OkF (new0 k) := by
  unfold new0
  split
  · exact ⟨Wd.zr, Wd.zr⟩
  split
  · exact ⟨rfl, by simp, by simp⟩
  split
  · exact ⟨rfl, rfl⟩
  · exact ⟨by omega, by omega, by decide⟩
end Go.Proofs.Ytdbeeikjngnnnaa.ty
