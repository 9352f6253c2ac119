import Derived.Test.YtdbeeikjngnnnaaG26
namespace Go.Proofs.Ytdbeeikjngnnnaa.ty
open Go.ChangeShapes Go.WideShapes Go.ChangeAt Go.RowKit
set_option linter.unusedVariables false
set_option linter.unusedSimpArgs false
/-- are the bytes a value's of the type? -/
def rdOk (k : Nat) (bs : List Nat) : Bool := rightV (readV k bs) && decide (formV (readV k bs) = bs)
theorem Rdy.any {k j : Nat} {w : World} {sl : Sl} {bs : List Nat} (h : Rdy k w sl bs) : Rdy j w sl bs := ⟨h.rd, h.len, h.ok, h.cap, h.u8, h.le⟩
theorem Read_ok {w : World} {sl : Sl} {bs : List Nat} (k : Nat) (h1 : 1 ≤ k) (h4 : k ≤ 4) (h : Rdy k w sl bs) (hr : rdOk k bs = true) : Calls Try.prog 8 #[.int .i64 (k : Int), .slice sl.p sl.n sl.c] w fun r w' => ∃ V, r = .returned (.tuple #[.pointer (some ⟨V, 0, none⟩), .int .i64 0]) ∧ w.heap.size ≤ V ∧ Ho w' V (readV k bs) ∧ Apart [] w w' := by
  unfold rdOk at hr
  simp only [Bool.and_eq_true, decide_eq_true_eq] at hr
  obtain rfl | rfl | rfl | rfl : k = 1 ∨ k = 2 ∨ k = 3 ∨ k = 4 := by omega
  · exact Read1_yes h hr.1 hr.2
  · exact Read2_yes h hr.1 hr.2
  · exact Read3_yes h hr.1 hr.2
  · exact Read4_yes h hr.1 hr.2
theorem Read_bad {w : World} {sl : Sl} {bs : List Nat} (k : Nat) (h1 : 1 ≤ k) (h4 : k ≤ 4) (h : Rdy k w sl bs) (hr : rdOk k bs = false) : Calls Try.prog 8 #[.int .i64 (k : Int), .slice sl.p sl.n sl.c] w fun r w' => r = .returned (.tuple #[.pointer none, .int .i64 190]) ∧ Apart [] w w' := by
  unfold rdOk at hr
  cases hb : rightV (readV k bs)
  · obtain rfl | rfl | rfl | rfl : k = 1 ∨ k = 2 ∨ k = 3 ∨ k = 4 := by omega
    · exact Read1_bad h hb
    · exact Read2_bad h hb
    · exact Read3_bad h hb
    · exact Read4_bad h hb
  · rw [hb] at hr
    have he : formV (readV k bs) ≠ bs := by simpa using hr
    obtain rfl | rfl | rfl | rfl : k = 1 ∨ k = 2 ∨ k = 3 ∨ k = 4 := by omega
    · exact Read1_ne h hb he
    · exact Read2_ne h hb he
    · exact Read3_ne h hb he
    · exact Read4_ne h hb he
set_option maxRecDepth 100000 in
theorem Read_none {w : World} (k : Int) (hk : ¬ (1 ≤ k ∧ k ≤ 4)) (v : Value) : Calls Try.prog 8 #[.int .i64 k, v] w fun r w' => r = .returned (.tuple #[.pointer none, .int .i64 1]) ∧ w' = w := by
  have HB := hid (blank_none w k hk)
  clear hk
  go_enter Try.func8, Try.ntmps8
  go_wp2_with (go_at_call 29; refine HB.out.mono ?_; rintro _ _ ⟨rfl, rfl⟩)
  go_wp2_with fail
  go_ret2
  exact ⟨rfl, rfl⟩
set_option maxRecDepth 100000 in
theorem Read_long {w : World} (k : Nat) (h1 : 1 ≤ k) (h4 : k ≤ 4) (p : Option Addr) (n c : Nat) (hn : ((n : Nat) : Int) > 64) : Calls Try.prog 8 #[.int .i64 (k : Int), .slice p n c] w fun r w' => r = .returned (.tuple #[.pointer none, .int .i64 2]) ∧ w' = w := by
  have HB := hid (blank_ok w k h1 h4)
  have hz := fun wx => zb_ne k wx
  have hg := fun x y wx => zb_gd k x y wx
  clear h1 h4
  go_enter Try.func8, Try.ntmps8
  go_wp2_with (go_at_call 29; refine HB.out.mono ?_; rintro _ _ ⟨rfl, rfl⟩)
  go_wp2_with fail
  go_ret2
  exact ⟨rfl, rfl⟩
/-- its form can be told -/
def OkF (v : Vl) : Prop := match v with
  | Sum.inl (u, d) => Wd u ∧ Wd d
  | Sum.inr (Sum.inl (c, es)) => c.length = 8 ∧ es.length ≤ 500 ∧ ∀ x ∈ es, x.e.size ≤ 1000
  | Sum.inr (Sum.inr (Sum.inl (c, g))) => c.length = 8 ∧ g.length = 8
  | Sum.inr (Sum.inr (Sum.inr (s, a, t))) => 0 ≤ s ∧ 0 ≤ a ∧ t.size ≤ 1000
set_option maxRecDepth 100000 in
theorem Bytes1_p {w : World} {V : Nat} {cs : Array Value} {bs : List Nat} (hV : Bd w V (.iface 88 (.agg cs))) (hc : Calls Try.prog 77 #[.agg cs] w fun r w' => ∃ s, r = .returned (.slice s.p s.n s.c) ∧ Bf w w' s bs) (hl : bs.length ≤ 64) : Calls Try.prog 10 #[.pointer (some ⟨V, 0, none⟩)] w fun r w' => ∃ s, r = .returned (.tuple #[.slice s.p s.n s.c, .int .i64 0]) ∧ Bf w w' s bs := by
  have z : w.cell? ⟨V, 0, none⟩ = some (.iface 88 (.agg cs)) := by rw [cell_of_row _ _ _ _ _ _ hV]; rfl
  have hm := fun wx => mr_form1 cs wx
  have HC := hid hc
  have Hl := hid hl
  clear hV hc hl
  go_enter Try.func10, Try.ntmps10
  go_upto_region 2 with (go_at_call 77; refine HC.out.mono ?_; rintro _ w1 ⟨s, rfl, b1⟩; have HB := hid b1; clear b1)
  have hn : ¬ ((s.n : Nat) : Int) > 64 := by have h1 := HB.out.len; have h2 := Hl.out; omega
  go_wp2_with fail
  go_ret2
  exact ⟨s, rfl, HB.out⟩
set_option maxRecDepth 100000 in
theorem Bytes2_p {w : World} {V : Nat} {cs : Array Value} {bs : List Nat} (hV : Bd w V (.iface 91 (.agg cs))) (hc : Calls Try.prog 87 #[.agg cs] w fun r w' => ∃ s, r = .returned (.slice s.p s.n s.c) ∧ Bf w w' s bs) (hl : bs.length ≤ 64) : Calls Try.prog 10 #[.pointer (some ⟨V, 0, none⟩)] w fun r w' => ∃ s, r = .returned (.tuple #[.slice s.p s.n s.c, .int .i64 0]) ∧ Bf w w' s bs := by
  have z : w.cell? ⟨V, 0, none⟩ = some (.iface 91 (.agg cs)) := by rw [cell_of_row _ _ _ _ _ _ hV]; rfl
  have hm := fun wx => mr_form2 cs wx
  have HC := hid hc
  have Hl := hid hl
  clear hV hc hl
  go_enter Try.func10, Try.ntmps10
  go_upto_region 2 with (go_at_call 87; refine HC.out.mono ?_; rintro _ w1 ⟨s, rfl, b1⟩; have HB := hid b1; clear b1)
  have hn : ¬ ((s.n : Nat) : Int) > 64 := by have h1 := HB.out.len; have h2 := Hl.out; omega
  go_wp2_with fail
  go_ret2
  exact ⟨s, rfl, HB.out⟩
set_option maxRecDepth 100000 in
theorem Bytes3_p {w : World} {V : Nat} {cs : Array Value} {bs : List Nat} (hV : Bd w V (.iface 93 (.agg cs))) (hc : Calls Try.prog 102 #[.agg cs] w fun r w' => ∃ s, r = .returned (.slice s.p s.n s.c) ∧ Bf w w' s bs) (hl : bs.length ≤ 64) : Calls Try.prog 10 #[.pointer (some ⟨V, 0, none⟩)] w fun r w' => ∃ s, r = .returned (.tuple #[.slice s.p s.n s.c, .int .i64 0]) ∧ Bf w w' s bs := by
  have z : w.cell? ⟨V, 0, none⟩ = some (.iface 93 (.agg cs)) := by rw [cell_of_row _ _ _ _ _ _ hV]; rfl
  have hm := fun wx => mr_form3 cs wx
  have HC := hid hc
  have Hl := hid hl
  clear hV hc hl
  go_enter Try.func10, Try.ntmps10
  go_upto_region 2 with (go_at_call 102; refine HC.out.mono ?_; rintro _ w1 ⟨s, rfl, b1⟩; have HB := hid b1; clear b1)
  have hn : ¬ ((s.n : Nat) : Int) > 64 := by have h1 := HB.out.len; have h2 := Hl.out; omega
  go_wp2_with fail
  go_ret2
  exact ⟨s, rfl, HB.out⟩
set_option maxRecDepth 100000 in
theorem Bytes4_p {w : World} {V : Nat} {cs : Array Value} {bs : List Nat} (hV : Bd w V (.iface 95 (.agg cs))) (hc : Calls Try.prog 107 #[.agg cs] w fun r w' => ∃ s, r = .returned (.slice s.p s.n s.c) ∧ Bf w w' s bs) (hl : bs.length ≤ 64) : Calls Try.prog 10 #[.pointer (some ⟨V, 0, none⟩)] w fun r w' => ∃ s, r = .returned (.tuple #[.slice s.p s.n s.c, .int .i64 0]) ∧ Bf w w' s bs := by
  have z : w.cell? ⟨V, 0, none⟩ = some (.iface 95 (.agg cs)) := by rw [cell_of_row _ _ _ _ _ _ hV]; rfl
  have hm := fun wx => mr_form4 cs wx
  have HC := hid hc
  have Hl := hid hl
  clear hV hc hl
  go_enter Try.func10, Try.ntmps10
  go_upto_region 2 with (go_at_call 107; refine HC.out.mono ?_; rintro _ w1 ⟨s, rfl, b1⟩; have HB := hid b1; clear b1)
  have hn : ¬ ((s.n : Nat) : Int) > 64 := by have h1 := HB.out.len; have h2 := Hl.out; omega
  go_wp2_with fail
  go_ret2
  exact ⟨s, rfl, HB.out⟩
theorem Bytes_v {w : World} {V : Nat} {v : Vl} (hV : Ho w V v) (ok : OkF v) (hl : (formV v).length ≤ 64) : Calls Try.prog 10 #[.pointer (some ⟨V, 0, none⟩)] w fun r w' => ∃ s, r = .returned (.tuple #[.slice s.p s.n s.c, .int .i64 0]) ∧ Bf w w' s (formV v) := by
  cases v using Vl.el with
  | cnt u d => exact Bytes1_p hV (cform_ok ok.1 ok.2) hl
  | set c es =>
    obtain ⟨s, h1, h2⟩ := hV
    exact Bytes2_p h1 (sform_ok ok.1 h2 ok.2.1 ok.2.2) hl
  | flg c g => exact Bytes3_p hV (fform_ok ok.1 ok.2) hl
  | rgs s a t =>
    obtain ⟨n, rfl⟩ := Int.eq_ofNat_of_zero_le ok.1
    obtain ⟨b, rfl⟩ := Int.eq_ofNat_of_zero_le ok.2.1
    exact Bytes4_p hV (gform_ok ok.2.2) hl
theorem readV_okF {k : Nat} (h1 : 1 ≤ k) (h4 : k ≤ 4) {bs : List Nat} (h8 : U8 bs) (hl : bs.length ≤ 64) : OkF (readV k bs) := by
  obtain rfl | rfl | rfl | rfl : k = 1 ∨ k = 2 ∨ k = 3 ∨ k = 4 := by omega
  · have hb := rowR_bd (h8.drop 1) 6
    exact cu_wd hb.1 hb.2.1
  · have hb := rowR_bd (h8.drop 1) 2
    have hs := esI_bd (hb.2.2.drop 1) (leV ((rowR (bs.drop 1) 2).2.take 1))
    have hn := leV1 hb.2.2
    have hl1 := rowR_left (bs.drop 1) 2
    rw [List.length_drop] at hl1
    refine ⟨hb.1, by rw [esI_len]; omega, fun x hx => ?_⟩
    have h1 := (hs.1 x hx).1
    rw [List.length_drop] at h1
    omega
  · have hb := rowR_bd (h8.drop 1) 2
    have hb2 := rowR_bd hb.2.2 2
    exact ⟨hb.1, hb2.1⟩
  · refine ⟨Int.natCast_nonneg _, Int.natCast_nonneg _, ?_⟩
    rw [strB_size]
    show ((((bs.drop 1).drop 3).drop 1).take 59).length ≤ 1000
    rw [List.length_take]; omega
theorem new0_okF (k : Nat) : OkF (new0 k) := by
  unfold new0
  split
  · exact ⟨Wd.zr, Wd.zr⟩
  split
  · exact ⟨rfl, by simp, by simp⟩
  split
  · exact ⟨rfl, rfl⟩
  · exact ⟨by omega, by omega, by decide⟩
end Go.Proofs.Ytdbeeikjngnnnaa.ty
namespace Go.Proofs.Ytdbeeikjngnnnaa.ty
open Go.ChangeShapes Go.WideShapes Go.ChangeAt Go.RowKit
set_option linter.unusedVariables false
set_option linter.unusedSimpArgs false
/-- bytes that were handed in -/
structure Gv (w : World) (sl : Sl) (bs : List Nat) : Prop where
  rd : Rd w sl.p (byts bs)
  len : bs.length = sl.n
  ok : sl.ok
  u8 : U8 bs
  le : bs.length ≤ 2000000
theorem Gv.kept0 {w w' : World} {sl : Sl} {bs : List Nat} (h : Gv w sl bs) (a : Apart [] w w') : Gv w' sl bs := ⟨h.rd.kept0 a, h.len, h.ok, h.u8, h.le⟩
/-- a copy of them -/
theorem copyB {w : World} {sl : Sl} {bs : List Nat} (h : Gv w sl bs) : ∃ s' w', (Builtin.append_ #[22, 22] 22 #[.slice none 0 0, .slice sl.p sl.n sl.c]).run Try.prog w = .ok (.slice s'.p s'.n s'.c) w' ∧ Nw w w' 5 1 s' (byts bs) ∧ s'.n = sl.n ∧ Apart [] w w' := by
  obtain ⟨i0, hif, hz0, hz1, hz2⟩ := info_of info5
  have h1 := h.len
  have h2 := h.le
  obtain ⟨s', w', hrun, n', l'⟩ := run_appNil w 22 22 5 i0 _ 1 1 Try.underlying22 hif hz0 hz1 hz2 rfl (by decide) sl (byts bs) h.rd (by rw [byts_len]; omega) (oneB _) (by omega) (by omega) h.ok
  exact ⟨s', w', hrun, n', l', n'.ap⟩
theorem Nw.cap {w w' : World} {e size : Nat} {s : Sl} {us : List Value} (h : Nw w w' e size s us) : s.n ≤ s.c := by
  obtain ⟨_, ⟨hv, hz⟩ | ⟨g, cap, cur, hv, hbb, hr', hle, hrest⟩⟩ := h.own
  · omega
  · simp only [Sl.v, Value.slice.injEq] at hv; omega
/-- the value of the bytes, or a new one -/
def valV (k : Nat) (bs : List Nat) : Vl := if bs.length ≤ 64 ∧ rdOk k bs = true then readV k bs else new0 k
set_option maxHeartbeats 1000000 in
set_option maxRecDepth 100000 in
theorem value_ok {w : World} {sl : Sl} {bs : List Nat} (k : Nat) (h1 : 1 ≤ k) (h4 : k ≤ 4) (h : Gv w sl bs) : Calls Try.prog 12 #[.int .i64 (k : Int), .slice sl.p sl.n sl.c] w fun r w' => ∃ V, r = .returned (.pointer (some ⟨V, 0, none⟩)) ∧ w.heap.size ≤ V ∧ Ho w' V (valV k bs) ∧ Apart [] w w' := by
  obtain ⟨s1, w1, hrun, n1, l1, a1⟩ := copyB h
  have HR := hid hrun
  have HA1 := hid a1
  have hln : bs.length = s1.n := by rw [l1]; exact h.len
  obtain ⟨vv, Hvv⟩ : ∃ v, Hid (v = valV k bs) := ⟨_, hid rfl⟩
  rw [← Hvv.out]
  by_cases h64 : bs.length ≤ 64
  · have HD : Hid (Rdy k w1 s1 bs) := hid ⟨n1.rd, hln, n1.ok, n1.cap, h.u8, h64⟩
    cases hr : rdOk k bs
    · have Hv2 : Hid (vv = new0 k) := hid (by rw [Hvv.out, valV, if_neg (by rw [hr]; simp)])
      have HC := hid (Read_bad k h1 h4 HD.out hr)
      have HN := hid (fun wx => new_ok wx k h1 h4)
      have HHo := hid (fun wx => Ho.new wx k h1 h4)
      clear h n1 l1 a1 hrun hln h1 h4 hr h64
      go_enter Try.func12, Try.ntmps12
      go_wp2_with (first
        | (at_builtin; refine wpList_append3 rfl _ _ 22 rfl _ _ rfl rfl (.slice s1.p s1.n s1.c) w1 HR.out ?_)
        | (go_at_call 8; refine HC.out.mono ?_; rintro _ w2 ⟨rfl, a2⟩; have HA2 := hid a2; clear a2)
        | (go_at_call 9; refine (HN.out _).mono ?_; rintro _ _ ⟨rfl, rfl⟩))
      go_ret
      have ha := HA1.out.trans HA2.out
      exact ⟨_, rfl, ha.size, by rw [Hv2.out]; exact HHo.out _, ha.alloc _⟩
    · have Hv2 : Hid (vv = readV k bs) := hid (by rw [Hvv.out, valV, if_pos ⟨h64, hr⟩])
      have HC := hid (Read_ok k h1 h4 HD.out hr)
      rw [← Hv2.out] at HC
      clear h n1 l1 a1 hrun hln h1 h4 hr h64
      go_enter Try.func12, Try.ntmps12
      go_wp2_with (first
        | (at_builtin; refine wpList_append3 rfl _ _ 22 rfl _ _ rfl rfl (.slice s1.p s1.n s1.c) w1 HR.out ?_)
        | (go_at_call 8; refine HC.out.mono ?_; rintro _ w2 ⟨V, rfl, l2, o2, a2⟩; have HA2 := hid a2; have HO := hid o2; have HL := hid l2; clear a2 o2 l2))
      go_ret
      exact ⟨V, rfl, Nat.le_trans HA1.out.size HL.out, HO.out, HA1.out.trans HA2.out⟩
  · have Hv2 : Hid (vv = new0 k) := hid (by rw [Hvv.out, valV, if_neg (by simp [h64])])
    have HC := hid (Read_long (w := w1) k h1 h4 s1.p s1.n s1.c (by omega))
    have HN := hid (fun wx => new_ok wx k h1 h4)
    have HHo := hid (fun wx => Ho.new wx k h1 h4)
    clear h n1 l1 a1 hrun hln h1 h4 h64
    go_enter Try.func12, Try.ntmps12
    go_wp2_with (first
      | (at_builtin; refine wpList_append3 rfl _ _ 22 rfl _ _ rfl rfl (.slice s1.p s1.n s1.c) w1 HR.out ?_)
      | (go_at_call 8; refine HC.out.mono ?_; rintro _ _ ⟨rfl, rfl⟩)
      | (go_at_call 9; refine (HN.out _).mono ?_; rintro _ _ ⟨rfl, rfl⟩))
    go_ret
    exact ⟨_, rfl, HA1.out.size, by rw [Hv2.out]; exact HHo.out _, HA1.out.alloc _⟩
end Go.Proofs.Ytdbeeikjngnnnaa.ty
namespace Go.Proofs.Ytdbeeikjngnnnaa.ty
open Go.ChangeShapes Go.WideShapes Go.ChangeAt Go.RowKit
set_option linter.unusedVariables false
set_option linter.unusedSimpArgs false
set_option maxRecDepth 100000 in
theorem Bytes1_w {w : World} {V : Nat} {cs : Array Value} {bs : List Nat} (hV : Bd w V (.iface 88 (.agg cs))) (hc : Calls Try.prog 77 #[.agg cs] w fun r w' => ∃ s, r = .returned (.slice s.p s.n s.c) ∧ Bf w w' s bs) (hl : 64 < bs.length) : Calls Try.prog 10 #[.pointer (some ⟨V, 0, none⟩)] w fun r w' => r = .returned (.tuple #[.slice none 0 0, .int .i64 71]) ∧ Apart [] w w' := by
  have z : w.cell? ⟨V, 0, none⟩ = some (.iface 88 (.agg cs)) := by rw [cell_of_row _ _ _ _ _ _ hV]; rfl
  have hm := fun wx => mr_form1 cs wx
  have HC := hid hc
  have Hl := hid hl
  clear hV hc hl
  go_enter Try.func10, Try.ntmps10
  go_upto_region 2 with (go_at_call 77; refine HC.out.mono ?_; rintro _ w1 ⟨s, rfl, b1⟩; have HB := hid b1; clear b1)
  have hn : ((s.n : Nat) : Int) > 64 := by have h1 := HB.out.len; have h2 := Hl.out; omega
  go_wp2_with fail
  go_ret2
  exact ⟨rfl, HB.out.nw.ap⟩
set_option maxRecDepth 100000 in
theorem Bytes2_w {w : World} {V : Nat} {cs : Array Value} {bs : List Nat} (hV : Bd w V (.iface 91 (.agg cs))) (hc : Calls Try.prog 87 #[.agg cs] w fun r w' => ∃ s, r = .returned (.slice s.p s.n s.c) ∧ Bf w w' s bs) (hl : 64 < bs.length) : Calls Try.prog 10 #[.pointer (some ⟨V, 0, none⟩)] w fun r w' => r = .returned (.tuple #[.slice none 0 0, .int .i64 71]) ∧ Apart [] w w' := by
  have z : w.cell? ⟨V, 0, none⟩ = some (.iface 91 (.agg cs)) := by rw [cell_of_row _ _ _ _ _ _ hV]; rfl
  have hm := fun wx => mr_form2 cs wx
  have HC := hid hc
  have Hl := hid hl
  clear hV hc hl
  go_enter Try.func10, Try.ntmps10
  go_upto_region 2 with (go_at_call 87; refine HC.out.mono ?_; rintro _ w1 ⟨s, rfl, b1⟩; have HB := hid b1; clear b1)
  have hn : ((s.n : Nat) : Int) > 64 := by have h1 := HB.out.len; have h2 := Hl.out; omega
  go_wp2_with fail
  go_ret2
  exact ⟨rfl, HB.out.nw.ap⟩
set_option maxRecDepth 100000 in
theorem Bytes3_w {w : World} {V : Nat} {cs : Array Value} {bs : List Nat} (hV : Bd w V (.iface 93 (.agg cs))) (hc : Calls Try.prog 102 #[.agg cs] w fun r w' => ∃ s, r = .returned (.slice s.p s.n s.c) ∧ Bf w w' s bs) (hl : 64 < bs.length) : Calls Try.prog 10 #[.pointer (some ⟨V, 0, none⟩)] w fun r w' => r = .returned (.tuple #[.slice none 0 0, .int .i64 71]) ∧ Apart [] w w' := by
  have z : w.cell? ⟨V, 0, none⟩ = some (.iface 93 (.agg cs)) := by rw [cell_of_row _ _ _ _ _ _ hV]; rfl
  have hm := fun wx => mr_form3 cs wx
  have HC := hid hc
  have Hl := hid hl
  clear hV hc hl
  go_enter Try.func10, Try.ntmps10
  go_upto_region 2 with (go_at_call 102; refine HC.out.mono ?_; rintro _ w1 ⟨s, rfl, b1⟩; have HB := hid b1; clear b1)
  have hn : ((s.n : Nat) : Int) > 64 := by have h1 := HB.out.len; have h2 := Hl.out; omega
  go_wp2_with fail
  go_ret2
  exact ⟨rfl, HB.out.nw.ap⟩
set_option maxRecDepth 100000 in
theorem Bytes4_w {w : World} {V : Nat} {cs : Array Value} {bs : List Nat} (hV : Bd w V (.iface 95 (.agg cs))) (hc : Calls Try.prog 107 #[.agg cs] w fun r w' => ∃ s, r = .returned (.slice s.p s.n s.c) ∧ Bf w w' s bs) (hl : 64 < bs.length) : Calls Try.prog 10 #[.pointer (some ⟨V, 0, none⟩)] w fun r w' => r = .returned (.tuple #[.slice none 0 0, .int .i64 71]) ∧ Apart [] w w' := by
  have z : w.cell? ⟨V, 0, none⟩ = some (.iface 95 (.agg cs)) := by rw [cell_of_row _ _ _ _ _ _ hV]; rfl
  have hm := fun wx => mr_form4 cs wx
  have HC := hid hc
  have Hl := hid hl
  clear hV hc hl
  go_enter Try.func10, Try.ntmps10
  go_upto_region 2 with (go_at_call 107; refine HC.out.mono ?_; rintro _ w1 ⟨s, rfl, b1⟩; have HB := hid b1; clear b1)
  have hn : ((s.n : Nat) : Int) > 64 := by have h1 := HB.out.len; have h2 := Hl.out; omega
  go_wp2_with fail
  go_ret2
  exact ⟨rfl, HB.out.nw.ap⟩
theorem Bytes_wide {w : World} {V : Nat} {v : Vl} (hV : Ho w V v) (ok : OkF v) (hl : 64 < (formV v).length) : Calls Try.prog 10 #[.pointer (some ⟨V, 0, none⟩)] w fun r w' => r = .returned (.tuple #[.slice none 0 0, .int .i64 71]) ∧ Apart [] w w' := by
  cases v using Vl.el with
  | cnt u d => exact Bytes1_w hV (cform_ok ok.1 ok.2) hl
  | set c es =>
    obtain ⟨s, h1, h2⟩ := hV
    exact Bytes2_w h1 (sform_ok ok.1 h2 ok.2.1 ok.2.2) hl
  | flg c g => exact Bytes3_w hV (fform_ok ok.1 ok.2) hl
  | rgs s a t =>
    obtain ⟨n, rfl⟩ := Int.eq_ofNat_of_zero_le ok.1
    obtain ⟨b, rfl⟩ := Int.eq_ofNat_of_zero_le ok.2.1
    exact Bytes4_w hV (gform_ok ok.2.2) hl
/-- what Bytes answers -/
def bzV (v : Vl) : List Nat := if (formV v).length ≤ 64 then formV v else []
def wzV (v : Vl) : Int := if (formV v).length ≤ 64 then 0 else 71
/-- bytes that can be read -/
structure Bq (w : World) (s : Sl) (bs : List Nat) : Prop where
  rd : Rd w s.p (byts bs)
  len : bs.length = s.n
  ok : s.ok
theorem Bq.kept0 {w w' : World} {s : Sl} {bs : List Nat} (h : Bq w s bs) (a : Apart [] w w') : Bq w' s bs := ⟨h.rd.kept0 a, h.len, h.ok⟩
theorem Bytes_any {w : World} {V : Nat} {v : Vl} (hV : Ho w V v) (ok : OkF v) : Calls Try.prog 10 #[.pointer (some ⟨V, 0, none⟩)] w fun r w' => ∃ s : Sl, r = .returned (.tuple #[.slice s.p s.n s.c, .int .i64 (wzV v)]) ∧ Bq w' s (bzV v) ∧ Apart [] w w' := by
  unfold bzV wzV
  by_cases h : (formV v).length ≤ 64
  · rw [if_pos h, if_pos h]
    refine (Bytes_v hV ok h).mono ?_
    rintro _ w' ⟨s, rfl, b⟩
    exact ⟨s, rfl, ⟨b.nw.rd, b.len.symm, b.nw.ok⟩, b.nw.ap⟩
  · rw [if_neg h, if_neg h]
    refine (Bytes_wide hV ok (by omega)).mono ?_
    rintro _ w' ⟨rfl, a⟩
    exact ⟨⟨none, 0, 0⟩, rfl, ⟨Rd.nil _ _, rfl, fun _ => ⟨rfl, rfl⟩⟩, a⟩
end Go.Proofs.Ytdbeeikjngnnnaa.ty
