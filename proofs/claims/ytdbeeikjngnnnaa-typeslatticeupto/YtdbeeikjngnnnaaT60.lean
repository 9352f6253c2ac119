import Derived.Test.YtdbeeikjngnnnaaT50
namespace Go.Proofs.Ytdbeeikjngnnnaa.ty
open Go.ChangeShapes Go.WideShapes Go.ChangeAt Go.RowKit
set_option linter.unusedVariables false
set_option linter.unusedSimpArgs false
set_option maxRecDepth 100000 in
theorem Bytes1_w {w : World} {V : Nat} {cs : Array Value} {bs : List Nat} (hV : Bd w V (.iface 88 (.agg cs))) (hc : Calls Try.prog 77 #[.agg cs] w fun r w' => ∃ s, r = .returned (.slice s.p s.n s.c) ∧ Bf w w' s bs) (hl : 64 < bs.length) : Calls Try.prog 10 #[.pointer (some ⟨V, 0, none⟩)] w fun r w' => r = .returned (.tuple #[.slice none 0 0, .int .i64 71]) ∧ Apart [] w w' := by
  have z : w.cell? ⟨V, 0, none⟩ = some (.iface 88 (.agg cs)) := by rw [cell_of_row _ _ _ _ _ _ hV]; rfl
  have hm := fun wx => mr_form1 cs wx
  have HC := hid hc
  have Hl := hid hl
  clear hV hc hl
  go_enter Try.func10, Try.ntmps10
  go_upto_region 2 with (go_at_call 77; refine HC.out.mono ?_; rintro _ w1 ⟨s, rfl, b1⟩; have HB := hid b1; clear b1)
  have hn : ((s.n : Nat) : Int) > 64 := by have h1 := HB.out.len; have h2 := Hl.out; omega
  go_wp2_with fail
  go_ret2
  exact ⟨rfl, HB.out.nw.ap⟩
set_option maxRecDepth 100000 in
theorem Bytes2_w {w : World} {V : Nat} {cs : Array Value} {bs : List Nat} (hV : Bd w V (.iface 91 (.agg cs))) (hc : Calls Try.prog 87 #[.agg cs] w fun r w' => ∃ s, r = .returned (.slice s.p s.n s.c) ∧ Bf w w' s bs) (hl : 64 < bs.length) : Calls Try.prog 10 #[.pointer (some ⟨V, 0, none⟩)] w fun r w' => r = .returned (.tuple #[.slice none 0 0, .int .i64 71]) ∧ Apart [] w w' := by
  have z : w.cell? ⟨V, 0, none⟩ = some (.iface 91 (.agg cs)) := by rw [cell_of_row _ _ _ _ _ _ hV]; rfl
  have hm := fun wx => mr_form2 cs wx
  have HC := hid hc
  have Hl := hid hl
  clear hV hc hl
  go_enter Try.func10, Try.ntmps10
  go_upto_region 2 with (go_at_call 87; refine HC.out.mono ?_; rintro _ w1 ⟨s, rfl, b1⟩; have HB := hid b1; clear b1)
  have hn : ((s.n : Nat) : Int) > 64 := by have h1 := HB.out.len; have h2 := Hl.out; omega
  go_wp2_with fail
  go_ret2
  exact ⟨rfl, HB.out.nw.ap⟩
set_option maxRecDepth 100000 in
theorem Bytes3_w {w : World} {V : Nat} {cs : Array Value} {bs : List Nat} (hV : Bd w V (.iface 93 (.agg cs))) (hc : Calls Try.prog 102 #[.agg cs] w fun r w' => ∃ s, r = .returned (.slice s.p s.n s.c) ∧ Bf w w' s bs) (hl : 64 < bs.length) : Calls Try.prog 10 #[.pointer (some ⟨V, 0, none⟩)] w fun r w' => r = .returned (.tuple #[.slice none 0 0, .int .i64 71]) ∧ Apart [] w w' := by
  have z : w.cell? ⟨V, 0, none⟩ = some (.iface 93 (.agg cs)) := by rw [cell_of_row _ _ _ _ _ _ hV]; rfl
  have hm := fun wx => mr_form3 cs wx
  have HC := hid hc
  have Hl := hid hl
  clear hV hc hl
  go_enter Try.func10, Try.ntmps10
  go_upto_region 2 with (go_at_call 102; refine HC.out.mono ?_; rintro _ w1 ⟨s, rfl, b1⟩; have HB := hid b1; clear b1)
  have hn : ((s.n : Nat) : Int) > 64 := by have h1 := HB.out.len; have h2 := Hl.out; omega
  go_wp2_with fail
  go_ret2
  exact ⟨rfl, HB.out.nw.ap⟩
set_option maxRecDepth 100000 in
theorem Bytes4_w {w : World} {V : Nat} {cs : Array Value} {bs : List Nat} (hV : Bd w V (.iface 95 (.agg cs))) (hc : Calls Try.prog 107 #[.agg cs] w fun r w' => ∃ s, r = .returned (.slice s.p s.n s.c) ∧ Bf w w' s bs) (hl : 64 < bs.length) : Calls Try.prog 10 #[.pointer (some ⟨V, 0, none⟩)] w fun r w' => r = .returned (.tuple #[.slice none 0 0, .int .i64 71]) ∧ Apart [] w w' := by
  have z : w.cell? ⟨V, 0, none⟩ = some (.iface 95 (.agg cs)) := by rw [cell_of_row _ _ _ _ _ _ hV]; rfl
  have hm := fun wx => mr_form4 cs wx
  have HC := hid hc
  have Hl := hid hl
  clear hV hc hl
  go_enter Try.func10, Try.ntmps10
  go_upto_region 2 with (go_at_call 107; refine HC.out.mono ?_; rintro _ w1 ⟨s, rfl, b1⟩; have HB := hid b1; clear b1)
  have hn : ((s.n : Nat) : Int) > 64 := by have h1 := HB.out.len; have h2 := Hl.out; omega
  go_wp2_with fail
  go_ret2
  exact ⟨rfl, HB.out.nw.ap⟩
theorem Bytes_wide {w : World} {V : Nat} {v : Vl} (hV : Ho w V v) (ok : OkF v) (hl : 64 < (formV v).length) : Calls Try.prog 10 #[.pointer (some ⟨V, 0, none⟩)] w fun r w' => r = .returned (.tuple #[.slice none 0 0, .int .i64 71]) ∧ Apart [] w w' := by
  cases v using Vl.el with
  | cnt u d => exact Bytes1_w hV (cform_ok ok.1 ok.2) hl
  | set c es =>
    obtain ⟨s, h1, h2⟩ := hV
    exact Bytes2_w h1 (sform_ok ok.1 h2 ok.2.1 ok.2.2) hl
  | flg c g => exact Bytes3_w hV (fform_ok ok.1 ok.2) hl
  | rgs s a t =>
    obtain ⟨n, rfl⟩ := Int.eq_ofNat_of_zero_le ok.1
    obtain ⟨b, rfl⟩ := Int.eq_ofNat_of_zero_le ok.2.1
    exact Bytes4_w hV (gform_ok ok.2.2) hl
/-- what Bytes answers -/
def bzV (v : Vl) : List Nat := if (formV v).length ≤ 64 then formV v else []
def wzV (v : Vl) : Int := if (formV v).length ≤ 64 then 0 else 71
/-- bytes that can be read -/
structure Bq (w : World) (s : Sl) (bs : List Nat) : Prop where
  rd : Rd w s.p (byts bs)
  len : bs.length = s.n
  ok : s.ok
theorem Bq.kept0 {w w' : World} {s : Sl} {bs : List Nat} (h : Bq w s bs) (a : Apart [] w w') : Bq w' s bs := ⟨h.rd.kept0 a, h.len, h.ok⟩
theorem Bytes_any {w : World} {V : Nat} {v : Vl} (hV : Ho w V v) (ok : OkF v) : Calls Try.prog 10 #[.pointer (some ⟨V, 0, none⟩)] w fun r w' => ∃ s : Sl, r = .returned (.tuple #[.slice s.p s.n s.c, .int .i64 (wzV v)]) ∧ Bq w' s (bzV v) ∧ Apart [] w w' := by
  unfold bzV wzV
  by_cases h : (formV v).length ≤ 64
  · rw [if_pos h, if_pos h]
    refine (Bytes_v hV ok h).mono ?_
    rintro _ w' ⟨s, rfl, b⟩
    exact ⟨s, rfl, ⟨b.nw.rd, b.len.symm, b.nw.ok⟩, b.nw.ap⟩
  · rw [if_neg h, if_neg h]
    refine (Bytes_wide hV ok (by omega)).mono ?_
    rintro _ w' ⟨rfl, a⟩
    exact ⟨⟨none, 0, 0⟩, rfl, ⟨Rd.nil _ _, rfl, fun _ => ⟨rfl, rfl⟩⟩, a⟩
end Go.Proofs.Ytdbeeikjngnnnaa.ty
