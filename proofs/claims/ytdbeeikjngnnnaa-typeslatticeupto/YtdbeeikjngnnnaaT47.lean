import Derived.Test.YtdbeeikjngnnnaaT46
namespace Go.Proofs.Ytdbeeikjngnnnaa.ty
open Go.ChangeShapes Go.WideShapes Go.ChangeAt Go.RowKit
set_option linter.unusedVariables false
set_option linter.unusedSimpArgs false
theorem mr_read1 (cs : Array Value) (w : World) : (method 247 88 (.agg cs) "rookery/types.read").run Try.prog w = .ok (78, .agg cs) w := by kernel_rfl
theorem mr_right1 (cs : Array Value) (w : World) : (method 247 88 (.agg cs) "rookery/types.right").run Try.prog w = .ok (79, .agg cs) w := by kernel_rfl
theorem mr_form1 (cs : Array Value) (w : World) : (method 247 88 (.agg cs) "rookery/types.form").run Try.prog w = .ok (77, .agg cs) w := by kernel_rfl
theorem mr_read2 (cs : Array Value) (w : World) : (method 247 91 (.agg cs) "rookery/types.read").run Try.prog w = .ok (89, .agg cs) w := by kernel_rfl
theorem mr_right2 (cs : Array Value) (w : World) : (method 247 91 (.agg cs) "rookery/types.right").run Try.prog w = .ok (90, .agg cs) w := by kernel_rfl
theorem mr_form2 (cs : Array Value) (w : World) : (method 247 91 (.agg cs) "rookery/types.form").run Try.prog w = .ok (87, .agg cs) w := by kernel_rfl
theorem mr_read3 (cs : Array Value) (w : World) : (method 247 93 (.agg cs) "rookery/types.read").run Try.prog w = .ok (104, .agg cs) w := by kernel_rfl
theorem mr_right3 (cs : Array Value) (w : World) : (method 247 93 (.agg cs) "rookery/types.right").run Try.prog w = .ok (105, .agg cs) w := by kernel_rfl
theorem mr_form3 (cs : Array Value) (w : World) : (method 247 93 (.agg cs) "rookery/types.form").run Try.prog w = .ok (102, .agg cs) w := by kernel_rfl
theorem mr_read4 (cs : Array Value) (w : World) : (method 247 95 (.agg cs) "rookery/types.read").run Try.prog w = .ok (108, .agg cs) w := by kernel_rfl
theorem mr_right4 (cs : Array Value) (w : World) : (method 247 95 (.agg cs) "rookery/types.right").run Try.prog w = .ok (109, .agg cs) w := by kernel_rfl
theorem mr_form4 (cs : Array Value) (w : World) : (method 247 95 (.agg cs) "rookery/types.form").run Try.prog w = .ok (107, .agg cs) w := by kernel_rfl
/-- what it reads and tells, by the type -/
structure Rdy (k : Nat) (w : World) (sl : Sl) (bs : List Nat) : Prop where
  rd : Rd w sl.p (byts bs)
  len : bs.length = sl.n
  ok : sl.ok
  cap : sl.n ≤ sl.c
  u8 : U8 bs
  le : bs.length ≤ 64
theorem Rdy.rr {k : Nat} {w : World} {sl : Sl} {bs : List Nat} (h : Rdy k w sl bs) : Rr w (w.alloc (.cells #[.slice sl.p sl.n sl.c] 68)) w.heap.size sl bs :=
  ⟨heap_alloc_new w _, Nat.le_refl _, (Apart.refl [] w).alloc _, h.rd, h.len, h.cap, h.ok, h.u8⟩
theorem apR {w w1 w2 : World} (h : Apart [] w w1) (k : Apart [w.heap.size] w1 w2) : Apart [] w w2 := h.trans' k (by intro y hy; simp at hy; rw [hy]; exact .inr (Nat.le_refl _))
theorem Rdy.read1 {w : World} {sl : Sl} {bs : List Nat} (h : Rdy 1 w sl bs) : Calls Try.prog 78 #[.agg (rv (zr ++ zr)).toArray, .pointer (some ⟨w.heap.size, 0, none⟩)] (w.alloc (.cells #[.slice sl.p sl.n sl.c] 68)) fun r w' => ∃ cs, r = .returned (.iface 88 (.agg cs)) ∧ Apart [] w w' ∧ (∀ wx, Apart [] w' wx → Calls Try.prog 79 #[.agg cs] wx fun r w2 => r = .returned (.bool (rightV (readV 1 bs))) ∧ Apart [] wx w2) ∧ (∀ wx, Apart [] w' wx → Calls Try.prog 77 #[.agg cs] wx fun r w2 => ∃ s', r = .returned (.slice s'.p s'.n s'.c) ∧ Bf wx w2 s' (formV (readV 1 bs))) ∧ (∀ wx V, Apart [] w' wx → Bd wx V (.iface 88 (.agg cs)) → Ho wx V (readV 1 bs)) := by
  have hle := h.le
  have hb := rowR_bd (h.u8.drop 1) 6
  have hw := cu_wd hb.1 hb.2.1
  refine (cread_ok h.rr (by omega)).mono ?_
  rintro _ w' ⟨rfl, a'⟩
  exact ⟨_, rfl, apR ((Apart.refl [] w).alloc _) a', fun wx _ => cright_ok _, fun wx _ => cform_ok hw.1 hw.2, fun wx V _ hB => hB⟩
theorem Rdy.read2 {w : World} {sl : Sl} {bs : List Nat} (h : Rdy 2 w sl bs) : Calls Try.prog 89 #[.agg (sv zr ⟨none, 0, 0⟩), .pointer (some ⟨w.heap.size, 0, none⟩)] (w.alloc (.cells #[.slice sl.p sl.n sl.c] 68)) fun r w' => ∃ cs, r = .returned (.iface 91 (.agg cs)) ∧ Apart [] w w' ∧ (∀ wx, Apart [] w' wx → Calls Try.prog 90 #[.agg cs] wx fun r w2 => r = .returned (.bool (rightV (readV 2 bs))) ∧ Apart [] wx w2) ∧ (∀ wx, Apart [] w' wx → Calls Try.prog 87 #[.agg cs] wx fun r w2 => ∃ s', r = .returned (.slice s'.p s'.n s'.c) ∧ Bf wx w2 s' (formV (readV 2 bs))) ∧ (∀ wx V, Apart [] w' wx → Bd wx V (.iface 91 (.agg cs)) → Ho wx V (readV 2 bs)) := by
  have hle := h.le
  have hb := rowR_bd (h.u8.drop 1) 2
  have hs := esI_bd (hb.2.2.drop 1) (leV ((rowR (bs.drop 1) 2).2.take 1))
  have hn := leV1 hb.2.2
  have hl1 := rowR_left (bs.drop 1) 2
  rw [List.length_drop] at hl1
  refine (sread_ok h.rr (by omega)).mono ?_
  rintro _ w' ⟨s', rfl, e', a'⟩
  refine ⟨_, rfl, a', fun wx ax => sright_ok hb.1 (e'.kept0 ax) (by rw [esI_len]; omega), fun wx ax => sform_ok hb.1 (e'.kept0 ax) (by rw [esI_len]; omega) (fun x hx => ?_), fun wx V ax hB => ⟨s', hB, e'.kept0 ax⟩⟩
  have h1 := (hs.1 x hx).1
  rw [List.length_drop] at h1
  omega
theorem Rdy.read3 {w : World} {sl : Sl} {bs : List Nat} (h : Rdy 3 w sl bs) : Calls Try.prog 104 #[.agg (rv (zr ++ zr)).toArray, .pointer (some ⟨w.heap.size, 0, none⟩)] (w.alloc (.cells #[.slice sl.p sl.n sl.c] 68)) fun r w' => ∃ cs, r = .returned (.iface 93 (.agg cs)) ∧ Apart [] w w' ∧ (∀ wx, Apart [] w' wx → Calls Try.prog 105 #[.agg cs] wx fun r w2 => r = .returned (.bool (rightV (readV 3 bs))) ∧ Apart [] wx w2) ∧ (∀ wx, Apart [] w' wx → Calls Try.prog 102 #[.agg cs] wx fun r w2 => ∃ s', r = .returned (.slice s'.p s'.n s'.c) ∧ Bf wx w2 s' (formV (readV 3 bs))) ∧ (∀ wx V, Apart [] w' wx → Bd wx V (.iface 93 (.agg cs)) → Ho wx V (readV 3 bs)) := by
  have hle := h.le
  have hb := rowR_bd (h.u8.drop 1) 2
  have hb2 := rowR_bd hb.2.2 2
  refine (fread_ok h.rr (by omega)).mono ?_
  rintro _ w' ⟨rfl, a'⟩
  exact ⟨_, rfl, apR ((Apart.refl [] w).alloc _) a', fun wx _ => fright_ok hb.1 hb2.1, fun wx _ => fform_ok hb.1 hb2.1, fun wx V _ hB => hB⟩
theorem Rdy.read4 {w : World} {sl : Sl} {bs : List Nat} (h : Rdy 4 w sl bs) : Calls Try.prog 108 #[.agg (ty.rg 0 0 ⟨#[]⟩), .pointer (some ⟨w.heap.size, 0, none⟩)] (w.alloc (.cells #[.slice sl.p sl.n sl.c] 68)) fun r w' => ∃ cs, r = .returned (.iface 95 (.agg cs)) ∧ Apart [] w w' ∧ (∀ wx, Apart [] w' wx → Calls Try.prog 109 #[.agg cs] wx fun r w2 => r = .returned (.bool (rightV (readV 4 bs))) ∧ Apart [] wx w2) ∧ (∀ wx, Apart [] w' wx → Calls Try.prog 107 #[.agg cs] wx fun r w2 => ∃ s', r = .returned (.slice s'.p s'.n s'.c) ∧ Bf wx w2 s' (formV (readV 4 bs))) ∧ (∀ wx V, Apart [] w' wx → Bd wx V (.iface 95 (.agg cs)) → Ho wx V (readV 4 bs)) := by
  have hle := h.le
  refine (gread_ok h.rr (by omega)).mono ?_
  rintro _ w' ⟨rfl, a'⟩
  refine ⟨_, rfl, apR ((Apart.refl [] w).alloc _) a', fun wx _ => gright_ok, fun wx _ => ?_, fun wx V _ hB => hB⟩
  exact gform_ok (by rw [strB_size]; show ((((bs.drop 1).drop 3).drop 1).take 59).length ≤ 1000; rw [List.length_take]; omega)
end Go.Proofs.Ytdbeeikjngnnnaa.ty
