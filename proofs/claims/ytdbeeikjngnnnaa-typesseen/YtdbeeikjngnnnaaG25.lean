import Derived.Test.YtdbeeikjngnnnaaG24
namespace Go.Proofs.Ytdbeeikjngnnnaa.ty
open Go.ChangeShapes Go.WideShapes Go.ChangeAt Go.RowKit
set_option linter.unusedVariables false
set_option linter.unusedSimpArgs false
def U8 (l : List Nat) : Prop := ∀ x ∈ l, x < 256
theorem U8.app {a b : List Nat} (h : U8 a) (k : U8 b) : U8 (a ++ b) := fun x hx => by
  rcases List.mem_append.1 hx with hx | hx
  · exact h x hx
  · exact k x hx
theorem U8.cons {a : Nat} {b : List Nat} (h : a < 256) (k : U8 b) : U8 (a :: b) := fun x hx => by
  rcases List.mem_cons.1 hx with rfl | hx
  · exact h
  · exact k x hx
theorem U8.nil : U8 [] := fun x hx => by simp at hx
theorem leB_u8 (n : Nat) : ∀ k, U8 (leB n k)
  | 0 => U8.nil
  | k + 1 => by
    unfold leB
    exact (leB_u8 n k).app (U8.cons (Nat.mod_lt _ (by decide)) U8.nil)
theorem nb8_u8 (r : List Int) (wd : Nat) : ∀ i, U8 (nb8 r wd i)
  | 0 => U8.nil
  | i + 1 => by
    unfold nb8
    split
    · exact (nb8_u8 r wd i).app (leB_u8 _ _)
    · exact nb8_u8 r wd i
theorem rowB_u8 (r : List Int) (wd : Nat) : U8 (rowB r wd) := U8.cons (mk8_lt r 8) (nb8_u8 r wd 8)
theorem bsk_u8 (t : ByteArray) : U8 (bsk t) := fun x hx => by
  unfold bsk at hx
  obtain ⟨b, _, rfl⟩ := List.mem_map.1 hx
  exact UInt8.toNat_lt b
theorem esB_u8 : ∀ es : List En, U8 (esB es)
  | [] => U8.nil
  | x :: r => by
    unfold esB enB
    exact (U8.cons (Nat.mod_lt _ (by decide)) ((bsk_u8 _).app (rowB_u8 _ _))).app (esB_u8 r)
/-- a value's form -/
def formV (v : Vl) : List Nat := match v with
  | Sum.inl (u, d) => 1 :: rowB (ob u d) 6
  | Sum.inr (Sum.inl (c, es)) => setB c es
  | Sum.inr (Sum.inr (Sum.inl (c, g))) => 3 :: (rowB c 2 ++ rowB g 2)
  | Sum.inr (Sum.inr (Sum.inr (s, a, t))) => 4 :: (leB s.toNat 3 ++ (a.toNat % 256) :: bsk t)
theorem formV_u8 (v : Vl) : U8 (formV v) := by
  cases v using Vl.el with
  | cnt u d => exact U8.cons (by decide) (rowB_u8 _ _)
  | set c es => exact U8.cons (by decide) ((rowB_u8 _ _).app (U8.cons (Nat.mod_lt _ (by decide)) (esB_u8 _)))
  | flg c g => exact U8.cons (by decide) ((rowB_u8 _ _).app (rowB_u8 _ _))
  | rgs s a t => exact U8.cons (by decide) ((leB_u8 _ _).app (U8.cons (Nat.mod_lt _ (by decide)) (bsk_u8 _)))
/-- is it one that there may be? -/
def rightV (v : Vl) : Bool := match v with
  | Sum.inl _ => true
  | Sum.inr (Sum.inl (c, es)) => srR c es
  | Sum.inr (Sum.inr (Sum.inl (c, g))) => gr g c == c
  | Sum.inr (Sum.inr (Sum.inr (s, a, t))) => rtR s a t
/-- what is read -/
def readV (k : Nat) (us : List Nat) : Vl :=
  if k = 1 then .cnt (cuR (rowR (us.drop 1) 6).1) (cdR (rowR (us.drop 1) 6).1)
  else if k = 2 then .set (rowR (us.drop 1) 2).1 (esI (leV ((rowR (us.drop 1) 2).2.take 1)) ((rowR (us.drop 1) 2).2.drop 1)).1
  else if k = 3 then .flg (rowR (us.drop 1) 2).1 (rowR (rowR (us.drop 1) 2).2 2).1
  else .rgs ((regR us).1 : Int) ((regR us).2.1 : Int) (strB (regR us).2.2)
theorem Wd.of {l : List Int} (h : l.length = 8) (k : ∀ x ∈ l, 0 ≤ x ∧ x ≤ 16777215) : Wd l := ⟨h, k⟩
theorem rowR_bd {us : List Nat} (h : U8 us) (wd : Nat) : (rowR us wd).1.length = 8 ∧ (∀ x ∈ (rowR us wd).1, 0 ≤ x ∧ x < 2 ^ (8 * wd)) ∧ U8 (rowR us wd).2 := by
  have hh : ∀ x ∈ us.drop 1, x < 256 := fun x hx => h x (List.mem_of_mem_drop hx)
  obtain ⟨h1, h2⟩ := rwI_bd (mask := leV (us.take 1)) (wd := wd) hh 8
  exact ⟨rwI_len _ _ _ _, h1, h2⟩
theorem Cn.of {r : List Int} (hl : r.length = 8) (h : ∀ x ∈ r, 0 ≤ x ∧ x < 65536) : Cn r := ⟨hl, fun i => by
  rw [List.getD_eq_getElem?_getD]
  rcases Nat.lt_or_ge i r.length with h1 | h1
  · rw [List.getElem?_eq_getElem h1]
    have := h _ (List.getElem_mem h1)
    simp
    omega
  · rw [List.getElem?_eq_none h1]; simp⟩
theorem U8.drop {l : List Nat} (h : U8 l) (n : Nat) : U8 (l.drop n) := fun x hx => h x (List.mem_of_mem_drop hx)
theorem esI_bd {us : List Nat} (h : U8 us) : ∀ i, (∀ x ∈ (esI i us).1, x.e.size ≤ us.length ∧ Cn x.t) ∧ U8 (esI i us).2
  | 0 => ⟨by simp [esI], h⟩
  | i + 1 => by
    obtain ⟨h1, h2⟩ := esI_bd h i
    have h3 := rowR_bd ((h2.drop 1).drop (leV ((esI i us).2.take 1))) 2
    refine ⟨fun x hx => ?_, h3.2.2⟩
    unfold esI at hx
    rcases List.mem_append.1 hx with hx | hx
    · exact h1 x hx
    · rw [List.mem_singleton] at hx
      rw [hx]
      refine ⟨?_, Cn.of h3.1 (fun y hy => ?_)⟩
      · show (strB _).size ≤ us.length
        have h4 := esI_left us i
        rw [strB_size, List.length_take, List.length_drop]
        omega
      · have := h3.2.1 y hy
        have e : (2 : Int) ^ (8 * 2) = 65536 := by decide
        rw [e] at this
        exact this
theorem leV1 {us : List Nat} (h : U8 us) : leV (us.take 1) < 256 := by
  have h1 := leV_lt (l := us.take 1) (fun x hx => h x (List.mem_of_mem_take hx))
  have h2 : (us.take 1).length ≤ 1 := by rw [List.length_take]; omega
  have h3 : 2 ^ (8 * (us.take 1).length) ≤ 2 ^ 8 := Nat.pow_le_pow_right (by omega) (by omega)
  omega
theorem cu_wd {g : List Int} (hl : g.length = 8) (h : ∀ x ∈ g, 0 ≤ x ∧ x < 2 ^ (8 * 6)) : Wd (cuR g) ∧ Wd (cdR g) := by
  refine ⟨Wd.of (by simp [cuR, hl]) (fun x hx => ?_), Wd.of (by simp [cdR, hl]) (fun x hx => ?_)⟩
  · obtain ⟨y, hy, rfl⟩ := List.mem_map.1 hx
    omega
  · obtain ⟨y, hy, rfl⟩ := List.mem_map.1 hx
    have := h y hy
    have e : (2 : Int) ^ (8 * 6) = 281474976710656 := by decide
    rw [e] at this
    omega
end Go.Proofs.Ytdbeeikjngnnnaa.ty
namespace Go.Proofs.Ytdbeeikjngnnnaa.ty
open Go.ChangeShapes Go.WideShapes Go.ChangeAt Go.RowKit
set_option linter.unusedVariables false
set_option linter.unusedSimpArgs false
theorem mr_read1 (cs : Array Value) (w : World) : (method 247 88 (.agg cs) "rookery/types.read").run Try.prog w = .ok (78, .agg cs) w := by kernel_rfl
theorem mr_right1 (cs : Array Value) (w : World) : (method 247 88 (.agg cs) "rookery/types.right").run Try.prog w = .ok (79, .agg cs) w := by kernel_rfl
theorem mr_form1 (cs : Array Value) (w : World) : (method 247 88 (.agg cs) "rookery/types.form").run Try.prog w = .ok (77, .agg cs) w := by kernel_rfl
theorem mr_read2 (cs : Array Value) (w : World) : (method 247 91 (.agg cs) "rookery/types.read").run Try.prog w = .ok (89, .agg cs) w := by kernel_rfl
theorem mr_right2 (cs : Array Value) (w : World) : (method 247 91 (.agg cs) "rookery/types.right").run Try.prog w = .ok (90, .agg cs) w := by kernel_rfl
theorem mr_form2 (cs : Array Value) (w : World) : (method 247 91 (.agg cs) "rookery/types.form").run Try.prog w = .ok (87, .agg cs) w := by kernel_rfl
theorem mr_read3 (cs : Array Value) (w : World) : (method 247 93 (.agg cs) "rookery/types.read").run Try.prog w = .ok (104, .agg cs) w := by kernel_rfl
theorem mr_right3 (cs : Array Value) (w : World) : (method 247 93 (.agg cs) "rookery/types.right").run Try.prog w = .ok (105, .agg cs) w := by kernel_rfl
theorem mr_form3 (cs : Array Value) (w : World) : (method 247 93 (.agg cs) "rookery/types.form").run Try.prog w = .ok (102, .agg cs) w := by kernel_rfl
theorem mr_read4 (cs : Array Value) (w : World) : (method 247 95 (.agg cs) "rookery/types.read").run Try.prog w = .ok (108, .agg cs) w := by kernel_rfl
theorem mr_right4 (cs : Array Value) (w : World) : (method 247 95 (.agg cs) "rookery/types.right").run Try.prog w = .ok (109, .agg cs) w := by kernel_rfl
theorem mr_form4 (cs : Array Value) (w : World) : (method 247 95 (.agg cs) "rookery/types.form").run Try.prog w = .ok (107, .agg cs) w := by kernel_rfl
/-- what it reads and tells, by the type -/
structure Rdy (k : Nat) (w : World) (sl : Sl) (bs : List Nat) : Prop where
  rd : Rd w sl.p (byts bs)
  len : bs.length = sl.n
  ok : sl.ok
  cap : sl.n ≤ sl.c
  u8 : U8 bs
  le : bs.length ≤ 64
theorem Rdy.rr {k : Nat} {w : World} {sl : Sl} {bs : List Nat} (h : Rdy k w sl bs) : Rr w (w.alloc (.cells #[.slice sl.p sl.n sl.c] 68)) w.heap.size sl bs :=
  ⟨heap_alloc_new w _, Nat.le_refl _, (Apart.refl [] w).alloc _, h.rd, h.len, h.cap, h.ok, h.u8⟩
theorem apR {w w1 w2 : World} (h : Apart [] w w1) (k : Apart [w.heap.size] w1 w2) : Apart [] w w2 := h.trans' k (by intro y hy; simp at hy; rw [hy]; exact .inr (Nat.le_refl _))
theorem Rdy.read1 {w : World} {sl : Sl} {bs : List Nat} (h : Rdy 1 w sl bs) : Calls Try.prog 78 #[.agg (rv (zr ++ zr)).toArray, .pointer (some ⟨w.heap.size, 0, none⟩)] (w.alloc (.cells #[.slice sl.p sl.n sl.c] 68)) fun r w' => ∃ cs, r = .returned (.iface 88 (.agg cs)) ∧ Apart [] w w' ∧ (∀ wx, Apart [] w' wx → Calls Try.prog 79 #[.agg cs] wx fun r w2 => r = .returned (.bool (rightV (readV 1 bs))) ∧ Apart [] wx w2) ∧ (∀ wx, Apart [] w' wx → Calls Try.prog 77 #[.agg cs] wx fun r w2 => ∃ s', r = .returned (.slice s'.p s'.n s'.c) ∧ Bf wx w2 s' (formV (readV 1 bs))) ∧ (∀ wx V, Apart [] w' wx → Bd wx V (.iface 88 (.agg cs)) → Ho wx V (readV 1 bs)) := by
  have hle := h.le
  have hb := rowR_bd (h.u8.drop 1) 6
  have hw := cu_wd hb.1 hb.2.1
  refine (cread_ok h.rr (by omega)).mono ?_
  rintro _ w' ⟨rfl, a'⟩
  exact ⟨_, rfl, apR ((Apart.refl [] w).alloc _) a', fun wx _ => cright_ok _, fun wx _ => cform_ok hw.1 hw.2, fun wx V _ hB => hB⟩
theorem Rdy.read2 {w : World} {sl : Sl} {bs : List Nat} (h : Rdy 2 w sl bs) : Calls Try.prog 89 #[.agg (sv zr ⟨none, 0, 0⟩), .pointer (some ⟨w.heap.size, 0, none⟩)] (w.alloc (.cells #[.slice sl.p sl.n sl.c] 68)) fun r w' => ∃ cs, r = .returned (.iface 91 (.agg cs)) ∧ Apart [] w w' ∧ (∀ wx, Apart [] w' wx → Calls Try.prog 90 #[.agg cs] wx fun r w2 => r = .returned (.bool (rightV (readV 2 bs))) ∧ Apart [] wx w2) ∧ (∀ wx, Apart [] w' wx → Calls Try.prog 87 #[.agg cs] wx fun r w2 => ∃ s', r = .returned (.slice s'.p s'.n s'.c) ∧ Bf wx w2 s' (formV (readV 2 bs))) ∧ (∀ wx V, Apart [] w' wx → Bd wx V (.iface 91 (.agg cs)) → Ho wx V (readV 2 bs)) := by
  have hle := h.le
  have hb := rowR_bd (h.u8.drop 1) 2
  have hs := esI_bd (hb.2.2.drop 1) (leV ((rowR (bs.drop 1) 2).2.take 1))
  have hn := leV1 hb.2.2
  have hl1 := rowR_left (bs.drop 1) 2
  rw [List.length_drop] at hl1
  refine (sread_ok h.rr (by omega)).mono ?_
  rintro _ w' ⟨s', rfl, e', a'⟩
  refine ⟨_, rfl, a', fun wx ax => sright_ok hb.1 (e'.kept0 ax) (by rw [esI_len]; omega), fun wx ax => sform_ok hb.1 (e'.kept0 ax) (by rw [esI_len]; omega) (fun x hx => ?_), fun wx V ax hB => ⟨s', hB, e'.kept0 ax⟩⟩
  have h1 := (hs.1 x hx).1
  rw [List.length_drop] at h1
  omega
theorem Rdy.read3 {w : World} {sl : Sl} {bs : List Nat} (h : Rdy 3 w sl bs) : Calls Try.prog 104 #[.agg (rv (zr ++ zr)).toArray, .pointer (some ⟨w.heap.size, 0, none⟩)] (w.alloc (.cells #[.slice sl.p sl.n sl.c] 68)) fun r w' => ∃ cs, r = .returned (.iface 93 (.agg cs)) ∧ Apart [] w w' ∧ (∀ wx, Apart [] w' wx → Calls Try.prog 105 #[.agg cs] wx fun r w2 => r = .returned (.bool (rightV (readV 3 bs))) ∧ Apart [] wx w2) ∧ (∀ wx, Apart [] w' wx → Calls Try.prog 102 #[.agg cs] wx fun r w2 => ∃ s', r = .returned (.slice s'.p s'.n s'.c) ∧ Bf wx w2 s' (formV (readV 3 bs))) ∧ (∀ wx V, Apart [] w' wx → Bd wx V (.iface 93 (.agg cs)) → Ho wx V (readV 3 bs)) := by
  have hle := h.le
  have hb := rowR_bd (h.u8.drop 1) 2
  have hb2 := rowR_bd hb.2.2 2
  refine (fread_ok h.rr (by omega)).mono ?_
  rintro _ w' ⟨rfl, a'⟩
  exact ⟨_, rfl, apR ((Apart.refl [] w).alloc _) a', fun wx _ => fright_ok hb.1 hb2.1, fun wx _ => fform_ok hb.1 hb2.1, fun wx V _ hB => hB⟩
theorem Rdy.read4 {w : World} {sl : Sl} {bs : List Nat} (h : Rdy 4 w sl bs) : Calls Try.prog 108 #[.agg (ty.rg 0 0 ⟨#[]⟩), .pointer (some ⟨w.heap.size, 0, none⟩)] (w.alloc (.cells #[.slice sl.p sl.n sl.c] 68)) fun r w' => ∃ cs, r = .returned (.iface 95 (.agg cs)) ∧ Apart [] w w' ∧ (∀ wx, Apart [] w' wx → Calls Try.prog 109 #[.agg cs] wx fun r w2 => r = .returned (.bool (rightV (readV 4 bs))) ∧ Apart [] wx w2) ∧ (∀ wx, Apart [] w' wx → Calls Try.prog 107 #[.agg cs] wx fun r w2 => ∃ s', r = .returned (.slice s'.p s'.n s'.c) ∧ Bf wx w2 s' (formV (readV 4 bs))) ∧ (∀ wx V, Apart [] w' wx → Bd wx V (.iface 95 (.agg cs)) → Ho wx V (readV 4 bs)) := by
  have hle := h.le
  refine (gread_ok h.rr (by omega)).mono ?_
  rintro _ w' ⟨rfl, a'⟩
  refine ⟨_, rfl, apR ((Apart.refl [] w).alloc _) a', fun wx _ => gright_ok, fun wx _ => ?_, fun wx V _ hB => hB⟩
  exact gform_ok (by rw [strB_size]; show ((((bs.drop 1).drop 3).drop 1).take 59).length ≤ 1000; rw [List.length_take]; omega)
end Go.Proofs.Ytdbeeikjngnnnaa.ty
