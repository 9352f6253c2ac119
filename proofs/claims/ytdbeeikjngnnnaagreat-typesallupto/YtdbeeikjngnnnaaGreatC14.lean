import Derived.Test.YtdbeeikjngnnnaaGreatC9
namespace Go.Proofs.YtdbeeikjngnnnaaGreat.ty
open Go.ChangeShapes Go.WideShapes Go.ChangeAt Go.RowKit
set_option linter.unusedVariables false
set_option linter.unusedSimpArgs false
set_option maxRecDepth 100000
set_option maxHeartbeats 8000000
structure Rr (wB w : World) (R : Nat) (s : Sl) (us : List Nat) : Prop where
 blk : w.heap[R]? = some (.cells #[.slice s.p s.n s.c] 131 (0, 0))
 new : wB.heap.size ≤ R
 ap : Apart [] wB w
 rd : Rd wB s.p (byts us)
 len : us.length = s.n
 cap : s.n ≤ s.c
 ok : s.ok
 u8 : ∀ x ∈ us, x < 256
theorem Rr.kept0 {wB w w' : World} {R : Nat} {s : Sl} {us : List Nat} (h : Rr wB w R s us) (a : Apart [] w w') : Rr wB w' R s us := ⟨keep0 a h.blk, h.new, h.ap.trans a, h.rd, h.len, h.cap, h.ok, h.u8⟩
theorem Rr.cell {wB w : World} {R : Nat} {s : Sl} {us : List Nat} (h : Rr wB w R s us) : w.cell? ⟨R, 0, none⟩ = some (.slice s.p s.n s.c) := by rw [cell_of_row _ _ _ _ _ _ h.blk]; rfl
def Sl.preB (s : Sl) (k : Nat) : Sl := ⟨if s.c = 0 then s.p else s.p.map (·.add (0 * 1)), k, s.c⟩
def Sl.postB (s : Sl) (k : Nat) : Sl := ⟨if s.c = k then s.p else s.p.map (·.add (k * 1)), s.n - k, s.c - k⟩
theorem sz5 (W : World) : (sizeOf 5).run Tryz.prog W = .ok 1 W := by kernel_rfl
theorem el22 : Tryz.prog.elem 29 = 5 := by kernel_rfl
theorem ul22 : Tryz.prog.underlying 29 = some (.slice (Tryz.prog.elem 29)) := by rw [el22]; exact Tryz.underlying29
theorem ex_preB {W : World} {eval : Operand → Value} {op : Oper} (s : Sl) (k : Nat) (x y : Operand) (ho : op.op = .slice 29 x none (some y) none) (hx : eval x = .slice s.p s.n s.c) (hy : eval y = .int .i64 (k : Int)) (hk : k ≤ s.c) : (execOp eval op).run Tryz.prog W = .ok (.value (.slice (s.preB k).p (s.preB k).n (s.preB k).c)) W := by
 unfold execOp
 simp only [ho, hx, Option.map_some, Option.map_none, hy, Sem.run_bind, run_sliceAt_slice W 29 _ _ _ _ ul22, run_slice_h W 29 s.p s.n s.c ul22 .i64 (k : Int) (by omega) (by omega), el22, sz5, Result.andThen_ok, Sem.run_pure]
 simp [sliced, Sl.preB]
theorem ex_postB {W : World} {eval : Operand → Value} {op : Oper} (s : Sl) (k : Nat) (x y : Operand) (ho : op.op = .slice 29 x (some y) none none) (hx : eval x = .slice s.p s.n s.c) (hy : eval y = .int .i64 (k : Int)) (hk : k ≤ s.n) : (execOp eval op).run Tryz.prog W = .ok (.value (.slice (s.postB k).p (s.postB k).n (s.postB k).c)) W := by
 unfold execOp
 simp only [ho, hx, Option.map_some, Option.map_none, hy, Sem.run_bind, run_sliceAt_slice W 29 _ _ _ _ ul22, run_slice_l W 29 s.p s.n s.c ul22 .i64 (k : Int) (by omega) (by omega), el22, sz5, Result.andThen_ok, Sem.run_pure]
 simp [sliced, Sl.postB]
theorem byts_len (us : List Nat) : (byts us).length = us.length := by simp [byts]
theorem Rd.preB {w : World} {s : Sl} {us : List Nat} (h : Rd w s.p (byts us)) (k : Nat) : Rd w (s.preB k).p (byts (us.take k)) := by
 intro h0
 have e : byts us = byts (us.take k) ++ byts (us.drop k) := by rw [← byts_app, List.take_append_drop]
 obtain ⟨P, o, e1, hb, hc⟩ := h (by rw [e, List.length_append]; omega)
 refine ⟨P, o, ?_, hb, fun j u hj => hc j u ?_⟩
 ·simp only [Sl.preB, e1, Option.map_some, Addr.add_lit, Nat.zero_mul, Nat.add_zero, ite_self]
 ·rw [e, List.getElem?_append_left (by have := (List.getElem?_eq_some_iff.1 hj).1; exact this)]; exact hj
theorem Rd.postB {w : World} {s : Sl} {us : List Nat} (h : Rd w s.p (byts us)) (hl : us.length = s.n) (hc' : s.n ≤ s.c) {k : Nat} (hk : k ≤ us.length) : Rd w (s.postB k).p (byts (us.drop k)) := by
 intro h0
 have e : byts us = byts (us.take k) ++ byts (us.drop k) := by rw [← byts_app, List.take_append_drop]
 have ht : (byts (us.take k)).length = k := by rw [byts_len, List.length_take]; omega
 rw [byts_len, List.length_drop] at h0
 obtain ⟨P, o, e1, hb, hc⟩ := h (by rw [byts_len]; omega)
 refine ⟨P, o + k, ?_, hb, fun j u hj => ?_⟩
 ·simp only [Sl.postB, e1, Option.map_some, Addr.add_lit, Nat.mul_one]
  rw [if_neg (by omega)]
 ·rw [Nat.add_assoc]
  refine hc _ _ ?_
  rw [e, List.getElem?_append_right (by omega), ht, show k + j - k = j from by omega]
  exact hj
theorem Sl.preB_ok {s : Sl} (h : s.ok) {k : Nat} (hk : k ≤ s.n) : (s.preB k).ok := by
 intro hp
 have hn : s.p = none := by
  simp only [Sl.preB] at hp
  split at hp
  ·exact hp
  ·simpa using hp
 have h1 := h hn
 exact ⟨by show k = 0; omega, h1.2⟩
theorem Sl.postB_ok {s : Sl} (h : s.ok) (k : Nat) : (s.postB k).ok := by
 intro hp
 have hn : s.p = none := by
  simp only [Sl.postB] at hp
  split at hp
  ·exact hp
  ·simpa using hp
 have h1 := h hn
 exact ⟨by show s.n - k = 0; omega, by show s.c - k = 0; omega⟩
structure Pt (wB : World) (s : Sl) (us : List Nat) : Prop where
 rd : Rd wB s.p (byts us)
 len : us.length = s.n
 ok : s.ok
 u8 : ∀ x ∈ us, x < 256
theorem next_ok {wB w : World} {R : Nat} {s : Sl} {us : List Nat} (h : Rr wB w R s us) (hl : us.length ≤ 1000000) (n : Nat) (hn : n ≤ 1000000) : Calls Tryz.prog 108 #[.pointer (some ⟨R, 0, none⟩), .int .i64 (n : Int)] w fun r w' => ∃ a : Sl, r = .returned (.slice a.p a.n a.c) ∧ Pt wB a (us.take n) ∧ ∃ b, Rr wB w' R b (us.drop n) ∧ Apart [R] w w' := by
 have HR := hid h
 have Hl := hid hl
 obtain ⟨k, hk⟩ : ∃ k, k = min n s.n := ⟨_, rfl⟩
 have hkn : k ≤ s.n := by omega
 have hkc : k ≤ s.c := Nat.le_trans hkn h.cap
 have hk6 : k ≤ 1000000 := by omega
 have hmin : min ((n : Nat) : Int) ((s.n : Nat) : Int) = ((k : Nat) : Int) := by omega
 have Htk : Hid (us.take n = us.take k) := hid (by rw [hk, ← h.len, List.take_eq_take_iff]; omega)
 have Hdr : Hid (us.drop n = us.drop k) := hid (by
  rw [hk, ← h.len]
  rcases Nat.le_total n us.length with h1 | h1
  ·rw [Nat.min_eq_left h1]
  ·rw [Nat.min_eq_right h1, List.drop_eq_nil_of_le h1, List.drop_eq_nil_of_le (Nat.le_refl _)])
 clear h hl hk
 have z := HR.out.cell
 have f0 := frozen_of_row _ _ 0 _ _ HR.out.blk
 go_enter Tryz.func108, Tryz.ntmps108
 go_wp2_with (first
  | refine wpL_val rfl (.slice (s.preB k).p (s.preB k).n (s.preB k).c) (ex_preB s k _ _ rfl rfl rfl hkc) ?_
  | refine wpL_val rfl (.slice (s.postB k).p (s.postB k).n (s.postB k).c) (ex_postB s k _ _ rfl rfl rfl hkn) ?_)
 go_ret
 refine ⟨s.preB k, rfl, ?_, s.postB k, ?_, ?_⟩
 ·rw [Htk.out]
  exact ⟨Rd.preB HR.out.rd k, by rw [List.length_take, HR.out.len]; show min k s.n = k; omega, Sl.preB_ok HR.out.ok hkn, fun x hx => HR.out.u8 x (List.mem_of_mem_take hx)⟩
 ·rw [Hdr.out]
  have hc := HR.out.cap
  refine ⟨?_, HR.out.new, HR.out.ap.setCell (.inr HR.out.new) _, Rd.postB HR.out.rd HR.out.len HR.out.cap (by rw [HR.out.len]; exact hkn), by rw [List.length_drop, HR.out.len]; rfl, by show s.n - k ≤ s.c - k; omega, Sl.postB_ok HR.out.ok k, fun x hx => HR.out.u8 x (List.mem_of_mem_drop hx)⟩
  rw [heap_setCell_same _ _ _ _ _ _ HR.out.blk]
  rfl
 ·exact (Apart.refl [R] w).setCell (p := ⟨R, 0, none⟩) (.inl (by simp)) _
def leV : List Nat → Nat
 | [] => 0
 | x :: r => x + 256 * leV r
theorem leV_snoc (l : List Nat) (x : Nat) : leV (l ++ [x]) = leV l + x * 2 ^ (8 * l.length) := by
 induction l with
 | nil => simp [leV]
 | cons y r ih =>
  rw [List.cons_append, leV, ih, leV, List.length_cons, Nat.mul_succ, Nat.pow_add, Nat.mul_add, Nat.mul_comm (2 ^ (8 * r.length)) (2 ^ 8)]
  have : (2 : Nat) ^ 8 = 256 := by decide
  rw [this, Nat.mul_left_comm x 256]
  omega
theorem leV_lt {l : List Nat} (h : ∀ x ∈ l, x < 256) : leV l < 2 ^ (8 * l.length) := by
 induction l with
 | nil => simp [leV]
 | cons y r ih =>
  have h1 := ih (fun x hx => h x (List.mem_cons_of_mem _ hx))
  have h2 := h y (by simp)
  rw [leV, List.length_cons, Nat.mul_succ, Nat.pow_add]
  have : (2 : Nat) ^ 8 = 256 := by decide
  rw [this]
  omega
theorem or_add (a x i : Nat) (h : a < 2 ^ i) : a ||| (x * 2 ^ i) = a + x * 2 ^ i := by
 rw [Nat.or_comm, Nat.mul_comm x, ← Nat.two_pow_add_eq_or_of_lt h, Nat.add_comm]
theorem number_ok {wB w : World} {R : Nat} {s : Sl} {us : List Nat} (h : Rr wB w R s us) (hl : us.length ≤ 1000000) (n : Nat) (hn : n ≤ 6) : Calls Tryz.prog 111 #[.pointer (some ⟨R, 0, none⟩), .int .i64 (n : Int)] w fun r w' => r = .returned (.int .i64 ((leV (us.take n) : Nat) : Int)) ∧ (∃ b, Rr wB w' R b (us.drop n)) ∧ Apart [R] w w' := by
 have HC := hid (next_ok h hl n (by omega))
 have HT : Hid ((us.take n).length ≤ 6) := hid (by rw [List.length_take]; omega)
 clear h hl
 go_enter Tryz.func111, Tryz.ntmps111
 go_wp2_with (go_at_call 108; refine HC.out.mono ?_; rintro _ w1 ⟨a, rfl, p1, b, r1, a1⟩; have HP := hid p1; have HR := hid r1; have HA := hid a1; clear p1 r1 a1)
 obtain ⟨ps, Hps⟩ : ∃ ps, Hid (ps = us.take n) := ⟨_, hid rfl⟩
 rw [← Hps.out] at HP HT
 obtain ⟨N, HN⟩ : ∃ N, Hid (N = ps.length) := ⟨_, hid rfl⟩
 have han : a.n = N := by rw [HN.out]; exact HP.out.len.symm
 have hN6 : N ≤ 6 := by rw [HN.out]; exact HT.out
 rw [han]
 go_loopw [5, 12] (fun x v wt => ∃ i m : Nat, v = .int .i64 (i : Nat) ∧ i ≤ N ∧ w1 = wt ∧ x = .int .i64 (m : Nat) ∧ Hid (m = leV (ps.take i))) (fun _ v _ => N - (intOf v).toNat)
 case atStart => exact ⟨0, 0, rfl, Nat.zero_le _, rfl, rfl, hid rfl⟩
 case round =>
  obtain ⟨i, m, rfl, hi, rfl, rfl, Hm⟩ := hrel
  by_cases hlt : i < N
  ·have hlti : ((i : Nat) : Int) < ((N : Nat) : Int) := by omega
   have Hil : Hid (i < ps.length) := hid (by rw [← HN.out]; exact hlt)
   obtain ⟨P, o, hp, hP, hc⟩ := (HP.out.rd.kept0 HR.out.ap) (by rw [byts_len]; have := Hil.out; omega)
   have z : w1.cell? ⟨P, o + i, none⟩ = some (.int .u8 (((ps[i]'Hil.out) : Nat) : Int)) := hc i _ (by simp [byts, Hil.out])
   obtain ⟨y, Hy⟩ : ∃ y, Hid (y = ps[i]'Hil.out) := ⟨_, hid rfl⟩
   rw [← Hy.out] at z
   have hy8 : y < 256 := by rw [Hy.out]; exact HP.out.u8 _ (List.getElem_mem _)
   have Hst : Hid (leV (ps.take (i + 1)) = leV (ps.take i) + y * 2 ^ (8 * i)) := hid (by
    rw [List.take_succ_eq_append_getElem Hil.out, leV_snoc, ← Hy.out, List.length_take, Nat.min_eq_left (by have := Hil.out; omega)])
   have Hml : Hid (m < 2 ^ (8 * i)) := hid (by
    rw [Hm.out]
    have h1 := leV_lt (l := ps.take i) (fun x hx => HP.out.u8 x (List.mem_of_mem_take hx))
    rwa [List.length_take, Nat.min_eq_left (by have := Hil.out; omega)] at h1)
   rw [hp]
   clear hp hP hc
   have h8 : wrap64 (8 * (i : Int)) = ((8 * i : Nat) : Int) := by rw [IntWalk.wrap64_in _ (by omega)]; omega
   have Hsh : Hid (y * 2 ^ (8 * i) < 2 ^ 48 ∧ m < 2 ^ 48) := hid (by
    have h1 : 2 ^ (8 * i) ≤ 2 ^ 40 := Nat.pow_le_pow_right (by omega) (by omega)
    have h2 := Hml.out
    have h3 : y * 2 ^ (8 * i) ≤ 255 * 2 ^ 40 := Nat.mul_le_mul (by omega) h1
    exact ⟨by omega, by omega⟩)
   have Hor : Hid (bits .or .i64 (m : Int) (wrap64 ((y : Int) * 2 ^ (8 * i))) = ((m + y * 2 ^ (8 * i) : Nat) : Int)) := hid (by
    have e : ((y : Int) * 2 ^ (8 * i)) = ((y * 2 ^ (8 * i) : Nat) : Int) := by rw [Int.natCast_mul, Int.natCast_pow]; rfl
    rw [e, IntWalk.wrap64_in _ (by have := Hsh.out; omega), i64_or_nat _ _ (by have := Hsh.out; omega) (by have := Hsh.out; omega), or_add _ _ _ Hml.out])
   go_wp2_with fail
   rw [Hor.out]
   refine ⟨⟨i + 1, m + y * 2 ^ (8 * i), by go_num, by omega, by first | rfl | trivial, rfl, hid (by rw [Hst.out, Hm.out])⟩, by simp [intOf]; omega⟩
  ·have hlti : ¬ ((i : Nat) : Int) < ((N : Nat) : Int) := by omega
   obtain rfl : N = i := by omega
   have He : Hid (ps.take N = ps) := hid (List.take_of_length_le (by rw [← HN.out]; exact Nat.le_refl _))
   rw [He.out] at Hm
   go_wp2_with fail
   go_ret
   exact ⟨by rw [← Hps.out, ← Hm.out]; rfl, ⟨b, HR.out⟩, HA.out⟩
theorem i64_and_nat (a b : Nat) (ha : a < 2 ^ 63) (hb : b < 2 ^ 63) : bits .and .i64 (a : Int) (b : Int) = ((a &&& b : Nat) : Int) := by
 have hx : a &&& b < 2 ^ 63 := Nat.and_lt_two_pow a hb
 show IntKind.i64.wrap ((BitVec.ofInt 64 (a : Int) &&& BitVec.ofInt 64 (b : Int)).toNat : Int) = _
 rw [BitVec.toNat_and, ofInt_u64 a (by omega), ofInt_u64 b (by omega), IntWalk.i64_left]
 exact IntWalk.wrap64_in _ (by omega)
def rwI (mask wd : Nat) : Nat → List Nat → List Int × List Nat
 | 0, us => ([], us)
 | i + 1, us => if mask / 2 ^ i % 2 = 1 then ((rwI mask wd i us).1 ++ [((leV ((rwI mask wd i us).2.take wd) : Nat) : Int)], (rwI mask wd i us).2.drop wd) else ((rwI mask wd i us).1 ++ [0], (rwI mask wd i us).2)
def rowR (us : List Nat) (wd : Nat) : List Int × List Nat := rwI (leV (us.take 1)) wd 8 (us.drop 1)
theorem rwI_len (mask wd : Nat) (us : List Nat) : ∀ i, (rwI mask wd i us).1.length = i
 | 0 => rfl
 | i + 1 => by
  unfold rwI
  split <;> simp [rwI_len mask wd us i]
theorem rwI_left (mask wd : Nat) (us : List Nat) : ∀ i, (rwI mask wd i us).2.length ≤ us.length
 | 0 => Nat.le_refl _
 | i + 1 => by
  have h := rwI_left mask wd us i
  unfold rwI
  split
  ·simp only [List.length_drop]; omega
  ·exact h
def pad8 (l : List Int) : List Int := l ++ List.replicate (8 - l.length) 0
theorem pad8_len {l : List Int} (h : l.length ≤ 8) : (pad8 l).length = 8 := by simp [pad8]; omega
theorem pad8_zero {l : List Int} (h : l.length < 8) : pad8 (l ++ [0]) = pad8 l := by
 unfold pad8
 rw [List.append_assoc, List.length_append]
 congr 1
 rw [show 8 - l.length = (8 - (l.length + [(0 : Int)].length)) + 1 from by simp; omega, List.replicate_succ]
 rfl
theorem pad8_set {l : List Int} (h : l.length < 8) (v : Int) : (pad8 l).set l.length v = pad8 (l ++ [v]) := by
 unfold pad8
 rw [List.set_append_right _ _ (Nat.le_refl _), Nat.sub_self, List.append_assoc, List.length_append]
 congr 1
 rw [show 8 - l.length = (8 - (l.length + [v].length)) + 1 from by simp; omega, List.replicate_succ]
 rfl
theorem pad8_end {l : List Int} (h : l.length = 8) : pad8 l = l := by simp [pad8, h]
theorem row_ok {wB w : World} {R : Nat} {s : Sl} {us : List Nat} (h : Rr wB w R s us) (hl : us.length ≤ 1000000) (wd : Nat) (hw : wd ≤ 6) : Calls Tryz.prog 109 #[.pointer (some ⟨R, 0, none⟩), .int .i64 (wd : Int)] w fun r w' => r = .returned (.agg (rv (rowR us wd).1).toArray) ∧ (∃ b, Rr wB w' R b (rowR us wd).2) ∧ Apart [R] w w' := by
 have HWB : Hid (wB.heap.size ≤ w.heap.size) := hid h.ap.size
 have HR := hid h
 have Hl := hid hl
 have Hw := hid hw
 clear h hl
 obtain ⟨g, Hg⟩ : ∃ g, Hid (g = (rowR us wd).1) := ⟨_, hid rfl⟩
 obtain ⟨vs, Hvs⟩ : ∃ g, Hid (g = (rowR us wd).2) := ⟨_, hid rfl⟩
 rw [← Hg.out, ← Hvs.out]
 obtain ⟨mk, Hmk⟩ : ∃ m, Hid (m = leV (us.take 1)) := ⟨_, hid rfl⟩
 have hmk : mk < 256 := by
  rw [Hmk.out]
  have h1 := leV_lt (l := us.take 1) (fun x hx => HR.out.u8 x (List.mem_of_mem_take hx))
  have h2 : (us.take 1).length ≤ 1 := by rw [List.length_take]; omega
  have h3 : 2 ^ (8 * (us.take 1).length) ≤ 2 ^ 8 := Nat.pow_le_pow_right (by omega) (by omega)
  omega
 go_enter Tryz.func109, Tryz.ntmps109
 go_upto_region 2 with fail
 obtain ⟨Z, HXZ⟩ : ∃ X, Hid (X = w.heap.size) := ⟨_, rfl⟩
 obtain ⟨w1, hw1⟩ : ∃ W, W = w.alloc (.cells #[.int .i64 0, .int .i64 0, .int .i64 0, .int .i64 0, .int .i64 0, .int .i64 0, .int .i64 0, .int .i64 0] 99) := ⟨_, rfl⟩
 obtain ⟨X, HXX⟩ : ∃ X, Hid (X = w1.heap.size) := ⟨_, rfl⟩
 obtain ⟨w2, hw2⟩ : ∃ W, W = w1.alloc (.cells #[.int .i64 0, .int .i64 0, .int .i64 0, .int .i64 0, .int .i64 0, .int .i64 0, .int .i64 0, .int .i64 0] 99) := ⟨_, rfl⟩
 have HS1 : Hid (Apart [] w w1) := hid (zM hw1)
 have HS2 : Hid (Apart [] w1 w2) := hid (zM hw2)
 have HBZ : Hid (w2.heap[Z]? = some (.cells (rv (pad8 [])).toArray 99 (0, 0))) := by unfold Hid; refine keep0 HS2.out ?_; rw [HXZ.out, hw1]; exact heap_alloc_new w _
 have HBX : Hid (w2.heap[X]? = some (.cells (rv (pad8 [])).toArray 99 (0, 0))) := hid (zN HXX.out hw2)
 have hRlt := lt_of_heap HR.out.blk
 have heX : Z + 1 = X := by rw [HXX.out, hw1, HXZ.out]; exact (Array.size_push _).symm
 have HN : Hid (X ≠ R ∧ Z ≠ R ∧ X ≠ Z ∧ w.heap.size ≤ X ∧ w.heap.size ≤ Z) := hid (by have := HXZ.out; omega)
 have HA : Hid (Apart [R] w w2) := hid ((HS1.out.trans HS2.out).mono (by simp))
 replace HR := hid (HR.out.kept0 (HS1.out.trans HS2.out))
 rw [← hw1, ← HXZ.out, heX, ← hw2]
 clear hw1 hw2 HXZ HXX heX HS1 HS2 hRlt
 have HC := hid (number_ok HR.out Hl.out 1 (by omega))
 rw [← Hmk.out] at HC
 go_wp2_with (go_at_call 111; refine HC.out.mono ?_; rintro _ w3 ⟨rfl, ⟨b3, r3⟩, a3⟩; have HR3 := hid r3; have HS3 := hid a3; clear r3 a3)
 replace HBX := hid (keepB HS3.out HBX.out HN.out.1)
 replace HBZ := hid (keepB HS3.out HBZ.out HN.out.2.1)
 replace HA := hid (HA.out.trans HS3.out)
 clear HC HR HS3
 go_loopw [10] (fun v wt => ∃ i : Nat, v = .int .i64 (i : Nat) ∧ i ≤ 8 ∧ Hid (∃ b, Rr wB wt R b (rwI mk wd i (us.drop 1)).2) ∧ Hid (wt.heap[X]? = some (.cells (rv (pad8 (rwI mk wd i (us.drop 1)).1)).toArray 99 (0, 0))) ∧ Hid (wt.heap[Z]? = some (.cells (rv (pad8 [])).toArray 99 (0, 0))) ∧ Hid (Apart [R] w wt)) (fun v _ => 8 - (intOf v).toNat)
 case atStart => exact ⟨0, rfl, Nat.zero_le _, hid ⟨b3, HR3.out⟩, HBX, HBZ, HA⟩
 case round =>
  clear HR3 HBX HBZ HA
  obtain ⟨i, rfl, hi, HR, HBX, HBZ, HA⟩ := hrel
  generalize wr = wt at *
  by_cases hlt : i < 8
  ·have hlti : ((i : Nat) : Int) < 8 := by omega
   have hlt0 : (0 : Int) ≤ ((i : Nat) : Int) ∧ ((i : Nat) : Int) < 8 := by omega
   have Hand : Hid (bits .and .i64 ((mk : Int) / 2 ^ i) 1 = ((mk / 2 ^ i % 2 : Nat) : Int)) := hid (by
    have e : ((mk : Int) / 2 ^ i) = ((mk / 2 ^ i : Nat) : Int) := by rw [Int.natCast_ediv, Int.natCast_pow]; rfl
    have hle : mk / 2 ^ i ≤ mk := Nat.div_le_self _ _
    have := i64_and_nat (mk / 2 ^ i) 1 (by omega) (by omega)
    rw [Nat.and_one_is_mod] at this
    rw [e]
    exact this)
   obtain ⟨t, Ht⟩ : ∃ t, Hid (t = mk / 2 ^ i % 2) := ⟨_, hid rfl⟩
   have ht2 : t < 2 := by rw [Ht.out]; omega
   rw [← Ht.out] at Hand
   have hand := Hand.out
   by_cases hb : t = 1
   ·have Hst : Hid (rwI mk wd (i + 1) (us.drop 1) = ((rwI mk wd i (us.drop 1)).1 ++ [((leV ((rwI mk wd i (us.drop 1)).2.take wd) : Nat) : Int)], (rwI mk wd i (us.drop 1)).2.drop wd)) := hid (by rw [rwI, if_pos (by rw [← Ht.out]; exact hb)])
    obtain ⟨b, hr⟩ := HR.out
    have HRb := hid hr
    clear hr HR
    have HC := hid (number_ok HRb.out (by have h1 := rwI_left mk wd (us.drop 1) i; have h2 := Hl.out; rw [List.length_drop] at h1; omega) wd Hw.out)
    subst hb
    obtain ⟨l, Hll⟩ : ∃ l, Hid (l = (rwI mk wd i (us.drop 1)).1) := ⟨_, hid rfl⟩
    have Hil : Hid (l.length = i) := hid (by rw [Hll.out]; exact rwI_len _ _ _ _)
    rw [← Hll.out] at HBX
    obtain ⟨y, Hy⟩ : ∃ y, Hid (y = leV ((rwI mk wd i (us.drop 1)).2.take wd)) := ⟨_, hid rfl⟩
    rw [← Hy.out] at HC
    rw [← Hll.out, ← Hy.out] at Hst
    go_wp2_with (go_at_call 111; refine HC.out.mono ?_; rintro _ w4 ⟨rfl, ⟨b4, r4⟩, a4⟩; have HR4 := hid r4; have HS4 := hid a4; clear r4 a4; have HBX4 := hid (keepB HS4.out HBX.out HN.out.1); have HBZ4 := hid (keepB HS4.out HBZ.out HN.out.2.1); have zx := cellR HBX4.out i (by rw [pad8_len (by rw [Hil.out]; omega)]; exact hlt); have fx := frozen_of_row _ _ i _ _ HBX4.out)
    have HAs : Hid (Apart [X] w4 (w4.setCell ⟨X, i, none⟩ (.int .i64 (y : Int)))) := hid ((Apart.refl [X] w4).setCell (p := ⟨X, i, none⟩) (.inl (by simp)) _)
    refine ⟨⟨i + 1, by go_num, by omega, ?_, ?_, ?_, ?_⟩, by simp [intOf]; omega⟩
    ·refine hid ⟨b4, ?_⟩
     rw [Hst.out]
     have h4 := HR4.out
     exact ⟨keepB HAs.out h4.blk HN.out.1.symm, h4.new, h4.ap.setCell (p := ⟨X, i, none⟩) (.inr (by have h1 := HN.out.2.2.2.1; have h2 := HRb.out.ap.size; have h3 := HWB.out; exact Nat.le_trans h3 h1)) _, h4.rd, h4.len, h4.cap, h4.ok, h4.u8⟩
    ·unfold Hid
     rw [Hst.out, heap_setCell_same w4 X i _ 99 _ HBX4.out, ← pad8_set (by rw [Hil.out]; exact hlt), Hil.out, ← rv_set]
     simp
    ·exact hid (keepB HAs.out HBZ4.out HN.out.2.2.1.symm)
    ·exact hid ((HA.out.trans HS4.out).setCell (p := ⟨X, i, none⟩) (.inr HN.out.2.2.2.1) _)
   ·have Hst : Hid (rwI mk wd (i + 1) (us.drop 1) = ((rwI mk wd i (us.drop 1)).1 ++ [0], (rwI mk wd i (us.drop 1)).2)) := hid (by rw [rwI, if_neg (by rw [← Ht.out]; exact hb)])
    have h0 : t = 0 := by omega
    subst h0
    go_wp2_with fail
    refine ⟨⟨i + 1, by go_num, by omega, ?_, ?_, HBZ, HA⟩, by simp [intOf]; omega⟩
    ·rw [Hst.out]; exact HR
    ·rw [Hst.out]
     dsimp only
     rw [pad8_zero (by rw [rwI_len]; exact hlt)]
     exact HBX
  ·have hlti : ¬ ((i : Nat) : Int) < 8 := by omega
   obtain rfl : i = 8 := by omega
   have Hgl : Hid (g.length = 8) := hid (by rw [Hg.out]; exact rwI_len _ _ _ _)
   have HBX5 : Hid (wt.heap[X]? = some (.cells (rv g).toArray 99 (0, 0))) := hid (by
    have h1 := HBX.out
    rw [pad8_end (rwI_len _ _ _ _)] at h1
    rw [Hg.out, rowR, ← Hmk.out]
    exact h1)
   go_wp2_with (first
    | refine wpList_load_row rfl 99 _ rfl X rfl 99 _ (0, 0) _ HBX5.out Tryz.underlying99 rfl (by rw [size86]; simp [rv_len, Hgl.out]) ?_
    | refine wpList_store_row rfl 99 _ _ rfl Z (rv g).toArray rfl rfl 99 _ HBZ.out (by rw [size86]; simp [rv_len, Hgl.out]) (by simp [rv_len, Hgl.out, pad8]) (all_oneCell_toArray (rv_one _)) ?_)
   refine bodyPost_ret (results_cell_row rfl _ _ Z 99 (rv g).toArray _ _ rfl (setRow_heap _ _ _ _ _ _ HBZ.out) Tryz.underlying99 rfl (by rw [size86]; simp [rv_len, Hgl.out])) rfl ?_
   obtain ⟨b, hr⟩ := HR.out
   have asr := apart_setRow wt Z (rv g).toArray
   refine ⟨rfl, ⟨b, ?_⟩, HA.out.trans' asr (by intro y hy; simp at hy; rw [hy]; exact .inr HN.out.2.2.2.2)⟩
   rw [Hvs.out, rowR, ← Hmk.out]
   exact ⟨keepB asr hr.blk HN.out.2.1.symm, hr.new, hr.ap.trans' asr (by intro y hy; simp at hy; rw [hy]; exact .inr (Nat.le_trans HWB.out HN.out.2.2.2.2)), hr.rd, hr.len, hr.cap, hr.ok, hr.u8⟩
theorem Rr.setX {wB w w' : World} {R X : Nat} {s : Sl} {us : List Nat} (h : Rr wB w R s us) (a : Apart [X] w w') (hn : X ≠ R) (hX : wB.heap.size ≤ X) : Rr wB w' R s us :=
 ⟨keepB a h.blk hn.symm, h.new, h.ap.trans' a (by intro y hy; simp at hy; rw [hy]; exact .inr hX), h.rd, h.len, h.cap, h.ok, h.u8⟩
def regR (us : List Nat) : Nat × Nat × List Nat := (leV ((us.drop 1).take 3), leV (((us.drop 1).drop 3).take 1), (((us.drop 1).drop 3).drop 1).take 59)
theorem gread_ok {wB w : World} {R : Nat} {s : Sl} {us : List Nat} (h : Rr wB w R s us) (hl : us.length ≤ 1000000) : Calls Tryz.prog 134 #[.agg (ty.rg 0 0 ⟨#[]⟩), .pointer (some ⟨R, 0, none⟩)] w fun r w' => r = .returned (.iface 108 (.agg (ty.rg ((regR us).1 : Int) ((regR us).2.1 : Int) (strB (regR us).2.2)))) ∧ Apart [R] w w' := by
 have HWB : Hid (wB.heap.size ≤ w.heap.size) := hid h.ap.size
 have HR := hid h
 have Hl := hid hl
 have hRl := lt_of_heap h.blk
 clear h hl
 obtain ⟨n, Hn⟩ : ∃ n, Hid (n = leV ((us.drop 1).take 3)) := ⟨_, hid rfl⟩
 obtain ⟨a, Ha⟩ : ∃ n, Hid (n = leV (((us.drop 1).drop 3).take 1)) := ⟨_, hid rfl⟩
 obtain ⟨ts, Hts⟩ : ∃ n, Hid (n = (((us.drop 1).drop 3).drop 1).take 59) := ⟨_, hid rfl⟩
 have e : regR us = (n, a, ts) := by rw [regR, Hn.out, Ha.out, Hts.out]
 rw [e]
 clear e
 unfold ty.rg
 go_enter Tryz.func134, Tryz.ntmps134
 go_upto_region 1 with fail
 obtain ⟨X, HXX⟩ : ∃ X, Hid (X = w.heap.size) := ⟨_, rfl⟩
 obtain ⟨w1, hw1⟩ : ∃ W, W = w.alloc (.cells #[.int .i64 0, .int .i64 0, .string ⟨#[]⟩] 108) := ⟨_, rfl⟩
 have HSw1 : Hid (Apart [] w w1) := hid (zM hw1)
 have HBX : Hid (w1.heap[X]? = some (.cells #[.int .i64 0, .int .i64 0, .string ⟨#[]⟩] 108 (0, 0))) := hid (zN HXX.out hw1)
 have HLX : Hid (w.heap.size ≤ X) := by unfold Hid; rw [HXX.out]; exact Nat.le_refl _
 have HN : Hid (X ≠ R) := hid (by have := HLX.out; omega)
 have HBW : Hid (wB.heap.size ≤ X) := hid (Nat.le_trans HWB.out HLX.out)
 rw [← hw1, ← HXX.out]
 clear hw1 HXX hRl
 have HC := hid (next_ok (HR.out.kept0 HSw1.out) Hl.out 1 (by omega))
 go_upto_region 2 with (go_at_call 108; refine HC.out.mono ?_; rintro _ w2 ⟨a2, rfl, p2, b2, q2, s2⟩; have HR2 := hid q2; have HS2 := hid s2; clear p2 q2 s2 HC)
 have HBX2 := hid (keepB HS2.out HBX.out HN.out)
 have HC := hid (number_ok HR2.out (by have := Hl.out; rw [List.length_drop]; omega) 3 (by omega))
 rw [← Hn.out] at HC
 clear HBX HR
 go_upto_region 3 with (go_at_call 111; refine HC.out.mono ?_; rintro _ w3 ⟨rfl, ⟨b3, q3⟩, s3⟩; have HR3 := hid q3; have HS3 := hid s3; have HBX3 := hid (keepB HS3.out HBX2.out HN.out); clear q3 s3 HC; have z3 : w3.cell? ⟨X, 0, none⟩ = some (.int .i64 0) := (zK HBX3.out); have f3 := frozen_of_row _ _ 0 _ _ HBX3.out)
 have HS4 : Hid (Apart [X] w3 (w3.setCell ⟨X, 0, none⟩ (.int .i64 (n : Int)))) := hid ((Apart.refl [X] w3).setCell (p := ⟨X, 0, none⟩) (.inl (by simp)) _)
 have HBX4 : Hid ((w3.setCell ⟨X, 0, none⟩ (.int .i64 (n : Int))).heap[X]? = some (.cells #[.int .i64 (n : Int), .int .i64 0, .string ⟨#[]⟩] 108 (0, 0))) := hid (by rw [heap_setCell_same w3 X 0 _ 108 _ HBX3.out]; rfl)
 generalize w3.setCell ⟨X, 0, none⟩ (.int .i64 (n : Int)) = w4 at *
 have HR4 := hid (HR3.out.setX HS4.out HN.out HBW.out)
 have HC := hid (number_ok HR4.out (by have := Hl.out; simp only [List.length_drop]; omega) 1 (by omega))
 rw [← Ha.out] at HC
 clear HR3 HBX2 z3 f3 HBX3
 go_upto_region 4 with (go_at_call 111; refine HC.out.mono ?_; rintro _ w5 ⟨rfl, ⟨b5, q5⟩, s5⟩; have HR5 := hid q5; have HS5 := hid s5; have HBX5 := hid (keepB HS5.out HBX4.out HN.out); clear q5 s5 HC; have z5 : w5.cell? ⟨X, 1, none⟩ = some (.int .i64 0) := (zK HBX5.out); have f5 := frozen_of_row _ _ 1 _ _ HBX5.out)
 have HS6 : Hid (Apart [X] w5 (w5.setCell ⟨X, 1, none⟩ (.int .i64 (a : Int)))) := hid ((Apart.refl [X] w5).setCell (p := ⟨X, 1, none⟩) (.inl (by simp)) _)
 have HBX6 : Hid ((w5.setCell ⟨X, 1, none⟩ (.int .i64 (a : Int))).heap[X]? = some (.cells #[.int .i64 (n : Int), .int .i64 (a : Int), .string ⟨#[]⟩] 108 (0, 0))) := hid (by rw [heap_setCell_same w5 X 1 _ 108 _ HBX5.out]; rfl)
 generalize w5.setCell ⟨X, 1, none⟩ (.int .i64 (a : Int)) = w6 at *
 have HR6 := hid (HR5.out.setX HS6.out HN.out HBW.out)
 have HC := hid (next_ok HR6.out (by have := Hl.out; simp only [List.length_drop]; omega) 59 (by omega))
 rw [← Hts.out] at HC
 clear HR5 HBX4 z5 f5 HBX5 HR4
 go_wp2_with (first
  | (go_at_call 108; refine HC.out.mono ?_; rintro _ w7 ⟨a7, rfl, p7, b7, q7, s7⟩; have HS7 := hid s7; have HBX7 := hid (keepB HS7.out HBX6.out HN.out); have hcv := conv_bytes (p7.rd.kept0 q7.ap) p7.len p7.ok; clear q7 s7 p7 HC; have z7 : w7.cell? ⟨X, 2, none⟩ = some (.string ⟨#[]⟩) := (zK HBX7.out); have f7 := frozen_of_row _ _ 2 _ _ HBX7.out)
  | refine wpList_load_row rfl 108 _ rfl X rfl 108 #[.int .i64 (n : Int), .int .i64 (a : Int), .string (strB ts)] (0, 0) _ (by rw [heap_setCell_same w7 X 2 _ 108 _ HBX7.out]; rfl) Tryz.underlying108 rfl (by rw [size95]; rfl) ?_)
 go_ret
 refine ⟨rfl, ?_⟩
 have hX : ∀ y ∈ [X], y ∈ [R] ∨ w.heap.size ≤ y := by intro y hy; simp at hy; rw [hy]; exact .inr HLX.out
 exact (((((((HSw1.out.mono (by simp)).trans HS2.out).trans HS3.out).trans' HS4.out hX).trans HS5.out).trans' HS6.out hX).trans HS7.out).setCell (p := ⟨X, 2, none⟩) (.inr HLX.out) _
theorem equal_ok {w : World} {s s' : Sl} {bs cs : List Nat} (h : Rd w s.p (byts bs)) (hl : bs.length = s.n) (ok : s.ok) (h' : Rd w s'.p (byts cs)) (hl' : cs.length = s'.n) (ok' : s'.ok) : Calls Tryz.prog 61 #[.slice s.p s.n s.c, .slice s'.p s'.n s'.c] w fun r w' => r = .returned (.bool ((strB bs).toList == (strB cs).toList)) ∧ w' = w := by
 have e1 := conv_bytes h hl ok
 have e2 := conv_bytes h' hl' ok'
 clear h hl ok h' hl' ok'
 go_enter Tryz.func61, Tryz.ntmps61
 go_wp2_with fail
 go_ret
 exact ⟨by first | rfl | simp, rfl⟩
theorem strB_data (bs : List Nat) : (strB bs).data.toList = bs.map UInt8.ofNat := by
 unfold strB
 have : ∀ (l : List Int) (r : ByteArray), (l.foldl (fun r n => r.push (UInt8.ofNat n.toNat)) r).data.toList = r.data.toList ++ l.map (fun n => UInt8.ofNat n.toNat) := by
  intro l
  induction l with
  | nil => intro r; simp
  | cons a l ih => intro r; rw [List.foldl_cons, ih, ByteArray.data_push]; simp
 rw [this]
 simp [List.map_map, Function.comp_def]
theorem map8_inj : ∀ {a b : List Nat}, (∀ x ∈ a, x < 256) → (∀ x ∈ b, x < 256) → a.map UInt8.ofNat = b.map UInt8.ofNat → a = b
 | [], [], _, _, _ => rfl
 | [], _ :: _, _, _, h => by simp at h
 | _ :: _, [], _, _, h => by simp at h
 | x :: a, y :: b, ha, hb, h => by
  simp only [List.map_cons, List.cons.injEq] at h
  have h1 : x = y := by
   have h2 := congrArg UInt8.toNat h.1
   rw [UInt8.toNat_ofNat', UInt8.toNat_ofNat'] at h2
   have h3 := ha x (by simp)
   have h4 := hb y (by simp)
   omega
  rw [h1, map8_inj (fun z hz => ha z (List.mem_cons_of_mem _ hz)) (fun z hz => hb z (List.mem_cons_of_mem _ hz)) h.2]
theorem strB_eq {a b : List Nat} (ha : ∀ x ∈ a, x < 256) (hb : ∀ x ∈ b, x < 256) : ((strB a).toList == (strB b).toList) = decide (a = b) := by
 rw [ByteArray.toList_eq, ByteArray.toList_eq, strB_data, strB_data]
 by_cases h : a = b
 ·simp [h]
 ·have : ¬ a.map UInt8.ofNat = b.map UInt8.ofNat := fun e => h (map8_inj ha hb e)
  simp only [h, decide_false, beq_eq_false_iff_ne, ne_eq]
  exact this
end Go.Proofs.YtdbeeikjngnnnaaGreat.ty
