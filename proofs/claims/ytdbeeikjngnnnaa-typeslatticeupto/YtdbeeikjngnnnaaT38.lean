import Derived.Test.YtdbeeikjngnnnaaT30
namespace Go.Proofs.Ytdbeeikjngnnnaa.ty
open Go.ChangeShapes Go.WideShapes Go.ChangeAt Go.RowKit
set_option linter.unusedVariables false
set_option linter.unusedSimpArgs false
/-- a reader in memory, over bytes that lie in wB -/
structure Rr (wB w : World) (R : Nat) (s : Sl) (us : List Nat) : Prop where
  blk : w.heap[R]? = some (.cells #[.slice s.p s.n s.c] 68 (0, 0))
  new : wB.heap.size ≤ R
  ap : Apart [] wB w
  rd : Rd wB s.p (byts us)
  len : us.length = s.n
  cap : s.n ≤ s.c
  ok : s.ok
  u8 : ∀ x ∈ us, x < 256
theorem Rr.kept0 {wB w w' : World} {R : Nat} {s : Sl} {us : List Nat} (h : Rr wB w R s us) (a : Apart [] w w') : Rr wB w' R s us := ⟨keep0 a h.blk, h.new, h.ap.trans a, h.rd, h.len, h.cap, h.ok, h.u8⟩
theorem Rr.cell {wB w : World} {R : Nat} {s : Sl} {us : List Nat} (h : Rr wB w R s us) : w.cell? ⟨R, 0, none⟩ = some (.slice s.p s.n s.c) := by rw [cell_of_row _ _ _ _ _ _ h.blk]; rfl
def Sl.preB (s : Sl) (k : Nat) : Sl := ⟨if s.c = 0 then s.p else s.p.map (·.add (0 * 1)), k, s.c⟩
def Sl.postB (s : Sl) (k : Nat) : Sl := ⟨if s.c = k then s.p else s.p.map (·.add (k * 1)), s.n - k, s.c - k⟩
theorem sz5 (W : World) : (sizeOf 5).run Try.prog W = .ok 1 W := by kernel_rfl
theorem el22 : Try.prog.elem 22 = 5 := by kernel_rfl
theorem ul22 : Try.prog.underlying 22 = some (.slice (Try.prog.elem 22)) := by rw [el22]; exact Try.underlying22
theorem ex_preB {W : World} {eval : Operand → Value} {op : Oper} (s : Sl) (k : Nat) (x y : Operand) (ho : op.op = .slice 22 x none (some y) none) (hx : eval x = .slice s.p s.n s.c) (hy : eval y = .int .i64 (k : Int)) (hk : k ≤ s.c) : (execOp eval op).run Try.prog W = .ok (.value (.slice (s.preB k).p (s.preB k).n (s.preB k).c)) W := by
  unfold execOp
  simp only [ho, hx, Option.map_some, Option.map_none, hy, Sem.run_bind, run_sliceAt_slice W 22 _ _ _ _ ul22, run_slice_h W 22 s.p s.n s.c ul22 .i64 (k : Int) (by omega) (by omega), el22, sz5, Result.andThen_ok, Sem.run_pure]
  simp [sliced, Sl.preB]
theorem ex_postB {W : World} {eval : Operand → Value} {op : Oper} (s : Sl) (k : Nat) (x y : Operand) (ho : op.op = .slice 22 x (some y) none none) (hx : eval x = .slice s.p s.n s.c) (hy : eval y = .int .i64 (k : Int)) (hk : k ≤ s.n) : (execOp eval op).run Try.prog W = .ok (.value (.slice (s.postB k).p (s.postB k).n (s.postB k).c)) W := by
  unfold execOp
  simp only [ho, hx, Option.map_some, Option.map_none, hy, Sem.run_bind, run_sliceAt_slice W 22 _ _ _ _ ul22, run_slice_l W 22 s.p s.n s.c ul22 .i64 (k : Int) (by omega) (by omega), el22, sz5, Result.andThen_ok, Sem.run_pure]
  simp [sliced, Sl.postB]
theorem byts_len (us : List Nat) : (byts us).length = us.length := by simp [byts]
theorem Rd.preB {w : World} {s : Sl} {us : List Nat} (h : Rd w s.p (byts us)) (k : Nat) : Rd w (s.preB k).p (byts (us.take k)) := by
  intro h0
  have e : byts us = byts (us.take k) ++ byts (us.drop k) := by rw [← byts_app, List.take_append_drop]
  obtain ⟨P, o, e1, hb, hc⟩ := h (by rw [e, List.length_append]; omega)
  refine ⟨P, o, ?_, hb, fun j u hj => hc j u ?_⟩
  · simp only [Sl.preB, e1, Option.map_some, Addr.add_lit, Nat.zero_mul, Nat.add_zero, ite_self]
  · rw [e, List.getElem?_append_left (by have := (List.getElem?_eq_some_iff.1 hj).1; exact this)]; exact hj
theorem Rd.postB {w : World} {s : Sl} {us : List Nat} (h : Rd w s.p (byts us)) (hl : us.length = s.n) (hc' : s.n ≤ s.c) {k : Nat} (hk : k ≤ us.length) : Rd w (s.postB k).p (byts (us.drop k)) := by
  intro h0
  have e : byts us = byts (us.take k) ++ byts (us.drop k) := by rw [← byts_app, List.take_append_drop]
  have ht : (byts (us.take k)).length = k := by rw [byts_len, List.length_take]; omega
  rw [byts_len, List.length_drop] at h0
  obtain ⟨P, o, e1, hb, hc⟩ := h (by rw [byts_len]; omega)
  refine ⟨P, o + k, ?_, hb, fun j u hj => ?_⟩
  · simp only [Sl.postB, e1, Option.map_some, Addr.add_lit, Nat.mul_one]
    rw [if_neg (by omega)]
  · rw [Nat.add_assoc]
    refine hc _ _ ?_
    rw [e, List.getElem?_append_right (by omega), ht, show k + j - k = j from by omega]
    exact hj
theorem Sl.preB_ok {s : Sl} (h : s.ok) {k : Nat} (hk : k ≤ s.n) : (s.preB k).ok := by
  intro hp
  have hn : s.p = none := by
    simp only [Sl.preB] at hp
    split at hp
    · exact hp
    · simpa using hp
  have h1 := h hn
  exact ⟨by show k = 0; omega, h1.2⟩
theorem Sl.postB_ok {s : Sl} (h : s.ok) (k : Nat) : (s.postB k).ok := by
  intro hp
  have hn : s.p = none := by
    simp only [Sl.postB] at hp
    split at hp
    · exact hp
    · simpa using hp
  have h1 := h hn
  exact ⟨by show s.n - k = 0; omega, by show s.c - k = 0; omega⟩
/-- bytes that were read: they lie in wB -/
structure Pt (wB : World) (s : Sl) (us : List Nat) : Prop where
  rd : Rd wB s.p (byts us)
  len : us.length = s.n
  ok : s.ok
  u8 : ∀ x ∈ us, x < 256
set_option maxRecDepth 100000 in
theorem next_ok {wB w : World} {R : Nat} {s : Sl} {us : List Nat} (h : Rr wB w R s us) (hl : us.length ≤ 1000000) (n : Nat) (hn : n ≤ 1000000) : Calls Try.prog 83 #[.pointer (some ⟨R, 0, none⟩), .int .i64 (n : Int)] w fun r w' => ∃ a : Sl, r = .returned (.slice a.p a.n a.c) ∧ Pt wB a (us.take n) ∧ ∃ b, Rr wB w' R b (us.drop n) ∧ Apart [R] w w' := by
  have HR := hid h
  have Hl := hid hl
  obtain ⟨k, hk⟩ : ∃ k, k = min n s.n := ⟨_, rfl⟩
  have hkn : k ≤ s.n := by omega
  have hkc : k ≤ s.c := Nat.le_trans hkn h.cap
  have hk6 : k ≤ 1000000 := by omega
  have hmin : min ((n : Nat) : Int) ((s.n : Nat) : Int) = ((k : Nat) : Int) := by omega
  have Htk : Hid (us.take n = us.take k) := hid (by rw [hk, ← h.len, List.take_eq_take_iff]; omega)
  have Hdr : Hid (us.drop n = us.drop k) := hid (by
    rw [hk, ← h.len]
    rcases Nat.le_total n us.length with h1 | h1
    · rw [Nat.min_eq_left h1]
    · rw [Nat.min_eq_right h1, List.drop_eq_nil_of_le h1, List.drop_eq_nil_of_le (Nat.le_refl _)])
  clear h hl hk
  have z := HR.out.cell
  have f0 := frozen_of_row _ _ 0 _ _ HR.out.blk
  go_enter Try.func83, Try.ntmps83
  go_wp2_with (first
    | refine wpL_val rfl (.slice (s.preB k).p (s.preB k).n (s.preB k).c) (ex_preB s k _ _ rfl rfl rfl hkc) ?_
    | refine wpL_val rfl (.slice (s.postB k).p (s.postB k).n (s.postB k).c) (ex_postB s k _ _ rfl rfl rfl hkn) ?_)
  go_ret
  refine ⟨s.preB k, rfl, ?_, s.postB k, ?_, ?_⟩
  · rw [Htk.out]
    exact ⟨Rd.preB HR.out.rd k, by rw [List.length_take, HR.out.len]; show min k s.n = k; omega, Sl.preB_ok HR.out.ok hkn, fun x hx => HR.out.u8 x (List.mem_of_mem_take hx)⟩
  · rw [Hdr.out]
    have hc := HR.out.cap
    refine ⟨?_, HR.out.new, HR.out.ap.setCell (.inr HR.out.new) _, Rd.postB HR.out.rd HR.out.len HR.out.cap (by rw [HR.out.len]; exact hkn), by rw [List.length_drop, HR.out.len]; rfl, by show s.n - k ≤ s.c - k; omega, Sl.postB_ok HR.out.ok k, fun x hx => HR.out.u8 x (List.mem_of_mem_drop hx)⟩
    rw [heap_setCell_same _ _ _ _ _ _ HR.out.blk]
    rfl
  · exact (Apart.refl [R] w).setCell (p := ⟨R, 0, none⟩) (.inl (by simp)) _
/-- a number out of its bytes, the least first -/
def leV : List Nat → Nat
  | [] => 0
  | x :: r => x + 256 * leV r
theorem leV_snoc (l : List Nat) (x : Nat) : leV (l ++ [x]) = leV l + x * 2 ^ (8 * l.length) := by
  induction l with
  | nil => simp [leV]
  | cons y r ih =>
    rw [List.cons_append, leV, ih, leV, List.length_cons, Nat.mul_succ, Nat.pow_add, Nat.mul_add, Nat.mul_comm (2 ^ (8 * r.length)) (2 ^ 8)]
    have : (2 : Nat) ^ 8 = 256 := by decide
    rw [this, Nat.mul_left_comm x 256]
    omega
theorem leV_lt {l : List Nat} (h : ∀ x ∈ l, x < 256) : leV l < 2 ^ (8 * l.length) := by
  induction l with
  | nil => simp [leV]
  | cons y r ih =>
    have h1 := ih (fun x hx => h x (List.mem_cons_of_mem _ hx))
    have h2 := h y (by simp)
    rw [leV, List.length_cons, Nat.mul_succ, Nat.pow_add]
    have : (2 : Nat) ^ 8 = 256 := by decide
    rw [this]
    omega
theorem or_add (a x i : Nat) (h : a < 2 ^ i) : a ||| (x * 2 ^ i) = a + x * 2 ^ i := by
  rw [Nat.or_comm, Nat.mul_comm x, ← Nat.two_pow_add_eq_or_of_lt h, Nat.add_comm]
set_option maxHeartbeats 1000000 in
set_option maxRecDepth 100000 in
theorem number_ok {wB w : World} {R : Nat} {s : Sl} {us : List Nat} (h : Rr wB w R s us) (hl : us.length ≤ 1000000) (n : Nat) (hn : n ≤ 6) : Calls Try.prog 65 #[.pointer (some ⟨R, 0, none⟩), .int .i64 (n : Int)] w fun r w' => r = .returned (.int .i64 ((leV (us.take n) : Nat) : Int)) ∧ (∃ b, Rr wB w' R b (us.drop n)) ∧ Apart [R] w w' := by
  have HC := hid (next_ok h hl n (by omega))
  have HT : Hid ((us.take n).length ≤ 6) := hid (by rw [List.length_take]; omega)
  clear h hl
  go_enter Try.func65, Try.ntmps65
  go_wp2_with (go_at_call 83; refine HC.out.mono ?_; rintro _ w1 ⟨a, rfl, p1, b, r1, a1⟩; have HP := hid p1; have HR := hid r1; have HA := hid a1; clear p1 r1 a1)
  obtain ⟨ps, Hps⟩ : ∃ ps, Hid (ps = us.take n) := ⟨_, hid rfl⟩
  rw [← Hps.out] at HP HT
  obtain ⟨N, HN⟩ : ∃ N, Hid (N = ps.length) := ⟨_, hid rfl⟩
  have han : a.n = N := by rw [HN.out]; exact HP.out.len.symm
  have hN6 : N ≤ 6 := by rw [HN.out]; exact HT.out
  rw [han]
  go_loopw [5, 12] (fun x v wt => ∃ i m : Nat, v = .int .i64 (i : Nat) ∧ i ≤ N ∧ w1 = wt ∧ x = .int .i64 (m : Nat) ∧ Hid (m = leV (ps.take i))) (fun _ v _ => N - (intOf v).toNat)
  case atStart => exact ⟨0, 0, rfl, Nat.zero_le _, rfl, rfl, hid rfl⟩
  case round =>
    obtain ⟨i, m, rfl, hi, rfl, rfl, Hm⟩ := hrel
    by_cases hlt : i < N
    · have hlti : ((i : Nat) : Int) < ((N : Nat) : Int) := by omega
      have Hil : Hid (i < ps.length) := hid (by rw [← HN.out]; exact hlt)
      obtain ⟨P, o, hp, hP, hc⟩ := (HP.out.rd.kept0 HR.out.ap) (by rw [byts_len]; have := Hil.out; omega)
      have z : w1.cell? ⟨P, o + i, none⟩ = some (.int .u8 (((ps[i]'Hil.out) : Nat) : Int)) := hc i _ (by simp [byts, Hil.out])
      obtain ⟨y, Hy⟩ : ∃ y, Hid (y = ps[i]'Hil.out) := ⟨_, hid rfl⟩
      rw [← Hy.out] at z
      have hy8 : y < 256 := by rw [Hy.out]; exact HP.out.u8 _ (List.getElem_mem _)
      have Hst : Hid (leV (ps.take (i + 1)) = leV (ps.take i) + y * 2 ^ (8 * i)) := hid (by
        rw [List.take_succ_eq_append_getElem Hil.out, leV_snoc, ← Hy.out, List.length_take, Nat.min_eq_left (by have := Hil.out; omega)])
      have Hml : Hid (m < 2 ^ (8 * i)) := hid (by
        rw [Hm.out]
        have h1 := leV_lt (l := ps.take i) (fun x hx => HP.out.u8 x (List.mem_of_mem_take hx))
        rwa [List.length_take, Nat.min_eq_left (by have := Hil.out; omega)] at h1)
      rw [hp]
      clear hp hP hc
      have h8 : wrap64 (8 * (i : Int)) = ((8 * i : Nat) : Int) := by rw [IntWalk.wrap64_in _ (by omega)]; omega
      have Hsh : Hid (y * 2 ^ (8 * i) < 2 ^ 48 ∧ m < 2 ^ 48) := hid (by
        have h1 : 2 ^ (8 * i) ≤ 2 ^ 40 := Nat.pow_le_pow_right (by omega) (by omega)
        have h2 := Hml.out
        have h3 : y * 2 ^ (8 * i) ≤ 255 * 2 ^ 40 := Nat.mul_le_mul (by omega) h1
        exact ⟨by omega, by omega⟩)
      have Hor : Hid (bits .or .i64 (m : Int) (wrap64 ((y : Int) * 2 ^ (8 * i))) = ((m + y * 2 ^ (8 * i) : Nat) : Int)) := hid (by
        have e : ((y : Int) * 2 ^ (8 * i)) = ((y * 2 ^ (8 * i) : Nat) : Int) := by rw [Int.natCast_mul, Int.natCast_pow]; rfl
        rw [e, IntWalk.wrap64_in _ (by have := Hsh.out; omega), i64_or_nat _ _ (by have := Hsh.out; omega) (by have := Hsh.out; omega), or_add _ _ _ Hml.out])
      go_wp2_with fail
      rw [Hor.out]
      refine ⟨⟨i + 1, m + y * 2 ^ (8 * i), by go_num, by omega, by first | rfl | trivial, rfl, hid (by rw [Hst.out, Hm.out])⟩, by simp [intOf]; omega⟩
    · have hlti : ¬ ((i : Nat) : Int) < ((N : Nat) : Int) := by omega
      obtain rfl : N = i := by omega
      have He : Hid (ps.take N = ps) := hid (List.take_of_length_le (by rw [← HN.out]; exact Nat.le_refl _))
      rw [He.out] at Hm
      go_wp2_with fail
      go_ret
      exact ⟨by rw [← Hps.out, ← Hm.out]; rfl, ⟨b, HR.out⟩, HA.out⟩
end Go.Proofs.Ytdbeeikjngnnnaa.ty
