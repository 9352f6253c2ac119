import Derived.Test.YtdbeeikjngnnnaaGreatC17
namespace Go.Proofs.YtdbeeikjngnnnaaGreat.ty
open Go.ChangeShapes Go.WideShapes Go.ChangeAt Go.RowKit
set_option linter.unusedVariables false
set_option linter.unusedSimpArgs false
set_option maxRecDepth 100000
set_option maxHeartbeats 8000000
/-! ### the document's tags -/
structure Tg where
 e : ByteArray
 a : Nat
 n : Nat
def isT (e : ByteArray) (a : Nat) (t : Tg) : Bool := decide (t.e = e) && t.a == a
def numT : List Tg → ByteArray → Nat → Nat
 | [], _, _ => 0
 | t :: r, e, a => if isT e a t = true then t.n else numT r e a
theorem isT_iff {e : ByteArray} {a : Nat} {t : Tg} : isT e a t = true ↔ t.e = e ∧ t.a = a := by
 unfold isT
 simp only [Bool.and_eq_true, decide_eq_true_eq, beq_iff_eq]
structure To (ts : List Tg) : Prop where
 ok : ∀ t ∈ ts, t.a < 8 ∧ 0 < t.n
 one : ts.Pairwise fun s t => ¬ (s.e = t.e ∧ s.a = t.a)
theorem numT_mem {ts : List Tg} (h : To ts) {t : Tg} (ht : t ∈ ts) : numT ts t.e t.a = t.n := by
 induction ts with
 | nil => simp at ht
 | cons s r ih =>
  obtain ⟨h1, h2⟩ := List.pairwise_cons.1 h.one
  unfold numT
  rcases List.mem_cons.1 ht with rfl | ht
  ·rw [if_pos (isT_iff.2 ⟨rfl, rfl⟩)]
  ·rw [if_neg (fun k => h1 t ht (isT_iff.1 k))]
   exact ih ⟨fun t ht => h.ok t (List.mem_cons_of_mem _ ht), h2⟩ ht
theorem numT_or (ts : List Tg) (e : ByteArray) (a : Nat) : (numT ts e a = 0 ∧ ∀ t ∈ ts, ¬ (t.e = e ∧ t.a = a)) ∨ ∃ t ∈ ts, t.e = e ∧ t.a = a ∧ numT ts e a = t.n := by
 induction ts with
 | nil => exact .inl ⟨rfl, by simp⟩
 | cons s r ih =>
  unfold numT
  by_cases h : isT e a s = true
  ·rw [if_pos h]
   exact .inr ⟨s, by simp, (isT_iff.1 h).1, (isT_iff.1 h).2, rfl⟩
  ·rw [if_neg h]
   rcases ih with ⟨h1, h2⟩ | ⟨t, ht, h1, h2, h3⟩
   ·refine .inl ⟨h1, fun t ht => ?_⟩
    rcases List.mem_cons.1 ht with rfl | ht
    ·exact fun k => h (isT_iff.2 k)
    ·exact h2 t ht
   ·exact .inr ⟨t, List.mem_cons_of_mem _ ht, h1, h2, h3⟩
theorem To.sub {ts : List Tg} (h : To ts) (p : Tg → Bool) : To (ts.filter p) := ⟨fun t ht => h.ok t (List.mem_filter.1 ht).1, h.one.filter _⟩
theorem numT_filter {ts : List Tg} (h : To ts) (p : Tg → Bool) (e : ByteArray) (a : Nat) : (numT (ts.filter p) e a = 0 ∧ ∀ t ∈ ts, t.e = e → t.a = a → p t = false) ∨ ∃ t ∈ ts, t.e = e ∧ t.a = a ∧ p t = true ∧ numT (ts.filter p) e a = t.n := by
 rcases numT_or (ts.filter p) e a with ⟨h1, h2⟩ | ⟨t, ht, h1, h2, h3⟩
 ·refine .inl ⟨h1, fun t ht h3 h4 => ?_⟩
  cases hp : p t
  ·rfl
  ·exact absurd ⟨h3, h4⟩ (h2 t (List.mem_filter.2 ⟨ht, hp⟩))
 ·exact .inr ⟨t, (List.mem_filter.1 ht).1, h1, h2, (List.mem_filter.1 ht).2, h3⟩
theorem numT_app (a b : List Tg) (e : ByteArray) (i : Nat) : numT (a ++ b) e i = if ∃ t ∈ a, t.e = e ∧ t.a = i then numT a e i else numT b e i := by
 induction a with
 | nil => simp
 | cons t r ih =>
  simp only [List.cons_append, numT]
  by_cases h : isT e i t = true
  ·rw [if_pos h, if_pos h, if_pos ⟨t, by simp, isT_iff.1 h⟩]
  ·rw [if_neg h, if_neg h, ih]
   by_cases h2 : ∃ t ∈ r, t.e = e ∧ t.a = i
   ·obtain ⟨s, hs, hk⟩ := h2
    rw [if_pos ⟨s, hs, hk⟩, if_pos ⟨s, List.mem_cons_of_mem _ hs, hk⟩]
   ·rw [if_neg h2, if_neg]
    rintro ⟨s, hs, hk⟩
    rcases List.mem_cons.1 hs with rfl | hs
    ·exact h (isT_iff.2 hk)
    ·exact h2 ⟨s, hs, hk⟩
/-! ### the document's value in memory -/
structure Rv where
 k : Nat
 u : List Int
 d : List Int
 c : List Int
 ts : List Tg
 st : Int
 ac : Int
 tx : ByteArray
def tgC (t : Tg) : List Value := [.string t.e, .int .i64 (t.a : Int), .int .i64 (t.n : Int)]
def tgL : List Tg → List Value
 | [] => []
 | t :: r => tgC t ++ tgL r
theorem tgL_len : ∀ l, (tgL l).length = l.length * 3
 | [] => rfl
 | t :: r => by simp only [tgL, List.length_append, tgL_len r, List.length_cons, tgC, List.length_nil]; omega
theorem tgL_app (a b : List Tg) : tgL (a ++ b) = tgL a ++ tgL b := by
 induction a with
 | nil => rfl
 | cons t r ih => simp [tgL, ih, List.append_assoc]
theorem tgL_at : ∀ (l : List Tg) {q j : Nat} {t : Tg}, l[q]? = some t → j < 3 → (tgL l)[q * 3 + j]? = (tgC t)[j]?
 | [], q, j, t, h, _ => by simp at h
 | x :: r, 0, j, t, h, hj => by
  obtain rfl : x = t := by simpa using h
  rw [Nat.zero_mul, Nat.zero_add, tgL, List.getElem?_append_left (by simpa [tgC] using hj)]
 | x :: r, q + 1, j, t, h, hj => by
  rw [List.getElem?_cons_succ] at h
  rw [tgL, List.getElem?_append_right (by simp [tgC]; omega)]
  have : (q + 1) * 3 + j - (tgC x).length = q * 3 + j := by simp [tgC]; omega
  rw [this]
  exact tgL_at r h hj
def dCells (r : Rv) (s : Sl) : List Value := .int .i64 (r.k : Int) :: (rv r.u ++ (rv r.d ++ (rv r.c ++ [.slice s.p s.n s.c, .int .i64 r.st, .int .i64 r.ac, .string r.tx])))
structure Dv (w : World) (O : Nat) (r : Rv) (s : Sl) : Prop where
 blk : w.heap[O]? = some (.cells (dCells r s).toArray 63 (0, 0))
 rd : Rd w s.p (tgL r.ts)
 len : s.n = r.ts.length
 ok : s.ok
 lu : r.u.length = 8
 ld : r.d.length = 8
 lc : r.c.length = 8
theorem Dv.kept0 {w w' : World} {O : Nat} {r : Rv} {s : Sl} (h : Dv w O r s) (a : Apart [] w w') : Dv w' O r s := ⟨keep0 a h.blk, h.rd.kept0 a, h.len, h.ok, h.lu, h.ld, h.lc⟩
theorem dcell {w : World} {X T i : Nat} {l : List Value} {v : Value} (h : w.heap[X]? = some (.cells l.toArray T (0, 0))) (hv : l[i]? = some v) : w.cell? ⟨X, i, none⟩ = some v := by
 rw [cell_of_row _ _ _ _ _ _ h]
 simpa using hv
theorem Dv.kind {w : World} {O : Nat} {r : Rv} {s : Sl} (h : Dv w O r s) : w.cell? ⟨O, 0, none⟩ = some (.int .i64 (r.k : Int)) := dcell h.blk rfl
theorem Dv.up {w : World} {O : Nat} {r : Rv} {s : Sl} (h : Dv w O r s) {i : Nat} (hi : i < 8) : w.cell? ⟨O, 1 + i, none⟩ = some (.int .i64 (r.u.getD i 0)) := by
 refine dcell h.blk ?_
 rw [Nat.add_comm]
 unfold dCells
 rw [List.getElem?_cons_succ, List.getElem?_append_left (by rw [rv_len, h.lu]; exact hi)]
 exact rv_at _ _ (by rw [h.lu]; exact hi)
theorem Dv.down {w : World} {O : Nat} {r : Rv} {s : Sl} (h : Dv w O r s) {i : Nat} (hi : i < 8) : w.cell? ⟨O, 9 + i, none⟩ = some (.int .i64 (r.d.getD i 0)) := by
 refine dcell h.blk ?_
 unfold dCells
 rw [show 9 + i = (8 + i) + 1 by omega, List.getElem?_cons_succ, List.getElem?_append_right (by rw [rv_len, h.lu]; omega), rv_len, h.lu, Nat.add_sub_cancel_left, List.getElem?_append_left (by rw [rv_len, h.ld]; exact hi)]
 exact rv_at _ _ (by rw [h.ld]; exact hi)
theorem Dv.count {w : World} {O : Nat} {r : Rv} {s : Sl} (h : Dv w O r s) {i : Nat} (hi : i < 8) : w.cell? ⟨O, 17 + i, none⟩ = some (.int .i64 (r.c.getD i 0)) := by
 refine dcell h.blk ?_
 unfold dCells
 rw [show 17 + i = (8 + (8 + i)) + 1 by omega, List.getElem?_cons_succ, List.getElem?_append_right (by rw [rv_len, h.lu]; omega), rv_len, h.lu, Nat.add_sub_cancel_left, List.getElem?_append_right (by rw [rv_len, h.ld]; omega), rv_len, h.ld, Nat.add_sub_cancel_left, List.getElem?_append_left (by rw [rv_len, h.lc]; exact hi)]
 exact rv_at _ _ (by rw [h.lc]; exact hi)
theorem Dv.rest {w : World} {O : Nat} {r : Rv} {s : Sl} (h : Dv w O r s) {i : Nat} {v : Value} (hv : [Value.slice s.p s.n s.c, .int .i64 r.st, .int .i64 r.ac, .string r.tx][i]? = some v) : w.cell? ⟨O, 25 + i, none⟩ = some v := by
 refine dcell h.blk ?_
 unfold dCells
 rw [show 25 + i = (8 + (8 + (8 + i))) + 1 by omega, List.getElem?_cons_succ, List.getElem?_append_right (by rw [rv_len, h.lu]; omega), rv_len, h.lu, Nat.add_sub_cancel_left, List.getElem?_append_right (by rw [rv_len, h.ld]; omega), rv_len, h.ld, Nat.add_sub_cancel_left, List.getElem?_append_right (by rw [rv_len, h.lc]; omega), rv_len, h.lc, Nat.add_sub_cancel_left]
 exact hv
theorem Dv.tags {w : World} {O : Nat} {r : Rv} {s : Sl} (h : Dv w O r s) : w.cell? ⟨O, 25, none⟩ = some (.slice s.p s.n s.c) := h.rest (i := 0) rfl
theorem Dv.tag {w : World} {O : Nat} {r : Rv} {s : Sl} (h : Dv w O r s) (h0 : 0 < r.ts.length) : ∃ A o, s.p = some ⟨A, o, none⟩ ∧ A < w.heap.size ∧ ∀ q t, r.ts[q]? = some t → w.cell? ⟨A, o + q * 3, none⟩ = some (.string t.e) ∧ w.cell? ⟨A, o + q * 3 + 1, none⟩ = some (.int .i64 (t.a : Int)) ∧ w.cell? ⟨A, o + q * 3 + 2, none⟩ = some (.int .i64 (t.n : Int)) := by
 obtain ⟨A, o, hp, hA, hc⟩ := h.rd (by rw [tgL_len]; omega)
 refine ⟨A, o, hp, hA, fun q t ht => ⟨?_, ?_, ?_⟩⟩
 ·have := hc (q * 3 + 0) _ (tgL_at r.ts ht (by omega : 0 < 3)); rwa [Nat.add_zero] at this
 ·have := hc (q * 3 + 1) _ (tgL_at r.ts ht (by omega : 1 < 3)); rwa [← Nat.add_assoc] at this
 ·have := hc (q * 3 + 2) _ (tgL_at r.ts ht (by omega : 2 < 3)); rwa [← Nat.add_assoc] at this
def natV : Value → Nat
 | .int _ i => i.toNat
 | _ => 0
theorem dnum_ok {w : World} {O : Nat} {r : Rv} {s : Sl} (h : Dv w O r s) (hl : r.ts.length ≤ 1000000) (e : ByteArray) (a : Nat) : Calls Tryz.prog 57 #[.pointer (some ⟨O, 0, none⟩), .string e, .int .i64 (a : Int)] w fun x w' => x = .returned (.int .i64 (numT r.ts e a : Int)) ∧ Apart [] w w' := by
 have HD := hid h
 obtain ⟨n, Hn⟩ : ∃ n, Hid (n = r.ts.length) := ⟨_, hid rfl⟩
 have hn6 : n ≤ 1000000 := by rw [Hn.out]; exact hl
 have zs := h.tags
 have hsn : s.n = n := by rw [Hn.out]; exact h.len
 rw [hsn] at zs
 have Hap := hid (Apart.refl [] w)
 obtain ⟨an, Han⟩ : ∃ b, Hid (b = numT r.ts e a) := ⟨_, hid rfl⟩
 rw [← Han.out]
 clear hsn hl h
 go_enter Tryz.func57, Tryz.ntmps57
 go_wp2_with fail
 go_loopw [7] (fun v7 wt => ∃ q : Nat, v7 = .int .i64 (q : Int) ∧ q ≤ n ∧ Hid (numT (r.ts.drop q) e a = an) ∧ Hid (wt = w)) (fun v7 _ => n - natV v7)
 case atStart => exact ⟨0, rfl, Nat.zero_le _, hid Han.out.symm, hid rfl⟩
 case round =>
  obtain ⟨q, rfl, hq, Hno, Hwr⟩ := hrel
  rw [Hwr.out]
  clear Hwr wr
  by_cases hlt : q < n
  ·have hlti : ((q : Nat) : Int) < ((n : Nat) : Int) := by omega
   obtain ⟨A, o, hsp, hA, hev⟩ := HD.out.tag (by have := Hn.out; omega)
   have Hev := hid hev
   rw [hsp] at zs
   clear hev hsp hA
   obtain ⟨t, Ht⟩ : ∃ t, Hid (r.ts[q]? = some t) := ⟨_, hid (List.getElem?_eq_getElem (by have := Hn.out; omega))⟩
   have Hdr : Hid (r.ts.drop q = t :: r.ts.drop (q + 1)) := hid (by
    have hql : q < r.ts.length := by have := Hn.out; omega
    rw [List.drop_eq_getElem_cons hql]
    have h1 := Ht.out
    rw [List.getElem?_eq_getElem hql] at h1
    rw [Option.some.inj h1])
   obtain ⟨z0, z1, z2⟩ := Hev.out q t Ht.out
   by_cases he : t.e = e
   ·have heb : (t.e.toList == e.toList) = true := by rw [he]; simp
    by_cases hta : t.a = a
    ·have htb : (((t.a : Nat) : Int) == ((a : Nat) : Int)) = true := by simp [hta]
     have Hans : Hid (an = t.n) := hid (by
      have h1 := Hno.out
      rw [Hdr.out, numT, if_pos (isT_iff.2 ⟨he, hta⟩)] at h1
      exact h1.symm)
     clear he hta
     go_wp2_with fail
     go_ret
     exact ⟨by rw [Hans.out]; rfl, Hap.out⟩
    ·have htb : (((t.a : Nat) : Int) == ((a : Nat) : Int)) = false := by simp only [beq_eq_false_iff_ne]; omega
     have Hnx : Hid (numT (r.ts.drop (q + 1)) e a = an) := hid (by
      have h1 := Hno.out
      rw [Hdr.out, numT, if_neg (fun k => hta (isT_iff.1 k).2)] at h1
      exact h1)
     clear he hta
     go_wp2_with fail
     exact ⟨⟨q + 1, by go_num, by omega, Hnx, hid (by first | exact trivial | rfl)⟩, by simp [natV]; omega⟩
   ·have heb : (t.e.toList == e.toList) = false := by
     rw [beq_eq_false_iff_ne]
     intro k
     rw [Lib.toList_data, Lib.toList_data] at k
     refine he ?_
     cases h1 : t.e with
     | mk x => cases h2 : e with
      | mk y => rw [h1, h2] at k; exact congrArg ByteArray.mk (Array.toList_inj.1 k)
    have Hnx : Hid (numT (r.ts.drop (q + 1)) e a = an) := hid (by
     have h1 := Hno.out
     rw [Hdr.out, numT, if_neg (fun k => he (isT_iff.1 k).1)] at h1
     exact h1)
    clear he
    go_wp2_with fail
    exact ⟨⟨q + 1, by go_num, by omega, Hnx, hid (by first | exact trivial | rfl)⟩, by simp [natV]; omega⟩
  ·have hlti : ¬ ((q : Nat) : Int) < ((n : Nat) : Int) := by omega
   have Hans : Hid (an = 0) := hid (by
    have h1 := Hno.out
    rw [List.drop_eq_nil_of_le (by have := Hn.out; omega)] at h1
    exact h1.symm)
   go_wp2_with fail
   go_ret
   exact ⟨by rw [Hans.out]; rfl, Hap.out⟩
def rv0 (k : Nat) : Rv := ⟨k, zr, zr, zr, [], 0, 0, ⟨#[]⟩⟩
theorem build63 (k : Nat) (W : World) : (Instr.build 63 #[(0, .int .i64 (k : Int))]).run Tryz.prog W = .ok (.agg (dCells (rv0 k) ⟨none, 0, 0⟩).toArray) W := by kernel_rfl
theorem ex_build63 {W : World} {eval : Operand → Value} {op : Oper} {k : Nat} (x : Operand) (ho : op.op = .build 63 #[(0, x)]) (hx : eval x = .int .i64 (k : Int)) : (execOp eval op).run Tryz.prog W = .ok (.value (.agg (dCells (rv0 k) ⟨none, 0, 0⟩).toArray)) W := by
 unfold execOp
 have e1 : (#[(0, x)] : Array (Nat × Operand)).map (fun (i, x) => (i, eval x)) = #[(0, .int .i64 (k : Int))] := by simp [hx]
 simp only [ho, e1, Sem.run_bind, build63 k W, Sem.run_pure, Result.andThen_ok]
theorem Dv.new (w : World) (k : Nat) : Dv (w.alloc (.cells (dCells (rv0 k) ⟨none, 0, 0⟩).toArray 63)) w.heap.size (rv0 k) ⟨none, 0, 0⟩ := ⟨heap_alloc_new w _, Rd.nil _ _, rfl, fun _ => ⟨rfl, rfl⟩, rfl, rfl, rfl⟩
theorem rnew_ok (w : World) (k : Nat) (h1 : 1 ≤ k) (h4 : k ≤ 4) : Calls Tryz.prog 19 #[.int .i64 (k : Int)] w fun r w' => ∃ O, r = .returned (.tuple #[.pointer (some ⟨O, 0, none⟩), .int .i64 0]) ∧ w.heap.size ≤ O ∧ Dv w' O (rv0 k) ⟨none, 0, 0⟩ ∧ Apart [] w w' := by
 have k1 : ¬ ((k : Nat) : Int) < 1 := by omega
 have k4 : ¬ ((k : Nat) : Int) > 4 := by omega
 have HN := hid (Dv.new w k)
 clear h1 h4
 go_enter Tryz.func19, Tryz.ntmps19
 go_wp2_with (refine wpL_val rfl (.agg (dCells (rv0 k) ⟨none, 0, 0⟩).toArray) (ex_build63 _ rfl rfl) ?_)
 go_ret2
 exact ⟨_, rfl, Nat.le_refl _, HN.out, (Apart.refl [] w).alloc _⟩
theorem rnew_no (w : World) (k : Int) (hk : ¬ (1 ≤ k ∧ k ≤ 4)) : Calls Tryz.prog 19 #[.int .i64 k] w fun r w' => r = .returned (.tuple #[.pointer none, .int .i64 1]) ∧ w' = w := by
 have hor : k < 1 ∨ (¬ k < 1 ∧ k > 4) := by omega
 clear hk
 go_enter Tryz.func19, Tryz.ntmps19
 rcases hor with h | ⟨h, h'⟩
 ·go_wp2_with fail
  go_ret2
  exact ⟨rfl, rfl⟩
 ·go_wp2_with fail
  go_ret2
  exact ⟨rfl, rfl⟩
def ronR (r : Rv) : Bool := r.k == 3 && decide (0 < r.ts.length)
theorem ron_ok {w : World} {O : Nat} {r : Rv} {s : Sl} (h : Dv w O r s) : Calls Tryz.prog 30 #[.pointer (some ⟨O, 0, none⟩)] w fun x w' => x = .returned (.bool (ronR r)) ∧ Apart [] w w' := by
 have zk := h.kind
 have zs := h.tags
 rw [h.len] at zs
 have Hap := hid (Apart.refl [] w)
 obtain ⟨an, Han⟩ : ∃ b, Hid (b = ronR r) := ⟨_, hid rfl⟩
 rw [← Han.out]
 obtain ⟨n, Hn⟩ : ∃ n, Hid (n = r.ts.length) := ⟨_, hid rfl⟩
 rw [← Hn.out] at zs
 obtain ⟨k, Hk⟩ : ∃ n, Hid (n = r.k) := ⟨_, hid rfl⟩
 rw [← Hk.out] at zk
 clear h
 by_cases h3 : k = 3
 ·have h3b : (((k : Nat) : Int) == 3) = true := by simp [h3]
  have Ha : Hid (an = decide (0 < n)) := hid (by rw [Han.out]; unfold ronR; rw [← Hk.out, ← Hn.out, h3]; simp)
  clear h3
  go_enter Tryz.func30, Tryz.ntmps30
  go_wp2_with fail
  go_ret
  exact ⟨by rw [Ha.out]; rfl, Hap.out⟩
 ·have h3b : (((k : Nat) : Int) == 3) = false := by simp only [beq_eq_false_iff_ne]; omega
  have Ha : Hid (an = false) := hid (by rw [Han.out]; unfold ronR; rw [← Hk.out]; simp [h3])
  clear h3
  go_enter Tryz.func30, Tryz.ntmps30
  go_wp2_with fail
  go_ret
  exact ⟨by rw [Ha.out]; rfl, Hap.out⟩
theorem rsum_ok {w : World} {O : Nat} {r : Rv} {s : Sl} (h : Dv w O r s) (hu : Wd r.u) (hd : Wd r.d) : Calls Tryz.prog 28 #[.pointer (some ⟨O, 0, none⟩)] w fun x w' => x = .returned (.int .i64 (sumC r.u r.d 8)) ∧ Apart [] w w' := by
 have HD := hid h
 have Hb := hid (fun n hn => sumC_in hu hd n hn)
 have Hu := hid (fun i hi => hu.at i hi)
 have Hd := hid (fun i hi => hd.at i hi)
 have Hap := hid (Apart.refl [] w)
 clear h hu hd
 go_enter Tryz.func28, Tryz.ntmps28
 go_wp2_with fail
 go_loopw [3, 4] (fun v3 v4 wt => ∃ i : Nat, v3 = .int .i64 (sumC r.u r.d i) ∧ v4 = .int .i64 (i : Int) ∧ i ≤ 8 ∧ Hid (Apart [] w wt)) (fun _ v4 _ => 8 - natV v4)
 case atStart => exact ⟨0, rfl, rfl, by omega, Hap⟩
 case round =>
  obtain ⟨i, rfl, rfl, hi, HA⟩ := hrel
  generalize wr = wt at *
  by_cases hlt : i < 8
  ·have hlti : ((i : Nat) : Int) < 8 := by omega
   have h8 : ¬ (8 : Int) ≤ (i : Int) := by omega
   have HDt := hid (HD.out.kept0 HA.out)
   have HOl := hid (lt_of_heap HDt.out.blk)
   have h1 := Hb.out i (by omega)
   have h2 := Hu.out i hlt
   have h3 := Hd.out i hlt
   have Hnx : Hid (sumC r.u r.d (i + 1) = sumC r.u r.d i + (r.u.getD i 0 - r.d.getD i 0)) := hid rfl
   have HZu := hid (HDt.out.up hlt)
   have HZd := hid (HDt.out.down hlt)
   obtain ⟨S, HS⟩ : ∃ S, Hid (S = sumC r.u r.d i) := ⟨_, hid rfl⟩
   obtain ⟨a, Ha⟩ : ∃ S, Hid (S = r.u.getD i 0) := ⟨_, hid rfl⟩
   obtain ⟨b, Hbb⟩ : ∃ S, Hid (S = r.d.getD i 0) := ⟨_, hid rfl⟩
   rw [← HS.out] at h1 Hnx ⊢
   rw [← Ha.out] at h2 Hnx HZu
   rw [← Hbb.out] at h3 Hnx HZd
   go_upto_region 5 with fail
   refine wp_region_held_drew (S := fun W => Apart [] wt W) (by kernel_rfl) (Apart.refl [] wt).drew fun hHeld => ?_
   generalize wt.drew = wd at *
   refine zt 0 9 ?_
   refine zt 1 10 ?_
   refine zt 2 11 ?_
   refine zt 3 12 ?_
   refine zt 4 13 ?_
   simp only [zA,zB,zC,zD,zF]
   refine tk 5 14 (.pointer (some ⟨O, 1 + i, none⟩)) rfl ?_ ?_
   ·intro W hSW; have h8 : ¬ (8 : Int) ≤ (i : Int) := (by omega); go_simp
   simp only [zA,zB,zC,zD,zF]
   refine tk 6 15 (.int .i64 a) rfl ?_ ?_
   ·intro W hSW; have z := (hSW.cell (p := ⟨O, 1 + i, none⟩) HOl.out (by simp)).trans HZu.out; go_simp
   refine zt 7 16 ?_
   refine zt 8 17 ?_
   refine zt 9 18 ?_
   refine zt 10 19 ?_
   simp only [zA,zB,zC,zD,zF]
   refine tk 11 20 (.pointer (some ⟨O, 9 + i, none⟩)) rfl ?_ ?_
   ·intro W hSW; have h8 : ¬ (8 : Int) ≤ (i : Int) := (by omega); go_simp
   simp only [zA,zB,zC,zD,zF]
   refine tk 12 21 (.int .i64 b) rfl ?_ ?_
   ·intro W hSW; have z := (hSW.cell (p := ⟨O, 9 + i, none⟩) HOl.out (by simp)).trans HZd.out; go_simp
   simp only [zA,zB,zC,zD,zF]
   refine tk 13 22 (.int .i64 (a - b)) rfl ?_ ?_
   ·intro W hSW; have h5 : IntKind.i64.wrap (a - b) = a - b := (by rw [IntKind.wrap_i64]; omega); go_simp
   simp only [zA,zB,zC,zD,zF]
   refine tk 14 23 (.int .i64 (S + (a - b))) rfl ?_ ?_
   ·intro W hSW; have h5 : IntKind.i64.wrap (S + (a - b)) = S + (a - b) := (by rw [IntKind.wrap_i64]; omega); go_simp
   refine zt 15 3 ?_
   simp only [zA,zB,zC,zD,zF]
   refine wpAnyH_done (by kernel_rfl) ?_ _
   have HSn := hid (HA.out.trans hHeld)
   clear hHeld
   go_wp2_with fail
   exact ⟨⟨i + 1, by rw [Hnx.out], by go_num, by omega, HSn⟩, by simp [natV]; omega⟩
  ·have hlti : ¬ ((i : Nat) : Int) < 8 := by omega
   obtain rfl : i = 8 := by omega
   go_wp2_with fail
   go_ret
   exact ⟨rfl, HA.out⟩
theorem div_step (n i : Nat) : n / 2 ^ (8 * i) / 256 = n / 2 ^ (8 * (i + 1)) := by
 rw [Nat.div_div_eq_div_mul, show 8 * (i + 1) = 8 * i + 8 by omega, Nat.pow_add]
theorem low_ok {w : World} {n size : Nat} (hn : n ≤ 4000000000000) (hs : size ≤ 6) : Calls Tryz.prog 60 #[.int .i64 (n : Int), .int .i64 (size : Int)] w fun r w' => ∃ s, r = .returned (.slice s.p s.n s.c) ∧ Bf w w' s (leB n size) := by
 have HB0 : Hid (Bf w w ⟨none, 0, 0⟩ []) := hid ⟨⟨World.ownsRow_nil _ _ _ _, by simp [Sl.v, Value.ownBlock], Apart.refl _ _⟩, rfl⟩
 have Hn := hid hn
 clear hn
 go_enter Tryz.func60, Tryz.ntmps60
 go_wp2_with fail
 go_loopw [0, 5, 6] (fun v0 v5 v6 wt => ∃ (i : Nat) (s : Sl), v0 = .int .i64 ((n / 2 ^ (8 * i) : Nat) : Int) ∧ v5 = .slice s.p s.n s.c ∧ v6 = .int .i64 (i : Int) ∧ i ≤ size ∧ Hid (Bf w wt s (leB n i))) (fun _ _ v6 _ => size - natV v6)
 case atStart => exact ⟨0, ⟨none, 0, 0⟩, by simp, rfl, rfl, Nat.zero_le _, HB0⟩
 case round =>
  clear HB0
  obtain ⟨i, s2, rfl, rfl, rfl, hi, HB⟩ := hrel
  generalize wr = wt at *
  by_cases hlt : i < size
  ·have hlti : ((i : Nat) : Int) < ((size : Nat) : Int) := by omega
   obtain ⟨m, Hm⟩ : ∃ m, Hid (m = n / 2 ^ (8 * i)) := ⟨_, hid rfl⟩
   have hm : m ≤ 4000000000000 := by rw [Hm.out]; exact Nat.le_trans (Nat.div_le_self _ _) Hn.out
   have Hnx : Hid (n / 2 ^ (8 * (i + 1)) = m / 256) := hid (by rw [Hm.out, div_step])
   have Hlb : Hid (leB n (i + 1) = leB n i ++ [m % 256]) := hid (by rw [Hm.out]; rfl)
   rw [← Hm.out]
   obtain ⟨s3, w3, hrun, hb3, hk3⟩ := app_byte HB.out (m % 256) (by rw [leB_len]; omega)
   have e5 : ((m % 256 : Nat) : Int) = (m : Int) % 256 := by rw [Int.natCast_emod]; rfl
   rw [e5] at hrun
   clear e5
   have HR := hid hrun
   have HB3 : Hid (Bf w w3 s3 (leB n (i + 1))) := hid (by rw [Hlb.out]; exact hb3)
   clear hrun hb3 hk3
   go_wp2_with (refine wpList_append3 rfl _ _ 29 rfl _ _ rfl rfl (.slice s3.p s3.n s3.c) w3 HR.out ?_)
   exact ⟨⟨i + 1, s3, by rw [Hnx.out, Int.natCast_ediv]; rfl, rfl, by go_num, by omega, HB3⟩, by simp [natV]; omega⟩
  ·have hlti : ¬ ((i : Nat) : Int) < ((size : Nat) : Int) := by omega
   obtain rfl : i = size := by omega
   go_wp2_with fail
   go_ret
   exact ⟨s2, rfl, HB.out⟩
/-! ### lists of strings -/
def sts (l : List ByteArray) : List Value := l.map Value.string
theorem sts_len (l : List ByteArray) : (sts l).length = l.length := by simp [sts]
theorem sts_app (a b : List ByteArray) : sts (a ++ b) = sts a ++ sts b := by simp [sts]
theorem sts_at (l : List ByteArray) (i : Nat) (h : i < l.length) : (sts l)[i]? = some (.string l[i]) := by simp [sts, h]
theorem sts_one {l : List ByteArray} : ∀ u ∈ sts l, u.oneCell' = true := by
 intro u hu
 simp only [sts, List.mem_map] at hu
 obtain ⟨x, _, rfl⟩ := hu
 rfl
theorem info9 : (Tryz.prog.info? 9).map (fun i => (i.zero, i.size, i.bytes)) = some (some (.string ⟨#[]⟩), 1, 16) := by kernel_rfl
theorem app_ss {w W : World} {s q : Sl} {us vs : List ByteArray} (h : Nw w W 9 1 s (sts us)) (hsn : s.n = us.length) (hq : Rd W q.p (sts vs)) (hql : q.n = vs.length) (hqo : q.ok) (hl : us.length + vs.length ≤ 1000000) :
  ∃ s' W', (Builtin.append_ #[65, 65] 65 #[.slice s.p s.n s.c, .slice q.p q.n q.c]).run Tryz.prog W = .ok (.slice s'.p s'.n s'.c) W' ∧ Nw w W' 9 1 s' (sts (us ++ vs)) ∧ s'.n = us.length + vs.length ∧ Apart s.v.ownBlock.toList W W' := by
 obtain ⟨i0, hi, hz0, hz1, hz2⟩ := info_of info9
 by_cases h0 : 0 < vs.length
 ·obtain ⟨P', o', e2, hb, hc⟩ := hq (by rw [sts_len]; exact h0)
  have hcs : ∀ j u, (sts vs)[j]? = some u → W.cell? ((⟨P', o', none⟩ : Addr).add j) = some u := fun j u hj => by rw [Addr.add_lit]; exact hc j u hj
  obtain ⟨s', W', hrun, r1, r2, r3, _⟩ := run_appS 65 65 9 i0 _ 1 16 Tryz.underlying65 hi hz0 hz1 hz2 rfl (by decide) h ⟨P', o', none⟩ vs.length q.c (sts vs) h0 (by rw [sts_len, Nat.mul_one]) hcs sts_one (by unfold maxLen; omega) (by omega)
  refine ⟨s', W', ?_, by rw [sts_app]; exact r1, by rw [r2, hsn], r3⟩
  rw [e2, hql]
  exact hrun
 ·obtain rfl : vs = [] := List.length_eq_zero_iff.1 (by omega)
  rw [List.append_nil]
  have hqn : q.n = 0 := hql
  obtain ⟨q1, q2, q3⟩ := q
  simp only at hqn
  subst hqn
  cases q1 with
  | none =>
   have := hqo rfl
   simp only at this
   obtain ⟨-, rfl⟩ := this
   exact ⟨s, W, run_append_owned_none (P := Tryz.prog) W 0 65 65 9 i0 1 Tryz.underlying65 hi s.v s.n (sts us) h.own, h, hsn, Apart.refl _ _⟩
  | some ad =>
   have h' := h
   obtain ⟨hxl, ⟨hv, hz⟩ | ⟨g, cap, cur, hv, hbb, hr, hle, hrest⟩⟩ := h.own
   ·obtain ⟨p, n, c⟩ := s
    simp only [Sl.v, Value.slice.injEq] at hv
    obtain ⟨rfl, rfl, rfl⟩ := hv
    have hbs : us = [] := List.length_eq_zero_iff.1 hsn.symm
    subst hbs
    obtain ⟨s', w', hrun, r1, r2⟩ := run_appNil W 65 65 9 i0 _ 1 16 Tryz.underlying65 hi hz0 hz1 hz2 rfl (by decide) ⟨some ad, 0, q3⟩ [] (Rd.nil _ _) rfl (by simp) (by simp) (by simp) hqo
    exact ⟨s', w', hrun, ⟨r1.own, fun k hk => Nat.le_trans h'.ap.size (r1.new k hk), h'.ap.trans r1.ap⟩, r2, by simpa [Sl.v, Value.ownBlock] using r1.ap⟩
   ·have how := h.own
    rw [hv] at how
    obtain ⟨w', hrun, r1, r2⟩ := run_append_own_spare (P := Tryz.prog) W 0 65 65 9 i0 1 Tryz.underlying65 hi hz1 g s.n cap (sts us) how ad 0 q3 [] rfl (by simp) (by simp) (by omega)
    rw [List.append_nil] at r1
    have ap := apart_grown r2
    refine ⟨s, w', ?_, ⟨by rw [hv]; exact r1, h.new, h.ap.trans' ap (fun y hy => ?_)⟩, hsn, ?_⟩
    ·have hv2 : Value.slice s.p s.n s.c = .slice (some ⟨g, 0, none⟩) s.n cap := hv
     rw [hv2]; exact hrun
    ·simp at hy; subst hy; exact .inr (h.new _ (by rw [hv]; rfl))
    ·rw [hv]; exact ap
/-! ### insertion by order -/
def bel (x : ByteArray) : List ByteArray → Nat
 | [] => 0
 | y :: r => if bl y x = true then bel x r + 1 else 0
theorem bel_le (x : ByteArray) : ∀ l, bel x l ≤ l.length
 | [] => Nat.le_refl _
 | y :: r => by have := bel_le x r; unfold bel; split <;> simp <;> omega
theorem bel_lt (x : ByteArray) : ∀ (l : List ByteArray) (i : Nat) (hi : i < l.length), i < bel x l → bl l[i] x = true
 | y :: r, 0, hi, h => by
  unfold bel at h
  by_cases hy : bl y x = true
  ·simpa using hy
  ·rw [if_neg hy] at h; omega
 | y :: r, i + 1, hi, h => by
  unfold bel at h
  by_cases hy : bl y x = true
  ·rw [if_pos hy] at h
   simpa using bel_lt x r i (by simpa using hi) (by omega)
  ·rw [if_neg hy] at h; omega
theorem bel_ge (x : ByteArray) : ∀ (l : List ByteArray) (hi : bel x l < l.length), bl (l[bel x l]'hi) x = false
 | [], hi => by simp at hi
 | y :: r, hi => by
  by_cases hy : bl y x = true
  ·have e : bel x (y :: r) = bel x r + 1 := by rw [bel, if_pos hy]
   have hi2 : bel x r < r.length := by rw [e] at hi; simpa using hi
   have h1 := bel_ge x r hi2
   simp only [e, List.getElem_cons_succ]
   exact h1
  ·have e : bel x (y :: r) = 0 := by rw [bel, if_neg hy]
   simp only [e, List.getElem_cons_zero]
   simpa using hy
def insS (x : ByteArray) (l : List ByteArray) : List ByteArray := if l[bel x l]? = some x then l else l.take (bel x l) ++ x :: l.drop (bel x l)
def elsT : List Tg → List ByteArray → List ByteArray
 | [], l => l
 | t :: r, l => elsT r (insS t.e l)
theorem insS_mem (x : ByteArray) (l : List ByteArray) (y : ByteArray) : y ∈ insS x l ↔ y = x ∨ y ∈ l := by
 unfold insS
 split
 ·rename_i h
  have h1 := List.mem_of_getElem? h
  exact ⟨.inr, fun k => k.elim (fun e => e ▸ h1) id⟩
 ·have e : y ∈ l ↔ y ∈ l.take (bel x l) ∨ y ∈ l.drop (bel x l) := by
   rw [← List.mem_append, List.take_append_drop]
  rw [List.mem_append, List.mem_cons, e]
  constructor
  ·rintro (h | h | h)
   ·exact .inr (.inl h)
   ·exact .inl h
   ·exact .inr (.inr h)
  ·rintro (h | h | h)
   ·exact .inr (.inl h)
   ·exact .inl h
   ·exact .inr (.inr h)
theorem elsT_mem : ∀ (ts : List Tg) (l : List ByteArray) (y : ByteArray), y ∈ elsT ts l ↔ y ∈ l ∨ ∃ t ∈ ts, t.e = y
 | [], l, y => by simp [elsT]
 | t :: r, l, y => by
  rw [elsT, elsT_mem r, insS_mem]
  simp only [List.mem_cons, exists_eq_or_imp]
  constructor
  ·rintro ((h | h) | h)
   ·exact .inr (.inl h.symm)
   ·exact .inl h
   ·exact .inr (.inr h)
  ·rintro (h | h | h)
   ·exact .inl (.inr h)
   ·exact .inl (.inl h.symm)
   ·exact .inr h
end Go.Proofs.YtdbeeikjngnnnaaGreat.ty
