import Derived.Test.YtdbeeikjngnnnaaG19
import Derived.Lib.SlBytesConst
namespace Go.Proofs.Ytdbeeikjngnnnaa.ty
open Go.ChangeShapes Go.WideShapes Go.ChangeAt Go.RowKit
set_option linter.unusedVariables false
set_option linter.unusedSimpArgs false
theorem rd_new (w : World) (x : Nat) (m : Nat × Nat) : Rd (w.alloc (.cells #[.int .u8 (x : Int)] 5 m)) (some ⟨w.heap.size, 0, none⟩) (byts [x]) := by
  intro _
  have hh : (w.alloc (.cells #[.int .u8 (x : Int)] 5 m)).heap[w.heap.size]? = some (.cells #[.int .u8 (x : Int)] 5 m) := heap_alloc_new w _
  refine ⟨w.heap.size, 0, rfl, lt_of_heapM hh, fun j v hj => ?_⟩
  have hj0 : j = 0 := by
    have := (List.getElem?_eq_some_iff.1 hj).1
    simp [byts] at this
    exact this
  subst hj0
  simp [byts] at hj
  subst hj
  unfold World.cell?
  simp only [hh]
  rfl
theorem Add_t {w : World} {V : Nat} {v v' : Vl} {a b x : Int} (hV : Ho w V v) (ok : Ok v) (e : addR v a b = (x, v')) : Calls Try.prog 15 #[.pointer (some ⟨V, 0, none⟩), .int .i64 a, .int .i64 b] w fun r w' => r = .returned (.int .i64 x) ∧ Ho w' V v' ∧ Apart [V] w w' := by
  have := Add_v hV ok a b
  rw [e] at this
  exact this
theorem Put_t {w : World} {V : Nat} {v v' : Vl} {a x : Int} {c : Nat} {y : Int} {m : Nat × Nat} (hy : y = (c : Int)) (hV : Ho w V v) (ok : Ok v) (e : putR v a [c] = (x, v')) : Calls Try.prog 17 #[.pointer (some ⟨V, 0, none⟩), .int .i64 a, .slice (some ⟨w.heap.size, 0, none⟩) 1 1] (w.alloc (.cells #[.int .u8 y] 5 m)) fun r w' => r = .returned (.int .i64 x) ∧ Ho w' V v' ∧ Apart [V] w w' := by
  subst hy
  have a1 : Apart [] w (w.alloc (.cells #[.int .u8 (c : Int)] 5 m)) := (Apart.refl [] w).alloc _
  have := Put_v (hV.kept0 a1) ok a (sl := ⟨some ⟨w.heap.size, 0, none⟩, 1, 1⟩) (rd_new w c m) rfl (fun e => by cases e)
  rw [e] at this
  refine this.mono ?_
  rintro _ w' ⟨rfl, h, a2⟩
  exact ⟨rfl, h, (a1.mono (by simp)).trans a2⟩
theorem Switch_t {w : World} {V : Nat} {v v' : Vl} {a x : Int} {b : Bool} (hV : Ho w V v) (ok : Ok v) (e : switchR v a b = (x, v')) : Calls Try.prog 18 #[.pointer (some ⟨V, 0, none⟩), .int .i64 a, .bool b] w fun r w' => r = .returned (.int .i64 x) ∧ Ho w' V v' ∧ Apart [V] w w' := by
  have := Switch_v hV ok a b
  rw [e] at this
  exact this
theorem Write_t {w : World} {V : Nat} {v v' : Vl} {a x : Int} {c : Nat} {y : Int} {m : Nat × Nat} (hy : y = (c : Int)) (hV : Ho w V v) (ok : Ok v) (e : writeR v a [c] = (x, v')) : Calls Try.prog 19 #[.pointer (some ⟨V, 0, none⟩), .int .i64 a, .slice (some ⟨w.heap.size, 0, none⟩) 1 1] (w.alloc (.cells #[.int .u8 y] 5 m)) fun r w' => r = .returned (.int .i64 x) ∧ Ho w' V v' ∧ Apart [V] w w' := by
  subst hy
  have a1 : Apart [] w (w.alloc (.cells #[.int .u8 (c : Int)] 5 m)) := (Apart.refl [] w).alloc _
  have := Write_v (hV.kept0 a1) ok a (sl := ⟨some ⟨w.heap.size, 0, none⟩, 1, 1⟩) (rd_new w c m) rfl (fun e => by cases e)
  rw [e] at this
  refine this.mono ?_
  rintro _ w' ⟨rfl, h, a2⟩
  exact ⟨rfl, h, (a1.mono (by simp)).trans a2⟩
theorem Take_t {w : World} {V : Nat} {v v' : Vl} {x : Int} {c : Nat} {y : Int} {m : Nat × Nat} (hy : y = (c : Int)) (hV : Ho w V v) (ok : Ok v) (e : takeR v [c] = (x, v')) : Calls Try.prog 20 #[.pointer (some ⟨V, 0, none⟩), .slice (some ⟨w.heap.size, 0, none⟩) 1 1] (w.alloc (.cells #[.int .u8 y] 5 m)) fun r w' => r = .returned (.int .i64 x) ∧ Ho w' V v' ∧ Apart [V] w w' := by
  subst hy
  have a1 : Apart [] w (w.alloc (.cells #[.int .u8 (c : Int)] 5 m)) := (Apart.refl [] w).alloc _
  have := Take_v (hV.kept0 a1) ok (sl := ⟨some ⟨w.heap.size, 0, none⟩, 1, 1⟩) (rd_new w c m) rfl (fun e => by cases e)
  rw [e] at this
  refine this.mono ?_
  rintro _ w' ⟨rfl, h, a2⟩
  exact ⟨rfl, h, (a1.mono (by simp)).trans a2⟩
def wn (k j : Nat) (g : Bool) : Int := if k ≠ j then 190 else if g then 0 else 191
theorem wanted_t (w : World) (k j : Nat) (g : Bool) : Calls Try.prog 16 #[.int .i64 (k : Int), .int .i64 (j : Int), .bool g] w fun r w' => r = .returned (.int .i64 (wn k j g)) ∧ w' = w := by
  have := wanted_ok w (k : Int) (j : Int) g
  have e : (if (k : Int) ≠ (j : Int) then (190 : Int) else if g then 0 else 191) = wn k j g := by
    unfold wn
    by_cases h : k = j
    · simp [h]
    · have h2 : (k : Int) ≠ (j : Int) := by omega
      rw [if_pos h2, if_pos h]
  rw [e] at this
  exact this
/-- what becomes of a new value of the type k -/
structure Tab (k : Nat) (g : Bool) (a : Int) (v1 v2 v3 v4 v5 : Vl) : Prop where
  e1 : addR (new0 k) a 3 = (wn k 1 g, v1)
  o1 : Ok v1
  e2 : putR v1 a [101] = (wn k 2 g, v2)
  o2 : Ok v2
  e3 : switchR v2 a true = (wn k 3 g, v3)
  o3 : Ok v3
  e4 : writeR v3 a [116] = (wn k 4 g, v4)
  o4 : Ok v4
  e5 : takeR v4 [120] = (if k = 2 then 0 else 190, v5)
  o5 : Ok v5
  sm : sumR v5 = if k = 1 ∧ g = true then 3 else 0
  el : (elsR v5).length = if k = 2 ∧ g = true then 1 else 0
  on : onR v5 = (decide (k = 3) && g)
  tx : textR v5 = if k = 4 ∧ g = true then [116] else []
theorem bsk_nil : bsk ⟨#[]⟩ = [] := by
  unfold bsk
  rw [ByteArray.toList_eq]
  rfl
theorem tab_bad {k : Nat} (h1 : 1 ≤ k) (h4 : k ≤ 4) {a : Int} (ha : isA a = false) : Tab k false a (new0 k) (new0 k) (new0 k) (new0 k) (new0 k) := by
  have ok := new0_ok k
  obtain rfl | rfl | rfl | rfl : k = 1 ∨ k = 2 ∨ k = 3 ∨ k = 4 := by omega
  · exact ⟨by simp [addR, new0, ha, wn], ok, by simp [putR, new0, wn], ok, by simp [switchR, new0, wn], ok, by simp [writeR, new0, wn], ok, by simp [takeR, new0], ok, by rfl, rfl, rfl, rfl⟩
  · exact ⟨by simp [addR, new0, ha, wn], ok, by simp [putR, new0, ha, wn], ok, by simp [switchR, new0, wn], ok, by simp [writeR, new0, wn], ok, by simp [takeR, new0, lo, hi], ok, by rfl, rfl, rfl, rfl⟩
  · exact ⟨by simp [addR, new0, ha, wn], ok, by simp [putR, new0, ha, wn], ok, by simp [switchR, new0, ha, wn], ok, by simp [writeR, new0, wn], ok, by simp [takeR, new0], ok, by rfl, rfl, by decide, rfl⟩
  · exact ⟨by simp [addR, new0, ha, wn], ok, by simp [putR, new0, ha, wn], ok, by simp [switchR, new0, ha, wn], ok, by simp [writeR, new0, ha, wn], ok, by simp [takeR, new0], ok, by rfl, rfl, rfl, bsk_nil⟩
theorem Wd.set3 {i : Nat} (hi : i < 8) : Wd (ty.zr.set i 3) := by
  obtain rfl | rfl | rfl | rfl | rfl | rfl | rfl | rfl : i = 0 ∨ i = 1 ∨ i = 2 ∨ i = 3 ∨ i = 4 ∨ i = 5 ∨ i = 6 ∨ i = 7 := by omega
  all_goals exact ⟨rfl, by intro x hx; simp [ty.zr] at hx; omega⟩
theorem Cn.set {r : List Int} (h : Cn r) (i : Nat) {x : Int} (h0 : 0 ≤ x) (h1 : x ≤ 65535) : Cn (r.set i x) := by
  refine ⟨by rw [List.length_set]; exact h.1, fun j => ?_⟩
  rw [List.getD_eq_getElem?_getD, List.getElem?_set]
  have hj := h.2 j
  rw [List.getD_eq_getElem?_getD] at hj
  split
  · split
    · exact ⟨h0, h1⟩
    · simp
  · exact hj
theorem zr_at (i : Nat) : zr.getD i 0 = 0 := by
  have e : ty.zr = List.replicate 8 0 := rfl
  rw [e, List.getD_eq_getElem?_getD, List.getElem?_replicate]
  split <;> simp
theorem tab_good1 {i : Nat} (hi : i < 8) : ∃ v1 v2 v3 v4 v5, Tab 1 true (i : Int) v1 v2 v3 v4 v5 := by
  have ha : isA (i : Int) = true := by simp [isA]; omega
  have ok : Ok (.cnt (zr.set i 3) zr) := ⟨Wd.set3 hi, Wd.zr⟩
  have e1 : addR (new0 1) (i : Int) 3 = (0, .cnt (zr.set i 3) zr) := by
    have hz : zr.set i 0 = zr := by
      obtain rfl | rfl | rfl | rfl | rfl | rfl | rfl | rfl : i = 0 ∨ i = 1 ∨ i = 2 ∨ i = 3 ∨ i = 4 ∨ i = 5 ∨ i = 6 ∨ i = 7 := by omega
      all_goals rfl
    have hx : ((i : Int)).toNat = i := by omega
    simp only [addR, new0, if_pos, ha, hx, zr_at]
    have m1 : max (3 : Int) 0 = 3 := by decide
    have m2 : min (3 : Int) 0 = 0 := by decide
    rw [m1, m2]
    simp [hz]
  refine ⟨_, _, _, _, _, e1, ok, rfl, ok, rfl, ok, rfl, ok, rfl, ok, ?_, rfl, rfl, rfl⟩
  obtain rfl | rfl | rfl | rfl | rfl | rfl | rfl | rfl : i = 0 ∨ i = 1 ∨ i = 2 ∨ i = 3 ∨ i = 4 ∨ i = 5 ∨ i = 6 ∨ i = 7 := by omega
  all_goals decide
theorem tab_good3 {i : Nat} (hi : i < 8) : ∃ v1 v2 v3 v4 v5, Tab 3 true (i : Int) v1 v2 v3 v4 v5 := by
  have ha : isA (i : Int) = true := by simp [isA]; omega
  have ok : Ok (.flg (zr.set i 1) (zr.set i 1)) := ⟨Cn.zr.set i (by decide) (by decide), Cn.zr.set i (by decide) (by decide)⟩
  have okn := new0_ok 3
  have e3 : switchR (new0 3) (i : Int) true = (0, .flg (zr.set i 1) (zr.set i 1)) := by
    have hx : ((i : Int)).toNat = i := by omega
    have h3 : new0 3 = .flg zr zr := rfl
    rw [h3]
    simp only [switchR, ha, hx, zr_at]
    simp
  refine ⟨_, _, _, _, _, rfl, okn, rfl, okn, e3, ok, rfl, ok, rfl, ok, rfl, rfl, ?_, rfl⟩
  obtain rfl | rfl | rfl | rfl | rfl | rfl | rfl | rfl : i = 0 ∨ i = 1 ∨ i = 2 ∨ i = 3 ∨ i = 4 ∨ i = 5 ∨ i = 6 ∨ i = 7 := by omega
  all_goals decide
theorem bsk_strB1 (x : Nat) (hx : x < 256) : bsk (strB [x]) = [x] := by
  unfold bsk strB
  rw [ByteArray.toList_eq]
  simp [ByteArray.push, ByteArray.empty, ByteArray.emptyWithCapacity]
  rw [Nat.mod_eq_of_lt hx]
  rfl
theorem tab_good4 {i : Nat} (hi : i < 8) : ∃ v1 v2 v3 v4 v5, Tab 4 true (i : Int) v1 v2 v3 v4 v5 := by
  have ha : isA (i : Int) = true := by simp [isA]; omega
  have ok : Ok (.rgs 1 (i : Int) (strB [116])) := ⟨by decide, by decide⟩
  have okn := new0_ok 4
  have e4 : writeR (new0 4) (i : Int) [116] = (0, .rgs 1 (i : Int) (strB [116])) := by
    have h4 : new0 4 = .rgs 0 0 ⟨#[]⟩ := rfl
    rw [h4]
    simp [writeR, ha]
  exact ⟨_, _, _, _, _, rfl, okn, rfl, okn, rfl, okn, e4, ok, rfl, ok, rfl, rfl, rfl, bsk_strB1 116 (by decide)⟩
theorem tab_good2 {i : Nat} (hi : i < 8) : ∃ v1 v2 v3 v4 v5, Tab 2 true (i : Int) v1 v2 v3 v4 v5 := by
  have ha : isA (i : Int) = true := by simp [isA]; omega
  have okn := new0_ok 2
  have hx : ((i : Int)).toNat = i := by omega
  have hpc : putC zr i = zr.set i 1 := by unfold putC; rw [zr_at]; rfl
  have hpe : putE zr [] i (strB [101]) = [⟨strB [101], zr.set i 1⟩] := by unfold putE; rw [zr_at]; rfl
  have hlen : (setB (zr.set i 1) [⟨strB [101], zr.set i 1⟩]).length ≤ 64 := by
    have h1 := rowB_len (zr.set i 1)
    have h2 : (bsk (strB [101])).length = 1 := by rw [bsk_strB1 101 (by decide)]; rfl
    simp only [setB, esB, enB, List.length_cons, List.length_append, List.length_nil, h2]
    omega
  have ok : Ok (.set (zr.set i 1) [⟨strB [101], zr.set i 1⟩]) := ⟨Cn.zr.set i (by decide) (by decide), by unfold So; simp, by simp, by intro x hx; simp at hx; subst hx; exact ⟨by show (strB [101]).size ≤ 8; rw [strB_size]; decide, Cn.zr.set i (by decide) (by decide)⟩⟩
  have e2 : putR (new0 2) (i : Int) [101] = (0, .set (zr.set i 1) [⟨strB [101], zr.set i 1⟩]) := by
    have h2 : new0 2 = .set zr [] := rfl
    have hE : isE [101].length = true := rfl
    rw [h2]
    simp only [putR, ha, hx, hE, zr_at, hpc, hpe, if_neg (Nat.not_lt.2 hlen)]
    simp
  have hb1 : bl (strB [101]) (strB [120]) = true := by
    unfold bl strB
    simp [ByteArray.push, ByteArray.empty, ByteArray.emptyWithCapacity]
    decide
  have e5 : takeR (.set (zr.set i 1) [⟨strB [101], zr.set i 1⟩]) [120] = (0, .set (zr.set i 1) [⟨strB [101], zr.set i 1⟩]) := by
    simp only [takeR, lo, ty.hi, List.filter_cons, List.filter_nil, hb1, bl_asym hb1]
    simp
  exact ⟨_, _, _, _, _, rfl, okn, e2, ok, rfl, ok, rfl, ok, e5, ok, rfl, rfl, rfl, rfl⟩
theorem tab_good {k : Nat} (h1 : 1 ≤ k) (h4 : k ≤ 4) {i : Nat} (hi : i < 8) : ∃ v1 v2 v3 v4 v5, Tab k true (i : Int) v1 v2 v3 v4 v5 := by
  obtain rfl | rfl | rfl | rfl : k = 1 ∨ k = 2 ∨ k = 3 ∨ k = 4 := by omega
  · exact tab_good1 hi
  · exact tab_good2 hi
  · exact tab_good3 hi
  · exact tab_good4 hi
end Go.Proofs.Ytdbeeikjngnnnaa.ty
namespace Go.Proofs.Ytdbeeikjngnnnaa.ty
open Go.ChangeShapes Go.WideShapes Go.ChangeAt Go.RowKit
set_option linter.unusedVariables false
set_option linter.unusedSimpArgs false
/-- a reader in memory, over bytes that lie in wB -/
structure Rr (wB w : World) (R : Nat) (s : Sl) (us : List Nat) : Prop where
  blk : w.heap[R]? = some (.cells #[.slice s.p s.n s.c] 68 (0, 0))
  new : wB.heap.size ≤ R
  ap : Apart [] wB w
  rd : Rd wB s.p (byts us)
  len : us.length = s.n
  cap : s.n ≤ s.c
  ok : s.ok
  u8 : ∀ x ∈ us, x < 256
theorem Rr.kept0 {wB w w' : World} {R : Nat} {s : Sl} {us : List Nat} (h : Rr wB w R s us) (a : Apart [] w w') : Rr wB w' R s us := ⟨keep0 a h.blk, h.new, h.ap.trans a, h.rd, h.len, h.cap, h.ok, h.u8⟩
theorem Rr.cell {wB w : World} {R : Nat} {s : Sl} {us : List Nat} (h : Rr wB w R s us) : w.cell? ⟨R, 0, none⟩ = some (.slice s.p s.n s.c) := by rw [cell_of_row _ _ _ _ _ _ h.blk]; rfl
def Sl.preB (s : Sl) (k : Nat) : Sl := ⟨if s.c = 0 then s.p else s.p.map (·.add (0 * 1)), k, s.c⟩
def Sl.postB (s : Sl) (k : Nat) : Sl := ⟨if s.c = k then s.p else s.p.map (·.add (k * 1)), s.n - k, s.c - k⟩
theorem sz5 (W : World) : (sizeOf 5).run Try.prog W = .ok 1 W := by kernel_rfl
theorem el22 : Try.prog.elem 22 = 5 := by kernel_rfl
theorem ul22 : Try.prog.underlying 22 = some (.slice (Try.prog.elem 22)) := by rw [el22]; exact Try.underlying22
theorem ex_preB {W : World} {eval : Operand → Value} {op : Oper} (s : Sl) (k : Nat) (x y : Operand) (ho : op.op = .slice 22 x none (some y) none) (hx : eval x = .slice s.p s.n s.c) (hy : eval y = .int .i64 (k : Int)) (hk : k ≤ s.c) : (execOp eval op).run Try.prog W = .ok (.value (.slice (s.preB k).p (s.preB k).n (s.preB k).c)) W := by
  unfold execOp
  simp only [ho, hx, Option.map_some, Option.map_none, hy, Sem.run_bind, run_sliceAt_slice W 22 _ _ _ _ ul22, run_slice_h W 22 s.p s.n s.c ul22 .i64 (k : Int) (by omega) (by omega), el22, sz5, Result.andThen_ok, Sem.run_pure]
  simp [sliced, Sl.preB]
theorem ex_postB {W : World} {eval : Operand → Value} {op : Oper} (s : Sl) (k : Nat) (x y : Operand) (ho : op.op = .slice 22 x (some y) none none) (hx : eval x = .slice s.p s.n s.c) (hy : eval y = .int .i64 (k : Int)) (hk : k ≤ s.n) : (execOp eval op).run Try.prog W = .ok (.value (.slice (s.postB k).p (s.postB k).n (s.postB k).c)) W := by
  unfold execOp
  simp only [ho, hx, Option.map_some, Option.map_none, hy, Sem.run_bind, run_sliceAt_slice W 22 _ _ _ _ ul22, run_slice_l W 22 s.p s.n s.c ul22 .i64 (k : Int) (by omega) (by omega), el22, sz5, Result.andThen_ok, Sem.run_pure]
  simp [sliced, Sl.postB]
theorem byts_len (us : List Nat) : (byts us).length = us.length := by simp [byts]
theorem Rd.preB {w : World} {s : Sl} {us : List Nat} (h : Rd w s.p (byts us)) (k : Nat) : Rd w (s.preB k).p (byts (us.take k)) := by
  intro h0
  have e : byts us = byts (us.take k) ++ byts (us.drop k) := by rw [← byts_app, List.take_append_drop]
  obtain ⟨P, o, e1, hb, hc⟩ := h (by rw [e, List.length_append]; omega)
  refine ⟨P, o, ?_, hb, fun j u hj => hc j u ?_⟩
  · simp only [Sl.preB, e1, Option.map_some, Addr.add_lit, Nat.zero_mul, Nat.add_zero, ite_self]
  · rw [e, List.getElem?_append_left (by have := (List.getElem?_eq_some_iff.1 hj).1; exact this)]; exact hj
theorem Rd.postB {w : World} {s : Sl} {us : List Nat} (h : Rd w s.p (byts us)) (hl : us.length = s.n) (hc' : s.n ≤ s.c) {k : Nat} (hk : k ≤ us.length) : Rd w (s.postB k).p (byts (us.drop k)) := by
  intro h0
  have e : byts us = byts (us.take k) ++ byts (us.drop k) := by rw [← byts_app, List.take_append_drop]
  have ht : (byts (us.take k)).length = k := by rw [byts_len, List.length_take]; omega
  rw [byts_len, List.length_drop] at h0
  obtain ⟨P, o, e1, hb, hc⟩ := h (by rw [byts_len]; omega)
  refine ⟨P, o + k, ?_, hb, fun j u hj => ?_⟩
  · simp only [Sl.postB, e1, Option.map_some, Addr.add_lit, Nat.mul_one]
    rw [if_neg (by omega)]
  · rw [Nat.add_assoc]
    refine hc _ _ ?_
    rw [e, List.getElem?_append_right (by omega), ht, show k + j - k = j from by omega]
    exact hj
theorem Sl.preB_ok {s : Sl} (h : s.ok) {k : Nat} (hk : k ≤ s.n) : (s.preB k).ok := by
  intro hp
  have hn : s.p = none := by
    simp only [Sl.preB] at hp
    split at hp
    · exact hp
    · simpa using hp
  have h1 := h hn
  exact ⟨by show k = 0; omega, h1.2⟩
theorem Sl.postB_ok {s : Sl} (h : s.ok) (k : Nat) : (s.postB k).ok := by
  intro hp
  have hn : s.p = none := by
    simp only [Sl.postB] at hp
    split at hp
    · exact hp
    · simpa using hp
  have h1 := h hn
  exact ⟨by show s.n - k = 0; omega, by show s.c - k = 0; omega⟩
/-- bytes that were read: they lie in wB -/
structure Pt (wB : World) (s : Sl) (us : List Nat) : Prop where
  rd : Rd wB s.p (byts us)
  len : us.length = s.n
  ok : s.ok
  u8 : ∀ x ∈ us, x < 256
set_option maxRecDepth 100000 in
theorem next_ok {wB w : World} {R : Nat} {s : Sl} {us : List Nat} (h : Rr wB w R s us) (hl : us.length ≤ 1000000) (n : Nat) (hn : n ≤ 1000000) : Calls Try.prog 83 #[.pointer (some ⟨R, 0, none⟩), .int .i64 (n : Int)] w fun r w' => ∃ a : Sl, r = .returned (.slice a.p a.n a.c) ∧ Pt wB a (us.take n) ∧ ∃ b, Rr wB w' R b (us.drop n) ∧ Apart [R] w w' := by
  have HR := hid h
  have Hl := hid hl
  obtain ⟨k, hk⟩ : ∃ k, k = min n s.n := ⟨_, rfl⟩
  have hkn : k ≤ s.n := by omega
  have hkc : k ≤ s.c := Nat.le_trans hkn h.cap
  have hk6 : k ≤ 1000000 := by omega
  have hmin : min ((n : Nat) : Int) ((s.n : Nat) : Int) = ((k : Nat) : Int) := by omega
  have Htk : Hid (us.take n = us.take k) := hid (by rw [hk, ← h.len, List.take_eq_take_iff]; omega)
  have Hdr : Hid (us.drop n = us.drop k) := hid (by
    rw [hk, ← h.len]
    rcases Nat.le_total n us.length with h1 | h1
    · rw [Nat.min_eq_left h1]
    · rw [Nat.min_eq_right h1, List.drop_eq_nil_of_le h1, List.drop_eq_nil_of_le (Nat.le_refl _)])
  clear h hl hk
  have z := HR.out.cell
  have f0 := frozen_of_row _ _ 0 _ _ HR.out.blk
  go_enter Try.func83, Try.ntmps83
  go_wp2_with (first
    | refine wpL_val rfl (.slice (s.preB k).p (s.preB k).n (s.preB k).c) (ex_preB s k _ _ rfl rfl rfl hkc) ?_
    | refine wpL_val rfl (.slice (s.postB k).p (s.postB k).n (s.postB k).c) (ex_postB s k _ _ rfl rfl rfl hkn) ?_)
  go_ret
  refine ⟨s.preB k, rfl, ?_, s.postB k, ?_, ?_⟩
  · rw [Htk.out]
    exact ⟨Rd.preB HR.out.rd k, by rw [List.length_take, HR.out.len]; show min k s.n = k; omega, Sl.preB_ok HR.out.ok hkn, fun x hx => HR.out.u8 x (List.mem_of_mem_take hx)⟩
  · rw [Hdr.out]
    have hc := HR.out.cap
    refine ⟨?_, HR.out.new, HR.out.ap.setCell (.inr HR.out.new) _, Rd.postB HR.out.rd HR.out.len HR.out.cap (by rw [HR.out.len]; exact hkn), by rw [List.length_drop, HR.out.len]; rfl, by show s.n - k ≤ s.c - k; omega, Sl.postB_ok HR.out.ok k, fun x hx => HR.out.u8 x (List.mem_of_mem_drop hx)⟩
    rw [heap_setCell_same _ _ _ _ _ _ HR.out.blk]
    rfl
  · exact (Apart.refl [R] w).setCell (p := ⟨R, 0, none⟩) (.inl (by simp)) _
/-- a number out of its bytes, the least first -/
def leV : List Nat → Nat
  | [] => 0
  | x :: r => x + 256 * leV r
theorem leV_snoc (l : List Nat) (x : Nat) : leV (l ++ [x]) = leV l + x * 2 ^ (8 * l.length) := by
  induction l with
  | nil => simp [leV]
  | cons y r ih =>
    rw [List.cons_append, leV, ih, leV, List.length_cons, Nat.mul_succ, Nat.pow_add, Nat.mul_add, Nat.mul_comm (2 ^ (8 * r.length)) (2 ^ 8)]
    have : (2 : Nat) ^ 8 = 256 := by decide
    rw [this, Nat.mul_left_comm x 256]
    omega
theorem leV_lt {l : List Nat} (h : ∀ x ∈ l, x < 256) : leV l < 2 ^ (8 * l.length) := by
  induction l with
  | nil => simp [leV]
  | cons y r ih =>
    have h1 := ih (fun x hx => h x (List.mem_cons_of_mem _ hx))
    have h2 := h y (by simp)
    rw [leV, List.length_cons, Nat.mul_succ, Nat.pow_add]
    have : (2 : Nat) ^ 8 = 256 := by decide
    rw [this]
    omega
theorem or_add (a x i : Nat) (h : a < 2 ^ i) : a ||| (x * 2 ^ i) = a + x * 2 ^ i := by
  rw [Nat.or_comm, Nat.mul_comm x, ← Nat.two_pow_add_eq_or_of_lt h, Nat.add_comm]
set_option maxHeartbeats 1000000 in
set_option maxRecDepth 100000 in
theorem number_ok {wB w : World} {R : Nat} {s : Sl} {us : List Nat} (h : Rr wB w R s us) (hl : us.length ≤ 1000000) (n : Nat) (hn : n ≤ 6) : Calls Try.prog 65 #[.pointer (some ⟨R, 0, none⟩), .int .i64 (n : Int)] w fun r w' => r = .returned (.int .i64 ((leV (us.take n) : Nat) : Int)) ∧ (∃ b, Rr wB w' R b (us.drop n)) ∧ Apart [R] w w' := by
  have HC := hid (next_ok h hl n (by omega))
  have HT : Hid ((us.take n).length ≤ 6) := hid (by rw [List.length_take]; omega)
  clear h hl
  go_enter Try.func65, Try.ntmps65
  go_wp2_with (go_at_call 83; refine HC.out.mono ?_; rintro _ w1 ⟨a, rfl, p1, b, r1, a1⟩; have HP := hid p1; have HR := hid r1; have HA := hid a1; clear p1 r1 a1)
  obtain ⟨ps, Hps⟩ : ∃ ps, Hid (ps = us.take n) := ⟨_, hid rfl⟩
  rw [← Hps.out] at HP HT
  obtain ⟨N, HN⟩ : ∃ N, Hid (N = ps.length) := ⟨_, hid rfl⟩
  have han : a.n = N := by rw [HN.out]; exact HP.out.len.symm
  have hN6 : N ≤ 6 := by rw [HN.out]; exact HT.out
  rw [han]
  go_loopw [5, 12] (fun x v wt => ∃ i m : Nat, v = .int .i64 (i : Nat) ∧ i ≤ N ∧ w1 = wt ∧ x = .int .i64 (m : Nat) ∧ Hid (m = leV (ps.take i))) (fun _ v _ => N - (intOf v).toNat)
  case atStart => exact ⟨0, 0, rfl, Nat.zero_le _, rfl, rfl, hid rfl⟩
  case round =>
    obtain ⟨i, m, rfl, hi, rfl, rfl, Hm⟩ := hrel
    by_cases hlt : i < N
    · have hlti : ((i : Nat) : Int) < ((N : Nat) : Int) := by omega
      have Hil : Hid (i < ps.length) := hid (by rw [← HN.out]; exact hlt)
      obtain ⟨P, o, hp, hP, hc⟩ := (HP.out.rd.kept0 HR.out.ap) (by rw [byts_len]; have := Hil.out; omega)
      have z : w1.cell? ⟨P, o + i, none⟩ = some (.int .u8 (((ps[i]'Hil.out) : Nat) : Int)) := hc i _ (by simp [byts, Hil.out])
      obtain ⟨y, Hy⟩ : ∃ y, Hid (y = ps[i]'Hil.out) := ⟨_, hid rfl⟩
      rw [← Hy.out] at z
      have hy8 : y < 256 := by rw [Hy.out]; exact HP.out.u8 _ (List.getElem_mem _)
      have Hst : Hid (leV (ps.take (i + 1)) = leV (ps.take i) + y * 2 ^ (8 * i)) := hid (by
        rw [List.take_succ_eq_append_getElem Hil.out, leV_snoc, ← Hy.out, List.length_take, Nat.min_eq_left (by have := Hil.out; omega)])
      have Hml : Hid (m < 2 ^ (8 * i)) := hid (by
        rw [Hm.out]
        have h1 := leV_lt (l := ps.take i) (fun x hx => HP.out.u8 x (List.mem_of_mem_take hx))
        rwa [List.length_take, Nat.min_eq_left (by have := Hil.out; omega)] at h1)
      rw [hp]
      clear hp hP hc
      have h8 : wrap64 (8 * (i : Int)) = ((8 * i : Nat) : Int) := by rw [IntWalk.wrap64_in _ (by omega)]; omega
      have Hsh : Hid (y * 2 ^ (8 * i) < 2 ^ 48 ∧ m < 2 ^ 48) := hid (by
        have h1 : 2 ^ (8 * i) ≤ 2 ^ 40 := Nat.pow_le_pow_right (by omega) (by omega)
        have h2 := Hml.out
        have h3 : y * 2 ^ (8 * i) ≤ 255 * 2 ^ 40 := Nat.mul_le_mul (by omega) h1
        exact ⟨by omega, by omega⟩)
      have Hor : Hid (bits .or .i64 (m : Int) (wrap64 ((y : Int) * 2 ^ (8 * i))) = ((m + y * 2 ^ (8 * i) : Nat) : Int)) := hid (by
        have e : ((y : Int) * 2 ^ (8 * i)) = ((y * 2 ^ (8 * i) : Nat) : Int) := by rw [Int.natCast_mul, Int.natCast_pow]; rfl
        rw [e, IntWalk.wrap64_in _ (by have := Hsh.out; omega), i64_or_nat _ _ (by have := Hsh.out; omega) (by have := Hsh.out; omega), or_add _ _ _ Hml.out])
      go_wp2_with fail
      rw [Hor.out]
      refine ⟨⟨i + 1, m + y * 2 ^ (8 * i), by go_num, by omega, by first | rfl | trivial, rfl, hid (by rw [Hst.out, Hm.out])⟩, by simp [intOf]; omega⟩
    · have hlti : ¬ ((i : Nat) : Int) < ((N : Nat) : Int) := by omega
      obtain rfl : N = i := by omega
      have He : Hid (ps.take N = ps) := hid (List.take_of_length_le (by rw [← HN.out]; exact Nat.le_refl _))
      rw [He.out] at Hm
      go_wp2_with fail
      go_ret
      exact ⟨by rw [← Hps.out, ← Hm.out]; rfl, ⟨b, HR.out⟩, HA.out⟩
end Go.Proofs.Ytdbeeikjngnnnaa.ty
