import Derived.Test.YtdbeeikjngnnnaaT29
import Derived.Lib.SlBytesConst
namespace Go.Proofs.Ytdbeeikjngnnnaa.ty
open Go.ChangeShapes Go.WideShapes Go.ChangeAt Go.RowKit
set_option linter.unusedVariables false
set_option linter.unusedSimpArgs false
theorem rd_new (w : World) (x : Nat) (m : Nat × Nat) : Rd (w.alloc (.cells #[.int .u8 (x : Int)] 5 m)) (some ⟨w.heap.size, 0, none⟩) (byts [x]) := by
  intro _
  have hh : (w.alloc (.cells #[.int .u8 (x : Int)] 5 m)).heap[w.heap.size]? = some (.cells #[.int .u8 (x : Int)] 5 m) := heap_alloc_new w _
  refine ⟨w.heap.size, 0, rfl, lt_of_heapM hh, fun j v hj => ?_⟩
  have hj0 : j = 0 := by
    have := (List.getElem?_eq_some_iff.1 hj).1
    simp [byts] at this
    exact this
  subst hj0
  simp [byts] at hj
  subst hj
  unfold World.cell?
  simp only [hh]
  rfl
theorem Add_t {w : World} {V : Nat} {v v' : Vl} {a b x : Int} (hV : Ho w V v) (ok : Ok v) (e : addR v a b = (x, v')) : Calls Try.prog 15 #[.pointer (some ⟨V, 0, none⟩), .int .i64 a, .int .i64 b] w fun r w' => r = .returned (.int .i64 x) ∧ Ho w' V v' ∧ Apart [V] w w' := by
  have := Add_v hV ok a b
  rw [e] at this
  exact this
theorem Put_t {w : World} {V : Nat} {v v' : Vl} {a x : Int} {c : Nat} {y : Int} {m : Nat × Nat} (hy : y = (c : Int)) (hV : Ho w V v) (ok : Ok v) (e : putR v a [c] = (x, v')) : Calls Try.prog 17 #[.pointer (some ⟨V, 0, none⟩), .int .i64 a, .slice (some ⟨w.heap.size, 0, none⟩) 1 1] (w.alloc (.cells #[.int .u8 y] 5 m)) fun r w' => r = .returned (.int .i64 x) ∧ Ho w' V v' ∧ Apart [V] w w' := by
  subst hy
  have a1 : Apart [] w (w.alloc (.cells #[.int .u8 (c : Int)] 5 m)) := (Apart.refl [] w).alloc _
  have := Put_v (hV.kept0 a1) ok a (sl := ⟨some ⟨w.heap.size, 0, none⟩, 1, 1⟩) (rd_new w c m) rfl (fun e => by cases e)
  rw [e] at this
  refine this.mono ?_
  rintro _ w' ⟨rfl, h, a2⟩
  exact ⟨rfl, h, (a1.mono (by simp)).trans a2⟩
theorem Switch_t {w : World} {V : Nat} {v v' : Vl} {a x : Int} {b : Bool} (hV : Ho w V v) (ok : Ok v) (e : switchR v a b = (x, v')) : Calls Try.prog 18 #[.pointer (some ⟨V, 0, none⟩), .int .i64 a, .bool b] w fun r w' => r = .returned (.int .i64 x) ∧ Ho w' V v' ∧ Apart [V] w w' := by
  have := Switch_v hV ok a b
  rw [e] at this
  exact this
theorem Write_t {w : World} {V : Nat} {v v' : Vl} {a x : Int} {c : Nat} {y : Int} {m : Nat × Nat} (hy : y = (c : Int)) (hV : Ho w V v) (ok : Ok v) (e : writeR v a [c] = (x, v')) : Calls Try.prog 19 #[.pointer (some ⟨V, 0, none⟩), .int .i64 a, .slice (some ⟨w.heap.size, 0, none⟩) 1 1] (w.alloc (.cells #[.int .u8 y] 5 m)) fun r w' => r = .returned (.int .i64 x) ∧ Ho w' V v' ∧ Apart [V] w w' := by
  subst hy
  have a1 : Apart [] w (w.alloc (.cells #[.int .u8 (c : Int)] 5 m)) := (Apart.refl [] w).alloc _
  have := Write_v (hV.kept0 a1) ok a (sl := ⟨some ⟨w.heap.size, 0, none⟩, 1, 1⟩) (rd_new w c m) rfl (fun e => by cases e)
  rw [e] at this
  refine this.mono ?_
  rintro _ w' ⟨rfl, h, a2⟩
  exact ⟨rfl, h, (a1.mono (by simp)).trans a2⟩
theorem Take_t {w : World} {V : Nat} {v v' : Vl} {x : Int} {c : Nat} {y : Int} {m : Nat × Nat} (hy : y = (c : Int)) (hV : Ho w V v) (ok : Ok v) (e : takeR v [c] = (x, v')) : Calls Try.prog 20 #[.pointer (some ⟨V, 0, none⟩), .slice (some ⟨w.heap.size, 0, none⟩) 1 1] (w.alloc (.cells #[.int .u8 y] 5 m)) fun r w' => r = .returned (.int .i64 x) ∧ Ho w' V v' ∧ Apart [V] w w' := by
  subst hy
  have a1 : Apart [] w (w.alloc (.cells #[.int .u8 (c : Int)] 5 m)) := (Apart.refl [] w).alloc _
  have := Take_v (hV.kept0 a1) ok (sl := ⟨some ⟨w.heap.size, 0, none⟩, 1, 1⟩) (rd_new w c m) rfl (fun e => by cases e)
  rw [e] at this
  refine this.mono ?_
  rintro _ w' ⟨rfl, h, a2⟩
  exact ⟨rfl, h, (a1.mono (by simp)).trans a2⟩
def wn (k j : Nat) (g : Bool) : Int := if k ≠ j then 190 else if g then 0 else 191
theorem wanted_t (w : World) (k j : Nat) (g : Bool) : Calls Try.prog 16 #[.int .i64 (k : Int), .int .i64 (j : Int), .bool g] w fun r w' => r = .returned (.int .i64 (wn k j g)) ∧ w' = w := by
  have := wanted_ok w (k : Int) (j : Int) g
  have e : (if (k : Int) ≠ (j : Int) then (190 : Int) else if g then 0 else 191) = wn k j g := by
    unfold wn
    by_cases h : k = j
    · simp [h]
    · have h2 : (k : Int) ≠ (j : Int) := by omega
      rw [if_pos h2, if_pos h]
  rw [e] at this
  exact this
/-- what becomes of a new value of the type k -/
structure Tab (k : Nat) (g : Bool) (a : Int) (v1 v2 v3 v4 v5 : Vl) : Prop where
  e1 : addR (new0 k) a 3 = (wn k 1 g, v1)
  o1 : Ok v1
  e2 : putR v1 a [101] = (wn k 2 g, v2)
  o2 : Ok v2
  e3 : switchR v2 a true = (wn k 3 g, v3)
  o3 : Ok v3
  e4 : writeR v3 a [116] = (wn k 4 g, v4)
  o4 : Ok v4
  e5 : takeR v4 [120] = (if k = 2 then 0 else 190, v5)
  o5 : Ok v5
  sm : sumR v5 = if k = 1 ∧ g = true then 3 else 0
  el : (elsR v5).length = if k = 2 ∧ g = true then 1 else 0
  on : onR v5 = (decide (k = 3) && g)
  tx : textR v5 = if k = 4 ∧ g = true then [116] else []
theorem bsk_nil : bsk ⟨#[]⟩ = [] := by
  unfold bsk
  rw [ByteArray.toList_eq]
  rfl
theorem tab_bad {k : Nat} (h1 : 1 ≤ k) (h4 : k ≤ 4) {a : Int} (ha : isA a = false) : Tab k false a (new0 k) (new0 k) (new0 k) (new0 k) (new0 k) := by
  have ok := new0_ok k
  obtain rfl | rfl | rfl | rfl : k = 1 ∨ k = 2 ∨ k = 3 ∨ k = 4 := by omega
  · exact ⟨by simp [addR, new0, ha, wn], ok, by simp [putR, new0, wn], ok, by simp [switchR, new0, wn], ok, by simp [writeR, new0, wn], ok, by simp [takeR, new0], ok, by rfl, rfl, rfl, rfl⟩
  · exact ⟨by simp [addR, new0, ha, wn], ok, by simp [putR, new0, ha, wn], ok, by simp [switchR, new0, wn], ok, by simp [writeR, new0, wn], ok, by simp [takeR, new0, lo, hi], ok, by rfl, rfl, rfl, rfl⟩
  · exact ⟨by simp [addR, new0, ha, wn], ok, by simp [putR, new0, ha, wn], ok, by simp [switchR, new0, ha, wn], ok, by simp [writeR, new0, wn], ok, by simp [takeR, new0], ok, by rfl, rfl, by decide, rfl⟩
  · exact ⟨by simp [addR, new0, ha, wn], ok, by simp [putR, new0, ha, wn], ok, by simp [switchR, new0, ha, wn], ok, by simp [writeR, new0, ha, wn], ok, by simp [takeR, new0], ok, by rfl, rfl, rfl, bsk_nil⟩
theorem Wd.set3 {i : Nat} (hi : i < 8) : Wd (ty.zr.set i 3) := by
  obtain rfl | rfl | rfl | rfl | rfl | rfl | rfl | rfl : i = 0 ∨ i = 1 ∨ i = 2 ∨ i = 3 ∨ i = 4 ∨ i = 5 ∨ i = 6 ∨ i = 7 := by omega
  all_goals exact ⟨rfl, by intro x hx; simp [ty.zr] at hx; omega⟩
theorem Cn.set {r : List Int} (h : Cn r) (i : Nat) {x : Int} (h0 : 0 ≤ x) (h1 : x ≤ 65535) : Cn (r.set i x) := by
  refine ⟨by rw [List.length_set]; exact h.1, fun j => ?_⟩
  rw [List.getD_eq_getElem?_getD, List.getElem?_set]
  have hj := h.2 j
  rw [List.getD_eq_getElem?_getD] at hj
  split
  · split
    · exact ⟨h0, h1⟩
    · simp
  · exact hj
theorem zr_at (i : Nat) : zr.getD i 0 = 0 := by
  have e : ty.zr = List.replicate 8 0 := rfl
  rw [e, List.getD_eq_getElem?_getD, List.getElem?_replicate]
  split <;> simp
theorem tab_good1 {i : Nat} (hi : i < 8) : ∃ v1 v2 v3 v4 v5, Tab 1 true (i : Int) v1 v2 v3 v4 v5 := by
  have ha : isA (i : Int) = true := by simp [isA]; omega
  have ok : Ok (.cnt (zr.set i 3) zr) := ⟨Wd.set3 hi, Wd.zr⟩
  have e1 : addR (new0 1) (i : Int) 3 = (0, .cnt (zr.set i 3) zr) := by
    have hz : zr.set i 0 = zr := by
      obtain rfl | rfl | rfl | rfl | rfl | rfl | rfl | rfl : i = 0 ∨ i = 1 ∨ i = 2 ∨ i = 3 ∨ i = 4 ∨ i = 5 ∨ i = 6 ∨ i = 7 := by omega
      all_goals rfl
    have hx : ((i : Int)).toNat = i := by omega
    simp only [addR, new0, if_pos, ha, hx, zr_at]
    have m1 : max (3 : Int) 0 = 3 := by decide
    have m2 : min (3 : Int) 0 = 0 := by decide
    rw [m1, m2]
    simp [hz]
  refine ⟨_, _, _, _, _, e1, ok, rfl, ok, rfl, ok, rfl, ok, rfl, ok, ?_, rfl, rfl, rfl⟩
  obtain rfl | rfl | rfl | rfl | rfl | rfl | rfl | rfl : i = 0 ∨ i = 1 ∨ i = 2 ∨ i = 3 ∨ i = 4 ∨ i = 5 ∨ i = 6 ∨ i = 7 := by omega
  all_goals decide
theorem tab_good3 {i : Nat} (hi : i < 8) : ∃ v1 v2 v3 v4 v5, Tab 3 true (i : Int) v1 v2 v3 v4 v5 := by
  have ha : isA (i : Int) = true := by simp [isA]; omega
  have ok : Ok (.flg (zr.set i 1) (zr.set i 1)) := ⟨Cn.zr.set i (by decide) (by decide), Cn.zr.set i (by decide) (by decide)⟩
  have okn := new0_ok 3
  have e3 : switchR (new0 3) (i : Int) true = (0, .flg (zr.set i 1) (zr.set i 1)) := by
    have hx : ((i : Int)).toNat = i := by omega
    have h3 : new0 3 = .flg zr zr := rfl
    rw [h3]
    simp only [switchR, ha, hx, zr_at]
    simp
  refine ⟨_, _, _, _, _, rfl, okn, rfl, okn, e3, ok, rfl, ok, rfl, ok, rfl, rfl, ?_, rfl⟩
  obtain rfl | rfl | rfl | rfl | rfl | rfl | rfl | rfl : i = 0 ∨ i = 1 ∨ i = 2 ∨ i = 3 ∨ i = 4 ∨ i = 5 ∨ i = 6 ∨ i = 7 := by omega
  all_goals decide
theorem bsk_strB1 (x : Nat) (hx : x < 256) : bsk (strB [x]) = [x] := by
  unfold bsk strB
  rw [ByteArray.toList_eq]
  simp [ByteArray.push, ByteArray.empty, ByteArray.emptyWithCapacity]
  rw [Nat.mod_eq_of_lt hx]
  rfl
theorem tab_good4 {i : Nat} (hi : i < 8) : ∃ v1 v2 v3 v4 v5, Tab 4 true (i : Int) v1 v2 v3 v4 v5 := by
  have ha : isA (i : Int) = true := by simp [isA]; omega
  have ok : Ok (.rgs 1 (i : Int) (strB [116])) := ⟨by decide, by decide⟩
  have okn := new0_ok 4
  have e4 : writeR (new0 4) (i : Int) [116] = (0, .rgs 1 (i : Int) (strB [116])) := by
    have h4 : new0 4 = .rgs 0 0 ⟨#[]⟩ := rfl
    rw [h4]
    simp [writeR, ha]
  exact ⟨_, _, _, _, _, rfl, okn, rfl, okn, rfl, okn, e4, ok, rfl, ok, rfl, rfl, rfl, bsk_strB1 116 (by decide)⟩
theorem tab_good2 {i : Nat} (hi : i < 8) : ∃ v1 v2 v3 v4 v5, Tab 2 true (i : Int) v1 v2 v3 v4 v5 := by
  have ha : isA (i : Int) = true := by simp [isA]; omega
  have okn := new0_ok 2
  have hx : ((i : Int)).toNat = i := by omega
  have hpc : putC zr i = zr.set i 1 := by unfold putC; rw [zr_at]; rfl
  have hpe : putE zr [] i (strB [101]) = [⟨strB [101], zr.set i 1⟩] := by unfold putE; rw [zr_at]; rfl
  have hlen : (setB (zr.set i 1) [⟨strB [101], zr.set i 1⟩]).length ≤ 64 := by
    have h1 := rowB_len (zr.set i 1)
    have h2 : (bsk (strB [101])).length = 1 := by rw [bsk_strB1 101 (by decide)]; rfl
    simp only [setB, esB, enB, List.length_cons, List.length_append, List.length_nil, h2]
    omega
  have ok : Ok (.set (zr.set i 1) [⟨strB [101], zr.set i 1⟩]) := ⟨Cn.zr.set i (by decide) (by decide), by unfold So; simp, by simp, by intro x hx; simp at hx; subst hx; exact ⟨by show (strB [101]).size ≤ 8; rw [strB_size]; decide, Cn.zr.set i (by decide) (by decide)⟩⟩
  have e2 : putR (new0 2) (i : Int) [101] = (0, .set (zr.set i 1) [⟨strB [101], zr.set i 1⟩]) := by
    have h2 : new0 2 = .set zr [] := rfl
    have hE : isE [101].length = true := rfl
    rw [h2]
    simp only [putR, ha, hx, hE, zr_at, hpc, hpe, if_neg (Nat.not_lt.2 hlen)]
    simp
  have hb1 : bl (strB [101]) (strB [120]) = true := by
    unfold bl strB
    simp [ByteArray.push, ByteArray.empty, ByteArray.emptyWithCapacity]
    decide
  have e5 : takeR (.set (zr.set i 1) [⟨strB [101], zr.set i 1⟩]) [120] = (0, .set (zr.set i 1) [⟨strB [101], zr.set i 1⟩]) := by
    simp only [takeR, lo, ty.hi, List.filter_cons, List.filter_nil, hb1, bl_asym hb1]
    simp
  exact ⟨_, _, _, _, _, rfl, okn, e2, ok, rfl, ok, rfl, ok, e5, ok, rfl, rfl, rfl, rfl⟩
theorem tab_good {k : Nat} (h1 : 1 ≤ k) (h4 : k ≤ 4) {i : Nat} (hi : i < 8) : ∃ v1 v2 v3 v4 v5, Tab k true (i : Int) v1 v2 v3 v4 v5 := by
  obtain rfl | rfl | rfl | rfl : k = 1 ∨ k = 2 ∨ k = 3 ∨ k = 4 := by omega
  · exact tab_good1 hi
  · exact tab_good2 hi
  · exact tab_good3 hi
  · exact tab_good4 hi
end Go.Proofs.Ytdbeeikjngnnnaa.ty
