import Derived.Test.YtdbeeikjngnnnaaG6
import Derived.Laws.BytesString
import Derived.Lib.ConvBytes
namespace Go.Proofs.Ytdbeeikjngnnnaa.ty
open Go.ChangeShapes Go.WideShapes Go.ChangeAt Go.RowKit
set_option linter.unusedVariables false
set_option linter.unusedSimpArgs false
def strB (bs : List Nat) : ByteArray := (bs.map (fun (b : Nat) => (b : Int))).foldl (fun r n => r.push (UInt8.ofNat n.toNat)) ByteArray.empty
theorem conv_bytes {w : World} {s : Sl} {bs : List Nat} (h : Rd w s.p (byts bs)) (hl : bs.length = s.n) (ok : s.ok) : Sem.run Try.prog (convert 22 9 (.slice s.p s.n s.c)) w = .ok (.string (strB bs)) w := by
  rw [run_convert_bytes_string w 22 9 5 _ _ _ Try.underlying22 Try.underlying5 Try.underlying9]
  obtain ⟨p, n, c⟩ := s
  unfold Sl.ok at ok
  simp only at h hl ok ⊢
  have hbl : (byts bs).length = n := by simp [byts, hl]
  cases p with
  | none =>
    obtain ⟨rfl, rfl⟩ := ok rfl
    obtain rfl : bs = [] := List.eq_nil_of_length_eq_zero hl
    simp [Conv.bytesToString, strB]
  | some a =>
    refine run_bytesToString w _ _ _ (bs.map (fun (b : Nat) => (b : Int))) ?_
    have := run_loadCells_list (P := Try.prog) w a (byts bs) (fun j v hv => by
      obtain ⟨P, o, e, _, hc⟩ := h (by
        by_cases h0 : 0 < (byts bs).length
        · exact h0
        · rw [List.getElem?_eq_none (by omega)] at hv; cases hv)
      cases e
      rw [Addr.add_lit]; exact hc j v hv)
    rw [hbl] at this
    rw [this]
    simp [byts]
def bsk (k : ByteArray) : List Nat := k.toList.map UInt8.toNat
theorem bsk_len (k : ByteArray) : (bsk k).length = k.size := by
  rw [bsk, List.length_map, ByteArray.toList_eq, Array.length_toList]; rfl
/-- what can be read, in a block of a type -/
def RdT (w : World) (p : Option Addr) (t : Nat) (us : List Value) : Prop := 0 < us.length → ∃ P o, p = some ⟨P, o, none⟩ ∧ (∃ cur m, w.heap[P]? = some (.cells cur t m)) ∧ ∀ j u, us[j]? = some u → w.cell? ⟨P, o + j, none⟩ = some u
theorem RdT.nil (w : World) (p : Option Addr) (t : Nat) : RdT w p t [] := fun h => absurd h (by simp)
theorem RdT.rd {w : World} {p : Option Addr} {t : Nat} {us : List Value} (h : RdT w p t us) : Rd w p us := fun h0 => by
  obtain ⟨P, o, e, ⟨cur, m, hb⟩, hc⟩ := h h0
  exact ⟨P, o, e, lt_of_heap hb, hc⟩
theorem lt_of_heapM {w : World} {g : Nat} {cs : Array Value} {t : TypeId} {m : Nat × Nat} (h : w.heap[g]? = some (.cells cs t m)) : g < w.heap.size := by
  rcases Nat.lt_or_ge g w.heap.size with h1 | h1
  · exact h1
  · rw [Array.getElem?_eq_none h1] at h; cases h
theorem RdT.kept {w w' : World} {p : Option Addr} {t : Nat} {us : List Value} {X : List Nat} (h : RdT w p t us) (a : Apart X w w') (hX : ∀ k ∈ X, ∀ cur m, w.heap[k]? ≠ some (.cells cur t m)) : RdT w' p t us := fun h0 => by
  obtain ⟨P, o, e, ⟨cur, m, hb⟩, hc⟩ := h h0
  have hn : P ∉ X := fun hm => hX P hm cur m hb
  exact ⟨P, o, e, ⟨cur, m, (a.block P (lt_of_heap hb) hn).trans hb⟩, fun j u hj => (a.cell (lt_of_heap hb) hn).trans (hc j u hj)⟩
theorem conv_str (w : World) (s : ByteArray) : ∃ (sl : Sl) (w' : World), Sem.run Try.prog (convert 9 22 (.string s)) w = .ok (.slice sl.p sl.n sl.c) w' ∧ Apart [] w w' ∧ sl.ok ∧ RdT w' sl.p 5 (byts (bsk s)) ∧ (bsk s).length = sl.n := by
  refine ⟨⟨some ⟨w.heap.size, 0, none⟩, s.size, grownCap w s.size 0 5⟩, Go.Lib.bytesWorld w 5 s, Go.Lib.run_convert_string_bytes w 9 22 5 s Try.underlying9 Try.underlying22 Try.underlying5, ?_, (fun e => by cases e), ?_, bsk_len s⟩
  · exact ⟨by rfl, by rfl, by rfl, by rw [Go.Lib.bytesWorld_size]; omega, fun k hk _ => Go.Lib.bytesWorld_at_old w 5 s k hk⟩
  · intro h0
    refine ⟨w.heap.size, 0, rfl, ⟨_, _, Go.Lib.bytesWorld_at_new w 5 s⟩, fun j u hj => ?_⟩
    have hl := bsk_len s
    have hjl : j < (bsk s).length := by
      have := (List.getElem?_eq_some_iff.1 hj).1
      simpa [byts] using this
    rw [Nat.zero_add, Go.Lib.bytesWorld_cell w 5 s j (by omega)]
    have e1 : (bsk s)[j]? = some ((s.data.toList.getD j 0).toNat) := by
      have h2 : j < s.data.toList.length := by rw [Array.length_toList]; have : s.data.size = s.size := rfl; omega
      unfold bsk
      rw [ByteArray.toList_eq, List.getElem?_map, List.getD_eq_getElem?_getD, List.getElem?_eq_getElem h2]
      rfl
    rw [byts, List.getElem?_map, e1] at hj
    simp only [Option.map_some, Option.some.injEq] at hj
    rw [← hj]
/-- a register -/
def rg (s a : Int) (t : ByteArray) : Array Value := #[.int .i64 s, .int .i64 a, .string t]
set_option maxRecDepth 100000 in
theorem write_actor {w : World} {cs : Array Value} (a : Int) (b : Value) (ha : isA a = false) : Calls Try.prog 111 #[.agg cs, .int .i64 a, b] w fun r w' => r = .returned (.tuple #[.nilIface, .int .i64 191]) ∧ Apart [] w w' := by
  have hc := fun wx => isActor_ok wx a
  rw [ha] at hc
  clear ha
  have HC := hid hc
  clear hc
  go_enter Try.func111, Try.ntmps111
  go_wp2_with (go_at_call 81; refine (HC.out _).mono ?_; rintro _ _ ⟨rfl, rfl⟩)
  go_wp2_with fail
  go_ret2
  exact ⟨rfl, (Apart.refl _ _).alloc _⟩
set_option maxRecDepth 100000 in
theorem write_long {w : World} {cs : Array Value} (i : Nat) (hi : i < 8) (p : Option Addr) (n c : Nat) (hn : ((n : Nat) : Int) > 59) : Calls Try.prog 111 #[.agg cs, .int .i64 (i : Int), .slice p n c] w fun r w' => r = .returned (.tuple #[.nilIface, .int .i64 2]) ∧ Apart [] w w' := by
  have hc := fun wx => isActor_ok wx (i : Int)
  have ha : isA (i : Int) = true := by simp [isA]; omega
  rw [ha] at hc
  clear ha
  have HC := hid hc
  clear hc
  go_enter Try.func111, Try.ntmps111
  go_wp2_with (go_at_call 81; refine (HC.out _).mono ?_; rintro _ _ ⟨rfl, rfl⟩)
  go_wp2_with fail
  go_ret2
  exact ⟨rfl, (Apart.refl _ _).alloc _⟩
set_option maxRecDepth 100000 in
theorem write_full {w : World} {x : Int} {t : ByteArray} (i : Nat) (hi : i < 8) (p : Option Addr) (n c : Nat) (hn : ¬ ((n : Nat) : Int) > 59) : Calls Try.prog 111 #[.agg (rg 16777215 x t), .int .i64 (i : Int), .slice p n c] w fun r w' => r = .returned (.tuple #[.nilIface, .int .i64 92]) ∧ Apart [] w w' := by
  have hc := fun wx => isActor_ok wx (i : Int)
  have ha : isA (i : Int) = true := by simp [isA]; omega
  rw [ha] at hc
  clear ha
  have HC := hid hc
  clear hc
  have HA := hid (Apart.refl [] w)
  unfold rg
  go_enter Try.func111, Try.ntmps111
  go_upto_region 1 with fail
  obtain ⟨X, HXX⟩ : ∃ X, Hid (X = w.heap.size) := ⟨_, rfl⟩
  obtain ⟨w1, hw1⟩ : ∃ W, W = w.alloc (.cells #[.int .i64 16777215, .int .i64 x, .string t] 95) := ⟨_, rfl⟩
  have HSw1 : Hid (Apart [] w w1) := by unfold Hid; rw [hw1]; exact (Apart.refl [] w).alloc _
  have HBX : Hid (w1.heap[X]? = some (.cells #[.int .i64 16777215, .int .i64 x, .string t] 95 (0, 0))) := by unfold Hid; rw [HXX.out, hw1]; exact heap_alloc_new w _
  have HLX : Hid (w.heap.size ≤ X) := by unfold Hid; rw [HXX.out]; exact HA.out.size
  replace HA := hid (HA.out.trans HSw1.out)
  rw [← hw1, ← HXX.out]
  clear hw1 HXX
  have z : w1.cell? ⟨X, 0, none⟩ = some (.int .i64 16777215) := by rw [cell_of_row _ _ _ _ _ _ HBX.out]; rfl
  go_wp2_with (go_at_call 81; refine (HC.out _).mono ?_; rintro _ _ ⟨rfl, rfl⟩)
  go_wp2_with fail
  go_ret2
  exact ⟨rfl, HA.out⟩
set_option maxRecDepth 100000 in
theorem write_ok {w : World} {s x : Int} {t : ByteArray} (hs : 0 ≤ s) (hs' : s < 16777215) (i : Nat) (hi : i < 8) {sl : Sl} {bs : List Nat} (hb : Rd w sl.p (byts bs)) (hl : bs.length = sl.n) (ok : sl.ok) (hn : ¬ ((sl.n : Nat) : Int) > 59) : Calls Try.prog 111 #[.agg (rg s x t), .int .i64 (i : Int), .slice sl.p sl.n sl.c] w fun r w' => r = .returned (.tuple #[.iface 95 (.agg (rg (s + 1) (i : Int) (strB bs))), .int .i64 0]) ∧ Apart [] w w' := by
  have hc := fun wx => isActor_ok wx (i : Int)
  have ha : isA (i : Int) = true := by simp [isA]; omega
  rw [ha] at hc
  clear ha
  have HC := hid hc
  clear hc
  have HA := hid (Apart.refl [] w)
  have hne : (s == 16777215) = false := by simp only [beq_eq_false_iff_ne]; omega
  have hw : wrap64 (s + 1) = s + 1 := IntWalk.wrap64_in _ (by omega)
  have HR := hid hb
  have Hl := hid hl
  have Hok := hid ok
  clear hs hs' hb hl ok
  unfold rg
  go_enter Try.func111, Try.ntmps111
  go_upto_region 1 with fail
  obtain ⟨X, HXX⟩ : ∃ X, Hid (X = w.heap.size) := ⟨_, rfl⟩
  obtain ⟨w1, hw1⟩ : ∃ W, W = w.alloc (.cells #[.int .i64 s, .int .i64 x, .string t] 95) := ⟨_, rfl⟩
  have HSw1 : Hid (Apart [] w w1) := by unfold Hid; rw [hw1]; exact (Apart.refl [] w).alloc _
  have HBX : Hid (w1.heap[X]? = some (.cells #[.int .i64 s, .int .i64 x, .string t] 95 (0, 0))) := by unfold Hid; rw [HXX.out, hw1]; exact heap_alloc_new w _
  have HLX : Hid (w.heap.size ≤ X) := by unfold Hid; rw [HXX.out]; exact HA.out.size
  replace HA := hid (HA.out.trans HSw1.out)
  rw [← hw1, ← HXX.out]
  clear hw1 HXX
  have z : w1.cell? ⟨X, 0, none⟩ = some (.int .i64 s) := by rw [cell_of_row _ _ _ _ _ _ HBX.out]; rfl
  have hcv := conv_bytes (HR.out.kept0 HSw1.out) Hl.out Hok.out
  go_wp2_with (go_at_call 81; refine (HC.out _).mono ?_; rintro _ _ ⟨rfl, rfl⟩)
  go_wp2_with fail
  go_ret2
  exact ⟨rfl, HA.out⟩
set_option maxRecDepth 100000 in
theorem text_ok {w : World} {s x : Int} {t : ByteArray} : Calls Try.prog 110 #[.agg (rg s x t)] w fun r w' => ∃ sl : Sl, r = .returned (.slice sl.p sl.n sl.c) ∧ Apart [] w w' ∧ sl.ok ∧ RdT w' sl.p 5 (byts (bsk t)) ∧ (bsk t).length = sl.n := by
  have HA := hid (Apart.refl [] w)
  unfold rg
  go_enter Try.func110, Try.ntmps110
  go_upto_region 1 with fail
  obtain ⟨X, HXX⟩ : ∃ X, Hid (X = w.heap.size) := ⟨_, rfl⟩
  obtain ⟨w1, hw1⟩ : ∃ W, W = w.alloc (.cells #[.int .i64 s, .int .i64 x, .string t] 95) := ⟨_, rfl⟩
  have HSw1 : Hid (Apart [] w w1) := by unfold Hid; rw [hw1]; exact (Apart.refl [] w).alloc _
  have HBX : Hid (w1.heap[X]? = some (.cells #[.int .i64 s, .int .i64 x, .string t] 95 (0, 0))) := by unfold Hid; rw [HXX.out, hw1]; exact heap_alloc_new w _
  have HLX : Hid (w.heap.size ≤ X) := by unfold Hid; rw [HXX.out]; exact HA.out.size
  replace HA := hid (HA.out.trans HSw1.out)
  rw [← hw1, ← HXX.out]
  clear hw1 HXX
  have z : w1.cell? ⟨X, 2, none⟩ = some (.string t) := by rw [cell_of_row _ _ _ _ _ _ HBX.out]; rfl
  obtain ⟨sl, w2, hcv, a2, o2, r2, l2⟩ := conv_str w1 t
  have H2 := hid (And.intro a2 (And.intro o2 (And.intro r2 l2)))
  clear a2 o2 r2 l2
  go_wp2_with fail
  go_ret
  exact ⟨sl, rfl, HA.out.trans H2.out.1, H2.out.2.1, H2.out.2.2.1, H2.out.2.2.2⟩
end Go.Proofs.Ytdbeeikjngnnnaa.ty
