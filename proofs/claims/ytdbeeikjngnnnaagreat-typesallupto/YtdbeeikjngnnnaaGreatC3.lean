import Derived.Test.YtdbeeikjngnnnaaGreatC2
namespace Go.Proofs.YtdbeeikjngnnnaaGreat.ty
open Go.ChangeShapes Go.WideShapes Go.ChangeAt Go.RowKit
set_option linter.unusedVariables false
set_option linter.unusedSimpArgs false
set_option maxRecDepth 100000
set_option maxHeartbeats 8000000
def strB (bs : List Nat) : ByteArray := (bs.map (fun (b : Nat) => (b : Int))).foldl (fun r n => r.push (UInt8.ofNat n.toNat)) ByteArray.empty
theorem conv_bytes {w : World} {s : Sl} {bs : List Nat} (h : Rd w s.p (byts bs)) (hl : bs.length = s.n) (ok : s.ok) : Sem.run Tryz.prog (convert 29 9 (.slice s.p s.n s.c)) w = .ok (.string (strB bs)) w := by
 rw [run_convert_bytes_string w 29 9 5 _ _ _ Tryz.underlying29 Tryz.underlying5 Tryz.underlying9]
 obtain ⟨p, n, c⟩ := s
 unfold Sl.ok at ok
 simp only at h hl ok ⊢
 have hbl : (byts bs).length = n := by simp [byts, hl]
 cases p with
 | none =>
  obtain ⟨rfl, rfl⟩ := ok rfl
  obtain rfl : bs = [] := List.eq_nil_of_length_eq_zero hl
  simp [Conv.bytesToString, strB]
 | some a =>
  refine run_bytesToString w _ _ _ (bs.map (fun (b : Nat) => (b : Int))) ?_
  have := run_loadCells_list (P := Tryz.prog) w a (byts bs) (fun j v hv => by
   obtain ⟨P, o, e, _, hc⟩ := h (by
    by_cases h0 : 0 < (byts bs).length
    ·exact h0
    ·rw [List.getElem?_eq_none (by omega)] at hv; cases hv)
   cases e
   rw [Addr.add_lit]; exact hc j v hv)
  rw [hbl] at this
  rw [this]
  simp [byts]
def bsk (k : ByteArray) : List Nat := k.toList.map UInt8.toNat
theorem bsk_len (k : ByteArray) : (bsk k).length = k.size := by
 rw [bsk, List.length_map, ByteArray.toList_eq, Array.length_toList]; rfl
def RdT (w : World) (p : Option Addr) (t : Nat) (us : List Value) : Prop := 0 < us.length → ∃ P o, p = some ⟨P, o, none⟩ ∧ (∃ cur m, w.heap[P]? = some (.cells cur t m)) ∧ ∀ j u, us[j]? = some u → w.cell? ⟨P, o + j, none⟩ = some u
theorem RdT.nil (w : World) (p : Option Addr) (t : Nat) : RdT w p t [] := fun h => absurd h (by simp)
theorem RdT.rd {w : World} {p : Option Addr} {t : Nat} {us : List Value} (h : RdT w p t us) : Rd w p us := fun h0 => by
 obtain ⟨P, o, e, ⟨cur, m, hb⟩, hc⟩ := h h0
 exact ⟨P, o, e, lt_of_heap hb, hc⟩
theorem lt_of_heapM {w : World} {g : Nat} {cs : Array Value} {t : TypeId} {m : Nat × Nat} (h : w.heap[g]? = some (.cells cs t m)) : g < w.heap.size := by
 rcases Nat.lt_or_ge g w.heap.size with h1 | h1
 ·exact h1
 ·rw [Array.getElem?_eq_none h1] at h; cases h
theorem RdT.kept {w w' : World} {p : Option Addr} {t : Nat} {us : List Value} {X : List Nat} (h : RdT w p t us) (a : Apart X w w') (hX : ∀ k ∈ X, ∀ cur m, w.heap[k]? ≠ some (.cells cur t m)) : RdT w' p t us := fun h0 => by
 obtain ⟨P, o, e, ⟨cur, m, hb⟩, hc⟩ := h h0
 have hn : P ∉ X := fun hm => hX P hm cur m hb
 exact ⟨P, o, e, ⟨cur, m, (a.block P (lt_of_heap hb) hn).trans hb⟩, fun j u hj => (a.cell (lt_of_heap hb) hn).trans (hc j u hj)⟩
theorem conv_str (w : World) (s : ByteArray) : ∃ (sl : Sl) (w' : World), Sem.run Tryz.prog (convert 9 29 (.string s)) w = .ok (.slice sl.p sl.n sl.c) w' ∧ Apart [] w w' ∧ sl.ok ∧ RdT w' sl.p 5 (byts (bsk s)) ∧ (bsk s).length = sl.n := by
 refine ⟨⟨some ⟨w.heap.size, 0, none⟩, s.size, grownCap w s.size 0 5⟩, Go.Lib.bytesWorld w 5 s, Go.Lib.run_convert_string_bytes w 9 29 5 s Tryz.underlying9 Tryz.underlying29 Tryz.underlying5, ?_, (fun e => by cases e), ?_, bsk_len s⟩
 ·exact ⟨by rfl, by rfl, by rfl, by rw [Go.Lib.bytesWorld_size]; omega, fun k hk _ => Go.Lib.bytesWorld_at_old w 5 s k hk⟩
 ·intro h0
  refine ⟨w.heap.size, 0, rfl, ⟨_, _, Go.Lib.bytesWorld_at_new w 5 s⟩, fun j u hj => ?_⟩
  have hl := bsk_len s
  have hjl : j < (bsk s).length := by
   have := (List.getElem?_eq_some_iff.1 hj).1
   simpa [byts] using this
  rw [Nat.zero_add, Go.Lib.bytesWorld_cell w 5 s j (by omega)]
  have e1 : (bsk s)[j]? = some ((s.data.toList.getD j 0).toNat) := by
   have h2 : j < s.data.toList.length := by rw [Array.length_toList]; have : s.data.size = s.size := rfl; omega
   unfold bsk
   rw [ByteArray.toList_eq, List.getElem?_map, List.getD_eq_getElem?_getD, List.getElem?_eq_getElem h2]
   rfl
  rw [byts, List.getElem?_map, e1] at hj
  simp only [Option.map_some, Option.some.injEq] at hj
  rw [← hj]
def rg (s a : Int) (t : ByteArray) : Array Value := #[.int .i64 s, .int .i64 a, .string t]
theorem write_actor {w : World} {cs : Array Value} (a : Int) (b : Value) (ha : isA a = false) : Calls Tryz.prog 137 #[.agg cs, .int .i64 a, b] w fun r w' => r = .returned (.tuple #[.nilIface, .int .i64 191]) ∧ Apart [] w w' := by
 have hc := fun wx => isActor_ok wx a
 rw [ha] at hc
 clear ha
 have HC := hid hc
 clear hc
 go_enter Tryz.func137, Tryz.ntmps137
 go_wp2_with (go_at_call 106; refine (HC.out _).mono ?_; rintro _ _ ⟨rfl, rfl⟩)
 go_wp2_with fail
 go_ret2
 exact ⟨rfl, (Apart.refl _ _).alloc _⟩
theorem write_long {w : World} {cs : Array Value} (i : Nat) (hi : i < 8) (p : Option Addr) (n c : Nat) (hn : ((n : Nat) : Int) > 59) : Calls Tryz.prog 137 #[.agg cs, .int .i64 (i : Int), .slice p n c] w fun r w' => r = .returned (.tuple #[.nilIface, .int .i64 2]) ∧ Apart [] w w' := by
 have hc := fun wx => isActor_ok wx (i : Int)
 have ha : isA (i : Int) = true := by simp [isA]; omega
 rw [ha] at hc
 clear ha
 have HC := hid hc
 clear hc
 go_enter Tryz.func137, Tryz.ntmps137
 go_wp2_with (go_at_call 106; refine (HC.out _).mono ?_; rintro _ _ ⟨rfl, rfl⟩)
 go_wp2_with fail
 go_ret2
 exact ⟨rfl, (Apart.refl _ _).alloc _⟩
theorem write_full {w : World} {x : Int} {t : ByteArray} (i : Nat) (hi : i < 8) (p : Option Addr) (n c : Nat) (hn : ¬ ((n : Nat) : Int) > 59) : Calls Tryz.prog 137 #[.agg (rg 16777215 x t), .int .i64 (i : Int), .slice p n c] w fun r w' => r = .returned (.tuple #[.nilIface, .int .i64 92]) ∧ Apart [] w w' := by
 have hc := fun wx => isActor_ok wx (i : Int)
 have ha : isA (i : Int) = true := by simp [isA]; omega
 rw [ha] at hc
 clear ha
 have HC := hid hc
 clear hc
 have HA := hid (Apart.refl [] w)
 unfold rg
 go_enter Tryz.func137, Tryz.ntmps137
 go_upto_region 1 with fail
 obtain ⟨X, HXX⟩ : ∃ X, Hid (X = w.heap.size) := ⟨_, rfl⟩
 obtain ⟨w1, hw1⟩ : ∃ W, W = w.alloc (.cells #[.int .i64 16777215, .int .i64 x, .string t] 108) := ⟨_, rfl⟩
 have HSw1 : Hid (Apart [] w w1) := hid (zM hw1)
 have HBX : Hid (w1.heap[X]? = some (.cells #[.int .i64 16777215, .int .i64 x, .string t] 108 (0, 0))) := hid (zN HXX.out hw1)
 have HLX : Hid (w.heap.size ≤ X) := by unfold Hid; rw [HXX.out]; exact HA.out.size
 replace HA := hid (HA.out.trans HSw1.out)
 rw [← hw1, ← HXX.out]
 clear hw1 HXX
 have z : w1.cell? ⟨X, 0, none⟩ = some (.int .i64 16777215) := zK HBX.out
 go_wp2_with (go_at_call 106; refine (HC.out _).mono ?_; rintro _ _ ⟨rfl, rfl⟩)
 go_wp2_with fail
 go_ret2
 exact ⟨rfl, HA.out⟩
theorem write_ok {w : World} {s x : Int} {t : ByteArray} (hs : 0 ≤ s) (hs' : s < 16777215) (i : Nat) (hi : i < 8) {sl : Sl} {bs : List Nat} (hb : Rd w sl.p (byts bs)) (hl : bs.length = sl.n) (ok : sl.ok) (hn : ¬ ((sl.n : Nat) : Int) > 59) : Calls Tryz.prog 137 #[.agg (rg s x t), .int .i64 (i : Int), .slice sl.p sl.n sl.c] w fun r w' => r = .returned (.tuple #[.iface 108 (.agg (rg (s + 1) (i : Int) (strB bs))), .int .i64 0]) ∧ Apart [] w w' := by
 have hc := fun wx => isActor_ok wx (i : Int)
 have ha : isA (i : Int) = true := by simp [isA]; omega
 rw [ha] at hc
 clear ha
 have HC := hid hc
 clear hc
 have HA := hid (Apart.refl [] w)
 have hne : (s == 16777215) = false := by simp only [beq_eq_false_iff_ne]; omega
 have hw : wrap64 (s + 1) = s + 1 := IntWalk.wrap64_in _ (by omega)
 have HR := hid hb
 have Hl := hid hl
 have Hok := hid ok
 clear hs hs' hb hl ok
 unfold rg
 go_enter Tryz.func137, Tryz.ntmps137
 go_upto_region 1 with fail
 obtain ⟨X, HXX⟩ : ∃ X, Hid (X = w.heap.size) := ⟨_, rfl⟩
 obtain ⟨w1, hw1⟩ : ∃ W, W = w.alloc (.cells #[.int .i64 s, .int .i64 x, .string t] 108) := ⟨_, rfl⟩
 have HSw1 : Hid (Apart [] w w1) := hid (zM hw1)
 have HBX : Hid (w1.heap[X]? = some (.cells #[.int .i64 s, .int .i64 x, .string t] 108 (0, 0))) := hid (zN HXX.out hw1)
 have HLX : Hid (w.heap.size ≤ X) := by unfold Hid; rw [HXX.out]; exact HA.out.size
 replace HA := hid (HA.out.trans HSw1.out)
 rw [← hw1, ← HXX.out]
 clear hw1 HXX
 have z : w1.cell? ⟨X, 0, none⟩ = some (.int .i64 s) := zK HBX.out
 have hcv := conv_bytes (HR.out.kept0 HSw1.out) Hl.out Hok.out
 go_wp2_with (go_at_call 106; refine (HC.out _).mono ?_; rintro _ _ ⟨rfl, rfl⟩)
 go_wp2_with fail
 go_ret2
 exact ⟨rfl, HA.out⟩
theorem Merge_ok {w : World} {V O : Nat} {T T' : TypeId} {x y : Value} {P : Array Value → World → Prop} (hV : Bd w V (.iface T x)) (hO : Bd w O (.iface T' y)) (hc : ∀ wx, Apart [] w wx → Calls Tryz.prog 42 #[.iface T x, .iface T' y] wx fun r w' => ∃ es, r = .returned (.tuple #[.iface T (.agg es), .int .i64 0]) ∧ Apart [] wx w' ∧ P es w') : Calls Tryz.prog 21 #[.pointer (some ⟨V, 0, none⟩), .pointer (some ⟨O, 0, none⟩)] w fun r w' => r = .returned (.int .i64 0) ∧ ∃ es w2, Bd w' V (.iface T (.agg es)) ∧ Apart [] w w2 ∧ Apart [V] w2 w' ∧ P es w2 := by
 have HV := hid hV
 have HO := hid hO
 have HC := hid hc
 clear hV hO hc
 go_enter Tryz.func21, Tryz.ntmps21
 go_upto_region 3 with fail
 have hAd : Apart [V] w w.drew := (Apart.refl [V] w).drew
 have HA : Hid (Apart [] w w.drew) := (Apart.refl [] w).drew
 refine wp_region_held_drew (S := fun W => Apart [V] w W) (by kernel_rfl) hAd (fun hHeld => ?_)
 generalize w.drew = wd at *
 clear hAd
 refine zt 0 7 ?_
 refine zt 1 8 ?_
 refine zt 2 9 ?_
 refine zt 3 10 ?_
 refine zt 5 12 ?_
 refine zt 6 13 ?_
 refine zt 7 14 ?_
 simp only [zA,zB,zC,zD,zF]
 refine wpAnyH_ready (rs := [4, 8]) (by kernel_rfl) (by simp) ?_
 refine AllReadyH.cons rfl (fun KK hKK => ?_) (AllReadyH.cons rfl (fun KK hKK => ?_) AllReadyH.nil)
 ·have z4 : wd.cell? ⟨V, 0, none⟩ = some (.iface T x) := by rw [cell_of_row _ _ _ _ _ _ (keep0 HA.out HV.out)]; rfl
  go_simp
  refine hKK.out _ _ hHeld (fun hHeld => ?_)
  clear hKK KK z4
  try simp only [zA,zB,zC,zD,zF]
  refine zQ 8 fun KK hKK => ?_
  have z8 : wd.cell? ⟨O, 0, none⟩ = some (.iface T' y) := by rw [cell_of_row _ _ _ _ _ _ (keep0 HA.out HO.out)]; rfl
  go_simp
  refine hKK.out _ _ hHeld (fun hHeld => ?_)
  clear hKK KK z8
  try simp only [zA,zB,zC,zD,zF]
  refine zQ 9 fun KK hKK => ?_
  go_simp
  refine (HC.out _ HA.out).mono ?_
  rintro _ w2 ⟨es, rfl, a2, p2⟩
  have HA2 := hid (HA.out.trans a2)
  have HP := hid p2
  have hH2 := hHeld.trans (a2.mono (by simp))
  clear a2 p2
  try dsimp only
  refine hKK.out _ _ hH2 (fun hHeld => ?_)
  clear hKK KK
  try simp only [zA,zB,zC,zD,zF]
  refine zt 10 17 ?_
  refine zt 11 18 ?_
  simp only [zA,zB,zC,zD,zF]
  refine zQ 12 fun KK hKK => ?_
  go_simp
  refine (become_ok (keep0 HA2.out HV.out) T (.agg es)).mono ?_
  rintro _ w3 ⟨rfl, b3, a3⟩
  have H3 := hid (And.intro b3 a3)
  have hH3 := hHeld.trans a3
  clear b3 a3
  try dsimp only
  refine hKK.out _ _ hH3 (fun hHeld => ?_)
  clear hKK KK
  try simp only [zA,zB,zC,zD,zF]
  refine zt 13 4 ?_
  simp only [zA,zB,zC,zD,zF]
  refine wpAnyH_done (by kernel_rfl) ?_ _
  clear hHeld
  go_wp2_with fail
  go_ret
  exact ⟨rfl, es, w2, H3.out.1, HA2.out, H3.out.2, HP.out⟩
 ·have z8 : wd.cell? ⟨O, 0, none⟩ = some (.iface T' y) := by rw [cell_of_row _ _ _ _ _ _ (keep0 HA.out HO.out)]; rfl
  go_simp
  refine hKK.out _ _ hHeld (fun hHeld => ?_)
  clear hKK KK z8
  try simp only [zA,zB,zC,zD,zF]
  refine zQ 4 fun KK hKK => ?_
  have z4 : wd.cell? ⟨V, 0, none⟩ = some (.iface T x) := by rw [cell_of_row _ _ _ _ _ _ (keep0 HA.out HV.out)]; rfl
  go_simp
  refine hKK.out _ _ hHeld (fun hHeld => ?_)
  clear hKK KK z4
  try simp only [zA,zB,zC,zD,zF]
  refine zQ 9 fun KK hKK => ?_
  go_simp
  refine (HC.out _ HA.out).mono ?_
  rintro _ w2 ⟨es, rfl, a2, p2⟩
  have HA2 := hid (HA.out.trans a2)
  have HP := hid p2
  have hH2 := hHeld.trans (a2.mono (by simp))
  clear a2 p2
  try dsimp only
  refine hKK.out _ _ hH2 (fun hHeld => ?_)
  clear hKK KK
  try simp only [zA,zB,zC,zD,zF]
  refine zt 10 17 ?_
  refine zt 11 18 ?_
  simp only [zA,zB,zC,zD,zF]
  refine zQ 12 fun KK hKK => ?_
  go_simp
  refine (become_ok (keep0 HA2.out HV.out) T (.agg es)).mono ?_
  rintro _ w3 ⟨rfl, b3, a3⟩
  have H3 := hid (And.intro b3 a3)
  have hH3 := hHeld.trans a3
  clear b3 a3
  try dsimp only
  refine hKK.out _ _ hH3 (fun hHeld => ?_)
  clear hKK KK
  try simp only [zA,zB,zC,zD,zF]
  refine zt 13 4 ?_
  simp only [zA,zB,zC,zD,zF]
  refine wpAnyH_done (by kernel_rfl) ?_ _
  clear hHeld
  go_wp2_with fail
  go_ret
  exact ⟨rfl, es, w2, H3.out.1, HA2.out, H3.out.2, HP.out⟩
theorem nanI (w : World) (a : Int) : Calls Tryz.prog 73 #[.int .i64 a] w fun r w' => r = .returned (.bool false) ∧ w' = w := by
 go_enter Tryz.func73, Tryz.ntmps73
 go_wp2_with fail
 go_ret
 exact ⟨by first | rfl | simp, rfl⟩
theorem nanS (w : World) (a : ByteArray) : Calls Tryz.prog 74 #[.string a] w fun r w' => r = .returned (.bool false) ∧ w' = w := by
 go_enter Tryz.func74, Tryz.ntmps74
 go_wp2_with fail
 go_ret
 exact ⟨by first | rfl | simp, rfl⟩
def cmI (a b : Int) : Int := if a < b then -1 else if a > b then 1 else 0
theorem cmpI (w : World) (a b : Int) : Calls Tryz.prog 70 #[.int .i64 a, .int .i64 b] w fun r w' => r = .returned (.int .i64 (cmI a b)) ∧ w' = w := by
 have HN := hid nanI
 by_cases h1 : a < b
 ·have e : cmI a b = -1 := by simp [cmI, h1]
  rw [e]
  go_enter Tryz.func70, Tryz.ntmps70
  go_wp2_with (go_at_call 73; refine (HN.out _ _).mono ?_; rintro _ _ ⟨rfl, rfl⟩)
  go_ret
  exact ⟨rfl, rfl⟩
 ·by_cases h2 : a > b
  ·have e : cmI a b = 1 := by simp [cmI, h1, h2]
   rw [e]
   go_enter Tryz.func70, Tryz.ntmps70
   go_wp2_with (go_at_call 73; refine (HN.out _ _).mono ?_; rintro _ _ ⟨rfl, rfl⟩)
   go_ret
   exact ⟨rfl, rfl⟩
  ·have e : cmI a b = 0 := by simp [cmI, h1]; omega
   rw [e]
   go_enter Tryz.func70, Tryz.ntmps70
   go_wp2_with (go_at_call 73; refine (HN.out _ _).mono ?_; rintro _ _ ⟨rfl, rfl⟩)
   go_ret
   exact ⟨rfl, rfl⟩
def cmS (a b : ByteArray) : Int := if Op.bytesLess a.toList b.toList then -1 else if a.toList == b.toList then 0 else 1
theorem cmpS (w : World) (a b : ByteArray) : Calls Tryz.prog 71 #[.string a, .string b] w fun r w' => r = .returned (.int .i64 (cmS a b)) ∧ w' = w := by
 have HN := hid nanS
 cases h1 : Op.bytesLess a.toList b.toList
 ·cases h2 : (a.toList == b.toList)
  ·have e : cmS a b = 1 := by simp only [cmS, h1, h2]; rfl
   rw [e]
   go_enter Tryz.func71, Tryz.ntmps71
   go_wp2_with (go_at_call 74; refine (HN.out _ _).mono ?_; rintro _ _ ⟨rfl, rfl⟩)
   go_ret
   exact ⟨rfl, rfl⟩
  ·have e : cmS a b = 0 := by simp only [cmS, h1, h2]; rfl
   rw [e]
   go_enter Tryz.func71, Tryz.ntmps71
   go_wp2_with (go_at_call 74; refine (HN.out _ _).mono ?_; rintro _ _ ⟨rfl, rfl⟩)
   go_ret
   exact ⟨rfl, rfl⟩
 ·have e : cmS a b = -1 := by simp only [cmS, h1]; rfl
  rw [e]
  go_enter Tryz.func71, Tryz.ntmps71
  go_wp2_with (go_at_call 74; refine (HN.out _ _).mono ?_; rintro _ _ ⟨rfl, rfl⟩)
  go_ret
  exact ⟨rfl, rfl⟩
def orL : List Int → Int
 | [] => 0
 | x :: r => if x ≠ 0 then x else orL r
theorem orL_drop {xs : List Int} {i : Nat} (hi : i < xs.length) : orL (xs.drop i) = if xs.getD i 0 ≠ 0 then xs.getD i 0 else orL (xs.drop (i + 1)) := by
 rw [List.drop_eq_getElem_cons hi, orL]
 simp [hi]
theorem or_ok {w : World} {P o n c : Nat} {xs : List Int} (hl : xs.length = n) (hn : n ≤ 1000) (hr : ∀ j u, (rv xs)[j]? = some u → w.cell? ⟨P, o + j, none⟩ = some u) : Calls Tryz.prog 69 #[.slice (some ⟨P, o, none⟩) n c] w fun r w' => r = .returned (.int .i64 (orL xs)) ∧ w' = w := by
 have HR := hid hr
 have Hl := hid hl
 clear hr hl
 obtain ⟨rr, Hrr⟩ : ∃ z : Int, Hid (z = orL xs) := ⟨_, hid rfl⟩
 rw [← Hrr.out]
 go_enter Tryz.func69, Tryz.ntmps69
 go_wp2_with fail
 go_loopw [8] (fun v wt => ∃ i : Nat, v = .int .i64 (i : Nat) ∧ i ≤ n ∧ wt = w ∧ Hid (rr = orL (xs.drop i))) (fun v _ => n - (intOf v).toNat)
 case atStart => exact ⟨0, rfl, Nat.zero_le _, rfl, Hrr⟩
 case round =>
  obtain ⟨i, rfl, hi, rfl, HI⟩ := hrel
  by_cases hlt : i < n
  ·have hlti : ((i : Nat) : Int) < ((n : Nat) : Int) := by omega
   have z := HR.out i _ (rv_at xs i (by rw [Hl.out]; exact hlt))
   have hd := orL_drop (xs := xs) (i := i) (by rw [Hl.out]; exact hlt)
   obtain ⟨x, Hx⟩ : ∃ z : Int, Hid (z = xs.getD i 0) := ⟨_, hid rfl⟩
   rw [← Hx.out] at z hd
   have HD := hid hd
   clear hd
   by_cases he : x = 0
   ·subst he
    have HI2 : Hid (rr = orL (xs.drop (i + 1))) := by unfold Hid; rw [HI.out, HD.out]; simp
    go_wp2_with fail
    go_roundw
    case rel => exact ⟨i + 1, by go_num, by omega, by first | rfl | trivial, HI2⟩
    case measure => simp [intOf]; omega
   ·have hb : (x != 0) = true := by simp [he]
    have HI2 : Hid (rr = x) := by unfold Hid; rw [HI.out, HD.out, if_pos he]
    clear he
    go_wp2_with fail
    go_ret
    exact ⟨by first | rfl | (rw [HI2.out]; rfl), rfl⟩
  ·have hlti : ¬ ((i : Nat) : Int) < ((n : Nat) : Int) := by omega
   have HI2 : Hid (rr = 0) := by unfold Hid; rw [HI.out, List.drop_eq_nil_of_le (by rw [Hl.out]; omega)]; rfl
   go_wp2_with fail
   go_ret
   exact ⟨by first | rfl | (rw [HI2.out]; rfl), rfl⟩
end Go.Proofs.YtdbeeikjngnnnaaGreat.ty
