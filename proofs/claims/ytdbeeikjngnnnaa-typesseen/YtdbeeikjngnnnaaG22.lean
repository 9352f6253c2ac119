import Derived.Test.YtdbeeikjngnnnaaG21
namespace Go.Proofs.Ytdbeeikjngnnnaa.ty
open Go.ChangeShapes Go.WideShapes Go.ChangeAt Go.RowKit
set_option linter.unusedVariables false
set_option linter.unusedSimpArgs false
theorem Rr.setX {wB w w' : World} {R X : Nat} {s : Sl} {us : List Nat} (h : Rr wB w R s us) (a : Apart [X] w w') (hn : X ≠ R) (hX : wB.heap.size ≤ X) : Rr wB w' R s us :=
  ⟨keepB a h.blk hn.symm, h.new, h.ap.trans' a (by intro y hy; simp at hy; rw [hy]; exact .inr hX), h.rd, h.len, h.cap, h.ok, h.u8⟩
/-- what a register's bytes tell -/
def regR (us : List Nat) : Nat × Nat × List Nat := (leV ((us.drop 1).take 3), leV (((us.drop 1).drop 3).take 1), (((us.drop 1).drop 3).drop 1).take 59)
set_option maxHeartbeats 1000000 in
set_option maxRecDepth 100000 in
theorem gread_ok {wB w : World} {R : Nat} {s : Sl} {us : List Nat} (h : Rr wB w R s us) (hl : us.length ≤ 1000000) : Calls Try.prog 108 #[.agg (ty.rg 0 0 ⟨#[]⟩), .pointer (some ⟨R, 0, none⟩)] w fun r w' => r = .returned (.iface 95 (.agg (ty.rg ((regR us).1 : Int) ((regR us).2.1 : Int) (strB (regR us).2.2)))) ∧ Apart [R] w w' := by
  have HWB : Hid (wB.heap.size ≤ w.heap.size) := hid h.ap.size
  have HR := hid h
  have Hl := hid hl
  have hRl := lt_of_heap h.blk
  clear h hl
  obtain ⟨n, Hn⟩ : ∃ n, Hid (n = leV ((us.drop 1).take 3)) := ⟨_, hid rfl⟩
  obtain ⟨a, Ha⟩ : ∃ n, Hid (n = leV (((us.drop 1).drop 3).take 1)) := ⟨_, hid rfl⟩
  obtain ⟨ts, Hts⟩ : ∃ n, Hid (n = (((us.drop 1).drop 3).drop 1).take 59) := ⟨_, hid rfl⟩
  have e : regR us = (n, a, ts) := by rw [regR, Hn.out, Ha.out, Hts.out]
  rw [e]
  clear e
  unfold ty.rg
  go_enter Try.func108, Try.ntmps108
  go_upto_region 1 with fail
  obtain ⟨X, HXX⟩ : ∃ X, Hid (X = w.heap.size) := ⟨_, rfl⟩
  obtain ⟨w1, hw1⟩ : ∃ W, W = w.alloc (.cells #[.int .i64 0, .int .i64 0, .string ⟨#[]⟩] 95) := ⟨_, rfl⟩
  have HSw1 : Hid (Apart [] w w1) := by unfold Hid; rw [hw1]; exact (Apart.refl [] w).alloc _
  have HBX : Hid (w1.heap[X]? = some (.cells #[.int .i64 0, .int .i64 0, .string ⟨#[]⟩] 95 (0, 0))) := by unfold Hid; rw [HXX.out, hw1]; exact heap_alloc_new w _
  have HLX : Hid (w.heap.size ≤ X) := by unfold Hid; rw [HXX.out]; exact Nat.le_refl _
  have HN : Hid (X ≠ R) := hid (by have := HLX.out; omega)
  have HBW : Hid (wB.heap.size ≤ X) := hid (Nat.le_trans HWB.out HLX.out)
  rw [← hw1, ← HXX.out]
  clear hw1 HXX hRl
  have HC := hid (next_ok (HR.out.kept0 HSw1.out) Hl.out 1 (by omega))
  go_upto_region 2 with (go_at_call 83; refine HC.out.mono ?_; rintro _ w2 ⟨a2, rfl, p2, b2, q2, s2⟩; have HR2 := hid q2; have HS2 := hid s2; clear p2 q2 s2 HC)
  have HBX2 := hid (keepB HS2.out HBX.out HN.out)
  have HC := hid (number_ok HR2.out (by have := Hl.out; rw [List.length_drop]; omega) 3 (by omega))
  rw [← Hn.out] at HC
  clear HBX HR
  go_upto_region 3 with (go_at_call 65; refine HC.out.mono ?_; rintro _ w3 ⟨rfl, ⟨b3, q3⟩, s3⟩; have HR3 := hid q3; have HS3 := hid s3; have HBX3 := hid (keepB HS3.out HBX2.out HN.out); clear q3 s3 HC; have z3 : w3.cell? ⟨X, 0, none⟩ = some (.int .i64 0) := (by rw [cell_of_row _ _ _ _ _ _ HBX3.out]; rfl); have f3 := frozen_of_row _ _ 0 _ _ HBX3.out)
  have HS4 : Hid (Apart [X] w3 (w3.setCell ⟨X, 0, none⟩ (.int .i64 (n : Int)))) := hid ((Apart.refl [X] w3).setCell (p := ⟨X, 0, none⟩) (.inl (by simp)) _)
  have HBX4 : Hid ((w3.setCell ⟨X, 0, none⟩ (.int .i64 (n : Int))).heap[X]? = some (.cells #[.int .i64 (n : Int), .int .i64 0, .string ⟨#[]⟩] 95 (0, 0))) := hid (by rw [heap_setCell_same w3 X 0 _ 95 _ HBX3.out]; rfl)
  generalize w3.setCell ⟨X, 0, none⟩ (.int .i64 (n : Int)) = w4 at *
  have HR4 := hid (HR3.out.setX HS4.out HN.out HBW.out)
  have HC := hid (number_ok HR4.out (by have := Hl.out; simp only [List.length_drop]; omega) 1 (by omega))
  rw [← Ha.out] at HC
  clear HR3 HBX2 z3 f3 HBX3
  go_upto_region 4 with (go_at_call 65; refine HC.out.mono ?_; rintro _ w5 ⟨rfl, ⟨b5, q5⟩, s5⟩; have HR5 := hid q5; have HS5 := hid s5; have HBX5 := hid (keepB HS5.out HBX4.out HN.out); clear q5 s5 HC; have z5 : w5.cell? ⟨X, 1, none⟩ = some (.int .i64 0) := (by rw [cell_of_row _ _ _ _ _ _ HBX5.out]; rfl); have f5 := frozen_of_row _ _ 1 _ _ HBX5.out)
  have HS6 : Hid (Apart [X] w5 (w5.setCell ⟨X, 1, none⟩ (.int .i64 (a : Int)))) := hid ((Apart.refl [X] w5).setCell (p := ⟨X, 1, none⟩) (.inl (by simp)) _)
  have HBX6 : Hid ((w5.setCell ⟨X, 1, none⟩ (.int .i64 (a : Int))).heap[X]? = some (.cells #[.int .i64 (n : Int), .int .i64 (a : Int), .string ⟨#[]⟩] 95 (0, 0))) := hid (by rw [heap_setCell_same w5 X 1 _ 95 _ HBX5.out]; rfl)
  generalize w5.setCell ⟨X, 1, none⟩ (.int .i64 (a : Int)) = w6 at *
  have HR6 := hid (HR5.out.setX HS6.out HN.out HBW.out)
  have HC := hid (next_ok HR6.out (by have := Hl.out; simp only [List.length_drop]; omega) 59 (by omega))
  rw [← Hts.out] at HC
  clear HR5 HBX4 z5 f5 HBX5 HR4
  go_wp2_with (first
    | (go_at_call 83; refine HC.out.mono ?_; rintro _ w7 ⟨a7, rfl, p7, b7, q7, s7⟩; have HS7 := hid s7; have HBX7 := hid (keepB HS7.out HBX6.out HN.out); have hcv := conv_bytes (p7.rd.kept0 q7.ap) p7.len p7.ok; clear q7 s7 p7 HC; have z7 : w7.cell? ⟨X, 2, none⟩ = some (.string ⟨#[]⟩) := (by rw [cell_of_row _ _ _ _ _ _ HBX7.out]; rfl); have f7 := frozen_of_row _ _ 2 _ _ HBX7.out)
    | refine wpList_load_row rfl 95 _ rfl X rfl 95 #[.int .i64 (n : Int), .int .i64 (a : Int), .string (strB ts)] (0, 0) _ (by rw [heap_setCell_same w7 X 2 _ 95 _ HBX7.out]; rfl) Try.underlying95 rfl (by rw [size95]; rfl) ?_)
  go_ret
  refine ⟨rfl, ?_⟩
  have hX : ∀ y ∈ [X], y ∈ [R] ∨ w.heap.size ≤ y := by intro y hy; simp at hy; rw [hy]; exact .inr HLX.out
  exact (((((((HSw1.out.mono (by simp)).trans HS2.out).trans HS3.out).trans' HS4.out hX).trans HS5.out).trans' HS6.out hX).trans HS7.out).setCell (p := ⟨X, 2, none⟩) (.inr HLX.out) _
set_option maxRecDepth 100000 in
theorem equal_ok {w : World} {s s' : Sl} {bs cs : List Nat} (h : Rd w s.p (byts bs)) (hl : bs.length = s.n) (ok : s.ok) (h' : Rd w s'.p (byts cs)) (hl' : cs.length = s'.n) (ok' : s'.ok) : Calls Try.prog 30 #[.slice s.p s.n s.c, .slice s'.p s'.n s'.c] w fun r w' => r = .returned (.bool ((strB bs).toList == (strB cs).toList)) ∧ w' = w := by
  have e1 := conv_bytes h hl ok
  have e2 := conv_bytes h' hl' ok'
  clear h hl ok h' hl' ok'
  go_enter Try.func30, Try.ntmps30
  go_wp2_with fail
  go_ret
  exact ⟨by first | rfl | simp, rfl⟩
theorem strB_data (bs : List Nat) : (strB bs).data.toList = bs.map UInt8.ofNat := by
  unfold strB
  have : ∀ (l : List Int) (r : ByteArray), (l.foldl (fun r n => r.push (UInt8.ofNat n.toNat)) r).data.toList = r.data.toList ++ l.map (fun n => UInt8.ofNat n.toNat) := by
    intro l
    induction l with
    | nil => intro r; simp
    | cons a l ih => intro r; rw [List.foldl_cons, ih, ByteArray.data_push]; simp
  rw [this]
  simp [List.map_map, Function.comp_def]
theorem map8_inj : ∀ {a b : List Nat}, (∀ x ∈ a, x < 256) → (∀ x ∈ b, x < 256) → a.map UInt8.ofNat = b.map UInt8.ofNat → a = b
  | [], [], _, _, _ => rfl
  | [], _ :: _, _, _, h => by simp at h
  | _ :: _, [], _, _, h => by simp at h
  | x :: a, y :: b, ha, hb, h => by
    simp only [List.map_cons, List.cons.injEq] at h
    have h1 : x = y := by
      have h2 := congrArg UInt8.toNat h.1
      rw [UInt8.toNat_ofNat', UInt8.toNat_ofNat'] at h2
      have h3 := ha x (by simp)
      have h4 := hb y (by simp)
      omega
    rw [h1, map8_inj (fun z hz => ha z (List.mem_cons_of_mem _ hz)) (fun z hz => hb z (List.mem_cons_of_mem _ hz)) h.2]
theorem strB_eq {a b : List Nat} (ha : ∀ x ∈ a, x < 256) (hb : ∀ x ∈ b, x < 256) : ((strB a).toList == (strB b).toList) = decide (a = b) := by
  rw [ByteArray.toList_eq, ByteArray.toList_eq, strB_data, strB_data]
  by_cases h : a = b
  · simp [h]
  · have : ¬ a.map UInt8.ofNat = b.map UInt8.ofNat := fun e => h (map8_inj ha hb e)
    simp only [h, decide_false, beq_eq_false_iff_ne, ne_eq]
    exact this
end Go.Proofs.Ytdbeeikjngnnnaa.ty
namespace Go.Proofs.Ytdbeeikjngnnnaa.ty
open Go.ChangeShapes Go.WideShapes Go.ChangeAt Go.RowKit
set_option linter.unusedVariables false
set_option linter.unusedSimpArgs false
set_option maxRecDepth 100000 in
theorem cright_ok {w : World} (cs : Array Value) : Calls Try.prog 79 #[.agg cs] w fun r w' => r = .returned (.bool true) ∧ Apart [] w w' := by
  go_enter Try.func79, Try.ntmps79
  go_wp2_with fail
  go_ret
  exact ⟨rfl, (Apart.refl _ _).alloc _⟩
set_option maxRecDepth 100000 in
theorem within_ok {w : World} {c d : List Int} (hc : c.length = 8) (hd : d.length = 8) : Calls Try.prog 75 #[.agg (rv c).toArray, .agg (rv d).toArray] w fun r w' => r = .returned (.bool (gr c d == d)) ∧ Apart [] w w' := by
  have Hc := hid hc
  have Hd := hid hd
  have hr := fun wx => run_eql_row wx (gr_len hc hd) hd
  have hg := fun wx x y => gd_row wx .eql x y (rv (gr c d)).toArray (rv d).toArray
  clear hc hd
  obtain ⟨g, Hg⟩ : ∃ g, Hid (g = gr c d) := ⟨_, hid rfl⟩
  rw [← Hg.out] at hr hg ⊢
  have HC := hid (fun wx => greater_ok (w := wx) (a := c) (b := d) Hc.out Hd.out)
  rw [← Hg.out] at HC
  go_enter Try.func75, Try.ntmps75
  go_upto_region 1 with fail
  obtain ⟨X, HXX⟩ : ∃ X, Hid (X = w.heap.size) := ⟨_, rfl⟩
  obtain ⟨w1, hw1⟩ : ∃ W, W = w.alloc (.cells (rv c).toArray 86) := ⟨_, rfl⟩
  obtain ⟨Y, HXY⟩ : ∃ X, Hid (X = w1.heap.size) := ⟨_, rfl⟩
  obtain ⟨w2, hw2⟩ : ∃ W, W = w1.alloc (.cells (rv d).toArray 86) := ⟨_, rfl⟩
  have HS1 : Hid (Apart [] w w1) := by unfold Hid; rw [hw1]; exact (Apart.refl [] w).alloc _
  have HS2 : Hid (Apart [] w1 w2) := by unfold Hid; rw [hw2]; exact (Apart.refl [] w1).alloc _
  have HBX : Hid (w2.heap[X]? = some (.cells (rv c).toArray 86 (0, 0))) := by unfold Hid; refine keep0 HS2.out ?_; rw [HXX.out, hw1]; exact heap_alloc_new w _
  have HBY : Hid (w2.heap[Y]? = some (.cells (rv d).toArray 86 (0, 0))) := by unfold Hid; rw [HXY.out, hw2]; exact heap_alloc_new w1 _
  have heY : X + 1 = Y := by rw [HXY.out, hw1, HXX.out]; exact (Array.size_push _).symm
  rw [← hw1, ← HXX.out, heY, ← hw2]
  clear hw1 hw2 HXX HXY heY
  have hAd : Apart [] w2 w2.drew := (Apart.refl [] w2).drew
  refine wp_region_held_drew (S := fun W => Apart [] w2 W) (by kernel_rfl) hAd (fun hHeld => ?_)
  generalize w2.drew = wd at *
  clear hAd
  refine tk 0 5 (.agg (rv c).toArray) rfl ?_ ?_
  · intro W hSW; exact ex_load _ rfl X 0 _ rfl (rgR (keep0 hSW HBX.out)) (by rw [rv_len, Hc.out])
  simp only [Act.put, List.setIfInBounds_toArray, List.set_cons_zero, List.set_cons_succ]
  refine tk 1 6 (.agg (rv d).toArray) rfl ?_ ?_
  · intro W hSW; exact ex_load _ rfl Y 0 _ rfl (rgR (keep0 hSW HBY.out)) (by rw [rv_len, Hd.out])
  simp only [Act.put, List.setIfInBounds_toArray, List.set_cons_zero, List.set_cons_succ]
  refine tk 3 8 (.agg (rv d).toArray) rfl ?_ ?_
  · intro W hSW; exact ex_load _ rfl Y 0 _ rfl (rgR (keep0 hSW HBY.out)) (by rw [rv_len, Hd.out])
  simp only [Act.put, List.setIfInBounds_toArray, List.set_cons_zero, List.set_cons_succ]
  refine wpAnyH_ready (rs := [2]) (by kernel_rfl) (by simp) ?_
  refine AllReadyH.cons rfl (fun KK hKK => ?_) AllReadyH.nil
  go_simp
  refine (HC.out _).mono ?_
  rintro _ w3 ⟨rfl, a3⟩
  have hHx := hHeld.trans a3
  try dsimp only
  refine hKK.out _ _ hHx (fun hHeld => ?_)
  clear hKK KK
  try simp only [Act.put, List.setIfInBounds_toArray, List.set_cons_zero, List.set_cons_succ]
  refine tk 4 9 (.bool (g == d)) rfl ?_ ?_
  · intro W hSW; go_simp
  simp only [Act.put, List.setIfInBounds_toArray, List.set_cons_zero, List.set_cons_succ]
  refine tk 5 4 (.bool (g == d)) rfl ?_ ?_
  · intro W hSW; go_simp
  simp only [Act.put, List.setIfInBounds_toArray, List.set_cons_zero, List.set_cons_succ]
  refine wpAnyH_done (by kernel_rfl) ?_ _
  have HA := hid ((HS1.out.trans HS2.out).trans hHeld)
  clear hHeld
  go_wp2_with fail
  go_ret
  exact ⟨rfl, HA.out⟩
set_option maxRecDepth 100000 in
theorem fright_ok {w : World} {c g : List Int} (hc : c.length = 8) (hg : g.length = 8) : Calls Try.prog 105 #[.agg (rv (c ++ g)).toArray] w fun r w' => r = .returned (.bool (gr g c == c)) ∧ Apart [] w w' := by
  have Hc := hid hc
  have Hg := hid hg
  have HC := hid (fun wx => within_ok (w := wx) hg hc)
  clear hc hg
  go_enter Try.func105, Try.ntmps105
  go_upto_region 1 with fail
  obtain ⟨X, HXX⟩ : ∃ X, Hid (X = w.heap.size) := ⟨_, rfl⟩
  obtain ⟨w1, hw1⟩ : ∃ W, W = w.alloc (.cells (rv (c ++ g)).toArray 93) := ⟨_, rfl⟩
  have HS1 : Hid (Apart [] w w1) := by unfold Hid; rw [hw1]; exact (Apart.refl [] w).alloc _
  have HBX : Hid (w1.heap[X]? = some (.cells (rv (c ++ g)).toArray 93 (0, 0))) := by unfold Hid; rw [HXX.out, hw1]; exact heap_alloc_new w _
  rw [← hw1, ← HXX.out]
  clear hw1 HXX
  go_wp2_with (first
    | refine wpL_val rfl (.agg (rv g).toArray) (ex_load _ rfl X 8 _ rfl (rg8 Hc.out HBX.out) (by rw [rv_len, Hg.out])) ?_
    | refine wpL_val rfl (.agg (rv c).toArray) (ex_load _ rfl X 0 _ rfl (rg0 HBX.out) (by rw [rv_len, Hc.out])) ?_
    | (go_at_call 75; refine (HC.out _).mono ?_; rintro _ w2 ⟨rfl, a2⟩; have HA2 := hid a2; clear a2))
  go_ret
  exact ⟨rfl, HS1.out.trans HA2.out⟩
/-- is it a register that there may be? -/
def rtR (s a : Int) (x : ByteArray) : Bool := isA a && (decide (0 < s) || (decide (s = 0) && decide (a = 0) && decide (x.toList = [])))
set_option maxRecDepth 100000 in
theorem gright_ok {w : World} {s a : Int} {x : ByteArray} : Calls Try.prog 109 #[.agg (ty.rg s a x)] w fun r w' => r = .returned (.bool (rtR s a x)) ∧ Apart [] w w' := by
  have HC := hid (fun wx => isActor_ok wx a)
  unfold ty.rg
  go_enter Try.func109, Try.ntmps109
  go_upto_region 1 with fail
  obtain ⟨X, HXX⟩ : ∃ X, Hid (X = w.heap.size) := ⟨_, rfl⟩
  obtain ⟨w1, hw1⟩ : ∃ W, W = w.alloc (.cells #[.int .i64 s, .int .i64 a, .string x] 95) := ⟨_, rfl⟩
  have HS1 : Hid (Apart [] w w1) := by unfold Hid; rw [hw1]; exact (Apart.refl [] w).alloc _
  have HBX : Hid (w1.heap[X]? = some (.cells #[.int .i64 s, .int .i64 a, .string x] 95 (0, 0))) := by unfold Hid; rw [HXX.out, hw1]; exact heap_alloc_new w _
  rw [← hw1, ← HXX.out]
  clear hw1 HXX
  have z0 : w1.cell? ⟨X, 0, none⟩ = some (.int .i64 s) := by rw [cell_of_row _ _ _ _ _ _ HBX.out]; rfl
  have z1 : w1.cell? ⟨X, 1, none⟩ = some (.int .i64 a) := by rw [cell_of_row _ _ _ _ _ _ HBX.out]; rfl
  have z2 : w1.cell? ⟨X, 2, none⟩ = some (.string x) := by rw [cell_of_row _ _ _ _ _ _ HBX.out]; rfl
  cases ha : isA a
  · rw [ha] at HC
    go_wp2_with (go_at_call 81; refine (HC.out _).mono ?_; rintro _ _ ⟨rfl, rfl⟩)
    go_ret
    exact ⟨by simp [rtR, ha], HS1.out⟩
  · rw [ha] at HC
    have e : rtR s a x = (decide (0 < s) || (decide (s = 0) && decide (a = 0) && decide (x.toList = []))) := by simp [rtR, ha]
    have He := hid e
    clear e
    by_cases hs : s > 0
    · go_wp2_with (go_at_call 81; refine (HC.out _).mono ?_; rintro _ _ ⟨rfl, rfl⟩)
      go_ret
      exact ⟨by rw [He.out]; simp [hs], HS1.out⟩
    · go_wp2_with (go_at_call 81; refine (HC.out _).mono ?_; rintro _ _ ⟨rfl, rfl⟩)
      all_goals
        (go_ret
         refine ⟨?_, HS1.out⟩
         rw [He.out]
         first | (simp [*]; done) | trace_state)
end Go.Proofs.Ytdbeeikjngnnnaa.ty
namespace Go.Proofs.Ytdbeeikjngnnnaa.ty
open Go.ChangeShapes Go.WideShapes Go.ChangeAt Go.RowKit
set_option linter.unusedVariables false
set_option linter.unusedSimpArgs false
theorem rwI_bd {mask wd : Nat} {us : List Nat} (hu : ∀ x ∈ us, x < 256) : ∀ i, (∀ x ∈ (rwI mask wd i us).1, 0 ≤ x ∧ x < 2 ^ (8 * wd)) ∧ (∀ x ∈ (rwI mask wd i us).2, x < 256)
  | 0 => ⟨by simp [rwI], hu⟩
  | i + 1 => by
    obtain ⟨h1, h2⟩ := rwI_bd (mask := mask) (wd := wd) hu i
    unfold rwI
    have hp : (0 : Int) < 2 ^ (8 * wd) := by
      have : (0 : Nat) < 2 ^ (8 * wd) := Nat.pow_pos (by decide)
      exact_mod_cast this
    split
    · refine ⟨fun x hx => ?_, fun x hx => h2 x (List.mem_of_mem_drop hx)⟩
      rcases List.mem_append.1 hx with hx | hx
      · exact h1 x hx
      · simp at hx
        subst hx
        refine ⟨by omega, ?_⟩
        have h3 := leV_lt (l := (rwI mask wd i us).2.take wd) (fun x hx => h2 x (List.mem_of_mem_take hx))
        have h4 : 2 ^ (8 * ((rwI mask wd i us).2.take wd).length) ≤ 2 ^ (8 * wd) := Nat.pow_le_pow_right (by decide) (by rw [List.length_take]; omega)
        have h5 : leV ((rwI mask wd i us).2.take wd) < 2 ^ (8 * wd) := Nat.lt_of_lt_of_le h3 h4
        exact_mod_cast h5
    · refine ⟨fun x hx => ?_, h2⟩
      rcases List.mem_append.1 hx with hx | hx
      · exact h1 x hx
      · simp at hx
        subst hx
        exact ⟨by omega, hp⟩
theorem mix_step {a b : List Int} (ha : a.length = 8) (hb : b.length = 8) (i : Nat) (hi : i < 8) : (a.take i ++ b.drop i).set i (a.getD i 0) = a.take (i + 1) ++ b.drop (i + 1) := by
  have h1 : (a.take i).length = i := by rw [List.length_take]; omega
  rw [List.set_append_right _ _ (by omega), h1, Nat.sub_self, List.drop_eq_getElem_cons (by omega), List.set_cons_zero, List.take_succ_eq_append_getElem (by omega), List.append_assoc]
  simp [ha, hi]
theorem mix_len {a b : List Int} (ha : a.length = 8) (hb : b.length = 8) (i : Nat) (hi : i ≤ 8) : (a.take i ++ b.drop i).length = 8 := by simp; omega
def cuR (g : List Int) : List Int := g.map fun n => n % 16777216
def cdR (g : List Int) : List Int := g.map fun n => n / 16777216
theorem getD_map {g : List Int} {f : Int → Int} {i : Nat} (h : i < g.length) : (g.map f).getD i 0 = f (g.getD i 0) := by
  simp [h]
set_option maxHeartbeats 2000000 in
set_option maxRecDepth 100000 in
theorem cread_ok {wB w : World} {R : Nat} {s : Sl} {us : List Nat} (h : Rr wB w R s us) (hl : us.length ≤ 1000000) : Calls Try.prog 78 #[.agg (rv (zr ++ zr)).toArray, .pointer (some ⟨R, 0, none⟩)] w fun r w' => r = .returned (.iface 88 (.agg (rv (cuR (rowR (us.drop 1) 6).1 ++ cdR (rowR (us.drop 1) 6).1)).toArray)) ∧ Apart [R] w w' := by
  have HWB : Hid (wB.heap.size ≤ w.heap.size) := hid h.ap.size
  have HR := hid h
  have Hl := hid hl
  have hRl := lt_of_heap h.blk
  clear h hl
  obtain ⟨r1, Hr1⟩ : ∃ r, Hid (r = rowR (us.drop 1) 6) := ⟨_, hid rfl⟩
  rw [← Hr1.out]
  have Hgl0 : Hid (r1.1.length = 8) := hid (by rw [Hr1.out]; exact rwI_len _ _ _ _)
  have Hbd0 : Hid (∀ x ∈ r1.1, 0 ≤ x ∧ x < 2 ^ (8 * 6)) := hid (by rw [Hr1.out]; exact (rwI_bd (fun x hx => HR.out.u8 x (List.mem_of_mem_drop (List.mem_of_mem_drop hx))) 8).1)
  obtain ⟨g, Hg⟩ : ∃ g, Hid (g = r1.1) := ⟨_, hid rfl⟩
  rw [← Hg.out] at Hgl0 Hbd0 ⊢
  go_enter Try.func78, Try.ntmps78
  go_upto_region 1 with fail
  obtain ⟨X, HXX⟩ : ∃ X, Hid (X = w.heap.size) := ⟨_, rfl⟩
  obtain ⟨w1, hw1⟩ : ∃ W, W = w.alloc (.cells (rv (zr ++ zr)).toArray 88) := ⟨_, rfl⟩
  have HSw1 : Hid (Apart [] w w1) := by unfold Hid; rw [hw1]; exact (Apart.refl [] w).alloc _
  have HBX : Hid (w1.heap[X]? = some (.cells (rv (zr ++ zr)).toArray 88 (0, 0))) := by unfold Hid; rw [HXX.out, hw1]; exact heap_alloc_new w _
  have HLX : Hid (w.heap.size ≤ X) := by unfold Hid; rw [HXX.out]; exact Nat.le_refl _
  have HN : Hid (X ≠ R) := hid (by have := HLX.out; omega)
  rw [← hw1, ← HXX.out]
  clear hw1 HXX hRl
  have HC := hid (next_ok (HR.out.kept0 HSw1.out) Hl.out 1 (by omega))
  go_upto_region 2 with (go_at_call 83; refine HC.out.mono ?_; rintro _ w2 ⟨a2, rfl, p2, b2, q2, s2⟩; have HR2 := hid q2; have HS2 := hid s2; clear p2 q2 s2 HC)
  have HBX2 := hid (keepB HS2.out HBX.out HN.out)
  have HC := hid (row_ok HR2.out (by have := Hl.out; rw [List.length_drop]; omega) 6 (by omega))
  rw [← Hr1.out, ← Hg.out] at HC
  clear HBX HR
  go_wp2_with (go_at_call 84; refine HC.out.mono ?_; rintro _ w3 ⟨rfl, ⟨b3, q3⟩, s3⟩; have HS3 := hid s3; have HBX3 := hid (keepB HS3.out HBX2.out HN.out); clear q3 s3 HC)
  have HA3 : Hid (Apart [R] w w3) := hid (((HSw1.out.mono (by simp)).trans HS2.out).trans HS3.out)
  clear HBX2 HS3 HS2 HSw1 HR2
  go_loopw [11] (fun v wt => ∃ i : Nat, v = .int .i64 (i : Nat) ∧ i ≤ 8 ∧ Hid (wt.heap[X]? = some (.cells (rv (((cuR g).take i ++ zr.drop i) ++ ((cdR g).take i ++ zr.drop i))).toArray 88 (0, 0))) ∧ Hid (Apart [R] w wt)) (fun v _ => 8 - (intOf v).toNat)
  case atStart => exact ⟨0, rfl, Nat.zero_le _, HBX3, HA3⟩
  case round =>
    clear HBX3 HA3
    obtain ⟨i, rfl, hi, HBX, HA⟩ := hrel
    generalize wr = wt at *
    have Hcu : Hid ((cuR g).length = 8) := hid (by simp [cuR, Hgl0.out])
    have Hcd : Hid ((cdR g).length = 8) := hid (by simp [cdR, Hgl0.out])
    by_cases hlt : i < 8
    · have hlti : ((i : Nat) : Int) < 8 := by omega
      have hlt0 : (0 : Int) ≤ ((i : Nat) : Int) ∧ ((i : Nat) : Int) < 8 := by omega
      have hri := fun (wx : World) => run_idx (b := g) i Hgl0.out hlt wx
      have Hx : Hid (0 ≤ g.getD i 0 ∧ g.getD i 0 < 2 ^ (8 * 6)) := hid (by
        have hm : g.getD i 0 ∈ g := by
          rw [List.getD_eq_getElem?_getD, List.getElem?_eq_getElem (by rw [Hgl0.out]; exact hlt)]
          exact List.getElem_mem _
        exact Hbd0.out _ hm)
      obtain ⟨n, Hn⟩ : ∃ n : Nat, Hid (g.getD i 0 = (n : Int)) := ⟨(g.getD i 0).toNat, hid (by have := Hx.out; omega)⟩
      rw [Hn.out] at hri
      have hn48 : n < 281474976710656 := by have h1 := Hx.out; rw [Hn.out] at h1; omega
      have Hand : Hid (bits .and .i64 (n : Int) 16777215 = ((n % 16777216 : Nat) : Int)) := hid (by
        have := i64_and_nat n 16777215 (by omega) (by omega)
        have e : n &&& 16777215 = n % 16777216 := Nat.and_two_pow_sub_one_eq_mod n 24
        rw [e] at this
        exact this)
      have Hu1 : Hid ((cuR g).getD i 0 = ((n % 16777216 : Nat) : Int)) := hid (by rw [cuR, getD_map (by rw [Hgl0.out]; exact hlt), Hn.out]; rfl)
      have Hd1 : Hid ((cdR g).getD i 0 = ((n / 16777216 : Nat) : Int)) := hid (by rw [cdR, getD_map (by rw [Hgl0.out]; exact hlt), Hn.out]; rfl)
      have z1 := cell20 HBX.out i (by rw [mix_len Hcu.out rfl i hi]; exact hlt)
      have z2 := cell28 (mix_len Hcu.out rfl i hi) HBX.out i (by rw [mix_len Hcd.out rfl i hi]; exact hlt)
      have f1 := frozen_of_row _ _ i _ _ HBX.out
      have f2 := frozen_of_row _ _ (8 + i) _ _ HBX.out
      go_wp2_with fail
      rw [Hand.out]
      refine ⟨⟨i + 1, by go_num, by omega, ?_, ?_⟩, by simp [intOf]; omega⟩
      · unfold Hid
        have e1 := heap_setCell_same wt X i _ 88 (.int .i64 ((n % 16777216 : Nat) : Int)) HBX.out
        rw [heap_setCell_same _ X (8 + i) _ 88 _ e1]
        have ed : ((n : Int) / 16777216) = ((n / 16777216 : Nat) : Int) := by rw [Int.natCast_ediv]; rfl
        have hA : ((cuR g).take i ++ zr.drop i).length = 8 := mix_len Hcu.out rfl i hi
        rw [ed, List.setIfInBounds_toArray, List.setIfInBounds_toArray, rv_set, rv_set, List.set_append_left _ _ (by rw [hA]; exact hlt), List.set_append_right _ _ (by rw [List.length_set, hA]; omega), List.length_set, hA, show 8 + i - 8 = i from by omega, ← Hu1.out, ← Hd1.out, mix_step Hcu.out rfl i hlt, mix_step Hcd.out rfl i hlt]
      · exact hid ((HA.out.setCell (p := ⟨X, i, none⟩) (.inr HLX.out) _).setCell (p := ⟨X, 8 + i, none⟩) (.inr HLX.out) _)
    · have hlti : ¬ ((i : Nat) : Int) < 8 := by omega
      obtain rfl : i = 8 := by omega
      have HBX5 : Hid (wt.heap[X]? = some (.cells (rv (cuR g ++ cdR g)).toArray 88 (0, 0))) := hid (by
        have h1 := HBX.out
        rw [List.take_of_length_le (by rw [Hcu.out]; exact Nat.le_refl _), List.take_of_length_le (by rw [Hcd.out]; exact Nat.le_refl _), show zr.drop 8 = [] from rfl, List.append_nil, List.append_nil] at h1
        exact h1)
      go_wp2_with (refine wpList_load_row rfl 88 _ rfl X rfl 88 _ (0, 0) _ HBX5.out Try.underlying88 rfl (by rw [size88]; simp [rv_len, Hcu.out, Hcd.out]) ?_)
      go_ret
      exact ⟨rfl, HA.out⟩
end Go.Proofs.Ytdbeeikjngnnnaa.ty
