import Derived.Test.YtdbeeikjngnnnaaG9
import Derived.Laws.BitsAllLaws
namespace Go.Proofs.Ytdbeeikjngnnnaa.ty
open Go.ChangeShapes Go.WideShapes Go.ChangeAt Go.RowKit
set_option linter.unusedVariables false
set_option linter.unusedSimpArgs false
theorem byts_set (us : List Nat) (j x : Nat) : (byts us).set j (.int .u8 (x : Int)) = byts (us.set j x) := by simp [byts, List.map_set]
theorem Bf.set {wB w : World} {s : Sl} {us : List Nat} (h : Bf wB w s us) (j : Nat) (hj : j < us.length) : ∃ g, s.p = some ⟨g, 0, none⟩ ∧ wB.heap.size ≤ g ∧ w.cell? ⟨g, j, none⟩ = some (.int .u8 ((us.getD j 0 : Nat) : Int)) ∧ w.frozen? ⟨g, j, none⟩ = false ∧ (∃ cur, w.heap[g]? = some (.cells cur 5 (0, 0))) ∧ ∀ (w' : World) (x : Nat), Apart [] w w' → Bf wB (w'.setCell ⟨g, j, none⟩ (.int .u8 (x : Int))) s (us.set j x) := by
  have hl := h.len
  obtain ⟨ho, ⟨hv, hz⟩ | ⟨g, cap, cur, hv, hb, hr, hle, hm, hs, ht⟩⟩ := h.nw.own
  · omega
  have hv' := hv
  unfold Sl.v at hv'
  simp at hv'
  obtain ⟨hp, hc⟩ := hv'
  have hob : s.v.ownBlock = some g := by rw [hv]; rfl
  have hg := h.nw.new g hob
  have hjc : j < cur.size := by rw [hs]; omega
  have hcur : cur[j]? = some (.int .u8 ((us.getD j 0 : Nat) : Int)) := by
    have e1 : (cur.toList.take (s.n * 1))[j]? = cur[j]? := by rw [List.getElem?_take_of_lt (by omega)]; simp
    rw [← e1, ht]
    simp [byts, hj]
  refine ⟨g, hp, hg, by rw [cell_of_row _ _ _ _ _ _ hr, hcur], frozen_of_row _ _ _ _ _ hr, ⟨cur, hr⟩, fun w' x a => ?_⟩
  have hr' := keep0 a hr
  have h2 := heap_setCell_same w' g j _ 5 (.int .u8 (x : Int)) hr'
  refine ⟨⟨⟨by simp [byts] at ho ⊢; omega, .inr ⟨g, cap, _, hv, hb, h2, hle, hm, by simp [hs], ?_⟩⟩, h.nw.new, (h.nw.ap.trans a).setCell (.inr hg) _⟩, by simp [hl]⟩
  rw [← byts_set, ← ht]
  simp [List.take_set]
/-- who is in a row -/
def mk8 (r : List Int) : Nat → Nat
  | 0 => 0
  | i + 1 => if 0 < r.getD i 0 then mk8 r i ||| 2 ^ i else mk8 r i
theorem mk8_lt (r : List Int) : ∀ i, mk8 r i < 2 ^ i
  | 0 => by simp [mk8]
  | i + 1 => by
    have h := mk8_lt r i
    have h2 : 2 ^ i < 2 ^ (i + 1) := Nat.pow_lt_pow_right (by omega) (by omega)
    unfold mk8
    split
    · exact Nat.or_lt_two_pow (by omega) h2
    · omega
/-- its numbers -/
def nb8 (r : List Int) (wd : Nat) : Nat → List Nat
  | 0 => []
  | i + 1 => if 0 < r.getD i 0 then nb8 r wd i ++ leB (r.getD i 0).toNat wd else nb8 r wd i
theorem nb8_len (r : List Int) (wd : Nat) : ∀ i, (nb8 r wd i).length ≤ i * wd
  | 0 => by simp [nb8]
  | i + 1 => by
    have h := nb8_len r wd i
    have h2 : (i + 1) * wd = i * wd + wd := Nat.succ_mul i wd
    unfold nb8
    split
    · simp [leB_len]; omega
    · omega
/-- a row's form -/
def rowB (r : List Int) (wd : Nat) : List Nat := mk8 r 8 :: nb8 r wd 8
theorem ex_shl {W : World} {eval : Operand → Value} {op : Oper} (x : Operand) (i : Nat) (hi : i < 8) (ho : op.op = .binOp .shl 5 (.const (.int .u8 1)) x 3) (hx : eval x = .int .i64 (i : Int)) (hk : eval (.const (.int .u8 1)) = .int .u8 1) : (execOp eval op).run Try.prog W = .ok (.value (.int .u8 ((2 ^ i : Nat) : Int))) W := by
  unfold execOp
  simp only [ho, hx, hk]
  obtain rfl | rfl | rfl | rfl | rfl | rfl | rfl | rfl : i = 0 ∨ i = 1 ∨ i = 2 ∨ i = 3 ∨ i = 4 ∨ i = 5 ∨ i = 6 ∨ i = 7 := by omega
  all_goals kernel_rfl
set_option maxHeartbeats 4000000 in
set_option maxRecDepth 100000 in
theorem appRow {wB w : World} {s : Sl} {us : List Nat} (hb : Bf wB w s us) (hl : us.length ≤ 900000) {r : List Int} (hr : r.length = 8) {width : Nat} (hw : width ≤ 6) : Calls Try.prog 82 #[.slice s.p s.n s.c, .agg (rv r).toArray, .int .i64 (width : Int)] w fun a w' => ∃ s', a = .returned (.slice s'.p s'.n s'.c) ∧ Bf wB w' s' (us ++ rowB r width) ∧ TK [5] w w' := by
  have HB := hid hb
  have Hl := hid hl
  have hln := hb.len
  have Hr := hid hr
  have Hw := hid hw
  clear hb hl hr hw
  have HA := hid (Apart.refl [] w)
  obtain ⟨who, Hwho⟩ : ∃ n : Nat, Hid (n = us.length) := ⟨_, hid rfl⟩
  rw [← Hwho.out] at hln
  go_enter Try.func82, Try.ntmps82
  go_upto_region 2 with fail
  obtain ⟨X, HXX⟩ : ∃ X, Hid (X = w.heap.size) := ⟨_, rfl⟩
  obtain ⟨w1, hw1⟩ : ∃ W, W = w.alloc (.cells (rv r).toArray 86) := ⟨_, rfl⟩
  have HSw1 : Hid (Apart [] w w1) := by unfold Hid; rw [hw1]; exact (Apart.refl [] w).alloc _
  have HBX : Hid (w1.heap[X]? = some (.cells (rv r).toArray 86 (0, 0))) := by unfold Hid; rw [HXX.out, hw1]; exact heap_alloc_new w _
  have HLX : Hid (w.heap.size ≤ X) := by unfold Hid; rw [HXX.out]; exact HA.out.size
  replace HA := hid (HA.out.trans HSw1.out)
  rw [← hw1, ← HXX.out]
  clear hw1 HXX
  replace HB := hid (HB.out.kept HSw1.out)
  obtain ⟨s3, w3, hrun, hb3, hk3⟩ := app_byte HB.out 0 (by have := Hl.out; omega)
  have HB3 : Hid (Bf wB w3 s3 (us ++ (mk8 r 0 :: nb8 r width 0))) := hid hb3
  have HT3 : Hid (TK [5] w w3) := hid ((TK.of0 HSw1.out).trans hk3)
  have HBX3 := hid (hk3.block HBX.out (by simp))
  have HR := hid hrun
  clear hrun hb3 hk3 HB HBX
  go_wp2_with (first
    | refine wpList_append3 rfl _ _ 22 rfl _ _ rfl rfl (.slice s3.p s3.n s3.c) w3 HR.out ?_
    | refine wpList_load_row rfl 86 _ rfl X rfl 86 _ (0, 0) _ HBX3.out Try.underlying86 rfl (by rw [size86]; simp [rv_len, Hr.out]) ?_)
  clear HR HBX3
  go_loopw [0, 16] (fun b v wt => ∃ (i : Nat) (s : Sl), v = .int .i64 (i : Nat) ∧ i ≤ 8 ∧ b = .slice s.p s.n s.c ∧ Hid (Bf wB wt s (us ++ (mk8 r i :: nb8 r width i))) ∧ Hid (TK [5] w wt)) (fun _ v _ => 8 - (intOf v).toNat)
  case atStart => exact ⟨0, s3, rfl, Nat.zero_le _, rfl, HB3, HT3⟩
  case round =>
    clear HB3 HT3 HA
    obtain ⟨i, s2, rfl, hi, rfl, HB, HT⟩ := hrel
    generalize wr = wt at *
    by_cases hlt : i < 8
    · have hlti : ((i : Nat) : Int) < 8 := by omega
      have hri := fun (wx : World) => run_idx (b := r) i Hr.out hlt wx
      obtain ⟨xr, Hxr⟩ : ∃ z : Int, Hid (z = r.getD i 0) := ⟨_, hid rfl⟩
      rw [← Hxr.out] at hri
      by_cases hpos : xr > 0
      · obtain ⟨n, rfl⟩ : ∃ n : Nat, xr = (n : Int) := ⟨xr.toNat, by omega⟩
        have Hn : Hid ((r.getD i 0).toNat = n) := by unfold Hid; rw [← Hxr.out]; omega
        go_upto_region 7 with fail
        obtain ⟨g, hp, hg, hz, hf, hty, hset⟩ := HB.out.set who (by rw [Hwho.out]; simp)
        have e1 : (us ++ (mk8 r i :: nb8 r width i)).getD who 0 = mk8 r i := by rw [Hwho.out]; simp [List.getD_eq_getElem?_getD]
        rw [e1] at hz
        clear e1
        obtain ⟨m, Hmm⟩ : ∃ m : Nat, Hid (m = mk8 r i) := ⟨_, hid rfl⟩
        obtain ⟨q, Hq⟩ : ∃ q : Nat, Hid (q = 2 ^ i) := ⟨_, hid rfl⟩
        have hm8 : m < 256 := by rw [Hmm.out]; exact Nat.lt_of_lt_of_le (mk8_lt r i) (Nat.pow_le_pow_right (by omega) hi)
        have hq8 : q < 256 := by rw [Hq.out]; exact Nat.pow_lt_pow_right (a := 2) (n := 8) (by omega) hlt
        have hor : bits .or .u8 (m : Int) (q : Int) = ((m ||| q : Nat) : Int) := u8_or_nat m q hm8 hq8
        rw [← Hmm.out] at hz
        have HZ := hid hz
        have HF := hid hf
        have HSET := hid hset
        have HTY := hid hty
        have hlen2 := HB.out.len
        have hlt0 : (0 : Int) ≤ ((who : Nat) : Int) ∧ ((who : Nat) : Int) < ((s2.n : Nat) : Int) := by
          rw [hlen2, Hwho.out, List.length_append, List.length_cons]; omega
        clear hz hf hset hty hm8 hq8 hlen2
        rw [hp]
        have hAd : Apart [g] wt wt.drew := (Apart.refl [g] wt).drew
        have HAd : Hid (Apart [] wt wt.drew) := (Apart.refl [] wt).drew
        refine wp_region_held_drew (S := fun W => Apart [g] wt W) (by kernel_rfl) hAd (fun hHeld => ?_)
        generalize wt.drew = wd at *
        clear hAd
        refine tk 0 22 (.slice (some ⟨g, 0, none⟩) s2.n s2.c) rfl ?_ ?_
        · intro W hSW; go_simp
        simp only [Act.put, List.setIfInBounds_toArray, List.set_cons_zero, List.set_cons_succ]
        refine tk 1 23 (.int .i64 (who : Nat)) rfl ?_ ?_
        · intro W hSW; go_simp
        simp only [Act.put, List.setIfInBounds_toArray, List.set_cons_zero, List.set_cons_succ]
        refine tk 2 24 (.pointer (some ⟨g, who, none⟩)) rfl ?_ ?_
        · intro W hSW; go_simp
        simp only [Act.put, List.setIfInBounds_toArray, List.set_cons_zero, List.set_cons_succ]
        refine tk 4 26 (.int .i64 (i : Nat)) rfl ?_ ?_
        · intro W hSW; go_simp
        simp only [Act.put, List.setIfInBounds_toArray, List.set_cons_zero, List.set_cons_succ]
        refine tk 5 27 (.int .u8 (q : Int)) rfl ?_ ?_
        · intro W hSW; rw [Hq.out]; exact ex_shl _ i hlt rfl rfl rfl
        simp only [Act.put, List.setIfInBounds_toArray, List.set_cons_zero, List.set_cons_succ]
        refine wpAnyH_ready (rs := [3]) (by kernel_rfl) (by simp) ?_
        refine AllReadyH.cons rfl (fun KK hKK => ?_) AllReadyH.nil
        have z : wd.cell? ⟨g, who, none⟩ = some (.int .u8 (m : Int)) := (HAd.out.cell (by obtain ⟨cur, hc⟩ := HTY.out; exact lt_of_heap hc) (by simp)).trans HZ.out
        go_simp
        refine hKK.out _ _ hHeld (fun hHeld => ?_)
        clear hKK KK z
        try simp only [Act.put, List.setIfInBounds_toArray, List.set_cons_zero, List.set_cons_succ]
        refine tk 6 28 (.int .u8 ((m ||| q : Nat) : Int)) rfl ?_ ?_
        · intro W hSW; go_simp
        simp only [Act.put, List.setIfInBounds_toArray, List.set_cons_zero, List.set_cons_succ]
        refine tk 7 29 (.pointer (some ⟨g, who, none⟩)) rfl ?_ ?_
        · intro W hSW; go_simp
        simp only [Act.put, List.setIfInBounds_toArray, List.set_cons_zero, List.set_cons_succ]
        refine wpAnyH_ready (rs := [8]) (by kernel_rfl) (by simp) ?_
        refine AllReadyH.cons rfl (fun KK hKK => ?_) AllReadyH.nil
        have z : wd.cell? ⟨g, who, none⟩ = some (.int .u8 (m : Int)) := (HAd.out.cell (by obtain ⟨cur, hc⟩ := HTY.out; exact lt_of_heap hc) (by simp)).trans HZ.out
        have f : wd.frozen? ⟨g, who, none⟩ = false := by obtain ⟨cur, hc⟩ := HTY.out; exact frozen_of_row _ _ _ _ _ (keep0 HAd.out hc)
        go_simp
        have hHz := hHeld.setCell (p := ⟨g, who, none⟩) (.inl (by simp)) (.int .u8 ((m ||| q : Nat) : Int))
        have HB5 := hid (HSET.out wd (m ||| q) HAd.out)
        refine hKK.out _ _ hHz (fun hHeld => ?_)
        clear hKK KK z f
        try simp only [Act.put, List.setIfInBounds_toArray, List.set_cons_zero, List.set_cons_succ]
        refine wpAnyH_done (by kernel_rfl) ?_ _
        have HT5 := hid (HT.out.trans (⟨[g], hHeld, by intro k hk; simp at hk; subst hk; obtain ⟨cur, hc⟩ := HTY.out; exact ⟨cur, 5, by simp, hc⟩⟩ : TK [5] wt _))
        generalize wd.setCell ⟨g, who, none⟩ (.int .u8 ((m ||| q : Nat) : Int)) = w5 at *
        clear hHeld hHz HZ HF HSET HTY
        rw [← hp]
        clear hp hlt0 hor hri
        have HB6 : Hid (Bf wB w5 s2 (us ++ (mk8 r (i + 1) :: nb8 r width i))) := by
          unfold Hid
          have hx : 0 < r.getD i 0 := by rw [← Hxr.out]; exact hpos
          have e2 : mk8 r (i + 1) = m ||| q := by rw [mk8, if_pos hx, Hmm.out, Hq.out]
          have e3 : (us ++ (mk8 r i :: nb8 r width i)).set who (m ||| q) = us ++ ((m ||| q) :: nb8 r width i) := by
            rw [Hwho.out, List.set_append_right _ _ (Nat.le_refl _), Nat.sub_self, List.set_cons_zero]
          rw [e2, ← e3]
          exact HB5.out
        clear HB5 HB
        have hbd : (us ++ (mk8 r (i + 1) :: nb8 r width i)).length ≤ 1000000 := by
          have h1 := Hl.out
          have h2 := nb8_len r width i
          have h3 : i * width ≤ 8 * 6 := Nat.mul_le_mul hi Hw.out
          rw [List.length_append, List.length_cons]
          omega
        have hcl := appN HB6.out hbd (n := n) Hw.out
        have HC := hid hcl
        clear hcl
        go_wp2_with (go_at_call 85; refine HC.out.mono ?_; rintro _ w6 ⟨s4, rfl, b6, t6⟩; have H6 := hid (And.intro b6 t6); clear b6 t6)
        refine ⟨⟨i + 1, s4, by go_num, by omega, rfl, ?_, hid (HT5.out.trans H6.out.2)⟩, by simp [intOf]; omega⟩
        unfold Hid
        have hx : 0 < r.getD i 0 := by rw [← Hxr.out]; exact hpos
        have e4 : nb8 r width (i + 1) = nb8 r width i ++ leB n width := by rw [nb8, if_pos hx, Hn.out]
        rw [e4]
        simpa using H6.out.1
      · have Hm : Hid (mk8 r (i + 1) = mk8 r i ∧ nb8 r width (i + 1) = nb8 r width i) := by
          unfold Hid
          have : ¬ 0 < r.getD i 0 := by rw [← Hxr.out]; exact hpos
          exact ⟨by rw [mk8, if_neg this], by rw [nb8, if_neg this]⟩
        go_wp2_with fail
        exact ⟨⟨i + 1, s2, by go_num, by omega, rfl, by rw [Hm.out.1, Hm.out.2]; exact HB, HT⟩, by simp [intOf]; omega⟩
    · have hlti : ¬ ((i : Nat) : Int) < 8 := by omega
      obtain rfl : i = 8 := by omega
      go_wp2_with fail
      go_ret
      exact ⟨s2, rfl, HB.out, HT.out⟩
end Go.Proofs.Ytdbeeikjngnnnaa.ty
namespace Go.Proofs.Ytdbeeikjngnnnaa.ty
open Go.ChangeShapes Go.WideShapes Go.ChangeAt Go.RowKit
set_option linter.unusedVariables false
set_option linter.unusedSimpArgs false
theorem i64_or_nat (a b : Nat) (ha : a < 2 ^ 63) (hb : b < 2 ^ 63) : bits .or .i64 (a : Int) (b : Int) = ((a ||| b : Nat) : Int) := by
  have hx : a ||| b < 2 ^ 63 := Nat.or_lt_two_pow ha hb
  show IntKind.i64.wrap ((BitVec.ofInt 64 (a : Int) ||| BitVec.ofInt 64 (b : Int)).toNat : Int) = _
  rw [BitVec.toNat_or, ofInt_u64 a (by omega), ofInt_u64 b (by omega), IntWalk.i64_left]
  exact IntWalk.wrap64_in _ (by omega)
/-- up and down as one number -/
def ors (x y : Int) : Int := ((x.toNat ||| (y * 16777216).toNat : Nat) : Int)
def ob (a b : List Int) : List Int := List.zipWith ors a b
theorem ob_len {a b : List Int} (ha : a.length = 8) (hb : b.length = 8) : (ob a b).length = 8 := by simp [ob, ha, hb]
def obI (a b : List Int) (i : Nat) : List Int := (ob a b).take i ++ a.drop i
theorem obI_zero (a b : List Int) : obI a b 0 = a := by simp [obI]
theorem obI_len {a b : List Int} (ha : a.length = 8) (hb : b.length = 8) (i : Nat) (hi : i ≤ 8) : (obI a b i).length = 8 := by simp [obI, ob_len ha hb, ha]; omega
theorem obI_at {a b : List Int} (ha : a.length = 8) (hb : b.length = 8) (i : Nat) (hi : i < 8) : (obI a b i).getD i 0 = a.getD i 0 := by
  have h1 := ob_len ha hb
  rw [List.getD_eq_getElem?_getD, List.getD_eq_getElem?_getD, obI, List.getElem?_append_right (by simp; omega)]
  simp [h1, Nat.min_eq_left (Nat.le_of_lt hi)]
theorem obI_end {a b : List Int} (ha : a.length = 8) (hb : b.length = 8) : obI a b 8 = ob a b := by
  rw [obI, List.take_of_length_le (by rw [ob_len ha hb]; omega), List.drop_eq_nil_of_le (by omega), List.append_nil]
theorem obI_step {a b : List Int} (ha : a.length = 8) (hb : b.length = 8) (i : Nat) (hi : i < 8) : (obI a b i).set i (ors (a.getD i 0) (b.getD i 0)) = obI a b (i + 1) := by
  have h1 := ob_len ha hb
  apply List.ext_getElem?
  intro j
  rw [List.getElem?_set]
  by_cases hj : j = i
  · subst hj
    have hl := obI_len ha hb j (by omega)
    simp [hl, hi]
    rw [obI, List.getElem?_append_left (by simp; omega), List.getElem?_take_of_lt (by omega), ob, List.getElem?_zipWith]
    have e1 : a[j]? = some (a.getD j 0) := by simp [ha, hi]
    have e2 : b[j]? = some (b.getD j 0) := by simp [hb, hi]
    rw [e1, e2]
    simp
  · rw [if_neg (by omega)]
    unfold obI
    by_cases hlt : j < i
    · rw [List.getElem?_append_left (by simp; omega), List.getElem?_append_left (by simp; omega), List.getElem?_take_of_lt hlt, List.getElem?_take_of_lt (by omega)]
    · rw [List.getElem?_append_right (by simp; omega), List.getElem?_append_right (by simp; omega)]
      simp [h1, Nat.min_eq_left (Nat.le_of_lt hi), Nat.min_eq_left (show i + 1 ≤ 8 from hi)]
      congr 1
      omega
set_option maxHeartbeats 4000000 in
set_option maxRecDepth 100000 in
theorem cform_ok {w : World} {u d : List Int} (hu : Wd u) (hd : Wd d) : Calls Try.prog 77 #[.agg (rv (u ++ d)).toArray] w fun r w' => ∃ s', r = .returned (.slice s'.p s'.n s'.c) ∧ Bf w w' s' (1 :: rowB (ob u d) 6) := by
  have Hu := hid hu
  have Hd := hid hd
  clear hu hd
  have HA := hid (Apart.refl [] w)
  go_enter Try.func77, Try.ntmps77
  go_upto_region 1 with fail
  obtain ⟨X, HXX⟩ : ∃ X, Hid (X = w.heap.size) := ⟨_, rfl⟩
  obtain ⟨w1, hw1⟩ : ∃ W, W = w.alloc (.cells (rv (u ++ d)).toArray 88) := ⟨_, rfl⟩
  have HSw1 : Hid (Apart [] w w1) := by unfold Hid; rw [hw1]; exact (Apart.refl [] w).alloc _
  have HBX : Hid (w1.heap[X]? = some (.cells (rv (u ++ d)).toArray 88 (0, 0))) := by unfold Hid; rw [HXX.out, hw1]; exact heap_alloc_new w _
  have HLX : Hid (w.heap.size ≤ X) := by unfold Hid; rw [HXX.out]; exact HA.out.size
  replace HA := hid (HA.out.trans HSw1.out)
  rw [← hw1, ← HXX.out]
  clear hw1 HXX
  go_wp2_with (first
    | refine wpL_val rfl (.agg (rv u).toArray) (ex_load _ rfl X 0 _ rfl (rg0 HBX.out) (by rw [rv_len, Hu.out.1])) ?_
    | (refine wpList_store_row rfl 86 _ _ rfl w1.heap.size (rv u).toArray rfl rfl 86 _ (heap_alloc_new w1 _) (by rw [size86]; simp [rv_len, Hu.out.1]) (by simp [rv_len, Hu.out.1]) (all_oneCell_toArray (rv_one _)) ?_
       have HB2 := hid (put_new (w := w1) (z := #[.int .i64 0, .int .i64 0, .int .i64 0, .int .i64 0, .int .i64 0, .int .i64 0, .int .i64 0, .int .i64 0]) (cs := (rv u).toArray) (T := 86))
       have HS2 := hid (put_apart (w := w1) (z := #[.int .i64 0, .int .i64 0, .int .i64 0, .int .i64 0, .int .i64 0, .int .i64 0, .int .i64 0, .int .i64 0]) (cs := (rv u).toArray) (T := 86))
       have HLY : Hid (w.heap.size ≤ w1.heap.size) := hid HA.out.size
       obtain ⟨Y, HY⟩ : ∃ X, X = w1.heap.size := ⟨_, rfl⟩
       rw [← HY] at HB2 HS2 HLY ⊢
       generalize (w1.alloc (.cells #[.int .i64 0, .int .i64 0, .int .i64 0, .int .i64 0, .int .i64 0, .int .i64 0, .int .i64 0, .int .i64 0] 86)).setRow Y (rv u).toArray = w2 at *
       clear HY)
    | refine wpL_val rfl (.agg (rv d).toArray) (ex_load _ rfl X 8 _ rfl (rg8 Hu.out.1 (keep0 HS2.out HBX.out)) (by rw [rv_len, Hd.out.1])) ?_)
  replace HA := hid (HA.out.trans HS2.out)
  replace HB2 : Hid (w2.heap[Y]? = some (.cells (rv (obI u d 0)).toArray 86 (0, 0))) := by rw [obI_zero]; exact HB2
  clear HBX
  go_loopw [10] (fun v wt => ∃ i : Nat, v = .int .i64 (i : Nat) ∧ i ≤ 8 ∧ Hid (Apart [] w wt) ∧ Hid (wt.heap[Y]? = some (.cells (rv (obI u d i)).toArray 86 (0, 0)))) (fun v _ => 8 - (intOf v).toNat)
  case atStart => exact ⟨0, rfl, Nat.zero_le _, HA, HB2⟩
  case round =>
    clear HA HB2
    obtain ⟨i, rfl, hi, HA, HBX⟩ := hrel
    generalize wr = wt at *
    by_cases hlt : i < 8
    · have hlti : ((i : Nat) : Int) < 8 := by omega
      have hlt0 : (0 : Int) ≤ ((i : Nat) : Int) ∧ ((i : Nat) : Int) < 8 := by omega
      have hri := fun (wx : World) => run_idx (b := d) i Hd.out.1 hlt wx
      have zx : wt.cell? ⟨Y, i, none⟩ = some (.int .i64 (u.getD i 0)) := by
        rw [← obI_at Hu.out.1 Hd.out.1 i hlt]
        exact cellR HBX.out i (by rw [obI_len Hu.out.1 Hd.out.1 i hi]; exact hlt)
      have fx := frozen_of_row _ _ i _ _ HBX.out
      obtain ⟨xa, Hxa⟩ : ∃ z : Int, Hid (z = u.getD i 0) := ⟨_, hid rfl⟩
      obtain ⟨xb, Hxb⟩ : ∃ z : Int, Hid (z = d.getD i 0) := ⟨_, hid rfl⟩
      rw [← Hxa.out] at zx
      rw [← Hxb.out] at hri
      have h1 := Hu.out.at i hlt
      have h2 := Hd.out.at i hlt
      rw [← Hxa.out] at h1
      rw [← Hxb.out] at h2
      have Hor : Hid (bits .or .i64 xa (wrap64 (xb * 16777216)) = ors (u.getD i 0) (d.getD i 0)) := by
        unfold Hid
        rw [← Hxa.out, ← Hxb.out, IntWalk.wrap64_in _ (by omega)]
        obtain ⟨A, hA⟩ := Int.eq_ofNat_of_zero_le h1.1
        obtain ⟨B, hB⟩ := Int.eq_ofNat_of_zero_le (show 0 ≤ xb * 16777216 by omega)
        rw [ors, hB, hA]
        exact i64_or_nat A B (by omega) (by omega)
      clear h1 h2
      go_wp2_with fail
      rw [Hor.out]
      refine ⟨⟨i + 1, by go_num, by omega, ?_, ?_⟩, by simp [intOf]; omega⟩
      · exact hid (HA.out.setCell (.inr HLY.out) _)
      · unfold Hid
        rw [heap_setCell_same wt Y i _ 86 _ HBX.out, ← obI_step Hu.out.1 Hd.out.1 i hlt, ← rv_set]
        simp
    · have hlti : ¬ ((i : Nat) : Int) < 8 := by omega
      obtain rfl : i = 8 := by omega
      rw [obI_end Hu.out.1 Hd.out.1] at HBX
      have Hol := hid (ob_len Hu.out.1 Hd.out.1)
      obtain ⟨g, Hg⟩ : ∃ g, Hid (g = ob u d) := ⟨_, hid rfl⟩
      rw [← Hg.out] at HBX Hol
      have HB1 : Hid (Bf w (wt.alloc (.cells #[.int .u8 1] 5)) ⟨some ⟨wt.heap.size, 0, none⟩, 1, 1⟩ [1]) := by
        unfold Hid
        refine ⟨⟨⟨rfl, .inr ⟨wt.heap.size, 1, _, rfl, Nat.zero_le _, heap_alloc_new wt _, Nat.le_refl _, by unfold maxLen; omega, rfl, rfl⟩⟩, fun k hk => by simp [Sl.v, Value.ownBlock] at hk; rw [← hk]; exact HA.out.size, HA.out.alloc _⟩, rfl⟩
      have HC := hid (appRow HB1.out (by simp) Hol.out (width := 6) (by omega))
      have HBX5 : Hid ((wt.alloc (.cells #[.int .u8 1] 5)).heap[Y]? = some (.cells (rv g).toArray 86 (0, 0))) := hid (keep0 ((Apart.refl [] wt).alloc _) HBX.out)
      go_wp2_with (first
        | refine wpList_load_row rfl 86 _ rfl Y rfl 86 _ (0, 0) _ HBX5.out Try.underlying86 rfl (by rw [size86]; simp [rv_len, Hol.out]) ?_
        | (go_at_call 82; refine HC.out.mono ?_; rintro _ w6 ⟨s4, rfl, b6, t6⟩; have H6 := hid b6; clear b6 t6))
      go_ret
      exact ⟨s4, rfl, by rw [← Hg.out]; exact H6.out⟩
end Go.Proofs.Ytdbeeikjngnnnaa.ty
