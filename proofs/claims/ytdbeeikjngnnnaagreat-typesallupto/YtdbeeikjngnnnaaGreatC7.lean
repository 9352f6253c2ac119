import Derived.Test.YtdbeeikjngnnnaaGreatC3
namespace Go.Proofs.YtdbeeikjngnnnaaGreat.ty
open Go.ChangeShapes Go.WideShapes Go.ChangeAt Go.RowKit
set_option linter.unusedVariables false
set_option linter.unusedSimpArgs false
set_option maxRecDepth 100000
set_option maxHeartbeats 8000000
theorem info5 : (Tryz.prog.info? 5).map (fun i => (i.zero, i.size, i.bytes)) = some (some (.int .u8 0), 1, 1) := by kernel_rfl
theorem info_of {t : TypeId} {z : Option Value} {s b : Nat} (h : (Tryz.prog.info? t).map (fun i => (i.zero, i.size, i.bytes)) = some (z, s, b)) : ∃ i, Tryz.prog.info? t = some i ∧ i.zero = z ∧ i.size = s ∧ i.bytes = b := by
 cases hq : Tryz.prog.info? t with
 | none => simp [hq] at h
 | some i =>
  simp [hq] at h
  exact ⟨i, rfl, h.1, h.2.1, h.2.2⟩
def TK (ts : List Nat) (W W' : World) : Prop := ∃ Z, Apart Z W W' ∧ ∀ k ∈ Z, ∃ cur t, t ∈ ts ∧ W.heap[k]? = some (.cells cur t (0, 0))
theorem TK.trans {ts : List Nat} {W W1 W2 : World} (h : TK ts W W1) (k : TK ts W1 W2) : TK ts W W2 := by
 obtain ⟨Z, a, hz⟩ := h
 obtain ⟨Y, b, hy⟩ := k
 refine ⟨Z ++ Y.filter (fun y => y < W.heap.size), (a.mono (fun x hx => List.mem_append_left _ hx)).trans' b (fun y hyy => ?_), fun k hk => ?_⟩
 ·by_cases hs : y < W.heap.size
  ·left; simp [hyy, hs]
  ·right; omega
 ·rcases List.mem_append.1 hk with hk | hk
  ·exact hz k hk
  ·simp at hk
   by_cases hkz : k ∈ Z
   ·exact hz k hkz
   ·obtain ⟨cur, t, ht, hh⟩ := hy k hk.1
    exact ⟨cur, t, ht, (a.block k hk.2 hkz).symm.trans hh⟩
theorem TK.block {ts : List Nat} {W W' : World} (h : TK ts W W') {Y : Nat} {cur : Array Value} {t : TypeId} (hY : W.heap[Y]? = some (.cells cur t (0, 0))) (ht : t ∉ ts) : W'.heap[Y]? = some (.cells cur t (0, 0)) := by
 obtain ⟨Z, a, hz⟩ := h
 refine (a.block Y (lt_of_heap hY) (fun hm => ?_)).trans hY
 obtain ⟨cu, t', ht', hh⟩ := hz Y hm
 rw [hY] at hh
 simp at hh
 exact ht (hh.2 ▸ ht')
theorem TK.size {ts : List Nat} {W W' : World} (h : TK ts W W') : W.heap.size ≤ W'.heap.size := by obtain ⟨Z, a, _⟩ := h; exact a.size
theorem TK.own {ts : List Nat} {w W W' : World} {e size : Nat} {s : Sl} {us : List Value} (hn : Nw w W e size s us) (a : Apart s.v.ownBlock.toList W W') (he : e ∈ ts) : TK ts W W' :=
 ⟨_, a, fun k hk => by obtain ⟨cur, hc⟩ := own_typ hn.own (k := k) (by simpa using hk); exact ⟨cur, e, he, hc⟩⟩
theorem TK.refl (ts : List Nat) (w : World) : TK ts w w := ⟨[], Apart.refl _ _, by simp⟩
theorem TK.of0 {ts : List Nat} {w w' : World} (a : Apart [] w w') : TK ts w w' := ⟨[], a, by simp⟩
structure Bf (wB w : World) (s : Sl) (us : List Nat) : Prop where
 nw : Nw wB w 5 1 s (byts us)
 len : s.n = us.length
theorem Bf.kept {wB w w' : World} {s : Sl} {us : List Nat} (h : Bf wB w s us) (a : Apart [] w w') : Bf wB w' s us := ⟨h.nw.kept a, h.len⟩
theorem byts_app (a b : List Nat) : byts (a ++ b) = byts a ++ byts b := by simp [byts]
theorem app_byte {wB w : World} {s : Sl} {us : List Nat} (h : Bf wB w s us) (x : Nat) (hl : us.length + 1 ≤ 4000000) :
  ∃ s' W', (Builtin.append_ #[29, 29] 29 #[.slice s.p s.n s.c, .slice (some ⟨w.heap.size, 0, none⟩) 1 1]).run Tryz.prog (w.alloc (Obj.cells #[.int .u8 (x : Int)] 5)) = .ok (.slice s'.p s'.n s'.c) W' ∧ Bf wB W' s' (us ++ [x]) ∧ TK [5] w W' := by
 obtain ⟨i0, hif, hz0, hz1, hz2⟩ := info_of info5
 have hlen := h.len
 obtain ⟨s5, w5, hrun, hnw5, hs5, ap5, k5, hk5, -, hk6⟩ := run_appM (s := s) 29 29 5 i0 _ 1 1 Tryz.underlying29 hif hz0 hz1 hz2 rfl (by decide) h.nw 1 (byts [x]) (by decide) rfl (oneB _) (by unfold maxLen; omega) (by omega)
 exact ⟨s5, w5, hrun, ⟨by rw [byts_app]; exact hnw5, by simp; omega⟩, TK.own h.nw ap5 (by simp)⟩
def leB (n : Nat) : Nat → List Nat
 | 0 => []
 | k + 1 => leB n k ++ [n / 2 ^ (8 * k) % 256]
theorem leB_len (n : Nat) : ∀ k, (leB n k).length = k
 | 0 => rfl
 | k + 1 => by simp [leB, leB_len n k]
theorem appN {wB w : World} {s : Sl} {us : List Nat} (hb : Bf wB w s us) (hl : us.length ≤ 1000000) {n : Nat} {width : Nat} (hw : width ≤ 6) : Calls Tryz.prog 110 #[.slice s.p s.n s.c, .int .i64 (n : Int), .int .i64 (width : Int)] w fun r w' => ∃ s', r = .returned (.slice s'.p s'.n s'.c) ∧ Bf wB w' s' (us ++ leB n width) ∧ TK [5] w w' := by
 have HB := hid hb
 have Hl := hid hl
 clear hb hl
 go_enter Tryz.func110, Tryz.ntmps110
 go_wp2_with fail
 go_loopw [0, 9] (fun b v wt => ∃ (i : Nat) (s : Sl), v = .int .i64 (i : Nat) ∧ i ≤ width ∧ b = .slice s.p s.n s.c ∧ Hid (Bf wB wt s (us ++ leB n i)) ∧ Hid (TK [5] w wt)) (fun _ v _ => width - (intOf v).toNat)
 case atStart => exact ⟨0, s, rfl, Nat.zero_le _, rfl, by simpa [leB] using HB, hid (TK.refl _ _)⟩
 case round =>
  clear HB
  obtain ⟨i, s2, rfl, hi, rfl, HB, HT⟩ := hrel
  generalize wr = wt at *
  by_cases hlt : i < width
  ·have hlti : ((i : Nat) : Int) < (width : Nat) := by omega
   have h8 : wrap64 (8 * (i : Int)) = ((8 * i : Nat) : Int) := by rw [IntWalk.wrap64_in _ (by omega)]; omega
   obtain ⟨s3, w3, hrun, hb3, hk3⟩ := app_byte HB.out (n / 2 ^ (8 * i) % 256) (by have := Hl.out; simp [leB_len]; omega)
   have e : ((n / 2 ^ (8 * i) % 256 : Nat) : Int) = (n : Int) / 2 ^ (8 * i) % 256 := by
    rw [Int.natCast_emod, Int.natCast_ediv, Int.natCast_pow]; rfl
   rw [e] at hrun
   clear e
   have HR := hid hrun
   have HB3 : Hid (Bf wB w3 s3 (us ++ leB n (i + 1))) := by unfold Hid; rw [leB, ← List.append_assoc]; exact hb3
   have HT3 := hid (HT.out.trans hk3)
   clear hrun hb3 hk3
   go_wp2_with (refine wpList_append3 rfl _ _ 29 rfl _ _ rfl rfl (.slice s3.p s3.n s3.c) w3 HR.out ?_)
   exact ⟨⟨i + 1, s3, by go_num, by omega, rfl, HB3, HT3⟩, by simp [intOf]; omega⟩
  ·have hlti : ¬ ((i : Nat) : Int) < (width : Nat) := by omega
   obtain rfl : i = width := by omega
   go_wp2_with fail
   go_ret
   exact ⟨s2, rfl, HB.out, HT.out⟩
theorem byts_set (us : List Nat) (j x : Nat) : (byts us).set j (.int .u8 (x : Int)) = byts (us.set j x) := by simp [byts, List.map_set]
theorem Bf.set {wB w : World} {s : Sl} {us : List Nat} (h : Bf wB w s us) (j : Nat) (hj : j < us.length) : ∃ g, s.p = some ⟨g, 0, none⟩ ∧ wB.heap.size ≤ g ∧ w.cell? ⟨g, j, none⟩ = some (.int .u8 ((us.getD j 0 : Nat) : Int)) ∧ w.frozen? ⟨g, j, none⟩ = false ∧ (∃ cur, w.heap[g]? = some (.cells cur 5 (0, 0))) ∧ ∀ (w' : World) (x : Nat), Apart [] w w' → Bf wB (w'.setCell ⟨g, j, none⟩ (.int .u8 (x : Int))) s (us.set j x) := by
 have hl := h.len
 obtain ⟨ho, ⟨hv, hz⟩ | ⟨g, cap, cur, hv, hb, hr, hle, hm, hs, ht⟩⟩ := h.nw.own
 ·omega
 have hv' := hv
 unfold Sl.v at hv'
 simp at hv'
 obtain ⟨hp, hc⟩ := hv'
 have hob : s.v.ownBlock = some g := by rw [hv]; rfl
 have hg := h.nw.new g hob
 have hjc : j < cur.size := by rw [hs]; omega
 have hcur : cur[j]? = some (.int .u8 ((us.getD j 0 : Nat) : Int)) := by
  have e1 : (cur.toList.take (s.n * 1))[j]? = cur[j]? := by rw [List.getElem?_take_of_lt (by omega)]; simp
  rw [← e1, ht]
  simp [byts, hj]
 refine ⟨g, hp, hg, by rw [cell_of_row _ _ _ _ _ _ hr, hcur], frozen_of_row _ _ _ _ _ hr, ⟨cur, hr⟩, fun w' x a => ?_⟩
 have hr' := keep0 a hr
 have h2 := heap_setCell_same w' g j _ 5 (.int .u8 (x : Int)) hr'
 refine ⟨⟨⟨by simp [byts] at ho ⊢; omega, .inr ⟨g, cap, _, hv, hb, h2, hle, hm, by simp [hs], ?_⟩⟩, h.nw.new, (h.nw.ap.trans a).setCell (.inr hg) _⟩, by simp [hl]⟩
 rw [← byts_set, ← ht]
 simp [List.take_set]
def mk8 (r : List Int) : Nat → Nat
 | 0 => 0
 | i + 1 => if 0 < r.getD i 0 then mk8 r i ||| 2 ^ i else mk8 r i
theorem mk8_lt (r : List Int) : ∀ i, mk8 r i < 2 ^ i
 | 0 => by simp [mk8]
 | i + 1 => by
  have h := mk8_lt r i
  have h2 : 2 ^ i < 2 ^ (i + 1) := Nat.pow_lt_pow_right (by omega) (by omega)
  unfold mk8
  split
  ·exact Nat.or_lt_two_pow (by omega) h2
  ·omega
def nb8 (r : List Int) (wd : Nat) : Nat → List Nat
 | 0 => []
 | i + 1 => if 0 < r.getD i 0 then nb8 r wd i ++ leB (r.getD i 0).toNat wd else nb8 r wd i
theorem nb8_len (r : List Int) (wd : Nat) : ∀ i, (nb8 r wd i).length ≤ i * wd
 | 0 => by simp [nb8]
 | i + 1 => by
  have h := nb8_len r wd i
  have h2 : (i + 1) * wd = i * wd + wd := Nat.succ_mul i wd
  unfold nb8
  split
  ·simp [leB_len]; omega
  ·omega
def rowB (r : List Int) (wd : Nat) : List Nat := mk8 r 8 :: nb8 r wd 8
theorem ex_shl {W : World} {eval : Operand → Value} {op : Oper} (x : Operand) (i : Nat) (hi : i < 8) (ho : op.op = .binOp .shl 5 (.const (.int .u8 1)) x 3) (hx : eval x = .int .i64 (i : Int)) (hk : eval (.const (.int .u8 1)) = .int .u8 1) : (execOp eval op).run Tryz.prog W = .ok (.value (.int .u8 ((2 ^ i : Nat) : Int))) W := by
 unfold execOp
 simp only [ho, hx, hk]
 obtain rfl | rfl | rfl | rfl | rfl | rfl | rfl | rfl : i = 0 ∨ i = 1 ∨ i = 2 ∨ i = 3 ∨ i = 4 ∨ i = 5 ∨ i = 6 ∨ i = 7 := by omega
 all_goals kernel_rfl
theorem appRow {wB w : World} {s : Sl} {us : List Nat} (hb : Bf wB w s us) (hl : us.length ≤ 900000) {r : List Int} (hr : r.length = 8) {width : Nat} (hw : width ≤ 6) : Calls Tryz.prog 107 #[.slice s.p s.n s.c, .agg (rv r).toArray, .int .i64 (width : Int)] w fun a w' => ∃ s', a = .returned (.slice s'.p s'.n s'.c) ∧ Bf wB w' s' (us ++ rowB r width) ∧ TK [5] w w' := by
 have HB := hid hb
 have Hl := hid hl
 have hln := hb.len
 have Hr := hid hr
 have Hw := hid hw
 clear hb hl hr hw
 have HA := hid (Apart.refl [] w)
 obtain ⟨who, Hwho⟩ : ∃ n : Nat, Hid (n = us.length) := ⟨_, hid rfl⟩
 rw [← Hwho.out] at hln
 go_enter Tryz.func107, Tryz.ntmps107
 go_upto_region 2 with fail
 obtain ⟨X, HXX⟩ : ∃ X, Hid (X = w.heap.size) := ⟨_, rfl⟩
 obtain ⟨w1, hw1⟩ : ∃ W, W = w.alloc (.cells (rv r).toArray 99) := ⟨_, rfl⟩
 have HSw1 : Hid (Apart [] w w1) := hid (zM hw1)
 have HBX : Hid (w1.heap[X]? = some (.cells (rv r).toArray 99 (0, 0))) := hid (zN HXX.out hw1)
 have HLX : Hid (w.heap.size ≤ X) := by unfold Hid; rw [HXX.out]; exact HA.out.size
 replace HA := hid (HA.out.trans HSw1.out)
 rw [← hw1, ← HXX.out]
 clear hw1 HXX
 replace HB := hid (HB.out.kept HSw1.out)
 obtain ⟨s3, w3, hrun, hb3, hk3⟩ := app_byte HB.out 0 (by have := Hl.out; omega)
 have HB3 : Hid (Bf wB w3 s3 (us ++ (mk8 r 0 :: nb8 r width 0))) := hid hb3
 have HT3 : Hid (TK [5] w w3) := hid ((TK.of0 HSw1.out).trans hk3)
 have HBX3 := hid (hk3.block HBX.out (by simp))
 have HR := hid hrun
 clear hrun hb3 hk3 HB HBX
 go_wp2_with (first
  | refine wpList_append3 rfl _ _ 29 rfl _ _ rfl rfl (.slice s3.p s3.n s3.c) w3 HR.out ?_
  | refine wpList_load_row rfl 99 _ rfl X rfl 99 _ (0, 0) _ HBX3.out Tryz.underlying99 rfl (by rw [size86]; simp [rv_len, Hr.out]) ?_)
 clear HR HBX3
 go_loopw [0, 16] (fun b v wt => ∃ (i : Nat) (s : Sl), v = .int .i64 (i : Nat) ∧ i ≤ 8 ∧ b = .slice s.p s.n s.c ∧ Hid (Bf wB wt s (us ++ (mk8 r i :: nb8 r width i))) ∧ Hid (TK [5] w wt)) (fun _ v _ => 8 - (intOf v).toNat)
 case atStart => exact ⟨0, s3, rfl, Nat.zero_le _, rfl, HB3, HT3⟩
 case round =>
  clear HB3 HT3 HA
  obtain ⟨i, s2, rfl, hi, rfl, HB, HT⟩ := hrel
  generalize wr = wt at *
  by_cases hlt : i < 8
  ·have hlti : ((i : Nat) : Int) < 8 := by omega
   have hri := fun (wx : World) => run_idx (b := r) i Hr.out hlt wx
   obtain ⟨xr, Hxr⟩ : ∃ z : Int, Hid (z = r.getD i 0) := ⟨_, hid rfl⟩
   rw [← Hxr.out] at hri
   by_cases hpos : xr > 0
   ·obtain ⟨n, rfl⟩ : ∃ n : Nat, xr = (n : Int) := ⟨xr.toNat, by omega⟩
    have Hn : Hid ((r.getD i 0).toNat = n) := by unfold Hid; rw [← Hxr.out]; omega
    go_upto_region 7 with fail
    obtain ⟨g, hp, hg, hz, hf, hty, hset⟩ := HB.out.set who (by rw [Hwho.out]; simp)
    have e1 : (us ++ (mk8 r i :: nb8 r width i)).getD who 0 = mk8 r i := by rw [Hwho.out]; simp [List.getD_eq_getElem?_getD]
    rw [e1] at hz
    clear e1
    obtain ⟨m, Hmm⟩ : ∃ m : Nat, Hid (m = mk8 r i) := ⟨_, hid rfl⟩
    obtain ⟨q, Hq⟩ : ∃ q : Nat, Hid (q = 2 ^ i) := ⟨_, hid rfl⟩
    have hm8 : m < 256 := by rw [Hmm.out]; exact Nat.lt_of_lt_of_le (mk8_lt r i) (Nat.pow_le_pow_right (by omega) hi)
    have hq8 : q < 256 := by rw [Hq.out]; exact Nat.pow_lt_pow_right (a := 2) (n := 8) (by omega) hlt
    have hor : bits .or .u8 (m : Int) (q : Int) = ((m ||| q : Nat) : Int) := u8_or_nat m q hm8 hq8
    rw [← Hmm.out] at hz
    have HZ := hid hz
    have HF := hid hf
    have HSET := hid hset
    have HTY := hid hty
    have hlen2 := HB.out.len
    have hlt0 : (0 : Int) ≤ ((who : Nat) : Int) ∧ ((who : Nat) : Int) < ((s2.n : Nat) : Int) := by
     rw [hlen2, Hwho.out, List.length_append, List.length_cons]; omega
    clear hz hf hset hty hm8 hq8 hlen2
    rw [hp]
    have hAd : Apart [g] wt wt.drew := (Apart.refl [g] wt).drew
    have HAd : Hid (Apart [] wt wt.drew) := (Apart.refl [] wt).drew
    refine wp_region_held_drew (S := fun W => Apart [g] wt W) (by kernel_rfl) hAd (fun hHeld => ?_)
    generalize wt.drew = wd at *
    clear hAd
    refine zt 0 22 ?_
    refine zt 1 23 ?_
    refine zt 2 24 ?_
    refine zt 4 26 ?_
    simp only [zA,zB,zC,zD,zF]
    refine tk 5 27 (.int .u8 (q : Int)) rfl ?_ ?_
    ·intro W hSW; rw [Hq.out]; exact ex_shl _ i hlt rfl rfl rfl
    simp only [zA,zB,zC,zD,zF]
    refine zQ 3 fun KK hKK => ?_
    have z : wd.cell? ⟨g, who, none⟩ = some (.int .u8 (m : Int)) := (HAd.out.cell (by obtain ⟨cur, hc⟩ := HTY.out; exact lt_of_heap hc) (by simp)).trans HZ.out
    go_simp
    refine hKK.out _ _ hHeld (fun hHeld => ?_)
    clear hKK KK z
    try simp only [zA,zB,zC,zD,zF]
    refine zt 6 28 ?_
    refine zt 7 29 ?_
    simp only [zA,zB,zC,zD,zF]
    refine zQ 8 fun KK hKK => ?_
    have z : wd.cell? ⟨g, who, none⟩ = some (.int .u8 (m : Int)) := (HAd.out.cell (by obtain ⟨cur, hc⟩ := HTY.out; exact lt_of_heap hc) (by simp)).trans HZ.out
    have f : wd.frozen? ⟨g, who, none⟩ = false := by obtain ⟨cur, hc⟩ := HTY.out; exact frozen_of_row _ _ _ _ _ (keep0 HAd.out hc)
    go_simp
    have hHz := hHeld.setCell (p := ⟨g, who, none⟩) (.inl (by simp)) (.int .u8 ((m ||| q : Nat) : Int))
    have HB5 := hid (HSET.out wd (m ||| q) HAd.out)
    refine hKK.out _ _ hHz (fun hHeld => ?_)
    clear hKK KK z f
    try simp only [zA,zB,zC,zD,zF]
    refine wpAnyH_done (by kernel_rfl) ?_ _
    have HT5 := hid (HT.out.trans (⟨[g], hHeld, by intro k hk; simp at hk; subst hk; obtain ⟨cur, hc⟩ := HTY.out; exact ⟨cur, 5, by simp, hc⟩⟩ : TK [5] wt _))
    generalize wd.setCell ⟨g, who, none⟩ (.int .u8 ((m ||| q : Nat) : Int)) = w5 at *
    clear hHeld hHz HZ HF HSET HTY
    rw [← hp]
    clear hp hlt0 hor hri
    have HB6 : Hid (Bf wB w5 s2 (us ++ (mk8 r (i + 1) :: nb8 r width i))) := by
     unfold Hid
     have hx : 0 < r.getD i 0 := by rw [← Hxr.out]; exact hpos
     have e2 : mk8 r (i + 1) = m ||| q := by rw [mk8, if_pos hx, Hmm.out, Hq.out]
     have e3 : (us ++ (mk8 r i :: nb8 r width i)).set who (m ||| q) = us ++ ((m ||| q) :: nb8 r width i) := by
      rw [Hwho.out, List.set_append_right _ _ (Nat.le_refl _), Nat.sub_self, List.set_cons_zero]
     rw [e2, ← e3]
     exact HB5.out
    clear HB5 HB
    have hbd : (us ++ (mk8 r (i + 1) :: nb8 r width i)).length ≤ 1000000 := by
     have h1 := Hl.out
     have h2 := nb8_len r width i
     have h3 : i * width ≤ 8 * 6 := Nat.mul_le_mul hi Hw.out
     rw [List.length_append, List.length_cons]
     omega
    have hcl := appN HB6.out hbd (n := n) Hw.out
    have HC := hid hcl
    clear hcl
    go_wp2_with (go_at_call 110; refine HC.out.mono ?_; rintro _ w6 ⟨s4, rfl, b6, t6⟩; have H6 := hid (And.intro b6 t6); clear b6 t6)
    refine ⟨⟨i + 1, s4, by go_num, by omega, rfl, ?_, hid (HT5.out.trans H6.out.2)⟩, by simp [intOf]; omega⟩
    unfold Hid
    have hx : 0 < r.getD i 0 := by rw [← Hxr.out]; exact hpos
    have e4 : nb8 r width (i + 1) = nb8 r width i ++ leB n width := by rw [nb8, if_pos hx, Hn.out]
    rw [e4]
    simpa using H6.out.1
   ·have Hm : Hid (mk8 r (i + 1) = mk8 r i ∧ nb8 r width (i + 1) = nb8 r width i) := by
     unfold Hid
     have : ¬ 0 < r.getD i 0 := by rw [← Hxr.out]; exact hpos
     exact ⟨by rw [mk8, if_neg this], by rw [nb8, if_neg this]⟩
    go_wp2_with fail
    exact ⟨⟨i + 1, s2, by go_num, by omega, rfl, by rw [Hm.out.1, Hm.out.2]; exact HB, HT⟩, by simp [intOf]; omega⟩
  ·have hlti : ¬ ((i : Nat) : Int) < 8 := by omega
   obtain rfl : i = 8 := by omega
   go_wp2_with fail
   go_ret
   exact ⟨s2, rfl, HB.out, HT.out⟩
theorem RdT.tk {w w' : World} {p : Option Addr} {t : Nat} {us : List Value} {ts : List Nat} (h : RdT w p t us) (k : TK ts w w') (ht : t ∉ ts) : RdT w' p t us := by
 obtain ⟨Z, a, hz⟩ := k
 refine h.kept a (fun k hk cur m e => ?_)
 obtain ⟨cu, t', ht', hh⟩ := hz k hk
 rw [hh] at e
 simp only [Option.some.injEq, Obj.cells.injEq] at e
 exact ht (e.2.1 ▸ ht')
def svs (l : List Sl) : List Value := l.map fun b => Value.slice b.p b.n b.c
theorem info22 : (Tryz.prog.info? 29).map (fun i => (i.zero, i.size, i.bytes)) = some (some (.slice none 0 0), 1, 24) := by kernel_rfl
theorem app_elem {w W : World} {s : Sl} {l : List Sl} (h : Nw w W 29 1 s (svs l)) (b : Sl) (hl : s.n + 1 ≤ 1000000) :
  ∃ s' W', (Builtin.append_ #[46, 46] 46 #[.slice s.p s.n s.c, .slice (some ⟨W.heap.size, 0, none⟩) 1 1]).run Tryz.prog (W.alloc (Obj.cells #[.slice b.p b.n b.c] 29)) = .ok (.slice s'.p s'.n s'.c) W' ∧ Nw w W' 29 1 s' (svs (l ++ [b])) ∧ s'.n = s.n + 1 ∧ TK [29] W W' := by
 obtain ⟨i0, hif, hz0, hz1, hz2⟩ := info_of info22
 obtain ⟨s5, w5, hrun, hnw5, hs5, ap5, -⟩ := run_appM (s := s) 46 46 29 i0 _ 1 24 Tryz.underlying46 hif hz0 hz1 hz2 rfl (by decide) h 1 (svs [b]) (by decide) rfl (by intro u hu; simp [svs] at hu; subst hu; rfl) (by unfold maxLen; omega) (by omega)
 exact ⟨s5, w5, hrun, by unfold svs at *; rw [List.map_append]; exact hnw5, hs5, TK.own h ap5 (by simp)⟩
end Go.Proofs.YtdbeeikjngnnnaaGreat.ty
