import Derived.Test.YtdbeeikjngnnnaaG38
import Derived.Test.YtdbeeikjngnnnaaG33
namespace Go.Proofs.Ytdbeeikjngnnnaa.ty
open Go.ChangeShapes Go.WideShapes Go.ChangeAt Go.RowKit
set_option linter.unusedVariables false
set_option linter.unusedSimpArgs false
/-- an operation that is not wanted, of whatever kind -/
theorem wpAnyH_pass {P : Program} {ops : Array Oper} {Q : Exit → Act → World → Prop} {md : Region.Mode} {S : World → Prop} {fuel : Nat} {listed : Array Bool} {a : Act} {w : World} (i : Nat) {o : Oper} (hr : Region.ready md ops listed = [i]) (ho : ops[i]? = some o) (hw : Region.wanted o (yielded ops a.tmps) = false) (hS : S w) (h : wpAnyH P md ops Q S fuel (listed.setIfInBounds i true) (a.put o.dst undef) w) : wpAnyH P md ops Q S (fuel + 1) listed a w :=
  wpAnyH_ready hr (by simp) (AllReadyH.cons ho (fun K' hK => by rw [if_neg (by rw [hw]; simp)]; exact hK.out _ _ hS (fun _ => h)) AllReadyH.nil)
theorem bsk_strB {bs : List Nat} (h : U8 bs) : bsk (strB bs) = bs := by
  unfold bsk
  rw [ByteArray.toList_eq, strB_data, List.map_map]
  induction bs with
  | nil => rfl
  | cons x r ih =>
    rw [List.map_cons, ih (fun y hy => h y (List.mem_cons_of_mem _ hy))]
    have := h x (by simp)
    simp only [Function.comp_apply, UInt8.toNat_ofNat']
    rw [Nat.mod_eq_of_lt (by omega)]
theorem elB_u8 (e : Nat) : U8 (elB e) := by
  unfold elB
  intro x hx
  split at hx
  · simp at hx; omega
  split at hx
  · simp at hx; omega
  · simp at hx; omega
theorem kk_succ (H : List Dn) (v : Nat → Nat) {t : Nat} (ht : t < 3) : kk H v (t + 1) = kk H v t + (if thB H v (eo t) = true then 1 else 0) := by
  obtain rfl | rfl | rfl : t = 0 ∨ t = 1 ∨ t = 2 := by omega
  · simp [kk, eo]
  · simp [kk, eo]
  · simp [kk, eo]
theorem kk_le (H : List Dn) (v : Nat → Nat) (t : Nat) : kk H v t ≤ 3 := by
  unfold kk
  split <;> split <;> split <;> omega
set_option maxHeartbeats 4000000 in
set_option maxRecDepth 100000 in
theorem right2 {w0 w : World} {X : Nat} {H : List Dn} {c : Nat → Nat → Nat} {P : Nat → Nat} {V : Nat → Vl} {s : Sl} (h : Hm w0 w X 2 H c P V s) (g : Wr 2 H c V) (hl : H.length ≤ 60) {i : Nat} (hi : i < 4) : Calls Try.prog 28 #[.pointer (some ⟨X, 0, none⟩), .int .i64 (i : Int)] w fun r w' => r = .returned (.bool true) ∧ Apart [] w w' := by
  have zk : w.cell? ⟨X, 0, none⟩ = some (.int .i64 2) := h.kind
  have zv := h.val hi
  obtain ⟨u, es, hv⟩ : ∃ u d, V i = .set u d := by
    have := g.kd i hi
    cases hx : V i using Vl.el with
    | cnt u d => rw [hx] at this; cases this
    | set c es => exact ⟨c, es, rfl⟩
    | flg c t => rw [hx] at this; cases this
    | rgs s a t => rw [hx] at this; cases this
  have hr := g.rel i hi
  have hgk := g.gk hl hi
  have hho := h.ho i hi
  rw [hv] at hr hgk hho
  have HCe := hid (Elements_v hho hgk.ok)
  have HCt := hid (fun wx e (he : e < 3) (a : Apart [] w wx) => there_ok (h.kept0 a) hl hi e he)
  obtain ⟨N, HNe⟩ : ∃ n, Hid (n = es.length) := ⟨_, hid rfl⟩
  obtain ⟨hlen, hat⟩ := els_right g.hs hr
  have Hkl : Hid (kk H (c i) 3 = N) := hid (by rw [HNe.out]; exact hlen.symm)
  have Hat := hid hat
  have Hkk := hid (fun t => kk_le H (c i) t)
  have hN3 : N ≤ 3 := by rw [← Hkl.out]; exact Hkk.out 3
  clear hl h g hv hr hgk hho hlen hat
  go_enter Try.func28, Try.ntmps28
  go_upto_region 12 with (go_at_call 22; refine HCe.out.mono ?_; rintro _ w2 ⟨e1, rfl, l1, n1, c1, m1⟩; have HN1 := hid n1; have HE1 := hid m1; have Hc1 := hid c1; clear n1 m1 c1 HCe)
  have hn1 : e1.n = N := by rw [Hc1.out]; exact HNe.out.symm
  rw [hn1]
  clear hn1
  go_upto_region 14 with fail
  have zL0 : (w2.alloc (.cells #[.int .i64 0, .int .i64 2, .int .i64 1] 3)).heap[w2.heap.size]? = some (.cells #[.int .i64 0, .int .i64 2, .int .i64 1] 3 (0, 0)) := heap_alloc_new w2 _
  have a3 : Apart [] w2 (w2.alloc (.cells #[.int .i64 0, .int .i64 2, .int .i64 1] 3)) := (Apart.refl [] w2).alloc _
  obtain ⟨L, HL⟩ : ∃ L, Hid (L = w2.heap.size) := ⟨_, hid rfl⟩
  rw [← HL.out] at zL0 ⊢
  generalize w2.alloc (.cells #[.int .i64 0, .int .i64 2, .int .i64 1] 3) = w3 at *
  have HA3 := hid a3
  have HZL : Hid (∀ t, t < 3 → w3.cell? ⟨L, t, none⟩ = some (.int .i64 ((eo t : Nat) : Int))) := hid (fun t ht => by
    rw [cell_of_row _ _ _ _ _ _ zL0]
    obtain rfl | rfl | rfl : t = 0 ∨ t = 1 ∨ t = 2 := by omega
    all_goals rfl)
  have HLlt : Hid (L < w3.heap.size) := hid (lt_of_heap zL0)
  clear a3 zL0
  have HR1 : Hid (Rd w3 e1.p (svs l1)) := hid (HN1.out.rd.kept0 HA3.out)
  have HE3 : Hid (Els w3 l1 es) := hid (HE1.out.tk (TK.of0 (ts := []) HA3.out) (by simp))
  have HS3 : Hid (Apart [] w w3) := hid (HN1.out.ap.trans HA3.out)
  go_loopw [8, 68] (fun v8 v68 wt => ∃ t : Nat, v8 = .int .i64 ((kk H (c i) t : Nat) : Int) ∧ v68 = .int .i64 (t : Int) ∧ t ≤ 3 ∧ Hid (Apart [] w3 wt)) (fun _ v68 _ => 3 - intN v68)
  case atStart => exact ⟨0, by unfold kk; rfl, rfl, by omega, hid (Apart.refl _ _)⟩
  case round =>
    obtain ⟨t, rfl, rfl, ht, HSt⟩ := hrel
    generalize wr = wt at *
    by_cases hlt : t < 3
    · have hlti : ((t : Nat) : Int) < 3 := by omega
      have zL := (HSt.out.cell (p := ⟨L, t, none⟩) HLlt.out (by simp)).trans (HZL.out t hlt)
      have Hks := hid (kk_succ H (c i) hlt)
      have he3 : eo t < 3 := by unfold eo; split; omega; split <;> omega
      obtain ⟨e, HEe⟩ : ∃ e, Hid (e = eo t) := ⟨_, hid rfl⟩
      have HEx := hid (Hat.out t hlt)
      rw [← HEe.out] at zL he3 Hks HEx
      have hkle := Hkk.out t
      obtain ⟨q, Hq⟩ : ∃ q, Hid (q = kk H (c i) t) := ⟨_, hid rfl⟩
      rw [← Hq.out] at hkle Hks HEx ⊢
      have HC1 := hid (HCt.out wt e he3 (HS3.out.trans HSt.out))
      obtain ⟨th, Hth⟩ : ∃ b, Hid (b = thB H (c i) e) := ⟨_, hid rfl⟩
      rw [← Hth.out] at HC1 Hks HEx
      cases th
      · go_wp2_with (go_at_call 34; refine HC1.out.mono ?_; rintro _ w4 ⟨rfl, a4⟩; have HA4 := hid a4; clear a4)
        exact ⟨⟨t + 1, by rw [Hks.out]; simp, by go_num, by omega, hid (HSt.out.trans HA4.out)⟩, by simp [intN]; omega⟩
      · go_upto_region 17 with (go_at_call 34; refine HC1.out.mono ?_; rintro _ w4 ⟨rfl, a4⟩; have HA4 := hid a4; clear a4)
        obtain ⟨x, hxe, hxs⟩ := HEx.out trivial
        have Hxe := hid hxe
        have Hxs := hid hxs
        have hqN : q < N := by rw [HNe.out]; exact (List.getElem?_eq_some_iff.1 hxe).1
        have hge : ¬ ((q : Nat) : Int) ≥ ((N : Nat) : Int) := by omega
        have Hql : Hid (q < l1.length) := hid (by rw [HE3.out.len, ← HNe.out]; exact hqN)
        obtain ⟨P1, o1, hp1, hP1, hz1⟩ := HR1.out (by have := Hql.out; simp [svs]; omega)
        obtain ⟨c1, Hc1'⟩ : ∃ b, Hid (l1[q]? = some b) := ⟨_, hid (List.getElem?_eq_getElem Hql.out)⟩
        have HZ1 : Hid (w3.cell? ⟨P1, o1 + q, none⟩ = some (.slice c1.p c1.n c1.c)) := hid (hz1 q _ (by unfold svs; rw [List.getElem?_map, Hc1'.out]; rfl))
        have HX0 := hid (HE3.out.at_ q c1 x Hc1'.out Hxe.out)
        have HX1 : Hid (Bq w3 c1 (elB e)) := hid (by
          have h1 := HX0.out.rd.rd
          have h2 := HX0.out.len
          rw [hxs] at h1 h2
          unfold elS at h1 h2
          rw [bsk_strB (elB_u8 e)] at h1 h2
          exact ⟨h1, h2, HX0.out.ok⟩)
        have HP1 := hid hP1
        have Hp1 := hid hp1
        have HA34 := hid (HSt.out.trans HA4.out)
        clear hz1 hp1 hP1 hxe hxs
        have hAd : Apart [] w4 w4.drew := (Apart.refl [] w4).drew
        refine wp_region_held_drew (S := fun W => Apart [] w4 W) (by kernel_rfl) hAd (fun hHeld => ?_)
        generalize w4.drew = wd at *
        clear hAd
        refine tk 0 77 (.int .i64 (q : Nat)) rfl ?_ ?_
        · intro W hSW; go_simp
        simp only [Act.put, List.setIfInBounds_toArray, List.set_cons_zero, List.set_cons_succ]
        refine tk 1 78 (.slice e1.p N e1.c) rfl ?_ ?_
        · intro W hSW; go_simp
        simp only [Act.put, List.setIfInBounds_toArray, List.set_cons_zero, List.set_cons_succ]
        refine tk 2 79 (.int .i64 (N : Nat)) rfl ?_ ?_
        · intro W hSW; go_simp
        simp only [Act.put, List.setIfInBounds_toArray, List.set_cons_zero, List.set_cons_succ]
        refine tk 3 80 (.bool false) rfl ?_ ?_
        · intro W hSW; go_simp
        simp only [Act.put, List.setIfInBounds_toArray, List.set_cons_zero, List.set_cons_succ]
        refine tk 4 81 (.bool false) rfl ?_ ?_
        · intro W hSW; go_simp
        simp only [Act.put, List.setIfInBounds_toArray, List.set_cons_zero, List.set_cons_succ]
        refine tk 5 82 (.slice e1.p N e1.c) rfl ?_ ?_
        · intro W hSW; go_simp
        simp only [Act.put, List.setIfInBounds_toArray, List.set_cons_zero, List.set_cons_succ]
        refine tk 6 83 (.int .i64 (q : Nat)) rfl ?_ ?_
        · intro W hSW; go_simp
        simp only [Act.put, List.setIfInBounds_toArray, List.set_cons_zero, List.set_cons_succ]
        refine tk 7 84 (.pointer (some ⟨P1, o1 + q, none⟩)) rfl ?_ ?_
        · intro W hSW; rw [Hp1.out]; go_simp
        simp only [Act.put, List.setIfInBounds_toArray, List.set_cons_zero, List.set_cons_succ]
        refine tk 9 86 (.int .i64 (e : Nat)) rfl ?_ ?_
        · intro W hSW; go_simp
        simp only [Act.put, List.setIfInBounds_toArray, List.set_cons_zero, List.set_cons_succ]
        refine tk 8 85 (.slice c1.p c1.n c1.c) rfl ?_ ?_
        · intro W hSW; have z := ((HA34.out.trans hSW).cell (p := ⟨P1, o1 + q, none⟩) HP1.out (by simp)).trans HZ1.out; go_simp
        simp only [Act.put, List.setIfInBounds_toArray, List.set_cons_zero, List.set_cons_succ]
        refine wpAnyH_ready (rs := [10]) (by kernel_rfl) (by simp) ?_
        refine AllReadyH.cons rfl (fun KK hKK => ?_) AllReadyH.nil
        go_simp
        refine (element_ok _ e he3).mono ?_
        rintro _ w5 ⟨sl, rfl, b5, a5⟩
        have hHx := hHeld.trans a5
        have HB5 := hid b5
        clear b5
        try dsimp only
        refine hKK.out _ _ hHx (fun hHeld => ?_)
        clear hKK KK
        try simp only [Act.put, List.setIfInBounds_toArray, List.set_cons_zero, List.set_cons_succ]
        refine wpAnyH_ready (rs := [11]) (by kernel_rfl) (by simp) ?_
        refine AllReadyH.cons rfl (fun KK hKK => ?_) AllReadyH.nil
        go_simp
        refine (alike_yes (HX1.out.rd.kept0 (HA34.out.trans hHeld)) HX1.out.len HX1.out.ok HB5.out.rd HB5.out.len HB5.out.ok).mono ?_
        rintro _ _ ⟨rfl, rfl⟩
        try dsimp only
        refine hKK.out _ _ hHeld (fun hHeld => ?_)
        clear hKK KK
        try simp only [Act.put, List.setIfInBounds_toArray, List.set_cons_zero, List.set_cons_succ]
        refine tk 12 89 (.bool false) rfl ?_ ?_
        · intro W hSW; go_simp
        simp only [Act.put, List.setIfInBounds_toArray, List.set_cons_zero, List.set_cons_succ]
        refine tk 13 90 (.bool false) rfl ?_ ?_
        · intro W hSW; go_simp
        simp only [Act.put, List.setIfInBounds_toArray, List.set_cons_zero, List.set_cons_succ]
        refine wpAnyH_done (by kernel_rfl) ?_ _
        have HSn := hid (HA34.out.trans hHeld)
        clear hHeld
        go_wp2_with fail
        exact ⟨⟨t + 1, by rw [Hks.out]; simp, by go_num, by omega, HSn⟩, by simp [intN]; omega⟩
    · have hlti : ¬ ((t : Nat) : Int) < 3 := by omega
      obtain rfl : t = 3 := by omega
      rw [Hkl.out]
      go_wp2_with fail
      go_ret
      exact ⟨by simp, HS3.out.trans HSt.out⟩
end Go.Proofs.Ytdbeeikjngnnnaa.ty
namespace Go.Proofs.Ytdbeeikjngnnnaa.ty
open Go.ChangeShapes Go.WideShapes Go.ChangeAt Go.RowKit
set_option linter.unusedVariables false
set_option linter.unusedSimpArgs false
/-! ### what is told is read as it was -/
theorem leV_leB (n : Nat) : ∀ k, leV (leB n k) = n % 2 ^ (8 * k)
  | 0 => by simp [leB, leV, Nat.mod_one]
  | k + 1 => by
    rw [leB, leV_snoc, leV_leB n k, leB_len, Nat.mul_succ, Nat.pow_add, Nat.mod_mul, Nat.mul_comm (2 ^ (8 * k)) (n / 2 ^ (8 * k) % 2 ^ 8)]
theorem mk8_bit (r : List Int) (i : Nat) : ∀ n, (mk8 r n).testBit i = decide (i < n ∧ 0 < r.getD i 0)
  | 0 => by simp [mk8]
  | n + 1 => by
    unfold mk8
    split
    · rename_i h
      rw [Nat.testBit_or, mk8_bit r i n, Nat.testBit_two_pow]
      by_cases e : n = i
      · subst e
        have : decide (n < n + 1 ∧ 0 < r.getD n 0) = true := by rw [decide_eq_true_eq]; exact ⟨by omega, h⟩
        rw [this]; simp
      · have : (i < n + 1) = (i < n) := by simp only [eq_iff_iff]; omega
        simp [e, this]
    · rename_i h
      rw [mk8_bit r i n]
      by_cases e : n = i
      · subst e
        have : decide (n < n + 1 ∧ 0 < r.getD n 0) = false := by rw [decide_eq_false_iff_not]; exact fun k => h k.2
        rw [this]; simp
      · have : (i < n + 1) = (i < n) := by simp only [eq_iff_iff]; omega
        simp [this]
/-- a row that can be told in so many bytes a number -/
structure Rw (wd : Nat) (r : List Int) : Prop where
  len : r.length = 8
  ge : ∀ i, i < 8 → 0 ≤ r.getD i 0
  lt : ∀ i, i < 8 → r.getD i 0 < 2 ^ (8 * wd)
theorem rwI_back {wd : Nat} {r : List Int} (h : Rw wd r) : ∀ (i : Nat) (tl : List Nat), i ≤ 8 → rwI (mk8 r 8) wd i (nb8 r wd i ++ tl) = (r.take i, tl)
  | 0, tl, _ => by simp [rwI, nb8]
  | i + 1, tl, hi => by
    have hb := mk8_bit r i 8
    rw [Nat.testBit_eq_decide_div_mod_eq] at hb
    have hlt : i < r.length := by rw [h.len]; omega
    have e0 : r.getD i 0 = r[i] := by rw [List.getD_eq_getElem?_getD, List.getElem?_eq_getElem hlt]; rfl
    have ht : r.take (i + 1) = r.take i ++ [r.getD i 0] := by
      rw [List.take_add_one, List.getElem?_eq_getElem hlt, e0]; rfl
    have h0 := h.ge i (by omega)
    have h1 := h.lt i (by omega)
    by_cases hp : 0 < r.getD i 0
    · have hbit : mk8 r 8 / 2 ^ i % 2 = 1 := by
        have : decide (i < 8 ∧ 0 < r.getD i 0) = true := by simp only [decide_eq_true_eq]; exact ⟨by omega, hp⟩
        rw [this] at hb
        exact of_decide_eq_true hb
      have hn : nb8 r wd (i + 1) = nb8 r wd i ++ leB (r.getD i 0).toNat wd := by rw [nb8, if_pos hp]
      have ih := rwI_back h i (leB (r.getD i 0).toNat wd ++ tl) (by omega)
      rw [hn, List.append_assoc, rwI, if_pos hbit, ih, ht]
      simp only
      have hl := leB_len (r.getD i 0).toNat wd
      rw [List.take_append_of_le_length (by omega), List.take_of_length_le (l := leB (r.getD i 0).toNat wd) (by omega), leV_leB, List.drop_append_of_le_length (by omega), List.drop_of_length_le (by omega), List.nil_append]
      have e2 : (((r.getD i 0).toNat % 2 ^ (8 * wd) : Nat) : Int) = r.getD i 0 := by
        rw [Nat.mod_eq_of_lt]
        · omega
        · have : (((r.getD i 0).toNat : Nat) : Int) < ((2 ^ (8 * wd) : Nat) : Int) := by
            rw [Int.toNat_of_nonneg h0, Int.natCast_pow]; exact h1
          exact Int.ofNat_lt.1 this
      rw [e2]
    · have hbit : ¬ mk8 r 8 / 2 ^ i % 2 = 1 := by
        have : decide (i < 8 ∧ 0 < r.getD i 0) = false := by simp only [decide_eq_false_iff_not]; exact fun k => hp k.2
        rw [this] at hb
        exact of_decide_eq_false hb
      have hn : nb8 r wd (i + 1) = nb8 r wd i := by rw [nb8, if_neg hp]
      have e2 : r.getD i 0 = 0 := by omega
      rw [hn, rwI, if_neg hbit, rwI_back h i tl (by omega), ht, e2]
theorem rowR_back {wd : Nat} {r : List Int} (h : Rw wd r) (tl : List Nat) : rowR (rowB r wd ++ tl) wd = (r, tl) := by
  unfold rowR rowB
  have e1 : ((mk8 r 8 :: nb8 r wd 8 ++ tl).take 1) = [mk8 r 8] := by simp
  have e2 : ((mk8 r 8 :: nb8 r wd 8 ++ tl).drop 1) = nb8 r wd 8 ++ tl := by simp
  rw [e1, e2]
  have e3 : leV [mk8 r 8] = mk8 r 8 := by simp [leV]
  rw [e3, rwI_back h 8 tl (by omega), List.take_of_length_le (by rw [h.len]; omega)]
theorem Cn.rw2 {r : List Int} (h : Cn r) : Rw 2 r := ⟨h.1, fun i _ => (h.2 i).1, fun i _ => by
  have := (h.2 i).2
  have e : (2 : Int) ^ (8 * 2) = 65536 := by decide
  rw [e]; omega⟩
theorem or_add24 (x y : Nat) (hx : x < 16777216) : x ||| (y * 16777216) = x + y * 16777216 := by
  have e : y * 16777216 = y <<< 24 := by rw [Nat.shiftLeft_eq]
  rw [Nat.or_comm, e, ← Nat.shiftLeft_add_eq_or_of_lt (by rw [show (2 : Nat) ^ 24 = 16777216 by decide]; exact hx), Nat.add_comm]
theorem ors_eq {x y : Int} (hx : 0 ≤ x) (hx2 : x ≤ 16777215) (hy : 0 ≤ y) : ors x y = x + y * 16777216 := by
  obtain ⟨a, rfl⟩ := Int.eq_ofNat_of_zero_le hx
  obtain ⟨b, rfl⟩ := Int.eq_ofNat_of_zero_le hy
  unfold ors
  have e : ((b : Int) * 16777216).toNat = b * 16777216 := by omega
  rw [Int.toNat_natCast, e, or_add24 a b (by omega)]
  omega
theorem ob_at {u d : List Int} (hu : Wd u) (hd : Wd d) (i : Nat) (hi : i < 8) : (ob u d).getD i 0 = u.getD i 0 + d.getD i 0 * 16777216 := by
  have h1 := hu.at i hi
  have h2 := hd.at i hi
  rw [← ors_eq h1.1 h1.2 h2.1]
  unfold ob
  rw [List.getD_eq_getElem?_getD, List.getElem?_zipWith, List.getD_eq_getElem?_getD, List.getD_eq_getElem?_getD, List.getElem?_eq_getElem (by rw [hu.1]; exact hi), List.getElem?_eq_getElem (by rw [hd.1]; exact hi)]
  rfl
theorem Wd.rw6 {u d : List Int} (hu : Wd u) (hd : Wd d) : Rw 6 (ob u d) := ⟨ob_len hu.1 hd.1, fun i hi => by
  have h1 := hu.at i hi
  have h2 := hd.at i hi
  rw [ob_at hu hd i hi]; omega, fun i hi => by
  have h1 := hu.at i hi
  have h2 := hd.at i hi
  have e : (2 : Int) ^ (8 * 6) = 281474976710656 := by decide
  rw [ob_at hu hd i hi, e]; omega⟩
theorem cu_ob {u d : List Int} (hu : Wd u) (hd : Wd d) : cuR (ob u d) = u := by
  refine row_ext (by simp [cuR, ob_len hu.1 hd.1]) hu.1 fun i hi => ?_
  have h1 := hu.at i hi
  have h2 := hd.at i hi
  rw [cuR, getD_map (by rw [ob_len hu.1 hd.1]; exact hi), ob_at hu hd i hi]
  omega
theorem cd_ob {u d : List Int} (hu : Wd u) (hd : Wd d) : cdR (ob u d) = d := by
  refine row_ext (by simp [cdR, ob_len hu.1 hd.1]) hd.1 fun i hi => ?_
  have h1 := hu.at i hi
  have h2 := hd.at i hi
  rw [cdR, getD_map (by rw [ob_len hu.1 hd.1]; exact hi), ob_at hu hd i hi]
  omega
theorem strB_bsk (t : ByteArray) : strB (bsk t) = t := by
  refine ba_inj ?_
  rw [strB_data]
  unfold bsk
  rw [ByteArray.toList_eq, List.map_map]
  have : (UInt8.ofNat ∘ UInt8.toNat) = id := by funext x; simp
  rw [this, List.map_id]
theorem snoc_of {α : Type} {l : List α} {n : Nat} (h : l.length = n + 1) : ∃ m x, l = m ++ [x] ∧ m.length = n := by
  have hne : l ≠ [] := by intro e; rw [e] at h; simp at h
  exact ⟨l.dropLast, l.getLast hne, (List.dropLast_concat_getLast hne).symm, by simp; omega⟩
theorem esI_backN : ∀ (n : Nat) (es : List En) (tl : List Nat), es.length = n → (∀ x ∈ es, x.e.size ≤ 8 ∧ Cn x.t) → esI es.length (esB es ++ tl) = (es, tl) := by
  intro n
  induction n with
  | zero =>
    intro es tl hn _
    obtain rfl := List.eq_nil_of_length_eq_zero hn
    simp [esI, esB]
  | succ n ihn =>
    intro es0 tl hn h
    obtain ⟨es, x, rfl, hes⟩ := snoc_of hn
    have ih := fun tl => ihn es tl hes
    have hx := h x (by simp)
    have h1 : x.e.size % 256 = x.e.size := Nat.mod_eq_of_lt (by omega)
    have ih2 := ih (enB x ++ tl) (fun y hy => h y (by simp [hy]))
    have e1 : esB (es ++ [x]) ++ tl = esB es ++ (enB x ++ tl) := by rw [esB_app]; simp [esB]
    rw [e1, List.length_append, List.length_singleton, esI, ih2]
    simp only
    have e2 : (enB x ++ tl).take 1 = [x.e.size] := by unfold enB; rw [h1]; simp
    have e3 : (enB x ++ tl).drop 1 = bsk x.e ++ (rowB x.t 2 ++ tl) := by unfold enB; simp
    have e4 : leV [x.e.size] = x.e.size := by simp [leV]
    have hl := bsk_len x.e
    rw [e2, e3, e4, List.take_append_of_le_length (by omega), List.take_of_length_le (by omega), List.drop_append_of_le_length (by omega), List.drop_of_length_le (by omega), List.nil_append, rowR_back hx.2.rw2, strB_bsk]
theorem esI_back (es : List En) (tl : List Nat) (h : ∀ x ∈ es, x.e.size ≤ 8 ∧ Cn x.t) : esI es.length (esB es ++ tl) = (es, tl) := esI_backN _ es tl rfl h
/-- as a value may be that can be told -/
def Gt (v : Vl) : Prop := Gd v ∧ ∀ s a t, v = .rgs s a t → a ≤ 7
theorem readV_back {v : Vl} (h : Gt v) (hl : (elsR v).length ≤ 200) : readV v.kd (formV v) = v := by
  cases v using Vl.el with
  | cnt u d =>
    obtain ⟨hu, hd⟩ := h.1
    show Vl.cnt (cuR (rowR ((1 :: rowB (ob u d) 6).drop 1) 6).1) (cdR (rowR ((1 :: rowB (ob u d) 6).drop 1) 6).1) = _
    have e : (1 :: rowB (ob u d) 6).drop 1 = rowB (ob u d) 6 ++ [] := by simp
    rw [e, rowR_back (hu.rw6 hd), cu_ob hu hd, cd_ob hu hd]
  | set c es =>
    obtain ⟨hg, hc, hs⟩ := h.1
    have hE : ∀ x ∈ es, x.e.size ≤ 8 ∧ Cn x.t := fun x hx => ⟨hs x hx, (hg.wi x hx).cn hc⟩
    have hl2 : es.length ≤ 200 := hl
    show Vl.set (rowR ((setB c es).drop 1) 2).1 (esI (leV ((rowR ((setB c es).drop 1) 2).2.take 1)) ((rowR ((setB c es).drop 1) 2).2.drop 1)).1 = _
    have e : (setB c es).drop 1 = rowB c 2 ++ (es.length :: (esB es ++ [])) := by
      unfold setB; rw [Nat.mod_eq_of_lt (show es.length < 256 by omega)]; simp
    rw [e, rowR_back hc.rw2]
    have e2 : (es.length :: (esB es ++ [])).take 1 = [es.length] := rfl
    have e3 : (es.length :: (esB es ++ [])).drop 1 = esB es ++ [] := rfl
    have e4 : leV [es.length] = es.length := by simp [leV]
    simp only
    rw [e2, e3, e4, esI_back es [] hE]
  | flg c g =>
    obtain ⟨hc, hw⟩ := h.1
    show Vl.flg (rowR ((3 :: (rowB c 2 ++ rowB g 2)).drop 1) 2).1 (rowR (rowR ((3 :: (rowB c 2 ++ rowB g 2)).drop 1) 2).2 2).1 = _
    have e : (3 :: (rowB c 2 ++ rowB g 2)).drop 1 = rowB c 2 ++ (rowB g 2 ++ []) := by simp
    rw [e, rowR_back hc.rw2]
    simp only
    rw [rowR_back (hw.cn hc).rw2]
  | rgs s a t =>
    obtain ⟨⟨h0, h1⟩, ⟨h2, h3⟩, -⟩ := h.1
    have h4 := h.2 s a t rfl
    obtain ⟨n, rfl⟩ := Int.eq_ofNat_of_zero_le h0
    obtain ⟨b, rfl⟩ := Int.eq_ofNat_of_zero_le h2
    have hr : regR (formV (.rgs (n : Int) (b : Int) t)) = (n, b, bsk t) := by
      show regR (4 :: (leB (n : Int).toNat 3 ++ ((b : Int).toNat % 256) :: bsk t)) = _
      rw [Int.toNat_natCast, Int.toNat_natCast, Nat.mod_eq_of_lt (show b < 256 by omega)]
      have e : (4 :: (leB n 3 ++ b :: bsk t)).drop 1 = leB n 3 ++ (b :: bsk t) := rfl
      have hl := leB_len n 3
      have hb := bsk_len t
      unfold regR
      rw [e, List.take_append_of_le_length (by omega), List.take_of_length_le (by omega), List.drop_append_of_le_length (by omega), List.drop_of_length_le (by omega), List.nil_append, leV_leB]
      have e2 : (b :: bsk t).take 1 = [b] := rfl
      have e3 : (b :: bsk t).drop 1 = bsk t := rfl
      have e5 : leV [b] = b := by simp [leV]
      rw [e2, e3, e5, List.take_of_length_le (by omega), Nat.mod_eq_of_lt (by rw [show (2 : Nat) ^ (8 * 3) = 16777216 by decide]; omega)]
    show Vl.rgs (((regR (formV (.rgs (n : Int) (b : Int) t))).1 : Nat) : Int) (((regR (formV (.rgs (n : Int) (b : Int) t))).2.1 : Nat) : Int) (strB (regR (formV (.rgs (n : Int) (b : Int) t))).2.2) = _
    rw [hr, strB_bsk]
theorem gr_within {a c : List Int} (h : Wi a c) : gr a c = c := by
  refine row_ext (gr_len h.1 h.2.1) h.2.1 fun i hi => ?_
  have := h.2.2 i hi
  rw [gr_at h.1 h.2.1 i hi]; omega
theorem rightV_gd {v : Vl} (h : Gt v) (hs : ∀ x ∈ elsR v, 1 ≤ x.e.size) : rightV v = true := by
  cases v using Vl.el with
  | cnt u d => rfl
  | set c es =>
    obtain ⟨hg, hc, h8⟩ := h.1
    show srR c es = true
    unfold srR
    rw [List.all_eq_true]
    intro i hi
    rw [List.mem_range] at hi
    have hm : es[i] ∈ es := List.getElem_mem hi
    unfold okE okP
    rw [List.getElem?_eq_getElem hi, List.getElem?_eq_getElem (show i - 1 < es.length by omega)]
    have h1 : okX c es[i] = true := by
      unfold okX isE
      simp only [Bool.and_eq_true, decide_eq_true_eq, Bool.not_eq_true', beq_eq_false_iff_ne, beq_iff_eq]
      exact ⟨⟨hs _ hm, h8 _ hm⟩, hg.nz _ hm, gr_within (hg.wi _ hm)⟩
    simp only [h1, Bool.true_and, Bool.or_eq_true, beq_iff_eq]
    rcases Nat.eq_zero_or_pos i with h0 | h0
    · exact .inl h0
    · exact .inr (so_lt hg.so (by omega) hi (by omega))
  | flg c g =>
    show (gr g c == c) = true
    rw [gr_within h.1.2]; simp
  | rgs s a t =>
    obtain ⟨⟨h0, h1⟩, ⟨h2, h3⟩, h5⟩ := h.1
    have h4 := h.2 s a t rfl
    show rtR s a t = true
    unfold rtR
    simp only [Bool.and_eq_true, Bool.or_eq_true, decide_eq_true_eq]
    refine ⟨by unfold isA; simp; omega, ?_⟩
    by_cases e : s = 0
    · obtain ⟨e1, e2⟩ := h5 e
      exact .inr ⟨⟨e, e1⟩, by rw [e2]; rw [ByteArray.toList_eq]⟩
    · exact .inl (by omega)
theorem valV_back {v : Vl} (h : Gt v) (hl : (elsR v).length ≤ 200) (hs : ∀ x ∈ elsR v, 1 ≤ x.e.size) (h64 : (formV v).length ≤ 64) : valV v.kd (formV v) = v := by
  have hb := readV_back h hl
  unfold valV
  rw [if_pos, hb]
  refine ⟨h64, ?_⟩
  unfold rdOk
  rw [hb, rightV_gd h hs]
  simp
end Go.Proofs.Ytdbeeikjngnnnaa.ty
