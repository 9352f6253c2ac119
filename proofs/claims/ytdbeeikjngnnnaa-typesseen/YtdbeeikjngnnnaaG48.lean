import Derived.Test.YtdbeeikjngnnnaaG47
import Derived.Test.YtdbeeikjngnnnaaG28
namespace Go.Proofs.Ytdbeeikjngnnnaa.ty
open Go.ChangeShapes Go.WideShapes Go.ChangeAt Go.RowKit
set_option linter.unusedVariables false
set_option linter.unusedSimpArgs false
theorem size58 : (Try.prog.info? 58).map (·.size) = some 4 := by kernel_rfl
theorem ex_load58 {W : World} {eval : Operand → Value} {op : Oper} (x : Operand) (ho : op.op = .load 58 x) (b o : Nat) (cs : List Value) (hx : eval x = .pointer (some ⟨b, o, none⟩)) (hc : W.rangeAt b o cs) (hl : cs.length = 4) : (execOp eval op).run Try.prog W = .ok (.value (.agg cs.toArray)) W := by
  unfold execOp
  simp only [ho, hx, Instr.loadAt, Instr.sureAddr, Sem.run_bind, Sem.run_pure, Result.andThen_ok, run_loadVar_mid W b o 58 cs _ hc Try.underlying58 rfl (by rw [size58, hl])]
theorem Hx.congr {w0 w : World} {X k : Nat} {B B' : Nat → Nat → Bool} {P : Nat → Nat} {V : Nat → Vl} {s : Sl} {L : List Value} {n : Nat} (h : Hx w0 w X k B P V s L n) (hB : ∀ i p, i < 4 → p < 64 → B i p = B' i p) : Hx w0 w X k B' P V s L n := by
  have hb := h.blk
  unfold hrow at hb
  rw [b256_congr hB] at hb
  exact ⟨h.ap, h.ge, hb, h.pge, h.ho, h.inj, h.own, h.len⟩
theorem ex_idx49 {W : World} {eval : Operand → Value} {op : Oper} {p : Option Addr} {n c q : Nat} (x y : Operand) (P o : Nat) (ho : op.op = .indexAddr 49 x y) (hx : eval x = .slice p n c) (hp : p = some ⟨P, o, none⟩) (hy : eval y = .int .i64 (q : Int)) (hq : q < n) : (execOp eval op).run Try.prog W = .ok (.value (.pointer (some ⟨P, o + q * 4, none⟩))) W := by
  subst hp
  unfold execOp
  simp only [ho, hx, hy]
  have hq2 : ((q : Nat) : Int) < ((n : Nat) : Int) := by omega
  go_simp
set_option maxHeartbeats 16000000 in
set_option maxRecDepth 100000 in
theorem seen_walk {w : World} {sl : Sl} {es : List (Int × Int × Int × Int)} (x : Int) (hx : R64 x) (he : Ev w sl es) : Calls Try.prog 6 #[.int .i64 x, .slice sl.p sl.n sl.c] w fun r w' => r = .returned (.bool true) ∧ Apart [] w w' := by
  obtain ⟨k, Hk⟩ : ∃ k, Hid (k = wth x 4 + 1) := ⟨_, hid rfl⟩
  have H14 : Hid (1 ≤ k ∧ k ≤ 4) := hid (by have := wth_lt x (n := 4) (by omega); have := Hk.out; omega)
  have HCw := hid (within_law x 4 (by omega) (by omega) hx)
  have HCt := hid (fun wx => able_ok wx)
  have HCn := hid (fun wx => new_w wx k H14.out.1 H14.out.2)
  have HE := hid he
  have hw4 : wth x 4 < 4 := wth_lt x (by omega)
  obtain ⟨N, HN⟩ : ∃ n, Hid (n = sl.n) := ⟨_, hid rfl⟩
  rw [← HN.out]
  clear hx he
  go_enter Try.func6, Try.ntmps6
  go_upto_region 3 with (go_at_call 7; refine (HCt.out _).mono ?_; rintro _ w1 ⟨rfl, a1⟩; have HA1 := hid a1; clear a1)
  go_upto_region 4 with (first
    | (go_at_call 25; refine (HCw.out _).mono ?_; rintro _ wn ⟨rfl, hwn⟩; rw [hwn]; clear hwn)
    | refine wpL_val rfl (.agg (hzero k).toArray) (ex_build56 _ rfl (by have := Hk.out; go_simp; omega)) ?_)
  have hb0 : (w1.alloc (.cells (hzero k).toArray 56)).heap[w1.heap.size]? = some (.cells (hzero k).toArray 56 (0, 0)) := heap_alloc_new w1 _
  have HM0 : Hid (Mk w (w1.alloc (.cells (hzero k).toArray 56)) w1.heap.size k 0 (fun _ => 0)) := hid ⟨HA1.out.alloc _, HA1.out.size, by rw [hb0]; rfl, fun j hj => by omega, fun j hj => by omega, fun a b ha => by omega⟩
  obtain ⟨X, HX⟩ : ∃ X, Hid (X = w1.heap.size) := ⟨_, hid rfl⟩
  rw [← HX.out] at HM0 ⊢
  generalize w1.alloc (.cells (hzero k).toArray 56) = wi at *
  clear HCw HCt HA1 hb0 HX hw4
  go_wp2_with fail
  go_loopw [6] (fun v6 wt => ∃ (i : Nat) (P : Nat → Nat), v6 = .int .i64 (i : Int) ∧ i ≤ 4 ∧ Hid (Mk w wt X k i P)) (fun v6 _ => 4 - intN v6)
  case atStart => exact ⟨0, _, rfl, by omega, HM0⟩
  case round =>
    clear HM0
    obtain ⟨i, P, rfl, hi, HMk⟩ := hrel
    generalize wr = wt at *
    by_cases hlt : i < 4
    · have hlti : ((i : Nat) : Int) < 4 := by omega
      have zk := row_cell HMk.out.blk (hrow_k k _ _ _)
      go_upto_region 10 with (go_at_call 9; refine (HCn.out _).mono ?_; rintro _ w2 ⟨V2, rfl, g2, o2, a2⟩; have HN2 := hid (HMk.out.next hlt g2 o2 a2); have HB2 := hid (keep0 a2 HMk.out.blk); clear g2 o2 a2)
      have zi := row_cell HB2.out (hrow_v k _ _ _ hlt)
      have fi := frozen_of_row _ _ (1 + i) _ _ HB2.out
      have hi4 : ¬ (4 : Int) ≤ (i : Int) := by omega
      clear zk
      go_wp2_with fail
      exact ⟨⟨i + 1, _, by go_num, by omega, HN2⟩, by simp [intN]; omega⟩
    · have hlti : ¬ ((i : Nat) : Int) < 4 := by omega
      obtain rfl : i = 4 := by omega
      have HM0 := hid HMk.out.hm
      have HG0 := hid (Wr.new H14.out.1 H14.out.2)
      clear HMk hlt hi HCn
      go_wp2_with fail
      go_loopw [9] (fun v9 wt => ∃ (q : Nat) (H : List Dn) (c : Nat → Nat → Nat) (V : Nat → Vl) (s : Sl), v9 = .int .i64 (q : Int) ∧ q ≤ N ∧ q ≤ 60 ∧ H.length ≤ q ∧ Hid (Hm w wt X k H c P V s) ∧ Hid (Wr k H c V)) (fun v9 _ => 60 - intN v9)
      case atStart => exact ⟨0, [], _, _, _, rfl, Nat.zero_le _, by omega, Nat.le_refl _, HM0, HG0⟩
      case round =>
        clear HM0 HG0
        obtain ⟨q, H, c, V, s, rfl, hqN, hq60, hHq, HM, HG⟩ := hrel
        generalize wr = wt at *
        by_cases hlt : q < N
        · have hlti : ((q : Nat) : Int) < ((N : Nat) : Int) := by omega
          by_cases hl6 : q < 60
          · have hl6i : ((q : Nat) : Int) < 60 := by omega
            obtain ⟨e, He⟩ : ∃ e, Hid (es[q]? = some e) := ⟨_, hid (List.getElem?_eq_getElem (by rw [HE.out.len, ← HN.out]; exact hlt))⟩
            have HRg := hid (HE.out.rg e (List.mem_of_getElem? He.out))
            obtain ⟨EP, eo_, hep, hEP, hez⟩ := (HE.out.rd.kept0 HM.out.ap) (by rw [evL_len, HE.out.len, ← HN.out]; omega)
            have HRe : Hid (wt.rangeAt EP (eo_ + q * 4) (evC e)) := hid (fun j v hj => (by
              have hj4 : j < 4 := by have h4 := (List.getElem?_eq_some_iff.1 hj).1; simpa [evC] using h4
              have h5 := hez (q * 4 + j) v ((evL_at es He.out hj4).trans hj)
              rwa [← Nat.add_assoc] at h5))
            obtain ⟨ek, eA, eB, eY⟩ := e
            unfold evC at HRe
            simp only at HRe
            have Hep := hid hep
            clear hep hez hEP
            go_upto_region 14 with fail
            go_upto_region 15 with (first
              | refine wpL_val rfl (.agg #[.int .i64 ek, .int .i64 eA, .int .i64 eB, .int .i64 eY]) (ex_load58 _ rfl EP (eo_ + q * 4) _ rfl HRe.out rfl) ?_
              | refine wpL_val rfl (.pointer (some ⟨EP, eo_ + q * 4, none⟩)) (ex_idx49 _ _ EP eo_ rfl rfl Hep.out rfl hlt) ?_)
            have HEb := hid (heap_alloc_new wt (.cells #[.int .i64 ek, .int .i64 eA, .int .i64 eB, .int .i64 eY] 58))
            have HMe := hid (HM.out.kept0 ((Apart.refl [] wt).alloc (.cells #[.int .i64 ek, .int .i64 eA, .int .i64 eB, .int .i64 eY] 58)))
            obtain ⟨E, HEe⟩ : ∃ X, Hid (X = wt.heap.size) := ⟨_, hid rfl⟩
            rw [← HEe.out] at HEb ⊢
            generalize wt.alloc (.cells #[.int .i64 ek, .int .i64 eA, .int .i64 eB, .int .i64 eY] 58) = we at *
            clear HEe HM HRe Hep
            obtain ⟨i, Hi⟩ : ∃ i, Hid (i = wth eA 4) := ⟨_, hid rfl⟩
            have hi : i < 4 := by rw [Hi.out]; exact wth_lt eA (by omega)
            have HCA := hid (fun wx => within_law eA 4 (by omega) (by omega) HRg.out.2.1 wx)
            rw [← Hi.out] at HCA
            have z1 : we.cell? ⟨E, 1, none⟩ = some (.int .i64 eA) := (by rw [cell_of_row _ _ _ _ _ _ HEb.out]; rfl)
            have z0 : we.cell? ⟨E, 0, none⟩ = some (.int .i64 ek) := (by rw [cell_of_row _ _ _ _ _ _ HEb.out]; rfl)
            go_upto_region 16 with (go_at_call 25; refine (HCA.out _).mono ?_; rintro _ wn ⟨rfl, hwn⟩; rw [hwn]; clear hwn)
            clear HCA z1
            by_cases hk1 : ek = 1
            · have hk1b : (ek == 1) = true := by simp [hk1]
              clear hk1
              have HCact := hid (act_ok H14.out.1 H14.out.2 HMe.out HG.out (by omega) ek eA eB eY HRg.out.2.1 HRg.out.2.2.1 HRg.out.2.2.2)
              go_upto_region 30 with (first
                | refine wpList_load_row rfl 58 _ rfl E rfl 58 _ (0, 0) _ HEb.out Try.underlying58 rfl (by rw [size58]; rfl) ?_
                | (go_at_call 27; refine HCact.out.mono ?_; rintro _ w5 ⟨H5, c5, V5, s5, rfl, m5, g5, l5⟩; have HM5 := hid m5; have HG5 := hid g5; have HL5 := hid l5; clear m5 g5 l5))
              have HCr := hid (right_ok H14.out.1 H14.out.2 HM5.out HG5.out (by have := HL5.out; omega) hi)
              clear z0 hk1b
              go_wp2_with (go_at_call 28; refine HCr.out.mono ?_; rintro _ w6 ⟨rfl, a6⟩; have HM6 := hid (HM5.out.kept0 a6); clear a6)
              exact ⟨⟨q + 1, H5, c5, V5, s5, by go_num, by omega, by omega, by have := HL5.out; omega, HM6, HG5⟩, by simp [intN]; omega⟩
            · have hk1b : (ek == 1) = false := by simp [hk1]
              clear hk1
              obtain ⟨j, Hj⟩ : ∃ i, Hid (i = wth eB 4) := ⟨_, hid rfl⟩
              have hj : j < 4 := by rw [Hj.out]; exact wth_lt eB (by omega)
              have HCB := hid (fun wx => within_law eB 4 (by omega) (by omega) HRg.out.2.2.1 wx)
              rw [← Hj.out] at HCB
              have z2 : we.cell? ⟨E, 2, none⟩ = some (.int .i64 eB) := (by rw [cell_of_row _ _ _ _ _ _ HEb.out]; rfl)
              have zv := HMe.out.val hj
              have hj4 : ¬ (4 : Int) ≤ (j : Int) := by omega
              have hlH : H.length ≤ 60 := by omega
              have HGj := hid (HG.out.gk hlH hj)
              have HGi := hid (HG.out.gk hlH hi)
              have HCby := hid (Bytes_any (HMe.out.ho j hj) HGj.out.okF)
              obtain ⟨wz, Hwz⟩ : ∃ z, Hid (z = wzV (V j)) := ⟨_, hid rfl⟩
              rw [← Hwz.out] at HCby
              go_upto_region 22 with (first
                | (go_at_call 25; refine (HCB.out _).mono ?_; rintro _ wn ⟨rfl, hwn⟩; rw [hwn]; clear hwn)
                | (go_at_call 10; refine HCby.out.mono ?_; rintro _ w5 ⟨s5, rfl, b5, a5⟩; have HB5 := hid b5; have HA5 := hid a5; clear b5 a5))
              have z3 : w5.cell? ⟨E, 3, none⟩ = some (.int .i64 eY) := (by rw [cell_of_row _ _ _ _ _ _ (keep0 HA5.out HEb.out)]; rfl)
              have HM5 := hid (HMe.out.kept0 HA5.out)
              clear z0 z2 zv hk1b HCB HCby
              obtain ⟨tb, Htb⟩ : ∃ b, Hid (b = ((wz == 0) && (bits BinOp.and IntKind.i64 eY 1 == 1))) := ⟨_, hid rfl⟩
              go_cut [93] from 86 to 93 (fun v wx => v = .bool tb ∧ wx = w5)
              · cases hz : (wz == 0)
                · have ht : tb = false := by rw [Htb.out, hz]; rfl
                  go_wp2_with fail
                  go_meet
                  exact ⟨by rw [ht], rfl⟩
                · have ht : tb = (bits BinOp.and IntKind.i64 eY 1 == 1) := by rw [Htb.out, hz]; rfl
                  go_wp2_with fail
                  go_meet
                  exact ⟨by rw [ht], rfl⟩
              obtain ⟨rfl, hwc⟩ := hcut
              rw [hwc]
              clear hwc z3
              go_upto_if 93 with fail
              go_cut [13] from 94 to 99 (fun v13 wx => ∃ O, v13 = .pointer (some ⟨O, 0, none⟩) ∧ Ho wx O (V j) ∧ Apart [] w5 wx)
              · cases tb
                · go_wp2_with fail
                  go_meet
                  exact ⟨P j, rfl, HM5.out.ho j hj, Apart.refl _ _⟩
                · have hwz : wz = 0 := by
                    have := Htb.out
                    cases hz : (wz == 0)
                    · rw [hz] at this; cases this
                    · simpa using hz
                  have h64 : (formV (V j)).length ≤ 64 := by
                    have h1 := Hwz.out
                    rw [hwz] at h1
                    unfold wzV at h1
                    split at h1
                    · assumption
                    · cases h1
                  have hbz : bzV (V j) = formV (V j) := by unfold bzV; rw [if_pos h64]
                  have hb5 := HB5.out
                  rw [hbz] at hb5
                  have HCv := hid (value_ok k H14.out.1 H14.out.2 (show Gv w5 s5 (formV (V j)) from ⟨hb5.rd, hb5.len, hb5.ok, formV_u8 _, by omega⟩))
                  rw [Rel.back HG.out.hs HG.out.hk (HG.out.rel j hj) (HG.out.vc j hj) (HG.out.kd j hj) hlH h64] at HCv
                  have zk := HM5.out.kind
                  clear hwz h64 hbz hb5
                  go_wp2_with (go_at_call 12; refine HCv.out.mono ?_; rintro _ w6 ⟨O6, rfl, g6, o6, a6⟩; have HO6 := hid o6; have HA6 := hid a6; clear o6 a6)
                  go_meet
                  exact ⟨O6, rfl, HO6.out, HA6.out⟩
              obtain ⟨O, rfl, hO, aO⟩ := hcut
              have HM6 := hid (HM5.out.kept0 aO)
              have HCm := hid (Merge_v (HM6.out.ho i hi) hO HGi.out.ok HGj.out.ok (HGi.out.kd.trans HGj.out.kd.symm))
              have zv := HM6.out.val hi
              have hi4 : ¬ (4 : Int) ≤ (i : Int) := by omega
              obtain ⟨Pi, HPi⟩ : ∃ p, Hid (p = P i) := ⟨_, hid rfl⟩
              rw [← HPi.out] at HCm zv
              clear hO aO HB5
              go_upto_region 26 with (go_at_call 14; refine HCm.out.mono ?_; rintro _ w7 ⟨rfl, o7, a7⟩; have HO7 := hid o7; have HA7 := hid a7; clear o7 a7)
              obtain ⟨V7, HV7⟩ : ∃ v, Hid (v = ud V i (mgV (V i) (V j))) := ⟨_, hid rfl⟩
              have HX7 : Hid (Hx w w7 X k (fun i p => se H (c i) p) P V7 s (rowsL H H) H.length) := hid (by rw [HV7.out]; exact HM6.out.hx.val hi (by rw [← HPi.out]; exact HA7.out) (by rw [← HPi.out]; exact HO7.out))
              clear HCm zv HO7 HA7 HM6 HM5
              obtain ⟨n, Hn⟩ : ∃ n, Hid (n = H.length) := ⟨_, hid rfl⟩
              have hn6 : n ≤ 60 := by rw [Hn.out]; exact hlH
              go_wp2_with fail
              go_loopw [16] (fun v16 wu => ∃ p : Nat, v16 = .int .i64 (p : Int) ∧ p ≤ n ∧ Hid (Hx w wu X k (fun a b => if a = i ∧ b < p then (se H (c i) b || se H (c j) b) else se H (c a) b) P V7 s (rowsL H H) H.length)) (fun v16 _ => n - intN v16)
              case atStart => exact ⟨0, rfl, Nat.zero_le _, hid (by simpa using HX7.out)⟩
              case round =>
                clear HX7
                obtain ⟨p, rfl, hp, HXp⟩ := hrel
                generalize wr = wu at *
                have zs := HXp.out.all
                have hsn : s.n = n := by rw [Hn.out]; exact HXp.out.len
                rw [hsn] at zs
                clear hsn
                by_cases hlp : p < n
                · have hlpi : ((p : Nat) : Int) < ((n : Nat) : Int) := by omega
                  have hp60 : p < 60 := by omega
                  go_upto_region 29 with fail
                  clear zs
                  have HXd := hid (HXp.out.kept0 (Apart.refl [] wu).drew)
                  have hAd : True := trivial
                  refine wp_region_held_drew (S := fun W => True) (by kernel_rfl) hAd (fun hHeld => ?_)
                  generalize wu.drew = wd at *
                  clear hAd HXp
                  obtain ⟨b1, Hb1⟩ : ∃ b, Hid (b = se H (c i) p) := ⟨_, hid rfl⟩
                  obtain ⟨b2, Hb2⟩ : ∃ b, Hid (b = se H (c j) p) := ⟨_, hid rfl⟩
                  have HZ1 : Hid (wd.cell? ⟨X, 6 + i * 64 + p, none⟩ = some (.bool b1)) := hid (by rw [Hb1.out]; have h1 := row_cell HXd.out.blk (hrow_b _ _ _ _ hi (show p < 64 by omega)); simpa using h1)
                  have HZ2 : Hid (wd.cell? ⟨X, 6 + j * 64 + p, none⟩ = some (.bool b2)) := hid (by
                    rw [Hb2.out]
                    have h1 := row_cell HXd.out.blk (hrow_b _ _ _ _ hj (show p < 64 by omega))
                    simpa using h1)
                  have HF1 := hid (frozen_of_row _ _ (6 + i * 64 + p) _ _ HXd.out.blk)
                  have HXn := hid (fun (bb : Bool) (hbb : bb = (b1 || b2)) => (HXd.out.bit hi (show p < 64 by omega) bb).congr (B' := fun a b => if a = i ∧ b < p + 1 then (se H (c i) b || se H (c j) b) else se H (c a) b) (fun a b ha hb => by
                    unfold ub
                    by_cases h1 : a = i
                    · by_cases h2 : b = p
                      · subst h1; subst h2; simp [hbb, Hb1.out, Hb2.out]
                      · by_cases h3 : b < p
                        · simp [h1, h2, h3, show b < p + 1 from by omega]
                        · simp [h1, h2, h3, show ¬ b < p + 1 from by omega]
                    · simp [h1]))
                  refine tk 0 118 (.pointer (some ⟨X, 0, none⟩)) rfl ?_ ?_
                  · intro W hSW; go_simp
                  simp only [Act.put, List.setIfInBounds_toArray, List.set_cons_zero, List.set_cons_succ]
                  refine tk 1 119 (.int .i64 (i : Nat)) rfl ?_ ?_
                  · intro W hSW; go_simp
                  simp only [Act.put, List.setIfInBounds_toArray, List.set_cons_zero, List.set_cons_succ]
                  refine tk 2 120 (.int .i64 (p : Nat)) rfl ?_ ?_
                  · intro W hSW; go_simp
                  simp only [Act.put, List.setIfInBounds_toArray, List.set_cons_zero, List.set_cons_succ]
                  refine tk 3 121 (.pointer (some ⟨X, 0, none⟩)) rfl ?_ ?_
                  · intro W hSW; go_simp
                  simp only [Act.put, List.setIfInBounds_toArray, List.set_cons_zero, List.set_cons_succ]
                  refine tk 4 122 (.int .i64 (i : Nat)) rfl ?_ ?_
                  · intro W hSW; go_simp
                  simp only [Act.put, List.setIfInBounds_toArray, List.set_cons_zero, List.set_cons_succ]
                  refine tk 5 123 (.int .i64 (p : Nat)) rfl ?_ ?_
                  · intro W hSW; go_simp
                  simp only [Act.put, List.setIfInBounds_toArray, List.set_cons_zero, List.set_cons_succ]
                  refine tk 6 124 (.pointer (some ⟨X, 0, none⟩)) rfl ?_ ?_
                  · intro W hSW; go_simp
                  simp only [Act.put, List.setIfInBounds_toArray, List.set_cons_zero, List.set_cons_succ]
                  refine tk 7 125 (.pointer (some ⟨X, 6, none⟩)) rfl ?_ ?_
                  · intro W hSW; go_simp
                  simp only [Act.put, List.setIfInBounds_toArray, List.set_cons_zero, List.set_cons_succ]
                  refine tk 8 126 (.pointer (some ⟨X, 6 + i * 64, none⟩)) rfl ?_ ?_
                  · intro W hSW; have hi4 : ¬ (4 : Int) ≤ (i : Int) := (by omega); go_simp
                  simp only [Act.put, List.setIfInBounds_toArray, List.set_cons_zero, List.set_cons_succ]
                  refine tk 9 127 (.pointer (some ⟨X, 6 + i * 64 + p, none⟩)) rfl ?_ ?_
                  · intro W hSW; have hp4 : ¬ (64 : Int) ≤ (p : Int) := (by omega); go_simp
                  simp only [Act.put, List.setIfInBounds_toArray, List.set_cons_zero, List.set_cons_succ]
                  refine tk 21 139 (.pointer (some ⟨X, 0, none⟩)) rfl ?_ ?_
                  · intro W hSW; go_simp
                  simp only [Act.put, List.setIfInBounds_toArray, List.set_cons_zero, List.set_cons_succ]
                  refine tk 22 140 (.pointer (some ⟨X, 6, none⟩)) rfl ?_ ?_
                  · intro W hSW; go_simp
                  simp only [Act.put, List.setIfInBounds_toArray, List.set_cons_zero, List.set_cons_succ]
                  refine tk 23 141 (.pointer (some ⟨X, 6 + i * 64, none⟩)) rfl ?_ ?_
                  · intro W hSW; have hi4 : ¬ (4 : Int) ≤ (i : Int) := (by omega); go_simp
                  simp only [Act.put, List.setIfInBounds_toArray, List.set_cons_zero, List.set_cons_succ]
                  refine wpAnyH_ready (rs := [10]) (by kernel_rfl) (by simp) ?_
                  refine AllReadyH.cons rfl (fun KK hKK => ?_) AllReadyH.nil
                  have z1 := HZ1.out
                  go_simp
                  refine hKK.out _ _ trivial (fun hHeld => ?_)
                  clear hKK KK z1
                  try simp only [Act.put, List.setIfInBounds_toArray, List.set_cons_zero, List.set_cons_succ]
                  refine tk 11 129 (.bool b1) rfl ?_ ?_
                  · intro W hSW; go_simp
                  simp only [Act.put, List.setIfInBounds_toArray, List.set_cons_zero, List.set_cons_succ]
                  cases b1
                  · skip
                    refine tk 12 130 (.pointer (some ⟨X, 0, none⟩)) rfl ?_ ?_
                    · intro W hSW; go_simp
                    simp only [Act.put, List.setIfInBounds_toArray, List.set_cons_zero, List.set_cons_succ]
                    refine tk 13 131 (.int .i64 (j : Nat)) rfl ?_ ?_
                    · intro W hSW; go_simp
                    simp only [Act.put, List.setIfInBounds_toArray, List.set_cons_zero, List.set_cons_succ]
                    refine tk 14 132 (.int .i64 (p : Nat)) rfl ?_ ?_
                    · intro W hSW; go_simp
                    simp only [Act.put, List.setIfInBounds_toArray, List.set_cons_zero, List.set_cons_succ]
                    refine tk 15 133 (.pointer (some ⟨X, 0, none⟩)) rfl ?_ ?_
                    · intro W hSW; go_simp
                    simp only [Act.put, List.setIfInBounds_toArray, List.set_cons_zero, List.set_cons_succ]
                    refine tk 16 134 (.pointer (some ⟨X, 6, none⟩)) rfl ?_ ?_
                    · intro W hSW; go_simp
                    simp only [Act.put, List.setIfInBounds_toArray, List.set_cons_zero, List.set_cons_succ]
                    refine tk 17 135 (.pointer (some ⟨X, 6 + j * 64, none⟩)) rfl ?_ ?_
                    · intro W hSW; have hj4 : ¬ (4 : Int) ≤ (j : Int) := (by omega); go_simp
                    simp only [Act.put, List.setIfInBounds_toArray, List.set_cons_zero, List.set_cons_succ]
                    refine tk 18 136 (.pointer (some ⟨X, 6 + j * 64 + p, none⟩)) rfl ?_ ?_
                    · intro W hSW; have hp4 : ¬ (64 : Int) ≤ (p : Int) := (by omega); go_simp
                    simp only [Act.put, List.setIfInBounds_toArray, List.set_cons_zero, List.set_cons_succ]
                    refine wpAnyH_ready (rs := [19]) (by kernel_rfl) (by simp) ?_
                    refine AllReadyH.cons rfl (fun KK hKK => ?_) AllReadyH.nil
                    have z2 := HZ2.out
                    go_simp
                    refine hKK.out _ _ trivial (fun hHeld => ?_)
                    clear hKK KK z2
                    try simp only [Act.put, List.setIfInBounds_toArray, List.set_cons_zero, List.set_cons_succ]
                    refine tk 20 138 (.bool b2) rfl ?_ ?_
                    · intro W hSW; go_simp
                    simp only [Act.put, List.setIfInBounds_toArray, List.set_cons_zero, List.set_cons_succ]
                    refine tk 24 142 (.pointer (some ⟨X, 6 + i * 64 + p, none⟩)) rfl ?_ ?_
                    · intro W hSW; have hp4 : ¬ (64 : Int) ≤ (p : Int) := (by omega); go_simp
                    simp only [Act.put, List.setIfInBounds_toArray, List.set_cons_zero, List.set_cons_succ]
                    refine wpAnyH_ready (rs := [25]) (by kernel_rfl) (by simp) ?_
                    refine AllReadyH.cons rfl (fun KK hKK => ?_) AllReadyH.nil
                    have z1 := HZ1.out
                    have f1 := HF1.out
                    go_simp
                    refine hKK.out _ _ trivial (fun hHeld => ?_)
                    clear hKK KK z1 f1
                    try simp only [Act.put, List.setIfInBounds_toArray, List.set_cons_zero, List.set_cons_succ]
                    refine wpAnyH_done (by kernel_rfl) ?_ _
                    have HXm := hid (HXn.out b2 (by simp))
                    generalize wd.setCell ⟨X, 6 + i * 64 + p, none⟩ (.bool b2) = wv at *
                    clear HXd HZ1 HZ2 HF1 HXn hHeld
                    go_wp2_with fail
                    exact ⟨⟨p + 1, by go_num, by omega, HXm⟩, by simp [intN]; omega⟩
                  · skip
                    refine tu 12 130 rfl ?_
                    simp only [Act.put, List.setIfInBounds_toArray, List.set_cons_zero, List.set_cons_succ]
                    refine tu 13 131 rfl ?_
                    simp only [Act.put, List.setIfInBounds_toArray, List.set_cons_zero, List.set_cons_succ]
                    refine tu 14 132 rfl ?_
                    simp only [Act.put, List.setIfInBounds_toArray, List.set_cons_zero, List.set_cons_succ]
                    refine tu 15 133 rfl ?_
                    simp only [Act.put, List.setIfInBounds_toArray, List.set_cons_zero, List.set_cons_succ]
                    refine tu 16 134 rfl ?_
                    simp only [Act.put, List.setIfInBounds_toArray, List.set_cons_zero, List.set_cons_succ]
                    refine tu 17 135 rfl ?_
                    simp only [Act.put, List.setIfInBounds_toArray, List.set_cons_zero, List.set_cons_succ]
                    refine tu 18 136 rfl ?_
                    simp only [Act.put, List.setIfInBounds_toArray, List.set_cons_zero, List.set_cons_succ]
                    refine tu 19 137 rfl ?_
                    simp only [Act.put, List.setIfInBounds_toArray, List.set_cons_zero, List.set_cons_succ]
                    refine tk 20 138 (.bool true) rfl ?_ ?_
                    · intro W hSW; go_simp
                    simp only [Act.put, List.setIfInBounds_toArray, List.set_cons_zero, List.set_cons_succ]
                    refine tk 24 142 (.pointer (some ⟨X, 6 + i * 64 + p, none⟩)) rfl ?_ ?_
                    · intro W hSW; have hp4 : ¬ (64 : Int) ≤ (p : Int) := (by omega); go_simp
                    simp only [Act.put, List.setIfInBounds_toArray, List.set_cons_zero, List.set_cons_succ]
                    refine wpAnyH_ready (rs := [25]) (by kernel_rfl) (by simp) ?_
                    refine AllReadyH.cons rfl (fun KK hKK => ?_) AllReadyH.nil
                    have z1 := HZ1.out
                    have f1 := HF1.out
                    go_simp
                    refine hKK.out _ _ trivial (fun hHeld => ?_)
                    clear hKK KK z1 f1
                    try simp only [Act.put, List.setIfInBounds_toArray, List.set_cons_zero, List.set_cons_succ]
                    refine wpAnyH_done (by kernel_rfl) ?_ _
                    have HXm := hid (HXn.out true (by simp))
                    generalize wd.setCell ⟨X, 6 + i * 64 + p, none⟩ (.bool true) = wv at *
                    clear HXd HZ1 HZ2 HF1 HXn hHeld
                    go_wp2_with fail
                    exact ⟨⟨p + 1, by go_num, by omega, HXm⟩, by simp [intN]; omega⟩
                · have hlpi : ¬ ((p : Nat) : Int) < ((n : Nat) : Int) := by omega
                  obtain rfl : p = n := by omega
                  have HMn : Hid (Hm w wu X k H (ud c i (mx (c i) (c j))) P V7 s) := hid (HXp.out.hm (fun a b ha hb => by
                    unfold ud
                    by_cases h1 : a = i
                    · subst h1
                      rw [if_pos rfl]
                      by_cases h2 : b < p
                      · simp only [h2, and_true, if_true]
                        obtain ⟨d, hd⟩ : ∃ d, H[b]? = some d := ⟨_, List.getElem?_eq_getElem (by rw [← Hn.out]; exact h2)⟩
                        unfold se mx
                        rw [hd]
                        simp only
                        rw [← Bool.decide_or]
                        congr 1
                        simp only [eq_iff_iff]
                        omega
                      · simp only [h2, and_false, if_false]
                        unfold se
                        rw [List.getElem?_eq_none (by rw [← Hn.out]; omega)]
                    · simp only [h1, false_and, if_false]) rfl rfl)
                  have HGn : Hid (Wr k H (ud c i (mx (c i) (c j))) V7) := hid (by rw [HV7.out]; exact HG.out.merge hlH hi hj)
                  have HCr := hid (right_ok H14.out.1 H14.out.2 HMn.out HGn.out hlH hi)
                  go_wp2_with (go_at_call 28; refine HCr.out.mono ?_; rintro _ w8 ⟨rfl, a8⟩; have HM8 := hid (HMn.out.kept0 a8); clear a8)
                  exact ⟨⟨q + 1, H, _, _, s, by go_num, by omega, by omega, by omega, HM8, HGn⟩, by simp [intN]; omega⟩
          · have hl6i : ¬ ((q : Nat) : Int) < 60 := by omega
            have HAp := hid HM.out.ap
            go_wp2_with fail
            go_ret
            exact ⟨rfl, HAp.out⟩
        · have hlti : ¬ ((q : Nat) : Int) < ((N : Nat) : Int) := by omega
          have HAp := hid HM.out.ap
          go_wp2_with fail
          go_ret
          exact ⟨rfl, HAp.out⟩
end Go.Proofs.Ytdbeeikjngnnnaa.ty
