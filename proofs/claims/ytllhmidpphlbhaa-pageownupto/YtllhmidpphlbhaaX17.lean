import Derived.Test.YtllhmidpphlbhaaX14
import Derived.Test.YtllhmidpphlbhaaX16
namespace Go.Proofs.Ytllhmidpphlbhaa.ds
open Go.ChangeShapes Go.WideShapes Go.ChangeAt Go.RowKit Go.Sort
set_option linter.unusedVariables false
set_option linter.unusedSimpArgs false

theorem byts_set (l : List Nat) (m b : Nat) : (byts l).toArray.setIfInBounds m (.int .u8 (b : Int)) = (byts (l.set m b)).toArray := by
  rw [List.setIfInBounds_toArray]; unfold byts; rw [List.map_set]
theorem keyV_16 (P o : Nat) (B : List Nat) : ∃ kp kn kc, keyV P o (headR B ⟨0, false⟩).1 = .slice kp kn kc ∧ kn ≤ 16 := by
  unfold keyV
  split
  · exact ⟨_, _, _, rfl, (headR_at B ⟨0, false⟩).2.2.2.2.2.1⟩
  · exact ⟨_, _, _, rfl, by omega⟩
theorem vSl_n {P o : Nat} {B : List Nat} (h8 : ∀ b ∈ B, b < 256) (z : Int) : (vSl P o B z).n ≤ 2048 := by
  unfold vSl
  split
  · rename_i h
    have := (vErr_0 h8 h).2.2.2.2.2.1
    show (vPw B z).vn ≤ 2048
    omega
  · exact Nat.zero_le _
theorem WvP.val {w : World} {B : List Nat} {z : Int} {e : Ending} {w' : World} (h : WvP w B z e w') : ∃ v, e = .returned v := by
  by_cases h0 : vErr B z = 0
  · obtain ⟨v, x, e, _⟩ := h.ok h0
    exact ⟨_, e⟩
  · exact ⟨_, h.no h0⟩
theorem VcP.val {w : World} {B : List Nat} {z : Int} {e : Ending} {w' : World} (h : VcP w B z e w') : ∃ v, e = .returned v := by
  cases ha : argC (headR B ⟨0, false⟩).1 z with
  | true => exact ⟨_, h.arg ha⟩
  | false =>
    cases hb : (clocksR B (z.toNat + 1) 0 (headR B ⟨0, false⟩).2).2.bad with
    | true => exact ⟨_, h.bad ha hb⟩
    | false =>
      obtain ⟨x, e, _⟩ := h.ok ha hb
      exact ⟨_, e⟩
/-- a page's block, and its view -/
structure Sp8 (w wt : World) (g V : Nat) (l : List Nat) : Prop where
  ap : Apart [] w wt
  b : wt.heap[g]? = some (.cells (byts l).toArray 5 (0, 0))
  len : l.length = 2048
  l8 : L8 l
  v : Vw wt V ⟨some ⟨g, 0, none⟩, 2048, 2048⟩
theorem Sp8.kept {w wt wx : World} {g V : Nat} {l : List Nat} (h : Sp8 w wt g V l) (a : Apart [] wt wx) : Sp8 w wx g V l := { h with ap := h.ap.trans a, b := keep0 a h.b, v := keep0 a h.v }
theorem Sp8.pb {w wt : World} {g V : Nat} {l : List Nat} (h : Sp8 w wt g V l) : Pb wt ⟨some ⟨g, 0, none⟩, 2048, 2048⟩ l := ⟨page_rd h.b, h.len, h.l8, Nat.le_refl _, fun h => by simp at h, by show 2048 ≤ _; omega⟩
theorem Sp8.set {w wt : World} {g V : Nat} {l : List Nat} (h : Sp8 w wt g V l) (hg : w.heap.size ≤ g) {m b : Nat} (hm : m < 2048) (hb : b < 256) : wt.cell? ⟨g, m, none⟩ = some (.int .u8 ((l.getD m 0 : Nat) : Int)) ∧ wt.frozen? ⟨g, m, none⟩ = false ∧ Sp8 w (wt.setCell ⟨g, m, none⟩ (.int .u8 (b : Nat))) g V (l.set m b) := by
  have a : Apart [g] wt (wt.setCell ⟨g, m, none⟩ (.int .u8 (b : Nat))) := (Apart.refl [g] wt).setCell (.inl (by simp)) _
  have hne : V ≠ g := by
    intro e
    have h1 := h.v
    unfold Vw at h1
    rw [e, h.b] at h1
    simp at h1
  refine ⟨?_, frozen_of_row _ _ m _ _ h.b, h.ap.trans' a (fun y hy => by simp at hy; exact .inr (by rw [hy]; exact hg)), ?_, by rw [List.length_set]; exact h.len, ?_, keepB a h.v hne⟩
  · rw [cell_of_row _ _ _ _ _ _ h.b, List.getElem?_toArray]
    unfold byts
    rw [List.getElem?_map, List.getD_eq_getElem?_getD, List.getElem?_eq_getElem (by rw [h.len]; exact hm)]
    rfl
  · have := heap_setCell_same wt g m _ 5 (.int .u8 (b : Int)) h.b
    rw [byts_set] at this
    exact this
  · intro x hx
    rcases List.mem_or_eq_of_mem_set hx with hx | hx
    · exact h.l8 x hx
    · rw [hx]; exact hb
set_option maxHeartbeats 16000000 in
set_option maxRecDepth 100000 in
theorem spoilt_walk (w : World) (c : Ct) (ks : List Ck) (cs : List (Int × List S)) (es : List E) (rs : List Wr) (h : RCt w c ks cs es rs) (u : Sl) (fz : Nat → Int) (fb : Nat → Nat) (hu : IsSp w u.p u.n fz fb) : Calls Try.prog 8 #[.agg c.cs, .slice u.p u.n u.c] w fun r w' => r = .returned (.bool true) ∧ Apart [] w w' := by
  obtain ⟨kd, gn, ow, s, t⟩ := c
  unfold Ct.cs
  dsimp only
  have HH := hid h
  have HU := hid hu
  clear h hu
  obtain ⟨A, HXA⟩ : ∃ A, Hid (A = w.heap.size) := ⟨_, rfl⟩
  obtain ⟨w1, hw1⟩ : ∃ V, V = w.alloc (.cells #[.int .i64 kd, .int .i64 gn, .int .i64 ow, .slice s.p s.n s.c, .slice t.p t.n t.c] 25) := ⟨_, rfl⟩
  have a1 : Apart [] w w1 := by rw [hw1]; exact (Apart.refl [] w).alloc _
  have hA1 : w1.heap[A]? = some (.cells #[.int .i64 kd, .int .i64 gn, .int .i64 ow, .slice s.p s.n s.c, .slice t.p t.n t.c] 25 (0, 0)) := by rw [hw1, HXA.out]; exact heap_alloc_new w _
  obtain ⟨zz0, zz1, zz2, zz3, zz4⟩ := row5v hA1
  have HA := hid a1
  have HROW := hid hA1
  clear a1 hA1
  go_enter Try.func8, Try.ntmps8
  go_upto_region 1 with fail
  rw [← hw1, ← HXA.out]
  clear hw1
  go_wp2_with fail
  have h1 := HH.out.kept0 HA.out
  refine (fits_ok w1 kd gn ow s t ks cs es rs h1.hc h1.hcl h1.hw h1.hkl).mono ?_
  clear h1
  rintro _ w2 ⟨⟨bb, rfl⟩, a2⟩
  have HA2 := hid (HA.out.trans a2)
  have HROW2 := hid (keep0 a2 HROW.out)
  clear a2 zz0 zz1 zz2 zz3 zz4
  try dsimp only
  cases bb with
  | false =>
    go_wp2_with fail
    go_ret
    exact ⟨rfl, HA2.out⟩
  | true =>
   by_cases hbig : u.n > 3000
   · have hbi : ((u.n : Nat) : Int) > 3000 := by omega
     go_wp2_with fail
     go_ret
     exact ⟨rfl, HA2.out⟩
   · have hbi : ¬ ((u.n : Nat) : Int) > 3000 := by omega
     go_wp2_with fail
     refine (alive_ok w2).mono ?_
     rintro _ w3 ⟨rfl, a3⟩
     have HA3 := hid (HA2.out.trans a3)
     have HROW3 := hid (keep0 a3 HROW2.out)
     obtain ⟨zz0, zz1, zz2, zz3, zz4⟩ := row5v HROW3.out
     clear a3
     try dsimp only
     go_wp2_with fail
     have h1 := HH.out.kept0 HA3.out
     refine (built_ok w3 kd gn ow s t ks cs es rs h1.hc h1.hcl h1.hw).mono ?_
     clear h1
     intro q w4 hco
     obtain ⟨a4, sp, rfl, hp0, hp1⟩ := hco
     have HA4 := hid (HA3.out.trans a4)
     have HP0 := hid hp0
     have HP1 := hid hp1
     have HBK : Hid (cE kd gn ow cs rs = 0 → Bk (pad (encPc (cP kd gn ow cs rs))) kd gn ow cs rs) := fun he => bk_of he (cP_8 HH.out.hw)
     have HP8 : Hid (L8 (pad (encPc (cP kd gn ow cs rs)))) := cP_8 HH.out.hw
     clear a4 hp0 hp1 zz0 zz1 zz2 zz3 zz4
     generalize cE kd gn ow cs rs = er at *
     generalize cP kd gn ow cs rs = pc at *
     try dsimp only
     by_cases he : er = 0
     · obtain ⟨g, hsp, hgw, hg⟩ := HP1.out he
       have hbk := HBK.out he
       subst he hsp
       dsimp only
       obtain ⟨B, HB⟩ : ∃ B, Hid (B = pad (encPc pc)) := ⟨_, rfl⟩
       rw [← HB.out] at hg hbk HP8
       have HGB := hid hg
       have HBKk := hid hbk
       have HPB4 : Hid (Pb w4 ⟨some ⟨g, 0, none⟩, 2048, 2048⟩ B) := ⟨page_rd hg, hbk.len, HP8.out, Nat.le_refl _, fun h => by simp at h, by show 2048 ≤ _; omega⟩
       have HGW : Hid (w.heap.size ≤ g) := Nat.le_trans HA3.out.size hgw
       clear hg hbk HP0 HP1 HBK hgw
       go_wp2_with fail
       refine (lnum_ok w4 _).mono ?_
       rintro _ wn ⟨rfl, hwn⟩
       rw [hwn]
       clear hwn wn
       try dsimp only
       go_wp2_with fail
       refine (open_ok HPB4.out).mono ?_
       intro q w8 hop
       obtain ⟨V, rfl, hVw, hV⟩ := hop.ok (by rw [HBKk.out.ck])
       have HI0 : Hid (Sp8 w w8 g V B) := ⟨HA4.out.trans hop.a, keep0 hop.a HGB.out, HBKk.out.len, HP8.out, hV⟩
       clear hop hVw hV HPB4 HGB
       try dsimp only
       go_wp2_with fail
       refine (lnum_ok w8 _).mono ?_
       rintro _ wn ⟨rfl, hwn⟩
       rw [hwn]
       clear hwn wn
       try dsimp only
       go_wp2_with fail
       go_loopw [11] (fun b wt => ∃ (i : Nat) (l : List Nat), b = .int .i64 (i : Nat) ∧ i ≤ u.n ∧ Sp8 w wt g V l) (fun b _ => u.n - (intOf b).toNat)
       case atStart => exact ⟨0, B, rfl, Nat.zero_le _, HI0.out⟩
       case round =>
         obtain ⟨i, l, rfl, hile, hI⟩ := hrel
         have HI := hid hI
         clear hI HI0
         by_cases hlt : i < u.n
         · have hlti : ((i : Nat) : Int) < (u.n : Int) := by omega
           obtain ⟨hf8, hcl⟩ := HU.out
           obtain ⟨P, o, hP, hPl, hcells⟩ := hcl (by omega)
           obtain ⟨m, hm, hmk⟩ := mask2047 (fz i)
           obtain ⟨x0, x1, hI2⟩ := HI.out.set HGW.out hm (hf8 i)
           have HPg : Hid (P ≠ g) := by unfold Hid; have := HGW.out; omega
           have HCL : Hid (∀ W, Apart [g] wr W → W.cell? ⟨P, o + i * 2, none⟩ = some (.int .i64 (fz i)) ∧ W.cell? ⟨P, o + i * 2 + 1, none⟩ = some (.int .u8 (fb i : Nat))) := fun W a => by
             have hs := HI.out.ap.size
             obtain ⟨c0, c1⟩ := hcells i hlt
             have hw0 := HI.out.ap
             refine ⟨?_, ?_⟩
             · rw [a.cell (p := ⟨P, o + i * 2, none⟩) (by show P < wr.heap.size; omega) (by simp; exact HPg.out), hw0.cell (p := ⟨P, o + i * 2, none⟩) hPl (by simp)]; exact c0
             · rw [a.cell (p := ⟨P, o + i * 2 + 1, none⟩) (by show P < wr.heap.size; omega) (by simp; exact HPg.out), hw0.cell (p := ⟨P, o + i * 2 + 1, none⟩) hPl (by simp)]; exact c1
           have hmi : ((m : Nat) : Int) < 2048 := by omega
           obtain ⟨up, un, uc⟩ := u
           dsimp only at hP hlti hile hlt hbi hbig
           subst hP
           have hI2d : Sp8 w (wr.drew.setCell ⟨g, m, none⟩ (.int .u8 (fb i : Nat))) g V (l.set m (fb i)) := ((HI.out.kept (Apart.refl [] wr).drew).set HGW.out hm (hf8 i)).2.2
           have x0d : wr.drew.cell? ⟨g, m, none⟩ = some (.int .u8 ((l.getD m 0 : Nat) : Int)) := ((HI.out.kept (Apart.refl [] wr).drew).set HGW.out hm (hf8 i)).1
           have x1d : wr.drew.frozen? ⟨g, m, none⟩ = false := ((HI.out.kept (Apart.refl [] wr).drew).set HGW.out hm (hf8 i)).2.1
           have HI2 := hid hI2d
           clear hI2 hI2d x0 x1 hcl hcells hf8
           have hAd : Apart [g] wr wr.drew := (Apart.refl [g] wr).drew
           go_upto_region 15 with fail
           refine wp_region_held_drew (S := fun W => Apart [g] wr W) (by kernel_rfl) hAd (fun hHeld => ?_)
           generalize wr.drew = wd at *
           refine tk 0 67 (.slice (some ⟨g, 0, none⟩) 2048 2048) rfl ?_ ?_
           · intro W hSW; go_simp
           simp only [Act.put, List.setIfInBounds_toArray, List.set_cons_zero, List.set_cons_succ]
           refine tk 1 68 (.slice (some ⟨P, o, none⟩) un uc) rfl ?_ ?_
           · intro W hSW; go_simp
           simp only [Act.put, List.setIfInBounds_toArray, List.set_cons_zero, List.set_cons_succ]
           refine tk 2 69 (.int .i64 (i : Nat)) rfl ?_ ?_
           · intro W hSW; go_simp
           simp only [Act.put, List.setIfInBounds_toArray, List.set_cons_zero, List.set_cons_succ]
           refine tk 3 70 (.pointer (some ⟨P, o + i * 2, none⟩)) rfl ?_ ?_
           · intro W hSW; go_simp
           simp only [Act.put, List.setIfInBounds_toArray, List.set_cons_zero, List.set_cons_succ]
           refine tk 4 71 (.pointer (some ⟨P, o + i * 2, none⟩)) rfl ?_ ?_
           · intro W hSW; go_simp
           simp only [Act.put, List.setIfInBounds_toArray, List.set_cons_zero, List.set_cons_succ]
           refine tk 5 72 (.int .i64 (fz i)) rfl ?_ ?_
           · intro W hSW; obtain ⟨c0, c1⟩ := HCL.out W hSW; go_simp
           simp only [Act.put, List.setIfInBounds_toArray, List.set_cons_zero, List.set_cons_succ]
           refine tk 6 73 (.int .i64 (m : Nat)) rfl ?_ ?_
           · intro W hSW; go_simp
           simp only [Act.put, List.setIfInBounds_toArray, List.set_cons_zero, List.set_cons_succ]
           refine tk 7 74 (.slice (some ⟨P, o, none⟩) un uc) rfl ?_ ?_
           · intro W hSW; go_simp
           simp only [Act.put, List.setIfInBounds_toArray, List.set_cons_zero, List.set_cons_succ]
           refine tk 8 75 (.int .i64 (i : Nat)) rfl ?_ ?_
           · intro W hSW; go_simp
           simp only [Act.put, List.setIfInBounds_toArray, List.set_cons_zero, List.set_cons_succ]
           refine tk 9 76 (.pointer (some ⟨P, o + i * 2, none⟩)) rfl ?_ ?_
           · intro W hSW; go_simp
           simp only [Act.put, List.setIfInBounds_toArray, List.set_cons_zero, List.set_cons_succ]
           refine tk 10 77 (.pointer (some ⟨P, o + i * 2 + 1, none⟩)) rfl ?_ ?_
           · intro W hSW; go_simp
           simp only [Act.put, List.setIfInBounds_toArray, List.set_cons_zero, List.set_cons_succ]
           refine tk 11 78 (.int .u8 (fb i : Nat)) rfl ?_ ?_
           · intro W hSW; obtain ⟨c0, c1⟩ := HCL.out W hSW; go_simp
           simp only [Act.put, List.setIfInBounds_toArray, List.set_cons_zero, List.set_cons_succ]
           refine tk 12 79 (.pointer (some ⟨g, m, none⟩)) rfl ?_ ?_
           · intro W hSW; go_simp
           simp only [Act.put, List.setIfInBounds_toArray, List.set_cons_zero, List.set_cons_succ]
           refine wpAnyH_ready (rs := [13]) (by kernel_rfl) (by simp) ?_
           refine AllReadyH.cons rfl (fun KK hKK => ?_) AllReadyH.nil
           go_simp
           refine hKK.out _ _ (hAd.setCell (.inl (by simp)) _) (fun hHeld => ?_)
           clear hKK KK
           refine wpAnyH_done (by kernel_rfl) ?_ _
           clear hHeld hAd x0d x1d
           go_wp2_with fail
           go_roundw
           case rel => exact ⟨i + 1, _, by go_num, by omega, HI2.out⟩
           case measure => simp [intOf]; omega
         · have hlti : ¬ ((i : Nat) : Int) < (u.n : Int) := by omega
           have hpb := HI.out.pb
           have c1 : Sem.run Try.prog (convert 28 9 (.slice (some ⟨g, 0, none⟩) 2048 2048)) wr = .ok (.string (strB l)) wr := conv_bytes hpb.rd hpb.len hpb.ok
           clear hpb
           obtain ⟨P, o, -, hkc⟩ := vkey_ok HI.out.pb rfl HI.out.v
           obtain ⟨kp, kn, kc, hkv, hk16⟩ := keyV_16 P o l
           rw [hkv] at hkc
           have HKC := hid hkc
           clear hkc hkv hlt hile
           go_wp2_with fail
           refine HKC.out.mono ?_
           rintro _ wa ⟨rfl, aa⟩
           have HIa := hid (HI.out.kept aa)
           clear aa HI HKC c1
           try dsimp only
           have hki : ((kn : Nat) : Int) ≤ 2048 := by omega
           go_wp2_with fail
           refine (vkind_ok HIa.out.pb rfl HIa.out.v).mono ?_
           rintro _ wb ⟨rfl, ab⟩
           have HIb := hid (HIa.out.kept ab)
           clear ab HIa
           try dsimp only
           go_wp2_with fail
           refine (vgen_ok HIb.out.pb rfl HIb.out.v).mono ?_
           rintro _ wa ⟨rfl, aa⟩
           have HIa := hid (HIb.out.kept aa)
           clear aa HIb
           try dsimp only
           go_wp2_with fail
           refine (vowner_ok HIa.out.pb rfl HIa.out.v).mono ?_
           rintro _ wb ⟨rfl, ab⟩
           have HIb := hid (HIa.out.kept ab)
           clear ab HIa
           try dsimp only
           go_wp2_with fail
           refine (vlen_ok HIb.out.pb rfl HIb.out.v).mono ?_
           rintro _ wa ⟨rfl, aa⟩
           have HIa := hid (HIb.out.kept aa)
           clear aa HIb
           try dsimp only
           go_wp2_with fail
           go_loopw [14, 15, 16] (fun b _ _ wt => ∃ (z : Int), b = .int .i64 z ∧ -1 ≤ z ∧ z ≤ 260 ∧ Sp8 w wt g V l) (fun b _ _ _ => (260 - intOf b).toNat)
           case atStart => exact ⟨-1, rfl, by omega, by omega, HIa.out⟩
           case round =>
             obtain ⟨z, rfl, hz0, hz1, hI⟩ := hrel
             have HI := hid hI
             clear hI HIa
             by_cases hlt : z < 260
             · obtain ⟨P, o, -, hvc⟩ := vvalue_ok HI.out.pb rfl HI.out.v z
               have hvn := vSl_n (P := P) (o := o) HI.out.l8 z
               generalize vSl P o l z = vs at hvc hvn
               generalize vErr l z = er at hvc
               have HVC := hid hvc
               have hvi : ¬ ((vs.n : Nat) : Int) > 2048 := by omega
               clear hvc
               go_wp2_with fail
               refine HVC.out.mono ?_
               rintro _ wa ⟨rfl, aa⟩
               have HIa := hid (HI.out.kept aa)
               clear aa HI HVC
               try dsimp only
               go_wp2_with fail
               refine (vwriteW_ok HIa.out.pb rfl HIa.out.v z).mono ?_
               intro e wb hh
               obtain ⟨v1, rfl⟩ := hh.val
               have HIb := hid (HIa.out.kept hh.a)
               clear hh HIa
               try dsimp only
               go_wp2_with fail
               refine (vclock_ok HIb.out.pb rfl HIb.out.v z).mono ?_
               intro e wa hh
               obtain ⟨v2, rfl⟩ := hh.val
               have HIa := hid (HIb.out.kept hh.a)
               clear hh HIb
               try dsimp only
               have hwz : IntKind.i64.wrap (z + 1) = z + 1 := by rw [IntKind.wrap_i64]; omega
               go_wp2_with fail
               go_roundw
               case rel => exact ⟨z + 1, by first | rfl | (rw [hwz]), by omega, by omega, HIa.out⟩
               case measure => simp [intOf]; omega
             · have hpb := HI.out.pb
               have c1 : Sem.run Try.prog (convert 28 9 (.slice (some ⟨g, 0, none⟩) 2048 2048)) wr = .ok (.string (strB l)) wr := conv_bytes hpb.rd hpb.len hpb.ok
               clear hpb
               go_wp2_with fail
               go_ret
               exact ⟨by first | rfl | simp, HI.out.ap⟩
     · have hsp := HP0.out he
       subst hsp
       have hbe : (er != 0) = true := by rw [bne_iff_ne]; exact he
       clear HP0 HP1 HBK he
       unfold slz
       try dsimp only
       go_wp2_with fail
       refine (lnum_ok w4 _).mono ?_
       rintro _ wn ⟨rfl, hwn⟩
       rw [hwn]
       clear hwn wn
       try dsimp only
       go_wp2_with fail
       go_ret
       exact ⟨rfl, HA4.out⟩
end Go.Proofs.Ytllhmidpphlbhaa.ds
namespace Go.Proofs.Ytllhmidpphlbhaa.ds
open Go.ChangeShapes Go.WideShapes Go.ChangeAt Go.RowKit Go.ChangeMaps Go.Deep
set_option linter.unusedVariables false
set_option linter.unusedSimpArgs false
set_option maxRecDepth 100000 in
theorem spoilt_lifted (os : Os) (started : os.Started) (H : Type) (enc : TypeId × Value → H) (F : Stop.Interp) :
    ReturnsInHanded {} Try.checked os 8 .any ((Rows.OpenSpec.upto Rows.pageSpoiltSpec).pre6 enc Try.prog Try.f8 Rows.pageSpoiltUptoRow.domain false) (((Rows.OpenSpec.upto Rows.pageSpoiltSpec).at F).post enc Try.prog Try.f8 false true false false) := by
  refine returnsInHanded_of_cond (C := Try.checked) (s := (Rows.OpenSpec.upto Rows.pageSpoiltSpec)) (k := Rows.uptoSmall) rfl own started (by kernel_rfl) Try.func8
    (OpenSpec.witness (enc := enc) (C := Try.checked) (s := (Rows.OpenSpec.upto Rows.pageSpoiltSpec)) (k := Rows.uptoSmall) rfl false ⟨#[], #[.agg #[.int .i64 0, .int .i64 0, .int .i64 0, .slice none 0 0, .slice none 0 0], .slice none 0 0], []⟩ 8 (by kernel_rfl) (by kernel_rfl) (by kernel_rfl)
      (x := ([.agg [.lit (.int .i64 0), .lit (.int .i64 0), .lit (.int .i64 0), .nil, .nil], .nil], [], [])) (by kernel_rfl) rfl (by kernel_rfl)) ?_
  intro W base args ds gs before hval0 hW _ hk _
  have hval : ∀ (j : Nat) t v, Try.f8.params[j]? = some t → args[j]? = some v → Value.okWide Try.prog W .any base t v := hval0
  have hW' := hW
  obtain ⟨p, q, hA0, hV, rfl, hfz, hnd⟩ := hW
  have hA : DataW.TrodAll enc Try.prog W 0 (fun _ => true) true Try.f8.params.toList args.toList ds p := hA0
  rw [Try.params8] at hA hval
  obtain ⟨v0, vs0, d0, ds0, p0, q0, hargs0, rfl, rfl, h0, r0⟩ := trodAll_cons hA
  obtain ⟨v1, vs1, d1, ds1, p1, q1, hargs1, rfl, rfl, h1, r1⟩ := trodAll_cons r0
  obtain ⟨rfl, rfl, rfl⟩ := trodAll_nil r1
  obtain rfl : args = #[v0, v1] := by cases args; simp_all
  obtain ⟨rfl, rfl⟩ := trodVars_none hV
  have k0 := h0
  have lt0 : ∀ x ∈ p0, x.block < W.heap.size := by obtain ⟨m, hm⟩ := k0; exact DataW.trod_lt m _ _ _ hm
  obtain ⟨cs0, rfl, hcs0⟩ := okWide_struct Try.underlying25 (hval 0 25 v0 rfl rfl)
  rw [c25] at hcs0
  obtain ⟨c, ks, cs, es, rs, rfl, hct⟩ : ∃ (c : Ct) (ks : List Ck) (cs : List (Int × List S)) (es : List E) (rs : List Wr), cs0 = c.cs ∧ RCt W c ks cs es rs := by
    obtain ⟨fuel, hf⟩ := h0
    refine open_content hcs0 hf ?_
    have hb : Rows.uptoBulkAll ([d0, d1] ++ []) ≤ 1048576 := of_decide_eq_true hk
    rw [List.append_nil] at hb
    simp only [all_cons, all_nil] at hb
    show Rows.uptoBulk d0 ≤ 1048576
    omega
  have k1 := h1
  have lt1 : ∀ x ∈ p1, x.block < W.heap.size := by obtain ⟨m, hm⟩ := k1; exact DataW.trod_lt m _ _ _ hm
  obtain ⟨a1, len1, cap1, rfl⟩ := okWide_slice Try.underlying57 (hval 1 57 v1 rfl rfl)
  obtain ⟨fz, fb, hu⟩ : ∃ fz fb, IsSp W a1 len1 fz fb := by
    obtain ⟨fuel, hf⟩ := h1
    exact open_spoils hf

  clear hA0 hval0
  refine (spoilt_walk W c ks cs es rs hct ⟨a1, len1, cap1⟩ fz fb hu).mono fun e W' ⟨he, ap⟩ => ?_
  subst he
  have bel : Below W.heap.size W W' := ap.below (Nat.le_refl _) (by simp)
  exact ⟨_, rfl, _, _, _, [], _, [], hW', trodAll_mk1 (shut_bool Try.underlying4 _), (trodAll_cons_mk (Below.trod laidOut (by kernel_rfl) (of_decide_eq_true (by kernel_rfl)) k0 bel lt0) (trodAll_cons_mk (Below.trod laidOut (by kernel_rfl) (of_decide_eq_true (by kernel_rfl)) k1 bel lt1) trodAll_mk0)), rfl, bel.frame _, fun h => by cases h⟩
theorem spoilt_over : Rows.PageSpoiltUptoSaid :=
  OpenClaim.holds_of_cond 8 Try.f8 rfl rfl rfl rfl rfl rfl rfl ⟨rfl, rfl, rfl, rfl, rfl⟩ rfl rfl rfl rfl rfl (by kernel_rfl) Try.func8 (by kernel_rfl)
    (of_decide_eq_true (by kernel_rfl)) (by unfold Func.isWrapper; first | (rw [if_pos (by decide +kernel)]; kernel_rfl) | (rw [if_neg (by decide +kernel)]; exact ⟨rfl, rfl⟩))
    (fun os started H enc _ F => spoilt_lifted os started H enc F)
end Go.Proofs.Ytllhmidpphlbhaa.ds
namespace Go.Proofs.Ytllhmidpphlbhaa
theorem pageSpoilt_holds : Rows.PageSpoiltUptoSaid := ds.spoilt_over
end Go.Proofs.Ytllhmidpphlbhaa
