import Derived.Test.YtdbeeikjngnnnaaGreatC49
import Derived.Test.YtdbeeikjngnnnaaGreatC52
namespace Go.Proofs.YtdbeeikjngnnnaaGreat.ty
open Go.ChangeShapes Go.WideShapes Go.ChangeAt Go.RowKit
set_option linter.unusedVariables false
set_option linter.unusedSimpArgs false
set_option maxRecDepth 100000
set_option maxHeartbeats 8000000
variable {wB w w' w2 : World} {T k : Nat} {p r : Nat → Nat} {v : Nat → Vl} {ts : Nat → List Tg} {H L : List Sl} {sH sL : Sl} {h : Nat → Prop}
theorem step8 (t : Tb wB w T k p r v ts H L sH sL h) {I J a b : Int} {on : Bool} {sl : Sl} (hH : H.length ≤ 500000000) (hL : L.length ≤ 500000000) : Calls Tryz.prog 11 #[.pointer (some ⟨T, 0, none⟩), .agg (opC 8 I J a b on sl)] w fun x w' => StP wB T k H L x w' := by
 obtain ⟨i, hi, hmask⟩ := mask3 I
 obtain ⟨j, hj, hmask2⟩ := mask3 J
 have HT := hid t
 have HH := hid hH
 have HL := hid hL
 clear hH hL
 obtain ⟨A, HAe⟩ : ∃ A, Hid (A = w.heap.size) := ⟨_, hid rfl⟩
 obtain ⟨w1, Hw1⟩ : ∃ W, Hid (W = w.alloc (.cells (opC 8 I J a b on sl) 31)) := ⟨_, hid rfl⟩
 have HA1 : Hid (Apart [] w w1) := hid (zM Hw1.out)
 have HBA : Hid (w1.heap[A]? = some (.cells (opC 8 I J a b on sl) 31 (0, 0))) := hid (zN HAe.out Hw1.out)
 have HT1 := hid (HT.out.kept0 HA1.out)
 have za0 : w1.cell? ⟨A, 0, none⟩ = some (.int .i64 8) := zK HBA.out
 have za1 : w1.cell? ⟨A, 1, none⟩ = some (.int .i64 I) := zK HBA.out
 have za2 : w1.cell? ⟨A, 2, none⟩ = some (.int .i64 J) := zK HBA.out
 clear t hj
 go_enter Tryz.func11, Tryz.ntmps11
 go_upto_region 1 with fail
 rw [← HAe.out, ← Hw1.out]
 clear Hw1 HAe
 have HD := hid (looks_ok HT1.out hi HH.out HL.out)
 clear hi
 go_wp2_with (
  go_at_call 12
  refine HD.out.mono ?_
  rintro _ w2 ⟨rfl, hst⟩
  have HS := hid hst
  clear hst)
 go_ret
 exact ⟨rfl, HS.out⟩
structure Wl (p : Prop) : Prop where
 out : p
theorem Wl.val {P : Program} {ops : Array Oper} {rest : List Oper} {o : Oper} {a : Act} {w : World} {Q : Exit → Act → World → Prop} (hgd : o.guard = none) (v : Value) (h : (execOp a.eval o).run P w = .ok (.value v) w) (hK : Wl (wpList P ops Q rest (a.put o.dst v) w)) : Wl (wpList P ops Q (o :: rest) a w) := ⟨wpL_val hgd v h hK.out⟩
theorem Wl.valG {P : Program} {ops : Array Oper} {rest : List Oper} {o : Oper} {a : Act} {w : World} {Q : Exit → Act → World → Prop} (hw : Region.wanted o (yielded ops a.tmps) = true) (v : Value) (h : (execOp a.eval o).run P w = .ok (.value v) w) (hK : Wl (wpList P ops Q rest (a.put o.dst v) w)) : Wl (wpList P ops Q (o :: rest) a w) := ⟨wpL_valG hw v h hK.out⟩
theorem Wl.skip {P : Program} {ops : Array Oper} {Q : Exit → Act → World → Prop} {a : Act} {w : World} {rest : List Oper} {o : Oper} (hw : Region.wanted o (yielded ops a.tmps) = false) (h : Wl (wpList P ops Q rest (a.put o.dst undef) w)) : Wl (wpList P ops Q (o :: rest) a w) := ⟨wpList_skip hw h.out⟩
def Alw (lo hi K : Int) : Prop := K ≤ 5 ∨ K = 8 ∨ (lo ≤ K ∧ K ≤ hi)
def StepOk (wB : World) (k : Nat) (lo hi : Int) : Prop := ∀ (w : World) (T : Nat) (p r : Nat → Nat) (v : Nat → Vl) (ts : Nat → List Tg) (H L : List Sl) (sH sL : Sl) (h : Nat → Prop) (o : Opx), Tb wB w T k p r v ts H L sH sL h → Alw lo hi o.K → Gv w o.sl o.bs → (∀ P o', o.sl.p = some ⟨P, o', none⟩ ∧ o.bs ≠ [] → P < wB.heap.size) → H.length ≤ 500000000 → L.length ≤ 500000000 → o.sl.n ≤ o.sl.c → Calls Tryz.prog 11 #[.pointer (some ⟨T, 0, none⟩), .agg o.vs] w fun x w' => StP wB T k H L x w'
theorem step_done (wB : World) (k : Nat) : StepOk wB k 8 8 := by
 intro w T p r v ts H L sH sL h o t ha gv hB hH hL hcp
 obtain ⟨K, I, J, a, b, on, sl, bs⟩ := o
 unfold Alw at ha
 simp only at ha gv hB
 by_cases h1 : K < 1
 ·exact stepLow t h1
 ·obtain rfl | rfl | rfl | rfl | rfl | rfl : K = 1 ∨ K = 2 ∨ K = 3 ∨ K = 4 ∨ K = 5 ∨ K = 8 := by omega
  ·exact step1 t gv hB
  ·exact step2 t gv hB
  ·exact step3 t gv hB
  ·exact step4 t gv hB
  ·exact step5 t gv hB
  ·exact step8 t hH hL
def Pl (wB wt : World) (T k n : Nat) : Prop := ∃ p r v ts H L sH sL h, Tb wB wt T k p r v ts H L sH sL h ∧ H.length ≤ 400 * n ∧ L.length ≤ n ∧ (∀ x ∈ H, x.n ≤ 200) ∧ ∀ x ∈ L, x.n ≤ 200
theorem Pl.step {wB w' : World} {T k n : Nat} {H L : List Sl} (hH : H.length ≤ 400 * n) (hL : L.length ≤ n) (h1 : ∀ x ∈ H, x.n ≤ 200) (h2 : ∀ x ∈ L, x.n ≤ 200) {e : Ending} (s : StP wB T k H L e w') : Pl wB w' T k (n + 1) := by
 obtain ⟨-, p, r, v, ts, H', L', sH, sL, h, t, a, b, c, d⟩ := s
 exact ⟨p, r, v, ts, H', L', sH, sL, h, t, by omega, by omega, fun x hx => (c x hx).elim (h1 x) id, fun x hx => (d x hx).elim (h2 x) id⟩
theorem Pl.more {wB w w' : World} {T k n : Nat} (s : Pl wB w T k n) (a : Apart [] w w') : Pl wB w' T k (n + 1) := by
 obtain ⟨p, r, v, ts, H, L, sH, sL, h, t, x1, x2, x3, x4⟩ := s
 exact ⟨p, r, v, ts, H, L, sH, sL, h, t.kept0 a, by omega, by omega, x3, x4⟩
theorem plays_no {w : World} {k : Int} (hk : ¬ (1 ≤ k ∧ k ≤ 4)) (s : Value) (lo hi : Int) : Calls Tryz.prog 8 #[.int .i64 k, s, .int .i64 lo, .int .i64 hi] w fun x w' => x = .returned (.bool true) ∧ Apart [] w w' := by
 have HA := hid (able_ok w)
 have HB := hid (fun W : World => begin_no W k hk)
 clear hk
 go_enter Tryz.func8, Tryz.ntmps8
 go_upto_region 3 with (go_at_call 9; refine HA.out.mono ?_; rintro _ w1 ⟨rfl, a1⟩; have HA1 := hid a1; clear a1)
 go_wp2_with (go_at_call 10; refine (HB.out w1).mono ?_; rintro _ w2 ⟨rfl, a2⟩; have HA2 := hid (HA1.out.trans a2); clear a2)
 go_ret
 exact ⟨rfl, HA2.out⟩
theorem plays_ok {w : World} {k : Nat} (h1 : 1 ≤ k) (h4 : k ≤ 4) {s : Sl} {os : List Opx} (hs : Sr w s os) (hn : os.length ≤ 1100000) (lo hi : Int) (st : ∀ w1, Apart [] w w1 → StepOk w1 k lo hi) : Calls Tryz.prog 8 #[.int .i64 (k : Int), .slice s.p s.n s.c, .int .i64 lo, .int .i64 hi] w fun x w' => x = .returned (.bool true) ∧ Apart [] w w' := by
 have HA := hid (able_ok w)
 have HBe := hid (fun W : World => begin_ok W k h1 h4)
 have HS := hid hs
 have HSt0 := hid st
 obtain ⟨N, HN⟩ : ∃ N, Hid (N = os.length) := ⟨_, hid rfl⟩
 have hN : N ≤ 1100000 := by rw [HN.out]; exact hn
 have hsn : s.n = N := by rw [HN.out]; exact hs.len
 rw [hsn]
 clear h1 h4 hs hn st hsn
 go_enter Tryz.func8, Tryz.ntmps8
 go_upto_region 3 with (go_at_call 9; refine HA.out.mono ?_; rintro _ wB ⟨rfl, a1⟩; have HA1 := hid a1; clear a1)
 go_upto_region 4 with (
  go_at_call 10
  refine (HBe.out wB).mono ?_
  rintro _ w2 ⟨T, p, r, rfl, t2⟩
  have HP2 : Hid (Pl wB w2 T k 0) := hid ⟨p, r, _, _, [], [], _, _, _, t2, by simp, by simp, by simp, by simp⟩
  clear t2)
 have HStB := hid (HSt0.out wB HA1.out)
 go_upto_region 7 with fail
 clear HA HBe HSt0
 go_loopw [11] (fun v11 wt => ∃ n : Nat, v11 = .int .i64 (n : Int) ∧ n ≤ N ∧ Hid (Pl wB wt T k n)) (fun v11 _ => N - natV v11)
 case atStart => exact ⟨0, rfl, Nat.zero_le _, HP2⟩
 case round =>
  clear HP2
  obtain ⟨n, rfl, hnN, HP⟩ := hrel
  generalize wr = wt at *
  by_cases hlt : n < N
  ·have hlti : ((n : Nat) : Int) < ((N : Nat) : Int) := by omega
   obtain ⟨o, Ho⟩ : ∃ o, Hid (os[n]? = some o) := ⟨_, hid (List.getElem?_eq_getElem (by have := HN.out; omega))⟩
   obtain ⟨p', r', v, ts, H, L, sH, sL, h, t, x1, x2, x3, x4⟩ := HP.out
   have HT := hid t
   have HHL : Hid (H.length ≤ 400 * n ∧ L.length ≤ n ∧ (∀ x ∈ H, x.n ≤ 200) ∧ ∀ x ∈ L, x.n ≤ 200) := hid ⟨x1, x2, x3, x4⟩
   obtain ⟨PP, off, hp, hPP, hrg, hgv, hcp, hbl⟩ := HS.out.at_ n o Ho.out
   have HCp := hid hcp
   have hap : Apart [] w wt := HA1.out.trans t.ap
   have HPp := hid hp
   have HRg := hid (rg_kept hrg hap hPP)
   have HGv := hid (hgv.kept0 hap)
   have HBl : Hid (∀ P o', o.sl.p = some ⟨P, o', none⟩ ∧ o.bs ≠ [] → P < wB.heap.size) := hid (fun P o' e => Nat.lt_of_lt_of_le (hbl P o' e) HA1.out.size)
   clear t x1 x2 x3 x4 hp hPP hrg hgv hbl hap hcp
   go_upto_region 10 with (first
    | refine wpL_val rfl (.pointer (some ⟨PP, off + n * 7, none⟩)) (ex_idx22 _ _ PP off rfl rfl HPp.out rfl hlt) ?_
    | refine wpL_val rfl (.agg o.vs) (ex_load31 _ rfl PP (off + n * 7) o.vs.toList rfl HRg.out rfl) ?_
    | refine wpList_store_row rfl 31 _ _ rfl wt.heap.size o.vs rfl rfl 31 _ (heap_alloc_new wt _) (by rw [size31']; rfl) rfl (vs_all o) ?_)
   have HB5 := hid (put_new (w := wt) (z := #[.int .i64 0, .int .i64 0, .int .i64 0, .int .i64 0, .int .i64 0, .bool false, .slice none 0 0]) (cs := o.vs) (T := 31))
   have HA5 := hid (put_apart (w := wt) (z := #[.int .i64 0, .int .i64 0, .int .i64 0, .int .i64 0, .int .i64 0, .bool false, .slice none 0 0]) (cs := o.vs) (T := 31))
   obtain ⟨A, HAe⟩ : ∃ A, Hid (A = wt.heap.size) := ⟨_, hid rfl⟩
   rw [← HAe.out] at HB5 HA5 ⊢
   generalize (wt.alloc (.cells #[.int .i64 0, .int .i64 0, .int .i64 0, .int .i64 0, .int .i64 0, .bool false, .slice none 0 0] 31)).setRow A o.vs = w5 at *
   clear HAe
   have HRg5 : Hid (w5.rangeAt A 0 o.vs.toList) := hid (fun j v hj => by rw [cell_of_row _ _ _ _ _ _ HB5.out, Nat.zero_add]; simpa using hj)
   obtain ⟨K, HK⟩ : ∃ K, Hid (K = o.K) := ⟨_, hid rfl⟩
   have zk : w5.cell? ⟨A, 0, none⟩ = some (.int .i64 K) := by rw [cell_of_row _ _ _ _ _ _ HB5.out, HK.out]; rfl
   have HMo : Hid (Pl wB w5 T k (n + 1)) := hid (HP.out.more HA5.out)
   have HSc : Hid (Alw lo hi K → Calls Tryz.prog 11 #[.pointer (some ⟨T, 0, none⟩), .agg o.vs] w5 fun x w' => StP wB T k H L x w') := hid (fun ha => HStB.out w5 T p' r' v ts H L sH sL h o (HT.out.kept0 HA5.out) (by rw [← HK.out]; exact ha) (HGv.out.kept0 HA5.out) HBl.out (by have := HHL.out.1; omega) (by have := HHL.out.2.1; omega) HCp.out)
   by_cases c1 : K ≤ 5
   ·have HSt := hid (HSc.out (.inl c1))
    refine wp_region_lit (Wl.out ?_)
    refine Wl.val rfl (.pointer (some ⟨A, 0, none⟩)) (by go_simp) ?_
    simp only [zA,zB,zC,zD,zF]
    refine Wl.val rfl (.int .i64 K) (by have z := zk; go_simp) ?_
    simp only [zA,zB,zC,zD,zF]
    refine Wl.val rfl (.bool true) (by have h := c1; go_simp) ?_
    simp only [zA,zB,zC,zD,zF]
    refine Wl.val rfl (.bool true) (by go_simp) ?_
    simp only [zA,zB,zC,zD,zF]
    refine Wl.skip (by kernel_rfl) ?_
    simp only [zA,zB,zC,zD,zF]
    refine Wl.skip (by kernel_rfl) ?_
    simp only [zA,zB,zC,zD,zF]
    refine Wl.skip (by kernel_rfl) ?_
    simp only [zA,zB,zC,zD,zF]
    refine Wl.val rfl (.bool true) (by go_simp) ?_
    simp only [zA,zB,zC,zD,zF]
    refine Wl.val rfl (.bool true) (by go_simp) ?_
    simp only [zA,zB,zC,zD,zF]
    refine Wl.skip (by kernel_rfl) ?_
    simp only [zA,zB,zC,zD,zF]
    refine Wl.skip (by kernel_rfl) ?_
    simp only [zA,zB,zC,zD,zF]
    refine Wl.skip (by kernel_rfl) ?_
    simp only [zA,zB,zC,zD,zF]
    refine Wl.skip (by kernel_rfl) ?_
    simp only [zA,zB,zC,zD,zF]
    refine Wl.skip (by kernel_rfl) ?_
    simp only [zA,zB,zC,zD,zF]
    refine Wl.skip (by kernel_rfl) ?_
    simp only [zA,zB,zC,zD,zF]
    refine Wl.skip (by kernel_rfl) ?_
    simp only [zA,zB,zC,zD,zF]
    refine Wl.skip (by kernel_rfl) ?_
    simp only [zA,zB,zC,zD,zF]
    refine Wl.skip (by kernel_rfl) ?_
    simp only [zA,zB,zC,zD,zF]
    refine Wl.skip (by kernel_rfl) ?_
    simp only [zA,zB,zC,zD,zF]
    refine Wl.val rfl (.bool true) (by go_simp) ?_
    simp only [zA,zB,zC,zD,zF]
    refine Wl.val rfl (.bool true) (by go_simp) ?_
    simp only [zA,zB,zC,zD,zF]
    refine Wl.valG (by kernel_rfl) (.pointer (some ⟨T, 0, none⟩)) (by go_simp) ?_
    simp only [zA,zB,zC,zD,zF]
    refine Wl.valG (by kernel_rfl) (.agg o.vs) (ex_load31 _ rfl A 0 o.vs.toList rfl HRg5.out rfl) ?_
    simp only [zA,zB,zC,zD,zF]
    refine Wl.mk ?_
    go_wp2_with (
     go_at_call 11
     refine HSt.out.mono ?_
     rintro _ w6 ⟨rfl, hst⟩
     have HPl := hid (Pl.step (e := .returned (.bool true)) HHL.out.1 HHL.out.2.1 HHL.out.2.2.1 HHL.out.2.2.2 ⟨rfl, hst⟩)
     clear hst)
    exact ⟨⟨n + 1, by go_num, by omega, HPl⟩, by simp [natV]; omega⟩
   ·by_cases c2 : K = 8
    ·have HSt := hid (HSc.out (.inr (.inl c2)))
     subst c2
     clear c1
     refine wp_region_lit (Wl.out ?_)
     refine Wl.val rfl (.pointer (some ⟨A, 0, none⟩)) (by go_simp) ?_
     simp only [zA,zB,zC,zD,zF]
     refine Wl.val rfl (.int .i64 8) (by have z := zk; go_simp) ?_
     simp only [zA,zB,zC,zD,zF]
     refine Wl.val rfl (.bool false) (by go_simp) ?_
     simp only [zA,zB,zC,zD,zF]
     refine Wl.val rfl (.bool false) (by go_simp) ?_
     simp only [zA,zB,zC,zD,zF]
     refine Wl.valG (by kernel_rfl) (.pointer (some ⟨A, 0, none⟩)) (by go_simp) ?_
     simp only [zA,zB,zC,zD,zF]
     refine Wl.valG (by kernel_rfl) (.int .i64 8) (by have z := zk; go_simp) ?_
     simp only [zA,zB,zC,zD,zF]
     refine Wl.valG (by kernel_rfl) (.bool true) (by go_simp) ?_
     simp only [zA,zB,zC,zD,zF]
     refine Wl.val rfl (.bool true) (by go_simp) ?_
     simp only [zA,zB,zC,zD,zF]
     refine Wl.val rfl (.bool true) (by go_simp) ?_
     simp only [zA,zB,zC,zD,zF]
     refine Wl.skip (by kernel_rfl) ?_
     simp only [zA,zB,zC,zD,zF]
     refine Wl.skip (by kernel_rfl) ?_
     simp only [zA,zB,zC,zD,zF]
     refine Wl.skip (by kernel_rfl) ?_
     simp only [zA,zB,zC,zD,zF]
     refine Wl.skip (by kernel_rfl) ?_
     simp only [zA,zB,zC,zD,zF]
     refine Wl.skip (by kernel_rfl) ?_
     simp only [zA,zB,zC,zD,zF]
     refine Wl.skip (by kernel_rfl) ?_
     simp only [zA,zB,zC,zD,zF]
     refine Wl.skip (by kernel_rfl) ?_
     simp only [zA,zB,zC,zD,zF]
     refine Wl.skip (by kernel_rfl) ?_
     simp only [zA,zB,zC,zD,zF]
     refine Wl.skip (by kernel_rfl) ?_
     simp only [zA,zB,zC,zD,zF]
     refine Wl.skip (by kernel_rfl) ?_
     simp only [zA,zB,zC,zD,zF]
     refine Wl.val rfl (.bool true) (by go_simp) ?_
     simp only [zA,zB,zC,zD,zF]
     refine Wl.val rfl (.bool true) (by go_simp) ?_
     simp only [zA,zB,zC,zD,zF]
     refine Wl.valG (by kernel_rfl) (.pointer (some ⟨T, 0, none⟩)) (by go_simp) ?_
     simp only [zA,zB,zC,zD,zF]
     refine Wl.valG (by kernel_rfl) (.agg o.vs) (ex_load31 _ rfl A 0 o.vs.toList rfl HRg5.out rfl) ?_
     simp only [zA,zB,zC,zD,zF]
     refine Wl.mk ?_
     go_wp2_with (
      go_at_call 11
      refine HSt.out.mono ?_
      rintro _ w6 ⟨rfl, hst⟩
      have HPl := hid (Pl.step (e := .returned (.bool true)) HHL.out.1 HHL.out.2.1 HHL.out.2.2.1 HHL.out.2.2.2 ⟨rfl, hst⟩)
      clear hst)
     exact ⟨⟨n + 1, by go_num, by omega, HPl⟩, by simp [natV]; omega⟩
    ·have c2b : (K == 8) = false := by simp [c2]
     clear c2
     by_cases c3 : lo ≤ K
     ·by_cases c4 : K ≤ hi
      ·have HSt := hid (HSc.out (.inr (.inr ⟨c3, c4⟩)))
       go_wp2_with (first
        | refine ldG rfl rfl (.agg o.vs) (ex_load31 _ rfl A 0 o.vs.toList rfl HRg5.out rfl) ?_
        | (go_at_call 11
           refine HSt.out.mono ?_
           rintro _ w6 ⟨rfl, hst⟩
           have HPl := hid (Pl.step (e := .returned (.bool true)) HHL.out.1 HHL.out.2.1 HHL.out.2.2.1 HHL.out.2.2.2 ⟨rfl, hst⟩)
           clear hst))
       exact ⟨⟨n + 1, by go_num, by omega, HPl⟩, by simp [natV]; omega⟩
      ·go_wp2_with fail
       exact ⟨⟨n + 1, by go_num, by omega, HMo⟩, by simp [natV]; omega⟩
     ·go_wp2_with fail
      exact ⟨⟨n + 1, by go_num, by omega, HMo⟩, by simp [natV]; omega⟩
  ·have hlti : ¬ ((n : Nat) : Int) < ((N : Nat) : Int) := by omega
   obtain rfl : n = N := by omega
   have HPe := HP
   go_upto_region 13 with fail
   go_loopw [13] (fun v13 wt => ∃ i : Nat, v13 = .int .i64 (i : Int) ∧ i ≤ 4 ∧ Hid (Pl wB wt T k (n + i))) (fun v13 _ => 4 - natV v13)
   case atStart => exact ⟨0, rfl, by omega, HPe⟩
   case round =>
    clear HPe HP
    obtain ⟨i, rfl, hi4, HP⟩ := hrel
    generalize wr = wu at *
    obtain ⟨p', r', v, ts, H, L, sH, sL, h, t, x1, x2, x3, x4⟩ := HP.out
    have HT := hid t
    have HHL : Hid (H.length ≤ 400 * (n + i) ∧ L.length ≤ n + i ∧ (∀ x ∈ H, x.n ≤ 200) ∧ ∀ x ∈ L, x.n ≤ 200) := hid ⟨x1, x2, x3, x4⟩
    clear t x1 x2 x3 x4
    by_cases hlt4 : i < 4
    ·have hlti4 : ((i : Nat) : Int) < 4 := by omega
     have HLo := hid (looks_ok HT.out hlt4 (by have := HHL.out.1; omega) (by have := HHL.out.2.1; omega))
     go_wp2_with (
      go_at_call 12
      refine HLo.out.mono ?_
      rintro _ w6 ⟨rfl, hst⟩
      have HPl : Hid (Pl wB w6 T k (n + (i + 1))) := hid (Pl.step (e := .returned (.bool true)) HHL.out.1 HHL.out.2.1 HHL.out.2.2.1 HHL.out.2.2.2 ⟨rfl, hst⟩)
      clear hst)
     exact ⟨⟨i + 1, by go_num, by omega, HPl⟩, by simp [natV]; omega⟩
    ·have hlti4 : ¬ ((i : Nat) : Int) < 4 := by omega
     have HW := hid (whole_ok HT.out (by have := HHL.out.1; omega) (by have := HHL.out.2.1; omega) (fun x hx => by have := HHL.out.2.2.1 x hx; omega) (fun x hx => by have := HHL.out.2.2.2 x hx; omega))
     have HAf : Hid (Apart [] w wu) := hid (HA1.out.trans HT.out.ap)
     go_wp2_with (go_at_call 13; refine HW.out.mono ?_; rintro _ wn ⟨rfl, hwn⟩; rw [hwn]; clear hwn)
     go_ret
     exact ⟨rfl, HAf.out⟩
end Go.Proofs.YtdbeeikjngnnnaaGreat.ty
namespace Go.Proofs.YtdbeeikjngnnnaaGreat.ty
open Go.ChangeShapes Go.WideShapes Go.ChangeAt Go.RowKit Go.Deep Go.Sort
set_option linter.unusedVariables false
set_option linter.unusedSimpArgs false
set_option maxRecDepth 100000
set_option maxHeartbeats 8000000
set_option maxRecDepth 100000
theorem c3 : Tryz.prog.cellsOf 3 = 1 := by kernel_rfl
theorem c4 : Tryz.prog.cellsOf 4 = 1 := by kernel_rfl
theorem c29 : Tryz.prog.cellsOf 29 = 1 := by kernel_rfl
theorem c31 : Tryz.prog.cellsOf 31 = 7 := by kernel_rfl
def opz : Opx := ⟨0, 0, 0, 0, 0, false, ⟨none, 0, 0⟩, []⟩
theorem cap_bytes {H : Type} {enc : TypeId × Value → H} {W : World} {fuel : Nat} {s : Sl} {x : DataW H × List MemPlace} (h : DataW.trod enc Tryz.prog W 0 (fun _ => true) true fuel 29 [.slice s.p s.n s.c] = some x) : s.n ≤ s.c := by
 rcases open_ints Tryz.underlying29 Tryz.underlying5 c5 h with ⟨hcs, _⟩ | ⟨a, l, c, zs, hcs, _, hl, hm, hz, hx, hcell, hwz⟩
 ·simp at hcs
  omega
 ·simp at hcs
  omega
theorem open_ops {H : Type} {enc : TypeId × Value → H} {W : World} {fuel : Nat} {v : Value} {x : DataW H × List MemPlace} (h : DataW.trod enc Tryz.prog W 0 (fun _ => true) true fuel 22 [v] = some x) (hb : Rows.uptoBulk x.1 ≤ 1048576) :
  ∃ (s : Sl) (os : List Opx), v = .slice s.p s.n s.c ∧ Sr W s os ∧ os.length ≤ 1100000 := by
 rcases open_slice Tryz.underlying22 h with ⟨hcs, _⟩ | ⟨a, len, cap, m, n, D, Pl, hcs, _, hl, hm, hmeq, hx, hall⟩
 ·simp at hcs
  exact ⟨⟨none, 0, 0⟩, [], hcs, ⟨rfl, fun q o h => by simp at h⟩, by simp⟩
 ·simp only [if_true] at hmeq
  subst hmeq
  simp at hcs
  rw [hx] at hb
  have hball := Nat.le_trans (slice_many ((List.range len).map D) ((List.range (m - len)).map fun j => D (len + j))) hb
  have hlim : len ≤ 1048576 := by
   have h2 := many ((List.range len).map D)
   simp only [List.length_map, List.length_range] at h2
   omega
  by_cases h0 : 0 < len
  ·obtain ⟨P, o, spot⟩ := a
   have hspot : spot = none := by
    obtain ⟨cs', h1, h2⟩ := hall 0 (by omega)
    rw [c31] at h1
    obtain ⟨_, hlen, hcell⟩ := World.cells?_some h1
    have hc := hcell 0 (by omega)
    rw [List.getElem?_eq_getElem (by omega)] at hc
    have := World.cell?_spot hc
    simpa [Addr.add] using this
   subst hspot
   have each : ∀ i, i < len → ∃ d : Opx, W.rangeAt P (o + i * 7) d.vs.toList ∧ Gv W d.sl d.bs ∧ d.sl.n ≤ d.sl.c := by
    intro i hi
    obtain ⟨cs', h1, h2⟩ := hall i (by omega)
    have hDi : Rows.uptoBulk (D i) ≤ 1048576 := Nat.le_trans (all_mem (List.mem_map.2 ⟨i, List.mem_range.2 hi, rfl⟩)) hball
    rw [c31, Addr.add_lit] at h1
    obtain ⟨_, hlen, hcell⟩ := World.cells?_some h1
    match cs', hlen with
    | [v0, v1, v2, v3, v4, v5, v6], _ =>
     obtain ⟨ys, k, hk, hxy, _, hxl, hf⟩ := DataW.trod_struct Tryz.underlying31 h2
     match ys, hxl with
     | [y0, y1, y2, y3, y4, y5, y6], _ =>
      have g0 := hf 0 _ rfl
      have g1 := hf 1 _ rfl
      have g2 := hf 2 _ rfl
      have g3 := hf 3 _ rfl
      have g4 := hf 4 _ rfl
      have g5 := hf 5 _ rfl
      have g6 := hf 6 _ rfl
      simp [c3, c4, c29] at g0 g1 g2 g3 g4 g5 g6
      have hD : D i = .agg [y0.1, y1.1, y2.1, y3.1, y4.1, y5.1, y6.1] := by
       have := congrArg Prod.fst hxy
       simpa using this
      rw [hD] at hDi
      have hal := Nat.le_trans (agg_many _) hDi
      obtain ⟨k0, q0, _, wf0⟩ := DataW.trod_int Tryz.underlying3 g0
      obtain ⟨k1, q1, _, wf1⟩ := DataW.trod_int Tryz.underlying3 g1
      obtain ⟨k2, q2, _, wf2⟩ := DataW.trod_int Tryz.underlying3 g2
      obtain ⟨k3, q3, _, wf3⟩ := DataW.trod_int Tryz.underlying3 g3
      obtain ⟨k4, q4, _, wf4⟩ := DataW.trod_int Tryz.underlying3 g4
      obtain ⟨bd, q5, _⟩ := DataW.trod_bool Tryz.underlying4 g5
      obtain ⟨sb, bs, rfl, b1, b2, b3, b4, b5⟩ := open_bytes g6 (Nat.le_trans (all_mem (by simp)) hal)
      have b6 : sb.n ≤ sb.c := cap_bytes g6
      simp only [List.cons.injEq, and_true] at q0 q1 q2 q3 q4 q5
      subst q0 q1 q2 q3 q4 q5
      refine ⟨⟨k0, k1, k2, k3, k4, bd, sb, bs⟩, fun j u hj => ?_, ⟨b1, b2, b5, b4, by show bs.length ≤ _; omega⟩, b6⟩
      have hj7 : j < 7 := by
       by_cases hq : j < 7
       ·exact hq
       ·rw [List.getElem?_eq_none (by show 7 ≤ j; omega)] at hj; cases hj
      have := hcell j hj7
      rw [Addr.add_lit] at this
      rw [this]
      exact hj
   obtain ⟨f, hf⟩ := @choose_lt Opx ⟨opz⟩ _ _ each
   refine ⟨⟨some ⟨P, o, none⟩, len, m⟩, (List.range len).map f, hcs, ⟨by simp, fun q d hq => ?_⟩, by simp; omega⟩
   have hq2 : q < len ∧ f q = d := by
    by_cases c : q < len
    ·rw [List.getElem?_map, List.getElem?_range c] at hq
     exact ⟨c, by simpa using hq⟩
    ·rw [List.getElem?_eq_none (by simp; omega)] at hq; cases hq
   obtain ⟨hq1, rfl⟩ := hq2
   obtain ⟨hr, hg, hcp⟩ := hf q hq1
   have hP : P < W.heap.size := block_lt_of_cell (hr 0 (.int .i64 (f q).K) rfl)
   refine ⟨P, o, rfl, hP, hr, hg, hcp, fun P' o' e => ?_⟩
   obtain ⟨P2, o2, e2, h2, _⟩ := hg.rd (by rw [byts_len]; exact List.length_pos_iff.2 e.2)
   cases e.1.symm.trans e2
   exact h2
  ·obtain rfl : len = 0 := by omega
   exact ⟨⟨some a, 0, m⟩, [], hcs, ⟨rfl, fun q o h => by simp at h⟩, by simp⟩
theorem plays_any {w : World} (z : Int) {s : Sl} {os : List Opx} (hs : Sr w s os) (hn : os.length ≤ 1100000) (lo hi : Int) (st : ∀ k : Nat, 1 ≤ k → k ≤ 4 → ∀ w1, Apart [] w w1 → StepOk w1 k lo hi) : Calls Tryz.prog 8 #[.int .i64 z, .slice s.p s.n s.c, .int .i64 lo, .int .i64 hi] w fun x w' => x = .returned (.bool true) ∧ Apart [] w w' := by
 by_cases h : 1 ≤ z ∧ z ≤ 4
 ·obtain ⟨k, rfl⟩ := Int.eq_ofNat_of_zero_le (by omega : 0 ≤ z)
  exact plays_ok (k := k) (by omega) (by omega) hs hn lo hi (st k (by omega) (by omega))
 ·exact plays_no h _ lo hi
theorem step_reads (wB : World) (k : Nat) : StepOk wB k 7 9 := by
 intro w T p r v ts H L sH sL h o t ha gv hB hH hL hcp
 by_cases h7 : o.K = 7
 ·obtain ⟨K, I, J, a, b, on, sl, bs⟩ := o
  obtain rfl : K = 7 := h7
  exact step7 t
 ·by_cases h9 : o.K = 9
  ·obtain ⟨K, I, J, a, b, on, sl, bs⟩ := o
   obtain rfl : K = 9 := h9
   exact step9 t gv hcp
  ·refine step_done wB k w T p r v ts H L sH sL h o t ?_ gv hB hH hL hcp
   unfold Alw at ha ⊢
   omega
end Go.Proofs.YtdbeeikjngnnnaaGreat.ty
