import Derived.Test.YtdbeeikjngnnnaaGreatC19
namespace Go.Proofs.YtdbeeikjngnnnaaGreat.ty
open Go.ChangeShapes Go.WideShapes Go.ChangeAt Go.RowKit
set_option linter.unusedVariables false
set_option linter.unusedSimpArgs false
set_option maxRecDepth 100000
set_option maxHeartbeats 8000000
def rdOk (k : Nat) (bs : List Nat) : Bool := rightV (readV k bs) && decide (formV (readV k bs) = bs)
theorem Read_ok {w : World} {sl : Sl} {bs : List Nat} (k : Nat) (h1 : 1 ≤ k) (h4 : k ≤ 4) (h : Rdy k w sl bs) (hr : rdOk k bs = true) : Calls Tryz.prog 45 #[.int .i64 (k : Int), .slice sl.p sl.n sl.c] w fun r w' => ∃ V, r = .returned (.tuple #[.pointer (some ⟨V, 0, none⟩), .int .i64 0]) ∧ w.heap.size ≤ V ∧ Ho w' V (readV k bs) ∧ Apart [] w w' := by
 unfold rdOk at hr
 simp only [Bool.and_eq_true, decide_eq_true_eq] at hr
 obtain rfl | rfl | rfl | rfl : k = 1 ∨ k = 2 ∨ k = 3 ∨ k = 4 := by omega
 ·exact Read1_yes h hr.1 hr.2
 ·exact Read2_yes h hr.1 hr.2
 ·exact Read3_yes h hr.1 hr.2
 ·exact Read4_yes h hr.1 hr.2
theorem Read_bad {w : World} {sl : Sl} {bs : List Nat} (k : Nat) (h1 : 1 ≤ k) (h4 : k ≤ 4) (h : Rdy k w sl bs) (hr : rdOk k bs = false) : Calls Tryz.prog 45 #[.int .i64 (k : Int), .slice sl.p sl.n sl.c] w fun r w' => r = .returned (.tuple #[.pointer none, .int .i64 190]) ∧ Apart [] w w' := by
 unfold rdOk at hr
 cases hb : rightV (readV k bs)
 ·obtain rfl | rfl | rfl | rfl : k = 1 ∨ k = 2 ∨ k = 3 ∨ k = 4 := by omega
  ·exact Read1_bad h hb
  ·exact Read2_bad h hb
  ·exact Read3_bad h hb
  ·exact Read4_bad h hb
 ·rw [hb] at hr
  have he : formV (readV k bs) ≠ bs := by simpa using hr
  obtain rfl | rfl | rfl | rfl : k = 1 ∨ k = 2 ∨ k = 3 ∨ k = 4 := by omega
  ·exact Read1_ne h hb he
  ·exact Read2_ne h hb he
  ·exact Read3_ne h hb he
  ·exact Read4_ne h hb he
theorem Read_long {w : World} (k : Nat) (h1 : 1 ≤ k) (h4 : k ≤ 4) (p : Option Addr) (n c : Nat) (hn : ((n : Nat) : Int) > 64) : Calls Tryz.prog 45 #[.int .i64 (k : Int), .slice p n c] w fun r w' => r = .returned (.tuple #[.pointer none, .int .i64 2]) ∧ w' = w := by
 have HB := hid (blank_ok w k h1 h4)
 have hz := fun wx => zb_ne k wx
 have hg := fun x y wx => zb_gd k x y wx
 clear h1 h4
 go_enter Tryz.func45, Tryz.ntmps45
 go_wp2_with (go_at_call 33; refine HB.out.mono ?_; rintro _ _ ⟨rfl, rfl⟩)
 go_wp2_with fail
 go_ret2
 exact ⟨rfl, rfl⟩
def OkF (v : Vl) : Prop := match v with
 | Sum.inl (u, d) => Wd u ∧ Wd d
 | Sum.inr (Sum.inl (c, es)) => c.length = 8 ∧ es.length ≤ 500 ∧ ∀ x ∈ es, x.e.size ≤ 1000
 | Sum.inr (Sum.inr (Sum.inl (c, g))) => c.length = 8 ∧ g.length = 8
 | Sum.inr (Sum.inr (Sum.inr (s, a, t))) => 0 ≤ s ∧ 0 ≤ a ∧ t.size ≤ 1000
theorem Bytes1_p {w : World} {V : Nat} {cs : Array Value} {bs : List Nat} (hV : Bd w V (.iface 101 (.agg cs))) (hc : Calls Tryz.prog 102 #[.agg cs] w fun r w' => ∃ s, r = .returned (.slice s.p s.n s.c) ∧ Bf w w' s bs) (hl : bs.length ≤ 64) : Calls Tryz.prog 17 #[.pointer (some ⟨V, 0, none⟩)] w fun r w' => ∃ s, r = .returned (.tuple #[.slice s.p s.n s.c, .int .i64 0]) ∧ Bf w w' s bs := by
 have z : w.cell? ⟨V, 0, none⟩ = some (.iface 101 (.agg cs)) := zK hV
 have hm := fun wx => mr_form1 cs wx
 have HC := hid hc
 have Hl := hid hl
 clear hV hc hl
 go_enter Tryz.func17, Tryz.ntmps17
 go_upto_region 2 with (go_at_call 102; refine HC.out.mono ?_; rintro _ w1 ⟨s, rfl, b1⟩; have HB := hid b1; clear b1)
 have hn : ¬ ((s.n : Nat) : Int) > 64 := by have h1 := HB.out.len; have h2 := Hl.out; omega
 go_wp2_with fail
 go_ret2
 exact ⟨s, rfl, HB.out⟩
theorem Bytes2_p {w : World} {V : Nat} {cs : Array Value} {bs : List Nat} (hV : Bd w V (.iface 104 (.agg cs))) (hc : Calls Tryz.prog 113 #[.agg cs] w fun r w' => ∃ s, r = .returned (.slice s.p s.n s.c) ∧ Bf w w' s bs) (hl : bs.length ≤ 64) : Calls Tryz.prog 17 #[.pointer (some ⟨V, 0, none⟩)] w fun r w' => ∃ s, r = .returned (.tuple #[.slice s.p s.n s.c, .int .i64 0]) ∧ Bf w w' s bs := by
 have z : w.cell? ⟨V, 0, none⟩ = some (.iface 104 (.agg cs)) := zK hV
 have hm := fun wx => mr_form2 cs wx
 have HC := hid hc
 have Hl := hid hl
 clear hV hc hl
 go_enter Tryz.func17, Tryz.ntmps17
 go_upto_region 2 with (go_at_call 113; refine HC.out.mono ?_; rintro _ w1 ⟨s, rfl, b1⟩; have HB := hid b1; clear b1)
 have hn : ¬ ((s.n : Nat) : Int) > 64 := by have h1 := HB.out.len; have h2 := Hl.out; omega
 go_wp2_with fail
 go_ret2
 exact ⟨s, rfl, HB.out⟩
theorem Bytes3_p {w : World} {V : Nat} {cs : Array Value} {bs : List Nat} (hV : Bd w V (.iface 106 (.agg cs))) (hc : Calls Tryz.prog 128 #[.agg cs] w fun r w' => ∃ s, r = .returned (.slice s.p s.n s.c) ∧ Bf w w' s bs) (hl : bs.length ≤ 64) : Calls Tryz.prog 17 #[.pointer (some ⟨V, 0, none⟩)] w fun r w' => ∃ s, r = .returned (.tuple #[.slice s.p s.n s.c, .int .i64 0]) ∧ Bf w w' s bs := by
 have z : w.cell? ⟨V, 0, none⟩ = some (.iface 106 (.agg cs)) := zK hV
 have hm := fun wx => mr_form3 cs wx
 have HC := hid hc
 have Hl := hid hl
 clear hV hc hl
 go_enter Tryz.func17, Tryz.ntmps17
 go_upto_region 2 with (go_at_call 128; refine HC.out.mono ?_; rintro _ w1 ⟨s, rfl, b1⟩; have HB := hid b1; clear b1)
 have hn : ¬ ((s.n : Nat) : Int) > 64 := by have h1 := HB.out.len; have h2 := Hl.out; omega
 go_wp2_with fail
 go_ret2
 exact ⟨s, rfl, HB.out⟩
theorem Bytes4_p {w : World} {V : Nat} {cs : Array Value} {bs : List Nat} (hV : Bd w V (.iface 108 (.agg cs))) (hc : Calls Tryz.prog 133 #[.agg cs] w fun r w' => ∃ s, r = .returned (.slice s.p s.n s.c) ∧ Bf w w' s bs) (hl : bs.length ≤ 64) : Calls Tryz.prog 17 #[.pointer (some ⟨V, 0, none⟩)] w fun r w' => ∃ s, r = .returned (.tuple #[.slice s.p s.n s.c, .int .i64 0]) ∧ Bf w w' s bs := by
 have z : w.cell? ⟨V, 0, none⟩ = some (.iface 108 (.agg cs)) := zK hV
 have hm := fun wx => mr_form4 cs wx
 have HC := hid hc
 have Hl := hid hl
 clear hV hc hl
 go_enter Tryz.func17, Tryz.ntmps17
 go_upto_region 2 with (go_at_call 133; refine HC.out.mono ?_; rintro _ w1 ⟨s, rfl, b1⟩; have HB := hid b1; clear b1)
 have hn : ¬ ((s.n : Nat) : Int) > 64 := by have h1 := HB.out.len; have h2 := Hl.out; omega
 go_wp2_with fail
 go_ret2
 exact ⟨s, rfl, HB.out⟩
theorem Bytes_v {w : World} {V : Nat} {v : Vl} (hV : Ho w V v) (ok : OkF v) (hl : (formV v).length ≤ 64) : Calls Tryz.prog 17 #[.pointer (some ⟨V, 0, none⟩)] w fun r w' => ∃ s, r = .returned (.tuple #[.slice s.p s.n s.c, .int .i64 0]) ∧ Bf w w' s (formV v) := by
 cases v using Vl.el with
 | cnt u d => exact Bytes1_p hV (cform_ok ok.1 ok.2) hl
 | set c es =>
  obtain ⟨s, h1, h2⟩ := hV
  exact Bytes2_p h1 (sform_ok ok.1 h2 ok.2.1 ok.2.2) hl
 | flg c g => exact Bytes3_p hV (fform_ok ok.1 ok.2) hl
 | rgs s a t =>
  obtain ⟨n, rfl⟩ := Int.eq_ofNat_of_zero_le ok.1
  obtain ⟨b, rfl⟩ := Int.eq_ofNat_of_zero_le ok.2.1
  exact Bytes4_p hV (gform_ok ok.2.2) hl
theorem readV_okF {k : Nat} (h1 : 1 ≤ k) (h4 : k ≤ 4) {bs : List Nat} (h8 : U8 bs) (hl : bs.length ≤ 64) : OkF (readV k bs) := by
 obtain rfl | rfl | rfl | rfl : k = 1 ∨ k = 2 ∨ k = 3 ∨ k = 4 := by omega
 ·have hb := rowR_bd (h8.drop 1) 6
  exact cu_wd hb.1 hb.2.1
 ·have hb := rowR_bd (h8.drop 1) 2
  have hs := esI_bd (hb.2.2.drop 1) (leV ((rowR (bs.drop 1) 2).2.take 1))
  have hn := leV1 hb.2.2
  have hl1 := rowR_left (bs.drop 1) 2
  rw [List.length_drop] at hl1
  refine ⟨hb.1, by rw [esI_len]; omega, fun x hx => ?_⟩
  have h1 := (hs.1 x hx).1
  rw [List.length_drop] at h1
  omega
 ·have hb := rowR_bd (h8.drop 1) 2
  have hb2 := rowR_bd hb.2.2 2
  exact ⟨hb.1, hb2.1⟩
 ·refine ⟨Int.natCast_nonneg _, Int.natCast_nonneg _, ?_⟩
  rw [strB_size]
  show ((((bs.drop 1).drop 3).drop 1).take 59).length ≤ 1000
  rw [List.length_take]; omega
/-! ### registers -/
theorem cmI_neg (a b : Int) : cmI a b < 0 ↔ a < b := by
 unfold cmI
 by_cases h : a < b
 ·simp [h]
 ·by_cases k : a > b <;> simp [h, k]
theorem cmI_zero (a b : Int) : cmI a b = 0 ↔ a = b := by
 unfold cmI
 by_cases h : a < b
 ·simp [h]; omega
 ·by_cases k : a > b
  ·simp [h, k]; omega
  ·simp [h, k]; omega
theorem cmS_neg (a b : ByteArray) : cmS a b < 0 ↔ bl a b = true := by
 unfold cmS
 rw [bl_less]
 cases bl a b
 ·simp only [Bool.false_eq_true, if_false, iff_false]
  split <;> decide
 ·simp
def Lt3 (x y : Int × Int × ByteArray) : Prop := x.1 < y.1 ∨ (x.1 = y.1 ∧ (x.2.1 < y.2.1 ∨ (x.2.1 = y.2.1 ∧ bl x.2.2 y.2.2 = true)))
theorem later_iff (s a : Int) (t : ByteArray) (s2 a2 : Int) (t2 : ByteArray) : orL [cmI s s2, cmI a a2, cmS t t2] < 0 ↔ Lt3 (s, a, t) (s2, a2, t2) := by
 unfold Lt3
 simp only [orL]
 by_cases h1 : cmI s s2 = 0
 ·have e1 := (cmI_zero s s2).1 h1
  simp only [h1, ne_eq, not_true, if_false]
  by_cases h2 : cmI a a2 = 0
  ·have e2 := (cmI_zero a a2).1 h2
   simp only [h2, ne_eq, not_true, if_false]
   subst e1; subst e2
   by_cases h3 : cmS t t2 = 0
   ·simp only [h3, ne_eq, not_true, if_false]
    have h4 := cmS_neg t t2
    rw [h3] at h4
    simp only [Int.lt_irrefl, false_iff] at h4
    simp [h4]
   ·simp only [h3, ne_eq, not_false_eq_true, if_true]
    rw [cmS_neg]
    simp
  ·simp only [h2, ne_eq, not_false_eq_true, if_true]
   rw [cmI_neg]
   have : a ≠ a2 := fun e => h2 ((cmI_zero a a2).2 e)
   subst e1
   simp [this]
 ·simp only [h1, ne_eq, not_false_eq_true, if_true]
  rw [cmI_neg]
  have : s ≠ s2 := fun e => h1 ((cmI_zero s s2).2 e)
  simp [this]
theorem Lt3.irrefl (x : Int × Int × ByteArray) : ¬ Lt3 x x := by
 rintro (h | ⟨-, h | ⟨-, h⟩⟩)
 ·omega
 ·omega
 ·rw [bl_irrefl] at h; cases h
theorem laterR_yes {x y : Int × Int × ByteArray} (h : Lt3 x y) : laterR x.1 x.2.1 x.2.2 y.1 y.2.1 y.2.2 = .rgs y.1 y.2.1 y.2.2 := by
 unfold laterR
 rw [if_pos ((later_iff _ _ _ _ _ _).2 h)]
theorem laterR_no {x y : Int × Int × ByteArray} (h : ¬ Lt3 x y) : laterR x.1 x.2.1 x.2.2 y.1 y.2.1 y.2.2 = .rgs x.1 x.2.1 x.2.2 := by
 unfold laterR
 rw [if_neg (fun k => h ((later_iff _ _ _ _ _ _).1 k))]
/-! ### any value -/
def mgV (v o : Vl) : Vl := match v, o with
 | Sum.inl (u, d), Sum.inl (p, q) => .cnt (gr u p) (gr d q)
 | Sum.inr (Sum.inl (c, es)), Sum.inr (Sum.inl (d, fs)) => .set (gr c d) (mgE c d es fs)
 | Sum.inr (Sum.inr (Sum.inl (u, d))), Sum.inr (Sum.inr (Sum.inl (p, q))) => .flg (gr u p) (mt d u q p)
 | Sum.inr (Sum.inr (Sum.inr (s, a, t))), Sum.inr (Sum.inr (Sum.inr (s2, a2, t2))) => laterR s a t s2 a2 t2
 | _, _ => v
theorem mgV_yes {x y : Int × Int × ByteArray} (h : Lt3 x y) : mgV (.rgs x.1 x.2.1 x.2.2) (.rgs y.1 y.2.1 y.2.2) = .rgs y.1 y.2.1 y.2.2 := laterR_yes h
theorem mgV_no {x y : Int × Int × ByteArray} (h : ¬ Lt3 x y) : mgV (.rgs x.1 x.2.1 x.2.2) (.rgs y.1 y.2.1 y.2.2) = .rgs x.1 x.2.1 x.2.2 := laterR_no h
def Gd (v : Vl) : Prop := match v with
 | Sum.inl (u, d) => Wd u ∧ Wd d
 | Sum.inr (Sum.inl (c, es)) => Gs c es ∧ Cn c ∧ ∀ x ∈ es, x.e.size ≤ 8
 | Sum.inr (Sum.inr (Sum.inl (c, g))) => Cn c ∧ Wi g c
 | Sum.inr (Sum.inr (Sum.inr (s, a, t))) => (0 ≤ s ∧ s ≤ 16777215) ∧ (0 ≤ a ∧ t.size ≤ 59) ∧ (s = 0 → a = 0 ∧ t = ⟨#[]⟩)
theorem Cn.ge {c : List Int} (h : Cn c) : ∀ i, i < 8 → 0 ≤ c.getD i 0 := fun i _ => (h.2 i).1
theorem Wi.cn {a c : List Int} (h : Wi a c) (k : Cn c) : Cn a := ⟨h.1, fun i => by
 rcases Nat.lt_or_ge i 8 with hi | hi
 ·have h1 := h.2.2 i hi
  have h2 := k.2 i
  omega
 ·rw [List.getD_eq_getElem?_getD, List.getElem?_eq_none (by have := h.1; omega)]
  simp⟩
theorem Cn.gr {a b : List Int} (h : Cn a) (k : Cn b) : Cn (gr a b) := ⟨gr_len h.1 k.1, fun i => by
 rcases Nat.lt_or_ge i 8 with hi | hi
 ·have h1 := h.2 i
  have h2 := k.2 i
  rw [gr_at h.1 k.1 i hi]
  omega
 ·rw [List.getD_eq_getElem?_getD, List.getElem?_eq_none (by have := gr_len h.1 k.1; omega)]
  simp⟩
theorem Wd.gr {a b : List Int} (h : Wd a) (k : Wd b) : Wd (gr a b) := ⟨gr_len h.1 k.1, fun x hx => by
 obtain ⟨i, hi, e⟩ := List.mem_iff_getElem.1 hx
 have hl := gr_len h.1 k.1
 have h1 := h.at i (by omega)
 have h2 := k.at i (by omega)
 have h3 := gr_at h.1 k.1 i (by omega)
 rw [List.getD_eq_getElem?_getD, List.getElem?_eq_getElem hi] at h3
 simp only [Option.getD_some] at h3
 rw [← e, h3]
 omega⟩
theorem mgV_kd (v o : Vl) : (mgV v o).kd = v.kd := by
 cases v using Vl.el with
 | cnt u d => cases o using Vl.el <;> rfl
 | set c es => cases o using Vl.el <;> rfl
 | flg c g => cases o using Vl.el <;> rfl
 | rgs s a t =>
  cases o using Vl.el with
  | cnt u d => rfl
  | set c es => rfl
  | flg c g => rfl
  | rgs s2 a2 t2 =>
   by_cases h : Lt3 (s, a, t) (s2, a2, t2)
   ·rw [show mgV (.rgs s a t) (.rgs s2 a2 t2) = _ from mgV_yes h]; rfl
   ·rw [show mgV (.rgs s a t) (.rgs s2 a2 t2) = _ from mgV_no h]
theorem Vl.two {motive : Vl → Vl → Prop} (cnt : ∀ u d p q, motive (.cnt u d) (.cnt p q)) (set : ∀ c es d fs, motive (.set c es) (.set d fs)) (flg : ∀ c g d f, motive (.flg c g) (.flg d f)) (rgs : ∀ x y : Int × Int × ByteArray, motive (.rgs x.1 x.2.1 x.2.2) (.rgs y.1 y.2.1 y.2.2)) (v o : Vl) (h : v.kd = o.kd) : motive v o := by
 rcases v with ⟨u, d⟩ | ⟨c, es⟩ | ⟨c, g⟩ | x <;> rcases o with ⟨p, q⟩ | ⟨e, fs⟩ | ⟨e, f⟩ | y
 case inl.inl => exact cnt u d p q
 case inr.inl.inr.inl => exact set c es e fs
 case inr.inr.inl.inr.inr.inl => exact flg c g e f
 case inr.inr.inr.inr.inr.inr => exact rgs x y
 all_goals (exact absurd h (by simp [Vl.kd]))
theorem mgV_gd {v o : Vl} (h : Gd v) (k : Gd o) (e : v.kd = o.kd) : Gd (mgV v o) := by
 revert h k
 refine Vl.two (motive := fun v o => Gd v → Gd o → Gd (mgV v o)) ?_ ?_ ?_ ?_ v o e
 ·exact fun u d p q h k => ⟨h.1.gr k.1, h.2.gr k.2⟩
 ·exact fun c es d fs h k => ⟨mgE_gs h.1 k.1, h.2.1.gr k.2.1, mgE_size h.2.2 k.2.2⟩
 ·exact fun c g d f h k => ⟨h.1.gr k.1, mt_wi h.2 k.2⟩
 ·intro x y h k
  by_cases hl : Lt3 x y
  ·rw [mgV_yes hl]; exact k
  ·rw [mgV_no hl]; exact h
theorem kd_new0 (k : Nat) (h1 : 1 ≤ k) (h4 : k ≤ 4) : (new0 k).kd = k := by
 obtain rfl | rfl | rfl | rfl : k = 1 ∨ k = 2 ∨ k = 3 ∨ k = 4 := by omega
 ·rfl
 ·rfl
 ·rfl
 ·rfl
theorem new0_gd (k : Nat) : Gd (new0 k) := by
 unfold new0
 split
 ·exact ⟨Wd.zr, Wd.zr⟩
 split
 ·exact ⟨Gs.new, Cn.zr, by simp⟩
 split
 ·exact ⟨Cn.zr, Wi.zr rfl (Cn.zr.ge)⟩
 ·exact ⟨⟨by omega, by omega⟩, ⟨by omega, by decide⟩, fun _ => ⟨rfl, rfl⟩⟩
theorem Gd.ok {v : Vl} (h : Gd v) (hl : (elsR v).length ≤ 200) : Ok v := by
 cases v using Vl.el with
 | cnt u d => exact h
 | set c es => exact ⟨h.2.1, h.1.so, hl, fun x hx => ⟨h.2.2 x hx, (h.1.wi x hx).cn h.2.1⟩⟩
 | flg c g => exact ⟨h.1, h.2.cn h.1⟩
 | rgs s a t => exact h.1
theorem Gd.okF {v : Vl} (h : Gd v) (hl : (elsR v).length ≤ 200) : OkF v := by
 cases v using Vl.el with
 | cnt u d => exact h
 | set c es => exact ⟨h.1.len, by simp only [elsR] at hl; omega, fun x hx => by have := h.2.2 x hx; omega⟩
 | flg c g => exact ⟨h.1.1, h.2.1⟩
 | rgs s a t => exact ⟨h.1.1, h.2.1.1, by have := h.2.1.2; omega⟩
/-! ### what is read is as it may be -/
theorem sr_gs {c : List Int} {es : List En} (hc : Cn c) (h : srR c es = true) (ht : ∀ x ∈ es, Cn x.t) : Gs c es ∧ ∀ x ∈ es, x.e.size ≤ 8 := by
 have h1 : ∀ i (hi : i < es.length), okX c es[i] = true ∧ (i ≠ 0 → bl (es[i - 1]'(by omega)).e es[i].e = true) := by
  intro i hi
  unfold srR at h
  rw [List.all_eq_true] at h
  have h2 := h i (List.mem_range.2 hi)
  unfold okE okP at h2
  rw [List.getElem?_eq_getElem hi, List.getElem?_eq_getElem (show i - 1 < es.length by omega)] at h2
  simp only [Bool.and_eq_true, Bool.or_eq_true, beq_iff_eq] at h2
  refine ⟨h2.1, fun hne => ?_⟩
  rcases h2.2 with e | e
  ·exact absurd e hne
  ·exact e
 have h3 : ∀ x ∈ es, okX c x = true := by
  intro x hx
  obtain ⟨i, hi, e⟩ := List.mem_iff_getElem.1 hx
  rw [← e]
  exact (h1 i hi).1
 have h4 : So es := by
  refine List.pairwise_iff_getElem.2 fun i j hi hj hij => ?_
  obtain ⟨n, rfl⟩ : ∃ n, j = i + n + 1 := ⟨j - i - 1, by omega⟩
  clear hij
  induction n with
  | zero => exact (h1 (i + 0 + 1) hj).2 (by omega)
  | succ n ih =>
   have h5 := ih (by omega)
   have h6 := (h1 (i + (n + 1) + 1) hj).2 (by omega)
   exact bl_trans h5 h6
 refine ⟨⟨h4, fun x hx => ?_, fun x hx => ?_, hc.1, hc.ge⟩, fun x hx => ?_⟩
 ·have := h3 x hx
  unfold okX at this
  simp only [Bool.and_eq_true, Bool.not_eq_true', beq_eq_false_iff_ne] at this
  exact this.2.1
 ·have := h3 x hx
  unfold okX at this
  simp only [Bool.and_eq_true, beq_iff_eq] at this
  exact Wi.of_gr (ht x hx).1 hc.1 (ht x hx).ge this.2.2
 ·have := h3 x hx
  unfold okX isE at this
  simp only [Bool.and_eq_true, decide_eq_true_eq] at this
  exact this.1.2
theorem esB_ge : ∀ es : List En, es.length * 2 ≤ (esB es).length
 | [] => by simp [esB]
 | x :: r => by
  have := esB_ge r
  simp only [esB, enB, rowB, List.length_append, List.length_cons]
  omega
theorem readV_gd {k : Nat} (h1 : 1 ≤ k) (h4 : k ≤ 4) {bs : List Nat} (h8 : U8 bs) (hl : bs.length ≤ 64) (hr : rdOk k bs = true) : Gd (readV k bs) ∧ (elsR (readV k bs)).length ≤ 32 ∧ (readV k bs).kd = k := by
 have hF := readV_okF h1 h4 h8 hl
 unfold rdOk at hr
 simp only [Bool.and_eq_true, decide_eq_true_eq] at hr
 obtain ⟨hr, hf⟩ := hr
 have e2 : (2 : Int) ^ (8 * 2) = 65536 := by decide
 obtain rfl | rfl | rfl | rfl : k = 1 ∨ k = 2 ∨ k = 3 ∨ k = 4 := by omega
 ·exact ⟨hF, by simp [readV, elsR], rfl⟩
 ·have hb := rowR_bd (h8.drop 1) 2
  rw [e2] at hb
  have hs := esI_bd (hb.2.2.drop 1) (leV ((rowR (bs.drop 1) 2).2.take 1))
  have hc := Cn.of hb.1 hb.2.1
  have hg := sr_gs hc hr (fun x hx => (hs.1 x hx).2)
  refine ⟨⟨hg.1, hc, hg.2⟩, ?_, rfl⟩
  have h5 := congrArg List.length hf
  have h6 := esB_ge (esI (leV ((rowR (bs.drop 1) 2).2.take 1)) ((rowR (bs.drop 1) 2).2.drop 1)).1
  have h7 : (formV (readV 2 bs)).length ≥ (esB (esI (leV ((rowR (bs.drop 1) 2).2.take 1)) ((rowR (bs.drop 1) 2).2.drop 1)).1).length := by
   show (setB _ _).length ≥ _
   simp only [setB, List.length_cons, List.length_append]
   omega
  show ((esI (leV ((rowR (bs.drop 1) 2).2.take 1)) ((rowR (bs.drop 1) 2).2.drop 1)).1).length ≤ 32
  omega
 ·have hb := rowR_bd (h8.drop 1) 2
  have hb2 := rowR_bd hb.2.2 2
  rw [e2] at hb hb2
  have hc := Cn.of hb.1 hb.2.1
  have hc2 := Cn.of hb2.1 hb2.2.1
  refine ⟨⟨hc, Wi.of_gr hc2.1 hc.1 hc2.ge ?_⟩, by simp [readV, elsR], rfl⟩
  have : (gr (rowR (rowR (bs.drop 1) 2).2 2).1 (rowR (bs.drop 1) 2).1 == (rowR (bs.drop 1) 2).1) = true := hr
  exact beq_iff_eq.1 this
 ·have hr' : rtR ((regR bs).1 : Int) ((regR bs).2.1 : Int) (strB (regR bs).2.2) = true := hr
  unfold rtR at hr'
  simp only [Bool.and_eq_true, Bool.or_eq_true, decide_eq_true_eq] at hr'
  refine ⟨⟨⟨Int.natCast_nonneg _, ?_⟩, ⟨Int.natCast_nonneg _, ?_⟩, fun e => ?_⟩, by simp [readV, elsR], rfl⟩
  ·have h9 := leV_lt (l := (bs.drop 1).take 3) (fun x hx => h8 x (List.mem_of_mem_drop (List.mem_of_mem_take hx)))
   have h10 : ((bs.drop 1).take 3).length ≤ 3 := by rw [List.length_take]; omega
   have h11 : 2 ^ (8 * ((bs.drop 1).take 3).length) ≤ 2 ^ 24 := Nat.pow_le_pow_right (by omega) (by omega)
   show ((leV ((bs.drop 1).take 3) : Nat) : Int) ≤ 16777215
   omega
  ·rw [strB_size]
   show ((((bs.drop 1).drop 3).drop 1).take 59).length ≤ 59
   rw [List.length_take]; omega
  ·have e' : ((regR bs).1 : Int) = 0 := e
   rcases hr'.2 with h9 | ⟨⟨-, h9⟩, h10⟩
   ·omega
   ·refine ⟨h9, ?_⟩
    have h11 : (strB (regR bs).2.2).data.toList = [] := by rw [← Lib.toList_data]; exact h10
    exact ba_inj h11
theorem Bytes1_w {w : World} {V : Nat} {cs : Array Value} {bs : List Nat} (hV : Bd w V (.iface 101 (.agg cs))) (hc : Calls Tryz.prog 102 #[.agg cs] w fun r w' => ∃ s, r = .returned (.slice s.p s.n s.c) ∧ Bf w w' s bs) (hl : 64 < bs.length) : Calls Tryz.prog 17 #[.pointer (some ⟨V, 0, none⟩)] w fun r w' => r = .returned (.tuple #[.slice none 0 0, .int .i64 71]) ∧ Apart [] w w' := by
 have z : w.cell? ⟨V, 0, none⟩ = some (.iface 101 (.agg cs)) := zK hV
 have hm := fun wx => mr_form1 cs wx
 have HC := hid hc
 have Hl := hid hl
 clear hV hc hl
 go_enter Tryz.func17, Tryz.ntmps17
 go_upto_region 2 with (go_at_call 102; refine HC.out.mono ?_; rintro _ w1 ⟨s, rfl, b1⟩; have HB := hid b1; clear b1)
 have hn : ((s.n : Nat) : Int) > 64 := by have h1 := HB.out.len; have h2 := Hl.out; omega
 go_wp2_with fail
 go_ret2
 exact ⟨rfl, HB.out.nw.ap⟩
theorem Bytes2_w {w : World} {V : Nat} {cs : Array Value} {bs : List Nat} (hV : Bd w V (.iface 104 (.agg cs))) (hc : Calls Tryz.prog 113 #[.agg cs] w fun r w' => ∃ s, r = .returned (.slice s.p s.n s.c) ∧ Bf w w' s bs) (hl : 64 < bs.length) : Calls Tryz.prog 17 #[.pointer (some ⟨V, 0, none⟩)] w fun r w' => r = .returned (.tuple #[.slice none 0 0, .int .i64 71]) ∧ Apart [] w w' := by
 have z : w.cell? ⟨V, 0, none⟩ = some (.iface 104 (.agg cs)) := zK hV
 have hm := fun wx => mr_form2 cs wx
 have HC := hid hc
 have Hl := hid hl
 clear hV hc hl
 go_enter Tryz.func17, Tryz.ntmps17
 go_upto_region 2 with (go_at_call 113; refine HC.out.mono ?_; rintro _ w1 ⟨s, rfl, b1⟩; have HB := hid b1; clear b1)
 have hn : ((s.n : Nat) : Int) > 64 := by have h1 := HB.out.len; have h2 := Hl.out; omega
 go_wp2_with fail
 go_ret2
 exact ⟨rfl, HB.out.nw.ap⟩
theorem Bytes3_w {w : World} {V : Nat} {cs : Array Value} {bs : List Nat} (hV : Bd w V (.iface 106 (.agg cs))) (hc : Calls Tryz.prog 128 #[.agg cs] w fun r w' => ∃ s, r = .returned (.slice s.p s.n s.c) ∧ Bf w w' s bs) (hl : 64 < bs.length) : Calls Tryz.prog 17 #[.pointer (some ⟨V, 0, none⟩)] w fun r w' => r = .returned (.tuple #[.slice none 0 0, .int .i64 71]) ∧ Apart [] w w' := by
 have z : w.cell? ⟨V, 0, none⟩ = some (.iface 106 (.agg cs)) := zK hV
 have hm := fun wx => mr_form3 cs wx
 have HC := hid hc
 have Hl := hid hl
 clear hV hc hl
 go_enter Tryz.func17, Tryz.ntmps17
 go_upto_region 2 with (go_at_call 128; refine HC.out.mono ?_; rintro _ w1 ⟨s, rfl, b1⟩; have HB := hid b1; clear b1)
 have hn : ((s.n : Nat) : Int) > 64 := by have h1 := HB.out.len; have h2 := Hl.out; omega
 go_wp2_with fail
 go_ret2
 exact ⟨rfl, HB.out.nw.ap⟩
theorem Bytes4_w {w : World} {V : Nat} {cs : Array Value} {bs : List Nat} (hV : Bd w V (.iface 108 (.agg cs))) (hc : Calls Tryz.prog 133 #[.agg cs] w fun r w' => ∃ s, r = .returned (.slice s.p s.n s.c) ∧ Bf w w' s bs) (hl : 64 < bs.length) : Calls Tryz.prog 17 #[.pointer (some ⟨V, 0, none⟩)] w fun r w' => r = .returned (.tuple #[.slice none 0 0, .int .i64 71]) ∧ Apart [] w w' := by
 have z : w.cell? ⟨V, 0, none⟩ = some (.iface 108 (.agg cs)) := zK hV
 have hm := fun wx => mr_form4 cs wx
 have HC := hid hc
 have Hl := hid hl
 clear hV hc hl
 go_enter Tryz.func17, Tryz.ntmps17
 go_upto_region 2 with (go_at_call 133; refine HC.out.mono ?_; rintro _ w1 ⟨s, rfl, b1⟩; have HB := hid b1; clear b1)
 have hn : ((s.n : Nat) : Int) > 64 := by have h1 := HB.out.len; have h2 := Hl.out; omega
 go_wp2_with fail
 go_ret2
 exact ⟨rfl, HB.out.nw.ap⟩
theorem Bytes_wide {w : World} {V : Nat} {v : Vl} (hV : Ho w V v) (ok : OkF v) (hl : 64 < (formV v).length) : Calls Tryz.prog 17 #[.pointer (some ⟨V, 0, none⟩)] w fun r w' => r = .returned (.tuple #[.slice none 0 0, .int .i64 71]) ∧ Apart [] w w' := by
 cases v using Vl.el with
 | cnt u d => exact Bytes1_w hV (cform_ok ok.1 ok.2) hl
 | set c es =>
  obtain ⟨s, h1, h2⟩ := hV
  exact Bytes2_w h1 (sform_ok ok.1 h2 ok.2.1 ok.2.2) hl
 | flg c g => exact Bytes3_w hV (fform_ok ok.1 ok.2) hl
 | rgs s a t =>
  obtain ⟨n, rfl⟩ := Int.eq_ofNat_of_zero_le ok.1
  obtain ⟨b, rfl⟩ := Int.eq_ofNat_of_zero_le ok.2.1
  exact Bytes4_w hV (gform_ok ok.2.2) hl
def bzV (v : Vl) : List Nat := if (formV v).length ≤ 64 then formV v else []
def wzV (v : Vl) : Int := if (formV v).length ≤ 64 then 0 else 71
structure Bq (w : World) (s : Sl) (bs : List Nat) : Prop where
 rd : Rd w s.p (byts bs)
 len : bs.length = s.n
 ok : s.ok
theorem Bq.kept0 {w w' : World} {s : Sl} {bs : List Nat} (h : Bq w s bs) (a : Apart [] w w') : Bq w' s bs := ⟨h.rd.kept0 a, h.len, h.ok⟩
end Go.Proofs.YtdbeeikjngnnnaaGreat.ty
