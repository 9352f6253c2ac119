import Derived.Test.YtdbeeikjngnnnaaGreatC12
namespace Go.Proofs.YtdbeeikjngnnnaaGreat.ty
open Go.ChangeShapes Go.WideShapes Go.ChangeAt Go.RowKit
set_option linter.unusedVariables false
set_option linter.unusedSimpArgs false
set_option maxRecDepth 100000
set_option maxHeartbeats 8000000
theorem Put2_p {w : World} {V : Nat} {cs : Array Value} (a b : Value) {Q : Array Value → World → Prop} (hV : Bd w V (.iface 104 (.agg cs))) (hc : Calls Tryz.prog 114 #[.agg cs, a, b] w fun r w' => ∃ d, r = .returned (.tuple #[.iface 104 (.agg d), .int .i64 0]) ∧ Apart [] w w' ∧ Q d w') : Calls Tryz.prog 36 #[.pointer (some ⟨V, 0, none⟩), a, b] w fun r w' => r = .returned (.int .i64 0) ∧ ∃ d w1, Bd w' V (.iface 104 (.agg d)) ∧ Apart [] w w1 ∧ Apart [V] w1 w' ∧ Bd w1 V (.iface 104 (.agg cs)) ∧ Q d w1 := by
 have z : w.cell? ⟨V, 0, none⟩ = some (.iface 104 (.agg cs)) := zK hV
 have HV := hid hV
 clear hV
 have hm := fun wx => me_put2 cs wx
 have HC := hid hc
 clear hc
 go_enter Tryz.func36, Tryz.ntmps36
 go_wp2_with (go_at_call 114; refine HC.out.mono ?_; rintro _ w1 ⟨d, rfl, a1, q1⟩; have HA1 := hid a1; have HQ1 := hid q1; clear a1 q1)
 go_wp2_with (go_at_call 34; refine (become_ok (b0 := .iface 104 (.agg cs)) (keep0 HA1.out HV.out) 104 (.agg d)).mono ?_; rintro _ w2 ⟨rfl, b2, a2⟩; have HA2 := hid (And.intro b2 a2); clear b2 a2)
 go_wp2_with fail
 go_ret
 exact ⟨rfl, d, w1, HA2.out.1, HA1.out, HA2.out.2, keep0 HA1.out HV.out, HQ1.out⟩
theorem Take2_p {w : World} {V : Nat} {cs : Array Value} (a : Value) {Q : Array Value → World → Prop} (hV : Bd w V (.iface 104 (.agg cs))) (hc : Calls Tryz.prog 117 #[.agg cs, a] w fun r w' => ∃ d, r = .returned (.tuple #[.iface 104 (.agg d), .int .i64 0]) ∧ Apart [] w w' ∧ Q d w') : Calls Tryz.prog 37 #[.pointer (some ⟨V, 0, none⟩), a] w fun r w' => r = .returned (.int .i64 0) ∧ ∃ d w1, Bd w' V (.iface 104 (.agg d)) ∧ Apart [] w w1 ∧ Apart [V] w1 w' ∧ Bd w1 V (.iface 104 (.agg cs)) ∧ Q d w1 := by
 have z : w.cell? ⟨V, 0, none⟩ = some (.iface 104 (.agg cs)) := zK hV
 have HV := hid hV
 clear hV
 have hm := fun wx => me_take2 cs wx
 have HC := hid hc
 clear hc
 go_enter Tryz.func37, Tryz.ntmps37
 go_wp2_with (go_at_call 117; refine HC.out.mono ?_; rintro _ w1 ⟨d, rfl, a1, q1⟩; have HA1 := hid a1; have HQ1 := hid q1; clear a1 q1)
 go_wp2_with (go_at_call 34; refine (become_ok (b0 := .iface 104 (.agg cs)) (keep0 HA1.out HV.out) 104 (.agg d)).mono ?_; rintro _ w2 ⟨rfl, b2, a2⟩; have HA2 := hid (And.intro b2 a2); clear b2 a2)
 go_wp2_with fail
 go_ret
 exact ⟨rfl, d, w1, HA2.out.1, HA1.out, HA2.out.2, keep0 HA1.out HV.out, HQ1.out⟩
theorem Elements2_p {w : World} {V : Nat} {cs : Array Value} {Q : Value → World → Prop} (hV : Bd w V (.iface 104 (.agg cs))) (hc : Calls Tryz.prog 112 #[.agg cs] w fun r w' => ∃ x, r = .returned x ∧ Q x w') : Calls Tryz.prog 31 #[.pointer (some ⟨V, 0, none⟩)] w fun r w' => ∃ x, r = .returned x ∧ Q x w' := by
 have z : w.cell? ⟨V, 0, none⟩ = some (.iface 104 (.agg cs)) := zK hV
 have hm := fun wx => me_elements2 cs wx
 have HC := hid hc
 clear hc hV
 go_enter Tryz.func31, Tryz.ntmps31
 go_wp2_with (go_at_call 112; refine HC.out.mono ?_; rintro _ w1 ⟨x, rfl, q1⟩; have HQ := hid q1; clear q1)
 go_wp2_with fail
 go_ret
 exact ⟨_, rfl, HQ.out⟩
theorem Text4_p {w : World} {V : Nat} {cs : Array Value} {Q : Value → World → Prop} (hV : Bd w V (.iface 108 (.agg cs))) (hc : Calls Tryz.prog 136 #[.agg cs] w fun r w' => ∃ x, r = .returned x ∧ Q x w') : Calls Tryz.prog 27 #[.pointer (some ⟨V, 0, none⟩)] w fun r w' => ∃ x, r = .returned x ∧ Q x w' := by
 have z : w.cell? ⟨V, 0, none⟩ = some (.iface 108 (.agg cs)) := zK hV
 have hm := fun wx => me_text4 cs wx
 have HC := hid hc
 clear hc hV
 go_enter Tryz.func27, Tryz.ntmps27
 go_wp2_with (go_at_call 136; refine HC.out.mono ?_; rintro _ w1 ⟨x, rfl, q1⟩; have HQ := hid q1; clear q1)
 go_wp2_with fail
 go_ret
 exact ⟨_, rfl, HQ.out⟩
def Vl : Type := (List Int × List Int) ⊕ (List Int × List En) ⊕ (List Int × List Int) ⊕ (Int × Int × ByteArray)
abbrev Vl.cnt (u d : List Int) : Vl := Sum.inl (u, d)
abbrev Vl.set (c : List Int) (es : List En) : Vl := Sum.inr (Sum.inl (c, es))
abbrev Vl.flg (c g : List Int) : Vl := Sum.inr (Sum.inr (Sum.inl (c, g)))
abbrev Vl.rgs (s a : Int) (t : ByteArray) : Vl := Sum.inr (Sum.inr (Sum.inr (s, a, t)))
theorem Vl.el {motive : Vl → Prop} (cnt : ∀ u d, motive (Vl.cnt u d)) (set : ∀ c es, motive (Vl.set c es)) (flg : ∀ c g, motive (Vl.flg c g)) (rgs : ∀ s a t, motive (Vl.rgs s a t)) (v : Vl) : motive v := by
 rcases v with ⟨u, d⟩ | ⟨c, es⟩ | ⟨c, g⟩ | ⟨s, a, t⟩
 ·exact cnt u d
 ·exact set c es
 ·exact flg c g
 ·exact rgs s a t
def Ho (w : World) (V : Nat) : Vl → Prop
 | Sum.inl (u, d) => Bd w V (.iface 101 (.agg (rv (u ++ d)).toArray))
 | Sum.inr (Sum.inl (c, es)) => ∃ s, Bd w V (.iface 104 (.agg (sv c s))) ∧ Es w s es
 | Sum.inr (Sum.inr (Sum.inl (c, g))) => Bd w V (.iface 106 (.agg (rv (c ++ g)).toArray))
 | Sum.inr (Sum.inr (Sum.inr (s, a, t))) => Bd w V (.iface 108 (.agg (ty.rg s a t)))
def Cn (r : List Int) : Prop := r.length = 8 ∧ ∀ i, 0 ≤ r.getD i 0 ∧ r.getD i 0 ≤ 65535
def Ok : Vl → Prop
 | Sum.inl (u, d) => Wd u ∧ Wd d
 | Sum.inr (Sum.inl (c, es)) => Cn c ∧ So es ∧ es.length ≤ 200 ∧ (∀ x ∈ es, x.e.size ≤ 8 ∧ Cn x.t)
 | Sum.inr (Sum.inr (Sum.inl (c, g))) => Cn c ∧ Cn g
 | Sum.inr (Sum.inr (Sum.inr (s, a, t))) => 0 ≤ s ∧ s ≤ 16777215
def Vl.kd : Vl → Nat
 | Sum.inl _ => 1
 | Sum.inr (Sum.inl _) => 2
 | Sum.inr (Sum.inr (Sum.inl _)) => 3
 | Sum.inr (Sum.inr (Sum.inr _)) => 4
theorem no106 {w : World} {V : Nat} {b : Value} (h : Bd w V b) : ∀ k ∈ [V], ∀ cur m, w.heap[k]? ≠ some (.cells cur 141 m) := by
 intro k hk cur m e
 simp at hk
 subst hk
 rw [show w.heap[k]? = _ from h] at e
 simp only [Option.some.injEq, Obj.cells.injEq] at e
 exact absurd e.2.1 (by decide)
theorem Ho.kept0 {w w' : World} {V : Nat} {v : Vl} (h : Ho w V v) (a : Apart [] w w') : Ho w' V v := by
 cases v using Vl.el with
 | cnt u d => exact keep0 a h
 | set c es => obtain ⟨s, h1, h2⟩ := h; exact ⟨s, keep0 a h1, h2.kept0 a⟩
 | flg c g => exact keep0 a h
 | rgs s x t => exact keep0 a h
theorem Ho.bd {w : World} {V : Nat} {v : Vl} (h : Ho w V v) : ∃ b, Bd w V b := by
 cases v using Vl.el with
 | cnt u d => exact ⟨_, h⟩
 | set c es => obtain ⟨s, h1, h2⟩ := h; exact ⟨_, h1⟩
 | flg c g => exact ⟨_, h⟩
 | rgs s x t => exact ⟨_, h⟩
def new0 (k : Nat) : Vl := if k = 1 then .cnt zr zr else if k = 2 then .set zr [] else if k = 3 then .flg zr zr else .rgs 0 0 ⟨#[]⟩
theorem Ho.new (w : World) (k : Nat) (h1 : 1 ≤ k) (h4 : k ≤ 4) : Ho (w.alloc (.cells #[zb k] 71)) w.heap.size (new0 k) := by
 obtain rfl | rfl | rfl | rfl : k = 1 ∨ k = 2 ∨ k = 3 ∨ k = 4 := by omega
 ·exact heap_alloc_new w _
 ·exact ⟨⟨none, 0, 0⟩, heap_alloc_new w _, Es.nil _⟩
 ·exact heap_alloc_new w _
 ·exact heap_alloc_new w _
theorem Cn.zr : Cn zr := ⟨rfl, fun i => by
 have e : ty.zr = List.replicate 8 0 := rfl
 rw [e, List.getD_eq_getElem?_getD, List.getElem?_replicate]
 split <;> simp⟩
def addR (v : Vl) (a b : Int) : Int × Vl := match v with
 | Sum.inl (u, d) => if isA a = false then (191, v) else if b > 16777215 ∨ b < -16777215 then (92, v) else if u.getD a.toNat 0 + max b 0 > 16777215 ∨ d.getD a.toNat 0 - min b 0 > 16777215 then (92, v) else (0, .cnt (u.set a.toNat (u.getD a.toNat 0 + max b 0)) (d.set a.toNat (d.getD a.toNat 0 - min b 0)))
 | _ => (190, v)
theorem isA_i {a : Int} (h : isA a = true) : ∃ i : Nat, a = (i : Int) ∧ i < 8 ∧ a.toNat = i := by
 simp [isA] at h
 exact ⟨a.toNat, by omega, by omega, rfl⟩
theorem Add_v {w : World} {V : Nat} {v : Vl} (hV : Ho w V v) (ok : Ok v) (a b : Int) : Calls Tryz.prog 15 #[.pointer (some ⟨V, 0, none⟩), .int .i64 a, .int .i64 b] w fun r w' => r = .returned (.int .i64 (addR v a b).1) ∧ Ho w' V (addR v a b).2 ∧ Apart [V] w w' := by
 cases v using Vl.el with
 | cnt u d =>
  cases ha : isA a
  ·have e : addR (.cnt u d) a b = (191, .cnt u d) := by simp [addR, ha]
   rw [e]
   refine (Add1_no (.int .i64 a) (.int .i64 b) (by decide) hV (add_actor a b ha)).mono ?_
   rintro _ w' ⟨rfl, a'⟩
   exact ⟨rfl, hV.kept0 a', a'.mono (by simp)⟩
  ·obtain ⟨i, rfl, hi, hx⟩ := isA_i ha
   by_cases h1 : b > 16777215 ∨ b < -16777215
   ·have e : addR (.cnt u d) i b = (92, .cnt u d) := by simp [addR, ha, h1]
    rw [e]
    refine (Add1_no (.int .i64 (i : Int)) (.int .i64 b) (by decide) hV (add_wide (i : Int) b ha h1)).mono ?_
    rintro _ w' ⟨rfl, a'⟩
    exact ⟨rfl, hV.kept0 a', a'.mono (by simp)⟩
   ·have hc := add_ok (w := w) ok.1 ok.2 i hi b (by omega) (by omega)
    by_cases h2 : u.getD i 0 + max b 0 > 16777215 ∨ d.getD i 0 - min b 0 > 16777215
    ·have e : addR (.cnt u d) i b = (92, .cnt u d) := by simp only [addR, hx, ha, if_neg h1, if_pos h2]; simp
     have e2 : addV u d i b = .tuple #[.nilIface, .int .i64 92] := by rw [addV, if_pos h2]
     rw [e]
     rw [e2] at hc
     refine (Add1_no (.int .i64 (i : Int)) (.int .i64 b) (by decide) hV hc).mono ?_
     rintro _ w' ⟨rfl, a'⟩
     exact ⟨rfl, hV.kept0 a', a'.mono (by simp)⟩
    ·have e : addR (.cnt u d) i b = (0, .cnt (u.set i (u.getD i 0 + max b 0)) (d.set i (d.getD i 0 - min b 0))) := by simp only [addR, hx, ha, if_neg h1, if_neg h2]; simp
     have e2 : addV u d i b = .tuple #[.iface 101 (.agg (rv (u.set i (u.getD i 0 + max b 0) ++ d.set i (d.getD i 0 - min b 0))).toArray), .int .i64 0] := by rw [addV, if_neg h2]
     rw [e]
     rw [e2] at hc
     refine (Add1_ok (.int .i64 (i : Int)) (.int .i64 b) hV hc).mono ?_
     rintro _ w' ⟨rfl, h', a'⟩
     exact ⟨rfl, h', a'⟩
 | set c es =>
  have hV' := hV
  obtain ⟨s, h1, h2⟩ := hV
  refine (Add2_no _ _ (e := 190) (by decide) h1 (sv_size ok.1.1 s) (o_add _ _ _)).mono ?_
  rintro _ w' ⟨rfl, a'⟩
  exact ⟨rfl, hV'.kept0 a', a'.mono (by simp)⟩
 | flg c g =>
  refine (Add3_no _ _ (e := 190) (by decide) hV (by simp [rv_len, ok.1.1, ok.2.1]) (o_add _ _ _)).mono ?_
  rintro _ w' ⟨rfl, a'⟩
  exact ⟨rfl, hV.kept0 a', a'.mono (by simp)⟩
 | rgs s x t =>
  refine (Add4_no _ _ (e := 190) (by decide) hV rfl (o_add _ _ _)).mono ?_
  rintro _ w' ⟨rfl, a'⟩
  exact ⟨rfl, hV.kept0 a', a'.mono (by simp)⟩
def putR (v : Vl) (a : Int) (bs : List Nat) : Int × Vl := match v with
 | Sum.inr (Sum.inl (c, es)) => if isA a = false then (191, v) else if isE bs.length = false then (1, v) else if c.getD a.toNat 0 = 65535 then (92, v) else if 64 < (setB (putC c a.toNat) (putE c es a.toNat (strB bs))).length then (71, v) else (0, .set (putC c a.toNat) (putE c es a.toNat (strB bs)))
 | _ => (190, v)
theorem Put_v {w : World} {V : Nat} {v : Vl} (hV : Ho w V v) (ok : Ok v) (a : Int) {sl : Sl} {bs : List Nat} (hb : Rd w sl.p (byts bs)) (hl : bs.length = sl.n) (okb : sl.ok) : Calls Tryz.prog 36 #[.pointer (some ⟨V, 0, none⟩), .int .i64 a, .slice sl.p sl.n sl.c] w fun r w' => r = .returned (.int .i64 (putR v a bs).1) ∧ Ho w' V (putR v a bs).2 ∧ Apart [V] w w' := by
 cases v using Vl.el with
 | set c es =>
  have hV' := hV
  obtain ⟨s, h1, h2⟩ := hV
  obtain ⟨okc, oks, okn, oke⟩ := ok
  have oke' : ∀ x ∈ es, x.e.size ≤ 1000 := fun x hx => Nat.le_trans (oke x hx).1 (by decide)
  cases ha : isA a
  ·have e : putR (.set c es) a bs = (191, .set c es) := by simp [putR, ha]
   rw [e]
   refine (Put2_no _ _ (e := 191) (by decide) h1 (put_actor a _ ha)).mono ?_
   rintro _ w' ⟨rfl, a'⟩
   exact ⟨rfl, Ho.kept0 hV' a', a'.mono (by simp)⟩
  ·obtain ⟨i, rfl, hi, hx⟩ := isA_i ha
   cases hE : isE bs.length
   ·have e : putR (.set c es) i bs = (1, .set c es) := by simp [putR, ha, hE]
    rw [e]
    refine (Put2_no _ _ (e := 1) (by decide) h1 (put_arg i hi sl (by rw [← hl]; exact hE))).mono ?_
    rintro _ w' ⟨rfl, a'⟩
    exact ⟨rfl, Ho.kept0 hV' a', a'.mono (by simp)⟩
   ·by_cases hf : c.getD i 0 = 65535
    ·have e : putR (.set c es) i bs = (92, .set c es) := by simp only [putR, hx, ha, hE, if_pos hf]; simp
     rw [e]
     refine (Put2_no _ _ (e := 92) (by decide) h1 (put_full okc.1 h2 oks okn oke' hb hl okb i hi (by rw [← hl]; exact hE) hf)).mono ?_
     rintro _ w' ⟨rfl, a'⟩
     exact ⟨rfl, Ho.kept0 hV' a', a'.mono (by simp)⟩
    ·have hr := okc.2 i
     by_cases hw : 64 < (setB (putC c i) (putE c es i (strB bs))).length
     ·have e : putR (.set c es) i bs = (71, .set c es) := by simp only [putR, hx, ha, hE, if_neg hf, if_pos hw]; simp
      rw [e]
      refine (Put2_no _ _ (e := 71) (by decide) h1 (put_wide okc.1 h2 oks okn oke' hb hl okb i hi (by rw [← hl]; exact hE) hr.1 (by omega) hw)).mono ?_
      rintro _ w' ⟨rfl, a'⟩
      exact ⟨rfl, Ho.kept0 hV' a', a'.mono (by simp)⟩
     ·have e : putR (.set c es) i bs = (0, .set (putC c i) (putE c es i (strB bs))) := by simp only [putR, hx, ha, hE, if_neg hf, if_neg hw]; simp
      rw [e]
      refine (Put2_p (Q := fun d w1 => ∃ s', d = sv (putC c i) s' ∧ Es w1 s' (putE c es i (strB bs))) _ _ h1 ((put_ok okc.1 h2 oks okn oke' hb hl okb i hi (by rw [← hl]; exact hE) hr.1 (by omega) (by omega)).mono ?_)).mono ?_
      ·rintro _ w' ⟨s', rfl, a', e'⟩
       exact ⟨_, rfl, a', s', rfl, e'⟩
      ·rintro _ w' ⟨rfl, d, w1, hb1, a1, a2, hb2, s', rfl, e'⟩
       exact ⟨rfl, ⟨s', hb1, e'.kept a2 (no106 hb2)⟩, (a1.mono (by simp)).trans a2⟩
 | cnt u d =>
  refine (Put1_no _ _ (e := 190) (by decide) hV (by simp [rv_len, ok.1.1, ok.2.1]) (o_put _ _ _)).mono ?_
  rintro _ w' ⟨rfl, a'⟩
  exact ⟨rfl, Ho.kept0 hV a', a'.mono (by simp)⟩
 | flg c g =>
  refine (Put3_no _ _ (e := 190) (by decide) hV (by simp [rv_len, ok.1.1, ok.2.1]) (o_put _ _ _)).mono ?_
  rintro _ w' ⟨rfl, a'⟩
  exact ⟨rfl, Ho.kept0 hV a', a'.mono (by simp)⟩
 | rgs s x t =>
  refine (Put4_no _ _ (e := 190) (by decide) hV rfl (o_put _ _ _)).mono ?_
  rintro _ w' ⟨rfl, a'⟩
  exact ⟨rfl, Ho.kept0 hV a', a'.mono (by simp)⟩
def takeR (v : Vl) (bs : List Nat) : Int × Vl := match v with
 | Sum.inr (Sum.inl (c, es)) => (0, .set c (lo es (strB bs) ++ hi es (strB bs)))
 | _ => (190, v)
theorem Take_v {w : World} {V : Nat} {v : Vl} (hV : Ho w V v) (ok : Ok v) {sl : Sl} {bs : List Nat} (hb : Rd w sl.p (byts bs)) (hl : bs.length = sl.n) (okb : sl.ok) : Calls Tryz.prog 37 #[.pointer (some ⟨V, 0, none⟩), .slice sl.p sl.n sl.c] w fun r w' => r = .returned (.int .i64 (takeR v bs).1) ∧ Ho w' V (takeR v bs).2 ∧ Apart [V] w w' := by
 cases v using Vl.el with
 | set c es =>
  obtain ⟨s, h1, h2⟩ := hV
  obtain ⟨okc, oks, okn, oke⟩ := ok
  refine (Take2_p (Q := fun d w1 => ∃ s', d = sv c s' ∧ Es w1 s' (lo es (strB bs) ++ hi es (strB bs))) _ h1 ((take_ok okc.1 h2 oks (by omega) hb hl okb).mono ?_)).mono ?_
  ·rintro _ w' ⟨s', rfl, a', e'⟩
   exact ⟨_, rfl, a', s', rfl, e'⟩
  ·rintro _ w' ⟨rfl, d, w1, hb1, a1, a2, hb2, s', rfl, e'⟩
   exact ⟨rfl, ⟨s', hb1, e'.kept a2 (no106 hb2)⟩, (a1.mono (by simp)).trans a2⟩
 | cnt u d =>
  refine (Take1_no _ (e := 190) (by decide) hV (by simp [rv_len, ok.1.1, ok.2.1]) (o_take _ _)).mono ?_
  rintro _ w' ⟨rfl, a'⟩
  exact ⟨rfl, Ho.kept0 hV a', a'.mono (by simp)⟩
 | flg c g =>
  refine (Take3_no _ (e := 190) (by decide) hV (by simp [rv_len, ok.1.1, ok.2.1]) (o_take _ _)).mono ?_
  rintro _ w' ⟨rfl, a'⟩
  exact ⟨rfl, Ho.kept0 hV a', a'.mono (by simp)⟩
 | rgs s x t =>
  refine (Take4_no _ (e := 190) (by decide) hV rfl (o_take _ _)).mono ?_
  rintro _ w' ⟨rfl, a'⟩
  exact ⟨rfl, Ho.kept0 hV a', a'.mono (by simp)⟩
def switchR (v : Vl) (a : Int) (on : Bool) : Int × Vl := match v with
 | Sum.inr (Sum.inr (Sum.inl (c, g))) => if isA a = false then (191, v) else if on = false then (0, .flg c zr) else if c.getD a.toNat 0 = 65535 then (92, v) else (0, .flg (c.set a.toNat (c.getD a.toNat 0 + 1)) (zr.set a.toNat (c.getD a.toNat 0 + 1)))
 | _ => (190, v)
theorem Switch_v {w : World} {V : Nat} {v : Vl} (hV : Ho w V v) (ok : Ok v) (a : Int) (on : Bool) : Calls Tryz.prog 38 #[.pointer (some ⟨V, 0, none⟩), .int .i64 a, .bool on] w fun r w' => r = .returned (.int .i64 (switchR v a on).1) ∧ Ho w' V (switchR v a on).2 ∧ Apart [V] w w' := by
 cases v using Vl.el with
 | flg c g =>
  cases ha : isA a
  ·have e : switchR (.flg c g) a on = (191, .flg c g) := by simp [switchR, ha]
   rw [e]
   refine (Switch3_no _ _ (e := 191) (by decide) hV (turn_actor a on ha)).mono ?_
   rintro _ w' ⟨rfl, a'⟩
   exact ⟨rfl, Ho.kept0 hV a', a'.mono (by simp)⟩
  ·obtain ⟨i, rfl, hi, hx⟩ := isA_i ha
   cases on
   ·have e : switchR (.flg c g) i false = (0, .flg c zr) := by simp [switchR, ha]
    rw [e]
    refine (Switch3_ok _ _ hV (turn_off ok.1.1 i hi)).mono ?_
    rintro _ w' ⟨rfl, h', a'⟩
    exact ⟨rfl, h', a'⟩
   ·by_cases hf : c.getD i 0 = 65535
    ·have e : switchR (.flg c g) i true = (92, .flg c g) := by simp only [switchR, hx, ha, if_pos hf]; simp
     rw [e]
     refine (Switch3_no _ _ (e := 92) (by decide) hV (turn_full ok.1.1 i hi hf)).mono ?_
     rintro _ w' ⟨rfl, a'⟩
     exact ⟨rfl, Ho.kept0 hV a', a'.mono (by simp)⟩
    ·have e : switchR (.flg c g) i true = (0, .flg (c.set i (c.getD i 0 + 1)) (zr.set i (c.getD i 0 + 1))) := by simp only [switchR, hx, ha, if_neg hf]; simp
     have hr := ok.1.2 i
     rw [e]
     refine (Switch3_ok _ _ hV (turn_on ok.1.1 ok.2.1 i hi hr.1 (by omega))).mono ?_
     rintro _ w' ⟨rfl, h', a'⟩
     exact ⟨rfl, h', a'⟩
 | cnt u d =>
  refine (Switch1_no _ _ (e := 190) (by decide) hV (by simp [rv_len, ok.1.1, ok.2.1]) (o_turn _ _ _)).mono ?_
  rintro _ w' ⟨rfl, a'⟩
  exact ⟨rfl, Ho.kept0 hV a', a'.mono (by simp)⟩
 | set c es =>
  have hV' := hV
  obtain ⟨s, h1, h2⟩ := hV
  refine (Switch2_no _ _ (e := 190) (by decide) h1 (sv_size ok.1.1 s) (o_turn _ _ _)).mono ?_
  rintro _ w' ⟨rfl, a'⟩
  exact ⟨rfl, Ho.kept0 hV' a', a'.mono (by simp)⟩
 | rgs s x t =>
  refine (Switch4_no _ _ (e := 190) (by decide) hV rfl (o_turn _ _ _)).mono ?_
  rintro _ w' ⟨rfl, a'⟩
  exact ⟨rfl, Ho.kept0 hV a', a'.mono (by simp)⟩
def writeR (v : Vl) (a : Int) (bs : List Nat) : Int × Vl := match v with
 | Sum.inr (Sum.inr (Sum.inr (s, x, t))) => if isA a = false then (191, v) else if bs.length > 59 then (2, v) else if s = 16777215 then (92, v) else (0, .rgs (s + 1) a (strB bs))
 | _ => (190, v)
theorem Write_v {w : World} {V : Nat} {v : Vl} (hV : Ho w V v) (ok : Ok v) (a : Int) {sl : Sl} {bs : List Nat} (hb : Rd w sl.p (byts bs)) (hl : bs.length = sl.n) (okb : sl.ok) : Calls Tryz.prog 39 #[.pointer (some ⟨V, 0, none⟩), .int .i64 a, .slice sl.p sl.n sl.c] w fun r w' => r = .returned (.int .i64 (writeR v a bs).1) ∧ Ho w' V (writeR v a bs).2 ∧ Apart [V] w w' := by
 cases v using Vl.el with
 | rgs s x t =>
  cases ha : isA a
  ·have e : writeR (.rgs s x t) a bs = (191, .rgs s x t) := by simp [writeR, ha]
   rw [e]
   refine (Write4_no _ _ (e := 191) (by decide) hV (write_actor a _ ha)).mono ?_
   rintro _ w' ⟨rfl, a'⟩
   exact ⟨rfl, Ho.kept0 hV a', a'.mono (by simp)⟩
  ·obtain ⟨i, rfl, hi, hx⟩ := isA_i ha
   by_cases hL : bs.length > 59
   ·have e : writeR (.rgs s x t) i bs = (2, .rgs s x t) := by simp [writeR, ha, hL]
    rw [e]
    refine (Write4_no _ _ (e := 2) (by decide) hV (write_long i hi _ _ _ (by omega))).mono ?_
    rintro _ w' ⟨rfl, a'⟩
    exact ⟨rfl, Ho.kept0 hV a', a'.mono (by simp)⟩
   ·by_cases hf : s = 16777215
    ·have e : writeR (.rgs s x t) i bs = (92, .rgs s x t) := by simp [writeR, ha, hL, hf]
     rw [e]
     subst hf
     refine (Write4_no _ _ (e := 92) (by decide) hV (write_full i hi _ _ _ (by omega))).mono ?_
     rintro _ w' ⟨rfl, a'⟩
     exact ⟨rfl, Ho.kept0 hV a', a'.mono (by simp)⟩
    ·have e : writeR (.rgs s x t) i bs = (0, .rgs (s + 1) i (strB bs)) := by simp [writeR, ha, hL, hf]
     have h1 := ok.1
     have h2 := ok.2
     rw [e]
     refine (Write4_ok _ _ hV (write_ok ok.1 (by omega) i hi hb hl okb (by omega))).mono ?_
     rintro _ w' ⟨rfl, h', a'⟩
     exact ⟨rfl, h', a'⟩
 | cnt u d =>
  refine (Write1_no _ _ (e := 190) (by decide) hV (by simp [rv_len, ok.1.1, ok.2.1]) (o_write _ _ _)).mono ?_
  rintro _ w' ⟨rfl, a'⟩
  exact ⟨rfl, Ho.kept0 hV a', a'.mono (by simp)⟩
 | set c es =>
  have hV' := hV
  obtain ⟨s, h1, h2⟩ := hV
  refine (Write2_no _ _ (e := 190) (by decide) h1 (sv_size ok.1.1 s) (o_write _ _ _)).mono ?_
  rintro _ w' ⟨rfl, a'⟩
  exact ⟨rfl, Ho.kept0 hV' a', a'.mono (by simp)⟩
 | flg c g =>
  refine (Write3_no _ _ (e := 190) (by decide) hV (by simp [rv_len, ok.1.1, ok.2.1]) (o_write _ _ _)).mono ?_
  rintro _ w' ⟨rfl, a'⟩
  exact ⟨rfl, Ho.kept0 hV a', a'.mono (by simp)⟩
def sumR (v : Vl) : Int := match v with
 | Sum.inl (u, d) => sumC u d 8
 | _ => 0
theorem Sum_v {w : World} {V : Nat} {v : Vl} (hV : Ho w V v) (ok : Ok v) : Calls Tryz.prog 16 #[.pointer (some ⟨V, 0, none⟩)] w fun r w' => r = .returned (.int .i64 (sumR v)) ∧ Apart [] w w' := by
 cases v using Vl.el with
 | cnt u d => exact Sum1 hV (sum_ok ok.1 ok.2)
 | set c es =>
  obtain ⟨s, h1, h2⟩ := hV
  refine (Sum2 h1 (sv_size ok.1.1 s) (o_sum _)).mono ?_
  rintro _ w' ⟨rfl, a'⟩
  exact ⟨rfl, a'⟩
 | flg c g =>
  refine (Sum3 hV (by simp [rv_len, ok.1.1, ok.2.1]) (o_sum _)).mono ?_
  rintro _ w' ⟨rfl, a'⟩
  exact ⟨rfl, a'⟩
 | rgs s x t =>
  refine (Sum4 hV rfl (o_sum _)).mono ?_
  rintro _ w' ⟨rfl, a'⟩
  exact ⟨rfl, a'⟩
def onR (v : Vl) : Bool := match v with
 | Sum.inr (Sum.inr (Sum.inl (c, g))) => g != zr
 | _ => false
theorem On_v {w : World} {V : Nat} {v : Vl} (hV : Ho w V v) (ok : Ok v) : Calls Tryz.prog 29 #[.pointer (some ⟨V, 0, none⟩)] w fun r w' => r = .returned (.bool (onR v)) ∧ Apart [] w w' := by
 cases v using Vl.el with
 | flg c g => exact On3 hV (on_ok ok.1.1 ok.2.1)
 | cnt u d =>
  refine (On1 hV (by simp [rv_len, ok.1.1, ok.2.1]) (o_on _)).mono ?_
  rintro _ w' ⟨rfl, a'⟩
  exact ⟨rfl, a'⟩
 | set c es =>
  obtain ⟨s, h1, h2⟩ := hV
  refine (On2 h1 (sv_size ok.1.1 s) (o_on _)).mono ?_
  rintro _ w' ⟨rfl, a'⟩
  exact ⟨rfl, a'⟩
 | rgs s x t =>
  refine (On4 hV rfl (o_on _)).mono ?_
  rintro _ w' ⟨rfl, a'⟩
  exact ⟨rfl, a'⟩
def textR (v : Vl) : List Nat := match v with
 | Sum.inr (Sum.inr (Sum.inr (s, a, t))) => bsk t
 | _ => []
def elsR (v : Vl) : List En := match v with
 | Sum.inr (Sum.inl (c, es)) => es
 | _ => []
theorem rv_all (a : List Int) : (rv a).toArray.all Value.oneCell' = true := all_oneCell_toArray (rv_one _)
theorem rg_all (s a : Int) (t : ByteArray) : (ty.rg s a t).all Value.oneCell' = true := by
 have := all_oneCell_toArray (cs := [Value.int .i64 s, .int .i64 a, .string t]) (by intro u hu; simp at hu; rcases hu with rfl | rfl | rfl <;> rfl)
 exact this
theorem Merge_cnt {w : World} {V O : Nat} {u d p q : List Int} (hV : Ho w V (.cnt u d)) (hO : Ho w O (.cnt p q)) (ok : Ok (.cnt u d)) (ok' : Ok (.cnt p q)) : Calls Tryz.prog 21 #[.pointer (some ⟨V, 0, none⟩), .pointer (some ⟨O, 0, none⟩)] w fun r w' => r = .returned (.int .i64 0) ∧ Ho w' V (.cnt (gr u p) (gr d q)) ∧ Apart [V] w w' := by
 refine (Merge_ok (P := fun es w' => es = (rv (gr u p ++ gr d q)).toArray) hV hO (fun wx _ => merged_11 (by simp [rv_len, ok.1.1, ok.2.1]) (rv_all _) (by simp [rv_len, ok'.1.1, ok'.2.1]) (rv_all _) (fun wy _ => (cmerged_ok ok.1.1 ok.2.1 ok'.1.1 ok'.2.1).mono ?_))).mono ?_
 ·rintro _ w' ⟨rfl, a'⟩
  exact ⟨_, rfl, a', rfl⟩
 ·rintro _ w' ⟨rfl, es, w2, hb, a1, a2, rfl⟩
  exact ⟨rfl, hb, (a1.mono (by simp)).trans a2⟩
theorem Merge_flg {w : World} {V O : Nat} {u d p q : List Int} (hV : Ho w V (.flg u d)) (hO : Ho w O (.flg p q)) (ok : Ok (.flg u d)) (ok' : Ok (.flg p q)) : Calls Tryz.prog 21 #[.pointer (some ⟨V, 0, none⟩), .pointer (some ⟨O, 0, none⟩)] w fun r w' => r = .returned (.int .i64 0) ∧ Ho w' V (.flg (gr u p) (mt d u q p)) ∧ Apart [V] w w' := by
 refine (Merge_ok (P := fun es w' => es = (rv (gr u p ++ mt d u q p)).toArray) hV hO (fun wx _ => merged_33 (by simp [rv_len, ok.1.1, ok.2.1]) (rv_all _) (by simp [rv_len, ok'.1.1, ok'.2.1]) (rv_all _) (fun wy _ => (fmerged_ok ok.1.1 ok.2.1 ok'.1.1 ok'.2.1).mono ?_))).mono ?_
 ·rintro _ w' ⟨rfl, a'⟩
  exact ⟨_, rfl, a', rfl⟩
 ·rintro _ w' ⟨rfl, es, w2, hb, a1, a2, rfl⟩
  exact ⟨rfl, hb, (a1.mono (by simp)).trans a2⟩
def laterR (s a : Int) (t : ByteArray) (s2 a2 : Int) (t2 : ByteArray) : Vl := if orL [cmI s s2, cmI a a2, cmS t t2] < 0 then .rgs s2 a2 t2 else .rgs s a t
theorem Merge_rgs {w : World} {V O : Nat} {s a s2 a2 : Int} {t t2 : ByteArray} (hV : Ho w V (.rgs s a t)) (hO : Ho w O (.rgs s2 a2 t2)) : Calls Tryz.prog 21 #[.pointer (some ⟨V, 0, none⟩), .pointer (some ⟨O, 0, none⟩)] w fun r w' => r = .returned (.int .i64 0) ∧ Ho w' V (laterR s a t s2 a2 t2) ∧ Apart [V] w w' := by
 refine (Merge_ok (P := fun es w' => (later s a t s2 a2 t2 → es = ty.rg s2 a2 t2) ∧ (¬ later s a t s2 a2 t2 → es = ty.rg s a t)) hV hO (fun wx _ => merged_44 rfl (rg_all _ _ _) rfl (rg_all _ _ _) (fun wy _ => gmerged_ok.mono ?_))).mono ?_
 ·rintro r w' ⟨h1, h2, a'⟩
  by_cases hL : later s a t s2 a2 t2
  ·exact ⟨_, h1 hL, a', fun _ => rfl, fun h => absurd hL h⟩
  ·exact ⟨_, h2 hL, a', fun h => absurd h hL, fun _ => rfl⟩
 ·rintro _ w' ⟨rfl, es, w2, hb, b1, b2, h1, h2⟩
  refine ⟨rfl, ?_, (b1.mono (by simp)).trans b2⟩
  unfold laterR
  by_cases hL : later s a t s2 a2 t2
  ·rw [if_pos (show orL [cmI s s2, cmI a a2, cmS t t2] < 0 from hL)]; rw [h1 hL] at hb; exact hb
  ·rw [if_neg (show ¬ orL [cmI s s2, cmI a a2, cmS t t2] < 0 from hL)]; rw [h2 hL] at hb; exact hb
end Go.Proofs.YtdbeeikjngnnnaaGreat.ty
