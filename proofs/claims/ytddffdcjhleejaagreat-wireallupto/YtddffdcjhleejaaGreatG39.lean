import Derived.Test.YtddffdcjhleejaaGreatG30
import Derived.Test.YtddffdcjhleejaaGreatG38
namespace Go.Proofs.YtddffdcjhleejaaGreat.ds
open Go.ChangeShapes Go.WideShapes Go.ChangeAt Go.RowKit Go.Sort
set_option linter.unusedVariables false
set_option linter.unusedSimpArgs false
set_option maxHeartbeats 4000000 in
set_option maxRecDepth 100000 in
theorem encode_yes2 (w : World) (mm : MM) (g : Mg) (es : List E) (hm : RM w mm g es) (hv : VMg g) (hvv : ∀ W, Apart [] w W → Calls Tryz.prog 14 #[.agg #[.int .i64 (mm.kind : Nat), .int .i64 (mm.frm : Nat), .int .i64 (mm.dst : Nat), .int .i64 (mm.call : Nat), .int .i64 (mm.rng : Nat), .int .i64 (mm.own : Nat), .string mm.key, .int .i64 (mm.dn : Nat), .int .i64 (mm.dc : Nat), .slice mm.set.p mm.set.n mm.set.c, .slice mm.ws.p mm.ws.n mm.ws.c]] W fun r w' => r = .returned (.bool true) ∧ Apart [] W w') : Calls Tryz.prog 9 #[.agg #[.int .i64 (mm.kind : Nat), .int .i64 (mm.frm : Nat), .int .i64 (mm.dst : Nat), .int .i64 (mm.call : Nat), .int .i64 (mm.rng : Nat), .int .i64 (mm.own : Nat), .string mm.key, .int .i64 (mm.dn : Nat), .int .i64 (mm.dc : Nat), .slice mm.set.p mm.set.n mm.set.c, .slice mm.ws.p mm.ws.n mm.ws.c]] w fun r w' => EncP w (encM g) r w' := by
  have HC1 := hid hvv
  have HC2 : Hid (∀ W, Apart [] w W → Calls Tryz.prog 32 #[.slice none 0 0, .agg #[.int .i64 (mm.kind : Nat), .int .i64 (mm.frm : Nat), .int .i64 (mm.dst : Nat), .int .i64 (mm.call : Nat), .int .i64 (mm.rng : Nat), .int .i64 (mm.own : Nat), .string mm.key, .int .i64 (mm.dn : Nat), .int .i64 (mm.dc : Nat), .slice mm.set.p mm.set.n mm.set.c, .slice mm.ws.p mm.ws.n mm.ws.c]] W fun e w' => AP W W ⟨none, 0, 0⟩ (encM g) e w') := fun W a => (by
    have := amsg_ok (s := ⟨none, 0, 0⟩) (us := []) (Bf.nil (Apart.refl [] W)) mm g es (hm.kept0 a) hv (by have := encM_le hv; simp; omega)
    simpa using this)
  clear hm hv hvv
  obtain ⟨X, HX⟩ : ∃ X, Hid (X = w.heap.size) := ⟨_, rfl⟩
  obtain ⟨w1, hw1⟩ : ∃ w1, w1 = w.alloc (.cells #[.int .i64 (mm.kind : Nat), .int .i64 (mm.frm : Nat), .int .i64 (mm.dst : Nat), .int .i64 (mm.call : Nat), .int .i64 (mm.rng : Nat), .int .i64 (mm.own : Nat), .string mm.key, .int .i64 (mm.dn : Nat), .int .i64 (mm.dc : Nat), .slice mm.set.p mm.set.n mm.set.c, .slice mm.ws.p mm.ws.n mm.ws.c] 29) := ⟨_, rfl⟩
  have HA1 : Hid (Apart [] w w1) := by unfold Hid; rw [hw1]; exact (Apart.refl [] w).alloc _
  have HX1 : Hid (w1.heap[X]? = some (.cells #[.int .i64 (mm.kind : Nat), .int .i64 (mm.frm : Nat), .int .i64 (mm.dst : Nat), .int .i64 (mm.call : Nat), .int .i64 (mm.rng : Nat), .int .i64 (mm.own : Nat), .string mm.key, .int .i64 (mm.dn : Nat), .int .i64 (mm.dc : Nat), .slice mm.set.p mm.set.n mm.set.c, .slice mm.ws.p mm.ws.n mm.ws.c] 29 (0, 0))) := by unfold Hid; rw [HX.out, hw1]; exact heap_alloc_new w _
  obtain ⟨⟨c0, c1, c2, c3, c4, c5⟩, c6, c7, c8, c9, c10⟩ := row11 HX1.out
  go_enter Tryz.func9, Tryz.ntmps9
  go_upto_region 1 with fail
  rw [← hw1, ← HX.out]
  clear hw1
  go_wp2_with fail
  clear c0 c1 c2 c3 c4 c5 c6 c7 c8 c9 c10
  refine (HC1.out w1 HA1.out).mono ?_
  rintro _ w2 ⟨rfl, hap⟩
  have HX2 := hid ((hap.block _ (lt_of_heap HX1.out) (by simp)).trans HX1.out)
  have HA2 : Hid (Apart [] w w2) := HA1.out.trans hap
  clear hap
  obtain ⟨⟨c0, c1, c2, c3, c4, c5⟩, c6, c7, c8, c9, c10⟩ := row11 HX2.out
  try dsimp only
  go_wp2_with fail
  refine (HC2.out w2 HA2.out).mono ?_
  rintro _ w3 ⟨s3, rfl, hb3, hg3⟩
  have HB3 : Hid (Bf w w3 s3 (encM g)) := ⟨hb3.nw.from HA2.out, hb3.len⟩
  clear hb3 hg3 c0 c1 c2 c3 c4 c5 c6 c7 c8 c9 c10
  try dsimp only
  go_wp2_with fail
  go_ret2
  exact ⟨s3, rfl, HB3.out⟩
theorem encO_true (l : List Nat) : encO true l = l := rfl
set_option maxHeartbeats 4000000 in
set_option maxRecDepth 100000 in
theorem encodeI_ok (w : World) (m : MI) (xs : List S) (es : List E) (rs : List Wr) (hm : RMI w m xs es rs) (v : Bool) (hv : v = true ↔ VI m xs rs) (mm : MM) (g : Mg) (hg : v = true → m.cs = mm.cs ∧ VMg g ∧ RM w mm g es) : Calls Tryz.prog 9 #[.agg #[.int .i64 m.kind, .int .i64 m.frm, .int .i64 m.dst, .int .i64 m.call, .int .i64 m.rng, .int .i64 m.own, .string m.key, .int .i64 m.dn, .int .i64 m.dc, .slice m.set.p m.set.n m.set.c, .slice m.ws.p m.ws.n m.ws.c]] w fun r w' => PutP w v 61 (encM g) r w' := by
  cases v with
  | true =>
    obtain ⟨h1, h2, h3⟩ := hg rfl
    have e : (Value.agg #[.int .i64 m.kind, .int .i64 m.frm, .int .i64 m.dst, .int .i64 m.call, .int .i64 m.rng, .int .i64 m.own, .string m.key, .int .i64 m.dn, .int .i64 m.dc, .slice m.set.p m.set.n m.set.c, .slice m.ws.p m.ws.n m.ws.c]) = .agg mm.cs := congrArg Value.agg h1
    have HV : ∀ W, Apart [] w W → Calls Tryz.prog 14 #[.agg #[.int .i64 (mm.kind : Nat), .int .i64 (mm.frm : Nat), .int .i64 (mm.dst : Nat), .int .i64 (mm.call : Nat), .int .i64 (mm.rng : Nat), .int .i64 (mm.own : Nat), .string mm.key, .int .i64 (mm.dn : Nat), .int .i64 (mm.dc : Nat), .slice mm.set.p mm.set.n mm.set.c, .slice mm.ws.p mm.ws.n mm.ws.c]] W fun r w' => r = .returned (.bool true) ∧ Apart [] W w' := fun W a => (by
      have := validI_ok W m xs es rs (hm.kept0 a) true hv
      rw [e] at this
      exact this)
    rw [e]
    refine (encode_yes2 w mm g es h3 h2 HV).mono ?_
    rintro r w' ⟨s, hr, hb⟩
    exact ⟨hb.nw.ap, fun _ => ⟨s, hr, hb⟩, fun h => (by simp at h)⟩
  | false =>
    obtain ⟨X, HX⟩ : ∃ X, Hid (X = w.heap.size) := ⟨_, rfl⟩
    obtain ⟨w1, hw1⟩ : ∃ w1, w1 = w.alloc (.cells #[.int .i64 m.kind, .int .i64 m.frm, .int .i64 m.dst, .int .i64 m.call, .int .i64 m.rng, .int .i64 m.own, .string m.key, .int .i64 m.dn, .int .i64 m.dc, .slice m.set.p m.set.n m.set.c, .slice m.ws.p m.ws.n m.ws.c] 29) := ⟨_, rfl⟩
    have HA1 : Hid (Apart [] w w1) := by unfold Hid; rw [hw1]; exact (Apart.refl [] w).alloc _
    have HX1 : Hid (w1.heap[X]? = some (.cells #[.int .i64 m.kind, .int .i64 m.frm, .int .i64 m.dst, .int .i64 m.call, .int .i64 m.rng, .int .i64 m.own, .string m.key, .int .i64 m.dn, .int .i64 m.dc, .slice m.set.p m.set.n m.set.c, .slice m.ws.p m.ws.n m.ws.c] 29 (0, 0))) := by unfold Hid; rw [HX.out, hw1]; exact heap_alloc_new w _
    have HC := hid (validI_ok w1 m xs es rs (hm.kept0 HA1.out) false hv)
    clear hm hv hg
    obtain ⟨⟨c0, c1, c2, c3, c4, c5⟩, c6, c7, c8, c9, c10⟩ := row11 HX1.out
    go_enter Tryz.func9, Tryz.ntmps9
    go_upto_region 1 with fail
    rw [← hw1, ← HX.out]
    clear hw1
    go_wp2_with fail
    refine HC.out.mono ?_
    rintro _ w2 ⟨rfl, ha2⟩
    have HA2 : Hid (Apart [] w w2) := HA1.out.trans ha2
    clear ha2
    try dsimp only
    go_wp2_with fail
    go_ret2
    exact ⟨HA2.out, fun h => (by simp at h), fun _ => rfl⟩
set_option maxHeartbeats 16000000 in
set_option maxRecDepth 100000 in
theorem rencode_yes (w : World) (mm : MM) (g : Mg) (es : List E) (hm : RM w mm g es) (hv : VMg g) (hvv : ∀ W, Apart [] w W → Calls Tryz.prog 43 #[.agg #[.int .i64 (mm.kind : Nat), .int .i64 (mm.frm : Nat), .int .i64 (mm.dst : Nat), .int .i64 (mm.call : Nat), .int .i64 (mm.rng : Nat), .int .i64 (mm.own : Nat), .string mm.key, .int .i64 (mm.dn : Nat), .int .i64 (mm.dc : Nat), .slice mm.set.p mm.set.n mm.set.c, .slice mm.ws.p mm.ws.n mm.ws.c]] W fun r w' => r = .returned (.bool true) ∧ Apart [] W w') : Calls Tryz.prog 16 #[.agg #[.int .i64 (mm.kind : Nat), .int .i64 (mm.frm : Nat), .int .i64 (mm.dst : Nat), .int .i64 (mm.call : Nat), .int .i64 (mm.rng : Nat), .int .i64 (mm.own : Nat), .string mm.key, .int .i64 (mm.dn : Nat), .int .i64 (mm.dc : Nat), .slice mm.set.p mm.set.n mm.set.c, .slice mm.ws.p mm.ws.n mm.ws.c]] w fun r w' => EncP w (encM g) r w' := by
  have HVV := hid hvv
  have HM := hid hm
  have HG := hid hv
  have hkk := hv.kind
  rw [← hm.kind] at hkk
  obtain ⟨n4, n5, n6⟩ := hv.nums
  rw [← hm.call] at n4
  rw [← hm.own] at n5
  rw [← hm.rng] at n6
  have hfr := hv.frm
  rw [← hm.frm] at hfr
  have hds := hv.dst
  rw [← hm.dst] at hds
  have hdd : mm.dn ≤ 7 ∧ mm.dc ≤ 1048576 := by
    have := hv.dot
    rw [hm.dn, hm.dc]
    split at this
    · omega
    · simp only [Prod.mk.injEq] at this; omega
  have hks : mm.key.size ≤ 16 := by
    rw [hm.key]
    have h1 := hv.key
    have h2 : (strB g.key).size = g.key.length := by rw [← bsk_len, bsk_strB hm.k8]
    rw [h2]
    split at h1
    · omega
    · rw [h1]; simp
  have HKB : Hid (bsk mm.key = g.key) := by unfold Hid; rw [hm.key]; exact bsk_strB hm.k8
  have HSL := hid hm.set.len
  have HLN := hid (encM_le hv)
  obtain ⟨b1, Hb1⟩ : ∃ b, Hid (b = hasF mm.kind 1) := ⟨_, rfl⟩
  obtain ⟨b2, Hb2⟩ : ∃ b, Hid (b = hasF mm.kind 2) := ⟨_, rfl⟩
  obtain ⟨b4, Hb4⟩ : ∃ b, Hid (b = hasF mm.kind 4) := ⟨_, rfl⟩
  obtain ⟨b8, Hb8⟩ : ∃ b, Hid (b = hasF mm.kind 8) := ⟨_, rfl⟩
  obtain ⟨b16, Hb16⟩ : ∃ b, Hid (b = hasF mm.kind 16) := ⟨_, rfl⟩
  obtain ⟨b32, Hb32⟩ : ∃ b, Hid (b = hasF mm.kind 32) := ⟨_, rfl⟩
  obtain ⟨wk, Hwk⟩ : ∃ n, Hid (n = wrK mm.kind) := ⟨_, rfl⟩
  obtain ⟨mo, Hmo⟩ : ∃ n, Hid (n = moK mm.kind) := ⟨_, rfl⟩
  have HFA : Hid (∀ W, Calls Tryz.prog 44 #[.int .i64 (mm.kind : Nat)] W fun r w' => r = .returned (.tuple #[.agg #[.bool b1, .bool b2, .bool b4, .bool b8, .bool b16, .bool b32, .int .i64 (wk : Nat), .int .i64 (mo : Nat)], .bool true]) ∧ Apart [] W w') := fun W => (by
    have := fieldsR_ok (mm.kind : Nat) ⟨by omega, by omega⟩ W
    rw [Int.toNat_natCast] at this
    rw [Hb1.out, Hb2.out, Hb4.out, Hb8.out, Hb16.out, Hb32.out, Hwk.out, Hmo.out]
    exact this)
  have HWK : Hid ((((wk : Nat) : Int) == 2) = hasF mm.kind 128) := by
    unfold Hid
    rw [Hwk.out]
    unfold wrK
    by_cases h7 : hasF mm.kind 128 = true
    · rw [if_pos h7, h7]; rfl
    · rw [if_neg h7]
      have h7' : hasF mm.kind 128 = false := by simpa using h7
      rw [h7']
      split <;> rfl
  obtain ⟨b128, Hb128⟩ : ∃ b, Hid (b = hasF mm.kind 128) := ⟨_, rfl⟩
  rw [← Hb128.out] at HWK
  have HRW := hid hm.ws
  have hwl := hm.ws.lim
  have HFULL : Hid (encM g = ((((((((((enc mm.kind ++ enc mm.frm) ++ enc mm.dst) ++ encO b1 (enc mm.call)) ++ encO b2 (enc mm.own)) ++ encO b4 (enc mm.rng)) ++ encO b8 (encT (bsk mm.key))) ++ encO b16 (enc mm.dn ++ enc mm.dc)) ++ encO b32 (encSet g.set)) ++ encO b128 (enc mm.ws.n)) ++ g.ws.flatMap encW)) := by
    unfold Hid encM
    rw [Hb1.out, Hb2.out, Hb4.out, Hb8.out, Hb16.out, Hb32.out, Hb128.out, HKB.out, ← hm.kind, ← hm.frm, ← hm.dst, ← hm.call, ← hm.own, ← hm.rng, ← hm.dn, ← hm.dc, hm.ws.rl]
    simp only [List.append_assoc]
  have HSET : Hid (b32 = true → ∃ p c, Value.slice mm.set.p mm.set.n mm.set.c = .slice p g.set.length c ∧ L w p g.set.length g.set ∧ g.set.length ≤ 1000 ∧ (∀ x ∈ g.set, (0 ≤ x.n ∧ x.n < 9223372036854775808) ∧ (0 ≤ x.b ∧ x.b < 9223372036854775808))) := fun h => (by
    have h1 := hv.set
    rw [← hm.kind, ← Hb32.out, if_pos h] at h1
    refine ⟨mm.set.p, mm.set.c, by rw [hm.set.len], by rw [hm.set.len]; exact hm.set, by have := h1.1.le8; omega, fun x hx => ?_⟩
    have ho := h1.1.ok x hx
    have a1 := ho.n0
    have a2 := ho.n8
    have a3 := ho.b0
    have a4 := ho.bM
    exact ⟨⟨by omega, by omega⟩, ⟨by omega, by omega⟩⟩)
  have HGOOD : Hid (∀ j, j < mm.ws.n → GoodW (gR g.ws j)) := fun j hj => (by
    have h1 := (hv.wsok).1.snd j (by rw [hm.ws.rl]; exact hj)
    exact h1.1)
  obtain ⟨X, HX⟩ : ∃ X, Hid (X = w.heap.size) := ⟨_, rfl⟩
  obtain ⟨w1, hw1⟩ : ∃ w1, w1 = w.alloc (.cells #[.int .i64 (mm.kind : Nat), .int .i64 (mm.frm : Nat), .int .i64 (mm.dst : Nat), .int .i64 (mm.call : Nat), .int .i64 (mm.rng : Nat), .int .i64 (mm.own : Nat), .string mm.key, .int .i64 (mm.dn : Nat), .int .i64 (mm.dc : Nat), .slice mm.set.p mm.set.n mm.set.c, .slice mm.ws.p mm.ws.n mm.ws.c] 29) := ⟨_, rfl⟩
  have HA1 : Hid (Apart [] w w1) := by unfold Hid; rw [hw1]; exact (Apart.refl [] w).alloc _
  have HX1 : Hid (w1.heap[X]? = some (.cells #[.int .i64 (mm.kind : Nat), .int .i64 (mm.frm : Nat), .int .i64 (mm.dst : Nat), .int .i64 (mm.call : Nat), .int .i64 (mm.rng : Nat), .int .i64 (mm.own : Nat), .string mm.key, .int .i64 (mm.dn : Nat), .int .i64 (mm.dc : Nat), .slice mm.set.p mm.set.n mm.set.c, .slice mm.ws.p mm.ws.n mm.ws.c] 29 (0, 0))) := by unfold Hid; rw [HX.out, hw1]; exact heap_alloc_new w _
  clear hvv hm hv
  obtain ⟨⟨c0, c1, c2, c3, c4, c5⟩, c6, c7, c8, c9, c10⟩ := row11 HX1.out
  go_enter Tryz.func16, Tryz.ntmps16
  go_upto_region 1 with fail
  rw [← hw1, ← HX.out]
  clear hw1
  go_wp2_with fail
  clear c0 c1 c2 c3 c4 c5 c6 c7 c8 c9 c10
  refine (HVV.out w1 HA1.out).mono ?_
  rintro _ w2 ⟨rfl, ha2⟩
  have HA2 : Hid (Apart [] w w2) := HA1.out.trans ha2
  have HX2 := hid ((ha2.block _ (lt_of_heap HX1.out) (by simp)).trans HX1.out)
  clear ha2
  try dsimp only
  obtain ⟨⟨c0, c1, c2, c3, c4, c5⟩, c6, c7, c8, c9, c10⟩ := row11 HX2.out
  go_wp2_with fail
  clear c0 c1 c2 c3 c4 c5 c6 c7 c8 c9 c10
  refine (HFA.out w2).mono ?_
  rintro _ w3 ⟨rfl, ha3⟩
  have HA3 : Hid (Apart [] w w3) := HA2.out.trans ha3
  have HX3 := hid ((ha3.block _ (lt_of_heap HX2.out) (by simp)).trans HX2.out)
  clear ha3
  try dsimp only
  obtain ⟨H, HHn⟩ : ∃ H, Hid (H = w3.heap.size) := ⟨_, rfl⟩
  obtain ⟨w4, hw4⟩ : ∃ w4, w4 = w3.alloc (.cells #[.bool b1, .bool b2, .bool b4, .bool b8, .bool b16, .bool b32, .int .i64 (wk : Nat), .int .i64 (mo : Nat)] 93) := ⟨_, rfl⟩
  have HA34 : Hid (Apart [] w3 w4) := by unfold Hid; rw [hw4]; exact (Apart.refl [] w3).alloc _
  have HHa : Hid (w4.heap[H]? = some (.cells #[.bool b1, .bool b2, .bool b4, .bool b8, .bool b16, .bool b32, .int .i64 (wk : Nat), .int .i64 (mo : Nat)] 93 (0, 0))) := by unfold Hid; rw [HHn.out, hw4]; exact heap_alloc_new w3 _
  have HXa := hid ((HA34.out.block _ (lt_of_heap HX3.out) (by simp)).trans HX3.out)
  have HA4 : Hid (Apart [] w w4) := HA3.out.trans HA34.out
  have HBa : Hid (Bf w w4 ⟨none, 0, 0⟩ []) := Bf.nil HA4.out
  have HLT : Hid (∀ a b c : List Nat, encM g = (a ++ b) ++ c → a.length + b.length ≤ 1099511627776) := fun a b c e => (by
    have h1 := HLN.out
    rw [e] at h1
    simp only [List.length_append] at h1
    omega)
  obtain ⟨⟨c0, c1, c2, c3, c4, c5⟩, c6, c7, c8, c9, c10⟩ := row11 HXa.out
  go_upto_region 5 with fail
  rw [← hw4, ← HHn.out]
  clear hw4
  go_wp2_with fail
  clear c0 c1 c2 c3 c4 c5 c6 c7 c8 c9 c10
  refine (wnum_ok HBa.out mm.kind (by omega) (by have := HLT.out [] (enc mm.kind) ((enc mm.frm ++ (enc mm.dst ++ (encO b1 (enc mm.call) ++ (encO b2 (enc mm.own) ++ (encO b4 (enc mm.rng) ++ (encO b8 (encT (bsk mm.key)) ++ (encO b16 (enc mm.dn ++ enc mm.dc) ++ (encO b32 (encSet g.set) ++ (encO b128 (enc mm.ws.n) ++ g.ws.flatMap encW)))))))))) (by rw [HFULL.out]; simp only [List.append_assoc, List.nil_append]); exact this)).mono ?_
  rintro _ w5 ⟨s5, rfl, hb, hgw⟩
  have HX5 := hid (hgw.block HBa.out HXa.out (by decide))
  have HH5 := hid (hgw.block HBa.out HHa.out (by decide))
  have HB5 := hid hb
  clear hb hgw
  try dsimp only
  replace HBa := HB5
  replace HXa := HX5
  replace HHa := HH5
  obtain ⟨⟨c0, c1, c2, c3, c4, c5⟩, c6, c7, c8, c9, c10⟩ := row11 HXa.out
  have HBt : Hid (Bf w w5 s5 (enc mm.kind)) := by have := HBa.out; unfold Hid; simpa using this
  replace HBa := HBt
  go_wp2_with fail
  clear c0 c1 c2 c3 c4 c5 c6 c7 c8 c9 c10
  refine (wnum_ok HBa.out mm.frm (by omega) (HLT.out _ _ ((enc mm.dst ++ (encO b1 (enc mm.call) ++ (encO b2 (enc mm.own) ++ (encO b4 (enc mm.rng) ++ (encO b8 (encT (bsk mm.key)) ++ (encO b16 (enc mm.dn ++ enc mm.dc) ++ (encO b32 (encSet g.set) ++ (encO b128 (enc mm.ws.n) ++ g.ws.flatMap encW))))))))) (by rw [HFULL.out]; simp only [encO_true, List.append_assoc, List.nil_append]))).mono ?_
  rintro _ w6 ⟨s6, rfl, hb, hgw⟩
  have HX6 := hid (hgw.block HBa.out HXa.out (by decide))
  have HH6 := hid (hgw.block HBa.out HHa.out (by decide))
  have HB6 := hid hb
  clear hb hgw
  try dsimp only
  replace HBa := HB6
  replace HXa := HX6
  replace HHa := HH6
  obtain ⟨⟨c0, c1, c2, c3, c4, c5⟩, c6, c7, c8, c9, c10⟩ := row11 HXa.out
  go_wp2_with fail
  clear c0 c1 c2 c3 c4 c5 c6 c7 c8 c9 c10
  refine (wnum_ok HBa.out mm.dst (by omega) (HLT.out _ _ ((encO b1 (enc mm.call) ++ (encO b2 (enc mm.own) ++ (encO b4 (enc mm.rng) ++ (encO b8 (encT (bsk mm.key)) ++ (encO b16 (enc mm.dn ++ enc mm.dc) ++ (encO b32 (encSet g.set) ++ (encO b128 (enc mm.ws.n) ++ g.ws.flatMap encW)))))))) (by rw [HFULL.out]; simp only [encO_true, List.append_assoc, List.nil_append]))).mono ?_
  rintro _ w7 ⟨s7, rfl, hb, hgw⟩
  have HX7 := hid (hgw.block HBa.out HXa.out (by decide))
  have HH7 := hid (hgw.block HBa.out HHa.out (by decide))
  have HB7 := hid hb
  clear hb hgw
  try dsimp only
  replace HBa := HB7
  replace HXa := HX7
  replace HHa := HH7
  obtain ⟨⟨c0, c1, c2, c3, c4, c5⟩, c6, c7, c8, c9, c10⟩ := row11 HXa.out
  obtain ⟨h0, h1, h2, h3, h4, h5, h6, h7⟩ := row8v HHa.out
  go_upto_if 31 with fail
  clear h0 h1 h2 h3 h4 h5 h6 h7
  go_cut [7] from 32 to 35 (fun tv wx => ∃ sx : Sl, tv = .slice sx.p sx.n sx.c ∧ Bf w wx sx ((((enc mm.kind ++ enc mm.frm) ++ enc mm.dst) ++ encO b1 (enc mm.call))) ∧ wx.heap[X]? = some (.cells #[.int .i64 (mm.kind : Nat), .int .i64 (mm.frm : Nat), .int .i64 (mm.dst : Nat), .int .i64 (mm.call : Nat), .int .i64 (mm.rng : Nat), .int .i64 (mm.own : Nat), .string mm.key, .int .i64 (mm.dn : Nat), .int .i64 (mm.dc : Nat), .slice mm.set.p mm.set.n mm.set.c, .slice mm.ws.p mm.ws.n mm.ws.c] 29 (0, 0)) ∧ wx.heap[H]? = some (.cells #[.bool b1, .bool b2, .bool b4, .bool b8, .bool b16, .bool b32, .int .i64 (wk : Nat), .int .i64 (mo : Nat)] 93 (0, 0)))
  case first =>
    cases b1 with
    | false =>
      have HBn : Hid (Bf w w7 s7 ((((enc mm.kind ++ enc mm.frm) ++ enc mm.dst) ++ encO false (enc mm.call)))) := by have := HBa.out; unfold Hid; simpa [encO] using this
      go_wp2_with fail
      go_meet
      exact ⟨s7, rfl, HBn.out, HXa.out, HHa.out⟩
    | true =>
      go_wp2_with fail
      clear c0 c1 c2 c3 c4 c5 c6 c7 c8 c9 c10
      refine (wnum_ok HBa.out mm.call (by omega) (HLT.out _ _ ((encO b2 (enc mm.own) ++ (encO b4 (enc mm.rng) ++ (encO b8 (encT (bsk mm.key)) ++ (encO b16 (enc mm.dn ++ enc mm.dc) ++ (encO b32 (encSet g.set) ++ (encO b128 (enc mm.ws.n) ++ g.ws.flatMap encW))))))) (by rw [HFULL.out]; simp only [encO_true, List.append_assoc, List.nil_append]))).mono ?_
      rintro _ v1 ⟨t1, rfl, hb, hgw⟩
      have HXv := hid (hgw.block HBa.out HXa.out (by decide))
      have HHv := hid (hgw.block HBa.out HHa.out (by decide))
      have HBv := hid hb
      clear hb hgw
      try dsimp only
      go_wp2_with fail
      go_meet
      exact ⟨t1, rfl, by have := HBv.out; simpa [encO] using this, HXv.out, HHv.out⟩
  generalize wc = w8 at *
  obtain ⟨s8, rfl, hb, hx, hh⟩ := hcut
  replace HBa := hid hb
  replace HXa := hid hx
  replace HHa := hid hh
  clear hb hx hh
  clear c0 c1 c2 c3 c4 c5 c6 c7 c8 c9 c10
  obtain ⟨⟨c0, c1, c2, c3, c4, c5⟩, c6, c7, c8, c9, c10⟩ := row11 HXa.out
  obtain ⟨h0, h1, h2, h3, h4, h5, h6, h7⟩ := row8v HHa.out
  go_upto_if 37 with fail
  clear h0 h1 h2 h3 h4 h5 h6 h7
  go_cut [7] from 38 to 41 (fun tv wx => ∃ sx : Sl, tv = .slice sx.p sx.n sx.c ∧ Bf w wx sx (((((enc mm.kind ++ enc mm.frm) ++ enc mm.dst) ++ encO b1 (enc mm.call)) ++ encO b2 (enc mm.own))) ∧ wx.heap[X]? = some (.cells #[.int .i64 (mm.kind : Nat), .int .i64 (mm.frm : Nat), .int .i64 (mm.dst : Nat), .int .i64 (mm.call : Nat), .int .i64 (mm.rng : Nat), .int .i64 (mm.own : Nat), .string mm.key, .int .i64 (mm.dn : Nat), .int .i64 (mm.dc : Nat), .slice mm.set.p mm.set.n mm.set.c, .slice mm.ws.p mm.ws.n mm.ws.c] 29 (0, 0)) ∧ wx.heap[H]? = some (.cells #[.bool b1, .bool b2, .bool b4, .bool b8, .bool b16, .bool b32, .int .i64 (wk : Nat), .int .i64 (mo : Nat)] 93 (0, 0)))
  case first =>
    cases b2 with
    | false =>
      have HBn : Hid (Bf w w8 s8 (((((enc mm.kind ++ enc mm.frm) ++ enc mm.dst) ++ encO b1 (enc mm.call)) ++ encO false (enc mm.own)))) := by have := HBa.out; unfold Hid; simpa [encO] using this
      go_wp2_with fail
      go_meet
      exact ⟨s8, rfl, HBn.out, HXa.out, HHa.out⟩
    | true =>
      go_wp2_with fail
      clear c0 c1 c2 c3 c4 c5 c6 c7 c8 c9 c10
      refine (wnum_ok HBa.out mm.own (by omega) (HLT.out _ _ ((encO b4 (enc mm.rng) ++ (encO b8 (encT (bsk mm.key)) ++ (encO b16 (enc mm.dn ++ enc mm.dc) ++ (encO b32 (encSet g.set) ++ (encO b128 (enc mm.ws.n) ++ g.ws.flatMap encW)))))) (by rw [HFULL.out]; simp only [encO_true, List.append_assoc, List.nil_append]))).mono ?_
      rintro _ v1 ⟨t1, rfl, hb, hgw⟩
      have HXv := hid (hgw.block HBa.out HXa.out (by decide))
      have HHv := hid (hgw.block HBa.out HHa.out (by decide))
      have HBv := hid hb
      clear hb hgw
      try dsimp only
      go_wp2_with fail
      go_meet
      exact ⟨t1, rfl, by have := HBv.out; simpa [encO] using this, HXv.out, HHv.out⟩
  generalize wc = w9 at *
  obtain ⟨s9, rfl, hb, hx, hh⟩ := hcut
  replace HBa := hid hb
  replace HXa := hid hx
  replace HHa := hid hh
  clear hb hx hh
  clear c0 c1 c2 c3 c4 c5 c6 c7 c8 c9 c10
  obtain ⟨⟨c0, c1, c2, c3, c4, c5⟩, c6, c7, c8, c9, c10⟩ := row11 HXa.out
  obtain ⟨h0, h1, h2, h3, h4, h5, h6, h7⟩ := row8v HHa.out
  go_upto_if 43 with fail
  clear h0 h1 h2 h3 h4 h5 h6 h7
  go_cut [7] from 44 to 47 (fun tv wx => ∃ sx : Sl, tv = .slice sx.p sx.n sx.c ∧ Bf w wx sx ((((((enc mm.kind ++ enc mm.frm) ++ enc mm.dst) ++ encO b1 (enc mm.call)) ++ encO b2 (enc mm.own)) ++ encO b4 (enc mm.rng))) ∧ wx.heap[X]? = some (.cells #[.int .i64 (mm.kind : Nat), .int .i64 (mm.frm : Nat), .int .i64 (mm.dst : Nat), .int .i64 (mm.call : Nat), .int .i64 (mm.rng : Nat), .int .i64 (mm.own : Nat), .string mm.key, .int .i64 (mm.dn : Nat), .int .i64 (mm.dc : Nat), .slice mm.set.p mm.set.n mm.set.c, .slice mm.ws.p mm.ws.n mm.ws.c] 29 (0, 0)) ∧ wx.heap[H]? = some (.cells #[.bool b1, .bool b2, .bool b4, .bool b8, .bool b16, .bool b32, .int .i64 (wk : Nat), .int .i64 (mo : Nat)] 93 (0, 0)))
  case first =>
    cases b4 with
    | false =>
      have HBn : Hid (Bf w w9 s9 ((((((enc mm.kind ++ enc mm.frm) ++ enc mm.dst) ++ encO b1 (enc mm.call)) ++ encO b2 (enc mm.own)) ++ encO false (enc mm.rng)))) := by have := HBa.out; unfold Hid; simpa [encO] using this
      go_wp2_with fail
      go_meet
      exact ⟨s9, rfl, HBn.out, HXa.out, HHa.out⟩
    | true =>
      go_wp2_with fail
      clear c0 c1 c2 c3 c4 c5 c6 c7 c8 c9 c10
      refine (wnum_ok HBa.out mm.rng (by omega) (HLT.out _ _ ((encO b8 (encT (bsk mm.key)) ++ (encO b16 (enc mm.dn ++ enc mm.dc) ++ (encO b32 (encSet g.set) ++ (encO b128 (enc mm.ws.n) ++ g.ws.flatMap encW))))) (by rw [HFULL.out]; simp only [encO_true, List.append_assoc, List.nil_append]))).mono ?_
      rintro _ v1 ⟨t1, rfl, hb, hgw⟩
      have HXv := hid (hgw.block HBa.out HXa.out (by decide))
      have HHv := hid (hgw.block HBa.out HHa.out (by decide))
      have HBv := hid hb
      clear hb hgw
      try dsimp only
      go_wp2_with fail
      go_meet
      exact ⟨t1, rfl, by have := HBv.out; simpa [encO] using this, HXv.out, HHv.out⟩
  generalize wc = w10 at *
  obtain ⟨s10, rfl, hb, hx, hh⟩ := hcut
  replace HBa := hid hb
  replace HXa := hid hx
  replace HHa := hid hh
  clear hb hx hh
  clear c0 c1 c2 c3 c4 c5 c6 c7 c8 c9 c10
  obtain ⟨⟨c0, c1, c2, c3, c4, c5⟩, c6, c7, c8, c9, c10⟩ := row11 HXa.out
  obtain ⟨h0, h1, h2, h3, h4, h5, h6, h7⟩ := row8v HHa.out
  go_upto_if 49 with fail
  clear h0 h1 h2 h3 h4 h5 h6 h7
  go_cut [7] from 50 to 53 (fun tv wx => ∃ sx : Sl, tv = .slice sx.p sx.n sx.c ∧ Bf w wx sx (((((((enc mm.kind ++ enc mm.frm) ++ enc mm.dst) ++ encO b1 (enc mm.call)) ++ encO b2 (enc mm.own)) ++ encO b4 (enc mm.rng)) ++ encO b8 (encT (bsk mm.key)))) ∧ wx.heap[X]? = some (.cells #[.int .i64 (mm.kind : Nat), .int .i64 (mm.frm : Nat), .int .i64 (mm.dst : Nat), .int .i64 (mm.call : Nat), .int .i64 (mm.rng : Nat), .int .i64 (mm.own : Nat), .string mm.key, .int .i64 (mm.dn : Nat), .int .i64 (mm.dc : Nat), .slice mm.set.p mm.set.n mm.set.c, .slice mm.ws.p mm.ws.n mm.ws.c] 29 (0, 0)) ∧ wx.heap[H]? = some (.cells #[.bool b1, .bool b2, .bool b4, .bool b8, .bool b16, .bool b32, .int .i64 (wk : Nat), .int .i64 (mo : Nat)] 93 (0, 0)))
  case first =>
    cases b8 with
    | false =>
      have HBn : Hid (Bf w w10 s10 (((((((enc mm.kind ++ enc mm.frm) ++ enc mm.dst) ++ encO b1 (enc mm.call)) ++ encO b2 (enc mm.own)) ++ encO b4 (enc mm.rng)) ++ encO false (encT (bsk mm.key))))) := by have := HBa.out; unfold Hid; simpa [encO] using this
      go_wp2_with fail
      go_meet
      exact ⟨s10, rfl, HBn.out, HXa.out, HHa.out⟩
    | true =>
      go_wp2_with fail
      clear c0 c1 c2 c3 c4 c5 c6 c7 c8 c9 c10
      refine (wtext_ok HBa.out mm.key (by omega) (HLT.out _ _ ((encO b16 (enc mm.dn ++ enc mm.dc) ++ (encO b32 (encSet g.set) ++ (encO b128 (enc mm.ws.n) ++ g.ws.flatMap encW)))) (by rw [HFULL.out]; simp only [encO_true, List.append_assoc, List.nil_append]))).mono ?_
      rintro _ v1 ⟨t1, rfl, hb, hgw⟩
      have HXv := hid (hgw.block HBa.out HXa.out (by decide))
      have HHv := hid (hgw.block HBa.out HHa.out (by decide))
      have HBv := hid hb
      clear hb hgw
      try dsimp only
      go_wp2_with fail
      go_meet
      exact ⟨t1, rfl, by have := HBv.out; simpa [encO] using this, HXv.out, HHv.out⟩
  generalize wc = w11 at *
  obtain ⟨s11, rfl, hb, hx, hh⟩ := hcut
  replace HBa := hid hb
  replace HXa := hid hx
  replace HHa := hid hh
  clear hb hx hh
  clear c0 c1 c2 c3 c4 c5 c6 c7 c8 c9 c10
  obtain ⟨⟨c0, c1, c2, c3, c4, c5⟩, c6, c7, c8, c9, c10⟩ := row11 HXa.out
  obtain ⟨h0, h1, h2, h3, h4, h5, h6, h7⟩ := row8v HHa.out
  go_upto_if 55 with fail
  clear h0 h1 h2 h3 h4 h5 h6 h7
  go_cut [7] from 56 to 65 (fun tv wx => ∃ sx : Sl, tv = .slice sx.p sx.n sx.c ∧ Bf w wx sx ((((((((enc mm.kind ++ enc mm.frm) ++ enc mm.dst) ++ encO b1 (enc mm.call)) ++ encO b2 (enc mm.own)) ++ encO b4 (enc mm.rng)) ++ encO b8 (encT (bsk mm.key))) ++ encO b16 (enc mm.dn ++ enc mm.dc))) ∧ wx.heap[X]? = some (.cells #[.int .i64 (mm.kind : Nat), .int .i64 (mm.frm : Nat), .int .i64 (mm.dst : Nat), .int .i64 (mm.call : Nat), .int .i64 (mm.rng : Nat), .int .i64 (mm.own : Nat), .string mm.key, .int .i64 (mm.dn : Nat), .int .i64 (mm.dc : Nat), .slice mm.set.p mm.set.n mm.set.c, .slice mm.ws.p mm.ws.n mm.ws.c] 29 (0, 0)) ∧ wx.heap[H]? = some (.cells #[.bool b1, .bool b2, .bool b4, .bool b8, .bool b16, .bool b32, .int .i64 (wk : Nat), .int .i64 (mo : Nat)] 93 (0, 0)))
  case first =>
    cases b16 with
    | false =>
      have HBn : Hid (Bf w w11 s11 ((((((((enc mm.kind ++ enc mm.frm) ++ enc mm.dst) ++ encO b1 (enc mm.call)) ++ encO b2 (enc mm.own)) ++ encO b4 (enc mm.rng)) ++ encO b8 (encT (bsk mm.key))) ++ encO false (enc mm.dn ++ enc mm.dc)))) := by have := HBa.out; unfold Hid; simpa [encO] using this
      go_wp2_with fail
      go_meet
      exact ⟨s11, rfl, HBn.out, HXa.out, HHa.out⟩
    | true =>
      go_wp2_with fail
      clear c0 c1 c2 c3 c4 c5 c6 c7 c8 c9 c10
      refine (wnum_ok HBa.out mm.dn (by omega) (HLT.out _ _ (enc mm.dc ++ (encO b32 (encSet g.set) ++ (encO b128 (enc mm.ws.n) ++ g.ws.flatMap encW))) (by rw [HFULL.out]; simp only [encO_true, List.append_assoc]))).mono ?_
      rintro _ v1 ⟨t1, rfl, hb, hgw⟩
      have HXv := hid (hgw.block HBa.out HXa.out (by decide))
      have HHv := hid (hgw.block HBa.out HHa.out (by decide))
      have HBv := hid hb
      clear hb hgw
      try dsimp only
      obtain ⟨⟨c0, c1, c2, c3, c4, c5⟩, c6, c7, c8, c9, c10⟩ := row11 HXv.out
      go_wp2_with fail
      clear c0 c1 c2 c3 c4 c5 c6 c7 c8 c9 c10
      refine (wnum_ok HBv.out mm.dc (by omega) (HLT.out _ _ ((encO b32 (encSet g.set) ++ (encO b128 (enc mm.ws.n) ++ g.ws.flatMap encW))) (by rw [HFULL.out]; simp only [encO_true, List.append_assoc]))).mono ?_
      rintro _ v2 ⟨t2, rfl, hb, hgw⟩
      have HXu := hid (hgw.block HBv.out HXv.out (by decide))
      have HHu := hid (hgw.block HBv.out HHv.out (by decide))
      have HBu := hid hb
      clear hb hgw
      try dsimp only
      go_wp2_with fail
      go_meet
      exact ⟨t2, rfl, by have := HBu.out; simpa [encO] using this, HXu.out, HHu.out⟩
  generalize wc = w12 at *
  obtain ⟨s12, rfl, hb, hx, hh⟩ := hcut
  replace HBa := hid hb
  replace HXa := hid hx
  replace HHa := hid hh
  clear hb hx hh
  clear c0 c1 c2 c3 c4 c5 c6 c7 c8 c9 c10
  obtain ⟨⟨c0, c1, c2, c3, c4, c5⟩, c6, c7, c8, c9, c10⟩ := row11 HXa.out
  obtain ⟨h0, h1, h2, h3, h4, h5, h6, h7⟩ := row8v HHa.out
  go_upto_if 67 with fail
  clear h0 h1 h2 h3 h4 h5 h6 h7
  go_cut [7] from 68 to 71 (fun tv wx => ∃ sx : Sl, tv = .slice sx.p sx.n sx.c ∧ Bf w wx sx (((((((((enc mm.kind ++ enc mm.frm) ++ enc mm.dst) ++ encO b1 (enc mm.call)) ++ encO b2 (enc mm.own)) ++ encO b4 (enc mm.rng)) ++ encO b8 (encT (bsk mm.key))) ++ encO b16 (enc mm.dn ++ enc mm.dc)) ++ encO b32 (encSet g.set))) ∧ wx.heap[X]? = some (.cells #[.int .i64 (mm.kind : Nat), .int .i64 (mm.frm : Nat), .int .i64 (mm.dst : Nat), .int .i64 (mm.call : Nat), .int .i64 (mm.rng : Nat), .int .i64 (mm.own : Nat), .string mm.key, .int .i64 (mm.dn : Nat), .int .i64 (mm.dc : Nat), .slice mm.set.p mm.set.n mm.set.c, .slice mm.ws.p mm.ws.n mm.ws.c] 29 (0, 0)) ∧ wx.heap[H]? = some (.cells #[.bool b1, .bool b2, .bool b4, .bool b8, .bool b16, .bool b32, .int .i64 (wk : Nat), .int .i64 (mo : Nat)] 93 (0, 0)))
  case first =>
    cases b32 with
    | false =>
      have HBn : Hid (Bf w w12 s12 (((((((((enc mm.kind ++ enc mm.frm) ++ enc mm.dst) ++ encO b1 (enc mm.call)) ++ encO b2 (enc mm.own)) ++ encO b4 (enc mm.rng)) ++ encO b8 (encT (bsk mm.key))) ++ encO b16 (enc mm.dn ++ enc mm.dc)) ++ encO false (encSet g.set)))) := by have := HBa.out; unfold Hid; simpa [encO] using this
      go_wp2_with fail
      go_meet
      exact ⟨s12, rfl, HBn.out, HXa.out, HHa.out⟩
    | true =>
      obtain ⟨sp, sc, hse, hsl, hs1000, hspos⟩ := HSET.out (by simp)
      have HSE := hid hse
      have HSLL := hid hsl
      have HSPOS := hid hspos
      have hc := wset_ok (c := sc) HBa.out g.set HSLL.out (by omega) HSPOS.out (HLT.out _ _ ((encO b128 (enc mm.ws.n) ++ g.ws.flatMap encW)) (by rw [HFULL.out]; simp only [encO_true, List.append_assoc, List.nil_append]))
      rw [← HSE.out] at hc
      have HCS := hid hc
      clear hse hsl hspos hc
      go_wp2_with fail
      clear c0 c1 c2 c3 c4 c5 c6 c7 c8 c9 c10
      refine HCS.out.mono ?_
      rintro _ v1 ⟨t1, rfl, hb, hgw⟩
      have HXv := hid (hgw.block HBa.out HXa.out (by decide))
      have HHv := hid (hgw.block HBa.out HHa.out (by decide))
      have HBv := hid hb
      clear hb hgw
      try dsimp only
      go_wp2_with fail
      go_meet
      exact ⟨t1, rfl, by have := HBv.out; simpa [encO] using this, HXv.out, HHv.out⟩
  generalize wc = w13 at *
  obtain ⟨s13, rfl, hb, hx, hh⟩ := hcut
  replace HBa := hid hb
  replace HXa := hid hx
  replace HHa := hid hh
  clear hb hx hh
  clear c0 c1 c2 c3 c4 c5 c6 c7 c8 c9 c10
  obtain ⟨⟨c0, c1, c2, c3, c4, c5⟩, c6, c7, c8, c9, c10⟩ := row11 HXa.out
  obtain ⟨h0, h1, h2, h3, h4, h5, h6, h7⟩ := row8v HHa.out
  go_upto_if 74 with fail
  rw [HWK.out]
  clear h0 h1 h2 h3 h4 h5 h6 h7
  go_cut [7] from 75 to 79 (fun tv wx => ∃ sx : Sl, tv = .slice sx.p sx.n sx.c ∧ Bf w wx sx ((((((((((enc mm.kind ++ enc mm.frm) ++ enc mm.dst) ++ encO b1 (enc mm.call)) ++ encO b2 (enc mm.own)) ++ encO b4 (enc mm.rng)) ++ encO b8 (encT (bsk mm.key))) ++ encO b16 (enc mm.dn ++ enc mm.dc)) ++ encO b32 (encSet g.set)) ++ encO b128 (enc mm.ws.n))) ∧ wx.heap[X]? = some (.cells #[.int .i64 (mm.kind : Nat), .int .i64 (mm.frm : Nat), .int .i64 (mm.dst : Nat), .int .i64 (mm.call : Nat), .int .i64 (mm.rng : Nat), .int .i64 (mm.own : Nat), .string mm.key, .int .i64 (mm.dn : Nat), .int .i64 (mm.dc : Nat), .slice mm.set.p mm.set.n mm.set.c, .slice mm.ws.p mm.ws.n mm.ws.c] 29 (0, 0)))
  case first =>
    cases b128 with
    | false =>
      have HBn : Hid (Bf w w13 s13 ((((((((((enc mm.kind ++ enc mm.frm) ++ enc mm.dst) ++ encO b1 (enc mm.call)) ++ encO b2 (enc mm.own)) ++ encO b4 (enc mm.rng)) ++ encO b8 (encT (bsk mm.key))) ++ encO b16 (enc mm.dn ++ enc mm.dc)) ++ encO b32 (encSet g.set)) ++ encO false (enc mm.ws.n)))) := by have := HBa.out; unfold Hid; simpa [encO] using this
      go_wp2_with fail
      go_meet
      exact ⟨s13, rfl, HBn.out, HXa.out⟩
    | true =>
      go_wp2_with fail
      clear c0 c1 c2 c3 c4 c5 c6 c7 c8 c9 c10
      refine (wnum_ok HBa.out mm.ws.n (by omega) (HLT.out _ _ (g.ws.flatMap encW) (by rw [HFULL.out]; simp only [encO_true, List.append_assoc, List.nil_append]))).mono ?_
      rintro _ v1 ⟨t1, rfl, hb, hgw⟩
      have HXv := hid (hgw.block HBa.out HXa.out (by decide))
      have HBv := hid hb
      clear hb hgw
      try dsimp only
      go_wp2_with fail
      go_meet
      exact ⟨t1, rfl, by have := HBv.out; simpa [encO] using this, HXv.out⟩
  generalize wc = w14 at *
  obtain ⟨s14, rfl, hb, hx⟩ := hcut
  replace HBa := hid hb
  replace HXa := hid hx
  clear hb hx HHa
  clear c0 c1 c2 c3 c4 c5 c6 c7 c8 c9 c10
  go_wp2_with fail
  go_loopw [7, 8] (fun a b wt => ∃ (i : Nat) (sx : Sl), a = .slice sx.p sx.n sx.c ∧ b = .int .i64 (i : Nat) ∧ i ≤ mm.ws.n ∧ Bf w wt sx ((((((((((enc mm.kind ++ enc mm.frm) ++ enc mm.dst) ++ encO b1 (enc mm.call)) ++ encO b2 (enc mm.own)) ++ encO b4 (enc mm.rng)) ++ encO b8 (encT (bsk mm.key))) ++ encO b16 (enc mm.dn ++ enc mm.dc)) ++ encO b32 (encSet g.set)) ++ encO b128 (enc mm.ws.n)) ++ (g.ws.take i).flatMap encW) ∧ wt.heap[X]? = some (.cells #[.int .i64 (mm.kind : Nat), .int .i64 (mm.frm : Nat), .int .i64 (mm.dst : Nat), .int .i64 (mm.call : Nat), .int .i64 (mm.rng : Nat), .int .i64 (mm.own : Nat), .string mm.key, .int .i64 (mm.dn : Nat), .int .i64 (mm.dc : Nat), .slice mm.set.p mm.set.n mm.set.c, .slice mm.ws.p mm.ws.n mm.ws.c] 29 (0, 0))) (fun _ b _ => mm.ws.n - (intOf b).toNat)
  case atStart => exact ⟨0, s14, rfl, rfl, Nat.zero_le _, by have := HBa.out; simpa using this, HXa.out⟩
  case round =>
    obtain ⟨i, sx, rfl, rfl, hi, hb, hx⟩ := hrel
    have HBr := hid hb
    have HXr := hid hx
    clear hb hx
    obtain ⟨⟨c0, c1, c2, c3, c4, c5⟩, c6, c7, c8, c9, c10⟩ := row11 HXr.out
    by_cases hlt : i < mm.ws.n
    · have hlti : ((i : Nat) : Int) < (mm.ws.n : Int) := by omega
      obtain ⟨PP, o, hPp, hPl, d0, d1, d2, d3, d4, d5⟩ := (HRW.out.kept0 HBr.out.nw.ap).cells i hlt
      obtain ⟨e, He⟩ : ∃ e, Hid (e = gE es i) := ⟨_, rfl⟩
      rw [← He.out] at d0 d1 d2 d3 d4 d5
      have HRD : Hid (Reads w e (gR g.ws i)) := by unfold Hid; rw [He.out]; exact HRW.out.each i hlt
      have HTK : Hid (g.ws.take (i + 1) = g.ws.take i ++ [gR g.ws i]) := by
        have hi2 : i < g.ws.length := by rw [HRW.out.rl]; exact hlt
        unfold Hid
        rw [List.take_add_one, List.getElem?_eq_getElem hi2, gR_eq _ _ hi2]; rfl
      have HLE : Hid (((((((((((enc mm.kind ++ enc mm.frm) ++ enc mm.dst) ++ encO b1 (enc mm.call)) ++ encO b2 (enc mm.own)) ++ encO b4 (enc mm.rng)) ++ encO b8 (encT (bsk mm.key))) ++ encO b16 (enc mm.dn ++ enc mm.dc)) ++ encO b32 (encSet g.set)) ++ encO b128 (enc mm.ws.n)) ++ (g.ws.take i).flatMap encW).length + (encW (gR g.ws i)).length ≤ 1099511627776) := HLT.out _ _ ((g.ws.drop (i + 1)).flatMap encW) (by
        rw [HFULL.out]
        have h1 : g.ws.flatMap encW = (g.ws.take (i + 1)).flatMap encW ++ (g.ws.drop (i + 1)).flatMap encW := by rw [← List.flatMap_append, List.take_append_drop]
        rw [h1, HTK.out]
        simp only [List.flatMap_append, List.flatMap_cons, List.flatMap_nil, List.append_nil, List.append_assoc])
      rw [hPp] at c10
      have HC := hid (wwrite_ok HBr.out e (gR g.ws i) HRD.out (HGOOD.out i hlt) HLE.out)
      unfold aggE at HC
      go_wp2_with fail
      clear c0 c1 c2 c3 c4 c5 c6 c7 c8 c9 c10
      clear d0 d1 d2 d3 d4 d5
      refine HC.out.mono ?_
      rintro _ v1 ⟨t1, rfl, hb, hgw⟩
      have HXv := hid (hgw.block HBr.out HXr.out (by decide))
      have HBv := hid hb
      clear hb hgw
      try dsimp only
      go_wp2_with fail
      go_roundw
      case rel => exact ⟨i + 1, t1, rfl, by go_num, by omega, by have := HBv.out; rw [HTK.out]; simpa [List.flatMap_append] using this, HXv.out⟩
      case measure => simp [intOf]; omega
    · have hlti : ¬ ((i : Nat) : Int) < (mm.ws.n : Int) := by omega
      have HFIN : Hid (Bf w wr sx (encM g)) := by
        unfold Hid
        rw [HFULL.out]
        have := HBr.out
        rw [List.take_of_length_le (by rw [HRW.out.rl]; omega)] at this
        exact this
      go_wp2_with fail
      go_ret2
      exact ⟨sx, rfl, HFIN.out⟩
theorem rencode_ok (w : World) (m : MI) (xs : List S) (es : List E) (rs : List Wr) (hm : RMI w m xs es rs) (v : Bool) (hv : v = true ↔ VI m xs rs) (mm : MM) (g : Mg) (hg : v = true → m.cs = mm.cs ∧ VMg g ∧ RM w mm g es) : Calls Tryz.prog 16 #[.agg #[.int .i64 m.kind, .int .i64 m.frm, .int .i64 m.dst, .int .i64 m.call, .int .i64 m.rng, .int .i64 m.own, .string m.key, .int .i64 m.dn, .int .i64 m.dc, .slice m.set.p m.set.n m.set.c, .slice m.ws.p m.ws.n m.ws.c]] w fun r w' => PutP w v 61 (encM g) r w' := by
  cases v with
  | true =>
    obtain ⟨h1, h2, h3⟩ := hg rfl
    have e : (Value.agg #[.int .i64 m.kind, .int .i64 m.frm, .int .i64 m.dst, .int .i64 m.call, .int .i64 m.rng, .int .i64 m.own, .string m.key, .int .i64 m.dn, .int .i64 m.dc, .slice m.set.p m.set.n m.set.c, .slice m.ws.p m.ws.n m.ws.c]) = .agg mm.cs := congrArg Value.agg h1
    have HV : ∀ W, Apart [] w W → Calls Tryz.prog 43 #[.agg #[.int .i64 (mm.kind : Nat), .int .i64 (mm.frm : Nat), .int .i64 (mm.dst : Nat), .int .i64 (mm.call : Nat), .int .i64 (mm.rng : Nat), .int .i64 (mm.own : Nat), .string mm.key, .int .i64 (mm.dn : Nat), .int .i64 (mm.dc : Nat), .slice mm.set.p mm.set.n mm.set.c, .slice mm.ws.p mm.ws.n mm.ws.c]] W fun r w' => r = .returned (.bool true) ∧ Apart [] W w' := fun W a => (by
      have := rvalidM_ok W m xs es rs (hm.kept0 a) true hv
      rw [e] at this
      exact this)
    rw [e]
    refine (rencode_yes w mm g es h3 h2 HV).mono ?_
    rintro r w' ⟨s, hr, hb⟩
    exact ⟨hb.nw.ap, fun _ => ⟨s, hr, hb⟩, fun h => (by simp at h)⟩
  | false =>
    obtain ⟨X, HX⟩ : ∃ X, Hid (X = w.heap.size) := ⟨_, rfl⟩
    obtain ⟨w1, hw1⟩ : ∃ w1, w1 = w.alloc (.cells #[.int .i64 m.kind, .int .i64 m.frm, .int .i64 m.dst, .int .i64 m.call, .int .i64 m.rng, .int .i64 m.own, .string m.key, .int .i64 m.dn, .int .i64 m.dc, .slice m.set.p m.set.n m.set.c, .slice m.ws.p m.ws.n m.ws.c] 29) := ⟨_, rfl⟩
    have HA1 : Hid (Apart [] w w1) := by unfold Hid; rw [hw1]; exact (Apart.refl [] w).alloc _
    have HX1 : Hid (w1.heap[X]? = some (.cells #[.int .i64 m.kind, .int .i64 m.frm, .int .i64 m.dst, .int .i64 m.call, .int .i64 m.rng, .int .i64 m.own, .string m.key, .int .i64 m.dn, .int .i64 m.dc, .slice m.set.p m.set.n m.set.c, .slice m.ws.p m.ws.n m.ws.c] 29 (0, 0))) := by unfold Hid; rw [HX.out, hw1]; exact heap_alloc_new w _
    have HC := hid (rvalidM_ok w1 m xs es rs (hm.kept0 HA1.out) false hv)
    clear hm hv hg
    obtain ⟨⟨c0, c1, c2, c3, c4, c5⟩, c6, c7, c8, c9, c10⟩ := row11 HX1.out
    go_enter Tryz.func16, Tryz.ntmps16
    go_upto_region 1 with fail
    rw [← hw1, ← HX.out]
    clear hw1
    go_wp2_with fail
    refine HC.out.mono ?_
    rintro _ w2 ⟨rfl, ha2⟩
    have HA2 : Hid (Apart [] w w2) := HA1.out.trans ha2
    clear ha2
    try dsimp only
    go_wp2_with fail
    go_ret2
    exact ⟨HA2.out, fun h => (by simp at h), fun _ => rfl⟩
end Go.Proofs.YtddffdcjhleejaaGreat.ds
