import Derived.Test.YtddffdcjhleejaaX41
namespace Go.Proofs.Ytddffdcjhleejaa.ds
open Go.ChangeShapes Go.WideShapes Go.ChangeAt Go.RowKit Go.Sort
set_option linter.unusedVariables false
set_option linter.unusedSimpArgs false
theorem bsk_take {k : ByteArray} {i : Nat} (hi : i < k.size) : (bsk k).take (i + 1) = (bsk k).take i ++ [k[i].toNat] := by
  have hl := bsk_len k
  rw [List.take_add_one, List.getElem?_eq_getElem (by omega)]
  congr 1
  simp [bsk, ByteArray.toList_eq]
  rfl
set_option maxHeartbeats 4000000 in
set_option maxRecDepth 100000 in
theorem wtext_ok {wB w : World} {s : Sl} {us : List Nat} (h : Bf wB w s us) (k : ByteArray) (hk : k.size ≤ 1000000) (hl : us.length + (encT (bsk k)).length ≤ 1099511627776) :
    Calls Try.prog 73 #[.slice s.p s.n s.c, .string k] w fun e w' => AP wB w s (us ++ encT (bsk k)) e w' := by
  have HB := hid h
  have HBK := hid (bsk_len k)
  have HL : Hid (us.length + ((enc k.size).length + k.size) ≤ 1099511627776) := by unfold Hid; unfold encT at hl; rw [List.length_append, HBK.out] at hl; exact hl
  have HC := hid (wnum_ok h k.size (by omega) (by have := HL.out; omega))
  clear h hl
  go_enter Try.func73, Try.ntmps73
  go_wp2_with fail
  refine HC.out.mono ?_
  rintro e w2 ⟨s2, rfl, hb2, hg2⟩
  have HB2 := hid hb2
  have HG2 := hid hg2
  clear hb2 hg2 HC
  try dsimp only
  go_wp2_with fail
  go_loopw [0, 5] (fun a b wt => ∃ (i : Nat) (s1 : Sl), a = .slice s1.p s1.n s1.c ∧ b = .int .i64 (i : Nat) ∧ i ≤ k.size ∧ Bf wB wt s1 ((us ++ enc k.size) ++ (bsk k).take i) ∧ Gw w wt s s1) (fun _ b _ => k.size - (intOf b).toNat)
  case atStart => exact ⟨0, s2, rfl, rfl, by omega, by simpa using HB2.out, HG2.out⟩
  case round =>
    obtain ⟨i, s1, rfl, rfl, hi, hb, hg⟩ := hrel
    have HB1 := hid hb
    have HG1 := hid hg
    clear hb hg
    by_cases hlt : i < k.size
    · have h1 : ((i : Nat) : Int) < (k.size : Int) := by omega
      obtain ⟨s3, w3, hrun, hb3, hg3⟩ := app_byte HB1.out (k[i].toNat) (by have := HL.out; simp only [List.length_append, List.length_take]; omega)
      have HRUN := hid hrun
      have HB3 : Hid (Bf wB w3 s3 ((us ++ enc k.size) ++ (bsk k).take (i + 1))) := by unfold Hid; rw [bsk_take hlt, ← List.append_assoc]; exact hb3
      have HG3 : Hid (Gw w w3 s s3) := HG1.out.trans hg3
      clear hrun hb3 hg3
      go_wp2_with (at_builtin; refine wpList_app2 rfl (.tmp 16) (.tmp 20) 22 22 rfl _ _ rfl rfl _ _ HRUN.out ?_)
      go_roundw
      case rel => exact ⟨i + 1, s3, rfl, by go_num, by omega, HB3.out, HG3.out⟩
      case measure => simp [intOf]; omega
    · have h1 : ¬ ((i : Nat) : Int) < (k.size : Int) := by omega
      have HF : Hid (Bf wB wr s1 (us ++ encT (bsk k))) := by
        unfold Hid encT
        have := HB1.out
        rw [List.take_of_length_le (by rw [HBK.out]; omega), List.append_assoc] at this
        rw [HBK.out]
        exact this
      go_wp2_with fail
      go_ret
      exact ⟨s1, rfl, HF.out, HG1.out⟩
set_option maxHeartbeats 8000000 in
set_option maxRecDepth 100000 in
theorem wwrite_ok {wB w : World} {s : Sl} {us : List Nat} (h : Bf wB w s us) (e : E) (r : Wr) (hr : Reads wB e r) (hgd : GoodW r) (hl : us.length + (encW r).length ≤ 1099511627776) :
    Calls Try.prog 74 #[.slice s.p s.n s.c, aggE e] w fun e w' => AP wB w s (us ++ encW r) e w' := by
  obtain ⟨en, ec, k, d, v, x⟩ := e
  obtain ⟨rn, rc, rk, rd, vs, xs⟩ := r
  obtain ⟨e1, e2, e3, e4, hv, hvn, hvl, hvb, hx, hxl, hvo, hxo⟩ := hr
  simp only at e1 e2 e3 e4 hv hvn hvl hvb hx hxl hvo hxo
  subst e1 e2 e3 e4
  obtain ⟨⟨⟨d1, d2⟩, d3, d4⟩, hkey, hval, hdead, hctx, hown⟩ := hgd
  simp only at d1 d2 d3 d4 hkey hval hdead hctx hown
  obtain ⟨nn, rfl⟩ := Int.eq_ofNat_of_zero_le d1
  obtain ⟨cc, rfl⟩ := Int.eq_ofNat_of_zero_le (show (0 : Int) ≤ ec by omega)
  have hn64 : nn < 9223372036854775808 := by omega
  have hc64 : cc < 9223372036854775808 := by omega
  have HB := hid h
  have HV := hid hv
  have HX := hid hx
  have HCTX := hid hctx
  have HVO := hid hvo
  have hxn : xs.length = x.n := hx.len
  have HE : Hid (encW ⟨(nn : Int), (cc : Int), k, d, vs, xs⟩ = enc nn ++ (enc cc ++ (encT (bsk k) ++ (encV d vs ++ encSet xs)))) := by unfold Hid encW; simp
  rw [HE.out] at hl ⊢
  have HL : Hid (us.length + ((enc nn).length + ((enc cc).length + ((encT (bsk k)).length + ((encV d vs).length + (encSet xs).length)))) ≤ 1099511627776) := by unfold Hid; simpa [List.length_append] using hl
  have HVB := hid hvb
  have HVN := hid hvn
  have HXN := hid hxn
  clear h hl hv hx hown hctx hvo d1 d2 d3 d4 hxo HE hvb hvn hxn
  unfold aggE
  simp only
  obtain ⟨w1, hw1⟩ : ∃ w1, w1 = w.alloc (.cells #[.int .i64 (nn : Int), .int .i64 (cc : Int), .string k, .bool d, .slice v.p v.n v.c, .slice x.p x.n x.c] 41) := ⟨_, rfl⟩
  have HX1 : Hid (w1.heap[w.heap.size]? = some (.cells #[.int .i64 (nn : Int), .int .i64 (cc : Int), .string k, .bool d, .slice v.p v.n v.c, .slice x.p x.n x.c] 41 (0, 0))) := by unfold Hid; rw [hw1]; exact heap_alloc_new w _
  have HA1 : Hid (Apart [] w w1) := by unfold Hid; rw [hw1]; exact (Apart.refl [] w).alloc _
  obtain ⟨X, HXX⟩ : ∃ X, Hid (X = w.heap.size) := ⟨_, rfl⟩
  rw [← HXX.out] at HX1
  have HB1 := hid (HB.out.kept HA1.out)
  have HG1 : Hid (Gw w w1 s s) := Gw.of HA1.out
  have HC1 := hid (wnum_ok HB1.out nn hn64 (by have := HL.out; omega))
  obtain ⟨z0, z1, z2, z3, z4, z5⟩ := rowv6 HX1.out
  go_enter Try.func74, Try.ntmps74
  go_upto_region 1 with fail
  rw [← hw1, ← HXX.out]
  clear hw1
  go_wp2_with fail
  refine HC1.out.mono ?_
  rintro _ w2 ⟨s2, rfl, hb2, hg2⟩
  have HB2 : Hid (Bf wB w2 s2 (us ++ enc nn)) := by unfold Hid; simpa using hb2
  have HG2 : Hid (Gw w w2 s s2) := HG1.out.trans hg2
  have HX2 : Hid (w2.heap[X]? = some (.cells #[.int .i64 (nn : Int), .int .i64 (cc : Int), .string k, .bool d, .slice v.p v.n v.c, .slice x.p x.n x.c] 41 (0, 0))) := hg2.block HB1.out HX1.out (by decide)
  clear hb2 hg2 z0 z1 z2 z3 z4 z5
  obtain ⟨z0, z1, z2, z3, z4, z5⟩ := rowv6 HX2.out
  have HC2 := hid (wnum_ok HB2.out cc hc64 (by have := HL.out; simp only [List.length_append]; omega))
  try dsimp only
  go_wp2_with fail
  refine HC2.out.mono ?_
  rintro _ w3 ⟨s3, rfl, hb3, hg3⟩
  have HB3 : Hid (Bf wB w3 s3 (us ++ (enc nn ++ enc cc))) := by unfold Hid; simpa using hb3
  have HG3 : Hid (Gw w w3 s s3) := HG2.out.trans hg3
  have HX3 : Hid (w3.heap[X]? = some (.cells #[.int .i64 (nn : Int), .int .i64 (cc : Int), .string k, .bool d, .slice v.p v.n v.c, .slice x.p x.n x.c] 41 (0, 0))) := hg3.block HB2.out HX2.out (by decide)
  clear hb3 hg3 z0 z1 z2 z3 z4 z5
  obtain ⟨z0, z1, z2, z3, z4, z5⟩ := rowv6 HX3.out
  have HC3 := hid (wtext_ok HB3.out k (by omega) (by have := HL.out; simp only [List.length_append]; omega))
  try dsimp only
  go_wp2_with fail
  refine HC3.out.mono ?_
  rintro _ w4 ⟨s4, rfl, hb4, hg4⟩
  have HB4 : Hid (Bf wB w4 s4 (us ++ (enc nn ++ (enc cc ++ encT (bsk k))))) := by unfold Hid; simpa using hb4
  have HG4 : Hid (Gw w w4 s s4) := HG3.out.trans hg4
  have HX4 : Hid (w4.heap[X]? = some (.cells #[.int .i64 (nn : Int), .int .i64 (cc : Int), .string k, .bool d, .slice v.p v.n v.c, .slice x.p x.n x.c] 41 (0, 0))) := hg4.block HB3.out HX3.out (by decide)
  clear hb4 hg4 z0 z1 z2 z3 z4 z5
  obtain ⟨z0, z1, z2, z3, z4, z5⟩ := rowv6 HX4.out
  have hlx : xs.length ≤ 8 := HCTX.out.le8
  try dsimp only
  cases d with
  | true =>
    have HL5 : Hid (us.length + ((enc nn).length + ((enc cc).length + ((encT (bsk k)).length + ((enc 1).length + (encSet xs).length)))) ≤ 1099511627776) := HL.out
    have HC4 : Hid (Calls Try.prog 72 #[.slice s4.p s4.n s4.c, .int .i64 1] w4 fun e w' => AP wB w4 s4 ((us ++ (enc nn ++ (enc cc ++ encT (bsk k)))) ++ enc 1) e w') := wnum_ok HB4.out 1 (by omega) (by have := HL5.out; simp only [List.length_append]; omega)
    go_wp2_with fail
    refine HC4.out.mono ?_
    rintro _ w5 ⟨s5, rfl, hb5, hg5⟩
    have HG5 : Hid (Gw w w5 s s5) := HG4.out.trans hg5
    have HX5 : Hid (w5.heap[X]? = some (.cells #[.int .i64 (nn : Int), .int .i64 (cc : Int), .string k, .bool true, .slice v.p v.n v.c, .slice x.p x.n x.c] 41 (0, 0))) := hg5.block HB4.out HX4.out (by decide)
    have HB5 : Hid (Bf wB w5 s5 (us ++ (enc nn ++ (enc cc ++ (encT (bsk k) ++ encV true vs))))) := by unfold Hid; have h0 := hb5; simpa [encV] using h0
    clear hb5 hg5 z0 z1 z2 z3 z4 z5
    obtain ⟨z0, z1, z2, z3, z4, z5⟩ := rowv6 HX5.out
    try dsimp only
    have HS : Hid (Calls Try.prog 60 #[.slice s5.p s5.n s5.c, .slice x.p x.n x.c] w5 fun e w' => AP wB w5 s5 ((us ++ (enc nn ++ (enc cc ++ (encT (bsk k) ++ encV true vs)))) ++ encSet xs) e w') := by
      have h1 := HX.out
      rw [← HXN.out] at h1
      rw [← HXN.out]
      refine wset_ok HB5.out xs h1 (by omega) (fun y hy => ?_) (by have := HL.out; simp only [List.length_append] at this ⊢; omega)
      have := HCTX.out.ok y hy
      have a1 := this.n0
      have a2 := this.n8
      have a3 := this.b0
      have a4 := this.bM
      exact ⟨⟨a1, by omega⟩, a3, by omega⟩
    try dsimp only
    go_wp2_with fail
    refine HS.out.mono ?_
    rintro _ w9 ⟨s9, rfl, hb9, hg9⟩
    have HB9 : Hid (Bf wB w9 s9 (us ++ (enc nn ++ (enc cc ++ (encT (bsk k) ++ (encV true vs ++ encSet xs)))))) := by unfold Hid; simpa using hb9
    have HG9 : Hid (Gw w w9 s s9) := HG5.out.trans hg9
    clear hb9 hg9
    try dsimp only
    go_wp2_with fail
    go_ret
    exact ⟨s9, rfl, HB9.out, HG9.out⟩
  | false =>
    have HL5 : Hid (us.length + ((enc nn).length + ((enc cc).length + ((encT (bsk k)).length + (((enc 0).length + (encT vs).length) + (encSet xs).length)))) ≤ 1099511627776) := by unfold Hid; have := HL.out; simpa [encV] using this
    have HC4 : Hid (Calls Try.prog 72 #[.slice s4.p s4.n s4.c, .int .i64 0] w4 fun e w' => AP wB w4 s4 ((us ++ (enc nn ++ (enc cc ++ encT (bsk k)))) ++ enc 0) e w') := wnum_ok HB4.out 0 (by omega) (by have := HL5.out; simp only [List.length_append]; omega)
    go_wp2_with fail
    refine HC4.out.mono ?_
    rintro _ w5 ⟨s5, rfl, hb5, hg5⟩
    have HG5 : Hid (Gw w w5 s s5) := HG4.out.trans hg5
    have HX5 : Hid (w5.heap[X]? = some (.cells #[.int .i64 (nn : Int), .int .i64 (cc : Int), .string k, .bool false, .slice v.p v.n v.c, .slice x.p x.n x.c] 41 (0, 0))) := hg5.block HB4.out HX4.out (by decide)
    have HB5 : Hid (Bf wB w5 s5 (us ++ (enc nn ++ (enc cc ++ (encT (bsk k) ++ enc 0))))) := by unfold Hid; have h0 := hb5; simpa [encV] using h0
    clear hb5 hg5 z0 z1 z2 z3 z4 z5
    obtain ⟨z0, z1, z2, z3, z4, z5⟩ := rowv6 HX5.out
    try dsimp only
    have hcv := conv_bytes (s := v) (HV.out.kept0 HB5.out.nw.ap) HVN.out HVO.out
    have hsz : (strB vs).size = vs.length := by rw [← bsk_len, bsk_strB HVB.out]
    have HC5 := hid (wtext_ok HB5.out (strB vs) (by omega) (by rw [bsk_strB HVB.out]; have := HL5.out; simp only [List.length_append]; omega))
    go_wp2_with fail
    refine HC5.out.mono ?_
    rintro _ w6 ⟨s6, rfl, hb6, hg6⟩
    have HG6 : Hid (Gw w w6 s s6) := HG5.out.trans hg6
    have HX6 : Hid (w6.heap[X]? = some (.cells #[.int .i64 (nn : Int), .int .i64 (cc : Int), .string k, .bool false, .slice v.p v.n v.c, .slice x.p x.n x.c] 41 (0, 0))) := hg6.block HB5.out HX5.out (by decide)
    have HB6 : Hid (Bf wB w6 s6 (us ++ (enc nn ++ (enc cc ++ (encT (bsk k) ++ encV false vs))))) := by unfold Hid; have h0 := hb6; rw [bsk_strB HVB.out] at h0; simpa [encV] using h0
    clear hcv hb6 hg6 z0 z1 z2 z3 z4 z5
    obtain ⟨z0, z1, z2, z3, z4, z5⟩ := rowv6 HX6.out
    try dsimp only
    have HS : Hid (Calls Try.prog 60 #[.slice s6.p s6.n s6.c, .slice x.p x.n x.c] w6 fun e w' => AP wB w6 s6 ((us ++ (enc nn ++ (enc cc ++ (encT (bsk k) ++ encV false vs)))) ++ encSet xs) e w') := by
      have h1 := HX.out
      rw [← HXN.out] at h1
      rw [← HXN.out]
      refine wset_ok HB6.out xs h1 (by omega) (fun y hy => ?_) (by have := HL.out; simp only [List.length_append] at this ⊢; omega)
      have := HCTX.out.ok y hy
      have a1 := this.n0
      have a2 := this.n8
      have a3 := this.b0
      have a4 := this.bM
      exact ⟨⟨a1, by omega⟩, a3, by omega⟩
    try dsimp only
    go_wp2_with fail
    refine HS.out.mono ?_
    rintro _ w9 ⟨s9, rfl, hb9, hg9⟩
    have HB9 : Hid (Bf wB w9 s9 (us ++ (enc nn ++ (enc cc ++ (encT (bsk k) ++ (encV false vs ++ encSet xs)))))) := by unfold Hid; simpa using hb9
    have HG9 : Hid (Gw w w9 s s9) := HG6.out.trans hg9
    clear hb9 hg9
    try dsimp only
    go_wp2_with fail
    go_ret
    exact ⟨s9, rfl, HB9.out, HG9.out⟩
set_option maxHeartbeats 4000000 in
set_option maxRecDepth 100000 in
theorem rputWrite_ok (w : World) (e : E) (r : Wr) (hr : Reads w e r) (v : Bool) (hv : v = true ↔ GoodW r) : Calls Try.prog 38 #[.agg #[.int .i64 e.n, .int .i64 e.c, .string e.k, .bool e.d, .slice e.v.p e.v.n e.v.c, .slice e.x.p e.x.n e.x.c]] w fun r' w' => PutP w v 52 (encW r) r' w' := by
  have HC1 : Hid (∀ W, Apart [] w W → Calls Try.prog 19 #[.agg #[.int .i64 e.n, .int .i64 e.c, .string e.k, .bool e.d, .slice e.v.p e.v.n e.v.c, .slice e.x.p e.x.n e.x.c]] W fun r w' => r = .returned (.bool v) ∧ Apart [] W w') := fun W a => good_ok W e r (hr.kept0 a) v hv
  have HC2 : Hid (v = true → ∀ W, Apart [] w W → Calls Try.prog 74 #[.slice none 0 0, .agg #[.int .i64 e.n, .int .i64 e.c, .string e.k, .bool e.d, .slice e.v.p e.v.n e.v.c, .slice e.x.p e.x.n e.x.c]] W fun e w' => AP W W ⟨none, 0, 0⟩ (encW r) e w') := fun h W a => by
    have ho := hv.1 h
    have := wwrite_ok (s := ⟨none, 0, 0⟩) (us := []) (Bf.nil (Apart.refl [] W)) e r (hr.kept0 a) ho (by have := encW_le ho; simp; omega)
    simpa [aggE] using this
  clear hr hv
  obtain ⟨w1, hw1⟩ : ∃ w1, w1 = w.alloc (.cells #[.int .i64 e.n, .int .i64 e.c, .string e.k, .bool e.d, .slice e.v.p e.v.n e.v.c, .slice e.x.p e.x.n e.x.c] 41) := ⟨_, rfl⟩
  have HX1 : Hid (w1.heap[w.heap.size]? = some (.cells #[.int .i64 e.n, .int .i64 e.c, .string e.k, .bool e.d, .slice e.v.p e.v.n e.v.c, .slice e.x.p e.x.n e.x.c] 41 (0, 0))) := by unfold Hid; rw [hw1]; exact heap_alloc_new w _
  have HA1 : Hid (Apart [] w w1) := by unfold Hid; rw [hw1]; exact (Apart.refl [] w).alloc _
  obtain ⟨X, HXX⟩ : ∃ X, Hid (X = w.heap.size) := ⟨_, rfl⟩
  rw [← HXX.out] at HX1
  obtain ⟨z0, z1, z2, z3, z4, z5⟩ := rowv6 HX1.out
  go_enter Try.func38, Try.ntmps38
  go_upto_region 1 with fail
  rw [← hw1, ← HXX.out]
  clear hw1
  go_wp2_with fail
  refine (HC1.out w1 HA1.out).mono ?_
  rintro _ w2 ⟨rfl, ha2⟩
  have HA2 : Hid (Apart [] w w2) := HA1.out.trans ha2
  have HX2 : Hid (w2.heap[X]? = some (.cells #[.int .i64 e.n, .int .i64 e.c, .string e.k, .bool e.d, .slice e.v.p e.v.n e.v.c, .slice e.x.p e.x.n e.x.c] 41 (0, 0))) := (ha2.block _ (lt_of_heap HX1.out) (by simp)).trans HX1.out
  clear ha2 z0 z1 z2 z3 z4 z5
  obtain ⟨z0, z1, z2, z3, z4, z5⟩ := rowv6 HX2.out
  try dsimp only
  cases v with
  | false =>
    go_wp2_with fail
    go_ret2
    exact ⟨HA2.out, fun h => (by cases h), fun _ => rfl⟩
  | true =>
    go_wp2_with fail
    refine (HC2.out (by trivial) w2 HA2.out).mono ?_
    rintro _ w3 ⟨s3, rfl, hb3, hg3⟩
    have HB3 : Hid (Bf w w3 s3 (encW r)) := ⟨hb3.nw.from HA2.out, hb3.len⟩
    clear hb3 hg3 z0 z1 z2 z3 z4 z5
    try dsimp only
    go_wp2_with fail
    go_ret2
    exact ⟨HB3.out.nw.ap, fun _ => ⟨s3, rfl, HB3.out⟩, fun h => (by cases h)⟩
end Go.Proofs.Ytddffdcjhleejaa.ds
