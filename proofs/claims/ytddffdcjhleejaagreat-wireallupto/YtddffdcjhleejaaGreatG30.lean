import Derived.Test.YtddffdcjhleejaaGreatG22
import Derived.Test.YtddffdcjhleejaaGreatG29
import Derived.Test.YtddffdcjhleejaaGreatG24
namespace Go.Proofs.YtddffdcjhleejaaGreat.ds
open Go.ChangeShapes Go.WideShapes Go.ChangeAt Go.RowKit Go.Sort
set_option linter.unusedVariables false
set_option linter.unusedSimpArgs false
theorem hasF_8 (k : Nat) (h : hasF k 64 = true) : hasF k 8 = false ∧ hasF k 16 = false ∧ mostK k = 1 ∧ k ≠ 5 := by
  unfold hasF fldK mostK at *
  (repeat' split at h) <;> simp_all
theorem VMg.wsok {g : Mg} (h : VMg g) : WsOk (strB g.key) 0 0 g.ws ∧ g.ws.length ≤ mostK g.kind ∧ (hasF g.kind 64 = true → g.ws.length = 1) := by
  have hw := h.ws
  have hno := hasF_not g.kind
  by_cases h1 : hasF g.kind 128 = true
  · rw [if_pos h1] at hw
    exact ⟨hw.2, hw.1, fun h6 => absurd ⟨h6, h1⟩ hno⟩
  · rw [if_neg h1] at hw
    by_cases h6 : hasF g.kind 64 = true
    · rw [if_pos h6] at hw
      obtain ⟨r, e, hr⟩ := hw
      obtain ⟨k8, _, km, _⟩ := hasF_8 _ h6
      have hk := h.key
      rw [k8] at hk
      simp only [Bool.false_eq_true, if_false] at hk
      rw [e, hk, km]
      exact ⟨⟨⟨hr, hr.ris, .inl rfl⟩, trivial⟩, by simp, fun _ => rfl⟩
    · rw [if_neg h6] at hw
      rw [hw]
      exact ⟨trivial, by simp, fun h => absurd h h6⟩
theorem VMg.zero {g : Mg} (h : VMg g) : (hasF g.kind 1 = false → g.call = 0) ∧ (hasF g.kind 2 = false → g.own = 0) ∧ (hasF g.kind 4 = false → g.rng = 0) ∧ (hasF g.kind 8 = false → g.key = []) ∧ (hasF g.kind 16 = false → g.dn = 0 ∧ g.dc = 0) ∧ (hasF g.kind 32 = false → g.set = []) ∧ (hasF g.kind 192 = false → g.ws = []) := by
  refine ⟨fun e => ?_, fun e => ?_, fun e => ?_, fun e => ?_, fun e => ?_, fun e => ?_, fun e => ?_⟩
  · have := h.call; rw [e] at this; simpa using this
  · have := h.own; rw [e] at this; simpa using this
  · have := h.rng; rw [e] at this; simpa using this
  · have := h.key; rw [e] at this; simpa using this
  · have := h.dot; rw [e] at this; simpa using this
  · have := h.set; rw [e] at this; simpa using this
  · have := h.ws
    have e1 : hasF g.kind 128 = false ∧ hasF g.kind 64 = false := by
      unfold hasF fldK at *
      (repeat' split at e) <;> simp_all
    rw [e1.1, e1.2] at this
    simpa using this
theorem VMg.kinds {g : Mg} (h : VMg g) : g.kind = 1 ∨ g.kind = 2 ∨ g.kind = 3 ∨ g.kind = 4 ∨ g.kind = 5 ∨ g.kind = 6 ∨ g.kind = 7 ∨ g.kind = 8 ∨ g.kind = 9 ∨ g.kind = 10 ∨ g.kind = 11 := by
  have := h.kind
  omega
theorem VMg.nums {g : Mg} (h : VMg g) : g.call ≤ 4096 ∧ g.own ≤ 7 ∧ g.rng ≤ 15 := by
  have v4 := h.call; have v5 := h.own; have v6 := h.rng
  refine ⟨?_, ?_, ?_⟩
  · split at v4 <;> omega
  · split at v5 <;> omega
  · split at v6 <;> omega
end Go.Proofs.YtddffdcjhleejaaGreat.ds
namespace Go.Proofs.YtddffdcjhleejaaGreat.ds
open Go.ChangeShapes Go.WideShapes Go.ChangeAt Go.RowKit Go.Sort
set_option linter.unusedVariables false
set_option linter.unusedSimpArgs false
theorem enc_le : ∀ (k n : Nat), n < 128 ^ (k + 1) → (enc n).length ≤ k + 1
  | 0, n, h => by rw [enc_small (by simpa using h)]; simp
  | k + 1, n, h => by
    by_cases hs : n < 128
    · rw [enc_small hs]; simp
    · rw [enc_big hs]
      have := enc_le k (n / 128) (by rw [Nat.div_lt_iff_lt_mul (by omega)]; rw [Nat.pow_succ] at h; exact h)
      simp only [List.length_cons]
      omega
theorem enc_10 {n : Nat} (h : n < 18446744073709551616) : (enc n).length ≤ 10 := enc_le 9 n (Nat.lt_of_lt_of_le h (by decide))
theorem flat_le {α : Type} (f : α → List Nat) (c : Nat) : ∀ (l : List α), (∀ x ∈ l, (f x).length ≤ c) → (l.flatMap f).length ≤ l.length * c
  | [], _ => by simp
  | x :: l, h => by
    have h1 := h x (by simp)
    have h2 := flat_le f c l (fun y hy => h y (List.mem_cons_of_mem _ hy))
    rw [List.flatMap_cons, List.length_append, List.length_cons, Nat.add_mul]
    omega
theorem encS_le {x : S} (h : Ok 64 x) : (encS x).length ≤ 30 := by
  have a0 := h.n0; have a1 := h.n8; have a2 := h.b0; have a3 := h.bM; have a4 := h.t64
  have e1 := enc_10 (n := x.n.toNat) (by omega)
  have e2 := enc_10 (n := x.b.toNat) (by omega)
  have e3 := enc_10 a4
  unfold encS
  simp only [List.length_append]
  omega
theorem encSet_le {xs : List S} (h : OkL 64 xs) : (encSet xs).length ≤ 250 := by
  have h8 := h.le8
  have e1 := enc_10 (n := xs.length) (by omega)
  have e2 := flat_le encS 30 xs (fun x hx => encS_le (h.ok x hx))
  unfold encSet
  simp only [List.length_append]
  omega
theorem encT_le {l : List Nat} (h : l.length ≤ 64) : (encT l).length ≤ 10 + l.length := by
  have e1 := enc_10 (n := l.length) (by omega)
  unfold encT
  simp only [List.length_append]
  omega
theorem encW_le {r : Wr} (h : GoodW r) : (encW r).length ≤ 380 := by
  obtain ⟨⟨⟨d1, d2⟩, d3, d4⟩, k, v, dd, c, o⟩ := h
  have e1 := enc_10 (n := r.n.toNat) (by omega)
  have e2 := enc_10 (n := r.c.toNat) (by omega)
  have e3 := encT_le (l := bsk r.k) (by rw [bsk_len]; omega)
  rw [bsk_len] at e3
  have e4 : (encV r.d r.vs).length ≤ 84 := by
    have a0 := enc_10 (n := 0) (by omega)
    have a1 := enc_10 (n := 1) (by omega)
    have a2 := encT_le v
    unfold encV
    split
    · omega
    · simp only [List.length_append]; omega
  have e5 := encSet_le c
  unfold encW
  simp only [List.length_append]
  omega
theorem encO_le {b : Bool} {l : List Nat} {c : Nat} (h : l.length ≤ c) : (encO b l).length ≤ c := by
  unfold encO
  split
  · exact h
  · simp
theorem encM_le {g : Mg} (h : VMg g) : (encM g).length ≤ 200000 := by
  obtain ⟨n1, n2, n3⟩ := h.nums
  have v1 := h.kind; have v2 := h.frm; have v3 := h.dst
  obtain ⟨w1, w2, w3⟩ := h.wsok
  have wl : g.ws.length ≤ 512 := by
    have : mostK g.kind ≤ 512 := by unfold mostK; (repeat' split) <;> omega
    omega
  have hk : g.key.length ≤ 16 := by
    have := h.key
    split at this
    · exact this.2
    · rw [this]; simp
  have hd : g.dn ≤ 7 ∧ g.dc ≤ 1048576 := by
    have := h.dot
    split at this
    · omega
    · simp at this; omega
  have e1 := enc_10 (n := g.kind) (by omega)
  have e2 := enc_10 (n := g.frm) (by omega)
  have e3 := enc_10 (n := g.dst) (by omega)
  have e4 := encO_le (b := hasF g.kind 1) (enc_10 (n := g.call) (by omega))
  have e5 := encO_le (b := hasF g.kind 2) (enc_10 (n := g.own) (by omega))
  have e6 := encO_le (b := hasF g.kind 4) (enc_10 (n := g.rng) (by omega))
  have e7 := encO_le (b := hasF g.kind 8) (encT_le (l := g.key) (by omega))
  have e8 : (encO (hasF g.kind 16) (enc g.dn ++ enc g.dc)).length ≤ 20 := by
    have a := enc_10 (n := g.dn) (by omega)
    have b := enc_10 (n := g.dc) (by omega)
    exact encO_le (by simp only [List.length_append]; omega)
  have e9 := encO_le (b := hasF g.kind 32) (encSet_le h.okset)
  have e10 := encO_le (b := hasF g.kind 128) (enc_10 (n := g.ws.length) (by omega))
  have e11 := flat_le encW 380 g.ws (fun r hr => encW_le (h.good r hr))
  unfold encM
  simp only [List.length_append]
  omega
theorem fldK_pos {k : Nat} (h : 1 ≤ k ∧ k ≤ 11) : ¬ fldK k = 0 := by
  unfold fldK
  (repeat' split) <;> omega
/-- bytes that were written, and no error -/
structure EncP (w : World) (l : List Nat) (e : Ending) (w' : World) : Prop where
  ex : ∃ s : Sl, e = .returned (.tuple #[.slice s.p s.n s.c, .int .i64 0]) ∧ Bf w w' s l
/-- what PutSet and PutWrite answer -/
structure PutP (w : World) (v : Bool) (x : Int) (l : List Nat) (e : Ending) (w' : World) : Prop where
  ap : Apart [] w w'
  yes : v = true → ∃ s : Sl, e = .returned (.tuple #[.slice s.p s.n s.c, .int .i64 0]) ∧ Bf w w' s l
  no : v = false → e = .returned (.tuple #[.slice none 0 0, .int .i64 x])
set_option maxHeartbeats 4000000 in
set_option maxRecDepth 100000 in
theorem putSet_ok (w : World) (p : Option Addr) (n c : Nat) (xs : List S) (hx : L w p n xs) (v : Bool) (hv : v = true ↔ OkL 64 xs) : Calls Tryz.prog 11 #[.slice p n c] w fun r w' => PutP w v 30 (encSet xs) r w' := by
  have HC1 := hid (isSet_wire (cap := c) hx v hv)
  have HC2 : Hid (v = true → ∀ W, Apart [] w W → Calls Tryz.prog 36 #[.slice none 0 0, .slice p n c] W fun e w' => AP W W ⟨none, 0, 0⟩ (encSet xs) e w') := fun h W a => by
    have ho := hv.1 h
    have hl := hx.len
    have h1 := hx.kept0 a
    rw [← hl] at h1
    rw [← hl]
    have := aset_ok (s := ⟨none, 0, 0⟩) (us := []) (c := c) (Bf.nil (Apart.refl [] W)) xs h1 (by have := ho.le8; omega) (fun y hy => by
      have := ho.ok y hy
      have a1 := this.n0
      have a2 := this.n8
      have a3 := this.b0
      have a4 := this.bM
      exact ⟨⟨a1, by omega⟩, a3, by omega⟩) (by have := encSet_le ho; simp; omega)
    simpa using this
  clear hx hv
  go_enter Tryz.func11, Tryz.ntmps11
  go_wp2_with fail
  refine HC1.out.mono ?_
  rintro _ w2 ⟨rfl, ha2⟩
  have HA2 := hid ha2
  clear ha2
  try dsimp only
  cases v with
  | false =>
    go_wp2_with fail
    go_ret2
    exact ⟨HA2.out, fun h => (by cases h), fun _ => rfl⟩
  | true =>
    go_wp2_with fail
    refine (HC2.out (by trivial) w2 HA2.out).mono ?_
    rintro _ w3 ⟨s3, rfl, hb3, hg3⟩
    have HB3 : Hid (Bf w w3 s3 (encSet xs)) := ⟨hb3.nw.from HA2.out, hb3.len⟩
    clear hb3 hg3
    try dsimp only
    go_wp2_with fail
    go_ret2
    exact ⟨HB3.out.nw.ap, fun _ => ⟨s3, rfl, HB3.out⟩, fun h => (by cases h)⟩
set_option maxHeartbeats 4000000 in
set_option maxRecDepth 100000 in
theorem putWrite_ok (w : World) (e : E) (r : Wr) (hr : Reads w e r) (v : Bool) (hv : v = true ↔ GoodW r) : Calls Tryz.prog 12 #[.agg #[.int .i64 e.n, .int .i64 e.c, .string e.k, .bool e.d, .slice e.v.p e.v.n e.v.c, .slice e.x.p e.x.n e.x.c]] w fun r' w' => PutP w v 52 (encW r) r' w' := by
  have HC1 : Hid (∀ W, Apart [] w W → Calls Tryz.prog 37 #[.agg #[.int .i64 e.n, .int .i64 e.c, .string e.k, .bool e.d, .slice e.v.p e.v.n e.v.c, .slice e.x.p e.x.n e.x.c]] W fun r w' => r = .returned (.bool v) ∧ Apart [] W w') := fun W a => wisWrite_ok W e r (hr.kept0 a) v hv
  have HC2 : Hid (v = true → ∀ W, Apart [] w W → Calls Tryz.prog 38 #[.slice none 0 0, .agg #[.int .i64 e.n, .int .i64 e.c, .string e.k, .bool e.d, .slice e.v.p e.v.n e.v.c, .slice e.x.p e.x.n e.x.c]] W fun e w' => AP W W ⟨none, 0, 0⟩ (encW r) e w') := fun h W a => by
    have ho := hv.1 h
    have := awrite_ok (s := ⟨none, 0, 0⟩) (us := []) (Bf.nil (Apart.refl [] W)) e r (hr.kept0 a) ho (by have := encW_le ho; simp; omega)
    simpa [aggE] using this
  clear hr hv
  obtain ⟨w1, hw1⟩ : ∃ w1, w1 = w.alloc (.cells #[.int .i64 e.n, .int .i64 e.c, .string e.k, .bool e.d, .slice e.v.p e.v.n e.v.c, .slice e.x.p e.x.n e.x.c] 37) := ⟨_, rfl⟩
  have HX1 : Hid (w1.heap[w.heap.size]? = some (.cells #[.int .i64 e.n, .int .i64 e.c, .string e.k, .bool e.d, .slice e.v.p e.v.n e.v.c, .slice e.x.p e.x.n e.x.c] 37 (0, 0))) := by unfold Hid; rw [hw1]; exact heap_alloc_new w _
  have HA1 : Hid (Apart [] w w1) := by unfold Hid; rw [hw1]; exact (Apart.refl [] w).alloc _
  obtain ⟨X, HXX⟩ : ∃ X, Hid (X = w.heap.size) := ⟨_, rfl⟩
  rw [← HXX.out] at HX1
  obtain ⟨z0, z1, z2, z3, z4, z5⟩ := rowv6 HX1.out
  go_enter Tryz.func12, Tryz.ntmps12
  go_upto_region 1 with fail
  rw [← hw1, ← HXX.out]
  clear hw1
  go_wp2_with fail
  refine (HC1.out w1 HA1.out).mono ?_
  rintro _ w2 ⟨rfl, ha2⟩
  have HA2 : Hid (Apart [] w w2) := HA1.out.trans ha2
  have HX2 : Hid (w2.heap[X]? = some (.cells #[.int .i64 e.n, .int .i64 e.c, .string e.k, .bool e.d, .slice e.v.p e.v.n e.v.c, .slice e.x.p e.x.n e.x.c] 37 (0, 0))) := (ha2.block _ (lt_of_heap HX1.out) (by simp)).trans HX1.out
  clear ha2 z0 z1 z2 z3 z4 z5
  obtain ⟨z0, z1, z2, z3, z4, z5⟩ := rowv6 HX2.out
  try dsimp only
  cases v with
  | false =>
    go_wp2_with fail
    go_ret2
    exact ⟨HA2.out, fun h => (by cases h), fun _ => rfl⟩
  | true =>
    go_wp2_with fail
    refine (HC2.out (by trivial) w2 HA2.out).mono ?_
    rintro _ w3 ⟨s3, rfl, hb3, hg3⟩
    have HB3 : Hid (Bf w w3 s3 (encW r)) := ⟨hb3.nw.from HA2.out, hb3.len⟩
    clear hb3 hg3 z0 z1 z2 z3 z4 z5
    try dsimp only
    go_wp2_with fail
    go_ret2
    exact ⟨HB3.out.nw.ap, fun _ => ⟨s3, rfl, HB3.out⟩, fun h => (by cases h)⟩
end Go.Proofs.YtddffdcjhleejaaGreat.ds
namespace Go.Proofs.YtddffdcjhleejaaGreat.ds
open Go.ChangeShapes Go.WideShapes Go.ChangeAt Go.RowKit Go.Sort
set_option linter.unusedVariables false
set_option linter.unusedSimpArgs false
theorem flag192 (k : Nat) (h : 1 ≤ k ∧ k ≤ 11) : decide (fldK k &&& 192 ≠ 0) = (hasF k 64 || hasF k 128) := by
  have h : k = 1 ∨ k = 2 ∨ k = 3 ∨ k = 4 ∨ k = 5 ∨ k = 6 ∨ k = 7 ∨ k = 8 ∨ k = 9 ∨ k = 10 ∨ k = 11 := by omega
  rcases h with rfl | rfl | rfl | rfl | rfl | rfl | rfl | rfl | rfl | rfl | rfl <;> decide
theorem flagK (k : Nat) (h : 1 ≤ k ∧ k ≤ 11) (h5 : ¬ (k = 5 ∨ k = 7)) (hw : wrK k ≠ 0) : hasF k 8 = false := by
  have h : k = 1 ∨ k = 2 ∨ k = 3 ∨ k = 4 ∨ k = 5 ∨ k = 6 ∨ k = 7 ∨ k = 8 ∨ k = 9 ∨ k = 10 ∨ k = 11 := by omega
  rcases h with rfl | rfl | rfl | rfl | rfl | rfl | rfl | rfl | rfl | rfl | rfl <;> first | decide | (exact absurd (by decide) hw) | (exact absurd (by decide) h5)
theorem key0 {k : ByteArray} : k.size = 0 ↔ k = ⟨#[]⟩ := by
  constructor
  · intro h
    cases k with | mk d =>
    have : d.size = 0 := h
    rw [Array.size_eq_zero_iff] at this
    rw [this]
  · rintro rfl; rfl
theorem VI_iff {m : MI} {xs : List S} {rs : List Wr} (k : Nat) (hk : m.kind = (k : Nat)) (h11 : 1 ≤ k ∧ k ≤ 11) (hl : rs.length = m.ws.n) : VI m xs rs ↔ (silP m (hasF k 1) (hasF k 2) (hasF k 4) (hasF k 8) (hasF k 16) (hasF k 32) (decide (fldK k &&& 192 ≠ 0)) ∧ numsP m ∧ lisP k m xs rs (hasF k 8) (hasF k 16) (hasF k 64)) := by
  have hkn : m.kind.toNat = k := by rw [hk]; rfl
  have hno := hasF_not k
  have h192 := flag192 k h11
  have hFK := flagK k h11
  have hwr : wrK k = if hasF k 128 = true then 2 else if hasF k 64 = true then 1 else 0 := rfl
  have hmo : moK k = if wrK k = 0 then 0 else mostK k := rfl
  constructor
  · rintro ⟨hk', ⟨hf, ht⟩, ⟨hc, ho, hr⟩, ⟨hky1, hky2⟩, ⟨hd1, hd2⟩, ⟨hs1, hs2, hs3⟩, ⟨hw1, hw2⟩, hl1, hl2⟩
    rw [hkn] at hc ho hr hky1 hd1 hd2 hs2 hw1 hw2 hl1
    unfold up at hc ho hr
    refine ⟨⟨⟨⟨⟨⟨⟨?_, ?_⟩, ?_⟩, ?_⟩, ?_⟩, ?_⟩, ?_⟩, ⟨?_, ?_, ?_, ?_, ?_⟩, ⟨⟨⟨⟨⟨⟨?_, ?_⟩, ?_⟩, ?_⟩, ?_⟩, ?_⟩, ?_⟩⟩
    · rcases hc.2 with h | h
      · exact .inl h.1
      · exact .inr h
    · rcases ho.2 with h | h
      · exact .inl h.1
      · exact .inr h
    · rcases hr.2 with h | h
      · exact .inl h.1
      · exact .inr h
    · by_cases h : hasF k 8 = true
      · exact .inl h
      · refine .inr (key0.1 ?_)
        have : ¬ 1 ≤ m.key.size := fun h1 => h (hky1.2 h1)
        omega
    · by_cases h : hasF k 16 = true
      · exact .inl h
      · exact .inr (hd2 (by simpa using h))
    · by_cases h : hasF k 32 = true
      · exact .inl h
      · exact .inr (hs2 (by simpa using h))
    · rw [h192]
      by_cases h6 : hasF k 64 = true
      · left; simp [h6]
      · by_cases h7 : hasF k 128 = true
        · left; simp [h7]
        · right; exact hw2 (by rw [hwr, if_neg h7, if_neg h6])
    · omega
    · omega
    · rcases hc.2 with h | h <;> omega
    · rcases ho.2 with h | h <;> omega
    · rcases hr.2 with h | h <;> omega
    · by_cases h : hasF k 8 = true
      · exact .inr ⟨hky1.1 h, hky2⟩
      · exact .inl (by simpa using h)
    · by_cases h : hasF k 16 = true
      · exact .inr (hd1.1 h)
      · exact .inl (by simpa using h)
    · by_cases h : hasF k 64 = true
      · right
        refine hw1 ?_
        rw [hwr, if_neg (fun h1 => hno ⟨h, h1⟩), if_pos h]
      · exact .inl (by simpa using h)
    · rw [hl] at hl1
      rw [hmo] at hl1
      split at hl1 <;> omega
    · exact hs1
    · by_cases h : k = 5
      · exact .inr (hs3 (by rw [hk, h]; rfl))
      · exact .inl h
    · by_cases h : m.kind = 5 ∨ m.kind = 7
      · rw [if_pos h] at hl2; exact hl2
      · rw [if_neg h] at hl2
        by_cases hw : wrK k = 0
        · have : rs = [] := List.length_eq_zero_iff.1 (by rw [hl]; exact hw2 hw)
          rw [this]; trivial
        · have h8 := hFK (by omega) hw
          have : m.key = ⟨#[]⟩ := key0.1 (by
            have : ¬ 1 ≤ m.key.size := fun h1 => (by rw [hky1.2 h1] at h8; cases h8)
            omega)
          rw [this]; exact hl2
  · rintro ⟨⟨⟨⟨⟨⟨⟨a1, a2⟩, a3⟩, a4⟩, a5⟩, a6⟩, a7⟩, ⟨n1, n2, n3, n4, n5⟩, ⟨⟨⟨⟨⟨⟨b1, b2⟩, b3⟩, b4⟩, b5⟩, b6⟩, b7⟩⟩
    rw [h192] at a7
    have hw0 : wrK k = 0 → m.ws.n = 0 := fun h => by
      rcases a7 with h1 | h1
      · exfalso
        rw [hwr] at h
        by_cases h7 : hasF k 128 = true
        · rw [if_pos h7] at h; omega
        · rw [if_neg h7] at h
          by_cases h6 : hasF k 64 = true
          · rw [if_pos h6] at h; omega
          · simp [h6, h7] at h1
      · exact h1
    refine ⟨by rw [hk]; omega, ⟨by omega, by omega⟩, ?_, ?_, ?_, ?_, ?_, ?_, ?_⟩
    · rw [hkn]
      unfold up
      refine ⟨⟨by omega, ?_⟩, ⟨by omega, ?_⟩, ⟨by omega, ?_⟩⟩
      · rcases a1 with h | h
        · exact .inl ⟨h, by omega⟩
        · exact .inr h
      · rcases a2 with h | h
        · exact .inl ⟨h, by omega⟩
        · exact .inr h
      · rcases a3 with h | h
        · exact .inl ⟨h, by omega⟩
        · exact .inr h
    · rw [hkn]
      refine ⟨⟨fun h => ?_, fun h => ?_⟩, ?_⟩
      · rcases b1 with h1 | h1
        · rw [h] at h1; cases h1
        · exact h1.1
      · rcases a4 with h1 | h1
        · exact h1
        · have := key0.2 h1; omega
      · rcases b1 with h1 | h1
        · rcases a4 with h2 | h2
          · rw [h1] at h2; cases h2
          · have := key0.2 h2; omega
        · exact h1.2
    · rw [hkn]
      refine ⟨⟨fun h => ?_, fun h => ?_⟩, fun h => ?_⟩
      · rcases b2 with h1 | h1
        · rw [h] at h1; cases h1
        · exact h1
      · rcases a5 with h1 | h1
        · exact h1
        · exfalso
          unfold IsDot at h
          omega
      · rcases a5 with h1 | h1
        · rw [h] at h1; cases h1
        · exact h1
    · rw [hkn]
      refine ⟨b5, fun h => ?_, fun h => ?_⟩
      · rcases a6 with h1 | h1
        · rw [h] at h1; cases h1
        · exact h1
      · rcases b6 with h1 | h1
        · exact absurd (by omega) h1
        · exact h1
    · rw [hkn]
      refine ⟨fun h => ?_, hw0⟩
      rcases b3 with h1 | h1
      · exfalso
        rw [hwr] at h
        by_cases h7 : hasF k 128 = true
        · rw [if_pos h7] at h; omega
        · rw [if_neg h7, if_neg (by rw [h1]; simp)] at h; omega
      · exact h1
    · rw [hkn, hl, hmo]
      split
      · rw [hw0 (by assumption)]; omega
      · exact b4
    · by_cases h : m.kind = 5 ∨ m.kind = 7
      · rw [if_pos h]; exact b7
      · rw [if_neg h]
        by_cases hw : wrK k = 0
        · have : rs = [] := List.length_eq_zero_iff.1 (by rw [hl]; exact hw0 hw)
          rw [this]; trivial
        · have h8 := hFK (by omega) hw
          have : m.key = ⟨#[]⟩ := by
            rcases a4 with h1 | h1
            · rw [h8] at h1; cases h1
            · exact h1
          rw [← this]; exact b7
set_option maxHeartbeats 8000000 in
set_option maxRecDepth 100000 in
theorem validI_ok (w : World) (m : MI) (xs : List S) (es : List E) (rs : List Wr) (hm : RMI w m xs es rs) (v : Bool) (hv : v = true ↔ VI m xs rs) : Calls Tryz.prog 14 #[.agg #[.int .i64 m.kind, .int .i64 m.frm, .int .i64 m.dst, .int .i64 m.call, .int .i64 m.rng, .int .i64 m.own, .string m.key, .int .i64 m.dn, .int .i64 m.dc, .slice m.set.p m.set.n m.set.c, .slice m.ws.p m.ws.n m.ws.c]] w fun r w' => r = .returned (.bool v) ∧ Apart [] w w' := by
  by_cases hk : 1 ≤ m.kind ∧ m.kind ≤ 11
  · obtain ⟨k, hkk⟩ := Int.eq_ofNat_of_zero_le (show 0 ≤ m.kind by omega)
    have h11 : 1 ≤ k ∧ k ≤ 11 := by omega
    rw [VI_iff k hkk h11 hm.ws.rl] at hv
    obtain ⟨fk, Hfk⟩ : ∃ fk, Hid (fk = fldK k) := ⟨_, rfl⟩
    have hfl : fk < 256 := by rw [Hfk.out]; exact fldK_lt k
    have hf0 : ¬ ((fk : Nat) : Int) = 0 := by
      have := fldK_pos h11
      rw [← Hfk.out] at this
      omega
    have hfb : (((fk : Nat) : Int) != 0) = true := by simpa using hf0
    have HFB := hid hfb
    have HF : Hid (∀ W, Calls Tryz.prog 39 #[.int .i64 (k : Nat)] W fun r w' => r = .returned (.int .u64 (fk : Int)) ∧ w' = W) := fun W => by rw [Hfk.out]; exact fieldsOf_ok k W
    obtain ⟨v1, h1⟩ := bool_of' (silP m (hasF k 1) (hasF k 2) (hasF k 4) (hasF k 8) (hasF k 16) (hasF k 32) (decide (fldK k &&& 192 ≠ 0)))
    obtain ⟨v2, h2⟩ := bool_of' (numsP m)
    obtain ⟨v3, h3⟩ := bool_of' (lisP k m xs rs (hasF k 8) (hasF k 16) (hasF k 64))
    have HV : Hid (v = (v1 && (v2 && v3))) := by
      unfold Hid
      have : (v = true) ↔ ((v1 && (v2 && v3)) = true) := by
        rw [hv, ← h1, ← h2, ← h3]
        simp
      cases v <;> cases hh : (v1 && (v2 && v3)) <;> simp_all
    have HC1 : Hid (∀ W, Calls Tryz.prog 40 #[.agg #[.int .i64 (k : Nat), .int .i64 m.frm, .int .i64 m.dst, .int .i64 m.call, .int .i64 m.rng, .int .i64 m.own, .string m.key, .int .i64 m.dn, .int .i64 m.dc, .slice m.set.p m.set.n m.set.c, .slice m.ws.p m.ws.n m.ws.c], .int .u64 (fk : Nat)] W fun r w' => r = .returned (.bool v1) ∧ Apart [] W w') := fun W => (by
      have := silentI_ok W m fk hfl (hasF k 1) (hasF k 2) (hasF k 4) (hasF k 8) (hasF k 16) (hasF k 32) (decide (fldK k &&& 192 ≠ 0)) (by rw [Hfk.out]; rfl) (by rw [Hfk.out]; rfl) (by rw [Hfk.out]; rfl) (by rw [Hfk.out]; rfl) (by rw [Hfk.out]; rfl) (by rw [Hfk.out]; rfl) (by rw [Hfk.out]) v1 h1
      rw [hkk] at this
      exact this)
    have HC2 : Hid (∀ W, Calls Tryz.prog 41 #[.agg #[.int .i64 (k : Nat), .int .i64 m.frm, .int .i64 m.dst, .int .i64 m.call, .int .i64 m.rng, .int .i64 m.own, .string m.key, .int .i64 m.dn, .int .i64 m.dc, .slice m.set.p m.set.n m.set.c, .slice m.ws.p m.ws.n m.ws.c]] W fun r w' => r = .returned (.bool v2) ∧ Apart [] W w') := fun W => (by
      have := numbersI_ok W m v2 h2
      rw [hkk] at this
      exact this)
    have HC3 : Hid (∀ W, Apart [] w W → Calls Tryz.prog 42 #[.agg #[.int .i64 (k : Nat), .int .i64 m.frm, .int .i64 m.dst, .int .i64 m.call, .int .i64 m.rng, .int .i64 m.own, .string m.key, .int .i64 m.dn, .int .i64 m.dc, .slice m.set.p m.set.n m.set.c, .slice m.ws.p m.ws.n m.ws.c], .int .u64 (fk : Nat)] W fun r w' => r = .returned (.bool v3) ∧ Apart [] W w') := fun W a => listsI_ok W k m xs es rs (hm.kept0 a) fk hfl (hasF k 8) (hasF k 16) (hasF k 64) (by rw [Hfk.out]; rfl) (by rw [Hfk.out]; rfl) (by rw [Hfk.out]; rfl) v3 h3
    rw [hkk]
    obtain ⟨X, HX⟩ : ∃ X, Hid (X = w.heap.size) := ⟨_, rfl⟩
    obtain ⟨w1, hw1⟩ : ∃ w1, w1 = w.alloc (.cells #[.int .i64 (k : Nat), .int .i64 m.frm, .int .i64 m.dst, .int .i64 m.call, .int .i64 m.rng, .int .i64 m.own, .string m.key, .int .i64 m.dn, .int .i64 m.dc, .slice m.set.p m.set.n m.set.c, .slice m.ws.p m.ws.n m.ws.c] 29) := ⟨_, rfl⟩
    have HA1 : Hid (Apart [] w w1) := by unfold Hid; rw [hw1]; exact (Apart.refl [] w).alloc _
    have HX1 : Hid (w1.heap[X]? = some (.cells #[.int .i64 (k : Nat), .int .i64 m.frm, .int .i64 m.dst, .int .i64 m.call, .int .i64 m.rng, .int .i64 m.own, .string m.key, .int .i64 m.dn, .int .i64 m.dc, .slice m.set.p m.set.n m.set.c, .slice m.ws.p m.ws.n m.ws.c] 29 (0, 0))) := by unfold Hid; rw [HX.out, hw1]; exact heap_alloc_new w _
    clear hm hv h1 h2 h3 hk hkk h11 hf0
    obtain ⟨⟨c0, c1, c2, c3, c4, c5⟩, c6, c7, c8, c9, c10⟩ := row11 HX1.out
    go_enter Tryz.func14, Tryz.ntmps14
    go_upto_region 1 with fail
    rw [← hw1, ← HX.out]
    clear hw1
    go_wp2_with fail
    refine (HF.out w1).mono ?_
    rintro _ wn ⟨rfl, hwn⟩
    rw [hwn]
    clear hwn wn
    try dsimp only
    go_wp2_with fail
    clear c0 c1 c2 c3 c4 c5 c6 c7 c8 c9 c10
    refine (HC1.out w1).mono ?_
    rintro _ w2 ⟨rfl, ha2⟩
    have HX2 := hid ((ha2.block _ (lt_of_heap HX1.out) (by simp)).trans HX1.out)
    have HA2 : Hid (Apart [] w w2) := HA1.out.trans ha2
    clear ha2
    try dsimp only
    cases v1 with
    | false =>
      have hv : v = false := by rw [HV.out]; rfl
      subst hv
      go_wp2_with fail
      go_ret
      exact ⟨by first | rfl | (simp only [HFB.out]; rfl), HA2.out⟩
    | true =>
      obtain ⟨⟨c0, c1, c2, c3, c4, c5⟩, c6, c7, c8, c9, c10⟩ := row11 HX2.out
      go_wp2_with fail
      clear c0 c1 c2 c3 c4 c5 c6 c7 c8 c9 c10
      refine (HC2.out w2).mono ?_
      rintro _ w3 ⟨rfl, ha3⟩
      have HX3 := hid ((ha3.block _ (lt_of_heap HX2.out) (by simp)).trans HX2.out)
      have HA3 : Hid (Apart [] w w3) := HA2.out.trans ha3
      clear ha3
      try dsimp only
      cases v2 with
      | false =>
        have hv : v = false := by rw [HV.out]; rfl
        subst hv
        go_wp2_with fail
        go_ret
        exact ⟨by first | rfl | (simp only [HFB.out]; rfl), HA3.out⟩
      | true =>
        obtain ⟨⟨c0, c1, c2, c3, c4, c5⟩, c6, c7, c8, c9, c10⟩ := row11 HX3.out
        go_wp2_with fail
        clear c0 c1 c2 c3 c4 c5 c6 c7 c8 c9 c10
        refine (HC3.out w3 HA3.out).mono ?_
        rintro _ w4 ⟨rfl, ha4⟩
        have HA4 : Hid (Apart [] w w4) := HA3.out.trans ha4
        clear ha4
        try dsimp only
        have hv : v = v3 := by rw [HV.out]; rfl
        subst hv
        go_wp2_with fail
        go_ret
        exact ⟨by first | rfl | (simp only [HFB.out]; rfl), HA4.out⟩
  · have hvf : v = false := by
      cases hvv : v with
      | false => rfl
      | true => exact absurd (hv.1 hvv).kind hk
    subst hvf
    have HF := hid (fun W => fieldsI_0 m.kind hk W)
    obtain ⟨X, HX⟩ : ∃ X, Hid (X = w.heap.size) := ⟨_, rfl⟩
    obtain ⟨w1, hw1⟩ : ∃ w1, w1 = w.alloc (.cells #[.int .i64 m.kind, .int .i64 m.frm, .int .i64 m.dst, .int .i64 m.call, .int .i64 m.rng, .int .i64 m.own, .string m.key, .int .i64 m.dn, .int .i64 m.dc, .slice m.set.p m.set.n m.set.c, .slice m.ws.p m.ws.n m.ws.c] 29) := ⟨_, rfl⟩
    have HA1 : Hid (Apart [] w w1) := by unfold Hid; rw [hw1]; exact (Apart.refl [] w).alloc _
    have HX1 : Hid (w1.heap[X]? = some (.cells #[.int .i64 m.kind, .int .i64 m.frm, .int .i64 m.dst, .int .i64 m.call, .int .i64 m.rng, .int .i64 m.own, .string m.key, .int .i64 m.dn, .int .i64 m.dc, .slice m.set.p m.set.n m.set.c, .slice m.ws.p m.ws.n m.ws.c] 29 (0, 0))) := by unfold Hid; rw [HX.out, hw1]; exact heap_alloc_new w _
    clear hm hv hk
    obtain ⟨⟨c0, c1, c2, c3, c4, c5⟩, c6, c7, c8, c9, c10⟩ := row11 HX1.out
    go_enter Tryz.func14, Tryz.ntmps14
    go_upto_region 1 with fail
    rw [← hw1, ← HX.out]
    clear hw1
    go_wp2_with fail
    refine (HF.out w1).mono ?_
    rintro _ wn ⟨rfl, hwn⟩
    rw [hwn]
    clear hwn wn
    try dsimp only
    go_wp2_with fail
    go_ret
    exact ⟨rfl, HA1.out⟩
end Go.Proofs.YtddffdcjhleejaaGreat.ds
