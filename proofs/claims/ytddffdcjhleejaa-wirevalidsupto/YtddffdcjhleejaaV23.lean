import Derived.Test.YtddffdcjhleejaaV22
namespace Go.Proofs.Ytddffdcjhleejaa.ds
open Go.ChangeShapes Go.WideShapes Go.ChangeAt Go.RowKit Go.Sort
set_option linter.unusedVariables false
set_option linter.unusedSimpArgs false
theorem enc_le : ∀ (k n : Nat), n < 128 ^ (k + 1) → (enc n).length ≤ k + 1
  | 0, n, h => by rw [enc_small (by simpa using h)]; simp
  | k + 1, n, h => by
    by_cases hs : n < 128
    · rw [enc_small hs]; simp
    · rw [enc_big hs]
      have := enc_le k (n / 128) (by rw [Nat.div_lt_iff_lt_mul (by omega)]; rw [Nat.pow_succ] at h; exact h)
      simp only [List.length_cons]
      omega
theorem enc_10 {n : Nat} (h : n < 18446744073709551616) : (enc n).length ≤ 10 := enc_le 9 n (Nat.lt_of_lt_of_le h (by decide))
theorem flat_le {α : Type} (f : α → List Nat) (c : Nat) : ∀ (l : List α), (∀ x ∈ l, (f x).length ≤ c) → (l.flatMap f).length ≤ l.length * c
  | [], _ => by simp
  | x :: l, h => by
    have h1 := h x (by simp)
    have h2 := flat_le f c l (fun y hy => h y (List.mem_cons_of_mem _ hy))
    rw [List.flatMap_cons, List.length_append, List.length_cons, Nat.add_mul]
    omega
theorem encS_le {x : S} (h : Ok 64 x) : (encS x).length ≤ 30 := by
  have a0 := h.n0; have a1 := h.n8; have a2 := h.b0; have a3 := h.bM; have a4 := h.t64
  have e1 := enc_10 (n := x.n.toNat) (by omega)
  have e2 := enc_10 (n := x.b.toNat) (by omega)
  have e3 := enc_10 a4
  unfold encS
  simp only [List.length_append]
  omega
theorem encSet_le {xs : List S} (h : OkL 64 xs) : (encSet xs).length ≤ 250 := by
  have h8 := h.le8
  have e1 := enc_10 (n := xs.length) (by omega)
  have e2 := flat_le encS 30 xs (fun x hx => encS_le (h.ok x hx))
  unfold encSet
  simp only [List.length_append]
  omega
theorem encT_le {l : List Nat} (h : l.length ≤ 64) : (encT l).length ≤ 10 + l.length := by
  have e1 := enc_10 (n := l.length) (by omega)
  unfold encT
  simp only [List.length_append]
  omega
theorem encW_le {r : Wr} (h : GoodW r) : (encW r).length ≤ 380 := by
  obtain ⟨⟨⟨d1, d2⟩, d3, d4⟩, k, v, dd, c, o⟩ := h
  have e1 := enc_10 (n := r.n.toNat) (by omega)
  have e2 := enc_10 (n := r.c.toNat) (by omega)
  have e3 := encT_le (l := bsk r.k) (by rw [bsk_len]; omega)
  rw [bsk_len] at e3
  have e4 : (encV r.d r.vs).length ≤ 84 := by
    have a0 := enc_10 (n := 0) (by omega)
    have a1 := enc_10 (n := 1) (by omega)
    have a2 := encT_le v
    unfold encV
    split
    · omega
    · simp only [List.length_append]; omega
  have e5 := encSet_le c
  unfold encW
  simp only [List.length_append]
  omega
theorem encO_le {b : Bool} {l : List Nat} {c : Nat} (h : l.length ≤ c) : (encO b l).length ≤ c := by
  unfold encO
  split
  · exact h
  · simp
theorem encM_le {g : Mg} (h : VMg g) : (encM g).length ≤ 200000 := by
  obtain ⟨n1, n2, n3⟩ := h.nums
  have v1 := h.kind; have v2 := h.frm; have v3 := h.dst
  obtain ⟨w1, w2, w3⟩ := h.wsok
  have wl : g.ws.length ≤ 512 := by
    have : mostK g.kind ≤ 512 := by unfold mostK; (repeat' split) <;> omega
    omega
  have hk : g.key.length ≤ 16 := by
    have := h.key
    split at this
    · exact this.2
    · rw [this]; simp
  have hd : g.dn ≤ 7 ∧ g.dc ≤ 1048576 := by
    have := h.dot
    split at this
    · omega
    · simp at this; omega
  have e1 := enc_10 (n := g.kind) (by omega)
  have e2 := enc_10 (n := g.frm) (by omega)
  have e3 := enc_10 (n := g.dst) (by omega)
  have e4 := encO_le (b := hasF g.kind 1) (enc_10 (n := g.call) (by omega))
  have e5 := encO_le (b := hasF g.kind 2) (enc_10 (n := g.own) (by omega))
  have e6 := encO_le (b := hasF g.kind 4) (enc_10 (n := g.rng) (by omega))
  have e7 := encO_le (b := hasF g.kind 8) (encT_le (l := g.key) (by omega))
  have e8 : (encO (hasF g.kind 16) (enc g.dn ++ enc g.dc)).length ≤ 20 := by
    have a := enc_10 (n := g.dn) (by omega)
    have b := enc_10 (n := g.dc) (by omega)
    exact encO_le (by simp only [List.length_append]; omega)
  have e9 := encO_le (b := hasF g.kind 32) (encSet_le h.okset)
  have e10 := encO_le (b := hasF g.kind 128) (enc_10 (n := g.ws.length) (by omega))
  have e11 := flat_le encW 380 g.ws (fun r hr => encW_le (h.good r hr))
  unfold encM
  simp only [List.length_append]
  omega
theorem fldK_pos {k : Nat} (h : 1 ≤ k ∧ k ≤ 11) : ¬ fldK k = 0 := by
  unfold fldK
  (repeat' split) <;> omega
set_option maxHeartbeats 4000000 in
set_option maxRecDepth 100000 in
theorem valid_yes (w : World) (m : MM) (g : Mg) (es : List E) (hm : RM w m g es) (hv : VMg g) : Calls Try.prog 33 #[.agg #[.int .i64 (m.kind : Nat), .int .i64 (m.frm : Nat), .int .i64 (m.dst : Nat), .int .i64 (m.call : Nat), .int .i64 (m.rng : Nat), .int .i64 (m.own : Nat), .string m.key, .int .i64 (m.dn : Nat), .int .i64 (m.dc : Nat), .slice m.set.p m.set.n m.set.c, .slice m.ws.p m.ws.n m.ws.c]] w fun r w' => r = .returned (.bool true) ∧ Apart [] w w' := by
  obtain ⟨fk, Hfk⟩ : ∃ fk, Hid (fk = fldK m.kind) := ⟨_, rfl⟩
  have hf0 : ¬ ((fk : Nat) : Int) = 0 := by
    have := fldK_pos hv.kind
    rw [← hm.kind, ← Hfk.out] at this
    omega
  have hfb : (((fk : Nat) : Int) != 0) = true := by simpa using hf0
  have HF : Hid (∀ W, Calls Try.prog 68 #[.int .i64 (m.kind : Nat)] W fun r w' => r = .returned (.int .u64 (fk : Int)) ∧ w' = W) := fun W => by rw [Hfk.out]; exact fieldsOf_ok m.kind W
  have HC1 : Hid (∀ W, Apart [] w W → Calls Try.prog 69 #[.agg #[.int .i64 (m.kind : Nat), .int .i64 (m.frm : Nat), .int .i64 (m.dst : Nat), .int .i64 (m.call : Nat), .int .i64 (m.rng : Nat), .int .i64 (m.own : Nat), .string m.key, .int .i64 (m.dn : Nat), .int .i64 (m.dc : Nat), .slice m.set.p m.set.n m.set.c, .slice m.ws.p m.ws.n m.ws.c], .int .u64 (fk : Int)] W fun r w' => r = .returned (.bool true) ∧ Apart [] W w') := fun W a => by rw [Hfk.out]; exact silent_yes W m g es (hm.kept0 a) hv
  have HC2 : Hid (∀ W, Apart [] w W → Calls Try.prog 70 #[.agg #[.int .i64 (m.kind : Nat), .int .i64 (m.frm : Nat), .int .i64 (m.dst : Nat), .int .i64 (m.call : Nat), .int .i64 (m.rng : Nat), .int .i64 (m.own : Nat), .string m.key, .int .i64 (m.dn : Nat), .int .i64 (m.dc : Nat), .slice m.set.p m.set.n m.set.c, .slice m.ws.p m.ws.n m.ws.c]] W fun r w' => r = .returned (.bool true) ∧ Apart [] W w') := fun W a => numbers_yes W m g es (hm.kept0 a) hv
  have HC3 : Hid (∀ W, Apart [] w W → Calls Try.prog 71 #[.agg #[.int .i64 (m.kind : Nat), .int .i64 (m.frm : Nat), .int .i64 (m.dst : Nat), .int .i64 (m.call : Nat), .int .i64 (m.rng : Nat), .int .i64 (m.own : Nat), .string m.key, .int .i64 (m.dn : Nat), .int .i64 (m.dc : Nat), .slice m.set.p m.set.n m.set.c, .slice m.ws.p m.ws.n m.ws.c], .int .u64 (fk : Int)] W fun r w' => r = .returned (.bool true) ∧ Apart [] W w') := fun W a => by rw [Hfk.out]; exact lists_yes W m g es (hm.kept0 a) hv
  clear hm hv
  obtain ⟨w1, hw1⟩ : ∃ w1, w1 = w.alloc (.cells #[.int .i64 (m.kind : Nat), .int .i64 (m.frm : Nat), .int .i64 (m.dst : Nat), .int .i64 (m.call : Nat), .int .i64 (m.rng : Nat), .int .i64 (m.own : Nat), .string m.key, .int .i64 (m.dn : Nat), .int .i64 (m.dc : Nat), .slice m.set.p m.set.n m.set.c, .slice m.ws.p m.ws.n m.ws.c] 29) := ⟨_, rfl⟩
  have HX1 : Hid (w1.heap[w.heap.size]? = some (.cells m.cs 29 (0, 0))) := by unfold Hid; rw [hw1]; exact heap_alloc_new w _
  have HA1 : Hid (Apart [] w w1) := by unfold Hid; rw [hw1]; exact (Apart.refl [] w).alloc _
  obtain ⟨X, HXX⟩ : ∃ X, Hid (X = w.heap.size) := ⟨_, rfl⟩
  rw [← HXX.out] at HX1
  obtain ⟨⟨z0, z1, z2, z3, z4, z5⟩, z6, z7, z8, z9, z10⟩ := mrow11 HX1.out
  go_enter Try.func33, Try.ntmps33
  go_upto_region 1 with fail
  rw [← hw1, ← HXX.out]
  clear hw1
  go_wp2_with fail
  refine (HF.out w1).mono ?_
  rintro _ wn ⟨rfl, hwn⟩
  rw [hwn]
  clear hwn wn
  try dsimp only
  go_wp2_with fail
  refine (HC1.out w1 HA1.out).mono ?_
  rintro _ w2 ⟨rfl, hap⟩
  have HX2 : Hid (w2.heap[X]? = some (.cells m.cs 29 (0, 0))) := (hap.block _ (lt_of_heap HX1.out) (by simp)).trans HX1.out
  have HA2 : Hid (Apart [] w w2) := HA1.out.trans hap
  clear hap z0 z1 z2 z3 z4 z5 z6 z7 z8 z9 z10
  obtain ⟨⟨z0, z1, z2, z3, z4, z5⟩, z6, z7, z8, z9, z10⟩ := mrow11 HX2.out
  try dsimp only
  go_wp2_with fail
  refine (HC2.out w2 HA2.out).mono ?_
  rintro _ w3 ⟨rfl, hap⟩
  have HX3 : Hid (w3.heap[X]? = some (.cells m.cs 29 (0, 0))) := (hap.block _ (lt_of_heap HX2.out) (by simp)).trans HX2.out
  have HA3 : Hid (Apart [] w w3) := HA2.out.trans hap
  clear hap z0 z1 z2 z3 z4 z5 z6 z7 z8 z9 z10
  obtain ⟨⟨z0, z1, z2, z3, z4, z5⟩, z6, z7, z8, z9, z10⟩ := mrow11 HX3.out
  try dsimp only
  go_wp2_with fail
  refine (HC3.out w3 HA3.out).mono ?_
  rintro _ w4 ⟨rfl, hap⟩
  have HX4 : Hid (w4.heap[X]? = some (.cells m.cs 29 (0, 0))) := (hap.block _ (lt_of_heap HX3.out) (by simp)).trans HX3.out
  have HA4 : Hid (Apart [] w w4) := HA3.out.trans hap
  clear hap z0 z1 z2 z3 z4 z5 z6 z7 z8 z9 z10
  obtain ⟨⟨z0, z1, z2, z3, z4, z5⟩, z6, z7, z8, z9, z10⟩ := mrow11 HX4.out
  try dsimp only
  go_wp2_with fail
  go_ret
  exact ⟨by first | rfl | (simp only [hfb]; rfl), HA4.out⟩
/-- bytes that were written, and no error -/
structure EncP (w : World) (l : List Nat) (e : Ending) (w' : World) : Prop where
  ex : ∃ s : Sl, e = .returned (.tuple #[.slice s.p s.n s.c, .int .i64 0]) ∧ Bf w w' s l
set_option maxHeartbeats 4000000 in
set_option maxRecDepth 100000 in
theorem encode_yes (w : World) (m : MM) (g : Mg) (es : List E) (hm : RM w m g es) (hv : VMg g) : Calls Try.prog 17 #[.agg #[.int .i64 (m.kind : Nat), .int .i64 (m.frm : Nat), .int .i64 (m.dst : Nat), .int .i64 (m.call : Nat), .int .i64 (m.rng : Nat), .int .i64 (m.own : Nat), .string m.key, .int .i64 (m.dn : Nat), .int .i64 (m.dc : Nat), .slice m.set.p m.set.n m.set.c, .slice m.ws.p m.ws.n m.ws.c]] w fun r w' => EncP w (encM g) r w' := by
  have HC1 : Hid (∀ W, Apart [] w W → Calls Try.prog 33 #[.agg #[.int .i64 (m.kind : Nat), .int .i64 (m.frm : Nat), .int .i64 (m.dst : Nat), .int .i64 (m.call : Nat), .int .i64 (m.rng : Nat), .int .i64 (m.own : Nat), .string m.key, .int .i64 (m.dn : Nat), .int .i64 (m.dc : Nat), .slice m.set.p m.set.n m.set.c, .slice m.ws.p m.ws.n m.ws.c]] W fun r w' => r = .returned (.bool true) ∧ Apart [] W w') := fun W a => valid_yes W m g es (hm.kept0 a) hv
  have HC2 : Hid (∀ W, Apart [] w W → Calls Try.prog 48 #[.slice none 0 0, .agg #[.int .i64 (m.kind : Nat), .int .i64 (m.frm : Nat), .int .i64 (m.dst : Nat), .int .i64 (m.call : Nat), .int .i64 (m.rng : Nat), .int .i64 (m.own : Nat), .string m.key, .int .i64 (m.dn : Nat), .int .i64 (m.dc : Nat), .slice m.set.p m.set.n m.set.c, .slice m.ws.p m.ws.n m.ws.c]] W fun e w' => AP W W ⟨none, 0, 0⟩ (encM g) e w') := fun W a => by
    have := amsg_ok (s := ⟨none, 0, 0⟩) (us := []) (Bf.nil (Apart.refl [] W)) m g es (hm.kept0 a) hv (by have := encM_le hv; simp; omega)
    simpa using this
  clear hm hv
  obtain ⟨w1, hw1⟩ : ∃ w1, w1 = w.alloc (.cells #[.int .i64 (m.kind : Nat), .int .i64 (m.frm : Nat), .int .i64 (m.dst : Nat), .int .i64 (m.call : Nat), .int .i64 (m.rng : Nat), .int .i64 (m.own : Nat), .string m.key, .int .i64 (m.dn : Nat), .int .i64 (m.dc : Nat), .slice m.set.p m.set.n m.set.c, .slice m.ws.p m.ws.n m.ws.c] 29) := ⟨_, rfl⟩
  have HX1 : Hid (w1.heap[w.heap.size]? = some (.cells m.cs 29 (0, 0))) := by unfold Hid; rw [hw1]; exact heap_alloc_new w _
  have HA1 : Hid (Apart [] w w1) := by unfold Hid; rw [hw1]; exact (Apart.refl [] w).alloc _
  obtain ⟨X, HXX⟩ : ∃ X, Hid (X = w.heap.size) := ⟨_, rfl⟩
  rw [← HXX.out] at HX1
  obtain ⟨⟨z0, z1, z2, z3, z4, z5⟩, z6, z7, z8, z9, z10⟩ := mrow11 HX1.out
  go_enter Try.func17, Try.ntmps17
  go_upto_region 1 with fail
  rw [← hw1, ← HXX.out]
  clear hw1
  go_wp2_with fail
  refine (HC1.out w1 HA1.out).mono ?_
  rintro _ w2 ⟨rfl, hap⟩
  have HX2 : Hid (w2.heap[X]? = some (.cells m.cs 29 (0, 0))) := (hap.block _ (lt_of_heap HX1.out) (by simp)).trans HX1.out
  have HA2 : Hid (Apart [] w w2) := HA1.out.trans hap
  clear hap z0 z1 z2 z3 z4 z5 z6 z7 z8 z9 z10
  obtain ⟨⟨z0, z1, z2, z3, z4, z5⟩, z6, z7, z8, z9, z10⟩ := mrow11 HX2.out
  try dsimp only
  go_wp2_with fail
  refine (HC2.out w2 HA2.out).mono ?_
  rintro _ w3 ⟨s3, rfl, hb3, hg3⟩
  have HB3 : Hid (Bf w w3 s3 (encM g)) := ⟨hb3.nw.from HA2.out, hb3.len⟩
  clear hb3 hg3 z0 z1 z2 z3 z4 z5 z6 z7 z8 z9 z10
  try dsimp only
  go_wp2_with fail
  go_ret2
  exact ⟨s3, rfl, HB3.out⟩
/-- what PutSet and PutWrite answer -/
structure PutP (w : World) (v : Bool) (x : Int) (l : List Nat) (e : Ending) (w' : World) : Prop where
  ap : Apart [] w w'
  yes : v = true → ∃ s : Sl, e = .returned (.tuple #[.slice s.p s.n s.c, .int .i64 0]) ∧ Bf w w' s l
  no : v = false → e = .returned (.tuple #[.slice none 0 0, .int .i64 x])
set_option maxHeartbeats 4000000 in
set_option maxRecDepth 100000 in
theorem putSet_ok (w : World) (p : Option Addr) (n c : Nat) (xs : List S) (hx : L w p n xs) (v : Bool) (hv : v = true ↔ OkL 64 xs) : Calls Try.prog 22 #[.slice p n c] w fun r w' => PutP w v 30 (encSet xs) r w' := by
  have HC1 := hid (isSet_wire (cap := c) hx v hv)
  have HC2 : Hid (v = true → ∀ W, Apart [] w W → Calls Try.prog 55 #[.slice none 0 0, .slice p n c] W fun e w' => AP W W ⟨none, 0, 0⟩ (encSet xs) e w') := fun h W a => by
    have ho := hv.1 h
    have hl := hx.len
    have h1 := hx.kept0 a
    rw [← hl] at h1
    rw [← hl]
    have := aset_ok (s := ⟨none, 0, 0⟩) (us := []) (c := c) (Bf.nil (Apart.refl [] W)) xs h1 (by have := ho.le8; omega) (fun y hy => by
      have := ho.ok y hy
      have a1 := this.n0
      have a2 := this.n8
      have a3 := this.b0
      have a4 := this.bM
      exact ⟨⟨a1, by omega⟩, a3, by omega⟩) (by have := encSet_le ho; simp; omega)
    simpa using this
  clear hx hv
  go_enter Try.func22, Try.ntmps22
  go_wp2_with fail
  refine HC1.out.mono ?_
  rintro _ w2 ⟨rfl, ha2⟩
  have HA2 := hid ha2
  clear ha2
  try dsimp only
  cases v with
  | false =>
    go_wp2_with fail
    go_ret2
    exact ⟨HA2.out, fun h => (by cases h), fun _ => rfl⟩
  | true =>
    go_wp2_with fail
    refine (HC2.out (by trivial) w2 HA2.out).mono ?_
    rintro _ w3 ⟨s3, rfl, hb3, hg3⟩
    have HB3 : Hid (Bf w w3 s3 (encSet xs)) := ⟨hb3.nw.from HA2.out, hb3.len⟩
    clear hb3 hg3
    try dsimp only
    go_wp2_with fail
    go_ret2
    exact ⟨HB3.out.nw.ap, fun _ => ⟨s3, rfl, HB3.out⟩, fun h => (by cases h)⟩
set_option maxHeartbeats 4000000 in
set_option maxRecDepth 100000 in
theorem putWrite_ok (w : World) (e : E) (r : Wr) (hr : Reads w e r) (v : Bool) (hv : v = true ↔ GoodW r) : Calls Try.prog 20 #[.agg #[.int .i64 e.n, .int .i64 e.c, .string e.k, .bool e.d, .slice e.v.p e.v.n e.v.c, .slice e.x.p e.x.n e.x.c]] w fun r' w' => PutP w v 52 (encW r) r' w' := by
  have HC1 : Hid (∀ W, Apart [] w W → Calls Try.prog 52 #[.agg #[.int .i64 e.n, .int .i64 e.c, .string e.k, .bool e.d, .slice e.v.p e.v.n e.v.c, .slice e.x.p e.x.n e.x.c]] W fun r w' => r = .returned (.bool v) ∧ Apart [] W w') := fun W a => wisWrite_ok W e r (hr.kept0 a) v hv
  have HC2 : Hid (v = true → ∀ W, Apart [] w W → Calls Try.prog 53 #[.slice none 0 0, .agg #[.int .i64 e.n, .int .i64 e.c, .string e.k, .bool e.d, .slice e.v.p e.v.n e.v.c, .slice e.x.p e.x.n e.x.c]] W fun e w' => AP W W ⟨none, 0, 0⟩ (encW r) e w') := fun h W a => by
    have ho := hv.1 h
    have := awrite_ok (s := ⟨none, 0, 0⟩) (us := []) (Bf.nil (Apart.refl [] W)) e r (hr.kept0 a) ho (by have := encW_le ho; simp; omega)
    simpa [aggE] using this
  clear hr hv
  obtain ⟨w1, hw1⟩ : ∃ w1, w1 = w.alloc (.cells #[.int .i64 e.n, .int .i64 e.c, .string e.k, .bool e.d, .slice e.v.p e.v.n e.v.c, .slice e.x.p e.x.n e.x.c] 41) := ⟨_, rfl⟩
  have HX1 : Hid (w1.heap[w.heap.size]? = some (.cells #[.int .i64 e.n, .int .i64 e.c, .string e.k, .bool e.d, .slice e.v.p e.v.n e.v.c, .slice e.x.p e.x.n e.x.c] 41 (0, 0))) := by unfold Hid; rw [hw1]; exact heap_alloc_new w _
  have HA1 : Hid (Apart [] w w1) := by unfold Hid; rw [hw1]; exact (Apart.refl [] w).alloc _
  obtain ⟨X, HXX⟩ : ∃ X, Hid (X = w.heap.size) := ⟨_, rfl⟩
  rw [← HXX.out] at HX1
  obtain ⟨z0, z1, z2, z3, z4, z5⟩ := rowv6 HX1.out
  go_enter Try.func20, Try.ntmps20
  go_upto_region 1 with fail
  rw [← hw1, ← HXX.out]
  clear hw1
  go_wp2_with fail
  refine (HC1.out w1 HA1.out).mono ?_
  rintro _ w2 ⟨rfl, ha2⟩
  have HA2 : Hid (Apart [] w w2) := HA1.out.trans ha2
  have HX2 : Hid (w2.heap[X]? = some (.cells #[.int .i64 e.n, .int .i64 e.c, .string e.k, .bool e.d, .slice e.v.p e.v.n e.v.c, .slice e.x.p e.x.n e.x.c] 41 (0, 0))) := (ha2.block _ (lt_of_heap HX1.out) (by simp)).trans HX1.out
  clear ha2 z0 z1 z2 z3 z4 z5
  obtain ⟨z0, z1, z2, z3, z4, z5⟩ := rowv6 HX2.out
  try dsimp only
  cases v with
  | false =>
    go_wp2_with fail
    go_ret2
    exact ⟨HA2.out, fun h => (by cases h), fun _ => rfl⟩
  | true =>
    go_wp2_with fail
    refine (HC2.out (by trivial) w2 HA2.out).mono ?_
    rintro _ w3 ⟨s3, rfl, hb3, hg3⟩
    have HB3 : Hid (Bf w w3 s3 (encW r)) := ⟨hb3.nw.from HA2.out, hb3.len⟩
    clear hb3 hg3 z0 z1 z2 z3 z4 z5
    try dsimp only
    go_wp2_with fail
    go_ret2
    exact ⟨HB3.out.nw.ap, fun _ => ⟨s3, rfl, HB3.out⟩, fun h => (by cases h)⟩
end Go.Proofs.Ytddffdcjhleejaa.ds
