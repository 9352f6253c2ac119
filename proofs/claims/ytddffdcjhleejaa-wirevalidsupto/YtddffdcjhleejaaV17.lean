import Derived.Test.YtddffdcjhleejaaV16
namespace Go.Proofs.Ytddffdcjhleejaa.ds
open Go.ChangeShapes Go.WideShapes Go.ChangeAt Go.RowKit Go.Sort
set_option linter.unusedVariables false
set_option linter.unusedSimpArgs false
theorem hasF_8 (k : Nat) (h : hasF k 64 = true) : hasF k 8 = false ∧ hasF k 16 = false ∧ mostK k = 1 ∧ k ≠ 5 := by
  unfold hasF fldK mostK at *
  (repeat' split at h) <;> simp_all
theorem VMg.wsok {g : Mg} (h : VMg g) : WsOk (strB g.key) 0 0 g.ws ∧ g.ws.length ≤ mostK g.kind ∧ (hasF g.kind 64 = true → g.ws.length = 1) := by
  have hw := h.ws
  have hno := hasF_not g.kind
  by_cases h1 : hasF g.kind 128 = true
  · rw [if_pos h1] at hw
    exact ⟨hw.2, hw.1, fun h6 => absurd ⟨h6, h1⟩ hno⟩
  · rw [if_neg h1] at hw
    by_cases h6 : hasF g.kind 64 = true
    · rw [if_pos h6] at hw
      obtain ⟨r, e, hr⟩ := hw
      obtain ⟨k8, _, km, _⟩ := hasF_8 _ h6
      have hk := h.key
      rw [k8] at hk
      simp only [Bool.false_eq_true, if_false] at hk
      rw [e, hk, km]
      exact ⟨⟨⟨hr, hr.ris, .inl rfl⟩, trivial⟩, by simp, fun _ => rfl⟩
    · rw [if_neg h6] at hw
      rw [hw]
      exact ⟨trivial, by simp, fun h => absurd h h6⟩
theorem VMg.zero {g : Mg} (h : VMg g) : (hasF g.kind 1 = false → g.call = 0) ∧ (hasF g.kind 2 = false → g.own = 0) ∧ (hasF g.kind 4 = false → g.rng = 0) ∧ (hasF g.kind 8 = false → g.key = []) ∧ (hasF g.kind 16 = false → g.dn = 0 ∧ g.dc = 0) ∧ (hasF g.kind 32 = false → g.set = []) ∧ (hasF g.kind 192 = false → g.ws = []) := by
  refine ⟨fun e => ?_, fun e => ?_, fun e => ?_, fun e => ?_, fun e => ?_, fun e => ?_, fun e => ?_⟩
  · have := h.call; rw [e] at this; simpa using this
  · have := h.own; rw [e] at this; simpa using this
  · have := h.rng; rw [e] at this; simpa using this
  · have := h.key; rw [e] at this; simpa using this
  · have := h.dot; rw [e] at this; simpa using this
  · have := h.set; rw [e] at this; simpa using this
  · have := h.ws
    have e1 : hasF g.kind 128 = false ∧ hasF g.kind 64 = false := by
      unfold hasF fldK at *
      (repeat' split at e) <;> simp_all
    rw [e1.1, e1.2] at this
    simpa using this
theorem VMg.kinds {g : Mg} (h : VMg g) : g.kind = 1 ∨ g.kind = 2 ∨ g.kind = 3 ∨ g.kind = 4 ∨ g.kind = 5 ∨ g.kind = 6 ∨ g.kind = 7 ∨ g.kind = 8 ∨ g.kind = 9 ∨ g.kind = 10 ∨ g.kind = 11 := by
  have := h.kind
  omega
theorem VMg.nums {g : Mg} (h : VMg g) : g.call ≤ 4096 ∧ g.own ≤ 7 ∧ g.rng ≤ 15 := by
  have v4 := h.call; have v5 := h.own; have v6 := h.rng
  refine ⟨?_, ?_, ?_⟩
  · split at v4 <;> omega
  · split at v5 <;> omega
  · split at v6 <;> omega
set_option maxHeartbeats 4000000 in
set_option maxRecDepth 100000 in
theorem numbers_yes (w : World) (m : MM) (g : Mg) (es : List E) (hm : RM w m g es) (hv : VMg g) : Calls Try.prog 70 #[.agg #[.int .i64 (m.kind : Nat), .int .i64 (m.frm : Nat), .int .i64 (m.dst : Nat), .int .i64 (m.call : Nat), .int .i64 (m.rng : Nat), .int .i64 (m.own : Nat), .string m.key, .int .i64 (m.dn : Nat), .int .i64 (m.dc : Nat), .slice m.set.p m.set.n m.set.c, .slice m.ws.p m.ws.n m.ws.c]] w fun r w' => r = .returned (.bool true) ∧ Apart [] w w' := by
  have v1 := hv.frm
  have v2 := hv.dst
  obtain ⟨v3, v4, v5⟩ := hv.nums
  rw [← hm.frm] at v1
  rw [← hm.dst] at v2
  rw [← hm.call] at v3
  rw [← hm.own] at v4
  rw [← hm.rng] at v5
  have HC1 : Hid (∀ W, Calls Try.prog 104 #[.int .i64 (m.frm : Nat)] W fun r w' => r = .returned (.bool true) ∧ w' = W) := fun W => isNode_ok _ true (by simp; omega) W
  have HC2 : Hid (∀ W, Calls Try.prog 104 #[.int .i64 (m.dst : Nat)] W fun r w' => r = .returned (.bool true) ∧ w' = W) := fun W => isNode_ok _ true (by simp; omega) W
  have HC3 : Hid (∀ W, Calls Try.prog 105 #[.int .i64 (m.call : Nat), .int .i64 0, .int .i64 4096] W fun r w' => r = .returned (.bool true) ∧ w' = W) := fun W => within_ok _ 0 4096 true (by simp; omega) W
  have HC4 : Hid (∀ W, Calls Try.prog 104 #[.int .i64 (m.own : Nat)] W fun r w' => r = .returned (.bool true) ∧ w' = W) := fun W => isNode_ok _ true (by simp; omega) W
  have HC5 : Hid (∀ W, Calls Try.prog 105 #[.int .i64 (m.rng : Nat), .int .i64 0, .int .i64 15] W fun r w' => r = .returned (.bool true) ∧ w' = W) := fun W => within_ok _ 0 15 true (by simp; omega) W
  clear hm hv
  obtain ⟨w1, hw1⟩ : ∃ w1, w1 = w.alloc (.cells #[.int .i64 (m.kind : Nat), .int .i64 (m.frm : Nat), .int .i64 (m.dst : Nat), .int .i64 (m.call : Nat), .int .i64 (m.rng : Nat), .int .i64 (m.own : Nat), .string m.key, .int .i64 (m.dn : Nat), .int .i64 (m.dc : Nat), .slice m.set.p m.set.n m.set.c, .slice m.ws.p m.ws.n m.ws.c] 29) := ⟨_, rfl⟩
  have HX1 : Hid (w1.heap[w.heap.size]? = some (.cells m.cs 29 (0, 0))) := by unfold Hid; rw [hw1]; exact heap_alloc_new w _
  have HA1 : Hid (Apart [] w w1) := by unfold Hid; rw [hw1]; exact (Apart.refl [] w).alloc _
  obtain ⟨X, HXX⟩ : ∃ X, Hid (X = w.heap.size) := ⟨_, rfl⟩
  rw [← HXX.out] at HX1
  obtain ⟨⟨z0, z1, z2, z3, z4, z5⟩, z6, z7, z8, z9, z10⟩ := mrow11 HX1.out
  go_enter Try.func70, Try.ntmps70
  go_upto_region 1 with fail
  rw [← hw1, ← HXX.out]
  clear hw1
  go_wp2_with fail
  refine (HC1.out w1).mono ?_
  rintro _ wn ⟨rfl, hwn⟩
  rw [hwn]
  clear hwn wn
  try dsimp only
  go_wp2_with fail
  refine (HC2.out w1).mono ?_
  rintro _ wn ⟨rfl, hwn⟩
  rw [hwn]
  clear hwn wn
  try dsimp only
  go_wp2_with fail
  refine (HC3.out w1).mono ?_
  rintro _ wn ⟨rfl, hwn⟩
  rw [hwn]
  clear hwn wn
  try dsimp only
  go_wp2_with fail
  refine (HC4.out w1).mono ?_
  rintro _ wn ⟨rfl, hwn⟩
  rw [hwn]
  clear hwn wn
  try dsimp only
  go_wp2_with fail
  refine (HC5.out w1).mono ?_
  rintro _ wn ⟨rfl, hwn⟩
  rw [hwn]
  clear hwn wn
  try dsimp only
  go_wp2_with fail
  go_ret
  exact ⟨rfl, HA1.out⟩
theorem name_all (k f : Nat) (b : Bool) (hf : f < 256) (hb : decide (fldK k &&& f ≠ 0) = b) (F : Nat) (hF : fldK k = F) : ∀ W, Calls Try.prog 79 #[.int .u64 (F : Int), .int .u64 (f : Int)] W fun r w' => r = .returned (.bool b) ∧ w' = W := fun W => by
  rw [← hF]
  exact name_wire (fldK k) f (fldK_lt k) hf b hb.symm W
set_option maxHeartbeats 4000000 in
set_option maxRecDepth 100000 in
theorem silent_1 (w : World) (m : MM) (g : Mg) (es : List E) (hm : RM w m g es) (hv : VMg g) (hk : g.kind = 1) : Calls Try.prog 69 #[.agg #[.int .i64 (m.kind : Nat), .int .i64 (m.frm : Nat), .int .i64 (m.dst : Nat), .int .i64 (m.call : Nat), .int .i64 (m.rng : Nat), .int .i64 (m.own : Nat), .string m.key, .int .i64 (m.dn : Nat), .int .i64 (m.dc : Nat), .slice m.set.p m.set.n m.set.c, .slice m.ws.p m.ws.n m.ws.c], .int .u64 65] w fun r w' => r = .returned (.bool true) ∧ Apart [] w w' := by
  obtain ⟨u1, u2, u4, u8, u16, u32, u192⟩ := hv.zero
  rw [hk] at u1 u2 u4 u8 u16 u32 u192
  have HN1 : Hid (∀ W, Calls Try.prog 79 #[.int .u64 65, .int .u64 1] W fun r w' => r = .returned (.bool true) ∧ w' = W) := name_all 1 1 true (by decide) (by decide) 65 (by decide)
  have HN2 : Hid (∀ W, Calls Try.prog 79 #[.int .u64 65, .int .u64 2] W fun r w' => r = .returned (.bool false) ∧ w' = W) := name_all 1 2 false (by decide) (by decide) 65 (by decide)
  have HN4 : Hid (∀ W, Calls Try.prog 79 #[.int .u64 65, .int .u64 4] W fun r w' => r = .returned (.bool false) ∧ w' = W) := name_all 1 4 false (by decide) (by decide) 65 (by decide)
  have HN8 : Hid (∀ W, Calls Try.prog 79 #[.int .u64 65, .int .u64 8] W fun r w' => r = .returned (.bool false) ∧ w' = W) := name_all 1 8 false (by decide) (by decide) 65 (by decide)
  have HN16 : Hid (∀ W, Calls Try.prog 79 #[.int .u64 65, .int .u64 16] W fun r w' => r = .returned (.bool false) ∧ w' = W) := name_all 1 16 false (by decide) (by decide) 65 (by decide)
  have HN32 : Hid (∀ W, Calls Try.prog 79 #[.int .u64 65, .int .u64 32] W fun r w' => r = .returned (.bool false) ∧ w' = W) := name_all 1 32 false (by decide) (by decide) 65 (by decide)
  have HN192 : Hid (∀ W, Calls Try.prog 79 #[.int .u64 65, .int .u64 192] W fun r w' => r = .returned (.bool true) ∧ w' = W) := name_all 1 192 true (by decide) (by decide) 65 (by decide)
  have y5 : m.own = 0 := by rw [hm.own]; exact u2 (by decide)
  have y4 : m.rng = 0 := by rw [hm.rng]; exact u4 (by decide)
  have y6 : m.key = ⟨#[]⟩ := by rw [hm.key, u8 (by decide)]; rfl
  have y7 : m.dn = 0 := by rw [hm.dn]; exact (u16 (by decide)).1
  have y8 : m.dc = 0 := by rw [hm.dc]; exact (u16 (by decide)).2
  have y9 : m.set.n = 0 := by have := hm.set.len; rw [u32 (by decide)] at this; simpa using this.symm
  clear u1 u2 u4 u8 u16 u32 u192 hm hv hk
  obtain ⟨kind, frm, dst, call, rng, own, key, dn, dc, set, ws⟩ := m
  obtain ⟨sp, sn, sc⟩ := set
  obtain ⟨wp', wn', wc'⟩ := ws
  simp only at y5 y4 y6 y7 y8 y9 ⊢
  subst y5 y4 y6 y7 y8 y9
  go_enter Try.func69, Try.ntmps69
  go_wp2_with fail
  refine (HN1.out _).mono ?_
  rintro _ wn ⟨rfl, hwn⟩
  rw [hwn]
  clear hwn wn
  try dsimp only
  go_wp2_with fail
  refine (HN2.out _).mono ?_
  rintro _ wn ⟨rfl, hwn⟩
  rw [hwn]
  clear hwn wn
  try dsimp only
  go_wp2_with fail
  refine (HN4.out _).mono ?_
  rintro _ wn ⟨rfl, hwn⟩
  rw [hwn]
  clear hwn wn
  try dsimp only
  go_wp2_with fail
  refine (HN8.out _).mono ?_
  rintro _ wn ⟨rfl, hwn⟩
  rw [hwn]
  clear hwn wn
  try dsimp only
  go_wp2_with fail
  refine (HN16.out _).mono ?_
  rintro _ wn ⟨rfl, hwn⟩
  rw [hwn]
  clear hwn wn
  try dsimp only
  go_wp2_with fail
  refine (HN32.out _).mono ?_
  rintro _ wn ⟨rfl, hwn⟩
  rw [hwn]
  clear hwn wn
  try dsimp only
  go_wp2_with fail
  refine (HN192.out _).mono ?_
  rintro _ wn ⟨rfl, hwn⟩
  rw [hwn]
  clear hwn wn
  try dsimp only
  go_wp2_with fail
  go_ret
  exact ⟨rfl, (Apart.refl [] w).alloc _⟩
set_option maxHeartbeats 4000000 in
set_option maxRecDepth 100000 in
theorem silent_2 (w : World) (m : MM) (g : Mg) (es : List E) (hm : RM w m g es) (hv : VMg g) (hk : g.kind = 2) : Calls Try.prog 69 #[.agg #[.int .i64 (m.kind : Nat), .int .i64 (m.frm : Nat), .int .i64 (m.dst : Nat), .int .i64 (m.call : Nat), .int .i64 (m.rng : Nat), .int .i64 (m.own : Nat), .string m.key, .int .i64 (m.dn : Nat), .int .i64 (m.dc : Nat), .slice m.set.p m.set.n m.set.c, .slice m.ws.p m.ws.n m.ws.c], .int .u64 3] w fun r w' => r = .returned (.bool true) ∧ Apart [] w w' := by
  obtain ⟨u1, u2, u4, u8, u16, u32, u192⟩ := hv.zero
  rw [hk] at u1 u2 u4 u8 u16 u32 u192
  have HN1 : Hid (∀ W, Calls Try.prog 79 #[.int .u64 3, .int .u64 1] W fun r w' => r = .returned (.bool true) ∧ w' = W) := name_all 2 1 true (by decide) (by decide) 3 (by decide)
  have HN2 : Hid (∀ W, Calls Try.prog 79 #[.int .u64 3, .int .u64 2] W fun r w' => r = .returned (.bool true) ∧ w' = W) := name_all 2 2 true (by decide) (by decide) 3 (by decide)
  have HN4 : Hid (∀ W, Calls Try.prog 79 #[.int .u64 3, .int .u64 4] W fun r w' => r = .returned (.bool false) ∧ w' = W) := name_all 2 4 false (by decide) (by decide) 3 (by decide)
  have HN8 : Hid (∀ W, Calls Try.prog 79 #[.int .u64 3, .int .u64 8] W fun r w' => r = .returned (.bool false) ∧ w' = W) := name_all 2 8 false (by decide) (by decide) 3 (by decide)
  have HN16 : Hid (∀ W, Calls Try.prog 79 #[.int .u64 3, .int .u64 16] W fun r w' => r = .returned (.bool false) ∧ w' = W) := name_all 2 16 false (by decide) (by decide) 3 (by decide)
  have HN32 : Hid (∀ W, Calls Try.prog 79 #[.int .u64 3, .int .u64 32] W fun r w' => r = .returned (.bool false) ∧ w' = W) := name_all 2 32 false (by decide) (by decide) 3 (by decide)
  have HN192 : Hid (∀ W, Calls Try.prog 79 #[.int .u64 3, .int .u64 192] W fun r w' => r = .returned (.bool false) ∧ w' = W) := name_all 2 192 false (by decide) (by decide) 3 (by decide)
  have y4 : m.rng = 0 := by rw [hm.rng]; exact u4 (by decide)
  have y6 : m.key = ⟨#[]⟩ := by rw [hm.key, u8 (by decide)]; rfl
  have y7 : m.dn = 0 := by rw [hm.dn]; exact (u16 (by decide)).1
  have y8 : m.dc = 0 := by rw [hm.dc]; exact (u16 (by decide)).2
  have y9 : m.set.n = 0 := by have := hm.set.len; rw [u32 (by decide)] at this; simpa using this.symm
  have y10 : m.ws.n = 0 := by have := hm.ws.rl; rw [u192 (by decide)] at this; simpa using this.symm
  clear u1 u2 u4 u8 u16 u32 u192 hm hv hk
  obtain ⟨kind, frm, dst, call, rng, own, key, dn, dc, set, ws⟩ := m
  obtain ⟨sp, sn, sc⟩ := set
  obtain ⟨wp', wn', wc'⟩ := ws
  simp only at y4 y6 y7 y8 y9 y10 ⊢
  subst y4 y6 y7 y8 y9 y10
  go_enter Try.func69, Try.ntmps69
  go_wp2_with fail
  refine (HN1.out _).mono ?_
  rintro _ wn ⟨rfl, hwn⟩
  rw [hwn]
  clear hwn wn
  try dsimp only
  go_wp2_with fail
  refine (HN2.out _).mono ?_
  rintro _ wn ⟨rfl, hwn⟩
  rw [hwn]
  clear hwn wn
  try dsimp only
  go_wp2_with fail
  refine (HN4.out _).mono ?_
  rintro _ wn ⟨rfl, hwn⟩
  rw [hwn]
  clear hwn wn
  try dsimp only
  go_wp2_with fail
  refine (HN8.out _).mono ?_
  rintro _ wn ⟨rfl, hwn⟩
  rw [hwn]
  clear hwn wn
  try dsimp only
  go_wp2_with fail
  refine (HN16.out _).mono ?_
  rintro _ wn ⟨rfl, hwn⟩
  rw [hwn]
  clear hwn wn
  try dsimp only
  go_wp2_with fail
  refine (HN32.out _).mono ?_
  rintro _ wn ⟨rfl, hwn⟩
  rw [hwn]
  clear hwn wn
  try dsimp only
  go_wp2_with fail
  refine (HN192.out _).mono ?_
  rintro _ wn ⟨rfl, hwn⟩
  rw [hwn]
  clear hwn wn
  try dsimp only
  go_wp2_with fail
  go_ret
  exact ⟨rfl, (Apart.refl [] w).alloc _⟩
set_option maxHeartbeats 4000000 in
set_option maxRecDepth 100000 in
theorem silent_3 (w : World) (m : MM) (g : Mg) (es : List E) (hm : RM w m g es) (hv : VMg g) (hk : g.kind = 3) : Calls Try.prog 69 #[.agg #[.int .i64 (m.kind : Nat), .int .i64 (m.frm : Nat), .int .i64 (m.dst : Nat), .int .i64 (m.call : Nat), .int .i64 (m.rng : Nat), .int .i64 (m.own : Nat), .string m.key, .int .i64 (m.dn : Nat), .int .i64 (m.dc : Nat), .slice m.set.p m.set.n m.set.c, .slice m.ws.p m.ws.n m.ws.c], .int .u64 67] w fun r w' => r = .returned (.bool true) ∧ Apart [] w w' := by
  obtain ⟨u1, u2, u4, u8, u16, u32, u192⟩ := hv.zero
  rw [hk] at u1 u2 u4 u8 u16 u32 u192
  have HN1 : Hid (∀ W, Calls Try.prog 79 #[.int .u64 67, .int .u64 1] W fun r w' => r = .returned (.bool true) ∧ w' = W) := name_all 3 1 true (by decide) (by decide) 67 (by decide)
  have HN2 : Hid (∀ W, Calls Try.prog 79 #[.int .u64 67, .int .u64 2] W fun r w' => r = .returned (.bool true) ∧ w' = W) := name_all 3 2 true (by decide) (by decide) 67 (by decide)
  have HN4 : Hid (∀ W, Calls Try.prog 79 #[.int .u64 67, .int .u64 4] W fun r w' => r = .returned (.bool false) ∧ w' = W) := name_all 3 4 false (by decide) (by decide) 67 (by decide)
  have HN8 : Hid (∀ W, Calls Try.prog 79 #[.int .u64 67, .int .u64 8] W fun r w' => r = .returned (.bool false) ∧ w' = W) := name_all 3 8 false (by decide) (by decide) 67 (by decide)
  have HN16 : Hid (∀ W, Calls Try.prog 79 #[.int .u64 67, .int .u64 16] W fun r w' => r = .returned (.bool false) ∧ w' = W) := name_all 3 16 false (by decide) (by decide) 67 (by decide)
  have HN32 : Hid (∀ W, Calls Try.prog 79 #[.int .u64 67, .int .u64 32] W fun r w' => r = .returned (.bool false) ∧ w' = W) := name_all 3 32 false (by decide) (by decide) 67 (by decide)
  have HN192 : Hid (∀ W, Calls Try.prog 79 #[.int .u64 67, .int .u64 192] W fun r w' => r = .returned (.bool true) ∧ w' = W) := name_all 3 192 true (by decide) (by decide) 67 (by decide)
  have y4 : m.rng = 0 := by rw [hm.rng]; exact u4 (by decide)
  have y6 : m.key = ⟨#[]⟩ := by rw [hm.key, u8 (by decide)]; rfl
  have y7 : m.dn = 0 := by rw [hm.dn]; exact (u16 (by decide)).1
  have y8 : m.dc = 0 := by rw [hm.dc]; exact (u16 (by decide)).2
  have y9 : m.set.n = 0 := by have := hm.set.len; rw [u32 (by decide)] at this; simpa using this.symm
  clear u1 u2 u4 u8 u16 u32 u192 hm hv hk
  obtain ⟨kind, frm, dst, call, rng, own, key, dn, dc, set, ws⟩ := m
  obtain ⟨sp, sn, sc⟩ := set
  obtain ⟨wp', wn', wc'⟩ := ws
  simp only at y4 y6 y7 y8 y9 ⊢
  subst y4 y6 y7 y8 y9
  go_enter Try.func69, Try.ntmps69
  go_wp2_with fail
  refine (HN1.out _).mono ?_
  rintro _ wn ⟨rfl, hwn⟩
  rw [hwn]
  clear hwn wn
  try dsimp only
  go_wp2_with fail
  refine (HN2.out _).mono ?_
  rintro _ wn ⟨rfl, hwn⟩
  rw [hwn]
  clear hwn wn
  try dsimp only
  go_wp2_with fail
  refine (HN4.out _).mono ?_
  rintro _ wn ⟨rfl, hwn⟩
  rw [hwn]
  clear hwn wn
  try dsimp only
  go_wp2_with fail
  refine (HN8.out _).mono ?_
  rintro _ wn ⟨rfl, hwn⟩
  rw [hwn]
  clear hwn wn
  try dsimp only
  go_wp2_with fail
  refine (HN16.out _).mono ?_
  rintro _ wn ⟨rfl, hwn⟩
  rw [hwn]
  clear hwn wn
  try dsimp only
  go_wp2_with fail
  refine (HN32.out _).mono ?_
  rintro _ wn ⟨rfl, hwn⟩
  rw [hwn]
  clear hwn wn
  try dsimp only
  go_wp2_with fail
  refine (HN192.out _).mono ?_
  rintro _ wn ⟨rfl, hwn⟩
  rw [hwn]
  clear hwn wn
  try dsimp only
  go_wp2_with fail
  go_ret
  exact ⟨rfl, (Apart.refl [] w).alloc _⟩
set_option maxHeartbeats 4000000 in
set_option maxRecDepth 100000 in
theorem silent_4 (w : World) (m : MM) (g : Mg) (es : List E) (hm : RM w m g es) (hv : VMg g) (hk : g.kind = 4) : Calls Try.prog 69 #[.agg #[.int .i64 (m.kind : Nat), .int .i64 (m.frm : Nat), .int .i64 (m.dst : Nat), .int .i64 (m.call : Nat), .int .i64 (m.rng : Nat), .int .i64 (m.own : Nat), .string m.key, .int .i64 (m.dn : Nat), .int .i64 (m.dc : Nat), .slice m.set.p m.set.n m.set.c, .slice m.ws.p m.ws.n m.ws.c], .int .u64 9] w fun r w' => r = .returned (.bool true) ∧ Apart [] w w' := by
  obtain ⟨u1, u2, u4, u8, u16, u32, u192⟩ := hv.zero
  rw [hk] at u1 u2 u4 u8 u16 u32 u192
  have HN1 : Hid (∀ W, Calls Try.prog 79 #[.int .u64 9, .int .u64 1] W fun r w' => r = .returned (.bool true) ∧ w' = W) := name_all 4 1 true (by decide) (by decide) 9 (by decide)
  have HN2 : Hid (∀ W, Calls Try.prog 79 #[.int .u64 9, .int .u64 2] W fun r w' => r = .returned (.bool false) ∧ w' = W) := name_all 4 2 false (by decide) (by decide) 9 (by decide)
  have HN4 : Hid (∀ W, Calls Try.prog 79 #[.int .u64 9, .int .u64 4] W fun r w' => r = .returned (.bool false) ∧ w' = W) := name_all 4 4 false (by decide) (by decide) 9 (by decide)
  have HN8 : Hid (∀ W, Calls Try.prog 79 #[.int .u64 9, .int .u64 8] W fun r w' => r = .returned (.bool true) ∧ w' = W) := name_all 4 8 true (by decide) (by decide) 9 (by decide)
  have HN16 : Hid (∀ W, Calls Try.prog 79 #[.int .u64 9, .int .u64 16] W fun r w' => r = .returned (.bool false) ∧ w' = W) := name_all 4 16 false (by decide) (by decide) 9 (by decide)
  have HN32 : Hid (∀ W, Calls Try.prog 79 #[.int .u64 9, .int .u64 32] W fun r w' => r = .returned (.bool false) ∧ w' = W) := name_all 4 32 false (by decide) (by decide) 9 (by decide)
  have HN192 : Hid (∀ W, Calls Try.prog 79 #[.int .u64 9, .int .u64 192] W fun r w' => r = .returned (.bool false) ∧ w' = W) := name_all 4 192 false (by decide) (by decide) 9 (by decide)
  have y5 : m.own = 0 := by rw [hm.own]; exact u2 (by decide)
  have y4 : m.rng = 0 := by rw [hm.rng]; exact u4 (by decide)
  have y7 : m.dn = 0 := by rw [hm.dn]; exact (u16 (by decide)).1
  have y8 : m.dc = 0 := by rw [hm.dc]; exact (u16 (by decide)).2
  have y9 : m.set.n = 0 := by have := hm.set.len; rw [u32 (by decide)] at this; simpa using this.symm
  have y10 : m.ws.n = 0 := by have := hm.ws.rl; rw [u192 (by decide)] at this; simpa using this.symm
  clear u1 u2 u4 u8 u16 u32 u192 hm hv hk
  obtain ⟨kind, frm, dst, call, rng, own, key, dn, dc, set, ws⟩ := m
  obtain ⟨sp, sn, sc⟩ := set
  obtain ⟨wp', wn', wc'⟩ := ws
  simp only at y5 y4 y7 y8 y9 y10 ⊢
  subst y5 y4 y7 y8 y9 y10
  go_enter Try.func69, Try.ntmps69
  go_wp2_with fail
  refine (HN1.out _).mono ?_
  rintro _ wn ⟨rfl, hwn⟩
  rw [hwn]
  clear hwn wn
  try dsimp only
  go_wp2_with fail
  refine (HN2.out _).mono ?_
  rintro _ wn ⟨rfl, hwn⟩
  rw [hwn]
  clear hwn wn
  try dsimp only
  go_wp2_with fail
  refine (HN4.out _).mono ?_
  rintro _ wn ⟨rfl, hwn⟩
  rw [hwn]
  clear hwn wn
  try dsimp only
  go_wp2_with fail
  refine (HN8.out _).mono ?_
  rintro _ wn ⟨rfl, hwn⟩
  rw [hwn]
  clear hwn wn
  try dsimp only
  go_wp2_with fail
  refine (HN16.out _).mono ?_
  rintro _ wn ⟨rfl, hwn⟩
  rw [hwn]
  clear hwn wn
  try dsimp only
  go_wp2_with fail
  refine (HN32.out _).mono ?_
  rintro _ wn ⟨rfl, hwn⟩
  rw [hwn]
  clear hwn wn
  try dsimp only
  go_wp2_with fail
  refine (HN192.out _).mono ?_
  rintro _ wn ⟨rfl, hwn⟩
  rw [hwn]
  clear hwn wn
  try dsimp only
  go_wp2_with fail
  go_ret
  exact ⟨rfl, (Apart.refl [] w).alloc _⟩
set_option maxHeartbeats 4000000 in
set_option maxRecDepth 100000 in
theorem silent_5 (w : World) (m : MM) (g : Mg) (es : List E) (hm : RM w m g es) (hv : VMg g) (hk : g.kind = 5) : Calls Try.prog 69 #[.agg #[.int .i64 (m.kind : Nat), .int .i64 (m.frm : Nat), .int .i64 (m.dst : Nat), .int .i64 (m.call : Nat), .int .i64 (m.rng : Nat), .int .i64 (m.own : Nat), .string m.key, .int .i64 (m.dn : Nat), .int .i64 (m.dc : Nat), .slice m.set.p m.set.n m.set.c, .slice m.ws.p m.ws.n m.ws.c], .int .u64 169] w fun r w' => r = .returned (.bool true) ∧ Apart [] w w' := by
  obtain ⟨u1, u2, u4, u8, u16, u32, u192⟩ := hv.zero
  rw [hk] at u1 u2 u4 u8 u16 u32 u192
  have HN1 : Hid (∀ W, Calls Try.prog 79 #[.int .u64 169, .int .u64 1] W fun r w' => r = .returned (.bool true) ∧ w' = W) := name_all 5 1 true (by decide) (by decide) 169 (by decide)
  have HN2 : Hid (∀ W, Calls Try.prog 79 #[.int .u64 169, .int .u64 2] W fun r w' => r = .returned (.bool false) ∧ w' = W) := name_all 5 2 false (by decide) (by decide) 169 (by decide)
  have HN4 : Hid (∀ W, Calls Try.prog 79 #[.int .u64 169, .int .u64 4] W fun r w' => r = .returned (.bool false) ∧ w' = W) := name_all 5 4 false (by decide) (by decide) 169 (by decide)
  have HN8 : Hid (∀ W, Calls Try.prog 79 #[.int .u64 169, .int .u64 8] W fun r w' => r = .returned (.bool true) ∧ w' = W) := name_all 5 8 true (by decide) (by decide) 169 (by decide)
  have HN16 : Hid (∀ W, Calls Try.prog 79 #[.int .u64 169, .int .u64 16] W fun r w' => r = .returned (.bool false) ∧ w' = W) := name_all 5 16 false (by decide) (by decide) 169 (by decide)
  have HN32 : Hid (∀ W, Calls Try.prog 79 #[.int .u64 169, .int .u64 32] W fun r w' => r = .returned (.bool true) ∧ w' = W) := name_all 5 32 true (by decide) (by decide) 169 (by decide)
  have HN192 : Hid (∀ W, Calls Try.prog 79 #[.int .u64 169, .int .u64 192] W fun r w' => r = .returned (.bool true) ∧ w' = W) := name_all 5 192 true (by decide) (by decide) 169 (by decide)
  have y5 : m.own = 0 := by rw [hm.own]; exact u2 (by decide)
  have y4 : m.rng = 0 := by rw [hm.rng]; exact u4 (by decide)
  have y7 : m.dn = 0 := by rw [hm.dn]; exact (u16 (by decide)).1
  have y8 : m.dc = 0 := by rw [hm.dc]; exact (u16 (by decide)).2
  clear u1 u2 u4 u8 u16 u32 u192 hm hv hk
  obtain ⟨kind, frm, dst, call, rng, own, key, dn, dc, set, ws⟩ := m
  obtain ⟨sp, sn, sc⟩ := set
  obtain ⟨wp', wn', wc'⟩ := ws
  simp only at y5 y4 y7 y8 ⊢
  subst y5 y4 y7 y8
  go_enter Try.func69, Try.ntmps69
  go_wp2_with fail
  refine (HN1.out _).mono ?_
  rintro _ wn ⟨rfl, hwn⟩
  rw [hwn]
  clear hwn wn
  try dsimp only
  go_wp2_with fail
  refine (HN2.out _).mono ?_
  rintro _ wn ⟨rfl, hwn⟩
  rw [hwn]
  clear hwn wn
  try dsimp only
  go_wp2_with fail
  refine (HN4.out _).mono ?_
  rintro _ wn ⟨rfl, hwn⟩
  rw [hwn]
  clear hwn wn
  try dsimp only
  go_wp2_with fail
  refine (HN8.out _).mono ?_
  rintro _ wn ⟨rfl, hwn⟩
  rw [hwn]
  clear hwn wn
  try dsimp only
  go_wp2_with fail
  refine (HN16.out _).mono ?_
  rintro _ wn ⟨rfl, hwn⟩
  rw [hwn]
  clear hwn wn
  try dsimp only
  go_wp2_with fail
  refine (HN32.out _).mono ?_
  rintro _ wn ⟨rfl, hwn⟩
  rw [hwn]
  clear hwn wn
  try dsimp only
  go_wp2_with fail
  refine (HN192.out _).mono ?_
  rintro _ wn ⟨rfl, hwn⟩
  rw [hwn]
  clear hwn wn
  try dsimp only
  go_wp2_with fail
  go_ret
  exact ⟨rfl, (Apart.refl [] w).alloc _⟩
set_option maxHeartbeats 4000000 in
set_option maxRecDepth 100000 in
theorem silent_6 (w : World) (m : MM) (g : Mg) (es : List E) (hm : RM w m g es) (hv : VMg g) (hk : g.kind = 6) : Calls Try.prog 69 #[.agg #[.int .i64 (m.kind : Nat), .int .i64 (m.frm : Nat), .int .i64 (m.dst : Nat), .int .i64 (m.call : Nat), .int .i64 (m.rng : Nat), .int .i64 (m.own : Nat), .string m.key, .int .i64 (m.dn : Nat), .int .i64 (m.dc : Nat), .slice m.set.p m.set.n m.set.c, .slice m.ws.p m.ws.n m.ws.c], .int .u64 11] w fun r w' => r = .returned (.bool true) ∧ Apart [] w w' := by
  obtain ⟨u1, u2, u4, u8, u16, u32, u192⟩ := hv.zero
  rw [hk] at u1 u2 u4 u8 u16 u32 u192
  have HN1 : Hid (∀ W, Calls Try.prog 79 #[.int .u64 11, .int .u64 1] W fun r w' => r = .returned (.bool true) ∧ w' = W) := name_all 6 1 true (by decide) (by decide) 11 (by decide)
  have HN2 : Hid (∀ W, Calls Try.prog 79 #[.int .u64 11, .int .u64 2] W fun r w' => r = .returned (.bool true) ∧ w' = W) := name_all 6 2 true (by decide) (by decide) 11 (by decide)
  have HN4 : Hid (∀ W, Calls Try.prog 79 #[.int .u64 11, .int .u64 4] W fun r w' => r = .returned (.bool false) ∧ w' = W) := name_all 6 4 false (by decide) (by decide) 11 (by decide)
  have HN8 : Hid (∀ W, Calls Try.prog 79 #[.int .u64 11, .int .u64 8] W fun r w' => r = .returned (.bool true) ∧ w' = W) := name_all 6 8 true (by decide) (by decide) 11 (by decide)
  have HN16 : Hid (∀ W, Calls Try.prog 79 #[.int .u64 11, .int .u64 16] W fun r w' => r = .returned (.bool false) ∧ w' = W) := name_all 6 16 false (by decide) (by decide) 11 (by decide)
  have HN32 : Hid (∀ W, Calls Try.prog 79 #[.int .u64 11, .int .u64 32] W fun r w' => r = .returned (.bool false) ∧ w' = W) := name_all 6 32 false (by decide) (by decide) 11 (by decide)
  have HN192 : Hid (∀ W, Calls Try.prog 79 #[.int .u64 11, .int .u64 192] W fun r w' => r = .returned (.bool false) ∧ w' = W) := name_all 6 192 false (by decide) (by decide) 11 (by decide)
  have y4 : m.rng = 0 := by rw [hm.rng]; exact u4 (by decide)
  have y7 : m.dn = 0 := by rw [hm.dn]; exact (u16 (by decide)).1
  have y8 : m.dc = 0 := by rw [hm.dc]; exact (u16 (by decide)).2
  have y9 : m.set.n = 0 := by have := hm.set.len; rw [u32 (by decide)] at this; simpa using this.symm
  have y10 : m.ws.n = 0 := by have := hm.ws.rl; rw [u192 (by decide)] at this; simpa using this.symm
  clear u1 u2 u4 u8 u16 u32 u192 hm hv hk
  obtain ⟨kind, frm, dst, call, rng, own, key, dn, dc, set, ws⟩ := m
  obtain ⟨sp, sn, sc⟩ := set
  obtain ⟨wp', wn', wc'⟩ := ws
  simp only at y4 y7 y8 y9 y10 ⊢
  subst y4 y7 y8 y9 y10
  go_enter Try.func69, Try.ntmps69
  go_wp2_with fail
  refine (HN1.out _).mono ?_
  rintro _ wn ⟨rfl, hwn⟩
  rw [hwn]
  clear hwn wn
  try dsimp only
  go_wp2_with fail
  refine (HN2.out _).mono ?_
  rintro _ wn ⟨rfl, hwn⟩
  rw [hwn]
  clear hwn wn
  try dsimp only
  go_wp2_with fail
  refine (HN4.out _).mono ?_
  rintro _ wn ⟨rfl, hwn⟩
  rw [hwn]
  clear hwn wn
  try dsimp only
  go_wp2_with fail
  refine (HN8.out _).mono ?_
  rintro _ wn ⟨rfl, hwn⟩
  rw [hwn]
  clear hwn wn
  try dsimp only
  go_wp2_with fail
  refine (HN16.out _).mono ?_
  rintro _ wn ⟨rfl, hwn⟩
  rw [hwn]
  clear hwn wn
  try dsimp only
  go_wp2_with fail
  refine (HN32.out _).mono ?_
  rintro _ wn ⟨rfl, hwn⟩
  rw [hwn]
  clear hwn wn
  try dsimp only
  go_wp2_with fail
  refine (HN192.out _).mono ?_
  rintro _ wn ⟨rfl, hwn⟩
  rw [hwn]
  clear hwn wn
  try dsimp only
  go_wp2_with fail
  go_ret
  exact ⟨rfl, (Apart.refl [] w).alloc _⟩
set_option maxHeartbeats 4000000 in
set_option maxRecDepth 100000 in
theorem silent_7 (w : World) (m : MM) (g : Mg) (es : List E) (hm : RM w m g es) (hv : VMg g) (hk : g.kind = 7) : Calls Try.prog 69 #[.agg #[.int .i64 (m.kind : Nat), .int .i64 (m.frm : Nat), .int .i64 (m.dst : Nat), .int .i64 (m.call : Nat), .int .i64 (m.rng : Nat), .int .i64 (m.own : Nat), .string m.key, .int .i64 (m.dn : Nat), .int .i64 (m.dc : Nat), .slice m.set.p m.set.n m.set.c, .slice m.ws.p m.ws.n m.ws.c], .int .u64 139] w fun r w' => r = .returned (.bool true) ∧ Apart [] w w' := by
  obtain ⟨u1, u2, u4, u8, u16, u32, u192⟩ := hv.zero
  rw [hk] at u1 u2 u4 u8 u16 u32 u192
  have HN1 : Hid (∀ W, Calls Try.prog 79 #[.int .u64 139, .int .u64 1] W fun r w' => r = .returned (.bool true) ∧ w' = W) := name_all 7 1 true (by decide) (by decide) 139 (by decide)
  have HN2 : Hid (∀ W, Calls Try.prog 79 #[.int .u64 139, .int .u64 2] W fun r w' => r = .returned (.bool true) ∧ w' = W) := name_all 7 2 true (by decide) (by decide) 139 (by decide)
  have HN4 : Hid (∀ W, Calls Try.prog 79 #[.int .u64 139, .int .u64 4] W fun r w' => r = .returned (.bool false) ∧ w' = W) := name_all 7 4 false (by decide) (by decide) 139 (by decide)
  have HN8 : Hid (∀ W, Calls Try.prog 79 #[.int .u64 139, .int .u64 8] W fun r w' => r = .returned (.bool true) ∧ w' = W) := name_all 7 8 true (by decide) (by decide) 139 (by decide)
  have HN16 : Hid (∀ W, Calls Try.prog 79 #[.int .u64 139, .int .u64 16] W fun r w' => r = .returned (.bool false) ∧ w' = W) := name_all 7 16 false (by decide) (by decide) 139 (by decide)
  have HN32 : Hid (∀ W, Calls Try.prog 79 #[.int .u64 139, .int .u64 32] W fun r w' => r = .returned (.bool false) ∧ w' = W) := name_all 7 32 false (by decide) (by decide) 139 (by decide)
  have HN192 : Hid (∀ W, Calls Try.prog 79 #[.int .u64 139, .int .u64 192] W fun r w' => r = .returned (.bool true) ∧ w' = W) := name_all 7 192 true (by decide) (by decide) 139 (by decide)
  have y4 : m.rng = 0 := by rw [hm.rng]; exact u4 (by decide)
  have y7 : m.dn = 0 := by rw [hm.dn]; exact (u16 (by decide)).1
  have y8 : m.dc = 0 := by rw [hm.dc]; exact (u16 (by decide)).2
  have y9 : m.set.n = 0 := by have := hm.set.len; rw [u32 (by decide)] at this; simpa using this.symm
  clear u1 u2 u4 u8 u16 u32 u192 hm hv hk
  obtain ⟨kind, frm, dst, call, rng, own, key, dn, dc, set, ws⟩ := m
  obtain ⟨sp, sn, sc⟩ := set
  obtain ⟨wp', wn', wc'⟩ := ws
  simp only at y4 y7 y8 y9 ⊢
  subst y4 y7 y8 y9
  go_enter Try.func69, Try.ntmps69
  go_wp2_with fail
  refine (HN1.out _).mono ?_
  rintro _ wn ⟨rfl, hwn⟩
  rw [hwn]
  clear hwn wn
  try dsimp only
  go_wp2_with fail
  refine (HN2.out _).mono ?_
  rintro _ wn ⟨rfl, hwn⟩
  rw [hwn]
  clear hwn wn
  try dsimp only
  go_wp2_with fail
  refine (HN4.out _).mono ?_
  rintro _ wn ⟨rfl, hwn⟩
  rw [hwn]
  clear hwn wn
  try dsimp only
  go_wp2_with fail
  refine (HN8.out _).mono ?_
  rintro _ wn ⟨rfl, hwn⟩
  rw [hwn]
  clear hwn wn
  try dsimp only
  go_wp2_with fail
  refine (HN16.out _).mono ?_
  rintro _ wn ⟨rfl, hwn⟩
  rw [hwn]
  clear hwn wn
  try dsimp only
  go_wp2_with fail
  refine (HN32.out _).mono ?_
  rintro _ wn ⟨rfl, hwn⟩
  rw [hwn]
  clear hwn wn
  try dsimp only
  go_wp2_with fail
  refine (HN192.out _).mono ?_
  rintro _ wn ⟨rfl, hwn⟩
  rw [hwn]
  clear hwn wn
  try dsimp only
  go_wp2_with fail
  go_ret
  exact ⟨rfl, (Apart.refl [] w).alloc _⟩
set_option maxHeartbeats 4000000 in
set_option maxRecDepth 100000 in
theorem silent_8 (w : World) (m : MM) (g : Mg) (es : List E) (hm : RM w m g es) (hv : VMg g) (hk : g.kind = 8) : Calls Try.prog 69 #[.agg #[.int .i64 (m.kind : Nat), .int .i64 (m.frm : Nat), .int .i64 (m.dst : Nat), .int .i64 (m.call : Nat), .int .i64 (m.rng : Nat), .int .i64 (m.own : Nat), .string m.key, .int .i64 (m.dn : Nat), .int .i64 (m.dc : Nat), .slice m.set.p m.set.n m.set.c, .slice m.ws.p m.ws.n m.ws.c], .int .u64 36] w fun r w' => r = .returned (.bool true) ∧ Apart [] w w' := by
  obtain ⟨u1, u2, u4, u8, u16, u32, u192⟩ := hv.zero
  rw [hk] at u1 u2 u4 u8 u16 u32 u192
  have HN1 : Hid (∀ W, Calls Try.prog 79 #[.int .u64 36, .int .u64 1] W fun r w' => r = .returned (.bool false) ∧ w' = W) := name_all 8 1 false (by decide) (by decide) 36 (by decide)
  have HN2 : Hid (∀ W, Calls Try.prog 79 #[.int .u64 36, .int .u64 2] W fun r w' => r = .returned (.bool false) ∧ w' = W) := name_all 8 2 false (by decide) (by decide) 36 (by decide)
  have HN4 : Hid (∀ W, Calls Try.prog 79 #[.int .u64 36, .int .u64 4] W fun r w' => r = .returned (.bool true) ∧ w' = W) := name_all 8 4 true (by decide) (by decide) 36 (by decide)
  have HN8 : Hid (∀ W, Calls Try.prog 79 #[.int .u64 36, .int .u64 8] W fun r w' => r = .returned (.bool false) ∧ w' = W) := name_all 8 8 false (by decide) (by decide) 36 (by decide)
  have HN16 : Hid (∀ W, Calls Try.prog 79 #[.int .u64 36, .int .u64 16] W fun r w' => r = .returned (.bool false) ∧ w' = W) := name_all 8 16 false (by decide) (by decide) 36 (by decide)
  have HN32 : Hid (∀ W, Calls Try.prog 79 #[.int .u64 36, .int .u64 32] W fun r w' => r = .returned (.bool true) ∧ w' = W) := name_all 8 32 true (by decide) (by decide) 36 (by decide)
  have HN192 : Hid (∀ W, Calls Try.prog 79 #[.int .u64 36, .int .u64 192] W fun r w' => r = .returned (.bool false) ∧ w' = W) := name_all 8 192 false (by decide) (by decide) 36 (by decide)
  have y3 : m.call = 0 := by rw [hm.call]; exact u1 (by decide)
  have y5 : m.own = 0 := by rw [hm.own]; exact u2 (by decide)
  have y6 : m.key = ⟨#[]⟩ := by rw [hm.key, u8 (by decide)]; rfl
  have y7 : m.dn = 0 := by rw [hm.dn]; exact (u16 (by decide)).1
  have y8 : m.dc = 0 := by rw [hm.dc]; exact (u16 (by decide)).2
  have y10 : m.ws.n = 0 := by have := hm.ws.rl; rw [u192 (by decide)] at this; simpa using this.symm
  clear u1 u2 u4 u8 u16 u32 u192 hm hv hk
  obtain ⟨kind, frm, dst, call, rng, own, key, dn, dc, set, ws⟩ := m
  obtain ⟨sp, sn, sc⟩ := set
  obtain ⟨wp', wn', wc'⟩ := ws
  simp only at y3 y5 y6 y7 y8 y10 ⊢
  subst y3 y5 y6 y7 y8 y10
  go_enter Try.func69, Try.ntmps69
  go_wp2_with fail
  refine (HN1.out _).mono ?_
  rintro _ wn ⟨rfl, hwn⟩
  rw [hwn]
  clear hwn wn
  try dsimp only
  go_wp2_with fail
  refine (HN2.out _).mono ?_
  rintro _ wn ⟨rfl, hwn⟩
  rw [hwn]
  clear hwn wn
  try dsimp only
  go_wp2_with fail
  refine (HN4.out _).mono ?_
  rintro _ wn ⟨rfl, hwn⟩
  rw [hwn]
  clear hwn wn
  try dsimp only
  go_wp2_with fail
  refine (HN8.out _).mono ?_
  rintro _ wn ⟨rfl, hwn⟩
  rw [hwn]
  clear hwn wn
  try dsimp only
  go_wp2_with fail
  refine (HN16.out _).mono ?_
  rintro _ wn ⟨rfl, hwn⟩
  rw [hwn]
  clear hwn wn
  try dsimp only
  go_wp2_with fail
  refine (HN32.out _).mono ?_
  rintro _ wn ⟨rfl, hwn⟩
  rw [hwn]
  clear hwn wn
  try dsimp only
  go_wp2_with fail
  refine (HN192.out _).mono ?_
  rintro _ wn ⟨rfl, hwn⟩
  rw [hwn]
  clear hwn wn
  try dsimp only
  go_wp2_with fail
  go_ret
  exact ⟨rfl, (Apart.refl [] w).alloc _⟩
set_option maxHeartbeats 4000000 in
set_option maxRecDepth 100000 in
theorem silent_9 (w : World) (m : MM) (g : Mg) (es : List E) (hm : RM w m g es) (hv : VMg g) (hk : g.kind = 9) : Calls Try.prog 69 #[.agg #[.int .i64 (m.kind : Nat), .int .i64 (m.frm : Nat), .int .i64 (m.dst : Nat), .int .i64 (m.call : Nat), .int .i64 (m.rng : Nat), .int .i64 (m.own : Nat), .string m.key, .int .i64 (m.dn : Nat), .int .i64 (m.dc : Nat), .slice m.set.p m.set.n m.set.c, .slice m.ws.p m.ws.n m.ws.c], .int .u64 164] w fun r w' => r = .returned (.bool true) ∧ Apart [] w w' := by
  obtain ⟨u1, u2, u4, u8, u16, u32, u192⟩ := hv.zero
  rw [hk] at u1 u2 u4 u8 u16 u32 u192
  have HN1 : Hid (∀ W, Calls Try.prog 79 #[.int .u64 164, .int .u64 1] W fun r w' => r = .returned (.bool false) ∧ w' = W) := name_all 9 1 false (by decide) (by decide) 164 (by decide)
  have HN2 : Hid (∀ W, Calls Try.prog 79 #[.int .u64 164, .int .u64 2] W fun r w' => r = .returned (.bool false) ∧ w' = W) := name_all 9 2 false (by decide) (by decide) 164 (by decide)
  have HN4 : Hid (∀ W, Calls Try.prog 79 #[.int .u64 164, .int .u64 4] W fun r w' => r = .returned (.bool true) ∧ w' = W) := name_all 9 4 true (by decide) (by decide) 164 (by decide)
  have HN8 : Hid (∀ W, Calls Try.prog 79 #[.int .u64 164, .int .u64 8] W fun r w' => r = .returned (.bool false) ∧ w' = W) := name_all 9 8 false (by decide) (by decide) 164 (by decide)
  have HN16 : Hid (∀ W, Calls Try.prog 79 #[.int .u64 164, .int .u64 16] W fun r w' => r = .returned (.bool false) ∧ w' = W) := name_all 9 16 false (by decide) (by decide) 164 (by decide)
  have HN32 : Hid (∀ W, Calls Try.prog 79 #[.int .u64 164, .int .u64 32] W fun r w' => r = .returned (.bool true) ∧ w' = W) := name_all 9 32 true (by decide) (by decide) 164 (by decide)
  have HN192 : Hid (∀ W, Calls Try.prog 79 #[.int .u64 164, .int .u64 192] W fun r w' => r = .returned (.bool true) ∧ w' = W) := name_all 9 192 true (by decide) (by decide) 164 (by decide)
  have y3 : m.call = 0 := by rw [hm.call]; exact u1 (by decide)
  have y5 : m.own = 0 := by rw [hm.own]; exact u2 (by decide)
  have y6 : m.key = ⟨#[]⟩ := by rw [hm.key, u8 (by decide)]; rfl
  have y7 : m.dn = 0 := by rw [hm.dn]; exact (u16 (by decide)).1
  have y8 : m.dc = 0 := by rw [hm.dc]; exact (u16 (by decide)).2
  clear u1 u2 u4 u8 u16 u32 u192 hm hv hk
  obtain ⟨kind, frm, dst, call, rng, own, key, dn, dc, set, ws⟩ := m
  obtain ⟨sp, sn, sc⟩ := set
  obtain ⟨wp', wn', wc'⟩ := ws
  simp only at y3 y5 y6 y7 y8 ⊢
  subst y3 y5 y6 y7 y8
  go_enter Try.func69, Try.ntmps69
  go_wp2_with fail
  refine (HN1.out _).mono ?_
  rintro _ wn ⟨rfl, hwn⟩
  rw [hwn]
  clear hwn wn
  try dsimp only
  go_wp2_with fail
  refine (HN2.out _).mono ?_
  rintro _ wn ⟨rfl, hwn⟩
  rw [hwn]
  clear hwn wn
  try dsimp only
  go_wp2_with fail
  refine (HN4.out _).mono ?_
  rintro _ wn ⟨rfl, hwn⟩
  rw [hwn]
  clear hwn wn
  try dsimp only
  go_wp2_with fail
  refine (HN8.out _).mono ?_
  rintro _ wn ⟨rfl, hwn⟩
  rw [hwn]
  clear hwn wn
  try dsimp only
  go_wp2_with fail
  refine (HN16.out _).mono ?_
  rintro _ wn ⟨rfl, hwn⟩
  rw [hwn]
  clear hwn wn
  try dsimp only
  go_wp2_with fail
  refine (HN32.out _).mono ?_
  rintro _ wn ⟨rfl, hwn⟩
  rw [hwn]
  clear hwn wn
  try dsimp only
  go_wp2_with fail
  refine (HN192.out _).mono ?_
  rintro _ wn ⟨rfl, hwn⟩
  rw [hwn]
  clear hwn wn
  try dsimp only
  go_wp2_with fail
  go_ret
  exact ⟨rfl, (Apart.refl [] w).alloc _⟩
set_option maxHeartbeats 4000000 in
set_option maxRecDepth 100000 in
theorem silent_10 (w : World) (m : MM) (g : Mg) (es : List E) (hm : RM w m g es) (hv : VMg g) (hk : g.kind = 10) : Calls Try.prog 69 #[.agg #[.int .i64 (m.kind : Nat), .int .i64 (m.frm : Nat), .int .i64 (m.dst : Nat), .int .i64 (m.call : Nat), .int .i64 (m.rng : Nat), .int .i64 (m.own : Nat), .string m.key, .int .i64 (m.dn : Nat), .int .i64 (m.dc : Nat), .slice m.set.p m.set.n m.set.c, .slice m.ws.p m.ws.n m.ws.c], .int .u64 64] w fun r w' => r = .returned (.bool true) ∧ Apart [] w w' := by
  obtain ⟨u1, u2, u4, u8, u16, u32, u192⟩ := hv.zero
  rw [hk] at u1 u2 u4 u8 u16 u32 u192
  have HN1 : Hid (∀ W, Calls Try.prog 79 #[.int .u64 64, .int .u64 1] W fun r w' => r = .returned (.bool false) ∧ w' = W) := name_all 10 1 false (by decide) (by decide) 64 (by decide)
  have HN2 : Hid (∀ W, Calls Try.prog 79 #[.int .u64 64, .int .u64 2] W fun r w' => r = .returned (.bool false) ∧ w' = W) := name_all 10 2 false (by decide) (by decide) 64 (by decide)
  have HN4 : Hid (∀ W, Calls Try.prog 79 #[.int .u64 64, .int .u64 4] W fun r w' => r = .returned (.bool false) ∧ w' = W) := name_all 10 4 false (by decide) (by decide) 64 (by decide)
  have HN8 : Hid (∀ W, Calls Try.prog 79 #[.int .u64 64, .int .u64 8] W fun r w' => r = .returned (.bool false) ∧ w' = W) := name_all 10 8 false (by decide) (by decide) 64 (by decide)
  have HN16 : Hid (∀ W, Calls Try.prog 79 #[.int .u64 64, .int .u64 16] W fun r w' => r = .returned (.bool false) ∧ w' = W) := name_all 10 16 false (by decide) (by decide) 64 (by decide)
  have HN32 : Hid (∀ W, Calls Try.prog 79 #[.int .u64 64, .int .u64 32] W fun r w' => r = .returned (.bool false) ∧ w' = W) := name_all 10 32 false (by decide) (by decide) 64 (by decide)
  have HN192 : Hid (∀ W, Calls Try.prog 79 #[.int .u64 64, .int .u64 192] W fun r w' => r = .returned (.bool true) ∧ w' = W) := name_all 10 192 true (by decide) (by decide) 64 (by decide)
  have y3 : m.call = 0 := by rw [hm.call]; exact u1 (by decide)
  have y5 : m.own = 0 := by rw [hm.own]; exact u2 (by decide)
  have y4 : m.rng = 0 := by rw [hm.rng]; exact u4 (by decide)
  have y6 : m.key = ⟨#[]⟩ := by rw [hm.key, u8 (by decide)]; rfl
  have y7 : m.dn = 0 := by rw [hm.dn]; exact (u16 (by decide)).1
  have y8 : m.dc = 0 := by rw [hm.dc]; exact (u16 (by decide)).2
  have y9 : m.set.n = 0 := by have := hm.set.len; rw [u32 (by decide)] at this; simpa using this.symm
  clear u1 u2 u4 u8 u16 u32 u192 hm hv hk
  obtain ⟨kind, frm, dst, call, rng, own, key, dn, dc, set, ws⟩ := m
  obtain ⟨sp, sn, sc⟩ := set
  obtain ⟨wp', wn', wc'⟩ := ws
  simp only at y3 y5 y4 y6 y7 y8 y9 ⊢
  subst y3 y5 y4 y6 y7 y8 y9
  go_enter Try.func69, Try.ntmps69
  go_wp2_with fail
  refine (HN1.out _).mono ?_
  rintro _ wn ⟨rfl, hwn⟩
  rw [hwn]
  clear hwn wn
  try dsimp only
  go_wp2_with fail
  refine (HN2.out _).mono ?_
  rintro _ wn ⟨rfl, hwn⟩
  rw [hwn]
  clear hwn wn
  try dsimp only
  go_wp2_with fail
  refine (HN4.out _).mono ?_
  rintro _ wn ⟨rfl, hwn⟩
  rw [hwn]
  clear hwn wn
  try dsimp only
  go_wp2_with fail
  refine (HN8.out _).mono ?_
  rintro _ wn ⟨rfl, hwn⟩
  rw [hwn]
  clear hwn wn
  try dsimp only
  go_wp2_with fail
  refine (HN16.out _).mono ?_
  rintro _ wn ⟨rfl, hwn⟩
  rw [hwn]
  clear hwn wn
  try dsimp only
  go_wp2_with fail
  refine (HN32.out _).mono ?_
  rintro _ wn ⟨rfl, hwn⟩
  rw [hwn]
  clear hwn wn
  try dsimp only
  go_wp2_with fail
  refine (HN192.out _).mono ?_
  rintro _ wn ⟨rfl, hwn⟩
  rw [hwn]
  clear hwn wn
  try dsimp only
  go_wp2_with fail
  go_ret
  exact ⟨rfl, (Apart.refl [] w).alloc _⟩
set_option maxHeartbeats 4000000 in
set_option maxRecDepth 100000 in
theorem silent_11 (w : World) (m : MM) (g : Mg) (es : List E) (hm : RM w m g es) (hv : VMg g) (hk : g.kind = 11) : Calls Try.prog 69 #[.agg #[.int .i64 (m.kind : Nat), .int .i64 (m.frm : Nat), .int .i64 (m.dst : Nat), .int .i64 (m.call : Nat), .int .i64 (m.rng : Nat), .int .i64 (m.own : Nat), .string m.key, .int .i64 (m.dn : Nat), .int .i64 (m.dc : Nat), .slice m.set.p m.set.n m.set.c, .slice m.ws.p m.ws.n m.ws.c], .int .u64 24] w fun r w' => r = .returned (.bool true) ∧ Apart [] w w' := by
  obtain ⟨u1, u2, u4, u8, u16, u32, u192⟩ := hv.zero
  rw [hk] at u1 u2 u4 u8 u16 u32 u192
  have HN1 : Hid (∀ W, Calls Try.prog 79 #[.int .u64 24, .int .u64 1] W fun r w' => r = .returned (.bool false) ∧ w' = W) := name_all 11 1 false (by decide) (by decide) 24 (by decide)
  have HN2 : Hid (∀ W, Calls Try.prog 79 #[.int .u64 24, .int .u64 2] W fun r w' => r = .returned (.bool false) ∧ w' = W) := name_all 11 2 false (by decide) (by decide) 24 (by decide)
  have HN4 : Hid (∀ W, Calls Try.prog 79 #[.int .u64 24, .int .u64 4] W fun r w' => r = .returned (.bool false) ∧ w' = W) := name_all 11 4 false (by decide) (by decide) 24 (by decide)
  have HN8 : Hid (∀ W, Calls Try.prog 79 #[.int .u64 24, .int .u64 8] W fun r w' => r = .returned (.bool true) ∧ w' = W) := name_all 11 8 true (by decide) (by decide) 24 (by decide)
  have HN16 : Hid (∀ W, Calls Try.prog 79 #[.int .u64 24, .int .u64 16] W fun r w' => r = .returned (.bool true) ∧ w' = W) := name_all 11 16 true (by decide) (by decide) 24 (by decide)
  have HN32 : Hid (∀ W, Calls Try.prog 79 #[.int .u64 24, .int .u64 32] W fun r w' => r = .returned (.bool false) ∧ w' = W) := name_all 11 32 false (by decide) (by decide) 24 (by decide)
  have HN192 : Hid (∀ W, Calls Try.prog 79 #[.int .u64 24, .int .u64 192] W fun r w' => r = .returned (.bool false) ∧ w' = W) := name_all 11 192 false (by decide) (by decide) 24 (by decide)
  have y3 : m.call = 0 := by rw [hm.call]; exact u1 (by decide)
  have y5 : m.own = 0 := by rw [hm.own]; exact u2 (by decide)
  have y4 : m.rng = 0 := by rw [hm.rng]; exact u4 (by decide)
  have y9 : m.set.n = 0 := by have := hm.set.len; rw [u32 (by decide)] at this; simpa using this.symm
  have y10 : m.ws.n = 0 := by have := hm.ws.rl; rw [u192 (by decide)] at this; simpa using this.symm
  clear u1 u2 u4 u8 u16 u32 u192 hm hv hk
  obtain ⟨kind, frm, dst, call, rng, own, key, dn, dc, set, ws⟩ := m
  obtain ⟨sp, sn, sc⟩ := set
  obtain ⟨wp', wn', wc'⟩ := ws
  simp only at y3 y5 y4 y9 y10 ⊢
  subst y3 y5 y4 y9 y10
  go_enter Try.func69, Try.ntmps69
  go_wp2_with fail
  refine (HN1.out _).mono ?_
  rintro _ wn ⟨rfl, hwn⟩
  rw [hwn]
  clear hwn wn
  try dsimp only
  go_wp2_with fail
  refine (HN2.out _).mono ?_
  rintro _ wn ⟨rfl, hwn⟩
  rw [hwn]
  clear hwn wn
  try dsimp only
  go_wp2_with fail
  refine (HN4.out _).mono ?_
  rintro _ wn ⟨rfl, hwn⟩
  rw [hwn]
  clear hwn wn
  try dsimp only
  go_wp2_with fail
  refine (HN8.out _).mono ?_
  rintro _ wn ⟨rfl, hwn⟩
  rw [hwn]
  clear hwn wn
  try dsimp only
  go_wp2_with fail
  refine (HN16.out _).mono ?_
  rintro _ wn ⟨rfl, hwn⟩
  rw [hwn]
  clear hwn wn
  try dsimp only
  go_wp2_with fail
  refine (HN32.out _).mono ?_
  rintro _ wn ⟨rfl, hwn⟩
  rw [hwn]
  clear hwn wn
  try dsimp only
  go_wp2_with fail
  refine (HN192.out _).mono ?_
  rintro _ wn ⟨rfl, hwn⟩
  rw [hwn]
  clear hwn wn
  try dsimp only
  go_wp2_with fail
  go_ret
  exact ⟨rfl, (Apart.refl [] w).alloc _⟩
theorem silent_yes (w : World) (m : MM) (g : Mg) (es : List E) (hm : RM w m g es) (hv : VMg g) : Calls Try.prog 69 #[.agg #[.int .i64 (m.kind : Nat), .int .i64 (m.frm : Nat), .int .i64 (m.dst : Nat), .int .i64 (m.call : Nat), .int .i64 (m.rng : Nat), .int .i64 (m.own : Nat), .string m.key, .int .i64 (m.dn : Nat), .int .i64 (m.dc : Nat), .slice m.set.p m.set.n m.set.c, .slice m.ws.p m.ws.n m.ws.c], .int .u64 ((fldK m.kind : Nat) : Int)] w fun r w' => r = .returned (.bool true) ∧ Apart [] w w' := by
  rw [hm.kind]
  have hk : m.kind = g.kind := hm.kind
  rw [← hk]
  rcases hv.kinds with h | h | h | h | h | h | h | h | h | h | h
  · have := silent_1 w m g es hm hv h
    rw [hk, h] at this ⊢
    exact this
  · have := silent_2 w m g es hm hv h
    rw [hk, h] at this ⊢
    exact this
  · have := silent_3 w m g es hm hv h
    rw [hk, h] at this ⊢
    exact this
  · have := silent_4 w m g es hm hv h
    rw [hk, h] at this ⊢
    exact this
  · have := silent_5 w m g es hm hv h
    rw [hk, h] at this ⊢
    exact this
  · have := silent_6 w m g es hm hv h
    rw [hk, h] at this ⊢
    exact this
  · have := silent_7 w m g es hm hv h
    rw [hk, h] at this ⊢
    exact this
  · have := silent_8 w m g es hm hv h
    rw [hk, h] at this ⊢
    exact this
  · have := silent_9 w m g es hm hv h
    rw [hk, h] at this ⊢
    exact this
  · have := silent_10 w m g es hm hv h
    rw [hk, h] at this ⊢
    exact this
  · have := silent_11 w m g es hm hv h
    rw [hk, h] at this ⊢
    exact this
end Go.Proofs.Ytddffdcjhleejaa.ds
