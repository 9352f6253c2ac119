import Derived.Test.YtddffdcjhleejaaGreatG28
import Derived.Test.YtddffdcjhleejaaGreatG6
namespace Go.Proofs.YtddffdcjhleejaaGreat.ds
open Go.ChangeShapes Go.WideShapes Go.ChangeAt Go.RowKit Go.Sort
set_option linter.unusedVariables false
set_option linter.unusedSimpArgs false
def setAll (l : Array Bool) (i : Nat) : Nat → Array Bool
  | 0 => l
  | n + 1 => setAll (l.setIfInBounds i true) (i + 1) n
theorem wpAnyH_block {P : Program} {ops : Array Oper} {Q : Exit → Act → World → Prop} {md : Region.Mode} {S : World → Prop} {fuel : Nat} {listed : Array Bool} {a : Act} {w : World} (i n fuel' : Nat) (hf : fuel = fuel' + n) (J : Act → World → Prop) (hb : (∀ a' w', J a' w' → wpAnyH P md ops Q S fuel' (setAll listed i n) a' w') → wpAnyH P md ops Q S (fuel' + n) listed a w) (hn : ∀ a' w', J a' w' → wpAnyH P md ops Q S fuel' (setAll listed i n) a' w') : wpAnyH P md ops Q S fuel listed a w := hf ▸ hb hn
def lisP (k : Nat) (m : MI) (xs : List S) (rs : List Wr) (b8 b16 b64 : Bool) : Prop := (((((((b8 = false ∨ (1 ≤ m.key.size ∧ m.key.size ≤ 16)) ∧ (b16 = false ∨ IsDot m.dn m.dc)) ∧ (b64 = false ∨ m.ws.n = 1)) ∧ m.ws.n ≤ mostK k) ∧ OkL 64 xs) ∧ (k ≠ 5 ∨ ∀ x ∈ xs, x.t = 0)) ∧ WsOk m.key 0 0 rs)
set_option maxHeartbeats 32000000 in
set_option maxRecDepth 100000 in
theorem listsI_ok (w : World) (k : Nat) (m : MI) (xs : List S) (es : List E) (rs : List Wr) (hm : RMI w m xs es rs) (fk : Nat) (hfk : fk < 256) (b8 b16 b64 : Bool) (e8 : b8 = decide (fk &&& 8 ≠ 0)) (e16 : b16 = decide (fk &&& 16 ≠ 0)) (e64 : b64 = decide (fk &&& 64 ≠ 0)) (v : Bool) (hv : v = true ↔ lisP k m xs rs b8 b16 b64) : Calls Tryz.prog 42 #[.agg #[.int .i64 (k : Nat), .int .i64 m.frm, .int .i64 m.dst, .int .i64 m.call, .int .i64 m.rng, .int .i64 m.own, .string m.key, .int .i64 m.dn, .int .i64 m.dc, .slice m.set.p m.set.n m.set.c, .slice m.ws.p m.ws.n m.ws.c], .int .u64 (fk : Nat)] w fun r w' => r = .returned (.bool v) ∧ Apart [] w w' := by
  have HN8 : Hid (∀ W, Calls Tryz.prog 61 #[.int .u64 (fk : Int), .int .u64 8] W fun r w' => r = .returned (.bool b8) ∧ w' = W) := fun W => name_wire fk 8 hfk (by decide) b8 e8 W
  have HN16 : Hid (∀ W, Calls Tryz.prog 61 #[.int .u64 (fk : Int), .int .u64 16] W fun r w' => r = .returned (.bool b16) ∧ w' = W) := fun W => name_wire fk 16 hfk (by decide) b16 e16 W
  have HN64 : Hid (∀ W, Calls Tryz.prog 61 #[.int .u64 (fk : Int), .int .u64 64] W fun r w' => r = .returned (.bool b64) ∧ w' = W) := fun W => name_wire fk 64 hfk (by decide) b64 e64 W
  have HV := hid hv
  obtain ⟨X, HX⟩ : ∃ X, Hid (X = w.heap.size) := ⟨_, rfl⟩
  obtain ⟨w1, hw1⟩ : ∃ w1, w1 = w.alloc (.cells #[.int .i64 (k : Nat), .int .i64 m.frm, .int .i64 m.dst, .int .i64 m.call, .int .i64 m.rng, .int .i64 m.own, .string m.key, .int .i64 m.dn, .int .i64 m.dc, .slice m.set.p m.set.n m.set.c, .slice m.ws.p m.ws.n m.ws.c] 29) := ⟨_, rfl⟩
  have HA1 : Hid (Apart [] w w1) := by unfold Hid; rw [hw1]; exact (Apart.refl [] w).alloc _
  have HX1 : Hid (w1.heap[X]? = some (.cells #[.int .i64 (k : Nat), .int .i64 m.frm, .int .i64 m.dst, .int .i64 m.call, .int .i64 m.rng, .int .i64 m.own, .string m.key, .int .i64 m.dn, .int .i64 m.dc, .slice m.set.p m.set.n m.set.c, .slice m.ws.p m.ws.n m.ws.c] 29 (0, 0))) := by unfold Hid; rw [HX.out, hw1]; exact heap_alloc_new w _
  obtain ⟨vk, hvk⟩ := bool_of' (1 ≤ m.key.size ∧ m.key.size ≤ 16)
  have HVK := hid hvk
  have HCK := hid (fun W => isKey_ok m.key vk hvk W)
  obtain ⟨vd, hvd⟩ := bool_of' (IsDot m.dn m.dc)
  have HVD := hid hvd
  have HCD := hid (fun W => wisDot_ok m.dn m.dc vd hvd W)
  obtain ⟨n1, hn1⟩ : ∃ n1, (((m.ws.n : Nat) : Int) == 1) = n1 := ⟨_, rfl⟩
  have HN1a := hid hn1
  have HN1 : Hid (n1 = true ↔ m.ws.n = 1) := by unfold Hid; rw [← hn1]; simp; omega
  have HCM := hid (fun W => most_ok k W)
  obtain ⟨lq, hlq⟩ : ∃ lq, decide (((m.ws.n : Nat) : Int) ≤ ((mostK k : Nat) : Int)) = lq := ⟨_, rfl⟩
  have HLQa := hid hlq
  have HLQ : Hid (lq = true ↔ m.ws.n ≤ mostK k) := by unfold Hid; rw [← hlq]; simp
  have HLQb : Hid (decide (m.ws.n ≤ mostK k) = lq) := by unfold Hid; have := HLQ.out; cases lq <;> simp_all
  obtain ⟨vs, hvs⟩ := bool_of' (OkL 64 xs)
  have HVS := hid hvs
  have HCS := hid (fun W (a : Apart [] w1 W) => isSet_wire (cap := m.set.c) (hm.set.kept0 (HA1.out.trans a)) vs hvs)
  obtain ⟨vb, hvb⟩ := bool_of' (∃ x ∈ xs, x.t ≠ 0)
  have HCB := hid (fun W (a : Apart [] w1 W) => hasBits_ok (cap := m.set.c) (hm.set.kept0 (HA1.out.trans a)) vb hvb)
  have HVB : Hid ((!vb) = true ↔ ∀ x ∈ xs, x.t = 0) := by
    unfold Hid
    cases vb with
    | true =>
      obtain ⟨x, hx, hx0⟩ := hvb.1 (by simp)
      simp
      exact ⟨x, hx, hx0⟩
    | false =>
      simp only [Bool.not_false, true_iff]
      intro x hx
      by_cases h0 : x.t = 0
      · exact h0
      · exact absurd (hvb.2 ⟨x, hx, h0⟩) (by simp)
  obtain ⟨k5, hk5⟩ : ∃ k5, (((k : Nat) : Int) != 5) = k5 := ⟨_, rfl⟩
  have HK5a := hid hk5
  have HK5b : Hid ((!(((k : Nat) : Int) == 5)) = k5) := hk5
  have HK5 : Hid (k5 = true ↔ k ≠ 5) := by unfold Hid; rw [← hk5]; simp; omega
  obtain ⟨vw, hvw⟩ := bool_of' (WsOk m.key 0 0 rs)
  have HVW := hid hvw
  have HCW := hid (fun W (a : Apart [] w1 W) => areWrites_ok (hm.ws.kept0 (HA1.out.trans a)) m.key vw hvw)
  clear e8 e16 e64 hv hfk hm hvk hvd hn1 hlq hvs hvb hk5 hvw
  go_enter Tryz.func42, Tryz.ntmps42
  go_upto_region 1 with fail
  rw [← hw1, ← HX.out]
  clear hw1
  have hd0 : Apart [] w1 w1.drew := (Apart.refl [] w1).drew
  refine wp_region_held_drew (S := fun W => Apart [] w1 W) (by kernel_rfl) hd0 (fun hHeld => ?_)
  clear hd0
  generalize w1.drew = wd at *
  refine wpAnyH_block 0 9 53 (by kernel_rfl) (fun a' w' => ∃ (u5 u6 u7 u8 u9 u10 u11 u12 : Value) (b : Bool), a' = ⟨#[.agg #[.int .i64 (k : Nat), .int .i64 m.frm, .int .i64 m.dst, .int .i64 m.call, .int .i64 m.rng, .int .i64 m.own, .string m.key, .int .i64 m.dn, .int .i64 m.dc, .slice m.set.p m.set.n m.set.c, .slice m.ws.p m.ws.n m.ws.c], .int .u64 (fk : Nat), .pointer (some ⟨X, 0, none⟩), undef, .bool false, u5, u6, u7, u8, u9, u10, u11, u12, .bool b, undef, undef, undef, undef, undef, undef, undef, undef, undef, undef, undef, undef, undef, undef, undef, undef, undef, undef, undef, undef, undef, undef, undef, undef, undef, undef, undef, undef, undef, undef, undef, undef, undef, undef, undef, undef, undef, undef, undef, undef, undef, undef, undef, undef, undef, undef, undef, undef, undef, undef, undef, undef], []⟩ ∧ Apart [] w1 w' ∧ (b = true ↔ (b8 = false ∨ (1 ≤ m.key.size ∧ m.key.size ≤ 16)))) (fun HN => ?_) ?_
  · have HT := hid HN
    clear HN
    refine tkn 0 5 (.int .u64 (fk : Nat)) rfl ?_ ?_
    · intro W hSW; go_simp
    refine wpAnyH_ready (rs := [1]) (by kernel_rfl) (by simp) ?_
    refine AllReadyH.cons rfl (fun KK hKK => ?_) AllReadyH.nil
    go_simp
    refine (HN8.out _).mono ?_
    rintro _ wn ⟨rfl, hwn⟩
    rw [hwn]
    clear hwn wn
    try dsimp only
    refine hKK.out _ _ hHeld (fun hx => ?_)
    clear hKK KK hx
    try simp only [Act.put, List.setIfInBounds_toArray, List.set_cons_zero, List.set_cons_succ]
    cases b8 with
    | true =>
      refine tkn 2 7 (.bool false) rfl ?_ ?_
      · intro W hSW; go_simp
      refine tkn 3 8 (.bool false) rfl ?_ ?_
      · intro W hSW; go_simp
      refine tkn 4 9 (.pointer (some ⟨X, 6, none⟩)) rfl ?_ ?_
      · intro W hSW; go_simp
      refine tkn 5 10 (.string m.key) rfl ?_ ?_
      · intro W hSW; obtain ⟨⟨c0, c1, c2, c3, c4, c5⟩, c6, c7, c8, c9, c10⟩ := row11 ((hSW.block _ (lt_of_heap HX1.out) (by simp)).trans HX1.out); go_simp
      refine wpAnyH_ready (rs := [6]) (by kernel_rfl) (by simp) ?_
      refine AllReadyH.cons rfl (fun KK hKK => ?_) AllReadyH.nil
      go_simp
      refine (HCK.out _).mono ?_
      rintro _ wn ⟨rfl, hwn⟩
      rw [hwn]
      clear hwn wn
      try dsimp only
      refine hKK.out _ _ hHeld (fun hx => ?_)
      clear hKK KK hx
      try simp only [Act.put, List.setIfInBounds_toArray, List.set_cons_zero, List.set_cons_succ]
      refine tkn 7 12 (.bool vk) rfl ?_ ?_
      · intro W hSW; go_simp
      refine tkn 8 13 (.bool vk) rfl ?_ ?_
      · intro W hSW; go_simp
      exact HT.out _ _ ⟨_, _, _, _, _, _, _, _, vk, rfl, hHeld, (by
        constructor
        · intro h; exact .inr (HVK.out.1 h)
        · intro h
          rcases h with h | h
          · simp at h
          · exact HVK.out.2 h)⟩
    | false =>
      refine tkn 2 7 (.bool true) rfl ?_ ?_
      · intro W hSW; go_simp
      refine tkn 3 8 (.bool true) rfl ?_ ?_
      · intro W hSW; go_simp
      refine tun 4 9 rfl ?_
      refine tun 5 10 rfl ?_
      refine wpAnyH_pass 6 (o := ⟨some 11, _, _, _, _, _⟩) (by kernel_rfl) rfl (by kernel_rfl) (by assumption) ?_
      try simp only [Act.put, List.setIfInBounds_toArray, List.set_cons_zero, List.set_cons_succ]
      refine tkn 7 12 (.bool true) rfl ?_ ?_
      · intro W hSW; go_simp
      refine tkn 8 13 (.bool true) rfl ?_ ?_
      · intro W hSW; go_simp
      exact HT.out _ _ ⟨_, _, _, _, _, _, _, _, true, rfl, hHeld, by exact ⟨fun _ => .inl (by simp), fun _ => (by simp)⟩⟩
  rintro _ wd ⟨u5, u6, u7, u8, u9, u10, u11, u12, b, rfl, hHeld, hb⟩
  have HB := hid hb
  clear hb
  refine wpAnyH_block 9 10 43 (by kernel_rfl) (fun a' w' => ∃ (u5 u6 u7 u8 u9 u10 u11 u12 u13 u14 u15 u16 u17 u18 u19 u20 u21 u22 : Value) (b : Bool), a' = ⟨#[.agg #[.int .i64 (k : Nat), .int .i64 m.frm, .int .i64 m.dst, .int .i64 m.call, .int .i64 m.rng, .int .i64 m.own, .string m.key, .int .i64 m.dn, .int .i64 m.dc, .slice m.set.p m.set.n m.set.c, .slice m.ws.p m.ws.n m.ws.c], .int .u64 (fk : Nat), .pointer (some ⟨X, 0, none⟩), undef, .bool false, u5, u6, u7, u8, u9, u10, u11, u12, u13, u14, u15, u16, u17, u18, u19, u20, u21, u22, .bool b, undef, undef, undef, undef, undef, undef, undef, undef, undef, undef, undef, undef, undef, undef, undef, undef, undef, undef, undef, undef, undef, undef, undef, undef, undef, undef, undef, undef, undef, undef, undef, undef, undef, undef, undef, undef, undef, undef, undef, undef, undef, undef], []⟩ ∧ Apart [] w1 w' ∧ (b = true ↔ ((b8 = false ∨ (1 ≤ m.key.size ∧ m.key.size ≤ 16)) ∧ (b16 = false ∨ IsDot m.dn m.dc)))) (fun HN => ?_) ?_
  · have HT := hid HN
    clear HN
    cases b with
    | false =>
      refine tun 9 14 rfl ?_
      refine wpAnyH_pass 10 (o := ⟨some 15, _, _, _, _, _⟩) (by kernel_rfl) rfl (by kernel_rfl) (by assumption) ?_
      try simp only [Act.put, List.setIfInBounds_toArray, List.set_cons_zero, List.set_cons_succ]
      refine tun 11 16 rfl ?_
      refine tun 12 17 rfl ?_
      refine tun 13 18 rfl ?_
      refine tun 14 19 rfl ?_
      refine wpAnyH_pass 15 (o := ⟨some 20, _, _, _, _, _⟩) (by kernel_rfl) rfl (by kernel_rfl) (by assumption) ?_
      try simp only [Act.put, List.setIfInBounds_toArray, List.set_cons_zero, List.set_cons_succ]
      refine tun 16 21 rfl ?_
      refine tkn 17 22 (.bool false) rfl ?_ ?_
      · intro W hSW; go_simp
      refine tkn 18 23 (.bool false) rfl ?_ ?_
      · intro W hSW; go_simp
      exact HT.out _ _ ⟨_, _, _, _, _, _, _, _, _, _, _, _, _, _, _, _, _, _, false, rfl, hHeld, by exact ⟨fun h => (by simp at h), fun h => absurd (HB.out.2 h.1) (by simp)⟩⟩
    | true =>
      refine tkn 9 14 (.int .u64 (fk : Nat)) rfl ?_ ?_
      · intro W hSW; go_simp
      refine wpAnyH_ready (rs := [10]) (by kernel_rfl) (by simp) ?_
      refine AllReadyH.cons rfl (fun KK hKK => ?_) AllReadyH.nil
      go_simp
      refine (HN16.out _).mono ?_
      rintro _ wn ⟨rfl, hwn⟩
      rw [hwn]
      clear hwn wn
      try dsimp only
      refine hKK.out _ _ hHeld (fun hx => ?_)
      clear hKK KK hx
      try simp only [Act.put, List.setIfInBounds_toArray, List.set_cons_zero, List.set_cons_succ]
      cases b16 with
      | true =>
        refine tkn 11 16 (.bool false) rfl ?_ ?_
        · intro W hSW; go_simp
        refine tkn 12 17 (.bool false) rfl ?_ ?_
        · intro W hSW; go_simp
        refine tkn 13 18 (.pointer (some ⟨X, 7, none⟩)) rfl ?_ ?_
        · intro W hSW; go_simp
        refine tkn 14 19 (.agg #[.int .i64 m.dn, .int .i64 m.dc]) rfl ?_ ?_
        · intro W hSW; obtain ⟨⟨c0, c1, c2, c3, c4, c5⟩, c6, c7, c8, c9, c10⟩ := row11 ((hSW.block _ (lt_of_heap HX1.out) (by simp)).trans HX1.out); go_simp
        refine wpAnyH_ready (rs := [15]) (by kernel_rfl) (by simp) ?_
        refine AllReadyH.cons rfl (fun KK hKK => ?_) AllReadyH.nil
        go_simp
        refine (HCD.out _).mono ?_
        rintro _ wn ⟨rfl, hwn⟩
        have hS15 := hHeld.trans hwn
        clear hwn
        try dsimp only
        refine hKK.out _ _ hS15 (fun hx => ?_)
        clear hKK KK hx
        try simp only [Act.put, List.setIfInBounds_toArray, List.set_cons_zero, List.set_cons_succ]
        refine tkn 16 21 (.bool vd) rfl ?_ ?_
        · intro W hSW; go_simp
        refine tkn 17 22 (.bool vd) rfl ?_ ?_
        · intro W hSW; go_simp
        refine tkn 18 23 (.bool vd) rfl ?_ ?_
        · intro W hSW; go_simp
        exact HT.out _ _ ⟨_, _, _, _, _, _, _, _, _, _, _, _, _, _, _, _, _, _, vd, rfl, hS15, (by
          constructor
          · intro h; exact ⟨HB.out.1 (by simp), .inr (HVD.out.1 h)⟩
          · intro h
            replace h := h.2
            rcases h with h | h
            · simp at h
            · exact HVD.out.2 h)⟩
      | false =>
        refine tkn 11 16 (.bool true) rfl ?_ ?_
        · intro W hSW; go_simp
        refine tkn 12 17 (.bool true) rfl ?_ ?_
        · intro W hSW; go_simp
        refine tun 13 18 rfl ?_
        refine tun 14 19 rfl ?_
        refine wpAnyH_pass 15 (o := ⟨some 20, _, _, _, _, _⟩) (by kernel_rfl) rfl (by kernel_rfl) (by assumption) ?_
        try simp only [Act.put, List.setIfInBounds_toArray, List.set_cons_zero, List.set_cons_succ]
        refine tkn 16 21 (.bool true) rfl ?_ ?_
        · intro W hSW; go_simp
        refine tkn 17 22 (.bool true) rfl ?_ ?_
        · intro W hSW; go_simp
        refine tkn 18 23 (.bool true) rfl ?_ ?_
        · intro W hSW; go_simp
        exact HT.out _ _ ⟨_, _, _, _, _, _, _, _, _, _, _, _, _, _, _, _, _, _, true, rfl, hHeld, by exact ⟨fun _ => ⟨HB.out.1 (by simp), .inl (by simp)⟩, fun _ => (by simp)⟩⟩
  rintro _ wd ⟨u5, u6, u7, u8, u9, u10, u11, u12, u13, u14, u15, u16, u17, u18, u19, u20, u21, u22, b, rfl, hHeld, hb⟩
  have HB := hid hb
  clear hb
  refine wpAnyH_block 19 11 32 (by kernel_rfl) (fun a' w' => ∃ (u5 u6 u7 u8 u9 u10 u11 u12 u13 u14 u15 u16 u17 u18 u19 u20 u21 u22 u23 u24 u25 u26 u27 u28 u29 u30 u31 u32 u33 : Value) (b : Bool), a' = ⟨#[.agg #[.int .i64 (k : Nat), .int .i64 m.frm, .int .i64 m.dst, .int .i64 m.call, .int .i64 m.rng, .int .i64 m.own, .string m.key, .int .i64 m.dn, .int .i64 m.dc, .slice m.set.p m.set.n m.set.c, .slice m.ws.p m.ws.n m.ws.c], .int .u64 (fk : Nat), .pointer (some ⟨X, 0, none⟩), undef, .bool false, u5, u6, u7, u8, u9, u10, u11, u12, u13, u14, u15, u16, u17, u18, u19, u20, u21, u22, u23, u24, u25, u26, u27, u28, u29, u30, u31, u32, u33, .bool b, undef, undef, undef, undef, undef, undef, undef, undef, undef, undef, undef, undef, undef, undef, undef, undef, undef, undef, undef, undef, undef, undef, undef, undef, undef, undef, undef, undef, undef, undef, undef], []⟩ ∧ Apart [] w1 w' ∧ (b = true ↔ (((b8 = false ∨ (1 ≤ m.key.size ∧ m.key.size ≤ 16)) ∧ (b16 = false ∨ IsDot m.dn m.dc)) ∧ (b64 = false ∨ m.ws.n = 1)))) (fun HN => ?_) ?_
  · have HT := hid HN
    clear HN
    cases b with
    | false =>
      refine tun 19 24 rfl ?_
      refine wpAnyH_pass 20 (o := ⟨some 25, _, _, _, _, _⟩) (by kernel_rfl) rfl (by kernel_rfl) (by assumption) ?_
      try simp only [Act.put, List.setIfInBounds_toArray, List.set_cons_zero, List.set_cons_succ]
      refine tun 21 26 rfl ?_
      refine tun 22 27 rfl ?_
      refine tun 23 28 rfl ?_
      refine tun 24 29 rfl ?_
      refine tun 25 30 rfl ?_
      refine tun 26 31 rfl ?_
      refine tun 27 32 rfl ?_
      refine tkn 28 33 (.bool false) rfl ?_ ?_
      · intro W hSW; go_simp
      refine tkn 29 34 (.bool false) rfl ?_ ?_
      · intro W hSW; go_simp
      exact HT.out _ _ ⟨_, _, _, _, _, _, _, _, _, _, _, _, _, _, _, _, _, _, _, _, _, _, _, _, _, _, _, _, _, false, rfl, hHeld, by exact ⟨fun h => (by simp at h), fun h => absurd (HB.out.2 h.1) (by simp)⟩⟩
    | true =>
      refine tkn 19 24 (.int .u64 (fk : Nat)) rfl ?_ ?_
      · intro W hSW; go_simp
      refine wpAnyH_ready (rs := [20]) (by kernel_rfl) (by simp) ?_
      refine AllReadyH.cons rfl (fun KK hKK => ?_) AllReadyH.nil
      go_simp
      refine (HN64.out _).mono ?_
      rintro _ wn ⟨rfl, hwn⟩
      rw [hwn]
      clear hwn wn
      try dsimp only
      refine hKK.out _ _ hHeld (fun hx => ?_)
      clear hKK KK hx
      try simp only [Act.put, List.setIfInBounds_toArray, List.set_cons_zero, List.set_cons_succ]
      cases b64 with
      | true =>
        refine tkn 21 26 (.bool false) rfl ?_ ?_
        · intro W hSW; go_simp
        refine tkn 22 27 (.bool false) rfl ?_ ?_
        · intro W hSW; go_simp
        refine tkn 23 28 (.pointer (some ⟨X, 10, none⟩)) rfl ?_ ?_
        · intro W hSW; go_simp
        refine tkn 24 29 (.slice m.ws.p m.ws.n m.ws.c) rfl ?_ ?_
        · intro W hSW; obtain ⟨⟨c0, c1, c2, c3, c4, c5⟩, c6, c7, c8, c9, c10⟩ := row11 ((hSW.block _ (lt_of_heap HX1.out) (by simp)).trans HX1.out); go_simp
        refine tkn 25 30 (.int .i64 (m.ws.n : Nat)) rfl ?_ ?_
        · intro W hSW; go_simp
        have h1a := HN1a.out
        refine tkn 26 31 (.bool n1) rfl ?_ ?_
        · intro W hSW; go_simp
        refine tkn 27 32 (.bool n1) rfl ?_ ?_
        · intro W hSW; go_simp
        refine tkn 28 33 (.bool n1) rfl ?_ ?_
        · intro W hSW; go_simp
        refine tkn 29 34 (.bool n1) rfl ?_ ?_
        · intro W hSW; go_simp
        exact HT.out _ _ ⟨_, _, _, _, _, _, _, _, _, _, _, _, _, _, _, _, _, _, _, _, _, _, _, _, _, _, _, _, _, n1, rfl, hHeld, (by
          constructor
          · intro h; exact ⟨HB.out.1 (by simp), .inr (HN1.out.1 h)⟩
          · intro h
            replace h := h.2
            rcases h with h | h
            · simp at h
            · exact HN1.out.2 h)⟩
      | false =>
        refine tkn 21 26 (.bool true) rfl ?_ ?_
        · intro W hSW; go_simp
        refine tkn 22 27 (.bool true) rfl ?_ ?_
        · intro W hSW; go_simp
        refine tun 23 28 rfl ?_
        refine tun 24 29 rfl ?_
        refine wpAnyH_pass 25 (o := ⟨some 30, _, _, _, _, _⟩) (by kernel_rfl) rfl (by kernel_rfl) (by assumption) ?_
        try simp only [Act.put, List.setIfInBounds_toArray, List.set_cons_zero, List.set_cons_succ]
        refine tun 26 31 rfl ?_
        refine tkn 27 32 (.bool true) rfl ?_ ?_
        · intro W hSW; go_simp
        refine tkn 28 33 (.bool true) rfl ?_ ?_
        · intro W hSW; go_simp
        refine tkn 29 34 (.bool true) rfl ?_ ?_
        · intro W hSW; go_simp
        exact HT.out _ _ ⟨_, _, _, _, _, _, _, _, _, _, _, _, _, _, _, _, _, _, _, _, _, _, _, _, _, _, _, _, _, true, rfl, hHeld, by exact ⟨fun _ => ⟨HB.out.1 (by simp), .inl (by simp)⟩, fun _ => (by simp)⟩⟩
  rintro _ wd ⟨u5, u6, u7, u8, u9, u10, u11, u12, u13, u14, u15, u16, u17, u18, u19, u20, u21, u22, u23, u24, u25, u26, u27, u28, u29, u30, u31, u32, u33, b, rfl, hHeld, hb⟩
  have HB := hid hb
  clear hb
  refine wpAnyH_block 30 9 23 (by kernel_rfl) (fun a' w' => ∃ (u5 u6 u7 u8 u9 u10 u11 u12 u13 u14 u15 u16 u17 u18 u19 u20 u21 u22 u23 u24 u25 u26 u27 u28 u29 u30 u31 u32 u33 u34 u35 u36 u37 u38 u39 u40 u41 u42 : Value) (b : Bool), a' = ⟨#[.agg #[.int .i64 (k : Nat), .int .i64 m.frm, .int .i64 m.dst, .int .i64 m.call, .int .i64 m.rng, .int .i64 m.own, .string m.key, .int .i64 m.dn, .int .i64 m.dc, .slice m.set.p m.set.n m.set.c, .slice m.ws.p m.ws.n m.ws.c], .int .u64 (fk : Nat), .pointer (some ⟨X, 0, none⟩), undef, .bool false, u5, u6, u7, u8, u9, u10, u11, u12, u13, u14, u15, u16, u17, u18, u19, u20, u21, u22, u23, u24, u25, u26, u27, u28, u29, u30, u31, u32, u33, u34, u35, u36, u37, u38, u39, u40, u41, u42, .bool b, undef, undef, undef, undef, undef, undef, undef, undef, undef, undef, undef, undef, undef, undef, undef, undef, undef, undef, undef, undef, undef, undef], []⟩ ∧ Apart [] w1 w' ∧ (b = true ↔ ((((b8 = false ∨ (1 ≤ m.key.size ∧ m.key.size ≤ 16)) ∧ (b16 = false ∨ IsDot m.dn m.dc)) ∧ (b64 = false ∨ m.ws.n = 1)) ∧ m.ws.n ≤ mostK k))) (fun HN => ?_) ?_
  · have HT := hid HN
    clear HN
    cases b with
    | false =>
      refine tun 30 35 rfl ?_
      refine tun 31 36 rfl ?_
      refine tun 32 37 rfl ?_
      refine tun 33 38 rfl ?_
      refine tun 34 39 rfl ?_
      refine wpAnyH_pass 35 (o := ⟨some 40, _, _, _, _, _⟩) (by kernel_rfl) rfl (by kernel_rfl) (by assumption) ?_
      try simp only [Act.put, List.setIfInBounds_toArray, List.set_cons_zero, List.set_cons_succ]
      refine tun 36 41 rfl ?_
      refine tkn 37 42 (.bool false) rfl ?_ ?_
      · intro W hSW; go_simp
      refine tkn 38 43 (.bool false) rfl ?_ ?_
      · intro W hSW; go_simp
      exact HT.out _ _ ⟨_, _, _, _, _, _, _, _, _, _, _, _, _, _, _, _, _, _, _, _, _, _, _, _, _, _, _, _, _, _, _, _, _, _, _, _, _, _, false, rfl, hHeld, by exact ⟨fun h => (by simp at h), fun h => absurd (HB.out.2 h.1) (by simp)⟩⟩
    | true =>
      refine tkn 30 35 (.pointer (some ⟨X, 10, none⟩)) rfl ?_ ?_
      · intro W hSW; go_simp
      refine tkn 31 36 (.slice m.ws.p m.ws.n m.ws.c) rfl ?_ ?_
      · intro W hSW; obtain ⟨⟨c0, c1, c2, c3, c4, c5⟩, c6, c7, c8, c9, c10⟩ := row11 ((hSW.block _ (lt_of_heap HX1.out) (by simp)).trans HX1.out); go_simp
      refine tkn 32 37 (.int .i64 (m.ws.n : Nat)) rfl ?_ ?_
      · intro W hSW; go_simp
      refine tkn 33 38 (.pointer (some ⟨X, 0, none⟩)) rfl ?_ ?_
      · intro W hSW; go_simp
      refine tkn 34 39 (.int .i64 (k : Nat)) rfl ?_ ?_
      · intro W hSW; obtain ⟨⟨c0, c1, c2, c3, c4, c5⟩, c6, c7, c8, c9, c10⟩ := row11 ((hSW.block _ (lt_of_heap HX1.out) (by simp)).trans HX1.out); go_simp
      refine wpAnyH_ready (rs := [35]) (by kernel_rfl) (by simp) ?_
      refine AllReadyH.cons rfl (fun KK hKK => ?_) AllReadyH.nil
      go_simp
      refine (HCM.out _).mono ?_
      rintro _ wn ⟨rfl, hwn⟩
      rw [hwn]
      clear hwn wn
      try dsimp only
      refine hKK.out _ _ hHeld (fun hx => ?_)
      clear hKK KK hx
      try simp only [Act.put, List.setIfInBounds_toArray, List.set_cons_zero, List.set_cons_succ]
      have h1a := HLQa.out
      have h1b := HLQb.out
      refine tkn 36 41 (.bool lq) rfl ?_ ?_
      · intro W hSW; go_simp
      refine tkn 37 42 (.bool lq) rfl ?_ ?_
      · intro W hSW; go_simp
      refine tkn 38 43 (.bool lq) rfl ?_ ?_
      · intro W hSW; go_simp
      exact HT.out _ _ ⟨_, _, _, _, _, _, _, _, _, _, _, _, _, _, _, _, _, _, _, _, _, _, _, _, _, _, _, _, _, _, _, _, _, _, _, _, _, _, lq, rfl, hHeld, (by
        constructor
        · intro h; exact ⟨HB.out.1 (by simp), HLQ.out.1 h⟩
        · intro h
          replace h := h.2
          exact HLQ.out.2 h)⟩
  rintro _ wd ⟨u5, u6, u7, u8, u9, u10, u11, u12, u13, u14, u15, u16, u17, u18, u19, u20, u21, u22, u23, u24, u25, u26, u27, u28, u29, u30, u31, u32, u33, u34, u35, u36, u37, u38, u39, u40, u41, u42, b, rfl, hHeld, hb⟩
  have HB := hid hb
  clear hb
  refine wpAnyH_block 39 5 18 (by kernel_rfl) (fun a' w' => ∃ (u5 u6 u7 u8 u9 u10 u11 u12 u13 u14 u15 u16 u17 u18 u19 u20 u21 u22 u23 u24 u25 u26 u27 u28 u29 u30 u31 u32 u33 u34 u35 u36 u37 u38 u39 u40 u41 u42 u43 u44 u45 u46 u47 : Value) (b : Bool), a' = ⟨#[.agg #[.int .i64 (k : Nat), .int .i64 m.frm, .int .i64 m.dst, .int .i64 m.call, .int .i64 m.rng, .int .i64 m.own, .string m.key, .int .i64 m.dn, .int .i64 m.dc, .slice m.set.p m.set.n m.set.c, .slice m.ws.p m.ws.n m.ws.c], .int .u64 (fk : Nat), .pointer (some ⟨X, 0, none⟩), undef, .bool false, u5, u6, u7, u8, u9, u10, u11, u12, u13, u14, u15, u16, u17, u18, u19, u20, u21, u22, u23, u24, u25, u26, u27, u28, u29, u30, u31, u32, u33, u34, u35, u36, u37, u38, u39, u40, u41, u42, u43, u44, u45, u46, u47, .bool b, undef, undef, undef, undef, undef, undef, undef, undef, undef, undef, undef, undef, undef, undef, undef, undef, undef], []⟩ ∧ Apart [] w1 w' ∧ (b = true ↔ (((((b8 = false ∨ (1 ≤ m.key.size ∧ m.key.size ≤ 16)) ∧ (b16 = false ∨ IsDot m.dn m.dc)) ∧ (b64 = false ∨ m.ws.n = 1)) ∧ m.ws.n ≤ mostK k) ∧ OkL 64 xs))) (fun HN => ?_) ?_
  · have HT := hid HN
    clear HN
    cases b with
    | false =>
      refine tun 39 44 rfl ?_
      refine tun 40 45 rfl ?_
      refine wpAnyH_pass 41 (o := ⟨some 46, _, _, _, _, _⟩) (by kernel_rfl) rfl (by kernel_rfl) (by assumption) ?_
      try simp only [Act.put, List.setIfInBounds_toArray, List.set_cons_zero, List.set_cons_succ]
      refine tkn 42 47 (.bool false) rfl ?_ ?_
      · intro W hSW; go_simp
      refine tkn 43 48 (.bool false) rfl ?_ ?_
      · intro W hSW; go_simp
      exact HT.out _ _ ⟨_, _, _, _, _, _, _, _, _, _, _, _, _, _, _, _, _, _, _, _, _, _, _, _, _, _, _, _, _, _, _, _, _, _, _, _, _, _, _, _, _, _, _, false, rfl, hHeld, by exact ⟨fun h => (by simp at h), fun h => absurd (HB.out.2 h.1) (by simp)⟩⟩
    | true =>
      refine tkn 39 44 (.pointer (some ⟨X, 9, none⟩)) rfl ?_ ?_
      · intro W hSW; go_simp
      refine tkn 40 45 (.slice m.set.p m.set.n m.set.c) rfl ?_ ?_
      · intro W hSW; obtain ⟨⟨c0, c1, c2, c3, c4, c5⟩, c6, c7, c8, c9, c10⟩ := row11 ((hSW.block _ (lt_of_heap HX1.out) (by simp)).trans HX1.out); go_simp
      refine wpAnyH_ready (rs := [41]) (by kernel_rfl) (by simp) ?_
      refine AllReadyH.cons rfl (fun KK hKK => ?_) AllReadyH.nil
      go_simp
      refine (HCS.out _ hHeld).mono ?_
      rintro _ wn ⟨rfl, hwn⟩
      have hS41 := hHeld.trans hwn
      clear hwn
      try dsimp only
      refine hKK.out _ _ hS41 (fun hx => ?_)
      clear hKK KK hx
      try simp only [Act.put, List.setIfInBounds_toArray, List.set_cons_zero, List.set_cons_succ]
      refine tkn 42 47 (.bool vs) rfl ?_ ?_
      · intro W hSW; go_simp
      refine tkn 43 48 (.bool vs) rfl ?_ ?_
      · intro W hSW; go_simp
      exact HT.out _ _ ⟨_, _, _, _, _, _, _, _, _, _, _, _, _, _, _, _, _, _, _, _, _, _, _, _, _, _, _, _, _, _, _, _, _, _, _, _, _, _, _, _, _, _, _, vs, rfl, hS41, (by
        constructor
        · intro h; exact ⟨HB.out.1 (by simp), HVS.out.1 h⟩
        · intro h
          replace h := h.2
          exact HVS.out.2 h)⟩
  rintro _ wd ⟨u5, u6, u7, u8, u9, u10, u11, u12, u13, u14, u15, u16, u17, u18, u19, u20, u21, u22, u23, u24, u25, u26, u27, u28, u29, u30, u31, u32, u33, u34, u35, u36, u37, u38, u39, u40, u41, u42, u43, u44, u45, u46, u47, b, rfl, hHeld, hb⟩
  have HB := hid hb
  clear hb
  refine wpAnyH_block 44 11 7 (by kernel_rfl) (fun a' w' => ∃ (u5 u6 u7 u8 u9 u10 u11 u12 u13 u14 u15 u16 u17 u18 u19 u20 u21 u22 u23 u24 u25 u26 u27 u28 u29 u30 u31 u32 u33 u34 u35 u36 u37 u38 u39 u40 u41 u42 u43 u44 u45 u46 u47 u48 u49 u50 u51 u52 u53 u54 u55 u56 u57 u58 : Value) (b : Bool), a' = ⟨#[.agg #[.int .i64 (k : Nat), .int .i64 m.frm, .int .i64 m.dst, .int .i64 m.call, .int .i64 m.rng, .int .i64 m.own, .string m.key, .int .i64 m.dn, .int .i64 m.dc, .slice m.set.p m.set.n m.set.c, .slice m.ws.p m.ws.n m.ws.c], .int .u64 (fk : Nat), .pointer (some ⟨X, 0, none⟩), undef, .bool false, u5, u6, u7, u8, u9, u10, u11, u12, u13, u14, u15, u16, u17, u18, u19, u20, u21, u22, u23, u24, u25, u26, u27, u28, u29, u30, u31, u32, u33, u34, u35, u36, u37, u38, u39, u40, u41, u42, u43, u44, u45, u46, u47, u48, u49, u50, u51, u52, u53, u54, u55, u56, u57, u58, .bool b, undef, undef, undef, undef, undef, undef], []⟩ ∧ Apart [] w1 w' ∧ (b = true ↔ ((((((b8 = false ∨ (1 ≤ m.key.size ∧ m.key.size ≤ 16)) ∧ (b16 = false ∨ IsDot m.dn m.dc)) ∧ (b64 = false ∨ m.ws.n = 1)) ∧ m.ws.n ≤ mostK k) ∧ OkL 64 xs) ∧ (k ≠ 5 ∨ ∀ x ∈ xs, x.t = 0)))) (fun HN => ?_) ?_
  · have HT := hid HN
    clear HN
    cases b with
    | false =>
      refine tun 44 49 rfl ?_
      refine tun 45 50 rfl ?_
      refine tun 46 51 rfl ?_
      refine tun 47 52 rfl ?_
      refine tun 48 53 rfl ?_
      refine tun 49 54 rfl ?_
      refine wpAnyH_pass 50 (o := ⟨some 55, _, _, _, _, _⟩) (by kernel_rfl) rfl (by kernel_rfl) (by assumption) ?_
      try simp only [Act.put, List.setIfInBounds_toArray, List.set_cons_zero, List.set_cons_succ]
      refine tun 51 56 rfl ?_
      refine tun 52 57 rfl ?_
      refine tkn 53 58 (.bool false) rfl ?_ ?_
      · intro W hSW; go_simp
      refine tkn 54 59 (.bool false) rfl ?_ ?_
      · intro W hSW; go_simp
      exact HT.out _ _ ⟨_, _, _, _, _, _, _, _, _, _, _, _, _, _, _, _, _, _, _, _, _, _, _, _, _, _, _, _, _, _, _, _, _, _, _, _, _, _, _, _, _, _, _, _, _, _, _, _, _, _, _, _, _, _, false, rfl, hHeld, by exact ⟨fun h => (by simp at h), fun h => absurd (HB.out.2 h.1) (by simp)⟩⟩
    | true =>
      refine tkn 44 49 (.pointer (some ⟨X, 0, none⟩)) rfl ?_ ?_
      · intro W hSW; go_simp
      refine tkn 45 50 (.int .i64 (k : Nat)) rfl ?_ ?_
      · intro W hSW; obtain ⟨⟨c0, c1, c2, c3, c4, c5⟩, c6, c7, c8, c9, c10⟩ := row11 ((hSW.block _ (lt_of_heap HX1.out) (by simp)).trans HX1.out); go_simp
      have h1a := HK5a.out
      have h1b := HK5b.out
      refine tkn 46 51 (.bool k5) rfl ?_ ?_
      · intro W hSW; go_simp
      refine tkn 47 52 (.bool k5) rfl ?_ ?_
      · intro W hSW; go_simp
      cases k5 with
      | false =>
        refine tkn 48 53 (.pointer (some ⟨X, 9, none⟩)) rfl ?_ ?_
        · intro W hSW; go_simp
        refine tkn 49 54 (.slice m.set.p m.set.n m.set.c) rfl ?_ ?_
        · intro W hSW; obtain ⟨⟨c0, c1, c2, c3, c4, c5⟩, c6, c7, c8, c9, c10⟩ := row11 ((hSW.block _ (lt_of_heap HX1.out) (by simp)).trans HX1.out); go_simp
        refine wpAnyH_ready (rs := [50]) (by kernel_rfl) (by simp) ?_
        refine AllReadyH.cons rfl (fun KK hKK => ?_) AllReadyH.nil
        go_simp
        refine (HCB.out _ hHeld).mono ?_
        rintro _ wn ⟨rfl, hwn⟩
        have hS50 := hHeld.trans hwn
        clear hwn
        try dsimp only
        refine hKK.out _ _ hS50 (fun hx => ?_)
        clear hKK KK hx
        try simp only [Act.put, List.setIfInBounds_toArray, List.set_cons_zero, List.set_cons_succ]
        refine tkn 51 56 (.bool (!vb)) rfl ?_ ?_
        · intro W hSW; go_simp
        refine tkn 52 57 (.bool (!vb)) rfl ?_ ?_
        · intro W hSW; go_simp
        refine tkn 53 58 (.bool (!vb)) rfl ?_ ?_
        · intro W hSW; go_simp
        refine tkn 54 59 (.bool (!vb)) rfl ?_ ?_
        · intro W hSW; go_simp
        exact HT.out _ _ ⟨_, _, _, _, _, _, _, _, _, _, _, _, _, _, _, _, _, _, _, _, _, _, _, _, _, _, _, _, _, _, _, _, _, _, _, _, _, _, _, _, _, _, _, _, _, _, _, _, _, _, _, _, _, _, (!vb), rfl, hS50, (by
          constructor
          · intro h; exact ⟨HB.out.1 (by simp), .inr (HVB.out.1 h)⟩
          · intro h
            replace h := h.2
            rcases h with h | h
            · exact absurd (HK5.out.2 h) (by simp)
            · exact HVB.out.2 h)⟩
      | true =>
        refine tun 48 53 rfl ?_
        refine tun 49 54 rfl ?_
        refine wpAnyH_pass 50 (o := ⟨some 55, _, _, _, _, _⟩) (by kernel_rfl) rfl (by kernel_rfl) (by assumption) ?_
        try simp only [Act.put, List.setIfInBounds_toArray, List.set_cons_zero, List.set_cons_succ]
        refine tun 51 56 rfl ?_
        refine tkn 52 57 (.bool true) rfl ?_ ?_
        · intro W hSW; go_simp
        refine tkn 53 58 (.bool true) rfl ?_ ?_
        · intro W hSW; go_simp
        refine tkn 54 59 (.bool true) rfl ?_ ?_
        · intro W hSW; go_simp
        exact HT.out _ _ ⟨_, _, _, _, _, _, _, _, _, _, _, _, _, _, _, _, _, _, _, _, _, _, _, _, _, _, _, _, _, _, _, _, _, _, _, _, _, _, _, _, _, _, _, _, _, _, _, _, _, _, _, _, _, _, true, rfl, hHeld, by exact ⟨fun _ => ⟨HB.out.1 (by simp), .inl (HK5.out.1 (by simp))⟩, fun _ => (by simp)⟩⟩
  rintro _ wd ⟨u5, u6, u7, u8, u9, u10, u11, u12, u13, u14, u15, u16, u17, u18, u19, u20, u21, u22, u23, u24, u25, u26, u27, u28, u29, u30, u31, u32, u33, u34, u35, u36, u37, u38, u39, u40, u41, u42, u43, u44, u45, u46, u47, u48, u49, u50, u51, u52, u53, u54, u55, u56, u57, u58, b, rfl, hHeld, hb⟩
  have HB := hid hb
  clear hb
  refine wpAnyH_block 55 7 0 (by kernel_rfl) (fun a' w' => ∃ (u5 u6 u7 u8 u9 u10 u11 u12 u13 u14 u15 u16 u17 u18 u19 u20 u21 u22 u23 u24 u25 u26 u27 u28 u29 u30 u31 u32 u33 u34 u35 u36 u37 u38 u39 u40 u41 u42 u43 u44 u45 u46 u47 u48 u49 u50 u51 u52 u53 u54 u55 u56 u57 u58 u59 u60 u61 u62 u63 u64 u65 : Value) (b : Bool), a' = ⟨#[.agg #[.int .i64 (k : Nat), .int .i64 m.frm, .int .i64 m.dst, .int .i64 m.call, .int .i64 m.rng, .int .i64 m.own, .string m.key, .int .i64 m.dn, .int .i64 m.dc, .slice m.set.p m.set.n m.set.c, .slice m.ws.p m.ws.n m.ws.c], .int .u64 (fk : Nat), .pointer (some ⟨X, 0, none⟩), undef, .bool b, u5, u6, u7, u8, u9, u10, u11, u12, u13, u14, u15, u16, u17, u18, u19, u20, u21, u22, u23, u24, u25, u26, u27, u28, u29, u30, u31, u32, u33, u34, u35, u36, u37, u38, u39, u40, u41, u42, u43, u44, u45, u46, u47, u48, u49, u50, u51, u52, u53, u54, u55, u56, u57, u58, u59, u60, u61, u62, u63, u64, u65], []⟩ ∧ Apart [] w1 w' ∧ (b = true ↔ (((((((b8 = false ∨ (1 ≤ m.key.size ∧ m.key.size ≤ 16)) ∧ (b16 = false ∨ IsDot m.dn m.dc)) ∧ (b64 = false ∨ m.ws.n = 1)) ∧ m.ws.n ≤ mostK k) ∧ OkL 64 xs) ∧ (k ≠ 5 ∨ ∀ x ∈ xs, x.t = 0)) ∧ WsOk m.key 0 0 rs))) (fun HN => ?_) ?_
  · have HT := hid HN
    clear HN
    cases b with
    | false =>
      refine tun 55 60 rfl ?_
      refine tun 56 61 rfl ?_
      refine tun 57 62 rfl ?_
      refine tun 58 63 rfl ?_
      refine wpAnyH_pass 59 (o := ⟨some 64, _, _, _, _, _⟩) (by kernel_rfl) rfl (by kernel_rfl) (by assumption) ?_
      try simp only [Act.put, List.setIfInBounds_toArray, List.set_cons_zero, List.set_cons_succ]
      refine tkn 60 65 (.bool false) rfl ?_ ?_
      · intro W hSW; go_simp
      refine tkn 61 4 (.bool false) rfl ?_ ?_
      · intro W hSW; go_simp
      exact HT.out _ _ ⟨_, _, _, _, _, _, _, _, _, _, _, _, _, _, _, _, _, _, _, _, _, _, _, _, _, _, _, _, _, _, _, _, _, _, _, _, _, _, _, _, _, _, _, _, _, _, _, _, _, _, _, _, _, _, _, _, _, _, _, _, _, false, rfl, hHeld, by exact ⟨fun h => (by simp at h), fun h => absurd (HB.out.2 h.1) (by simp)⟩⟩
    | true =>
      refine tkn 55 60 (.pointer (some ⟨X, 10, none⟩)) rfl ?_ ?_
      · intro W hSW; go_simp
      refine tkn 56 61 (.slice m.ws.p m.ws.n m.ws.c) rfl ?_ ?_
      · intro W hSW; obtain ⟨⟨c0, c1, c2, c3, c4, c5⟩, c6, c7, c8, c9, c10⟩ := row11 ((hSW.block _ (lt_of_heap HX1.out) (by simp)).trans HX1.out); go_simp
      refine tkn 57 62 (.pointer (some ⟨X, 6, none⟩)) rfl ?_ ?_
      · intro W hSW; go_simp
      refine tkn 58 63 (.string m.key) rfl ?_ ?_
      · intro W hSW; obtain ⟨⟨c0, c1, c2, c3, c4, c5⟩, c6, c7, c8, c9, c10⟩ := row11 ((hSW.block _ (lt_of_heap HX1.out) (by simp)).trans HX1.out); go_simp
      refine wpAnyH_ready (rs := [59]) (by kernel_rfl) (by simp) ?_
      refine AllReadyH.cons rfl (fun KK hKK => ?_) AllReadyH.nil
      go_simp
      refine (HCW.out _ hHeld).mono ?_
      rintro _ wn ⟨rfl, hwn⟩
      have hS59 := hHeld.trans hwn
      clear hwn
      try dsimp only
      refine hKK.out _ _ hS59 (fun hx => ?_)
      clear hKK KK hx
      try simp only [Act.put, List.setIfInBounds_toArray, List.set_cons_zero, List.set_cons_succ]
      refine tkn 60 65 (.bool vw) rfl ?_ ?_
      · intro W hSW; go_simp
      refine tkn 61 4 (.bool vw) rfl ?_ ?_
      · intro W hSW; go_simp
      exact HT.out _ _ ⟨_, _, _, _, _, _, _, _, _, _, _, _, _, _, _, _, _, _, _, _, _, _, _, _, _, _, _, _, _, _, _, _, _, _, _, _, _, _, _, _, _, _, _, _, _, _, _, _, _, _, _, _, _, _, _, _, _, _, _, _, _, vw, rfl, hS59, (by
        constructor
        · intro h; exact ⟨HB.out.1 (by simp), HVW.out.1 h⟩
        · intro h
          replace h := h.2
          exact HVW.out.2 h)⟩
  rintro _ wd ⟨u5, u6, u7, u8, u9, u10, u11, u12, u13, u14, u15, u16, u17, u18, u19, u20, u21, u22, u23, u24, u25, u26, u27, u28, u29, u30, u31, u32, u33, u34, u35, u36, u37, u38, u39, u40, u41, u42, u43, u44, u45, u46, u47, u48, u49, u50, u51, u52, u53, u54, u55, u56, u57, u58, u59, u60, u61, u62, u63, u64, u65, b, rfl, hHeld, hb⟩
  refine wpAnyH_done (by kernel_rfl) ?_ _
  have hvb : v = b := by
    have h1 : v = true ↔ b = true := by rw [HV.out, hb]; rfl
    cases v <;> cases b <;> simp_all
  subst hvb
  go_wp2_with fail
  go_ret
  exact ⟨rfl, HA1.out.trans hHeld⟩
end Go.Proofs.YtddffdcjhleejaaGreat.ds
