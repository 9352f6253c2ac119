import Derived.Test.YtddffdcjhleejaaGreatG27
import Derived.Laws.StructEq
namespace Go.Proofs.YtddffdcjhleejaaGreat.ds
open Go.ChangeShapes Go.WideShapes Go.ChangeAt Go.RowKit Go.Sort
set_option linter.unusedVariables false
set_option linter.unusedSimpArgs false
/-- what is left of a region -/
def rest2 (n : Nat) (T : List Oper) : List Oper := T
theorem wpList_cutat {P : Program} {ops : Array Oper} {Q : Exit → Act → World → Prop} {a : Act} {w : World} {l : List Oper} (n : Nat) (J : Act → World → Prop) (hb : ∀ T, (∀ a' w', J a' w' → wpList P ops Q (rest2 n T) a' w') → wpList P ops Q (l.take n ++ rest2 n T) a w) (hn : ∀ a' w', J a' w' → wpList P ops Q (l.drop n) a' w') : wpList P ops Q l a w := by
  have h1 : wpList P ops Q (l.take n ++ l.drop n) a w := hb (l.drop n) hn
  rwa [List.take_append_drop] at h1
theorem key_empty (k : ByteArray) : k.toList.isEmpty = true ↔ k = ⟨#[]⟩ := by
  rw [List.isEmpty_iff]
  constructor
  · intro h
    exact (keq_iff k ⟨#[]⟩).1 (by rw [keq_e, h]; rfl)
  · intro h
    have h1 := (keq_iff k ⟨#[]⟩).2 h
    rw [keq_e] at h1
    simpa using h1
theorem guard25 : Tryz.prog.eqGuardType Tryz.prog.depth 25 = false := by kernel_rfl
theorem equal25 (W : World) (n b m c : Int) : Sem.run Tryz.prog (Op.equalIn 10000 25 (.agg #[.int .i64 n, .int .i64 b]) (.agg #[.int .i64 m, .int .i64 c])) W = .ok (decide (n = m ∧ b = c)) W := by
  have hS : Tryz.prog.underlying 25 = some (.struct (Tryz.prog.fieldsOf 25)) := by kernel_rfl
  have hp : Tryz.prog.stoodInHeld 25 = false := by kernel_rfl
  rw [show (10000 : Nat) = 9998 + 1 + 1 from rfl, run_equalIn_agg _ _ _ _ _ hS hp]
  simp only [Program.fieldsOf, Tryz.underlying25]
  simp [go_sem, Tryz.underlying3]
  by_cases h1 : n = m <;> by_cases h2 : b = c <;> simp [h1, h2, go_sem]
theorem eql25 (n b : Int) (W : World) : Sem.run Tryz.prog (binOp BinOp.eql 25 (.agg #[.int .i64 n, .int .i64 b]) (.agg #[.int .i64 0, .int .i64 0])) W = .ok (.bool (decide (n = 0 ∧ b = 0))) W := by
  rw [run_eql_struct, equal25]; rfl
def silP (m : MI) (b1 b2 b4 b8 b16 b32 b192 : Bool) : Prop := (((((((b1 = true ∨ m.call = 0) ∧ (b2 = true ∨ m.own = 0)) ∧ (b4 = true ∨ m.rng = 0)) ∧ (b8 = true ∨ m.key = ⟨#[]⟩)) ∧ (b16 = true ∨ m.dn = 0 ∧ m.dc = 0)) ∧ (b32 = true ∨ m.set.n = 0)) ∧ (b192 = true ∨ m.ws.n = 0))
set_option maxHeartbeats 16000000 in
set_option maxRecDepth 100000 in
theorem silentI_ok (w : World) (m : MI) (fk : Nat) (hfk : fk < 256) (b1 b2 b4 b8 b16 b32 b192 : Bool) (e1 : b1 = decide (fk &&& 1 ≠ 0)) (e2 : b2 = decide (fk &&& 2 ≠ 0)) (e4 : b4 = decide (fk &&& 4 ≠ 0)) (e8 : b8 = decide (fk &&& 8 ≠ 0)) (e16 : b16 = decide (fk &&& 16 ≠ 0)) (e32 : b32 = decide (fk &&& 32 ≠ 0)) (e192 : b192 = decide (fk &&& 192 ≠ 0)) (v : Bool) (hv : v = true ↔ silP m b1 b2 b4 b8 b16 b32 b192) : Calls Tryz.prog 40 #[.agg #[.int .i64 m.kind, .int .i64 m.frm, .int .i64 m.dst, .int .i64 m.call, .int .i64 m.rng, .int .i64 m.own, .string m.key, .int .i64 m.dn, .int .i64 m.dc, .slice m.set.p m.set.n m.set.c, .slice m.ws.p m.ws.n m.ws.c], .int .u64 (fk : Nat)] w fun r w' => r = .returned (.bool v) ∧ Apart [] w w' := by
  have HN1 : Hid (∀ W, Calls Tryz.prog 61 #[.int .u64 (fk : Int), .int .u64 1] W fun r w' => r = .returned (.bool b1) ∧ w' = W) := fun W => name_wire fk 1 hfk (by decide) b1 e1 W
  have HN2 : Hid (∀ W, Calls Tryz.prog 61 #[.int .u64 (fk : Int), .int .u64 2] W fun r w' => r = .returned (.bool b2) ∧ w' = W) := fun W => name_wire fk 2 hfk (by decide) b2 e2 W
  have HN4 : Hid (∀ W, Calls Tryz.prog 61 #[.int .u64 (fk : Int), .int .u64 4] W fun r w' => r = .returned (.bool b4) ∧ w' = W) := fun W => name_wire fk 4 hfk (by decide) b4 e4 W
  have HN8 : Hid (∀ W, Calls Tryz.prog 61 #[.int .u64 (fk : Int), .int .u64 8] W fun r w' => r = .returned (.bool b8) ∧ w' = W) := fun W => name_wire fk 8 hfk (by decide) b8 e8 W
  have HN16 : Hid (∀ W, Calls Tryz.prog 61 #[.int .u64 (fk : Int), .int .u64 16] W fun r w' => r = .returned (.bool b16) ∧ w' = W) := fun W => name_wire fk 16 hfk (by decide) b16 e16 W
  have HN32 : Hid (∀ W, Calls Tryz.prog 61 #[.int .u64 (fk : Int), .int .u64 32] W fun r w' => r = .returned (.bool b32) ∧ w' = W) := fun W => name_wire fk 32 hfk (by decide) b32 e32 W
  have HN192 : Hid (∀ W, Calls Tryz.prog 61 #[.int .u64 (fk : Int), .int .u64 192] W fun r w' => r = .returned (.bool b192) ∧ w' = W) := fun W => name_wire fk 192 hfk (by decide) b192 e192 W
  have HV := hid hv
  obtain ⟨X, HX⟩ : ∃ X, Hid (X = w.heap.size) := ⟨_, rfl⟩
  obtain ⟨w1, hw1⟩ : ∃ w1, w1 = w.alloc (.cells #[.int .i64 m.kind, .int .i64 m.frm, .int .i64 m.dst, .int .i64 m.call, .int .i64 m.rng, .int .i64 m.own, .string m.key, .int .i64 m.dn, .int .i64 m.dc, .slice m.set.p m.set.n m.set.c, .slice m.ws.p m.ws.n m.ws.c] 29) := ⟨_, rfl⟩
  have HA1 : Hid (Apart [] w w1) := by unfold Hid; rw [hw1]; exact (Apart.refl [] w).alloc _
  have HX1 : Hid (w1.heap[X]? = some (.cells #[.int .i64 m.kind, .int .i64 m.frm, .int .i64 m.dst, .int .i64 m.call, .int .i64 m.rng, .int .i64 m.own, .string m.key, .int .i64 m.dn, .int .i64 m.dc, .slice m.set.p m.set.n m.set.c, .slice m.ws.p m.ws.n m.ws.c] 29 (0, 0))) := by unfold Hid; rw [HX.out, hw1]; exact heap_alloc_new w _
  clear e1 e2 e4 e8 e16 e32 e192 hv hfk
  obtain ⟨⟨c0, c1, c2, c3, c4, c5⟩, c6, c7, c8, c9, c10⟩ := row11 HX1.out
  go_enter Tryz.func40, Tryz.ntmps40
  go_upto_region 1 with fail
  rw [← hw1, ← HX.out]
  clear hw1
  apply wp_region_lit
  simp only [List.append_eq, List.cons_append, List.nil_append]
  refine wpList_cutat 8 (fun a' w' => ∃ (u5 u6 u7 u8 u9 u10 u11 : Value) (b : Bool), a' = ⟨#[.agg #[.int .i64 m.kind, .int .i64 m.frm, .int .i64 m.dst, .int .i64 m.call, .int .i64 m.rng, .int .i64 m.own, .string m.key, .int .i64 m.dn, .int .i64 m.dc, .slice m.set.p m.set.n m.set.c, .slice m.ws.p m.ws.n m.ws.c], .int .u64 (fk : Nat), .pointer (some ⟨X, 0, none⟩), undef, .bool false, u5, u6, u7, u8, u9, u10, u11, .bool b, undef, undef, undef, undef, undef, undef, undef, undef, undef, undef, undef, undef, undef, undef, undef, undef, undef, undef, undef, undef, undef, undef, undef, undef, undef, undef, undef, undef, undef, undef, undef, undef, undef, undef, undef, undef, undef, undef, undef, undef, undef, undef, undef, undef, undef, undef, undef, undef, undef, undef, undef, undef, undef, undef, undef, undef], []⟩ ∧ w' = w1 ∧ (b = true ↔ ((b1 = true ∨ m.call = 0)))) (fun T HN => ?_) ?_
  · have HT := hid HN
    clear HN
    simp only [List.take_succ_cons, List.take_zero, List.cons_append, List.nil_append]
    go_wp2_with fail
    refine (HN1.out w1).mono ?_
    rintro _ wn ⟨rfl, hwn⟩
    rw [hwn]
    clear hwn wn
    try dsimp only
    cases b1 with
    | true =>
      go_wp2_with fail
      exact HT.out _ _ ⟨_, _, _, _, _, _, _, true, rfl, rfl, by exact ⟨fun _ => .inl (by simp), fun _ => (by simp)⟩⟩
    | false =>
      go_wp2_with fail
      exact HT.out _ _ ⟨_, _, _, _, _, _, _, (m.call == 0), rfl, rfl, by
        constructor
        · intro h; exact .inr (by simpa using h)
        · intro h
          rcases h with h | h
          · simp at h
          · simpa using h⟩
  simp only [List.drop_succ_cons, List.drop_zero]
  rintro _ w' ⟨u5, u6, u7, u8, u9, u10, u11, b, rfl, hww, hb⟩
  rw [hww]
  have HB := hid hb
  clear hww hb
  refine wpList_cutat 9 (fun a' w' => ∃ (u5 u6 u7 u8 u9 u10 u11 u12 u13 u14 u15 u16 u17 u18 u19 u20 : Value) (b : Bool), a' = ⟨#[.agg #[.int .i64 m.kind, .int .i64 m.frm, .int .i64 m.dst, .int .i64 m.call, .int .i64 m.rng, .int .i64 m.own, .string m.key, .int .i64 m.dn, .int .i64 m.dc, .slice m.set.p m.set.n m.set.c, .slice m.ws.p m.ws.n m.ws.c], .int .u64 (fk : Nat), .pointer (some ⟨X, 0, none⟩), undef, .bool false, u5, u6, u7, u8, u9, u10, u11, u12, u13, u14, u15, u16, u17, u18, u19, u20, .bool b, undef, undef, undef, undef, undef, undef, undef, undef, undef, undef, undef, undef, undef, undef, undef, undef, undef, undef, undef, undef, undef, undef, undef, undef, undef, undef, undef, undef, undef, undef, undef, undef, undef, undef, undef, undef, undef, undef, undef, undef, undef, undef, undef, undef, undef, undef, undef], []⟩ ∧ w' = w1 ∧ (b = true ↔ (((b1 = true ∨ m.call = 0) ∧ (b2 = true ∨ m.own = 0))))) (fun T HN => ?_) ?_
  · have HT := hid HN
    clear HN
    simp only [List.take_succ_cons, List.take_zero, List.cons_append, List.nil_append]
    cases b with
    | false =>
      go_wp2_with fail
      exact HT.out _ _ ⟨_, _, _, _, _, _, _, _, _, _, _, _, _, _, _, _, false, rfl, rfl, by exact ⟨fun h => (by simp at h), fun h => absurd (HB.out.2 h.1) (by simp)⟩⟩
    | true =>
      go_wp2_with fail
      refine (HN2.out w1).mono ?_
      rintro _ wn ⟨rfl, hwn⟩
      rw [hwn]
      clear hwn wn
      try dsimp only
      cases b2 with
      | true =>
        go_wp2_with fail
        exact HT.out _ _ ⟨_, _, _, _, _, _, _, _, _, _, _, _, _, _, _, _, true, rfl, rfl, by exact ⟨fun _ => ⟨HB.out.1 (by simp), .inl (by simp)⟩, fun _ => (by simp)⟩⟩
      | false =>
        go_wp2_with fail
        exact HT.out _ _ ⟨_, _, _, _, _, _, _, _, _, _, _, _, _, _, _, _, (m.own == 0), rfl, rfl, by
          constructor
          · intro h; exact ⟨HB.out.1 (by simp), .inr (by simpa using h)⟩
          · intro h
            rcases h.2 with h | h
            · simp at h
            · simpa using h⟩
  simp only [List.drop_succ_cons, List.drop_zero]
  rintro _ w' ⟨u5, u6, u7, u8, u9, u10, u11, u12, u13, u14, u15, u16, u17, u18, u19, u20, b, rfl, hww, hb⟩
  rw [hww]
  have HB := hid hb
  clear hww hb
  refine wpList_cutat 9 (fun a' w' => ∃ (u5 u6 u7 u8 u9 u10 u11 u12 u13 u14 u15 u16 u17 u18 u19 u20 u21 u22 u23 u24 u25 u26 u27 u28 u29 : Value) (b : Bool), a' = ⟨#[.agg #[.int .i64 m.kind, .int .i64 m.frm, .int .i64 m.dst, .int .i64 m.call, .int .i64 m.rng, .int .i64 m.own, .string m.key, .int .i64 m.dn, .int .i64 m.dc, .slice m.set.p m.set.n m.set.c, .slice m.ws.p m.ws.n m.ws.c], .int .u64 (fk : Nat), .pointer (some ⟨X, 0, none⟩), undef, .bool false, u5, u6, u7, u8, u9, u10, u11, u12, u13, u14, u15, u16, u17, u18, u19, u20, u21, u22, u23, u24, u25, u26, u27, u28, u29, .bool b, undef, undef, undef, undef, undef, undef, undef, undef, undef, undef, undef, undef, undef, undef, undef, undef, undef, undef, undef, undef, undef, undef, undef, undef, undef, undef, undef, undef, undef, undef, undef, undef, undef, undef, undef, undef, undef, undef], []⟩ ∧ w' = w1 ∧ (b = true ↔ ((((b1 = true ∨ m.call = 0) ∧ (b2 = true ∨ m.own = 0)) ∧ (b4 = true ∨ m.rng = 0))))) (fun T HN => ?_) ?_
  · have HT := hid HN
    clear HN
    simp only [List.take_succ_cons, List.take_zero, List.cons_append, List.nil_append]
    cases b with
    | false =>
      go_wp2_with fail
      exact HT.out _ _ ⟨_, _, _, _, _, _, _, _, _, _, _, _, _, _, _, _, _, _, _, _, _, _, _, _, _, false, rfl, rfl, by exact ⟨fun h => (by simp at h), fun h => absurd (HB.out.2 h.1) (by simp)⟩⟩
    | true =>
      go_wp2_with fail
      refine (HN4.out w1).mono ?_
      rintro _ wn ⟨rfl, hwn⟩
      rw [hwn]
      clear hwn wn
      try dsimp only
      cases b4 with
      | true =>
        go_wp2_with fail
        exact HT.out _ _ ⟨_, _, _, _, _, _, _, _, _, _, _, _, _, _, _, _, _, _, _, _, _, _, _, _, _, true, rfl, rfl, by exact ⟨fun _ => ⟨HB.out.1 (by simp), .inl (by simp)⟩, fun _ => (by simp)⟩⟩
      | false =>
        go_wp2_with fail
        exact HT.out _ _ ⟨_, _, _, _, _, _, _, _, _, _, _, _, _, _, _, _, _, _, _, _, _, _, _, _, _, (m.rng == 0), rfl, rfl, by
          constructor
          · intro h; exact ⟨HB.out.1 (by simp), .inr (by simpa using h)⟩
          · intro h
            rcases h.2 with h | h
            · simp at h
            · simpa using h⟩
  simp only [List.drop_succ_cons, List.drop_zero]
  rintro _ w' ⟨u5, u6, u7, u8, u9, u10, u11, u12, u13, u14, u15, u16, u17, u18, u19, u20, u21, u22, u23, u24, u25, u26, u27, u28, u29, b, rfl, hww, hb⟩
  rw [hww]
  have HB := hid hb
  clear hww hb
  refine wpList_cutat 9 (fun a' w' => ∃ (u5 u6 u7 u8 u9 u10 u11 u12 u13 u14 u15 u16 u17 u18 u19 u20 u21 u22 u23 u24 u25 u26 u27 u28 u29 u30 u31 u32 u33 u34 u35 u36 u37 u38 : Value) (b : Bool), a' = ⟨#[.agg #[.int .i64 m.kind, .int .i64 m.frm, .int .i64 m.dst, .int .i64 m.call, .int .i64 m.rng, .int .i64 m.own, .string m.key, .int .i64 m.dn, .int .i64 m.dc, .slice m.set.p m.set.n m.set.c, .slice m.ws.p m.ws.n m.ws.c], .int .u64 (fk : Nat), .pointer (some ⟨X, 0, none⟩), undef, .bool false, u5, u6, u7, u8, u9, u10, u11, u12, u13, u14, u15, u16, u17, u18, u19, u20, u21, u22, u23, u24, u25, u26, u27, u28, u29, u30, u31, u32, u33, u34, u35, u36, u37, u38, .bool b, undef, undef, undef, undef, undef, undef, undef, undef, undef, undef, undef, undef, undef, undef, undef, undef, undef, undef, undef, undef, undef, undef, undef, undef, undef, undef, undef, undef, undef], []⟩ ∧ w' = w1 ∧ (b = true ↔ (((((b1 = true ∨ m.call = 0) ∧ (b2 = true ∨ m.own = 0)) ∧ (b4 = true ∨ m.rng = 0)) ∧ (b8 = true ∨ m.key = ⟨#[]⟩))))) (fun T HN => ?_) ?_
  · have HT := hid HN
    clear HN
    simp only [List.take_succ_cons, List.take_zero, List.cons_append, List.nil_append]
    cases b with
    | false =>
      go_wp2_with fail
      exact HT.out _ _ ⟨_, _, _, _, _, _, _, _, _, _, _, _, _, _, _, _, _, _, _, _, _, _, _, _, _, _, _, _, _, _, _, _, _, _, false, rfl, rfl, by exact ⟨fun h => (by simp at h), fun h => absurd (HB.out.2 h.1) (by simp)⟩⟩
    | true =>
      go_wp2_with fail
      refine (HN8.out w1).mono ?_
      rintro _ wn ⟨rfl, hwn⟩
      rw [hwn]
      clear hwn wn
      try dsimp only
      cases b8 with
      | true =>
        go_wp2_with fail
        exact HT.out _ _ ⟨_, _, _, _, _, _, _, _, _, _, _, _, _, _, _, _, _, _, _, _, _, _, _, _, _, _, _, _, _, _, _, _, _, _, true, rfl, rfl, by exact ⟨fun _ => ⟨HB.out.1 (by simp), .inl (by simp)⟩, fun _ => (by simp)⟩⟩
      | false =>
        go_wp2_with fail
        exact HT.out _ _ ⟨_, _, _, _, _, _, _, _, _, _, _, _, _, _, _, _, _, _, _, _, _, _, _, _, _, _, _, _, _, _, _, _, _, _, m.key.toList.isEmpty, rfl, rfl, by
          constructor
          · intro h; exact ⟨HB.out.1 (by simp), .inr ((key_empty _).1 h)⟩
          · intro h
            rcases h.2 with h | h
            · simp at h
            · exact (key_empty _).2 h⟩
  simp only [List.drop_succ_cons, List.drop_zero]
  rintro _ w' ⟨u5, u6, u7, u8, u9, u10, u11, u12, u13, u14, u15, u16, u17, u18, u19, u20, u21, u22, u23, u24, u25, u26, u27, u28, u29, u30, u31, u32, u33, u34, u35, u36, u37, u38, b, rfl, hww, hb⟩
  rw [hww]
  have HB := hid hb
  clear hww hb
  refine wpList_cutat 10 (fun a' w' => ∃ (u5 u6 u7 u8 u9 u10 u11 u12 u13 u14 u15 u16 u17 u18 u19 u20 u21 u22 u23 u24 u25 u26 u27 u28 u29 u30 u31 u32 u33 u34 u35 u36 u37 u38 u39 u40 u41 u42 u43 u44 u45 u46 u47 u48 : Value) (b : Bool), a' = ⟨#[.agg #[.int .i64 m.kind, .int .i64 m.frm, .int .i64 m.dst, .int .i64 m.call, .int .i64 m.rng, .int .i64 m.own, .string m.key, .int .i64 m.dn, .int .i64 m.dc, .slice m.set.p m.set.n m.set.c, .slice m.ws.p m.ws.n m.ws.c], .int .u64 (fk : Nat), .pointer (some ⟨X, 0, none⟩), undef, .bool false, u5, u6, u7, u8, u9, u10, u11, u12, u13, u14, u15, u16, u17, u18, u19, u20, u21, u22, u23, u24, u25, u26, u27, u28, u29, u30, u31, u32, u33, u34, u35, u36, u37, u38, u39, u40, u41, u42, u43, u44, u45, u46, u47, u48, .bool b, undef, undef, undef, undef, undef, undef, undef, undef, undef, undef, undef, undef, undef, undef, undef, undef, undef, undef, undef], []⟩ ∧ w' = w1 ∧ (b = true ↔ ((((((b1 = true ∨ m.call = 0) ∧ (b2 = true ∨ m.own = 0)) ∧ (b4 = true ∨ m.rng = 0)) ∧ (b8 = true ∨ m.key = ⟨#[]⟩)) ∧ (b16 = true ∨ m.dn = 0 ∧ m.dc = 0))))) (fun T HN => ?_) ?_
  · have HT := hid HN
    clear HN
    simp only [List.take_succ_cons, List.take_zero, List.cons_append, List.nil_append]
    cases b with
    | false =>
      go_wp2_with fail
      exact HT.out _ _ ⟨_, _, _, _, _, _, _, _, _, _, _, _, _, _, _, _, _, _, _, _, _, _, _, _, _, _, _, _, _, _, _, _, _, _, _, _, _, _, _, _, _, _, _, _, false, rfl, rfl, by exact ⟨fun h => (by simp at h), fun h => absurd (HB.out.2 h.1) (by simp)⟩⟩
    | true =>
      go_wp2_with fail
      refine (HN16.out w1).mono ?_
      rintro _ wn ⟨rfl, hwn⟩
      rw [hwn]
      clear hwn wn
      try dsimp only
      cases b16 with
      | true =>
        go_wp2_with fail
        exact HT.out _ _ ⟨_, _, _, _, _, _, _, _, _, _, _, _, _, _, _, _, _, _, _, _, _, _, _, _, _, _, _, _, _, _, _, _, _, _, _, _, _, _, _, _, _, _, _, _, true, rfl, rfl, by exact ⟨fun _ => ⟨HB.out.1 (by simp), .inl (by simp)⟩, fun _ => (by simp)⟩⟩
      | false =>
        obtain ⟨vd, Hvd⟩ : ∃ vd, Hid (vd = decide (m.dn = 0 ∧ m.dc = 0)) := ⟨_, rfl⟩
        have hg := guard25
        have hq : ∀ W, Sem.run Tryz.prog (binOp .eql 25 (.agg #[.int .i64 m.dn, .int .i64 m.dc]) (.agg #[.int .i64 0, .int .i64 0])) W = .ok (.bool vd) W := fun W => by rw [Hvd.out]; exact eql25 m.dn m.dc W
        go_wp2_with fail
        exact HT.out _ _ ⟨_, _, _, _, _, _, _, _, _, _, _, _, _, _, _, _, _, _, _, _, _, _, _, _, _, _, _, _, _, _, _, _, _, _, _, _, _, _, _, _, _, _, _, _, vd, rfl, rfl, by
          constructor
          · intro h; exact ⟨HB.out.1 (by simp), .inr (by rw [Hvd.out] at h; simpa using h)⟩
          · intro h
            rcases h.2 with h | h
            · simp at h
            · rw [Hvd.out]; simpa using h⟩
  simp only [List.drop_succ_cons, List.drop_zero]
  rintro _ w' ⟨u5, u6, u7, u8, u9, u10, u11, u12, u13, u14, u15, u16, u17, u18, u19, u20, u21, u22, u23, u24, u25, u26, u27, u28, u29, u30, u31, u32, u33, u34, u35, u36, u37, u38, u39, u40, u41, u42, u43, u44, u45, u46, u47, u48, b, rfl, hww, hb⟩
  rw [hww]
  have HB := hid hb
  clear hww hb
  refine wpList_cutat 10 (fun a' w' => ∃ (u5 u6 u7 u8 u9 u10 u11 u12 u13 u14 u15 u16 u17 u18 u19 u20 u21 u22 u23 u24 u25 u26 u27 u28 u29 u30 u31 u32 u33 u34 u35 u36 u37 u38 u39 u40 u41 u42 u43 u44 u45 u46 u47 u48 u49 u50 u51 u52 u53 u54 u55 u56 u57 u58 : Value) (b : Bool), a' = ⟨#[.agg #[.int .i64 m.kind, .int .i64 m.frm, .int .i64 m.dst, .int .i64 m.call, .int .i64 m.rng, .int .i64 m.own, .string m.key, .int .i64 m.dn, .int .i64 m.dc, .slice m.set.p m.set.n m.set.c, .slice m.ws.p m.ws.n m.ws.c], .int .u64 (fk : Nat), .pointer (some ⟨X, 0, none⟩), undef, .bool false, u5, u6, u7, u8, u9, u10, u11, u12, u13, u14, u15, u16, u17, u18, u19, u20, u21, u22, u23, u24, u25, u26, u27, u28, u29, u30, u31, u32, u33, u34, u35, u36, u37, u38, u39, u40, u41, u42, u43, u44, u45, u46, u47, u48, u49, u50, u51, u52, u53, u54, u55, u56, u57, u58, .bool b, undef, undef, undef, undef, undef, undef, undef, undef, undef], []⟩ ∧ w' = w1 ∧ (b = true ↔ (((((((b1 = true ∨ m.call = 0) ∧ (b2 = true ∨ m.own = 0)) ∧ (b4 = true ∨ m.rng = 0)) ∧ (b8 = true ∨ m.key = ⟨#[]⟩)) ∧ (b16 = true ∨ m.dn = 0 ∧ m.dc = 0)) ∧ (b32 = true ∨ m.set.n = 0))))) (fun T HN => ?_) ?_
  · have HT := hid HN
    clear HN
    simp only [List.take_succ_cons, List.take_zero, List.cons_append, List.nil_append]
    cases b with
    | false =>
      go_wp2_with fail
      exact HT.out _ _ ⟨_, _, _, _, _, _, _, _, _, _, _, _, _, _, _, _, _, _, _, _, _, _, _, _, _, _, _, _, _, _, _, _, _, _, _, _, _, _, _, _, _, _, _, _, _, _, _, _, _, _, _, _, _, _, false, rfl, rfl, by exact ⟨fun h => (by simp at h), fun h => absurd (HB.out.2 h.1) (by simp)⟩⟩
    | true =>
      go_wp2_with fail
      refine (HN32.out w1).mono ?_
      rintro _ wn ⟨rfl, hwn⟩
      rw [hwn]
      clear hwn wn
      try dsimp only
      cases b32 with
      | true =>
        go_wp2_with fail
        exact HT.out _ _ ⟨_, _, _, _, _, _, _, _, _, _, _, _, _, _, _, _, _, _, _, _, _, _, _, _, _, _, _, _, _, _, _, _, _, _, _, _, _, _, _, _, _, _, _, _, _, _, _, _, _, _, _, _, _, _, true, rfl, rfl, by exact ⟨fun _ => ⟨HB.out.1 (by simp), .inl (by simp)⟩, fun _ => (by simp)⟩⟩
      | false =>
        go_wp2_with fail
        exact HT.out _ _ ⟨_, _, _, _, _, _, _, _, _, _, _, _, _, _, _, _, _, _, _, _, _, _, _, _, _, _, _, _, _, _, _, _, _, _, _, _, _, _, _, _, _, _, _, _, _, _, _, _, _, _, _, _, _, _, ((((m.set.n : Nat) : Int) == 0)), rfl, rfl, by
          constructor
          · intro h; exact ⟨HB.out.1 (by simp), .inr (by simp at h; omega)⟩
          · intro h
            rcases h.2 with h | h
            · simp at h
            · simp; omega⟩
  simp only [List.drop_succ_cons, List.drop_zero]
  rintro _ w' ⟨u5, u6, u7, u8, u9, u10, u11, u12, u13, u14, u15, u16, u17, u18, u19, u20, u21, u22, u23, u24, u25, u26, u27, u28, u29, u30, u31, u32, u33, u34, u35, u36, u37, u38, u39, u40, u41, u42, u43, u44, u45, u46, u47, u48, u49, u50, u51, u52, u53, u54, u55, u56, u57, u58, b, rfl, hww, hb⟩
  rw [hww]
  have HB := hid hb
  clear hww hb
  refine wpList_cutat 10 (fun a' w' => ∃ (u5 u6 u7 u8 u9 u10 u11 u12 u13 u14 u15 u16 u17 u18 u19 u20 u21 u22 u23 u24 u25 u26 u27 u28 u29 u30 u31 u32 u33 u34 u35 u36 u37 u38 u39 u40 u41 u42 u43 u44 u45 u46 u47 u48 u49 u50 u51 u52 u53 u54 u55 u56 u57 u58 u59 u60 u61 u62 u63 u64 u65 u66 u67 u68 : Value) (b : Bool), a' = ⟨#[.agg #[.int .i64 m.kind, .int .i64 m.frm, .int .i64 m.dst, .int .i64 m.call, .int .i64 m.rng, .int .i64 m.own, .string m.key, .int .i64 m.dn, .int .i64 m.dc, .slice m.set.p m.set.n m.set.c, .slice m.ws.p m.ws.n m.ws.c], .int .u64 (fk : Nat), .pointer (some ⟨X, 0, none⟩), undef, .bool b, u5, u6, u7, u8, u9, u10, u11, u12, u13, u14, u15, u16, u17, u18, u19, u20, u21, u22, u23, u24, u25, u26, u27, u28, u29, u30, u31, u32, u33, u34, u35, u36, u37, u38, u39, u40, u41, u42, u43, u44, u45, u46, u47, u48, u49, u50, u51, u52, u53, u54, u55, u56, u57, u58, u59, u60, u61, u62, u63, u64, u65, u66, u67, u68], []⟩ ∧ w' = w1 ∧ (b = true ↔ ((((((((b1 = true ∨ m.call = 0) ∧ (b2 = true ∨ m.own = 0)) ∧ (b4 = true ∨ m.rng = 0)) ∧ (b8 = true ∨ m.key = ⟨#[]⟩)) ∧ (b16 = true ∨ m.dn = 0 ∧ m.dc = 0)) ∧ (b32 = true ∨ m.set.n = 0)) ∧ (b192 = true ∨ m.ws.n = 0))))) (fun T HN => ?_) ?_
  · have HT := hid HN
    clear HN
    simp only [List.take_succ_cons, List.take_zero, List.cons_append, List.nil_append]
    cases b with
    | false =>
      go_wp2_with fail
      exact HT.out _ _ ⟨_, _, _, _, _, _, _, _, _, _, _, _, _, _, _, _, _, _, _, _, _, _, _, _, _, _, _, _, _, _, _, _, _, _, _, _, _, _, _, _, _, _, _, _, _, _, _, _, _, _, _, _, _, _, _, _, _, _, _, _, _, _, _, _, false, rfl, rfl, by exact ⟨fun h => (by simp at h), fun h => absurd (HB.out.2 h.1) (by simp)⟩⟩
    | true =>
      go_wp2_with fail
      refine (HN192.out w1).mono ?_
      rintro _ wn ⟨rfl, hwn⟩
      rw [hwn]
      clear hwn wn
      try dsimp only
      cases b192 with
      | true =>
        go_wp2_with fail
        exact HT.out _ _ ⟨_, _, _, _, _, _, _, _, _, _, _, _, _, _, _, _, _, _, _, _, _, _, _, _, _, _, _, _, _, _, _, _, _, _, _, _, _, _, _, _, _, _, _, _, _, _, _, _, _, _, _, _, _, _, _, _, _, _, _, _, _, _, _, _, true, rfl, rfl, by exact ⟨fun _ => ⟨HB.out.1 (by simp), .inl (by simp)⟩, fun _ => (by simp)⟩⟩
      | false =>
        go_wp2_with fail
        exact HT.out _ _ ⟨_, _, _, _, _, _, _, _, _, _, _, _, _, _, _, _, _, _, _, _, _, _, _, _, _, _, _, _, _, _, _, _, _, _, _, _, _, _, _, _, _, _, _, _, _, _, _, _, _, _, _, _, _, _, _, _, _, _, _, _, _, _, _, _, ((((m.ws.n : Nat) : Int) == 0)), rfl, rfl, by
          constructor
          · intro h; exact ⟨HB.out.1 (by simp), .inr (by simp at h; omega)⟩
          · intro h
            rcases h.2 with h | h
            · simp at h
            · simp; omega⟩
  simp only [List.drop_succ_cons, List.drop_zero]
  rintro _ w' ⟨u5, u6, u7, u8, u9, u10, u11, u12, u13, u14, u15, u16, u17, u18, u19, u20, u21, u22, u23, u24, u25, u26, u27, u28, u29, u30, u31, u32, u33, u34, u35, u36, u37, u38, u39, u40, u41, u42, u43, u44, u45, u46, u47, u48, u49, u50, u51, u52, u53, u54, u55, u56, u57, u58, u59, u60, u61, u62, u63, u64, u65, u66, u67, u68, b, rfl, hww, hb⟩
  rw [hww]
  clear hww
  have hvb : v = b := by
    have h1 : v = true ↔ b = true := by rw [HV.out, hb]; rfl
    cases v <;> cases b <;> simp_all
  subst hvb
  go_wp2_with fail
  go_ret
  exact ⟨rfl, HA1.out⟩
end Go.Proofs.YtddffdcjhleejaaGreat.ds
