import Derived.Test.YtddffdcjhleejaaGreatG17
namespace Go.Proofs.YtddffdcjhleejaaGreat.ds
open Go.ChangeShapes Go.WideShapes Go.ChangeAt Go.RowKit Go.Sort
set_option linter.unusedVariables false
set_option linter.unusedSimpArgs false
set_option maxRecDepth 100000 in
theorem within_ok (n lo hi : Int) (v : Bool) (hv : v = true ↔ lo ≤ n ∧ n ≤ hi) (w : World) : Calls Tryz.prog 78 #[.int .i64 n, .int .i64 lo, .int .i64 hi] w fun r w' => r = .returned (.bool v) ∧ w' = w := by
  have HV := hid hv
  clear hv
  by_cases h1 : n ≥ lo
  · by_cases h2 : n ≤ hi
    · have hv : v = true := HV.out.2 ⟨h1, h2⟩
      rw [hv]
      go_enter Tryz.func78, Tryz.ntmps78
      go_wp2_with fail
      first | go_end0 | go_ret
      exact ⟨rfl, rfl⟩
    · have hv : v = false := by
        cases h : v with
        | false => rfl
        | true => exact absurd (HV.out.1 h).2 h2
      rw [hv]
      go_enter Tryz.func78, Tryz.ntmps78
      go_wp2_with fail
      first | go_end0 | go_ret
      exact ⟨rfl, rfl⟩
  · have hv : v = false := by
      cases h : v with
      | false => rfl
      | true => exact absurd (HV.out.1 h).1 h1
    rw [hv]
    go_enter Tryz.func78, Tryz.ntmps78
    go_wp2_with fail
    first | go_end0 | go_ret
    exact ⟨rfl, rfl⟩
set_option maxRecDepth 100000 in
theorem isNode_ok (n : Int) (v : Bool) (hv : v = true ↔ 0 ≤ n ∧ n ≤ 7) (w : World) : Calls Tryz.prog 77 #[.int .i64 n] w fun r w' => r = .returned (.bool v) ∧ w' = w := by
  have HC := hid (within_ok n 0 7 v hv w)
  clear hv
  go_enter Tryz.func77, Tryz.ntmps77
  go_wp2_with fail
  refine HC.out.mono ?_
  rintro _ wn ⟨rfl, hwn⟩
  rw [hwn]
  clear hwn wn
  try dsimp only
  go_wp2_with fail
  go_ret
  exact ⟨rfl, rfl⟩
set_option maxRecDepth 100000 in
theorem isKey_ok (k : ByteArray) (v : Bool) (hv : v = true ↔ 1 ≤ k.size ∧ k.size ≤ 16) (w : World) : Calls Tryz.prog 75 #[.string k] w fun r w' => r = .returned (.bool v) ∧ w' = w := by
  have HC := hid (within_ok (k.size : Int) 1 16 v (by rw [hv]; omega) w)
  clear hv
  go_enter Tryz.func75, Tryz.ntmps75
  go_wp2_with fail
  refine HC.out.mono ?_
  rintro _ wn ⟨rfl, hwn⟩
  rw [hwn]
  clear hwn wn
  try dsimp only
  go_wp2_with fail
  go_ret
  exact ⟨rfl, rfl⟩
theorem bool_of (p : Prop) : ∃ v : Bool, v = true ↔ p := by
  by_cases h : p
  · exact ⟨true, by simp [h]⟩
  · exact ⟨false, by simp [h]⟩
theorem bool_f {v : Bool} {p : Prop} (h : v = true ↔ p) (hp : ¬ p) : v = false := by
  cases v with
  | false => rfl
  | true => exact absurd (h.1 rfl) hp
set_option maxRecDepth 100000 in
theorem wisDot_ok (n c : Int) (v : Bool) (hv : v = true ↔ IsDot n c) (w : World) : Calls Tryz.prog 74 #[.agg #[.int .i64 n, .int .i64 c]] w fun r w' => r = .returned (.bool v) ∧ Apart [] w w' := by
  obtain ⟨b1, hb1⟩ := bool_of (0 ≤ n ∧ n ≤ 7)
  obtain ⟨b2, hb2⟩ := bool_of (1 ≤ c ∧ c ≤ 1048576)
  have HC1 : Hid (∀ W, Calls Tryz.prog 77 #[.int .i64 n] W fun r w' => r = .returned (.bool b1) ∧ w' = W) := fun W => isNode_ok n b1 hb1 W
  have HC2 : Hid (∀ W, Calls Tryz.prog 78 #[.int .i64 c, .int .i64 1, .int .i64 1048576] W fun r w' => r = .returned (.bool b2) ∧ w' = W) := fun W => within_ok c 1 1048576 b2 hb2 W
  have HV : Hid (v = (b1 && b2)) := by
    unfold Hid
    have e : IsDot n c ↔ (b1 = true ∧ b2 = true) := by
      rw [hb1, hb2]
      constructor
      · rintro ⟨⟨a, b⟩, c, d⟩; exact ⟨⟨a, by omega⟩, c, d⟩
      · rintro ⟨⟨a, b⟩, c, d⟩; exact ⟨⟨a, by omega⟩, c, d⟩
    rw [Bool.eq_iff_iff, hv, e, Bool.and_eq_true]
  clear hv hb1 hb2
  rw [HV.out]
  obtain ⟨w1, hw1⟩ : ∃ w1, w1 = w.alloc (.cells #[.int .i64 n, .int .i64 c] 25) := ⟨_, rfl⟩
  have HX1 : Hid (w1.heap[w.heap.size]? = some (.cells #[.int .i64 n, .int .i64 c] 25 (0, 0))) := by unfold Hid; rw [hw1]; exact heap_alloc_new w _
  have HA1 : Hid (Apart [] w w1) := by unfold Hid; rw [hw1]; exact (Apart.refl [] w).alloc _
  obtain ⟨X, HXX⟩ : ∃ X, Hid (X = w.heap.size) := ⟨_, rfl⟩
  rw [← HXX.out] at HX1
  obtain ⟨z0, z1⟩ := rowv2 HX1.out
  go_enter Tryz.func74, Tryz.ntmps74
  go_upto_region 1 with fail
  rw [← hw1, ← HXX.out]
  clear hw1
  go_wp2_with fail
  refine (HC1.out w1).mono ?_
  rintro _ wn ⟨rfl, hwn⟩
  rw [hwn]
  clear hwn wn
  try dsimp only
  cases b1 with
  | false =>
    go_wp2_with fail
    go_ret
    exact ⟨rfl, HA1.out⟩
  | true =>
    go_wp2_with fail
    refine (HC2.out w1).mono ?_
    rintro _ wn ⟨rfl, hwn⟩
    rw [hwn]
    clear hwn wn
    try dsimp only
    go_wp2_with fail
    go_ret
    exact ⟨by simp, HA1.out⟩
set_option maxHeartbeats 4000000 in
set_option maxRecDepth 100000 in
/-- may a write be written? -/
theorem wisWrite_ok (w : World) (e : E) (r : Wr) (hr : Reads w e r) (v : Bool) (hv : v = true ↔ GoodW r) : Calls Tryz.prog 37 #[.agg #[.int .i64 e.n, .int .i64 e.c, .string e.k, .bool e.d, .slice e.v.p e.v.n e.v.c, .slice e.x.p e.x.n e.x.c]] w fun r w' => r = .returned (.bool v) ∧ Apart [] w w' := by
  obtain ⟨b1, hb1⟩ := bool_of (IsDot e.n e.c)
  obtain ⟨b2, hb2⟩ := bool_of (1 ≤ e.k.size ∧ e.k.size ≤ 16)
  obtain ⟨b5, hb5⟩ := bool_of (OkL 64 r.xs)
  obtain ⟨b6, Hb6⟩ : ∃ b6, Hid (b6 = hasd r.xs r.n r.c) := ⟨_, rfl⟩
  have HR := hid hr
  have HC1 : Hid (∀ W, Calls Tryz.prog 74 #[.agg #[.int .i64 e.n, .int .i64 e.c]] W fun r w' => r = .returned (.bool b1) ∧ Apart [] W w') := fun W => wisDot_ok _ _ b1 hb1 W
  have HC2 : Hid (∀ W, Calls Tryz.prog 75 #[.string e.k] W fun r w' => r = .returned (.bool b2) ∧ w' = W) := fun W => isKey_ok _ b2 hb2 W
  have HC5 : Hid (∀ W, Apart [] w W → Calls Tryz.prog 35 #[.slice e.x.p e.x.n e.x.c] W fun r w' => r = .returned (.bool b5) ∧ Apart [] W w') := fun W a => isSet_wire (hr.x.kept0 a) b5 hb5
  have HC6 : Hid (∀ W, Apart [] w W → Calls Tryz.prog 76 #[.slice e.x.p e.x.n e.x.c, .agg #[.int .i64 e.n, .int .i64 e.c]] W fun r w' => r = .returned (.bool b6) ∧ Apart [] W w') := fun W a => has_any _ _ (hr.x.kept0 a) b6 (by rw [Hb6.out, hr.n, hr.c]; rfl)
  have HV : Hid (v = true ↔ (b1 = true ∧ b2 = true ∧ e.v.n ≤ 64 ∧ ¬ (e.d = true ∧ 0 < e.v.n) ∧ b5 = true ∧ b6 = false)) := by
    unfold Hid
    rw [hv, hb1, hb2, hb5, Hb6.out, hr.n, hr.c, hr.k, hr.d, ← hr.vn]
    constructor
    · intro h
      refine ⟨h.dot, h.key, h.val, fun hd => ?_, h.ctx, h.own⟩
      have := h.dead hd.1
      rw [this] at hd
      simp at hd
    · rintro ⟨h1, h2, h3, h4, h5, h6⟩
      refine ⟨h1, h2, h3, fun hd => ?_, h5, h6⟩
      apply List.eq_nil_of_length_eq_zero
      by_cases hz : 0 < r.vs.length
      · exact absurd ⟨hd, hz⟩ h4
      · omega
  clear hv hb1 hb2 hb5 hr
  obtain ⟨w1, hw1⟩ : ∃ w1, w1 = w.alloc (.cells #[.int .i64 e.n, .int .i64 e.c, .string e.k, .bool e.d, .slice e.v.p e.v.n e.v.c, .slice e.x.p e.x.n e.x.c] 37) := ⟨_, rfl⟩
  have HX1 : Hid (w1.heap[w.heap.size]? = some (.cells #[.int .i64 e.n, .int .i64 e.c, .string e.k, .bool e.d, .slice e.v.p e.v.n e.v.c, .slice e.x.p e.x.n e.x.c] 37 (0, 0))) := by unfold Hid; rw [hw1]; exact heap_alloc_new w _
  have HA1 : Hid (Apart [] w w1) := by unfold Hid; rw [hw1]; exact (Apart.refl [] w).alloc _
  obtain ⟨X, HXX⟩ : ∃ X, Hid (X = w.heap.size) := ⟨_, rfl⟩
  rw [← HXX.out] at HX1
  obtain ⟨z0, z1, z2, z3, z4, z5⟩ := rowv6 HX1.out
  go_enter Tryz.func37, Tryz.ntmps37
  go_upto_region 1 with fail
  rw [← hw1, ← HXX.out]
  clear hw1
  go_wp2_with fail
  refine (HC1.out w1).mono ?_
  rintro _ w2 ⟨rfl, hap⟩
  have HX2 : Hid (w2.heap[X]? = some (.cells #[.int .i64 e.n, .int .i64 e.c, .string e.k, .bool e.d, .slice e.v.p e.v.n e.v.c, .slice e.x.p e.x.n e.x.c] 37 (0, 0))) := (hap.block _ (lt_of_heap HX1.out) (by simp)).trans HX1.out
  have HA2 : Hid (Apart [] w w2) := HA1.out.trans hap
  clear hap z0 z1 z2 z3 z4 z5
  obtain ⟨z0, z1, z2, z3, z4, z5⟩ := rowv6 HX2.out
  try dsimp only
  cases b1 with
  | false =>
    have hv : v = false := bool_f HV.out (by simp)
    go_wp2_with fail
    go_ret
    exact ⟨by first | rfl | (rw [hv]; rfl), HA2.out⟩
  | true =>
    go_wp2_with fail
    refine (HC2.out w2).mono ?_
    rintro _ wn ⟨rfl, hwn⟩
    rw [hwn]
    clear hwn wn
    try dsimp only
    cases b2 with
    | false =>
      have hv : v = false := bool_f HV.out (by simp)
      go_wp2_with fail
      go_ret
      exact ⟨by first | rfl | (rw [hv]; rfl), HA2.out⟩
    | true =>
      by_cases h64 : e.v.n ≤ 64
      · have h64i : ((e.v.n : Nat) : Int) ≤ 64 := by omega
        have rest : (e.d = true ∧ 0 < e.v.n) ∨ ¬ (e.d = true ∧ 0 < e.v.n) := Classical.em _
        rcases rest with hbad | hgood
        · have hv : v = false := bool_f HV.out (by rintro ⟨_, _, _, h, _⟩; exact h hbad)
          obtain ⟨hd, hn⟩ := hbad
          have hni : ((e.v.n : Nat) : Int) > 0 := by omega
          rw [hd] at z3
          go_wp2_with fail
          go_ret
          exact ⟨by first | rfl | (rw [hv]; rfl), HA2.out⟩
        · cases hd : e.d with
          | false =>
            rw [hd] at z3
            go_wp2_with fail
            refine (HC5.out w2 HA2.out).mono ?_
            rintro _ w3 ⟨rfl, hap⟩
            have HX3 : Hid (w3.heap[X]? = some (.cells #[.int .i64 e.n, .int .i64 e.c, .string e.k, .bool e.d, .slice e.v.p e.v.n e.v.c, .slice e.x.p e.x.n e.x.c] 37 (0, 0))) := (hap.block _ (lt_of_heap HX2.out) (by simp)).trans HX2.out
            have HA3 : Hid (Apart [] w w3) := HA2.out.trans hap
            clear hap z0 z1 z2 z3 z4 z5
            obtain ⟨z0, z1, z2, z3, z4, z5⟩ := rowv6 HX3.out
            try dsimp only
            cases b5 with
            | false =>
              have hv : v = false := bool_f HV.out (by simp)
              go_wp2_with fail
              go_ret
              exact ⟨by first | rfl | (rw [hv]; rfl), HA3.out⟩
            | true =>
              go_wp2_with fail
              refine (HC6.out w3 HA3.out).mono ?_
              rintro _ w4 ⟨rfl, hap⟩
              have HA4 : Hid (Apart [] w w4) := HA3.out.trans hap
              have hv : v = !b6 := by
                rw [Bool.eq_iff_iff, HV.out, hd]
                simp [h64]
              clear hap z0 z1 z2 z3 z4 z5
              try dsimp only
              go_wp2_with fail
              go_ret
              exact ⟨by first | rfl | (rw [hv]; rfl), HA4.out⟩
          | true =>
            have hn0 : e.v.n = 0 := by
              by_cases hz : 0 < e.v.n
              · exact absurd ⟨hd, hz⟩ hgood
              · omega
            have hni : ¬ ((e.v.n : Nat) : Int) > 0 := by omega
            rw [hd] at z3
            have HN0 := hid hn0
            clear hn0
            go_wp2_with fail
            refine (HC5.out w2 HA2.out).mono ?_
            rintro _ w3 ⟨rfl, hap⟩
            have HX3 : Hid (w3.heap[X]? = some (.cells #[.int .i64 e.n, .int .i64 e.c, .string e.k, .bool e.d, .slice e.v.p e.v.n e.v.c, .slice e.x.p e.x.n e.x.c] 37 (0, 0))) := (hap.block _ (lt_of_heap HX2.out) (by simp)).trans HX2.out
            have HA3 : Hid (Apart [] w w3) := HA2.out.trans hap
            clear hap z0 z1 z2 z3 z4 z5
            obtain ⟨z0, z1, z2, z3, z4, z5⟩ := rowv6 HX3.out
            try dsimp only
            cases b5 with
            | false =>
              have hv : v = false := bool_f HV.out (by simp)
              go_wp2_with fail
              go_ret
              exact ⟨by first | rfl | (rw [hv]; rfl), HA3.out⟩
            | true =>
              go_wp2_with fail
              refine (HC6.out w3 HA3.out).mono ?_
              rintro _ w4 ⟨rfl, hap⟩
              have HA4 : Hid (Apart [] w w4) := HA3.out.trans hap
              have hv : v = !b6 := by
                rw [Bool.eq_iff_iff, HV.out, hd, HN0.out]
                simp
              clear hap z0 z1 z2 z3 z4 z5
              try dsimp only
              go_wp2_with fail
              go_ret
              exact ⟨by first | rfl | (rw [hv]; rfl), HA4.out⟩
      · have hv : v = false := bool_f HV.out (by rintro ⟨_, _, h, _⟩; exact h64 h)
        have h64i : ¬ ((e.v.n : Nat) : Int) ≤ 64 := by omega
        go_wp2_with fail
        go_ret
        exact ⟨by first | rfl | (rw [hv]; rfl), HA2.out⟩
end Go.Proofs.YtddffdcjhleejaaGreat.ds
namespace Go.Proofs.YtddffdcjhleejaaGreat.ds
open Go.ChangeShapes Go.WideShapes Go.ChangeAt Go.RowKit Go.Sort
set_option linter.unusedVariables false
set_option linter.unusedSimpArgs false
set_option maxRecDepth 100000 in
theorem bits121 (x : S) (w : World) : Calls Tryz.prog 106 #[.agg #[.int .i64 x.n, .int .i64 x.b, .int .u64 (x.t : Int)]] w fun r w' => r = .returned (.bool (decide (x.t ≠ 0))) ∧ Apart [] w w' := by
  obtain ⟨w1, hw1⟩ : ∃ w1, w1 = w.alloc (.cells #[.int .i64 x.n, .int .i64 x.b, .int .u64 (x.t : Int)] 48) := ⟨_, rfl⟩
  have HX1 : Hid (w1.heap[w.heap.size]? = some (.cells #[.int .i64 x.n, .int .i64 x.b, .int .u64 (x.t : Int)] 48 (0, 0))) := by unfold Hid; rw [hw1]; exact heap_alloc_new w _
  have HA1 : Hid (Apart [] w w1) := by unfold Hid; rw [hw1]; exact (Apart.refl [] w).alloc _
  obtain ⟨X, HXX⟩ : ∃ X, Hid (X = w.heap.size) := ⟨_, rfl⟩
  rw [← HXX.out] at HX1
  obtain ⟨z0, z1, z2⟩ := row3v HX1.out
  go_enter Tryz.func106, Tryz.ntmps106
  go_upto_region 1 with fail
  rw [← hw1, ← HXX.out]
  clear hw1
  by_cases ht : x.t = 0
  · have hti : ((x.t : Nat) : Int) = 0 := by omega
    have HT := hid ht
    clear ht
    go_wp2_with fail
    go_ret
    exact ⟨by simp [HT.out], HA1.out⟩
  · have hti : ¬ ((x.t : Nat) : Int) = 0 := by omega
    have HT := hid ht
    clear ht
    go_wp2_with fail
    go_ret
    exact ⟨by simp [HT.out], HA1.out⟩
structure Ix (r : Ending) (xs : List S) : Prop where
  ex : ∃ z : Int, r = .returned (.int .i64 z) ∧ (0 ≤ z ↔ ∃ x ∈ xs, x.t ≠ 0)
set_option maxHeartbeats 4000000 in
set_option maxRecDepth 100000 in
theorem index125 {w : World} {p : Option Addr} {cap : Nat} {xs : List S} (h : L w p xs.length xs) : Calls Tryz.prog 114 #[.slice p xs.length cap, .func (.func 106) #[] #[]] w fun r w' => Ix r xs ∧ Apart [] w w' := by
  have HL := hid h
  have hlim := h.lim
  obtain ⟨K, HK⟩ : ∃ K, Hid (K = xs.length) := ⟨_, rfl⟩
  rw [← HK.out] at hlim ⊢
  clear h
  go_enter Tryz.func114, Tryz.ntmps114
  go_wp2_with fail
  go_loopw [8] (fun b wt => ∃ (i : Nat), b = .int .i64 (i : Nat) ∧ i ≤ K ∧ Apart [] w wt ∧ ∀ j, j < i → (g xs j).t = 0) (fun b _ => K - (intOf b).toNat)
  case atStart => exact ⟨0, rfl, by omega, Apart.refl _ _, fun j hj => absurd hj (by omega)⟩
  case round =>
    obtain ⟨i, rfl, hi, hap, hz⟩ := hrel
    have HA := hid hap
    have HZ := hid hz
    clear hap hz
    by_cases hlt : i < K
    · have h1 : ((i : Nat) : Int) < (K : Int) := by omega
      have hil : i < xs.length := by have := HK.out; omega
      obtain ⟨P, o, hP, hPl, hc⟩ := (HL.out.kept0 HA.out).sp (by omega)
      obtain ⟨c0, c1, c2⟩ := hc i hil
      subst hP
      clear hc
      obtain ⟨x, Hx⟩ : ∃ x, Hid (x = g xs i) := ⟨_, rfl⟩
      rw [← Hx.out] at c0 c1 c2
      by_cases ht : x.t = 0
      · have HC : Hid (∀ W, Calls Tryz.prog 106 #[.agg #[.int .i64 x.n, .int .i64 x.b, .int .u64 (x.t : Int)]] W fun r w' => r = .returned (.bool false) ∧ Apart [] W w') := fun W => by
          have := bits121 x W
          rw [show decide (x.t ≠ 0) = false from by simp [ht]] at this
          exact this
        have HT := hid ht
        clear ht
        go_wp2_with fail
        refine (HC.out wr).mono ?_
        rintro _ w2 ⟨rfl, ha2⟩
        have HA2 : Hid (Apart [] w w2) := HA.out.trans ha2
        clear ha2 c0 c1 c2
        try dsimp only
        go_wp2_with fail
        go_roundw
        case rel => exact ⟨i + 1, by go_num, by omega, HA2.out, fun j hj => by
          by_cases hji : j < i
          · exact HZ.out j hji
          · obtain rfl : j = i := by omega
            rw [← Hx.out]; exact HT.out⟩
        case measure => simp [intOf]; omega
      · have HC : Hid (∀ W, Calls Tryz.prog 106 #[.agg #[.int .i64 x.n, .int .i64 x.b, .int .u64 (x.t : Int)]] W fun r w' => r = .returned (.bool true) ∧ Apart [] W w') := fun W => by
          have := bits121 x W
          rw [show decide (x.t ≠ 0) = true from by simp [ht]] at this
          exact this
        have HT := hid ht
        clear ht
        go_wp2_with fail
        refine (HC.out wr).mono ?_
        rintro _ w2 ⟨rfl, ha2⟩
        have HA2 : Hid (Apart [] w w2) := HA.out.trans ha2
        clear ha2 c0 c1 c2
        try dsimp only
        go_wp2_with fail
        go_ret
        exact ⟨⟨(i : Nat), rfl, ⟨fun _ => ⟨x, by rw [Hx.out]; exact g_mem hil, HT.out⟩, fun _ => by omega⟩⟩, HA2.out⟩
    · have h1 : ¬ ((i : Nat) : Int) < (K : Int) := by omega
      go_wp2_with fail
      go_ret
      refine ⟨⟨-1, rfl, ⟨fun h => absurd h (by omega), fun h => ?_⟩⟩, HA.out⟩
      obtain ⟨x, hx, hxt⟩ := h
      obtain ⟨j, hj, rfl⟩ := List.getElem_of_mem hx
      exfalso
      apply hxt
      have := HZ.out j (by have := HK.out; omega)
      rw [← this]
      unfold g
      rw [List.getD_eq_getElem?_getD, List.getElem?_eq_getElem hj]; rfl
set_option maxRecDepth 100000 in
theorem contains120 {w : World} {p : Option Addr} {cap : Nat} {xs : List S} (h : L w p xs.length xs) (v : Bool) (hv : v = true ↔ ∃ x ∈ xs, x.t ≠ 0) : Calls Tryz.prog 105 #[.slice p xs.length cap, .func (.func 106) #[] #[]] w fun r w' => r = .returned (.bool v) ∧ Apart [] w w' := by
  have HC := hid (index125 (cap := cap) h)
  have HV := hid hv
  obtain ⟨K, HK⟩ : ∃ K, Hid (K = xs.length) := ⟨_, rfl⟩
  rw [← HK.out] at HC ⊢
  clear h hv
  go_enter Tryz.func105, Tryz.ntmps105
  go_wp2_with fail
  refine HC.out.mono ?_
  rintro _ w2 ⟨⟨z, rfl, hz⟩, ha⟩
  have HA := hid ha
  have HZ := hid hz
  clear ha hz
  try dsimp only
  by_cases h0 : z ≥ 0
  · have hvv : v = true := HV.out.2 (HZ.out.1 h0)
    go_wp2_with fail
    go_ret
    exact ⟨by first | rfl | (rw [hvv]; rfl), HA.out⟩
  · have hvv : v = false := bool_f HV.out (fun h => h0 (HZ.out.2 h))
    go_wp2_with fail
    go_ret
    exact ⟨by first | rfl | (rw [hvv]; rfl), HA.out⟩
set_option maxRecDepth 100000 in
theorem hasBits_ok {w : World} {p : Option Addr} {n cap : Nat} {xs : List S} (h : L w p n xs) (v : Bool) (hv : v = true ↔ ∃ x ∈ xs, x.t ≠ 0) : Calls Tryz.prog 79 #[.slice p n cap] w fun r w' => r = .returned (.bool v) ∧ Apart [] w w' := by
  have hn := h.len
  have h' := h
  rw [← hn] at h'
  have HC := hid (contains120 (cap := cap) h' v hv)
  rw [hn] at HC
  clear h h' hv hn
  go_enter Tryz.func79, Tryz.ntmps79
  go_wp2_with fail
  refine HC.out.mono ?_
  rintro _ w2 ⟨rfl, ha⟩
  have HA := hid ha
  clear ha
  try dsimp only
  go_wp2_with fail
  go_ret
  exact ⟨rfl, HA.out⟩
theorem WsOk.snd {key : ByteArray} : ∀ {l : List Wr} {an ac : Int}, WsOk key an ac l → ∀ i, i < l.length → (GoodW (gR l i) ∧ risW (if i = 0 then an else (gR l (i - 1)).n) (if i = 0 then ac else (gR l (i - 1)).c) (gR l i).n (gR l i).c = true ∧ keyIs key (gR l i).k)
  | [], _, _, _, i, hi => by simp at hi
  | x :: l, an, ac, h, 0, hi => by simpa [gR] using h.1
  | x :: l, an, ac, h, i + 1, hi => by
    have := WsOk.snd h.2 i (by simpa using hi)
    rw [if_neg (by omega), if_neg (by omega)]
    cases i with
    | zero => simpa [gR] using this
    | succ j => simpa [gR] using this
end Go.Proofs.YtddffdcjhleejaaGreat.ds
