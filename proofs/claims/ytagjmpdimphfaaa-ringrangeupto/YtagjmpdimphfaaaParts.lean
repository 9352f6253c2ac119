import Derived.Test.YtagjmpdimphfaaaSame
namespace Go.Proofs.Ytagjmpdimphfaaa.rg
open Go.ChangeShapes Go.WideShapes Go.ChangeAt Go.RowKit Go.Sort
set_option linter.unusedVariables false
set_option linter.unusedSimpArgs false
/-- a slice of ints in a row that nobody else has -/
structure Ob (w : World) (P o n cap : Nat) (zs : List Int) : Prop where
  ex : ∃ cur, w.heap[P]? = some (.cells cur 3 (0, 0)) ∧ o + cap ≤ cur.size ∧ cap ≤ maxLen ∧ ∀ i, i < n → cur[o + i]? = some (.int .i64 (zs.getD i 0))
  le : n ≤ cap
  len : zs.length = n
theorem Ob.lt {w : World} {P o n cap : Nat} {zs : List Int} (h : Ob w P o n cap zs) : P < w.heap.size := by
  obtain ⟨cur, hr, _⟩ := h.ex
  exact lt_of_heap hr
theorem Ob.ir {w : World} {P o n cap : Nat} {zs : List Int} (h : Ob w P o n cap zs) : Ir w (some ⟨P, o, none⟩) n zs := by
  obtain ⟨cur, hr, hs, _, hc⟩ := h.ex
  exact ⟨h.len, fun _ => ⟨P, o, rfl, lt_of_heap hr, fun i hi => by simp only [World.cell?, hr]; simpa using hc i hi⟩⟩
theorem Ob.kept {w w' : World} {P o n cap : Nat} {zs : List Int} {X : List Nat} (h : Ob w P o n cap zs) (a : Apart X w w') (hx : P ∉ X) : Ob w' P o n cap zs := by
  obtain ⟨cur, hr, r⟩ := h.ex
  exact ⟨⟨cur, (a.block P (lt_of_heap hr) hx).trans hr, r⟩, h.le, h.len⟩
theorem Ob.kept0 {w w' : World} {P o n cap : Nat} {zs : List Int} (h : Ob w P o n cap zs) (a : Apart [] w w') : Ob w' P o n cap zs := h.kept a (by simp)
theorem OwnR.ob {w w' : World} {P n cap : Nat} {xs : List Nat} (h : OwnI w w' (some ⟨P, 0, none⟩) n cap xs) : Ob w' P 0 n cap (ints xs) := by
  have hi := h.ir.len
  obtain ⟨hl, ⟨hv, _⟩ | ⟨g, cap', cur, hv, hb, hr, hle, hcm, hcs, htk⟩⟩ := id h.own
  · cases hv
  · simp only [Value.slice.injEq, Option.some.injEq, Addr.mk.injEq, and_true, true_and] at hv
    obtain ⟨rfl, rfl⟩ := hv
    refine ⟨⟨cur, hr, by omega, hcm, fun i hi => ?_⟩, hle, hi⟩
    have h1 := h.cellI i hi
    simp only [World.cell?, hr] at h1
    rw [Nat.zero_add]
    simpa using h1
/-- its first k, and what is behind them -/
theorem Ob.first {w : World} {P o n cap : Nat} {zs : List Int} (h : Ob w P o n cap zs) (k : Nat) (hk : k ≤ n) : Ob w P o k cap (zs.take k) := by
  obtain ⟨cur, hr, hs, hm, hc⟩ := h.ex
  have := h.le
  have hl := h.len
  refine ⟨⟨cur, hr, hs, hm, fun i hi => ?_⟩, by omega, by rw [List.length_take]; omega⟩
  rw [hc i (by omega)]
  simp [List.getD_eq_getElem?_getD, hi]
theorem Ob.rest {w : World} {P o n cap : Nat} {zs : List Int} (h : Ob w P o n cap zs) (k : Nat) (hk : k ≤ n) : Ob w P (o + k) (n - k) (cap - k) (zs.drop k) := by
  obtain ⟨cur, hr, hs, hm, hc⟩ := h.ex
  have := h.le
  have hl := h.len
  refine ⟨⟨cur, hr, by omega, by omega, fun i hi => ?_⟩, by omega, by rw [List.length_drop]; omega⟩
  rw [Nat.add_assoc, hc (k + i) (by omega)]
  simp [List.getD_eq_getElem?_getD]
theorem Ob.none {w : World} {P o n cap : Nat} {zs : List Int} (h : Ob w P o n cap zs) : Ob w P o 0 0 [] := by
  obtain ⟨cur, hr, hs, hm, hc⟩ := h.ex
  exact ⟨⟨cur, hr, by omega, Nat.zero_le _, fun i hi => absurd hi (Nat.not_lt_zero _)⟩, Nat.le_refl _, rfl⟩
set_option maxHeartbeats 2000000 in
theorem index_ok {p : Option Addr} {n c : Nat} {xs : List Int} {w : World} (hx : Ir w p n xs) (v : Int) (hv : Hid (v ∈ xs)) (hn : n ≤ 1000) : Calls Try.prog 29 #[.slice p n c, .int .i64 v] w fun r w' => r = .returned (.int .i64 (xs.idxOf v : Nat)) ∧ w' = w := by
  go_enter Try.func29, Try.ntmps29
  go_wp2_with fail
  go_loopw [8] (fun u wr => ∃ i : Nat, i ≤ n ∧ u = .int .i64 i ∧ wr = w ∧ ∀ j, j < i → xs.getD j 0 ≠ v) (fun u _ => n - (intOf u).toNat)
  case atStart => exact ⟨0, Nat.zero_le _, rfl, rfl, fun j hj => absurd hj (Nat.not_lt_zero _)⟩
  case round =>
    obtain ⟨i, hi, rfl, rfl, hI⟩ := hrel
    have HI : Hid (∀ j, j < i → xs.getD j 0 ≠ v) := hI
    clear hI
    by_cases hlt : i < n
    · obtain ⟨P, o, rfl, hP, hc⟩ := hx.at' (by omega)
      have c1 := hc i hlt
      have hil : Hid (i < xs.length) := by show i < xs.length; rw [hx.len]; exact hlt
      obtain ⟨x, Hx⟩ : ∃ x, Hid (x = xs.getD i 0) := ⟨_, rfl⟩
      rw [← Hx.out] at c1
      clear hc hx
      by_cases hxv : v = x
      · subst hxv
        go_wp2_with fail
        go_ret
        refine ⟨?_, rfl⟩
        have hg : xs[i]'hil.out = v := by have := Hx.out; rw [List.getD_eq_getElem?_getD, List.getElem?_eq_getElem hil.out] at this; exact this.symm
        have hid : xs.idxOf v = i := by
          rw [List.idxOf, List.findIdx_eq hil.out]
          refine ⟨by simpa using hg, fun j hj => ?_⟩
          have h2 := HI.out j hj
          have hjl : j < xs.length := Nat.lt_trans hj hil.out
          rw [List.getD_eq_getElem?_getD, List.getElem?_eq_getElem hjl] at h2
          simpa using h2
        rw [hid]
        rfl
      · go_wp2_with fail
        go_roundw
        case rel =>
          refine ⟨i + 1, by omega, by simp, trivial, fun j hj => ?_⟩
          by_cases hji : j = i
          · subst hji; rw [← Hx.out]; exact fun e => hxv e.symm
          · exact HI.out j (by omega)
        case measure => simp only [intOf]; omega
    · obtain rfl : i = n := by omega
      have hl : Hid (xs.length = i) := hx.len
      exfalso
      have hm : v ∉ xs := by
        intro hm
        obtain ⟨j, hj, e⟩ := List.getElem_of_mem hm
        have := HI.out j (by have := hl.out; omega)
        rw [List.getD_eq_getElem?_getD, List.getElem?_eq_getElem hj] at this
        exact this e
      exact hm hv.out
theorem ints_mem {xs : List Nat} {x : Nat} (h : x ∈ xs) : (x : Int) ∈ ints xs := List.mem_map.2 ⟨x, h, rfl⟩
theorem ints_idx (x : Nat) : ∀ (xs : List Nat), (ints xs).idxOf (x : Int) = xs.idxOf x
  | [] => rfl
  | y :: r => by
    have ih := ints_idx x r
    unfold ints at ih ⊢
    rw [List.map_cons, List.idxOf_cons, List.idxOf_cons, ih]
    by_cases h : y = x
    · subst h; simp
    · have : ¬ ((y : Int) = (x : Int)) := by omega
      have e1 : ((y : Int) == (x : Int)) = false := by simpa using this
      have e2 : (y == x) = false := by simpa using h
      rw [e1, e2]
theorem ord_mem {n r i : Nat} (hn : n ≤ 8) (hr : r < 16) (hi : i < n) : i ∈ ord n r := by
  have := ord_all n (by omega) r hr i hi
  simpa using this
structure SplPost (w w' : World) (r : Ending) (n k : Nat) (xs : List Nat) : Prop where
  ex : ∃ P cap ad, r = .returned (.tuple #[.slice (some ⟨P, 0, none⟩) k cap, .slice (some ad) (n - k) (cap - k), .int .i64 0]) ∧ w.heap.size ≤ P ∧ Apart [] w w' ∧ Ob w' P 0 k cap (ints (xs.take k)) ∧ ∃ o, ad = ⟨P, o, none⟩ ∧ Ob w' P o (n - k) (cap - k) (ints (xs.drop k))
set_option maxHeartbeats 2000000 in
theorem split_ok {w : World} {R n m : Nat} (G : Rg w R n m) (r : Nat) (h : r < m) (k : Nat) (hk1 : 1 ≤ k) (hk : k ≤ n) : Calls Try.prog 28 #[.pointer (some ⟨R, 0, none⟩), .int .i64 r, .int .i64 k] w fun e w' => SplPost w w' e n k (ord n r) := by
  have := G.n1; have := G.n8; have := G.m16
  have k1 : ¬ ((k : Int) < 1) := by omega
  have k2 : ¬ ((k : Int) > (n : Int)) := by omega
  have HG : Hid (Rg w R n m) := G
  clear G
  go_enter Try.func28, Try.ntmps28
  go_wp2_with fail
  refine (order_ok HG.out r h).mono ?_
  rintro e w1 ⟨⟨P, cap, rfl, O, hle, hc63⟩⟩
  dsimp only
  have c0 := (HG.out.kept0 O.ap).c0
  have B := O.ob
  have hPn := O.new P rfl
  have aP := O.ap
  have hcc : ∃ ad : Addr, (if cap = k then some (⟨P, 0, none⟩ : Addr) else some ⟨P, k, none⟩) = some ad ∧ ∃ o, ad = ⟨P, o, none⟩ ∧ Ob w1 P o (n - k) (cap - k) (ints ((ord n r).drop k)) := by
    by_cases hck : cap = k
    · refine ⟨⟨P, 0, none⟩, by rw [if_pos hck], 0, rfl, ?_⟩
      have e1 : n - k = 0 := by omega
      have e2 : cap - k = 0 := by omega
      have e3 : ints ((ord n r).drop k) = [] := by
        have hl : (ints (ord n r)).length = n := B.len
        simp only [ints, List.length_map] at hl
        simp [ints, List.drop_eq_nil_iff]; omega
      rw [e1, e2, e3]
      exact B.none
    · refine ⟨⟨P, k, none⟩, by rw [if_neg hck], k, rfl, ?_⟩
      have := B.rest k hk
      rw [Nat.zero_add] at this
      rw [show ints ((ord n r).drop k) = (ints (ord n r)).drop k by simp [ints]]
      exact this
  obtain ⟨ad, hadif, o, Ho, B2⟩ := hcc
  have HO : Hid (ad = ⟨P, o, none⟩) := Ho
  have B1 : Ob w1 P 0 k cap (ints ((ord n r).take k)) := by
    rw [show ints ((ord n r).take k) = (ints (ord n r)).take k by simp [ints]]
    exact B.first k hk
  clear Ho O B
  have hnk : ¬ cap < k := by omega
  go_wp2_with fail
  go_region
  go_wp2_with fail
  go_ret3
  exact ⟨⟨P, cap, ad, rfl, hPn, aP.drew, B1.kept0 ((Apart.refl _ _).drew), o, HO.out, B2.kept0 ((Apart.refl _ _).drew)⟩⟩
theorem split_rng {w : World} {R n m : Nat} (G : Rg w R n m) (rng : Int) (h : rng < 0 ∨ (m : Int) ≤ rng) (k : Int) : Calls Try.prog 28 #[.pointer (some ⟨R, 0, none⟩), .int .i64 rng, .int .i64 k] w fun e w' => e = .returned (.tuple #[.slice none 0 0, .slice none 0 0, .int .i64 40]) ∧ w' = w := by
  go_enter Try.func28, Try.ntmps28
  go_wp2_with fail
  refine (order_bad G rng h).mono ?_
  rintro e w1 ⟨rfl, rfl⟩
  dsimp only
  go_wp2_with fail
  go_ret3
  exact ⟨rfl, rfl⟩
set_option maxHeartbeats 2000000 in
theorem split_arg {w : World} {R n m : Nat} (G : Rg w R n m) (r : Nat) (h : r < m) (k : Int) (hk : k < 1 ∨ (n : Int) < k) : Calls Try.prog 28 #[.pointer (some ⟨R, 0, none⟩), .int .i64 r, .int .i64 k] w fun e w' => e = .returned (.tuple #[.slice none 0 0, .slice none 0 0, .int .i64 1]) ∧ Apart [] w w' := by
  have HG : Hid (Rg w R n m) := G
  clear G
  go_enter Try.func28, Try.ntmps28
  go_wp2_with fail
  refine (order_ok HG.out r h).mono ?_
  rintro e w1 ⟨⟨P, cap, rfl, O, hle, hc63⟩⟩
  dsimp only
  have c0 := (HG.out.kept0 O.ap).c0
  have aP := O.ap
  clear O
  by_cases k1 : k < 1
  · go_wp2_with fail
    go_ret3
    exact ⟨rfl, aP⟩
  · have k2 : k > (n : Int) := by omega
    go_wp2_with fail
    go_ret3
    exact ⟨rfl, aP⟩
/-- what a list that is answered is -/
structure LstPost (w w' : World) (r : Ending) (n : Nat) (xs : List Nat) : Prop where
  ex : ∃ P o cap, r = .returned (.tuple #[.slice (some ⟨P, o, none⟩) n cap, .int .i64 0]) ∧ w.heap.size ≤ P ∧ Apart [] w w' ∧ Ob w' P o n cap (ints xs)
theorem pref_ok {w : World} {R n m : Nat} (G : Rg w R n m) (r : Nat) (h : r < m) (k : Nat) (hk1 : 1 ≤ k) (hk : k ≤ n) : Calls Try.prog 15 #[.pointer (some ⟨R, 0, none⟩), .int .i64 r, .int .i64 k] w fun e w' => LstPost w w' e k ((ord n r).take k) := by
  go_enter Try.func15, Try.ntmps15
  go_wp2_with fail
  refine (split_ok G r h k hk1 hk).mono ?_
  rintro e w1 ⟨⟨P, cap, ad, rfl, hP, a1, B1, o, rfl, B2⟩⟩
  dsimp only
  go_wp2_with fail
  go_ret2
  exact ⟨⟨P, 0, cap, rfl, hP, a1, B1⟩⟩
theorem pref_rng {w : World} {R n m : Nat} (G : Rg w R n m) (rng : Int) (h : rng < 0 ∨ (m : Int) ≤ rng) (k : Int) : Calls Try.prog 15 #[.pointer (some ⟨R, 0, none⟩), .int .i64 rng, .int .i64 k] w fun e w' => e = .returned (.tuple #[.slice none 0 0, .int .i64 40]) ∧ w' = w := by
  go_enter Try.func15, Try.ntmps15
  go_wp2_with fail
  refine (split_rng G rng h k).mono ?_
  rintro e w1 ⟨rfl, rfl⟩
  dsimp only
  go_wp2_with fail
  go_ret2
  exact ⟨rfl, rfl⟩
theorem pref_arg {w : World} {R n m : Nat} (G : Rg w R n m) (r : Nat) (h : r < m) (k : Int) (hk : k < 1 ∨ (n : Int) < k) : Calls Try.prog 15 #[.pointer (some ⟨R, 0, none⟩), .int .i64 r, .int .i64 k] w fun e w' => e = .returned (.tuple #[.slice none 0 0, .int .i64 1]) ∧ Apart [] w w' := by
  go_enter Try.func15, Try.ntmps15
  go_wp2_with fail
  refine (split_arg G r h k hk).mono ?_
  rintro e w1 ⟨rfl, a1⟩
  dsimp only
  go_wp2_with fail
  go_ret2
  exact ⟨rfl, a1⟩
theorem stand_ok {w : World} {R n m : Nat} (G : Rg w R n m) (r : Nat) (h : r < m) (k : Nat) (hk1 : 1 ≤ k) (hk : k ≤ n) : Calls Try.prog 16 #[.pointer (some ⟨R, 0, none⟩), .int .i64 r, .int .i64 k] w fun e w' => LstPost w w' e (n - k) ((ord n r).drop k) := by
  go_enter Try.func16, Try.ntmps16
  go_wp2_with fail
  refine (split_ok G r h k hk1 hk).mono ?_
  rintro e w1 ⟨⟨P, cap, ad, rfl, hP, a1, B1, o, rfl, B2⟩⟩
  dsimp only
  go_wp2_with fail
  go_ret2
  exact ⟨⟨P, o, cap - k, rfl, hP, a1, B2⟩⟩
theorem stand_rng {w : World} {R n m : Nat} (G : Rg w R n m) (rng : Int) (h : rng < 0 ∨ (m : Int) ≤ rng) (k : Int) : Calls Try.prog 16 #[.pointer (some ⟨R, 0, none⟩), .int .i64 rng, .int .i64 k] w fun e w' => e = .returned (.tuple #[.slice none 0 0, .int .i64 40]) ∧ w' = w := by
  go_enter Try.func16, Try.ntmps16
  go_wp2_with fail
  refine (split_rng G rng h k).mono ?_
  rintro e w1 ⟨rfl, rfl⟩
  dsimp only
  go_wp2_with fail
  go_ret2
  exact ⟨rfl, rfl⟩
theorem stand_arg {w : World} {R n m : Nat} (G : Rg w R n m) (r : Nat) (h : r < m) (k : Int) (hk : k < 1 ∨ (n : Int) < k) : Calls Try.prog 16 #[.pointer (some ⟨R, 0, none⟩), .int .i64 r, .int .i64 k] w fun e w' => e = .returned (.tuple #[.slice none 0 0, .int .i64 1]) ∧ Apart [] w w' := by
  go_enter Try.func16, Try.ntmps16
  go_wp2_with fail
  refine (split_arg G r h k hk).mono ?_
  rintro e w1 ⟨rfl, a1⟩
  dsimp only
  go_wp2_with fail
  go_ret2
  exact ⟨rfl, a1⟩
theorem rank_rng {w : World} {R n m : Nat} (G : Rg w R n m) (rng : Int) (h : rng < 0 ∨ (m : Int) ≤ rng) (k : Int) : Calls Try.prog 17 #[.pointer (some ⟨R, 0, none⟩), .int .i64 rng, .int .i64 k] w fun e w' => e = .returned (.tuple #[.int .i64 0, .int .i64 40]) ∧ w' = w := by
  go_enter Try.func17, Try.ntmps17
  go_wp2_with fail
  refine (order_bad G rng h).mono ?_
  rintro e w1 ⟨rfl, rfl⟩
  dsimp only
  go_wp2_with fail
  go_ret2
  exact ⟨rfl, rfl⟩
set_option maxHeartbeats 2000000 in
theorem rank_node {w : World} {R n m : Nat} (G : Rg w R n m) (r : Nat) (h : r < m) (k : Int) (hk : k < 0 ∨ (n : Int) ≤ k) : Calls Try.prog 17 #[.pointer (some ⟨R, 0, none⟩), .int .i64 r, .int .i64 k] w fun e w' => e = .returned (.tuple #[.int .i64 0, .int .i64 4]) ∧ Apart [] w w' := by
  have HG : Hid (Rg w R n m) := G
  clear G
  go_enter Try.func17, Try.ntmps17
  go_wp2_with fail
  refine (order_ok HG.out r h).mono ?_
  rintro e w1 ⟨⟨P, cap, rfl, O, hle, hc63⟩⟩
  dsimp only
  have c0 := (HG.out.kept0 O.ap).c0
  have aP := O.ap
  clear O
  by_cases k1 : k < 0
  · go_wp2_with fail
    go_ret2
    exact ⟨rfl, aP⟩
  · have k2 : k ≥ (n : Int) := by omega
    go_wp2_with fail
    go_ret2
    exact ⟨rfl, aP⟩
set_option maxHeartbeats 2000000 in
theorem rank_ok {w : World} {R n m : Nat} (G : Rg w R n m) (r : Nat) (h : r < m) (k : Nat) (hk : k < n) : Calls Try.prog 17 #[.pointer (some ⟨R, 0, none⟩), .int .i64 r, .int .i64 k] w fun e w' => e = .returned (.tuple #[.int .i64 ((ord n r).idxOf k : Nat), .int .i64 0]) ∧ Apart [] w w' := by
  have := G.n8; have := G.m16
  have HG : Hid (Rg w R n m) := G
  clear G
  have k1 : ¬ ((k : Int) < 0) := by omega
  have k2 : ¬ ((k : Int) ≥ (n : Int)) := by omega
  go_enter Try.func17, Try.ntmps17
  go_wp2_with fail
  refine (order_ok HG.out r h).mono ?_
  rintro e w1 ⟨⟨P, cap, rfl, O, hle, hc63⟩⟩
  dsimp only
  have c0 := (HG.out.kept0 O.ap).c0
  have aP := O.ap
  have I := O.ir
  clear O
  go_wp2_with fail
  refine (index_ok I (k : Int) (ints_mem (ord_mem (by omega) (by omega) hk)) (by omega)).mono ?_
  rintro e w2 ⟨rfl, rfl⟩
  dsimp only
  rw [ints_idx]
  go_wp2_with fail
  go_ret2
  exact ⟨rfl, aP⟩
end Go.Proofs.Ytagjmpdimphfaaa.rg
