import Derived.Test.YtagjmpdimphfaaaParts
import Derived.Test.YtagjmpdimphfaaaRange
import Derived.Test.YtagjmpdimphfaaaJoins
namespace Go.Proofs.Ytagjmpdimphfaaa.rg
open Go.ChangeShapes Go.WideShapes Go.ChangeAt Go.RowKit Go.Sort
set_option linter.unusedVariables false
set_option linter.unusedSimpArgs false
def flZ (zs : List Int) : List Value := zs.map fun z : Int => .int .i64 z
abbrev OwnZ (w w' : World) (p : Option Addr) (n cap : Nat) (zs : List Int) : Prop := OwnR 3 1 w w' p n cap (flZ zs)
theorem flZ_one {zs : List Int} {u : Value} (h : u ∈ flZ zs) : u.oneCell' = true := by
  simp only [flZ, List.mem_map] at h
  obtain ⟨d, _, rfl⟩ := h
  rfl
theorem OwnR.irZ {w w' : World} {p : Option Addr} {n cap : Nat} {zs : List Int} (h : OwnZ w w' p n cap zs) : Ir w' p n zs := by
  have hl := h.own.1
  simp [flZ] at hl
  refine ⟨hl, fun h0 => ?_⟩
  obtain ⟨P, rfl, hP, _⟩ := own_some h h0
  refine ⟨P, 0, rfl, hP, fun i hi => ?_⟩
  rw [Nat.zero_add, h.own.cellAt i (by omega)]
  simp [flZ, List.getD_eq_getElem?_getD, List.getElem?_eq_getElem (show i < zs.length by omega)]
theorem Ir.news {w : World} {P o n : Nat} {zs : List Int} (h : Ir w (some ⟨P, o, none⟩) n zs) : ∀ j u, (flZ zs)[j]? = some u → w.cell? ((⟨P, o, none⟩ : Addr).add j) = some u := by
  intro j u hu
  have hj : j < zs.length := by have := (List.getElem?_eq_some_iff.1 hu).1; simpa [flZ] using this
  have hl := h.len
  obtain ⟨P', o', hp, _, hc⟩ := h.at' (by omega)
  simp at hp
  obtain ⟨rfl, rfl⟩ := hp
  have e : (⟨P, o, none⟩ : Addr).add j = ⟨P, o + j, none⟩ := by unfold Addr.add; split <;> simp_all
  rw [e, hc j (by omega)]
  simp [flZ, List.getElem?_eq_getElem hj] at hu
  rw [← hu]
  simp [List.getD_eq_getElem?_getD, List.getElem?_eq_getElem hj]
/-- a list appended, maybe none -/
theorem ownz_append {w W : World} {p : Option Addr} {n cap : Nat} {xs : List Int} (h : OwnZ w W p n cap xs) (hn : n ≤ 100000) {P o m c : Nat} {zs : List Int} (hz : Ir W (some ⟨P, o, none⟩) m zs) (hm : m ≤ 100000) (h1 : 1 ≤ n + m) (ty : TypeId) :
    ∃ p' cap' w', (Builtin.append_ #[28, 28] ty #[.slice p n cap, .slice (some ⟨P, o, none⟩) m c]).run Try.prog W = .ok (.slice p' (n + m) cap') w' ∧ OwnZ w w' p' (n + m) cap' (xs ++ zs) ∧ Apart (Value.slice p n cap).ownBlock.toList W w' := by
  obtain ⟨i0, hi, hz0, hz1, hz2⟩ := info_parts info3
  have hl := hz.len
  by_cases hm0 : 0 < m
  · obtain ⟨p', cap', w', hrun, r1, r2, _⟩ := OwnR.append (ty := ty) Try.underlying28 hi hz0 hz1 hz2 rfl (by decide) h ⟨P, o, none⟩ m c (flZ zs) hm0 (by simp [flZ, hl]) hz.news (fun u hu => flZ_one hu) (by unfold maxLen; omega) (by omega)
    refine ⟨p', cap', w', hrun, ?_, r2⟩
    show OwnR 3 1 w w' p' (n + m) cap' (flZ (xs ++ zs))
    rw [show flZ (xs ++ zs) = flZ xs ++ flZ zs by simp [flZ]]
    exact r1
  · obtain rfl : m = 0 := by omega
    obtain rfl : zs = [] := by simpa using hl
    obtain ⟨Q, rfl, hQ, hQn, hle, _⟩ := own_some h (by omega)
    obtain ⟨w', hrun, r1, r2⟩ := run_append_own_spare (P := Try.prog) W 0 28 ty 3 i0 1 Try.underlying28 hi hz1 Q n cap (flZ xs) h.own ⟨P, o, none⟩ 0 c [] rfl (by simp) (by simp) hle
    have ap := apart_grown r2
    refine ⟨_, cap, w', hrun, ⟨by simpa using r1, h.new, h.ap.trans' ap (fun y hy => .inr (h.new y (by simp at hy; subst hy; rfl)))⟩, ap⟩
theorem wpList_append3g {w : World} {ops : Array Oper} {rest : List Oper} {o : Oper} {a : Act} {Q : Exit → Act → World → Prop} (s x : Operand) (t : TypeId)
    (ho : o.op = .call { callee := .builtin .append, args := #[s, x], argTypes := #[t, t] }) (hw : Region.wanted o (yielded ops a.tmps) = true) (v u : Value) (hs : a.eval s = v) (hx : a.eval x = u) (v' : Value) (w' : World)
    (hrun : (Builtin.append_ #[t, t] o.type #[v, u]).run Try.prog w = .ok v' w') (hK : wpList Try.prog ops Q rest (a.put o.dst v') w') : wpList Try.prog ops Q (o :: rest) a w := by
  refine wpList_step fun K hK' => ?_
  rw [if_pos hw]
  unfold Oper.wp
  simp [execOp, ho, resolve, invoke, builtin, hs, hx, hrun, Result.andThen]
  exact hK' _ _ hK
set_option maxHeartbeats 8000000 in
set_option maxRecDepth 100000 in
theorem deals_walk (a0 a1 a3 : Int) (s : ByteArray) (h0 : -9223372036854775808 ≤ a0 ∧ a0 ≤ 9223372036854775807) (h1 : -9223372036854775808 ≤ a1 ∧ a1 ≤ 9223372036854775807) (h3 : -9223372036854775808 ≤ a3 ∧ a3 ≤ 9223372036854775807) (w : World) :
    Calls Try.prog 4 #[.int .i64 a0, .int .i64 a1, .string s, .int .i64 a3] w fun r w' => r = .returned (.bool true) ∧ Apart [] w w' := by
  by_cases hs : s.size ≤ 65536
  · have hs' : ¬ ((s.size : Int) > 65536) := by omega
    go_enter Try.func4, Try.ntmps4
    go_wp2_with fail
    refine (wrap_ok a0 8 h0 (by omega) (by omega) _).mono ?_
    rintro r w1 ⟨⟨k, rfl, hk1, hk8⟩, rfl⟩
    dsimp only
    go_wp2_with fail
    refine (wrap_ok a1 16 h1 (by omega) (by omega) _).mono ?_
    rintro r w2 ⟨⟨m, rfl, hm1, hm16⟩, rfl⟩
    dsimp only
    go_wp2_with fail
    refine (new_ok k m (by omega) (by omega) (by omega) (by omega) _).mono ?_
    rintro r w3 ⟨⟨rfl, G⟩, a3'⟩
    dsimp only
    generalize w2.heap.size = R at *
    go_wp2_with (go_at_call 11; refine (num_ok _ _).mono ?_; rintro e w' ⟨rfl, rfl⟩)
    refine (range_ok G s (by omega)).mono ?_
    rintro r w4 ⟨rfl, a4⟩
    dsimp only
    replace G := G.kept0 a4
    have A4 := a3'.trans a4
    clear a3' a4
    obtain ⟨q, Hq⟩ : ∃ q, Hid (q = hashN (strN s) % m) := ⟨_, rfl⟩
    have hqm : q < m := by rw [Hq.out]; exact Nat.mod_lt _ (by omega)
    have hq16 : q < 16 := by omega
    rw [← Hq.out]
    go_wp2_with fail
    refine (order_ok G q hqm).mono ?_
    rintro e w5 ⟨⟨P, cp, rfl, O, hle, hcc⟩⟩
    dsimp only
    replace G := G.kept0 O.ap
    have A5 := A4.trans O.ap
    have I := O.ir
    clear O A4
    go_wp2_with (go_at_call 11; refine (num_ok _ _).mono ?_; rintro e w' ⟨rfl, rfl⟩)
    refine (wrap_ok a3 k h3 (by omega) (by omega) _).mono ?_
    rintro r w6 ⟨⟨c, rfl, hc1, hck⟩, rfl⟩
    dsimp only
    go_wp2_with fail
    refine (pref_ok G q hqm c hc1 hck).mono ?_
    rintro e w7 ⟨⟨P1, o1, cp1, rfl, hP1, a7, B1⟩⟩
    dsimp only
    replace G := G.kept0 a7
    replace I := I.kept0 a7
    have A7 := A5.trans a7
    clear a7 A5
    go_wp2_with fail
    refine (stand_ok G q hqm c hc1 hck).mono ?_
    rintro e w8 ⟨⟨P2, o2, cp2, rfl, hP2, a8, B2⟩⟩
    dsimp only
    replace G := G.kept0 a8
    replace I := I.kept0 a8
    replace B1 := B1.kept0 a8
    have A8 := A7.trans a8
    clear a8 A7
    have hB1 := B1.ir
    have hB2 := B2.ir
    have O0 : OwnZ w8 w8 none 0 0 [] := OwnR.nil 3 1 w8
    obtain ⟨p3, cp3, w9, hrun1, O3, _⟩ := ownz_append (c := cp1) (m := c) (n := 0) O0 (by omega) hB1 (by omega) (by omega) 28
    obtain ⟨p4, cp4, w10, hrun2, O4, a10⟩ := ownz_append (c := cp2) (m := k - c) O3 (by omega) (hB2.kept0 O3.ap) (by omega) (by omega) 28
    have hsum : 0 + c + (k - c) = k := by omega
    have hcat : ([] ++ ints ((ord k q).take c)) ++ ints ((ord k q).drop c) = ints (ord k q) := by simp [ints, ← List.map_append]
    rw [hcat] at O4
    rw [Nat.zero_add] at hrun1
    rw [Nat.zero_add] at hrun2
    rw [hsum] at O4
    rw [show c + (k - c) = k by omega] at hrun2
    have I4 := O4.irZ
    have A10 := A8.trans O4.ap
    replace G := G.kept0 O4.ap
    replace I := I.kept0 O4.ap
    clear O0 O3 O4 hB1 hB2 B1 B2 A8 hsum hcat a10
    go_wp2_with (first
      | (go_at_call 11; refine (num_ok _ _).mono ?_; rintro e w' ⟨rfl, rfl⟩)
      | (at_builtin; refine wpList_append3g (.const (.slice none 0 0)) (.tmp 103) 28 rfl (by rfl) _ _ rfl rfl _ _ hrun1 ?_)
      | (at_builtin; refine wpList_append3g (.tmp 104) (.tmp 105) 28 rfl (by rfl) _ _ rfl rfl _ _ hrun2 ?_))
    have hsm := same_yes (c := cp4) (d := cp) I4 I (by omega) (by omega)
    refine hsm.mono ?_
    rintro e w11 ⟨rfl, a11⟩
    dsimp only
    replace G := G.kept0 a11
    replace I := I.kept0 a11
    have A11 := A10.trans a11
    clear I4 A10 a11
    go_wp2_with fail
    go_loopw [21] (fun v wr => ∃ i : Nat, i ≤ k ∧ v = .int .i64 i ∧ Apart [] w11 wr) (fun v _ => k - (intOf v).toNat)
    case atStart => exact ⟨0, Nat.zero_le _, rfl, Apart.refl _ _⟩
    case round =>
      obtain ⟨i, hi, rfl, aR⟩ := hrel
      by_cases hlt : i < k
      · have hmem : i ∈ ord k q := ord_mem hk8 hq16 hlt
        have hidx : (ord k q).idxOf i < k := by
          have := List.idxOf_lt_length_iff.2 hmem
          rwa [ord_len k (by omega) q hq16] at this
        have hget : (ints (ord k q)).getD ((ord k q).idxOf i) 0 = (i : Int) := by
          have h1 := List.idxOf_lt_length_iff.2 hmem
          simp only [ints, List.getD_eq_getElem?_getD, List.getElem?_map, List.getElem?_eq_getElem h1, Option.map_some, Option.getD_some]
          simp
        go_wp2_with fail
        refine (rank_ok (G.kept0 aR) q hqm i hlt).mono ?_
        rintro e w12 ⟨rfl, a12⟩
        dsimp only
        obtain ⟨P', o', hpp, hP', hc⟩ := ((I.kept0 aR).kept0 a12).at' (by omega)
        simp only [Option.some.injEq, Addr.mk.injEq, and_true] at hpp
        obtain ⟨rfl, rfl⟩ := hpp
        have cx := hc _ hidx
        rw [hget, Nat.zero_add] at cx
        obtain ⟨x, Hx⟩ : ∃ x, Hid (x = (ord k q).idxOf i) := ⟨_, rfl⟩
        rw [← Hx.out] at cx hidx ⊢
        clear hc hget hmem
        have hx1 : ¬ ((x : Int) < 0) := by omega
        have hx2 : ¬ ((x : Int) ≥ (k : Int)) := by omega
        go_wp2_with (go_at_call 11; refine (num_ok _ _).mono ?_; rintro e w' ⟨rfl, rfl⟩)
        go_roundw
        case rel => exact ⟨i + 1, by omega, by simp, aR.trans a12⟩
        case measure => simp only [intOf]; omega
      · obtain rfl : i = k := by omega
        go_wp2_with fail
        go_ret
        exact ⟨rfl, A11.trans aR⟩
  · have hs' : (s.size : Int) > 65536 := by omega
    go_enter Try.func4, Try.ntmps4
    go_wp2_with fail
    go_ret
    exact ⟨rfl, Apart.refl _ _⟩
end Go.Proofs.Ytagjmpdimphfaaa.rg
