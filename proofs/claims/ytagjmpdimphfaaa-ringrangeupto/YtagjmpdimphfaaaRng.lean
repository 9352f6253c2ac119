import Derived.Test.YtagjmpdimphfaaaHb
import Derived.Test.YtagjmpdimphfaaaOpenA
namespace Go.Proofs.Ytagjmpdimphfaaa.rg
open Go.ChangeShapes Go.WideShapes Go.ChangeAt Go.RowKit Go.ChangeMaps Go.Deep
set_option linter.unusedVariables false
set_option linter.unusedSimpArgs false
def cellsQ (q : Aq) : List Value := [.int .i64 q.k, .int .i64 q.wh, .int .i64 q.a, .int .i64 q.b, .string q.key]
def flQ (qs : List Aq) : List Value := qs.flatMap cellsQ
theorem flQ_length (qs : List Aq) : (flQ qs).length = qs.length * 5 := by
  induction qs with
  | nil => rfl
  | cons e l ih => simp only [flQ, List.flatMap_cons, List.length_append, List.length_cons] at *; simp only [cellsQ, List.length_cons, List.length_nil]; omega
theorem flQ_get (qs : List Aq) : ∀ (k : Nat), k < qs.length → (flQ qs)[k * 5]? = some (.int .i64 (qs.getD k default).k) ∧ (flQ qs)[k * 5 + 1]? = some (.int .i64 (qs.getD k default).wh) ∧ (flQ qs)[k * 5 + 2]? = some (.int .i64 (qs.getD k default).a) ∧ (flQ qs)[k * 5 + 3]? = some (.int .i64 (qs.getD k default).b) ∧ (flQ qs)[k * 5 + 4]? = some (.string (qs.getD k default).key) := by
  induction qs with
  | nil => intro k hk; simp at hk
  | cons e l ih =>
    intro k hk
    match k with
    | 0 => exact ⟨rfl, rfl, rfl, rfl, rfl⟩
    | k + 1 =>
      have := ih k (by simpa using hk)
      rw [show (k + 1) * 5 = k * 5 + 5 from by omega]
      exact this
theorem flQ_append (a b : List Aq) : flQ a ++ flQ b = flQ (a ++ b) := by simp [flQ]
theorem flQ_one {qs : List Aq} {u : Value} (h : u ∈ flQ qs) : u.oneCell' = true := by
  simp only [flQ, List.mem_flatMap, cellsQ] at h
  obtain ⟨d, _, h⟩ := h
  simp at h
  rcases h with rfl | rfl | rfl | rfl | rfl <;> rfl
theorem info41 : (Try.prog.info? 41).map (fun i => (i.zero, i.size, i.bytes)) = some (some (.agg #[.int .i64 0, .int .i64 0, .int .i64 0, .int .i64 0, .string ByteArray.empty]), 5, 48) := by kernel_rfl
abbrev OwnQ (w w' : World) (p : Option Addr) (n cap : Nat) (qs : List Aq) : Prop := OwnR 41 5 w w' p n cap (flQ qs)
theorem ownq_aks {w w' : World} {p : Option Addr} {n cap : Nat} {qs : List Aq} (h : OwnQ w w' p n cap qs) (hk : ∀ q ∈ qs, q.key.size ≤ 1048576) : Aks w' p n (fun i => qs.getD i default) := by
  have hl := h.own.1
  rw [flQ_length] at hl
  have hl' : qs.length = n := by omega
  refine ⟨fun h0 => ?_, fun i hi => hk _ (by rw [List.getD_eq_getElem?_getD, List.getElem?_eq_getElem (show i < qs.length by omega)]; exact List.getElem_mem _)⟩
  obtain ⟨P, rfl, hP, _⟩ := own_some h h0
  refine ⟨P, 0, rfl, hP, fun i hi => ?_⟩
  obtain ⟨c0, c1, c2, c3, c4⟩ := flQ_get qs i (by omega)
  rw [Nat.zero_add]
  exact ⟨(h.own.cellAt _ (by omega)).trans c0, (h.own.cellAt _ (by omega)).trans c1, (h.own.cellAt _ (by omega)).trans c2, (h.own.cellAt _ (by omega)).trans c3, (h.own.cellAt _ (by omega)).trans c4⟩
/-- keys, as they read -/
structure Ks (w : World) (p : Option Addr) (N : Nat) (f : Nat → ByteArray) : Prop where
  at' : 0 < N → ∃ P o, p = some ⟨P, o, none⟩ ∧ P < w.heap.size ∧ ∀ i, i < N → w.cell? ⟨P, o + i, none⟩ = some (.string (f i))
  kz : ∀ i, i < N → (f i).size ≤ 1048576
theorem ownq_append {w W : World} {p : Option Addr} {n cap : Nat} {qs : List Aq} (h : OwnQ w W p n cap qs) (hn : n ≤ 100000) (ty : TypeId) (key : ByteArray) :
    ∃ p' cap' w', (Builtin.append_ #[39, 39] ty #[.slice p n cap, .slice (some ⟨W.heap.size, 0, none⟩) 2 2]).run Try.prog (W.alloc (.cells #[.int .i64 1, .int .i64 0, .int .i64 0, .int .i64 0, .string key, .int .i64 6, .int .i64 0, .int .i64 0, .int .i64 0, .string key] 41)) = .ok (.slice p' (n + 2) cap') w' ∧ OwnQ w w' p' (n + 2) cap' (qs ++ [⟨1, 0, 0, 0, key⟩, ⟨6, 0, 0, 0, key⟩]) := by
  obtain ⟨i0, hi, hz0, hz1, hz2⟩ := info_parts info41
  have aA : Apart [] W (W.alloc (.cells #[.int .i64 1, .int .i64 0, .int .i64 0, .int .i64 0, .string key, .int .i64 6, .int .i64 0, .int .i64 0, .int .i64 0, .string key] 41)) := (Apart.refl _ _).alloc _
  obtain ⟨p', cap', w', hrun, r1, _, _⟩ := OwnR.append (ty := ty) Try.underlying39 hi hz0 hz1 hz2 rfl (by decide) (h.kept aA) ⟨W.heap.size, 0, none⟩ 2 2 (flQ [⟨1, 0, 0, 0, key⟩, ⟨6, 0, 0, 0, key⟩]) (by decide) rfl
    (by
      intro j u hj
      have hjl : j < 10 := by have := (List.getElem?_eq_some_iff.1 hj).1; simpa [flQ_length] using this
      rw [Addr.add_lit, Nat.zero_add]
      have hc : (W.alloc (.cells #[.int .i64 1, .int .i64 0, .int .i64 0, .int .i64 0, .string key, .int .i64 6, .int .i64 0, .int .i64 0, .int .i64 0, .string key] 41)).cell? ⟨W.heap.size, j, none⟩ = (flQ [⟨1, 0, 0, 0, key⟩, ⟨6, 0, 0, 0, key⟩])[j]? := by
        rw [cell_of_row _ _ _ _ _ (0, 0) (show (W.heap.push _)[W.heap.size]? = _ from Array.getElem?_push_size)]
        simp [flQ, cellsQ]
      rw [hc]; exact hj)
    (fun u hu => flQ_one hu) (by unfold maxLen; omega) (by omega)
  refine ⟨p', cap', w', hrun, ?_⟩
  show OwnR 41 5 w w' p' (n + 2) cap' (flQ (qs ++ [⟨1, 0, 0, 0, key⟩, ⟨6, 0, 0, 0, key⟩]))
  rw [← flQ_append]
  exact r1
set_option maxHeartbeats 8000000 in
set_option maxRecDepth 100000 in
theorem range_walk {w : World} {p : Option Addr} {N cap : Nat} {f : Nat → ByteArray} (h : Ks w p N f) (hN : N ≤ 1048576) (x y : Int) :
    Calls Try.prog 5 #[.int .i64 x, .int .i64 y, .slice p N cap] w fun r w' => r = .returned (.bool true) ∧ Apart [] w w' := by
  have HK : Hid (Ks w p N f) := h
  clear h
  by_cases hN1 : N ≤ 100
  · go_enter Try.func5, Try.ntmps5
    go_wp2_with fail
    go_loopw [7, 8] (fun x v wr => ∃ (i c : Nat) (q : Option Addr) (qs : List Aq), i ≤ N ∧ v = .int .i64 i ∧ x = .slice q (2 * i) c ∧ OwnQ w wr q (2 * i) c qs ∧ ∀ q ∈ qs, q.key.size ≤ 1048576) (fun _ v _ => N - (intOf v).toNat)
    case atStart => exact ⟨0, 0, none, [], Nat.zero_le _, rfl, rfl, OwnR.nil 41 5 w, by simp⟩
    case round =>
      obtain ⟨i, c, q, qs, hi, rfl, rfl, O, hz⟩ := hrel
      have HZ : Hid (∀ q ∈ qs, q.key.size ≤ 1048576) := hz
      clear hz
      by_cases hlt : i < N
      · obtain ⟨P, o, rfl, hP, hc⟩ := HK.out.at' (by omega)
        have ck := (O.ap.cell (p := ⟨P, o + i, none⟩) hP (by simp)).trans (hc i hlt)
        have hkz := HK.out.kz i hlt
        obtain ⟨key, Hk⟩ : ∃ key, Hid (key = f i) := ⟨_, rfl⟩
        rw [← Hk.out] at ck hkz
        clear hc
        have aD : Apart [] wr (wr.drewN 1) := (Apart.refl _ _).drewN 1
        obtain ⟨q', c', w', hrun, O2⟩ := ownq_append (O.kept aD) (by omega) 39 key
        have HO2 : Hid (OwnQ w w' q' (2 * i + 2) c' (qs ++ [⟨1, 0, 0, 0, key⟩, ⟨6, 0, 0, 0, key⟩])) := O2
        clear O O2 aD
        go_wp2_with fail
        go_region_law (first | (refine step_append3 rfl (.tmp 18) (.tmp 29) 39 rfl _ _ rfl rfl _ _ hrun ?_))
        all_goals
          go_wp2_with fail
          go_roundw
          case rel =>
            refine ⟨i + 1, c', q', qs ++ [⟨1, 0, 0, 0, key⟩, ⟨6, 0, 0, 0, key⟩], by omega, by simp, rfl, HO2.out, fun z hz => ?_⟩
            rcases List.mem_append.1 hz with h | h
            · exact HZ.out z h
            · simp at h; rcases h with rfl | rfl <;> exact hkz
          case measure => simp only [intOf]; omega
      · obtain rfl : i = N := by omega
        have hA := ownq_aks O HZ.out
        have a1 := O.ap
        have u := upTo_ok (cap := c) hA (by omega) x y 1 6 (fun kd _ _ => askOk_any kd)
        clear hA O
        go_wp2_with fail
        refine u.mono ?_
        clear u
        rintro r w1 ⟨rfl, a2⟩
        dsimp only
        go_wp2_with fail
        go_ret
        exact ⟨rfl, a1.trans a2⟩
  · have hN2 : (N : Int) > 100 := by omega
    go_enter Try.func5, Try.ntmps5
    go_wp2_with fail
    go_ret
    exact ⟨rfl, Apart.refl _ _⟩
set_option maxRecDepth 100000 in
theorem open_keys {H : Type} {enc : TypeId × Value → H} {W : World} {fuel : Nat} {p : Option Addr} {len cap : Nat} {x : DataW H × List MemPlace} (h : DataW.trod enc Try.prog W 0 (fun _ => true) true fuel 38 [.slice p len cap] = some x) (hb : Rows.uptoBulk x.1 ≤ 1048576) : ∃ f, Ks W p len f ∧ len ≤ 1048576 := by
  rcases open_slice Try.underlying38 h with ⟨hcs, _⟩ | ⟨a, len', cap', m, n, D, Pl, hcs, _, hl, hm, hmeq, hx, hall⟩
  · simp only [List.cons.injEq, Value.slice.injEq, and_true] at hcs
    obtain ⟨rfl, rfl, rfl⟩ := hcs
    exact ⟨fun _ => ByteArray.empty, ⟨fun h => absurd h (by omega), fun i hi => absurd hi (Nat.not_lt_zero _)⟩, by omega⟩
  · simp only [if_true] at hmeq
    subst hmeq
    simp only [List.cons.injEq, Value.slice.injEq, and_true] at hcs
    obtain ⟨rfl, rfl, rfl⟩ := hcs
    have hlim : len ≤ 1048576 := by
      subst hx
      refine Nat.le_trans ?_ hb
      refine Nat.le_trans ?_ (slice_many _ _)
      refine Nat.le_trans ?_ (many _)
      simp
    by_cases h0 : 0 < len
    · obtain ⟨P, o, spot⟩ := a
      have hspot : spot = none := by
        obtain ⟨cs', h1, h2⟩ := hall 0 (by omega)
        rw [cells9] at h1
        obtain ⟨_, hlen, hcell⟩ := World.cells?_some h1
        have hc := hcell 0 (by omega)
        rw [List.getElem?_eq_getElem (by omega)] at hc
        have := World.cell?_spot hc
        simpa [Addr.add] using this
      subst hspot
      have each : ∀ i, i < len → ∃ q : ByteArray, W.cell? ⟨P, o + i, none⟩ = some (.string q) ∧ q.size ≤ 1048576 := by
        intro i hi
        obtain ⟨cs', h1, h2⟩ := hall i (by omega)
        have hDi : Rows.uptoBulk (D i) ≤ 1048576 := by
          subst hx
          refine Nat.le_trans ?_ hb
          refine Nat.le_trans ?_ (slice_many _ _)
          exact all_mem (List.mem_map.2 ⟨i, List.mem_range.2 hi, rfl⟩)
        rw [cells9, Addr.add_lit] at h1
        obtain ⟨_, hlen, hcell⟩ := World.cells?_some h1
        obtain ⟨s4, q4, e4, _⟩ := DataW.trod_string Try.underlying9 h2
        subst q4
        have hD : D i = .lit (.string s4.data.toList) := congrArg Prod.fst e4
        rw [hD] at hDi
        have ms := Nat.le_trans (str_many (H := H) s4.data.toList) hDi
        have f0 := hcell 0 (by omega)
        simp only [Addr.add_lit] at f0
        exact ⟨s4, by simpa using f0, by simpa using ms⟩
      obtain ⟨f, hf⟩ := @pick_lt ByteArray ⟨ByteArray.empty⟩ _ _ each
      exact ⟨f, ⟨fun _ => ⟨P, o, rfl, block_lt_of_cell (hf 0 h0).1, fun i hi => (hf i hi).1⟩, fun i hi => (hf i hi).2⟩, hlim⟩
    · exact ⟨fun _ => ByteArray.empty, ⟨fun h => absurd h h0, fun i hi => absurd hi (by omega)⟩, hlim⟩
end Go.Proofs.Ytagjmpdimphfaaa.rg
