import Derived.Test.YtdggkofihppcmaaDoorR2
namespace Go.Proofs.YtdggkofihppcmaaDoor.ds
open Go.ChangeShapes Go.WideShapes Go.ChangeAt Go.RowKit
set_option linter.unusedVariables false
set_option linter.unusedSimpArgs false
set_option maxHeartbeats 2000000 in
set_option maxRecDepth 100000 in
theorem rbase_ok {p : Option Addr} {N cap : Nat} {xs : List S} {w : World} (node : Int) (h : L w p N xs) : Calls Tryd.prog 72 #[.slice p N cap, .int .i64 node] w fun r w' => r = .returned (.int .i64 (ofn xs node).b) ∧ w' = w := by
  have hlim := h.lim
  go_enter Tryd.func72, Tryd.ntmps72
  go_wp2_with fail
  go_loopw [5] (fun v wr => ∃ i : Nat, i ≤ N ∧ v = .int .i64 i ∧ wr = w ∧ (∀ j, j < i → (g xs j).n ≠ node)) (fun v _ => N - (intOf v).toNat)
  case atStart => exact ⟨0, Nat.zero_le _, rfl, rfl, fun j hj => absurd hj (by omega)⟩
  case round =>
    obtain ⟨i, hi, rfl, rfl, hno⟩ := hrel
    by_cases hlt : i < N
    · have HI : Hid (i < xs.length) := by show i < xs.length; rw [h.len]; omega
      obtain ⟨P, o, rfl, hP, hc⟩ := h.sp (by rw [h.len]; omega)
      obtain ⟨c0, c1, c2⟩ := hc i HI.out
      by_cases he : (g xs i).n = node
      · have HE : Hid (ofn xs node = g xs i) := by
          show ofn xs node = g xs i
          rw [ofn_take (i := i) (by have := HI.out; omega) hno, drop_g HI.out, ofn, if_pos he]
        have he' : ((g xs i).n == node) = true := by simp [he]
        go_wp2
        go_ret
        exact ⟨by rw [HE.out]; rfl, rfl⟩
      · have HE : Hid ((g xs i).n ≠ node) := he
        have he' : ((g xs i).n == node) = false := by simp; exact he
        go_wp2
        go_roundw
        case rel => exact ⟨i + 1, by omega, rfl, by trivial, fun j hj => by
          by_cases hji : j = i
          · subst hji; exact HE.out
          · exact hno j (by omega)⟩
        case measure => simp [intOf]; omega
    · have HE : Hid (ofn xs node = none0 node) := by
        show ofn xs node = none0 node
        refine ofn_out _ _ fun x hx => ?_
        obtain ⟨j, hj, rfl⟩ := List.getElem_of_mem hx
        have := hno j (by have := h.len; omega)
        unfold g at this
        rw [List.getD_eq_getElem?_getD, List.getElem?_eq_getElem hj] at this
        exact this
      go_wp2
      go_ret
      exact ⟨by rw [HE.out]; rfl, rfl⟩
theorem Own.keptX {w w' w2 : World} {p : Option Addr} {n cap : Nat} {xs : List S} {X : List Nat} (h : Own w w' p n cap xs) (a : Apart X w' w2) (h1 : ∀ k, (Value.slice p n cap).ownBlock = some k → k ∉ X) (h2 : ∀ x ∈ X, w.heap.size ≤ x) : Own w w2 p n cap xs := ⟨h.len, own_apart h.own a h1, h.new, h.ap.trans' a (fun y hy => .inr (h2 y hy))⟩
theorem Own.lt {w w' : World} {p : Option Addr} {n cap : Nat} {xs : List S} (h : Own w w' p n cap xs) : ∀ k, (Value.slice p n cap).ownBlock = some k → k < w'.heap.size := fun k hk => (h.own.lt k hk).2
/-- the number in a cell -/
def cellInt (w : World) (b i : Nat) : Int := match w.cell? ⟨b, i, none⟩ with | some (.int _ v) => v | _ => 0
theorem cellInt_of {w : World} {b i : Nat} {k : IntKind} {v : Int} (h : w.cell? ⟨b, i, none⟩ = some (.int k v)) : cellInt w b i = v := by unfold cellInt; rw [h]
theorem mod_next (t i : Nat) : t % 2 ^ (i + 1) = t % 2 ^ i + (if t.testBit i then 2 ^ i else 0) := by
  rw [Nat.pow_succ, Nat.mod_mul, Nat.testBit_eq_decide_div_mod_eq]
  by_cases h : t / 2 ^ i % 2 = 1
  · rw [h]; simp
  · have h0 : t / 2 ^ i % 2 = 0 := by omega
    rw [h0]; simp
theorem shl_add (t i : Nat) (hi : i < 64) (ht : t < 2 ^ 64) : IntKind.u64.wrap (((t % 2 ^ i : Nat) : Int) + IntKind.u64.wrap (2 ^ i)) = ((t % 2 ^ i + 2 ^ i : Nat) : Int) := by
  have hp : 2 ^ i < 2 ^ 64 := Nat.pow_lt_pow_right (by omega) hi
  have h1 : t % 2 ^ i < 2 ^ i := Nat.mod_lt _ (Nat.two_pow_pos i)
  have h2 : 2 ^ i ≤ 2 ^ 63 := Nat.pow_le_pow_right (by omega) (by omega)
  have e3 : ((2 : Int) ^ i) = ((2 ^ i : Nat) : Int) := by simp
  rw [e3]
  generalize 2 ^ i = q at *
  have e2 : IntKind.u64.wrap (q : Int) = (q : Int) := by rw [IntKind.wrap_u64]; omega
  rw [e2, IntKind.wrap_u64]
  omega
end Go.Proofs.YtdggkofihppcmaaDoor.ds
