import Derived.Test.YtmdjjigiipboaaaDoorN1
namespace Go.Proofs.YtmdjjigiipboaaaDoor.ds
open Go.ChangeShapes Go.WideShapes Go.ChangeAt Go.RowKit
set_option linter.unusedVariables false
set_option linter.unusedSimpArgs false
theorem step_append_own {w0 w : World} {ops : Array Oper} {o : Oper} {a : Act} {K : Act → World → Prop} {Q : Exit → Act → World → Prop} {X : Prop} (hgd : o.guard = none) (s x : Operand)
    (ho : o.op = .call { callee := .builtin .append, args := #[s, x], argTypes := #[22, 22] }) {p : Option Addr} {n cap : Nat} {xs : List S} (hs : a.eval s = .slice p n cap) (ad : Addr) (hx : a.eval x = .slice (some ad) 1 1) (h : Own w0 w p n cap xs) (hn : n ≤ 4398046511104) (y : S) (h0 : w.cell? (ad.add 0) = some (.int .i64 y.n)) (h1 : w.cell? (ad.add 1) = some (.int .i64 y.b)) (h2 : w.cell? (ad.add 2) = some (.int .u64 (y.t : Int)))
    (hK : ∀ p' cap' w', Own w0 w' p' (n + 1) cap' (xs ++ [y]) → K (a.put o.dst (.slice p' (n + 1) cap')) w') : if Region.wanted o (yielded ops a.tmps) = true then Oper.wp Tryd.prog o a w K Q else X := by
  obtain ⟨p', cap', w', hrun, own'⟩ := own_append h hn o.type ad y h0 h1 h2
  exact step_append_run hgd s x 22 ho _ _ hs hx _ _ hrun (hK p' cap' w' own')
set_option maxHeartbeats 8000000 in
set_option maxRecDepth 100000 in
theorem rbases_ok {p : Option Addr} {N cap : Nat} {xs : List S} {w : World} (h : L w p N xs) : Calls Tryd.prog 68 #[.slice p N cap] w fun r w' => GPost w w' r (bas (norm xs)) := by
  have ka := norm_ok xs
  go_enter Tryd.func68, Tryd.ntmps68
  go_wp2_with fail
  refine (rset_ok h).mono ?_
  rintro r w2 ⟨⟨p', N', ca', rfl, la, a2⟩⟩
  dsimp only
  obtain ⟨A, HA⟩ : ∃ A, Hid (norm xs = A) := ⟨_, rfl⟩
  rw [HA.out] at ka la
  have hN8 : N' ≤ 8 := by have := ka.len (by decide) (by decide); have := la.len; omega
  clear h
  go_wp2_with fail
  go_loopw [3, 4] (fun s v wr => ∃ i : Nat, i ≤ N' ∧ v = .int .i64 i ∧ ∃ q n c, s = .slice q n c ∧ n ≤ i ∧ Own w2 wr q n c (basl (A.take i))) (fun _ v _ => N' - (intOf v).toNat)
  case atStart => exact ⟨0, Nat.zero_le _, rfl, none, 0, 0, rfl, by omega, rfl, World.ownsRow_nil _ _ _ _, fun b hb => by simp [Value.ownBlock] at hb, Apart.refl _ _⟩
  case round =>
    obtain ⟨i, hi, rfl, q, n, c, rfl, hn, own⟩ := hrel
    by_cases hlt : i < N'
    · have HI : Hid (i < A.length) := by show i < A.length; rw [la.len]; omega
      obtain ⟨P, o, rfl, hP, hc⟩ := (la.kept0 own.ap).sp (by rw [la.len]; omega)
      obtain ⟨c0, c1, c2⟩ := hc i HI.out
      obtain ⟨⟨xn, xb, xt⟩, HX⟩ : ∃ x, Hid (x = g A i) := ⟨_, rfl⟩
      have HT : Hid (basl (A.take (i + 1)) = basl (A.take i) ++ (if 0 < (g A i).b then [⟨(g A i).n, (g A i).b, 0⟩] else [])) := basl_take HI.out
      rw [← HX.out] at c0 c1 c2 HT
      simp only at c0 c1 c2
      clear hc
      by_cases hb : 0 < xb
      · have HT2 : Hid (basl (A.take (i + 1)) = basl (A.take i) ++ [⟨xn, xb, 0⟩]) := by
          show basl (A.take (i + 1)) = basl (A.take i) ++ [⟨xn, xb, 0⟩]
          rw [HT.out]; simp only; rw [if_pos hb]
        clear HT
        go_wp2_with fail
        go_region_law (refine step_append_own (w0 := w2) rfl (.tmp 19) (.tmp 31) rfl rfl ⟨wr.heap.size, 0, none⟩ rfl (by first | exact own.kept (((Apart.refl [] wr).alloc _).drew) | exact own.kept (((Apart.refl [] wr).drew).alloc _)) (by omega) ⟨xn, xb, 0⟩ (by simp [Addr.add]) (by simp [Addr.add]) (by simp [Addr.add]) ?_; intro p4 cap4 w4 own4)
        all_goals
          go_wp2
          go_roundw
          case rel => exact ⟨i + 1, by omega, rfl, p4, n + 1, cap4, rfl, by omega, by rw [HT2.out]; exact own4⟩
          case measure => simp [intOf]; omega
      · have HT2 : Hid (basl (A.take (i + 1)) = basl (A.take i)) := by
          show basl (A.take (i + 1)) = basl (A.take i)
          rw [HT.out]; simp only; rw [if_neg hb, List.append_nil]
        clear HT
        go_wp2
        go_roundw
        case rel => exact ⟨i + 1, by omega, rfl, q, n, c, rfl, by omega, by rw [HT2.out]; exact own⟩
        case measure => simp [intOf]; omega
    · go_wp2
      go_ret
      obtain rfl : i = N' := by omega
      have e : A.take i = A := List.take_of_length_le (by rw [la.len]; omega)
      rw [e, basl_eq ka] at own
      exact ⟨q, n, c, rfl, by rw [HA.out]; exact own.from a2, by omega⟩
end Go.Proofs.YtmdjjigiipboaaaDoor.ds
