import Derived.Test.YtddffdcjhleejaaGreatG26
import Derived.Test.YtddffdcjhleejaaGreatG22
namespace Go.Proofs.YtddffdcjhleejaaGreat.ds
open Go.ChangeShapes Go.WideShapes Go.ChangeAt Go.RowKit Go.Sort
set_option linter.unusedVariables false
set_option linter.unusedSimpArgs false
theorem WsOk.app {key : ByteArray} : ∀ {l l2 : List Wr} {an ac : Int}, WsOk key an ac (l ++ l2) ↔ WsOk key an ac l ∧ WsOk key (match l.getLast? with | none => an | some r => r.n) (match l.getLast? with | none => ac | some r => r.c) l2
  | [], l2, an, ac => by simp [WsOk]
  | r :: l, l2, an, ac => by
    rw [List.cons_append, WsOk, WsOk, WsOk.app (l := l)]
    cases l with
    | nil => simp [WsOk, and_assoc]
    | cons r2 l =>
      rw [List.getLast?_cons_cons]
      cases hg : (r2 :: l).getLast? with
      | none => simp at hg
      | some x => simp only [and_assoc]
theorem WsOk.take {key : ByteArray} {rs : List Wr} {i : Nat} (hi : i < rs.length) : WsOk key 0 0 (rs.take (i + 1)) ↔ WsOk key 0 0 (rs.take i) ∧ (GoodW (gR rs i) ∧ risW (la (rs.take i)).1 (la (rs.take i)).2 (gR rs i).n (gR rs i).c = true ∧ keyIs key (gR rs i).k) := by
  have e1 : rs.take (i + 1) = rs.take i ++ [gR rs i] := by rw [List.take_add_one, List.getElem?_eq_getElem hi, gR_eq _ _ hi]; rfl
  rw [e1, WsOk.app]
  unfold la
  cases (rs.take i).getLast? with
  | none => simp [WsOk]
  | some r => simp [WsOk]
theorem WsOk.pre {key : ByteArray} {rs : List Wr} {i : Nat} (h : WsOk key 0 0 rs) : WsOk key 0 0 (rs.take i) := by
  rw [← List.take_append_drop i rs, WsOk.app] at h
  exact h.1
theorem la_take {rs : List Wr} {i : Nat} (hi : i < rs.length) : la (rs.take (i + 1)) = ((gR rs i).n, (gR rs i).c) := by
  rw [show rs.take (i + 1) = rs.take i ++ [gR rs i] from by rw [List.take_add_one, List.getElem?_eq_getElem hi, gR_eq _ _ hi]; rfl, la_snoc]
set_option maxHeartbeats 8000000 in
set_option maxRecDepth 100000 in
theorem areWrites_ok {w : World} {s : Sl} {es : List E} {rs : List Wr} (h : RWs w s es rs) (key : ByteArray) (v : Bool) (hv : v = true ↔ WsOk key 0 0 rs) : Calls Tryz.prog 80 #[.slice s.p s.n s.c, .string key] w fun r w' => r = .returned (.bool v) ∧ Apart [] w w' := by
  have HH := hid h
  have HV := hid hv
  have HRL := hid h.rl
  have hlim := h.lim
  obtain ⟨D, HD⟩ : ∃ D, Hid (D = w.heap.size) := ⟨_, rfl⟩
  obtain ⟨w1, hw1⟩ : ∃ w1, w1 = w.alloc (.cells #[.int .i64 0, .int .i64 0] 25) := ⟨_, rfl⟩
  have HA1 : Hid (Apart [] w w1) := by unfold Hid; rw [hw1]; exact (Apart.refl [] w).alloc _
  have HD1 : Hid (w1.heap[D]? = some (.cells #[.int .i64 0, .int .i64 0] 25 (0, 0))) := by unfold Hid; rw [HD.out, hw1]; exact heap_alloc_new w _
  clear h hv
  go_enter Tryz.func80, Tryz.ntmps80
  go_wp2_with fail
  rw [← hw1, ← HD.out]
  clear hw1
  go_loopw [7, 10] (fun a b wt => ∃ i : Nat, b = .int .i64 (i : Nat) ∧ i ≤ s.n ∧ Apart [] w wt ∧ wt.heap[D]? = some (.cells #[.int .i64 (la (rs.take i)).1, .int .i64 (la (rs.take i)).2] 25 (0, 0)) ∧ WsOk key 0 0 (rs.take i)) (fun _ b _ => s.n - (intOf b).toNat)
  case atStart => exact ⟨0, rfl, Nat.zero_le _, HA1.out, HD1.out, by simp [WsOk]⟩
  case round =>
    obtain ⟨i, rfl, hi, hap, hd, hok⟩ := hrel
    have HAr := hid hap
    have HDr := hid hd
    have HOK := hid hok
    clear hap hd hok
    by_cases hlt : i < s.n
    · have hlti : ((i : Nat) : Int) < (s.n : Int) := by omega
      obtain ⟨P, o, hPp, hPl, c0, c1, c2, c3, c4, c5⟩ := (HH.out.kept0 HAr.out).cells i hlt
      obtain ⟨e, He⟩ : ∃ e, Hid (e = gE es i) := ⟨_, rfl⟩
      obtain ⟨r, Hr⟩ : ∃ r, Hid (r = gR rs i) := ⟨_, rfl⟩
      have HRD : Hid (Reads w e r) := by unfold Hid; rw [He.out, Hr.out]; exact HH.out.each i hlt
      rw [← He.out] at c0 c1 c2 c3 c4 c5
      obtain ⟨an, Han⟩ : ∃ an, Hid (an = (la (rs.take i)).1) := ⟨_, rfl⟩
      obtain ⟨ac, Hac⟩ : ∃ ac, Hid (ac = (la (rs.take i)).2) := ⟨_, rfl⟩
      rw [← Han.out, ← Hac.out] at HDr
      obtain ⟨vg, hvg⟩ := bool_of' (GoodW r)
      have HVG := hid hvg
      have HCg := hid (fun W (a : Apart [] w W) => wisWrite_ok W e r (HRD.out.kept0 a) vg hvg)
      clear hvg
      have hnn : e.n = r.n := HRD.out.n
      have hcc : e.c = r.c := HRD.out.c
      have hkk : e.k = r.k := HRD.out.k
      have HNN := hid hnn
      have HCC := hid hcc
      have HKK := hid hkk
      clear hnn hcc hkk
      obtain ⟨vr, Hvr⟩ : ∃ vr, Hid (vr = risW an ac e.n e.c) := ⟨_, rfl⟩
      have HCr : Hid (∀ W, Calls Tryz.prog 107 #[.agg #[.int .i64 an, .int .i64 ac], .agg #[.int .i64 e.n, .int .i64 e.c]] W fun r w' => r = .returned (.bool vr) ∧ Apart [] W w') := fun W => (by rw [Hvr.out]; exact rises_ok an ac e.n e.c W)
      have HST : Hid (WsOk key 0 0 (rs.take (i + 1)) ↔ (vg = true ∧ vr = true ∧ (keq key ⟨#[]⟩ = true ∨ keq e.k key = true))) := by
        unfold Hid
        rw [WsOk.take (by rw [HRL.out]; exact hlt), ← Hr.out, ← Han.out, ← Hac.out, HVG.out, Hvr.out, HNN.out, HCC.out, HKK.out, keq_iff, keq_iff]
        unfold keyIs
        simp [HOK.out]
      have HNO : Hid (¬ WsOk key 0 0 (rs.take (i + 1)) → v = false) := fun hn => (by
        cases hvv : v with
        | false => rfl
        | true => exact absurd ((HV.out.1 hvv).pre) hn)
      obtain ⟨sp, sn, sc⟩ := s
      simp only at hPp hlti hlt hi hlim HRL HH ⊢
      subst hPp
      obtain ⟨U, HU⟩ : ∃ U, Hid (U = wr.heap.size) := ⟨_, rfl⟩
      obtain ⟨w2, hw2⟩ : ∃ w2, w2 = wr.alloc (.cells #[.int .i64 e.n, .int .i64 e.c, .string e.k, .bool e.d, .slice e.v.p e.v.n e.v.c, .slice e.x.p e.x.n e.x.c] 37) := ⟨_, rfl⟩
      have HA2 : Hid (Apart [] wr w2) := by unfold Hid; rw [hw2]; exact (Apart.refl [] wr).alloc _
      have HU2 : Hid (w2.heap[U]? = some (.cells #[.int .i64 e.n, .int .i64 e.c, .string e.k, .bool e.d, .slice e.v.p e.v.n e.v.c, .slice e.x.p e.x.n e.x.c] 37 (0, 0))) := by unfold Hid; rw [HU.out, hw2]; exact heap_alloc_new wr _
      have HD2 := hid ((HA2.out.block _ (lt_of_heap HDr.out) (by simp)).trans HDr.out)
      have HA02 : Hid (Apart [] w w2) := HAr.out.trans HA2.out
      go_upto_region 5 with fail
      rw [← hw2, ← HU.out]
      clear hw2 c0 c1 c2 c3 c4 c5
      obtain ⟨c0, c1, c2, c3, c4, c5⟩ := row6 HU2.out
      go_wp2_with fail
      clear c0 c1 c2 c3 c4 c5
      refine (HCg.out w2 HA02.out).mono ?_
      rintro _ w3 ⟨rfl, ha3⟩
      have HA3 : Hid (Apart [] w w3) := HA02.out.trans ha3
      have HU3 := hid ((ha3.block _ (lt_of_heap HU2.out) (by simp)).trans HU2.out)
      have HD3 := hid ((ha3.block _ (lt_of_heap HD2.out) (by simp)).trans HD2.out)
      clear ha3
      try dsimp only
      cases vg with
      | false =>
        have hv := HNO.out (fun h => (by have := HST.out.1 h; simp at this))
        subst hv
        go_wp2_with fail
        go_ret
        exact ⟨rfl, HA3.out⟩
      | true =>
        obtain ⟨c0, c1, c2, c3, c4, c5⟩ := row6 HU3.out
        obtain ⟨d0, d1⟩ := rowv2 HD3.out
        go_wp2_with fail
        clear c0 c1 c2 c3 c4 c5 d0 d1
        refine (HCr.out w3).mono ?_
        rintro _ w4 ⟨rfl, ha4⟩
        have HA4 : Hid (Apart [] w w4) := HA3.out.trans ha4
        have HU4 := hid ((ha4.block _ (lt_of_heap HU3.out) (by simp)).trans HU3.out)
        have HD4 := hid ((ha4.block _ (lt_of_heap HD3.out) (by simp)).trans HD3.out)
        clear ha4
        try dsimp only
        cases vr with
        | false =>
          have hv := HNO.out (fun h => (by have := HST.out.1 h; simp at this))
          subst hv
          go_wp2_with fail
          go_ret
          exact ⟨rfl, HA4.out⟩
        | true =>
          obtain ⟨c0, c1, c2, c3, c4, c5⟩ := row6 HU4.out
          obtain ⟨d0, d1⟩ := rowv2 HD4.out
          have f0 := frozen_of_row _ _ 0 _ _ HD4.out
          have f1 := frozen_of_row _ _ 1 _ _ HD4.out
          obtain ⟨w5, hw5⟩ : ∃ w5, w5 = (w4.setCell ⟨D, 0, none⟩ (.int .i64 e.n)).setCell ⟨D, 1, none⟩ (.int .i64 e.c) := ⟨_, rfl⟩
          have HD5 : Hid (w5.heap[D]? = some (.cells #[.int .i64 (la (rs.take (i + 1))).1, .int .i64 (la (rs.take (i + 1))).2] 25 (0, 0))) := by
            unfold Hid
            rw [hw5, la_take (by rw [HRL.out]; exact hlt), ← Hr.out, ← HNN.out, ← HCC.out]
            have q0 := heap_setCell_same w4 D 0 _ 25 (.int .i64 e.n) HD4.out
            have q1 := heap_setCell_same _ D 1 _ 25 (.int .i64 e.c) q0
            simpa using q1
          have HA5 : Hid (Apart [] w w5) := by
            unfold Hid
            rw [hw5]
            exact HA4.out.trans' (((Apart.refl [D] w4).setCell (.inl (by simp)) _).setCell (.inl (by simp)) _) (by intro y hy; simp at hy; rw [hy, HD.out]; exact .inr (Nat.le_refl _))
          cases h1 : keq key ⟨#[]⟩
          case true =>
            have h1b : (key.toList == []) = true := by rw [← keq_e]; exact h1
            have HN := hid (HST.out.2 (by refine ⟨?_, ?_, .inl h1⟩ <;> simp))
            clear h1
            go_wp2_with fail
            rw [← hw5]
            go_roundw
            case rel => exact ⟨i + 1, by go_num, by omega, HA5.out, HD5.out, HN.out⟩
            case measure => simp [intOf]; omega
          case false =>
            have h1b : (key.toList == []) = false := by rw [← keq_e]; exact h1
            cases h2 : keq e.k key
            case true =>
              have h2b : (e.k.toList == key.toList) = true := h2
              have HN := hid (HST.out.2 (by refine ⟨?_, ?_, .inr h2⟩ <;> simp))
              clear h1 h2
              go_wp2_with fail
              rw [← hw5]
              go_roundw
              case rel => exact ⟨i + 1, by go_num, by omega, HA5.out, HD5.out, HN.out⟩
              case measure => simp [intOf]; omega
            case false =>
              have h2b : (e.k.toList == key.toList) = false := h2
              have hv := HNO.out (fun h => (by have := HST.out.1 h; rw [h1, h2] at this; simp at this))
              subst hv
              clear h1 h2
              go_wp2_with fail
              go_ret
              exact ⟨rfl, HA4.out⟩
    · have hlti : ¬ ((i : Nat) : Int) < (s.n : Int) := by omega
      have hv : v = true := HV.out.2 (by have := HOK.out; rw [List.take_of_length_le (by rw [HRL.out]; omega)] at this; exact this)
      subst hv
      go_wp2_with fail
      go_ret
      exact ⟨rfl, HAr.out⟩
end Go.Proofs.YtddffdcjhleejaaGreat.ds
