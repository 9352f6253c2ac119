import Derived.Test.YtokaeiahhmaokaaB9
namespace Go.Proofs.Ytokaeiahhmaokaa.ds
open Go.ChangeShapes Go.WideShapes Go.ChangeAt Go.RowKit Go.Sort
set_option linter.unusedVariables false
set_option linter.unusedSimpArgs false
theorem neq24 (W : World) (a b : Int) : Sem.run Try.prog (binOp BinOp.neq 24 (.agg #[.int .i64 a, .int .i64 b]) (.agg #[.int .i64 a, .int .i64 b])) W = .ok (.bool false) W := by
  have hS : Try.prog.underlying 24 = some (.struct (Try.prog.fieldsOf 24)) := by kernel_rfl
  have hp : Try.prog.stoodInHeld 24 = false := by kernel_rfl
  rw [run_neq_struct, show (10000 : Nat) = 9998 + 1 + 1 from rfl, run_equalIn_agg _ _ _ _ _ hS hp]
  simp only [Program.fieldsOf, Try.underlying24]
  simp [go_sem, Try.underlying3]
theorem neq38 (W : World) (a b : Int) (c : Int) : Sem.run Try.prog (binOp BinOp.neq 38 (.agg #[.int .i64 a, .int .i64 b, .int .u64 c]) (.agg #[.int .i64 a, .int .i64 b, .int .u64 c])) W = .ok (.bool false) W := by
  rw [neq52]; simp
theorem byts_at {w : World} {p : Option Addr} {bs : List Nat} (h : Rd w p (byts bs)) (h0 : 0 < bs.length) : ∃ P o, p = some ⟨P, o, none⟩ ∧ P < w.heap.size ∧ ∀ i (hi : i < bs.length), w.cell? ⟨P, o + i, none⟩ = some (.int .u8 ((bs[i] : Nat) : Int)) := by
  obtain ⟨P, o, e, hP, hc⟩ := h (by simpa [byts] using h0)
  refine ⟨P, o, e, hP, fun i hi => hc i _ ?_⟩
  simp [byts, List.getElem?_eq_getElem hi]
set_option maxHeartbeats 4000000 in
set_option maxRecDepth 100000 in
theorem same_yes (a b : E) (r : Wr) (w : World) (ha : Reads w a r) (hb : Reads w b r) : Calls Try.prog 21 #[a.agg, b.agg] w fun q w' => q = .returned (.bool true) ∧ Apart [] w w' := by
  obtain ⟨an, ac, ak, ad, ⟨ap, am, aq⟩, ⟨xp, xm, xq⟩⟩ := a
  obtain ⟨bn, bc, bk, bd, ⟨bp, bm, bq⟩, ⟨yp, ym, yq⟩⟩ := b
  obtain ⟨rn, rc, rk, rd, vs, xs⟩ := r
  obtain ⟨rfl, rfl, rfl, rfl, av, avn, avl, avb, ax, axl, avo, axo⟩ := ha
  obtain ⟨e1, e2, e3, e4, bv, bvn, bvl, bvb, bx, bxl, bvo, bxo⟩ := hb
  simp only at *
  subst e1 e2 e3 e4
  have axn := ax.len
  have bxn := bx.len
  obtain rfl : am = bm := by omega
  obtain rfl : xm = ym := by omega
  have aV : Apart [] w ((w.alloc (boxE ⟨bn, bc, bk, bd, ⟨ap, am, aq⟩, ⟨xp, xm, xq⟩⟩)).alloc (boxE ⟨bn, bc, bk, bd, ⟨bp, am, bq⟩, ⟨yp, xm, yq⟩⟩)) := ((Apart.refl [] w).alloc _).alloc _
  have hbox := box2 w ⟨bn, bc, bk, bd, ⟨ap, am, aq⟩, ⟨xp, xm, xq⟩⟩ ⟨bn, bc, bk, bd, ⟨bp, am, bq⟩, ⟨yp, xm, yq⟩⟩
  have HBX := hid hbox
  have hn24 := fun W => neq24 W bn bc
  have hg := guard24
  have hg2 := guard52
  have hkk : (bk.toList == bk.toList) = true := by simp
  obtain ⟨q1, q2⟩ := hbox _ (Apart.refl _ _)
  obtain ⟨t0, t1, t2, t3, t4, t5⟩ := row6 q1
  obtain ⟨u0, u1, u2, u3, u4, u5⟩ := row6 q2
  unfold Sl.v at t4 t5 u4 u5
  have HAV := hid av
  have HBV := hid bv
  have HAX := hid ax
  have HBX2 := hid bx
  have HVN := hid avn
  have HXN := hid axn
  have HA0 := hid aV
  clear q1 q2 hbox av bv ax bx avn bvn axn bxn aV avo axo bvo bxo avb bvb
  unfold E.agg Sl.v
  go_enter Try.func21, Try.ntmps21
  go_wp2_with fail
  clear t0 t1 t2 t3 t4 t5 u0 u1 u2 u3 u4 u5
  go_loopw [5] (fun v wr => ∃ i : Nat, v = .int .i64 (i : Nat) ∧ i ≤ am ∧ Apart [] ((w.alloc (boxE ⟨bn, bc, bk, bd, ⟨ap, am, aq⟩, ⟨xp, xm, xq⟩⟩)).alloc (boxE ⟨bn, bc, bk, bd, ⟨bp, am, bq⟩, ⟨yp, xm, yq⟩⟩)) wr) (fun v _ => am - (intOf v).toNat)
  case atStart => exact ⟨0, rfl, Nat.zero_le _, Apart.refl _ _⟩
  case round =>
    obtain ⟨i, rfl, hi, ap1⟩ := hrel
    have HA := hid ap1
    obtain ⟨q1, q2⟩ := HBX.out _ ap1
    obtain ⟨t0, t1, t2, t3, t4, t5⟩ := row6 q1
    obtain ⟨u0, u1, u2, u3, u4, u5⟩ := row6 q2
    unfold Sl.v at t4 t5 u4 u5
    clear q1 q2 ap1 t0 t1 t2 t3 u0 u1 u2 u3
    by_cases hlt : i < am
    · obtain ⟨P, o, rfl, hP, hc⟩ := byts_at (HAV.out.kept0 (HA0.out.trans HA.out)) (by rw [HVN.out]; omega)
      obtain ⟨P2, o2, rfl, hP2, hc2⟩ := byts_at (HBV.out.kept0 (HA0.out.trans HA.out)) (by rw [HVN.out]; omega)
      have c0 := hc i (by rw [HVN.out]; exact hlt)
      have c1 := hc2 i (by rw [HVN.out]; exact hlt)
      generalize vs[i]'(by rw [HVN.out]; exact hlt) = y at *
      clear hc hc2
      go_wp2_with fail
      go_quiet (fail)
      go_wp2
      go_roundw
      case rel => exact ⟨i + 1, by go_num, by omega, HA.out.drewN _⟩
      case measure => simp [intOf]; omega
    · obtain rfl : i = am := by omega
      go_wp2_with fail
      clear t4 t5 u4 u5
      go_loopw [6] (fun v wr => ∃ j : Nat, v = .int .i64 (j : Nat) ∧ j ≤ xm ∧ Apart [] ((w.alloc (boxE ⟨bn, bc, bk, bd, ⟨ap, i, aq⟩, ⟨xp, xm, xq⟩⟩)).alloc (boxE ⟨bn, bc, bk, bd, ⟨bp, i, bq⟩, ⟨yp, xm, yq⟩⟩)) wr) (fun v _ => xm - (intOf v).toNat)
      case atStart => exact ⟨0, rfl, Nat.zero_le _, HA.out⟩
      case round =>
        clear HA
        obtain ⟨j, rfl, hj, ap1⟩ := hrel
        have HA := hid ap1
        obtain ⟨q1, q2⟩ := HBX.out _ ap1
        obtain ⟨t0, t1, t2, t3, t4, t5⟩ := row6 q1
        obtain ⟨u0, u1, u2, u3, u4, u5⟩ := row6 q2
        unfold Sl.v at t4 t5 u4 u5
        clear q1 q2 ap1 t0 t1 t2 t3 u0 u1 u2 u3
        by_cases hlt : j < xm
        · obtain ⟨P, o, rfl, hP, hc⟩ := (HAX.out.kept0 (HA0.out.trans HA.out)).sp (by rw [HXN.out]; omega)
          obtain ⟨P2, o2, rfl, hP2, hc2⟩ := (HBX2.out.kept0 (HA0.out.trans HA.out)).sp (by rw [HXN.out]; omega)
          obtain ⟨c0, c1, c2⟩ := hc j (by rw [HXN.out]; exact hlt)
          obtain ⟨d0, d1, d2⟩ := hc2 j (by rw [HXN.out]; exact hlt)
          have hn38 := fun W => neq38 W (g xs j).n (g xs j).b ((g xs j).t : Int)
          clear hc hc2
          go_wp2_with fail
          go_quiet (fail)
          go_wp2
          go_roundw
          case rel => exact ⟨j + 1, by go_num, by omega, HA.out.drewN _⟩
          case measure => simp [intOf]; omega
        · obtain rfl : j = xm := by omega
          go_wp2
          go_ret
          exact ⟨rfl, HA0.out.trans HA.out⟩
end Go.Proofs.Ytokaeiahhmaokaa.ds
