import Derived.Test.YtokaeiahhmaokaaDoorW7
import Derived.Test.YtokaeiahhmaokaaDoorW6
import Derived.Laws.BytesString
import Derived.Test.YtokaeiahhmaokaaDoorW1
import Derived.Laws.AppendOwnNone
namespace Go.Proofs.YtokaeiahhmaokaaDoor.ds
open Go.ChangeShapes Go.WideShapes Go.ChangeAt Go.RowKit Go.Sort
set_option linter.unusedVariables false
set_option linter.unusedSimpArgs false
theorem neq24 (W : World) (a b : Int) : Sem.run Tryd.prog (binOp BinOp.neq 24 (.agg #[.int .i64 a, .int .i64 b]) (.agg #[.int .i64 a, .int .i64 b])) W = .ok (.bool false) W := by
  have hS : Tryd.prog.underlying 24 = some (.struct (Tryd.prog.fieldsOf 24)) := by kernel_rfl
  have hp : Tryd.prog.stoodInHeld 24 = false := by kernel_rfl
  rw [run_neq_struct, show (10000 : Nat) = 9998 + 1 + 1 from rfl, run_equalIn_agg _ _ _ _ _ hS hp]
  simp only [Program.fieldsOf, Tryd.underlying24]
  simp [go_sem, Tryd.underlying3]
theorem neq38 (W : World) (a b : Int) (c : Int) : Sem.run Tryd.prog (binOp BinOp.neq 80 (.agg #[.int .i64 a, .int .i64 b, .int .u64 c]) (.agg #[.int .i64 a, .int .i64 b, .int .u64 c])) W = .ok (.bool false) W := by
  rw [neq52]; simp
theorem byts_at {w : World} {p : Option Addr} {bs : List Nat} (h : Rd w p (byts bs)) (h0 : 0 < bs.length) : ∃ P o, p = some ⟨P, o, none⟩ ∧ P < w.heap.size ∧ ∀ i (hi : i < bs.length), w.cell? ⟨P, o + i, none⟩ = some (.int .u8 ((bs[i] : Nat) : Int)) := by
  obtain ⟨P, o, e, hP, hc⟩ := h (by simpa [byts] using h0)
  refine ⟨P, o, e, hP, fun i hi => hc i _ ?_⟩
  simp [byts, List.getElem?_eq_getElem hi]
set_option maxHeartbeats 4000000 in
set_option maxRecDepth 100000 in
theorem same_yes (a b : E) (r : Wr) (w : World) (ha : Reads w a r) (hb : Reads w b r) : Calls Tryd.prog 43 #[a.agg, b.agg] w fun q w' => q = .returned (.bool true) ∧ Apart [] w w' := by
  obtain ⟨an, ac, ak, ad, ⟨ap, am, aq⟩, ⟨xp, xm, xq⟩⟩ := a
  obtain ⟨bn, bc, bk, bd, ⟨bp, bm, bq⟩, ⟨yp, ym, yq⟩⟩ := b
  obtain ⟨rn, rc, rk, rd, vs, xs⟩ := r
  obtain ⟨rfl, rfl, rfl, rfl, av, avn, avl, avb, ax, axl, avo, axo⟩ := ha
  obtain ⟨e1, e2, e3, e4, bv, bvn, bvl, bvb, bx, bxl, bvo, bxo⟩ := hb
  simp only at *
  subst e1 e2 e3 e4
  have axn := ax.len
  have bxn := bx.len
  obtain rfl : am = bm := by omega
  obtain rfl : xm = ym := by omega
  have aV : Apart [] w ((w.alloc (boxE ⟨bn, bc, bk, bd, ⟨ap, am, aq⟩, ⟨xp, xm, xq⟩⟩)).alloc (boxE ⟨bn, bc, bk, bd, ⟨bp, am, bq⟩, ⟨yp, xm, yq⟩⟩)) := ((Apart.refl [] w).alloc _).alloc _
  have hbox := box2 w ⟨bn, bc, bk, bd, ⟨ap, am, aq⟩, ⟨xp, xm, xq⟩⟩ ⟨bn, bc, bk, bd, ⟨bp, am, bq⟩, ⟨yp, xm, yq⟩⟩
  have HBX := hid hbox
  have hn24 := fun W => neq24 W bn bc
  have hg := guard24
  have hg2 := guard52
  have hkk : (bk.toList == bk.toList) = true := by simp
  obtain ⟨q1, q2⟩ := hbox _ (Apart.refl _ _)
  obtain ⟨t0, t1, t2, t3, t4, t5⟩ := row6 q1
  obtain ⟨u0, u1, u2, u3, u4, u5⟩ := row6 q2
  unfold Sl.v at t4 t5 u4 u5
  have HAV := hid av
  have HBV := hid bv
  have HAX := hid ax
  have HBX2 := hid bx
  have HVN := hid avn
  have HXN := hid axn
  have HA0 := hid aV
  clear q1 q2 hbox av bv ax bx avn bvn axn bxn aV avo axo bvo bxo avb bvb
  unfold E.agg Sl.v
  go_enter Tryd.func43, Tryd.ntmps43
  go_wp2_with fail
  clear t0 t1 t2 t3 t4 t5 u0 u1 u2 u3 u4 u5
  go_loopw [5] (fun v wr => ∃ i : Nat, v = .int .i64 (i : Nat) ∧ i ≤ am ∧ Apart [] ((w.alloc (boxE ⟨bn, bc, bk, bd, ⟨ap, am, aq⟩, ⟨xp, xm, xq⟩⟩)).alloc (boxE ⟨bn, bc, bk, bd, ⟨bp, am, bq⟩, ⟨yp, xm, yq⟩⟩)) wr) (fun v _ => am - (intOf v).toNat)
  case atStart => exact ⟨0, rfl, Nat.zero_le _, Apart.refl _ _⟩
  case round =>
    obtain ⟨i, rfl, hi, ap1⟩ := hrel
    have HA := hid ap1
    obtain ⟨q1, q2⟩ := HBX.out _ ap1
    obtain ⟨t0, t1, t2, t3, t4, t5⟩ := row6 q1
    obtain ⟨u0, u1, u2, u3, u4, u5⟩ := row6 q2
    unfold Sl.v at t4 t5 u4 u5
    clear q1 q2 ap1 t0 t1 t2 t3 u0 u1 u2 u3
    by_cases hlt : i < am
    · obtain ⟨P, o, rfl, hP, hc⟩ := byts_at (HAV.out.kept0 (HA0.out.trans HA.out)) (by rw [HVN.out]; omega)
      obtain ⟨P2, o2, rfl, hP2, hc2⟩ := byts_at (HBV.out.kept0 (HA0.out.trans HA.out)) (by rw [HVN.out]; omega)
      have c0 := hc i (by rw [HVN.out]; exact hlt)
      have c1 := hc2 i (by rw [HVN.out]; exact hlt)
      generalize vs[i]'(by rw [HVN.out]; exact hlt) = y at *
      clear hc hc2
      go_wp2_with fail
      go_quiet (fail)
      go_wp2
      go_roundw
      case rel => exact ⟨i + 1, by go_num, by omega, HA.out.drewN _⟩
      case measure => simp [intOf]; omega
    · obtain rfl : i = am := by omega
      go_wp2_with fail
      clear t4 t5 u4 u5
      go_loopw [6] (fun v wr => ∃ j : Nat, v = .int .i64 (j : Nat) ∧ j ≤ xm ∧ Apart [] ((w.alloc (boxE ⟨bn, bc, bk, bd, ⟨ap, i, aq⟩, ⟨xp, xm, xq⟩⟩)).alloc (boxE ⟨bn, bc, bk, bd, ⟨bp, i, bq⟩, ⟨yp, xm, yq⟩⟩)) wr) (fun v _ => xm - (intOf v).toNat)
      case atStart => exact ⟨0, rfl, Nat.zero_le _, HA.out⟩
      case round =>
        clear HA
        obtain ⟨j, rfl, hj, ap1⟩ := hrel
        have HA := hid ap1
        obtain ⟨q1, q2⟩ := HBX.out _ ap1
        obtain ⟨t0, t1, t2, t3, t4, t5⟩ := row6 q1
        obtain ⟨u0, u1, u2, u3, u4, u5⟩ := row6 q2
        unfold Sl.v at t4 t5 u4 u5
        clear q1 q2 ap1 t0 t1 t2 t3 u0 u1 u2 u3
        by_cases hlt : j < xm
        · obtain ⟨P, o, rfl, hP, hc⟩ := (HAX.out.kept0 (HA0.out.trans HA.out)).sp (by rw [HXN.out]; omega)
          obtain ⟨P2, o2, rfl, hP2, hc2⟩ := (HBX2.out.kept0 (HA0.out.trans HA.out)).sp (by rw [HXN.out]; omega)
          obtain ⟨c0, c1, c2⟩ := hc j (by rw [HXN.out]; exact hlt)
          obtain ⟨d0, d1, d2⟩ := hc2 j (by rw [HXN.out]; exact hlt)
          have hn38 := fun W => neq38 W (g xs j).n (g xs j).b ((g xs j).t : Int)
          clear hc hc2
          go_wp2_with fail
          go_quiet (fail)
          go_wp2
          go_roundw
          case rel => exact ⟨j + 1, by go_num, by omega, HA.out.drewN _⟩
          case measure => simp [intOf]; omega
        · obtain rfl : j = xm := by omega
          go_wp2
          go_ret
          exact ⟨rfl, HA0.out.trans HA.out⟩
end Go.Proofs.YtokaeiahhmaokaaDoor.ds
namespace Go.Proofs.YtokaeiahhmaokaaDoor.ds
open Go.ChangeShapes Go.WideShapes Go.ChangeAt Go.RowKit
set_option linter.unusedVariables false
set_option linter.unusedSimpArgs false
def strB (bs : List Nat) : ByteArray := (bs.map (fun (b : Nat) => (b : Int))).foldl (fun r n => r.push (UInt8.ofNat n.toNat)) ByteArray.empty
theorem conv_bytes {w : World} {s : Sl} {bs : List Nat} (h : Rd w s.p (byts bs)) (hl : bs.length = s.n) (ok : s.ok) : Sem.run Tryd.prog (convert 25 9 (.slice s.p s.n s.c)) w = .ok (.string (strB bs)) w := by
  rw [run_convert_bytes_string w 25 9 5 _ _ _ Tryd.underlying25 Tryd.underlying5 Tryd.underlying9]
  obtain ⟨p, n, c⟩ := s
  unfold Sl.ok at ok
  simp only at h hl ok ⊢
  have hbl : (byts bs).length = n := by simp [byts, hl]
  cases p with
  | none =>
    obtain ⟨rfl, rfl⟩ := ok rfl
    obtain rfl : bs = [] := List.eq_nil_of_length_eq_zero hl
    simp [Conv.bytesToString, strB]
  | some a =>
    refine run_bytesToString w _ _ _ (bs.map (fun (b : Nat) => (b : Int))) ?_
    have := run_loadCells_list (P := Tryd.prog) w a (byts bs) (fun j v hv => by
      obtain ⟨P, o, e, _, hc⟩ := h (by
        by_cases h0 : 0 < (byts bs).length
        · exact h0
        · rw [List.getElem?_eq_none (by omega)] at hv; cases hv)
      cases e
      rw [Addr.add_lit]; exact hc j v hv)
    rw [hbl] at this
    rw [this]
    simp [byts]
end Go.Proofs.YtokaeiahhmaokaaDoor.ds
namespace Go.Proofs.YtokaeiahhmaokaaDoor.ds
open Go.ChangeShapes Go.WideShapes Go.ChangeAt Go.RowKit Go.Sort
set_option linter.unusedVariables false
set_option linter.unusedSimpArgs false
set_option maxHeartbeats 4000000 in
set_option maxRecDepth 100000 in
theorem sameList_yes (w : World) (p q : Option Addr) (N cap cap2 : Nat) (es fs : List E) (rs : List Wr) (h : LE w p N es) (h2 : LE w q N fs) (hr : ∀ j, j < N → Reads w (gE es j) (gR rs j)) (hr2 : ∀ j, j < N → Reads w (gE fs j) (gR rs j)) :
    Calls Tryd.prog 21 #[.slice p N cap, .slice q N cap2] w fun r w' => r = .returned (.bool true) ∧ Apart [] w w' := by
  have hl := h.lim
  have HL := hid h
  have HL2 := hid h2
  have HR := hid hr
  have HR2 := hid hr2
  clear h h2 hr hr2
  go_enter Tryd.func21, Tryd.ntmps21
  go_wp2_with fail
  go_loopw [5] (fun v wr => ∃ i : Nat, v = .int .i64 (i : Nat) ∧ i ≤ N ∧ Apart [] w wr) (fun v _ => N - (intOf v).toNat)
  case atStart => exact ⟨0, rfl, Nat.zero_le _, Apart.refl _ _⟩
  case round =>
    obtain ⟨i, rfl, hi, ap⟩ := hrel
    have HA := hid ap
    clear ap
    by_cases hlt : i < N
    · obtain ⟨P, o, rfl, hP, hc⟩ := (HL.out.kept0 HA.out).at (by omega)
      obtain ⟨Q, o2, rfl, hQ, hc2⟩ := (HL2.out.kept0 HA.out).at (by omega)
      obtain ⟨c0, c1, c2, c3, c4, c5⟩ := hc i hlt
      obtain ⟨d0, d1, d2, d3, d4, d5⟩ := hc2 i hlt
      have hC := same_yes (gE es i) (gE fs i) (gR rs i) wr.drew ((HR.out i hlt).kept0 HA.out.drew) ((HR2.out i hlt).kept0 HA.out.drew)
      generalize gE es i = x at *
      generalize gE fs i = y at *
      unfold Sl.v at c4 c5 d4 d5
      unfold E.agg Sl.v at hC
      clear hc hc2
      go_wp2_with fail
      refine wp_region_held_drew (S := fun X => X.cell? ⟨P, o + i * 6, none⟩ = some (.int .i64 x.n) ∧ X.cell? ⟨P, o + i * 6 + 1, none⟩ = some (.int .i64 x.c) ∧ X.cell? ⟨P, o + i * 6 + 2, none⟩ = some (.string x.k) ∧ X.cell? ⟨P, o + i * 6 + 3, none⟩ = some (.bool x.d) ∧ X.cell? ⟨P, o + i * 6 + 4, none⟩ = some (.slice x.v.p x.v.n x.v.c) ∧ X.cell? ⟨P, o + i * 6 + 5, none⟩ = some (.slice x.x.p x.x.n x.x.c) ∧ X.cell? ⟨Q, o2 + i * 6, none⟩ = some (.int .i64 y.n) ∧ X.cell? ⟨Q, o2 + i * 6 + 1, none⟩ = some (.int .i64 y.c) ∧ X.cell? ⟨Q, o2 + i * 6 + 2, none⟩ = some (.string y.k) ∧ X.cell? ⟨Q, o2 + i * 6 + 3, none⟩ = some (.bool y.d) ∧ X.cell? ⟨Q, o2 + i * 6 + 4, none⟩ = some (.slice y.v.p y.v.n y.v.c) ∧ X.cell? ⟨Q, o2 + i * 6 + 5, none⟩ = some (.slice y.x.p y.x.n y.x.c)) (by kernel_rfl) ⟨c0, c1, c2, c3, c4, c5, d0, d1, d2, d3, d4, d5⟩ (fun hHeld => ?_)
      refine tk 0 17 (.slice (some ⟨P, o, none⟩) N cap) rfl ?_ ?_
      · intro W hSW; obtain ⟨ha0, ha1, ha2, ha3, ha4, ha5, hb0, hb1, hb2, hb3, hb4, hb5⟩ := hSW; go_simp
      simp only [Act.put, List.setIfInBounds_toArray, List.set_cons_zero, List.set_cons_succ]
      refine tk 1 18 (.int .i64 (i : Nat)) rfl ?_ ?_
      · intro W hSW; obtain ⟨ha0, ha1, ha2, ha3, ha4, ha5, hb0, hb1, hb2, hb3, hb4, hb5⟩ := hSW; go_simp
      simp only [Act.put, List.setIfInBounds_toArray, List.set_cons_zero, List.set_cons_succ]
      refine tk 2 19 (.pointer (some ⟨P, o + i * 6, none⟩)) rfl ?_ ?_
      · intro W hSW; obtain ⟨ha0, ha1, ha2, ha3, ha4, ha5, hb0, hb1, hb2, hb3, hb4, hb5⟩ := hSW; go_simp
      simp only [Act.put, List.setIfInBounds_toArray, List.set_cons_zero, List.set_cons_succ]
      refine tk 3 20 (.agg #[.int .i64 x.n, .int .i64 x.c, .string x.k, .bool x.d, .slice x.v.p x.v.n x.v.c, .slice x.x.p x.x.n x.x.c]) rfl ?_ ?_
      · intro W hSW; obtain ⟨ha0, ha1, ha2, ha3, ha4, ha5, hb0, hb1, hb2, hb3, hb4, hb5⟩ := hSW; go_simp
      simp only [Act.put, List.setIfInBounds_toArray, List.set_cons_zero, List.set_cons_succ]
      refine tk 4 21 (.slice (some ⟨Q, o2, none⟩) N cap2) rfl ?_ ?_
      · intro W hSW; obtain ⟨ha0, ha1, ha2, ha3, ha4, ha5, hb0, hb1, hb2, hb3, hb4, hb5⟩ := hSW; go_simp
      simp only [Act.put, List.setIfInBounds_toArray, List.set_cons_zero, List.set_cons_succ]
      refine tk 5 22 (.int .i64 (i : Nat)) rfl ?_ ?_
      · intro W hSW; obtain ⟨ha0, ha1, ha2, ha3, ha4, ha5, hb0, hb1, hb2, hb3, hb4, hb5⟩ := hSW; go_simp
      simp only [Act.put, List.setIfInBounds_toArray, List.set_cons_zero, List.set_cons_succ]
      refine tk 6 23 (.pointer (some ⟨Q, o2 + i * 6, none⟩)) rfl ?_ ?_
      · intro W hSW; obtain ⟨ha0, ha1, ha2, ha3, ha4, ha5, hb0, hb1, hb2, hb3, hb4, hb5⟩ := hSW; go_simp
      simp only [Act.put, List.setIfInBounds_toArray, List.set_cons_zero, List.set_cons_succ]
      refine tk 7 24 (.agg #[.int .i64 y.n, .int .i64 y.c, .string y.k, .bool y.d, .slice y.v.p y.v.n y.v.c, .slice y.x.p y.x.n y.x.c]) rfl ?_ ?_
      · intro W hSW; obtain ⟨ha0, ha1, ha2, ha3, ha4, ha5, hb0, hb1, hb2, hb3, hb4, hb5⟩ := hSW; go_simp
      simp only [Act.put, List.setIfInBounds_toArray, List.set_cons_zero, List.set_cons_succ]
      refine wpAnyH_ready (rs := [8]) (by kernel_rfl) (by simp) ?_
      refine AllReadyH.cons rfl (fun KK hKK => ?_) AllReadyH.nil
      go_simp
      refine hC.mono ?_
      clear hC
      rintro r1 w2 ⟨rfl, a2⟩
      dsimp only
      have hSx : w2.cell? ⟨P, o + i * 6, none⟩ = some (.int .i64 x.n) ∧ w2.cell? ⟨P, o + i * 6 + 1, none⟩ = some (.int .i64 x.c) ∧ w2.cell? ⟨P, o + i * 6 + 2, none⟩ = some (.string x.k) ∧ w2.cell? ⟨P, o + i * 6 + 3, none⟩ = some (.bool x.d) ∧ w2.cell? ⟨P, o + i * 6 + 4, none⟩ = some (.slice x.v.p x.v.n x.v.c) ∧ w2.cell? ⟨P, o + i * 6 + 5, none⟩ = some (.slice x.x.p x.x.n x.x.c) ∧ w2.cell? ⟨Q, o2 + i * 6, none⟩ = some (.int .i64 y.n) ∧ w2.cell? ⟨Q, o2 + i * 6 + 1, none⟩ = some (.int .i64 y.c) ∧ w2.cell? ⟨Q, o2 + i * 6 + 2, none⟩ = some (.string y.k) ∧ w2.cell? ⟨Q, o2 + i * 6 + 3, none⟩ = some (.bool y.d) ∧ w2.cell? ⟨Q, o2 + i * 6 + 4, none⟩ = some (.slice y.v.p y.v.n y.v.c) ∧ w2.cell? ⟨Q, o2 + i * 6 + 5, none⟩ = some (.slice y.x.p y.x.n y.x.c) := ⟨(a2.cell (p := ⟨P, o + i * 6, none⟩) hP (by simp)).trans c0, (a2.cell (p := ⟨P, o + i * 6 + 1, none⟩) hP (by simp)).trans c1, (a2.cell (p := ⟨P, o + i * 6 + 2, none⟩) hP (by simp)).trans c2, (a2.cell (p := ⟨P, o + i * 6 + 3, none⟩) hP (by simp)).trans c3, (a2.cell (p := ⟨P, o + i * 6 + 4, none⟩) hP (by simp)).trans c4, (a2.cell (p := ⟨P, o + i * 6 + 5, none⟩) hP (by simp)).trans c5, (a2.cell (p := ⟨Q, o2 + i * 6, none⟩) hQ (by simp)).trans d0, (a2.cell (p := ⟨Q, o2 + i * 6 + 1, none⟩) hQ (by simp)).trans d1, (a2.cell (p := ⟨Q, o2 + i * 6 + 2, none⟩) hQ (by simp)).trans d2, (a2.cell (p := ⟨Q, o2 + i * 6 + 3, none⟩) hQ (by simp)).trans d3, (a2.cell (p := ⟨Q, o2 + i * 6 + 4, none⟩) hQ (by simp)).trans d4, (a2.cell (p := ⟨Q, o2 + i * 6 + 5, none⟩) hQ (by simp)).trans d5⟩
      refine hKK.out _ _ hSx (fun hHeld => ?_)
      clear hKK KK
      refine tk 9 26 (.bool false) rfl ?_ ?_
      · intro W hSW; obtain ⟨ha0, ha1, ha2, ha3, ha4, ha5, hb0, hb1, hb2, hb3, hb4, hb5⟩ := hSW; go_simp
      simp only [Act.put, List.setIfInBounds_toArray, List.set_cons_zero, List.set_cons_succ]
      refine wpAnyH_done (by kernel_rfl) ?_ _
      go_wp2
      go_roundw
      case rel => exact ⟨i + 1, by go_num, by omega, HA.out.drew.trans a2⟩
      case measure => simp [intOf]; omega
    · obtain rfl : i = N := by omega
      go_wp2
      go_ret
      exact ⟨rfl, HA.out⟩
theorem size28 : (Tryd.prog.info? 28).map (·.size) = some 6 := by kernel_rfl
end Go.Proofs.YtokaeiahhmaokaaDoor.ds
namespace Go.Proofs.YtokaeiahhmaokaaDoor.ds
open Go.ChangeShapes Go.WideShapes Go.ChangeAt Go.RowKit Go.Sort
set_option linter.unusedVariables false
set_option linter.unusedSimpArgs false
/-- append to nil -/
theorem run_appNil (w : World) (t ty e : TypeId) (i : TypeInfo) (z : Value) (size bytes : Nat) (ht : Tryd.prog.underlying t = some (.slice e)) (hi : Tryd.prog.info? e = some i) (hz : i.zero = some z) (hsize : i.size = size) (hby : i.bytes = bytes) (hzs : z.cells.size = size) (hsz : 0 < size)
    (s : Sl) (us : List Value) (h : Rd w s.p us) (hl : us.length = s.n * size) (one : ∀ u ∈ us, u.oneCell' = true) (h63 : s.n ≤ 2000000) (hb : s.n * bytes ≤ 140737488355328) (ok : s.ok) :
    ∃ s' w', (Builtin.append_ #[t, t] ty #[.slice none 0 0, s.v]).run Tryd.prog w = .ok (Sl.v s') w' ∧ Nw w w' e size s' us ∧ s'.n = s.n := by
  obtain ⟨p, N, c⟩ := s
  unfold Sl.ok at ok
  simp only at h hl h63 hb ok
  cases p with
  | none =>
    obtain ⟨rfl, rfl⟩ := ok rfl
    have hu : us = [] := List.length_eq_zero_iff.1 (by omega)
    subst hu
    exact ⟨⟨none, 0, 0⟩, w, run_append_owned_none (P := Tryd.prog) w 0 t ty e i size ht hi (.slice none 0 0) 0 [] (World.ownsRow_nil _ _ _ _), ⟨World.ownsRow_nil _ _ _ _, by simp [Sl.v, Value.ownBlock], Apart.refl _ _⟩, rfl⟩
  | some ad =>
    have hcs : ∀ j u, us[j]? = some u → w.cell? (ad.add j) = some u := by
      intro j u hj
      have hjl : j < us.length := by
        by_cases hc : j < us.length
        · exact hc
        · rw [List.getElem?_eq_none (by omega)] at hj; cases hj
      obtain ⟨P, o, e1, hP, hc⟩ := h (by omega)
      simp at e1
      subst e1
      rw [Addr.add_lit]
      exact hc j u hj
    obtain ⟨v', w', hrun, r1, r2, r3⟩ := run_append_own (P := Tryd.prog) (w := w) w.heap.size t ty e i z size bytes ht hi hz hsize hby hzs hsz (.slice none 0 0) 0 [] (World.ownsRow_nil _ _ _ _) ad N c us hl hcs one (by unfold maxLen; omega) (by simpa using hb) (Nat.le_refl _)
    rw [Nat.zero_add, List.nil_append] at r1
    have ap : Apart [] w w' := by have := apart_grown r2; simpa [Value.ownBlock] using this
    have hnew : ∀ k, v'.ownBlock = some k → w.heap.size ≤ k := fun k hk => (r1.lt k hk).1
    have r0 := own_base r1 (Nat.zero_le _)
    obtain ⟨s', rfl, hs'⟩ : ∃ s' : Sl, v' = s'.v ∧ s'.n = N := by
      obtain ⟨_, ⟨hv, hz⟩ | ⟨g, cap, cur, hv, _⟩⟩ := r1
      · exact ⟨⟨none, 0, 0⟩, hv, hz.symm⟩
      · exact ⟨⟨some ⟨g, 0, none⟩, N, cap⟩, hv, rfl⟩
    exact ⟨s', w', hrun, ⟨by rw [hs']; exact r0, hnew, ap⟩, hs'⟩
theorem L.rd {w : World} {p : Option Addr} {N : Nat} {xs : List S} (h : L w p N xs) : Rd w p (flat xs) := by
  intro h0
  obtain ⟨P, o, e1, hP, hc⟩ := h.sp (by rw [flat_length] at h0; omega)
  refine ⟨P, o, e1, hP, fun j u hj => ?_⟩
  have hsp := h.sp
  rw [e1] at hsp
  have := hsp.cells j u hj
  rwa [Addr.add_lit] at this
theorem appS (w : World) (s : Sl) (xs : List S) (ty : TypeId) (h : L w s.p s.n xs) (hn : s.n ≤ 2000000) (ok : s.ok) :
    ∃ s' w', (Builtin.append_ #[26, 26] ty #[.slice none 0 0, s.v]).run Tryd.prog w = .ok (Sl.v s') w' ∧ Nw w w' 80 3 s' (flat xs) ∧ s'.n = s.n := by
  obtain ⟨i0, hi, hz0, hz1, hz2⟩ := info_parts info52
  exact run_appNil w 26 ty 80 i0 _ 3 24 Tryd.underlying26 hi hz0 hz1 hz2 rfl (by decide) s _ h.rd (by rw [flat_length, h.len]) (oneFlat _) hn (by omega) ok
def put6 (w : World) (g : Nat) (a b c d e f : Value) : World := (((((w.setCell ⟨g, 0, none⟩ a).setCell ⟨g, 1, none⟩ b).setCell ⟨g, 2, none⟩ c).setCell ⟨g, 3, none⟩ d).setCell ⟨g, 4, none⟩ e).setCell ⟨g, 5, none⟩ f
theorem row6s {w : World} {g : Nat} {t : TypeId} {a b c d e f : Value} (h : w.heap[g]? = some (.cells #[a, b, c, d, e, f] t (0, 0))) (x0 x1 x2 x3 x4 x5 : Value) : (put6 w g x0 x1 x2 x3 x4 x5).heap[g]? = some (.cells #[x0, x1, x2, x3, x4, x5] t (0, 0)) := by
  have h1 := heap_setCell_same w g 0 _ t x0 h
  have h2 := heap_setCell_same _ g 1 _ t x1 h1
  have h3 := heap_setCell_same _ g 2 _ t x2 h2
  have h4 := heap_setCell_same _ g 3 _ t x3 h3
  have h5 := heap_setCell_same _ g 4 _ t x4 h4
  have h6 := heap_setCell_same _ g 5 _ t x5 h5
  unfold put6
  simpa using h6
theorem ap6 (w : World) (g : Nat) (a b c d e f : Value) : Apart [g] w (put6 w g a b c d e f) := (((((((Apart.refl _ _).setCell (.inl (by simp)) _).setCell (.inl (by simp)) _).setCell (.inl (by simp)) _).setCell (.inl (by simp)) _).setCell (.inl (by simp)) _).setCell (.inl (by simp)) _)
end Go.Proofs.YtokaeiahhmaokaaDoor.ds
namespace Go.Proofs.YtokaeiahhmaokaaDoor.ds
open Go.ChangeShapes Go.WideShapes Go.ChangeAt Go.RowKit Go.Sort
set_option linter.unusedVariables false
set_option linter.unusedSimpArgs false
theorem Fresh.from {w0 w w' : World} {e : E} {r : Wr} (h : Fresh w w' e r) (a : Apart [] w0 w) : Fresh w0 w' e r :=
  { h with
    v := ⟨h.v.own, fun k hk => Nat.le_trans a.size (h.v.new k hk), a.trans h.v.ap⟩
    x := ⟨h.x.own, fun k hk => Nat.le_trans a.size (h.x.new k hk), a.trans h.x.ap⟩ }
end Go.Proofs.YtokaeiahhmaokaaDoor.ds
namespace Go.Proofs.YtokaeiahhmaokaaDoor.ds
open Go.ChangeShapes Go.WideShapes Go.ChangeAt Go.RowKit Go.Sort
set_option linter.unusedVariables false
/-- where the program puts it: at the first that stands behind, or at the end -/
def atE (u : E) (l : List E) : Nat := (l.findIdx? (below u)).getD l.length
theorem atE_le (u : E) (l : List E) : atE u l ≤ l.length := by
  unfold atE
  cases h : l.findIdx? (below u) with
  | none => simp
  | some k =>
    rw [List.findIdx?_eq_some_iff_getElem] at h
    obtain ⟨hk, _⟩ := h
    simp; omega
theorem insE_at (u : E) : ∀ l : List E, insE u l = l.take (atE u l) ++ [u] ++ l.drop (atE u l)
  | [] => by simp [insE, atE]
  | x :: l => by
    have ih := insE_at u l
    unfold insE
    by_cases hx : below u x = true
    · rw [if_pos hx]
      have : atE u (x :: l) = 0 := by unfold atE; rw [List.findIdx?_cons]; simp [hx]
      rw [this]; simp
    · rw [if_neg hx]
      have : atE u (x :: l) = atE u l + 1 := by
        unfold atE
        rw [List.findIdx?_cons]
        simp only [hx]
        cases l.findIdx? (below u) <;> simp
      rw [this, ih]
      simp
theorem idx_at (u : E) (l : List E) : (if idxE (below u) l < 0 then (l.length : Int) else idxE (below u) l) = (atE u l : Int) := by
  unfold idxE atE
  cases l.findIdx? (below u) with
  | none => simp
  | some k => simp; omega
end Go.Proofs.YtokaeiahhmaokaaDoor.ds
namespace Go.Proofs.YtokaeiahhmaokaaDoor.ds
open Go.ChangeShapes Go.WideShapes Go.ChangeAt Go.RowKit Go.Sort
set_option linter.unusedVariables false
set_option linter.unusedSimpArgs false
/-- what slices.Insert of one write must answer -/
def InsOk : Prop := ∀ (w W : World) (s : Sl) (l : List E) (u : E) (k B : Nat), OwnE w W s l → s.n ≤ 1500000 → k ≤ s.n → Cap W B u → Calls Tryd.prog 90 #[s.v, .int .i64 (k : Int), .slice (some ⟨B, 0, none⟩) 1 1] W fun r W' => ∃ s', r = .returned (Sl.v s') ∧ OwnE w W' s' (l.take k ++ [u] ++ l.drop k)
set_option maxHeartbeats 8000000 in
set_option maxRecDepth 100000 in
theorem merged_ok (hI : InsOk) (w : World) (p : Option Addr) (N cap : Nat) (es : List E) (u : E) (X : E → List S) (h : LE w p N es) (hN : N ≤ 1100000) (hX : ∀ j, j < N → L w (gE es j).x.p (gE es j).x.n (X (gE es j))) (hu : L w u.x.p u.x.n (X u)) :
    Calls Tryd.prog 51 #[.slice p N cap, u.agg] w fun r w' => ∃ s, r = .returned (Sl.v s) ∧ OwnE w w' s (mergeE X es u) := by
  have aB : Apart [] w (w.alloc (boxE u)) := (Apart.refl [] w).alloc _
  have HB := hid aB
  have HC := hid (Cap.new w u)
  have HL := hid h
  have HN := hid h.len
  have HX := hid hX
  have HU := hid hu
  have HI := hid hI
  have o0 : OwnE (w.alloc (boxE u)) (w.alloc (boxE u)) ⟨none, 0, 0⟩ (leftE X (es.take 0) u) := OwnE.nil _ _ (Apart.refl _ _)
  clear h aB hX hu hI
  unfold E.agg
  go_enter Tryd.func51, Tryd.ntmps51
  go_wp2_with fail
  go_loopw [5, 11] (fun v5 v11 wr => ∃ (i : Nat) (s : Sl), v11 = .int .i64 (i : Nat) ∧ i ≤ N ∧ v5 = s.v ∧ OwnE (w.alloc (boxE u)) wr s (leftE X (es.take i) u)) (fun _ v11 _ => N - (intOf v11).toNat)
  case atStart => exact ⟨0, ⟨none, 0, 0⟩, rfl, Nat.zero_le _, rfl, o0⟩
  case round =>
    clear o0
    obtain ⟨i, ⟨ps, ns, cs⟩, rfl, hi, rfl, own⟩ := hrel
    have HO := hid own
    have HA := hid own.nw.ap
    clear own
    have HCr := hid (HC.out.kept0 HA.out)
    have hns : ns ≤ 1100000 := by
      have h1 := HO.out.len
      have h2 := leftE_len X (es.take i) u
      rw [List.length_take] at h2
      simp only at h1
      omega
    have hbx := fun W => buildE W (gE es i)
    unfold Sl.v
    by_cases hlt : i < N
    · obtain ⟨P, o, hpe, hPw, _⟩ := HL.out.at (by omega)
      obtain ⟨P', o', hpe', hP, hc⟩ := (HL.out.kept0 (HB.out.trans HA.out)).at (by omega)
      rw [hpe] at hpe'
      simp at hpe'
      obtain ⟨rfl, rfl⟩ := hpe'
      subst hpe
      obtain ⟨c0, c1, c2, c3, c4, c5⟩ := hc i hlt
      have HTK := hid (takeE (es := es) (i := i) (by rw [HN.out]; exact hlt))
      obtain ⟨x, hx⟩ : ∃ x, x = gE es i := ⟨_, rfl⟩
      rw [← hx] at c0 c1 c2 c3 c4 c5 hbx HTK
      obtain ⟨v1, HV1⟩ : ∃ v1, Hid (v1 = cvE (X u) u x) := ⟨_, rfl⟩
      have aX : Apart [] wr (wr.alloc (boxE x)) := (Apart.refl [] wr).alloc _
      have hC1 := covers_ok u x (X u) (wr.alloc (boxE x)) (HU.out.kept0 ((HB.out.trans HA.out).trans aX)) v1 HV1.out
      obtain ⟨u0, u1, u2, u3, u4, u5⟩ := row6 (HCr.out.kept0 aX)
      have bX : Cap (wr.alloc (boxE x)) wr.heap.size x := Cap.new wr x
      obtain ⟨x0, x1, x2, x3, x4, x5⟩ := row6 bX
      have HBX := hid bX
      have HAX := hid aX
      unfold Sl.v at c4 c5
      unfold boxE Sl.v at u0 u1 u2 u3 u4 u5 x0 x1 x2 x3 x4 x5
      unfold E.agg Sl.v at hbx hC1
      clear hc hx bX aX
      go_wp2_with fail
      refine hC1.mono ?_
      clear hC1
      rintro r w2 ⟨rfl, a2⟩
      have HA2 := hid (HAX.out.trans a2)
      obtain ⟨y0, y1, y2, y3, y4, y5⟩ := row6 (HBX.out.kept0 a2)
      unfold Sl.v at y4 y5
      clear c0 c1 c2 c3 c4 c5 u0 u1 u2 u3 u4 u5 x0 x1 x2 x3 x4 x5
      cases v1
      · obtain ⟨s', W3, hrun, own', hn', ap'⟩ := run_appE (s := ⟨ps, ns, cs⟩) (HO.out.kept HA2.out) (by show ns ≤ _; omega) x 39
        have HO2 := hid own'
        have HLS : Hid (leftE X (es.take (i + 1)) u = leftE X (es.take i) u ++ [x]) := by
          show leftE X (es.take (i + 1)) u = _
          rw [HTK.out, leftE_snoc, ← HV1.out]; simp
        unfold Sl.v boxE at hrun
        clear own' ap' hn' a2
        go_wp2_with (at_builtin; refine wpList_append3 rfl (.tmp 19) (.tmp 21) 39 rfl _ _ rfl rfl _ _ hrun ?_)
        go_wp2
        go_roundw
        case rel => exact ⟨i + 1, s', by go_num, by omega, rfl, by rw [HLS.out]; exact HO2.out⟩
        case measure => simp [intOf]; omega
      · have HLS : Hid (leftE X (es.take (i + 1)) u = leftE X (es.take i) u) := by
          show leftE X (es.take (i + 1)) u = _
          rw [HTK.out, leftE_snoc, ← HV1.out]; simp
        clear a2
        go_wp2
        go_roundw
        case rel => exact ⟨i + 1, ⟨ps, ns, cs⟩, by go_num, by omega, rfl, by rw [HLS.out]; exact HO.out.kept HA2.out⟩
        case measure => simp [intOf]; omega
    · obtain rfl : N = i := by omega
      have htk : es.take N = es := List.take_of_length_le (by rw [HN.out]; exact Nat.le_refl _)
      rw [htk] at HO
      clear hbx htk
      obtain ⟨l, hl⟩ : ∃ l, l = leftE X es u := ⟨_, rfl⟩
      rw [← hl] at HO
      have HLL := hid hl
      have hmem : ∀ t ∈ l, L wr t.x.p t.x.n (X t) := by
        intro t ht
        rw [hl] at ht
        have ht2 := (List.mem_filter.1 ht).1
        obtain ⟨k, hk, rfl⟩ := List.getElem_of_mem ht2
        have := HX.out k (by rw [← HN.out]; exact hk)
        rw [gE_eq _ _ hk] at this
        exact this.kept0 (HB.out.trans HA.out)
      have gmem : ∀ k, k < l.length → gE l k ∈ l := fun k hk => by rw [gE_eq _ _ hk]; exact List.getElem_mem hk
      have hAsk : Asks wr 88 #[.pointer (some ⟨w.heap.size, 0, none⟩)] l (fun t => cvE (X t) t u) := fun k hk W a => cov1_ok (gE l k) u w.heap.size (X (gE l k)) W (HCr.out.kept0 a) ((hmem _ (gmem k hk)).kept0 a)
      have hK := contains29 (cap := cs) (HO.out.LE (by show ns ≤ _; omega)) _ hAsk
      clear hAsk hmem hl
      go_wp2_with fail
      refine hK.mono ?_
      clear hK
      rintro r w2 ⟨rfl, a2⟩
      have HA2 := hid a2
      clear a2
      dsimp only
      cases hcv : l.any (fun t => cvE (X t) t u)
      · have HM : Hid (mergeE X es u = insE u l) := by
          show mergeE X es u = _
          unfold mergeE
          rw [← HLL.out, if_neg (by rw [hcv]; simp)]
        clear hcv
        have hAsk2 : Asks w2 89 #[.pointer (some ⟨w.heap.size, 0, none⟩)] l (below u) := fun k hk W a => beh1_ok (gE l k) u w.heap.size W (HCr.out.kept0 (HA2.out.trans a))
        have hK2 := index30 (cap := cs) ((HO.out.kept HA2.out).LE (by show ns ≤ _; omega)) _ hAsk2
        clear hAsk2
        have hat := idx_at u l
        have hat2 := atE_le u l
        have hln : l.length = ns := HO.out.len
        rw [hln] at hat hat2
        generalize idxE (below u) l = z at *
        go_wp2_with fail
        refine hK2.mono ?_
        clear hK2
        rintro r w3 ⟨rfl, a3⟩
        have HA3 := hid (HA2.out.trans a3)
        clear a3
        dsimp only
        obtain ⟨u0, u1, u2, u3, u4, u5⟩ := row6 (HCr.out.kept0 HA3.out)
        unfold Sl.v at u4 u5
        have hbu := fun W => buildE W u
        unfold E.agg Sl.v at hbu
        have hIn := HI.out (w.alloc (boxE u)) (w3.alloc (boxE u)) ⟨ps, ns, cs⟩ l u (atE u l) w3.heap.size (HO.out.kept (HA3.out.alloc _)) (by show ns ≤ _; omega) hat2 (Cap.new w3 u)
        rw [← insE_at, ← hat] at hIn
        unfold Sl.v at hIn
        have HHAT := hid hat
        clear hat hat2 hln
        by_cases hz : z < 0
        · rw [if_pos hz] at hIn
          go_wp2_with fail
          refine hIn.mono ?_
          rintro r w4 ⟨s4, rfl, own4⟩
          have HO4 := hid own4
          clear own4 hIn
          dsimp only
          go_wp2
          go_ret
          exact ⟨s4, rfl, ⟨⟨by rw [HM.out]; exact HO4.out.nw.own, fun k hk => Nat.le_trans HB.out.size (HO4.out.nw.new k hk), HB.out.trans HO4.out.nw.ap⟩, by rw [HM.out]; exact HO4.out.len⟩⟩
        · rw [if_neg hz] at hIn
          go_wp2_with fail
          refine hIn.mono ?_
          rintro r w4 ⟨s4, rfl, own4⟩
          have HO4 := hid own4
          clear own4 hIn
          dsimp only
          go_wp2
          go_ret
          exact ⟨s4, rfl, ⟨⟨by rw [HM.out]; exact HO4.out.nw.own, fun k hk => Nat.le_trans HB.out.size (HO4.out.nw.new k hk), HB.out.trans HO4.out.nw.ap⟩, by rw [HM.out]; exact HO4.out.len⟩⟩
      · have HM : Hid (mergeE X es u = l) := by
          show mergeE X es u = _
          unfold mergeE
          rw [← HLL.out, if_pos hcv]
        clear hcv
        go_wp2
        go_ret
        have o5 := HO.out.kept HA2.out
        exact ⟨⟨ps, ns, cs⟩, rfl, ⟨⟨by rw [HM.out]; exact o5.nw.own, fun k hk => Nat.le_trans HB.out.size (o5.nw.new k hk), HB.out.trans o5.nw.ap⟩, by rw [HM.out]; exact o5.len⟩⟩
end Go.Proofs.YtokaeiahhmaokaaDoor.ds
namespace Go.Proofs.YtokaeiahhmaokaaDoor.ds
open Go.ChangeShapes Go.WideShapes Go.ChangeAt Go.RowKit Go.Sort
set_option linter.unusedVariables false
set_option linter.unusedSimpArgs false
theorem gR_map (R : E → Wr) (l : List E) (j : Nat) (hj : j < l.length) : gR (l.map R) j = R (gE l j) := by
  unfold gR
  rw [gE_eq _ _ hj, List.getD_eq_getElem?_getD]
  simp [hj]
theorem insE_mem (u t : E) : ∀ l : List E, t ∈ insE u l → t = u ∨ t ∈ l
  | [], h => by simp [insE] at h; exact .inl h
  | x :: l, h => by
    unfold insE at h
    split at h
    · simp at h
      rcases h with h | h | h
      · exact .inl h
      · exact .inr (by simp [h])
      · exact .inr (by simp [h])
    · simp at h
      rcases h with h | h
      · exact .inr (by simp [h])
      · rcases insE_mem u t l h with h | h
        · exact .inl h
        · exact .inr (by simp [h])
theorem mergeE_mem {X : E → List S} {es : List E} {u t : E} (h : t ∈ mergeE X es u) : t = u ∨ t ∈ es := by
  unfold mergeE at h
  split at h
  · exact .inr (List.mem_filter.1 h).1
  · rcases insE_mem u t _ h with h | h
    · exact .inl h
    · exact .inr (List.mem_filter.1 h).1
/-- what Merge leaves -/
structure MgPost (w w' : World) (r : Ending) (R : E → Wr) (e : Int) (l : List E) : Prop where
  ex : ∃ (s : Sl) (fs : List E), r = .returned (.tuple #[s.v, .int .i64 e]) ∧ s.n = l.length ∧ fs.length = l.length ∧ Nw w w' 28 6 s (flatE fs) ∧ ∀ j, j < l.length → Fresh w w' (gE fs j) (R (gE l j))
set_option maxHeartbeats 8000000 in
set_option maxRecDepth 100000 in
theorem merge_ok (hI : InsOk) (w : World) (p : Option Addr) (N cap : Nat) (es : List E) (u : E) (lim : Int) (R : E → Wr) (h : LE w p N es) (hN : N ≤ 1100000) (ok : Sl.ok ⟨p, N, cap⟩) (hR : ∀ t ∈ es, Reads w t (R t)) (hu : Reads w u (R u)) :
    Calls Tryd.prog 18 #[.slice p N cap, u.agg, .int .i64 lim] w fun r w' => MgPost w w' r R (merr (fun t => (R t).xs) es u lim) (mlist (fun t => (R t).xs) es u lim) := by
  have aB : Apart [] w (w.alloc (boxE u)) := (Apart.refl [] w).alloc _
  have HB := hid aB
  have HC := hid (Cap.new w u)
  have HL := hid h
  have HN := hid h.len
  have HR := hid hR
  have HU := hid hu
  have HI := hid hI
  have HOK := hid ok
  have gmem : ∀ k, k < es.length → gE es k ∈ es := fun k hk => by rw [gE_eq _ _ hk]; exact List.getElem_mem hk
  have hAsk : Asks (w.alloc (boxE u)) 48 #[.pointer (some ⟨w.heap.size, 0, none⟩)] es (fun t => !keq t.k u.k) := fun k hk W a => key1_ok (gE es k) u w.heap.size W (HC.out.kept0 a)
  have hK := contains16 (cap := cap) (h.kept0 aB) _ hAsk
  clear h aB hR hu hI ok hAsk
  unfold E.agg
  go_enter Tryd.func18, Tryd.ntmps18
  go_wp2_with fail
  refine hK.mono ?_
  clear hK
  rintro r w1 ⟨rfl, a1⟩
  have HA1 := hid (HB.out.trans a1)
  dsimp only
  cases hk : es.any (fun t => !keq t.k u.k)
  · have HK := hid hk
    have hAsk : Asks w1 49 #[.pointer (some ⟨w.heap.size, 0, none⟩)] es (fun t => deq t u) := fun k hk W a => dot1_ok (gE es k) u w.heap.size W (HC.out.kept0 (a1.trans a))
    have hK2 := contains17 (cap := cap) (HL.out.kept0 HA1.out) _ hAsk
    have HC1 := hid (HC.out.kept0 a1)
    clear hk hAsk a1
    go_wp2_with fail
    refine hK2.mono ?_
    clear hK2
    rintro r w2 ⟨rfl, a2⟩
    have HA2 := hid (HA1.out.trans a2)
    have HC2 := hid (HC1.out.kept0 a2)
    clear a2
    dsimp only
    cases hd : es.any (fun t => deq t u)
    · have HD := hid hd
      clear hd
      have hMg := merged_ok HI.out w2 p N cap es u (fun t => (R t).xs) (HL.out.kept0 HA2.out) hN (fun j hj => ((HR.out _ (gmem j (by rw [HN.out]; exact hj))).kept0 HA2.out).x) (HU.out.kept0 HA2.out).x
      obtain ⟨u0, u1, u2, u3, u4, u5⟩ := row6 HC2.out
      unfold Sl.v at u4 u5
      unfold E.agg Sl.v at hMg
      go_wp2_with fail
      refine hMg.mono ?_
      clear hMg
      rintro r w3 ⟨⟨p4, n4, c4⟩, rfl, own4⟩
      have HO4 := hid own4
      have HA3 := hid (HA2.out.trans own4.nw.ap)
      have hl4 : (mergeE (fun t => (R t).xs) es u).length = n4 := own4.len
      have HL4 := hid hl4
      have hn4 : n4 ≤ 1200000 := by
        have h1 := mergeE_len (fun t => (R t).xs) es u
        rw [hl4, HN.out] at h1
        omega
      clear own4 hl4
      dsimp only
      by_cases hlm : lim < (n4 : Int)
      · go_wp2
        go_ret2
        have e1 : merr (fun t => (R t).xs) es u lim = 51 := by unfold merr; rw [if_neg (by rw [HK.out]; simp), if_neg (by rw [HD.out]; simp), HL4.out, if_pos hlm]
        have e2 : mlist (fun t => (R t).xs) es u lim = [] := by unfold mlist; rw [if_neg (by rw [HK.out]; simp), if_neg (by rw [HD.out]; simp), HL4.out, if_pos hlm]
        rw [e1, e2]
        exact ⟨⟨none, 0, 0⟩, [], rfl, rfl, rfl, ⟨World.ownsRow_nil _ _ _ _, by simp [Sl.v, Value.ownBlock], HA3.out⟩, fun j hj => absurd hj (by simp)⟩
      · have e1 : merr (fun t => (R t).xs) es u lim = 0 := by unfold merr; rw [if_neg (by rw [HK.out]; simp), if_neg (by rw [HD.out]; simp), HL4.out, if_neg hlm]
        have e2 : mlist (fun t => (R t).xs) es u lim = mergeE (fun t => (R t).xs) es u := by unfold mlist; rw [if_neg (by rw [HK.out]; simp), if_neg (by rw [HD.out]; simp), HL4.out, if_neg hlm]
        have HE1 := hid e1
        have HE2 := hid e2
        clear e1 e2
        obtain ⟨l, hl⟩ : ∃ l, l = mergeE (fun t => (R t).xs) es u := ⟨_, rfl⟩
        have HLL := hid hl
        rw [← hl] at HO4 HL4
        have lmem : ∀ j, j < n4 → Reads w3 (gE l j) (R (gE l j)) := fun j hj => by
          have hj2 : j < l.length := by rw [HL4.out]; exact hj
          have hm : gE l j ∈ mergeE (fun t => (R t).xs) es u := by rw [← hl, gE_eq _ _ hj2]; exact List.getElem_mem hj2
          rcases mergeE_mem hm with e | e
          · rw [e]; exact HU.out.kept0 HA3.out
          · exact (HR.out _ e).kept0 HA3.out
        have hCp := copies_ok w3 ⟨p4, n4, c4⟩ n4 l (l.map R) rfl HO4.out.nw.ok (HO4.out.LE (by show n4 ≤ _; omega)) (fun j hj => by rw [gR_map R l j (by rw [HL4.out]; exact hj)]; exact lmem j hj)
        unfold Sl.v at hCp
        clear lmem hl
        go_wp2_with fail
        refine hCp.mono ?_
        clear hCp
        rintro r w5 ⟨s, fs, rfl, hs, hfl, nw, fr⟩
        have HNW := hid nw
        have HFR := hid fr
        clear nw fr
        dsimp only
        go_wp2
        go_ret2
        rw [HE1.out, HE2.out, ← HLL.out]
        exact ⟨s, fs, rfl, by rw [HL4.out]; exact hs, by rw [HL4.out]; exact hfl, ⟨HNW.out.own, fun k hk => Nat.le_trans HA3.out.size (HNW.out.new k hk), HA3.out.trans HNW.out.ap⟩, fun j hj => by
          have := (HFR.out j (by rw [← HL4.out]; exact hj)).from HA3.out
          rwa [gR_map R l j hj] at this⟩
    · have HD := hid hd
      clear hd
      have hCp := copies_ok w2 ⟨p, N, cap⟩ N es (es.map R) rfl HOK.out (HL.out.kept0 HA2.out) (fun j hj => by rw [gR_map R es j (by rw [HN.out]; exact hj)]; exact (HR.out _ (gmem j (by rw [HN.out]; exact hj))).kept0 HA2.out)
      unfold Sl.v at hCp
      go_wp2_with fail
      refine hCp.mono ?_
      clear hCp
      rintro r w3 ⟨s, fs, rfl, hs, hfl, nw, fr⟩
      have HNW := hid nw
      have HFR := hid fr
      clear nw fr
      dsimp only
      go_wp2
      go_ret2
      have e1 : merr (fun t => (R t).xs) es u lim = 0 := by unfold merr; rw [if_neg (by rw [HK.out]; simp), if_pos HD.out]
      have e2 : mlist (fun t => (R t).xs) es u lim = es := by unfold mlist; rw [if_neg (by rw [HK.out]; simp), if_pos HD.out]
      rw [e1, e2]
      exact ⟨s, fs, rfl, by rw [HN.out]; exact hs, by rw [HN.out]; exact hfl, ⟨HNW.out.own, fun k hk => Nat.le_trans HA2.out.size (HNW.out.new k hk), HA2.out.trans HNW.out.ap⟩, fun j hj => by
        have := (HFR.out j (by rw [← HN.out]; exact hj)).from HA2.out
        rwa [gR_map R es j hj] at this⟩
  · go_wp2
    go_ret2
    have e1 : merr (fun t => (R t).xs) es u lim = 50 := by unfold merr; rw [if_pos hk]
    have e2 : mlist (fun t => (R t).xs) es u lim = [] := by unfold mlist; rw [if_pos hk]
    rw [e1, e2]
    exact ⟨⟨none, 0, 0⟩, [], rfl, rfl, rfl, ⟨World.ownsRow_nil _ _ _ _, by simp [Sl.v, Value.ownBlock], HA1.out⟩, fun j hj => absurd hj (by simp)⟩
end Go.Proofs.YtokaeiahhmaokaaDoor.ds
