import Derived.Test.YtokaeiahhmaokaaDoorA28
import Derived.Test.YtokaeiahhmaokaaDoorA7
import Derived.Laws.BytesString
namespace Go.Proofs.YtokaeiahhmaokaaDoor.ds
open Go.ChangeShapes Go.WideShapes Go.ChangeAt Go.RowKit Go.Sort
set_option linter.unusedVariables false
set_option linter.unusedSimpArgs false
theorem neq24 (W : World) (a b : Int) : Sem.run Tryd.prog (binOp BinOp.neq 24 (.agg #[.int .i64 a, .int .i64 b]) (.agg #[.int .i64 a, .int .i64 b])) W = .ok (.bool false) W := by
  have hS : Tryd.prog.underlying 24 = some (.struct (Tryd.prog.fieldsOf 24)) := by kernel_rfl
  have hp : Tryd.prog.stoodInHeld 24 = false := by kernel_rfl
  rw [run_neq_struct, show (10000 : Nat) = 9998 + 1 + 1 from rfl, run_equalIn_agg _ _ _ _ _ hS hp]
  simp only [Program.fieldsOf, Tryd.underlying24]
  simp [go_sem, Tryd.underlying3]
theorem neq38 (W : World) (a b : Int) (c : Int) : Sem.run Tryd.prog (binOp BinOp.neq 80 (.agg #[.int .i64 a, .int .i64 b, .int .u64 c]) (.agg #[.int .i64 a, .int .i64 b, .int .u64 c])) W = .ok (.bool false) W := by
  rw [neq52]; simp
theorem byts_at {w : World} {p : Option Addr} {bs : List Nat} (h : Rd w p (byts bs)) (h0 : 0 < bs.length) : ∃ P o, p = some ⟨P, o, none⟩ ∧ P < w.heap.size ∧ ∀ i (hi : i < bs.length), w.cell? ⟨P, o + i, none⟩ = some (.int .u8 ((bs[i] : Nat) : Int)) := by
  obtain ⟨P, o, e, hP, hc⟩ := h (by simpa [byts] using h0)
  refine ⟨P, o, e, hP, fun i hi => hc i _ ?_⟩
  simp [byts, List.getElem?_eq_getElem hi]
set_option maxHeartbeats 4000000 in
set_option maxRecDepth 100000 in
theorem same_yes (a b : E) (r : Wr) (w : World) (ha : Reads w a r) (hb : Reads w b r) : Calls Tryd.prog 43 #[a.agg, b.agg] w fun q w' => q = .returned (.bool true) ∧ Apart [] w w' := by
  obtain ⟨an, ac, ak, ad, ⟨ap, am, aq⟩, ⟨xp, xm, xq⟩⟩ := a
  obtain ⟨bn, bc, bk, bd, ⟨bp, bm, bq⟩, ⟨yp, ym, yq⟩⟩ := b
  obtain ⟨rn, rc, rk, rd, vs, xs⟩ := r
  obtain ⟨rfl, rfl, rfl, rfl, av, avn, avl, avb, ax, axl, avo, axo⟩ := ha
  obtain ⟨e1, e2, e3, e4, bv, bvn, bvl, bvb, bx, bxl, bvo, bxo⟩ := hb
  simp only at *
  subst e1 e2 e3 e4
  have axn := ax.len
  have bxn := bx.len
  obtain rfl : am = bm := by omega
  obtain rfl : xm = ym := by omega
  have aV : Apart [] w ((w.alloc (boxE ⟨bn, bc, bk, bd, ⟨ap, am, aq⟩, ⟨xp, xm, xq⟩⟩)).alloc (boxE ⟨bn, bc, bk, bd, ⟨bp, am, bq⟩, ⟨yp, xm, yq⟩⟩)) := ((Apart.refl [] w).alloc _).alloc _
  have hbox := box2 w ⟨bn, bc, bk, bd, ⟨ap, am, aq⟩, ⟨xp, xm, xq⟩⟩ ⟨bn, bc, bk, bd, ⟨bp, am, bq⟩, ⟨yp, xm, yq⟩⟩
  have HBX := hid hbox
  have hn24 := fun W => neq24 W bn bc
  have hg := guard24
  have hg2 := guard52
  have hkk : (bk.toList == bk.toList) = true := by simp
  obtain ⟨q1, q2⟩ := hbox _ (Apart.refl _ _)
  obtain ⟨t0, t1, t2, t3, t4, t5⟩ := row6 q1
  obtain ⟨u0, u1, u2, u3, u4, u5⟩ := row6 q2
  unfold Sl.v at t4 t5 u4 u5
  have HAV := hid av
  have HBV := hid bv
  have HAX := hid ax
  have HBX2 := hid bx
  have HVN := hid avn
  have HXN := hid axn
  have HA0 := hid aV
  clear q1 q2 hbox av bv ax bx avn bvn axn bxn aV avo axo bvo bxo avb bvb
  unfold E.agg Sl.v
  go_enter Tryd.func43, Tryd.ntmps43
  go_wp2_with fail
  clear t0 t1 t2 t3 t4 t5 u0 u1 u2 u3 u4 u5
  go_loopw [5] (fun v wr => ∃ i : Nat, v = .int .i64 (i : Nat) ∧ i ≤ am ∧ Apart [] ((w.alloc (boxE ⟨bn, bc, bk, bd, ⟨ap, am, aq⟩, ⟨xp, xm, xq⟩⟩)).alloc (boxE ⟨bn, bc, bk, bd, ⟨bp, am, bq⟩, ⟨yp, xm, yq⟩⟩)) wr) (fun v _ => am - (intOf v).toNat)
  case atStart => exact ⟨0, rfl, Nat.zero_le _, Apart.refl _ _⟩
  case round =>
    obtain ⟨i, rfl, hi, ap1⟩ := hrel
    have HA := hid ap1
    obtain ⟨q1, q2⟩ := HBX.out _ ap1
    obtain ⟨t0, t1, t2, t3, t4, t5⟩ := row6 q1
    obtain ⟨u0, u1, u2, u3, u4, u5⟩ := row6 q2
    unfold Sl.v at t4 t5 u4 u5
    clear q1 q2 ap1 t0 t1 t2 t3 u0 u1 u2 u3
    by_cases hlt : i < am
    · obtain ⟨P, o, rfl, hP, hc⟩ := byts_at (HAV.out.kept0 (HA0.out.trans HA.out)) (by rw [HVN.out]; omega)
      obtain ⟨P2, o2, rfl, hP2, hc2⟩ := byts_at (HBV.out.kept0 (HA0.out.trans HA.out)) (by rw [HVN.out]; omega)
      have c0 := hc i (by rw [HVN.out]; exact hlt)
      have c1 := hc2 i (by rw [HVN.out]; exact hlt)
      generalize vs[i]'(by rw [HVN.out]; exact hlt) = y at *
      clear hc hc2
      go_wp2_with fail
      go_quiet (fail)
      go_wp2
      go_roundw
      case rel => exact ⟨i + 1, by go_num, by omega, HA.out.drewN _⟩
      case measure => simp [intOf]; omega
    · obtain rfl : i = am := by omega
      go_wp2_with fail
      clear t4 t5 u4 u5
      go_loopw [6] (fun v wr => ∃ j : Nat, v = .int .i64 (j : Nat) ∧ j ≤ xm ∧ Apart [] ((w.alloc (boxE ⟨bn, bc, bk, bd, ⟨ap, i, aq⟩, ⟨xp, xm, xq⟩⟩)).alloc (boxE ⟨bn, bc, bk, bd, ⟨bp, i, bq⟩, ⟨yp, xm, yq⟩⟩)) wr) (fun v _ => xm - (intOf v).toNat)
      case atStart => exact ⟨0, rfl, Nat.zero_le _, HA.out⟩
      case round =>
        clear HA
        obtain ⟨j, rfl, hj, ap1⟩ := hrel
        have HA := hid ap1
        obtain ⟨q1, q2⟩ := HBX.out _ ap1
        obtain ⟨t0, t1, t2, t3, t4, t5⟩ := row6 q1
        obtain ⟨u0, u1, u2, u3, u4, u5⟩ := row6 q2
        unfold Sl.v at t4 t5 u4 u5
        clear q1 q2 ap1 t0 t1 t2 t3 u0 u1 u2 u3
        by_cases hlt : j < xm
        · obtain ⟨P, o, rfl, hP, hc⟩ := (HAX.out.kept0 (HA0.out.trans HA.out)).sp (by rw [HXN.out]; omega)
          obtain ⟨P2, o2, rfl, hP2, hc2⟩ := (HBX2.out.kept0 (HA0.out.trans HA.out)).sp (by rw [HXN.out]; omega)
          obtain ⟨c0, c1, c2⟩ := hc j (by rw [HXN.out]; exact hlt)
          obtain ⟨d0, d1, d2⟩ := hc2 j (by rw [HXN.out]; exact hlt)
          have hn38 := fun W => neq38 W (g xs j).n (g xs j).b ((g xs j).t : Int)
          clear hc hc2
          go_wp2_with fail
          go_quiet (fail)
          go_wp2
          go_roundw
          case rel => exact ⟨j + 1, by go_num, by omega, HA.out.drewN _⟩
          case measure => simp [intOf]; omega
        · obtain rfl : j = xm := by omega
          go_wp2
          go_ret
          exact ⟨rfl, HA0.out.trans HA.out⟩
end Go.Proofs.YtokaeiahhmaokaaDoor.ds
namespace Go.Proofs.YtokaeiahhmaokaaDoor.ds
open Go.ChangeShapes Go.WideShapes Go.ChangeAt Go.RowKit
set_option linter.unusedVariables false
set_option linter.unusedSimpArgs false
def strB (bs : List Nat) : ByteArray := (bs.map (fun (b : Nat) => (b : Int))).foldl (fun r n => r.push (UInt8.ofNat n.toNat)) ByteArray.empty
theorem conv_bytes {w : World} {s : Sl} {bs : List Nat} (h : Rd w s.p (byts bs)) (hl : bs.length = s.n) (ok : s.ok) : Sem.run Tryd.prog (convert 25 9 (.slice s.p s.n s.c)) w = .ok (.string (strB bs)) w := by
  rw [run_convert_bytes_string w 25 9 5 _ _ _ Tryd.underlying25 Tryd.underlying5 Tryd.underlying9]
  obtain ⟨p, n, c⟩ := s
  unfold Sl.ok at ok
  simp only at h hl ok ⊢
  have hbl : (byts bs).length = n := by simp [byts, hl]
  cases p with
  | none =>
    obtain ⟨rfl, rfl⟩ := ok rfl
    obtain rfl : bs = [] := List.eq_nil_of_length_eq_zero hl
    simp [Conv.bytesToString, strB]
  | some a =>
    refine run_bytesToString w _ _ _ (bs.map (fun (b : Nat) => (b : Int))) ?_
    have := run_loadCells_list (P := Tryd.prog) w a (byts bs) (fun j v hv => by
      obtain ⟨P, o, e, _, hc⟩ := h (by
        by_cases h0 : 0 < (byts bs).length
        · exact h0
        · rw [List.getElem?_eq_none (by omega)] at hv; cases hv)
      cases e
      rw [Addr.add_lit]; exact hc j v hv)
    rw [hbl] at this
    rw [this]
    simp [byts]
theorem strB_push (bs : List Nat) (r : ByteArray) : ((bs.map (fun (b : Nat) => (b : Int))).foldl (fun r n => r.push (UInt8.ofNat n.toNat)) r).data.toList = r.data.toList ++ bs.map (fun b => UInt8.ofNat b) := by
  induction bs generalizing r with
  | nil => simp
  | cons b bs ih =>
    simp only [List.map_cons, List.foldl_cons]
    rw [ih]
    simp [ByteArray.push]
theorem strB_inj {a b : List Nat} (ha : ∀ x ∈ a, x < 256) (hb : ∀ x ∈ b, x < 256) (h : strB a = strB b) : a = b := by
  have h1 := strB_push a ByteArray.empty
  have h2 := strB_push b ByteArray.empty
  have h3 : (strB a).data.toList = (strB b).data.toList := by rw [h]
  unfold strB at h3
  rw [h1, h2] at h3
  have h3' : a.map (fun b => UInt8.ofNat b) = b.map (fun b => UInt8.ofNat b) := by
    simpa using h3
  clear h h1 h2 h3
  induction a generalizing b with
  | nil => cases b with
    | nil => rfl
    | cons y b => simp at h3'
  | cons x a ih => cases b with
    | nil => simp at h3'
    | cons y b =>
      simp only [List.map_cons, List.cons.injEq] at h3'
      have hx : x < 256 := ha x (by simp)
      have hy : y < 256 := hb y (by simp)
      have e := congrArg UInt8.toNat h3'.1
      simp only [UInt8.toNat_ofNat'] at e
      have e' : x = y := by omega
      rw [e', ih (fun z hz => ha z (by simp [hz])) (fun z hz => hb z (by simp [hz])) h3'.2]
theorem beq_ok (a b : Sl) (xs ys : List Nat) (w : World) (ha : Rd w a.p (byts xs)) (hb : Rd w b.p (byts ys)) (la : xs.length = a.n) (lb : ys.length = b.n) (oa : a.ok) (ob : b.ok) (ba : ∀ x ∈ xs, x < 256) (bb : ∀ x ∈ ys, x < 256) :
    Calls Tryd.prog 76 #[.slice a.p a.n a.c, .slice b.p b.n b.c] w fun r w' => r = .returned (.bool (decide (xs = ys))) ∧ Apart [] w w' := by
  have c1 := conv_bytes ha la oa
  have c2 := conv_bytes hb lb ob
  have e : ((strB xs).toList == (strB ys).toList) = decide (xs = ys) := by
    by_cases h : xs = ys
    · subst h; simp
    · simp [h]
      exact fun e => h (strB_inj ba bb (toList_inj e))
  generalize strB xs = u at *
  generalize strB ys = v at *
  go_enter Tryd.func76, Tryd.ntmps76
  go_wp2
  go_ret
  exact ⟨by simp [e], Apart.refl _ _⟩
end Go.Proofs.YtokaeiahhmaokaaDoor.ds
namespace Go.Proofs.YtokaeiahhmaokaaDoor.ds
open Go.ChangeShapes Go.WideShapes Go.ChangeAt Go.RowKit Go.Sort
set_option linter.unusedVariables false
set_option linter.unusedSimpArgs false
theorem g_ext {xs ys : List S} (hl : xs.length = ys.length) (h : ∀ k, k < xs.length → g xs k = g ys k) : xs = ys := by
  apply List.ext_getElem hl
  intro k h1 h2
  have := h k h1
  unfold g at this
  simpa [List.getD_eq_getElem?_getD, h1, h2] using this
theorem S.ext3 {x y : S} (h : x.n = y.n ∧ x.b = y.b ∧ (x.t : Int) = (y.t : Int)) : x = y := by
  obtain ⟨a, b, c⟩ := x
  obtain ⟨d, e, f⟩ := y
  simp only at h
  obtain ⟨rfl, rfl, h3⟩ := h
  have : c = f := by omega
  subst this; rfl
set_option maxHeartbeats 4000000 in
set_option maxRecDepth 100000 in
theorem seq_ok (a b : Sl) (xs ys : List S) (w : World) (ha : L w a.p a.n xs) (hb : L w b.p b.n ys) (la : a.n ≤ 2000000) (lb : b.n ≤ 2000000) (v : Bool) (hv : v = true ↔ xs = ys) :
    Calls Tryd.prog 77 #[.slice a.p a.n a.c, .slice b.p b.n b.c] w fun r w' => r = .returned (.bool v) ∧ Apart [] w w' := by
  obtain ⟨ap, an, ac⟩ := a
  obtain ⟨bp, bn, bc⟩ := b
  dsimp only at *
  have hxl := ha.len
  have hyl := hb.len
  by_cases hne : an = bn
  · subst hne
    have HAX := hid ha
    have HBX := hid hb
    have HV := hid hv
    have HXN := hid hxl
    have HYN := hid hyl
    have hg := guard52
    clear ha hb hv hxl hyl
    go_enter Tryd.func77, Tryd.ntmps77
    go_wp2_with fail
    go_loopw [13] (fun u wr => ∃ i : Nat, u = .int .i64 (i : Nat) ∧ i ≤ an ∧ (∀ k, k < i → g xs k = g ys k) ∧ Apart [] w wr) (fun u _ => an - (intOf u).toNat)
    case atStart => exact ⟨0, rfl, Nat.zero_le _, fun k hk => absurd hk (by omega), Apart.refl _ _⟩
    case round =>
      obtain ⟨i, rfl, hi, heq, ap1⟩ := hrel
      have HA := hid ap1
      have HE := hid heq
      clear ap1 heq
      by_cases hlt : i < an
      · obtain ⟨P, o, rfl, hP, hc⟩ := (HAX.out.kept0 HA.out).sp (by rw [HXN.out]; omega)
        obtain ⟨P2, o2, rfl, hP2, hc2⟩ := (HBX.out.kept0 HA.out).sp (by rw [HYN.out]; omega)
        obtain ⟨c0, c1, c2⟩ := hc i (by rw [HXN.out]; exact hlt)
        obtain ⟨d0, d1, d2⟩ := hc2 i (by rw [HYN.out]; exact hlt)
        have hn := fun W => neq52 W (g xs i).n (g xs i).b (g ys i).n (g ys i).b ((g xs i).t : Int) ((g ys i).t : Int)
        clear hc hc2
        by_cases hd : g xs i = g ys i
        · have hdd : decide ((g xs i).n = (g ys i).n ∧ (g xs i).b = (g ys i).b ∧ ((g xs i).t : Int) = ((g ys i).t : Int)) = true := by simp [hd]
          rw [hdd] at hn
          have HE2 : Hid (∀ k, k < i + 1 → g xs k = g ys k) := fun k hk => by
            by_cases hki : k < i
            · exact HE.out k hki
            · obtain rfl : k = i := by omega
              exact hd
          clear hd hdd HE
          generalize g xs i = x at *
          generalize g ys i = y at *
          go_wp2_with fail
          go_quiet (fail)
          go_wp2
          go_roundw
          case rel => exact ⟨i + 1, by go_num, by omega, HE2.out, HA.out.drewN _⟩
          case measure => simp [intOf]; omega
        · have hdd : decide ((g xs i).n = (g ys i).n ∧ (g xs i).b = (g ys i).b ∧ ((g xs i).t : Int) = ((g ys i).t : Int)) = false := by
            simp only [decide_eq_false_iff_not]
            exact fun h => hd (S.ext3 h)
          rw [hdd] at hn
          have hvf : v = false := by
            cases hvv : v with
            | false => rfl
            | true => exact absurd (by rw [HV.out.1 hvv]) hd
          subst hvf
          clear hd hdd HE HV
          generalize g xs i = x at *
          generalize g ys i = y at *
          go_wp2_with fail
          go_quiet (fail)
          go_wp2
          go_ret
          exact ⟨rfl, HA.out.drewN _⟩
      · obtain rfl : i = an := by omega
        have hvt : v = true := HV.out.2 (g_ext (by rw [HXN.out, HYN.out]) (fun k hk => HE.out k (by rw [← HXN.out]; exact hk)))
        subst hvt
        go_wp2
        go_ret
        exact ⟨rfl, HA.out⟩
  · have hvf : v = false := by
      cases hvv : v with
      | false => rfl
      | true => exact absurd (by rw [← hxl, ← hyl, hv.1 hvv]) hne
    subst hvf
    have hnz : ¬ ((an : Int) = (bn : Int)) := by omega
    clear ha hb hv hxl hyl
    go_enter Tryd.func77, Tryd.ntmps77
    go_wp2
    go_ret
    exact ⟨rfl, Apart.refl _ _⟩
end Go.Proofs.YtokaeiahhmaokaaDoor.ds
