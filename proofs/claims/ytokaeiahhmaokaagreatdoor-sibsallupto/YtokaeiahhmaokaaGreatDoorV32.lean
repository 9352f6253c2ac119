import Derived.Test.YtokaeiahhmaokaaGreatDoorV1
import Derived.Test.YtokaeiahhmaokaaGreatDoorV31
import Derived.Deep.CutRange
namespace Go.Proofs.YtokaeiahhmaokaaGreatDoor.ds
open Go.ChangeShapes Go.WideShapes Go.ChangeAt Go.RowKit Go.Sort
set_option linter.unusedVariables false
set_option linter.unusedSimpArgs false
theorem any_upto (l : List E) (f : E → Bool) (k : Nat) (h : k < l.length) : (l.take (k + 1)).any f = ((l.take k).any f || f (gE l k)) := by
  rw [List.take_add_one, List.any_append, List.getElem?_eq_getElem h, gE_eq l k h]
  simp
set_option maxHeartbeats 16000000 in
set_option maxRecDepth 100000 in
theorem reach_ok (w : World) (p : Option Addr) (n cc : Nat) (F : Nat → Sl × List E × List Wr) (h : Sets w p n F) (hn : n ≤ 1048576) (hT : totL F n ≤ 1500000) (hcl : ∀ i, i ≤ n → (catL F i).length = totL F i) :
    Calls Tryz.prog 37 #[.slice p n cc] w fun r w' => ∃ s : Sl, r = .returned s.v ∧ OwnE w w' s (eachE (catL F n)) := by
  have HS := hid h
  have HCL := hid hcl
  clear h hcl
  go_enter Tryz.func37, Tryz.ntmps37
  go_wp2_with fail
  go_loopw [3, 4] (fun u v wr => ∃ (i : Nat) (s : Sl), u = s.v ∧ v = .int .i64 (i : Nat) ∧ i ≤ n ∧ OwnE w wr s (eachE (catL F i))) (fun _ v _ => n - (intOf v).toNat)
  case atStart => exact ⟨0, ⟨none, 0, 0⟩, rfl, rfl, Nat.zero_le _, OwnE.nil _ _ (Apart.refl _ _)⟩
  case round =>
    obtain ⟨i, s, rfl, rfl, hi, ho⟩ := hrel
    have HO := hid ho
    clear ho
    by_cases hlt : i < n
    · obtain ⟨P, o, rfl, hP, hc⟩ := HS.out (by omega)
      obtain ⟨cc0, hin⟩ := hc i hlt
      have HIN := hid hin
      have HCC := hid cc0
      obtain ⟨t, Ht⟩ : ∃ t, Hid (t = (F i).1) := ⟨_, rfl⟩
      obtain ⟨es, Hes⟩ : ∃ es, Hid (es = (F i).2.1) := ⟨_, rfl⟩
      rw [← Ht.out, ← Hes.out] at HIN
      rw [← Ht.out] at HCC
      have htn := HIN.out.n
      have HPT : Hid (∀ X, Apart [] w X → X.cell? ⟨P, o + i, none⟩ = some (.slice t.p t.n t.c)) := fun X a => (a.cell hP (by simp)).trans HCC.out
      have HEL : Hid (es.length = t.n) := HIN.out.le.len
      have HLB : Hid ((catL F i).length + t.n ≤ 1500000) := by
        have h1 := HCL.out i hi
        have h2 := totL_le F (show i + 1 ≤ n from hlt)
        have h3 : totL F (i + 1) = totL F i + (F i).1.n := rfl
        rw [← Ht.out] at h3
        unfold Hid; omega
      clear hc cc0 hin
      have p0 := HPT.out wr HO.out.nw.ap
      have hiI : ((i : Nat) : Int) < (n : Int) := by omega
      unfold Sl.v
      go_wp2_with fail
      clear p0
      go_loopw [3, 5] (fun u v wr => ∃ (j : Nat) (s : Sl), u = s.v ∧ v = .int .i64 (j : Nat) ∧ j ≤ t.n ∧ OwnE w wr s (eachE (catL F i ++ es.take j))) (fun _ v _ => t.n - (intOf v).toNat)
      case atStart => exact ⟨0, s, rfl, rfl, Nat.zero_le _, by simpa using HO.out⟩
      case round =>
        obtain ⟨j, s, rfl, rfl, hj, ho⟩ := hrel
        clear HO
        have HO := hid ho
        clear ho
        have p0 := HPT.out wr HO.out.nw.ap
        by_cases hlt2 : j < t.n
        · have hjI : ((j : Nat) : Int) < (t.n : Int) := by omega
          obtain ⟨Q, o2, hQ, _, hcs⟩ := (HIN.out.le.kept0 HO.out.nw.ap).at (by omega)
          obtain ⟨k0, k1, k2, k3, k4, k5⟩ := hcs j hlt2
          obtain ⟨x, Hx⟩ : ∃ x, Hid (x = gE es j) := ⟨_, rfl⟩
          rw [← Hx.out] at k0 k1 k2 k3 k4 k5
          unfold Sl.v at k4 k5
          rw [hQ] at p0
          have HO1 := hid (HO.out.kept ((Apart.refl [] wr).alloc (boxE x)))
          have HB1 := hid (heap_alloc_new wr (boxE x))
          have HSN : Hid (eachE (catL F i ++ es.take (j + 1)) = if (eachE (catL F i ++ es.take j)).any (fun q => deq q x) = true then eachE (catL F i ++ es.take j) else insE x (eachE (catL F i ++ es.take j))) := by
            unfold Hid
            have hel := HEL.out
            rw [List.take_add_one, List.getElem?_eq_getElem (by omega), ← gE_eq es j (by omega), ← Hx.out]
            show eachE (catL F i ++ (es.take j ++ [x])) = _
            rw [← List.append_assoc, each_snoc]
          have hol : s.n ≤ 1500000 := by
            have h1 := HO.out.len
            have h2 := each_len _ (catL F i ++ es.take j) rfl
            have h3 := HLB.out
            rw [List.length_append, List.length_take] at h2
            omega
          clear hcs HO
          unfold Sl.v
          go_wp2_with fail
          obtain ⟨W1, hW1⟩ : ∃ W1, wr.alloc (Obj.cells #[Value.int IntKind.i64 x.n, Value.int IntKind.i64 x.c, Value.string x.k, Value.bool x.d, Value.slice x.v.p x.v.n x.v.c, Value.slice x.x.p x.x.n x.x.c] 28) = W1 := ⟨_, rfl⟩
          have hW1' : wr.alloc (boxE x) = W1 := hW1
          rw [hW1'] at HO1 HB1
          rw [hW1]
          obtain ⟨B6, hB6⟩ : ∃ B6, wr.heap.size = B6 := ⟨_, rfl⟩
          rw [hB6] at HB1 ⊢
          clear hW1 hW1' hB6 k0 k1 k2 k3 k4 k5 p0
          generalize eachE (catL F i ++ es.take j) = L at *
          obtain ⟨sp, M, c⟩ := s
          simp only at hol
          dsimp only
          go_loopw [7, 8] (fun u v wr => ∃ k : Nat, u = .bool ((L.take k).any (fun q => deq q x)) ∧ v = .int .i64 (k : Nat) ∧ k ≤ M ∧ Apart [] W1 wr) (fun _ v _ => M - (intOf v).toNat)
          case atStart => exact ⟨0, by simp, rfl, Nat.zero_le _, Apart.refl _ _⟩
          case round =>
            obtain ⟨k, rfl, rfl, hk, ap⟩ := hrel
            have HAP := hid ap
            have HOK := hid (HO1.out.kept ap)
            clear ap
            have hLl := HO1.out.len
            simp only at hLl
            have HLL := hid hLl
            clear hLl
            by_cases hlt3 : k < M
            · obtain ⟨G, rfl⟩ : ∃ G, sp = some ⟨G, 0, none⟩ := by
                obtain ⟨_, ⟨hv, hz'⟩ | ⟨g, cap, cur, hv, _⟩⟩ := HO1.out.nw.own
                · simp only at hz'; omega
                · unfold Sl.v at hv
                  simp at hv
                  exact ⟨g, hv.1⟩
              obtain ⟨y, Hy⟩ : ∃ y, Hid (y = gE L k) := ⟨_, rfl⟩
              have HCY : Hid (∀ X, Apart [] wr X → X.cell? ⟨G, k * 6, none⟩ = some (.int .i64 y.n) ∧ X.cell? ⟨G, k * 6 + 1, none⟩ = some (.int .i64 y.c)) := fun X ax => by
                obtain ⟨a0, a1, _⟩ := (HOK.out.kept ax).cellsAt k hlt3 (k * 6) rfl
                rw [← Hy.out] at a0 a1
                exact ⟨a0, a1⟩
              have HCX : Hid (∀ X, Apart [] wr X → X.cell? ⟨B6, 0, none⟩ = some (.int .i64 x.n) ∧ X.cell? ⟨B6, 1, none⟩ = some (.int .i64 x.c)) := fun X ax => by
                obtain ⟨a0, a1, _⟩ := box9 (((HAP.out.trans ax).block _ (lt_of_heap HB1.out) (by simp)).trans HB1.out)
                exact ⟨a0, a1⟩
              have HQ := hid (fun W => eql24 W y.n y.c x.n x.c)
              have HAN : Hid ((L.take (k + 1)).any (fun q => deq q x) = ((L.take k).any (fun q => deq q x) || deq y x)) := by
                unfold Hid
                rw [any_upto L _ k (by rw [HLL.out]; exact hlt3), Hy.out]
              generalize (L.take k).any (fun q => deq q x) = mt at *
              have hkI : ((k : Nat) : Int) < (M : Int) := by omega
              go_upto_region 13 with fail
              cases mt
              case true =>
                have HAN2 := hid HAN.out
                clear HAN
                simp only [Bool.true_or] at HAN2
                refine wp_region_held_drew (S := fun X => Apart [] wr X) (by kernel_rfl) (Apart.refl [] wr).drew (fun hHeld => ?_)
                generalize wr.drew = wd at *
                refine tk 0 37 (.bool true) rfl ?_ ?_
                · intro W hSW; go_simp
                simp only [Act.put, List.setIfInBounds_toArray, List.set_cons_zero, List.set_cons_succ]
                refine tk 1 38 (.bool true) rfl ?_ ?_
                · intro W hSW; go_simp
                simp only [Act.put, List.setIfInBounds_toArray, List.set_cons_zero, List.set_cons_succ]
                refine tu 2 39 rfl ?_
                simp only [Act.put, List.setIfInBounds_toArray, List.set_cons_zero, List.set_cons_succ]
                refine tu 3 40 rfl ?_
                simp only [Act.put, List.setIfInBounds_toArray, List.set_cons_zero, List.set_cons_succ]
                refine tu 4 41 rfl ?_
                simp only [Act.put, List.setIfInBounds_toArray, List.set_cons_zero, List.set_cons_succ]
                refine tu 5 42 rfl ?_
                simp only [Act.put, List.setIfInBounds_toArray, List.set_cons_zero, List.set_cons_succ]
                refine tu 6 43 rfl ?_
                simp only [Act.put, List.setIfInBounds_toArray, List.set_cons_zero, List.set_cons_succ]
                refine tu 7 44 rfl ?_
                simp only [Act.put, List.setIfInBounds_toArray, List.set_cons_zero, List.set_cons_succ]
                refine tu 8 45 rfl ?_
                simp only [Act.put, List.setIfInBounds_toArray, List.set_cons_zero, List.set_cons_succ]
                refine tu 9 46 rfl ?_
                simp only [Act.put, List.setIfInBounds_toArray, List.set_cons_zero, List.set_cons_succ]
                refine tk 10 47 (.bool true) rfl ?_ ?_
                · intro W hSW; go_simp
                simp only [Act.put, List.setIfInBounds_toArray, List.set_cons_zero, List.set_cons_succ]
                refine tk 11 7 (.bool true) rfl ?_ ?_
                · intro W hSW; go_simp
                simp only [Act.put, List.setIfInBounds_toArray, List.set_cons_zero, List.set_cons_succ]
                refine wpAnyH_done (by kernel_rfl) ?_ _
                go_wp2_with fail
                go_roundw
                case rel => exact ⟨k + 1, by rw [HAN2.out], by go_num, by omega, HAP.out.trans hHeld⟩
                case measure => simp [intOf]; omega
              case false =>
                have HAN2 := hid HAN.out
                clear HAN
                simp only [Bool.false_or] at HAN2
                refine wp_region_held_drew (S := fun X => Apart [] wr X) (by kernel_rfl) (Apart.refl [] wr).drew (fun hHeld => ?_)
                generalize wr.drew = wd at *
                refine tk 0 37 (.bool false) rfl ?_ ?_
                · intro W hSW; go_simp
                simp only [Act.put, List.setIfInBounds_toArray, List.set_cons_zero, List.set_cons_succ]
                refine tk 1 38 (.bool false) rfl ?_ ?_
                · intro W hSW; go_simp
                simp only [Act.put, List.setIfInBounds_toArray, List.set_cons_zero, List.set_cons_succ]
                refine tk 2 39 (.slice (some ⟨G, 0, none⟩) M c) rfl ?_ ?_
                · intro W hSW; go_simp
                simp only [Act.put, List.setIfInBounds_toArray, List.set_cons_zero, List.set_cons_succ]
                refine tk 3 40 (.int .i64 (k : Nat)) rfl ?_ ?_
                · intro W hSW; go_simp
                simp only [Act.put, List.setIfInBounds_toArray, List.set_cons_zero, List.set_cons_succ]
                refine tk 4 41 (.pointer (some ⟨G, k * 6, none⟩)) rfl ?_ ?_
                · intro W hSW; go_simp
                simp only [Act.put, List.setIfInBounds_toArray, List.set_cons_zero, List.set_cons_succ]
                refine tk 5 42 (.pointer (some ⟨G, k * 6, none⟩)) rfl ?_ ?_
                · intro W hSW; go_simp
                simp only [Act.put, List.setIfInBounds_toArray, List.set_cons_zero, List.set_cons_succ]
                refine tk 6 43 (.agg #[.int .i64 y.n, .int .i64 y.c]) rfl ?_ ?_
                · intro W hSW; obtain ⟨i0, i1⟩ := HCY.out W hSW; go_simp
                simp only [Act.put, List.setIfInBounds_toArray, List.set_cons_zero, List.set_cons_succ]
                refine tk 7 44 (.pointer (some ⟨B6, 0, none⟩)) rfl ?_ ?_
                · intro W hSW; go_simp
                simp only [Act.put, List.setIfInBounds_toArray, List.set_cons_zero, List.set_cons_succ]
                refine tk 8 45 (.agg #[.int .i64 x.n, .int .i64 x.c]) rfl ?_ ?_
                · intro W hSW; obtain ⟨i0, i1⟩ := HCX.out W hSW; go_simp
                simp only [Act.put, List.setIfInBounds_toArray, List.set_cons_zero, List.set_cons_succ]
                refine tk 9 46 (.bool (deq y x)) rfl ?_ ?_
                · intro W hSW; have hq := HQ.out W; have hg := guard24; unfold deq; go_simp; by_cases e1 : y.n = x.n <;> by_cases e2 : y.c = x.c <;> simp [e1, e2]
                simp only [Act.put, List.setIfInBounds_toArray, List.set_cons_zero, List.set_cons_succ]
                refine tk 10 47 (.bool (deq y x)) rfl ?_ ?_
                · intro W hSW; go_simp
                simp only [Act.put, List.setIfInBounds_toArray, List.set_cons_zero, List.set_cons_succ]
                refine tk 11 7 (.bool (deq y x)) rfl ?_ ?_
                · intro W hSW; go_simp
                simp only [Act.put, List.setIfInBounds_toArray, List.set_cons_zero, List.set_cons_succ]
                refine wpAnyH_done (by kernel_rfl) ?_ _
                go_wp2_with fail
                go_roundw
                case rel => exact ⟨k + 1, by rw [HAN2.out], by go_num, by omega, HAP.out.trans hHeld⟩
                case measure => simp [intOf]; omega
            · obtain rfl : M = k := by omega
              rw [List.take_of_length_le (by rw [HLL.out]; exact Nat.le_refl _)]
              cases hm : L.any (fun q => deq q x)
              case true =>
                have HOE : Hid (OwnE w wr ⟨sp, M, c⟩ (eachE (catL F i ++ es.take (j + 1)))) := by rw [HSN.out, if_pos hm]; exact HOK.out
                go_wp2_with fail
                go_roundw
                case rel => exact ⟨j + 1, ⟨sp, M, c⟩, rfl, by go_num, by omega, HOE.out⟩
                case measure => simp [intOf]; omega
              case false =>
                have hC := put_ok wr sp M c L x (HOK.out.LE (by simp only; omega)) hol
                obtain ⟨x0, x1, x2, x3, x4, x5⟩ := box9 ((HAP.out.block _ (lt_of_heap HB1.out) (by simp)).trans HB1.out)
                unfold E.agg Sl.v at hC
                go_wp2_with fail
                refine hC.mono ?_
                clear hC x0 x1 x2 x3 x4 x5
                rintro _ w7 ⟨s', rfl, ho7⟩
                have HOE : Hid (OwnE w w7 s' (eachE (catL F i ++ es.take (j + 1)))) := by
                  rw [HSN.out, if_neg (by rw [hm]; simp)]
                  exact ⟨ho7.nw.from HOK.out.nw.ap, ho7.len⟩
                clear ho7
                dsimp only
                go_wp2_with fail
                go_roundw
                case rel => exact ⟨j + 1, s', rfl, by go_num, by omega, HOE.out⟩
                case measure => simp [intOf]; omega
        · obtain rfl : t.n = j := by omega
          have HOE : Hid (OwnE w wr s (eachE (catL F (i + 1)))) := by
            have h1 := HO.out
            rw [List.take_of_length_le (by rw [HEL.out]; exact Nat.le_refl _), Hes.out] at h1
            exact h1
          unfold Sl.v
          go_wp2_with fail
          go_roundw
          case rel => exact ⟨i + 1, s, rfl, by go_num, by omega, HOE.out⟩
          case measure => simp [intOf]; omega
    · obtain rfl : n = i := by omega
      unfold Sl.v
      go_wp2_with fail
      go_ret
      exact ⟨s, rfl, HO.out⟩
end Go.Proofs.YtokaeiahhmaokaaGreatDoor.ds
namespace Go.Proofs.YtokaeiahhmaokaaGreatDoor.ds
open Go.ChangeShapes Go.WideShapes Go.ChangeAt Go.RowKit Go.Sort
set_option linter.unusedVariables false
set_option linter.unusedSimpArgs false
theorem infoL : (Tryz.prog.info? 35).map (fun i => (i.zero, i.size, i.bytes)) = some (some (.slice none 0 0), 1, 24) := by kernel_rfl
def sng (B : Nat) : Value := .slice (some ⟨B, 0, none⟩) 1 1
/-- lists of one write each, in the call's own memory -/
structure Sg (w wr : World) (s : Sl) (Bs : List Nat) (xs : List E) : Prop where
  nw : Nw w wr 35 1 s (Bs.map sng)
  lb : Bs.length = s.n
  lx : xs.length = s.n
  blk : ∀ i, i < s.n → wr.heap[Bs.getD i 0]? = some (boxE (gE xs i))
theorem Sg.kept0 {w wr wr' : World} {s : Sl} {Bs : List Nat} {xs : List E} (h : Sg w wr s Bs xs) (a : Apart [] wr wr') : Sg w wr' s Bs xs := ⟨h.nw.kept a, h.lb, h.lx, fun i hi => (a.block _ (lt_of_heap (h.blk i hi)) (by simp)).trans (h.blk i hi)⟩
theorem Sg.nil (w wr : World) (a : Apart [] w wr) : Sg w wr ⟨none, 0, 0⟩ [] [] := ⟨⟨World.ownsRow_nil _ _ _ _, by simp [Sl.v, Value.ownBlock], a⟩, rfl, rfl, fun i hi => absurd hi (by simp)⟩
theorem Sg.push {w W : World} {s : Sl} {Bs : List Nat} {xs : List E} (h : Sg w W s Bs xs) (hn : s.n ≤ 2000000) (x : E) (ty : TypeId) :
    ∃ s' W', (Builtin.append_ #[22, 22] ty #[s.v, .slice (some ⟨(W.alloc (boxE x)).heap.size, 0, none⟩) 1 1]).run Tryz.prog ((W.alloc (boxE x)).alloc (.cells #[sng W.heap.size] 35)) = .ok (Sl.v s') W' ∧ Sg w W' s' (Bs ++ [W.heap.size]) (xs ++ [x]) ∧ s'.n = s.n + 1 := by
  obtain ⟨i0, hif, hz0, hz1, hz2⟩ := info_parts infoL
  have a1 : Apart [] W (W.alloc (boxE x)) := (Apart.refl [] W).alloc _
  have h1 := h.kept0 a1
  obtain ⟨s', W', hrun, hnw, hsn, ap, _⟩ := run_appM (s := s) 22 ty 35 i0 _ 1 24 Tryz.underlying22 hif hz0 hz1 hz2 rfl (by decide) h1.nw 1 [sng W.heap.size] (by decide) rfl (fun u hu => by simp at hu; rw [hu]; rfl) (by unfold maxLen; omega) (by omega)
  refine ⟨s', W', hrun, ⟨by rw [List.map_append]; exact hnw, by rw [List.length_append, h.lb, hsn]; rfl, by rw [List.length_append, h.lx, hsn]; rfl, fun i hi => ?_⟩, hsn⟩
  have hne : ∀ B (e : E), (W.alloc (boxE x)).heap[B]? = some (boxE e) → B ∉ s.v.ownBlock.toList := fun B e hb m => by
    simp at m
    obtain ⟨cur, hc⟩ := own_typ h1.nw.own m
    rw [hc] at hb
    unfold boxE at hb
    simp at hb
  have hlb := h.lb
  have hlx := h.lx
  by_cases hk : i < s.n
  · have e1 : (Bs ++ [W.heap.size]).getD i 0 = Bs.getD i 0 := by rw [List.getD_eq_getElem?_getD, List.getD_eq_getElem?_getD, List.getElem?_append_left (by omega)]
    have e2 : gE (xs ++ [x]) i = gE xs i := gE_app xs x i (by omega)
    rw [e1, e2]
    have hb := h1.blk i hk
    exact (ap.block _ (lt_of_heap hb) (hne _ _ hb)).trans hb
  · have hi' : i = s.n := by omega
    subst hi'
    have e1 : (Bs ++ [W.heap.size]).getD s.n 0 = W.heap.size := by rw [List.getD_eq_getElem?_getD, ← hlb]; simp
    have e2 : gE (xs ++ [x]) s.n = x := by rw [← hlx]; exact gE_last xs x
    rw [e1, e2]
    have hb := heap_alloc_new W (boxE x)
    exact (ap.block _ (lt_of_heap hb) (hne _ _ hb)).trans hb
def sgF (Bs : List Nat) (xs : List E) (R : E → Wr) (i : Nat) : Sl × List E × List Wr := (⟨some ⟨Bs.getD i 0, 0, none⟩, 1, 1⟩, [gE xs i], [R (gE xs i)])
theorem sg_cat (Bs : List Nat) (xs : List E) (R : E → Wr) : ∀ n, n ≤ xs.length → catL (sgF Bs xs R) n = xs.take n ∧ totL (sgF Bs xs R) n = n
  | 0, _ => ⟨rfl, rfl⟩
  | n + 1, h => by
    obtain ⟨h1, h2⟩ := sg_cat Bs xs R n (by omega)
    refine ⟨?_, ?_⟩
    · show catL (sgF Bs xs R) n ++ [gE xs n] = _
      rw [h1, List.take_add_one, List.getElem?_eq_getElem (by omega), gE_eq xs n (by omega)]; rfl
    · show totL (sgF Bs xs R) n + 1 = _
      rw [h2]
theorem Sg.sets {w wr : World} {s : Sl} {Bs : List Nat} {xs : List E} {R : E → Wr} (h : Sg w wr s Bs xs) (hR : Rdg wr R xs) : Sets wr s.p s.n (sgF Bs xs R) := by
  intro h0
  obtain ⟨P, o, e, hP, hc⟩ := h.nw.rd (by rw [List.length_map, h.lb]; exact h0)
  have hlb := h.lb
  have hlx := h.lx
  refine ⟨P, o, e, hP, fun i hi => ⟨hc i _ ?_, ?_⟩⟩
  · rw [List.getElem?_map, List.getElem?_eq_getElem (by omega)]
    show some (sng Bs[i]) = some (sng (Bs.getD i 0))
    rw [List.getD_eq_getElem?_getD, List.getElem?_eq_getElem (by omega)]; rfl
  · have hb := h.blk i hi
    have hrd := hR.rd (gE xs i) (gE_memE xs i (by omega))
    refine ⟨⟨fun _ => ⟨_, 0, rfl, lt_of_heap hb, fun j u hj => ?_⟩, rfl, by show (1 : Nat) ≤ 2000000; decide⟩, by show (1 : Nat) ≤ 1048576; decide, rfl, fun j hj => ?_, fun e => by cases e⟩
    · unfold boxE at hb
      rw [cell_of_row _ _ _ _ _ _ hb]
      simpa [flatE, E.cs, sgF] using hj
    · have : j = 0 := by simp [sgF] at hj; omega
      subst this
      exact hrd
end Go.Proofs.YtokaeiahhmaokaaGreatDoor.ds
namespace Go.Proofs.YtokaeiahhmaokaaGreatDoor.ds
set_option linter.unusedVariables false
set_option linter.unusedSimpArgs false
/-- whether one of the first writes, the i-th aside, covers the i-th -/
noncomputable def cj (rs : List Wr) (i : Nat) : Nat → Bool
  | 0 => false
  | j + 1 => cj rs i j || (decide (j ≠ i) && cvW (gR rs j) (gR rs i))
theorem cj_iff (rs : List Wr) (i : Nat) : ∀ N, cj rs i N = false ↔ ∀ j, j < N → j ≠ i → cvW (gR rs j) (gR rs i) = false
  | 0 => by simp [cj]
  | N + 1 => by
    unfold cj
    rw [Bool.or_eq_false_iff, cj_iff rs i N]
    constructor
    · rintro ⟨h1, h2⟩ j hj hne
      by_cases hjN : j = N
      · subst hjN; simpa [hne] using h2
      · exact h1 j (by omega) hne
    · intro h
      refine ⟨fun j hj hne => h j (by omega) hne, ?_⟩
      by_cases hN : N = i
      · simp [hN]
      · simp [hN, h N (by omega) hN]
theorem cj_unc (rs : List Wr) (i : Nat) (hi : i < rs.length) (hk : ∀ j, j < rs.length → keq (gR rs j).k (gR rs i).k = true) : cj rs i rs.length = !uncd rs i := by
  have h1 := cj_iff rs i rs.length
  have h2 := uncd_iff rs i hi
  have h3 : (cj rs i rs.length = false) ↔ uncd rs i = true := by
    rw [h1, h2]
    constructor
    · intro h j hj hne
      have := h j hj hne
      unfold cvW at this
      rw [hk j hj] at this
      simpa using this
    · intro h j hj hne
      have := h j hj hne
      unfold cvW
      rw [hk j hj]
      simpa using this
  cases hc : cj rs i rs.length <;> cases hu : uncd rs i <;> simp_all
/-- the writes that no other one covers -/
noncomputable def ouE (es : List E) (rs : List Wr) (N : Nat) : Nat → List E
  | 0 => []
  | i + 1 => if cj rs i N = true then ouE es rs N i else ouE es rs N i ++ [gE es i]
theorem ouE_len (es : List E) (rs : List Wr) (N : Nat) : ∀ i, (ouE es rs N i).length ≤ i
  | 0 => by simp [ouE]
  | i + 1 => by
    have := ouE_len es rs N i
    unfold ouE
    split <;> simp <;> omega
theorem ouE_bU (es : List E) (rs : List Wr) (hk : ∀ i, i < rs.length → ∀ j, j < rs.length → keq (gR rs j).k (gR rs i).k = true) : ∀ m, m ≤ rs.length → ouE es rs rs.length rs.length = ouE es rs rs.length (rs.length - m) ++ (bU es rs rs.length m).reverse
  | 0, _ => by simp [bU]
  | m + 1, h => by
    rw [ouE_bU es rs hk m (by omega)]
    have e : rs.length - m = (rs.length - 1 - m) + 1 := by omega
    have e2 : rs.length - (m + 1) = rs.length - 1 - m := by omega
    rw [e, e2]
    have hc := cj_unc rs (rs.length - 1 - m) (by omega) (hk _ (by omega))
    have u1 : ouE es rs rs.length (rs.length - 1 - m + 1) = if cj rs (rs.length - 1 - m) rs.length = true then ouE es rs rs.length (rs.length - 1 - m) else ouE es rs rs.length (rs.length - 1 - m) ++ [gE es (rs.length - 1 - m)] := rfl
    have u2 : bU es rs rs.length (m + 1) = if uncd rs (rs.length - 1 - m) then bU es rs rs.length m ++ [gE es (rs.length - 1 - m)] else bU es rs rs.length m := rfl
    rw [u1, u2, hc]
    cases hu : uncd rs (rs.length - 1 - m) <;> simp
theorem ouE_all (es : List E) (rs : List Wr) (hk : ∀ i, i < rs.length → ∀ j, j < rs.length → keq (gR rs j).k (gR rs i).k = true) : ouE es rs rs.length rs.length = (bU es rs rs.length rs.length).reverse := by
  rw [ouE_bU es rs hk rs.length (Nat.le_refl _), Nat.sub_self]; rfl
theorem OwnE.from {w0 w w' : World} {s : Sl} {es : List E} (h : OwnE w w' s es) (a : Apart [] w0 w) : OwnE w0 w' s es := ⟨h.nw.from a, h.len⟩
end Go.Proofs.YtokaeiahhmaokaaGreatDoor.ds
