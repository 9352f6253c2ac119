import Derived.Test.YtddffdcjhleejaaGreatG1
import Derived.Test.YtddffdcjhleejaaGreatG17
namespace Go.Proofs.YtddffdcjhleejaaGreat.ds
open Go.ChangeShapes Go.WideShapes Go.ChangeAt Go.RowKit Go.Sort
set_option linter.unusedVariables false
set_option linter.unusedSimpArgs false
/-- bytes that can be read -/
structure RBs (w : World) (s : Sl) (bs : List Nat) : Prop where
  rd : Rd w s.p (byts bs)
  len : bs.length = s.n
  b8 : ∀ b ∈ bs, b < 256
  ok : s.ok
theorem RBs.kept0 {w w' : World} {s : Sl} {bs : List Nat} (h : RBs w s bs) (a : Apart [] w w') : RBs w' s bs := { h with rd := h.rd.kept0 a }
theorem strB_inj {a b : List Nat} (ha : ∀ x ∈ a, x < 256) (hb : ∀ x ∈ b, x < 256) : strB a = strB b ↔ a = b := by
  constructor
  · intro h
    rw [← bsk_strB ha, h, bsk_strB hb]
  · intro h; rw [h]
set_option maxRecDepth 100000 in
theorem sameBytes_ok {w : World} {s t : Sl} {a b : List Nat} (h1 : RBs w s a) (h2 : RBs w t b) (v : Bool) (hv : v = true ↔ a = b) : Calls Tryz.prog 13 #[.slice s.p s.n s.c, .slice t.p t.n t.c] w fun r w' => r = .returned (.bool v) ∧ w' = w := by
  have c1 := conv_bytes h1.rd h1.len h1.ok
  have c2 := conv_bytes h2.rd h2.len h2.ok
  have HV : Hid (v = ((strB a).toList == (strB b).toList)) := by
    unfold Hid
    rw [Bool.eq_iff_iff, hv, beq_iff_eq, ← strB_inj h1.b8 h2.b8]
    exact ⟨fun h => by rw [h], toList_inj⟩
  clear h1 h2 hv
  generalize strB a = sa at *
  generalize strB b = sb at *
  rw [HV.out]
  go_enter Tryz.func13, Tryz.ntmps13
  go_wp2_with fail
  go_ret
  exact ⟨rfl, rfl⟩
theorem bool_f' {v : Bool} {p : Prop} (h : v = true ↔ p) (hp : ¬ p) : v = false := by
  cases v with
  | false => rfl
  | true => exact absurd (h.1 rfl) hp
theorem g_ext {xs ys : List S} (hl : xs.length = ys.length) (h : ∀ i, i < xs.length → g xs i = g ys i) : xs = ys := by
  apply List.ext_getElem hl
  intro i h1 h2
  have := h i h1
  unfold g at this
  rw [List.getD_eq_getElem?_getD, List.getElem?_eq_getElem h1, List.getD_eq_getElem?_getD, List.getElem?_eq_getElem h2] at this
  exact this
set_option maxHeartbeats 4000000 in
set_option maxRecDepth 100000 in
theorem sameSet_ok {w : World} {p q : Option Addr} {n m c d : Nat} {xs ys : List S} (h1 : L w p n xs) (h2 : L w q m ys) (v : Bool) (hv : v = true ↔ xs = ys) : Calls Tryz.prog 23 #[.slice p n c, .slice q m d] w fun r w' => r = .returned (.bool v) ∧ Apart [] w w' := by
  have HX := hid h1
  have HY := hid h2
  have hl1 := h1.lim
  have hl2 := h2.lim
  have HV := hid hv
  have HN := hid h1.len
  have HM := hid h2.len
  clear h1 h2 hv
  by_cases hnm : n = m
  · have hnmi : ((n : Nat) : Int) = (m : Int) := by omega
    have HE := hid hnm
    clear hnm
    go_enter Tryz.func23, Tryz.ntmps23
    go_wp2_with fail
    go_loopw [5] (fun u wt => ∃ i : Nat, u = .int .i64 (i : Nat) ∧ i ≤ n ∧ Apart [] w wt ∧ ∀ j, j < i → g xs j = g ys j) (fun u _ => n - (intOf u).toNat)
    case atStart => exact ⟨0, rfl, Nat.zero_le _, Apart.refl _ _, fun j hj => absurd hj (by omega)⟩
    case round =>
      obtain ⟨i, rfl, hi, hap, hsm⟩ := hrel
      have HA := hid hap
      have HS := hid hsm
      clear hap hsm
      by_cases hlt : i < n
      · have hlti : ((i : Nat) : Int) < (n : Int) := by omega
        obtain ⟨P, o, hP, hPl, hc⟩ := (HX.out.kept0 HA.out).sp (by rw [HN.out]; omega)
        obtain ⟨P2, o2, hP2, hPl2, hc2⟩ := (HY.out.kept0 HA.out).sp (by rw [HM.out, ← HE.out]; omega)
        subst hP hP2
        obtain ⟨c0, c1, c2⟩ := hc i (by rw [HN.out]; exact hlt)
        obtain ⟨d0, d1, d2⟩ := hc2 i (by rw [HM.out, ← HE.out]; exact hlt)
        clear hc hc2
        obtain ⟨x, Hx⟩ : ∃ x, Hid (x = g xs i) := ⟨_, rfl⟩
        obtain ⟨y, Hy⟩ : ∃ y, Hid (y = g ys i) := ⟨_, rfl⟩
        rw [← Hx.out] at c0 c1 c2
        rw [← Hy.out] at d0 d1 d2
        have hltm : ((i : Nat) : Int) < (m : Int) := by have := HE.out; omega
        by_cases hxy : x = y
        · have HXY : Hid (g xs i = g ys i) := by unfold Hid; rw [← Hx.out, ← Hy.out, hxy]
          rw [← hxy] at d0 d1 d2
          clear hxy
          have HC : Hid (∀ W, Apart [] wr W → (W.cell? ⟨P, o + i * 3, none⟩ = some (.int .i64 x.n) ∧ W.cell? ⟨P, o + i * 3 + 1, none⟩ = some (.int .i64 x.b) ∧ W.cell? ⟨P, o + i * 3 + 2, none⟩ = some (.int .u64 (x.t : Int))) ∧ W.cell? ⟨P2, o2 + i * 3, none⟩ = some (.int .i64 x.n) ∧ W.cell? ⟨P2, o2 + i * 3 + 1, none⟩ = some (.int .i64 x.b) ∧ W.cell? ⟨P2, o2 + i * 3 + 2, none⟩ = some (.int .u64 (x.t : Int))) := fun W aW => ⟨⟨(aW.cell hPl (by simp)).trans c0, (aW.cell hPl (by simp)).trans c1, (aW.cell hPl (by simp)).trans c2⟩, (aW.cell hPl2 (by simp)).trans d0, (aW.cell hPl2 (by simp)).trans d1, (aW.cell hPl2 (by simp)).trans d2⟩
          clear c0 c1 c2 d0 d1 d2
          go_upto_region 6 with fail
          refine wp_region_held_drew (S := fun W => Apart [] wr W) (by kernel_rfl) (Apart.refl [] wr).drew (fun hHeld => ?_)
          generalize wr.drew = wd at *
          refine tkn 0 17 (.slice (some ⟨P, o, none⟩) n c) rfl ?_ ?_
          · intro W hSW; go_simp
          refine tkn 1 18 (.int .i64 (i : Nat)) rfl ?_ ?_
          · intro W hSW; go_simp
          refine tkn 2 19 (.pointer (some ⟨P, o + i * 3, none⟩)) rfl ?_ ?_
          · intro W hSW; go_simp
          refine tkn 3 20 (.pointer (some ⟨P, o + i * 3, none⟩)) rfl ?_ ?_
          · intro W hSW; go_simp
          refine tkn 4 21 (.int .i64 x.n) rfl ?_ ?_
          · intro W hSW; obtain ⟨⟨c0, c1, c2⟩, d0, d1, d2⟩ := HC.out W hSW; go_simp
          refine tkn 5 22 (.slice (some ⟨P2, o2, none⟩) m d) rfl ?_ ?_
          · intro W hSW; go_simp
          refine tkn 6 23 (.int .i64 (i : Nat)) rfl ?_ ?_
          · intro W hSW; go_simp
          refine tkn 7 24 (.pointer (some ⟨P2, o2 + i * 3, none⟩)) rfl ?_ ?_
          · intro W hSW; go_simp
          refine tkn 8 25 (.pointer (some ⟨P2, o2 + i * 3, none⟩)) rfl ?_ ?_
          · intro W hSW; go_simp
          refine tkn 9 26 (.int .i64 x.n) rfl ?_ ?_
          · intro W hSW; obtain ⟨⟨c0, c1, c2⟩, d0, d1, d2⟩ := HC.out W hSW; go_simp
          refine tkn 10 27 (.bool false) rfl ?_ ?_
          · intro W hSW; go_simp
          refine tkn 11 28 (.bool false) rfl ?_ ?_
          · intro W hSW; go_simp
          refine tkn 12 29 (.slice (some ⟨P, o, none⟩) n c) rfl ?_ ?_
          · intro W hSW; go_simp
          refine tkn 13 30 (.int .i64 (i : Nat)) rfl ?_ ?_
          · intro W hSW; go_simp
          refine tkn 14 31 (.pointer (some ⟨P, o + i * 3, none⟩)) rfl ?_ ?_
          · intro W hSW; go_simp
          refine tkn 15 32 (.pointer (some ⟨P, o + i * 3 + 1, none⟩)) rfl ?_ ?_
          · intro W hSW; go_simp
          refine tkn 16 33 (.int .i64 x.b) rfl ?_ ?_
          · intro W hSW; obtain ⟨⟨c0, c1, c2⟩, d0, d1, d2⟩ := HC.out W hSW; go_simp
          refine tkn 17 34 (.slice (some ⟨P2, o2, none⟩) m d) rfl ?_ ?_
          · intro W hSW; go_simp
          refine tkn 18 35 (.int .i64 (i : Nat)) rfl ?_ ?_
          · intro W hSW; go_simp
          refine tkn 19 36 (.pointer (some ⟨P2, o2 + i * 3, none⟩)) rfl ?_ ?_
          · intro W hSW; go_simp
          refine tkn 20 37 (.pointer (some ⟨P2, o2 + i * 3 + 1, none⟩)) rfl ?_ ?_
          · intro W hSW; go_simp
          refine tkn 21 38 (.int .i64 x.b) rfl ?_ ?_
          · intro W hSW; obtain ⟨⟨c0, c1, c2⟩, d0, d1, d2⟩ := HC.out W hSW; go_simp
          refine tkn 22 39 (.bool false) rfl ?_ ?_
          · intro W hSW; go_simp
          refine tkn 23 40 (.bool false) rfl ?_ ?_
          · intro W hSW; go_simp
          refine tkn 24 41 (.bool false) rfl ?_ ?_
          · intro W hSW; go_simp
          refine tkn 25 42 (.slice (some ⟨P, o, none⟩) n c) rfl ?_ ?_
          · intro W hSW; go_simp
          refine tkn 26 43 (.int .i64 (i : Nat)) rfl ?_ ?_
          · intro W hSW; go_simp
          refine tkn 27 44 (.pointer (some ⟨P, o + i * 3, none⟩)) rfl ?_ ?_
          · intro W hSW; go_simp
          refine tkn 28 45 (.pointer (some ⟨P, o + i * 3 + 2, none⟩)) rfl ?_ ?_
          · intro W hSW; go_simp
          refine tkn 29 46 (.int .u64 (x.t : Int)) rfl ?_ ?_
          · intro W hSW; obtain ⟨⟨c0, c1, c2⟩, d0, d1, d2⟩ := HC.out W hSW; go_simp
          refine tkn 30 47 (.slice (some ⟨P2, o2, none⟩) m d) rfl ?_ ?_
          · intro W hSW; go_simp
          refine tkn 31 48 (.int .i64 (i : Nat)) rfl ?_ ?_
          · intro W hSW; go_simp
          refine tkn 32 49 (.pointer (some ⟨P2, o2 + i * 3, none⟩)) rfl ?_ ?_
          · intro W hSW; go_simp
          refine tkn 33 50 (.pointer (some ⟨P2, o2 + i * 3 + 2, none⟩)) rfl ?_ ?_
          · intro W hSW; go_simp
          refine tkn 34 51 (.int .u64 (x.t : Int)) rfl ?_ ?_
          · intro W hSW; obtain ⟨⟨c0, c1, c2⟩, d0, d1, d2⟩ := HC.out W hSW; go_simp
          refine tkn 35 52 (.bool false) rfl ?_ ?_
          · intro W hSW; go_simp
          refine tkn 36 53 (.bool false) rfl ?_ ?_
          · intro W hSW; go_simp
          refine wpAnyH_done (by kernel_rfl) ?_ _
          go_wp2_with fail
          go_roundw
          case rel => exact ⟨i + 1, by go_num, by omega, HA.out.trans hHeld, fun j hj => by
            by_cases hji : j < i
            · exact HS.out j hji
            · obtain rfl : j = i := by omega
              exact HXY.out⟩
          case measure => simp [intOf]; omega
        · have hvv : v = false := bool_f' HV.out (fun h => by apply hxy; rw [Hx.out, Hy.out, h])
          have Hvv := hid hvv
          have hd : x.n ≠ y.n ∨ (x.n = y.n ∧ x.b ≠ y.b) ∨ (x.n = y.n ∧ x.b = y.b ∧ x.t ≠ y.t) := by
            by_cases e1 : x.n = y.n
            · by_cases e2 : x.b = y.b
              · right; right
                refine ⟨e1, e2, fun e3 => hxy ?_⟩
                cases x; cases y; simp_all
              · exact .inr (.inl ⟨e1, e2⟩)
            · exact .inl e1
          clear hxy hvv
          rcases hd with e1 | ⟨e1, e2⟩ | ⟨e1, e2, e3⟩
          · skip
            have HC : Hid (∀ W, Apart [] wr W → (W.cell? ⟨P, o + i * 3, none⟩ = some (.int .i64 x.n) ∧ W.cell? ⟨P, o + i * 3 + 1, none⟩ = some (.int .i64 x.b) ∧ W.cell? ⟨P, o + i * 3 + 2, none⟩ = some (.int .u64 (x.t : Int))) ∧ W.cell? ⟨P2, o2 + i * 3, none⟩ = some (.int .i64 y.n) ∧ W.cell? ⟨P2, o2 + i * 3 + 1, none⟩ = some (.int .i64 y.b) ∧ W.cell? ⟨P2, o2 + i * 3 + 2, none⟩ = some (.int .u64 (y.t : Int))) := fun W aW => ⟨⟨(aW.cell hPl (by simp)).trans c0, (aW.cell hPl (by simp)).trans c1, (aW.cell hPl (by simp)).trans c2⟩, (aW.cell hPl2 (by simp)).trans d0, (aW.cell hPl2 (by simp)).trans d1, (aW.cell hPl2 (by simp)).trans d2⟩
            clear c0 c1 c2 d0 d1 d2
            go_upto_region 6 with fail
            refine wp_region_held_drew (S := fun W => Apart [] wr W) (by kernel_rfl) (Apart.refl [] wr).drew (fun hHeld => ?_)
            generalize wr.drew = wd at *
            refine tkn 0 17 (.slice (some ⟨P, o, none⟩) n c) rfl ?_ ?_
            · intro W hSW; go_simp
            refine tkn 1 18 (.int .i64 (i : Nat)) rfl ?_ ?_
            · intro W hSW; go_simp
            refine tkn 2 19 (.pointer (some ⟨P, o + i * 3, none⟩)) rfl ?_ ?_
            · intro W hSW; go_simp
            refine tkn 3 20 (.pointer (some ⟨P, o + i * 3, none⟩)) rfl ?_ ?_
            · intro W hSW; go_simp
            refine tkn 4 21 (.int .i64 x.n) rfl ?_ ?_
            · intro W hSW; obtain ⟨⟨c0, c1, c2⟩, d0, d1, d2⟩ := HC.out W hSW; go_simp
            refine tkn 5 22 (.slice (some ⟨P2, o2, none⟩) m d) rfl ?_ ?_
            · intro W hSW; go_simp
            refine tkn 6 23 (.int .i64 (i : Nat)) rfl ?_ ?_
            · intro W hSW; go_simp
            refine tkn 7 24 (.pointer (some ⟨P2, o2 + i * 3, none⟩)) rfl ?_ ?_
            · intro W hSW; go_simp
            refine tkn 8 25 (.pointer (some ⟨P2, o2 + i * 3, none⟩)) rfl ?_ ?_
            · intro W hSW; go_simp
            refine tkn 9 26 (.int .i64 y.n) rfl ?_ ?_
            · intro W hSW; obtain ⟨⟨c0, c1, c2⟩, d0, d1, d2⟩ := HC.out W hSW; go_simp
            refine tkn 10 27 (.bool true) rfl ?_ ?_
            · intro W hSW; go_simp
            refine tkn 11 28 (.bool true) rfl ?_ ?_
            · intro W hSW; go_simp
            refine tun 12 29 rfl ?_
            refine tun 13 30 rfl ?_
            refine tun 14 31 rfl ?_
            refine tun 15 32 rfl ?_
            refine tun 16 33 rfl ?_
            refine tun 17 34 rfl ?_
            refine tun 18 35 rfl ?_
            refine tun 19 36 rfl ?_
            refine tun 20 37 rfl ?_
            refine tun 21 38 rfl ?_
            refine tun 22 39 rfl ?_
            refine tkn 23 40 (.bool true) rfl ?_ ?_
            · intro W hSW; go_simp
            refine tkn 24 41 (.bool true) rfl ?_ ?_
            · intro W hSW; go_simp
            refine tun 25 42 rfl ?_
            refine tun 26 43 rfl ?_
            refine tun 27 44 rfl ?_
            refine tun 28 45 rfl ?_
            refine tun 29 46 rfl ?_
            refine tun 30 47 rfl ?_
            refine tun 31 48 rfl ?_
            refine tun 32 49 rfl ?_
            refine tun 33 50 rfl ?_
            refine tun 34 51 rfl ?_
            refine tun 35 52 rfl ?_
            refine tkn 36 53 (.bool true) rfl ?_ ?_
            · intro W hSW; go_simp
            refine wpAnyH_done (by kernel_rfl) ?_ _
            go_wp2_with fail
            go_ret
            exact ⟨by rw [Hvv.out]; rfl, HA.out.trans hHeld⟩
          · rw [← e1] at d0
            clear e1
            have HC : Hid (∀ W, Apart [] wr W → (W.cell? ⟨P, o + i * 3, none⟩ = some (.int .i64 x.n) ∧ W.cell? ⟨P, o + i * 3 + 1, none⟩ = some (.int .i64 x.b) ∧ W.cell? ⟨P, o + i * 3 + 2, none⟩ = some (.int .u64 (x.t : Int))) ∧ W.cell? ⟨P2, o2 + i * 3, none⟩ = some (.int .i64 x.n) ∧ W.cell? ⟨P2, o2 + i * 3 + 1, none⟩ = some (.int .i64 y.b) ∧ W.cell? ⟨P2, o2 + i * 3 + 2, none⟩ = some (.int .u64 (y.t : Int))) := fun W aW => ⟨⟨(aW.cell hPl (by simp)).trans c0, (aW.cell hPl (by simp)).trans c1, (aW.cell hPl (by simp)).trans c2⟩, (aW.cell hPl2 (by simp)).trans d0, (aW.cell hPl2 (by simp)).trans d1, (aW.cell hPl2 (by simp)).trans d2⟩
            clear c0 c1 c2 d0 d1 d2
            go_upto_region 6 with fail
            refine wp_region_held_drew (S := fun W => Apart [] wr W) (by kernel_rfl) (Apart.refl [] wr).drew (fun hHeld => ?_)
            generalize wr.drew = wd at *
            refine tkn 0 17 (.slice (some ⟨P, o, none⟩) n c) rfl ?_ ?_
            · intro W hSW; go_simp
            refine tkn 1 18 (.int .i64 (i : Nat)) rfl ?_ ?_
            · intro W hSW; go_simp
            refine tkn 2 19 (.pointer (some ⟨P, o + i * 3, none⟩)) rfl ?_ ?_
            · intro W hSW; go_simp
            refine tkn 3 20 (.pointer (some ⟨P, o + i * 3, none⟩)) rfl ?_ ?_
            · intro W hSW; go_simp
            refine tkn 4 21 (.int .i64 x.n) rfl ?_ ?_
            · intro W hSW; obtain ⟨⟨c0, c1, c2⟩, d0, d1, d2⟩ := HC.out W hSW; go_simp
            refine tkn 5 22 (.slice (some ⟨P2, o2, none⟩) m d) rfl ?_ ?_
            · intro W hSW; go_simp
            refine tkn 6 23 (.int .i64 (i : Nat)) rfl ?_ ?_
            · intro W hSW; go_simp
            refine tkn 7 24 (.pointer (some ⟨P2, o2 + i * 3, none⟩)) rfl ?_ ?_
            · intro W hSW; go_simp
            refine tkn 8 25 (.pointer (some ⟨P2, o2 + i * 3, none⟩)) rfl ?_ ?_
            · intro W hSW; go_simp
            refine tkn 9 26 (.int .i64 x.n) rfl ?_ ?_
            · intro W hSW; obtain ⟨⟨c0, c1, c2⟩, d0, d1, d2⟩ := HC.out W hSW; go_simp
            refine tkn 10 27 (.bool false) rfl ?_ ?_
            · intro W hSW; go_simp
            refine tkn 11 28 (.bool false) rfl ?_ ?_
            · intro W hSW; go_simp
            refine tkn 12 29 (.slice (some ⟨P, o, none⟩) n c) rfl ?_ ?_
            · intro W hSW; go_simp
            refine tkn 13 30 (.int .i64 (i : Nat)) rfl ?_ ?_
            · intro W hSW; go_simp
            refine tkn 14 31 (.pointer (some ⟨P, o + i * 3, none⟩)) rfl ?_ ?_
            · intro W hSW; go_simp
            refine tkn 15 32 (.pointer (some ⟨P, o + i * 3 + 1, none⟩)) rfl ?_ ?_
            · intro W hSW; go_simp
            refine tkn 16 33 (.int .i64 x.b) rfl ?_ ?_
            · intro W hSW; obtain ⟨⟨c0, c1, c2⟩, d0, d1, d2⟩ := HC.out W hSW; go_simp
            refine tkn 17 34 (.slice (some ⟨P2, o2, none⟩) m d) rfl ?_ ?_
            · intro W hSW; go_simp
            refine tkn 18 35 (.int .i64 (i : Nat)) rfl ?_ ?_
            · intro W hSW; go_simp
            refine tkn 19 36 (.pointer (some ⟨P2, o2 + i * 3, none⟩)) rfl ?_ ?_
            · intro W hSW; go_simp
            refine tkn 20 37 (.pointer (some ⟨P2, o2 + i * 3 + 1, none⟩)) rfl ?_ ?_
            · intro W hSW; go_simp
            refine tkn 21 38 (.int .i64 y.b) rfl ?_ ?_
            · intro W hSW; obtain ⟨⟨c0, c1, c2⟩, d0, d1, d2⟩ := HC.out W hSW; go_simp
            refine tkn 22 39 (.bool true) rfl ?_ ?_
            · intro W hSW; go_simp
            refine tkn 23 40 (.bool true) rfl ?_ ?_
            · intro W hSW; go_simp
            refine tkn 24 41 (.bool true) rfl ?_ ?_
            · intro W hSW; go_simp
            refine tun 25 42 rfl ?_
            refine tun 26 43 rfl ?_
            refine tun 27 44 rfl ?_
            refine tun 28 45 rfl ?_
            refine tun 29 46 rfl ?_
            refine tun 30 47 rfl ?_
            refine tun 31 48 rfl ?_
            refine tun 32 49 rfl ?_
            refine tun 33 50 rfl ?_
            refine tun 34 51 rfl ?_
            refine tun 35 52 rfl ?_
            refine tkn 36 53 (.bool true) rfl ?_ ?_
            · intro W hSW; go_simp
            refine wpAnyH_done (by kernel_rfl) ?_ _
            go_wp2_with fail
            go_ret
            exact ⟨by rw [Hvv.out]; rfl, HA.out.trans hHeld⟩
          · rw [← e1] at d0
            rw [← e2] at d1
            have q5 : ¬ ((x.t : Nat) : Int) = (y.t : Int) := by omega
            clear e1 e2
            have HC : Hid (∀ W, Apart [] wr W → (W.cell? ⟨P, o + i * 3, none⟩ = some (.int .i64 x.n) ∧ W.cell? ⟨P, o + i * 3 + 1, none⟩ = some (.int .i64 x.b) ∧ W.cell? ⟨P, o + i * 3 + 2, none⟩ = some (.int .u64 (x.t : Int))) ∧ W.cell? ⟨P2, o2 + i * 3, none⟩ = some (.int .i64 x.n) ∧ W.cell? ⟨P2, o2 + i * 3 + 1, none⟩ = some (.int .i64 x.b) ∧ W.cell? ⟨P2, o2 + i * 3 + 2, none⟩ = some (.int .u64 (y.t : Int))) := fun W aW => ⟨⟨(aW.cell hPl (by simp)).trans c0, (aW.cell hPl (by simp)).trans c1, (aW.cell hPl (by simp)).trans c2⟩, (aW.cell hPl2 (by simp)).trans d0, (aW.cell hPl2 (by simp)).trans d1, (aW.cell hPl2 (by simp)).trans d2⟩
            clear c0 c1 c2 d0 d1 d2
            go_upto_region 6 with fail
            refine wp_region_held_drew (S := fun W => Apart [] wr W) (by kernel_rfl) (Apart.refl [] wr).drew (fun hHeld => ?_)
            generalize wr.drew = wd at *
            refine tkn 0 17 (.slice (some ⟨P, o, none⟩) n c) rfl ?_ ?_
            · intro W hSW; go_simp
            refine tkn 1 18 (.int .i64 (i : Nat)) rfl ?_ ?_
            · intro W hSW; go_simp
            refine tkn 2 19 (.pointer (some ⟨P, o + i * 3, none⟩)) rfl ?_ ?_
            · intro W hSW; go_simp
            refine tkn 3 20 (.pointer (some ⟨P, o + i * 3, none⟩)) rfl ?_ ?_
            · intro W hSW; go_simp
            refine tkn 4 21 (.int .i64 x.n) rfl ?_ ?_
            · intro W hSW; obtain ⟨⟨c0, c1, c2⟩, d0, d1, d2⟩ := HC.out W hSW; go_simp
            refine tkn 5 22 (.slice (some ⟨P2, o2, none⟩) m d) rfl ?_ ?_
            · intro W hSW; go_simp
            refine tkn 6 23 (.int .i64 (i : Nat)) rfl ?_ ?_
            · intro W hSW; go_simp
            refine tkn 7 24 (.pointer (some ⟨P2, o2 + i * 3, none⟩)) rfl ?_ ?_
            · intro W hSW; go_simp
            refine tkn 8 25 (.pointer (some ⟨P2, o2 + i * 3, none⟩)) rfl ?_ ?_
            · intro W hSW; go_simp
            refine tkn 9 26 (.int .i64 x.n) rfl ?_ ?_
            · intro W hSW; obtain ⟨⟨c0, c1, c2⟩, d0, d1, d2⟩ := HC.out W hSW; go_simp
            refine tkn 10 27 (.bool false) rfl ?_ ?_
            · intro W hSW; go_simp
            refine tkn 11 28 (.bool false) rfl ?_ ?_
            · intro W hSW; go_simp
            refine tkn 12 29 (.slice (some ⟨P, o, none⟩) n c) rfl ?_ ?_
            · intro W hSW; go_simp
            refine tkn 13 30 (.int .i64 (i : Nat)) rfl ?_ ?_
            · intro W hSW; go_simp
            refine tkn 14 31 (.pointer (some ⟨P, o + i * 3, none⟩)) rfl ?_ ?_
            · intro W hSW; go_simp
            refine tkn 15 32 (.pointer (some ⟨P, o + i * 3 + 1, none⟩)) rfl ?_ ?_
            · intro W hSW; go_simp
            refine tkn 16 33 (.int .i64 x.b) rfl ?_ ?_
            · intro W hSW; obtain ⟨⟨c0, c1, c2⟩, d0, d1, d2⟩ := HC.out W hSW; go_simp
            refine tkn 17 34 (.slice (some ⟨P2, o2, none⟩) m d) rfl ?_ ?_
            · intro W hSW; go_simp
            refine tkn 18 35 (.int .i64 (i : Nat)) rfl ?_ ?_
            · intro W hSW; go_simp
            refine tkn 19 36 (.pointer (some ⟨P2, o2 + i * 3, none⟩)) rfl ?_ ?_
            · intro W hSW; go_simp
            refine tkn 20 37 (.pointer (some ⟨P2, o2 + i * 3 + 1, none⟩)) rfl ?_ ?_
            · intro W hSW; go_simp
            refine tkn 21 38 (.int .i64 x.b) rfl ?_ ?_
            · intro W hSW; obtain ⟨⟨c0, c1, c2⟩, d0, d1, d2⟩ := HC.out W hSW; go_simp
            refine tkn 22 39 (.bool false) rfl ?_ ?_
            · intro W hSW; go_simp
            refine tkn 23 40 (.bool false) rfl ?_ ?_
            · intro W hSW; go_simp
            refine tkn 24 41 (.bool false) rfl ?_ ?_
            · intro W hSW; go_simp
            refine tkn 25 42 (.slice (some ⟨P, o, none⟩) n c) rfl ?_ ?_
            · intro W hSW; go_simp
            refine tkn 26 43 (.int .i64 (i : Nat)) rfl ?_ ?_
            · intro W hSW; go_simp
            refine tkn 27 44 (.pointer (some ⟨P, o + i * 3, none⟩)) rfl ?_ ?_
            · intro W hSW; go_simp
            refine tkn 28 45 (.pointer (some ⟨P, o + i * 3 + 2, none⟩)) rfl ?_ ?_
            · intro W hSW; go_simp
            refine tkn 29 46 (.int .u64 (x.t : Int)) rfl ?_ ?_
            · intro W hSW; obtain ⟨⟨c0, c1, c2⟩, d0, d1, d2⟩ := HC.out W hSW; go_simp
            refine tkn 30 47 (.slice (some ⟨P2, o2, none⟩) m d) rfl ?_ ?_
            · intro W hSW; go_simp
            refine tkn 31 48 (.int .i64 (i : Nat)) rfl ?_ ?_
            · intro W hSW; go_simp
            refine tkn 32 49 (.pointer (some ⟨P2, o2 + i * 3, none⟩)) rfl ?_ ?_
            · intro W hSW; go_simp
            refine tkn 33 50 (.pointer (some ⟨P2, o2 + i * 3 + 2, none⟩)) rfl ?_ ?_
            · intro W hSW; go_simp
            refine tkn 34 51 (.int .u64 (y.t : Int)) rfl ?_ ?_
            · intro W hSW; obtain ⟨⟨c0, c1, c2⟩, d0, d1, d2⟩ := HC.out W hSW; go_simp
            refine tkn 35 52 (.bool true) rfl ?_ ?_
            · intro W hSW; go_simp
            refine tkn 36 53 (.bool true) rfl ?_ ?_
            · intro W hSW; go_simp
            refine wpAnyH_done (by kernel_rfl) ?_ _
            go_wp2_with fail
            go_ret
            exact ⟨by rw [Hvv.out]; rfl, HA.out.trans hHeld⟩
      · have hlti : ¬ ((i : Nat) : Int) < (n : Int) := by omega
        have hvv : Hid (v = true) := HV.out.2 (g_ext (by rw [HN.out, HM.out]; exact HE.out) (fun j hj => HS.out j (by rw [HN.out] at hj; omega)))
        go_wp2_with fail
        go_ret
        exact ⟨by rw [hvv.out]; rfl, HA.out⟩
  · have hnmi : ¬ ((n : Nat) : Int) = (m : Int) := by omega
    have hvv : Hid (v = false) := bool_f' HV.out (fun h => by apply hnm; rw [← HN.out, ← HM.out, h])
    go_enter Tryz.func23, Tryz.ntmps23
    go_wp2_with fail
    go_ret
    exact ⟨by rw [hvv.out]; rfl, Apart.refl _ _⟩
end Go.Proofs.YtddffdcjhleejaaGreat.ds
