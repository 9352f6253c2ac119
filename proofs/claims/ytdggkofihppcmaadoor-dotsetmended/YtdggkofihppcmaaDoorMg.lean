import Derived.Test.YtdggkofihppcmaaDoorMs0
import Derived.Test.YtdggkofihppcmaaDoorM1
namespace Go.Proofs.YtdggkofihppcmaaDoor.ds
open Go.ChangeShapes Go.WideShapes Go.ChangeAt Go.RowKit
set_option linter.unusedVariables false
set_option linter.unusedSimpArgs false
theorem gath_len8 (F : Nat → S) : ∀ k, (gath F k).length ≤ k
  | 0 => Nat.le_refl _
  | k + 1 => by
    have := gath_len8 F k
    simp only [gath, List.length_append]
    split <;> simp <;> omega
theorem OkL.le8 {s : List S} (h : OkL 64 s) : s.length ≤ 8 := by
  rw [← gath_ofn h (by decide) (by decide)]; exact gath_len8 _ 8
/-- a slice that is nil, or whose address is plain -/
structure Pl (p : Option Addr) (N cap : Nat) : Prop where
  nil : p = none → N = 0 ∧ cap = 0
  sp : ∀ a, p = some a → a.spot = none
theorem pl_nil : Pl none 0 0 := ⟨fun _ => ⟨rfl, rfl⟩, (fun _ e => by cases e)⟩
theorem pl_some (P o N cap : Nat) : Pl (some ⟨P, o, none⟩) N cap := ⟨(fun e => by cases e), (fun a e => by cases e; rfl)⟩
structure AsP2 (w w' : World) (r : Ending) (xs : List S) : Prop where
  ex : ∃ p N cap, r = .returned (.slice p N cap) ∧ L w' p N (norm xs) ∧ Pl p N cap ∧ Apart [] w w'
theorem asSet_pl {p : Option Addr} {N cap : Nat} {xs : List S} {w : World} (h : L w p N xs) (hp : Pl p N cap) : Calls Tryd.prog 41 #[.slice p N cap] w fun r w' => AsP2 w w' r xs := by
  by_cases k : OkL 64 xs
  · go_enter Tryd.func41, Tryd.ntmps41
    go_wp2_with (go_at_call 48; refine (isSet_yes h k).mono ?_; rintro r w1 ⟨rfl, a1⟩)
    go_ret
    exact ⟨p, N, cap, rfl, by rw [norm_of k]; exact h.kept0 a1, hp, a1⟩
  · go_enter Tryd.func41, Tryd.ntmps41
    go_wp2_with (go_at_call 48; refine (isSet_no h k).mono ?_; rintro r w1 ⟨rfl, a1⟩)
    go_ret
    exact ⟨none, 0, 0, rfl, by rw [norm_no k]; exact L.nil _ _, pl_nil, a1⟩
/-- a copy of a set's list -/
structure ClP (w w' : World) (r : Ending) (xs : List S) : Prop where
  ex : ∃ p n c, r = .returned (.slice p n c) ∧ L w' p n xs ∧ (∀ P o, p = some ⟨P, o, none⟩ → w.heap.size ≤ P ∧ P < w'.heap.size) ∧ Apart [] w w'
theorem clone_any {w : World} {p : Option Addr} {N cap : Nat} {xs : List S} (h : L w p N xs) (k : OkL 64 xs) (hp : Pl p N cap) : Calls Tryd.prog 59 #[.slice p N cap] w fun r w' => ClP w w' r xs := by
  cases p with
  | none =>
    obtain ⟨rfl, rfl⟩ := hp.nil rfl
    refine (clone_nil w).mono ?_
    rintro r w' ⟨rfl, rfl⟩
    exact ⟨none, 0, 0, rfl, h, (fun _ _ e => by cases e), Apart.refl _ _⟩
  | some a =>
    obtain ⟨P, o, sp⟩ := a
    obtain rfl : sp = none := hp.sp _ rfl
    refine (clone_some w P o N cap xs h.sp h.len (by have h1 := k.le8; have h2 := h.len; omega)).mono ?_
    rintro r w' ⟨G, c, rfl, own⟩
    refine ⟨some ⟨G, 0, none⟩, N, c, rfl, own.L h.lim h.fit, fun P o e => ?_, own.ap⟩
    have : G = P := by injection e with e1; injection e1
    rw [← this]; exact ⟨own.new G rfl, (own.own.lt G rfl).2⟩
/-- what Missing answers -/
structure MisP (w w' : World) (r : Ending) (xs ys : List S) : Prop where
  ex : ∃ BA BB pa na ca pb nb cb, r = .returned (.func (.func 60) #[] #[.pointer (some ⟨BA, 0, none⟩), .pointer (some ⟨BB, 0, none⟩)]) ∧ w.heap.size ≤ BA ∧ w.heap.size ≤ BB ∧
    w'.cell? ⟨BA, 0, none⟩ = some (.slice pa na ca) ∧ w'.cell? ⟨BB, 0, none⟩ = some (.slice pb nb cb) ∧ L w' pa na (norm xs) ∧ L w' pb nb (norm ys) ∧ (∀ P o, pa = some ⟨P, o, none⟩ → w.heap.size ≤ P ∧ P < w'.heap.size) ∧ (∀ P o, pb = some ⟨P, o, none⟩ → w.heap.size ≤ P ∧ P < w'.heap.size) ∧ Apart [] w w'
set_option maxRecDepth 100000 in
set_option maxHeartbeats 4000000 in
theorem missing_ok (w : World) (pa pb : Option Addr) (na ca nb cb : Nat) (xs ys : List S) (la : L w pa na xs) (lb : L w pb nb ys) (qa : Pl pa na ca) (qb : Pl pb nb cb) : Calls Tryd.prog 37 #[.slice pa na ca, .slice pb nb cb] w fun r w' => MisP w w' r xs ys := by
  have aV : Apart [] w ((w.alloc (.cells #[.slice pa na ca] 22)).alloc (.cells #[.slice pb nb cb] 22)) := ((Apart.refl _ _).alloc _).alloc _
  have LA := hid (la.kept0 aV)
  have LB := hid (lb.kept0 aV)
  have QA := hid qa
  have QB := hid qb
  have R0 : ((w.alloc (.cells #[.slice pa na ca] 22)).alloc (.cells #[.slice pb nb cb] 22)).heap[w.heap.size]? = some (.cells #[.slice pa na ca] 22 (0, 0)) := by
    rw [((Apart.refl [] (w.alloc (.cells #[.slice pa na ca] 22))).alloc (.cells #[.slice pb nb cb] 22)).block w.heap.size (by simp) (by simp)]
    rw [World.alloc.eq_1]; simp
  have R1 : ((w.alloc (.cells #[.slice pa na ca] 22)).alloc (.cells #[.slice pb nb cb] 22)).heap[w.heap.size + 1]? = some (.cells #[.slice pb nb cb] 22 (0, 0)) := by
    have := World.alloc_heap_new (w.alloc (.cells #[.slice pa na ca] 22)) (.cells #[.slice pb nb cb] 22)
    rwa [World.size_alloc] at this
  clear la lb qa qb
  go_enter Tryd.func37, Tryd.ntmps37
  go_wp2
  obtain ⟨V, hV⟩ : ∃ V, (w.alloc (.cells #[.slice pa na ca] 22)).alloc (.cells #[.slice pb nb cb] 22) = V := ⟨_, rfl⟩
  obtain ⟨B, hB⟩ : ∃ B, w.heap.size = B := ⟨_, rfl⟩
  rw [hV] at aV LA LB R0 R1 ⊢
  rw [hB] at R0 R1 ⊢
  have HBB := hid hB
  have HR0 := hid R0
  have HR1 := hid R1
  have AV := hid aV
  have v0 : V.cell? ⟨B, 0, none⟩ = some (.slice pa na ca) := by rw [cell_of_row _ _ _ _ _ _ R0]; rfl
  have v1 : V.cell? ⟨B + 1, 0, none⟩ = some (.slice pb nb cb) := by rw [cell_of_row _ _ _ _ _ _ R1]; rfl
  clear hV hB aV R0 R1
  go_region_with (first
    | (go_at_call 41; refine (asSet_pl (LA.out.kept0 ((Apart.refl [] V).drewN 1)) QA.out).mono ?_; rintro r w1 ⟨⟨p1, n1, c1, rfl, l1, q1, a1⟩⟩; have A1 : Apart [] V w1 := ((Apart.refl [] V).drewN 1).trans a1; have L1 := hid l1; have Q1 := hid q1; have g1 := A1.keep v1; clear a1 l1 q1)
    | (go_at_call 59; refine (clone_any L1.out (norm_ok xs) Q1.out).mono ?_; clear L1; rintro r w2 ⟨⟨p2, n2, c2, rfl, l2, h2, a2⟩⟩; have A2 : Apart [] V w2 := A1.trans a2; have L2 := hid l2; have H2 := hid h2; have g2 := A2.keep v1; clear l2 h2 a2)
    | (go_at_call 41; refine (asSet_pl (LB.out.kept0 A2) QB.out).mono ?_; rintro r w3 ⟨⟨p3, n3, c3, rfl, l3, q3, a3⟩⟩; have L3 := hid l3; have Q3 := hid q3; have A3 := hid a3; clear l3 q3 a3)
    | (go_at_call 59; refine (clone_any L3.out (norm_ok ys) Q3.out).mono ?_; rintro r w4 ⟨⟨p4, n4, c4, rfl, l4, h4, a4⟩⟩; have A24 : Apart [] w2 w4 := A3.out.trans a4; have A4 : Apart [] V w4 := A2.trans A24; have L4 := hid l4; have H4 := hid h4; have g4 := A4.keep v0; have g5 := A4.keep v1; have R4 : w4.heap[B]? = some (.cells #[.slice pa na ca] 22 (0, 0)) := (A4.block B (lt_of_heap HR0.out) (by simp)).trans HR0.out; have R5 : w4.heap[B + 1]? = some (.cells #[.slice pb nb cb] 22 (0, 0)) := (A4.block (B + 1) (lt_of_heap HR1.out) (by simp)).trans HR1.out; have f4 := frozen_of_row w4 B 0 _ _ R4; have f5 := frozen_of_row w4 (B + 1) 0 _ _ R5; have HR4 := hid R4; have HR5 := hid R5; have HA4 := hid a4; clear R4 R5 l4 h4 a4))
  all_goals go_wp2
  all_goals
    go_ret
    have hb1 := lt_of_heap HR1.out
    have s1 := A1.size
    have s2 := A2.size
    have sV := AV.out.size
    have s3 : w2.heap.size ≤ w3.heap.size := A3.out.size
    have hw := HBB.out
    have aS : Apart [B, B + 1] w4 ((w4.setCell ⟨B, 0, none⟩ (.slice p2 n2 c2)).setCell ⟨B + 1, 0, none⟩ (.slice p4 n4 c4)) := ((Apart.refl _ _).setCell (by simp) _).setCell (by simp) _
    have q0 : ((w4.setCell ⟨B, 0, none⟩ (.slice p2 n2 c2)).setCell ⟨B + 1, 0, none⟩ (.slice p4 n4 c4)).cell? ⟨B, 0, none⟩ = some (.slice p2 n2 c2) := by
      rw [World.cell?_setCell_other _ _ _ _ (by intro e; have := congrArg Addr.block e; simp at this)]
      exact World.cell?_setCell_same' _ _ _ (by rw [g4]; rfl)
    have q1 : ((w4.setCell ⟨B, 0, none⟩ (.slice p2 n2 c2)).setCell ⟨B + 1, 0, none⟩ (.slice p4 n4 c4)).cell? ⟨B + 1, 0, none⟩ = some (.slice p4 n4 c4) := by
      refine World.cell?_setCell_same' _ _ _ ?_
      rw [World.cell?_setCell_other _ _ _ _ (by intro e; have := congrArg Addr.block e; simp at this), g5]; rfl
    have l2 := (L2.out.kept0 A24).kept aS (fun P o e hm => by
      have := H2.out P o e
      simp at hm; omega)
    have l4 := L4.out.kept aS (fun P o e hm => by
      have := H4.out P o e
      simp at hm; omega)
    refine ⟨B, B + 1, p2, n2, c2, p4, n4, c4, rfl, by omega, by omega, q0, q1, l2, l4, fun P o e => by have := H2.out P o e; have := A24.size; have := aS.size; omega, fun P o e => by have := H4.out P o e; have := aS.size; omega, ?_⟩
    exact ((AV.out.trans A4).setCell (.inr (by show w.heap.size ≤ B; omega)) _).setCell (.inr (by show w.heap.size ≤ B + 1; omega)) _
end Go.Proofs.YtdggkofihppcmaaDoor.ds
