import Derived.Test.YtmdjjigiipboaaaDoorG2
import Derived.Test.YtmdjjigiipboaaaDoorMs0
namespace Go.Proofs.YtmdjjigiipboaaaDoor.ds
open Go.ChangeShapes Go.WideShapes Go.ChangeAt Go.RowKit
set_option linter.unusedVariables false
set_option linter.unusedSimpArgs false
/-- a walk's row -/
structure Wk (w : World) (Bs : Nat) (p : Option Addr) (n c : Nat) (st k : Int) (en bd : Bool) : Prop where
  row : w.heap[Bs]? = some (.cells #[.slice p n c, .int .i64 st, .int .i64 k, .bool en, .bool bd] 88 (0, 0))
theorem Wk.same {w w' : World} {Bs : Nat} {p : Option Addr} {n c : Nat} {st k : Int} {en bd : Bool} (h : Wk w Bs p n c st k en bd) (e : w'.heap[Bs]? = w.heap[Bs]?) : Wk w' Bs p n c st k en bd := ⟨e.trans h.row⟩
theorem Wk.lt {w : World} {Bs : Nat} {p : Option Addr} {n c : Nat} {st k : Int} {en bd : Bool} (h : Wk w Bs p n c st k en bd) : Bs < w.heap.size := lt_of_heap h.row
structure Wc (w : World) (Bs : Nat) (p : Option Addr) (n c : Nat) (st k : Int) (en bd : Bool) : Prop where
  b0 : w.cell? ⟨Bs, 0, none⟩ = some (.slice p n c)
  b1 : w.cell? ⟨Bs, 1, none⟩ = some (.int .i64 st)
  b2 : w.cell? ⟨Bs, 2, none⟩ = some (.int .i64 k)
  b3 : w.cell? ⟨Bs, 3, none⟩ = some (.bool en)
  b4 : w.cell? ⟨Bs, 4, none⟩ = some (.bool bd)
  f2 : w.frozen? ⟨Bs, 2, none⟩ = false
  f3 : w.frozen? ⟨Bs, 3, none⟩ = false
  f4 : w.frozen? ⟨Bs, 4, none⟩ = false
theorem Wk.cells {w : World} {Bs : Nat} {p : Option Addr} {n c : Nat} {st k : Int} {en bd : Bool} (h : Wk w Bs p n c st k en bd) : Wc w Bs p n c st k en bd := by
  have r := h.row
  refine ⟨?_, ?_, ?_, ?_, ?_, frozen_of_row _ _ _ _ _ r, frozen_of_row _ _ _ _ _ r, frozen_of_row _ _ _ _ _ r⟩ <;> (rw [cell_of_row _ _ _ _ _ _ r]; rfl)
theorem Wk.set2 {w : World} {Bs : Nat} {p : Option Addr} {n c : Nat} {st k : Int} {en bd : Bool} (h : Wk w Bs p n c st k en bd) (k' : Int) : Wk (w.setCell ⟨Bs, 2, none⟩ (.int .i64 k')) Bs p n c st k' en bd := ⟨by simpa using heap_setCell_same w Bs 2 _ 88 (.int .i64 k') h.row⟩
theorem Wk.set3 {w : World} {Bs : Nat} {p : Option Addr} {n c : Nat} {st k : Int} {en bd : Bool} (h : Wk w Bs p n c st k en bd) (e : Bool) : Wk (w.setCell ⟨Bs, 3, none⟩ (.bool e)) Bs p n c st k e bd := ⟨by simpa using heap_setCell_same w Bs 3 _ 88 (.bool e) h.row⟩
theorem Wk.set4 {w : World} {Bs : Nat} {p : Option Addr} {n c : Nat} {st k : Int} {en bd : Bool} (h : Wk w Bs p n c st k en bd) (e : Bool) : Wk (w.setCell ⟨Bs, 4, none⟩ (.bool e)) Bs p n c st k en e := ⟨by simpa using heap_setCell_same w Bs 4 _ 88 (.bool e) h.row⟩
theorem fr_set {w : World} {B j : Nat} (v : Value) : Fr (fun k => ¬ k = B) w (w.setCell ⟨B, j, none⟩ v) := by
  have a : Apart [B] w (w.setCell ⟨B, j, none⟩ v) := (Apart.refl _ _).setCell (by simp) _
  exact ⟨a.os, a.tape, a.output, a.size, fun k hk h => a.block k hk (by simpa using h)⟩
/-- what met answers -/
structure MetP (w w' : World) (r : Ending) (Bs : Nat) (p : Option Addr) (n c : Nat) (st : Int) (k : Nat) (hit en : Bool) : Prop where
  ex : r = .returned (.bool (hit && !en)) ∧ Fr (fun k => ¬ k = Bs) w w' ∧ (hit = true → Wk w' Bs p n c st (k + 1 : Nat) en false) ∧ (hit = false → Wk w' Bs p n c st k true true)
set_option maxHeartbeats 4000000 in
set_option maxRecDepth 100000 in
theorem met_ok {w : World} {Bs : Nat} {p : Option Addr} {n c : Nat} {st : Int} {k : Nat} {ds : List (Int × Int)} (h : Wk w Bs p n c st k false false) (l : LD w p n ds) (hk : k < 300) (hn : n ≤ 300) (hnb : ∀ P o, p = some ⟨P, o, none⟩ → P ≠ Bs) (d : Int × Int) (hit en : Bool) (Hh : Hid (hit = decide (k < n ∧ ds.getD k (0, 0) = d))) (He : Hid (en = (decide ((k : Int) + 1 = st) || decide ((k : Int) + 1 = 300)))) :
    Calls Tryd.prog 79 #[.pointer (some ⟨Bs, 0, none⟩), .agg #[.int .i64 d.1, .int .i64 d.2]] w fun r w' => MetP w w' r Bs p n c st k hit en := by
  obtain ⟨dn, dc⟩ := d
  have kD := fun W => @new1d w (.int .i64 dn) (.int .i64 dc) 35 W
  have aV : Apart [] w (w.alloc (.cells #[.int .i64 dn, .int .i64 dc] 35)) := (Apart.refl _ _).alloc _
  have hV := hid (h.same (aV.block Bs h.lt (by simp)))
  have lV := hid (l.kept0 aV)
  have FV := hid (aV.fr (K := fun k => ¬ k = Bs))
  clear h l
  go_enter Tryd.func79, Tryd.ntmps79
  go_wp2_with fail
  generalize w.alloc (.cells #[.int .i64 dn, .int .i64 dc] 35) = V at *
  obtain ⟨f0, f1⟩ := kD V (Apart.refl _ _)
  clear kD aV
  obtain ⟨b0, b1, b2, b3, b4, z2, z3, z4⟩ := hV.out.cells
  by_cases hkn : k < n
  · obtain ⟨P, o, rfl, hP, hc⟩ := lV.out.at' (by omega)
    obtain ⟨c0, c1⟩ := hc k hkn
    obtain ⟨⟨wn, wc⟩, HX⟩ : ∃ x, Hid (x = ds.getD k (0, 0)) := ⟨_, rfl⟩
    dsimp only at c0 c1
    rw [← HX.out] at c0 c1 Hh
    simp only at c0 c1
    clear hc
    by_cases e1 : wn = dn
    · by_cases e2 : wc = dc
      · have e : hit = true := by rw [Hh.out]; exact decide_eq_true ⟨hkn, by rw [e1, e2]⟩
        subst e
        subst e1 e2
        clear Hh
        have hwk : IntKind.i64.wrap ((k : Int) + 1) = (k : Int) + 1 := by rw [IntKind.wrap_i64]; omega
        go_quiet (fail)
        go_wp2_with fail
        have hU := hid ((hV.out.same (((Apart.refl [] V).drewN nq).block Bs hV.out.lt (by simp))).set2 ((k : Int) + 1))
        have FU := hid ((FV.out.trans ((Apart.refl [] V).drewN nq).fr).trans (fr_set (B := Bs) (j := 2) (.int .i64 ((k : Int) + 1))))
        generalize (V.drewN nq).setCell ⟨Bs, 2, none⟩ (.int .i64 ((k : Int) + 1)) = U at *
        clear b0 b1 b2 b3 b4 z2 z3 z4 hV FV lV c0 c1 f0 f1 hP
        obtain ⟨b0, b1, b2, b3, b4, z2, z3, z4⟩ := hU.out.cells
        have hwk2 : ((k + 1 : Nat) : Int) = (k : Int) + 1 := by omega
        rcases Decidable.em ((k : Int) + 1 = st) with h1 | h1
        · have e : en = true := by rw [He.out, decide_eq_true h1]; rfl
          subst e
          clear He
          have h2 : ((k : Int) + 1 == st) = true := by simp [h1]
          have hN := hid h1
          clear h1
          go_region
          have hX := hid (hU.out.set3 true)
          have FX := hid (FU.out.trans (fr_set (B := Bs) (j := 3) (.bool true)))
          clear b0 b1 b2 b3 b4 z2 z3 z4 hU FU
          generalize U.setCell ⟨Bs, 3, none⟩ (.bool true) = X at *
          obtain ⟨b0, b1, b2, b3, b4, z2, z3, z4⟩ := hX.out.cells
          go_wp2
          go_ret
          exact ⟨rfl, FX.out.trans ((Apart.refl [] X).drew).fr, (fun _ => by rw [hwk2]; exact hX.out.same rfl), (fun h => by cases h)⟩
        · rcases Decidable.em ((k : Int) + 1 = 300) with h3 | h3
          · have e : en = true := by rw [He.out, decide_eq_true h3]; simp
            subst e
            clear He
            have h2 : ((k : Int) + 1 == st) = false := by simp; exact h1
            have h4 : ((k : Int) + 1 == 300) = true := by simp [h3]
            clear h1 h3
            go_region
            have hX := hid (hU.out.set3 true)
            have FX := hid (FU.out.trans (fr_set (B := Bs) (j := 3) (.bool true)))
            clear b0 b1 b2 b3 b4 z2 z3 z4 hU FU
            generalize U.setCell ⟨Bs, 3, none⟩ (.bool true) = X at *
            obtain ⟨b0, b1, b2, b3, b4, z2, z3, z4⟩ := hX.out.cells
            go_wp2
            go_ret
            exact ⟨rfl, FX.out.trans ((Apart.refl [] X).drew).fr, (fun _ => by rw [hwk2]; exact hX.out.same rfl), (fun h => by cases h)⟩
          · have e : en = false := by rw [He.out, decide_eq_false h3, decide_eq_false h1]; rfl
            subst e
            clear He
            have h2 : ((k : Int) + 1 == st) = false := by simp; exact h1
            have h4 : ((k : Int) + 1 == 300) = false := by simp; exact h3
            clear h1 h3
            go_region
            have hX := hid (hU.out.set3 false)
            have FX := hid (FU.out.trans (fr_set (B := Bs) (j := 3) (.bool false)))
            clear b0 b1 b2 b3 b4 z2 z3 z4 hU FU
            generalize U.setCell ⟨Bs, 3, none⟩ (.bool false) = X at *
            obtain ⟨b0, b1, b2, b3, b4, z2, z3, z4⟩ := hX.out.cells
            go_wp2
            go_ret
            exact ⟨rfl, FX.out.trans ((Apart.refl [] X).drew).fr, (fun _ => by rw [hwk2]; exact hX.out.same rfl), (fun h => by cases h)⟩
      · have e : hit = false := by rw [Hh.out]; exact decide_eq_false (fun h => e2 (congrArg Prod.snd h.2))
        subst e
        subst e1
        have e3 : (wc == dc) = false := by simp; exact e2
        clear Hh
        go_quiet (fail)
        go_wp2
        go_ret
        exact ⟨rfl, ((FV.out.trans ((Apart.refl [] V).drewN nq).fr).trans (fr_set _)).trans (fr_set _), (fun h => by cases h), fun _ => ((hV.out.same (((Apart.refl [] V).drewN nq).block Bs hV.out.lt (by simp))).set4 true).set3 true⟩
        all_goals exact absurd (show ¬ n ≤ k ∧ (wc != dc) = false by assumption).2 (by rw [bne, e3]; decide)
    · have e : hit = false := by rw [Hh.out]; exact decide_eq_false (fun h => e1 (congrArg Prod.fst h.2))
      subst e
      have e3 : (wn == dn) = false := by simp; exact e1
      clear Hh
      go_quiet (fail)
      go_wp2
      go_ret
      exact ⟨rfl, ((FV.out.trans ((Apart.refl [] V).drewN nq).fr).trans (fr_set _)).trans (fr_set _), (fun h => by cases h), fun _ => ((hV.out.same (((Apart.refl [] V).drewN nq).block Bs hV.out.lt (by simp))).set4 true).set3 true⟩
  · have e : hit = false := by rw [Hh.out]; exact decide_eq_false (fun h => hkn h.1)
    subst e
    clear Hh
    have hk2 : n ≤ k := by omega
    clear hkn
    go_quiet (fail)
    go_wp2
    go_ret
    exact ⟨rfl, ((FV.out.trans ((Apart.refl [] V).drewN nq).fr).trans (fr_set _)).trans (fr_set _), (fun h => by cases h), fun _ => ((hV.out.same (((Apart.refl [] V).drewN nq).block Bs hV.out.lt (by simp))).set4 true).set3 true⟩
set_option maxHeartbeats 4000000 in
set_option maxRecDepth 100000 in
theorem well_ok {w : World} {Bs : Nat} {p : Option Addr} {n c : Nat} {st : Int} {k : Nat} {en : Bool} (h : Wk w Bs p n c st k en false) (he : en = true ∨ k = n) :
    Calls Tryd.prog 80 #[.pointer (some ⟨Bs, 0, none⟩)] w fun r w' => r = .returned (.bool true) ∧ Apart [] w w' := by
  obtain ⟨b0, b1, b2, b3, b4, z2, z3, z4⟩ := h.cells
  cases en
  · have hk : k = n := by rcases he with h | h
                          · cases h
                          · exact h
    subst hk
    go_enter Tryd.func80, Tryd.ntmps80
    go_wp2_with fail
    go_quiet (fail)
    go_wp2
    go_ret
    exact ⟨rfl, by first | exact (Apart.refl _ _).drew | exact (Apart.refl _ _).drewN _ | exact Apart.refl _ _⟩
  · go_enter Tryd.func80, Tryd.ntmps80
    go_wp2_with fail
    go_quiet (fail)
    go_wp2
    go_ret
    exact ⟨rfl, by first | exact (Apart.refl _ _).drew | exact (Apart.refl _ _).drewN _ | exact Apart.refl _ _⟩
end Go.Proofs.YtmdjjigiipboaaaDoor.ds
