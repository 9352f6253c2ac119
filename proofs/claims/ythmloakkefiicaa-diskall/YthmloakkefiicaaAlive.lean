import Derived.Test.YthmloakkefiicaaPlays
namespace Go.Proofs.Ythmloakkefiicaa.dk
open Go.ChangeShapes Go.WideShapes Go.ChangeAt Go.RowKit
set_option linter.unusedVariables false
set_option linter.unusedSimpArgs false
theorem made_yes (w : World) (n : Nat) (h1 : 1 ≤ n) (h2 : n ≤ 4096) : Calls Try.prog 31 #[.int .i64 n] w fun r w' => ∃ P x who, r = .returned (.tuple #[.pointer (some ⟨P, 0, none⟩), .bool true]) ∧ NewP w w' P x who := by
  refine (made_good w n h1 h2).mono ?_
  rintro r w' ⟨P, D, R, S, rfl, hp, hd, hr, a, _, q1, q2, q3, q4⟩
  obtain ⟨x, who, p, b, _, _, ed, er, nw⟩ := pr_fresh hp.row hd hr (Rel.fresh n) h1
  refine ⟨P, x, who, rfl, p, b, by rw [ed]; rfl, by rw [ed]; rfl, fun k s hk => ?_, a⟩
  rcases nw k s hk with rfl | rfl | rfl | rfl | h1
  · exact q1
  · exact q2
  · exact q4
  · exact q3
  · simp [Value.ownBlock] at h1
def aops (g1 c1 g2 c2 : Nat) (i : Nat) : OpD :=
  match i with
  | 0 => ⟨2, 0, 1, 5, none, 0, 0, []⟩
  | 1 => ⟨1, 0, 1, 0, some ⟨g1, 0, none⟩, 512, c1, rep 512 65⟩
  | 2 => ⟨1, 0, 1, 0, some ⟨g2, 0, none⟩, 512, c2, rep 512 66⟩
  | 3 => ⟨6, 0, 0, 0, none, 0, 0, []⟩
  | 4 => ⟨4, 0, 0, 0, none, 0, 0, []⟩
  | 5 => ⟨5, 0, 1, 0, none, 0, 0, []⟩
  | 6 => ⟨7, 0, 0, 0, none, 0, 0, []⟩
  | 7 => ⟨8, 0, 0, 0, none, 0, 0, []⟩
  | 8 => ⟨9, 0, 0, 0, none, 0, 0, []⟩
  | _ => ⟨10, 0, 0, 0, none, 0, 0, []⟩
def acells (g1 c1 g2 c2 : Nat) : Array Value := #[.int .i64 2, .int .i64 0, .int .i64 1, .int .i64 5, .slice none 0 0, .int .i64 1, .int .i64 0, .int .i64 1, .int .i64 0, .slice (some ⟨g1, 0, none⟩) 512 c1, .int .i64 1, .int .i64 0, .int .i64 1, .int .i64 0, .slice (some ⟨g2, 0, none⟩) 512 c2, .int .i64 6, .int .i64 0, .int .i64 0, .int .i64 0, .slice none 0 0, .int .i64 4, .int .i64 0, .int .i64 0, .int .i64 0, .slice none 0 0,
  .int .i64 5, .int .i64 0, .int .i64 1, .int .i64 0, .slice none 0 0, .int .i64 7, .int .i64 0, .int .i64 0, .int .i64 0, .slice none 0 0, .int .i64 8, .int .i64 0, .int .i64 0, .int .i64 0, .slice none 0 0, .int .i64 9, .int .i64 0, .int .i64 0, .int .i64 0, .slice none 0 0, .int .i64 10, .int .i64 0, .int .i64 0, .int .i64 0, .slice none 0 0]
theorem opB_nil (w : World) (who : Nat → Option Nat) : OpB w who none 0 0 [] := ⟨⟨rfl, fun h => absurd h (by decide)⟩, fun _ => ⟨rfl, rfl⟩, by decide, fun h => absurd h (by decide)⟩
theorem opB_bytes {w w' : World} {who : Nat → Option Nat} {g c : Nat} {v : Value} {bs : List Int} (h : Bytes w v g c bs) (hl : bs.length = 512) (a : Apart [] w w') (hw : who g = none) : OpB w' who (some ⟨g, 0, none⟩) 512 c bs :=
  ⟨((h.lent 512 hl).kept a (by simp)).src, (fun e => by cases e), by decide, fun _ k o hp => by
    have : g = k := by injection hp with h1; injection h1
    rw [← this]; exact hw⟩
theorem lt10 {i : Nat} (h : i < 10) : i = 0 ∨ i = 1 ∨ i = 2 ∨ i = 3 ∨ i = 4 ∨ i = 5 ∨ i = 6 ∨ i = 7 ∨ i = 8 ∨ i = 9 := by omega
theorem asc {w : World} {who : Nat → Option Nat} {g1 c1 g2 c2 : Nat} (hw : who w.heap.size = none) (h1 : OpB (w.alloc (.cells (acells g1 c1 g2 c2) 58)) who (some ⟨g1, 0, none⟩) 512 c1 (rep 512 65)) (h2 : OpB (w.alloc (.cells (acells g1 c1 g2 c2) 58)) who (some ⟨g2, 0, none⟩) 512 c2 (rep 512 66)) :
    Sc (w.alloc (.cells (acells g1 c1 g2 c2) 58)) who (some ⟨w.heap.size, 0, none⟩) 10 (aops g1 c1 g2 c2) := by
  have ob : ∀ i, i < 10 → OpB (w.alloc (.cells (acells g1 c1 g2 c2) 58)) who (aops g1 c1 g2 c2 i).p (aops g1 c1 g2 c2 i).l (aops g1 c1 g2 c2 i).c (aops g1 c1 g2 c2 i).bs := by
    intro i hi
    rcases lt10 hi with rfl | rfl | rfl | rfl | rfl | rfl | rfl | rfl | rfl | rfl
    · exact opB_nil _ _
    · exact h1
    · exact h2
    · exact opB_nil _ _
    · exact opB_nil _ _
    · exact opB_nil _ _
    · exact opB_nil _ _
    · exact opB_nil _ _
    · exact opB_nil _ _
    · exact opB_nil _ _
  have hc : ∀ k, (w.alloc (.cells (acells g1 c1 g2 c2) 58)).cell? ⟨w.heap.size, k, none⟩ = (acells g1 c1 g2 c2)[k]? := fun k => cell_of_row _ _ _ _ _ _ (new_row w _)
  refine ⟨fun _ => ⟨w.heap.size, 0, rfl, by simp, hw, fun i hi => ?_⟩, ob⟩
  have hob := ob i hi
  rcases lt10 hi with rfl | rfl | rfl | rfl | rfl | rfl | rfl | rfl | rfl | rfl <;>
    exact ⟨by rw [hc]; rfl, by rw [hc]; rfl, by rw [hc]; rfl, by rw [hc]; rfl, by rw [hc]; rfl, hob.src, hob.nil, by have := hob.le; unfold maxLen; omega, by simp [aops]⟩
theorem Apart.trans' {w0 w w' : World} {K : Nat → Prop} (a : Apart [] w0 w) (f : Fr K w w') (hK : ∀ k, k < w0.heap.size → K k) : Apart [] w0 w' :=
  ⟨f.os.trans a.os, f.tape.trans a.tape, f.output.trans a.output, Nat.le_trans a.size f.size, fun k hk _ => (f.block k (Nat.lt_of_lt_of_le hk a.size) (hK k hk)).trans (a.block k hk (by simp))⟩
set_option maxHeartbeats 4000000 in
set_option maxRecDepth 100000 in
theorem alive_ok (w : World) : Calls Try.prog 30 #[] w fun r w' => r = .returned (.bool true) ∧ Apart [] w w' := by
  go_enter Try.func30, Try.ntmps30
  go_wp2_with fail
  refine (made_yes w 2 (by decide) (by decide)).mono ?_
  rintro r w1 ⟨P, x, who, rfl, np⟩
  dsimp only
  have NP := hid np
  clear np
  go_wp2_with fail
  refine (full_sl w1 65).mono ?_
  rintro r w2 ⟨g1, cap1, rfl, hb1, hg1, a1⟩
  dsimp only
  have HB1 := hid hb1
  have A1 := hid a1
  clear hb1 a1
  go_wp2_with fail
  refine (full_sl w2 66).mono ?_
  rintro r w3 ⟨g2, cap2, rfl, hb2, hg2, a2⟩
  dsimp only
  have HB2 := hid hb2
  have A2 := hid a2
  clear hb2 a2
  go_wp2_with fail
  have hno : Hid (∀ g, w1.heap.size ≤ g → who g = none) := fun g hg => by
    cases hw : who g with
    | none => rfl
    | some s => have := NP.out.pr.own g s hw; omega
  have aV : Apart [] w3 (w3.alloc (.cells (acells g1 cap1 g2 cap2) 58)) := (Apart.refl _ _).alloc _
  have s12 := A1.out.size
  have s23 := A2.out.size
  have hsc := asc (w := w3) (who := who) (g1 := g1) (c1 := cap1) (g2 := g2) (c2 := cap2) (hno.out _ (by omega)) (opB_bytes HB1.out (by simp [rep]) (A2.out.trans aV) (hno.out _ hg1)) (opB_bytes HB2.out (by simp [rep]) aV (hno.out _ (by omega)))
  have HPL := hid (plays_ok (cap := 10) (NP.out.pr.kept0 ((A1.out.trans A2.out).trans aV)) NP.out.bk hsc (by decide) 5 11 (by decide) (by decide))
  have AV := hid (NP.out.ap.trans ((A1.out.trans A2.out).trans aV))
  have hnw := hid NP.out.nw
  clear hsc aV hno
  unfold acells at HPL AV
  generalize w3.alloc _ = V at *
  refine HPL.out.mono ?_
  rintro r w4 ⟨rfl, st⟩
  dsimp only
  have A4 : Hid (Apart [] w w4) := by
    have f := st.fr
    refine AV.out.trans' f (fun k hk => ?_)
    cases hw : who k with
    | none => exact ⟨rfl, by simp⟩
    | some s => have := hnw.out k s hw; omega
  clear st
  go_wp2_with fail
  go_ret
  exact ⟨rfl, A4.out⟩
end Go.Proofs.Ythmloakkefiicaa.dk
