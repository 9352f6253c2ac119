import Derived.Test.YtiakcfjbnlibfaaN24
namespace Go.Proofs.Ytiakcfjbnlibfaa.nt
open Go.ChangeShapes Go.WideShapes Go.ChangeAt Go.RowKit
set_option linter.unusedVariables false
set_option linter.unusedSimpArgs false
/-- a call of a script, as it lies in memory, and its letter's text -/
structure OpC where
  k : Int
  w : Int
  i : Int
  j : Int
  l : LM
  x : Tx
def OpC.z : OpC := ⟨0, 0, 0, 0, LM.z, Tx.z⟩
def OpC.cs (o : OpC) : List Value := [.int .i64 o.k, .int .i64 o.w, .int .i64 o.i, .int .i64 o.j, .int .i64 o.l.f, .int .i64 o.l.t, o.l.d.v]
def flatO (os : List OpC) : List Value := os.flatMap OpC.cs
def gO (os : List OpC) (k : Nat) : OpC := os.getD k OpC.z
theorem flatO_length (os : List OpC) : (flatO os).length = os.length * 7 := by
  induction os with
  | nil => rfl
  | cons e l ih =>
    show (OpC.cs e ++ flatO l).length = _
    rw [List.length_append, ih, List.length_cons]
    have : (OpC.cs e).length = 7 := rfl
    omega
theorem flatO_get (os : List OpC) : ∀ (k j : Nat) (v : Value), k < os.length → (OpC.cs (gO os k))[j]? = some v → (flatO os)[k * 7 + j]? = some v := by
  induction os with
  | nil => intro k j v h; simp at h
  | cons e l ih =>
    intro k j v h hv
    have el : (OpC.cs e).length = 7 := rfl
    show (OpC.cs e ++ flatO l)[k * 7 + j]? = _
    cases k with
    | zero =>
      have hj : j < 7 := by
        by_cases hq : j < 7
        · exact hq
        · have : (OpC.cs (gO (e :: l) 0))[j]? = none := List.getElem?_eq_none (by show 7 ≤ j; omega)
          rw [this] at hv
          cases hv
      rw [List.getElem?_append_left (by omega)]
      simpa [gO] using hv
    | succ k =>
      rw [List.getElem?_append_right (by omega), el]
      have := ih k j v (by simpa using h) (by simpa [gO] using hv)
      rwa [show (k + 1) * 7 + j - 7 = k * 7 + j from by omega]
/-- a script that came in -/
structure InO (w : World) (s : Sl) (os : List OpC) : Prop where
  le : Rd w s.p (flatO os)
  len : os.length = s.n
  ok : s.ok
  rd : ∀ j, j < s.n → ReadsL w (gO os j).l (gO os j).x
  nu : ∀ j, j < s.n → (-9223372036854775808 ≤ (gO os j).i ∧ (gO os j).i ≤ 9223372036854775807) ∧ (-9223372036854775808 ≤ (gO os j).j ∧ (gO os j).j ≤ 9223372036854775807)
theorem InO.cells {w w' : World} {s : Sl} {os : List OpC} (h : InO w s os) (a : Apart [] w w') {k : Nat} (hk : k < s.n) : ∃ P o, s.p = some ⟨P, o, none⟩ ∧ w'.cell? ⟨P, o + k * 7, none⟩ = some (.int .i64 (gO os k).k) ∧ w'.cell? ⟨P, o + k * 7 + 1, none⟩ = some (.int .i64 (gO os k).w) ∧ w'.cell? ⟨P, o + k * 7 + 2, none⟩ = some (.int .i64 (gO os k).i) ∧ w'.cell? ⟨P, o + k * 7 + 3, none⟩ = some (.int .i64 (gO os k).j) ∧ w'.cell? ⟨P, o + k * 7 + 4, none⟩ = some (.int .i64 (gO os k).l.f) ∧ w'.cell? ⟨P, o + k * 7 + 5, none⟩ = some (.int .i64 (gO os k).l.t) ∧ w'.cell? ⟨P, o + k * 7 + 6, none⟩ = some (gO os k).l.d.v := by
  obtain ⟨P, o, hp, _, hc⟩ := h.le.kept0 a (by rw [flatO_length, h.len]; omega)
  have g : ∀ j v, (OpC.cs (gO os k))[j]? = some v → w'.cell? ⟨P, o + k * 7 + j, none⟩ = some v := fun j v hv => by
    have := hc _ _ (flatO_get os k j v (by rw [h.len]; exact hk) hv)
    rwa [show o + (k * 7 + j) = o + k * 7 + j from by omega] at this
  exact ⟨P, o, hp, g 0 _ rfl, g 1 _ rfl, g 2 _ rfl, g 3 _ rfl, g 4 _ rfl, g 5 _ rfl, g 6 _ rfl⟩
structure FitPost (sn : Nat) (w w' : World) (r : Ending) : Prop where
  ex : ∃ b : Bool, r = .returned (.bool b) ∧ (b = true → sn ≤ 2000) ∧ Apart [] w w'
set_option maxHeartbeats 4000000 in
theorem fits_ok (w : World) (sp : Option Addr) (sn sc : Nat) (os : List OpC) (h : InO w ⟨sp, sn, sc⟩ os) (hn : sn ≤ 1048576) : Calls Try.prog 19 #[.slice sp sn sc] w fun r w' => FitPost sn w w' r := by
  have HI := hid h
  clear h
  go_enter Try.func19, Try.ntmps19
  go_wp2_with fail
  go_loopw [3, 4] (fun n v wr => ∃ (k : Nat) (S : Nat), v = .int .i64 (k : Nat) ∧ n = .int .i64 (S : Nat) ∧ k ≤ sn ∧ S ≤ k * 2000000 ∧ wr = w) (fun _ v _ => sn - (intOf v).toNat)
  case atStart => exact ⟨0, 0, rfl, rfl, Nat.zero_le _, Nat.zero_le _, rfl⟩
  case round =>
    obtain ⟨k, S, rfl, rfl, hk, hS, rfl⟩ := hrel
    by_cases hlt : k < sn
    · obtain ⟨P, o, hp, c0, c1, c2, c3, c4, c5, c6⟩ := HI.out.cells (Apart.refl [] _) hlt
      dsimp only at hp
      subst hp
      have hdl : (gO os k).l.d.n ≤ 2000000 := (HI.out.rd k hlt).dl
      have hz : ((k : Nat) : Int) < ((sn : Nat) : Int) := by omega
      unfold Sl.v at c6
      generalize gO os k = e at *
      go_wp2_with fail
      go_roundw
      case rel => exact ⟨k + 1, S + e.l.d.n, by go_num, by go_num, by omega, by omega, trivial⟩
      case measure => simp [intOf]; omega
    · obtain rfl : sn = k := by omega
      by_cases h2 : sn ≤ 2000
      · have hz : ((sn : Nat) : Int) ≤ 2000 := by omega
        have H2 := hid h2
        clear h2
        go_wp2_with fail
        go_ret
        exact ⟨⟨_, rfl, fun _ => H2.out, Apart.refl _ _⟩⟩
      · have hz : ¬ ((sn : Nat) : Int) ≤ 2000 := by omega
        have H2 := hid h2
        clear h2
        go_wp2_with fail
        go_ret
        exact ⟨⟨false, rfl, (fun h => by cases h), Apart.refl _ _⟩⟩
end Go.Proofs.Ytiakcfjbnlibfaa.nt
