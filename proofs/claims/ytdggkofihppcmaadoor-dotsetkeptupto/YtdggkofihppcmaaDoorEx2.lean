import Derived.Test.YtdggkofihppcmaaDoorEx1
namespace Go.Proofs.YtdggkofihppcmaaDoor.ds
open Go.ChangeShapes Go.WideShapes Go.ChangeAt Go.RowKit
set_option linter.unusedVariables false
/-- a call of the script -/
structure OpC where
  kind : Int
  gap : Int
  stop : Int
  pa : Option Addr
  na : Nat
  ca : Nat
  pb : Option Addr
  nb : Nat
  cb : Nat
  dn : Int
  dc : Int
  xs : List S
  ys : List S
deriving Inhabited
/-- its lists can be read -/
structure OpOk (w : World) (o : OpC) : Prop where
  la : L w o.pa o.na o.xs
  lb : L w o.pb o.nb o.ys
  sa : o.na ≤ 1048576
  sb : o.nb ≤ 1048576
theorem OpOk.kept0 {w w' : World} {o : OpC} (h : OpOk w o) (a : Apart [] w w') : OpOk w' o := ⟨h.la.kept0 a, h.lb.kept0 a, h.sa, h.sb⟩
/-- an op in memory -/
structure OpAt (w : World) (P k : Nat) (o : OpC) : Prop where
  c0 : w.cell? ⟨P, k, none⟩ = some (.int .i64 o.kind)
  c1 : w.cell? ⟨P, k + 1, none⟩ = some (.int .i64 o.gap)
  c2 : w.cell? ⟨P, k + 2, none⟩ = some (.int .i64 o.stop)
  c3 : w.cell? ⟨P, k + 3, none⟩ = some (.slice o.pa o.na o.ca)
  c4 : w.cell? ⟨P, k + 4, none⟩ = some (.slice o.pb o.nb o.cb)
  c5 : w.cell? ⟨P, k + 5, none⟩ = some (.int .i64 o.dn)
  c6 : w.cell? ⟨P, k + 6, none⟩ = some (.int .i64 o.dc)
def Ops (w : World) (p : Option Addr) (N : Nat) (f : Nat → OpC) : Prop :=
  0 < N → ∃ P o, p = some ⟨P, o, none⟩ ∧ P < w.heap.size ∧ ∀ i, i < N → OpAt w P (o + i * 7) (f i) ∧ OpOk w (f i)
theorem Ops.kept0 {w w' : World} {p : Option Addr} {N : Nat} {f : Nat → OpC} (h : Ops w p N f) (a : Apart [] w w') : Ops w' p N f := by
  intro h0
  obtain ⟨P, o, rfl, hP, hc⟩ := h h0
  refine ⟨P, o, rfl, Nat.lt_of_lt_of_le hP a.size, fun i hi => ⟨?_, (hc i hi).2.kept0 a⟩⟩
  have k := (hc i hi).1
  exact ⟨(a.cell hP (by simp)).trans k.c0, (a.cell hP (by simp)).trans k.c1, (a.cell hP (by simp)).trans k.c2, (a.cell hP (by simp)).trans k.c3, (a.cell hP (by simp)).trans k.c4, (a.cell hP (by simp)).trans k.c5, (a.cell hP (by simp)).trans k.c6⟩
/-- every call of these kinds goes well -/
def StepOk (lo hi : Int) : Prop := ∀ (w : World) (o : OpC), Tab w → OpOk w o → lo ≤ o.kind → o.kind ≤ hi →
  Calls Tryd.prog 54 #[.agg #[.int .i64 o.kind, .int .i64 o.gap, .int .i64 o.stop, .slice o.pa o.na o.ca, .slice o.pb o.nb o.cb, .int .i64 o.dn, .int .i64 o.dc]] w fun r w' => r = .returned (.bool true) ∧ Apart [] w w'
set_option maxHeartbeats 4000000 in
set_option maxRecDepth 100000 in
theorem upto_ok (lo hi : Int) (hs : StepOk lo hi) (w : World) (T : Tab w) (p : Option Addr) (N cap : Nat) (f : Nat → OpC) (h : Ops w p N f) (hN : N ≤ 9223372036854775807) :
    Calls Tryd.prog 29 #[.slice p N cap, .int .i64 lo, .int .i64 hi] w fun r w' => r = .returned (.bool true) ∧ Apart [] w w' := by
  go_enter Tryd.func29, Tryd.ntmps29
  go_wp2_with fail
  refine (alive_ok w T).mono ?_
  rintro r w1 ⟨rfl, a1⟩
  dsimp only
  go_wp2_with fail
  go_loopw [8] (fun v wr => ∃ i : Nat, i ≤ N ∧ v = .int .i64 i ∧ Apart [] w wr) (fun v _ => N - (intOf v).toNat)
  case atStart => exact ⟨0, Nat.zero_le _, rfl, a1⟩
  case round =>
    obtain ⟨i, hi', rfl, aR⟩ := hrel
    by_cases hlt : i < N
    · obtain ⟨P, o, rfl, hP, hc⟩ := (h.kept0 aR) (by omega)
      obtain ⟨k, ok⟩ := hc i hlt
      obtain ⟨c0, c1, c2, c3, c4, c5, c6⟩ := k
      generalize f i = d at *
      clear hc
      by_cases h1 : lo ≤ d.kind
      · by_cases h2 : d.kind ≤ hi
        · have hst := hs wr d (T.kept0 aR) ok h1 h2
          go_wp2_with (go_at_call 54; refine hst.mono ?_; rintro r w2 ⟨rfl, a2⟩)
          go_roundw
          case rel => exact ⟨i + 1, by omega, rfl, aR.trans a2⟩
          case measure => simp [intOf]; omega
        · go_wp2
          go_roundw
          case rel => exact ⟨i + 1, by omega, rfl, aR⟩
          case measure => simp [intOf]; omega
      · go_wp2
        go_roundw
        case rel => exact ⟨i + 1, by omega, rfl, aR⟩
        case measure => simp [intOf]; omega
    · go_wp2
      go_ret
      exact ⟨rfl, aR⟩
open Classical in
/-- what Check answers -/
noncomputable def chk (xs : List S) (gap : Int) : Int := if 1 ≤ gap ∧ gap ≤ 64 then (if OkL gap xs then 0 else 30) else 1
theorem check_as {p : Option Addr} {N cap : Nat} {xs : List S} {gap : Int} {w : World} (h : L w p N xs) (e : Int) (he : e = chk xs gap) : Calls Tryd.prog 21 #[.slice p N cap, .int .i64 gap] w fun r w' => r = .returned (.int .i64 e) ∧ Apart [] w w' := by
  subst he
  unfold chk
  by_cases hg : 1 ≤ gap ∧ gap ≤ 64
  · rw [if_pos hg]
    by_cases k : OkL gap xs
    · rw [if_pos k]; exact check_yes h hg k
    · rw [if_neg k]; exact check_no h hg k
  · rw [if_neg hg]; exact check_arg (xs := xs) hg
theorem rcheck_as {p : Option Addr} {N cap : Nat} {xs : List S} {gap : Int} {w : World} (h : L w p N xs) (e : Int) (he : e = chk xs gap) : Calls Tryd.prog 16 #[.slice p N cap, .int .i64 gap] w fun r w' => r = .returned (.int .i64 e) ∧ Apart [] w w' := by
  subst he
  unfold chk
  by_cases hg : 1 ≤ gap ∧ gap ≤ 64
  · rw [if_pos hg]
    by_cases k : OkL gap xs
    · rw [if_pos k]; exact rcheck_yes h hg k
    · rw [if_neg k]; exact rcheck_no h hg k
  · rw [if_neg hg]; exact rcheck_arg hg
end Go.Proofs.YtdggkofihppcmaaDoor.ds
