import Derived.Test.YtmdjjigiipboaaaDoorLawsA
namespace Go.Proofs.YtmdjjigiipboaaaDoor.ds
open Go.ChangeShapes Go.WideShapes Go.ChangeAt Go.RowKit
set_option linter.unusedVariables false
set_option linter.unusedSimpArgs false
theorem tmod_lt (a m : Int) (h0 : 0 ≤ a) (hm : 0 < m) : 0 ≤ a.tmod m ∧ a.tmod m < m := by
  rw [Int.tmod_eq_emod_of_nonneg h0]
  exact ⟨Int.emod_nonneg _ (by omega), Int.emod_lt_of_pos _ hm⟩
/-- a number brought into bounds -/
theorem win_ok (x lo hi : Int) (w : World) (hx0 : -9223372036854775808 ≤ x) (hx1 : x ≤ 9223372036854775807) (h0 : 0 ≤ lo) (h1 : lo ≤ hi) (h2 : hi ≤ 1000) : Calls Tryd.prog 25 #[.int .i64 x, .int .i64 lo, .int .i64 hi] w fun r w' => (∃ v : Int, r = .returned (.int .i64 v) ∧ lo ≤ v ∧ v ≤ hi) ∧ w' = w := by
  have e1 : IntKind.i64.wrap (hi - lo) = hi - lo := by rw [IntKind.wrap_i64]; omega
  have e2 : IntKind.i64.wrap (hi - lo + 1) = hi - lo + 1 := by rw [IntKind.wrap_i64]; omega
  have hz : ¬ hi - lo + 1 = 0 := by omega
  have hm1 : ¬ hi - lo + 1 = -1 := by omega
  by_cases hx : x < 0
  · have e3 : IntKind.i64.wrap (x + 1) = x + 1 := by rw [IntKind.wrap_i64]; omega
    have e4 : IntKind.i64.wrap (-(x + 1)) = -(x + 1) := by rw [IntKind.wrap_i64]; omega
    obtain ⟨a, Ha⟩ : ∃ a, Hid (a = -(x + 1)) := ⟨_, rfl⟩
    have hb := tmod_lt (-(x + 1)) (hi - lo + 1) (by omega) (by omega)
    have e5 : IntKind.i64.wrap (lo + (-(x + 1)).tmod (hi - lo + 1)) = lo + (-(x + 1)).tmod (hi - lo + 1) := by rw [IntKind.wrap_i64]; omega
    go_enter Tryd.func25, Tryd.ntmps25
    go_wp2
    go_ret
    refine ⟨⟨_, rfl, ?_⟩, rfl⟩
    rw [Int.neg_tmod] at hb
    unfold wrap64
    omega
  · have hb := tmod_lt x (hi - lo + 1) (by omega) (by omega)
    have e5 : IntKind.i64.wrap (lo + x.tmod (hi - lo + 1)) = lo + x.tmod (hi - lo + 1) := by rw [IntKind.wrap_i64]; omega
    go_enter Tryd.func25, Tryd.ntmps25
    go_wp2
    go_ret
    refine ⟨⟨_, rfl, ?_⟩, rfl⟩
    have hc0 := Int.emod_nonneg x (show hi - lo + 1 ≠ 0 by omega)
    have hc1 := Int.emod_lt_of_pos x (show 0 < hi - lo + 1 by omega)
    unfold wrap64
    omega
/-- a []api.Dot as it reads, by a list -/
structure LD (w : World) (p : Option Addr) (N : Nat) (ds : List (Int × Int)) : Prop where
  len : ds.length = N
  lim : N ≤ 9223372036854775807
  at' : Dts w p N (fun i => ds.getD i (0, 0))
theorem LD.kept0 {w w' : World} {p : Option Addr} {N : Nat} {ds : List (Int × Int)} (h : LD w p N ds) (a : Apart [] w w') : LD w' p N ds := ⟨h.len, h.lim, h.at'.kept0 a⟩
def memb (ds : List (Int × Int)) (n c : Int) : Bool := ds.any fun d => decide (d.1 = n ∧ d.2 = c)
theorem memb_take {ds : List (Int × Int)} {i : Nat} (n c : Int) (hi : i < ds.length) : memb (ds.take (i + 1)) n c = (memb (ds.take i) n c || decide ((ds.getD i (0, 0)).1 = n ∧ (ds.getD i (0, 0)).2 = c)) := by
  have e : ds.getD i (0, 0) = ds[i] := by rw [List.getD_eq_getElem?_getD, List.getElem?_eq_getElem hi]; rfl
  rw [e]
  unfold memb
  rw [List.take_succ_eq_append_getElem hi, List.any_append]
  simp only [List.any_cons, List.any_nil, Bool.or_false]
set_option maxHeartbeats 4000000 in
set_option maxRecDepth 100000 in
theorem member_ok {p : Option Addr} {N cap : Nat} {ds : List (Int × Int)} {w : World} (h : LD w p N ds) (dn dc : Int) : Calls Tryd.prog 28 #[.slice p N cap, .agg #[.int .i64 dn, .int .i64 dc]] w fun r w' => r = .returned (.bool (memb ds dn dc)) ∧ Apart [] w w' := by
  have hlim := h.lim
  have kB := fun W => @new1d w (.int .i64 dn) (.int .i64 dc) 35 W
  have aB : Apart [] w (w.alloc (.cells #[.int .i64 dn, .int .i64 dc] 35)) := (Apart.refl _ _).alloc _
  go_enter Tryd.func28, Tryd.ntmps28
  go_wp2_with fail
  generalize w.alloc (.cells #[.int .i64 dn, .int .i64 dc] 35) = V0 at *
  go_loopw [5] (fun v wr => ∃ i : Nat, i ≤ N ∧ v = .int .i64 i ∧ Apart [] V0 wr ∧ memb (ds.take i) dn dc = false) (fun v _ => N - (intOf v).toNat)
  case atStart => exact ⟨0, Nat.zero_le _, rfl, Apart.refl _ _, rfl⟩
  case round =>
    obtain ⟨i, hi, rfl, aR, hno⟩ := hrel
    by_cases hlt : i < N
    · have HI : Hid (i < ds.length) := by show i < ds.length; rw [h.len]; omega
      obtain ⟨P, o, rfl, hP, hc⟩ := ((h.kept0 aB).kept0 aR).at' (by omega)
      obtain ⟨c0, c1⟩ := hc i hlt
      have HT : Hid (memb (ds.take (i + 1)) dn dc = decide ((ds.getD i (0, 0)).1 = dn ∧ (ds.getD i (0, 0)).2 = dc)) := by
        show memb (ds.take (i + 1)) dn dc = decide ((ds.getD i (0, 0)).1 = dn ∧ (ds.getD i (0, 0)).2 = dc)
        rw [memb_take _ _ HI.out, hno, Bool.false_or]
      have HA : Hid ((ds.getD i (0, 0)).1 = dn ∧ (ds.getD i (0, 0)).2 = dc → memb ds dn dc = true) := fun hh => by
        unfold memb
        rw [List.any_eq_true]
        refine ⟨ds.getD i (0, 0), ?_, decide_eq_true hh⟩
        rw [List.getD_eq_getElem?_getD, List.getElem?_eq_getElem HI.out]
        exact List.getElem_mem HI.out
      obtain ⟨⟨xn, xc⟩, HX⟩ : ∃ x, Hid (x = ds.getD i (0, 0)) := ⟨_, rfl⟩
      dsimp only at c0 c1
      rw [← HX.out] at c0 c1 HT HA
      simp only at c0 c1
      clear hc
      obtain ⟨d0, d1⟩ := kB wr aR
      go_wp2_with fail
      by_cases e1 : xn = dn
      · by_cases e2 : xc = dc
        · have e1' : (xn == dn) = true := by simp [e1]
          have e2' : (xc == dc) = true := by simp [e2]
          have HM : Hid (memb ds dn dc = true) := HA.out ⟨e1, e2⟩
          clear e1 e2 HA HT
          go_quiet (fail)
          go_wp2
          go_ret
          exact ⟨by rw [HM.out]; rfl, aB.trans (aR.drewN _)⟩
        · have e1' : (xn == dn) = true := by simp [e1]
          have e2' : (xc == dc) = false := by simp; exact e2
          have HM : Hid (memb (ds.take (i + 1)) dn dc = false) := by
            show memb (ds.take (i + 1)) dn dc = false
            rw [HT.out]; exact decide_eq_false (fun h => e2 h.2)
          clear e1 e2 HA HT
          go_quiet (fail)
          go_wp2
          go_roundw
          case rel => exact ⟨i + 1, by omega, rfl, aR.drewN _, HM.out⟩
          case measure => simp [intOf]; omega
      · have e1' : (xn == dn) = false := by simp; exact e1
        have HM : Hid (memb (ds.take (i + 1)) dn dc = false) := by
          show memb (ds.take (i + 1)) dn dc = false
          rw [HT.out]; exact decide_eq_false (fun h => e1 h.1)
        clear e1 HA HT
        go_quiet (fail)
        go_wp2
        go_roundw
        case rel => exact ⟨i + 1, by omega, rfl, aR.drewN _, HM.out⟩
        case measure => simp [intOf]; omega
    · go_wp2
      go_ret
      refine ⟨?_, aB.trans aR⟩
      obtain rfl : i = N := by omega
      have : ds.take i = ds := List.take_of_length_le (by rw [h.len]; omega)
      rw [← this, hno]; rfl
set_option maxHeartbeats 4000000 in
set_option maxRecDepth 100000 in
theorem lowest_ok {p : Option Addr} {N cap : Nat} {ds : List (Int × Int)} {w : World} (h : LD w p N ds) (n : Int) (y : S) (wf : Wf y) (hM : y.b ≤ 2097152) (hd : ∀ c : Int, 1 ≤ c → memb ds n c = dot y c) : Calls Tryd.prog 27 #[.slice p N cap, .int .i64 n] w fun r w' => r = .returned (.int .i64 (y.b + 1)) ∧ Apart [] w w' := by
  have b0 := wf.b0
  have WF : Hid (Wf y) := wf
  have HD : Hid (∀ c : Int, 1 ≤ c → memb ds n c = dot y c) := hd
  clear wf hd
  go_enter Tryd.func27, Tryd.ntmps27
  go_wp2_with fail
  go_loopw [5] (fun v wr => ∃ c : Int, 1 ≤ c ∧ c ≤ y.b + 1 ∧ v = .int .i64 c ∧ Apart [] w wr) (fun v _ => (y.b + 1 - intOf v).toNat)
  case atStart => exact ⟨1, by omega, by omega, rfl, Apart.refl _ _⟩
  case round =>
    obtain ⟨c, hc1, hcM, rfl, aR⟩ := hrel
    have hm := member_ok (cap := cap) (h.kept0 aR) n c
    rw [HD.out c hc1] at hm
    have hw : IntKind.i64.wrap (c + 1) = c + 1 := by rw [IntKind.wrap_i64]; omega
    by_cases hc : c ≤ y.b
    · rw [dot_low hc] at hm
      go_wp2_with (go_at_call 28; refine hm.mono ?_; rintro r w5 ⟨rfl, a5⟩)
      go_roundw
      case rel => exact ⟨c + 1, by omega, by omega, rfl, aR.trans a5⟩
      case measure => simp [intOf]; omega
    · obtain rfl : c = y.b + 1 := by omega
      rw [dot_next WF.out] at hm
      go_wp2_with (go_at_call 28; refine hm.mono ?_; rintro r w5 ⟨rfl, a5⟩)
      go_ret
      exact ⟨rfl, aR.trans a5⟩
end Go.Proofs.YtmdjjigiipboaaaDoor.ds
