import Derived.Test.YtiakcfjbnlibfaaU3
import Derived.Test.YtiakcfjbnlibfaaT35
namespace Go.Proofs.Ytiakcfjbnlibfaa.nt
open Go.ChangeShapes Go.WideShapes Go.ChangeAt Go.RowKit
set_option linter.unusedVariables false
set_option linter.unusedSimpArgs false
/-- plays, any kind -/
theorem plays_ok {wa w : World} {P : Nat} {p : Px} {who : Nat → Option Nat} {K : Nat} (h : PQ wa w P p who p.x.cof) (hi : PI p K) (hK : K ≤ 50000) (o : OpC) (hl : ReadsL w o.l o.x) (hln : ∀ A q, 0 < o.l.d.n → o.l.d.p = some ⟨A, q, none⟩ → who A = none ∧ A < w.heap.size) : Calls Try.prog 25 #[.pointer (some ⟨P, 0, none⟩), o.agg] w fun r w' => r = .returned (.bool true) ∧ PlPost wa w w' P p who K := by
  by_cases h1 : o.k = 1
  · exact plays_send h hi (by omega) o h1 o.x hl hln
  by_cases h2 : o.k = 2
  · exact plays_del h hi hK o h2
  by_cases h3 : o.k = 3
  · exact plays_drop h hi (by omega) o h3
  by_cases h4 : o.k = 4
  · exact plays_dbl h hi (by omega) o h4
  by_cases h5 : o.k = 5
  · exact plays_mov h hi (by omega) o h5
  by_cases h6 : o.k = 6
  · exact plays_len h hi o h6
  by_cases h7 : o.k = 7
  · exact plays_at h hi hK o h7
  by_cases h8 : o.k = 8
  · exact plays_counts h hi o h8
  by_cases h9 : o.k = 9
  · exact plays_to h hi hK o h9
  exact plays_none h hi o h1 h2 h3 h4 h5 h6 h7 h8 h9
structure MG (w w' : World) (r : Ending) (room : Int) : Prop where
  ex : ∃ P Bg Rg who, r = .returned (.tuple #[.pointer (some ⟨P, 0, none⟩), .bool true]) ∧ PQ w w' P (px0 Bg Rg room) who (px0 Bg Rg room).x.cof
set_option maxHeartbeats 4000000 in
theorem made_good (w : World) (room : Int) (hr : 1 ≤ room ∧ room ≤ 256) : Calls Try.prog 24 #[.int .i64 room] w fun r w' => MG w w' r room := by
  have h1 := new_ok w room hr.1 hr.2
  go_enter Try.func24, Try.ntmps24
  go_wp2_with fail
  refine h1.mono ?_
  clear h1
  rintro _ w1 ⟨rfl, hB, a1⟩
  have h2 := rnew_ok w1 room hr.1 hr.2
  have HB := hid hB
  have HA := hid a1
  clear hB a1
  dsimp only
  go_wp2_with fail
  refine h2.mono ?_
  clear h2
  rintro _ w2 ⟨rfl, hR, a2⟩
  have HR : Hid (RB w w2 w1.heap.size room ⟨none, 0, 0⟩ [] [] ⟨0, 0, 0, 0, 0⟩) := ⟨hR.blk, Nat.le_trans HA.out.size hR.hB, ⟨hR.row.own, fun k hk => Nat.le_trans HA.out.size (hR.row.new k hk), HA.out.trans hR.row.ap⟩, hR.len, hR.xl, hR.le, hR.rd⟩
  have HP := hid (pair_new (HA.out.trans a2) (HB.out.kept0 a2) HR.out)
  unfold pairO at HP
  clear hR a2
  dsimp only
  go_wp2_with fail
  refine (num_ok 0 w2).mono ?_
  rintro _ w2 ⟨rfl, rfl⟩
  dsimp only
  go_wp2
  go_ret2
  obtain ⟨who, hp, _⟩ := HP.out
  exact ⟨_, _, _, who, rfl, hp⟩
/-- what made answers -/
structure M2 (w w' : World) (r : Ending) (room : Int) : Prop where
  ap : Apart [] w w'
  ex : (r = .returned (.tuple #[.pointer none, .bool true])) ∨ (∃ P Bg Rg who, r = .returned (.tuple #[.pointer (some ⟨P, 0, none⟩), .bool true]) ∧ PQ w w' P (px0 Bg Rg room) who (px0 Bg Rg room).x.cof ∧ room ≤ 256)
set_option maxHeartbeats 4000000 in
theorem made2 (w : World) (room : Int) : Calls Try.prog 24 #[.int .i64 room] w fun r w' => M2 w w' r room := by
  by_cases hr : 1 ≤ room ∧ room ≤ 256
  · refine (made_good w room hr).mono (fun r w' hh => ?_)
    obtain ⟨P, Bg, Rg, who, rfl, hq⟩ := hh.ex
    exact ⟨hq.ap, .inr ⟨P, Bg, Rg, who, rfl, hq, hr.2⟩⟩
  · have hr' : room < 1 ∨ 256 < room := by omega
    have h1 := new_bad w room hr'
    have HR := hid hr'
    clear hr hr'
    go_enter Try.func24, Try.ntmps24
    go_wp2_with fail
    refine h1.mono ?_
    clear h1
    rintro _ w1 ⟨rfl, a1⟩
    have h2 := rnew_bad w1 room HR.out
    have HA := hid a1
    clear a1
    dsimp only
    go_wp2_with fail
    refine h2.mono ?_
    clear h2
    rintro _ w2 ⟨rfl, a2⟩
    have HA2 := hid (HA.out.trans a2)
    clear a2
    dsimp only
    go_wp2_with fail
    refine (num_ok 1 w2).mono ?_
    rintro _ w2 ⟨rfl, rfl⟩
    dsimp only
    go_wp2
    go_ret2
    exact ⟨HA2.out, .inl rfl⟩
theorem PI.new (Bg Rg : Nat) (room : Int) (h : room ≤ 256) : PI (px0 Bg Rg room) 0 :=
  ⟨⟨rfl, rfl⟩, ⟨by simp [px0], by simp [px0], by simp [px0], by simp [px0], by simp [px0]⟩, h, by simp [px0], by simp [px0], by simp [px0], by simp [px0], by simp [px0], by simp [px0], by simp [px0], by simp [px0], by simp [px0]⟩
/-- a pair between two calls, since the world w4 -/
structure LS (wa w4 w : World) (P : Nat) (who4 : Nat → Option Nat) (K : Nat) : Prop where
  ex : ∃ who p, PQ wa w P p who p.x.cof ∧ PI p K ∧ Stp w4 w who4 who none
/-- a script that nobody of the pair's has -/
structure Scr (w4 : World) (who4 : Nat → Option Nat) (s : Sl) (os : List OpC) : Prop where
  i : InO w4 s os
  b : ∀ A o, 0 < s.n → s.p = some ⟨A, o, none⟩ → who4 A = none
  l : ∀ j, j < s.n → ∀ A o, 0 < (gO os j).l.d.n → (gO os j).l.d.p = some ⟨A, o, none⟩ → who4 A = none
theorem Stp.out {w w' : World} {who who' : Nat → Option Nat} (h : Stp w w' who who' none) : ∃ X, Apart X w w' ∧ ∀ k, k < w.heap.size → who k = none → k ∉ X := by
  obtain ⟨X, a, hX⟩ := h.ap
  exact ⟨X, a, fun k hk hn hm => by rcases hX k hm with e | e | e; exact e hn; omega; cases e⟩
theorem LS.at {wa w4 w : World} {P : Nat} {who4 : Nat → Option Nat} {K : Nat} {s : Sl} {os : List OpC} (h : LS wa w4 w P who4 K) (sc : Scr w4 who4 s os) {k : Nat} (hk : k < s.n) : ∃ A o, s.p = some ⟨A, o, none⟩ ∧ w.cell? ⟨A, o + k * 7, none⟩ = some (.int .i64 (gO os k).k) ∧ w.cell? ⟨A, o + k * 7 + 1, none⟩ = some (.int .i64 (gO os k).w) ∧ w.cell? ⟨A, o + k * 7 + 2, none⟩ = some (.int .i64 (gO os k).i) ∧ w.cell? ⟨A, o + k * 7 + 3, none⟩ = some (.int .i64 (gO os k).j) ∧ w.cell? ⟨A, o + k * 7 + 4, none⟩ = some (.int .i64 (gO os k).l.f) ∧ w.cell? ⟨A, o + k * 7 + 5, none⟩ = some (.int .i64 (gO os k).l.t) ∧ w.cell? ⟨A, o + k * 7 + 6, none⟩ = some (.slice (gO os k).l.d.p (gO os k).l.d.n (gO os k).l.d.c) := by
  obtain ⟨who, p, hq, hi, st⟩ := h.ex
  obtain ⟨X, a, hX⟩ := st.out
  obtain ⟨A, o, hp, hA, hc⟩ := sc.i.le (by rw [flatO_length, sc.i.len]; omega)
  have hn := sc.b A o (by omega) hp
  have g : ∀ j v, (OpC.cs (gO os k))[j]? = some v → w.cell? ⟨A, o + k * 7 + j, none⟩ = some v := fun j v hv => by
    have := hc _ _ (flatO_get os k j v (by rw [sc.i.len]; exact hk) hv)
    rw [show o + (k * 7 + j) = o + k * 7 + j from by omega] at this
    exact (a.cell hA (hX A hA hn)).trans this
  exact ⟨A, o, hp, g 0 _ rfl, g 1 _ rfl, g 2 _ rfl, g 3 _ rfl, g 4 _ rfl, g 5 _ rfl, g 6 _ rfl⟩
theorem LS.reads {w4 w : World} {who4 who : Nat → Option Nat} {s : Sl} {os : List OpC} (st : Stp w4 w who4 who none) (sc : Scr w4 who4 s os) {k : Nat} (hk : k < s.n) : ReadsL w (gO os k).l (gO os k).x ∧ ∀ A q, 0 < (gO os k).l.d.n → (gO os k).l.d.p = some ⟨A, q, none⟩ → who A = none ∧ A < w.heap.size := by
  have hr := sc.i.rd k hk
  refine ⟨st.reads hr (sc.l k hk), fun A q h0 e => ?_⟩
  have hn := sc.l k hk A q h0 e
  obtain ⟨X, a, hX⟩ := st.out
  have hA : A < w4.heap.size := by
    obtain ⟨P, o, hp, hP, _⟩ := hr.d (by have := hr.dn; simp [byts]; omega)
    rw [e] at hp; simp at hp; omega
  exact ⟨st.none' hA hn, Nat.lt_of_lt_of_le hA a.size⟩
theorem LS.play {wa w4 w : World} {P : Nat} {who4 : Nat → Option Nat} {K : Nat} {s : Sl} {os : List OpC} (h : LS wa w4 w P who4 K) (sc : Scr w4 who4 s os) {k : Nat} (hk : k < s.n) (hK : K ≤ 50000) : Calls Try.prog 25 #[.pointer (some ⟨P, 0, none⟩), (gO os k).agg] w fun r w' => r = .returned (.bool true) ∧ LS wa w4 w' P who4 (K + 1) := by
  obtain ⟨who, p, hq, hi, st⟩ := h.ex
  obtain ⟨hr, hln⟩ := LS.reads st sc hk
  refine (plays_ok hq hi hK (gO os k) hr hln).mono (fun r w' hh => ?_)
  obtain ⟨rfl, hh⟩ := hh
  obtain ⟨who', p', hq', hi', _, st'⟩ := hh.ex
  exact ⟨rfl, who', p', hq', hi', st.trans st'⟩
theorem LS.stand {wa w4 w : World} {P : Nat} {who4 : Nat → Option Nat} {K : Nat} (h : LS wa w4 w P who4 K) (hK : K ≤ 100000) : Calls Try.prog 26 #[.pointer (some ⟨P, 0, none⟩)] w fun r w' => r = .returned (.bool true) ∧ LS wa w4 w' P who4 K := by
  obtain ⟨who, p, hq, hi, st⟩ := h.ex
  refine (stands_ok hq (fun e he => by have := hi.km e he; omega) hi.kb hi.ki).mono (fun r w' hh => ?_)
  obtain ⟨rfl, a⟩ := hh
  exact ⟨rfl, who, p, hq.kept0 a, hi, st.trans (Stp.ap0 a)⟩
theorem Stp.apart0 {wa w w' : World} {who who' : Nat → Option Nat} (h : Stp w w' who who' none) (a0 : Apart [] wa w) (lo : ∀ k t, who k = some t → wa.heap.size ≤ k) : Apart [] wa w' := by
  obtain ⟨X, a, hX⟩ := h.out
  refine a0.trans' a (fun y hy => ?_)
  right
  by_cases hlt : wa.heap.size ≤ y
  · exact hlt
  · exfalso
    have hy2 : who y = none := by
      cases e : who y with
      | none => rfl
      | some t => exact absurd (lo y t e) hlt
    exact hX y (by have := a0.size; omega) hy2 hy
theorem LS.apart {wa w4 w : World} {P : Nat} {who4 : Nat → Option Nat} {K : Nat} (h : LS wa w4 w P who4 K) (hK : K ≤ 4000) : Calls Try.prog 27 #[.pointer (some ⟨P, 0, none⟩)] w fun r w' => r = .returned (.bool true) ∧ Apart [] wa w' := by
  obtain ⟨who, p, hq, hi, st⟩ := h.ex
  refine (apart_ok hq (by have := hi.lf; omega) (by have := hi.nm; omega) hi.ll hi.nl).mono (fun r w' hh => ?_)
  obtain ⟨rfl, s⟩ := hh
  exact ⟨rfl, s.apart0 hq.ap hq.lo⟩
theorem LS.ap {wa w4 w : World} {P : Nat} {who4 : Nat → Option Nat} {K : Nat} (h : LS wa w4 w P who4 K) : Apart [] wa w := by
  obtain ⟨who, p, hq, hi, st⟩ := h.ex; exact hq.ap
theorem LS.up {wa w4 w : World} {P : Nat} {who4 : Nat → Option Nat} {K : Nat} (h : LS wa w4 w P who4 K) : LS wa w4 w P who4 (K + 1) := by
  obtain ⟨who, p, hq, hi, st⟩ := h.ex; exact ⟨who, p, hq, hi.up, st⟩
theorem PQ.ls {wa w : World} {P Bg Rg : Nat} {room : Int} {who : Nat → Option Nat} (h : PQ wa w P (px0 Bg Rg room) who (px0 Bg Rg room).x.cof) (hr : room ≤ 256) : LS wa w w P who 0 := ⟨who, _, h, PI.new Bg Rg room hr, Stp.refl _ _ _⟩
/-- a script that came in -/
theorem InO.scr {w wa w4 : World} {s : Sl} {os : List OpC} {who4 : Nat → Option Nat} (h : InO w s os) (a : Apart [] w wa) (b : Apart [] wa w4) (lo : ∀ k t, who4 k = some t → wa.heap.size ≤ k) : Scr w4 who4 s os := by
  have ab := a.trans b
  have no : ∀ A, A < w.heap.size → who4 A = none := fun A hA => by
    cases e : who4 A with
    | none => rfl
    | some t => have := lo A t e; have := a.size; omega
  refine ⟨⟨h.le.kept0 ab, h.len, h.ok, fun j hj => (h.rd j hj).kept0 ab, h.nu⟩, fun A o h0 e => ?_, fun j hj A o h0 e => ?_⟩
  · obtain ⟨P, q, hp, hP, _⟩ := h.le (by rw [flatO_length, h.len]; omega)
    rw [e] at hp; simp at hp
    exact no A (by omega)
  · have hr := h.rd j hj
    obtain ⟨P, q, hp, hP, _⟩ := hr.d (by have := hr.dn; simp [byts]; omega)
    rw [e] at hp; simp at hp
    exact no A (by omega)
end Go.Proofs.Ytiakcfjbnlibfaa.nt
