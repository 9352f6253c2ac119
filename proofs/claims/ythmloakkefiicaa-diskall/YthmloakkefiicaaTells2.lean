import Derived.Test.YthmloakkefiicaaTells
namespace Go.Proofs.Ythmloakkefiicaa.dk
open Go.ChangeShapes Go.WideShapes Go.ChangeAt Go.RowKit
set_option linter.unusedVariables false
set_option linter.unusedSimpArgs false
set_option maxHeartbeats 4000000 in
set_option maxRecDepth 100000 in
theorem tells_6 {w : World} {P : Nat} {x : Pd} {who : Nat → Option Nat} (h : Pr w P x who) {K : Nat} (hK : Bk x K) (hK9 : K ≤ 900) (wh N M : Int) (v : Value) :
    Calls Try.prog 43 #[.pointer (some ⟨P, 0, none⟩), .agg #[.int .i64 6, .int .i64 wh, .int .i64 N, .int .i64 M, v]] w fun r w' => r = .returned (.bool true) ∧ St w w' P who (K + 2) none := by
  have aB : Apart [] w (w.alloc (.cells #[.int .i64 6, .int .i64 wh, .int .i64 N, .int .i64 M, v] 58)) := (Apart.refl _ _).alloc _
  have h1 := h.kept0 aB
  have HP : Hid (Pr (w.alloc (.cells #[.int .i64 6, .int .i64 wh, .int .i64 N, .int .i64 M, v] 58)) P x who) := h1
  have HK : Hid (Bk x K) := hK
  have HS1 : Hid (∀ W, Apart [] (w.alloc (.cells #[.int .i64 6, .int .i64 wh, .int .i64 N, .int .i64 M, v] 58)) W → St w W P who (K + 2) none) := fun W a => St.of aB.fr (h1.stay hK a)
  have e0 := h1.c0
  have e1 := h1.c1
  have hrel := h1.bd.rel
  have e3 : (w.alloc (.cells #[.int .i64 6, .int .i64 wh, .int .i64 N, .int .i64 M, v] 58)).cell? ⟨x.R, 3, none⟩ = some (.bool x.d.on) := by rw [hrel.on]; exact h1.rp.at'.r3
  have e4 := h1.dp.at'.c1
  obtain ⟨on, Hon⟩ : ∃ on, Hid (on = x.d.on) := ⟨_, rfl⟩
  rw [← Hon.out] at e3 e4
  clear h h1 hK hrel Hon
  cases on
  all_goals
    go_enter Try.func43, Try.ntmps43
    go_wp2_with fail
    generalize hV : w.alloc (.cells #[.int .i64 6, .int .i64 wh, .int .i64 N, .int .i64 M, v] 58) = V at *
    generalize w.heap.size = B at *
    clear hV
  · go_region_held (fun W => W.cell? ⟨P, 0, none⟩ = some (.pointer (some ⟨x.D, 0, none⟩)) ∧ W.cell? ⟨P, 1, none⟩ = some (.pointer (some ⟨x.R, 0, none⟩)) ∧ W.cell? ⟨x.R, 3, none⟩ = some (.bool false)) (go_keep) (first | (go_at_call 18; refine (isOn_any (V.drewN 1) x.D false e4).mono ?_; rintro r w1 ⟨rfl, rfl⟩))
    go_wp2_with fail
    go_ret
    exact ⟨rfl, HS1.out _ ((Apart.refl [] V).drewN 1)⟩
  · go_region_held (fun W => W.cell? ⟨P, 0, none⟩ = some (.pointer (some ⟨x.D, 0, none⟩)) ∧ W.cell? ⟨P, 1, none⟩ = some (.pointer (some ⟨x.R, 0, none⟩)) ∧ W.cell? ⟨x.R, 3, none⟩ = some (.bool true)) (go_keep) (first | (go_at_call 18; refine (isOn_any (V.drewN 1) x.D true e4).mono ?_; rintro r w1 ⟨rfl, rfl⟩))
    go_wp2_with fail
    go_ret
    exact ⟨rfl, HS1.out _ ((Apart.refl [] V).drewN 1)⟩
set_option maxHeartbeats 4000000 in
set_option maxRecDepth 100000 in
theorem tells_7 {w : World} {P : Nat} {x : Pd} {who : Nat → Option Nat} (h : Pr w P x who) {K : Nat} (hK : Bk x K) (hK9 : K ≤ 900) (wh N M : Int) (v : Value) :
    Calls Try.prog 43 #[.pointer (some ⟨P, 0, none⟩), .agg #[.int .i64 7, .int .i64 wh, .int .i64 N, .int .i64 M, v]] w fun r w' => r = .returned (.bool true) ∧ St w w' P who (K + 2) none := by
  have aB : Apart [] w (w.alloc (.cells #[.int .i64 7, .int .i64 wh, .int .i64 N, .int .i64 M, v] 58)) := (Apart.refl _ _).alloc _
  have h1 := h.kept0 aB
  have HP : Hid (Pr (w.alloc (.cells #[.int .i64 7, .int .i64 wh, .int .i64 N, .int .i64 M, v] 58)) P x who) := h1
  have HK : Hid (Bk x K) := hK
  have HS1 : Hid (∀ W, Apart [] (w.alloc (.cells #[.int .i64 7, .int .i64 wh, .int .i64 N, .int .i64 M, v] 58)) W → St w W P who (K + 2) none) := fun W a => St.of aB.fr (h1.stay hK a)
  have e0 := h1.c0
  have e1 := h1.c1
  have hrel := h1.bd.rel
  have e3 : (w.alloc (.cells #[.int .i64 7, .int .i64 wh, .int .i64 N, .int .i64 M, v] 58)).cell? ⟨x.R, 0, none⟩ = some (.int .i64 (x.d.n : Nat)) := by rw [hrel.n]; exact h1.rp.at'.r0
  have HD := hid (sectors_any (h1.kept0 ((Apart.refl [] _).drewN 1)).dp.at')
  clear h h1 hK hrel
  go_enter Try.func43, Try.ntmps43
  go_wp2_with fail
  generalize hV : w.alloc (.cells #[.int .i64 7, .int .i64 wh, .int .i64 N, .int .i64 M, v] 58) = V at *
  generalize w.heap.size = B at *
  clear hV
  obtain ⟨n, Hn⟩ : ∃ n, Hid (n = x.d.n) := ⟨_, rfl⟩
  rw [← Hn.out] at e3
  go_region_held (fun W => W.cell? ⟨P, 0, none⟩ = some (.pointer (some ⟨x.D, 0, none⟩)) ∧ W.cell? ⟨P, 1, none⟩ = some (.pointer (some ⟨x.R, 0, none⟩)) ∧ W.cell? ⟨x.R, 0, none⟩ = some (.int .i64 (n : Nat))) (go_keep) (first | (go_at_call 26; refine HD.out.mono ?_; rintro r w1 ⟨rfl, rfl⟩; rw [← Hn.out]))
  go_wp2_with fail
  go_ret
  exact ⟨rfl, HS1.out _ ((Apart.refl [] V).drewN 1)⟩
set_option maxHeartbeats 4000000 in
set_option maxRecDepth 100000 in
theorem tells_8 {w : World} {P : Nat} {x : Pd} {who : Nat → Option Nat} (h : Pr w P x who) {K : Nat} (hK : Bk x K) (hK9 : K ≤ 900) (wh N M : Int) (v : Value) :
    Calls Try.prog 43 #[.pointer (some ⟨P, 0, none⟩), .agg #[.int .i64 8, .int .i64 wh, .int .i64 N, .int .i64 M, v]] w fun r w' => r = .returned (.bool true) ∧ St w w' P who (K + 2) none := by
  have aB : Apart [] w (w.alloc (.cells #[.int .i64 8, .int .i64 wh, .int .i64 N, .int .i64 M, v] 58)) := (Apart.refl _ _).alloc _
  have h1 := h.kept0 aB
  have HP : Hid (Pr (w.alloc (.cells #[.int .i64 8, .int .i64 wh, .int .i64 N, .int .i64 M, v] 58)) P x who) := h1
  have HK : Hid (Bk x K) := hK
  have HS1 : Hid (∀ W, Apart [] (w.alloc (.cells #[.int .i64 8, .int .i64 wh, .int .i64 N, .int .i64 M, v] 58)) W → St w W P who (K + 2) none) := fun W a => St.of aB.fr (h1.stay hK a)
  have e0 := h1.c0
  have e1 := h1.c1
  have hrel := h1.bd.rel
  have HD := hid (writes_any _ x.D x.d.writes (h1.kept0 ((Apart.refl [] _).drewN 1)).dp.at'.c5)
  have c2 := rwrites_any (h1.kept0 ((Apart.refl [] _).drewN 1)).rp.at'
  rw [← hrel.wr] at c2
  have HR := hid c2
  clear h h1 hK hrel c2
  go_enter Try.func43, Try.ntmps43
  go_wp2_with fail
  generalize hV : w.alloc (.cells #[.int .i64 8, .int .i64 wh, .int .i64 N, .int .i64 M, v] 58) = V at *
  generalize w.heap.size = B at *
  clear hV
  obtain ⟨n, Hn⟩ : ∃ n, Hid (n = x.d.writes) := ⟨_, rfl⟩
  go_region_held (fun W => W.cell? ⟨P, 0, none⟩ = some (.pointer (some ⟨x.D, 0, none⟩)) ∧ W.cell? ⟨P, 1, none⟩ = some (.pointer (some ⟨x.R, 0, none⟩))) (go_keep) (first | (go_at_call 21; refine HD.out.mono ?_; rintro r w1 ⟨rfl, rfl⟩; rw [← Hn.out]) | (go_at_call 53; refine HR.out.mono ?_; rintro r w1 ⟨rfl, rfl⟩; rw [← Hn.out]))
  all_goals
    go_wp2_with fail
    go_ret
    exact ⟨rfl, HS1.out _ ((Apart.refl [] V).drewN 1)⟩
end Go.Proofs.Ythmloakkefiicaa.dk
