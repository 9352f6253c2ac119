import Derived.Test.YthmloakkefiicaaTaken
namespace Go.Proofs.Ythmloakkefiicaa.dk
open Go.ChangeShapes Go.WideShapes Go.ChangeAt Go.RowKit
set_option linter.unusedVariables false
set_option linter.unusedSimpArgs false
set_option maxHeartbeats 8000000 in
set_option maxRecDepth 100000 in
theorem tells_11 {w : World} {P : Nat} {x : Pd} {who : Nat → Option Nat} (h : Pr w P x who) {K : Nat} (hK : Bk x K) (hK9 : K ≤ 900) (wh N M : Int) {p : Option Addr} {l c : Nat} {bs : List Int} (hb : OpB w who p l c bs) :
    Calls Try.prog 43 #[.pointer (some ⟨P, 0, none⟩), .agg #[.int .i64 11, .int .i64 wh, .int .i64 N, .int .i64 M, .slice p l c]] w fun r w' => r = .returned (.bool true) ∧ St w w' P who (K + 2) none := by
  have aB : Apart [] w (w.alloc (.cells #[.int .i64 11, .int .i64 wh, .int .i64 N, .int .i64 M, .slice p l c] 58)) := (Apart.refl _ _).alloc _
  have h1 := h.kept0 aB
  have HS1 : Hid (∀ W, Apart [] (w.alloc (.cells #[.int .i64 11, .int .i64 wh, .int .i64 N, .int .i64 M, .slice p l c] 58)) W → St w W P who (K + 2) none) := fun W a => St.of aB.fr (h1.stay hK a)
  have HT := hid (taken_pr (w.alloc (.cells #[.int .i64 11, .int .i64 wh, .int .i64 N, .int .i64 M, .slice p l c] 58)) p l c bs (hb.kept aB.fr).src hb.nil hb.le)
  clear h h1 hK hb
  go_enter Try.func43, Try.ntmps43
  go_wp2_with fail
  generalize hV : w.alloc (.cells #[.int .i64 11, .int .i64 wh, .int .i64 N, .int .i64 M, .slice p l c] 58) = V at *
  generalize w.heap.size = B at *
  clear hV
  refine HT.out.mono ?_
  rintro r w1 (⟨rfl, a1⟩ | ⟨Q, y, wq, rfl, np⟩)
  · dsimp only
    have S1 := hid (HS1.out w1 a1)
    clear a1
    go_wp2_with fail
    go_ret
    exact ⟨rfl, S1.out⟩
  · dsimp only
    have NP := hid np
    clear np HT
    have hp := NP.out.pr
    have r0 : ∀ W, Apart [] w1 W → W.cell? ⟨Q, 0, none⟩ = some (.pointer (some ⟨y.D, 0, none⟩)) := fun W a => a.keep hp.c0
    have r1 : ∀ W, Apart [] w1 W → W.cell? ⟨Q, 1, none⟩ = some (.pointer (some ⟨y.R, 0, none⟩)) := fun W a => a.keep hp.c1
    obtain ⟨n, Hn⟩ : ∃ n : Nat, Hid (n = y.d.n) := ⟨_, rfl⟩
    have r2 : ∀ W, Apart [] w1 W → W.cell? ⟨y.R, 0, none⟩ = some (.int .i64 (n : Nat)) := fun W a => a.keep (by rw [Hn.out, hp.bd.rel.n]; exact hp.rp.at'.r0)
    have R0 := hid r0
    obtain ⟨i1, i2⟩ := both_image (hp.kept0 ((Apart.refl [] w1).drewN 1)) NP.out.bk (by omega)
    have I1 := hid i1
    have I2 := hid i2
    have I3 : Hid (∀ W, Apart [] w1 W → Calls Try.prog 18 #[.pointer (some ⟨y.D, 0, none⟩)] W fun r w' => r = .returned (.bool true) ∧ w' = W) := fun W a => isOn_any W y.D true (by have := (hp.kept0 a).dp.at'.c1; rw [NP.out.on] at this; exact this)
    have I4 : Hid (∀ W, Apart [] w1 W → Calls Try.prog 21 #[.pointer (some ⟨y.D, 0, none⟩)] W fun r w' => r = .returned (.int .i64 0) ∧ w' = W) := fun W a => writes_any W y.D 0 (by have := (hp.kept0 a).dp.at'.c5; rw [NP.out.wr] at this; exact this)
    have I5 : Hid (∀ W, Apart [] w1 W → Calls Try.prog 26 #[.pointer (some ⟨y.D, 0, none⟩)] W fun r w' => r = .returned (.int .i64 (n : Nat)) ∧ w' = W) := fun W a => by have := sectors_any (hp.kept0 a).dp.at'; rw [← Hn.out] at this; exact this
    clear hp i1 i2
    go_wp2_with fail
    go_region_held (fun W => Apart [] w1 W) (first | assumption | exact (Apart.refl [] w1).drewN 1) (first
      | (go_at_call 22; refine I1.out.mono ?_; rintro r w2 ⟨p2, l2, c2, GA, rfl, nb⟩; have NB := hid nb; have A2 : Apart [] w1 w2 := ((Apart.refl [] w1).drewN 1).trans nb.ap; clear nb)
      | (go_at_call 55; refine (I2.out w2 NB.out.ap).mono ?_; rintro r w3 ⟨p3, l3, c3, rfl, rb⟩; have RB := hid rb; have A3 : Apart [] w1 w3 := A2.trans rb.ap; clear rb)
      | (go_at_call 28; refine (same_src w3 p2 p3 l2 l3 c2 c3 y.d.mem (NB.out.at'.kept RB.out.ap (by simp)).src RB.out.src NB.out.at'.nil RB.out.nil).mono ?_; rintro r w4 ⟨rfl, rfl⟩)
      | (go_at_call 18; refine (I3.out _ A3).mono ?_; rintro r w4 ⟨rfl, rfl⟩)
      | (go_at_call 21; refine (I4.out _ A3).mono ?_; rintro r w4 ⟨rfl, rfl⟩)
      | (go_at_call 26; refine (I5.out _ A3).mono ?_; rintro r w4 ⟨rfl, rfl⟩))
    have S1 := hid (HS1.out _ (NP.out.ap.trans A3))
    clear r0 r1 r2 A2 A3 RB NB
    go_wp2_with fail
    go_ret
    exact ⟨rfl, S1.out⟩
end Go.Proofs.Ythmloakkefiicaa.dk
