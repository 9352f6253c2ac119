import Derived.Test.YtdbeeikjngnnnaaG27
import Derived.Lib.MinMaxS
namespace Go.Proofs.Ytdbeeikjngnnnaa.ty
open Go.ChangeShapes Go.WideShapes Go.ChangeAt Go.RowKit
set_option linter.unusedVariables false
set_option linter.unusedSimpArgs false
/-- the least element of two lists -/
def leaE (m t : List En) : ByteArray := match m, t with
  | [], [] => ⟨#[]⟩
  | [], y :: _ => y.e
  | x :: _, [] => x.e
  | x :: _, y :: _ => Lib.minS x.e y.e
theorem Es.first {w : World} {s : Sl} {x : En} {r : List En} (h : Es w s (x :: r)) : ∃ P o, s.p = some ⟨P, o, none⟩ ∧ w.rangeAt P o x.vs ∧ P < w.heap.size := by
  obtain ⟨P, o, h1, h2, h3⟩ := h.at 0 (by simp)
  rw [Nat.zero_mul, Nat.add_zero] at h2
  exact ⟨P, o, h1, h2, h3⟩
set_option maxRecDepth 100000 in
theorem least_right {w : World} {a b : Sl} {y : En} {t : List En} (ha : a.n = 0) (hb : Es w b (y :: t)) (hl : b.n ≤ 1000000) : Calls Try.prog 40 #[.slice a.p a.n a.c, .slice b.p b.n b.c] w fun r w' => r = .returned (.string y.e) ∧ Apart [] w w' := by
  obtain ⟨P, o, hp, hr, hP⟩ := hb.first
  have z : w.cell? ⟨P, o, none⟩ = some (.string y.e) := by have := hr 0 _ rfl; rwa [Nat.add_zero] at this
  have hn : ((b.n : Nat) : Int) > 0 := by have := hb.len; simp at this; omega
  have hn2 : (0 : Int) < ((b.n : Nat) : Int) := hn
  rw [ha, hp]
  clear hb hr hP hp ha
  go_enter Try.func40, Try.ntmps40
  go_wp2_with fail
  go_ret
  exact ⟨rfl, Apart.refl _ _⟩
set_option maxRecDepth 100000 in
theorem least_left {w : World} {a b : Sl} {x : En} {m : List En} (ha : Es w a (x :: m)) (hb : b.n = 0) (hl : a.n ≤ 1000000) : Calls Try.prog 40 #[.slice a.p a.n a.c, .slice b.p b.n b.c] w fun r w' => r = .returned (.string x.e) ∧ Apart [] w w' := by
  obtain ⟨P, o, hp, hr, hP⟩ := ha.first
  have z : w.cell? ⟨P, o, none⟩ = some (.string x.e) := by have := hr 0 _ rfl; rwa [Nat.add_zero] at this
  have hn : (0 : Int) < ((a.n : Nat) : Int) := by have := ha.len; simp at this; omega
  have hne : (((a.n : Nat) : Int) == 0) = false := by simp only [beq_eq_false_iff_ne]; omega
  rw [hb, hp]
  clear ha hr hP hp hb
  go_enter Try.func40, Try.ntmps40
  go_wp2_with fail
  go_ret
  exact ⟨rfl, Apart.refl _ _⟩
set_option maxRecDepth 100000 in
theorem least_both {w : World} {a b : Sl} {x y : En} {m t : List En} (ha : Es w a (x :: m)) (hb : Es w b (y :: t)) (hl : a.n ≤ 1000000) (hl' : b.n ≤ 1000000) : Calls Try.prog 40 #[.slice a.p a.n a.c, .slice b.p b.n b.c] w fun r w' => r = .returned (.string (Lib.minS x.e y.e)) ∧ Apart [] w w' := by
  obtain ⟨P, o, hp, hr, hP⟩ := ha.first
  obtain ⟨P', o', hp', hr', hP'⟩ := hb.first
  have HZ : Hid (w.cell? ⟨P, o, none⟩ = some (.string x.e)) := hid (by have := hr 0 _ rfl; rwa [Nat.add_zero] at this)
  have HZ' : Hid (w.cell? ⟨P', o', none⟩ = some (.string y.e)) := hid (by have := hr' 0 _ rfl; rwa [Nat.add_zero] at this)
  have HP := hid hP
  have HP' := hid hP'
  have hn : (0 : Int) < ((a.n : Nat) : Int) := by have := ha.len; simp at this; omega
  have hne : (((a.n : Nat) : Int) == 0) = false := by simp only [beq_eq_false_iff_ne]; omega
  have hn' : (0 : Int) < ((b.n : Nat) : Int) := by have := hb.len; simp at this; omega
  have hne' : (((b.n : Nat) : Int) == 0) = false := by simp only [beq_eq_false_iff_ne]; omega
  have hm := fun (wx : World) (ts : Array TypeId) (ty : TypeId) => Lib.run_min_strs (P := Try.prog) wx ts ty x.e y.e
  obtain ⟨z, Hz⟩ : ∃ z, Hid (z = Lib.minS x.e y.e) := ⟨_, hid rfl⟩
  rw [← Hz.out] at hm ⊢
  rw [hp, hp']
  clear ha hb hr hr' hp hp' hP hP'
  go_enter Try.func40, Try.ntmps40
  go_upto_region 5 with fail
  have hAd : Apart [] w w.drew := (Apart.refl [] w).drew
  refine wp_region_held_drew (S := fun W => Apart [] w W) (by kernel_rfl) hAd (fun hHeld => ?_)
  generalize w.drew = wd at *
  clear hAd
  refine tk 0 19 (.slice (some ⟨P, o, none⟩) a.n a.c) rfl ?_ ?_
  · intro W hSW; go_simp
  simp only [Act.put, List.setIfInBounds_toArray, List.set_cons_zero, List.set_cons_succ]
  refine tk 1 20 (.pointer (some ⟨P, o, none⟩)) rfl ?_ ?_
  · intro W hSW; go_simp; intro e; omega
  simp only [Act.put, List.setIfInBounds_toArray, List.set_cons_zero, List.set_cons_succ]
  refine tk 2 21 (.pointer (some ⟨P, o, none⟩)) rfl ?_ ?_
  · intro W hSW; go_simp
  simp only [Act.put, List.setIfInBounds_toArray, List.set_cons_zero, List.set_cons_succ]
  refine tk 3 22 (.string x.e) rfl ?_ ?_
  · intro W hSW; have z := (hSW.cell (p := ⟨P, o, none⟩) HP.out (by simp)).trans HZ.out; go_simp
  simp only [Act.put, List.setIfInBounds_toArray, List.set_cons_zero, List.set_cons_succ]
  refine tk 4 23 (.slice (some ⟨P', o', none⟩) b.n b.c) rfl ?_ ?_
  · intro W hSW; go_simp
  simp only [Act.put, List.setIfInBounds_toArray, List.set_cons_zero, List.set_cons_succ]
  refine tk 5 24 (.pointer (some ⟨P', o', none⟩)) rfl ?_ ?_
  · intro W hSW; go_simp; intro e; omega
  simp only [Act.put, List.setIfInBounds_toArray, List.set_cons_zero, List.set_cons_succ]
  refine tk 6 25 (.pointer (some ⟨P', o', none⟩)) rfl ?_ ?_
  · intro W hSW; go_simp
  simp only [Act.put, List.setIfInBounds_toArray, List.set_cons_zero, List.set_cons_succ]
  refine tk 7 26 (.string y.e) rfl ?_ ?_
  · intro W hSW; have z := (hSW.cell (p := ⟨P', o', none⟩) HP'.out (by simp)).trans HZ'.out; go_simp
  simp only [Act.put, List.setIfInBounds_toArray, List.set_cons_zero, List.set_cons_succ]
  refine tk 8 27 (.string z) rfl ?_ ?_
  · intro W hSW; go_simp
  simp only [Act.put, List.setIfInBounds_toArray, List.set_cons_zero, List.set_cons_succ]
  refine tk 9 4 (.string z) rfl ?_ ?_
  · intro W hSW; go_simp
  simp only [Act.put, List.setIfInBounds_toArray, List.set_cons_zero, List.set_cons_succ]
  refine wpAnyH_done (by kernel_rfl) ?_ _
  have HSd := hid hHeld
  clear hHeld
  go_wp2_with fail
  go_ret
  exact ⟨rfl, HSd.out⟩
end Go.Proofs.Ytdbeeikjngnnnaa.ty
