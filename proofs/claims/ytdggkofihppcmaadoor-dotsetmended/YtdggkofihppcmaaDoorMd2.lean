import Derived.Test.YtdggkofihppcmaaDoorMd1
import Derived.Test.YtdggkofihppcmaaDoorMs38c
namespace Go.Proofs.YtdggkofihppcmaaDoor.ds
open Go.ChangeShapes Go.WideShapes Go.ChangeAt Go.RowKit
set_option linter.unusedVariables false
set_option linter.unusedSimpArgs false
theorem HW.cells {A B : World} {BH : Nat} {gp : Int} {h : Hs} (hw : HW A BH gp h) (hc : ∀ (k : Nat) (o : Obj), A.heap[k]? = some o → o.isCells = true → B.heap[k]? = some o) : HW B BH gp h := by
  obtain ⟨p, n, cap, hb, own, hl⟩ := hw.ex
  refine ⟨p, n, cap, hc _ _ hb rfl, ?_, hl⟩
  obtain ⟨hx, ⟨hv, hz⟩ | ⟨g, cap', cur, hv, hbb, hr, hrest⟩⟩ := own
  · exact ⟨hx, .inl ⟨hv, hz⟩⟩
  · exact ⟨hx, .inr ⟨g, cap', cur, hv, hbb, hc _ _ hr rfl, hrest⟩⟩
theorem HW.apart {A B : World} {BH : Nat} {gp : Int} {h : Hs} (hw : HW A BH gp h) (a : Apart [] A B) : HW B BH gp h := hw.cells (fun k o hk _ => (a.block k (lt_of_heap hk) (by simp)).trans hk)
set_option maxHeartbeats 4000000 in
set_option maxRecDepth 100000 in
theorem mended1_ok {W : World} (T : Tab W) {BO BH : Nat} {gp : Int} {h : Hs} (hO : W.cell? ⟨BO, 0, none⟩ = some (.pointer (some ⟨BH, 0, none⟩))) (hw : HW W BH gp h) (k : OkL gp h.xs) (hg : 1 ≤ gp ∧ gp ≤ 64) (hn : h.num < 500) (d : Int × Int) :
    Calls Tryd.prog 38 #[.agg #[.int .i64 d.1, .int .i64 d.2], .pointer (some ⟨BO, 0, none⟩)] W fun r W' => TakeP W W' r BH gp h d := by
  have aV : Apart [] W (W.alloc (.cells #[.int .i64 d.1, .int .i64 d.2] 35)) := (Apart.refl _ _).alloc _
  have HO := aV.keep hO
  have hT := hid (take_ok (T.kept0 aV) (hw.apart aV) k hg hn d)
  have HF := hid (aV.fr (K := fun k => ¬ k = BH))
  have hs := block_lt_of_cell hO
  simp only at hs
  clear T hw k hn aV hO
  go_enter Tryd.func38, Tryd.ntmps38
  go_wp2_with fail
  refine hT.out.mono ?_
  rintro r W' ⟨⟨rfl, h1, h2⟩⟩
  have P : Hid (TakeP W W' (.returned (.bool (hret gp h d))) BH gp h d) := ⟨rfl, h1, HF.out.trans h2⟩
  clear h1 h2 hT
  dsimp only
  go_wp2
  go_ret
  exact P.out
/-- on the way, and left -/
structure Jm (gp : Int) (B : List S) (BH : Nat) (pre : List (Int × Int)) (W : World) : Prop where
  hw : HW W BH gp (hrun gp B pre)
  ok : OkL gp (hrun gp B pre).xs
  lt : (hrun gp B pre).num < 500
structure Jl2 (gp : Int) (B : List S) (pre : List (Int × Int)) : Prop where
  ex : ∃ q d, pre = q ++ [d] ∧ hret gp (hrun gp B q) d = false
theorem clientM (gp : Int) (B : List S) (BH : Nat) : ClientC (Jm gp B BH) (fun pre _ => Jl2 gp B pre) :=
  ⟨fun pre A W j hs hc => ⟨j.hw.cells hc, j.ok, j.lt⟩, fun pre A W j _ _ => j⟩
theorem mended_walk (w : World) (T : Tab w) (BO BA BB BH : Nat) (gp : Int) (pa pb : Option Addr) (na ca nb cb : Nat) (A B : List S) (hA : w.cell? ⟨BA, 0, none⟩ = some (.slice pa na ca)) (hB : w.cell? ⟨BB, 0, none⟩ = some (.slice pb nb cb)) (hO : w.cell? ⟨BO, 0, none⟩ = some (.pointer (some ⟨BH, 0, none⟩))) (la : L w pa na A) (lb : L w pb nb B) (ka : OkL gp A) (kb : OkL gp B) (hg : 1 ≤ gp ∧ gp ≤ 64) (ht : tot A ≤ 400)
    (hh : HW w BH gp ⟨B, 0, 0, 0, false⟩) (h0 : BH ≠ 0) (hAH : BA ≠ BH) (hBH : BB ≠ BH) (hOH : BO ≠ BH) (npa : ∀ P o, pa = some ⟨P, o, none⟩ → P ≠ BH) (npb : ∀ P o, pb = some ⟨P, o, none⟩ → P ≠ BH) :
    Calls Tryd.prog 60 #[.func (.func 38) #[] #[.pointer (some ⟨BO, 0, none⟩)], .pointer (some ⟨BA, 0, none⟩), .pointer (some ⟨BB, 0, none⟩)] w fun e w' => (∃ v, e = .returned v) ∧ HW w' BH gp (hrun gp B (lackL A B)) ∧ Fr (fun k => ¬ k = BH) w w' := by
  have hlt : BH < w.heap.size := by obtain ⟨p, n, cap, hb, _⟩ := hh.ex; exact lt_of_heap hb
  refine (miss_walk38c w T BO BA BB (fun k => k = BH) (Jm gp B BH) (fun pre _ => Jl2 gp B pre) (clientM gp B BH) pa pb na ca nb cb A B hA hB la lb (ka.mono hg.2) (kb.mono hg.2) (fun k hk => by rw [hk]; exact hlt) (fun h => h0 h.symm) hAH hBH npa npb ?_ ⟨hh, kb, by show 0 < 500; omega⟩).mono ?_
  · intro pre d W j f
    have hO' := f.cell hO hOH
    refine (mended1_ok (f.tab T (fun h => h0 h.symm)) hO' j.hw j.ok hg j.lt d).mono ?_
    rintro r W' ⟨⟨rfl, h1, h2⟩⟩
    refine ⟨?_, h2⟩
    cases hr : hret gp (hrun gp B pre) d with
    | true =>
      left
      refine ⟨rfl, ⟨by rw [hrun_snoc]; exact h1, by rw [hrun_snoc]; exact hstep_ok j.ok hg.1 hg.2 d, ?_⟩⟩
      rw [hrun_snoc]
      simp only [hret, Bool.and_eq_true, decide_eq_true_eq] at hr
      unfold hstep
      rw [if_pos hr.1]
      exact hr.2
    | false => exact .inr ⟨rfl, ⟨pre, d, rfl, hr⟩⟩
  · rintro e w' ⟨hv, hj, f⟩
    refine ⟨hv, ?_, f⟩
    rcases hj with hj | ⟨pre, hp, ⟨q, d, rfl, hr⟩⟩
    · exact hj.hw
    · rw [never_left ka kb hg.1 hg.2 ht hp] at hr; cases hr
end Go.Proofs.YtdggkofihppcmaaDoor.ds
