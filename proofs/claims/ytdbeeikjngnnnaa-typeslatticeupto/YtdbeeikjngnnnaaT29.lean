import Derived.Test.YtdbeeikjngnnnaaT28
namespace Go.Proofs.Ytdbeeikjngnnnaa.ty
open Go.ChangeShapes Go.WideShapes Go.ChangeAt Go.RowKit
set_option linter.unusedVariables false
set_option linter.unusedSimpArgs false
theorem rv_all (a : List Int) : (rv a).toArray.all Value.oneCell' = true := all_oneCell_toArray (rv_one _)
theorem rg_all (s a : Int) (t : ByteArray) : (ty.rg s a t).all Value.oneCell' = true := by
  have := all_oneCell_toArray (cs := [Value.int .i64 s, .int .i64 a, .string t]) (by intro u hu; simp at hu; rcases hu with rfl | rfl | rfl <;> rfl)
  exact this
theorem Merge_diff {w : World} {V O : Nat} {v o : Vl} (hV : Ho w V v) (hO : Ho w O o) (ok : Ok v) (hk : v.kd ≠ o.kd) : Calls Try.prog 14 #[.pointer (some ⟨V, 0, none⟩), .pointer (some ⟨O, 0, none⟩)] w fun r w' => r = .returned (.int .i64 190) ∧ Apart [] w w' := by
  cases v using Vl.el with
  | cnt u d =>
    cases o using Vl.el with
    | cnt p q => exact absurd rfl hk
    | set e fs =>
      obtain ⟨sb, hO, -⟩ := hO
      exact Merge_no (by decide) hV hO (fun wx _ => merged_12 (by simp [rv_len, ok.1.1, ok.2.1]) (rv_all _))
    | flg e f =>
      exact Merge_no (by decide) hV hO (fun wx _ => merged_13 (by simp [rv_len, ok.1.1, ok.2.1]) (rv_all _))
    | rgs y z t2 =>
      exact Merge_no (by decide) hV hO (fun wx _ => merged_14 (by simp [rv_len, ok.1.1, ok.2.1]) (rv_all _))
  | set c es =>
    obtain ⟨sa, hV, -⟩ := hV
    cases o using Vl.el with
    | cnt p q =>
      exact Merge_no (by decide) hV hO (fun wx _ => merged_21 (sv_size ok.1.1 _) (sv_one _ _))
    | set e fs => exact absurd rfl hk
    | flg e f =>
      exact Merge_no (by decide) hV hO (fun wx _ => merged_23 (sv_size ok.1.1 _) (sv_one _ _))
    | rgs y z t2 =>
      exact Merge_no (by decide) hV hO (fun wx _ => merged_24 (sv_size ok.1.1 _) (sv_one _ _))
  | flg c g =>
    cases o using Vl.el with
    | cnt p q =>
      exact Merge_no (by decide) hV hO (fun wx _ => merged_31 (by simp [rv_len, ok.1.1, ok.2.1]) (rv_all _))
    | set e fs =>
      obtain ⟨sb, hO, -⟩ := hO
      exact Merge_no (by decide) hV hO (fun wx _ => merged_32 (by simp [rv_len, ok.1.1, ok.2.1]) (rv_all _))
    | flg e f => exact absurd rfl hk
    | rgs y z t2 =>
      exact Merge_no (by decide) hV hO (fun wx _ => merged_34 (by simp [rv_len, ok.1.1, ok.2.1]) (rv_all _))
  | rgs s x t =>
    cases o using Vl.el with
    | cnt p q =>
      exact Merge_no (by decide) hV hO (fun wx _ => merged_41 rfl (rg_all _ _ _))
    | set e fs =>
      obtain ⟨sb, hO, -⟩ := hO
      exact Merge_no (by decide) hV hO (fun wx _ => merged_42 rfl (rg_all _ _ _))
    | flg e f =>
      exact Merge_no (by decide) hV hO (fun wx _ => merged_43 rfl (rg_all _ _ _))
    | rgs y z t2 => exact absurd rfl hk
theorem Merge_cnt {w : World} {V O : Nat} {u d p q : List Int} (hV : Ho w V (.cnt u d)) (hO : Ho w O (.cnt p q)) (ok : Ok (.cnt u d)) (ok' : Ok (.cnt p q)) : Calls Try.prog 14 #[.pointer (some ⟨V, 0, none⟩), .pointer (some ⟨O, 0, none⟩)] w fun r w' => r = .returned (.int .i64 0) ∧ Ho w' V (.cnt (gr u p) (gr d q)) ∧ Apart [V] w w' := by
  refine (Merge_ok (P := fun es w' => es = (rv (gr u p ++ gr d q)).toArray) hV hO (fun wx _ => merged_11 (by simp [rv_len, ok.1.1, ok.2.1]) (rv_all _) (by simp [rv_len, ok'.1.1, ok'.2.1]) (rv_all _) (fun wy _ => (cmerged_ok ok.1.1 ok.2.1 ok'.1.1 ok'.2.1).mono ?_))).mono ?_
  · rintro _ w' ⟨rfl, a'⟩
    exact ⟨_, rfl, a', rfl⟩
  · rintro _ w' ⟨rfl, es, w2, hb, a1, a2, rfl⟩
    exact ⟨rfl, hb, (a1.mono (by simp)).trans a2⟩
theorem Merge_flg {w : World} {V O : Nat} {u d p q : List Int} (hV : Ho w V (.flg u d)) (hO : Ho w O (.flg p q)) (ok : Ok (.flg u d)) (ok' : Ok (.flg p q)) : Calls Try.prog 14 #[.pointer (some ⟨V, 0, none⟩), .pointer (some ⟨O, 0, none⟩)] w fun r w' => r = .returned (.int .i64 0) ∧ Ho w' V (.flg (gr u p) (mt d u q p)) ∧ Apart [V] w w' := by
  refine (Merge_ok (P := fun es w' => es = (rv (gr u p ++ mt d u q p)).toArray) hV hO (fun wx _ => merged_33 (by simp [rv_len, ok.1.1, ok.2.1]) (rv_all _) (by simp [rv_len, ok'.1.1, ok'.2.1]) (rv_all _) (fun wy _ => (fmerged_ok ok.1.1 ok.2.1 ok'.1.1 ok'.2.1).mono ?_))).mono ?_
  · rintro _ w' ⟨rfl, a'⟩
    exact ⟨_, rfl, a', rfl⟩
  · rintro _ w' ⟨rfl, es, w2, hb, a1, a2, rfl⟩
    exact ⟨rfl, hb, (a1.mono (by simp)).trans a2⟩
/-- the later one of two writings -/
def laterR (s a : Int) (t : ByteArray) (s2 a2 : Int) (t2 : ByteArray) : Vl := if orL [cmI s s2, cmI a a2, cmS t t2] < 0 then .rgs s2 a2 t2 else .rgs s a t
theorem Merge_rgs {w : World} {V O : Nat} {s a s2 a2 : Int} {t t2 : ByteArray} (hV : Ho w V (.rgs s a t)) (hO : Ho w O (.rgs s2 a2 t2)) : Calls Try.prog 14 #[.pointer (some ⟨V, 0, none⟩), .pointer (some ⟨O, 0, none⟩)] w fun r w' => r = .returned (.int .i64 0) ∧ Ho w' V (laterR s a t s2 a2 t2) ∧ Apart [V] w w' := by
  refine (Merge_ok (P := fun es w' => (later s a t s2 a2 t2 → es = ty.rg s2 a2 t2) ∧ (¬ later s a t s2 a2 t2 → es = ty.rg s a t)) hV hO (fun wx _ => merged_44 rfl (rg_all _ _ _) rfl (rg_all _ _ _) (fun wy _ => gmerged_ok.mono ?_))).mono ?_
  · rintro r w' ⟨h1, h2, a'⟩
    by_cases hL : later s a t s2 a2 t2
    · exact ⟨_, h1 hL, a', fun _ => rfl, fun h => absurd hL h⟩
    · exact ⟨_, h2 hL, a', fun h => absurd h hL, fun _ => rfl⟩
  · rintro _ w' ⟨rfl, es, w2, hb, b1, b2, h1, h2⟩
    refine ⟨rfl, ?_, (b1.mono (by simp)).trans b2⟩
    unfold laterR
    by_cases hL : later s a t s2 a2 t2
    · rw [if_pos (show orL [cmI s s2, cmI a a2, cmS t t2] < 0 from hL)]; rw [h1 hL] at hb; exact hb
    · rw [if_neg (show ¬ orL [cmI s s2, cmI a a2, cmS t t2] < 0 from hL)]; rw [h2 hL] at hb; exact hb
/-- two new ones of one type -/
theorem Merge_new {w : World} {V O : Nat} (k : Nat) (h1 : 1 ≤ k) (h4 : k ≤ 4) (hV : Ho w V (new0 k)) (hO : Ho w O (new0 k)) : Calls Try.prog 14 #[.pointer (some ⟨V, 0, none⟩), .pointer (some ⟨O, 0, none⟩)] w fun r w' => r = .returned (.int .i64 0) ∧ Ho w' V (new0 k) ∧ Apart [V] w w' := by
  have ok := new0_ok k
  obtain rfl | rfl | rfl | rfl : k = 1 ∨ k = 2 ∨ k = 3 ∨ k = 4 := by omega
  · exact (Merge_cnt hV hO ok ok).mono (fun r w' h => h)
  · obtain ⟨sa, hV, ea⟩ := hV
    obtain ⟨sb, hO, eb⟩ := hO
    have hgr : gr zr zr = zr := by decide
    refine (Merge_ok (P := fun es w' => es = sv zr ⟨none, 0, 0⟩) hV hO (fun wx _ => merged_22 (sv_size rfl _) (sv_one _ _) (sv_size rfl _) (sv_one _ _) (fun wy _ => (smerged0 (c := zr) (d := zr) rfl rfl ea.len eb.len).mono ?_))).mono ?_
    · rintro _ w' ⟨rfl, a'⟩
      exact ⟨_, rfl, a', by rw [hgr]⟩
    · rintro _ w' ⟨rfl, es, w2, hb, a1, a2, rfl⟩
      exact ⟨rfl, ⟨_, hb, Es.nil _⟩, (a1.mono (by simp)).trans a2⟩
  · refine (Merge_flg hV hO ok ok).mono (fun r w' h => ?_)
    have hgr : gr zr zr = zr := by decide
    have hmt : mt zr zr zr zr = zr := by decide
    rw [hgr, hmt] at h
    exact h
  · refine (Merge_rgs hV hO).mono (fun r w' h => ?_)
    have hL : ¬ later 0 0 ⟨#[]⟩ 0 0 ⟨#[]⟩ := by
      unfold later
      have e1 : cmS ⟨#[]⟩ ⟨#[]⟩ = 0 := by unfold cmS; simp [Op.bytesLess]
      rw [e1]
      decide
    unfold laterR at h
    rw [if_neg (show ¬ orL [cmI 0 0, cmI 0 0, cmS ⟨#[]⟩ ⟨#[]⟩] < 0 from hL)] at h
    exact h
end Go.Proofs.Ytdbeeikjngnnnaa.ty
