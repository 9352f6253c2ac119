import Derived.Test.YtdbeeikjngnnnaaT61
import Derived.Test.YtdbeeikjngnnnaaT58
import Derived.Test.YtdbeeikjngnnnaaT56
import Derived.Test.YtdbeeikjngnnnaaGK
namespace Go.Proofs.Ytdbeeikjngnnnaa.ty
open Go.ChangeShapes Go.WideShapes Go.ChangeAt Go.RowKit
set_option linter.unusedVariables false
set_option linter.unusedSimpArgs false
theorem Merge_set {w : World} {V O : Nat} {c d : List Int} {es fs : List En} (hV : Ho w V (.set c es)) (hO : Ho w O (.set d fs)) (ok : Ok (.set c es)) (ok' : Ok (.set d fs)) : Calls Try.prog 14 #[.pointer (some ⟨V, 0, none⟩), .pointer (some ⟨O, 0, none⟩)] w fun r w' => r = .returned (.int .i64 0) ∧ Ho w' V (.set (gr c d) (mgE c d es fs)) ∧ Apart [V] w w' := by
  obtain ⟨sa, hV, ea⟩ := hV
  obtain ⟨sb, hO, eb⟩ := hO
  have h1 := ok.2.2.1
  have h2 := ok'.2.2.1
  have l1 := ea.len
  have l2 := eb.len
  refine (Merge_ok (P := fun xs w' => ∃ s', xs = sv (gr c d) s' ∧ Es w' s' (mgE c d es fs)) hV hO (fun wx a => merged_22 (sv_size ok.1.1 _) (sv_one _ _) (sv_size ok'.1.1 _) (sv_one _ _) (fun wy a' => (smerged_ok ok.1.1 ok'.1.1 (ea.kept0 (a.trans a')) (eb.kept0 (a.trans a')) (by omega) (by omega)).mono ?_))).mono ?_
  · rintro _ w' ⟨s', rfl, h, a'⟩
    exact ⟨_, rfl, a', s', rfl, h⟩
  · rintro _ w' ⟨rfl, xs, w2, hb, a1, a2, s', rfl, h⟩
    exact ⟨rfl, ⟨s', hb, h.kept a2 (no106 (keep0 a1 hV))⟩, (a1.mono (by simp)).trans a2⟩
/-- any two values of one type -/
theorem Merge_v {w : World} {V O : Nat} {v o : Vl} (hV : Ho w V v) (hO : Ho w O o) (ok : Ok v) (ok' : Ok o) (e : v.kd = o.kd) : Calls Try.prog 14 #[.pointer (some ⟨V, 0, none⟩), .pointer (some ⟨O, 0, none⟩)] w fun r w' => r = .returned (.int .i64 0) ∧ Ho w' V (mgV v o) ∧ Apart [V] w w' := by
  revert hV hO ok ok'
  refine Vl.two (motive := fun v o => Ho w V v → Ho w O o → Ok v → Ok o → Calls Try.prog 14 #[.pointer (some ⟨V, 0, none⟩), .pointer (some ⟨O, 0, none⟩)] w fun r w' => r = .returned (.int .i64 0) ∧ Ho w' V (mgV v o) ∧ Apart [V] w w') ?_ ?_ ?_ ?_ v o e
  · exact fun u d p q hV hO ok ok' => Merge_cnt hV hO ok ok'
  · exact fun c es d fs hV hO ok ok' => Merge_set hV hO ok ok'
  · exact fun c g d f hV hO ok ok' => Merge_flg hV hO ok ok'
  · exact fun x y hV hO ok ok' => Merge_rgs hV hO
/-- a number brought into range -/
def wth (x : Int) (n : Nat) : Nat := ((if x < 0 then -(x + 1) else x) % (n : Int)).toNat
theorem wth_lt (x : Int) {n : Nat} (hn : 0 < n) : wth x n < n := by
  unfold wth
  have h1 := Int.emod_lt_of_pos (if x < 0 then -(x + 1) else x) (show (0 : Int) < n by omega)
  have h2 := Int.emod_nonneg (if x < 0 then -(x + 1) else x) (show (n : Int) ≠ 0 by omega)
  omega
set_option maxHeartbeats 2000000 in
set_option maxRecDepth 100000 in
theorem within_law (x : Int) (n : Nat) (hn : 0 < n) (hn2 : n ≤ 1000000) (hx : -9223372036854775808 ≤ x ∧ x ≤ 9223372036854775807) (w : World) : Calls Try.prog 25 #[.int .i64 x, .int .i64 (n : Nat)] w fun r w' => r = .returned (.int .i64 ((wth x n : Nat) : Int)) ∧ w' = w := by
  have HN : Hid (∀ y : Int, 0 ≤ y → y.tmod n = ((y % n).toNat : Int)) := fun y hy => by
    have h1 := Int.emod_nonneg y (show (n : Int) ≠ 0 by omega)
    rw [Int.tmod_eq_emod_of_nonneg hy]
    omega
  by_cases h : x < 0
  · have w1 : IntKind.i64.wrap (x + 1) = x + 1 := by rw [IntKind.wrap_i64]; omega
    have w2 : IntKind.i64.wrap (-(x + 1)) = -(x + 1) := by rw [IntKind.wrap_i64]; omega
    have hnz : ¬ ((n : Nat) : Int) = 0 := by omega
    have HE : Hid ((-(x + 1)).tmod n = ((wth x n : Nat) : Int)) := by unfold Hid wth; rw [HN.out _ (by omega), if_pos h]
    go_enter Try.func25, Try.ntmps25
    go_wp2_with fail
    go_ret
    exact ⟨by show Ending.returned (Value.int .i64 (-((x + 1).tmod n))) = _; rw [← Int.neg_tmod, HE.out], rfl⟩
  · have hnz : ¬ ((n : Nat) : Int) = 0 := by omega
    have HE : Hid (x % (n : Int) = ((wth x n : Nat) : Int)) := by
      unfold Hid wth
      rw [if_neg h]
      have h1 := Int.emod_nonneg x (show (n : Int) ≠ 0 by omega)
      omega
    go_enter Try.func25, Try.ntmps25
    go_wp2_with fail
    go_ret
    exact ⟨by show Ending.returned (Value.int .i64 (x % (n : Int))) = _; rw [HE.out], rfl⟩
/-! ### values beside one another -/
structure Vs (w0 w : World) (l : List (Nat × Vl)) : Prop where
  ap : Apart [] w0 w
  ge : ∀ p ∈ l, w0.heap.size ≤ p.1
  ho : ∀ p ∈ l, Ho w p.1 p.2
  ne : l.Pairwise fun p q => p.1 ≠ q.1
theorem Vs.nil {w0 w : World} (a : Apart [] w0 w) : Vs w0 w [] := ⟨a, by simp, by simp, List.Pairwise.nil⟩
theorem Ho.lt {w : World} {V : Nat} {v : Vl} (h : Ho w V v) : V < w.heap.size := by
  obtain ⟨b, hb⟩ := h.bd
  exact lt_of_heap hb
theorem Vs.kept0 {w0 w w' : World} {l : List (Nat × Vl)} (h : Vs w0 w l) (a : Apart [] w w') : Vs w0 w' l :=
  ⟨h.ap.trans a, h.ge, fun p hp => (h.ho p hp).kept0 a, h.ne⟩
theorem Vs.add {w0 w w' : World} {l : List (Nat × Vl)} {V : Nat} {v : Vl} (h : Vs w0 w l) (hV : w.heap.size ≤ V) (o : Ho w' V v) (a : Apart [] w w') : Vs w0 w' ((V, v) :: l) := by
  refine ⟨h.ap.trans a, fun p hp => ?_, fun p hp => ?_, List.pairwise_cons.2 ⟨fun p hp => ?_, h.ne⟩⟩
  · rcases List.mem_cons.1 hp with rfl | hp
    · exact Nat.le_trans h.ap.size hV
    · exact h.ge p hp
  · rcases List.mem_cons.1 hp with rfl | hp
    · exact o
    · exact (h.ho p hp).kept0 a
  · have := (h.ho p hp).lt
    simp only
    omega
theorem Vs.get {w0 w : World} {l : List (Nat × Vl)} (h : Vs w0 w l) (i : Nat) {V : Nat} {v : Vl} (e : l[i]? = some (V, v)) : Ho w V v := h.ho (V, v) (List.mem_of_getElem? e)
theorem Vs.upd {w0 w w' : World} {l : List (Nat × Vl)} (h : Vs w0 w l) (i : Nat) {V : Nat} {v v' : Vl} (e : l[i]? = some (V, v)) (a : Apart [V] w w') (o : Ho w' V v') : Vs w0 w' (l.set i (V, v')) := by
  obtain ⟨hi, e'⟩ := List.getElem?_eq_some_iff.1 e
  have hm : (V, v) ∈ l := List.mem_of_getElem? e
  have hoth : ∀ j (hj : j < l.length), j ≠ i → l[j].1 ≠ V := by
    intro j hj hne
    have hp := List.pairwise_iff_getElem.1 h.ne
    rcases Nat.lt_or_gt_of_ne hne with hlt | hlt
    · have := hp j i hj hi hlt; rwa [e'] at this
    · have := hp i j hi hj hlt; rw [e'] at this; exact fun k => this k.symm
  refine ⟨h.ap.trans' a (by intro y hy; simp at hy; rw [hy]; exact .inr (h.ge _ hm)), fun p hp => ?_, fun p hp => ?_, ?_⟩
  · rcases List.mem_or_eq_of_mem_set hp with hp | rfl
    · exact h.ge p hp
    · exact h.ge (V, v) hm
  · obtain ⟨j, hj, ej⟩ := List.mem_iff_getElem.1 hp
    rw [List.length_set] at hj
    rw [List.getElem_set] at ej
    split at ej
    · rw [← ej]; exact o
    · rename_i hij
      rw [← ej]
      exact (h.ho _ (List.getElem_mem hj)).otherV a (h.get i e) (hoth j hj (fun k => hij k.symm))
  · refine List.pairwise_iff_getElem.2 fun j k hj hk hjk => ?_
    rw [List.length_set] at hj hk
    have hp := List.pairwise_iff_getElem.1 h.ne j k hj hk hjk
    rw [List.getElem_set, List.getElem_set]
    split
    · rename_i e1
      split
      · omega
      · rename_i e2
        exact fun q => hoth k hk (fun q => e2 q.symm) q.symm
    · rename_i e1
      split
      · rename_i e2
        exact hoth j hj (fun q => e1 q.symm)
      · exact hp
theorem Merge_u {w : World} {V O : Nat} {v o u : Vl} (hV : Ho w V v) (hO : Ho w O o) (ok : Ok v) (ok' : Ok o) (e : v.kd = o.kd) (hu : mgV v o = u) : Calls Try.prog 14 #[.pointer (some ⟨V, 0, none⟩), .pointer (some ⟨O, 0, none⟩)] w fun r w' => r = .returned (.int .i64 0) ∧ Ho w' V u ∧ Apart [V] w w' := by
  rw [← hu]
  exact Merge_v hV hO ok ok' e
theorem Gv.nil (w : World) : Gv w ⟨none, 0, 0⟩ [] := ⟨Rd.nil _ _, rfl, fun _ => ⟨rfl, rfl⟩, by intro x hx; simp at hx, by simp⟩
set_option maxHeartbeats 4000000 in
set_option maxRecDepth 100000 in
/-- merged -/
theorem merged_ok {w : World} {sa sb sc : Sl} {xa bs cs : List Nat} (k : Nat) (h1 : 1 ≤ k) (h4 : k ≤ 4) (ha : Gv w sa xa) (hb : Gv w sb bs) (hc : Gv w sc cs) : Calls Try.prog 26 #[.int .i64 (k : Int), .slice sa.p sa.n sa.c, .slice sb.p sb.n sb.c, .slice sc.p sc.n sc.c] w fun r w' => ∃ V, r = .returned (.pointer (some ⟨V, 0, none⟩)) ∧ w.heap.size ≤ V ∧ Ho w' V (mgV (mgV (valV k xa) (valV k bs)) (valV k cs)) ∧ Apart [] w w' := by
  have HGa := hid ha
  have HGb := hid hb
  have HGc := hid hc
  have H14 := hid (And.intro h1 h4)
  have HKa := hid (Gk.val h1 h4 ha.u8)
  have HKb := hid (Gk.val h1 h4 hb.u8)
  have HKc := hid (Gk.val h1 h4 hc.u8)
  have HCa := hid (fun wx (a : Apart [] w wx) => value_ok k H14.out.1 H14.out.2 (HGa.out.kept0 a))
  have HCb := hid (fun wx (a : Apart [] w wx) => value_ok k H14.out.1 H14.out.2 (HGb.out.kept0 a))
  have HCc := hid (fun wx (a : Apart [] w wx) => value_ok k H14.out.1 H14.out.2 (HGc.out.kept0 a))
  have HEc : Hid (sc.p = none → valV k cs = new0 k) := hid (fun e => by
    have h2 := (HGc.out.ok e).1
    have h3 := HGc.out.len
    have h4 : cs = [] := List.eq_nil_of_length_eq_zero (by omega)
    rw [h4]; exact valV_nil k)
  obtain ⟨va, Hva⟩ : ∃ v, Hid (v = valV k xa) := ⟨_, hid rfl⟩
  obtain ⟨vb, Hvb⟩ : ∃ v, Hid (v = valV k bs) := ⟨_, hid rfl⟩
  obtain ⟨vc, Hvc⟩ : ∃ v, Hid (v = valV k cs) := ⟨_, hid rfl⟩
  rw [← Hva.out] at HKa HCa ⊢
  rw [← Hvb.out] at HKb HCb ⊢
  rw [← Hvc.out] at HKc HCc HEc ⊢
  obtain ⟨ab, Hab⟩ : ∃ v, Hid (v = mgV va vb) := ⟨_, hid rfl⟩
  have HKab := hid (HKa.out.mg HKb.out)
  rw [← Hab.out] at HKab ⊢
  have HV := hid (Vs.nil (Apart.refl [] w))
  obtain ⟨pc, Hpc⟩ : ∃ p, Hid (p = sc.p) := ⟨_, hid rfl⟩
  rw [← Hpc.out] at HEc HCc ⊢
  clear ha hb hc h1 h4
  go_enter Try.func26, Try.ntmps26
  go_upto_region 2 with (go_at_call 12; refine (HCa.out _ HV.out.ap).mono ?_; rintro _ w1 ⟨V1, rfl, g1, o1, a1⟩; replace HV := hid (HV.out.add g1 o1 a1); clear g1 o1 a1)
  go_upto_region 3 with (first
    | (go_at_call 12; refine (HCb.out _ HV.out.ap).mono ?_; rintro _ w2 ⟨V2, rfl, g2, o2, a2⟩; replace HV := hid (HV.out.add g2 o2 a2); clear g2 o2 a2)
    | (go_at_call 14; refine (Merge_u (HV.out.get 1 rfl) (HV.out.get 0 rfl) HKa.out.ok HKb.out.ok (HKa.out.kd.trans HKb.out.kd.symm) Hab.out.symm).mono ?_; rintro _ w3 ⟨rfl, o3, a3⟩; replace HV := hid (show Vs w w3 [(V2, vb), (V1, ab)] from HV.out.upd 1 rfl a3 o3); clear o3 a3))
  cases pc with
  | none =>
    go_wp2_with fail
    go_ret
    refine ⟨V1, rfl, HV.out.ge (V1, ab) (by simp), ?_, HV.out.ap⟩
    rw [HEc.out (by trivial), ← HKab.out.kd, mgV_new HKab.out.gd]
    exact HV.out.get 1 rfl
  | some ad =>
    go_wp2_with (first
      | (go_at_call 12; refine (HCc.out _ HV.out.ap).mono ?_; rintro _ w4 ⟨V4, rfl, g4, o4, a4⟩; replace HV := hid (HV.out.add g4 o4 a4); clear g4 o4 a4)
      | (go_at_call 14; refine (Merge_u (HV.out.get 2 rfl) (HV.out.get 0 rfl) HKab.out.ok HKc.out.ok (HKab.out.kd.trans HKc.out.kd.symm) rfl).mono ?_; rintro _ w5 ⟨rfl, o5, a5⟩; replace HV := hid (show Vs w w5 [(V4, vc), (V2, vb), (V1, mgV ab vc)] from HV.out.upd 2 rfl a5 o5); clear o5 a5))
    go_ret
    exact ⟨V1, rfl, HV.out.ge (V1, mgV ab vc) (by simp), HV.out.get 2 rfl, HV.out.ap⟩
end Go.Proofs.Ytdbeeikjngnnnaa.ty
