import Derived.Test.YtdbeeikjngnnnaaG28
import Derived.Test.YtdbeeikjngnnnaaG32
import Derived.Test.YtdbeeikjngnnnaaG33
namespace Go.Proofs.Ytdbeeikjngnnnaa.ty
open Go.ChangeShapes Go.WideShapes Go.ChangeAt Go.RowKit
set_option linter.unusedVariables false
set_option linter.unusedSimpArgs false
theorem Merge_set {w : World} {V O : Nat} {c d : List Int} {es fs : List En} (hV : Ho w V (.set c es)) (hO : Ho w O (.set d fs)) (ok : Ok (.set c es)) (ok' : Ok (.set d fs)) : Calls Try.prog 14 #[.pointer (some ⟨V, 0, none⟩), .pointer (some ⟨O, 0, none⟩)] w fun r w' => r = .returned (.int .i64 0) ∧ Ho w' V (.set (gr c d) (mgE c d es fs)) ∧ Apart [V] w w' := by
  obtain ⟨sa, hV, ea⟩ := hV
  obtain ⟨sb, hO, eb⟩ := hO
  have h1 := ok.2.2.1
  have h2 := ok'.2.2.1
  have l1 := ea.len
  have l2 := eb.len
  refine (Merge_ok (P := fun xs w' => ∃ s', xs = sv (gr c d) s' ∧ Es w' s' (mgE c d es fs)) hV hO (fun wx a => merged_22 (sv_size ok.1.1 _) (sv_one _ _) (sv_size ok'.1.1 _) (sv_one _ _) (fun wy a' => (smerged_ok ok.1.1 ok'.1.1 (ea.kept0 (a.trans a')) (eb.kept0 (a.trans a')) (by omega) (by omega)).mono ?_))).mono ?_
  · rintro _ w' ⟨s', rfl, h, a'⟩
    exact ⟨_, rfl, a', s', rfl, h⟩
  · rintro _ w' ⟨rfl, xs, w2, hb, a1, a2, s', rfl, h⟩
    exact ⟨rfl, ⟨s', hb, h.kept a2 (no106 (keep0 a1 hV))⟩, (a1.mono (by simp)).trans a2⟩
/-- any two values of one type -/
theorem Merge_v {w : World} {V O : Nat} {v o : Vl} (hV : Ho w V v) (hO : Ho w O o) (ok : Ok v) (ok' : Ok o) (e : v.kd = o.kd) : Calls Try.prog 14 #[.pointer (some ⟨V, 0, none⟩), .pointer (some ⟨O, 0, none⟩)] w fun r w' => r = .returned (.int .i64 0) ∧ Ho w' V (mgV v o) ∧ Apart [V] w w' := by
  revert hV hO ok ok'
  refine Vl.two (motive := fun v o => Ho w V v → Ho w O o → Ok v → Ok o → Calls Try.prog 14 #[.pointer (some ⟨V, 0, none⟩), .pointer (some ⟨O, 0, none⟩)] w fun r w' => r = .returned (.int .i64 0) ∧ Ho w' V (mgV v o) ∧ Apart [V] w w') ?_ ?_ ?_ ?_ v o e
  · exact fun u d p q hV hO ok ok' => Merge_cnt hV hO ok ok'
  · exact fun c es d fs hV hO ok ok' => Merge_set hV hO ok ok'
  · exact fun c g d f hV hO ok ok' => Merge_flg hV hO ok ok'
  · exact fun x y hV hO ok ok' => Merge_rgs hV hO
/-- a number brought into range -/
def wth (x : Int) (n : Nat) : Nat := ((if x < 0 then -(x + 1) else x) % (n : Int)).toNat
theorem wth_lt (x : Int) {n : Nat} (hn : 0 < n) : wth x n < n := by
  unfold wth
  have h1 := Int.emod_lt_of_pos (if x < 0 then -(x + 1) else x) (show (0 : Int) < n by omega)
  have h2 := Int.emod_nonneg (if x < 0 then -(x + 1) else x) (show (n : Int) ≠ 0 by omega)
  omega
set_option maxHeartbeats 2000000 in
set_option maxRecDepth 100000 in
theorem within_law (x : Int) (n : Nat) (hn : 0 < n) (hn2 : n ≤ 1000000) (hx : -9223372036854775808 ≤ x ∧ x ≤ 9223372036854775807) (w : World) : Calls Try.prog 25 #[.int .i64 x, .int .i64 (n : Nat)] w fun r w' => r = .returned (.int .i64 ((wth x n : Nat) : Int)) ∧ w' = w := by
  have HN : Hid (∀ y : Int, 0 ≤ y → y.tmod n = ((y % n).toNat : Int)) := fun y hy => by
    have h1 := Int.emod_nonneg y (show (n : Int) ≠ 0 by omega)
    rw [Int.tmod_eq_emod_of_nonneg hy]
    omega
  by_cases h : x < 0
  · have w1 : IntKind.i64.wrap (x + 1) = x + 1 := by rw [IntKind.wrap_i64]; omega
    have w2 : IntKind.i64.wrap (-(x + 1)) = -(x + 1) := by rw [IntKind.wrap_i64]; omega
    have hnz : ¬ ((n : Nat) : Int) = 0 := by omega
    have HE : Hid ((-(x + 1)).tmod n = ((wth x n : Nat) : Int)) := by unfold Hid wth; rw [HN.out _ (by omega), if_pos h]
    go_enter Try.func25, Try.ntmps25
    go_wp2_with fail
    go_ret
    exact ⟨by show Ending.returned (Value.int .i64 (-((x + 1).tmod n))) = _; rw [← Int.neg_tmod, HE.out], rfl⟩
  · have hnz : ¬ ((n : Nat) : Int) = 0 := by omega
    have HE : Hid (x % (n : Int) = ((wth x n : Nat) : Int)) := by
      unfold Hid wth
      rw [if_neg h]
      have h1 := Int.emod_nonneg x (show (n : Int) ≠ 0 by omega)
      omega
    go_enter Try.func25, Try.ntmps25
    go_wp2_with fail
    go_ret
    exact ⟨by show Ending.returned (Value.int .i64 (x % (n : Int))) = _; rw [HE.out], rfl⟩
/-! ### values beside one another -/
structure Vs (w0 w : World) (l : List (Nat × Vl)) : Prop where
  ap : Apart [] w0 w
  ge : ∀ p ∈ l, w0.heap.size ≤ p.1
  ho : ∀ p ∈ l, Ho w p.1 p.2
  ne : l.Pairwise fun p q => p.1 ≠ q.1
theorem Vs.nil {w0 w : World} (a : Apart [] w0 w) : Vs w0 w [] := ⟨a, by simp, by simp, List.Pairwise.nil⟩
theorem Ho.lt {w : World} {V : Nat} {v : Vl} (h : Ho w V v) : V < w.heap.size := by
  obtain ⟨b, hb⟩ := h.bd
  exact lt_of_heap hb
theorem Vs.kept0 {w0 w w' : World} {l : List (Nat × Vl)} (h : Vs w0 w l) (a : Apart [] w w') : Vs w0 w' l :=
  ⟨h.ap.trans a, h.ge, fun p hp => (h.ho p hp).kept0 a, h.ne⟩
theorem Vs.add {w0 w w' : World} {l : List (Nat × Vl)} {V : Nat} {v : Vl} (h : Vs w0 w l) (hV : w.heap.size ≤ V) (o : Ho w' V v) (a : Apart [] w w') : Vs w0 w' ((V, v) :: l) := by
  refine ⟨h.ap.trans a, fun p hp => ?_, fun p hp => ?_, List.pairwise_cons.2 ⟨fun p hp => ?_, h.ne⟩⟩
  · rcases List.mem_cons.1 hp with rfl | hp
    · exact Nat.le_trans h.ap.size hV
    · exact h.ge p hp
  · rcases List.mem_cons.1 hp with rfl | hp
    · exact o
    · exact (h.ho p hp).kept0 a
  · have := (h.ho p hp).lt
    simp only
    omega
theorem Vs.get {w0 w : World} {l : List (Nat × Vl)} (h : Vs w0 w l) (i : Nat) {V : Nat} {v : Vl} (e : l[i]? = some (V, v)) : Ho w V v := h.ho (V, v) (List.mem_of_getElem? e)
theorem Vs.upd {w0 w w' : World} {l : List (Nat × Vl)} (h : Vs w0 w l) (i : Nat) {V : Nat} {v v' : Vl} (e : l[i]? = some (V, v)) (a : Apart [V] w w') (o : Ho w' V v') : Vs w0 w' (l.set i (V, v')) := by
  obtain ⟨hi, e'⟩ := List.getElem?_eq_some_iff.1 e
  have hm : (V, v) ∈ l := List.mem_of_getElem? e
  have hoth : ∀ j (hj : j < l.length), j ≠ i → l[j].1 ≠ V := by
    intro j hj hne
    have hp := List.pairwise_iff_getElem.1 h.ne
    rcases Nat.lt_or_gt_of_ne hne with hlt | hlt
    · have := hp j i hj hi hlt; rwa [e'] at this
    · have := hp i j hi hj hlt; rw [e'] at this; exact fun k => this k.symm
  refine ⟨h.ap.trans' a (by intro y hy; simp at hy; rw [hy]; exact .inr (h.ge _ hm)), fun p hp => ?_, fun p hp => ?_, ?_⟩
  · rcases List.mem_or_eq_of_mem_set hp with hp | rfl
    · exact h.ge p hp
    · exact h.ge (V, v) hm
  · obtain ⟨j, hj, ej⟩ := List.mem_iff_getElem.1 hp
    rw [List.length_set] at hj
    rw [List.getElem_set] at ej
    split at ej
    · rw [← ej]; exact o
    · rename_i hij
      rw [← ej]
      exact (h.ho _ (List.getElem_mem hj)).otherV a (h.get i e) (hoth j hj (fun k => hij k.symm))
  · refine List.pairwise_iff_getElem.2 fun j k hj hk hjk => ?_
    rw [List.length_set] at hj hk
    have hp := List.pairwise_iff_getElem.1 h.ne j k hj hk hjk
    rw [List.getElem_set, List.getElem_set]
    split
    · rename_i e1
      split
      · omega
      · rename_i e2
        exact fun q => hoth k hk (fun q => e2 q.symm) q.symm
    · rename_i e1
      split
      · rename_i e2
        exact hoth j hj (fun q => e1 q.symm)
      · exact hp
theorem Merge_u {w : World} {V O : Nat} {v o u : Vl} (hV : Ho w V v) (hO : Ho w O o) (ok : Ok v) (ok' : Ok o) (e : v.kd = o.kd) (hu : mgV v o = u) : Calls Try.prog 14 #[.pointer (some ⟨V, 0, none⟩), .pointer (some ⟨O, 0, none⟩)] w fun r w' => r = .returned (.int .i64 0) ∧ Ho w' V u ∧ Apart [V] w w' := by
  rw [← hu]
  exact Merge_v hV hO ok ok' e
theorem Gv.nil (w : World) : Gv w ⟨none, 0, 0⟩ [] := ⟨Rd.nil _ _, rfl, fun _ => ⟨rfl, rfl⟩, by intro x hx; simp at hx, by simp⟩
set_option maxHeartbeats 4000000 in
set_option maxRecDepth 100000 in
/-- merged -/
theorem merged_ok {w : World} {sa sb sc : Sl} {xa bs cs : List Nat} (k : Nat) (h1 : 1 ≤ k) (h4 : k ≤ 4) (ha : Gv w sa xa) (hb : Gv w sb bs) (hc : Gv w sc cs) : Calls Try.prog 26 #[.int .i64 (k : Int), .slice sa.p sa.n sa.c, .slice sb.p sb.n sb.c, .slice sc.p sc.n sc.c] w fun r w' => ∃ V, r = .returned (.pointer (some ⟨V, 0, none⟩)) ∧ w.heap.size ≤ V ∧ Ho w' V (mgV (mgV (valV k xa) (valV k bs)) (valV k cs)) ∧ Apart [] w w' := by
  have HGa := hid ha
  have HGb := hid hb
  have HGc := hid hc
  have H14 := hid (And.intro h1 h4)
  have HKa := hid (Gk.val h1 h4 ha.u8)
  have HKb := hid (Gk.val h1 h4 hb.u8)
  have HKc := hid (Gk.val h1 h4 hc.u8)
  have HCa := hid (fun wx (a : Apart [] w wx) => value_ok k H14.out.1 H14.out.2 (HGa.out.kept0 a))
  have HCb := hid (fun wx (a : Apart [] w wx) => value_ok k H14.out.1 H14.out.2 (HGb.out.kept0 a))
  have HCc := hid (fun wx (a : Apart [] w wx) => value_ok k H14.out.1 H14.out.2 (HGc.out.kept0 a))
  have HEc : Hid (sc.p = none → valV k cs = new0 k) := hid (fun e => by
    have h2 := (HGc.out.ok e).1
    have h3 := HGc.out.len
    have h4 : cs = [] := List.eq_nil_of_length_eq_zero (by omega)
    rw [h4]; exact valV_nil k)
  obtain ⟨va, Hva⟩ : ∃ v, Hid (v = valV k xa) := ⟨_, hid rfl⟩
  obtain ⟨vb, Hvb⟩ : ∃ v, Hid (v = valV k bs) := ⟨_, hid rfl⟩
  obtain ⟨vc, Hvc⟩ : ∃ v, Hid (v = valV k cs) := ⟨_, hid rfl⟩
  rw [← Hva.out] at HKa HCa ⊢
  rw [← Hvb.out] at HKb HCb ⊢
  rw [← Hvc.out] at HKc HCc HEc ⊢
  obtain ⟨ab, Hab⟩ : ∃ v, Hid (v = mgV va vb) := ⟨_, hid rfl⟩
  have HKab := hid (HKa.out.mg HKb.out)
  rw [← Hab.out] at HKab ⊢
  have HV := hid (Vs.nil (Apart.refl [] w))
  obtain ⟨pc, Hpc⟩ : ∃ p, Hid (p = sc.p) := ⟨_, hid rfl⟩
  rw [← Hpc.out] at HEc HCc ⊢
  clear ha hb hc h1 h4
  go_enter Try.func26, Try.ntmps26
  go_upto_region 2 with (go_at_call 12; refine (HCa.out _ HV.out.ap).mono ?_; rintro _ w1 ⟨V1, rfl, g1, o1, a1⟩; replace HV := hid (HV.out.add g1 o1 a1); clear g1 o1 a1)
  go_upto_region 3 with (first
    | (go_at_call 12; refine (HCb.out _ HV.out.ap).mono ?_; rintro _ w2 ⟨V2, rfl, g2, o2, a2⟩; replace HV := hid (HV.out.add g2 o2 a2); clear g2 o2 a2)
    | (go_at_call 14; refine (Merge_u (HV.out.get 1 rfl) (HV.out.get 0 rfl) HKa.out.ok HKb.out.ok (HKa.out.kd.trans HKb.out.kd.symm) Hab.out.symm).mono ?_; rintro _ w3 ⟨rfl, o3, a3⟩; replace HV := hid (show Vs w w3 [(V2, vb), (V1, ab)] from HV.out.upd 1 rfl a3 o3); clear o3 a3))
  cases pc with
  | none =>
    go_wp2_with fail
    go_ret
    refine ⟨V1, rfl, HV.out.ge (V1, ab) (by simp), ?_, HV.out.ap⟩
    rw [HEc.out (by trivial), ← HKab.out.kd, mgV_new HKab.out.gd]
    exact HV.out.get 1 rfl
  | some ad =>
    go_wp2_with (first
      | (go_at_call 12; refine (HCc.out _ HV.out.ap).mono ?_; rintro _ w4 ⟨V4, rfl, g4, o4, a4⟩; replace HV := hid (HV.out.add g4 o4 a4); clear g4 o4 a4)
      | (go_at_call 14; refine (Merge_u (HV.out.get 2 rfl) (HV.out.get 0 rfl) HKab.out.ok HKc.out.ok (HKab.out.kd.trans HKc.out.kd.symm) rfl).mono ?_; rintro _ w5 ⟨rfl, o5, a5⟩; replace HV := hid (show Vs w w5 [(V4, vc), (V2, vb), (V1, mgV ab vc)] from HV.out.upd 2 rfl a5 o5); clear o5 a5))
    go_ret
    exact ⟨V1, rfl, HV.out.ge (V1, mgV ab vc) (by simp), HV.out.get 2 rfl, HV.out.ap⟩
end Go.Proofs.Ytdbeeikjngnnnaa.ty
namespace Go.Proofs.Ytdbeeikjngnnnaa.ty
open Go.ChangeShapes Go.WideShapes Go.ChangeAt Go.RowKit
set_option linter.unusedVariables false
set_option linter.unusedSimpArgs false
/-! ### what was done by whom, and what the doer had seen -/
structure Dn where
  act : Nat
  by_ : Int
  el : Nat
  tk : Bool
  tx : ByteArray
  st : Int
  vc : Nat → Nat
/-- is it seen? (a view is for each doer how many of the events it has seen all of his) -/
def se (H : List Dn) (v : Nat → Nat) (p : Nat) : Bool := match H[p]? with
  | some d => decide (p < v d.act)
  | none => false
theorem se_iff {H : List Dn} {v : Nat → Nat} {p : Nat} : se H v p = true ↔ ∃ d, H[p]? = some d ∧ p < v d.act := by
  unfold se
  cases h : H[p]? with
  | none => simp
  | some d => simp
structure Hs (H : List Dn) : Prop where
  act : ∀ (p : Nat) (d : Dn), H[p]? = some d → d.act < 4
  vc : ∀ (p : Nat) (d : Dn), H[p]? = some d → ∀ j, d.vc j ≤ p
  own : ∀ (p : Nat) (d : Dn) (q : Nat) (e : Dn), H[p]? = some d → H[q]? = some e → q < p → e.act = d.act → q < d.vc d.act
  cl : ∀ (p : Nat) (d : Dn) (q : Nat) (e : Dn), H[p]? = some d → H[q]? = some e → q < d.vc e.act → ∀ j, e.vc j ≤ d.vc j
  st : ∀ (p : Nat) (d : Dn) (q : Nat) (e : Dn), H[p]? = some d → H[q]? = some e → q < d.vc e.act → e.st < d.st
/-- a view that may be -/
structure Vc (H : List Dn) (v : Nat → Nat) : Prop where
  le : ∀ j, v j ≤ H.length
  cl : ∀ (q : Nat) (e : Dn), H[q]? = some e → q < v e.act → ∀ j, e.vc j ≤ v j
def mx (v u : Nat → Nat) : Nat → Nat := fun j => max (v j) (u j)
def up (v : Nat → Nat) (i m : Nat) : Nat → Nat := fun j => if j = i then m else v j
theorem mx_comm (v u : Nat → Nat) : mx v u = mx u v := by funext j; simp [mx, Nat.max_comm]
theorem Vc.mx {H : List Dn} {v u : Nat → Nat} (h : Vc H v) (k : Vc H u) : Vc H (mx v u) := by
  refine ⟨fun j => ?_, fun q e he hq j => ?_⟩
  · have := h.le j; have := k.le j; simp only [ty.mx]; omega
  · simp only [ty.mx] at hq ⊢
    by_cases h1 : q < v e.act
    · have := h.cl q e he h1 j; omega
    · have := k.cl q e he (by omega) j; omega
theorem push_at {H : List Dn} {d e : Dn} {p : Nat} (h : (H ++ [d])[p]? = some e) : (p < H.length ∧ H[p]? = some e) ∨ (p = H.length ∧ e = d) := by
  rcases Nat.lt_or_ge p H.length with hp | hp
  · rw [List.getElem?_append_left hp] at h; exact .inl ⟨hp, h⟩
  · rw [List.getElem?_append_right hp] at h
    have h2 : p - H.length = 0 := by
      rcases Nat.eq_zero_or_pos (p - H.length) with h0 | h0
      · exact h0
      · rw [List.getElem?_eq_none (by simp; omega)] at h; cases h
    rw [h2] at h
    simp at h
    exact .inr ⟨by omega, h.symm⟩
theorem push_old {H : List Dn} {d e : Dn} {p : Nat} (h : H[p]? = some e) : (H ++ [d])[p]? = some e := by
  have := (List.getElem?_eq_some_iff.1 h).1
  rw [List.getElem?_append_left this, h]
theorem push_new (H : List Dn) (d : Dn) : (H ++ [d])[H.length]? = some d := by simp
theorem at_lt {H : List Dn} {e : Dn} {p : Nat} (h : H[p]? = some e) : p < H.length := (List.getElem?_eq_some_iff.1 h).1
theorem Vc.push {H : List Dn} {v : Nat → Nat} (h : Vc H v) (d : Dn) : Vc (H ++ [d]) v := by
  refine ⟨fun j => by have := h.le j; simp; omega, fun q e he hq => ?_⟩
  rcases push_at he with ⟨-, he⟩ | ⟨rfl, rfl⟩
  · exact h.cl q e he hq
  · have := h.le e.act; omega
/-- the doer's own view has all of his -/
def Own (H : List Dn) (v : Nat → Nat) (i : Nat) : Prop := ∀ (q : Nat) (e : Dn), H[q]? = some e → e.act = i → q < v i
theorem Own.mx {H : List Dn} {v u : Nat → Nat} {i : Nat} (h : Own H v i) : Own H (ty.mx v u) i := fun q e he ha => by
  have := h q e he ha; simp only [ty.mx]; omega
theorem Own.push {H : List Dn} {v : Nat → Nat} {i : Nat} (h : Own H v i) {d : Dn} (hd : d.act ≠ i) : Own (H ++ [d]) v i := fun q e he ha => by
  rcases push_at he with ⟨-, he⟩ | ⟨rfl, rfl⟩
  · exact h q e he ha
  · exact absurd ha hd
theorem Own.up {H : List Dn} {v : Nat → Nat} {d : Dn} {i : Nat} : Own (H ++ [d]) (ty.up v i (H.length + 1)) i := fun q e he ha => by
  have := at_lt he
  simp at this
  simp only [ty.up, if_true]; omega
theorem Hs.push {H : List Dn} (h : Hs H) {v : Nat → Nat} (k : Vc H v) {d : Dn} (hv : d.vc = v) (ha : d.act < 4) (o : Own H v d.act) (hst : ∀ (q : Nat) (e : Dn), H[q]? = some e → q < v e.act → e.st < d.st) : Hs (H ++ [d]) := by
  refine ⟨fun p e he => ?_, fun p e he j => ?_, fun p e q f he hf hqp hfa => ?_, fun p e q f he hf hq j => ?_, fun p e q f he hf hq => ?_⟩
  · rcases push_at he with ⟨-, he⟩ | ⟨rfl, rfl⟩
    · exact h.act p e he
    · exact ha
  · rcases push_at he with ⟨-, he⟩ | ⟨rfl, rfl⟩
    · exact h.vc p e he j
    · rw [hv]; exact k.le j
  · rcases push_at he with ⟨hp, he⟩ | ⟨rfl, rfl⟩
    · rcases push_at hf with ⟨-, hf⟩ | ⟨rfl, rfl⟩
      · exact h.own p e q f he hf hqp hfa
      · omega
    · rcases push_at hf with ⟨-, hf⟩ | ⟨rfl, rfl⟩
      · rw [hv]; exact o q f hf hfa
      · omega
  · rcases push_at he with ⟨hp, he'⟩ | ⟨rfl, rfl⟩
    · rcases push_at hf with ⟨-, hf'⟩ | ⟨rfl, rfl⟩
      · exact h.cl p e q f he' hf' hq j
      · have := h.vc p e he' f.act; omega
    · rw [hv] at hq ⊢
      rcases push_at hf with ⟨-, hf⟩ | ⟨rfl, rfl⟩
      · exact k.cl q f hf hq j
      · have := k.le f.act; omega
  · rcases push_at he with ⟨hp, he'⟩ | ⟨rfl, rfl⟩
    · rcases push_at hf with ⟨-, hf'⟩ | ⟨rfl, rfl⟩
      · exact h.st p e q f he' hf' hq
      · have := h.vc p e he' f.act; omega
    · rw [hv] at hq
      rcases push_at hf with ⟨-, hf⟩ | ⟨rfl, rfl⟩
      · exact hst q f hf hq
      · have := k.le f.act; omega
theorem Vc.up {H : List Dn} {v : Nat → Nat} (h : Vc H v) {d : Dn} (hv : d.vc = v) (o : Own H v d.act) : Vc (H ++ [d]) (ty.up v d.act (H.length + 1)) := by
  have hge : ∀ j, v j ≤ ty.up v d.act (H.length + 1) j := fun j => by
    have := h.le j
    simp only [ty.up]; split <;> omega
  refine ⟨fun j => ?_, fun q e he hq j => ?_⟩
  · have := h.le j
    simp only [ty.up, List.length_append, List.length_singleton]; split <;> omega
  · rcases push_at he with ⟨hl, he⟩ | ⟨rfl, rfl⟩
    · refine Nat.le_trans (h.cl q e he ?_ j) (hge j)
      simp only [ty.up] at hq
      split at hq
      · rename_i ha; rw [ha]; exact o q e he ha
      · exact hq
    · rw [hv]; exact hge j
/-- what the doer's new view sees of the old events -/
theorem up_old {H : List Dn} {v : Nat → Nat} {i : Nat} (o : Own H v i) {p m : Nat} {d : Dn} (hd : H[p]? = some d) (hm : H.length ≤ m) : p < ty.up v i m d.act ↔ p < v d.act := by
  simp only [ty.up]
  split
  · rename_i ha
    have h1 := o p d hd ha
    have h2 := at_lt hd
    rw [ha]; omega
  · rfl
/-! ### sums -/
def cnt (H : List Dn) (f : Dn → Int) (j : Nat) : Nat → Int
  | 0 => 0
  | m + 1 => cnt H f j m + (match H[m]? with | some d => if d.act = j then f d else 0 | none => 0)
theorem cnt_mono {H : List Dn} {f : Dn → Int} (hf : ∀ (p : Nat) (d : Dn), H[p]? = some d → 0 ≤ f d) (j a : Nat) : ∀ b, a ≤ b → cnt H f j a ≤ cnt H f j b
  | 0, h => by obtain rfl : a = 0 := by omega
               exact Int.le_refl _
  | b + 1, h => by
    rcases Nat.lt_or_ge b a with h1 | h1
    · obtain rfl : a = b + 1 := by omega
      exact Int.le_refl _
    · have := cnt_mono hf j a b h1
      rw [cnt]
      cases hb : H[b]? with
      | none => simpa using this
      | some d =>
        have := hf b d hb
        simp only
        split <;> omega
theorem cnt_push {H : List Dn} {f : Dn → Int} {d : Dn} (j : Nat) : ∀ m, m ≤ H.length → cnt (H ++ [d]) f j m = cnt H f j m
  | 0, _ => rfl
  | m + 1, h => by
    rw [cnt, cnt, cnt_push j m (by omega), List.getElem?_append_left (by omega)]
theorem cnt_new {H : List Dn} {f : Dn → Int} {d : Dn} (j : Nat) : cnt (H ++ [d]) f j (H.length + 1) = cnt H f j H.length + (if d.act = j then f d else 0) := by
  rw [cnt, cnt_push j _ (Nat.le_refl _), push_new]
theorem cnt_same {H : List Dn} {f : Dn → Int} (j a : Nat) (h : ∀ (q : Nat) (e : Dn), H[q]? = some e → a ≤ q → e.act ≠ j) : ∀ b, a ≤ b → cnt H f j b = cnt H f j a
  | 0, hb => by obtain rfl : a = 0 := by omega
                rfl
  | b + 1, hb => by
    rcases Nat.lt_or_ge b a with h1 | h1
    · obtain rfl : a = b + 1 := by omega
      rfl
    · rw [cnt, cnt_same j a h b h1]
      cases hq : H[b]? with
      | none => simp
      | some d => simp [h b d hq h1]
theorem cnt_own {H : List Dn} {f : Dn → Int} {v : Nat → Nat} {i : Nat} (o : Own H v i) (hv : v i ≤ H.length) : cnt H f i H.length = cnt H f i (v i) :=
  cnt_same i (v i) (fun q e he hq ha => by have := o q e he ha; omega) _ hv
theorem cnt_none {H : List Dn} {f : Dn → Int} {j : Nat} (h : Hs H) (hj : 4 ≤ j) : ∀ m, cnt H f j m = 0
  | 0 => rfl
  | m + 1 => by
    rw [cnt, cnt_none h hj m]
    cases hq : H[m]? with
    | none => rfl
    | some d => have := h.act m d hq; simp only; rw [if_neg (by omega)]; rfl
theorem cnt_bound {H : List Dn} {f : Dn → Int} {B : Int} (hB : 0 ≤ B) (hf : ∀ (p : Nat) (d : Dn), H[p]? = some d → f d ≤ B) (j : Nat) : ∀ m, cnt H f j m ≤ B * m
  | 0 => by simp [cnt]
  | m + 1 => by
    have := cnt_bound hB hf j m
    rw [cnt]
    have e : B * ((m + 1 : Nat) : Int) = B * (m : Int) + B := by rw [Int.natCast_add, Int.mul_add]; simp
    rw [e]
    cases hq : H[m]? with
    | none => simp only; omega
    | some d =>
      have := hf m d hq
      simp only
      split <;> omega
theorem cnt_ge {H : List Dn} {f : Dn → Int} (hf : ∀ (p : Nat) (d : Dn), H[p]? = some d → 0 ≤ f d) (j m : Nat) : 0 ≤ cnt H f j m := cnt_mono hf j 0 m (Nat.zero_le _)
/-- a row of numbers -/
structure Rc (H : List Dn) (f : Dn → Int) (v : Nat → Nat) (a : List Int) : Prop where
  len : a.length = 8
  eq : ∀ j, j < 8 → a.getD j 0 = cnt H f j (v j)
theorem Rc.push {H : List Dn} {f : Dn → Int} {v : Nat → Nat} {a : List Int} (h : Rc H f v a) (k : Vc H v) (d : Dn) : Rc (H ++ [d]) f v a :=
  ⟨h.len, fun j hj => by rw [h.eq j hj, cnt_push j _ (k.le j)]⟩
theorem Rc.mx {H : List Dn} {f : Dn → Int} {v u : Nat → Nat} {a b : List Int} (hf : ∀ (p : Nat) (d : Dn), H[p]? = some d → 0 ≤ f d) (h : Rc H f v a) (k : Rc H f u b) : Rc H f (ty.mx v u) (gr a b) :=
  ⟨gr_len h.len k.len, fun j hj => by
    rw [gr_at h.len k.len j hj, h.eq j hj, k.eq j hj]
    simp only [ty.mx]
    rcases Nat.le_total (v j) (u j) with h1 | h1
    · have := cnt_mono hf j _ _ h1
      rw [Nat.max_eq_right h1]; omega
    · have := cnt_mono hf j _ _ h1
      rw [Nat.max_eq_left h1]; omega⟩
theorem getD_set {a : List Int} {i j : Nat} (hi : i < a.length) (x : Int) : (a.set i x).getD j 0 = if j = i then x else a.getD j 0 := by
  rw [List.getD_eq_getElem?_getD, List.getElem?_set, List.getD_eq_getElem?_getD]
  by_cases h : i = j
  · subst h; simp [hi]
  · simp [h, show ¬ j = i from fun k => h k.symm]
theorem Rc.up {H : List Dn} {f : Dn → Int} {v : Nat → Nat} {a : List Int} (h : Rc H f v a) (k : Vc H v) {d : Dn} (ha : d.act < 4) (o : Own H v d.act) : Rc (H ++ [d]) f (ty.up v d.act (H.length + 1)) (a.set d.act (a.getD d.act 0 + f d)) :=
  ⟨by rw [List.length_set]; exact h.len, fun j hj => by
    rw [getD_set (by rw [h.len]; omega)]
    simp only [ty.up]
    split
    · rename_i e
      subst e
      rw [cnt_new, if_pos rfl, cnt_own o (k.le _), h.eq _ hj]
    · rw [cnt_push j _ (k.le j), h.eq j hj]⟩
theorem Rc.same {H : List Dn} {f : Dn → Int} {v : Nat → Nat} {a : List Int} (h : Rc H f v a) (k : Vc H v) {d : Dn} (ha : d.act < 4) (o : Own H v d.act) (h0 : f d = 0) : Rc (H ++ [d]) f (ty.up v d.act (H.length + 1)) a := by
  have := h.up k (d := d) ha o
  rw [h0, Int.add_zero] at this
  have e : a.set d.act (a.getD d.act 0) = a := by
    apply List.ext_getElem?
    intro j
    rw [List.getElem?_set]
    split
    · rename_i e
      subst e
      have : d.act < a.length := by rw [h.len]; omega
      simp [this]
    · rfl
  rwa [e] at this
end Go.Proofs.Ytdbeeikjngnnnaa.ty
