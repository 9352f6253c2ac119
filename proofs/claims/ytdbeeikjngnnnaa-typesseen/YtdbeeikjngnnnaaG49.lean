import Derived.Test.YtdbeeikjngnnnaaG27
import Derived.Test.YtdbeeikjngnnnaaRows
import Derived.JoinedCond
import Derived.ShutString
import Derived.ChangeOld
import Derived.Below
import Derived.Carry
import Derived.ChangeSlices
import Derived.Deep.Slices
import Derived.Deep.DeepHandedRow
import Derived.RowKit
import Derived.ChangeShapes
import Derived.SizedLaws
import Derived.ChangeMaps5
import Derived.Test.YtdbeeikjngnnnaaG48
namespace Go.Proofs.Ytdbeeikjngnnnaa.ty
open Go.ChangeShapes Go.WideShapes Go.ChangeAt Go.RowKit Go.Deep
set_option linter.unusedVariables false
set_option linter.unusedSimpArgs false
set_option maxRecDepth 100000
theorem own : ownKnob Try.prog.godebug = none := by kernel_rfl
theorem laidOut : laidOutB Try.prog = true := by kernel_rfl
theorem c5 : Try.prog.cellsOf 5 = 1 := by kernel_rfl
theorem weigh {H : Type} (d : DataW H) : 0 < Rows.uptoBulk d := by
  cases d
  case lit l => cases l <;> (unfold Rows.uptoBulk; omega)
  all_goals (unfold Rows.uptoBulk; omega)
theorem many {H : Type} : ∀ l : List (DataW H), l.length ≤ Rows.uptoBulkAll l
  | [] => Nat.zero_le _
  | d :: l => by have h1 := weigh d; have h2 := many l; rw [Rows.uptoBulkAll, List.length_cons]; omega
theorem all_cons {H : Type} (d : DataW H) (l : List (DataW H)) : Rows.uptoBulkAll (d :: l) = Rows.uptoBulk d + Rows.uptoBulkAll l := by rw [Rows.uptoBulkAll]
theorem all_nil {H : Type} : Rows.uptoBulkAll ([] : List (DataW H)) = 0 := by rw [Rows.uptoBulkAll]
theorem all_mem {H : Type} {d : DataW H} : ∀ {l : List (DataW H)}, d ∈ l → Rows.uptoBulk d ≤ Rows.uptoBulkAll l
  | e :: l, h => by
    rw [all_cons]
    rcases List.mem_cons.1 h with rfl | h
    · omega
    · have := all_mem h; omega
theorem slice_many {H : Type} (a b : List (DataW H)) : Rows.uptoBulkAll a ≤ Rows.uptoBulk (.slice a b) := by
  rw [Rows.uptoBulk]; omega
theorem agg_many {H : Type} (a : List (DataW H)) : Rows.uptoBulkAll a ≤ Rows.uptoBulk (.agg a) := by
  rw [Rows.uptoBulk]; omega
/-- a []byte that came in -/
theorem open_bytes {H : Type} {enc : TypeId × Value → H} {W : World} {fuel : Nat} {v : Value} {x : DataW H × List MemPlace} (h : DataW.trod enc Try.prog W 0 (fun _ => true) true fuel 22 [v] = some x) (hb : Rows.uptoBulk x.1 ≤ 1048576) :
    ∃ (s : Sl) (bs : List Nat), v = s.v ∧ Rd W s.p (byts bs) ∧ bs.length = s.n ∧ s.n ≤ 1048576 ∧ (∀ b ∈ bs, b < 256) ∧ s.ok := by
  rcases open_ints Try.underlying22 Try.underlying5 c5 h with ⟨hcs, _⟩ | ⟨a, l, c, zs, hcs, _, hl, hm, hz, hx, hcell, hwz⟩
  · simp at hcs
    exact ⟨⟨none, 0, 0⟩, [], hcs, Rd.nil _ _, rfl, by decide, by simp, fun _ => ⟨rfl, rfl⟩⟩
  · simp at hcs
    simp only [if_true] at hz
    have hll : l ≤ 1048576 := by
      have h1 := slice_many (lits .u8 (zs.take l) : List (DataW H)) (lits .u8 (zs.drop l))
      have h2 := many (lits .u8 (zs.take l) : List (DataW H))
      have h3 : (lits .u8 (zs.take l) : List (DataW H)).length = l := by simp [lits]; omega
      rw [hx] at hb
      simp only at hb
      omega
    have hpos : ∀ z ∈ zs, 0 ≤ z ∧ z < 256 := fun z hz => by
      have := hwz z hz
      simp [Lit.wf, IntKind.bits, IntKind.signed, IntKind.min, IntKind.max] at this
      omega
    refine ⟨⟨some a, l, c⟩, (zs.take l).map Int.toNat, hcs, fun h0 => ?_, by simp; omega, hll, fun b hb => ?_, fun e => by cases e⟩
    · obtain ⟨g, o, spot⟩ := a
      simp [byts] at h0
      have hc := hcell 0 (by omega)
      have hspot : spot = none := by simpa [Addr.add] using World.cell?_spot hc
      subst hspot
      refine ⟨g, o, rfl, ?_, fun j u hj => ?_⟩
      · rw [Addr.add_lit] at hc
        exact block_lt_of_cell hc
      · simp only [byts, List.getElem?_map, Option.map_eq_some_iff] at hj
        obtain ⟨b, ⟨z, hz1, rfl⟩, rfl⟩ := hj
        have hjl : j < zs.length := by
          by_cases hq : j < l
          · omega
          · rw [List.getElem?_take, if_neg hq] at hz1; cases hz1
        have hc2 := hcell j hjl
        rw [Addr.add_lit] at hc2
        rw [hc2]
        rw [List.getElem?_take] at hz1
        split at hz1
        · rw [List.getD_eq_getElem?_getD, hz1]
          have := (hpos z (List.mem_of_getElem? hz1)).1
          simp
          omega
        · cases hz1
    · rw [List.mem_map] at hb
      obtain ⟨z, hz1, rfl⟩ := hb
      have := hpos z (List.mem_of_mem_take hz1)
      omega
end Go.Proofs.Ytdbeeikjngnnnaa.ty
namespace Go.Proofs.Ytdbeeikjngnnnaa.ty
open Go.ChangeShapes Go.WideShapes Go.ChangeAt Go.RowKit Go.Deep
set_option linter.unusedVariables false
set_option linter.unusedSimpArgs false
set_option maxRecDepth 100000
theorem cells58 : Try.prog.cellsOf 58 = 4 := by kernel_rfl
theorem cells3 : Try.prog.cellsOf 3 = 1 := by kernel_rfl
theorem evL_inv {l : List (Int × Int × Int × Int)} {j : Nat} {v : Value} (h : (evL l)[j]? = some v) : ∃ e, l[j / 4]? = some e ∧ (evC e)[j % 4]? = some v := by
  have hlt : j < l.length * 4 := by
    have := (List.getElem?_eq_some_iff.1 h).1
    rw [evL_len] at this
    exact this
  obtain ⟨e, he⟩ : ∃ e, l[j / 4]? = some e := ⟨_, List.getElem?_eq_getElem (by omega)⟩
  have h2 := evL_at l he (j := j % 4) (by omega)
  rw [show j / 4 * 4 + j % 4 = j by omega] at h2
  exact ⟨e, he, h2.symm.trans h⟩
theorem listOf {α : Type} : ∀ (n : Nat) (p : Nat → α → Prop), (∀ i, i < n → ∃ d, p i d) → ∃ l : List α, l.length = n ∧ ∀ i d, l[i]? = some d → p i d
  | 0, p, _ => ⟨[], rfl, fun i d h => by simp at h⟩
  | n + 1, p, h => by
    obtain ⟨l, hl, hp⟩ := listOf n p (fun i hi => h i (by omega))
    obtain ⟨d, hd⟩ := h n (by omega)
    refine ⟨l ++ [d], by simp [hl], fun i e he => ?_⟩
    rcases Nat.lt_or_ge i l.length with h1 | h1
    · rw [List.getElem?_append_left h1] at he
      exact hp i e he
    · rw [List.getElem?_append_right h1] at he
      have h0 : i - l.length = 0 := by
        rcases Nat.eq_zero_or_pos (i - l.length) with h0 | h0
        · exact h0
        · rw [List.getElem?_eq_none (by simp; omega)] at he; cases he
      rw [h0] at he
      simp at he
      subst he
      rw [show i = n by omega]
      exact hd
/-- a []Event that came in -/
theorem open_events {H : Type} {enc : TypeId × Value → H} {W : World} {fuel : Nat} {v : Value} {x : DataW H × List MemPlace} (h : DataW.trod enc Try.prog W 0 (fun _ => true) true fuel 49 [v] = some x) :
    ∃ (s : Sl) (l : List (Int × Int × Int × Int)), v = s.v ∧ Ev W s l := by
  rcases open_slice Try.underlying49 h with ⟨hcs, _⟩ | ⟨a, len, cap, m, n, D, Pl, hcs, _, hl, hm, hmeq, hx, hall⟩
  · simp at hcs
    exact ⟨⟨none, 0, 0⟩, [], hcs, ⟨Rd.nil _ _, rfl, fun e he => by simp at he⟩⟩
  · simp only [if_true] at hmeq
    subst hmeq
    simp at hcs
    refine ⟨⟨some a, len, m⟩, ?_⟩
    by_cases h0 : 0 < len
    · obtain ⟨P, o, spot⟩ := a
      have hspot : spot = none := by
        obtain ⟨cs', h1, h2⟩ := hall 0 (by omega)
        rw [cells58] at h1
        obtain ⟨_, hlen, hcell⟩ := World.cells?_some h1
        have hc := hcell 0 (by omega)
        rw [List.getElem?_eq_getElem (by omega)] at hc
        have := World.cell?_spot hc
        simpa [Addr.add] using this
      subst hspot
      have each : ∀ i, i < len → ∃ d : Int × Int × Int × Int, (W.cell? ⟨P, o + i * 4, none⟩ = some (.int .i64 d.1) ∧ W.cell? ⟨P, o + i * 4 + 1, none⟩ = some (.int .i64 d.2.1) ∧ W.cell? ⟨P, o + i * 4 + 2, none⟩ = some (.int .i64 d.2.2.1) ∧ W.cell? ⟨P, o + i * 4 + 3, none⟩ = some (.int .i64 d.2.2.2)) ∧ (R64 d.1 ∧ R64 d.2.1 ∧ R64 d.2.2.1 ∧ R64 d.2.2.2) := by
        intro i hi
        obtain ⟨cs', h1, h2⟩ := hall i (by omega)
        rw [cells58, Addr.add_lit] at h1
        obtain ⟨_, hlen, hcell⟩ := World.cells?_some h1
        obtain ⟨xs, k, hk, hxy, _, hxl, hf⟩ := DataW.trod_struct Try.underlying58 h2
        match xs, hxl, cs', hlen with
        | [y0, y1, y2, y3], _, [v0, v1, v2, v3], _ =>
          have g0 := hf 0 _ rfl
          have g1 := hf 1 _ rfl
          have g2 := hf 2 _ rfl
          have g3 := hf 3 _ rfl
          simp [cells3] at g0 g1 g2 g3
          obtain ⟨k0, q0, _, w0⟩ := DataW.trod_int Try.underlying3 g0
          obtain ⟨k1, q1, _, w1⟩ := DataW.trod_int Try.underlying3 g1
          obtain ⟨k2, q2, _, w2⟩ := DataW.trod_int Try.underlying3 g2
          obtain ⟨k3, q3, _, w3⟩ := DataW.trod_int Try.underlying3 g3
          simp only [List.cons.injEq, and_true] at q0 q1 q2 q3
          subst q0 q1 q2 q3
          have e0 := hcell 0 (by omega)
          have e1 := hcell 1 (by omega)
          have e2 := hcell 2 (by omega)
          have e3 := hcell 3 (by omega)
          simp only [Addr.add_lit] at e0 e1 e2 e3
          have r : ∀ k : Int, (Lit.int .i64 k).wf = true → R64 k := fun k hk => by
            simp [Lit.wf, IntKind.bits, IntKind.signed, IntKind.min, IntKind.max] at hk
            unfold R64
            omega
          exact ⟨(k0, k1, k2, k3), ⟨by simpa using e0, by simpa using e1, by simpa using e2, by simpa using e3⟩, ⟨r _ w0, r _ w1, r _ w2, r _ w3⟩⟩
      obtain ⟨l, hll, hp⟩ := listOf len _ each
      refine ⟨l, hcs, ⟨fun _ => ?_, hll, fun e he => ?_⟩⟩
      · refine ⟨P, o, rfl, ?_, fun j v hj => ?_⟩
        · obtain ⟨d, hd⟩ := each 0 h0
          exact block_lt_of_cell hd.1.1
        · obtain ⟨e, he, hv⟩ := evL_inv hj
          obtain ⟨⟨c0, c1, c2, c3⟩, -⟩ := hp _ e he
          have hm4 : j % 4 = 0 ∨ j % 4 = 1 ∨ j % 4 = 2 ∨ j % 4 = 3 := by omega
          have hj4 : j = j / 4 * 4 + j % 4 := by omega
          rcases hm4 with h4 | h4 | h4 | h4
          · rw [h4] at hv hj4
            rw [hj4, Nat.add_zero]
            have e1 : v = .int .i64 e.1 := (Option.some.inj hv).symm
            rw [e1]; exact c0
          · rw [h4] at hv hj4
            rw [hj4, ← Nat.add_assoc]
            have e1 : v = .int .i64 e.2.1 := (Option.some.inj hv).symm
            rw [e1]; exact c1
          · rw [h4] at hv hj4
            rw [hj4, ← Nat.add_assoc]
            have e1 : v = .int .i64 e.2.2.1 := (Option.some.inj hv).symm
            rw [e1]; exact c2
          · rw [h4] at hv hj4
            rw [hj4, ← Nat.add_assoc]
            have e1 : v = .int .i64 e.2.2.2 := (Option.some.inj hv).symm
            rw [e1]; exact c3
      · obtain ⟨i, hi⟩ := List.mem_iff_getElem?.1 he
        exact (hp i e hi).2
    · obtain rfl : len = 0 := by omega
      exact ⟨[], hcs, ⟨fun h1 => absurd h1 (by simp [evL]), rfl, fun e he => by simp at he⟩⟩
end Go.Proofs.Ytdbeeikjngnnnaa.ty
namespace Go.Proofs.Ytdbeeikjngnnnaa.ty
open Go.ChangeShapes Go.WideShapes Go.ChangeAt Go.RowKit Go.ChangeMaps Go.Deep
set_option linter.unusedVariables false
set_option linter.unusedSimpArgs false
set_option maxRecDepth 100000 in
theorem seen_lifted (os : Os) (started : os.Started) (H : Type) (enc : TypeId × Value → H) :
    ReturnsInHanded {} Try.checked os 6 .any (Rows.typesSeenSpec.pre6 enc Try.prog Try.f6 Rows.typesSeenRow.domain false) (Rows.typesSeenSpec.post enc Try.prog Try.f6 false true false false) := by
  refine returnsInHanded_of_change (C := Try.checked) own started (by kernel_rfl) Try.func6
    (ChangeSpec.witness6 (enc := enc) (C := Try.checked) false ⟨#[], #[.int .i64 0, .slice none 0 0], []⟩ 8 (by kernel_rfl) (by kernel_rfl) (by kernel_rfl) (by kernel_rfl)) ?_
  intro W base args ds gs before hval0 hW hcnd _
  have hval : ∀ (j : Nat) t v, Try.f6.params[j]? = some t → args[j]? = some v → Value.okWide Try.prog W .any base t v := hval0
  have hW' := hW
  obtain ⟨p, q, hA0, hV, rfl, hfz, hnd⟩ := hW
  have hA : DataW.TrodAll enc Try.prog W 0 (fun _ => true) true Try.f6.params.toList args.toList ds p := hA0
  rw [Try.params6] at hA hval
  obtain ⟨v0, vs0, d0, ds0, p0, q0, hargs0, rfl, rfl, h0, r0⟩ := trodAll_cons hA
  obtain ⟨v1, vs1, d1, ds1, p1, q1, hargs1, rfl, rfl, h1, r1⟩ := trodAll_cons r0
  obtain ⟨rfl, rfl, rfl⟩ := trodAll_nil r1
  obtain rfl : args = #[v0, v1] := by cases args; simp_all
  obtain ⟨rfl, rfl⟩ := trodVars_none hV
  have k0 := h0
  have lt0 : ∀ x ∈ p0, x.block < W.heap.size := by obtain ⟨m, hm⟩ := k0; exact DataW.trod_lt m _ _ _ hm
  obtain ⟨z0, rfl, _, _, wf0⟩ := open_int Try.underlying3 (hval 0 3 v0 rfl rfl) h0
  have hz0 : -9223372036854775808 ≤ z0 ∧ z0 ≤ 9223372036854775807 := by
    simp [Lit.wf, IntKind.bits, IntKind.signed, IntKind.min, IntKind.max] at wf0
    omega
  have k1 := h1
  have lt1 : ∀ x ∈ p1, x.block < W.heap.size := by obtain ⟨m, hm⟩ := k1; exact DataW.trod_lt m _ _ _ hm
  obtain ⟨a1, len1, cap1, rfl⟩ := okWide_slice Try.underlying49 (hval 1 49 v1 rfl rfl)
  obtain ⟨s, l, hs, hev⟩ : ∃ (s : Sl) (l : List (Int × Int × Int × Int)), Value.slice a1 len1 cap1 = s.v ∧ Ev W s l := by
    obtain ⟨fuel, hf⟩ := h1
    exact open_events hf
  unfold Sl.v at hs
  simp only [Value.slice.injEq] at hs
  obtain ⟨rfl, rfl, rfl⟩ := hs

  clear hA0 hval0
  refine (seen_walk (w := W) z0 hz0 hev).mono fun e W' ⟨he, ap⟩ => ?_
  subst he
  have bel : Below W.heap.size W W' := ap.below (Nat.le_refl _) (by simp)
  exact ⟨_, rfl, _, _, _, [], _, [], hW', trodAll_mk1 (shut_bool Try.underlying4 _), (trodAll_cons_mk (Below.trod laidOut (by kernel_rfl) (of_decide_eq_true (by kernel_rfl)) k0 bel lt0) (trodAll_cons_mk (Below.trod laidOut (by kernel_rfl) (of_decide_eq_true (by kernel_rfl)) k1 bel lt1) trodAll_mk0)), rfl, bel.frame _, fun h => by cases h⟩
theorem seen_over : Rows.typesSeenRow.holds Try.pinned (OpenSpec.ofChange Rows.typesSeenSpec) :=
  OpenClaim.holds_of_wide 6 Try.f6 rfl rfl rfl rfl rfl rfl rfl ⟨rfl, rfl, rfl, rfl, rfl⟩ rfl rfl rfl rfl rfl (by kernel_rfl) Try.func6 (by kernel_rfl)
    (of_decide_eq_true (by kernel_rfl)) (by unfold Func.isWrapper; first | (rw [if_pos (by decide +kernel)]; kernel_rfl) | (rw [if_neg (by decide +kernel)]; exact ⟨rfl, rfl⟩))
    (fun os started H enc _ => seen_lifted os started H enc)
end Go.Proofs.Ytdbeeikjngnnnaa.ty
namespace Go.Proofs.Ytdbeeikjngnnnaa
theorem typesSeen_holds : Rows.TypesSeenSaid := ty.seen_over
end Go.Proofs.Ytdbeeikjngnnnaa
