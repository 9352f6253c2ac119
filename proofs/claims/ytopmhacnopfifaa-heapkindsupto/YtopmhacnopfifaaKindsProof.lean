import Derived.Test.YtopmhacnopfifaaKE
import Derived.JoinedCond
import Derived.ShutString
import Derived.ChangeOld
import Derived.Below
import Derived.Carry
import Derived.ChangeSlices
import Derived.Deep.Slices
import Derived.Deep.DeepHandedRow
namespace Go.Proofs.Ytopmhacnopfifaa.kk
open Go.ChangeShapes Go.WideShapes Go.ChangeAt Go.RowKit Go.Deep
theorem own : ownKnob Try.prog.godebug = none := by kernel_rfl
theorem laidOut : laidOutB Try.prog = true := by kernel_rfl
theorem cells3 : Try.prog.cellsOf 3 = 1 := by kernel_rfl
theorem cells9 : Try.prog.cellsOf 9 = 1 := by kernel_rfl
/-- each value weighs something -/
theorem weigh {H : Type} (d : DataW H) : 0 < Rows.uptoBulk d := by
  cases d
  case lit l => cases l <;> (unfold Rows.uptoBulk; omega)
  all_goals (unfold Rows.uptoBulk; omega)
theorem many {H : Type} : ∀ l : List (DataW H), l.length ≤ Rows.uptoBulkAll l
  | [] => Nat.zero_le _
  | d :: l => by have h1 := weigh d; have h2 := many l; rw [Rows.uptoBulkAll, List.length_cons]; omega
theorem all_cons {H : Type} (d : DataW H) (l : List (DataW H)) : Rows.uptoBulkAll (d :: l) = Rows.uptoBulk d + Rows.uptoBulkAll l := by rw [Rows.uptoBulkAll]
theorem all_nil {H : Type} : Rows.uptoBulkAll ([] : List (DataW H)) = 0 := by rw [Rows.uptoBulkAll]
theorem slice_many {H : Type} (a b : List (DataW H)) : a.length ≤ Rows.uptoBulk (.slice a b) := by
  have := many a
  rw [Rows.uptoBulk]; omega
/-- a []int that came in -/
theorem open_row {H : Type} {enc : TypeId × Value → H} {W : World} {fuel : Nat} {p : Option Addr} {len cap : Nat} {x : DataW H × List MemPlace} (h : DataW.trod enc Try.prog W 0 (fun _ => true) true fuel 39 [.slice p len cap] = some x) : ∃ fs, Ints W p len fs ∧ len ≤ Rows.uptoBulk x.1 := by
  rcases open_ints Try.underlying39 Try.underlying3 cells3 h with ⟨hcs, _⟩ | ⟨a, len', cap', zs, hcs, _, hl, hm, hz, hx, hall, _⟩
  · simp only [List.cons.injEq, Value.slice.injEq, and_true] at hcs
    obtain ⟨rfl, rfl, rfl⟩ := hcs
    exact ⟨fun _ => 0, fun h => absurd h (by omega), Nat.zero_le _⟩
  · simp only [if_true] at hz
    simp only [List.cons.injEq, Value.slice.injEq, and_true] at hcs
    obtain ⟨rfl, rfl, rfl⟩ := hcs
    refine ⟨fun i => zs.getD i 0, fun h0 => ?_, ?_⟩
    · obtain ⟨P, o, spot⟩ := a
      have hc := hall 0 (by omega)
      have hspot : spot = none := by simpa [Addr.add] using World.cell?_spot hc
      subst hspot
      refine ⟨P, o, rfl, block_lt_of_cell hc, fun i hi => ?_⟩
      have := hall i (by omega)
      rwa [Addr.add_lit] at this
    · subst hx
      refine Nat.le_trans ?_ (slice_many _ _)
      simp [lits]
      omega
/-- a []string that came in -/
theorem open_strs {H : Type} {enc : TypeId × Value → H} {W : World} {fuel : Nat} {p : Option Addr} {len cap : Nat} {x : DataW H × List MemPlace} (h : DataW.trod enc Try.prog W 0 (fun _ => true) true fuel 65 [.slice p len cap] = some x) : ∃ fs, Strs W p len fs ∧ len ≤ Rows.uptoBulk x.1 := by
  rcases open_slice Try.underlying65 h with ⟨hcs, _⟩ | ⟨a, len', cap', m, n, D, Pl, hcs, _, hl, hm, hmeq, hx, hall⟩
  · simp only [List.cons.injEq, Value.slice.injEq, and_true] at hcs
    obtain ⟨rfl, rfl, rfl⟩ := hcs
    exact ⟨fun _ => ByteArray.empty, fun h => absurd h (by omega), Nat.zero_le _⟩
  · simp only [if_true] at hmeq
    subst hmeq
    simp only [List.cons.injEq, Value.slice.injEq, and_true] at hcs
    obtain ⟨rfl, rfl, rfl⟩ := hcs
    have hlim : len ≤ Rows.uptoBulk x.1 := by
      subst hx
      refine Nat.le_trans ?_ (slice_many _ _)
      simp
    by_cases h0 : 0 < len
    · obtain ⟨P, o, spot⟩ := a
      have one : ∀ i, i < len → ∃ q : ByteArray, W.cell? ((⟨P, o, spot⟩ : Addr).add (i * 1)) = some (.string q) := by
        intro i hi
        obtain ⟨cs', h1, h2⟩ := hall i (by omega)
        rw [cells9] at h1
        obtain ⟨_, hlen, hcell⟩ := World.cells?_some h1
        obtain ⟨s4, q4, e4, _⟩ := DataW.trod_string Try.underlying9 h2
        subst q4
        have := hcell 0 (by omega)
        simp at this
        exact ⟨s4, by rw [Nat.mul_one]; exact (by cases spot <;> simpa [Addr.add] using this)⟩
      have hspot : spot = none := by
        obtain ⟨q, hq⟩ := one 0 h0
        have := World.cell?_spot hq
        simpa [Addr.add] using this
      subst hspot
      have each : ∀ i, i < len → ∃ q : ByteArray, W.cell? ⟨P, o + i, none⟩ = some (.string q) := by
        intro i hi
        obtain ⟨q, hq⟩ := one i hi
        rw [Addr.add_lit, Nat.mul_one] at hq
        exact ⟨q, hq⟩
      have hlt : P < W.heap.size := by
        obtain ⟨q, hq⟩ := each 0 h0
        exact block_lt_of_cell hq
      exact ⟨fun i => if hi : i < len then (each i hi).choose else ByteArray.empty, fun _ => ⟨P, o, rfl, hlt, fun i hi => by simp only [dif_pos hi]; exact (each i hi).choose_spec⟩, hlim⟩
    · exact ⟨fun _ => ByteArray.empty, fun h => absurd h h0, hlim⟩
end Go.Proofs.Ytopmhacnopfifaa.kk
namespace Go.Proofs.Ytopmhacnopfifaa.kk
open Go.ChangeShapes Go.WideShapes Go.ChangeAt Go.RowKit
set_option linter.unusedVariables false
set_option maxRecDepth 100000 in
theorem kinds_lifted (os : Os) (started : os.Started) (H : Type) (enc : TypeId × Value → H) (F : Stop.Interp) :
    ReturnsInHanded {} Try.checked os 7 .any ((Rows.OpenSpec.upto Rows.heapKindsSpec).pre6 enc Try.prog Try.f7 Rows.heapKindsUptoRow.domain false) (((Rows.OpenSpec.upto Rows.heapKindsSpec).at F).post enc Try.prog Try.f7 false true false false) := by
  refine returnsInHanded_of_cond (C := Try.checked) (s := Rows.OpenSpec.upto Rows.heapKindsSpec) (k := Rows.uptoSmall) rfl own started (by kernel_rfl) Try.func7
    (OpenSpec.witness (enc := enc) (C := Try.checked) (s := Rows.OpenSpec.upto Rows.heapKindsSpec) (k := Rows.uptoSmall) rfl false ⟨#[], #[.slice none 0 0, .slice none 0 0], []⟩ 8 (by kernel_rfl) (by kernel_rfl) (by kernel_rfl)
      (x := ([.nil, .nil], [], [])) (by kernel_rfl) rfl (by kernel_rfl)) ?_
  intro W base args ds gs before hval0 hW _ hk _
  have hval : ∀ (j : Nat) t v, Try.f7.params[j]? = some t → args[j]? = some v → Value.okWide Try.prog W .any base t v := hval0
  have hW' := hW
  obtain ⟨p, q, hA0, hV, rfl, hfz, hnd⟩ := hW
  have hA : DataW.TrodAll enc Try.prog W 0 (fun _ => true) true Try.f7.params.toList args.toList ds p := hA0
  rw [Try.params7] at hA hval
  obtain ⟨v0, vs0, d0, ds0, p0, q0, hargs, rfl, rfl, h0, r0⟩ := trodAll_cons hA
  obtain ⟨v1, vs1, d1, ds1, p1, q1, rfl, rfl, rfl, h1, r1⟩ := trodAll_cons r0
  obtain ⟨rfl, rfl, rfl⟩ := trodAll_nil r1
  obtain rfl : args = #[v0, v1] := by cases args; simp_all
  obtain ⟨rfl, rfl⟩ := trodVars_none hV
  obtain ⟨a0, len0, cap0, rfl⟩ := okWide_slice Try.underlying39 (hval 0 39 v0 rfl rfl)
  obtain ⟨a1, len1, cap1, rfl⟩ := okWide_slice Try.underlying65 (hval 1 65 v1 rfl rfl)
  have k0 := h0
  have k1 := h1
  have lt0 : ∀ x ∈ p0, x.block < W.heap.size := by obtain ⟨m, hm⟩ := k0; exact DataW.trod_lt m _ _ _ hm
  have lt1 : ∀ x ∈ p1, x.block < W.heap.size := by obtain ⟨m, hm⟩ := k1; exact DataW.trod_lt m _ _ _ hm
  obtain ⟨fs, hp, hlen⟩ : ∃ fs, Ints W a0 len0 fs ∧ len0 ≤ Rows.uptoBulk d0 := by obtain ⟨fuel, hf⟩ := h0; exact open_row hf
  obtain ⟨ts, hp1, hlen1⟩ : ∃ fs, Strs W a1 len1 fs ∧ len1 ≤ Rows.uptoBulk d1 := by obtain ⟨fuel, hf⟩ := h1; exact open_strs hf
  clear hA0 hval0
  have hb : Rows.uptoBulkAll ([d0, d1] ++ []) ≤ 1048576 := of_decide_eq_true hk
  rw [List.append_nil, all_cons, all_cons, all_nil] at hb
  refine (kinds_walk W a0 len0 cap0 fs (by omega) hp a1 len1 cap1 ts (by omega) hp1).mono fun e W' ⟨he, bel⟩ => ?_
  subst he
  exact ⟨_, rfl, _, _, _, [], _, [], hW', trodAll_mk1 (shut_bool Try.underlying4 _), (trodAll_cons_mk (Below.trod laidOut (by kernel_rfl) (of_decide_eq_true (by kernel_rfl)) k0 bel lt0) (trodAll_cons_mk (Below.trod laidOut (by kernel_rfl) (of_decide_eq_true (by kernel_rfl)) k1 bel lt1) trodAll_mk0)), rfl, bel.frame _, fun h => by cases h⟩
theorem kinds_over : Rows.HeapKindsUptoSaid :=
  OpenClaim.holds_of_cond 7 Try.f7 rfl rfl rfl rfl rfl rfl rfl ⟨rfl, rfl, rfl, rfl, rfl⟩ rfl rfl rfl rfl rfl (by kernel_rfl) Try.func7 (by kernel_rfl)
    (of_decide_eq_true (by kernel_rfl)) (by unfold Func.isWrapper; first | (rw [if_pos (by decide +kernel)]; kernel_rfl) | (rw [if_neg (by decide +kernel)]; exact ⟨rfl, rfl⟩))
    (fun os started H enc _ F => kinds_lifted os started H enc F)
end Go.Proofs.Ytopmhacnopfifaa.kk
namespace Go.Proofs.Ytopmhacnopfifaa
theorem heapKinds_holds : Rows.HeapKindsUptoSaid := kk.kinds_over
end Go.Proofs.Ytopmhacnopfifaa
