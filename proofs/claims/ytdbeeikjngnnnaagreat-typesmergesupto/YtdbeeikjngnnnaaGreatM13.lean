import Derived.Test.YtdbeeikjngnnnaaGreatChecked
import Derived.WalkKit
import Derived.ProofKit
import Derived.OpenShut
import Derived.Deep.QuietTactic
import Derived.BigQuiet
import Derived.BigRegion
import Derived.Laws.CopyOwn
import Derived.Laws.IdiomCopy
import Derived.WalkSmall
import Derived.Laws.ResultCell
import Derived.Laws.AppendOwnNone
import Derived.Deep.RegionHeld
import Derived.Deep.DeepAppendRoom
import Derived.Great.BuildSlice
import Derived.Deep.CutBlock
import Derived.Deep.RegionLaw
import Derived.ArgAppend
import Derived.Laws.Strings
import Derived.Laws.StructEq
import Derived.Below
import Derived.Deep.MidRow
import Derived.Great.Ranges
import Derived.Deep.RegionHeld3
import Derived.Laws.NewBlocks
import Derived.OrdersHeld
import Derived.Stop.BytesEq
import Derived.Laws.BytesString
import Derived.Lib.ConvBytes
import Derived.Laws.BitsAllLaws
import Derived.WalkLawsBesides
import Derived.Lib.Bytealg
import Derived.Laws.Externs
import Derived.Lib.SliceRun
import Derived.Lib.AppendZerosOnto
import Derived.Lib.AppendStr
import Derived.Lib.SlBytesConst
import Derived.Sort.Walk0
import Derived.Laws.Cover1
import Derived.Lib.Strings
import Derived.Lib.MinMaxS
import GoSem.Claim
import GoSem.ClaimJoined
import GoSem.ClaimMapViews
import Derived.JoinedTies
import Derived.KernelRfl
import Derived.JoinedCond
import Derived.ShutString
import Derived.ChangeOld
import Derived.Carry
import Derived.ChangeSlices
import Derived.Deep.Slices
import Derived.Deep.DeepHandedRow
import Derived.RowKit
import Derived.ChangeShapes
import Derived.SizedLaws
import Derived.ChangeMaps5
import Derived.Sort.WalkA
import Derived.Test.YtdbeeikjngnnnaaGreatRows
import Derived.Test.YtdbeeikjngnnnaaGreatM12
namespace Go.Proofs.YtdbeeikjngnnnaaGreat.ty
open Go.ChangeShapes Go.WideShapes Go.ChangeAt Go.RowKit
set_option linter.unusedVariables false
set_option linter.unusedSimpArgs false
set_option maxRecDepth 100000 in
theorem Put2_p {w : World} {V : Nat} {cs : Array Value} (a b : Value) {Q : Array Value → World → Prop} (hV : Bd w V (.iface 104 (.agg cs))) (hc : Calls Tryz.prog 114 #[.agg cs, a, b] w fun r w' => ∃ d, r = .returned (.tuple #[.iface 104 (.agg d), .int .i64 0]) ∧ Apart [] w w' ∧ Q d w') : Calls Tryz.prog 36 #[.pointer (some ⟨V, 0, none⟩), a, b] w fun r w' => r = .returned (.int .i64 0) ∧ ∃ d w1, Bd w' V (.iface 104 (.agg d)) ∧ Apart [] w w1 ∧ Apart [V] w1 w' ∧ Bd w1 V (.iface 104 (.agg cs)) ∧ Q d w1 := by
  have z : w.cell? ⟨V, 0, none⟩ = some (.iface 104 (.agg cs)) := by rw [cell_of_row _ _ _ _ _ _ hV]; rfl
  have HV := hid hV
  clear hV
  have hm := fun wx => me_put2 cs wx
  have HC := hid hc
  clear hc
  go_enter Tryz.func36, Tryz.ntmps36
  go_wp2_with (go_at_call 114; refine HC.out.mono ?_; rintro _ w1 ⟨d, rfl, a1, q1⟩; have HA1 := hid a1; have HQ1 := hid q1; clear a1 q1)
  go_wp2_with (go_at_call 34; refine (become_ok (b0 := .iface 104 (.agg cs)) (keep0 HA1.out HV.out) 104 (.agg d)).mono ?_; rintro _ w2 ⟨rfl, b2, a2⟩; have HA2 := hid (And.intro b2 a2); clear b2 a2)
  go_wp2_with fail
  go_ret
  exact ⟨rfl, d, w1, HA2.out.1, HA1.out, HA2.out.2, keep0 HA1.out HV.out, HQ1.out⟩
set_option maxRecDepth 100000 in
theorem Take2_p {w : World} {V : Nat} {cs : Array Value} (a : Value) {Q : Array Value → World → Prop} (hV : Bd w V (.iface 104 (.agg cs))) (hc : Calls Tryz.prog 117 #[.agg cs, a] w fun r w' => ∃ d, r = .returned (.tuple #[.iface 104 (.agg d), .int .i64 0]) ∧ Apart [] w w' ∧ Q d w') : Calls Tryz.prog 37 #[.pointer (some ⟨V, 0, none⟩), a] w fun r w' => r = .returned (.int .i64 0) ∧ ∃ d w1, Bd w' V (.iface 104 (.agg d)) ∧ Apart [] w w1 ∧ Apart [V] w1 w' ∧ Bd w1 V (.iface 104 (.agg cs)) ∧ Q d w1 := by
  have z : w.cell? ⟨V, 0, none⟩ = some (.iface 104 (.agg cs)) := by rw [cell_of_row _ _ _ _ _ _ hV]; rfl
  have HV := hid hV
  clear hV
  have hm := fun wx => me_take2 cs wx
  have HC := hid hc
  clear hc
  go_enter Tryz.func37, Tryz.ntmps37
  go_wp2_with (go_at_call 117; refine HC.out.mono ?_; rintro _ w1 ⟨d, rfl, a1, q1⟩; have HA1 := hid a1; have HQ1 := hid q1; clear a1 q1)
  go_wp2_with (go_at_call 34; refine (become_ok (b0 := .iface 104 (.agg cs)) (keep0 HA1.out HV.out) 104 (.agg d)).mono ?_; rintro _ w2 ⟨rfl, b2, a2⟩; have HA2 := hid (And.intro b2 a2); clear b2 a2)
  go_wp2_with fail
  go_ret
  exact ⟨rfl, d, w1, HA2.out.1, HA1.out, HA2.out.2, keep0 HA1.out HV.out, HQ1.out⟩
set_option maxRecDepth 100000 in
theorem Elements2_p {w : World} {V : Nat} {cs : Array Value} {Q : Value → World → Prop} (hV : Bd w V (.iface 104 (.agg cs))) (hc : Calls Tryz.prog 112 #[.agg cs] w fun r w' => ∃ x, r = .returned x ∧ Q x w') : Calls Tryz.prog 31 #[.pointer (some ⟨V, 0, none⟩)] w fun r w' => ∃ x, r = .returned x ∧ Q x w' := by
  have z : w.cell? ⟨V, 0, none⟩ = some (.iface 104 (.agg cs)) := by rw [cell_of_row _ _ _ _ _ _ hV]; rfl
  have hm := fun wx => me_elements2 cs wx
  have HC := hid hc
  clear hc hV
  go_enter Tryz.func31, Tryz.ntmps31
  go_wp2_with (go_at_call 112; refine HC.out.mono ?_; rintro _ w1 ⟨x, rfl, q1⟩; have HQ := hid q1; clear q1)
  go_wp2_with fail
  go_ret
  exact ⟨_, rfl, HQ.out⟩
set_option maxRecDepth 100000 in
theorem Text4_p {w : World} {V : Nat} {cs : Array Value} {Q : Value → World → Prop} (hV : Bd w V (.iface 108 (.agg cs))) (hc : Calls Tryz.prog 136 #[.agg cs] w fun r w' => ∃ x, r = .returned x ∧ Q x w') : Calls Tryz.prog 27 #[.pointer (some ⟨V, 0, none⟩)] w fun r w' => ∃ x, r = .returned x ∧ Q x w' := by
  have z : w.cell? ⟨V, 0, none⟩ = some (.iface 108 (.agg cs)) := by rw [cell_of_row _ _ _ _ _ _ hV]; rfl
  have hm := fun wx => me_text4 cs wx
  have HC := hid hc
  clear hc hV
  go_enter Tryz.func27, Tryz.ntmps27
  go_wp2_with (go_at_call 136; refine HC.out.mono ?_; rintro _ w1 ⟨x, rfl, q1⟩; have HQ := hid q1; clear q1)
  go_wp2_with fail
  go_ret
  exact ⟨_, rfl, HQ.out⟩
/-- a value -/
def Vl : Type := (List Int × List Int) ⊕ (List Int × List En) ⊕ (List Int × List Int) ⊕ (Int × Int × ByteArray)
abbrev Vl.cnt (u d : List Int) : Vl := Sum.inl (u, d)
abbrev Vl.set (c : List Int) (es : List En) : Vl := Sum.inr (Sum.inl (c, es))
abbrev Vl.flg (c g : List Int) : Vl := Sum.inr (Sum.inr (Sum.inl (c, g)))
abbrev Vl.rgs (s a : Int) (t : ByteArray) : Vl := Sum.inr (Sum.inr (Sum.inr (s, a, t)))
theorem Vl.el {motive : Vl → Prop} (cnt : ∀ u d, motive (Vl.cnt u d)) (set : ∀ c es, motive (Vl.set c es)) (flg : ∀ c g, motive (Vl.flg c g)) (rgs : ∀ s a t, motive (Vl.rgs s a t)) (v : Vl) : motive v := by
  rcases v with ⟨u, d⟩ | ⟨c, es⟩ | ⟨c, g⟩ | ⟨s, a, t⟩
  · exact cnt u d
  · exact set c es
  · exact flg c g
  · exact rgs s a t
/-- .. in memory -/
def Ho (w : World) (V : Nat) : Vl → Prop
  | Sum.inl (u, d) => Bd w V (.iface 101 (.agg (rv (u ++ d)).toArray))
  | Sum.inr (Sum.inl (c, es)) => ∃ s, Bd w V (.iface 104 (.agg (sv c s))) ∧ Es w s es
  | Sum.inr (Sum.inr (Sum.inl (c, g))) => Bd w V (.iface 106 (.agg (rv (c ++ g)).toArray))
  | Sum.inr (Sum.inr (Sum.inr (s, a, t))) => Bd w V (.iface 108 (.agg (ty.rg s a t)))
def Cn (r : List Int) : Prop := r.length = 8 ∧ ∀ i, 0 ≤ r.getD i 0 ∧ r.getD i 0 ≤ 65535
/-- as it may be -/
def Ok : Vl → Prop
  | Sum.inl (u, d) => Wd u ∧ Wd d
  | Sum.inr (Sum.inl (c, es)) => Cn c ∧ So es ∧ es.length ≤ 200 ∧ (∀ x ∈ es, x.e.size ≤ 8 ∧ Cn x.t)
  | Sum.inr (Sum.inr (Sum.inl (c, g))) => Cn c ∧ Cn g
  | Sum.inr (Sum.inr (Sum.inr (s, a, t))) => 0 ≤ s ∧ s ≤ 16777215
def Vl.kd : Vl → Nat
  | Sum.inl _ => 1
  | Sum.inr (Sum.inl _) => 2
  | Sum.inr (Sum.inr (Sum.inl _)) => 3
  | Sum.inr (Sum.inr (Sum.inr _)) => 4
theorem no106 {w : World} {V : Nat} {b : Value} (h : Bd w V b) : ∀ k ∈ [V], ∀ cur m, w.heap[k]? ≠ some (.cells cur 141 m) := by
  intro k hk cur m e
  simp at hk
  subst hk
  rw [show w.heap[k]? = _ from h] at e
  simp only [Option.some.injEq, Obj.cells.injEq] at e
  exact absurd e.2.1 (by decide)
/-- another value may change -/
theorem Ho.other {w w' : World} {V V' : Nat} {v : Vl} {b : Value} (h : Ho w V v) (a : Apart [V'] w w') (hb : Bd w V' b) (hn : V ≠ V') : Ho w' V v := by
  cases v using Vl.el with
  | cnt u d => exact keepB a h hn
  | set c es => obtain ⟨s, h1, h2⟩ := h; exact ⟨s, keepB a h1 hn, h2.kept a (no106 hb)⟩
  | flg c g => exact keepB a h hn
  | rgs s x t => exact keepB a h hn
theorem Ho.kept0 {w w' : World} {V : Nat} {v : Vl} (h : Ho w V v) (a : Apart [] w w') : Ho w' V v := by
  cases v using Vl.el with
  | cnt u d => exact keep0 a h
  | set c es => obtain ⟨s, h1, h2⟩ := h; exact ⟨s, keep0 a h1, h2.kept0 a⟩
  | flg c g => exact keep0 a h
  | rgs s x t => exact keep0 a h
theorem Ho.bd {w : World} {V : Nat} {v : Vl} (h : Ho w V v) : ∃ b, Bd w V b := by
  cases v using Vl.el with
  | cnt u d => exact ⟨_, h⟩
  | set c es => obtain ⟨s, h1, h2⟩ := h; exact ⟨_, h1⟩
  | flg c g => exact ⟨_, h⟩
  | rgs s x t => exact ⟨_, h⟩
def new0 (k : Nat) : Vl := if k = 1 then .cnt zr zr else if k = 2 then .set zr [] else if k = 3 then .flg zr zr else .rgs 0 0 ⟨#[]⟩
theorem Ho.new (w : World) (k : Nat) (h1 : 1 ≤ k) (h4 : k ≤ 4) : Ho (w.alloc (.cells #[zb k] 71)) w.heap.size (new0 k) := by
  obtain rfl | rfl | rfl | rfl : k = 1 ∨ k = 2 ∨ k = 3 ∨ k = 4 := by omega
  · exact heap_alloc_new w _
  · exact ⟨⟨none, 0, 0⟩, heap_alloc_new w _, Es.nil _⟩
  · exact heap_alloc_new w _
  · exact heap_alloc_new w _
theorem Cn.zr : Cn zr := ⟨rfl, fun i => by
  have e : ty.zr = List.replicate 8 0 := rfl
  rw [e, List.getD_eq_getElem?_getD, List.getElem?_replicate]
  split <;> simp⟩
/-- Add -/
def addR (v : Vl) (a b : Int) : Int × Vl := match v with
  | Sum.inl (u, d) => if isA a = false then (191, v) else if b > 16777215 ∨ b < -16777215 then (92, v) else if u.getD a.toNat 0 + max b 0 > 16777215 ∨ d.getD a.toNat 0 - min b 0 > 16777215 then (92, v) else (0, .cnt (u.set a.toNat (u.getD a.toNat 0 + max b 0)) (d.set a.toNat (d.getD a.toNat 0 - min b 0)))
  | _ => (190, v)
theorem isA_i {a : Int} (h : isA a = true) : ∃ i : Nat, a = (i : Int) ∧ i < 8 ∧ a.toNat = i := by
  simp [isA] at h
  exact ⟨a.toNat, by omega, by omega, rfl⟩
theorem Add_v {w : World} {V : Nat} {v : Vl} (hV : Ho w V v) (ok : Ok v) (a b : Int) : Calls Tryz.prog 15 #[.pointer (some ⟨V, 0, none⟩), .int .i64 a, .int .i64 b] w fun r w' => r = .returned (.int .i64 (addR v a b).1) ∧ Ho w' V (addR v a b).2 ∧ Apart [V] w w' := by
  cases v using Vl.el with
  | cnt u d =>
    cases ha : isA a
    · have e : addR (.cnt u d) a b = (191, .cnt u d) := by simp [addR, ha]
      rw [e]
      refine (Add1_no (.int .i64 a) (.int .i64 b) (by decide) hV (add_actor a b ha)).mono ?_
      rintro _ w' ⟨rfl, a'⟩
      exact ⟨rfl, hV.kept0 a', a'.mono (by simp)⟩
    · obtain ⟨i, rfl, hi, hx⟩ := isA_i ha
      by_cases h1 : b > 16777215 ∨ b < -16777215
      · have e : addR (.cnt u d) i b = (92, .cnt u d) := by simp [addR, ha, h1]
        rw [e]
        refine (Add1_no (.int .i64 (i : Int)) (.int .i64 b) (by decide) hV (add_wide (i : Int) b ha h1)).mono ?_
        rintro _ w' ⟨rfl, a'⟩
        exact ⟨rfl, hV.kept0 a', a'.mono (by simp)⟩
      · have hc := add_ok (w := w) ok.1 ok.2 i hi b (by omega) (by omega)
        by_cases h2 : u.getD i 0 + max b 0 > 16777215 ∨ d.getD i 0 - min b 0 > 16777215
        · have e : addR (.cnt u d) i b = (92, .cnt u d) := by simp only [addR, hx, ha, if_neg h1, if_pos h2]; simp
          have e2 : addV u d i b = .tuple #[.nilIface, .int .i64 92] := by rw [addV, if_pos h2]
          rw [e]
          rw [e2] at hc
          refine (Add1_no (.int .i64 (i : Int)) (.int .i64 b) (by decide) hV hc).mono ?_
          rintro _ w' ⟨rfl, a'⟩
          exact ⟨rfl, hV.kept0 a', a'.mono (by simp)⟩
        · have e : addR (.cnt u d) i b = (0, .cnt (u.set i (u.getD i 0 + max b 0)) (d.set i (d.getD i 0 - min b 0))) := by simp only [addR, hx, ha, if_neg h1, if_neg h2]; simp
          have e2 : addV u d i b = .tuple #[.iface 101 (.agg (rv (u.set i (u.getD i 0 + max b 0) ++ d.set i (d.getD i 0 - min b 0))).toArray), .int .i64 0] := by rw [addV, if_neg h2]
          rw [e]
          rw [e2] at hc
          refine (Add1_ok (.int .i64 (i : Int)) (.int .i64 b) hV hc).mono ?_
          rintro _ w' ⟨rfl, h', a'⟩
          exact ⟨rfl, h', a'⟩
  | set c es =>
    have hV' := hV
    obtain ⟨s, h1, h2⟩ := hV
    refine (Add2_no _ _ (e := 190) (by decide) h1 (sv_size ok.1.1 s) (o_add _ _ _)).mono ?_
    rintro _ w' ⟨rfl, a'⟩
    exact ⟨rfl, hV'.kept0 a', a'.mono (by simp)⟩
  | flg c g =>
    refine (Add3_no _ _ (e := 190) (by decide) hV (by simp [rv_len, ok.1.1, ok.2.1]) (o_add _ _ _)).mono ?_
    rintro _ w' ⟨rfl, a'⟩
    exact ⟨rfl, hV.kept0 a', a'.mono (by simp)⟩
  | rgs s x t =>
    refine (Add4_no _ _ (e := 190) (by decide) hV rfl (o_add _ _ _)).mono ?_
    rintro _ w' ⟨rfl, a'⟩
    exact ⟨rfl, hV.kept0 a', a'.mono (by simp)⟩
end Go.Proofs.YtdbeeikjngnnnaaGreat.ty
namespace Go.Proofs.YtdbeeikjngnnnaaGreat.ty
open Go.ChangeShapes Go.WideShapes Go.ChangeAt Go.RowKit
set_option linter.unusedVariables false
set_option linter.unusedSimpArgs false
def wn (k j : Nat) (g : Bool) : Int := if k ≠ j then 190 else if g then 0 else 191
theorem Cn.set {r : List Int} (h : Cn r) (i : Nat) {x : Int} (h0 : 0 ≤ x) (h1 : x ≤ 65535) : Cn (r.set i x) := by
  refine ⟨by rw [List.length_set]; exact h.1, fun j => ?_⟩
  rw [List.getD_eq_getElem?_getD, List.getElem?_set]
  have hj := h.2 j
  rw [List.getD_eq_getElem?_getD] at hj
  split
  · split
    · exact ⟨h0, h1⟩
    · simp
  · exact hj
end Go.Proofs.YtdbeeikjngnnnaaGreat.ty
