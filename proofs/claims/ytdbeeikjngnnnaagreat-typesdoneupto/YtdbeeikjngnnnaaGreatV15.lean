import Derived.Test.YtdbeeikjngnnnaaGreatChecked
import Derived.WalkKit
import Derived.ProofKit
import Derived.OpenShut
import Derived.Deep.QuietTactic
import Derived.BigQuiet
import Derived.BigRegion
import Derived.Laws.CopyOwn
import Derived.Laws.IdiomCopy
import Derived.WalkSmall
import Derived.Laws.ResultCell
import Derived.Laws.AppendOwnNone
import Derived.Deep.RegionHeld
import Derived.Deep.DeepAppendRoom
import Derived.Great.BuildSlice
import Derived.Deep.CutBlock
import Derived.Deep.RegionLaw
import Derived.ArgAppend
import Derived.Laws.Strings
import Derived.Laws.StructEq
import Derived.Below
import Derived.Deep.MidRow
import Derived.Great.Ranges
import Derived.Deep.RegionHeld3
import Derived.Laws.NewBlocks
import Derived.OrdersHeld
import Derived.Stop.BytesEq
import Derived.Laws.BytesString
import Derived.Lib.ConvBytes
import Derived.Laws.BitsAllLaws
import Derived.WalkLawsBesides
import Derived.Lib.Bytealg
import Derived.Laws.Externs
import Derived.Lib.SliceRun
import Derived.Lib.AppendZerosOnto
import Derived.Lib.AppendStr
import Derived.Lib.SlBytesConst
import Derived.Sort.Walk0
import Derived.Laws.Cover1
import Derived.Lib.Strings
import Derived.Lib.MinMaxS
import GoSem.Claim
import GoSem.ClaimJoined
import GoSem.ClaimMapViews
import Derived.JoinedTies
import Derived.KernelRfl
import Derived.JoinedCond
import Derived.ShutString
import Derived.ChangeOld
import Derived.Carry
import Derived.ChangeSlices
import Derived.Deep.Slices
import Derived.Deep.DeepHandedRow
import Derived.RowKit
import Derived.ChangeShapes
import Derived.SizedLaws
import Derived.ChangeMaps5
import Derived.Sort.WalkA
import Derived.Test.YtdbeeikjngnnnaaGreatRows
import Derived.Test.YtdbeeikjngnnnaaGreatV14
namespace Go.Proofs.YtdbeeikjngnnnaaGreat.ty
open Go.ChangeShapes Go.WideShapes Go.ChangeAt Go.RowKit
set_option linter.unusedVariables false
set_option linter.unusedSimpArgs false
set_option maxRecDepth 100000 in
theorem o_add (w : World) (x y : Value) : Calls Tryz.prog 91 #[.agg #[], x, y] w fun r w' => r = .returned (.tuple #[.nilIface, .int .i64 190]) ∧ Apart [] w w' := by
  go_enter Tryz.func91, Tryz.ntmps91
  go_wp2_with fail
  go_ret2
  exact ⟨rfl, (Apart.refl _ _).alloc _⟩
set_option maxRecDepth 100000 in
theorem o_put (w : World) (x y : Value) : Calls Tryz.prog 94 #[.agg #[], x, y] w fun r w' => r = .returned (.tuple #[.nilIface, .int .i64 190]) ∧ Apart [] w w' := by
  go_enter Tryz.func94, Tryz.ntmps94
  go_wp2_with fail
  go_ret2
  exact ⟨rfl, (Apart.refl _ _).alloc _⟩
set_option maxRecDepth 100000 in
theorem o_turn (w : World) (x y : Value) : Calls Tryz.prog 98 #[.agg #[], x, y] w fun r w' => r = .returned (.tuple #[.nilIface, .int .i64 190]) ∧ Apart [] w w' := by
  go_enter Tryz.func98, Tryz.ntmps98
  go_wp2_with fail
  go_ret2
  exact ⟨rfl, (Apart.refl _ _).alloc _⟩
set_option maxRecDepth 100000 in
theorem o_write (w : World) (x y : Value) : Calls Tryz.prog 99 #[.agg #[], x, y] w fun r w' => r = .returned (.tuple #[.nilIface, .int .i64 190]) ∧ Apart [] w w' := by
  go_enter Tryz.func99, Tryz.ntmps99
  go_wp2_with fail
  go_ret2
  exact ⟨rfl, (Apart.refl _ _).alloc _⟩
set_option maxRecDepth 100000 in
theorem o_take (w : World) (x : Value) : Calls Tryz.prog 96 #[.agg #[], x] w fun r w' => r = .returned (.tuple #[.nilIface, .int .i64 190]) ∧ Apart [] w w' := by
  go_enter Tryz.func96, Tryz.ntmps96
  go_wp2_with fail
  go_ret2
  exact ⟨rfl, (Apart.refl _ _).alloc _⟩
set_option maxRecDepth 100000 in
theorem o_sum (w : World) : Calls Tryz.prog 95 #[.agg #[]] w fun r w' => r = .returned (.int .i64 0) ∧ Apart [] w w' := by
  go_enter Tryz.func95, Tryz.ntmps95
  go_wp2_with fail
  go_ret
  exact ⟨rfl, (Apart.refl _ _).alloc _⟩
set_option maxRecDepth 100000 in
theorem o_elements (w : World) : Calls Tryz.prog 92 #[.agg #[]] w fun r w' => r = .returned (.slice none 0 0) ∧ Apart [] w w' := by
  go_enter Tryz.func92, Tryz.ntmps92
  go_wp2_with fail
  go_ret
  exact ⟨rfl, (Apart.refl _ _).alloc _⟩
set_option maxRecDepth 100000 in
theorem o_on (w : World) : Calls Tryz.prog 93 #[.agg #[]] w fun r w' => r = .returned (.bool false) ∧ Apart [] w w' := by
  go_enter Tryz.func93, Tryz.ntmps93
  go_wp2_with fail
  go_ret
  exact ⟨rfl, (Apart.refl _ _).alloc _⟩
set_option maxRecDepth 100000 in
theorem o_text (w : World) : Calls Tryz.prog 97 #[.agg #[]] w fun r w' => r = .returned (.slice none 0 0) ∧ Apart [] w w' := by
  go_enter Tryz.func97, Tryz.ntmps97
  go_wp2_with fail
  go_ret
  exact ⟨rfl, (Apart.refl _ _).alloc _⟩
end Go.Proofs.YtdbeeikjngnnnaaGreat.ty
namespace Go.Proofs.YtdbeeikjngnnnaaGreat.ty
open Go.ChangeShapes Go.WideShapes Go.ChangeAt Go.RowKit
set_option linter.unusedVariables false
set_option linter.unusedSimpArgs false
set_option maxRecDepth 100000 in
theorem Put2_p {w : World} {V : Nat} {cs : Array Value} (a b : Value) {Q : Array Value → World → Prop} (hV : Bd w V (.iface 104 (.agg cs))) (hc : Calls Tryz.prog 114 #[.agg cs, a, b] w fun r w' => ∃ d, r = .returned (.tuple #[.iface 104 (.agg d), .int .i64 0]) ∧ Apart [] w w' ∧ Q d w') : Calls Tryz.prog 36 #[.pointer (some ⟨V, 0, none⟩), a, b] w fun r w' => r = .returned (.int .i64 0) ∧ ∃ d w1, Bd w' V (.iface 104 (.agg d)) ∧ Apart [] w w1 ∧ Apart [V] w1 w' ∧ Bd w1 V (.iface 104 (.agg cs)) ∧ Q d w1 := by
  have z : w.cell? ⟨V, 0, none⟩ = some (.iface 104 (.agg cs)) := by rw [cell_of_row _ _ _ _ _ _ hV]; rfl
  have HV := hid hV
  clear hV
  have hm := fun wx => me_put2 cs wx
  have HC := hid hc
  clear hc
  go_enter Tryz.func36, Tryz.ntmps36
  go_wp2_with (go_at_call 114; refine HC.out.mono ?_; rintro _ w1 ⟨d, rfl, a1, q1⟩; have HA1 := hid a1; have HQ1 := hid q1; clear a1 q1)
  go_wp2_with (go_at_call 34; refine (become_ok (b0 := .iface 104 (.agg cs)) (keep0 HA1.out HV.out) 104 (.agg d)).mono ?_; rintro _ w2 ⟨rfl, b2, a2⟩; have HA2 := hid (And.intro b2 a2); clear b2 a2)
  go_wp2_with fail
  go_ret
  exact ⟨rfl, d, w1, HA2.out.1, HA1.out, HA2.out.2, keep0 HA1.out HV.out, HQ1.out⟩
set_option maxRecDepth 100000 in
theorem Take2_p {w : World} {V : Nat} {cs : Array Value} (a : Value) {Q : Array Value → World → Prop} (hV : Bd w V (.iface 104 (.agg cs))) (hc : Calls Tryz.prog 117 #[.agg cs, a] w fun r w' => ∃ d, r = .returned (.tuple #[.iface 104 (.agg d), .int .i64 0]) ∧ Apart [] w w' ∧ Q d w') : Calls Tryz.prog 37 #[.pointer (some ⟨V, 0, none⟩), a] w fun r w' => r = .returned (.int .i64 0) ∧ ∃ d w1, Bd w' V (.iface 104 (.agg d)) ∧ Apart [] w w1 ∧ Apart [V] w1 w' ∧ Bd w1 V (.iface 104 (.agg cs)) ∧ Q d w1 := by
  have z : w.cell? ⟨V, 0, none⟩ = some (.iface 104 (.agg cs)) := by rw [cell_of_row _ _ _ _ _ _ hV]; rfl
  have HV := hid hV
  clear hV
  have hm := fun wx => me_take2 cs wx
  have HC := hid hc
  clear hc
  go_enter Tryz.func37, Tryz.ntmps37
  go_wp2_with (go_at_call 117; refine HC.out.mono ?_; rintro _ w1 ⟨d, rfl, a1, q1⟩; have HA1 := hid a1; have HQ1 := hid q1; clear a1 q1)
  go_wp2_with (go_at_call 34; refine (become_ok (b0 := .iface 104 (.agg cs)) (keep0 HA1.out HV.out) 104 (.agg d)).mono ?_; rintro _ w2 ⟨rfl, b2, a2⟩; have HA2 := hid (And.intro b2 a2); clear b2 a2)
  go_wp2_with fail
  go_ret
  exact ⟨rfl, d, w1, HA2.out.1, HA1.out, HA2.out.2, keep0 HA1.out HV.out, HQ1.out⟩
set_option maxRecDepth 100000 in
theorem Elements2_p {w : World} {V : Nat} {cs : Array Value} {Q : Value → World → Prop} (hV : Bd w V (.iface 104 (.agg cs))) (hc : Calls Tryz.prog 112 #[.agg cs] w fun r w' => ∃ x, r = .returned x ∧ Q x w') : Calls Tryz.prog 31 #[.pointer (some ⟨V, 0, none⟩)] w fun r w' => ∃ x, r = .returned x ∧ Q x w' := by
  have z : w.cell? ⟨V, 0, none⟩ = some (.iface 104 (.agg cs)) := by rw [cell_of_row _ _ _ _ _ _ hV]; rfl
  have hm := fun wx => me_elements2 cs wx
  have HC := hid hc
  clear hc hV
  go_enter Tryz.func31, Tryz.ntmps31
  go_wp2_with (go_at_call 112; refine HC.out.mono ?_; rintro _ w1 ⟨x, rfl, q1⟩; have HQ := hid q1; clear q1)
  go_wp2_with fail
  go_ret
  exact ⟨_, rfl, HQ.out⟩
set_option maxRecDepth 100000 in
theorem Text4_p {w : World} {V : Nat} {cs : Array Value} {Q : Value → World → Prop} (hV : Bd w V (.iface 108 (.agg cs))) (hc : Calls Tryz.prog 136 #[.agg cs] w fun r w' => ∃ x, r = .returned x ∧ Q x w') : Calls Tryz.prog 27 #[.pointer (some ⟨V, 0, none⟩)] w fun r w' => ∃ x, r = .returned x ∧ Q x w' := by
  have z : w.cell? ⟨V, 0, none⟩ = some (.iface 108 (.agg cs)) := by rw [cell_of_row _ _ _ _ _ _ hV]; rfl
  have hm := fun wx => me_text4 cs wx
  have HC := hid hc
  clear hc hV
  go_enter Tryz.func27, Tryz.ntmps27
  go_wp2_with (go_at_call 136; refine HC.out.mono ?_; rintro _ w1 ⟨x, rfl, q1⟩; have HQ := hid q1; clear q1)
  go_wp2_with fail
  go_ret
  exact ⟨_, rfl, HQ.out⟩
/-- a value -/
def Vl : Type := (List Int × List Int) ⊕ (List Int × List En) ⊕ (List Int × List Int) ⊕ (Int × Int × ByteArray)
abbrev Vl.cnt (u d : List Int) : Vl := Sum.inl (u, d)
abbrev Vl.set (c : List Int) (es : List En) : Vl := Sum.inr (Sum.inl (c, es))
abbrev Vl.flg (c g : List Int) : Vl := Sum.inr (Sum.inr (Sum.inl (c, g)))
abbrev Vl.rgs (s a : Int) (t : ByteArray) : Vl := Sum.inr (Sum.inr (Sum.inr (s, a, t)))
theorem Vl.el {motive : Vl → Prop} (cnt : ∀ u d, motive (Vl.cnt u d)) (set : ∀ c es, motive (Vl.set c es)) (flg : ∀ c g, motive (Vl.flg c g)) (rgs : ∀ s a t, motive (Vl.rgs s a t)) (v : Vl) : motive v := by
  rcases v with ⟨u, d⟩ | ⟨c, es⟩ | ⟨c, g⟩ | ⟨s, a, t⟩
  · exact cnt u d
  · exact set c es
  · exact flg c g
  · exact rgs s a t
/-- .. in memory -/
def Ho (w : World) (V : Nat) : Vl → Prop
  | Sum.inl (u, d) => Bd w V (.iface 101 (.agg (rv (u ++ d)).toArray))
  | Sum.inr (Sum.inl (c, es)) => ∃ s, Bd w V (.iface 104 (.agg (sv c s))) ∧ Es w s es
  | Sum.inr (Sum.inr (Sum.inl (c, g))) => Bd w V (.iface 106 (.agg (rv (c ++ g)).toArray))
  | Sum.inr (Sum.inr (Sum.inr (s, a, t))) => Bd w V (.iface 108 (.agg (ty.rg s a t)))
def Cn (r : List Int) : Prop := r.length = 8 ∧ ∀ i, 0 ≤ r.getD i 0 ∧ r.getD i 0 ≤ 65535
/-- as it may be -/
def Ok : Vl → Prop
  | Sum.inl (u, d) => Wd u ∧ Wd d
  | Sum.inr (Sum.inl (c, es)) => Cn c ∧ So es ∧ es.length ≤ 200 ∧ (∀ x ∈ es, x.e.size ≤ 8 ∧ Cn x.t)
  | Sum.inr (Sum.inr (Sum.inl (c, g))) => Cn c ∧ Cn g
  | Sum.inr (Sum.inr (Sum.inr (s, a, t))) => 0 ≤ s ∧ s ≤ 16777215
def Vl.kd : Vl → Nat
  | Sum.inl _ => 1
  | Sum.inr (Sum.inl _) => 2
  | Sum.inr (Sum.inr (Sum.inl _)) => 3
  | Sum.inr (Sum.inr (Sum.inr _)) => 4
theorem no106 {w : World} {V : Nat} {b : Value} (h : Bd w V b) : ∀ k ∈ [V], ∀ cur m, w.heap[k]? ≠ some (.cells cur 141 m) := by
  intro k hk cur m e
  simp at hk
  subst hk
  rw [show w.heap[k]? = _ from h] at e
  simp only [Option.some.injEq, Obj.cells.injEq] at e
  exact absurd e.2.1 (by decide)
/-- another value may change -/
theorem Ho.other {w w' : World} {V V' : Nat} {v : Vl} {b : Value} (h : Ho w V v) (a : Apart [V'] w w') (hb : Bd w V' b) (hn : V ≠ V') : Ho w' V v := by
  cases v using Vl.el with
  | cnt u d => exact keepB a h hn
  | set c es => obtain ⟨s, h1, h2⟩ := h; exact ⟨s, keepB a h1 hn, h2.kept a (no106 hb)⟩
  | flg c g => exact keepB a h hn
  | rgs s x t => exact keepB a h hn
theorem Ho.kept0 {w w' : World} {V : Nat} {v : Vl} (h : Ho w V v) (a : Apart [] w w') : Ho w' V v := by
  cases v using Vl.el with
  | cnt u d => exact keep0 a h
  | set c es => obtain ⟨s, h1, h2⟩ := h; exact ⟨s, keep0 a h1, h2.kept0 a⟩
  | flg c g => exact keep0 a h
  | rgs s x t => exact keep0 a h
theorem Ho.bd {w : World} {V : Nat} {v : Vl} (h : Ho w V v) : ∃ b, Bd w V b := by
  cases v using Vl.el with
  | cnt u d => exact ⟨_, h⟩
  | set c es => obtain ⟨s, h1, h2⟩ := h; exact ⟨_, h1⟩
  | flg c g => exact ⟨_, h⟩
  | rgs s x t => exact ⟨_, h⟩
def new0 (k : Nat) : Vl := if k = 1 then .cnt zr zr else if k = 2 then .set zr [] else if k = 3 then .flg zr zr else .rgs 0 0 ⟨#[]⟩
theorem Ho.new (w : World) (k : Nat) (h1 : 1 ≤ k) (h4 : k ≤ 4) : Ho (w.alloc (.cells #[zb k] 71)) w.heap.size (new0 k) := by
  obtain rfl | rfl | rfl | rfl : k = 1 ∨ k = 2 ∨ k = 3 ∨ k = 4 := by omega
  · exact heap_alloc_new w _
  · exact ⟨⟨none, 0, 0⟩, heap_alloc_new w _, Es.nil _⟩
  · exact heap_alloc_new w _
  · exact heap_alloc_new w _
theorem Cn.zr : Cn zr := ⟨rfl, fun i => by
  have e : ty.zr = List.replicate 8 0 := rfl
  rw [e, List.getD_eq_getElem?_getD, List.getElem?_replicate]
  split <;> simp⟩
/-- Add -/
def addR (v : Vl) (a b : Int) : Int × Vl := match v with
  | Sum.inl (u, d) => if isA a = false then (191, v) else if b > 16777215 ∨ b < -16777215 then (92, v) else if u.getD a.toNat 0 + max b 0 > 16777215 ∨ d.getD a.toNat 0 - min b 0 > 16777215 then (92, v) else (0, .cnt (u.set a.toNat (u.getD a.toNat 0 + max b 0)) (d.set a.toNat (d.getD a.toNat 0 - min b 0)))
  | _ => (190, v)
theorem isA_i {a : Int} (h : isA a = true) : ∃ i : Nat, a = (i : Int) ∧ i < 8 ∧ a.toNat = i := by
  simp [isA] at h
  exact ⟨a.toNat, by omega, by omega, rfl⟩
theorem Add_v {w : World} {V : Nat} {v : Vl} (hV : Ho w V v) (ok : Ok v) (a b : Int) : Calls Tryz.prog 15 #[.pointer (some ⟨V, 0, none⟩), .int .i64 a, .int .i64 b] w fun r w' => r = .returned (.int .i64 (addR v a b).1) ∧ Ho w' V (addR v a b).2 ∧ Apart [V] w w' := by
  cases v using Vl.el with
  | cnt u d =>
    cases ha : isA a
    · have e : addR (.cnt u d) a b = (191, .cnt u d) := by simp [addR, ha]
      rw [e]
      refine (Add1_no (.int .i64 a) (.int .i64 b) (by decide) hV (add_actor a b ha)).mono ?_
      rintro _ w' ⟨rfl, a'⟩
      exact ⟨rfl, hV.kept0 a', a'.mono (by simp)⟩
    · obtain ⟨i, rfl, hi, hx⟩ := isA_i ha
      by_cases h1 : b > 16777215 ∨ b < -16777215
      · have e : addR (.cnt u d) i b = (92, .cnt u d) := by simp [addR, ha, h1]
        rw [e]
        refine (Add1_no (.int .i64 (i : Int)) (.int .i64 b) (by decide) hV (add_wide (i : Int) b ha h1)).mono ?_
        rintro _ w' ⟨rfl, a'⟩
        exact ⟨rfl, hV.kept0 a', a'.mono (by simp)⟩
      · have hc := add_ok (w := w) ok.1 ok.2 i hi b (by omega) (by omega)
        by_cases h2 : u.getD i 0 + max b 0 > 16777215 ∨ d.getD i 0 - min b 0 > 16777215
        · have e : addR (.cnt u d) i b = (92, .cnt u d) := by simp only [addR, hx, ha, if_neg h1, if_pos h2]; simp
          have e2 : addV u d i b = .tuple #[.nilIface, .int .i64 92] := by rw [addV, if_pos h2]
          rw [e]
          rw [e2] at hc
          refine (Add1_no (.int .i64 (i : Int)) (.int .i64 b) (by decide) hV hc).mono ?_
          rintro _ w' ⟨rfl, a'⟩
          exact ⟨rfl, hV.kept0 a', a'.mono (by simp)⟩
        · have e : addR (.cnt u d) i b = (0, .cnt (u.set i (u.getD i 0 + max b 0)) (d.set i (d.getD i 0 - min b 0))) := by simp only [addR, hx, ha, if_neg h1, if_neg h2]; simp
          have e2 : addV u d i b = .tuple #[.iface 101 (.agg (rv (u.set i (u.getD i 0 + max b 0) ++ d.set i (d.getD i 0 - min b 0))).toArray), .int .i64 0] := by rw [addV, if_neg h2]
          rw [e]
          rw [e2] at hc
          refine (Add1_ok (.int .i64 (i : Int)) (.int .i64 b) hV hc).mono ?_
          rintro _ w' ⟨rfl, h', a'⟩
          exact ⟨rfl, h', a'⟩
  | set c es =>
    have hV' := hV
    obtain ⟨s, h1, h2⟩ := hV
    refine (Add2_no _ _ (e := 190) (by decide) h1 (sv_size ok.1.1 s) (o_add _ _ _)).mono ?_
    rintro _ w' ⟨rfl, a'⟩
    exact ⟨rfl, hV'.kept0 a', a'.mono (by simp)⟩
  | flg c g =>
    refine (Add3_no _ _ (e := 190) (by decide) hV (by simp [rv_len, ok.1.1, ok.2.1]) (o_add _ _ _)).mono ?_
    rintro _ w' ⟨rfl, a'⟩
    exact ⟨rfl, hV.kept0 a', a'.mono (by simp)⟩
  | rgs s x t =>
    refine (Add4_no _ _ (e := 190) (by decide) hV rfl (o_add _ _ _)).mono ?_
    rintro _ w' ⟨rfl, a'⟩
    exact ⟨rfl, hV.kept0 a', a'.mono (by simp)⟩
end Go.Proofs.YtdbeeikjngnnnaaGreat.ty
namespace Go.Proofs.YtdbeeikjngnnnaaGreat.ty
open Go.ChangeShapes Go.WideShapes Go.ChangeAt Go.RowKit
set_option linter.unusedVariables false
set_option linter.unusedSimpArgs false
def wn (k j : Nat) (g : Bool) : Int := if k ≠ j then 190 else if g then 0 else 191
theorem Cn.set {r : List Int} (h : Cn r) (i : Nat) {x : Int} (h0 : 0 ≤ x) (h1 : x ≤ 65535) : Cn (r.set i x) := by
  refine ⟨by rw [List.length_set]; exact h.1, fun j => ?_⟩
  rw [List.getD_eq_getElem?_getD, List.getElem?_set]
  have hj := h.2 j
  rw [List.getD_eq_getElem?_getD] at hj
  split
  · split
    · exact ⟨h0, h1⟩
    · simp
  · exact hj
end Go.Proofs.YtdbeeikjngnnnaaGreat.ty
namespace Go.Proofs.YtdbeeikjngnnnaaGreat.ty
open Go.ChangeShapes Go.WideShapes Go.ChangeAt Go.RowKit
set_option linter.unusedVariables false
set_option linter.unusedSimpArgs false
def U8 (l : List Nat) : Prop := ∀ x ∈ l, x < 256
theorem U8.app {a b : List Nat} (h : U8 a) (k : U8 b) : U8 (a ++ b) := fun x hx => by
  rcases List.mem_append.1 hx with hx | hx
  · exact h x hx
  · exact k x hx
theorem U8.cons {a : Nat} {b : List Nat} (h : a < 256) (k : U8 b) : U8 (a :: b) := fun x hx => by
  rcases List.mem_cons.1 hx with rfl | hx
  · exact h
  · exact k x hx
theorem U8.nil : U8 [] := fun x hx => by simp at hx
/-- a value's form -/
def formV (v : Vl) : List Nat := match v with
  | Sum.inl (u, d) => 1 :: rowB (ob u d) 6
  | Sum.inr (Sum.inl (c, es)) => setB c es
  | Sum.inr (Sum.inr (Sum.inl (c, g))) => 3 :: (rowB c 2 ++ rowB g 2)
  | Sum.inr (Sum.inr (Sum.inr (s, a, t))) => 4 :: (leB s.toNat 3 ++ (a.toNat % 256) :: bsk t)
theorem Wd.of {l : List Int} (h : l.length = 8) (k : ∀ x ∈ l, 0 ≤ x ∧ x ≤ 16777215) : Wd l := ⟨h, k⟩
theorem Cn.of {r : List Int} (hl : r.length = 8) (h : ∀ x ∈ r, 0 ≤ x ∧ x < 65536) : Cn r := ⟨hl, fun i => by
  rw [List.getD_eq_getElem?_getD]
  rcases Nat.lt_or_ge i r.length with h1 | h1
  · rw [List.getElem?_eq_getElem h1]
    have := h _ (List.getElem_mem h1)
    simp
    omega
  · rw [List.getElem?_eq_none h1]; simp⟩
theorem U8.drop {l : List Nat} (h : U8 l) (n : Nat) : U8 (l.drop n) := fun x hx => h x (List.mem_of_mem_drop hx)
end Go.Proofs.YtdbeeikjngnnnaaGreat.ty
namespace Go.Proofs.YtdbeeikjngnnnaaGreat.ty
open Go.ChangeShapes Go.WideShapes Go.ChangeAt Go.RowKit
set_option linter.unusedVariables false
set_option linter.unusedSimpArgs false
theorem row_ext {a b : List Int} (ha : a.length = 8) (hb : b.length = 8) (h : ∀ i, i < 8 → a.getD i 0 = b.getD i 0) : a = b := by
  apply List.ext_getElem?
  intro i
  rcases Nat.lt_or_ge i 8 with hi | hi
  · have := h i hi
    rw [List.getD_eq_getElem?_getD, List.getD_eq_getElem?_getD] at this
    rw [List.getElem?_eq_getElem (by omega), List.getElem?_eq_getElem (by omega)] at this ⊢
    simp at this
    rw [this]
  · rw [List.getElem?_eq_none (by omega), List.getElem?_eq_none (by omega)]
theorem zrD (i : Nat) : zr.getD i 0 = 0 := by
  have e : zr = List.replicate 8 0 := rfl
  rw [e, List.getD_eq_getElem?_getD, List.getElem?_replicate]
  split <;> simp
/-- no number of the one is above that of the other, and none is below 0 -/
def Wi (a c : List Int) : Prop := a.length = 8 ∧ c.length = 8 ∧ ∀ i, i < 8 → 0 ≤ a.getD i 0 ∧ a.getD i 0 ≤ c.getD i 0
theorem Wi.zr {c : List Int} (hc : c.length = 8) (h0 : ∀ i, i < 8 → 0 ≤ c.getD i 0) : Wi ty.zr c := ⟨rfl, hc, fun i hi => by rw [zrD]; exact ⟨Int.le_refl _, h0 i hi⟩⟩
/-- the tags of an element -/
def tg : List En → ByteArray → List Int
  | [], _ => zr
  | x :: r, e => if x.e = e then x.t else tg r e
theorem tg_mem {es : List En} (h : So es) {x : En} (hx : x ∈ es) : tg es x.e = x.t := by
  induction es with
  | nil => simp at hx
  | cons y r ih =>
    unfold tg
    rcases List.mem_cons.1 hx with rfl | hx
    · simp
    · have h1 := (List.pairwise_cons.1 h).1 x hx
      have hne : ¬ y.e = x.e := by intro e; rw [e, bl_irrefl] at h1; cases h1
      simp only [hne, if_false]
      exact ih (List.pairwise_cons.1 h).2 hx
theorem tg_or (es : List En) (e : ByteArray) : tg es e = zr ∨ ∃ x ∈ es, x.e = e ∧ tg es e = x.t := by
  induction es with
  | nil => exact .inl rfl
  | cons y r ih =>
    unfold tg
    by_cases h : y.e = e
    · exact .inr ⟨y, by simp, h, by simp [h]⟩
    · simp only [h, if_false]
      rcases ih with ih | ⟨x, hx, e1, e2⟩
      · exact .inl ih
      · exact .inr ⟨x, List.mem_cons_of_mem _ hx, e1, e2⟩
/-- a set as it may be -/
structure Gs (c : List Int) (es : List En) : Prop where
  so : So es
  nz : ∀ x ∈ es, x.t ≠ zr
  wi : ∀ x ∈ es, Wi x.t c
  len : c.length = 8
  ge : ∀ i, i < 8 → 0 ≤ c.getD i 0
theorem Gs.tg {c : List Int} {es : List En} (h : Gs c es) (e : ByteArray) : Wi (ty.tg es e) c := by
  rcases tg_or es e with h1 | ⟨x, hx, -, h1⟩
  · rw [h1]; exact Wi.zr h.len h.ge
  · rw [h1]; exact h.wi x hx
theorem Gs.new : Gs zr [] := ⟨List.Pairwise.nil, by simp, by simp, rfl, fun i _ => by rw [zrD]; exact Int.le_refl _⟩
end Go.Proofs.YtdbeeikjngnnnaaGreat.ty
namespace Go.Proofs.YtdbeeikjngnnnaaGreat.ty
open Go.ChangeShapes Go.WideShapes Go.ChangeAt Go.RowKit
set_option linter.unusedVariables false
set_option linter.unusedSimpArgs false
/-- the tags tell these rows -/
structure Ts (ts : List Tg) (T : ByteArray → List Int) : Prop where
  og : To ts
  len : ∀ e, (T e).length = 8
  eq : ∀ e a, a < 8 → (T e).getD a 0 = (numT ts e a : Int)
theorem Ts.nil : Ts [] (fun _ => zr) := ⟨⟨by simp, List.Pairwise.nil⟩, fun _ => rfl, fun e a _ => by rw [zrD]; rfl⟩
/-- take -/
def takeT (ts : List Tg) (e : ByteArray) : List Tg := ts.filter fun t => !decide (t.e = e)
theorem Ts.take {ts : List Tg} {T : ByteArray → List Int} (h : Ts ts T) (e : ByteArray) : Ts (takeT ts e) (fun x => if x = e then zr else T x) := by
  refine ⟨h.og.sub _, fun x => ?_, fun x a ha => ?_⟩
  · split
    · rfl
    · exact h.len x
  · rcases numT_filter h.og (fun t => !decide (t.e = e)) x a with ⟨h1, h2⟩ | ⟨t, ht, h1, h2, h3, h4⟩
    · unfold takeT
      rw [h1]
      by_cases hx : x = e
      · rw [if_pos hx, zrD]; rfl
      · rw [if_neg hx, h.eq x a ha]
        rcases numT_or ts x a with ⟨h5, -⟩ | ⟨t, ht, h6, h7, -⟩
        · rw [h5]
        · have := h2 t ht h6 h7
          simp only [Bool.not_eq_false', decide_eq_true_eq] at this
          exact absurd (h6.symm.trans this) hx
    · unfold takeT
      rw [h4]
      simp only [Bool.not_eq_true', decide_eq_false_iff_not] at h3
      have hx : ¬ x = e := fun k => h3 (h1.trans k)
      rw [if_neg hx, h.eq x a ha, ← h1, ← h2, numT_mem h.og ht]
/-- put, behind a take -/
theorem Ts.put {ts : List Tg} {T : ByteArray → List Int} (h : Ts ts T) {e : ByteArray} (he : T e = zr) {a n : Nat} (ha : a < 8) (hn : 0 < n) : Ts (ts ++ [⟨e, a, n⟩]) (fun x => if x = e then zr.set a (n : Int) else T x) := by
  have hno : ∀ t ∈ ts, t.e ≠ e := fun t ht k => by
    have h1 := numT_mem h.og ht
    have h2 := h.eq t.e t.a (h.og.ok t ht).1
    rw [k, he, zrD] at h2
    have h3 := (h.og.ok t ht).2
    rw [k] at h1
    omega
  refine ⟨⟨fun t ht => ?_, List.pairwise_append.2 ⟨h.og.one, List.pairwise_singleton _ _, fun s hs t ht => ?_⟩⟩, fun x => ?_, fun x i hi => ?_⟩
  · rcases List.mem_append.1 ht with ht | ht
    · exact h.og.ok t ht
    · rw [List.mem_singleton] at ht; rw [ht]; exact ⟨ha, hn⟩
  · rw [List.mem_singleton] at ht
    rw [ht]
    exact fun k => hno s hs k.1
  · split
    · rw [List.length_set]; rfl
    · exact h.len x
  · rw [numT_app]
    by_cases hx : x = e
    · subst hx
      rw [if_pos rfl, if_neg (fun ⟨t, ht, k, _⟩ => hno t ht k)]
      rw [List.getD_eq_getElem?_getD, List.getElem?_set]
      unfold numT
      by_cases hia : a = i
      · subst hia
        rw [if_pos rfl, if_pos (show a < zr.length from ha), if_pos (show isT x a ⟨x, a, n⟩ = true from isT_iff.2 ⟨rfl, rfl⟩)]; rfl
      · rw [if_neg hia, if_neg (fun k => hia (isT_iff.1 k).2)]
        have := zrD i
        rw [List.getD_eq_getElem?_getD] at this
        rw [this]; rfl
    · rw [if_neg hx, h.eq x i hi]
      by_cases hex : ∃ t ∈ ts, t.e = x ∧ t.a = i
      · rw [if_pos hex]
      · rw [if_neg hex]
        rcases numT_or ts x i with ⟨h5, -⟩ | ⟨t, ht, h6, h7, -⟩
        · rw [h5]
          unfold numT
          rw [if_neg (fun k => hx (isT_iff.1 k).1.symm)]; rfl
        · exact absurd ⟨t, ht, h6, h7⟩ hex
end Go.Proofs.YtdbeeikjngnnnaaGreat.ty
namespace Go.Proofs.YtdbeeikjngnnnaaGreat.ty
open Go.ChangeShapes Go.WideShapes Go.ChangeAt Go.RowKit
set_option linter.unusedVariables false
set_option linter.unusedSimpArgs false
/-- bytes that were handed in -/
structure Gv (w : World) (sl : Sl) (bs : List Nat) : Prop where
  rd : Rd w sl.p (byts bs)
  len : bs.length = sl.n
  ok : sl.ok
  u8 : U8 bs
  le : bs.length ≤ 2000000
theorem Gv.kept0 {w w' : World} {sl : Sl} {bs : List Nat} (h : Gv w sl bs) (a : Apart [] w w') : Gv w' sl bs := ⟨h.rd.kept0 a, h.len, h.ok, h.u8, h.le⟩
/-- a copy of them -/
theorem copyB {w : World} {sl : Sl} {bs : List Nat} (h : Gv w sl bs) : ∃ s' w', (Builtin.append_ #[29, 29] 29 #[.slice none 0 0, .slice sl.p sl.n sl.c]).run Tryz.prog w = .ok (.slice s'.p s'.n s'.c) w' ∧ Nw w w' 5 1 s' (byts bs) ∧ s'.n = sl.n ∧ Apart [] w w' := by
  obtain ⟨i0, hif, hz0, hz1, hz2⟩ := info_of info5
  have h1 := h.len
  have h2 := h.le
  obtain ⟨s', w', hrun, n', l'⟩ := run_appNil w 29 29 5 i0 _ 1 1 Tryz.underlying29 hif hz0 hz1 hz2 rfl (by decide) sl (byts bs) h.rd (by rw [byts_len]; omega) (oneB _) (by omega) (by omega) h.ok
  exact ⟨s', w', hrun, n', l', n'.ap⟩
theorem Nw.cap {w w' : World} {e size : Nat} {s : Sl} {us : List Value} (h : Nw w w' e size s us) : s.n ≤ s.c := by
  obtain ⟨_, ⟨hv, hz⟩ | ⟨g, cap, cur, hv, hbb, hr', hle, hrest⟩⟩ := h.own
  · omega
  · simp only [Sl.v, Value.slice.injEq] at hv; omega
end Go.Proofs.YtdbeeikjngnnnaaGreat.ty
