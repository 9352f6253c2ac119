import Derived.Test.YtdbeeikjngnnnaaT18
import Derived.Lib.Bytealg
import Derived.Laws.Externs
namespace Go.Proofs.Ytdbeeikjngnnnaa.ty
open Go.ChangeShapes Go.WideShapes Go.ChangeAt Go.RowKit
set_option linter.unusedVariables false
set_option linter.unusedSimpArgs false
/-- an entry of a set -/
structure En where
  e : ByteArray
  t : List Int
def En.vs (x : En) : List Value := .string x.e :: rv x.t
def evs : List En → List Value
  | [] => []
  | x :: r => x.vs ++ evs r
/-- the order of elements -/
def bl (a b : ByteArray) : Bool := decide (a.data.toList < b.data.toList)
def cb (a b : ByteArray) : Int := Lib.compareBytes a.data.toList b.data.toList
theorem cmpB_lt : ∀ (l m : List UInt8), Lib.compareBytes l m < 0 ↔ l < m
  | [], [] => by simp [Lib.compareBytes]
  | [], _ :: _ => by simp [Lib.compareBytes]
  | _ :: _, [] => by simp [Lib.compareBytes]
  | a :: l, b :: m => by
    unfold Lib.compareBytes
    rw [List.cons_lt_cons_iff]
    by_cases h1 : a < b
    · simp [h1]
    · by_cases h2 : b < a
      · have hne : a ≠ b := fun e => by subst e; exact h1 h2
        simp [h1, h2, hne]
      · have he : a = b := by
          apply UInt8.toNat_inj.1
          rw [UInt8.lt_iff_toNat_lt] at h1 h2
          omega
        simp only [h1, h2, if_false, he, true_and, false_or]
        simp [cmpB_lt l m]
theorem cmpB_eq : ∀ (l m : List UInt8), Lib.compareBytes l m = 0 ↔ l = m
  | [], [] => by simp [Lib.compareBytes]
  | [], _ :: _ => by simp [Lib.compareBytes]
  | _ :: _, [] => by simp [Lib.compareBytes]
  | a :: l, b :: m => by
    unfold Lib.compareBytes
    by_cases h1 : a < b
    · have hne : a ≠ b := fun e => by subst e; rw [UInt8.lt_iff_toNat_lt] at h1; omega
      simp [h1, hne]
    · by_cases h2 : b < a
      · have hne : a ≠ b := fun e => by subst e; exact h1 h2
        simp [h1, h2, hne]
      · have he : a = b := by
          apply UInt8.toNat_inj.1
          rw [UInt8.lt_iff_toNat_lt] at h1 h2
          omega
        simp [h1, h2, he, cmpB_eq l m]
theorem cb_lt (a b : ByteArray) : cb a b < 0 ↔ bl a b = true := by unfold cb bl; rw [cmpB_lt]; simp
theorem ba_inj {a b : ByteArray} (h : a.data.toList = b.data.toList) : a = b := by
  cases a with
  | mk x => cases b with
    | mk y => exact congrArg ByteArray.mk (Array.toList_inj.1 h)
theorem cb_eq (a b : ByteArray) : cb a b = 0 ↔ a = b := by
  unfold cb
  rw [cmpB_eq]
  exact ⟨ba_inj, fun e => by rw [e]⟩
theorem ul_trans {l m n : List UInt8} (h : l < m) (k : m < n) : l < n := List.lt_trans h k
theorem ul_irrefl (l : List UInt8) : ¬ l < l := List.lt_irrefl l
theorem bl_trans {a b c : ByteArray} (h : bl a b = true) (k : bl b c = true) : bl a c = true := by
  unfold bl at *
  simp only [decide_eq_true_eq] at *
  exact ul_trans h k
theorem bl_irrefl (a : ByteArray) : bl a a = false := by unfold bl; simp
theorem bl_total {a b : ByteArray} (h : bl a b = false) (k : bl b a = false) : a = b := by
  unfold bl at *
  simp only [decide_eq_false_iff_not] at *
  apply ba_inj
  have h1 := List.not_lt.1 h
  have h2 := List.not_lt.1 k
  exact List.le_antisymm h2 h1
/-- entries by rising elements -/
def So (es : List En) : Prop := es.Pairwise fun x y => bl x.e y.e = true
def lo (es : List En) (x : ByteArray) : List En := es.filter fun y => bl y.e x
def hi (es : List En) (x : ByteArray) : List En := es.filter fun y => bl x y.e
set_option maxRecDepth 100000 in
theorem cstr_ok (w : World) (a b : ByteArray) : Calls Try.prog 100 #[.string a, .string b] w fun r w' => r = .returned (.int .i64 (cb a b)) ∧ w' = w := by
  go_enter Try.func100, Try.ntmps100
  go_wp2_with fail
  rw [run_callFunc_extern Try.func101 (by kernel_rfl) (by kernel_rfl) (by kernel_rfl) (e := Extern.BytealgCompare.compare) (by kernel_rfl), Lib.run_compareString]
  simp only [Result.andThen]
  rw [Oper.upon_value]
  go_wp2_with fail
  go_ret
  exact ⟨rfl, rfl⟩
set_option maxRecDepth 100000 in
theorem comp_ok (w : World) (a b : ByteArray) : Calls Try.prog 99 #[.string a, .string b] w fun r w' => r = .returned (.int .i64 (cb a b)) ∧ w' = w := by
  have HC := hid cstr_ok
  go_enter Try.func99, Try.ntmps99
  go_wp2_with (go_at_call 100; refine (HC.out _ _ _).mono ?_; rintro _ _ ⟨rfl, rfl⟩)
  go_ret
  exact ⟨rfl, rfl⟩
theorem size106 : (Try.prog.info? 106).map (·.size) = some 9 := by kernel_rfl
theorem info106 : (Try.prog.info? 106).map (fun i => (i.zero, i.size, i.bytes)) = some (some (.agg #[.string ⟨#[]⟩, .int .i64 0, .int .i64 0, .int .i64 0, .int .i64 0, .int .i64 0, .int .i64 0, .int .i64 0, .int .i64 0]), 9, 80) := by kernel_rfl
set_option maxRecDepth 100000 in
theorem cel_ok (w : World) (x : En) (b : ByteArray) : Calls Try.prog 97 #[.agg x.vs.toArray, .string b] w fun r w' => r = .returned (.int .i64 (cb x.e b)) ∧ Apart [] w w' := by
  have HC := hid comp_ok
  have z : (w.alloc (.cells x.vs.toArray 106)).cell? ⟨w.heap.size, 0, none⟩ = some (.string x.e) := by rw [cell_of_row _ _ _ _ _ _ (heap_alloc_new w _)]; rfl
  have HA : Hid (Apart [] w (w.alloc (.cells x.vs.toArray 106))) := hid ((Apart.refl [] w).alloc _)
  go_enter Try.func97, Try.ntmps97
  go_wp2_with (go_at_call 99; refine (HC.out _ _ _).mono ?_; rintro _ _ ⟨rfl, rfl⟩)
  go_ret
  exact ⟨rfl, HA.out⟩
end Go.Proofs.Ytdbeeikjngnnnaa.ty
