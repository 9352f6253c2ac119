import Derived.Test.YtokaeiahhmaokaaR2
namespace Go.Proofs.Ytokaeiahhmaokaa.ds
open Go.ChangeShapes Go.WideShapes Go.ChangeAt Go.RowKit
set_option linter.unusedVariables false
/-- a slice as a value -/
structure Sl where
  p : Option Addr
  n : Nat
  c : Nat
def Sl.v (s : Sl) : Value := .slice s.p s.n s.c
/-- a write as it lies in memory: its two slices by their places -/
structure E where
  n : Int
  c : Int
  k : ByteArray
  d : Bool
  v : Sl
  x : Sl
def E.z : E := ⟨0, 0, ⟨#[]⟩, false, ⟨none, 0, 0⟩, ⟨none, 0, 0⟩⟩
def E.cs (e : E) : List Value := [.int .i64 e.n, .int .i64 e.c, .string e.k, .bool e.d, e.v.v, e.x.v]
def E.agg (e : E) : Value := .agg #[.int .i64 e.n, .int .i64 e.c, .string e.k, .bool e.d, e.v.v, e.x.v]
/-- does a list of spans have a dot? -/
noncomputable def hasd (xs : List S) (n c : Int) : Bool := hasv (norm xs) n c
theorem hasd_nil (n c : Int) : hasd [] n c = false := by
  unfold hasd
  rw [norm_of (OkL.nil 64)]
  exact hasv_nil n c
theorem hasd_uni {a b : List S} (ha : OkL 64 a) (hb : OkL 64 b) (n c : Int) : hasd (uni a b) n c = (hasd a n c || hasd b n c) := by
  unfold hasd hasv
  rw [norm_of ha, norm_of hb, norm_of (uni_ok ha hb (by omega) (by omega))]
  by_cases h : 0 ≤ n ∧ n < 8
  · obtain ⟨k, rfl⟩ : ∃ k : Nat, (k : Int) = n := ⟨n.toNat, by omega⟩
    rw [ofn_uni a b k (by omega), join_dot, Bool.and_or_distrib_left]
  · simp [h]
theorem hasd_no {a : List S} (ha : ¬ OkL 64 a) (n c : Int) : hasd a n c = false := by
  unfold hasd
  rw [norm_no ha]
  exact hasv_nil n c
open Classical in
/-- the union of the known and a context, as the program makes it: a list that is no set is passed over -/
noncomputable def knows (a xs : List S) : List S := if OkL 64 xs then uni a xs else a
theorem knows_ok {a xs : List S} (ha : OkL 64 a) : OkL 64 (knows a xs) := by
  unfold knows; split
  · exact uni_ok ha ‹_› (by omega) (by omega)
  · exact ha
theorem hasd_knows {a xs : List S} (ha : OkL 64 a) (n c : Int) : hasd (knows a xs) n c = (hasd a n c || hasd xs n c) := by
  unfold knows; split
  · exact hasd_uni ha ‹_› n c
  · rename_i hx
    rw [hasd_no hx]; simp
end Go.Proofs.Ytokaeiahhmaokaa.ds
