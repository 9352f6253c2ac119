import Derived.Test.YtdbeeikjngnnnaaGreatChecked
import Derived.WalkKit
import Derived.ProofKit
import Derived.OpenShut
import Derived.Deep.QuietTactic
import Derived.BigQuiet
import Derived.BigRegion
import Derived.Laws.CopyOwn
import Derived.Laws.IdiomCopy
import Derived.WalkSmall
import Derived.Laws.ResultCell
import Derived.Laws.AppendOwnNone
import Derived.Deep.RegionHeld
import Derived.Deep.DeepAppendRoom
import Derived.Great.BuildSlice
import Derived.Deep.CutBlock
import Derived.Deep.RegionLaw
import Derived.ArgAppend
import Derived.Laws.Strings
import Derived.Laws.StructEq
import Derived.Below
import Derived.Deep.MidRow
import Derived.Great.Ranges
import Derived.Deep.RegionHeld3
import Derived.Laws.NewBlocks
import Derived.OrdersHeld
import Derived.Stop.BytesEq
import Derived.Laws.BytesString
import Derived.Lib.ConvBytes
import Derived.Laws.BitsAllLaws
import Derived.WalkLawsBesides
import Derived.Lib.Bytealg
import Derived.Laws.Externs
import Derived.Lib.SliceRun
import Derived.Lib.AppendZerosOnto
import Derived.Lib.AppendStr
import Derived.Lib.SlBytesConst
import Derived.Sort.Walk0
import Derived.Laws.Cover1
import Derived.Lib.Strings
import Derived.Lib.MinMaxS
import GoSem.Claim
import GoSem.ClaimJoined
import GoSem.ClaimMapViews
import Derived.JoinedTies
import Derived.KernelRfl
import Derived.JoinedCond
import Derived.ShutString
import Derived.ChangeOld
import Derived.Carry
import Derived.ChangeSlices
import Derived.Deep.Slices
import Derived.Deep.DeepHandedRow
import Derived.RowKit
import Derived.ChangeShapes
import Derived.SizedLaws
import Derived.ChangeMaps5
import Derived.Sort.WalkA
import Derived.Test.YtdbeeikjngnnnaaGreatRows
import Derived.Test.YtdbeeikjngnnnaaGreatM27
namespace Go.Proofs.YtdbeeikjngnnnaaGreat.ty
open Go.ChangeShapes Go.WideShapes Go.ChangeAt Go.RowKit
set_option linter.unusedVariables false
set_option linter.unusedSimpArgs false
def stP (oc : List Int) (ots xs : List Tg) (t : Tg) : Bool := stayB oc ots t && !(numT xs t.e t.a == t.n)
def stS (oc : List Int) (ots xs : List Tg) (t : Tg) : List Tg := if stP oc ots xs t = true then xs ++ [t] else xs
theorem numT_apps {xs zs : List Tg} {e : ByteArray} {a : Nat} (h : ∀ s ∈ zs, ¬ (s.e = e ∧ s.a = a)) : numT (xs ++ zs) e a = numT xs e a := by
  rw [numT_app]
  by_cases c : ∃ t ∈ xs, t.e = e ∧ t.a = a
  · rw [if_pos c]
  · rw [if_neg c]
    have h1 : numT zs e a = 0 := by
      rcases numT_or zs e a with ⟨h1, -⟩ | ⟨t, ht, h1, h2, -⟩
      · exact h1
      · exact absurd ⟨h1, h2⟩ (h t ht)
    have h2 : numT xs e a = 0 := by
      rcases numT_or xs e a with ⟨h1, -⟩ | ⟨t, ht, h1, h2, -⟩
      · exact h1
      · exact absurd ⟨t, ht, h1, h2⟩ c
    rw [h1, h2]
theorem stS_fold (oc : List Int) (ots xs : List Tg) : ∀ (r zs : List Tg), (r.Pairwise fun s t => ¬ (s.e = t.e ∧ s.a = t.a)) → (∀ s ∈ zs, ∀ t ∈ r, ¬ (s.e = t.e ∧ s.a = t.a)) → r.foldl (stS oc ots) (xs ++ zs) = xs ++ zs ++ r.filter (stP oc ots xs)
  | [], zs, _, _ => by simp
  | t :: r, zs, hp, ha => by
    obtain ⟨p1, p2⟩ := List.pairwise_cons.1 hp
    have hn : numT (xs ++ zs) t.e t.a = numT xs t.e t.a := numT_apps (fun s hs => ha s hs t (by simp))
    have he : stP oc ots (xs ++ zs) t = stP oc ots xs t := by unfold stP; rw [hn]
    rw [List.foldl_cons, List.filter_cons]
    unfold stS
    rw [he]
    by_cases c : stP oc ots xs t = true
    · rw [if_pos c, if_pos c, List.append_assoc]
      have ih := stS_fold oc ots xs r (zs ++ [t]) p2 (fun s hs u hu => by
        rcases List.mem_append.1 hs with hs | hs
        · exact ha s hs u (List.mem_cons_of_mem _ hu)
        · rw [List.mem_singleton.1 hs]; exact p1 u hu)
      unfold stS at ih
      rw [ih]
      simp [List.append_assoc]
    · rw [if_neg c, if_neg c]
      have ih := stS_fold oc ots xs r zs p2 (fun s hs u hu => ha s hs u (List.mem_cons_of_mem _ hu))
      unfold stS at ih
      exact ih
theorem stS_all {ts : List Tg} (h : To ts) (oc : List Int) (ots xs : List Tg) : ts.foldl (stS oc ots) xs = xs ++ ts.filter (stP oc ots xs) := by
  have := stS_fold oc ots xs ts [] h.one (by simp)
  simpa using this
theorem stS_one {ts : List Tg} (h : To ts) (oc : List Int) (ots : List Tg) : ts.foldl (stS oc ots) [] = stay1 ts oc ots := by
  rw [stS_all h, List.nil_append]
  unfold stay1
  refine List.filter_congr fun t ht => ?_
  have h1 := (h.ok t ht).2
  unfold stP numT
  have : ((0 : Nat) == t.n) = false := by simp only [beq_eq_false_iff_ne]; omega
  rw [this]
  simp
theorem stS_two {ts os : List Tg} (h : To ts) (k : To os) (c d : List Int) : os.foldl (stS c ts) (ts.foldl (stS d os) []) = mergeT ts c os d := by
  rw [stS_one h, stS_all k]
  rfl
theorem stS_len (oc : List Int) (ots : List Tg) : ∀ (r xs : List Tg), (r.foldl (stS oc ots) xs).length ≤ xs.length + r.length
  | [], xs => by simp
  | t :: r, xs => by
    rw [List.foldl_cons]
    have h := stS_len oc ots r (stS oc ots xs t)
    have h2 : (stS oc ots xs t).length ≤ xs.length + 1 := by
      unfold stS
      split
      · simp
      · omega
    simp only [List.length_cons]
    omega
end Go.Proofs.YtdbeeikjngnnnaaGreat.ty
