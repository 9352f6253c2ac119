import Derived.Test.YtdbeeikjngnnnaaGreatChecked
import Derived.WalkKit
import Derived.ProofKit
import Derived.OpenShut
import Derived.Deep.QuietTactic
import Derived.BigQuiet
import Derived.BigRegion
import Derived.Laws.CopyOwn
import Derived.Laws.IdiomCopy
import Derived.WalkSmall
import Derived.Laws.ResultCell
import Derived.Laws.AppendOwnNone
import Derived.Deep.RegionHeld
import Derived.Deep.DeepAppendRoom
import Derived.Great.BuildSlice
import Derived.Deep.CutBlock
import Derived.Deep.RegionLaw
import Derived.ArgAppend
import Derived.Laws.Strings
import Derived.Laws.StructEq
import Derived.Below
import Derived.Deep.MidRow
import Derived.Great.Ranges
import Derived.Deep.RegionHeld3
import Derived.Laws.NewBlocks
import Derived.OrdersHeld
import Derived.Stop.BytesEq
import Derived.Laws.BytesString
import Derived.Lib.ConvBytes
import Derived.Laws.BitsAllLaws
import Derived.WalkLawsBesides
import Derived.Lib.Bytealg
import Derived.Laws.Externs
import Derived.Lib.SliceRun
import Derived.Lib.AppendZerosOnto
import Derived.Lib.AppendStr
import Derived.Lib.SlBytesConst
import Derived.Sort.Walk0
import Derived.Laws.Cover1
import Derived.Lib.Strings
import Derived.Lib.MinMaxS
import GoSem.Claim
import GoSem.ClaimJoined
import GoSem.ClaimMapViews
import Derived.JoinedTies
import Derived.KernelRfl
import Derived.JoinedCond
import Derived.ShutString
import Derived.ChangeOld
import Derived.Carry
import Derived.ChangeSlices
import Derived.Deep.Slices
import Derived.Deep.DeepHandedRow
import Derived.RowKit
import Derived.ChangeShapes
import Derived.SizedLaws
import Derived.ChangeMaps5
import Derived.Sort.WalkA
import Derived.Test.YtdbeeikjngnnnaaGreatRows
import Derived.Test.YtdbeeikjngnnnaaGreatD26
namespace Go.Proofs.YtdbeeikjngnnnaaGreat.ty
open Go.ChangeShapes Go.WideShapes Go.ChangeAt Go.RowKit
set_option linter.unusedVariables false
set_option linter.unusedSimpArgs false
variable {wB w w' w2 : World} {T k : Nat} {p r : Nat → Nat} {v : Nat → Vl} {ts : Nat → List Tg} {H L : List Sl} {sH sL : Sl} {h : Nat → Prop}
theorem svs_at {l : List Sl} {i : Nat} {x : Sl} (hx : l[i]? = some x) : (svs l)[i]? = some (.slice x.p x.n x.c) := by
  simp only [svs, List.getElem?_map, hx, Option.map_some]
set_option maxHeartbeats 4000000 in
set_option maxRecDepth 100000 in
/-- whole: all that was answered is as it was left -/
theorem whole_ok (t : Tb wB w T k p r v ts H L sH sL h) (hH : H.length ≤ 600000000) (hL : L.length ≤ 600000000) (hHn : ∀ x ∈ H, x.n ≤ 4000000) (hLn : ∀ x ∈ L, x.n ≤ 4000000) : Calls Tryz.prog 13 #[.pointer (some ⟨T, 0, none⟩)] w fun x w' => x = .returned (.bool true) ∧ w' = w := by
  have HT := hid t
  have z9 := t.ch
  have z10 := t.cl
  obtain ⟨N, HN⟩ : ∃ N, Hid (N = H.length) := ⟨_, hid rfl⟩
  obtain ⟨K, HK⟩ : ∃ N, Hid (N = L.length) := ⟨_, hid rfl⟩
  have hsn : sH.n = N := by rw [HN.out]; exact t.hn
  have hsl : sL.n = K := by rw [HK.out]; exact t.ln
  have hN6 : N ≤ 600000000 := by rw [HN.out]; exact hH
  have hK6 : K ≤ 600000000 := by rw [HK.out]; exact hL
  rw [hsn] at z9
  rw [hsl] at z10
  have HHn := hid hHn
  have HLn := hid hLn
  clear hHn hLn hH hL t hsn hsl
  go_enter Tryz.func13, Tryz.ntmps13
  go_wp2_with fail
  go_loopw [3] (fun v3 wt => ∃ i : Nat, v3 = .int .i64 (i : Int) ∧ i ≤ N ∧ Hid (wt = w)) (fun v3 _ => N - natV v3)
  case atStart => exact ⟨0, rfl, Nat.zero_le _, hid rfl⟩
  case round =>
    obtain ⟨i, rfl, hi, Hw⟩ := hrel
    rw [Hw.out]
    clear Hw
    by_cases hlt : i < N
    · have hlti : ((i : Nat) : Int) < ((N : Nat) : Int) := by omega
      obtain ⟨x, Hx⟩ : ∃ x, Hid (H[i]? = some x) := ⟨_, hid (List.getElem?_eq_getElem (by have := HN.out; omega))⟩
      obtain ⟨P, o, hp, hP, hc⟩ := HT.out.nh.rd (by simp only [svs, List.length_map]; have := HN.out; omega)
      have zi := hc i _ (svs_at Hx.out)
      have Hr := hid (HT.out.hd i x Hx.out).1
      have hx4 : x.n ≤ 4000000 := HHn.out x (List.mem_of_getElem? Hx.out)
      obtain ⟨M, HM⟩ : ∃ M, Hid (M = mkN (i / 2)) := ⟨_, hid rfl⟩
      rw [← HM.out] at Hr
      have eM : ((i : Nat) : Int) / 2 % 250 + 1 = (M : Int) := by rw [HM.out, mkN]; omega
      obtain ⟨n, Hn⟩ : ∃ n, Hid (n = x.n) := ⟨_, hid rfl⟩
      rw [← Hn.out] at zi hx4 Hr
      clear hc hP
      rw [hp] at z9
      have z9' := z9
      go_upto_region 5 with fail
      go_loopw [4] (fun v4 wt => ∃ j : Nat, v4 = .int .i64 (j : Int) ∧ j ≤ n ∧ Hid (wt = w)) (fun v4 _ => n - natV v4)
      case atStart => exact ⟨0, rfl, Nat.zero_le _, hid rfl⟩
      case round =>
        obtain ⟨j, rfl, hj, Hw⟩ := hrel
        rw [Hw.out]
        clear Hw
        by_cases hjt : j < n
        · have hjti : ((j : Nat) : Int) < ((n : Nat) : Int) := by omega
          obtain ⟨Q, oq, hq, hQ, hcj⟩ := Hr.out (by simp [byts]; omega)
          have zj := hcj j (.int .u8 (M : Int)) (by simp [byts, hjt])
          rw [hq] at zi
          have heq : (((M : Nat) : Int) != ((M : Nat) : Int)) = false := by simp
          clear hcj hQ
          go_wp2_with fail
          exact ⟨⟨j + 1, by go_num, by omega, hid (by first | exact trivial | rfl)⟩, by simp [natV]; omega⟩
        · have hjti : ¬ ((j : Nat) : Int) < ((n : Nat) : Int) := by omega
          go_wp2_with fail
          exact ⟨⟨i + 1, by go_num, by omega, hid (by first | exact trivial | rfl)⟩, by simp [natV]; omega⟩
    · have hlti : ¬ ((i : Nat) : Int) < ((N : Nat) : Int) := by omega
      go_upto_region 10 with fail
      go_loopw [5] (fun v5 wt => ∃ i : Nat, v5 = .int .i64 (i : Int) ∧ i ≤ K ∧ Hid (wt = w)) (fun v5 _ => K - natV v5)
      case atStart => exact ⟨0, rfl, Nat.zero_le _, hid rfl⟩
      case round =>
        obtain ⟨l, rfl, hl, Hw⟩ := hrel
        rw [Hw.out]
        clear Hw
        by_cases hlt2 : l < K
        · have hlt2i : ((l : Nat) : Int) < ((K : Nat) : Int) := by omega
          obtain ⟨x, Hx⟩ : ∃ x, Hid (L[l]? = some x) := ⟨_, hid (List.getElem?_eq_getElem (by have := HK.out; omega))⟩
          obtain ⟨P, o, hp, hP, hc⟩ := HT.out.nl.rd (by simp only [svs, List.length_map]; have := HK.out; omega)
          have zi := hc l _ (svs_at Hx.out)
          have Hld := hid (HT.out.ld l x Hx.out)
          have hx4 : x.n ≤ 4000000 := HLn.out x (List.mem_of_getElem? Hx.out)
          obtain ⟨n, Hn⟩ : ∃ n, Hid (n = x.n) := ⟨_, hid rfl⟩
          rw [← Hn.out] at zi hx4 Hld
          clear hc hP
          rw [hp] at z10
          go_upto_region 13 with fail
          go_loopw [6] (fun v6 wt => ∃ j : Nat, v6 = .int .i64 (j : Int) ∧ j ≤ n ∧ Hid (wt = w)) (fun v6 _ => n - natV v6)
          case atStart => exact ⟨0, rfl, Nat.zero_le _, hid rfl⟩
          case round =>
            obtain ⟨j, rfl, hj, Hw⟩ := hrel
            rw [Hw.out]
            clear Hw
            by_cases hjt : j < n
            · have hjti : ((j : Nat) : Int) < ((n : Nat) : Int) := by omega
              obtain ⟨Q, oq, cur, m, a, c, hq, -, -, zj⟩ := Hld.out j hjt
              rw [hq] at zi
              go_wp2_with fail
              exact ⟨⟨j + 1, by go_num, by omega, hid (by first | exact trivial | rfl)⟩, by simp [natV]; omega⟩
            · have hjti : ¬ ((j : Nat) : Int) < ((n : Nat) : Int) := by omega
              go_wp2_with fail
              exact ⟨⟨l + 1, by go_num, by omega, hid (by first | exact trivial | rfl)⟩, by simp [natV]; omega⟩
        · have hlt2i : ¬ ((l : Nat) : Int) < ((K : Nat) : Int) := by omega
          go_wp2_with fail
          go_ret
          exact ⟨rfl, by first | exact trivial | rfl⟩
end Go.Proofs.YtdbeeikjngnnnaaGreat.ty
namespace Go.Proofs.YtdbeeikjngnnnaaGreat.ty
open Go.ChangeShapes Go.WideShapes Go.ChangeAt Go.RowKit
set_option linter.unusedVariables false
set_option linter.unusedSimpArgs false
/-- an operation that is not wanted, of whatever kind -/
theorem wpAnyH_pass {P : Program} {ops : Array Oper} {Q : Exit → Act → World → Prop} {md : Region.Mode} {S : World → Prop} {fuel : Nat} {listed : Array Bool} {a : Act} {w : World} (i : Nat) {o : Oper} (hr : Region.ready md ops listed = [i]) (ho : ops[i]? = some o) (hw : Region.wanted o (yielded ops a.tmps) = false) (hS : S w) (h : wpAnyH P md ops Q S fuel (listed.setIfInBounds i true) (a.put o.dst undef) w) : wpAnyH P md ops Q S (fuel + 1) listed a w :=
  wpAnyH_ready hr (by simp) (AllReadyH.cons ho (fun K' hK => by rw [if_neg (by rw [hw]; simp)]; exact hK.out _ _ hS (fun _ => h)) AllReadyH.nil)
end Go.Proofs.YtdbeeikjngnnnaaGreat.ty
