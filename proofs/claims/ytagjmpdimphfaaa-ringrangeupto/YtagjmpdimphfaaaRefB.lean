import Derived.Test.YtagjmpdimphfaaaRefA
import Derived.Test.YtagjmpdimphfaaaJoins
namespace Go.Proofs.Ytagjmpdimphfaaa.rg
open Go.ChangeShapes Go.WideShapes Go.ChangeAt Go.RowKit Go.Sort
set_option linter.unusedVariables false
set_option linter.unusedSimpArgs false
set_option maxHeartbeats 1000000 in
theorem has_ok {p : Option Addr} {n c : Nat} {xs : List Nat} {w : World} (hx : Ir w p n (ints xs)) (v : Nat) (hn : n ≤ 1000) : Calls Try.prog 43 #[.slice p n c, .int .i64 v] w fun r w' => r = .returned (.bool (xs.contains v)) ∧ w' = w := by
  have HL : Hid (xs.length = n) := by show xs.length = n; have := hx.len; simpa [ints] using this
  go_enter Try.func43, Try.ntmps43
  go_wp2_with fail
  go_loopw [5] (fun u wr => ∃ i : Nat, i ≤ n ∧ u = .int .i64 i ∧ wr = w ∧ ∀ j, j < i → xs.getD j 0 ≠ v) (fun u _ => n - (intOf u).toNat)
  case atStart => exact ⟨0, Nat.zero_le _, rfl, rfl, fun j hj => absurd hj (Nat.not_lt_zero _)⟩
  case round =>
    obtain ⟨i, hi, rfl, rfl, hI⟩ := hrel
    have HI : Hid (∀ j, j < i → xs.getD j 0 ≠ v) := hI
    clear hI
    by_cases hlt : i < n
    · obtain ⟨P, o, rfl, hP, hc⟩ := hx.at' (by omega)
      have c1 := hc i hlt
      have hil : Hid (i < xs.length) := by show i < xs.length; rw [HL.out]; exact hlt
      have ex : (ints xs).getD i 0 = ((xs.getD i 0 : Nat) : Int) := by simp [ints, List.getD_eq_getElem?_getD, List.getElem?_eq_getElem hil.out]
      rw [ex] at c1
      clear ex
      obtain ⟨x, Hx⟩ : ∃ x, Hid (x = xs.getD i 0) := ⟨_, rfl⟩
      rw [← Hx.out] at c1
      clear hc hx
      by_cases hxv : x = v
      · subst hxv
        go_wp2_with fail
        go_ret
        refine ⟨?_, rfl⟩
        have hg : xs[i]'hil.out = x := by have := Hx.out; rw [List.getD_eq_getElem?_getD, List.getElem?_eq_getElem hil.out] at this; exact this.symm
        have hm : xs.contains x = true := by rw [← hg]; simp
        rw [hm]; rfl
      · have hxv' : ¬ ((x : Int) = (v : Int)) := by omega
        go_wp2_with fail
        go_roundw
        case rel =>
          refine ⟨i + 1, by omega, by simp, trivial, fun j hj => ?_⟩
          by_cases hji : j = i
          · subst hji; rw [← Hx.out]; exact hxv
          · exact HI.out j (by omega)
        case measure => simp only [intOf]; omega
    · obtain rfl : i = n := by omega
      have hm : xs.contains v = false := by
        cases hc : xs.contains v
        · rfl
        · exfalso
          have hm : v ∈ xs := by simpa using hc
          obtain ⟨j, hj, e⟩ := List.getElem_of_mem hm
          have := HI.out j (by have := HL.out; omega)
          rw [List.getD_eq_getElem?_getD, List.getElem?_eq_getElem hj] at this
          exact this e
      have HM : Hid (xs.contains v = false) := hm
      clear hx hm
      go_wp2_with fail
      go_ret
      refine ⟨?_, rfl⟩
      rw [HM.out]; rfl
theorem rnew_ok (n m : Nat) (h1 : 1 ≤ n) (h2 : n ≤ 8) (h3 : 1 ≤ m) (h4 : m ≤ 16) (w : World) : Calls Try.prog 30 #[.int .i64 n, .int .i64 m] w fun r w' => (r = .returned (.tuple #[.pointer (some ⟨w.heap.size, 0, none⟩), .int .i64 0]) ∧ Rg w' w.heap.size n m) ∧ Apart [] w w' := by
  have k1 : ¬ ((n : Int) < 1) := by omega
  have k2 : ¬ ((n : Int) > 8) := by omega
  have k3 : ¬ ((m : Int) < 1) := by omega
  have k4 : ¬ ((m : Int) > 16) := by omega
  go_enter Try.func30, Try.ntmps30
  go_wp2_with fail
  go_ret2
  exact ⟨⟨rfl, ⟨by simp, by simp, h1, h2, h3, h4⟩⟩, (Apart.refl _ _).alloc _⟩
theorem rnew_bad (n m : Int) (h : n < 1 ∨ 8 < n ∨ m < 1 ∨ 16 < m) (w : World) : Calls Try.prog 30 #[.int .i64 n, .int .i64 m] w fun r w' => r = .returned (.tuple #[.pointer none, .int .i64 1]) ∧ w' = w := by
  by_cases k1 : n < 1
  · go_enter Try.func30, Try.ntmps30
    go_wp2_with fail
    go_ret2
    exact ⟨rfl, rfl⟩
  by_cases k2 : n > 8
  · go_enter Try.func30, Try.ntmps30
    go_wp2_with fail
    go_ret2
    exact ⟨rfl, rfl⟩
  by_cases k3 : m < 1
  · go_enter Try.func30, Try.ntmps30
    go_wp2_with fail
    go_ret2
    exact ⟨rfl, rfl⟩
  have k4 : m > 16 := by omega
  go_enter Try.func30, Try.ntmps30
  go_wp2_with fail
  go_ret2
  exact ⟨rfl, rfl⟩
def nxs (pl : Nat) (out : List Nat) (b : Option Nat) (i : Nat) : Option Nat := if out.contains i then b else match b with | none => some i | some j => if awayN pl i < awayN pl j then some i else some j
def nextK (pl : Nat) (out : List Nat) (i : Nat) : Option Nat := (List.range i).foldl (nxs pl out) none
theorem nextK_succ (pl : Nat) (out : List Nat) (i : Nat) : nextK pl out (i + 1) = nxs pl out (nextK pl out i) i := by
  unfold nextK
  rw [List.range_succ, List.foldl_append, List.foldl_cons, List.foldl_nil]
theorem nextN_eq (n pl : Nat) (out : List Nat) : nextN n pl out = nextK pl out n := rfl
theorem nextK_lt (pl : Nat) (out : List Nat) : ∀ i j, nextK pl out i = some j → j < i
  | 0, j, h => by simp [nextK] at h
  | i + 1, j, h => by
    rw [nextK_succ] at h
    have ih := nextK_lt pl out i
    unfold nxs at h
    split at h
    · have := ih j h; omega
    · split at h
      · simp at h; omega
      · rename_i k hk
        have := ih k hk
        split at h <;> simp at h <;> omega
def slLen : Value → Nat
  | .slice _ n _ => n
  | _ => 0
def encO : Option Nat → Int
  | none => -1
  | some j => j
set_option maxRecDepth 100000 in
theorem next_some : ∀ n < 9, ∀ r < 16, ∀ j < n, (nextN n (placeN r) (refN n (placeN r) j)).isSome = true := by decide +kernel
theorem rorder_bad {w : World} {R n m : Nat} (G : Rg w R n m) (rng : Int) (h : rng < 0 ∨ (m : Int) ≤ rng) : Calls Try.prog 32 #[.pointer (some ⟨R, 0, none⟩), .int .i64 rng] w fun r w' => r = .returned (.tuple #[.slice none 0 0, .int .i64 40]) ∧ w' = w := by
  have c1 := G.c1
  by_cases k1 : rng < 0
  · go_enter Try.func32, Try.ntmps32
    go_wp2_with fail
    go_ret2
    exact ⟨rfl, rfl⟩
  have k2 : rng ≥ (m : Int) := by omega
  go_enter Try.func32, Try.ntmps32
  go_wp2_with fail
  go_ret2
  exact ⟨rfl, rfl⟩
set_option maxHeartbeats 4000000 in
set_option maxRecDepth 100000 in
theorem rorder_ok {w : World} {R n m : Nat} (G : Rg w R n m) (r : Nat) (h : r < m) : Calls Try.prog 32 #[.pointer (some ⟨R, 0, none⟩), .int .i64 r] w fun e w' => OrdPost w w' e n (ord n r) := by
  have c1 := G.c1
  have := G.n1; have hn8 := G.n8; have hm16 := G.m16
  have k1 : ¬ ((r : Int) < 0) := by omega
  have k2 : ¬ ((r : Int) ≥ (m : Int)) := by omega
  have hr16 : r < 16 := by omega
  have HG : Hid (Rg w R n m) := G
  clear G
  go_enter Try.func32, Try.ntmps32
  go_wp2_with fail
  refine (refHash_ok (byte3 r (by omega) (by simp) (by simp) (by simp) (by simp)) (by omega)).mono ?_
  rintro e w1 ⟨rfl, hw1⟩
  dsimp only
  have a1 : Apart [] w w1 := by rw [hw1]; exact (Apart.refl _ _).alloc _
  clear hw1 c1
  have hpl : hashN [255, 255, r] < 4294967296 := hashN_lt _
  have HPL : Hid (hashN [255, 255, r] = placeN r) := rfl
  rw [HPL.out] at hpl ⊢
  have HF : Hid (refN n (placeN r) n = ord n r) := ord_ref n (by omega) r hr16
  have HN : Hid (∀ j < n, (nextN n (placeN r) (refN n (placeN r) j)).isSome = true) := next_some n (by omega) r hr16
  obtain ⟨pl, Hp⟩ : ∃ pl, Hid (pl = placeN r) := ⟨_, rfl⟩
  rw [← Hp.out] at hpl HF HN ⊢
  go_wp2_with fail
  go_loopw [7] (fun x wr => ∃ (j cap : Nat) (p : Option Addr), j ≤ n ∧ x = .slice p j cap ∧ OwnI w wr p j cap (refN n pl j)) (fun x _ => n - slLen x)
  case atStart => exact ⟨0, 0, none, Nat.zero_le _, rfl, ⟨World.ownsRow_nil _ _ _ _, fun b hb => (by cases hb), a1⟩⟩
  case round =>
    obtain ⟨j, cap, p, hj, rfl, O⟩ := hrel
    have c0 := (HG.out.kept0 O.ap).c0
    by_cases hlt : j < n
    · go_wp2_with fail
      have I := O.ir
      have hsm := HN.out j hlt
      rw [nextN_eq] at hsm
      have HSM : Hid ((nextK pl (refN n pl j) n).isSome = true) := hsm
      have HRS : Hid (refN n pl (j + 1) = refN n pl j ++ [(nextK pl (refN n pl j) n).getD 0]) := rfl
      obtain ⟨out, HO⟩ : ∃ out, Hid (out = refN n pl j) := ⟨_, rfl⟩
      rw [← HO.out] at O I HSM HRS
      clear hsm
      go_loopw [8, 9] (fun u v w2 => ∃ i : Nat, i ≤ n ∧ v = .int .i64 i ∧ u = .int .i64 (encO (nextK pl out i)) ∧ Apart [] wr w2) (fun _ v _ => n - (intOf v).toNat)
      case atStart => exact ⟨0, Nat.zero_le _, rfl, rfl, Apart.refl _ _⟩
      case round =>
        obtain ⟨i, hi, rfl, rfl, aR⟩ := hrel
        have c0' := (HG.out.kept0 (O.ap.trans aR)).c0
        by_cases hin : i < n
        · go_wp2_with fail
          refine (has_ok (I.kept0 aR) i (by omega)).mono ?_
          rintro e w2 ⟨rfl, rfl⟩
          dsimp only
          have HS : Hid (nextK pl out (i + 1) = nxs pl out (nextK pl out i) i) := nextK_succ pl out i
          by_cases hc : out.contains i = true
          · rw [hc]
            go_wp2_with fail
            go_roundw
            case rel => exact ⟨i + 1, by omega, by simp, by rw [HS.out]; unfold nxs; rw [if_pos hc], aR⟩
            case measure => simp only [intOf]; omega
          · have hc' : out.contains i = false := by simpa using hc
            rw [hc']
            cases hx : nextK pl out i with
            | none =>
              have HXX : Hid (nextK pl out i = none) := hx
              clear hx
              simp only [encO]
              go_wp2_with fail
              go_roundw
              case rel => exact ⟨i + 1, by omega, by simp, by rw [HS.out, HXX.out]; unfold nxs; rw [if_neg hc]; rfl, aR⟩
              case measure => simp only [intOf]; omega
            | some k =>
              have hki := nextK_lt pl out i k hx
              have HXX : Hid (nextK pl out i = some k) := hx
              clear hx
              simp only [encO]
              have hk0 : ¬ ((k : Int) < 0) := by omega
              go_wp2_with fail
              refine (away_ok pl i hpl (by omega) _).mono ?_
              rintro e w3 ⟨rfl, a3⟩
              dsimp only
              go_wp2_with fail
              refine (away_ok pl k hpl (by omega) _).mono ?_
              rintro e w4 ⟨rfl, a4⟩
              dsimp only
              obtain ⟨x, Hx⟩ : ∃ x, Hid (x = awayN pl i) := ⟨_, rfl⟩
              obtain ⟨y, Hy⟩ : ∃ y, Hid (y = awayN pl k) := ⟨_, rfl⟩
              rw [← Hx.out, ← Hy.out]
              by_cases hxy : x < y
              · go_wp2_with fail
                go_roundw
                case rel => exact ⟨i + 1, by omega, by simp, by rw [HS.out, HXX.out]; unfold nxs; rw [if_neg hc]; simp only []; rw [← Hx.out, ← Hy.out, if_pos hxy]; rfl, (aR.trans a3).trans a4⟩
                case measure => simp only [intOf]; omega
              · go_wp2_with fail
                go_roundw
                case rel => exact ⟨i + 1, by omega, by simp, by rw [HS.out, HXX.out]; unfold nxs; rw [if_neg hc]; simp only []; rw [← Hx.out, ← Hy.out, if_neg hxy]; rfl, (aR.trans a3).trans a4⟩
                case measure => simp only [intOf]; omega
        · obtain rfl : i = n := by omega
          cases hx : nextK pl out i with
          | none => exfalso; have := HSM.out; rw [hx] at this; cases this
          | some k =>
            rw [hx] at HRS
            simp only [Option.getD_some] at HRS
            have HRS2 : Hid (refN i pl (j + 1) = out ++ [k]) := HRS
            clear hx HRS
            simp only [encO]
            obtain ⟨p', cp', w', hrun, O3, _⟩ := owni_append ((O.kept aR).kept ((Apart.refl _ _).alloc (.cells #[.int .i64 (k : Nat)] 3))) (by omega) 28 ⟨wr.heap.size, 0, none⟩ k (by simp [Addr.add])
            go_wp2_with (at_builtin; refine wpList_append3 rfl _ _ 28 rfl _ _ rfl rfl _ _ hrun ?_)
            go_roundw
            case rel => exact ⟨j + 1, cp', p', by omega, rfl, by rw [HRS2.out]; exact O3⟩
            case measure => simp only [slLen]; omega
    · obtain rfl : j = n := by omega
      rw [HF.out] at O
      obtain ⟨Q, rfl, hQ, hQn, hle, hc63⟩ := own_some O (by omega)
      go_wp2_with fail
      go_ret2
      exact ⟨⟨Q, cap, rfl, O, hle, hc63⟩⟩
end Go.Proofs.Ytagjmpdimphfaaa.rg
