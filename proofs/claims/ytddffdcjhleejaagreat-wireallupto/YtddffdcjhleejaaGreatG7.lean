import Derived.Test.YtddffdcjhleejaaGreatG6
import Derived.Deep.CutRange
namespace Go.Proofs.YtddffdcjhleejaaGreat.ds
open Go.ChangeShapes Go.WideShapes Go.ChangeAt Go.RowKit Go.Sort
set_option linter.unusedVariables false
set_option linter.unusedSimpArgs false
/-- what take leaves -/
structure TkR (wB w w' : World) (R : Nat) (p : Option Addr) (N c : Nat) (B : List Nat) (q n : Nat) (e : Ending) : Prop where
  ap : Apart [R] w w'
  ok : n ≤ N - q → e = .returned (.slice (if c = q then p else p.map fun x => x.add q) n (c - q)) ∧ RB wB w' R p N c B (q + n)
  no : ¬ n ≤ N - q → e = wrongAt N
set_option maxHeartbeats 4000000 in
set_option maxRecDepth 100000 in
theorem take_ok {wB w : World} {R : Nat} {p : Option Addr} {N c : Nat} {B : List Nat} {q : Nat} (h : RB wB w R p N c B q) (n : Nat) (hn : n ≤ 1000000) :
    Calls Tryz.prog 97 #[.pointer (some ⟨R, 0, none⟩), .int .i64 (n : Nat)] w fun e w' => TkR wB w w' R p N c B q n e := by
  have HRB := hid h
  have hle := h.le
  have hlim := h.lim
  have hcap := h.cap
  obtain ⟨m, Hm⟩ : ∃ m, Hid (m = N - q) := ⟨_, rfl⟩
  obtain ⟨t, Ht⟩ : ∃ t, Hid (t = q + n) := ⟨_, rfl⟩
  have HWs : Hid (IntKind.i64.wrap ((N : Int) - (q : Int)) = (m : Int)) := by unfold Hid; rw [IntKind.wrap_i64, Hm.out]; omega
  obtain ⟨bb, HBb⟩ : ∃ bb, Hid (bb = decide (n ≤ m)) := ⟨_, rfl⟩
  clear h
  go_enter Tryz.func97, Tryz.ntmps97
  go_upto_region 1 with fail
  refine wp_region_held_drew (S := fun W => Apart [] w W) (by kernel_rfl) (Apart.refl [] w).drew (fun hHeld => ?_)
  have Twd : Hid (Apart [] w w.drew) := (Apart.refl [] w).drew
  have HC : Hid (∀ W, Apart [] w W → W.cell? ⟨R, 0, none⟩ = some (.slice p N c) ∧ W.cell? ⟨R, 1, none⟩ = some (.int .i64 (q : Nat)) ∧ W.frozen? ⟨R, 1, none⟩ = false) := fun W a => (HRB.out.kept a).cells
  generalize w.drew = wd at *
  refine tkn 0 5 (.int .i64 (n : Nat)) rfl ?_ ?_
  · intro W hSW; go_simp
  refine tkn 1 6 (.pointer (some ⟨R, 0, none⟩)) rfl ?_ ?_
  · intro W hSW; go_simp
  refine tkn 2 7 (.pointer (some ⟨R, 0, none⟩)) rfl ?_ ?_
  · intro W hSW; go_simp
  refine tkn 3 8 (.pointer (some ⟨R, 0, none⟩)) rfl ?_ ?_
  · intro W hSW; go_simp
  refine tkn 4 9 (.slice p N c) rfl ?_ ?_
  · intro W hSW; obtain ⟨z0, z1, z2⟩ := HC.out W hSW; go_simp
  refine tkn 5 10 (.int .i64 (N : Nat)) rfl ?_ ?_
  · intro W hSW; go_simp
  refine tkn 6 11 (.pointer (some ⟨R, 0, none⟩)) rfl ?_ ?_
  · intro W hSW; go_simp
  refine tkn 7 12 (.pointer (some ⟨R, 0, none⟩)) rfl ?_ ?_
  · intro W hSW; go_simp
  refine tkn 8 13 (.pointer (some ⟨R, 1, none⟩)) rfl ?_ ?_
  · intro W hSW; go_simp
  refine tkn 9 14 (.int .i64 (q : Nat)) rfl ?_ ?_
  · intro W hSW; obtain ⟨z0, z1, z2⟩ := HC.out W hSW; go_simp
  refine tkn 10 15 (.int .i64 (m : Nat)) rfl ?_ ?_
  · intro W hSW; have hw := HWs.out; go_simp
  refine tkn 11 16 (.bool bb) rfl ?_ ?_
  · intro W hSW; (go_simp; exact HBb.out.symm)
  refine tkn 12 17 (.pointer (some ⟨R, 0, none⟩)) rfl ?_ ?_
  · intro W hSW; go_simp
  refine tkn 13 18 (.pointer (some ⟨R, 0, none⟩)) rfl ?_ ?_
  · intro W hSW; go_simp
  refine tkn 14 19 (.pointer (some ⟨R, 0, none⟩)) rfl ?_ ?_
  · intro W hSW; go_simp
  refine tkn 15 20 (.slice p N c) rfl ?_ ?_
  · intro W hSW; obtain ⟨z0, z1, z2⟩ := HC.out W hSW; go_simp
  refine tkn 16 21 (.int .i64 (N : Nat)) rfl ?_ ?_
  · intro W hSW; go_simp
  refine wpAnyH_ready (rs := [17]) (by kernel_rfl) (by simp) ?_
  refine AllReadyH.cons rfl (fun KK hKK => ?_) AllReadyH.nil
  go_simp
  cases hbb : bb
  case false =>
    refine (need_no N wd).mono ?_
    rintro _ w' ⟨rfl, hw'⟩
    rw [hw']
    try dsimp only [wrongAt]
    have hno : ¬ n ≤ N - q := by have := HBb.out; rw [hbb, Hm.out] at this; simpa using this.symm
    refine ⟨rfl, Twd.out.mono (by simp), fun h => absurd h hno, fun _ => rfl⟩
  case true =>
    have hyes : n ≤ N - q := by have := HBb.out; rw [hbb, Hm.out] at this; simpa using this.symm
    refine (need_yes N wd).mono ?_
    rintro _ w' ⟨rfl, hw'⟩
    rw [hw']
    clear hw' w'
    try dsimp only
    refine hKK.out _ _ Twd.out (fun hHeld => ?_)
    clear hKK KK
    refine wpAnyH_done (by kernel_rfl) ?_ _
    try dsimp only
    clear hHeld
    have HR1 := hid (HRB.out.kept Twd.out)
    obtain ⟨z0, z1, z2⟩ := HR1.out.cells
    have hw1 : IntKind.i64.wrap ((q : Int) + (n : Int)) = (t : Int) := by rw [IntKind.wrap_i64, Ht.out]; omega
    have HWt : Hid (IntKind.i64.wrap ((t : Int) - (n : Int)) = (q : Int)) := by unfold Hid; rw [IntKind.wrap_i64, Ht.out]; omega
    have HR2 := hid (HR1.out.move t (by rw [Ht.out]; omega))
    go_upto_region 3 with fail
    clear z0 z1 z2 hw1
    obtain ⟨w2, Hw2⟩ : ∃ w2, Hid (w2 = wd.setCell ⟨R, 1, none⟩ (.int .i64 (t : Nat))) := ⟨_, rfl⟩
    have HA2 : Hid (Apart [R] w w2) := by unfold Hid; rw [Hw2.out]; exact (Twd.out.mono (by simp)).setCell (.inl (by simp)) _
    rw [← Hw2.out] at HR2 ⊢
    clear HC Twd
    refine wp_region_held_drew (S := fun W => Apart [] w2 W) (by kernel_rfl) (Apart.refl [] w2).drew (fun hHeld => ?_)
    have Twe : Hid (Apart [] w2 w2.drew) := (Apart.refl [] w2).drew
    have HC : Hid (∀ W, Apart [] w2 W → W.cell? ⟨R, 0, none⟩ = some (.slice p N c) ∧ W.cell? ⟨R, 1, none⟩ = some (.int .i64 (t : Nat)) ∧ W.frozen? ⟨R, 1, none⟩ = false) := fun W a => (HR2.out.kept a).cells
    generalize w2.drew = we at *
    refine tkn 0 31 (.pointer (some ⟨R, 0, none⟩)) rfl ?_ ?_
    · intro W hSW; go_simp
    refine tkn 1 32 (.pointer (some ⟨R, 0, none⟩)) rfl ?_ ?_
    · intro W hSW; go_simp
    refine tkn 2 33 (.pointer (some ⟨R, 0, none⟩)) rfl ?_ ?_
    · intro W hSW; go_simp
    refine tkn 3 34 (.slice p N c) rfl ?_ ?_
    · intro W hSW; obtain ⟨z0, z1, z2⟩ := HC.out W hSW; go_simp
    refine tkn 4 35 (.pointer (some ⟨R, 0, none⟩)) rfl ?_ ?_
    · intro W hSW; go_simp
    refine tkn 5 36 (.pointer (some ⟨R, 0, none⟩)) rfl ?_ ?_
    · intro W hSW; go_simp
    refine tkn 6 37 (.pointer (some ⟨R, 1, none⟩)) rfl ?_ ?_
    · intro W hSW; go_simp
    refine tkn 7 38 (.int .i64 (t : Nat)) rfl ?_ ?_
    · intro W hSW; obtain ⟨z0, z1, z2⟩ := HC.out W hSW; go_simp
    refine tkn 8 39 (.int .i64 (n : Nat)) rfl ?_ ?_
    · intro W hSW; go_simp
    refine tkn 9 40 (.int .i64 (q : Nat)) rfl ?_ ?_
    · intro W hSW; have hw := HWt.out; go_simp
    refine tkn 10 41 (.pointer (some ⟨R, 0, none⟩)) rfl ?_ ?_
    · intro W hSW; go_simp
    refine tkn 11 42 (.pointer (some ⟨R, 0, none⟩)) rfl ?_ ?_
    · intro W hSW; go_simp
    refine tkn 12 43 (.pointer (some ⟨R, 1, none⟩)) rfl ?_ ?_
    · intro W hSW; go_simp
    refine tkn 13 44 (.int .i64 (t : Nat)) rfl ?_ ?_
    · intro W hSW; obtain ⟨z0, z1, z2⟩ := HC.out W hSW; go_simp
    refine wpAnyH_ready (rs := [14]) (by kernel_rfl) (by simp) ?_
    refine AllReadyH.cons rfl (fun KK hKK => ?_) AllReadyH.nil
    go_simp
    have htc : t ≤ c := by rw [Ht.out]; omega
    have hqt : q ≤ t := by rw [Ht.out]; omega
    have htn : t - q = n := by rw [Ht.out]; omega
    rw [if_pos htc, if_pos hqt, htn]
    obtain ⟨pp, Hpp⟩ : ∃ pp, Hid (pp = if c = q then p else Option.map (fun x => x.add q) p) := ⟨_, rfl⟩
    obtain ⟨cd, Hcd⟩ : ∃ cd, Hid (cd = c - q) := ⟨_, rfl⟩
    rw [← Hpp.out, ← Hcd.out]
    refine hKK.out _ _ Twe.out (fun hHeld => ?_)
    clear hKK KK
    refine tkn 15 4 (.slice pp n cd) rfl ?_ ?_
    · intro W hSW; go_simp
    refine wpAnyH_done (by kernel_rfl) ?_ _
    try dsimp only
    clear hHeld htc hqt htn
    go_wp2_with fail
    go_ret
    refine ⟨HA2.out.trans (Twe.out.mono (by simp)), fun _ => ⟨by rw [← Hpp.out, ← Hcd.out]; rfl, ?_⟩, fun h => absurd hyes h⟩
    rw [← Ht.out]
    exact HR2.out.kept Twe.out
end Go.Proofs.YtddffdcjhleejaaGreat.ds
namespace Go.Proofs.YtddffdcjhleejaaGreat.ds
open Go.ChangeShapes Go.WideShapes Go.ChangeAt Go.RowKit Go.Sort
set_option linter.unusedVariables false
set_option linter.unusedSimpArgs false
theorem or_nat (a b : Nat) (ha : a < 2 ^ 64) (hb : b < 2 ^ 64) : bits .or .u64 (a : Int) (b : Int) = ((a ||| b : Nat) : Int) := by
  have hx : a ||| b < 2 ^ 64 := Nat.or_lt_two_pow ha hb
  show IntKind.u64.wrap ((BitVec.ofInt 64 (a : Int) ||| BitVec.ofInt 64 (b : Int)).toNat : Int) = _
  rw [BitVec.toNat_or, ofInt_u64 a (by omega), ofInt_u64 b (by omega), IntKind.wrap_u64]
  omega
theorem or_shl (acc d i : Nat) (ha : acc < 18446744073709551616) : bits BinOp.or IntKind.u64 (acc : Int) (IntKind.u64.wrap ((d : Int) % 128 * 2 ^ (7 * i))) = ((acc ||| (d % 128) <<< (7 * i) % 18446744073709551616 : Nat) : Int) := by
  have e1 : IntKind.u64.wrap ((d : Int) % 128 * 2 ^ (7 * i)) = (((d % 128) <<< (7 * i) % 18446744073709551616 : Nat) : Int) := by
    rw [IntKind.wrap_u64, Nat.shiftLeft_eq]
    generalize hz : 2 ^ (7 * i) = z
    have hz2 : (2 : Int) ^ (7 * i) = (z : Int) := by rw [← hz]; simp
    rw [hz2, show ((d : Int) % 128) = ((d % 128 : Nat) : Int) from by omega, ← Int.natCast_mul]
    generalize d % 128 * z = y
    omega
  rw [e1]
  exact or_nat acc _ (by omega) (by have := Nat.mod_lt ((d % 128) <<< (7 * i)) (show 0 < 18446744073709551616 by decide); omega)
/-- what a reader's call leaves: what it reads, or where it goes wrong -/
def OutR {α : Type} (wB w w' : World) (R : Nat) (p : Option Addr) (N c : Nat) (B : List Nat) (e : Ending) (r : Except Nat (α × Nat)) (V : α → Value → World → Prop) : Prop :=
  Apart [R] w w' ∧ match r with
  | .ok (a, q) => (∃ v, e = .returned v ∧ V a v w') ∧ RB wB w' R p N c B q
  | .error x => e = wrongAt x
def rnumber (B : List Nat) (q : Nat) : Except Nat ((Nat × Bool) × Nat) := match rnum B 10 0 q 0 with
  | .ok (n, b, q') => .ok ((n, b), q')
  | .error x => .error x
set_option maxHeartbeats 4000000 in
set_option maxRecDepth 100000 in
theorem number_ok {wB w : World} {R : Nat} {p : Option Addr} {N c : Nat} {B : List Nat} {q : Nat} (h : RB wB w R p N c B q) :
    Calls Tryz.prog 96 #[.pointer (some ⟨R, 0, none⟩)] w fun e w' => OutR wB w w' R p N c B e (rnumber B q) (fun a v _ => v = .tuple #[.int .u64 ((a.1 : Nat) : Int), .bool a.2]) := by
  have HRB := hid h
  have HLen : Hid (B.length = N) := h.len
  clear h
  go_enter Tryz.func96, Tryz.ntmps96
  go_wp2_with fail
  go_loopw [4, 5] (fun a b wt => ∃ (i r acc : Nat), a = .int .u64 (acc : Nat) ∧ b = .int .i64 (i : Nat) ∧ i ≤ 9 ∧ acc < 18446744073709551616 ∧ RB wB wt R p N c B r ∧ Apart [R] w wt ∧ rnum B 10 0 q 0 = rnum B (10 - i) i r acc) (fun _ b _ => 10 - (intOf b).toNat)
  case atStart => exact ⟨0, q, 0, rfl, rfl, by omega, by omega, HRB.out, Apart.refl _ _, rfl⟩
  case round =>
    obtain ⟨i, r, acc, rfl, rfl, hi, hacc, hrb, hap, heq⟩ := hrel
    have HR := hid hrb
    have HA := hid hap
    have HEQ := hid heq
    clear hrb hap heq
    have hlim := HR.out.lim
    have hcap := HR.out.cap
    go_wp2_with fail
    refine (take_ok HR.out 1 (by omega)).mono ?_
    rintro _ w2 hp
    by_cases hlt : r < N
    · obtain ⟨he, hr2⟩ := hp.ok (by omega)
      subst he
      have HR2 := hid hr2
      have HA2 : Hid (Apart [R] w w2) := HA.out.trans hp.ap
      obtain ⟨P, o, hP, hPl, hb⟩ := HR2.out.byte r hlt
      have HB8 : Hid (B.getD r 0 < 256) := by
        unfold Hid
        rw [List.getD_eq_getElem?_getD, List.getElem?_eq_getElem (by rw [HLen.out]; exact hlt)]
        exact HR.out.b8 _ (List.getElem_mem _)
      have hb8 := HB8.out
      have HST : Hid (rnum B (10 - i) i r acc = if i = 9 then .ok (acc ||| (B.getD r 0 % 128) <<< (7 * i) % 18446744073709551616, decide (B.getD r 0 = 1), r + 1) else if B.getD r 0 < 128 then .ok (acc ||| (B.getD r 0 % 128) <<< (7 * i) % 18446744073709551616, decide (B.getD r 0 ≠ 0) || decide (i = 0), r + 1) else rnum B (9 - i) (i + 1) (r + 1) (acc ||| (B.getD r 0 % 128) <<< (7 * i) % 18446744073709551616)) := by
        unfold Hid
        rw [show 10 - i = (9 - i) + 1 from by omega, rnum, if_pos (by rw [HLen.out]; exact hlt)]
      generalize B.getD r 0 = d at *
      subst hP
      rw [if_neg (show ¬ c = r by omega)]
      simp only [Option.map_some, Addr.add_lit]
      clear hp hr2
      go_upto_region 5 with fail
      obtain ⟨a2, Ha2⟩ : ∃ a2, Hid (a2 = acc ||| (d % 128) <<< (7 * i) % 18446744073709551616) := ⟨_, rfl⟩
      have HOR : Hid (bits BinOp.or IntKind.u64 (acc : Int) (IntKind.u64.wrap ((d : Int) % 128 * 2 ^ (7 * i))) = (a2 : Int)) := by unfold Hid; rw [Ha2.out]; exact or_shl acc d i hacc
      have HA64 : Hid (a2 < 18446744073709551616) := by unfold Hid; rw [Ha2.out]; exact Nat.or_lt_two_pow (n := 64) (by omega) (by have := Nat.mod_lt ((d % 128) <<< (7 * i)) (show 0 < 18446744073709551616 by decide); omega)
      rw [← Ha2.out] at HST
      go_cut [4] from 13 to 20 (fun s wx => s = .int .u64 (a2 : Nat) ∧ wx = w2)
      · have hw1 : IntKind.i64.wrap (7 * (i : Int)) = ((7 * i : Nat) : Int) := by rw [IntKind.wrap_i64]; omega
        go_wp2_with fail
        go_meet
        exact ⟨by rw [HOR.out], rfl⟩
      obtain ⟨rfl, hww⟩ := hcut
      rw [hww]
      clear hww hb
      by_cases h9 : i = 9
      · have h9i : ((i : Nat) : Int) = 9 := by omega
        have HF : Hid (rnumber B q = .ok ((a2, decide (d = 1)), r + 1)) := by
          unfold Hid rnumber
          rw [HEQ.out, HST.out, if_pos h9]
        by_cases h1 : d = 1
        · have h1i : ((d : Nat) : Int) = 1 := by omega
          go_wp2_with fail
          go_ret2
          refine ⟨HA2.out, ?_⟩
          rw [HF.out]
          exact ⟨⟨_, rfl, by simp [h1, h1i]⟩, HR2.out⟩
        · have h1i : ¬ ((d : Nat) : Int) = 1 := by omega
          go_wp2_with fail
          go_ret2
          refine ⟨HA2.out, ?_⟩
          rw [HF.out]
          exact ⟨⟨_, rfl, by simp [h1, h1i]⟩, HR2.out⟩
      · have h9i : ¬ ((i : Nat) : Int) = 9 := by omega
        by_cases h128 : d < 128
        · have h128i : ((d : Nat) : Int) < 128 := by omega
          have HF : Hid (rnumber B q = .ok ((a2, decide (d ≠ 0) || decide (i = 0)), r + 1)) := by
            unfold Hid rnumber
            rw [HEQ.out, HST.out, if_neg h9, if_pos h128]
          by_cases h0 : d = 0
          · have h0i : ((d : Nat) : Int) = 0 := by omega
            by_cases hi0 : i = 0
            · have hi0i : ((i : Nat) : Int) = 0 := by omega
              go_wp2_with fail
              go_ret2
              refine ⟨HA2.out, ?_⟩
              rw [HF.out]
              exact ⟨⟨_, rfl, by simp [h0, hi0, h0i, hi0i]⟩, HR2.out⟩
            · have hi0i : ¬ ((i : Nat) : Int) = 0 := by omega
              go_wp2_with fail
              go_ret2
              refine ⟨HA2.out, ?_⟩
              rw [HF.out]
              exact ⟨⟨_, rfl, by simp [h0, hi0, h0i, hi0i]⟩, HR2.out⟩
          · have h0i : ¬ ((d : Nat) : Int) = 0 := by omega
            go_wp2_with fail
            go_ret2
            refine ⟨HA2.out, ?_⟩
            rw [HF.out]
            exact ⟨⟨_, rfl, by simp [h0, h0i]⟩, HR2.out⟩
        · have h128i : ¬ ((d : Nat) : Int) < 128 := by omega
          have HN : Hid (rnum B 10 0 q 0 = rnum B (10 - (i + 1)) (i + 1) (r + 1) a2) := by
            unfold Hid
            rw [HEQ.out, HST.out, if_neg h9, if_neg h128, show 10 - (i + 1) = 9 - i from by omega]
          go_wp2_with fail
          go_roundw
          case rel => exact ⟨i + 1, r + 1, a2, rfl, by go_num, by omega, HA64.out, HR2.out, HA2.out, HN.out⟩
          case measure => simp [intOf]; omega
    · have he := hp.no (by omega)
      subst he
      unfold wrongAt
      have HA2 : Hid (Apart [R] w w2) := HA.out.trans hp.ap
      have HST : Hid (rnum B (10 - i) i r acc = .error B.length) := by
        unfold Hid
        rw [show 10 - i = (9 - i) + 1 from by omega, rnum, if_neg (by rw [HLen.out]; exact hlt)]
      clear hp
      try dsimp only
      refine ⟨rfl, ⟨HA2.out, ?_⟩⟩
      unfold rnumber
      rw [HEQ.out, HST.out]
      show _ = wrongAt _
      rw [HLen.out]
      rfl
end Go.Proofs.YtddffdcjhleejaaGreat.ds
namespace Go.Proofs.YtddffdcjhleejaaGreat.ds
open Go.ChangeShapes Go.WideShapes Go.ChangeAt Go.RowKit Go.Sort
set_option linter.unusedVariables false
set_option linter.unusedSimpArgs false
/-- a number that is bounded -/
def rbound (B : List Nat) (q lo hi : Nat) : Except Nat (Nat × Nat) := match rnumber B q with
  | .ok ((n, b), q') => if b = true ∧ lo ≤ n ∧ n ≤ hi then .ok (n, q') else .error q
  | .error x => .error x
theorem rbound_le {B : List Nat} {q lo hi n q' : Nat} (h : rbound B q lo hi = .ok (n, q')) : lo ≤ n ∧ n ≤ hi := by
  unfold rbound at h
  split at h
  · split at h
    · rename_i hh
      simp at h
      rw [← h.1]; exact hh.2
    · cases h
  · cases h
set_option maxHeartbeats 4000000 in
set_option maxRecDepth 100000 in
theorem bounded_ok {wB w : World} {R : Nat} {p : Option Addr} {N c : Nat} {B : List Nat} {q : Nat} (h : RB wB w R p N c B q) (lo hi : Nat) (hlo : lo ≤ 1000000000) (hhi : hi ≤ 1000000000) :
    Calls Tryz.prog 64 #[.pointer (some ⟨R, 0, none⟩), .int .i64 (lo : Nat), .int .i64 (hi : Nat)] w fun e w' => OutR wB w w' R p N c B e (rbound B q lo hi) (fun a v _ => v = .int .i64 (a : Nat)) := by
  have HRB := hid h
  obtain ⟨z0, z1, z2⟩ := h.cells
  clear h
  go_enter Tryz.func64, Tryz.ntmps64
  go_wp2_with fail
  refine (number_ok HRB.out).mono ?_
  clear z0 z1 z2
  rintro e w2 ⟨ha, hm⟩
  have HA := hid ha
  clear ha
  cases hr : rnumber B q with
  | error x =>
    rw [hr] at hm
    have he : e = wrongAt x := hm
    subst he
    unfold wrongAt
    have HF : Hid (rbound B q lo hi = .error x) := by unfold Hid rbound; rw [hr]
    try dsimp only
    refine ⟨rfl, HA.out, ?_⟩
    rw [HF.out]
    rfl
  | ok t =>
    obtain ⟨⟨n, b⟩, q'⟩ := t
    rw [hr] at hm
    obtain ⟨⟨v, hev, hv⟩, hrb⟩ := hm
    subst hev
    subst hv
    have HR2 := hid hrb
    have HE : Hid (rbound B q lo hi = if b = true ∧ lo ≤ n ∧ n ≤ hi then .ok (n, q') else .error q) := by unfold Hid rbound; rw [hr]
    clear hrb hr
    try dsimp only
    have wl : IntKind.u64.wrap (lo : Int) = (lo : Int) := by rw [IntKind.wrap_u64]; omega
    have wh : IntKind.u64.wrap (hi : Int) = (hi : Int) := by rw [IntKind.wrap_u64]; omega
    have bad : ¬ (b = true ∧ lo ≤ n ∧ n ≤ hi) → Hid (rbound B q lo hi = .error q) := fun hn => by unfold Hid; rw [HE.out, if_neg hn]
    cases b with
    | false =>
      have HF := bad (by simp)
      clear bad
      go_wp2_with fail
      refine (need_no q w2).mono ?_
      rintro _ w3 ⟨rfl, hw3⟩
      rw [hw3]
      unfold wrongAt
      try dsimp only
      refine ⟨rfl, HA.out, ?_⟩
      rw [HF.out]
      rfl
    | true =>
      by_cases h1 : lo ≤ n
      · have h1i : ((n : Nat) : Int) ≥ (lo : Int) := by omega
        by_cases h2 : n ≤ hi
        · have h2i : ((n : Nat) : Int) ≤ (hi : Int) := by omega
          have wn : IntKind.i64.wrap (n : Int) = (n : Int) := by rw [IntKind.wrap_i64]; omega
          have HF : Hid (rbound B q lo hi = .ok (n, q')) := by unfold Hid; rw [HE.out, if_pos ⟨rfl, h1, h2⟩]
          clear bad
          go_wp2_with fail
          refine (need_yes q w2).mono ?_
          rintro _ w3 ⟨rfl, hw3⟩
          rw [hw3]
          clear hw3
          try dsimp only
          go_wp2_with fail
          go_ret
          refine ⟨HA.out, ?_⟩
          rw [HF.out]
          exact ⟨⟨_, rfl, rfl⟩, HR2.out⟩
        · have h2i : ¬ ((n : Nat) : Int) ≤ (hi : Int) := by omega
          have HF := bad (by simp [h1, h2])
          clear bad
          go_wp2_with fail
          refine (need_no q w2).mono ?_
          rintro _ w3 ⟨rfl, hw3⟩
          rw [hw3]
          unfold wrongAt
          try dsimp only
          refine ⟨rfl, HA.out, ?_⟩
          rw [HF.out]
          rfl
      · have h1i : ¬ ((n : Nat) : Int) ≥ (lo : Int) := by omega
        have HF := bad (by simp [h1])
        clear bad
        go_wp2_with fail
        refine (need_no q w2).mono ?_
        rintro _ w3 ⟨rfl, hw3⟩
        rw [hw3]
        unfold wrongAt
        try dsimp only
        refine ⟨rfl, HA.out, ?_⟩
        rw [HF.out]
        rfl
end Go.Proofs.YtddffdcjhleejaaGreat.ds
