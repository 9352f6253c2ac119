import Derived.Test.YtddffdcjhleejaaV2
import Derived.ArgAppend
import Derived.Deep.RegionLaw
import Derived.Deep.DeepAppendRoom
namespace Go.Proofs.Ytddffdcjhleejaa.ds
open Go.ChangeShapes Go.WideShapes Go.ChangeAt Go.RowKit
set_option linter.unusedVariables false
/-- a list that can be read -/
structure L (w : World) (p : Option Addr) (N : Nat) (xs : List S) : Prop where
  sp : Sp w p xs
  len : xs.length = N
  lim : N ≤ 9223372036854775807
  fit : ∀ x ∈ xs, x.t < 2 ^ 64
theorem L.kept0 {w w' : World} {p : Option Addr} {N : Nat} {xs : List S} (h : L w p N xs) (a : Apart [] w w') : L w' p N xs := { h with sp := h.sp.kept0 a }
theorem L.nil (w : World) (p : Option Addr) : L w p 0 [] := ⟨Sp.nil w p, rfl, by omega, by simp⟩
open Classical in
/-- a list, or none where it is no set -/
noncomputable def norm (xs : List S) : List S := if OkL 64 xs then xs else []
theorem norm_ok (xs : List S) : OkL 64 (norm xs) := by unfold norm; split; assumption; exact OkL.nil 64
theorem norm_of {xs : List S} (h : OkL 64 xs) : norm xs = xs := by unfold norm; rw [if_pos h]
theorem norm_no {xs : List S} (h : ¬ OkL 64 xs) : norm xs = [] := by unfold norm; rw [if_neg h]
theorem isSet_yes {p : Option Addr} {N cap : Nat} {xs : List S} {gap : Int} {w : World} (h : L w p N xs) (k : OkL gap xs) : Calls Try.prog 116 #[.slice p N cap, .int .i64 gap] w fun r w' => r = .returned (.bool true) ∧ Apart [] w w' := by
  refine (isSet_ok p N cap xs gap w h.sp h.len h.lim h.fit).mono ?_
  rintro r w1 ⟨⟨v, rfl, hv⟩, a1⟩
  exact ⟨by rw [hv.2 k], a1⟩
theorem isSet_no {p : Option Addr} {N cap : Nat} {xs : List S} {gap : Int} {w : World} (h : L w p N xs) (k : ¬ OkL gap xs) : Calls Try.prog 116 #[.slice p N cap, .int .i64 gap] w fun r w' => r = .returned (.bool false) ∧ Apart [] w w' := by
  refine (isSet_ok p N cap xs gap w h.sp h.len h.lim h.fit).mono ?_
  rintro r w1 ⟨⟨v, rfl, hv⟩, a1⟩
  cases v
  · exact ⟨rfl, a1⟩
  · exact absurd (hv.1 rfl) k
structure AsPost (w w' : World) (r : Ending) (xs : List S) : Prop where
  ex : ∃ p N cap, r = .returned (.slice p N cap) ∧ L w' p N (norm xs) ∧ Apart [] w w'
theorem asSet_ok {p : Option Addr} {N cap : Nat} {xs : List S} {w : World} (h : L w p N xs) : Calls Try.prog 114 #[.slice p N cap] w fun r w' => AsPost w w' r xs := by
  by_cases k : OkL 64 xs
  · go_enter Try.func114, Try.ntmps114
    go_wp2_with (go_at_call 116; refine (isSet_yes h k).mono ?_; rintro r w1 ⟨rfl, a1⟩)
    go_ret
    exact ⟨p, N, cap, rfl, by rw [norm_of k]; exact h.kept0 a1, a1⟩
  · go_enter Try.func114, Try.ntmps114
    go_wp2_with (go_at_call 116; refine (isSet_no h k).mono ?_; rintro r w1 ⟨rfl, a1⟩)
    go_ret
    exact ⟨none, 0, 0, rfl, by rw [norm_no k]; exact L.nil _ _, a1⟩
theorem own_base {w : World} {b c : Nat} {e : TypeId} {size : Nat} {v : Value} {n : Nat} {xs : List Value} (h : w.ownsRow b e size v n xs) (hc : c ≤ b) : w.ownsRow c e size v n xs := by
  obtain ⟨hl, ⟨hv, hz⟩ | ⟨g, cap, cur, rfl, hb, hr⟩⟩ := h
  · exact ⟨hl, .inl ⟨hv, hz⟩⟩
  · exact ⟨hl, .inr ⟨g, cap, cur, rfl, by omega, hr⟩⟩
/-- the row is the old one, or a new one -/
def NewOr (w : World) (v v' : Value) : Prop := v'.ownBlock = v.ownBlock ∨ ∃ k, v'.ownBlock = some k ∧ w.heap.size ≤ k
theorem run_append2 (w : World) (t ty e : TypeId) (i : TypeInfo) (z : Value) (size bytes : Nat) (ht : Try.prog.underlying t = some (.slice e)) (hi : Try.prog.info? e = some i) (hz : i.zero = some z) (hsize : i.size = size) (hby : i.bytes = bytes) (hzs : z.cells.size = size) (hsz : 0 < size)
    (v : Value) (n : Nat) (xs : List Value) (h : w.ownsRow 0 e size v n xs) (ad : Addr) (m c : Nat) (news : List Value) (hm : 0 < m) (hl : news.length = m * size) (hnews : ∀ j u, news[j]? = some u → w.cell? (ad.add j) = some u) (h1 : ∀ u ∈ news, u.oneCell' = true) (h63 : n + m ≤ maxLen) (hb : (n + m) * bytes ≤ 140737488355328) :
    ∃ v' w', (Builtin.append_ #[t, t] ty #[v, .slice (some ad) m c]).run Try.prog w = .ok v' w' ∧ w'.ownsRow 0 e size v' (n + m) (xs ++ news) ∧ w.grownBy w' v.ownBlock ∧ NewOr w v v' := by
  have h0 := h
  obtain ⟨hxl, ⟨rfl, rfl⟩ | ⟨g, cap, cur, rfl, hbb, hr, hle, hrest⟩⟩ := h
  · obtain rfl : xs = [] := by simpa using hxl
    obtain ⟨v', w', hrun, r1, r2, _⟩ := run_append_own (P := Try.prog) w w.heap.size t ty e i z size bytes ht hi hz hsize hby hzs hsz (.slice none 0 0) 0 [] (World.ownsRow_nil w _ e size) ad m c news hl hnews h1 h63 hb (Nat.le_refl _)
    refine ⟨v', w', hrun, own_base r1 (Nat.zero_le _), r2, .inr ?_⟩
    obtain ⟨_, ⟨_, hzz⟩ | ⟨g, cap, cur, rfl, hb2, _⟩⟩ := r1
    · omega
    · exact ⟨g, rfl, hb2⟩
  · by_cases hroom : n + m ≤ cap
    · obtain ⟨w', hrun, r1, r2⟩ := run_append_own_spare (P := Try.prog) w 0 t ty e i size ht hi hsize g n cap xs h0 ad m c news hl hnews h1 hroom
      exact ⟨_, w', hrun, r1, r2, .inl rfl⟩
    · obtain ⟨v', w', hrun, r1, r2⟩ := run_append_arg_grows (P := Try.prog) w t ty e i z size bytes ht hi hz hsize hby hzs hsz ⟨g, 0, none⟩ n cap xs (by omega) (fun j u hu => h0.cells rfl j u hu) ad m c news hl hnews (by omega) h63 hb
      refine ⟨v', w', hrun, own_base r1 (Nat.zero_le _), ⟨r2.os, r2.tape, r2.output, r2.size, fun k hk _ => r2.block k hk (by simp)⟩, .inr ?_⟩
      obtain ⟨_, ⟨_, hzz⟩ | ⟨g', cap', cur', rfl, hb2, _⟩⟩ := r1
      · omega
      · exact ⟨g', rfl, hb2⟩
/-- a list of the call's own -/
structure Own (w w' : World) (p : Option Addr) (n cap : Nat) (xs : List S) : Prop where
  len : n = xs.length
  own : w'.ownsRow 0 86 3 (.slice p n cap) n (flat xs)
  new : ∀ b, (Value.slice p n cap).ownBlock = some b → w.heap.size ≤ b
  ap : Apart [] w w'
theorem Own.L {w w' : World} {p : Option Addr} {n cap : Nat} {xs : List S} (h : Own w w' p n cap xs) (hl : n ≤ 9223372036854775807) (hf : ∀ x ∈ xs, x.t < 2 ^ 64) : L w' p n xs := ⟨Sp.own h.own h.len, h.len.symm, hl, hf⟩
end Go.Proofs.Ytddffdcjhleejaa.ds
namespace Go.Proofs.Ytddffdcjhleejaa.ds
open Go.ChangeShapes Go.WideShapes Go.ChangeAt Go.RowKit
set_option linter.unusedVariables false
def Small (x : S) : Prop := 0 ≤ x.b ∧ x.b ≤ 4194304 ∧ x.t < 2 ^ 64
theorem OkL.small {g : Int} {xs : List S} (h : OkL g xs) (h0 : 0 ≤ g) (hg : g ≤ 64) (n : Int) : Small (ofn xs n) := by
  have k := h.okn h0 hg n
  have := k.mx
  unfold top at this
  exact ⟨k.wf.b0, by omega, k.wf.lt⟩
set_option maxHeartbeats 2000000 in
/-- a dot -/
def IsDot (n c : Int) : Prop := (0 ≤ n ∧ n < 8) ∧ 1 ≤ c ∧ c ≤ 1048576
theorem isDot_yes (n c : Int) (w : World) (h : IsDot n c) : Calls Try.prog 111 #[.agg #[.int .i64 n, .int .i64 c]] w fun r w' => r = .returned (.bool true) ∧ Apart [] w w' := by
  obtain ⟨⟨h0, h8⟩, h1, h2⟩ := h
  go_enter Try.func111, Try.ntmps111
  go_wp2_with (go_at_call 122; refine (node_yes n _ h0 h8).mono ?_; rintro r w1 ⟨rfl, rfl⟩)
  go_ret
  exact ⟨rfl, (Apart.refl _ _).alloc _⟩
theorem isDot_no (n c : Int) (w : World) (h : ¬ IsDot n c) : Calls Try.prog 111 #[.agg #[.int .i64 n, .int .i64 c]] w fun r w' => r = .returned (.bool false) ∧ Apart [] w w' := by
  by_cases hn : 0 ≤ n ∧ n < 8
  · by_cases h1 : 1 ≤ c
    · have h2 : ¬ c ≤ 1048576 := fun h2 => h ⟨hn, h1, h2⟩
      clear h
      go_enter Try.func111, Try.ntmps111
      go_wp2_with (go_at_call 122; refine (node_yes n _ hn.1 hn.2).mono ?_; rintro r w1 ⟨rfl, rfl⟩)
      go_ret
      exact ⟨by first | rfl | (simp; omega), (Apart.refl _ _).alloc _⟩
    · clear h
      go_enter Try.func111, Try.ntmps111
      go_wp2_with (go_at_call 122; refine (node_yes n _ hn.1 hn.2).mono ?_; rintro r w1 ⟨rfl, rfl⟩)
      go_ret
      exact ⟨rfl, (Apart.refl _ _).alloc _⟩
  · clear h
    go_enter Try.func111, Try.ntmps111
    go_wp2_with (go_at_call 122; refine (node_no n _ hn).mono ?_; rintro r w1 ⟨rfl, rfl⟩)
    go_ret
    exact ⟨rfl, (Apart.refl _ _).alloc _⟩
theorem new1d (w : World) (a b : Value) (t : TypeId) {W : World} (h : Apart [] (w.alloc (.cells #[a, b] t)) W) : W.cell? ⟨w.heap.size, 0, none⟩ = some a ∧ W.cell? ⟨w.heap.size, 1, none⟩ = some b := by
  have b1 := new1 w #[a, b] t
  have b2 := (h.block _ (lt_of_heap b1) (by simp)).trans b1
  exact ⟨by rw [cell_of_row _ _ _ _ _ _ b2]; rfl, by rw [cell_of_row _ _ _ _ _ _ b2]; rfl⟩
set_option maxHeartbeats 2000000 in
theorem has_no {p : Option Addr} {N cap : Nat} {w : World} (dn dc : Int) (hd : ¬ IsDot dn dc) : Calls Try.prog 92 #[.slice p N cap, .agg #[.int .i64 dn, .int .i64 dc]] w fun r w' => r = .returned (.bool false) ∧ Apart [] w w' := by
  go_enter Try.func92, Try.ntmps92
  go_wp2_with fail
  have k := fun W => @new1d w (.int .i64 dn) (.int .i64 dc) 25 W
  have aV0 : Apart [] w (w.alloc (.cells #[.int .i64 dn, .int .i64 dc] 25)) := (Apart.refl _ _).alloc _
  generalize w.alloc (.cells #[.int .i64 dn, .int .i64 dc] 25) = V at *
  have r0 : ∀ W, Apart [] V W → W.cell? ⟨w.heap.size, 0, none⟩ = some (.int .i64 dn) := fun W a => (k W a).1
  have r1 : ∀ W, Apart [] V W → W.cell? ⟨w.heap.size, 1, none⟩ = some (.int .i64 dc) := fun W a => (k W a).2
  have aV : Apart [] V V.drew := (Apart.refl _ _).drew
  clear k
  refine wp_region_held_drew (S := fun W => Apart [] V W) (by kernel_rfl) aV (fun hHeld => ?_)
  refine wpAnyH_take (i := 0) (oi := ⟨some 5, _, _, _, _, _⟩) (v := (.agg #[.int .i64 dn, .int .i64 dc])) rfl (by kernel_rfl) (by kernel_rfl) (by kernel_rfl) (fun _ _ _ h => h) (Or.inl ⟨by rfl, ?_⟩) (by assumption) ?_
  · intro W hSW; go_simp
  simp only [Act.put, List.setIfInBounds_toArray, List.set_cons_zero, List.set_cons_succ]
  refine wpAnyH_ready (rs := [1]) (by kernel_rfl) (by simp) ?_
  refine AllReadyH.cons rfl (fun KK hKK => ?_) AllReadyH.nil
  go_simp
  refine (isDot_no dn dc _ hd).mono ?_
  rintro r w2 ⟨rfl, a2⟩
  dsimp only
  have a3 := aV.trans a2
  refine hKK.out _ _ (by assumption) (fun hHeld => ?_)
  clear hKK KK
  refine wpAnyH_take (i := 2) (oi := ⟨some 7, _, _, _, _, _⟩) (v := (.bool false)) rfl (by kernel_rfl) (by kernel_rfl) (by kernel_rfl) (fun _ _ _ h => h) (Or.inl ⟨by rfl, ?_⟩) (by assumption) ?_
  · intro W hSW; go_simp
  simp only [Act.put, List.setIfInBounds_toArray, List.set_cons_zero, List.set_cons_succ]
  refine wpAnyH_take (i := 3) (oi := ⟨some 8, _, _, _, _, _⟩) (v := undef) rfl (by kernel_rfl) (by kernel_rfl) (by kernel_rfl) (fun _ _ _ h => h) (Or.inr ⟨by rfl, rfl⟩) (by assumption) ?_
  simp only [Act.put, List.setIfInBounds_toArray, List.set_cons_zero, List.set_cons_succ]
  refine wpAnyH_take (i := 4) (oi := ⟨some 9, _, _, _, _, _⟩) (v := undef) rfl (by kernel_rfl) (by kernel_rfl) (by kernel_rfl) (fun _ _ _ h => h) (Or.inr ⟨by rfl, rfl⟩) (by assumption) ?_
  simp only [Act.put, List.setIfInBounds_toArray, List.set_cons_zero, List.set_cons_succ]
  refine wpAnyH_take (i := 5) (oi := ⟨some 10, _, _, _, _, _⟩) (v := undef) rfl (by kernel_rfl) (by kernel_rfl) (by kernel_rfl) (fun _ _ _ h => h) (Or.inr ⟨by rfl, rfl⟩) (by assumption) ?_
  simp only [Act.put, List.setIfInBounds_toArray, List.set_cons_zero, List.set_cons_succ]
  refine wpAnyH_take (i := 6) (oi := ⟨some 11, _, _, _, _, _⟩) (v := undef) rfl (by kernel_rfl) (by kernel_rfl) (by kernel_rfl) (fun _ _ _ h => h) (Or.inr ⟨by rfl, rfl⟩) (by assumption) ?_
  simp only [Act.put, List.setIfInBounds_toArray, List.set_cons_zero, List.set_cons_succ]
  refine wpAnyH_take (i := 7) (oi := ⟨some 12, _, _, _, _, _⟩) (v := undef) rfl (by kernel_rfl) (by kernel_rfl) (by kernel_rfl) (fun _ _ _ h => h) (Or.inr ⟨by rfl, rfl⟩) (by assumption) ?_
  simp only [Act.put, List.setIfInBounds_toArray, List.set_cons_zero, List.set_cons_succ]
  refine wpAnyH_take (i := 8) (oi := ⟨some 13, _, _, _, _, _⟩) (v := undef) rfl (by kernel_rfl) (by kernel_rfl) (by kernel_rfl) (fun _ _ _ h => h) (Or.inr ⟨by rfl, rfl⟩) (by assumption) ?_
  simp only [Act.put, List.setIfInBounds_toArray, List.set_cons_zero, List.set_cons_succ]
  refine wpAnyH_take (i := 9) (oi := ⟨some 14, _, _, _, _, _⟩) (v := undef) rfl (by kernel_rfl) (by kernel_rfl) (by kernel_rfl) (fun _ _ _ h => h) (Or.inr ⟨by rfl, rfl⟩) (by assumption) ?_
  simp only [Act.put, List.setIfInBounds_toArray, List.set_cons_zero, List.set_cons_succ]
  refine wpAnyH_take (i := 10) (oi := ⟨some 15, _, _, _, _, _⟩) (v := undef) rfl (by kernel_rfl) (by kernel_rfl) (by kernel_rfl) (fun _ _ _ h => h) (Or.inr ⟨by rfl, rfl⟩) (by assumption) ?_
  simp only [Act.put, List.setIfInBounds_toArray, List.set_cons_zero, List.set_cons_succ]
  refine wpAnyH_take (i := 11) (oi := ⟨some 16, _, _, _, _, _⟩) (v := (.bool false)) rfl (by kernel_rfl) (by kernel_rfl) (by kernel_rfl) (fun _ _ _ h => h) (Or.inl ⟨by rfl, ?_⟩) (by assumption) ?_
  · intro W hSW; go_simp
  simp only [Act.put, List.setIfInBounds_toArray, List.set_cons_zero, List.set_cons_succ]
  refine wpAnyH_take (i := 12) (oi := ⟨some 4, _, _, _, _, _⟩) (v := (.bool false)) rfl (by kernel_rfl) (by kernel_rfl) (by kernel_rfl) (fun _ _ _ h => h) (Or.inl ⟨by rfl, ?_⟩) (by assumption) ?_
  · intro W hSW; go_simp
  simp only [Act.put, List.setIfInBounds_toArray, List.set_cons_zero, List.set_cons_succ]
  refine wpAnyH_done (by kernel_rfl) ?_ _
  go_wp2
  go_ret
  exact ⟨rfl, aV0.trans a3⟩
set_option maxHeartbeats 2000000 in
theorem has_yes {p : Option Addr} {N cap : Nat} {xs : List S} {w : World} (dn dc : Int) (h : L w p N xs) (hd : IsDot dn dc) : Calls Try.prog 92 #[.slice p N cap, .agg #[.int .i64 dn, .int .i64 dc]] w fun r w' => r = .returned (.bool (dot (ofn (norm xs) dn) dc)) ∧ Apart [] w w' := by
  have hsm := (norm_ok xs).small (by decide) (by decide) dn
  have hdc : dc ≤ 9223372036854775807 := by have := hd.2.2; omega
  go_enter Try.func92, Try.ntmps92
  go_wp2_with fail
  have k := fun W => @new1d w (.int .i64 dn) (.int .i64 dc) 25 W
  have aV0 : Apart [] w (w.alloc (.cells #[.int .i64 dn, .int .i64 dc] 25)) := (Apart.refl _ _).alloc _
  generalize w.alloc (.cells #[.int .i64 dn, .int .i64 dc] 25) = V at *
  have r0 : ∀ W, Apart [] V W → W.cell? ⟨w.heap.size, 0, none⟩ = some (.int .i64 dn) := fun W a => (k W a).1
  have r1 : ∀ W, Apart [] V W → W.cell? ⟨w.heap.size, 1, none⟩ = some (.int .i64 dc) := fun W a => (k W a).2
  have aV : Apart [] V V.drew := (Apart.refl _ _).drew
  clear k
  go_region_held (fun W => Apart [] V W) (assumption) (first
    | (go_at_call 111; refine (isDot_yes dn dc _ hd).mono ?_; rintro r w2 ⟨rfl, a2⟩; have a3 := aV.trans a2)
    | (go_at_call 114; refine (asSet_ok ((h.kept0 aV0).kept0 a3)).mono ?_; rintro r w4 ⟨⟨p', N', cap', rfl, l4, a4⟩⟩; have a5 := a3.trans a4)
    | (go_at_call 113; refine (spanOf_ok p' N' cap' (norm xs) dn _ l4.sp l4.len l4.lim).mono ?_; rintro r w6 ⟨rfl, a6⟩; have a7 := a5.trans a6; dsimp only [spv])
    | (go_at_call 112; refine (holds_ok (ofn (norm xs) dn) dc _ hsm.1 hsm.2.2 hdc).mono ?_; rintro r w8 ⟨rfl, a8⟩; have a9 := a7.trans a8))
  go_wp2
  go_ret
  exact ⟨rfl, aV0.trans a9⟩
end Go.Proofs.Ytddffdcjhleejaa.ds

namespace Go.Proofs.Ytddffdcjhleejaa.ds
open Go.ChangeShapes Go.WideShapes Go.ChangeAt Go.RowKit
set_option linter.unusedVariables false
set_option maxHeartbeats 1000000 in
theorem bit_ok (n b : Int) (t i : Nat) (w : World) (ht : t < 2 ^ 64) (hi : i < 64) : Calls Try.prog 88 #[.agg #[.int .i64 n, .int .i64 b, .int .u64 t], .int .i64 i] w fun r w' => r = .returned (.bool (t.testBit i)) ∧ Apart [] w w' := by
  have hsh := run_shr t (i : Int) (by omega) ht
  have h64 : (i : Int) < 64 := by omega
  go_enter Try.func88, Try.ntmps88
  go_wp2
  go_ret
  refine ⟨?_, (Apart.refl _ _).alloc _⟩
  show Ending.returned (Value.bool (((t : Int) / 2 ^ i).tmod 2 == 1)) = _
  have e : (t : Int) / 2 ^ i = ((t / 2 ^ i : Nat) : Int) := by simp
  rw [e, Nat.testBit_eq_decide_div_mod_eq]
  generalize t / 2 ^ i = y
  have e2 : (y : Int).tmod 2 = ((y % 2 : Nat) : Int) := rfl
  rw [e2]
  refine congrArg Ending.returned (congrArg Value.bool ?_)
  by_cases h : y % 2 = 1
  · rw [h]; rfl
  · rw [decide_eq_false h]; simp; omega
end Go.Proofs.Ytddffdcjhleejaa.ds

namespace Go.Proofs.Ytddffdcjhleejaa.ds
open Go.ChangeShapes Go.WideShapes Go.ChangeAt Go.RowKit
set_option linter.unusedVariables false
/-- bit i may be set -/
def Bok (gap b : Int) (t i : Nat) : Prop := t.testBit i = true → i ≠ 0 ∧ (i : Int) < gap ∧ b + 1 + i ≤ 1048576
theorem bits_iff {gap b : Int} {t : Nat} (ht : t < 2 ^ 64) (hg : 1 ≤ gap) (hb : b ≤ 1048576) : (∀ i, i < 64 → Bok gap b t i) ↔ (t % 2 = 0 ∧ (bl t : Int) ≤ gap ∧ b + bl t ≤ 1048576) := by
  constructor
  · intro h
    have h' : ∀ i, t.testBit i = true → i ≠ 0 ∧ (i : Int) < gap ∧ b + 1 + i ≤ 1048576 := by
      intro i hi
      by_cases h64 : i < 64
      · exact h i h64 hi
      · rw [Nat.testBit_lt_two_pow (Nat.lt_of_lt_of_le ht (Nat.pow_le_pow_right (by omega) (by omega)))] at hi; cases hi
    refine ⟨?_, ?_, ?_⟩
    · rw [ev_bit]
      cases h0 : t.testBit 0
      · rfl
      · exact absurd rfl (h' 0 h0).1
    · have := (bl_le' (t := t) (k := gap.toNat)).2 fun i hi => by
        cases h0 : t.testBit i
        · rfl
        · have := (h' i h0).2.1; omega
      omega
    · have := (bl_le' (t := t) (k := (1048576 - b).toNat)).2 fun i hi => by
        cases h0 : t.testBit i
        · rfl
        · have := (h' i h0).2.2; omega
      omega
  · rintro ⟨h1, h2, h3⟩ i hi hb1
    have hlt : i < bl t := by
      by_cases hc : i < bl t
      · exact hc
      · have := (bl_le' (t := t) (k := bl t)).1 (Nat.le_refl _) i (by omega)
        rw [this] at hb1; cases hb1
    refine ⟨?_, by omega, by omega⟩
    rintro rfl
    rw [ev_bit.1 h1] at hb1; cases hb1
/-- the last node so far -/
def lastn (xs : List S) (k : Nat) : Int := if k = 0 then -1 else (g xs (k - 1)).n
theorem lastn_ge {gap : Int} {xs : List S} {k : Nat} (h : Pre gap xs k) : -1 ≤ lastn xs k := by
  unfold lastn
  split
  · omega
  · have := (h (k - 1) (by omega)).1.n0; omega
set_option maxHeartbeats 40000000 in
set_option maxRecDepth 100000 in
theorem right_ok {p : Option Addr} {N cap : Nat} {xs : List S} {gap : Int} {w : World} (h : L w p N xs) (hg : 1 ≤ gap ∧ gap ≤ 64) : Calls Try.prog 50 #[.slice p N cap, .int .i64 gap] w fun r w' => Tells r (OkL gap xs) ∧ Apart [] w w' := by
  have hlim := h.lim
  have HO : Hid (OkL gap xs ↔ ∀ i, i < xs.length → Ok gap (g xs i) ∧ (0 < i → (g xs (i - 1)).n < (g xs i).n)) := okL_iff gap xs
  go_enter Try.func50, Try.ntmps50
  go_wp2_with fail
  go_loopw [5, 6] (fun l v wr => ∃ k : Nat, k ≤ N ∧ v = .int .i64 k ∧ l = .int .i64 (lastn xs k) ∧ Apart [] w wr ∧ Pre gap xs k) (fun _ v _ => N - (intOf v).toNat)
  case atStart => exact ⟨0, Nat.zero_le _, rfl, rfl, Apart.refl _ _, fun j hj => absurd hj (by omega)⟩
  case round =>
    obtain ⟨k, hk, rfl, rfl, aR, hno⟩ := hrel
    by_cases hlt : k < N
    · have HI : Hid (k < xs.length) := by show k < xs.length; rw [h.len]; omega
      obtain ⟨P, o, rfl, hP, hc⟩ := (h.kept0 aR).sp (by rw [h.len]; omega)
      obtain ⟨c0, c1, c2⟩ := hc k HI.out
      have hxt := h.fit _ (g_mem HI.out)
      obtain ⟨⟨xn, xb, xt⟩, HX⟩ : ∃ x, Hid (x = g xs k) := ⟨_, rfl⟩
      rw [← HX.out] at c0 c1 c2 hxt
      simp only at c0 c1 c2 hxt
      obtain ⟨ln, HL⟩ : ∃ l, Hid (l = lastn xs k) := ⟨_, rfl⟩
      have hln := lastn_ge hno
      rw [← HL.out] at hln ⊢
      clear hc
      have HQ : Hid (Ok gap ⟨xn, xb, xt⟩ ∧ ln < xn ↔ Ok gap (g xs k) ∧ (0 < k → (g xs (k - 1)).n < (g xs k).n)) := by
        show Ok gap ⟨xn, xb, xt⟩ ∧ ln < xn ↔ Ok gap (g xs k) ∧ (0 < k → (g xs (k - 1)).n < (g xs k).n)
        rw [← HX.out]
        rw [HL.out]
        unfold lastn
        by_cases hk0 : k = 0
        · subst hk0
          simp only [if_pos]
          exact ⟨fun h => ⟨h.1, fun h => absurd h (by omega)⟩, fun h => ⟨h.1, by have := h.1.n0; simp only at this; omega⟩⟩
        · rw [if_neg hk0]
          exact ⟨fun h => ⟨h.1, fun _ => h.2⟩, fun h => ⟨h.1, h.2 (by omega)⟩⟩
      have HB : Hid (¬ (Ok gap ⟨xn, xb, xt⟩ ∧ ln < xn) → ¬ OkL gap xs) := fun hn hk => hn (HQ.out.2 (HO.out.1 hk k HI.out))
      have aX : Apart [] wr (wr.alloc (.cells #[.int .i64 xn, .int .i64 xb, .int .u64 xt] 86)) := (Apart.refl _ _).alloc _
      have a1 := aR.trans aX
      by_cases e1 : xn ≤ ln
      · have E1 : Hid (xn ≤ ln) := e1
        go_wp2
        go_ret
        exact ⟨.no (HB.out fun h => by have := h.2; have := E1.out; omega), a1⟩
      · have e1' : ln < xn := by omega
        by_cases e2 : 8 ≤ xn
        · have E2 : Hid (8 ≤ xn) := e2
          go_wp2
          go_ret
          exact ⟨.no (HB.out fun h => by have := h.1.n8; simp only at this; have := E2.out; omega), a1⟩
        · by_cases e3 : xb < 0
          · have E3 : Hid (xb < 0) := e3
            go_wp2
            go_ret
            exact ⟨.no (HB.out fun h => by have := h.1.b0; simp only at this; have := E3.out; omega), a1⟩
          · by_cases e4 : 1048576 < xb
            · have E4 : Hid (1048576 < xb) := e4
              go_wp2
              go_ret
              exact ⟨.no (HB.out fun h => by have := h.1.bM; simp only at this; have := E4.out; omega), a1⟩
            · by_cases e5 : xb = 0 ∧ xt = 0
              · obtain ⟨rfl, rfl⟩ := e5
                go_wp2
                go_ret
                exact ⟨.no (HB.out fun h => h.1.ne ⟨rfl, rfl⟩), a1⟩
              · have HR : Hid (Ok gap ⟨xn, xb, xt⟩ ↔ ∀ i, i < 64 → Bok gap xb xt i) := by
                  show Ok gap ⟨xn, xb, xt⟩ ↔ ∀ i, i < 64 → Bok gap xb xt i
                  rw [bits_iff hxt hg.1 (by omega)]
                  exact ⟨fun h => ⟨h.ev, h.gp, h.mx⟩, fun h => ⟨by show 0 ≤ xn; omega, by show xn < 8; omega, by show 0 ≤ xb; omega, by show xb ≤ 1048576; omega, e5, h.1, h.2.1, h.2.2⟩⟩
                have E5 : Hid (¬ (xb = 0 ∧ xt = 0)) := e5
                have H1 : Hid (ln < xn) := e1'
                have bX := new1 wr #[.int .i64 xn, .int .i64 xb, .int .u64 xt] 86
                have hb0 : 0 ≤ xb := by omega
                have hb1 : xb ≤ 1048576 := by omega
                obtain ⟨z6, H6⟩ : ∃ z : Bool, Hid (z = (xb == 0)) := ⟨_, rfl⟩
                have e7 : z6 = true → ((xt : Int) == 0) = false := fun hz => by
                  have hxb : xb = 0 := by rw [H6.out] at hz; simpa using hz
                  have := E5.out; simp; omega
                have e6 : (xb == 0) = z6 := H6.out.symm
                cases z6
                all_goals
                  first
                  | (have e8 := e7 rfl; clear e7)
                  | clear e7
                  go_wp2_with fail
                  generalize wr.alloc (.cells #[.int .i64 xn, .int .i64 xb, .int .u64 xt] 86) = V at *
                  have rX : ∀ W, Apart [] V W → W.heap[wr.heap.size]? = some (.cells #[.int .i64 xn, .int .i64 xb, .int .u64 xt] 86 (0, 0)) := fun W a => (a.block _ (lt_of_heap bX) (by simp)).trans bX
                  go_loopw [8] (fun v wq => ∃ i : Nat, i ≤ 64 ∧ v = .int .i64 i ∧ Apart [] V wq ∧ (∀ j, j < i → Bok gap xb xt j)) (fun v _ => 64 - (intOf v).toNat)
                  case atStart => exact ⟨0, Nat.zero_le _, rfl, Apart.refl _ _, fun j hj => absurd hj (by omega)⟩
                  case round =>
                    obtain ⟨i, hi, rfl, aQ, hbk⟩ := hrel
                    by_cases hi64 : i < 64
                    · obtain ⟨⟨q0, q1, q2⟩, _⟩ := rowc (rX _ aQ)
                      have HT : Hid (Bok gap xb xt i ↔ (xt.testBit i = true → i ≠ 0 ∧ (i : Int) < gap ∧ xb + 1 + i ≤ 1048576)) := Iff.rfl
                      have h64 : (i : Int) < 64 := by omega
                      have hw1 : IntKind.i64.wrap (xb + 1) = xb + 1 := by rw [IntKind.wrap_i64]; omega
                      have hw2 : IntKind.i64.wrap (xb + 1 + (i : Int)) = xb + 1 + (i : Int) := by rw [IntKind.wrap_i64]; omega
                      have hbc := fun w => bit_ok xn xb xt i w hxt hi64
                      have next : Bok gap xb xt i → ∀ j, j < i + 1 → Bok gap xb xt j := fun hB j hj => by
                        by_cases hji : j = i
                        · subst hji; exact hB
                        · exact hbk j (by omega)
                      have bad : ¬ Bok gap xb xt i → ¬ OkL gap xs := fun hB => HB.out fun hh => hB (HR.out.1 hh.1 i hi64)
                      have Next : Hid (Bok gap xb xt i → ∀ j, j < i + 1 → Bok gap xb xt j) := next
                      have Bad : Hid (¬ Bok gap xb xt i → ¬ OkL gap xs) := bad
                      clear next bad
                      cases hbit : xt.testBit i
                      · have HF : Hid (xt.testBit i = false) := hbit
                        simp only [hbit] at hbc
                        clear hbit
                        go_wp2_with (go_at_call 88; refine (hbc _).mono ?_; rintro r w5 ⟨rfl, a5⟩)
                        go_roundw
                        case rel => exact ⟨i + 1, by omega, rfl, aQ.trans a5, Next.out (HT.out.2 fun ht => by rw [HF.out] at ht; cases ht)⟩
                        case measure => simp [intOf]; omega
                      · have HF : Hid (xt.testBit i = true) := hbit
                        simp only [hbit] at hbc
                        clear hbit
                        by_cases f1 : i = 0
                        · subst f1
                          go_wp2_with (go_at_call 88; refine (hbc _).mono ?_; rintro r w5 ⟨rfl, a5⟩)
                          go_ret
                          exact ⟨.no (Bad.out fun hB => (HT.out.1 hB HF.out).1 rfl), a1.trans (aQ.trans a5)⟩
                        · have F1 : Hid (i ≠ 0) := f1
                          have f1' : ((i : Int) == 0) = false := by simp; exact f1
                          by_cases f2 : (i : Int) < gap
                          · have F2 : Hid ((i : Int) < gap) := f2
                            have f2' : ¬ gap ≤ (i : Int) := by omega
                            by_cases f3 : xb + 1 + (i : Int) ≤ 1048576
                            · have F3 : Hid (xb + 1 + (i : Int) ≤ 1048576) := f3
                              go_wp2_with (go_at_call 88; refine (hbc _).mono ?_; rintro r w5 ⟨rfl, a5⟩; obtain ⟨⟨q5, q6, q7⟩, _⟩ := rowc (rX _ (aQ.trans a5)))
                              go_roundw
                              case rel => exact ⟨i + 1, by omega, rfl, aQ.trans a5, Next.out (HT.out.2 fun ht => ⟨F1.out, F2.out, F3.out⟩)⟩
                              case measure => simp [intOf]; omega
                            · have F3 : Hid (¬ xb + 1 + (i : Int) ≤ 1048576) := f3
                              go_wp2_with (go_at_call 88; refine (hbc _).mono ?_; rintro r w5 ⟨rfl, a5⟩; obtain ⟨⟨q5, q6, q7⟩, _⟩ := rowc (rX _ (aQ.trans a5)))
                              go_ret
                              refine ⟨.no (Bad.out fun hB => ?_), a1.trans (aQ.trans a5)⟩
                              have := (HT.out.1 hB HF.out).2.2
                              have := F3.out
                              omega
                          · have F2 : Hid (¬ (i : Int) < gap) := f2
                            have f2' : gap ≤ (i : Int) := by omega
                            go_wp2_with (go_at_call 88; refine (hbc _).mono ?_; rintro r w5 ⟨rfl, a5⟩)
                            go_ret
                            refine ⟨.no (Bad.out fun hB => ?_), a1.trans (aQ.trans a5)⟩
                            have := (HT.out.1 hB HF.out).2.1
                            have := F2.out
                            omega
                    · go_wp2
                      go_roundw
                      case rel =>
                        have hok := HQ.out.1 ⟨HR.out.2 fun i hi => hbk i (by omega), H1.out⟩
                        refine ⟨k + 1, by omega, rfl, ?_, a1.trans aQ, fun j hj => ?_⟩
                        · unfold lastn
                          rw [if_neg (by omega), Nat.add_sub_cancel, ← HX.out]
                        · by_cases hji : j = k
                          · subst hji; exact hok
                          · exact hno j (by omega)
                      case measure => simp [intOf]; omega
    · go_wp2
      go_ret
      refine ⟨.yes (HO.out.2 fun j hj => ?_), aR⟩
      exact hno j (by have := h.len; omega)
end Go.Proofs.Ytddffdcjhleejaa.ds

