import Derived.Test.YtagjmpdimphfaaaOwn
import Derived.Lib.Walk
import Derived.Lib.SliceRun
import Derived.Lib.AppendZerosOnto
namespace Go.Proofs.Ytagjmpdimphfaaa.rg
open Go.ChangeShapes Go.WideShapes Go.ChangeAt Go.RowKit Go.Sort
set_option linter.unusedVariables false
set_option linter.unusedSimpArgs false
theorem zc (n : Nat) : (Builtin.zeroCells (Value.agg #[.int .u32 0, .int .i64 0]).cells n).size = n * 2 := by
  unfold Builtin.zeroCells
  rw [Array.size_map, Array.size_range]; rfl
structure GrowPost (w w' : World) (r : Ending) (n : Nat) : Prop where
  ex : ∃ G, r = .returned (.slice (some ⟨w.heap.size, 0, none⟩) 0 G) ∧ n ≤ G ∧ OwnP w w' (some ⟨w.heap.size, 0, none⟩) 0 G []
set_option maxHeartbeats 2000000 in
set_option maxRecDepth 100000 in
theorem grow_ok (n : Nat) (h1 : 1 ≤ n) (h2 : n ≤ 1000) (w : World) : Calls Try.prog 48 #[.slice none 0 0, .int .i64 n] w fun r w' => GrowPost w w' r n := by
  obtain ⟨i0, hi, hz0, hz1, hz2⟩ := info_parts info80
  have hold : (Builtin.firstCells i0.size 0 (.slice none 0 0)).run Try.prog w.drew = .ok ([] : List Value).toArray w.drew := run_firstCells_none w.drew i0.size 0 0 0
  have hrz : ∀ ty, (Builtin.append_ #[59, 3] ty #[.slice none 0 0, .int .i64 (n : Int)]).run Try.prog w =
      .ok (.slice (some ⟨w.heap.size, 0, none⟩) (0 + n) (grownCap w (0 + n) 0 80)) (w.drew.alloc (.cells (([] : List Value).toArray ++ Builtin.zeroCells (Value.agg #[.int .u32 0, .int .i64 0]).cells n ++ Builtin.zeroCells (Value.agg #[.int .u32 0, .int .i64 0]).cells (grownCap w (0 + n) 0 80 - (0 + n))) 80)) := fun ty =>
    Lib.run_append_grow_zeros w 59 3 ty 80 i0 (.agg #[.int .u32 0, .int .i64 0]) .i64 .i64 Try.underlying59 Try.underlying3 hi hz0 none 0 0 [] hold n (by omega) (by omega) (by omega) (by omega)
      (by rw [hz2]; omega)
      (by rw [hz2]; exact growslice_fits (by omega) (by omega))
  have hGn : 0 + n ≤ grownCap w (0 + n) 0 80 := grownCap_ge w _ _ _
  have hGm : grownCap w (0 + n) 0 80 ≤ maxLen := grownCap_le_maxLen w _ _ _ (by unfold maxLen; omega)
  obtain ⟨G, hG⟩ : ∃ G, G = grownCap w (0 + n) 0 80 := ⟨_, rfl⟩
  rw [← hG] at hrz hGn hGm
  have hG63 : G ≤ 9223372036854775807 := by unfold maxLen at hGm; omega
  obtain ⟨C, HC⟩ : ∃ C, Hid (C = ([] : List Value).toArray ++ Builtin.zeroCells (Value.agg #[.int .u32 0, .int .i64 0]).cells n ++ Builtin.zeroCells (Value.agg #[.int .u32 0, .int .i64 0]).cells (G - (0 + n))) := ⟨_, rfl⟩
  have HS : Hid (C.size = G * 2) := by
    show C.size = G * 2
    rw [HC.out, Array.size_append, Array.size_append, zc, zc]
    show 0 + n * 2 + (G - (0 + n)) * 2 = G * 2
    omega
  rw [← HC.out] at hrz
  rw [Nat.zero_add] at hrz
  clear hold hG HC
  go_enter Try.func48, Try.ntmps48
  go_wp2_with (at_builtin; refine Lib.wpList_append_run _ rfl _ _ _ _ rfl _ _ rfl rfl _ _ (hrz _) ?_)
  go_ret
  refine ⟨⟨G, rfl, by omega, ⟨rfl, .inr ⟨w.heap.size, G, C, rfl, Nat.zero_le _, ?_, Nat.zero_le _, hGm, HS.out, by simp [flP]⟩⟩, fun b hb => ?_, ((Apart.refl _ _).drew).alloc _⟩⟩
  · show (w.drew.heap.push _)[w.drew.heap.size]? = _
    exact Array.getElem?_push_size
  · simp [Value.ownBlock] at hb; omega
/-- points appended where there is room -/
theorem ownp_room {w W : World} {P n cap : Nat} {ps : List Pt} (h : OwnP w W (some ⟨P, 0, none⟩) n cap ps) (ad : Addr) (m c : Nat) (qs : List Pt) (hm : qs.length = m) (hroom : n + m ≤ cap) (hq : ∀ j u, (flP qs)[j]? = some u → W.cell? (ad.add j) = some u) (ty : TypeId) :
    ∃ w', (Builtin.append_ #[59, 59] ty #[.slice (some ⟨P, 0, none⟩) n cap, .slice (some ad) m c]).run Try.prog W = .ok (.slice (some ⟨P, 0, none⟩) (n + m) cap) w' ∧ OwnP w w' (some ⟨P, 0, none⟩) (n + m) cap (ps ++ qs) ∧ Apart [P] W w' := by
  obtain ⟨i0, hi, hz0, hz1, hz2⟩ := info_parts info80
  obtain ⟨w', hrun, r1, r2⟩ := run_append_own_spare (P := Try.prog) W 0 59 ty 80 i0 2 Try.underlying59 hi hz1 P n cap (flP ps) h.own ad m c (flP qs) (by rw [flP_length, hm]) hq (fun u hu => flP_one hu) hroom
  have ap := apart_grown r2
  refine ⟨w', hrun, ⟨by rw [← flP_append]; exact r1, h.new, h.ap.trans' ap (fun y hy => .inr (h.new y (by simp at hy; subst hy; rfl)))⟩, ap⟩
theorem add_block (a : Addr) (j : Nat) : (a.add j).block = a.block := by
  unfold Addr.add
  first | rfl | (split <;> rfl)
structure CatPost (w w' : World) (r : Ending) (n : Nat) (ps : List Pt) : Prop where
  ex : ∃ P G, r = .returned (.slice (some ⟨P, 0, none⟩) n G) ∧ OwnP w w' (some ⟨P, 0, none⟩) n G ps
set_option maxHeartbeats 2000000 in
set_option maxRecDepth 100000 in
theorem concat_ok (B cc : Nat) (aa ab : Addr) (m0 m1 c0 c1 : Nat) (xs ys : List Pt) (w : World) (hx : Hid (xs.length = m0)) (hy : Hid (ys.length = m1)) (h1 : 1 ≤ m0 + m1) (h2 : m0 + m1 ≤ 1000) (hB : B < w.heap.size) (hA : aa.block < w.heap.size) (hA2 : ab.block < w.heap.size)
    (b0 : w.cell? ⟨B, 0, none⟩ = some (.slice (some aa) m0 c0)) (b1 : w.cell? ⟨B, 1, none⟩ = some (.slice (some ab) m1 c1)) (ha : Hid (∀ j u, (flP xs)[j]? = some u → w.cell? (aa.add j) = some u)) (hb : Hid (∀ j u, (flP ys)[j]? = some u → w.cell? (ab.add j) = some u)) :
    Calls Try.prog 40 #[.slice (some ⟨B, 0, none⟩) 2 cc] w fun r w' => CatPost w w' r (m0 + m1) (xs ++ ys) := by
  go_enter Try.func40, Try.ntmps40
  go_wp2_with fail
  refine wp_loop_rounds 3 ?_
  rw [rounds_succ]
  go_wp2_with fail
  rw [rounds_succ]
  go_wp2_with fail
  rw [rounds_succ]
  go_wp2_with fail
  have hg := grow_ok (m0 + m1) h1 h2 w
  simp only [Int.natCast_add] at hg
  have hAj : ∀ j, (aa.add j).block < w.heap.size := fun j => by rw [add_block]; exact hA
  have hAk : ∀ j, (ab.add j).block < w.heap.size := fun j => by rw [add_block]; exact hA2
  refine hg.mono ?_
  clear hg
  rintro r w1 ⟨⟨G, rfl, hG, O⟩⟩
  dsimp only
  replace b0 := (O.ap.cell (p := ⟨B, 0, none⟩) hB (by simp)).trans b0
  replace b1 := (O.ap.cell (p := ⟨B, 1, none⟩) hB (by simp)).trans b1
  obtain ⟨w2, hrun1, O1, a1⟩ := ownp_room O aa m0 c0 xs hx.out (by omega) (fun j u hu => (O.ap.cell (p := aa.add j) (hAj j) (by simp)).trans (ha.out j u hu)) 59
  have hne : ∀ k, k < w.heap.size → k ∉ [w.heap.size] := fun k hk hm => by simp at hm; omega
  have b1' := (a1.cell (p := ⟨B, 1, none⟩) (Nat.lt_of_lt_of_le hB O.ap.size) (hne B hB)).trans b1
  obtain ⟨w3, hrun2, O2, a2⟩ := ownp_room O1 ab m1 c1 ys hy.out (by omega) (fun j u hu => (a1.cell (p := ab.add j) (Nat.lt_of_lt_of_le (hAk j) O.ap.size) (hne _ (hAk j))).trans ((O.ap.cell (p := ab.add j) (hAk j) (by simp)).trans (hb.out j u hu))) 59
  rw [Nat.zero_add] at hrun1 hrun2 O1 O2
  clear O O1 a1 a2 hne hAj hAk
  obtain ⟨g, Hg⟩ : ∃ g, Hid (g = w.heap.size) := ⟨_, rfl⟩
  rw [← Hg.out] at hrun1 hrun2 O2 ⊢
  go_wp2_with fail
  refine wp_loop_rounds 3 ?_
  rw [rounds_succ]
  go_wp2_with (at_builtin; refine wpList_append3 rfl _ _ 59 rfl _ _ rfl rfl _ _ hrun1 ?_)
  rw [rounds_succ]
  go_wp2_with (at_builtin; refine wpList_append3 rfl _ _ 59 rfl _ _ rfl rfl _ _ hrun2 ?_)
  rw [rounds_succ]
  go_wp2_with fail
  go_ret
  exact ⟨⟨g, G, rfl, O2⟩⟩
end Go.Proofs.Ytagjmpdimphfaaa.rg
