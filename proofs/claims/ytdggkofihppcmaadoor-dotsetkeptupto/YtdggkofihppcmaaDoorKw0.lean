import Derived.Test.YtdggkofihppcmaaDoorR5
import Derived.Test.YtdggkofihppcmaaDoorOne
import Derived.Test.YtdggkofihppcmaaDoorEx2
namespace Go.Proofs.YtdggkofihppcmaaDoor.ds
open Go.ChangeShapes Go.WideShapes Go.ChangeAt Go.RowKit
set_option linter.unusedVariables false
set_option linter.unusedSimpArgs false
theorem hid {p : Prop} (h : p) : Hid p := h
/-- an append says where: in its own room, or in new memory -/
theorem run_append4 (w : World) (t ty e : TypeId) (i : TypeInfo) (z : Value) (size bytes : Nat) (ht : Tryd.prog.underlying t = some (.slice e)) (hi : Tryd.prog.info? e = some i) (hz : i.zero = some z) (hsize : i.size = size) (hby : i.bytes = bytes) (hzs : z.cells.size = size) (hsz : 0 < size)
    (v : Value) (n : Nat) (xs : List Value) (h : w.ownsRow 0 e size v n xs) (ad : Addr) (m c : Nat) (news : List Value) (hm : 0 < m) (hl : news.length = m * size) (hnews : ∀ j u, news[j]? = some u → w.cell? (ad.add j) = some u) (h1 : ∀ u ∈ news, u.oneCell' = true) (h63 : n + m ≤ maxLen) (hb : (n + m) * bytes ≤ 140737488355328) :
    ∃ v' w', (Builtin.append_ #[t, t] ty #[v, .slice (some ad) m c]).run Tryd.prog w = .ok v' w' ∧ w'.ownsRow 0 e size v' (n + m) (xs ++ news) ∧ ((∃ g cap, v = .slice (some ⟨g, 0, none⟩) n cap ∧ v' = .slice (some ⟨g, 0, none⟩) (n + m) cap ∧ Apart [g] w w') ∨ (∃ g cap, v' = .slice (some ⟨g, 0, none⟩) (n + m) cap ∧ w.heap.size ≤ g ∧ Apart [] w w')) := by
  have h0 := h
  obtain ⟨hxl, ⟨rfl, rfl⟩ | ⟨g, cap, cur, rfl, hbb, hr, hle, hrest⟩⟩ := h
  · obtain rfl : xs = [] := by simpa using hxl
    obtain ⟨v', w', hrun, r1, r2, _⟩ := run_append_own (P := Tryd.prog) w w.heap.size t ty e i z size bytes ht hi hz hsize hby hzs hsz (.slice none 0 0) 0 [] (World.ownsRow_nil w _ e size) ad m c news hl hnews h1 h63 hb (Nat.le_refl _)
    refine ⟨v', w', hrun, own_base r1 (Nat.zero_le _), .inr ?_⟩
    obtain ⟨_, ⟨_, hzz⟩ | ⟨g, cap, cur, rfl, hb2, _⟩⟩ := r1
    · omega
    · exact ⟨g, cap, rfl, hb2, apart_grown r2⟩
  · by_cases hroom : n + m ≤ cap
    · obtain ⟨w', hrun, r1, r2⟩ := run_append_own_spare (P := Tryd.prog) w 0 t ty e i size ht hi hsize g n cap xs h0 ad m c news hl hnews h1 hroom
      exact ⟨_, w', hrun, r1, .inl ⟨g, cap, rfl, rfl, apart_grown r2⟩⟩
    · obtain ⟨v', w', hrun, r1, r2⟩ := run_append_arg_grows (P := Tryd.prog) w t ty e i z size bytes ht hi hz hsize hby hzs hsz ⟨g, 0, none⟩ n cap xs (by omega) (fun j u hu => h0.cells rfl j u hu) ad m c news hl hnews (by omega) h63 hb
      refine ⟨v', w', hrun, own_base r1 (Nat.zero_le _), .inr ?_⟩
      obtain ⟨_, ⟨_, hzz⟩ | ⟨g', cap', cur', rfl, hb2, _⟩⟩ := r1
      · omega
      · exact ⟨g', cap', rfl, hb2, apart_grown r2⟩
theorem own_shape {w : World} {e : TypeId} {size n : Nat} {v : Value} {xs : List Value} (h : w.ownsRow 0 e size v n xs) : ∃ p c, v = .slice p n c := by
  obtain ⟨_, ⟨rfl, rfl⟩ | ⟨g, cap, cur, rfl, _⟩⟩ := h
  · exact ⟨_, _, rfl⟩
  · exact ⟨_, _, rfl⟩
theorem own_lt {w : World} {e : TypeId} {size n : Nat} {v : Value} {xs : List Value} (h : w.ownsRow 0 e size v n xs) (k : Nat) (hk : v.ownBlock = some k) : k < w.heap.size := by
  obtain ⟨_, ⟨rfl, rfl⟩ | ⟨g, cap, cur, rfl, _, hr, _⟩⟩ := h
  · simp [Value.ownBlock] at hk
  · simp [Value.ownBlock] at hk; subst hk; exact lt_of_heap hr
theorem flat_append (xs ys : List S) : flat (xs ++ ys) = flat xs ++ flat ys := by simp [flat]
theorem own_prefix {w : World} {g m cap : Nat} {xs ys : List S} (h : w.ownsRow 0 52 3 (.slice (some ⟨g, 0, none⟩) m cap) m (flat (xs ++ ys))) (hm : xs.length ≤ m) : w.ownsRow 0 52 3 (.slice (some ⟨g, 0, none⟩) xs.length cap) xs.length (flat xs) := by
  obtain ⟨hl, ⟨h0, _⟩ | ⟨g', cap', cur, hv, hb, hr, hle, hcm, hcs, htk⟩⟩ := h
  · simp at h0
  · simp at hv
    obtain ⟨rfl, rfl⟩ := hv
    refine ⟨flat_length xs, .inr ⟨_, _, cur, rfl, hb, hr, by omega, hcm, hcs, ?_⟩⟩
    have h2 : (cur.toList.take (m * 3)).take (xs.length * 3) = (flat (xs ++ ys)).take (xs.length * 3) := by rw [htk]
    rw [List.take_take, Nat.min_eq_left (by omega), flat_append, ← flat_length xs, List.take_left] at h2
    rw [← flat_length xs]
    exact h2
/-- a span written into a list -/
theorem flat_set : ∀ (xs : List S) (j : Nat) (m : S), j < xs.length → flat (xs.set j m) = (((flat xs).set (j * 3) (.int .i64 m.n)).set (j * 3 + 1) (.int .i64 m.b)).set (j * 3 + 2) (.int .u64 (m.t : Int))
  | x :: xs, 0, m, _ => by simp [flat, ec]
  | x :: xs, j + 1, m, h => by
    have ih := flat_set xs j m (by simpa using h)
    have e1 : (j + 1) * 3 = j * 3 + 1 + 1 + 1 := by omega
    simp only [flat, ec] at ih
    rw [e1]
    simp [flat, ec, ih]
theorem own_set3 {w : World} {g n cap : Nat} {xs : List S} (h : w.ownsRow 0 52 3 (.slice (some ⟨g, 0, none⟩) n cap) n (flat xs)) (hn : n = xs.length) (j : Nat) (hj : j < n) (m : S) : (((w.setCell ⟨g, j * 3, none⟩ (.int .i64 m.n)).setCell ⟨g, j * 3 + 1, none⟩ (.int .i64 m.b)).setCell ⟨g, j * 3 + 2, none⟩ (.int .u64 (m.t : Int))).ownsRow 0 52 3 (.slice (some ⟨g, 0, none⟩) n cap) n (flat (xs.set j m)) := by
  obtain ⟨hl, ⟨h0, _⟩ | ⟨g', cap', cur, hv, hb, hr, hle, hcm, hcs, htk⟩⟩ := h
  · simp at h0
  · simp at hv
    obtain ⟨rfl, rfl⟩ := hv
    have h1 := heap_setCell_same w g (j * 3) _ 52 (.int .i64 m.n) hr
    have h2 := heap_setCell_same _ g (j * 3 + 1) _ 52 (.int .i64 m.b) h1
    have h3 := heap_setCell_same _ g (j * 3 + 2) _ 52 (.int .u64 (m.t : Int)) h2
    refine ⟨by rw [flat_length]; simp; omega, .inr ⟨_, _, _, rfl, hb, h3, hle, hcm, by simpa using hcs, ?_⟩⟩
    rw [flat_set xs j m (by omega), ← htk]
    simp [List.take_set]
theorem own_cells3 {w : World} {g n cap : Nat} {xs : List S} (h : w.ownsRow 0 52 3 (.slice (some ⟨g, 0, none⟩) n cap) n (flat xs)) (hn : n = xs.length) : ∃ cur, w.heap[g]? = some (.cells cur 52 (0, 0)) ∧ n * 3 ≤ cur.size := by
  obtain ⟨hl, ⟨h0, _⟩ | ⟨g', cap', cur, hv, hb, hr, hle, hcm, hcs, htk⟩⟩ := h
  · simp at h0
  · simp at hv
    obtain ⟨rfl, rfl⟩ := hv
    exact ⟨cur, hr, by omega⟩
def mrk (k : Nat) : S := ⟨7000 + k, -(k : Int), 5⟩
set_option maxRecDepth 100000 in
theorem mark_ok (w : World) (k : Nat) (hk : k ≤ 100000) : Calls Tryd.prog 31 #[.int .i64 k] w fun r w' => r = .returned (.agg #[.int .i64 (mrk k).n, .int .i64 (mrk k).b, .int .u64 ((mrk k).t : Int)]) ∧ Apart [] w w' := by
  go_enter Tryd.func31, Tryd.ntmps31
  go_wp2
  refine bodyPost_ret (results_cell_row rfl _ _ w.heap.size 52 _ _ _ rfl (new1 w _ _) Tryd.underlying52 rfl size52) rfl ?_
  exact ⟨rfl, (Apart.refl _ _).alloc _⟩
structure GI (w wr : World) (v u : Value) (xs : List S) (i : Nat) : Prop where
  ap : Apart v.ownBlock.toList w wr
  own : wr.ownsRow 0 52 3 v xs.length (flat xs)
  ex : ∃ ys : List S, ys.length = i ∧ wr.ownsRow 0 52 3 u (xs.length + i) (flat (xs ++ ys))
  rel : (∃ g cap, v = .slice (some ⟨g, 0, none⟩) xs.length cap ∧ u = .slice (some ⟨g, 0, none⟩) (xs.length + i) cap) ∨ (∀ k, u.ownBlock = some k → w.heap.size ≤ k)
theorem GI.start {w : World} {v : Value} {xs : List S} (own : w.ownsRow 0 52 3 v xs.length (flat xs)) : GI w w v v xs 0 := by
  refine ⟨Apart.refl _ _, own, ⟨[], rfl, by simpa using own⟩, ?_⟩
  obtain ⟨_, ⟨rfl, _⟩ | ⟨g, cap, cur, rfl, _⟩⟩ := own
  · right; simp [Value.ownBlock]
  · exact .inl ⟨g, cap, rfl, rfl⟩
theorem GI.step {w wr : World} {v u : Value} {xs : List S} {i : Nat} (own0 : w.ownsRow 0 52 3 v xs.length (flat xs)) (h : GI w wr v u xs i) (hl : xs.length ≤ 100) (hi : i < 80) (x : S) :
    ∃ u' w', (Builtin.append_ #[22, 22] 22 #[u, .slice (some ⟨wr.heap.size, 0, none⟩) 1 1]).run Tryd.prog (wr.alloc (.cells #[.int .i64 x.n, .int .i64 x.b, .int .u64 (x.t : Int)] 52)) = .ok u' w' ∧ GI w w' v u' xs (i + 1) := by
  obtain ⟨i0, hi0, hz0, hz1, hz2⟩ := info_parts info52
  obtain ⟨ys, hy, hu⟩ := h.ex
  have aW : Apart [] wr (wr.alloc (.cells #[.int .i64 x.n, .int .i64 x.b, .int .u64 (x.t : Int)] 52)) := (Apart.refl _ _).alloc _
  obtain ⟨u', w', hrun, r1, r2⟩ := run_append4 (wr.alloc (.cells #[.int .i64 x.n, .int .i64 x.b, .int .u64 (x.t : Int)] 52)) 22 22 52 i0 (.agg #[.int .i64 0, .int .i64 0, .int .u64 0]) 3 24 Tryd.underlying22 hi0 hz0 hz1 hz2 rfl (by decide) u (xs.length + i) (flat (xs ++ ys)) (own_apart hu aW (by simp)) ⟨wr.heap.size, 0, none⟩ 1 1 [.int .i64 x.n, .int .i64 x.b, .int .u64 (x.t : Int)] (by decide) rfl
    (by
      intro j u hj
      match j, hj with
      | 0, hj => simp at hj; subst hj; simp [Addr.add]
      | 1, hj => simp at hj; subst hj; simp [Addr.add]
      | 2, hj => simp at hj; subst hj; simp [Addr.add])
    (by intro u hu; simp at hu; rcases hu with rfl | rfl | rfl <;> rfl) (by unfold maxLen; omega) (by omega)
  rw [flat_snoc, List.append_assoc] at r1
  have ov := own_apart h.own aW (by simp)
  have aw := h.ap.trans (aW.mono (by simp))
  refine ⟨u', w', hrun, ?_⟩
  rcases r2 with ⟨g, cap, e1, e2, a2⟩ | ⟨g, cap, e2, hg, a2⟩
  · rcases h.rel with ⟨g', cap', e3, e4⟩ | hn
    · rw [e4] at e1
      simp at e1
      obtain ⟨rfl, rfl⟩ := e1
      refine ⟨aw.trans (by rw [e3]; exact a2), ?_, ⟨ys ++ [x], by simp [hy], r1⟩, .inl ⟨_, _, e3, e2⟩⟩
      rw [e3]
      rw [e2] at r1
      exact own_prefix r1 (by omega)
    · have hgw : w.heap.size ≤ g := hn g (by rw [e1]; rfl)
      refine ⟨aw.trans' a2 (fun y hy => by simp at hy; subst hy; exact .inr hgw), own_apart ov a2 (fun k hk m => ?_), ⟨ys ++ [x], by simp [hy], r1⟩, .inr (fun k hk => ?_)⟩
      · simp at m; subst m; have := own_lt own0 k hk; omega
      · rw [e2] at hk; simp [Value.ownBlock] at hk; subst hk; exact hgw
  · refine ⟨aw.trans (a2.mono (by simp)), own_apart ov a2 (by simp), ⟨ys ++ [x], by simp [hy], r1⟩, .inr (fun k hk => ?_)⟩
    rw [e2] at hk; simp [Value.ownBlock] at hk; subst hk
    have := h.ap.size
    have := aW.size
    omega
set_option maxHeartbeats 2000000 in
set_option maxRecDepth 100000 in
theorem grown_ok {w : World} {v : Value} {xs : List S} (own : w.ownsRow 0 52 3 v xs.length (flat xs)) (hl : xs.length ≤ 100) : Calls Tryd.prog 32 #[v] w fun r w' => ∃ p c, r = .returned (.slice p (xs.length + 80) c) ∧ Apart v.ownBlock.toList w w' ∧ w'.ownsRow 0 52 3 v xs.length (flat xs) := by
  have HO := hid own
  have HS := hid (GI.start own)
  clear own
  go_enter Tryd.func32, Tryd.ntmps32
  go_wp2_with fail
  go_loopw [0, 3] (fun u vi wr => ∃ i : Nat, i ≤ 80 ∧ vi = .int .i64 i ∧ GI w wr v u xs i) (fun _ vi _ => 80 - (intOf vi).toNat)
  case atStart => exact ⟨0, by omega, rfl, HS.out⟩
  case round =>
    clear HS
    obtain ⟨i, hi, rfl, hG⟩ := hrel
    by_cases hlt : i < 80
    · obtain ⟨u', w', hrun, hG'⟩ := hG.step HO.out hl hlt ⟨-9, i, 0⟩
      have HG := hid hG'
      clear hG hG'
      simp only at hrun
      go_wp2_with (at_builtin; refine wpList_append3 rfl (.tmp 8) (.tmp 11) 22 rfl _ _ rfl rfl _ _ hrun ?_)
      go_roundw
      case rel => exact ⟨i + 1, by omega, by go_num, HG.out⟩
      case measure => simp [intOf]; omega
    · obtain rfl : i = 80 := by omega
      obtain ⟨ys, hy, hu⟩ := hG.ex
      obtain ⟨p, c, rfl⟩ := own_shape hu
      have HG := hid hG
      clear hG hu
      go_wp2
      go_ret
      exact ⟨p, c, rfl, HG.out.ap, HG.out.own⟩
set_option maxHeartbeats 2000000 in
set_option maxRecDepth 100000 in
theorem full_ok {w : World} {p : Option Addr} {n cap : Nat} {m : S} (h : L w p n (List.replicate n m)) (hm : m.t < 2 ^ 64) : Calls Tryd.prog 34 #[.slice p n cap, .agg #[.int .i64 m.n, .int .i64 m.b, .int .u64 (m.t : Int)]] w fun r w' => r = .returned (.bool true) ∧ Apart [] w w' := by
  have aV : Apart [] w (w.alloc (.cells #[.int .i64 m.n, .int .i64 m.b, .int .u64 (m.t : Int)] 52)) := (Apart.refl _ _).alloc _
  have bV := new1 w #[.int .i64 m.n, .int .i64 m.b, .int .u64 (m.t : Int)] 52
  have HL := hid h
  have hl := h.lim
  have HA := hid aV
  have HB := hid bV
  clear h aV bV
  go_enter Tryd.func34, Tryd.ntmps34
  go_wp2_with fail
  go_loopw [5] (fun vi wr => ∃ i : Nat, i ≤ n ∧ vi = .int .i64 i ∧ Apart [] (w.alloc (.cells #[.int .i64 m.n, .int .i64 m.b, .int .u64 (m.t : Int)] 52)) wr) (fun vi _ => n - (intOf vi).toNat)
  case atStart => exact ⟨0, Nat.zero_le _, rfl, Apart.refl _ _⟩
  case round =>
    obtain ⟨i, hi, rfl, aR⟩ := hrel
    have HR := hid aR
    clear aR
    by_cases hlt : i < n
    · obtain ⟨P, o, rfl, hP, hc⟩ := (HL.out.kept0 (HA.out.trans HR.out)).sp (by simp; omega)
      obtain ⟨c0, c1, c2⟩ := hc i (by simp; exact hlt)
      rw [show g (List.replicate n m) i = m from by simp [g, List.getD_eq_getElem?_getD, hlt]] at c0 c1 c2
      have b2 := (HR.out.block _ (lt_of_heap HB.out) (by simp)).trans HB.out
      have m0 : wr.cell? ⟨w.heap.size, 0, none⟩ = some (.int .i64 m.n) := by rw [cell_of_row _ _ _ _ _ _ b2]; rfl
      have m1 : wr.cell? ⟨w.heap.size, 1, none⟩ = some (.int .i64 m.b) := by rw [cell_of_row _ _ _ _ _ _ b2]; rfl
      have m2 : wr.cell? ⟨w.heap.size, 2, none⟩ = some (.int .u64 (m.t : Int)) := by rw [cell_of_row _ _ _ _ _ _ b2]; rfl
      clear hc b2
      go_wp2_with fail
      go_quiet (fail)
      go_wp2
      go_roundw
      case rel => exact ⟨i + 1, by omega, by go_num, HR.out.drewN _⟩
      case measure => simp [intOf]; omega
    · obtain rfl : i = n := by omega
      go_wp2
      go_ret
      exact ⟨rfl, HA.out.trans HR.out⟩
end Go.Proofs.YtdggkofihppcmaaDoor.ds
