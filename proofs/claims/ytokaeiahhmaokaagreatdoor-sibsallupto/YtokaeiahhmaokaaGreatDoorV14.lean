import Derived.Test.YtokaeiahhmaokaaGreatDoorV13
import Derived.Lib.Overlaps
import Derived.Lib.AppendZerosOnto
import Derived.Laws.NewBlocks
import Derived.Laws.Externs
import Derived.Laws.IdiomCopy
import Derived.Test.YtokaeiahhmaokaaGreatDoorV6
import Derived.Test.YtokaeiahhmaokaaGreatDoorV12
import Derived.RangeFuncNested
import Derived.RangeFuncBound
import Derived.RangeFuncCalls
import Derived.RangeFuncLeaves
import Derived.Shelf.Abstract
import Derived.Shelf.RegionOpen
import Derived.WalkKit
import Derived.OwnWalkIn
import Derived.TacticsInMore
import Derived.LoopNIn
import Derived.LoopIn
namespace Go.Proofs.YtokaeiahhmaokaaGreatDoor.ds
open Go.ChangeShapes Go.WideShapes Go.ChangeAt Go.RowKit Go.Sort
set_option linter.unusedVariables false
set_option linter.unusedSimpArgs false
theorem run_appE2 {w W : World} {s : Sl} {es : List E} (h : OwnE w W s es) (hn : s.n ≤ 2000000) (u : E) (B : Nat) (hB : Cap W B u) (ty : TypeId) :
    ∃ s' W', (Builtin.append_ #[35, 35] ty #[s.v, .slice (some ⟨B, 0, none⟩) 1 1]).run Tryz.prog W = .ok (Sl.v s') W' ∧ OwnE w W' s' (es ++ [u]) := by
  obtain ⟨i0, hi, hz0, hz1, hz2⟩ := info_parts infoW
  have hcs : ∀ j v, (E.cs u)[j]? = some v → W.cell? ((⟨B, 0, none⟩ : Addr).add j) = some v := by
    intro j v hj
    rw [Addr.add_lit, Nat.zero_add, cell_of_row _ _ _ _ _ _ hB]
    simpa [E.cs] using hj
  obtain ⟨s', W', hrun, r1, r2, _⟩ := run_appS 35 ty 28 i0 _ 6 88 Tryz.underlying35 hi hz0 hz1 hz2 rfl (by decide) h.nw ⟨B, 0, none⟩ 1 1 (E.cs u) (by simp) (by simp [E.cs]) hcs (fun v hv => oneE [u] v (by simpa [flatE] using hv)) (by unfold maxLen; omega) (by omega)
  exact ⟨s', W', hrun, ⟨by rw [← flatE_snoc]; exact r1, by rw [List.length_append, h.len, r2]; rfl⟩⟩
theorem OwnE.cap {w W : World} {s : Sl} {l : List E} (h : OwnE w W s l) : s.n ≤ s.c ∧ s.c ≤ 9223372036854775807 ∧ (s.p = none → s.n = 0 ∧ s.c = 0) := by
  obtain ⟨_, ⟨hv, hz⟩ | ⟨g, cap, cur, hv, _, _, hle, hmx, _⟩⟩ := h.nw.own
  · unfold Sl.v at hv; simp at hv; exact ⟨by omega, by omega, fun _ => ⟨hz, hv.2.2⟩⟩
  · unfold Sl.v at hv
    simp at hv
    refine ⟨by omega, by unfold maxLen at hmx; omega, fun e => ?_⟩
    rw [hv.1] at e; cases e
set_option maxHeartbeats 4000000 in
set_option maxRecDepth 100000 in
theorem ins_end (w W : World) (s : Sl) (l : List E) (u : E) (B : Nat) (h : OwnE w W s l) (hn : s.n ≤ 1500000) (hB : Cap W B u) : Calls Tryz.prog 85 #[s.v, .int .i64 (s.n : Int), .slice (some ⟨B, 0, none⟩) 1 1] W fun r W' => ∃ s', r = .returned (Sl.v s') ∧ OwnE w W' s' (l ++ [u]) := by
  obtain ⟨s', W', hrun, own⟩ := run_appE2 h (by omega) u B hB 35
  have hc := h.cap
  have HO := hid own
  clear own hB
  obtain ⟨p, n, c⟩ := s
  unfold Sl.v at hrun ⊢
  simp only at hc hn
  obtain ⟨hc1, hc2, hc3⟩ := hc
  cases p with
  | none =>
    obtain ⟨rfl, rfl⟩ := hc3 rfl
    clear h hc3
    go_enter Tryz.func85, Tryz.ntmps85
    go_wp2_with (at_builtin; refine wpList_append3 rfl (.tmp 23) (.tmp 24) 35 rfl _ _ rfl rfl _ _ hrun ?_)
    go_wp2
    go_ret
    exact ⟨s', rfl, HO.out⟩
  | some a =>
    clear h hc3
    go_enter Tryz.func85, Tryz.ntmps85
    go_wp2_with (at_builtin; refine wpList_append3 rfl (.tmp 23) (.tmp 24) 35 rfl _ _ rfl rfl _ _ hrun ?_)
    all_goals (go_wp2; go_ret; exact ⟨s', rfl, HO.out⟩)
end Go.Proofs.YtokaeiahhmaokaaGreatDoor.ds
namespace Go.Proofs.YtokaeiahhmaokaaGreatDoor.ds
open Go.ChangeShapes Go.WideShapes Go.ChangeAt Go.RowKit Go.Sort
set_option linter.unusedVariables false
set_option linter.unusedSimpArgs false
theorem infoV : (Tryz.prog.info? 25).map (fun i => (i.zero, i.size, i.bytes)) = some (some (.slice none 0 0), 1, 24) := by kernel_rfl
theorem infoX : (Tryz.prog.info? 26).map (fun i => (i.zero, i.size, i.bytes)) = some (some (.slice none 0 0), 1, 24) := by kernel_rfl
def gS (l : List Sl) (k : Nat) : Sl := l.getD k ⟨none, 0, 0⟩
theorem gS_left (l m : List Sl) (j : Nat) (hj : j < l.length) : gS (l ++ m) j = gS l j := by unfold gS; rw [List.getD_eq_getElem?_getD, List.getD_eq_getElem?_getD, List.getElem?_append_left hj]
theorem gS_at (l : List Sl) (s : Sl) : gS (l ++ [s]) l.length = s := by unfold gS; simp [List.getD_eq_getElem?_getD]
theorem gE_left (l m : List E) (j : Nat) (hj : j < l.length) : gE (l ++ m) j = gE l j := by unfold gE; rw [List.getD_eq_getElem?_getD, List.getD_eq_getElem?_getD, List.getElem?_append_left hj]
theorem gE_at (l : List E) (s : E) : gE (l ++ [s]) l.length = s := by unfold gE; simp [List.getD_eq_getElem?_getD]
theorem Rd.pre {w : World} {p : Option Addr} {us vs : List Value} (h : Rd w p (us ++ vs)) : Rd w p us := by
  intro h0
  obtain ⟨P, o, e, hP, hc⟩ := h (by simp; omega)
  refine ⟨P, o, e, hP, fun j u hj => hc j u ?_⟩
  have hjl : j < us.length := by
    by_cases hc : j < us.length
    · exact hc
    · rw [List.getElem?_eq_none (by omega)] at hj; cases hj
  rw [List.getElem?_append_left hjl]; exact hj
theorem Sp.of_rd {w : World} {p : Option Addr} {xs : List S} (h : Rd w p (flat xs)) : Sp w p xs := by
  intro h0
  obtain ⟨P, o, e, hP, hc⟩ := h (by rw [flat_length]; omega)
  refine ⟨P, o, e, hP, fun i hi => ?_⟩
  obtain ⟨a, b, c⟩ := flat_get xs i hi
  simp only [Nat.add_assoc]
  exact ⟨hc _ _ a, hc _ _ b, hc _ _ c⟩
def marksV : List Value := byts [7, 8]
def marksX : List Value := flat [⟨77, 0, 0⟩, ⟨78, 0, 0⟩]
/-- a write that is lent: marks stand behind the ends of its value and its context -/
structure One (w : World) (e : E) (v x : Sl) (r : Wr) : Prop where
  n : e.n = r.n
  c : e.c = r.c
  k : e.k = r.k
  d : e.d = r.d
  vb : ∀ b ∈ r.vs, b < 256
  vl : r.vs.length ≤ 2000000
  xl : r.xs.length ≤ 2000000
  xf : ∀ y ∈ r.xs, y.t < 2 ^ 64
  vo : w.ownsRow 0 5 1 v.v v.n (byts r.vs ++ marksV)
  vn : v.n = r.vs.length + 2
  vp : ∃ k, v.p = some ⟨k, 0, none⟩
  ev : e.v = ⟨v.p, r.vs.length, v.c⟩
  xo : w.ownsRow 0 47 3 x.v x.n (flat r.xs ++ marksX)
  xn : x.n = r.xs.length + 2
  xp : ∃ k, x.p = some ⟨k, 0, none⟩
  ex : e.x = ⟨x.p, r.xs.length, x.c⟩
theorem One.reads {w : World} {e : E} {v x : Sl} {r : Wr} (h : One w e v x r) : Reads w e r := by
  obtain ⟨kv, hkv⟩ := h.vp
  obtain ⟨kx, hkx⟩ := h.xp
  refine ⟨h.n, h.c, h.k, h.d, ?_, ?_, ?_, h.vb, ⟨?_, ?_, ?_, h.xf⟩, ?_, ?_, ?_⟩
  · rw [h.ev]; exact (Rd.own h.vo).pre
  · rw [h.ev]
  · rw [h.ev]; exact h.vl
  · rw [h.ex]; exact Sp.of_rd (Rd.own h.xo).pre
  · rw [h.ex]
  · rw [h.ex]; have := h.xl; show r.xs.length ≤ _; omega
  · rw [h.ex]; exact h.xl
  · rw [h.ev]; intro e; simp [hkv] at e
  · rw [h.ex]; intro e; simp [hkx] at e
theorem One.kept {w w' : World} {e : E} {v x : Sl} {r : Wr} {X : List Nat} (h : One w e v x r) (a : Apart X w w') (hv : ∀ k, v.v.ownBlock = some k → k ∉ X) (hx : ∀ k, x.v.ownBlock = some k → k ∉ X) : One w' e v x r :=
  { h with vo := own_apart h.vo a hv, xo := own_apart h.xo a hx }
theorem One.kept0 {w w' : World} {e : E} {v x : Sl} {r : Wr} (h : One w e v x r) (a : Apart [] w w') : One w' e v x r := h.kept a (by simp) (by simp)
/-- .. where only blocks of other kinds were written -/
theorem One.keptT {w w' : World} {e : E} {v x : Sl} {r : Wr} {X : List Nat} (h : One w e v x r) (a : Apart X w w') (hX : ∀ k ∈ X, ∀ cur, w.heap[k]? ≠ some (.cells cur 5 (0, 0)) ∧ w.heap[k]? ≠ some (.cells cur 47 (0, 0))) : One w' e v x r :=
  h.kept a (fun k hk hm => by obtain ⟨cur, e1⟩ := own_typ h.vo hk; exact (hX k hm cur).1 e1) (fun k hk hm => by obtain ⟨cur, e1⟩ := own_typ h.xo hk; exact (hX k hm cur).2 e1)
theorem oneS (l : List Sl) : ∀ u ∈ l.map Sl.v, u.oneCell' = true := by
  intro u hu
  simp only [List.mem_map] at hu
  obtain ⟨s, _, rfl⟩ := hu
  rfl
/-- the value and the context with their marks -/
theorem lent_parts (w : World) (e : E) (r : Wr) (h : Reads w e r) : ∃ s1 w1 s2 w2 s3 w3 s4 w4,
    (Builtin.append_ #[25, 25] 25 #[.slice none 0 0, e.v.v]).run Tryz.prog w = .ok (Sl.v s1) w1 ∧
    (Builtin.append_ #[25, 25] 25 #[s1.v, .slice (some ⟨w1.heap.size, 0, none⟩) 2 2]).run Tryz.prog (w1.alloc (.cells #[.int .u8 7, .int .u8 8] 5)) = .ok (Sl.v s2) w2 ∧
    (Builtin.append_ #[26, 26] 26 #[.slice none 0 0, e.x.v]).run Tryz.prog w2 = .ok (Sl.v s3) w3 ∧
    (Builtin.append_ #[26, 26] 26 #[s3.v, .slice (some ⟨w3.heap.size, 0, none⟩) 2 2]).run Tryz.prog (w3.alloc (.cells #[.int .i64 77, .int .i64 0, .int .u64 0, .int .i64 78, .int .i64 0, .int .u64 0] 47)) = .ok (Sl.v s4) w4 ∧
    Apart [] w w1 ∧ Apart [] w w2 ∧ Apart [] w w3 ∧ Apart [] w w4 ∧ Nw w w4 5 1 s2 (byts r.vs ++ marksV) ∧ Nw w w4 47 3 s4 (flat r.xs ++ marksX) ∧ s2.n = e.v.n + 2 ∧ s4.n = e.x.n + 2 ∧ (∃ k, s2.p = some ⟨k, 0, none⟩) ∧ (∃ k, s4.p = some ⟨k, 0, none⟩) ∧ s2.n ≤ s2.c ∧ s4.n ≤ s4.c := by
  obtain ⟨s1, w1, hr1, n1, hs1⟩ := appB w e.v r.vs 25 h.v h.vn h.vl h.vo
  obtain ⟨i0, hi, hz0, hz1, hz2⟩ := info_parts infoB
  have hvl := h.vl
  have hxl := h.xl
  obtain ⟨s2, w2, hr2, n2, hs2, ap2, k2, hk2, hc2, _⟩ := run_appM 25 25 5 i0 _ 1 1 Tryz.underlying25 hi hz0 hz1 hz2 rfl (by decide) n1 2 marksV (by decide) rfl (oneB _) (by unfold maxLen; omega) (by omega)
  obtain ⟨s3, w3, hr3, n3, hs3⟩ := appS w2 e.x r.xs 26 (h.x.kept0 n2.ap) h.xl h.xo
  obtain ⟨i1, hi', hz0', hz1', hz2'⟩ := info_parts info52
  obtain ⟨s4, w4, hr4, n4, hs4, ap4, k4, hk4, hc4, _⟩ := run_appM 26 26 47 i1 _ 3 24 Tryz.underlying26 hi' hz0' hz1' hz2' rfl (by decide) n3 2 marksX (by decide) rfl (oneFlat _) (by unfold maxLen; omega) (by omega)
  refine ⟨s1, w1, s2, w2, s3, w3, s4, w4, hr1, hr2, hr3, hr4, n1.ap, n2.ap, n2.ap.trans n3.ap, n2.ap.trans n4.ap, n2.kept n4.ap, ⟨n4.own, fun k hk => Nat.le_trans n2.ap.size (n4.new k hk), n2.ap.trans n4.ap⟩, by omega, by omega, ⟨k2, hk2⟩, ⟨k4, hk4⟩, hc2, hc4⟩
end Go.Proofs.YtokaeiahhmaokaaGreatDoor.ds
namespace Go.Proofs.YtokaeiahhmaokaaGreatDoor.ds
open Go.ChangeShapes Go.WideShapes Go.ChangeAt Go.RowKit Go.Sort
set_option linter.unusedVariables false
set_option linter.unusedSimpArgs false
open Classical in
/-- a list more, where it is a set for the gap -/
noncomputable def knowG (gap : Int) (a xs : List S) : List S := if (1 ≤ gap ∧ gap ≤ 64) ∧ OkL gap a ∧ OkL gap xs then uni a xs else a
/-- several lists of spans, as they read -/
structure LX (w : World) (p : Option Addr) (N : Nat) (ss : List Sl) (xss : List (List S)) : Prop where
  rd : Rd w p (ss.map Sl.v)
  len : ss.length = N
  lx : xss.length = N
  l : ∀ j, j < N → L w (gS ss j).p (gS ss j).n (xss.getD j [])
theorem LX.kept0 {w w' : World} {p : Option Addr} {N : Nat} {ss : List Sl} {xss : List (List S)} (h : LX w p N ss xss) (a : Apart [] w w') : LX w' p N ss xss := ⟨h.rd.kept0 a, h.len, h.lx, fun j hj => (h.l j hj).kept0 a⟩
noncomputable def unis (gap : Int) (xss : List (List S)) : List S := xss.foldl (knowG gap) []
theorem unis_snoc (gap : Int) (xss : List (List S)) (i : Nat) (hi : i < xss.length) : unis gap (xss.take (i + 1)) = knowG gap (unis gap (xss.take i)) (xss.getD i []) := by
  unfold unis
  rw [List.take_add_one, List.foldl_append]
  simp [List.getD_eq_getElem?_getD, hi]
end Go.Proofs.YtokaeiahhmaokaaGreatDoor.ds
namespace Go.Proofs.YtokaeiahhmaokaaGreatDoor.ds
open Go.ChangeShapes Go.WideShapes Go.ChangeAt Go.RowKit Go.Sort
set_option linter.unusedVariables false
set_option linter.unusedSimpArgs false
/-- the same in all -/
def sameP (r q : Wr) : Prop := ((r.n = q.n ∧ r.c = q.c) ∧ keq r.k q.k = true ∧ r.d = q.d) ∧ r.vs = q.vs ∧ r.xs = q.xs
theorem head_iff {w : World} {a b : E} {r q : Wr} (ha : Reads w a r) (hb : Reads w b q) : headP a b ↔ (r.n = q.n ∧ r.c = q.c) ∧ keq r.k q.k = true ∧ r.d = q.d := by
  unfold headP; rw [ha.n, ha.c, ha.k, ha.d, hb.n, hb.c, hb.k, hb.d]
theorem psame_ok (a b : E) (r q : Wr) (w : World) (ha : Reads w a r) (hb : Reads w b q) (v : Bool) (hv : v = true ↔ sameP r q) : Calls Tryz.prog 26 #[a.agg, b.agg] w fun z w' => z = .returned (.bool v) ∧ Apart [] w w' := by
  classical
  have h := psame_walk a b w (decide (headP a b)) (decide (r.vs = q.vs)) (decide (r.xs = q.xs)) (by simp) (fun W x => beq_ok a.v b.v r.vs q.vs W (ha.v.kept0 x) (hb.v.kept0 x) ha.vn hb.vn ha.vo hb.vo ha.vb hb.vb) (fun W x => seq_ok a.x b.x r.xs q.xs W (ha.x.kept0 x) (hb.x.kept0 x) ha.xl hb.xl _ (by simp))
  have e : (decide (headP a b) && (decide (r.vs = q.vs) && decide (r.xs = q.xs))) = v := by
    rw [Bool.eq_iff_iff, hv]
    unfold sameP
    rw [← head_iff ha hb]
    simp
  rw [e] at h
  exact h
theorem rsame_ok (a b : E) (r q : Wr) (w : World) (ha : Reads w a r) (hb : Reads w b q) (v : Bool) (hv : v = true ↔ sameP r q) : Calls Tryz.prog 27 #[a.agg, b.agg] w fun z w' => z = .returned (.bool v) ∧ Apart [] w w' := by
  classical
  exact rsame_walk a b r.vs q.vs r.xs q.xs w (decide (headP a b)) v (by simp) (by rw [hv]; unfold sameP; rw [← head_iff ha hb]; simp) ha.v hb.v ha.vn hb.vn ha.vl hb.vl ha.x hb.x ha.xl hb.xl
/-- what P503 asks of a write alone -/
def rightP (r : Wr) (gap : Int) : Prop := ((1 ≤ (r.k.size : Int) ∧ (r.k.size : Int) ≤ 16) ∧ (r.vs.length : Int) ≤ 64 ∧ ¬ (r.d = true ∧ 0 < (r.vs.length : Int))) ∧ isd r.n r.c = true ∧ chk r.xs gap = 0 ∧ hasd r.xs r.n r.c = false
theorem short_iff {w : World} {a : E} {r : Wr} (ha : Reads w a r) : shortE a ↔ (1 ≤ (r.k.size : Int) ∧ (r.k.size : Int) ≤ 16) ∧ (r.vs.length : Int) ≤ 64 ∧ ¬ (r.d = true ∧ 0 < (r.vs.length : Int)) := by
  unfold shortE; rw [ha.k, ha.d, ← ha.vn]
theorem isWrite_ok (a : E) (r : Wr) (gap : Int) (w : World) (ha : Reads w a r) (v : Bool) (hv : v = true ↔ rightP r gap) : Calls Tryz.prog 44 #[a.agg, .int .i64 gap] w fun z w' => z = .returned (.bool v) ∧ Apart [] w w' := by
  by_cases hs : shortE a
  · have h := isW_walk a gap w (isd r.n r.c) (hasd r.xs r.n r.c) (chk r.xs gap) hs (fun W => by rw [ha.n, ha.c]; exact pdot_ok r.n r.c W) (fun W x => check_as (ha.x.kept0 x) _ rfl) (fun W x => by rw [ha.n, ha.c]; exact has_any r.n r.c (ha.x.kept0 x) _ rfl)
    have e : (isd r.n r.c && (decide (chk r.xs gap = 0) && !hasd r.xs r.n r.c)) = v := by
      rw [Bool.eq_iff_iff, hv]
      unfold rightP
      have := (short_iff ha).1 hs
      simp only [Bool.and_eq_true, decide_eq_true_eq, Bool.not_eq_true']
      exact ⟨fun h => ⟨this, h.1, h.2.1, h.2.2⟩, fun h => ⟨h.2.1, h.2.2.1, h.2.2.2⟩⟩
    rw [e] at h
    exact h
  · have e : v = false := by
      cases hvv : v with
      | false => rfl
      | true => exact absurd ((short_iff ha).2 (hv.1 hvv).1) hs
    rw [e]
    exact isW_short a gap w hs
theorem rright_ok (a : E) (r : Wr) (gap : Int) (w : World) (ha : Reads w a r) (v : Bool) (hv : v = true ↔ rightP r gap) : Calls Tryz.prog 46 #[a.agg, .int .i64 gap] w fun z w' => z = .returned (.bool v) ∧ Apart [] w w' := by
  by_cases hs : shortE a
  · have h := right_walk a gap w (isd r.n r.c) (hasd r.xs r.n r.c) (chk r.xs gap) hs (fun W => by rw [ha.n, ha.c]; exact rdot_ok r.n r.c W) (fun W x => rcheck_as (ha.x.kept0 x) _ rfl) (fun W x => by rw [ha.n, ha.c]; exact rhas_ok r.n r.c (ha.x.kept0 x) _ rfl)
    have e : (isd r.n r.c && (decide (chk r.xs gap = 0) && !hasd r.xs r.n r.c)) = v := by
      rw [Bool.eq_iff_iff, hv]
      unfold rightP
      have := (short_iff ha).1 hs
      simp only [Bool.and_eq_true, decide_eq_true_eq, Bool.not_eq_true']
      exact ⟨fun h => ⟨this, h.1, h.2.1, h.2.2⟩, fun h => ⟨h.2.1, h.2.2.1, h.2.2.2⟩⟩
    rw [e] at h
    exact h
  · have e : v = false := by
      cases hvv : v with
      | false => rfl
      | true => exact absurd ((short_iff ha).2 (hv.1 hvv).1) hs
    rw [e]
    exact right_short a gap w hs
end Go.Proofs.YtokaeiahhmaokaaGreatDoor.ds
namespace Go.Proofs.YtokaeiahhmaokaaGreatDoor.ds
open Go.ChangeShapes Go.WideShapes Go.ChangeAt Go.RowKit Go.Sort
set_option linter.unusedVariables false
set_option linter.unusedSimpArgs false
/-- the contexts of some, one behind the other -/
noncomputable def kno (l : List Wr) (a : List S) : List S := l.foldl (fun a r => knows a r.xs) a
theorem kno_ok (l : List Wr) : ∀ (a : List S), OkL 64 a → OkL 64 (kno l a) := by
  induction l with
  | nil => intro a h; exact h
  | cons r l ih => intro a h; exact ih _ (knows_ok h)
theorem kno_has (l : List Wr) (n c : Int) : ∀ (a : List S), OkL 64 a → hasd (kno l a) n c = (hasd a n c || l.any (fun r => hasd r.xs n c)) := by
  induction l with
  | nil => intro a h; simp [kno]
  | cons r l ih =>
    intro a h
    have e : kno (r :: l) a = kno l (knows a r.xs) := rfl
    rw [e, ih _ (knows_ok h), hasd_knows h, List.any_cons, Bool.or_assoc]
/-- what is known ahead of the i-th, and from the i-th on -/
noncomputable def ahd (rs : List Wr) (i : Nat) : List S := kno (rs.take i) []
noncomputable def bhd (rs : List Wr) (i : Nat) : List S := kno (rs.drop i).reverse []
theorem ahd_ok (rs : List Wr) (i : Nat) : OkL 64 (ahd rs i) := kno_ok _ _ (OkL.nil 64)
theorem ahd_zero (rs : List Wr) : ahd rs 0 = [] := by simp [ahd, kno]
theorem bhd_end (rs : List Wr) (i : Nat) (h : rs.length ≤ i) : bhd rs i = [] := by simp [bhd, kno, List.drop_eq_nil_of_le h]
theorem ahd_succ (rs : List Wr) (i : Nat) (h : i < rs.length) : ahd rs (i + 1) = knows (ahd rs i) (gR rs i).xs := by
  unfold ahd kno
  rw [List.take_add_one, List.foldl_append, List.getElem?_eq_getElem h]
  simp [gR, List.getD_eq_getElem?_getD, h]
theorem bhd_pred (rs : List Wr) (i : Nat) (h : i < rs.length) : bhd rs i = knows (bhd rs (i + 1)) (gR rs i).xs := by
  unfold bhd kno
  rw [List.drop_eq_getElem_cons h, List.reverse_cons, List.foldl_append]
  simp [gR, List.getD_eq_getElem?_getD, h]
/-- the two unions that the program makes of what is known and a context -/
theorem unis_two {a : List S} (xs : List S) (ha : OkL 64 a) : unis 64 [a, xs] = knows a xs := by
  show knowG 64 (knowG 64 [] a) xs = knows a xs
  have e1 : knowG 64 [] a = a := by
    unfold knowG
    rw [if_pos ⟨by decide, OkL.nil 64, ha⟩, uni_comm (OkL.nil 64) ha (by omega) (by omega), uni_nil ha (by omega) (by omega)]
  rw [e1]
  unfold knowG knows
  by_cases hx : OkL 64 xs
  · rw [if_pos ⟨by decide, ha, hx⟩, if_pos hx]
  · rw [if_neg (fun h => hx h.2.2), if_neg hx]
noncomputable def cvd (rs : List Wr) (i : Nat) : Bool := hasd (ahd rs i) (gR rs i).n (gR rs i).c
noncomputable def uncd (rs : List Wr) (i : Nat) : Bool := !cvd rs i && !hasd (bhd rs (i + 1)) (gR rs i).n (gR rs i).c
/-- what is left of the last m, the last first -/
noncomputable def bU (es : List E) (rs : List Wr) (N : Nat) : Nat → List E
  | 0 => []
  | m + 1 => if uncd rs (N - 1 - m) then bU es rs N m ++ [gE es (N - 1 - m)] else bU es rs N m
theorem bU_len (es : List E) (rs : List Wr) (N : Nat) : ∀ m, (bU es rs N m).length ≤ m
  | 0 => by simp [bU]
  | m + 1 => by
    have := bU_len es rs N m
    unfold bU; split
    · rw [List.length_append, List.length_cons, List.length_nil]; omega
    · omega
theorem bU_full (es : List E) (rs : List Wr) (N : Nat) : ∀ m, (bU es rs N m).length = m ↔ ∀ k, k < m → uncd rs (N - 1 - k) = true
  | 0 => by simp [bU]
  | m + 1 => by
    have h1 := bU_len es rs N m
    have h2 := bU_full es rs N m
    unfold bU
    by_cases hu : uncd rs (N - 1 - m) = true
    · rw [if_pos hu, List.length_append, List.length_cons, List.length_nil]
      constructor
      · intro h k hk
        by_cases hkm : k = m
        · rw [hkm]; exact hu
        · exact h2.1 (by omega) k (by omega)
      · intro h
        rw [h2.2 (fun k hk => h k (by omega))]
    · rw [if_neg hu]
      constructor
      · intro h; omega
      · intro h; exact absurd (h m (by omega)) hu
theorem bU_all (es : List E) (rs : List Wr) (N : Nat) : (bU es rs N N).length = N ↔ ∀ i, i < N → uncd rs i = true := by
  rw [bU_full]
  constructor
  · intro h i hi
    have := h (N - 1 - i) (by omega)
    rwa [show N - 1 - (N - 1 - i) = i from by omega] at this
  · intro h k hk; exact h _ (by omega)
theorem anyW_take (rs : List Wr) (f : Wr → Bool) (i : Nat) (hi : i ≤ rs.length) : (rs.take i).any f = true ↔ ∃ j, j < i ∧ f (gR rs j) = true := by
  rw [List.any_eq_true]
  constructor
  · rintro ⟨r, hr, hf⟩
    obtain ⟨j, hj, rfl⟩ := List.mem_iff_getElem.1 hr
    rw [List.length_take] at hj
    refine ⟨j, by omega, ?_⟩
    rw [List.getElem_take] at hf
    simpa [gR, List.getD_eq_getElem?_getD, show j < rs.length from by omega] using hf
  · rintro ⟨j, hj, hf⟩
    have hl : j < rs.length := by omega
    refine ⟨rs[j], ?_, by simpa [gR, List.getD_eq_getElem?_getD, hl] using hf⟩
    rw [List.mem_iff_getElem]
    exact ⟨j, by rw [List.length_take]; omega, by rw [List.getElem_take]⟩
theorem anyW_drop (rs : List Wr) (f : Wr → Bool) (i : Nat) : (rs.drop i).reverse.any f = true ↔ ∃ j, i ≤ j ∧ j < rs.length ∧ f (gR rs j) = true := by
  rw [List.any_eq_true]
  constructor
  · rintro ⟨r, hr, hf⟩
    rw [List.mem_reverse] at hr
    obtain ⟨j, hj, rfl⟩ := List.mem_iff_getElem.1 hr
    rw [List.length_drop] at hj
    refine ⟨i + j, by omega, by omega, ?_⟩
    rw [List.getElem_drop] at hf
    simpa [gR, List.getD_eq_getElem?_getD, show i + j < rs.length from by omega] using hf
  · rintro ⟨j, hj, hl, hf⟩
    refine ⟨rs[j], ?_, by simpa [gR, List.getD_eq_getElem?_getD, hl] using hf⟩
    rw [List.mem_reverse, List.mem_iff_getElem]
    exact ⟨j - i, by rw [List.length_drop]; omega, by rw [List.getElem_drop]; congr 1; omega⟩
/-- nobody else has its dot -/
theorem uncd_iff (rs : List Wr) (i : Nat) (hi : i < rs.length) : uncd rs i = true ↔ ∀ j, j < rs.length → j ≠ i → hasd (gR rs j).xs (gR rs i).n (gR rs i).c = false := by
  unfold uncd cvd ahd bhd
  rw [kno_has _ _ _ _ (OkL.nil 64), kno_has _ _ _ _ (OkL.nil 64), hasd_nil, Bool.false_or, Bool.false_or, Bool.and_eq_true, Bool.not_eq_true', Bool.not_eq_true', ← Bool.not_eq_true, ← Bool.not_eq_true, anyW_take _ _ _ (by omega), anyW_drop]
  constructor
  · rintro ⟨h1, h2⟩ j hj hne
    cases hh : hasd (gR rs j).xs (gR rs i).n (gR rs i).c with
    | false => rfl
    | true =>
      by_cases hji : j < i
      · exact absurd ⟨j, hji, hh⟩ h1
      · exact absurd ⟨j, by omega, hj, hh⟩ h2
  · intro h
    constructor
    · rintro ⟨j, hj, hh⟩
      rw [h j (by omega) (by omega)] at hh; cases hh
    · rintro ⟨j, h1, h2, hh⟩
      rw [h j h2 (by omega)] at hh; cases hh
end Go.Proofs.YtokaeiahhmaokaaGreatDoor.ds
namespace Go.Proofs.YtokaeiahhmaokaaGreatDoor.ds
open Go.ChangeShapes Go.WideShapes Go.ChangeAt Go.RowKit Go.Shelf
set_option linter.unusedVariables false
set_option linter.unusedSimpArgs false
attribute [local go_sem] Oper.semAt_some
/-- the first m of the numbers below N, downward -/
def dn (N : Nat) : Nat → List (Fin N)
  | 0 => []
  | m + 1 => dn N m ++ (if h : N - 1 - m < N then [⟨N - 1 - m, h⟩] else [])
theorem dn_succ (N m : Nat) (h : N - 1 - m < N) : dn N (m + 1) = dn N m ++ [⟨N - 1 - m, h⟩] := by
  show dn N m ++ _ = _; rw [dif_pos h]
theorem dn_len (N : Nat) : ∀ m, (dn N m).length ≤ m
  | 0 => by simp [dn]
  | m + 1 => by
    have := dn_len N m
    unfold dn
    rw [List.length_append]
    split
    · simp; omega
    · simp; omega
theorem dn_pre (N m : Nat) : ∀ k, dn N m <+: dn N (m + k)
  | 0 => List.prefix_refl _
  | k + 1 => (dn_pre N m k).trans (by show dn N (m + k) <+: dn N (m + k) ++ _; exact List.prefix_append _ _)
/-- Backward's box, and the list in it -/
structure BkB (W : World) (Bx : Nat) (p : Option Addr) (N cap : Nat) (es : List E) : Prop where
  c : W.cell? ⟨Bx, 0, none⟩ = some (.slice p N cap)
  l : LE W p N es
set_option maxRecDepth 100000 in
set_option maxHeartbeats 4000000 in
theorem back1_in (n : Nat) (hn : 2 ≤ n) (l Bx : Nat) (p : Option Addr) (N cap : Nat) (es : List E) (J Jx : List (Fin N) → World → Prop) (Kp : World → World → Prop)
    (hKp : ∀ A B, Kp A B → BkB A Bx p N cap es → BkB B Bx p N cap es) (hJ : ∀ pre A B, J pre A → Apart [] A B → J pre B)
    (hY : ∀ pre (c : Fin N) W, J pre W → pre.length < N → YieldAt Fence.wide (n - 1) Tryz.prog l #[.int .i64 (c.1 : Nat), (gE es c.1).agg] W fun e W' =>
      (e = .returned (.bool true) ∧ J (pre ++ [c]) W' ∧ Kp W W') ∨ (e = .returned (.bool false) ∧ Jx (pre ++ [c]) W'))
    (W : World) (b : BkB W Bx p N cap es) (h0 : J [] W) :
    CallsIn Fence.wide n Tryz.prog 86 #[.func (.yield l) #[] #[], .pointer (some ⟨Bx, 0, none⟩)] W fun e W' => (∃ v, e = .returned v) ∧
      ((∃ ys, ys = dn N N ∧ J ys W') ∨ (∃ pre, pre <+: dn N N ∧ Jx pre W')) := by
  refine callsIn_of_wp Tryz.func86 rfl trivial ?_ rfl
  simp only [Tryz.ntmps86, List.size_toArray, List.length_cons, List.length_nil, Nat.reduceAdd, Nat.reduceSub, Array.replicate_succ, Array.replicate_zero, List.push_toArray, List.append_toArray, List.nil_append, List.cons_append]
  have hl := b.l.lim
  have c0 := b.c
  have HB := hid b
  have H0 := hid h0
  have HJ := hid hJ
  have HKp := hid hKp
  have HY := hid hY
  clear b h0 hJ hKp hY
  gi_wp2
  gi_loopw [3] (fun v wr => ∃ m : Nat, v = .int .i64 ((N : Int) - 1 - (m : Nat)) ∧ m ≤ N ∧ BkB wr Bx p N cap es ∧ J (dn N m) wr) (fun v _ => (intOf v + 1).toNat)
  case atStart => exact ⟨0, by simp, by omega, HB.out, H0.out⟩
  case round =>
    obtain ⟨m, rfl, hm, b, hJm⟩ := hrel
    have HJm := hid hJm
    have HB' := hid b
    clear hJm c0
    by_cases hlt : m < N
    · have hi : N - 1 - m < N := by omega
      obtain ⟨i, hie⟩ : ∃ i : Nat, i = N - 1 - m := ⟨_, rfl⟩
      have e1 : (N : Int) - 1 - (m : Nat) = ((i : Nat) : Int) := by omega
      rw [e1]
      have hiN : i < N := by omega
      have HIE := hid hie
      have HE1 := hid e1
      obtain ⟨P, o, rfl, hP, hc⟩ := b.l.at (by omega)
      obtain ⟨k0, k1, k2, k3, k4, k5⟩ := hc i hiN
      have c0 := b.c
      have HDN : Hid (dn N (m + 1) = dn N m ++ [⟨i, hiN⟩]) := by
        unfold Hid; rw [dn_succ N m (by omega)]; simp [HIE.out]
      have hYi := HY.out (dn N m) ⟨i, hiN⟩ wr HJm.out (by have := dn_len N m; omega)
      simp only at hYi
      obtain ⟨x, Hx⟩ : ∃ x, Hid (x = gE es i) := ⟨_, rfl⟩
      rw [← Hx.out] at hYi k0 k1 k2 k3 k4 k5
      have HYi := hid hYi
      unfold Sl.v at k4 k5
      clear hc b hYi hie e1 hi
      obtain ⟨fn, tmps, assign, body, hy', hR⟩ := HYi.out
      unfold E.agg Sl.v at hy'
      gi_wp2
      refine ⟨(fun h => by cases h), ?_⟩
      refine hR.mono ?_
      rintro e W3 (⟨rfl, hJ3, hk3⟩ | ⟨rfl, hJx3⟩)
      · dsimp only
        have HK := hid (HKp.out _ _ hk3 HB'.out)
        have HJ3 := hid hJ3
        clear hk3 hJ3 hR hy' k0 k1 k2 k3 k4 k5 c0
        gi_wp2
        go_roundw
        case rel => exact ⟨m + 1, by have := HIE.out; simp; omega, by omega, HK.out, by rw [HDN.out]; exact HJ3.out⟩
        case measure => have := HIE.out; simp only [intOf]; omega
      · dsimp only
        have HJ3 := hid hJx3
        clear hJx3 hR hy' k0 k1 k2 k3 k4 k5 c0
        gi_wp2
        refine bodyPost_ret (results_none rfl _ _ _) rfl ?_
        refine ⟨⟨_, rfl⟩, .inr ⟨_, ?_, HJ3.out⟩⟩
        have := dn_pre N (m + 1) (N - (m + 1))
        rw [show m + 1 + (N - (m + 1)) = N from by omega, HDN.out] at this
        exact this
    · have hmN : m = N := by omega
      subst hmN
      have hJN := HJm.out
      have e1 : (m : Int) - 1 - (m : Nat) = -1 := by omega
      rw [e1]
      gi_wp2
      go_end0
      exact ⟨⟨_, rfl⟩, .inl ⟨_, rfl, HJm.out⟩⟩
theorem Apart.grown {W W' : World} (a : Apart [] W W') : W.grownBy W' none := ⟨a.os, a.tape, a.output, a.size, fun k hk _ => a.block k hk (by simp)⟩
end Go.Proofs.YtokaeiahhmaokaaGreatDoor.ds
namespace Go.Proofs.YtokaeiahhmaokaaGreatDoor.ds
open Go.ChangeShapes Go.WideShapes Go.ChangeAt Go.RowKit Go.Sort
set_option linter.unusedVariables false
set_option linter.unusedSimpArgs false
/-- a place that is newer than a world -/
def NewP (w : World) (q : Option Addr) : Prop := ∀ P o, q = some ⟨P, o, none⟩ → w.heap.size ≤ P
structure UP2 (w w' : World) (r : Ending) (gap : Int) (a xs : List S) : Prop where
  ex : ∃ q n c e, r = .returned (.tuple #[.slice q n c, .int .i64 e]) ∧ Apart [] w w' ∧ ((e = 0 ∧ L w' q n (knowG gap a xs) ∧ NewP w q) ∨ (¬ e = 0 ∧ knowG gap a xs = a))
theorem union_new {w : World} {p q : Option Addr} {N M cap cb : Nat} {xs ys : List S} {gap : Int} (T : Tab w) (h : L w p N xs) (h2 : L w q M ys) : Calls Tryz.prog 67 #[.slice p N cap, .slice q M cb, .int .i64 gap] w fun r w' => UP2 w w' r gap xs ys := by
  by_cases hg : 1 ≤ gap ∧ gap ≤ 64
  · by_cases k : OkL gap xs
    · by_cases k2 : OkL gap ys
      · refine (union_ok gap T h h2 hg k k2).mono (fun r w' hh => ?_)
        obtain ⟨p', n', c', rfl, ho, hn⟩ := hh.ex
        have e : knowG gap xs ys = uni xs ys := by unfold knowG; rw [if_pos ⟨hg, k, k2⟩]
        exact ⟨p', n', c', 0, rfl, ho.ap, .inl ⟨rfl, by rw [e]; exact ho.L (by omega) ((uni_ok k k2 (by omega) hg.2).fit hg.2), fun P o e => ho.new P (by subst e; rfl)⟩⟩
      · refine (union_set2 gap h h2 hg k k2).mono (fun r w' hh => ?_)
        obtain ⟨rfl, a⟩ := hh
        exact ⟨none, 0, 0, 30, rfl, a, .inr ⟨by decide, by unfold knowG; rw [if_neg (fun h => k2 h.2.2)]⟩⟩
    · refine (union_set1 gap h hg k).mono (fun r w' hh => ?_)
      obtain ⟨rfl, a⟩ := hh
      exact ⟨none, 0, 0, 30, rfl, a, .inr ⟨by decide, by unfold knowG; rw [if_neg (fun h => k h.2.1)]⟩⟩
  · refine (union_arg gap hg).mono (fun r w' hh => ?_)
    obtain ⟨rfl, a⟩ := hh
    exact ⟨none, 0, 0, 1, rfl, a, .inr ⟨by decide, by unfold knowG; rw [if_neg (fun h => hg h.1)]⟩⟩
structure KU2 (w wr : World) (u : Value) (acc : List S) : Prop where
  ex : ∃ q n c, u = .slice q n c ∧ L wr q n acc ∧ Apart [] w wr ∧ NewP w q
set_option maxHeartbeats 8000000 in
set_option maxRecDepth 100000 in
theorem unions_new {w : World} {p : Option Addr} {N cap : Nat} {ss : List Sl} {xss : List (List S)} (gap : Int) (T : Tab w) (h : LX w p N ss xss) (hN : N ≤ 1000000) : Calls Tryz.prog 38 #[.int .i64 gap, .slice p N cap] w fun r w' => ∃ u, r = .returned u ∧ KU2 w w' u (unis gap xss) := by
  have HH := hid h
  have HT := hid T
  clear h T
  go_enter Tryz.func38, Tryz.ntmps38
  go_wp2_with fail
  go_loopw [5, 12] (fun u v wr => ∃ i : Nat, v = .int .i64 (i : Nat) ∧ i ≤ N ∧ KU2 w wr u (unis gap (xss.take i))) (fun _ v _ => N - (intOf v).toNat)
  case atStart => exact ⟨0, rfl, Nat.zero_le _, none, 0, 0, rfl, ⟨Sp.nil _ _, rfl, by decide, by simp [unis]⟩, Apart.refl _ _, by intro P o h; cases h⟩
  case round =>
    obtain ⟨i, rfl, hi, hk⟩ := hrel
    obtain ⟨q, n, c, rfl, hL, ha, hnw⟩ := hk.ex
    have HNW := hid hnw
    clear hk hnw
    have HA := hid ha
    have HL := hid hL
    clear ha hL
    by_cases hlt : i < N
    · have hX := HH.out.kept0 HA.out
      obtain ⟨P, o, hp, hP, hc⟩ := hX.rd (by rw [List.length_map, hX.len]; omega)
      have c0 := hc i (gS ss i).v (by rw [List.getElem?_map]; unfold gS; rw [List.getD_eq_getElem?_getD, List.getElem?_eq_getElem (by rw [hX.len]; exact hlt)]; rfl)
      have hU := union_new (gap := gap) (cap := c) (cb := (gS ss i).c) (HT.out.kept0 HA.out) HL.out (hX.l i hlt)
      have HSN := hid (unis_snoc gap xss i (by rw [hX.lx]; exact hlt))
      unfold Sl.v at c0
      generalize gS ss i = s at *
      generalize xss.getD i [] = ys at *
      generalize unis gap (xss.take i) = acc at *
      subst hp
      clear hX hc HH HT
      go_wp2_with fail
      refine hU.mono ?_
      clear hU
      rintro _ w1 hh
      obtain ⟨q1, n1, c1, e1, rfl, a1, hcase⟩ := hh.ex
      clear hh
      have HA1 := hid (HA.out.trans a1)
      have HL1 := hid (HL.out.kept0 a1)
      have HC := hid hcase
      clear a1 hcase
      dsimp only
      by_cases he : e1 = 0
      · have HK : Hid (KU2 w w1 (.slice q1 n1 c1) (unis gap (xss.take (i + 1)))) := by
          rw [HSN.out]
          rcases HC.out with h | h
          · exact ⟨q1, n1, c1, rfl, h.2.1, HA1.out, fun P o e => Nat.le_trans HA.out.size (h.2.2 P o e)⟩
          · exact absurd he h.1
        subst he
        go_wp2_with fail
        go_roundw
        case rel => exact ⟨i + 1, by go_num, by omega, HK.out⟩
        case measure => simp [intOf]; omega
      · have HK : Hid (KU2 w w1 (.slice q n c) (unis gap (xss.take (i + 1)))) := by
          rw [HSN.out]
          rcases HC.out with h | h
          · exact absurd h.1 he
          · rw [h.2]; exact ⟨q, n, c, rfl, HL1.out, HA1.out, HNW.out⟩
        go_wp2_with fail
        go_roundw
        case rel => exact ⟨i + 1, by go_num, by omega, HK.out⟩
        case measure => simp [intOf]; omega
    · obtain rfl : i = N := by omega
      have HK : Hid (KU2 w wr (.slice q n c) (unis gap xss)) := ⟨q, n, c, rfl, by have := HL.out; rwa [List.take_of_length_le (by rw [HH.out.lx]; omega)] at this, HA.out, HNW.out⟩
      go_wp2
      go_ret
      exact ⟨_, rfl, HK.out⟩
end Go.Proofs.YtokaeiahhmaokaaGreatDoor.ds
