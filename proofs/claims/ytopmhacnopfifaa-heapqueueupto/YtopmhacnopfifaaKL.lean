import Derived.Test.YtopmhacnopfifaaKR
namespace Go.Proofs.Ytopmhacnopfifaa.tm
open Go.ChangeShapes Go.WideShapes Go.ChangeAt Go.RowKit
set_option linter.unusedVariables false
set_option linter.unusedSimpArgs false
def mkE (c : Int) : E := ⟨0, 0, 0, c, 0⟩
theorem mk4_x (i q : Nat) (hq : q < 4) : mk4 (8 * i + q) = mkE (-1000 - 2 * (i : Int)) := by
  unfold mk4 mkE
  have : (8 * i + q) / 4 = 2 * i := by omega
  rw [this]; congr 1
theorem mk4_y (i q : Nat) (hq : q < 4) : mk4 (8 * i + 4 + q) = mkE (-1001 - 2 * (i : Int)) := by
  unfold mk4 mkE
  have : (8 * i + 4 + q) / 4 = 2 * i + 1 := by omega
  rw [this]; congr 1; omega
theorem flat2_one (l : List E) : ∀ u ∈ flat2 l, u.oneCell' = true := by
  intro u hu
  simp [flat2, ec2] at hu
  obtain ⟨x, _, h | h | h | h⟩ := hu <;> subst h <;> rfl
/-- a copy of a list -/
theorem first_run (w : World) (ty : TypeId) (B M : Nat) (row : List E) (hl : row.length = M) (h : w.ownsRow 0 46 4 (.slice (some ⟨B, 0, none⟩) M M) M (flat2 row)) (hM : M ≤ 1000) :
    ∃ p c w', (Builtin.append_ #[49, 49] ty #[.slice none 0 0, .slice (some ⟨B, 0, none⟩) M M]).run Try.prog w = .ok (.slice p M c) w' ∧ w'.ownsRow 0 46 4 (.slice p M c) M (flat2 row) ∧ Apart [] w w' ∧ (0 < M → ∃ b, p = some ⟨b, 0, none⟩) := by
  obtain ⟨i0, hi, hz0, hz1, hz2⟩ := info_parts info46
  obtain ⟨v', w', hrun, r1, r2, _⟩ := run_append_own (P := Try.prog) w w.heap.size 49 ty 46 i0 _ 4 32 Try.underlying49 hi hz0 hz1 hz2 rfl (by decide) (.slice none 0 0) 0 [] (World.ownsRow_nil w _ 46 4) ⟨B, 0, none⟩ M M (flat2 row) (by rw [flat2_length, hl]) (fun j u hu => h.cells rfl j u hu) (flat2_one row) (by unfold maxLen; omega) (by omega) (Nat.le_refl _)
  rw [Nat.zero_add, List.nil_append] at r1
  have r1' := own_base r1 (Nat.zero_le _)
  have a : Apart [] w w' := ⟨r2.os, r2.tape, r2.output, r2.size, fun k hk _ => r2.block k hk (by simp [Value.ownBlock])⟩
  obtain ⟨_, ⟨rfl, hzz⟩ | ⟨g', cap', cur', rfl, _⟩⟩ := r1
  · subst hzz
    exact ⟨none, 0, w', hrun, r1', a, fun h => by omega⟩
  · exact ⟨_, cap', w', hrun, r1', a, fun _ => ⟨g', rfl⟩⟩
/-- the cells of an own list -/
theorem own4_get {w : World} {p : Option Addr} {c M : Nat} {row : List E} (h : w.ownsRow 0 46 4 (.slice p M c) M (flat2 row)) (hl : row.length = M) {b : Nat} (hb : p = some ⟨b, 0, none⟩) (k : Nat) (hk : k < M) :
    w.cell? ⟨b, k * 4, none⟩ = some (.int .i64 (g row k).r) ∧ w.cell? ⟨b, k * 4 + 1, none⟩ = some (.int .i64 (g row k).m) ∧ w.cell? ⟨b, k * 4 + 2, none⟩ = some (.int .i64 (g row k).k) ∧ w.cell? ⟨b, k * 4 + 3, none⟩ = some (.int .i64 (g row k).c) := by
  subst hb
  obtain ⟨q0, q1, q2, q3⟩ := flat2_get row k (by omega)
  exact ⟨by rw [h.cellAt _ (by omega)]; exact q0, by rw [h.cellAt _ (by omega)]; exact q1, by rw [h.cellAt _ (by omega)]; exact q2, by rw [h.cellAt _ (by omega)]; exact q3⟩
def put4 (w : World) (G k : Nat) (c : Int) : World := (((w.setCell ⟨G, k * 4, none⟩ (.int .i64 0)).setCell ⟨G, k * 4 + 1, none⟩ (.int .i64 0)).setCell ⟨G, k * 4 + 2, none⟩ (.int .i64 0)).setCell ⟨G, k * 4 + 3, none⟩ (.int .i64 c)
/-- so many are written over -/
def part (k : Nat) (e : E) (row : List E) : List E := alk k e ++ row.drop k
theorem part_len (k : Nat) (e : E) (row : List E) (hk : k ≤ row.length) : (part k e row).length = row.length := by simp [part, alk]; omega
theorem part_set (k : Nat) (e : E) (row : List E) (hk : k < row.length) : (part k e row).set k e = part (k + 1) e row := by
  unfold part
  rw [List.set_append_right _ _ (by simp [alk]), show k - (alk k e).length = 0 by simp [alk], List.drop_eq_getElem_cons hk, List.set_cons_zero]
  unfold alk
  rw [List.replicate_succ', List.append_assoc]
  rfl
theorem part_all (e : E) (row : List E) : part row.length e row = alk row.length e := by simp [part]
theorem put4_own {w : World} {G M k : Nat} {c : Int} {row : List E} (hl : row.length = M) (hk : k < M) (h : w.ownsRow 0 46 4 (.slice (some ⟨G, 0, none⟩) M M) M (flat2 (part k (mkE c) row))) : (put4 w G k c).ownsRow 0 46 4 (.slice (some ⟨G, 0, none⟩) M M) M (flat2 (part (k + 1) (mkE c) row)) := by
  have h1 := (((h.stored (k * 4) (.int .i64 0)).1.stored (k * 4 + 1) (.int .i64 0)).1.stored (k * 4 + 2) (.int .i64 0)).1.stored (k * 4 + 3) (.int .i64 c)
  have e : flat2 (part (k + 1) (mkE c) row) = ((((flat2 (part k (mkE c) row)).set (k * 4) (.int .i64 0)).set (k * 4 + 1) (.int .i64 0)).set (k * 4 + 2) (.int .i64 0)).set (k * 4 + 3) (.int .i64 c) := by
    rw [← part_set k (mkE c) row (by omega), flat2_set]; rfl
  rw [e]
  simpa [put4] using h1.1
theorem put4_apart (w : World) (G k : Nat) (c : Int) : Apart [G] w (put4 w G k c) := ((((Apart.refl _ _).setCell (by simp) _).setCell (by simp) _).setCell (by simp) _).setCell (by simp) _
/-- both lists are written over -/
structure FillK (V wq : World) (LB MB M k : Nat) (xc yc : Int) (row : List E) : Prop where
  hk : k ≤ M
  ol : wq.ownsRow 0 46 4 (.slice (some ⟨LB, 0, none⟩) M M) M (flat2 (part k (mkE xc) row))
  om : wq.ownsRow 0 46 4 (.slice (some ⟨MB, 0, none⟩) M M) M (flat2 (part k (mkE yc) row))
  ap : Apart [LB, MB] V wq
theorem FillK.step {V wq : World} {LB MB M k : Nat} {xc yc : Int} {row : List E} (h : FillK V wq LB MB M k xc yc row) (hl : row.length = M) (hk : k < M) (hne : LB ≠ MB) : FillK V (put4 (put4 wq LB k xc) MB k yc) LB MB M (k + 1) xc yc row := by
  have a1 := put4_apart wq LB k xc
  have a2 := put4_apart (put4 wq LB k xc) MB k yc
  refine ⟨by omega, ?_, ?_, (h.ap.trans (a1.mono (by simp))).trans (a2.mono (by simp))⟩
  · exact own_apart (put4_own hl hk h.ol) a2 (fun q hq hm => by simp [Value.ownBlock] at hq hm; omega)
  · exact put4_own hl hk (own_apart h.om a1 (fun q hq hm => by simp [Value.ownBlock] at hq hm; omega))
theorem FillK.start {V : World} {LB MB M : Nat} {xc yc : Int} {row : List E} (ol : V.ownsRow 0 46 4 (.slice (some ⟨LB, 0, none⟩) M M) M (flat2 row)) (om : V.ownsRow 0 46 4 (.slice (some ⟨MB, 0, none⟩) M M) M (flat2 row)) : FillK V V LB MB M 0 xc yc row :=
  ⟨Nat.zero_le _, by simpa [part, alk] using ol, by simpa [part, alk] using om, Apart.refl _ _⟩
/-- what holding leaves -/
theorem Fl.ofHold {V wx : World} {v hv : Value} {hs : List Value} {e : E} (h : Fl V v e) (own : V.ownsRow 0 49 1 hv hs.length hs) (a : Apart hv.ownBlock.toList V wx) : Fl wx v e := by
  refine h.apart a (fun k hk hv2 => ?_)
  obtain ⟨n, b, cap, rfl, o, hn⟩ := h.ex
  obtain ⟨c1, e1⟩ := own_typ o hv2
  obtain ⟨c2, e2⟩ := own_typ own (k := k) (by simpa using hk)
  rw [e1] at e2; simp at e2
theorem own_ofHold {V wx : World} {v hv : Value} {hs xs : List Value} {n : Nat} (h : V.ownsRow 0 46 4 v n xs) (own : V.ownsRow 0 49 1 hv hs.length hs) (a : Apart hv.ownBlock.toList V wx) : wx.ownsRow 0 46 4 v n xs := by
  refine own_apart h a (fun k hk hm => ?_)
  obtain ⟨c1, e1⟩ := own_typ h hk
  obtain ⟨c2, e2⟩ := own_typ own (k := k) (by simpa using hm)
  rw [e1] at e2; simp at e2
theorem Qu.ofHold {w V wx : World} {Q H : Nat} {row : List E} {n : Nat} {nw : Int} {hv : Value} {hs : List Value} (q : Qu w V Q H row n nw) (own : V.ownsRow 0 49 1 hv hs.length hs) (a : Apart hv.ownBlock.toList V wx) : Qu w wx Q H row n nw :=
  q.other a (fun k hk => by
    obtain ⟨c2, e2⟩ := own_typ own (k := k) (by simpa using hk)
    exact ⟨_, _, _, e2, by decide, by decide, by decide⟩)
theorem cell_ofHold {V wx : World} {hv : Value} {hs : List Value} (own : V.ownsRow 0 49 1 hv hs.length hs) (a : Apart hv.ownBlock.toList V wx) {X : Nat} {cs : Array Value} (h : V.heap[X]? = some (.cells cs 46 (0, 0))) : wx.heap[X]? = some (.cells cs 46 (0, 0)) :=
  (a.block X (lt_of_heap h) (fun hm => by
    obtain ⟨c2, e2⟩ := own_typ own (k := X) (by simpa using hm)
    rw [h] at e2; simp at e2)).trans h
/-- eight lists more -/
theorem held_more {V1 V2 V3 : World} {hv hv1 hv2 : Value} {hs : List Value} {l v1 v2 v3 m u1 u2 u3 : Value} {i : Nat} (h : Held V1 hv hs) (hl : hs.length = 8 * i) (p1 : HoldP V1 V2 hv hv1 hs l v1 v2 v3 (mkE (-1000 - 2 * (i : Int)))) (p2 : HoldP V2 V3 hv1 hv2 (hs ++ [l, v1, v2, v3]) m u1 u2 u3 (mkE (-1001 - 2 * (i : Int)))) : Held V3 hv2 ((hs ++ [l, v1, v2, v3]) ++ [m, u1, u2, u3]) := by
  refine ⟨p2.own, fun j x hj => ?_⟩
  have k1 : ∀ {v e}, Fl V2 v e → Fl V3 v e := fun f => f.ofHold p1.own p2.ap
  by_cases h1 : j < 8 * i
  · rw [List.append_assoc, List.getElem?_append_left (by omega)] at hj
    exact k1 ((h.fl j x hj).ofHold h.own p1.ap)
  · by_cases h2 : j < 8 * i + 4
    · obtain ⟨q, rfl⟩ : ∃ q, j = 8 * i + q := ⟨j - 8 * i, by omega⟩
      rw [List.getElem?_append_left (by simp; omega), List.getElem?_append_right (by omega), hl, show 8 * i + q - 8 * i = q by omega] at hj
      rw [mk4_x i q (by omega)]
      match q, h2 with
      | 0, _ => simp at hj; subst hj; exact k1 p1.fl
      | 1, _ => simp at hj; subst hj; exact k1 p1.f1
      | 2, _ => simp at hj; subst hj; exact k1 p1.f2
      | 3, _ => simp at hj; subst hj; exact k1 p1.f3
    · obtain ⟨q, rfl⟩ : ∃ q, j = 8 * i + 4 + q := ⟨j - (8 * i + 4), by omega⟩
      rw [List.getElem?_append_right (by simp; omega)] at hj
      rw [show 8 * i + 4 + q - (hs ++ [l, v1, v2, v3]).length = q by simp; omega] at hj
      have hq : q < 4 := by
        rcases Nat.lt_or_ge q 4 with h | h
        · exact h
        · rw [List.getElem?_eq_none (by simpa using h)] at hj; cases hj
      rw [mk4_y i q hq]
      match q, hq with
      | 0, _ => simp at hj; subst hj; exact p2.fl
      | 1, _ => simp at hj; subst hj; exact p2.f1
      | 2, _ => simp at hj; subst hj; exact p2.f2
      | 3, _ => simp at hj; subst hj; exact p2.f3
set_option maxHeartbeats 1000000 in
theorem same_ok (w : World) (e : E) : Calls Try.prog 24 #[.agg #[.int .i64 e.r, .int .i64 e.m, .int .i64 e.k, .int .i64 e.c], .agg #[.int .i64 e.r, .int .i64 e.m, .int .i64 e.k, .int .i64 e.c]] w fun r w' => r = .returned (.bool true) ∧ Apart [] w w' := by
  go_enter Try.func24, Try.ntmps24
  go_wp2
  go_ret
  exact ⟨rfl, ((Apart.refl _ _).alloc _).alloc _⟩
end Go.Proofs.Ytopmhacnopfifaa.tm
