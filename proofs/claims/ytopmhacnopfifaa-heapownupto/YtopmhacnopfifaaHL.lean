import Derived.Test.YtopmhacnopfifaaHR
namespace Go.Proofs.Ytopmhacnopfifaa.hp
open Go.ChangeShapes Go.WideShapes Go.ChangeAt Go.RowKit
set_option linter.unusedVariables false
set_option linter.unusedSimpArgs false
def mkE (r c : Int) : E := ⟨r, c, 0⟩
theorem flat2_one (l : List E) : ∀ u ∈ flat2 l, u.oneCell' = true := by
  intro u hu
  simp [flat2, ec2] at hu
  obtain ⟨x, _, h | h⟩ := hu <;> subst h <;> rfl
/-- a copy of a list -/
theorem first_run (w : World) (ty : TypeId) (B M : Nat) (row : List E) (hl : row.length = M) (h : w.ownsRow 0 31 2 (.slice (some ⟨B, 0, none⟩) M M) M (flat2 row)) (hM : M ≤ 2000000) :
    ∃ p c w', (Builtin.append_ #[35, 35] ty #[.slice none 0 0, .slice (some ⟨B, 0, none⟩) M M]).run Try.prog w = .ok (.slice p M c) w' ∧ w'.ownsRow 0 31 2 (.slice p M c) M (flat2 row) ∧ Apart [] w w' ∧ (0 < M → ∃ b, p = some ⟨b, 0, none⟩) := by
  obtain ⟨i0, hi, hz0, hz1, hz2⟩ := info_parts infoI
  obtain ⟨v', w', hrun, r1, r2, _⟩ := run_append_own (P := Try.prog) w w.heap.size 35 ty 31 i0 _ 2 16 Try.underlying35 hi hz0 hz1 hz2 rfl (by decide) (.slice none 0 0) 0 [] (World.ownsRow_nil w _ 31 2) ⟨B, 0, none⟩ M M (flat2 row) (by rw [flat2_length, hl]) (fun j u hu => h.cells rfl j u hu) (flat2_one row) (by unfold maxLen; omega) (by omega) (Nat.le_refl _)
  rw [Nat.zero_add, List.nil_append] at r1
  have r1' := own_base r1 (Nat.zero_le _)
  have a : Apart [] w w' := ⟨r2.os, r2.tape, r2.output, r2.size, fun k hk _ => r2.block k hk (by simp [Value.ownBlock])⟩
  obtain ⟨_, ⟨rfl, hzz⟩ | ⟨g', cap', cur', rfl, _⟩⟩ := r1
  · subst hzz
    exact ⟨none, 0, w', hrun, r1', a, fun h => by omega⟩
  · exact ⟨_, cap', w', hrun, r1', a, fun _ => ⟨g', rfl⟩⟩
/-- the cells of an own list -/
theorem own2_get {w : World} {p : Option Addr} {c M : Nat} {row : List E} (h : w.ownsRow 0 31 2 (.slice p M c) M (flat2 row)) (hl : row.length = M) {b : Nat} (hb : p = some ⟨b, 0, none⟩) (k : Nat) (hk : k < M) :
    w.cell? ⟨b, k * 2, none⟩ = some (.int .i64 (g row k).r) ∧ w.cell? ⟨b, k * 2 + 1, none⟩ = some (.int .i64 (g row k).m) := by
  subst hb
  obtain ⟨q0, q1⟩ := flat2_get row k (by omega)
  exact ⟨by rw [h.cellAt _ (by omega)]; exact q0, by rw [h.cellAt _ (by omega)]; exact q1⟩
def putI (w : World) (G k : Nat) (r c : Int) : World := (w.setCell ⟨G, k * 2, none⟩ (.int .i64 r)).setCell ⟨G, k * 2 + 1, none⟩ (.int .i64 c)
/-- so many are written over -/
def part (k : Nat) (e : E) (row : List E) : List E := alk k e ++ row.drop k
theorem part_len (k : Nat) (e : E) (row : List E) (hk : k ≤ row.length) : (part k e row).length = row.length := by simp [part, alk]; omega
theorem part_set (k : Nat) (e : E) (row : List E) (hk : k < row.length) : (part k e row).set k e = part (k + 1) e row := by
  unfold part
  rw [List.set_append_right _ _ (by simp [alk]), show k - (alk k e).length = 0 by simp [alk], List.drop_eq_getElem_cons hk, List.set_cons_zero]
  unfold alk
  rw [List.replicate_succ', List.append_assoc]
  rfl
theorem part_all (e : E) (row : List E) : part row.length e row = alk row.length e := by simp [part]
theorem putI_own {w : World} {G M k : Nat} {r c : Int} {row : List E} (hl : row.length = M) (hk : k < M) (h : w.ownsRow 0 31 2 (.slice (some ⟨G, 0, none⟩) M M) M (flat2 (part k (mkE r c) row))) : (putI w G k r c).ownsRow 0 31 2 (.slice (some ⟨G, 0, none⟩) M M) M (flat2 (part (k + 1) (mkE r c) row)) := by
  have h1 := (h.stored (k * 2) (.int .i64 r)).1.stored (k * 2 + 1) (.int .i64 c)
  have e : flat2 (part (k + 1) (mkE r c) row) = ((flat2 (part k (mkE r c) row)).set (k * 2) (.int .i64 r)).set (k * 2 + 1) (.int .i64 c) := by
    rw [← part_set k (mkE r c) row (by omega), flat2_set]; rfl
  rw [e]
  simpa [putI] using h1.1
theorem putI_apart (w : World) (G k : Nat) (r c : Int) : Apart [G] w (putI w G k r c) := ((Apart.refl _ _).setCell (by simp) _).setCell (by simp) _
/-- both lists are written over -/
structure FillI (V wq : World) (LB MB M k : Nat) (xi xc yc : Int) (row : List E) : Prop where
  hk : k ≤ M
  ol : wq.ownsRow 0 31 2 (.slice (some ⟨LB, 0, none⟩) M M) M (flat2 (part k (mkE xi xc) row))
  om : wq.ownsRow 0 31 2 (.slice (some ⟨MB, 0, none⟩) M M) M (flat2 (part k (mkE xi yc) row))
  ap : Apart [LB, MB] V wq
theorem FillI.step {V wq : World} {LB MB M k : Nat} {xi xc yc : Int} {row : List E} (h : FillI V wq LB MB M k xi xc yc row) (hl : row.length = M) (hk : k < M) (hne : LB ≠ MB) : FillI V (putI (putI wq LB k xi xc) MB k xi yc) LB MB M (k + 1) xi xc yc row := by
  have a1 := putI_apart wq LB k xi xc
  have a2 := putI_apart (putI wq LB k xi xc) MB k xi yc
  refine ⟨by omega, ?_, ?_, (h.ap.trans (a1.mono (by simp))).trans (a2.mono (by simp))⟩
  · exact own_apart (putI_own hl hk h.ol) a2 (fun q hq hm => by simp [Value.ownBlock] at hq hm; omega)
  · exact putI_own hl hk (own_apart h.om a1 (fun q hq hm => by simp [Value.ownBlock] at hq hm; omega))
theorem FillI.start {V : World} {LB MB M : Nat} {xi xc yc : Int} {row : List E} (ol : V.ownsRow 0 31 2 (.slice (some ⟨LB, 0, none⟩) M M) M (flat2 row)) (om : V.ownsRow 0 31 2 (.slice (some ⟨MB, 0, none⟩) M M) M (flat2 row)) : FillI V V LB MB M 0 xi xc yc row :=
  ⟨Nat.zero_le _, by simpa [part, alk] using ol, by simpa [part, alk] using om, Apart.refl _ _⟩
/-- what holding leaves -/
theorem Fl.ofHold {V wx : World} {v hv : Value} {hs : List Value} {e : E} (h : Fl V v e) (own : V.ownsRow 0 35 1 hv hs.length hs) (a : Apart hv.ownBlock.toList V wx) : Fl wx v e := by
  refine h.apart a (fun k hk hv2 => ?_)
  obtain ⟨n, b, cap, rfl, o, hn⟩ := h.ex
  obtain ⟨c1, e1⟩ := own_typ o hv2
  obtain ⟨c2, e2⟩ := own_typ own (k := k) (by simpa using hk)
  rw [e1] at e2; simp at e2
theorem own_ofHold {V wx : World} {v hv : Value} {hs xs : List Value} {n : Nat} (h : V.ownsRow 0 31 2 v n xs) (own : V.ownsRow 0 35 1 hv hs.length hs) (a : Apart hv.ownBlock.toList V wx) : wx.ownsRow 0 31 2 v n xs := by
  refine own_apart h a (fun k hk hm => ?_)
  obtain ⟨c1, e1⟩ := own_typ h hk
  obtain ⟨c2, e2⟩ := own_typ own (k := k) (by simpa using hm)
  rw [e1] at e2; simp at e2
theorem HRow.ofHold {w V wx : World} {H : Nat} {row : List E} {n : Nat} {hv : Value} {hs : List Value} (q : HRow w V H row n) (own : V.ownsRow 0 35 1 hv hs.length hs) (a : Apart hv.ownBlock.toList V wx) : HRow w wx H row n := by
  obtain ⟨es, o, p⟩ := q.ex
  obtain ⟨u, h1, h2⟩ := o.ex
  refine ⟨⟨es, ⟨⟨u, h1.kept a (fun k hk => ?_), h2⟩, o.hp, o.hH⟩, p⟩, q.up, q.di⟩
  obtain ⟨c2, e2⟩ := own_typ own (k := k) (by simpa using hk)
  refine ⟨fun e => ?_, fun e => ?_, by simp⟩
  · rw [e, h1.hh] at e2; simp at e2
  · obtain ⟨c3, e3⟩ := own_typ h1.own e
    rw [e2] at e3; simp at e3
theorem cell_ofHold {V wx : World} {hv : Value} {hs : List Value} (own : V.ownsRow 0 35 1 hv hs.length hs) (a : Apart hv.ownBlock.toList V wx) {X : Nat} {cs : Array Value} (h : V.heap[X]? = some (.cells cs 31 (0, 0))) : wx.heap[X]? = some (.cells cs 31 (0, 0)) :=
  (a.block X (lt_of_heap h) (fun hm => by
    obtain ⟨c2, e2⟩ := own_typ own (k := X) (by simpa using hm)
    rw [h] at e2; simp at e2)).trans h
end Go.Proofs.Ytopmhacnopfifaa.hp
