import Derived.Test.YtopmhacnopfifaaH5
import Derived.Laws.StructEq
namespace Go.Proofs.Ytopmhacnopfifaa.hp
open Go.ChangeShapes Go.WideShapes Go.ChangeAt Go.RowKit
set_option linter.unusedVariables false
set_option linter.unusedSimpArgs false
theorem Fm.ofHold {V wx : World} {v hv : Value} {hs : List Value} {c : Int} (h : Fm V v c) (own : V.ownsRow 0 35 1 hv hs.length hs) (a : Apart hv.ownBlock.toList V wx) : Fm wx v c := by
  obtain ⟨e, f, hc⟩ := h.ex
  exact ⟨e, f.ofHold own a, hc⟩
theorem mkm_x (i q : Nat) (hq : q < 4) : -1000 - 2 * (i : Int) = mkm (8 * i + q) := by
  unfold mkm
  have : (8 * i + q) / 4 = 2 * i := by omega
  rw [this]; omega
theorem mkm_y (i q : Nat) (hq : q < 4) : -1001 - 2 * (i : Int) = mkm (8 * i + 4 + q) := by
  unfold mkm
  have : (8 * i + 4 + q) / 4 = 2 * i + 1 := by omega
  rw [this]; omega
theorem held_more {V1 V2 V3 : World} {hv hv1 hv2 : Value} {hs : List Value} {l v1 v2 v3 m u1 u2 u3 : Value} {i : Nat} {xi : Int} (h : Held V1 hv hs) (hl : hs.length = 8 * i) (p1 : HoldP V1 V2 hv hv1 hs l v1 v2 v3 (mkE xi (-1000 - 2 * (i : Int)))) (p2 : HoldP V2 V3 hv1 hv2 (hs ++ [l, v1, v2, v3]) m u1 u2 u3 (mkE xi (-1001 - 2 * (i : Int)))) : Held V3 hv2 ((hs ++ [l, v1, v2, v3]) ++ [m, u1, u2, u3]) := by
  refine ⟨p2.own, fun j x hj => ?_⟩
  by_cases h1 : j < 8 * i
  · rw [List.append_assoc, List.getElem?_append_left (by omega)] at hj
    exact ((h.fl j x hj).ofHold h.own p1.ap).ofHold p1.own p2.ap
  · have k1 : ∀ {v}, Fl V2 v (mkE xi (-1000 - 2 * (i : Int))) → Fl V3 v (mkE xi (-1000 - 2 * (i : Int))) := fun f => f.ofHold p1.own p2.ap
    by_cases h2 : j < 8 * i + 4
    · obtain ⟨q, rfl⟩ : ∃ q, j = 8 * i + q := ⟨j - 8 * i, by omega⟩
      rw [List.getElem?_append_left (by simp; omega), List.getElem?_append_right (by omega), hl, show 8 * i + q - 8 * i = q by omega] at hj
      refine ⟨mkE xi (-1000 - 2 * (i : Int)), ?_, mkm_x i q (by omega)⟩
      match q, h2 with
      | 0, _ => simp at hj; subst hj; exact k1 p1.fl
      | 1, _ => simp at hj; subst hj; exact k1 p1.f1
      | 2, _ => simp at hj; subst hj; exact k1 p1.f2
      | 3, _ => simp at hj; subst hj; exact k1 p1.f3
    · obtain ⟨q, rfl⟩ : ∃ q, j = 8 * i + 4 + q := ⟨j - (8 * i + 4), by omega⟩
      rw [List.getElem?_append_right (by simp; omega)] at hj
      rw [show 8 * i + 4 + q - (hs ++ [l, v1, v2, v3]).length = q by simp; omega] at hj
      have hq : q < 4 := by
        rcases Nat.lt_or_ge q 4 with h | h
        · exact h
        · rw [List.getElem?_eq_none (by simpa using h)] at hj; cases hj
      refine ⟨mkE xi (-1001 - 2 * (i : Int)), ?_, mkm_y i q hq⟩
      match q, hq with
      | 0, _ => simp at hj; subst hj; exact p2.fl
      | 1, _ => simp at hj; subst hj; exact p2.f1
      | 2, _ => simp at hj; subst hj; exact p2.f2
      | 3, _ => simp at hj; subst hj; exact p2.f3
theorem row_push {w0 w : World} {H : Nat} {row : List E} {n : Nat} (h : HRow w0 w H row n) (h00 : Apart [] w0 w) (hm : ∀ e ∈ row, 0 ≤ e.a ∧ e.a < n) (hl : row.length < 4000000) (hn : n < 4000000) (a b : Int) :
    Calls Try.prog 10 #[.pointer (some ⟨H, 0, none⟩), .agg #[.int .i64 a, .int .i64 b]] w fun r w' => r = .returned (.tuple #[]) ∧ HRow w0 w' H (rowOf (row ++ [⟨a, b, n⟩])) (n + 1) ∧ Apart [] w0 w' ∧ w.heap.size ≤ w'.heap.size ∧ Kept w w' := by
  obtain ⟨es, o, p⟩ := h.ex
  refine (own_push o a b (by rw [p.length_eq]; exact hl) hn w0 h00 rfl).mono ?_
  rintro r w' ⟨rfl, ⟨cs, o2, p2⟩, a2, s2, k2⟩
  have hpm : cs.Perm (row ++ [⟨a, b, n⟩]) := p2.trans (p.append_right _)
  have hdi : Dist (row ++ [⟨a, b, n⟩]) := by
    unfold Dist
    rw [List.pairwise_append]
    refine ⟨h.di, List.pairwise_singleton _ _, fun x hx y hy => ?_⟩
    simp at hy; subst hy
    have := hm x hx
    show x.a ≠ (n : Int)
    omega
  exact ⟨rfl, ⟨⟨cs, o2, hpm.trans (rowOf_perm _).symm⟩, rowOf_up _, hdi.perm (rowOf_perm _)⟩, a2, s2, k2⟩
theorem push_hm {row : List E} {n : Nat} {a b : Int} (hm : ∀ e ∈ row, 0 ≤ e.a ∧ e.a < n) : ∀ e ∈ rowOf (row ++ [⟨a, b, n⟩]), 0 ≤ e.a ∧ e.a < ((n + 1 : Nat) : Int) := by
  intro e he
  have := (rowOf_perm _).subset he
  simp only [List.mem_append, List.mem_singleton] at this
  rcases this with h | rfl
  · have := hm e h; omega
  · exact ⟨by show (0 : Int) ≤ n; omega, by show (n : Int) < ((n + 1 : Nat) : Int); omega⟩
/-- append of one to a list that is full -/
theorem run_far0 (w : World) (ty : TypeId) (e : E) (g n : Nat) (h : w.ownsRow 0 31 2 (.slice (some ⟨g, 0, none⟩) n n) n (flat2 (alk n e))) (ad : Addr) (c : Nat) (hnews : ∀ j u, (flat2 (alk 1 e))[j]? = some u → w.cell? (ad.add j) = some u) (hn : n ≤ 2000000) :
    ∃ b c' w', (Builtin.append_ #[35, 35] ty #[.slice (some ⟨g, 0, none⟩) n n, .slice (some ad) 1 c]).run Try.prog w = .ok (.slice (some ⟨b, 0, none⟩) (n + 1) c') w' ∧ w'.ownsRow 0 31 2 (.slice (some ⟨b, 0, none⟩) (n + 1) c') (n + 1) (flat2 (alk (n + 1) e)) ∧ w.heap.size ≤ b ∧ Apart [] w w' := by
  obtain ⟨i0, hi, hz0, hz1, hz2⟩ := info_parts infoI
  obtain ⟨v', w', hrun, r1, r2⟩ := run_append_arg_grows (P := Try.prog) w 35 ty 31 i0 _ 2 16 Try.underlying35 hi hz0 hz1 hz2 rfl (by decide) ⟨g, 0, none⟩ n n (flat2 (alk n e)) (alk_len n e) (fun j u hu => h.cells rfl j u hu) ad 1 c (flat2 (alk 1 e)) (alk_len 1 e) hnews (by omega) (by unfold maxLen; omega) (by omega)
  rw [alk_add] at r1
  have r1' := own_base r1 (Nat.zero_le _)
  obtain ⟨_, ⟨_, hzz⟩ | ⟨g', cap', cur', rfl, hb, _⟩⟩ := r1
  · omega
  · exact ⟨g', cap', w', hrun, r1', hb, ⟨r2.os, r2.tape, r2.output, r2.size, fun k hk _ => r2.block k hk (by simp)⟩⟩
theorem run_far (w : World) (ty : TypeId) (e : E) (g n cp : Nat) (h : w.ownsRow 0 31 2 (.slice (some ⟨g, 0, none⟩) n cp) n (flat2 (alk n e))) (ad : Addr) (c : Nat) (hnews : ∀ j u, (flat2 (alk 1 e))[j]? = some u → w.cell? (ad.add j) = some u) (hn : n ≤ 2000000) :
    ∃ b c' w', (Builtin.append_ #[35, 35] ty #[.slice (some ⟨g, 0, none⟩) n cp, .slice (some ad) 1 c]).run Try.prog w = .ok (.slice (some ⟨b, 0, none⟩) (n + 1) c') w' ∧ w'.ownsRow 0 31 2 (.slice (some ⟨b, 0, none⟩) (n + 1) c') (n + 1) (flat2 (alk (n + 1) e)) ∧ (b = g ∨ w.heap.size ≤ b) ∧ Apart [g] w w' := by
  obtain ⟨i0, hi, hz0, hz1, hz2⟩ := info_parts infoI
  obtain ⟨v', w', hrun, r1, r2, r3⟩ := run_append2 w 35 ty 31 i0 _ 2 16 Try.underlying35 hi hz0 hz1 hz2 rfl (by decide) (.slice (some ⟨g, 0, none⟩) n cp) n (flat2 (alk n e)) h ad 1 c (flat2 (alk 1 e)) (by decide) (alk_len 1 e) hnews (alk_one 1 e) (by unfold maxLen; omega) (by omega)
  rw [alk_add] at r1
  have r1' := r1
  obtain ⟨_, ⟨_, hzz⟩ | ⟨g', cap', cur', rfl, hb, _⟩⟩ := r1
  · omega
  · refine ⟨g', cap', w', hrun, r1', ?_, ?_⟩
    · rcases r3 with h3 | ⟨k, h3, hk⟩
      · simp [Value.ownBlock] at h3; exact .inl h3
      · simp [Value.ownBlock] at h3; exact .inr (by omega)
    · have := apart_grown r2
      simpa [Value.ownBlock] using this
set_option maxRecDepth 100000 in
theorem neq31 (W : World) (a b : Int) : Sem.run Try.prog (binOp BinOp.neq 31 (.agg #[.int .i64 a, .int .i64 b]) (.agg #[.int .i64 a, .int .i64 b])) W = .ok (.bool false) W := by
  have hS : Try.prog.underlying 31 = some (.struct (Try.prog.fieldsOf 31)) := by kernel_rfl
  have hp : Try.prog.stoodInHeld 31 = false := by kernel_rfl
  rw [run_neq_struct, show (10000 : Nat) = 9998 + 1 + 1 from rfl, run_equalIn_agg _ _ _ _ _ hS hp]
  simp only [Program.fieldsOf, Try.underlying31]
  simp [go_sem, Try.underlying3]
theorem guard31 : Try.prog.eqGuardType Try.prog.depth 31 = false := by kernel_rfl
structure OpC where
  who : Int
  kind : Int
  a : Int
  b : Int
def IsScript (w : World) (p : Option Addr) (len : Nat) (f : Nat → OpC) : Prop := 0 < len → ∃ P o, p = some ⟨P, o, none⟩ ∧ P < w.heap.size ∧ ∀ i, i < len → w.cell? ⟨P, o + i * 4, none⟩ = some (.int .i64 (f i).who) ∧ w.cell? ⟨P, o + i * 4 + 1, none⟩ = some (.int .i64 (f i).kind) ∧ w.cell? ⟨P, o + i * 4 + 2, none⟩ = some (.int .i64 (f i).a) ∧ w.cell? ⟨P, o + i * 4 + 3, none⟩ = some (.int .i64 (f i).b)
set_option maxRecDepth 100000 in
theorem nilq (a : Addr) (W : World) : Sem.run Try.prog (binOp BinOp.eql 23 (Value.pointer (some a)) (Value.pointer none)) W = .ok (.bool false) W := by first | rfl | (simp [binOp, Try.underlying23, go_sem]; done)
structure OI (w wr : World) (H i : Nat) (hv : Value) (hs : List Value) (row : List E) (n : Nat) : Prop where
  hr : HRow w wr H row n
  ap : Apart [] w wr
  held : Held wr hv hs
  hl : hs.length = 8 * i
  hm : ∀ e ∈ row, 0 ≤ e.a ∧ e.a < n
  hni : n ≤ i
  rl : row.length ≤ n
  hv0 : ∀ k, hv.ownBlock = some k → w.heap.size ≤ k
structure OS (w wx : World) (H i : Nat) (hv : Value) (hs : List Value) (row : List E) (n : Nat) : Prop where
  hr : HRow w wx H row n
  ap : Apart [] w wx
  held : Held wx hv hs
  hm : ∀ e ∈ row, 0 ≤ e.a ∧ e.a < n
  hni : n ≤ i + 1
  rl : row.length ≤ n
end Go.Proofs.Ytopmhacnopfifaa.hp
