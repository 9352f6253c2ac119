import Derived.Test.YtopmhacnopfifaaQSink
import Derived.ArgAppend
import Derived.Deep.RegionLaw
import Derived.Deep.DeepAppendRoom
namespace Go.Proofs.Ytopmhacnopfifaa.tm
open Go.ChangeShapes Go.WideShapes Go.ChangeAt Go.RowKit
set_option linter.unusedVariables false
theorem own_base {w : World} {b c : Nat} {e : TypeId} {size : Nat} {v : Value} {n : Nat} {xs : List Value} (h : w.ownsRow b e size v n xs) (hc : c ≤ b) : w.ownsRow c e size v n xs := by
  obtain ⟨hl, ⟨hv, hz⟩ | ⟨g, cap, cur, rfl, hb, hr⟩⟩ := h
  · exact ⟨hl, .inl ⟨hv, hz⟩⟩
  · exact ⟨hl, .inr ⟨g, cap, cur, rfl, by omega, hr⟩⟩
/-- the row is the old one, or a new one -/
def NewOr (w : World) (v v' : Value) : Prop := v'.ownBlock = v.ownBlock ∨ ∃ k, v'.ownBlock = some k ∧ w.heap.size ≤ k
theorem run_append2 (w : World) (t ty e : TypeId) (i : TypeInfo) (z : Value) (size bytes : Nat) (ht : Try.prog.underlying t = some (.slice e)) (hi : Try.prog.info? e = some i) (hz : i.zero = some z) (hsize : i.size = size) (hby : i.bytes = bytes) (hzs : z.cells.size = size) (hsz : 0 < size)
    (v : Value) (n : Nat) (xs : List Value) (h : w.ownsRow 0 e size v n xs) (ad : Addr) (m c : Nat) (news : List Value) (hm : 0 < m) (hl : news.length = m * size) (hnews : ∀ j u, news[j]? = some u → w.cell? (ad.add j) = some u) (h1 : ∀ u ∈ news, u.oneCell' = true) (h63 : n + m ≤ maxLen) (hb : (n + m) * bytes ≤ 140737488355328) :
    ∃ v' w', (Builtin.append_ #[t, t] ty #[v, .slice (some ad) m c]).run Try.prog w = .ok v' w' ∧ w'.ownsRow 0 e size v' (n + m) (xs ++ news) ∧ w.grownBy w' v.ownBlock ∧ NewOr w v v' := by
  have h0 := h
  obtain ⟨hxl, ⟨rfl, rfl⟩ | ⟨g, cap, cur, rfl, hbb, hr, hle, hrest⟩⟩ := h
  · obtain rfl : xs = [] := by simpa using hxl
    obtain ⟨v', w', hrun, r1, r2, _⟩ := run_append_own (P := Try.prog) w w.heap.size t ty e i z size bytes ht hi hz hsize hby hzs hsz (.slice none 0 0) 0 [] (World.ownsRow_nil w _ e size) ad m c news hl hnews h1 h63 hb (Nat.le_refl _)
    refine ⟨v', w', hrun, own_base r1 (Nat.zero_le _), r2, .inr ?_⟩
    obtain ⟨_, ⟨_, hzz⟩ | ⟨g, cap, cur, rfl, hb2, _⟩⟩ := r1
    · omega
    · exact ⟨g, rfl, hb2⟩
  · by_cases hroom : n + m ≤ cap
    · obtain ⟨w', hrun, r1, r2⟩ := run_append_own_spare (P := Try.prog) w 0 t ty e i size ht hi hsize g n cap xs h0 ad m c news hl hnews h1 hroom
      exact ⟨_, w', hrun, r1, r2, .inl rfl⟩
    · obtain ⟨v', w', hrun, r1, r2⟩ := run_append_arg_grows (P := Try.prog) w t ty e i z size bytes ht hi hz hsize hby hzs hsz ⟨g, 0, none⟩ n cap xs (by omega) (fun j u hu => h0.cells rfl j u hu) ad m c news hl hnews (by omega) h63 hb
      refine ⟨v', w', hrun, own_base r1 (Nat.zero_le _), ⟨r2.os, r2.tape, r2.output, r2.size, fun k hk _ => r2.block k hk (by simp)⟩, .inr ?_⟩
      obtain ⟨_, ⟨_, hzz⟩ | ⟨g', cap', cur', rfl, hb2, _⟩⟩ := r1
      · omega
      · exact ⟨g', rfl, hb2⟩
theorem step_append2 {w : World} {ops : Array Oper} {o : Oper} {a : Act} {K : Act → World → Prop} {Q : Exit → Act → World → Prop} {X : Prop} (hgd : o.guard = none) (s x : Operand) (t : TypeId)
    (ho : o.op = .call { callee := .builtin .append, args := #[s, x], argTypes := #[t, t] })
    (e : TypeId) (i : TypeInfo) (z : Value) (size bytes : Nat) (ht : Try.prog.underlying t = some (.slice e)) (hi : Try.prog.info? e = some i) (hz : i.zero = some z) (hsize : i.size = size) (hby : i.bytes = bytes) (hzs : z.cells.size = size) (hsz : 0 < size)
    (v : Value) (n : Nat) (xs : List Value) (hs : a.eval s = v) (h : w.ownsRow 0 e size v n xs) (ad : Addr) (m c : Nat) (news : List Value) (hx : a.eval x = .slice (some ad) m c) (hm : 0 < m) (hl : news.length = m * size) (hnews : ∀ j u, news[j]? = some u → w.cell? (ad.add j) = some u) (h1 : ∀ u ∈ news, u.oneCell' = true) (h63 : n + m ≤ maxLen) (hb : (n + m) * bytes ≤ 140737488355328)
    (hK : ∀ v' w', w'.ownsRow 0 e size v' (n + m) (xs ++ news) → w.grownBy w' v.ownBlock → NewOr w v v' → K (a.put o.dst v') w') : if Region.wanted o (yielded ops a.tmps) = true then Oper.wp Try.prog o a w K Q else X := by
  have hw : Region.wanted o (yielded ops a.tmps) = true := by simp [Region.wanted, hgd]
  rw [if_pos hw]
  obtain ⟨v', w', hrun, r1, r2, r3⟩ := run_append2 w t o.type e i z size bytes ht hi hz hsize hby hzs hsz v n xs h ad m c news hm hl hnews h1 h63 hb
  unfold Oper.wp
  simp [execOp, ho, resolve, invoke, builtin, hs, hx, hrun, Result.andThen]
  exact hK v' w' r1 r2 r3
theorem info51 : (Try.prog.info? 100).map (fun i => (i.zero, i.size, i.bytes)) = some (some (.agg #[.int .i64 0, .int .i64 0, .int .i64 0, .int .i64 0, .int .i64 0]), 5, 40) := by kernel_rfl
section
variable {F : Value} {C : List (Nat × Int)} {R : E → E → Bool → Prop}
theorem flat_snoc (es : List E) (e : E) : flat es ++ [.int .i64 e.r, .int .i64 e.m, .int .i64 e.k, .int .i64 e.c, .int .i64 e.a] = flat (es ++ [e]) := by simp [flat, ec]
/-- behind the append: the field written -/
theorem At.snoc {w W w4 : World} {H : Nat} {v v' : Value} {es : List E} {n : Nat} (h : At w H F C v es n) (aW : Apart [] w W) (gr : W.grownBy w4 v.ownBlock) (e : E) (own4 : w4.ownsRow 0 100 5 v' (es.length + 1) (flat es ++ [.int .i64 e.r, .int .i64 e.m, .int .i64 e.k, .int .i64 e.c, .int .i64 e.a])) (hl : es.length < 4000000) :
    w4.heap[H]? = some (.cells #[F, v, .int .i64 n] 102 (0, 0)) ∧ At (w4.setCell ⟨H, 1, none⟩ v') H F C v' (es ++ [e]) n ∧ Apart (ids H v) w (w4.setCell ⟨H, 1, none⟩ v') := by
  have ap : Apart v.ownBlock.toList w w4 := (aW.mono (by simp)).trans (apart_grown gr)
  have hH : w4.heap[H]? = some (.cells #[F, v, .int .i64 n] 102 (0, 0)) := (ap.block H (lt_of_heap h.hh) (fun m => h.ne (by simpa using m))).trans h.hh
  have a2 : Apart [H] w4 (w4.setCell ⟨H, 1, none⟩ v') := (Apart.refl _ _).setCell (by simp) v'
  have ne : ∀ k, v'.ownBlock = some k → k ∉ [H] := by
    intro k hk hm
    simp at hm; subst hm
    obtain ⟨cur, e2⟩ := own_typ own4 hk
    rw [hH] at e2; simp at e2
  have apF : Apart (ids H v) w (w4.setCell ⟨H, 1, none⟩ v') := (ap.mono (by simp +contextual [ids])).trans (a2.mono (by simp [ids]))
  refine ⟨hH, ⟨by rw [heap_setCell_same _ _ _ _ _ _ hH]; rfl, ?_, fun b hb => (apF.block b.1 (lt_of_heap (h.hc b hb)) (h.neC b hb)).trans (h.hc b hb), h.hn, by simp; omega⟩, apF⟩
  have := own_apart own4 a2 ne
  rw [flat_snoc] at this
  simpa using this
structure PutPost (R : E → E → Bool → Prop) (F : Value) (C : List (Nat × Int)) (w w' : World) (H : Nat) (v : Value) (es es0 : List E) (n : Nat) : Prop where
  ex : ∃ v' cs, At w' H F C v' cs n ∧ cs.Perm es ∧ (∀ A, Fits R A → Hp A es0 → Hp A cs) ∧ Apart (ids H v) w w' ∧ NewOr w v v'
theorem NewOr.sub {w w' : World} {v v' : Value} (h : NewOr w v v') (hs : w'.heap.size ≤ w.heap.size) : NewOr w' v v' := by
  rcases h with h | ⟨k, h, hk⟩
  · exact .inl h
  · exact .inr ⟨k, h, by omega⟩
theorem NewOr.ids {w : World} {v v' : Value} {H : Nat} (h : NewOr w v v') : ∀ y ∈ v'.ownBlock.toList, y ∈ ids H v ∨ w.heap.size ≤ y := by
  intro y hy
  rcases h with h | ⟨k, h, hk⟩
  · rw [h] at hy; left; simp only [tm.ids, List.mem_cons]; exact .inr hy
  · rw [h] at hy; simp at hy; subst hy; exact .inr hk
set_option maxHeartbeats 1000000 in
theorem put_at (K : Kind F C R) (w : World) (H : Nat) (v : Value) (es : List E) (n : Nat) (h : At w H F C v es n) (e : E) (hl : es.length < 4000000) :
    Calls Try.prog 55 #[.pointer (some ⟨H, 0, none⟩), .agg #[.int .i64 e.r, .int .i64 e.m, .int .i64 e.k, .int .i64 e.c, .int .i64 e.a]] w fun r w' => r = .returned (.tuple #[]) ∧ PutPost R F C w w' H v (es ++ [e]) es n := by
  obtain ⟨i0, hi, hz0, hz1, hz2⟩ := info_parts info51
  obtain ⟨p, cap, hv⟩ := h.shape0
  have c1 := h.c1
  have hHs := lt_of_heap h.hh
  have hown := h.own
  rw [hv] at c1 hown
  have HV : Hid (v = .slice p es.length cap) := hv
  clear hv
  go_enter Try.func55, Try.ntmps55
  go_wp2_with fail
  go_region_law (refine step_append2 rfl (.tmp 8) (.tmp 10) 98 rfl 100 i0 (.agg #[.int .i64 0, .int .i64 0, .int .i64 0, .int .i64 0, .int .i64 0]) 5 40 Try.underlying98 hi hz0 hz1 hz2 rfl (by decide) (.slice p es.length cap) es.length (flat es) rfl (by first | exact ((hown.alloc _).alloc _).drew | exact ((hown.alloc _).drew.alloc _)) ⟨w.heap.size + 1, 0, none⟩ 1 1 [.int .i64 e.r, .int .i64 e.m, .int .i64 e.k, .int .i64 e.c, .int .i64 e.a] rfl (by decide) rfl (by intro j u hj; match j, hj with | 0, hj => (simp at hj; subst hj; simp [Addr.add]) | 1, hj => (simp at hj; subst hj; simp [Addr.add]) | 2, hj => (simp at hj; subst hj; simp [Addr.add]) | 3, hj => (simp at hj; subst hj; simp [Addr.add]) | 4, hj => (simp at hj; subst hj; simp [Addr.add])) (by intro u hu; simp at hu; rcases hu with rfl | rfl | rfl | rfl | rfl <;> rfl) (by unfold maxLen; omega) (by omega) ?_; intro v' w4 hown4 hgrow4 hnew4; rw [← HV.out] at hgrow4 hnew4; have aW := (((Apart.refl [] w).alloc (.cells #[.int .i64 e.r, .int .i64 e.m, .int .i64 e.k, .int .i64 e.c, .int .i64 e.a] 100)).alloc (.cells #[.int .i64 e.r, .int .i64 e.m, .int .i64 e.k, .int .i64 e.c, .int .i64 e.a] 100)).drewN 1; have hS := h.snoc aW hgrow4 e hown4 hl; have c42 := cell_of_row w4 H 1 _ _ _ hS.1; have f42 := frozen_of_row w4 H 1 _ _ hS.1; obtain ⟨G2, cap2, hv', hcap2⟩ := hS.2.1.shape (by simp); simp only [List.length_append, List.length_singleton] at hv'; subst hv'; rw [show #[F, v, .int .i64 n][1]? = some v from rfl] at c42; clear hgrow4 hown4)
  all_goals
    have hap := hS.2.2
    have hat := hS.2.1
    generalize hWW : w4.setCell ⟨H, 1, none⟩ (.slice (some ⟨G2, 0, none⟩) (es.length + 1) cap2) = W5 at *
    have c5 := hat.c1
    clear c42 f42 hS
    go_wp2_with fail
    refine (rise_at K W5 H _ n G2 cap2 (es.length + 1) hat (by simp) es.length (by omega)).mono ?_
    rintro r w6 ⟨rfl, ⟨cs, hcl, at6, perm6, hp6, a6⟩⟩
    go_wp2
    go_end0
    refine ⟨rfl, ⟨_, cs, at6, perm6, fun A f hp => hp6 A f (RI.start hp e), hap.trans' a6 ?_, ?_⟩⟩
    · exact NewOr.ids (H := H) (hnew4.sub aW.size)
    · exact hnew4.sub aW.size
end
end Go.Proofs.Ytopmhacnopfifaa.tm
