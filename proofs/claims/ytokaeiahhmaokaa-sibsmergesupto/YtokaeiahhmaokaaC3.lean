import Derived.Test.YtokaeiahhmaokaaC2
namespace Go.Proofs.Ytokaeiahhmaokaa.ds
open Go.ChangeShapes Go.WideShapes Go.ChangeAt Go.RowKit Go.Sort
set_option linter.unusedVariables false
set_option linter.unusedSimpArgs false
theorem infoV : (Try.prog.info? 25).map (fun i => (i.zero, i.size, i.bytes)) = some (some (.slice none 0 0), 1, 24) := by kernel_rfl
theorem infoX : (Try.prog.info? 26).map (fun i => (i.zero, i.size, i.bytes)) = some (some (.slice none 0 0), 1, 24) := by kernel_rfl
def gS (l : List Sl) (k : Nat) : Sl := l.getD k ⟨none, 0, 0⟩
theorem gS_left (l m : List Sl) (j : Nat) (hj : j < l.length) : gS (l ++ m) j = gS l j := by unfold gS; rw [List.getD_eq_getElem?_getD, List.getD_eq_getElem?_getD, List.getElem?_append_left hj]
theorem gS_at (l : List Sl) (s : Sl) : gS (l ++ [s]) l.length = s := by unfold gS; simp [List.getD_eq_getElem?_getD]
theorem gE_left (l m : List E) (j : Nat) (hj : j < l.length) : gE (l ++ m) j = gE l j := by unfold gE; rw [List.getD_eq_getElem?_getD, List.getD_eq_getElem?_getD, List.getElem?_append_left hj]
theorem gE_at (l : List E) (s : E) : gE (l ++ [s]) l.length = s := by unfold gE; simp [List.getD_eq_getElem?_getD]
theorem Rd.pre {w : World} {p : Option Addr} {us vs : List Value} (h : Rd w p (us ++ vs)) : Rd w p us := by
  intro h0
  obtain ⟨P, o, e, hP, hc⟩ := h (by simp; omega)
  refine ⟨P, o, e, hP, fun j u hj => hc j u ?_⟩
  have hjl : j < us.length := by
    by_cases hc : j < us.length
    · exact hc
    · rw [List.getElem?_eq_none (by omega)] at hj; cases hj
  rw [List.getElem?_append_left hjl]; exact hj
theorem Sp.of_rd {w : World} {p : Option Addr} {xs : List S} (h : Rd w p (flat xs)) : Sp w p xs := by
  intro h0
  obtain ⟨P, o, e, hP, hc⟩ := h (by rw [flat_length]; omega)
  refine ⟨P, o, e, hP, fun i hi => ?_⟩
  obtain ⟨a, b, c⟩ := flat_get xs i hi
  simp only [Nat.add_assoc]
  exact ⟨hc _ _ a, hc _ _ b, hc _ _ c⟩
def marksV : List Value := byts [7, 8]
def marksX : List Value := flat [⟨77, 0, 0⟩, ⟨78, 0, 0⟩]
/-- a write that is lent: marks stand behind the ends of its value and its context -/
structure One (w : World) (e : E) (v x : Sl) (r : Wr) : Prop where
  n : e.n = r.n
  c : e.c = r.c
  k : e.k = r.k
  d : e.d = r.d
  vb : ∀ b ∈ r.vs, b < 256
  vl : r.vs.length ≤ 2000000
  xl : r.xs.length ≤ 2000000
  xf : ∀ y ∈ r.xs, y.t < 2 ^ 64
  vo : w.ownsRow 0 5 1 v.v v.n (byts r.vs ++ marksV)
  vn : v.n = r.vs.length + 2
  vp : ∃ k, v.p = some ⟨k, 0, none⟩
  ev : e.v = ⟨v.p, r.vs.length, v.c⟩
  xo : w.ownsRow 0 38 3 x.v x.n (flat r.xs ++ marksX)
  xn : x.n = r.xs.length + 2
  xp : ∃ k, x.p = some ⟨k, 0, none⟩
  ex : e.x = ⟨x.p, r.xs.length, x.c⟩
theorem One.reads {w : World} {e : E} {v x : Sl} {r : Wr} (h : One w e v x r) : Reads w e r := by
  obtain ⟨kv, hkv⟩ := h.vp
  obtain ⟨kx, hkx⟩ := h.xp
  refine ⟨h.n, h.c, h.k, h.d, ?_, ?_, ?_, h.vb, ⟨?_, ?_, ?_, h.xf⟩, ?_, ?_, ?_⟩
  · rw [h.ev]; exact (Rd.own h.vo).pre
  · rw [h.ev]
  · rw [h.ev]; exact h.vl
  · rw [h.ex]; exact Sp.of_rd (Rd.own h.xo).pre
  · rw [h.ex]
  · rw [h.ex]; have := h.xl; show r.xs.length ≤ _; omega
  · rw [h.ex]; exact h.xl
  · rw [h.ev]; intro e; simp [hkv] at e
  · rw [h.ex]; intro e; simp [hkx] at e
theorem One.kept {w w' : World} {e : E} {v x : Sl} {r : Wr} {X : List Nat} (h : One w e v x r) (a : Apart X w w') (hv : ∀ k, v.v.ownBlock = some k → k ∉ X) (hx : ∀ k, x.v.ownBlock = some k → k ∉ X) : One w' e v x r :=
  { h with vo := own_apart h.vo a hv, xo := own_apart h.xo a hx }
theorem One.kept0 {w w' : World} {e : E} {v x : Sl} {r : Wr} (h : One w e v x r) (a : Apart [] w w') : One w' e v x r := h.kept a (by simp) (by simp)
/-- .. where only blocks of other kinds were written -/
theorem One.keptT {w w' : World} {e : E} {v x : Sl} {r : Wr} {X : List Nat} (h : One w e v x r) (a : Apart X w w') (hX : ∀ k ∈ X, ∀ cur, w.heap[k]? ≠ some (.cells cur 5 (0, 0)) ∧ w.heap[k]? ≠ some (.cells cur 38 (0, 0))) : One w' e v x r :=
  h.kept a (fun k hk hm => by obtain ⟨cur, e1⟩ := own_typ h.vo hk; exact (hX k hm cur).1 e1) (fun k hk hm => by obtain ⟨cur, e1⟩ := own_typ h.xo hk; exact (hX k hm cur).2 e1)
theorem oneS (l : List Sl) : ∀ u ∈ l.map Sl.v, u.oneCell' = true := by
  intro u hu
  simp only [List.mem_map] at hu
  obtain ⟨s, _, rfl⟩ := hu
  rfl
/-- the value and the context with their marks -/
theorem lent_parts (w : World) (e : E) (r : Wr) (h : Reads w e r) : ∃ s1 w1 s2 w2 s3 w3 s4 w4,
    (Builtin.append_ #[25, 25] 25 #[.slice none 0 0, e.v.v]).run Try.prog w = .ok (Sl.v s1) w1 ∧
    (Builtin.append_ #[25, 25] 25 #[s1.v, .slice (some ⟨w1.heap.size, 0, none⟩) 2 2]).run Try.prog (w1.alloc (.cells #[.int .u8 7, .int .u8 8] 5)) = .ok (Sl.v s2) w2 ∧
    (Builtin.append_ #[26, 26] 26 #[.slice none 0 0, e.x.v]).run Try.prog w2 = .ok (Sl.v s3) w3 ∧
    (Builtin.append_ #[26, 26] 26 #[s3.v, .slice (some ⟨w3.heap.size, 0, none⟩) 2 2]).run Try.prog (w3.alloc (.cells #[.int .i64 77, .int .i64 0, .int .u64 0, .int .i64 78, .int .i64 0, .int .u64 0] 38)) = .ok (Sl.v s4) w4 ∧
    Apart [] w w1 ∧ Apart [] w w2 ∧ Apart [] w w3 ∧ Apart [] w w4 ∧ Nw w w4 5 1 s2 (byts r.vs ++ marksV) ∧ Nw w w4 38 3 s4 (flat r.xs ++ marksX) ∧ s2.n = e.v.n + 2 ∧ s4.n = e.x.n + 2 ∧ (∃ k, s2.p = some ⟨k, 0, none⟩) ∧ (∃ k, s4.p = some ⟨k, 0, none⟩) ∧ s2.n ≤ s2.c ∧ s4.n ≤ s4.c := by
  obtain ⟨s1, w1, hr1, n1, hs1⟩ := appB w e.v r.vs 25 h.v h.vn h.vl h.vo
  obtain ⟨i0, hi, hz0, hz1, hz2⟩ := info_parts infoB
  have hvl := h.vl
  have hxl := h.xl
  obtain ⟨s2, w2, hr2, n2, hs2, ap2, k2, hk2, hc2, _⟩ := run_appM 25 25 5 i0 _ 1 1 Try.underlying25 hi hz0 hz1 hz2 rfl (by decide) n1 2 marksV (by decide) rfl (oneB _) (by unfold maxLen; omega) (by omega)
  obtain ⟨s3, w3, hr3, n3, hs3⟩ := appS w2 e.x r.xs 26 (h.x.kept0 n2.ap) h.xl h.xo
  obtain ⟨i1, hi', hz0', hz1', hz2'⟩ := info_parts info52
  obtain ⟨s4, w4, hr4, n4, hs4, ap4, k4, hk4, hc4, _⟩ := run_appM 26 26 38 i1 _ 3 24 Try.underlying26 hi' hz0' hz1' hz2' rfl (by decide) n3 2 marksX (by decide) rfl (oneFlat _) (by unfold maxLen; omega) (by omega)
  refine ⟨s1, w1, s2, w2, s3, w3, s4, w4, hr1, hr2, hr3, hr4, n1.ap, n2.ap, n2.ap.trans n3.ap, n2.ap.trans n4.ap, n2.kept n4.ap, ⟨n4.own, fun k hk => Nat.le_trans n2.ap.size (n4.new k hk), n2.ap.trans n4.ap⟩, by omega, by omega, ⟨k2, hk2⟩, ⟨k4, hk4⟩, hc2, hc4⟩
end Go.Proofs.Ytokaeiahhmaokaa.ds
