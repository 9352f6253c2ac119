import Derived.Test.YtopmhacnopfifaaRQ1
namespace Go.Proofs.Ytopmhacnopfifaa.tm
open Go.ChangeShapes Go.WideShapes Go.ChangeAt Go.RowKit
set_option linter.unusedVariables false
set_option linter.unusedSimpArgs false
/-- a slice that can be read, by its list -/
def Src (w : World) (s : Value) (Bs : List E) : Prop := (s = .slice none 0 0 ∧ Bs = []) ∨ ∃ a m c, s = .slice (some a) m c ∧ Bs.length = m ∧ ∀ j u, (flat2 Bs)[j]? = some u → w.cell? (a.add j) = some u
theorem app_src (w : World) (B0 : Nat) (v : Value) (A : List E) (hA : w.ownsRow B0 46 4 v A.length (flat2 A)) (s : Value) (Bs : List E) (hs : Src w s Bs) (hB : B0 ≤ w.heap.size) (hl : A.length + Bs.length ≤ 2500000) :
    ∃ v' w', (Builtin.append_ #[49, 49] 49 #[v, s]).run Try.prog w = .ok v' w' ∧ w'.ownsRow B0 46 4 v' (A ++ Bs).length (flat2 (A ++ Bs)) ∧ Apart v.ownBlock.toList w w' := by
  obtain ⟨i0, hi, hz0, hz1, hz2⟩ := info_parts info46
  rcases hs with ⟨rfl, rfl⟩ | ⟨a, m, c, rfl, hm, hc⟩
  · exact ⟨v, w, run_append_owned_none (P := Try.prog) (w := w) B0 49 49 46 i0 4 Try.underlying49 hi v A.length (flat2 A) hA, by simpa using hA, Apart.refl _ _⟩
  · obtain ⟨v', w', hrun, r1, r2, _⟩ := run_append_own (P := Try.prog) w B0 49 49 46 i0 _ 4 32 Try.underlying49 hi hz0 hz1 hz2 rfl (by decide) v A.length (flat2 A) hA a m c (flat2 Bs) (by rw [flat2_length, hm]) hc (flat2_one Bs) (by unfold maxLen; omega) (by omega) hB
    refine ⟨v', w', hrun, ?_, apart_grown r2⟩
    have e : flat2 A ++ flat2 Bs = flat2 (A ++ Bs) := by simp [flat2]
    rw [← e, List.length_append, hm]; exact r1
theorem own_shape {w : World} {B n : Nat} {v : Value} {xs : List Value} (h : w.ownsRow B 46 4 v n xs) : ∃ p c, v = .slice p n c := by
  obtain ⟨hl, ⟨hv, hz⟩ | ⟨g, cap, cur, rfl, hb, hr, hle, _⟩⟩ := h
  · exact ⟨none, 0, by rw [hv, hz]⟩
  · exact ⟨_, cap, rfl⟩
theorem own_shape2 {w : World} {B n : Nat} {v : Value} {xs : List Value} (h : w.ownsRow B 46 4 v n xs) : (v = .slice none 0 0 ∧ n = 0) ∨ ∃ g c, v = .slice (some ⟨g, 0, none⟩) n c ∧ B ≤ g ∧ n ≤ c := by
  obtain ⟨hl, ⟨hv, hz⟩ | ⟨g, cap, cur, rfl, hb, hr, hle, _⟩⟩ := h
  · exact .inl ⟨hv, hz⟩
  · exact .inr ⟨g, cap, rfl, hb, hle⟩
theorem own_blockB {w : World} {B n : Nat} {v : Value} {xs : List Value} (h : w.ownsRow B 46 4 v n xs) : ∀ k, v.ownBlock = some k → B ≤ k ∧ k < w.heap.size := by
  intro k hk
  have := h.lt k hk
  exact this
theorem flat2_app (a b : List E) : flat2 (a ++ b) = flat2 a ++ flat2 b := by simp [flat2]
/-- part of an own list, read -/
theorem src_take {w : World} {B g c : Nat} {ol : List E} (h : w.ownsRow B 46 4 (.slice (some ⟨g, 0, none⟩) ol.length c) ol.length (flat2 ol)) (k cc : Nat) (hk : k ≤ ol.length) : Src w (.slice (some ⟨g, 0, none⟩) k cc) (ol.take k) := by
  refine .inr ⟨_, _, _, rfl, by simp; omega, fun j u hu => ?_⟩
  have e : flat2 ol = flat2 (ol.take k) ++ flat2 (ol.drop k) := by
    rw [← flat2_app, List.take_append_drop]
  have hj : j < (flat2 (ol.take k)).length := (List.getElem?_eq_some_iff.1 hu).1
  refine h.cells rfl j u ?_
  rw [e, List.getElem?_append_left hj]; exact hu
theorem src_drop {w : World} {B g c : Nat} {ol : List E} (h : w.ownsRow B 46 4 (.slice (some ⟨g, 0, none⟩) ol.length c) ol.length (flat2 ol)) (k cc : Nat) (hk : k ≤ ol.length) : Src w (.slice (some ⟨g, k * 4, none⟩) (ol.length - k) cc) (ol.drop k) := by
  refine .inr ⟨_, _, _, rfl, by simp, fun j u hu => ?_⟩
  have e : flat2 ol = flat2 (ol.take k) ++ flat2 (ol.drop k) := by
    rw [← flat2_app, List.take_append_drop]
  have hlen : (flat2 (ol.take k)).length = k * 4 := by rw [flat2_length]; simp; omega
  have := h.cells rfl (k * 4 + j) u (by rw [e, List.getElem?_append_right (by omega), hlen, show k * 4 + j - k * 4 = j by omega]; exact hu)
  have e2 : (Addr.add ⟨g, 0, none⟩ (k * 4 + j)) = Addr.add ⟨g, k * 4, none⟩ j := by
    by_cases h1 : j = 0
    · subst h1
      by_cases h2 : k = 0
      · subst h2; simp [Addr.add]
      · simp [Addr.add, h2]; omega
    · simp [Addr.add, h1]
  rw [← e2]; exact this
/-- a thing put behind all that are not greater -/
theorem ins_up {ol : List E} {e : E} {k : Nat} (up : Up ol) (ha : ∀ x ∈ ol, x.a < e.a) (hk : k ≤ ol.length) (hb : ∀ j, k ≤ j → j < ol.length → e.r < (g ol j).r) (hf : k = 0 ∨ (g ol (k - 1)).r ≤ e.r) : Up (ol.take k ++ [e] ++ ol.drop k) := by
  unfold Up at *
  have hu := up
  rw [← List.take_append_drop k ol, List.pairwise_append] at hu
  obtain ⟨h1, h2, h3⟩ := hu
  have mT : ∀ x ∈ ol.take k, x.r ≤ e.r ∧ x.a < e.a := by
    intro x hx
    refine ⟨?_, ha x ((List.take_sublist _ _).subset hx)⟩
    obtain ⟨j, hj, rfl⟩ := List.getElem_of_mem hx
    have hj' : j < k := by simp at hj; omega
    rcases hf with h | h
    · omega
    · rw [List.getElem_take]
      by_cases e1 : j = k - 1
      · subst e1; rw [g_eq _ _ (by omega)] at h; exact h
      · have := List.pairwise_iff_getElem.1 up j (k - 1) (by omega) (by omega) (by omega)
        rw [lex_false] at this
        rw [g_eq _ _ (by omega)] at h
        omega
  have mD : ∀ x ∈ ol.drop k, e.r < x.r := by
    intro x hx
    obtain ⟨j, hj, rfl⟩ := List.getElem_of_mem hx
    rw [List.getElem_drop]
    have hj' : k + j < ol.length := by simp at hj; omega
    have := hb (k + j) (by omega) hj'
    rw [g_eq _ _ hj'] at this; exact this
  rw [List.append_assoc, List.pairwise_append]
  refine ⟨h1, ?_, fun x hx y hy => ?_⟩
  · rw [List.singleton_append, List.pairwise_cons]
    refine ⟨fun y hy => ?_, h2⟩
    rw [lex_false]; have := mD y hy; omega
  · simp at hy
    rcases hy with rfl | hy
    · rw [lex_false]; have := mT x hx; omega
    · exact h3 x hx y hy
theorem ins_perm {ol L : List E} {i k : Nat} (p : ol.Perm (L.take i)) (hi : i < L.length) : (ol.take k ++ [g L i] ++ ol.drop k).Perm (L.take (i + 1)) := by
  have e : L.take (i + 1) = L.take i ++ [g L i] := by rw [List.take_add_one, List.getElem?_eq_getElem hi, g_eq _ _ hi]; rfl
  rw [e]
  have h1 : (ol.take k ++ [g L i] ++ ol.drop k).Perm (ol ++ [g L i]) := by
    rw [List.append_assoc]
    refine (List.Perm.append_left _ (List.perm_append_comm)).trans ?_
    rw [← List.append_assoc, List.take_append_drop]
  exact h1.trans (p.append_right _)
/-- the three appends of a round -/
structure InsR (wr w4 : World) (v3 : Value) (ol : List E) (e : E) (k : Nat) : Prop where
  own : w4.ownsRow wr.heap.size 46 4 v3 (ol.take k ++ [e] ++ ol.drop k).length (flat2 (ol.take k ++ [e] ++ ol.drop k))
  ap : Apart [] wr w4
theorem ins_runs (wr : World) (B : Nat) (v : Value) (ol : List E) (ho : wr.ownsRow B 46 4 v ol.length (flat2 ol)) (e : E) (k : Nat) (hk : k ≤ ol.length) (hl : ol.length ≤ 1200000) (s1 s2 : Value)
    (hs1 : ∀ X, Apart [] wr X → Src X s1 (ol.take k)) (hs2 : ∀ X, Apart [] wr X → Src X s2 (ol.drop k)) :
    ∃ v1 w1 v2 w3 v3 w4, (Builtin.append_ #[49, 49] 49 #[.slice none 0 0, s1]).run Try.prog wr = .ok v1 w1 ∧ Apart [] wr w1 ∧
      (Builtin.append_ #[49, 49] 49 #[v1, .slice (some ⟨w1.heap.size, 0, none⟩) 1 1]).run Try.prog (w1.alloc (.cells #[.int .i64 e.r, .int .i64 e.m, .int .i64 e.k, .int .i64 e.c] 46)) = .ok v2 w3 ∧ Apart [] wr w3 ∧
      (Builtin.append_ #[49, 49] 49 #[v2, s2]).run Try.prog w3 = .ok v3 w4 ∧ InsR wr w4 v3 ol e k := by
  obtain ⟨v1, w1, q1, o1, a1⟩ := app_src wr wr.heap.size (.slice none 0 0) [] (World.ownsRow_nil wr _ 46 4) s1 (ol.take k) (hs1 wr (Apart.refl _ _)) (Nat.le_refl _) (by simp; omega)
  rw [List.nil_append] at o1
  have A1 : Apart [] wr w1 := a1.mono (by simp [Value.ownBlock])
  have aw : Apart [] w1 (w1.alloc (.cells #[.int .i64 e.r, .int .i64 e.m, .int .i64 e.k, .int .i64 e.c] 46)) := (Apart.refl _ _).alloc _
  obtain ⟨v2, w3, q2, o2, a2⟩ := app_src (w1.alloc (.cells #[.int .i64 e.r, .int .i64 e.m, .int .i64 e.k, .int .i64 e.c] 46)) wr.heap.size v1 (ol.take k) (own_apart o1 aw (by simp)) (.slice (some ⟨w1.heap.size, 0, none⟩) 1 1) [e] (.inr ⟨_, _, _, rfl, rfl, fun j u hj => by
    have : flat2 [e] = [.int .i64 e.r, .int .i64 e.m, .int .i64 e.k, .int .i64 e.c] := by simp [flat2, ec2]
    rw [this] at hj
    match j, hj with
    | 0, hj => (simp at hj; subst hj; simp [Addr.add])
    | 1, hj => (simp at hj; subst hj; simp [Addr.add])
    | 2, hj => (simp at hj; subst hj; simp [Addr.add])
    | 3, hj => (simp at hj; subst hj; simp [Addr.add])⟩) (Nat.le_trans A1.size aw.size) (by simp; omega)
  have A3 : Apart [] wr w3 := (A1.trans aw).trans' a2 (fun y hy => .inr (own_blockB o1 y (by simpa using hy)).1)
  obtain ⟨v3, w4, q3, o3, a3⟩ := app_src w3 wr.heap.size v2 (ol.take k ++ [e]) o2 s2 (ol.drop k) (hs2 w3 A3) A3.size (by simp; omega)
  exact ⟨v1, w1, v2, w3, v3, w4, q1, A1, q2, A3, q3, o3, A3.trans' a3 (fun y hy => .inr (own_blockB o2 y (by simpa using hy)).1)⟩
end Go.Proofs.Ytopmhacnopfifaa.tm
