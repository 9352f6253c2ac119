import Derived.Test.YtdbeeikjngnnnaaGreatChecked
import Derived.WalkKit
import Derived.ProofKit
import Derived.OpenShut
import Derived.Deep.QuietTactic
import Derived.BigQuiet
import Derived.BigRegion
import Derived.Laws.CopyOwn
import Derived.Laws.IdiomCopy
import Derived.WalkSmall
import Derived.Laws.ResultCell
import Derived.Laws.AppendOwnNone
import Derived.Deep.RegionHeld
import Derived.Deep.DeepAppendRoom
import Derived.Great.BuildSlice
import Derived.Deep.CutBlock
import Derived.Deep.RegionLaw
import Derived.ArgAppend
import Derived.Laws.Strings
import Derived.Laws.StructEq
import Derived.Below
import Derived.Deep.MidRow
import Derived.Great.Ranges
import Derived.Deep.RegionHeld3
import Derived.Laws.NewBlocks
import Derived.OrdersHeld
import Derived.Stop.BytesEq
import Derived.Laws.BytesString
import Derived.Lib.ConvBytes
import Derived.Laws.BitsAllLaws
import Derived.WalkLawsBesides
import Derived.Lib.Bytealg
import Derived.Laws.Externs
import Derived.Lib.SliceRun
import Derived.Lib.AppendZerosOnto
import Derived.Lib.AppendStr
import Derived.Lib.SlBytesConst
import Derived.Sort.Walk0
import Derived.Laws.Cover1
import Derived.Lib.Strings
import Derived.Lib.MinMaxS
import GoSem.Claim
import GoSem.ClaimJoined
import GoSem.ClaimMapViews
import Derived.JoinedTies
import Derived.KernelRfl
import Derived.JoinedCond
import Derived.ShutString
import Derived.ChangeOld
import Derived.Carry
import Derived.ChangeSlices
import Derived.Deep.Slices
import Derived.Deep.DeepHandedRow
import Derived.RowKit
import Derived.ChangeShapes
import Derived.SizedLaws
import Derived.ChangeMaps5
import Derived.Sort.WalkA
import Derived.Test.YtdbeeikjngnnnaaGreatRows
import Derived.Test.YtdbeeikjngnnnaaGreatV23
import Derived.Test.YtdbeeikjngnnnaaGreatV24
import Derived.Test.YtdbeeikjngnnnaaGreatV36
namespace Go.Proofs.YtdbeeikjngnnnaaGreat.ty
open Go.ChangeShapes Go.WideShapes Go.ChangeAt Go.RowKit
set_option linter.unusedVariables false
set_option linter.unusedSimpArgs false
theorem setM_heap {w : World} {g o : Nat} {cur : Array Value} {t : Nat} {m : Nat × Nat} (h : w.heap[g]? = some (.cells cur t m)) (v : Value) : (w.setCell ⟨g, o, none⟩ v).heap[g]? = some (.cells (cur.setIfInBounds o v) t m) := by
  rw [setCell_eq_setRow w g o cur t m v h]
  exact setRow_heap w g cur _ t m h
theorem setCellsM (g : Nat) (t : Nat) (m : Nat × Nat) (M : Value) : ∀ (c o : Nat) (w : World) (cur : Array Value), w.heap[g]? = some (.cells cur t m) → ∃ cur', (w.setCells g o (List.replicate c M)).heap[g]? = some (.cells cur' t m) ∧ cur'.size = cur.size ∧ (∀ j, cur'[j]? = if o ≤ j ∧ j < o + c ∧ j < cur.size then some M else cur[j]?) ∧ Apart [g] w (w.setCells g o (List.replicate c M))
  | 0, o, w, cur, h => ⟨cur, h, rfl, fun j => by rw [if_neg (by omega)], Apart.refl _ _⟩
  | c + 1, o, w, cur, h => by
    obtain ⟨cur', h1, h2, h3, h4⟩ := setCellsM g t m M c (o + 1) (w.setCell ⟨g, o, none⟩ M) _ (setM_heap h M)
    refine ⟨cur', h1, by rw [h2]; simp, fun j => ?_, ((Apart.refl [g] w).setCell (.inl (by simp)) _).trans h4⟩
    rw [h3 j]
    simp only [Array.size_setIfInBounds, Array.getElem?_setIfInBounds]
    by_cases e : o = j
    · subst e
      by_cases hl : o < cur.size
      · rw [if_neg (by omega), if_pos rfl, if_pos hl, if_pos ⟨by omega, by omega, hl⟩]
      · rw [if_neg (by omega), if_pos rfl, if_neg hl, if_neg (by omega)]
        rw [Array.getElem?_eq_none (by omega)]
    · rw [if_neg e]
      by_cases hc : o + 1 ≤ j ∧ j < o + 1 + c ∧ j < cur.size
      · rw [if_pos hc, if_pos (by omega)]
      · rw [if_neg hc, if_neg (by omega)]
/-- bytes that may be written, the first i of them M -/
def Wv (B : Nat) (w : World) (b : Sl) (i M : Nat) : Prop := (b.p = none ∧ b.n = 0 ∧ b.c = 0) ∨ ∃ g cur m, b.p = some ⟨g, 0, none⟩ ∧ B ≤ g ∧ w.heap[g]? = some (.cells cur 5 m) ∧ (m = (0, 0) ∨ cur.size ≤ m.1) ∧ cur.size = b.c ∧ b.n ≤ b.c ∧ ∀ j, j < i → cur[j]? = some (.int .u8 (M : Int))
theorem Wq.wv {B : Nat} {w : World} {b : Sl} (h : Wq B w b) (M : Nat) : Wv B w b 0 M := by
  rcases h with h | ⟨g, cur, m, h1, h2, h3, h4, h5, h6⟩
  · exact .inl h
  · exact .inr ⟨g, cur, m, h1, h2, h3, h4, h5, h6, fun j hj => by omega⟩
theorem frz {w : World} {g j : Nat} {cur : Array Value} {t : Nat} {m : Nat × Nat} (h : w.heap[g]? = some (.cells cur t m)) (hm : m = (0, 0) ∨ cur.size ≤ m.1) (hj : j < cur.size) : w.frozen? ⟨g, j, none⟩ = false := by
  obtain ⟨lo, hi⟩ := m
  simp only [World.frozen?, h, Bool.and_eq_false_iff, decide_eq_false_iff_not]
  rcases hm with hm | hm
  · simp only [Prod.mk.injEq] at hm
    right; omega
  · left
    simp only at hm
    omega
theorem Wv.set {B : Nat} {w : World} {b : Sl} {i M : Nat} (h : Wv B w b i M) (hi : i < b.n) : ∃ g u, b.p = some ⟨g, 0, none⟩ ∧ B ≤ g ∧ w.cell? ⟨g, i, none⟩ = some u ∧ w.frozen? ⟨g, i, none⟩ = false ∧ Wv B (w.setCell ⟨g, i, none⟩ (.int .u8 (M : Int))) b (i + 1) M := by
  rcases h with ⟨-, h, -⟩ | ⟨g, cur, m, h1, h2, h3, h4, h5, h6, h7⟩
  · omega
  · refine ⟨g, _, h1, h2, (cell_of_row _ _ _ _ _ _ h3).trans (Array.getElem?_eq_getElem (by omega)), frz h3 h4 (by omega), .inr ⟨g, _, m, h1, h2, setM_heap h3 _, ?_, by simp [h5], h6, fun j hj => ?_⟩⟩
    · rcases h4 with h4 | h4
      · exact .inl h4
      · exact .inr (by simpa using h4)
    · rw [Array.getElem?_setIfInBounds]
      by_cases e : i = j
      · rw [if_pos e, if_pos (by omega)]
      · rw [if_neg e]; exact h7 j (by omega)
theorem Wv.kept {B : Nat} {w w' : World} {b : Sl} {i M : Nat} (h : Wv B w b i M) (a : Apart [] w w') : Wv B w' b i M := by
  rcases h with h | ⟨g, cur, m, h1, h2, h3, h4⟩
  · exact .inl h
  · exact .inr ⟨g, cur, m, h1, h2, (a.block g (lt_of_heapM h3) (by simp)).trans h3, h4⟩
theorem Wv.rdT {B : Nat} {w : World} {b : Sl} {i M : Nat} (h : Wv B w b i M) {n : Nat} (hn : n ≤ i) (hb : n ≤ b.n) : RdT w b.p 5 (byts (List.replicate n M)) := by
  intro h0
  rcases h with ⟨-, h, -⟩ | ⟨g, cur, m, h1, h2, h3, h4, h5, h6, h7⟩
  · simp [byts] at h0; omega
  · refine ⟨g, 0, h1, ⟨cur, m, h3⟩, fun j u hj => ?_⟩
    have hl := (List.getElem?_eq_some_iff.1 hj).1
    simp [byts] at hl
    rw [Nat.zero_add, cell_of_row _ _ _ _ _ _ h3, h7 j (by omega)]
    simp only [byts, List.getElem?_map, List.getElem?_replicate, if_pos hl, Option.map_some] at hj
    exact hj
theorem Wv.of_bf {wB w : World} {s : Sl} {us : List Nat} {n M : Nat} (h : Bf wB w s us) (e : us = List.replicate n M) : Wv wB.heap.size w s n M := by
  have hl := h.len
  obtain ⟨ho, ⟨hv, hz⟩ | ⟨g, cap, cur, hv, hb, hr, hle, hm, hs, ht⟩⟩ := h.nw.own
  · simp only [Sl.v, Value.slice.injEq] at hv
    exact .inl hv
  · have hv' := hv
    simp only [Sl.v, Value.slice.injEq] at hv'
    refine .inr ⟨g, cur, (0, 0), hv'.1, h.nw.new g (by rw [hv]; rfl), hr, .inl rfl, by rw [hs, hv'.2.2, Nat.mul_one], by rw [hv'.2.2]; exact hle, fun j hj => ?_⟩
    have hsn : s.n = n := by rw [hl, e, List.length_replicate]
    have e1 : (cur.toList.take (s.n * 1))[j]? = cur[j]? := by rw [List.getElem?_take_of_lt (by omega)]; simp
    rw [← e1, ht, e]
    simp [byts, hj]
theorem rd_news (w : World) (c M : Nat) : ∀ j u, (byts (List.replicate c M))[j]? = some u → (w.alloc (.cells (byts (List.replicate c M)).toArray 5)).cell? ((⟨w.heap.size, 0, none⟩ : Addr).add j) = some u := by
  intro j u hj
  rw [Addr.add_lit, Nat.zero_add, cell_of_row _ _ _ _ _ _ (heap_alloc_new w (.cells (byts (List.replicate c M)).toArray 5))]
  simpa using hj
/-- c bytes M more -/
theorem Wv.app {B : Nat} {w : World} {s : Sl} {M : Nat} (h : Wv B w s s.n M) (c : Nat) (h0 : 0 < c) (hl : s.n + c ≤ 1000000) (hB : B ≤ w.heap.size) : ∃ s' W', (Builtin.append_ #[29, 29] 29 #[.slice s.p s.n s.c, .slice (some ⟨w.heap.size, 0, none⟩) c c]).run Tryz.prog (w.alloc (.cells (byts (List.replicate c M)).toArray 5)) = .ok (.slice (Sl.p s') (Sl.n s') (Sl.c s')) W' ∧ Wv B W' s' s'.n M ∧ s'.n = s.n + c ∧ ((s'.p = s.p ∧ (∃ g, s.p = some ⟨g, 0, none⟩) ∧ ∀ g, s.p = some ⟨g, 0, none⟩ → Apart [g] w W') ∨ (∃ k, s'.p = some ⟨k, 0, none⟩ ∧ w.heap.size ≤ k ∧ k < W'.heap.size ∧ Apart [] w W')) := by
  obtain ⟨i0, hi, hz0, hz1, hz2⟩ := info_of info5
  have hnews := rd_news w c M
  have hlen : (byts (List.replicate c M)).length = c := by simp [byts]
  have one := oneB (List.replicate c M)
  have a1 : Apart [] w (w.alloc (.cells (byts (List.replicate c M)).toArray 5)) := (Apart.refl [] w).alloc _
  have fin : ∀ {v' : Value} {W' : World}, W'.ownsRow (w.alloc (.cells (byts (List.replicate c M)).toArray 5)).heap.size 5 1 v' (s.n + c) (byts (List.replicate s.n M) ++ byts (List.replicate c M)) → (w.alloc (.cells (byts (List.replicate c M)).toArray 5)).grownBy W' none → ∃ s' : Sl, v' = .slice s'.p s'.n s'.c ∧ Wv B W' s' s'.n M ∧ s'.n = s.n + c ∧ ∃ k, s'.p = some ⟨k, 0, none⟩ ∧ w.heap.size ≤ k ∧ k < W'.heap.size ∧ Apart [] w W' := by
    intro v' W' ho hg
    have ap : Apart [] w W' := a1.trans (by have := apart_grown hg; simpa using this)
    obtain ⟨hxl, ⟨hv, hz⟩ | ⟨g, cap, cur, hv, hb, hr, hle, hm, hs, ht⟩⟩ := ho
    · omega
    · refine ⟨⟨some ⟨g, 0, none⟩, s.n + c, cap⟩, hv, .inr ⟨g, cur, (0, 0), rfl, ?_, hr, .inl rfl, by rw [hs, Nat.mul_one], hle, fun j hj => ?_⟩, rfl, g, rfl, ?_, lt_of_heap hr, ap⟩
      · have := a1.size; omega
      · have hj2 : j < s.n + c := hj
        have e1 : (cur.toList.take ((s.n + c) * 1))[j]? = cur[j]? := by rw [List.getElem?_take_of_lt (by omega)]; simp
        rw [← e1, ht, ← byts_app, List.replicate_append_replicate]
        simp [byts, hj2]
      · have := a1.size; omega
  have h' := h
  rcases h with ⟨h1, h2, h3⟩ | ⟨g, cur, m, h1, h2, h3, h4, h5, h6, h7⟩
  · obtain ⟨v', W', hrun, r1, r2, _⟩ := run_append_own (P := Tryz.prog) (w.alloc (.cells (byts (List.replicate c M)).toArray 5)) (w.alloc (.cells (byts (List.replicate c M)).toArray 5)).heap.size 29 29 5 i0 _ 1 1 Tryz.underlying29 hi hz0 hz1 hz2 rfl (by decide) (.slice none 0 0) 0 [] (World.ownsRow_nil _ _ 5 1) ⟨w.heap.size, 0, none⟩ c c (byts (List.replicate c M)) (by rw [hlen, Nat.mul_one]) hnews one (by unfold maxLen; omega) (by omega) (Nat.le_refl _)
    obtain ⟨s', e, k1, k2, k3⟩ := fin (by rw [h2]; simpa [byts] using r1) (by simpa [Value.ownBlock] using r2)
    exact ⟨s', W', by rw [h1, h2, h3, ← e]; exact hrun, k1, k2, .inr k3⟩
  · have h3' : (w.alloc (.cells (byts (List.replicate c M)).toArray 5)).heap[g]? = some (.cells cur 5 m) := (a1.block g (lt_of_heapM h3) (by simp)).trans h3
    by_cases hroom : s.n + c ≤ s.c
    · have hrun := run_append_room_cells (P := Tryz.prog) (w.alloc (.cells (byts (List.replicate c M)).toArray 5)) 29 29 5 i0 Tryz.underlying29 hi g 0 s.n s.c ⟨w.heap.size, 0, none⟩ c c (byts (List.replicate c M)) (by rw [hlen, hz1, Nat.mul_one]) hnews one hroom (fun j hj => by
        rw [hlen] at hj
        rw [hz1, Nat.mul_one, Nat.zero_add, cell_of_row _ _ _ _ _ _ h3', Array.getElem?_eq_getElem (by omega)]; rfl) (fun j hj => by
        rw [hlen] at hj
        rw [hz1, Nat.mul_one, Nat.zero_add]
        exact frz h3' h4 (by omega))
      rw [hz1, Nat.mul_one, Nat.zero_add] at hrun
      have eb : byts (List.replicate c M) = List.replicate c (Value.int .u8 (M : Int)) := by simp [byts]
      obtain ⟨cur', k1, k2, k3, k4⟩ := setCellsM g 5 m (.int .u8 (M : Int)) c s.n _ _ h3'
      rw [← eb] at k1 k4
      refine ⟨⟨s.p, s.n + c, s.c⟩, _, by rw [h1]; exact hrun, .inr ⟨g, cur', m, h1, h2, k1, ?_, by rw [k2]; exact h5, hroom, fun j hj => ?_⟩, rfl, .inl ⟨rfl, ⟨g, h1⟩, fun g' hg' => ?_⟩⟩
      · rw [k2]; exact h4
      · have hj2 : j < s.n + c := hj
        rw [k3 j]
        by_cases e : s.n ≤ j
        · rw [if_pos ⟨e, hj2, by omega⟩]
        · rw [if_neg (by omega)]; exact h7 j (by omega)
      · rw [h1] at hg'
        obtain rfl : g = g' := by simpa using hg'
        exact (a1.mono (by simp)).trans k4
    · obtain ⟨v', W', hrun, r1, r2⟩ := run_append_arg_grows (P := Tryz.prog) (w.alloc (.cells (byts (List.replicate c M)).toArray 5)) 29 29 5 i0 _ 1 1 Tryz.underlying29 hi hz0 hz1 hz2 rfl (by decide) ⟨g, 0, none⟩ s.n s.c (byts (List.replicate s.n M)) (by simp [byts]) (fun j u hj => by
        have hl := (List.getElem?_eq_some_iff.1 hj).1
        simp [byts] at hl
        rw [Addr.add_lit, Nat.zero_add, cell_of_row _ _ _ _ _ _ h3', h7 j (by omega)]
        simp only [byts, List.getElem?_map, List.getElem?_replicate, if_pos hl, Option.map_some] at hj
        exact hj) ⟨w.heap.size, 0, none⟩ c c (byts (List.replicate c M)) (by rw [hlen, Nat.mul_one]) hnews (by omega) (by unfold maxLen; omega) (by omega)
      obtain ⟨s', e, k1, k2, k3⟩ := fin r1 r2
      exact ⟨s', W', by rw [h1, ← e]; exact hrun, k1, k2, .inr k3⟩
end Go.Proofs.YtdbeeikjngnnnaaGreat.ty
namespace Go.Proofs.YtdbeeikjngnnnaaGreat.ty
open Go.ChangeShapes Go.WideShapes Go.ChangeAt Go.RowKit
set_option linter.unusedVariables false
set_option linter.unusedSimpArgs false
variable {wB w w' w2 : World} {T k : Nat} {p r : Nat → Nat} {v : Nat → Vl} {ts : Nat → List Tg} {H L : List Sl} {sH sL : Sl} {h : Nat → Prop}
def lenS : Value → Nat
  | .slice _ n _ => n
  | _ => 0
theorem ownp {a b : Sl} (e : a.p = b.p) : a.v.ownBlock = b.v.ownBlock := by
  unfold Sl.v
  rw [e]
  cases b.p <;> rfl
/-- b and far while far grows -/
def HbP (w wt : World) (b far : Sl) (M : Nat) : Prop := RdT wt b.p 5 (byts (List.replicate b.n M)) ∧ Apart b.v.ownBlock.toList w wt ∧ (far.p = b.p ∨ ∃ g, far.p = some ⟨g, 0, none⟩ ∧ w.heap.size ≤ g ∧ b.v.ownBlock ≠ some g) ∧ ∀ P, b.v.ownBlock = some P → ∃ cur m, wt.heap[P]? = some (.cells cur 5 m)
/-- what keep leaves -/
structure KP (w w' : World) (T : Nat) (sH sH' b : Sl) (h h' : Nat → Prop) : Prop where
  ap : Apart (T :: (sH.v.ownBlock.toList ++ b.v.ownBlock.toList)) w w'
  hs : ∀ P, h' P → h P ∨ b.v.ownBlock = some P ∨ w.heap.size ≤ P
  own : ∀ P, sH'.v.ownBlock = some P → sH.v.ownBlock = some P ∨ w.heap.size ≤ P
theorem Wv.own {B : Nat} {w : World} {b : Sl} {i M : Nat} (h : Wv B w b i M) {P : Nat} (hP : b.v.ownBlock = some P) : b.p = some ⟨P, 0, none⟩ ∧ B ≤ P ∧ ∃ cur m, w.heap[P]? = some (.cells cur 5 m) := by
  rcases h with ⟨h1, -⟩ | ⟨g, cur, m, h1, h2, h3, -⟩
  · rw [Sl.v, h1] at hP; simp [Value.ownBlock] at hP
  · have e : b.v.ownBlock = some g := by rw [Sl.v, h1]; rfl
    rw [e] at hP
    obtain rfl : g = P := by simpa using hP
    exact ⟨h1, h2, cur, m, h3⟩
set_option maxHeartbeats 4000000 in
set_option maxRecDepth 100000 in
theorem keep_ok (t : Tb wB w T k p r v ts H L sH sL h) {b : Sl} (qb : Wq wB.heap.size w b) (nb : ∀ g, b.v.ownBlock = some g → ¬ h g ∧ sH.v.ownBlock ≠ some g) (hbn : b.n ≤ 100000) (hH : H.length ≤ 600000000) : Calls Tryz.prog 26 #[.pointer (some ⟨T, 0, none⟩), .slice b.p b.n b.c] w fun x w' => x = .returned (.tuple #[]) ∧ ∃ (far sH' : Sl) (h' : Nat → Prop), Tb wB w' T k p r v ts (H ++ [b, far]) L sH' sL h' ∧ KP w w' T sH sH' b h h' ∧ far.n ≤ b.n + 80 := by
  obtain ⟨q, hq⟩ := t.ev
  have z9 := t.ch
  have hsn : sH.n = 2 * q := by rw [t.hn, hq]
  rw [hsn] at z9
  have hq3 : q ≤ 300000000 := by omega
  obtain ⟨M, HM⟩ : ∃ M, Hid (M = q % 250 + 1) := ⟨_, hid rfl⟩
  have HMk : Hid (mkN (H.length / 2) = M) := hid (by rw [HM.out, hq, mkN]; congr 2; omega)
  have eM : ((q : Int) % 250 + 1) = (M : Int) := by rw [HM.out]; omega
  have HT := hid t
  have HV0 := hid (qb.wv M)
  have HV0x := hid (qb.wv M)
  have HNB := hid nb
  have HH := hid hH
  obtain ⟨n, Hn⟩ : ∃ n, Hid (n = b.n) := ⟨_, hid rfl⟩
  have hn1 : n ≤ 100000 := by rw [Hn.out]; exact hbn
  have HA0 : Hid (Apart b.v.ownBlock.toList w w) := hid (Apart.refl _ _)
  have HXb : Hid (∀ P ∈ b.v.ownBlock.toList, Fr w sH h P ∧ wB.heap.size ≤ P) := hid (fun P hP => by
    have hP' : b.v.ownBlock = some P := by simpa using hP
    obtain ⟨h1, h2, cur, m, h3⟩ := HV0.out.own hP'
    exact ⟨⟨⟨cur, m, .inl h3⟩, (nb P hP').1, (nb P hP').2⟩, h2⟩)
  clear t qb nb hbn hH hq
  rw [← Hn.out]
  go_enter Tryz.func26, Tryz.ntmps26
  go_upto_region 1 with fail
  clear eM z9
  go_wp2_with fail
  go_loopw [5] (fun v5 wt => ∃ i : Nat, v5 = .int .i64 (i : Int) ∧ i ≤ n ∧ Hid (Wv wB.heap.size wt b i M) ∧ Hid (Apart b.v.ownBlock.toList w wt)) (fun v5 _ => n - natV v5)
  case atStart => exact ⟨0, rfl, Nat.zero_le _, HV0, HA0⟩
  case round =>
    clear HV0 HA0
    obtain ⟨i, rfl, hi, HV, HA⟩ := hrel
    generalize wr = wt at *
    by_cases hlt : i < n
    · have hlti : ((i : Nat) : Int) < ((n : Nat) : Int) := by omega
      obtain ⟨g, u, hp, hg, hz, hf, hset⟩ := HV.out.set (by rw [← Hn.out]; exact hlt)
      have HP := hid hp
      have HS := hid hset
      have HA2 : Hid (Apart b.v.ownBlock.toList w (wt.setCell ⟨g, i, none⟩ (.int .u8 (M : Int)))) := hid (HA.out.setCell (.inl (by rw [Sl.v, hp]; simp [Value.ownBlock])) _)
      clear hp hset hg
      go_wp2_with (refine wpL_val rfl (.pointer (some ⟨g, i, none⟩)) (ex_idx29 _ _ g rfl rfl HP.out rfl hlt) ?_)
      exact ⟨⟨i + 1, by go_num, by omega, HS, HA2⟩, by simp [natV]; omega⟩
    · have hlti : ¬ ((i : Nat) : Int) < ((n : Nat) : Int) := by omega
      obtain rfl : i = n := by omega
      have HTt := hid (HT.out.kept HA.out HXb.out)
      have HBl : Hid (wB.heap.size ≤ wt.heap.size) := hid HTt.out.ap.size
      obtain ⟨far, w3, hrun, v3, l3, or3⟩ := Wv.app (M := M) (by rw [← Hn.out]; exact HV.out) 2 (by omega) (by rw [← Hn.out]; omega) HBl.out
      have e2 : (byts (List.replicate 2 M)).toArray = #[.int .u8 (M : Int), .int .u8 (M : Int)] := rfl
      rw [e2] at hrun
      rw [← Hn.out] at hrun l3
      have HR := hid hrun
      have HV3 := hid v3
      have Hl3 := hid l3
      -- what is held of b and of far, with what has changed
      have HI3 : Hid (HbP w w3 b far M) := hid (by
        rcases or3 with ⟨o1, ⟨g, o2⟩, o3⟩ | ⟨g, o1, o2, o3, o4⟩
        · refine ⟨?_, ?_, .inl o1, fun P hP => by obtain ⟨-, -, e⟩ := v3.own (P := P) (by rw [ownp o1]; exact hP); exact e⟩
          · rw [← o1]
            exact v3.rdT (by rw [l3]; have := Hn.out; omega) (by rw [l3]; have := Hn.out; omega)
          · have e : b.v.ownBlock.toList = [g] := by rw [Sl.v, o2]; rfl
            have h1 := o3 g o2
            rw [e]
            have h2 := HA.out
            rw [e] at h2
            exact h2.trans h1
        · refine ⟨(HV.out.rdT (by have := Hn.out; omega) (by have := Hn.out; omega)).kept o4 (by simp), HA.out.trans (o4.mono (by simp)), .inr ⟨g, o1, Nat.le_trans HA.out.size o2, fun e => ?_⟩, fun P hP => by obtain ⟨-, -, e⟩ := (HV.out.kept o4).own hP; exact e⟩
          obtain ⟨-, -, cur, m, e3⟩ := HV.out.own e
          have := lt_of_heapM e3
          omega)
      clear hrun v3 l3 or3 e2
      go_upto_region 6 with (refine wpList_append3 rfl _ _ 29 rfl _ _ rfl rfl (.slice far.p far.n far.c) w3 HR.out ?_)
      clear HR HTt HBl HV HA
      go_loopw [6] (fun v6 wt => ∃ (j : Nat) (far : Sl), v6 = .slice far.p (i + 2 + j) far.c ∧ j ≤ 78 ∧ Hid (far.n = i + 2 + j) ∧ Hid (Wv wB.heap.size wt far far.n M) ∧ Hid (HbP w wt b far M)) (fun v6 _ => i + 80 - lenS v6)
      case atStart => exact ⟨0, far, by rw [Hl3.out], by omega, Hl3, HV3, HI3⟩
      case round =>
        clear HV3 HI3 Hl3
        obtain ⟨j, f2, rfl, hj, Hfn, HV, HI⟩ := hrel
        generalize wr = wt2 at *
        have HTt := hid (HT.out.kept HI.out.2.1 HXb.out)
        have HBl : Hid (wB.heap.size ≤ wt2.heap.size) := hid HTt.out.ap.size
        by_cases hlt2 : j < 78
        · have hlti : ((i + 2 + j : Nat) : Int) < ((i : Nat) : Int) + 80 := by omega
          obtain ⟨f3, w4, hrun, v4, l4, or4⟩ := Wv.app HV.out 1 (by omega) (by rw [Hfn.out]; omega) HBl.out
          have e1 : (byts (List.replicate 1 M)).toArray = #[.int .u8 (M : Int)] := rfl
          rw [e1, Hfn.out] at hrun
          rw [Hfn.out] at l4
          have HR := hid hrun
          have HV4 := hid v4
          have Hl4 : Hid (f3.n = i + 2 + (j + 1)) := hid (by rw [l4]; omega)
          have HI4 : Hid (HbP w w4 b f3 M) := hid (by
            obtain ⟨i1, i2, i3, i6⟩ := HI.out
            have hbn : b.n ≤ f2.n := by rw [Hfn.out, ← Hn.out]; omega
            rcases or4 with ⟨o1, ⟨g, o2⟩, o3⟩ | ⟨g, o1, o2, o3, o4⟩
            · rcases i3 with i3 | ⟨g', i3, i4, i5⟩
              · refine ⟨?_, ?_, .inl (o1.trans i3), fun P hP => by obtain ⟨-, -, e⟩ := v4.own (P := P) (by rw [ownp (o1.trans i3)]; exact hP); exact e⟩
                · rw [← i3, ← o1]
                  exact v4.rdT (by rw [l4, ← Hfn.out]; omega) (by rw [l4, ← Hfn.out]; omega)
                · have e : b.v.ownBlock.toList = [g] := by rw [Sl.v, ← i3, o2]; rfl
                  have h1 := o3 g o2
                  rw [e]
                  rw [e] at i2
                  exact i2.trans h1
              · obtain rfl : g = g' := by rw [i3] at o2; simpa using o2.symm
                have h1 := o3 g o2
                refine ⟨fun h0 => ?_, i2.trans' h1 (fun y hy => by rw [List.mem_singleton.1 hy]; exact .inr i4), .inr ⟨g, o1.trans i3, i4, i5⟩, fun P hP => ?_⟩
                · obtain ⟨P, o, e1, ⟨cur, m, e2⟩, e3⟩ := i1 h0
                  have hPg : P ∉ [g] := fun hm => by
                    rw [List.mem_singleton.1 hm] at e1
                    exact i5 (by rw [Sl.v, e1]; rfl)
                  exact ⟨P, o, e1, ⟨cur, m, (h1.block P (lt_of_heapM e2) hPg).trans e2⟩, fun q u hq => (h1.cell (lt_of_heapM e2) hPg).trans (e3 q u hq)⟩
                · obtain ⟨cur, m, e2⟩ := i6 P hP
                  exact ⟨cur, m, (h1.block P (lt_of_heapM e2) (fun hm => i5 (by rw [← List.mem_singleton.1 hm]; exact hP))).trans e2⟩
            · refine ⟨i1.kept o4 (by simp), i2.trans (o4.mono (by simp)), .inr ⟨g, o1, Nat.le_trans i2.size o2, fun e => ?_⟩, fun P hP => by obtain ⟨cur, m, e2⟩ := i6 P hP; exact ⟨cur, m, (o4.block P (lt_of_heapM e2) (by simp)).trans e2⟩⟩
              obtain ⟨-, -, cur, m, e3⟩ := HV0x.out.own e
              have h1 := lt_of_heapM e3
              have h2 := i2.size
              omega)
          clear hrun v4 l4 or4 e1 HTt HBl
          go_wp2_with (refine wpList_append3 rfl _ _ 29 rfl _ _ rfl rfl (.slice f3.p f3.n f3.c) w4 HR.out ?_)
          exact ⟨⟨j + 1, f3, by rw [Hl4.out], by omega, Hl4, HV4, HI4⟩, by rw [Hl4.out]; simp [lenS]; omega⟩
        · have hlti : ¬ ((i + 2 + j : Nat) : Int) < ((i : Nat) : Int) + 80 := by omega
          obtain ⟨i0, hif, hz0, hz1, hz2⟩ := info_of info29
          have hsn2 : sH.n = 2 * q := hsn
          obtain ⟨s5, w5, hrun, hnw5, hs5, ap5, k5, hk5, -, hk6⟩ := run_appM (s := sH) 46 46 29 i0 _ 1 24 Tryz.underlying46 hif hz0 hz1 hz2 rfl (by decide) HTt.out.nh 2 (svs [b, f2]) (by decide) rfl svs_one (by unfold maxLen; omega) (by omega)
          have e5 : (svs [b, f2]).toArray = #[.slice b.p b.n b.c, .slice f2.p f2.n f2.c] := rfl
          have e6 : sH.v = .slice sH.p (2 * q) sH.c := by rw [Sl.v, hsn]
          rw [e5, ← Hn.out, Hfn.out, e6] at hrun
          have HR := hid hrun
          have hNw : ∀ P, s5.v.ownBlock = some P → sH.v.ownBlock = some P ∨ w.heap.size ≤ P := fun P hP => by
            rw [Sl.v, hk5] at hP
            obtain rfl : k5 = P := by simpa [Value.ownBlock] using hP
            exact hk6.imp id (fun z => Nat.le_trans HI.out.2.1.size z)
          have HN5 := hid hNw
          have hlen : H.length = 2 * q := by rw [← HTt.out.hn, hsn]
          have eb : ∀ P, b.v.ownBlock = some P → wB.heap.size ≤ P ∧ ∃ cur m, wt2.heap[P]? = some (.cells cur 5 m) := fun P hP => by
            obtain ⟨-, h2, -⟩ := HV0x.out.own hP
            exact ⟨h2, HI.out.2.2.2 P hP⟩
          have HPu := hid (HTt.out.pushH (b := b) (far := f2) (sN := s5) ap5 (by rw [svs_app]; exact hnw5) (by rw [hs5, HTt.out.hn]) (fun P hP => by
            rw [Sl.v, hk5] at hP
            obtain rfl : k5 = P := by simpa [Value.ownBlock] using hP
            exact hk6) (by rw [HMk.out]; exact HI.out.1) (by rw [HMk.out]; exact HV.out.rdT (Nat.le_refl _) (Nat.le_refl _)) eb (fun P hP => by
              obtain ⟨-, h2, cur, m, h3⟩ := HV.out.own hP
              exact ⟨h2, cur, m, h3⟩))
          have HB5 : Hid (w5.heap[T]? = some (.cells (tbC k p r sH sL).toArray 49 (0, 0))) := hid ((ap5.block T (lt_of_heap HTt.out.blk) (fun hm => by
            obtain ⟨cur, e⟩ := own_typ HTt.out.nh.own (k := T) (by simpa using hm)
            rw [HTt.out.blk] at e
            simp at e)).trans HTt.out.blk)
          have HK : Hid (KP w (w5.setCell ⟨T, 9, none⟩ (.slice s5.p s5.n s5.c)) T sH s5 b h (fun P => h P ∨ b.v.ownBlock = some P ∨ f2.v.ownBlock = some P)) := hid ⟨((HI.out.2.1.mono (fun y hy => by simp only [List.mem_cons, List.mem_append]; exact .inr (.inr hy))).trans (ap5.mono (fun y hy => by simp only [List.mem_cons, List.mem_append]; exact .inr (.inl hy)))).setCell (.inl (by simp)) _, fun P hP => by
            rcases hP with hP | hP | hP
            · exact .inl hP
            · exact .inr (.inl hP)
            · rcases HI.out.2.2.1 with e | ⟨g, e, e2, -⟩
              · exact .inr (.inl (by rw [← ownp e]; exact hP))
              · rw [Sl.v, e] at hP
                obtain rfl : g = P := by simpa [Value.ownBlock] using hP
                exact .inr (.inr e2), HN5.out⟩
          have z9 := HTt.out.ch
          rw [hsn] at z9
          have z95 : w5.cell? ⟨T, 9, none⟩ = some (.slice sH.p (2 * q) sH.c) := by rw [← hsn]; exact dcell HB5.out rfl
          have f95 : w5.frozen? ⟨T, 9, none⟩ = false := frozen_of_row _ _ _ _ _ HB5.out
          clear hrun hnw5 hs5 ap5 hk5 hk6 e5 e6 hNw eb hif hz0 hz1 hz2 hsn2 hlen
          go_wp2_with (refine wpList_append3 rfl _ _ 46 rfl _ _ rfl rfl (.slice s5.p s5.n s5.c) w5 HR.out ?_)
          go_end0
          exact ⟨rfl, f2, s5, _, HPu.out, HK.out, by rw [Hfn.out]; omega⟩
end Go.Proofs.YtdbeeikjngnnnaaGreat.ty
