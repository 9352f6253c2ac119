import Derived.Deep.RegionHeld
import Derived.OrdersHeld
import Derived.WalkKit
import Derived.ProofKit
import Derived.Lib.TrailingZeros
import Derived.Test.YtllhmidpphlbhaaChecked
import Derived.OpenShut
import Derived.Deep.QuietTactic
import Derived.BigQuiet
import Derived.BigRegion
import Derived.Laws.CopyOwn
import Derived.Laws.Bits64b
import Derived.Laws.MathBits
import Derived.Laws.ShiftsVarLaws
import Derived.WalkSmall
import Derived.Laws.ResultCell
import Derived.Lib.BitFns
import Derived.Laws.StructEq
import Derived.ArgAppend
import Derived.Deep.RegionLaw
import Derived.Deep.DeepAppendRoom
import Derived.Sort.WalkA
import Derived.Laws.Strings
import Derived.Deep.CutBlock
import Derived.Great.BuildSlice
import Derived.Laws.AppendOwnNone
import Derived.Lib.Overlaps
import Derived.Lib.AppendZerosOnto
import Derived.Laws.NewBlocks
import Derived.Laws.Externs
import Derived.Laws.IdiomCopy
import Derived.Laws.BytesString
import Derived.Deep.CutRange
import Derived.RangeFuncNested
import Derived.RangeFuncBound
import Derived.RangeFuncCalls
import Derived.RangeFuncLeaves
import Derived.Shelf.Abstract
import Derived.Shelf.RegionOpen
import Derived.OwnWalkIn
import Derived.TacticsInMore
import Derived.LoopNIn
import Derived.LoopIn
import GoSem.Claim
import GoSem.ClaimJoined
import GoSem.ClaimMapViews
import Derived.JoinedTies
import Derived.KernelRfl
import Derived.Deep.OwnRows
import Derived.Lib.LaidTab
import Derived.JoinedCond
import Derived.ShutString
import Derived.ChangeOld
import Derived.Below
import Derived.Carry
import Derived.ChangeSlices
import Derived.Deep.Slices
import Derived.Deep.DeepHandedRow
import Derived.RowKit
import Derived.ChangeShapes
import Derived.SizedLaws
import Derived.ChangeMaps5
import Derived.Lib.Walk
import Derived.Lib.SliceRun
import Derived.Lib.AppendStr
import Derived.Lib.ConvBytes
import Derived.Deep.RegionHeld3
import Derived.Deep.MidRow
import Derived.Laws.MakeOwn
import Derived.Lib.SlBytesConst
import Derived.Test.YtllhmidpphlbhaaRows
import Derived.Test.YtllhmidpphlbhaaF32
import Derived.Test.YtllhmidpphlbhaaF45
namespace Go.Proofs.Ytllhmidpphlbhaa.ds
open Go.ChangeShapes Go.WideShapes Go.ChangeAt Go.RowKit Go.Sort
set_option linter.unusedVariables false
set_option linter.unusedSimpArgs false

theorem Bf.set {wB w : World} {s : Sl} {l : List Nat} (h : Bf wB w s l) (K : Nat) (hK : K < l.length) (x : Nat) : ∃ gB, s.p = some ⟨gB, 0, none⟩ ∧ w.cell? ⟨gB, K, none⟩ = some (.int .u8 ((l.getD K 0 : Nat) : Int)) ∧ w.frozen? ⟨gB, K, none⟩ = false ∧ wB.heap.size ≤ gB ∧ Bf wB (w.setCell ⟨gB, K, none⟩ (.int .u8 (x : Int))) s (l.set K x) := by
  have hlen := h.len
  obtain ⟨hl, ⟨hv, hz⟩ | ⟨gB, cap, cur, hv, hb, hr, hle, hm, hs, ht⟩⟩ := h.nw.own
  · omega
  have hv' := hv
  unfold Sl.v at hv'
  simp at hv'
  obtain ⟨hp, hc⟩ := hv'
  have hnew := h.nw.new gB (by rw [hv]; rfl)
  have hcell : w.cell? ⟨gB, K, none⟩ = some (.int .u8 ((l.getD K 0 : Nat) : Int)) := by
    obtain ⟨P, o, e, hP, hcc⟩ := h.nw.rd (by simp [byts]; omega)
    rw [hp] at e
    simp at e
    obtain ⟨rfl, rfl⟩ := e
    have := hcc K (.int .u8 ((l.getD K 0 : Nat) : Int)) (by rw [byts, List.getElem?_map, List.getElem?_eq_getElem hK, List.getD_eq_getElem?_getD, List.getElem?_eq_getElem hK]; rfl)
    simpa using this
  refine ⟨gB, hp, hcell, frozen_of_row _ _ K _ _ hr, hnew, ⟨⟨⟨by simpa [byts] using hl, .inr ⟨gB, cap, _, hv, hb, heap_setCell_same w gB K _ 5 _ hr, hle, hm, by simpa using hs, ?_⟩⟩, h.nw.new, h.nw.ap.setCell (.inr hnew) _⟩, by simpa using hlen⟩⟩
  rw [Array.toList_setIfInBounds, List.take_set, ht]
  simp [byts, List.map_set]
end Go.Proofs.Ytllhmidpphlbhaa.ds
namespace Go.Proofs.Ytllhmidpphlbhaa.ds
open Go.ChangeShapes Go.WideShapes Go.ChangeAt Go.RowKit Go.Sort
set_option linter.unusedVariables false
set_option linter.unusedSimpArgs false

/-- append of several, out of a row that was just made: in its own room, or in new memory -/
theorem app_or {w W : World} {s : Sl} {us : List Value} (t ty e : TypeId) (i : TypeInfo) (z : Value) (size bytes : Nat) (ht : Try.prog.underlying t = some (.slice e)) (hi : Try.prog.info? e = some i) (hz : i.zero = some z) (hsize : i.size = size) (hby : i.bytes = bytes) (hzs : z.cells.size = size) (hsz : 0 < size)
    (h : Nw w W e size s us) (m : Nat) (cs : List Value) (hm : 0 < m) (hcl : cs.length = m * size) (one : ∀ u ∈ cs, u.oneCell' = true) (h63 : s.n + m ≤ maxLen) (hb : (s.n + m) * bytes ≤ 140737488355328) :
    ∃ s' W', (Builtin.append_ #[t, t] ty #[.slice s.p s.n s.c, .slice (some ⟨W.heap.size, 0, none⟩) m m]).run Try.prog (W.alloc (.cells cs.toArray e)) = .ok (.slice (Sl.p s') (Sl.n s') (Sl.c s')) W' ∧ s'.n = s.n + m ∧ ((s'.p = s.p ∧ s'.c = s.c ∧ (s.p ≠ none ∧ s.n + m ≤ s.c) ∧ Nw w W' e size s' (us ++ cs) ∧ Apart s.v.ownBlock.toList W W') ∨ (Nw W W' e size s' (us ++ cs) ∧ Apart [] W W' ∧ (s.p ≠ none → s.c < s.n + m))) := by
  have a1 : Apart [] W (W.alloc (.cells cs.toArray e)) := (Apart.refl [] W).alloc _
  have hcs : ∀ j u, cs[j]? = some u → (W.alloc (.cells cs.toArray e)).cell? ((⟨W.heap.size, 0, none⟩ : Addr).add j) = some u := by
    intro j u hj
    rw [Addr.add_lit, Nat.zero_add, cell_of_row _ _ _ _ _ _ (heap_alloc_new W (.cells cs.toArray e))]
    simpa using hj
  have hk := h.kept a1
  have h0 := hk.own
  obtain ⟨hxl, ⟨hv, hn0⟩ | ⟨g, cap, cur, hv, hbb, hr, hle, hrest⟩⟩ := hk.own
  · have hu : us = [] := by rw [hn0] at hxl; simpa using hxl
    subst hu
    obtain ⟨v', W', hrun, r1, r2, _⟩ := run_append_own (P := Try.prog) (W.alloc (.cells cs.toArray e)) (W.alloc (.cells cs.toArray e)).heap.size t ty e i z size bytes ht hi hz hsize hby hzs hsz (.slice none 0 0) 0 [] (World.ownsRow_nil _ _ e size) ⟨W.heap.size, 0, none⟩ m m cs hcl hcs one (by omega) (by rw [Nat.zero_add]; rw [hn0, Nat.zero_add] at hb; exact hb) (Nat.le_refl _)
    have ap : Apart [] (W.alloc (.cells cs.toArray e)) W' := by have := apart_grown r2; simpa [Value.ownBlock] using this
    have hnew : ∀ k, v'.ownBlock = some k → W.heap.size ≤ k := fun k hk => Nat.le_trans a1.size ((r1.lt k hk).1)
    have r0 := own_base r1 (Nat.zero_le _)
    obtain ⟨s', e1, e2⟩ : ∃ s' : Sl, v' = .slice s'.p s'.n s'.c ∧ s'.n = m := by
      obtain ⟨_, ⟨hv, hz⟩ | ⟨g, cap, cur, hv, _⟩⟩ := r1
      · omega
      · exact ⟨⟨some ⟨g, 0, none⟩, m, cap⟩, by rw [hv, Nat.zero_add], rfl⟩
    have hsv : (Value.slice s.p s.n s.c) = .slice none 0 0 := hv
    refine ⟨s', W', by rw [hsv, ← e1]; exact hrun, by omega, .inr ⟨⟨?_, ?_, a1.trans ap⟩, a1.trans ap, fun hq => by simp at hsv; exact absurd hsv.1 hq⟩⟩
    · show W'.ownsRow 0 e size (.slice s'.p s'.n s'.c) s'.n _
      rw [← e1, e2]
      rw [Nat.zero_add] at r0
      exact r0
    · intro k hk
      refine hnew k ?_
      rw [e1]; exact hk
  · have hsv : (Value.slice s.p s.n s.c) = .slice (some ⟨g, 0, none⟩) s.n cap := hv
    have hsp : s.p = some ⟨g, 0, none⟩ ∧ s.c = cap := by simp at hsv; exact hsv
    by_cases hroom : s.n + m ≤ cap
    · rw [hv] at h0
      obtain ⟨W', hrun, r1, r2⟩ := run_append_own_spare (P := Try.prog) (W.alloc (.cells cs.toArray e)) 0 t ty e i size ht hi hsize g s.n cap us h0 ⟨W.heap.size, 0, none⟩ m m cs hcl hcs one hroom
      have ap : Apart [g] (W.alloc (.cells cs.toArray e)) W' := by have := apart_grown r2; simpa [Value.ownBlock] using this
      have hgw : w.heap.size ≤ g := h.new g (by rw [hv]; rfl)
      have hb1 : s.v.ownBlock = some g := by rw [hv]; rfl
      refine ⟨⟨s.p, s.n + m, s.c⟩, W', by rw [hsv, hsp.1, hsp.2]; exact hrun, rfl, .inl ⟨rfl, rfl, ⟨by rw [hsp.1]; simp, by rw [hsp.2]; exact hroom⟩, ⟨?_, ?_, ?_⟩, ?_⟩⟩
      · unfold Sl.v
        dsimp only
        rw [hsp.1, hsp.2]
        exact r1
      · intro k hk
        unfold Sl.v at hk
        dsimp only at hk
        rw [hsp.1] at hk
        simp [Value.ownBlock] at hk
        omega
      · exact h.ap.trans' ((a1.mono (by simp)).trans ap) (fun y hy => by simp at hy; exact .inr (by omega))
      · rw [hb1]
        exact (a1.mono (by simp)).trans ap
    · obtain ⟨v', W', hrun, r1, r2⟩ := run_append_arg_grows (P := Try.prog) (W.alloc (.cells cs.toArray e)) t ty e i z size bytes ht hi hz hsize hby hzs hsz ⟨g, 0, none⟩ s.n cap us (by omega) (fun j u hu => by rw [hv] at h0; exact h0.cells rfl j u hu) ⟨W.heap.size, 0, none⟩ m m cs hcl hcs (by omega) h63 hb
      have ap : Apart [] (W.alloc (.cells cs.toArray e)) W' := by have := apart_grown r2; simpa using this
      have hnew : ∀ k, v'.ownBlock = some k → W.heap.size ≤ k := fun k hk => Nat.le_trans a1.size ((r1.lt k hk).1)
      have r0 := own_base r1 (Nat.zero_le _)
      obtain ⟨s', e1, e2⟩ : ∃ s' : Sl, v' = .slice s'.p s'.n s'.c ∧ s'.n = s.n + m := by
        obtain ⟨_, ⟨hv, hz⟩ | ⟨g, cap, cur, hv, _⟩⟩ := r1
        · omega
        · exact ⟨⟨some ⟨g, 0, none⟩, s.n + m, cap⟩, hv, rfl⟩
      refine ⟨s', W', by rw [hsv, ← e1]; exact hrun, e2, .inr ⟨⟨?_, ?_, a1.trans ap⟩, a1.trans ap, fun _ => by rw [hsp.2]; omega⟩⟩
      · show W'.ownsRow 0 e size (.slice s'.p s'.n s'.c) s'.n _
        rw [← e1, e2]
        exact r0
      · intro k hk
        refine hnew k ?_
        rw [e1]; exact hk
/-- a list, whatever its elements, that can be read: the cells of each, the number -/
structure Rv (W : World) (size : Nat) (s : Sl) (us : List Value) : Prop where
  rd : Rd W s.p us
  len : us.length = s.n * size
  ok : s.ok
theorem Rv.kept {W W' : World} {size : Nat} {s : Sl} {us : List Value} {X : List Nat} (h : Rv W size s us) (a : Apart X W W') (hX : ∀ P o, s.p = some ⟨P, o, none⟩ → P ∉ X) : Rv W' size s us := { h with rd := h.rd.kept a hX }
theorem Rv.kept0 {W W' : World} {size : Nat} {s : Sl} {us : List Value} (h : Rv W size s us) (a : Apart [] W W') : Rv W' size s us := h.kept a (by simp)
theorem Nw.rv {w W : World} {e size : Nat} {s : Sl} {us : List Value} (h : Nw w W e size s us) : Rv W size s us := ⟨h.rd, h.own.1, h.ok⟩
theorem Nw.sub {w W : World} {e size : Nat} {s : Sl} {us vs : List Value} (h : Nw w W e size s (us ++ vs)) (hp : s.p ≠ none) {n : Nat} (hl : us.length = n * size) : Rv W size ⟨s.p, n, s.c⟩ us := ⟨h.rd.pre, hl, fun e => absurd e hp⟩
theorem own_p {s : Sl} {k : Nat} (h : s.v.ownBlock = some k) {P o : Nat} (hp : s.p = some ⟨P, o, none⟩) : P = k := by
  unfold Sl.v at h
  rw [hp] at h
  simp [Value.ownBlock] at h
  exact h
theorem own_pp {s : Sl} {P o : Nat} (hp : s.p = some ⟨P, o, none⟩) : s.v.ownBlock = some P := by
  unfold Sl.v; rw [hp]; rfl
/-- a list b, what was appended to it once (g), what was appended to it oftener (h) -/
structure Tri (w W : World) (e size : Nat) (b g h : Sl) (n : Nat) (us gc hc : List Value) : Prop where
  rb : Rv W size b us
  rg : Rv W size g gc
  nh : Nw w W e size h hc
  hn : h.p ≠ none
  ty : ∀ P o, (b.p = some ⟨P, o, none⟩ ∨ g.p = some ⟨P, o, none⟩) → ∃ cur, W.heap[P]? = some (.cells cur e (0, 0))
  way : (h.p = b.p ∧ h.c = b.c ∧ g = ⟨b.p, n + 1, b.c⟩ ∧ b.n = n ∧ ∃ rs, hc = gc ++ rs ∧ ∃ xs, gc = us ++ xs ∧ gc.length = (n + 1) * size ∧ us.length = n * size) ∨ (∀ k P o, h.v.ownBlock = some k → (b.p = some ⟨P, o, none⟩ ∨ g.p = some ⟨P, o, none⟩) → P ≠ k)
theorem Tri.lt {w W : World} {e size : Nat} {b g h : Sl} {n : Nat} {us gc hc : List Value} (T : Tri w W e size b g h n us gc hc) : ∀ P o, (b.p = some ⟨P, o, none⟩ ∨ g.p = some ⟨P, o, none⟩) → P < W.heap.size := fun P o hP => by obtain ⟨cur, hc⟩ := T.ty P o hP; exact lt_of_heap hc
/-- one more behind h -/
theorem Tri.more {w W : World} {b g h : Sl} {n : Nat} {us gc hc : List Value} (t ty e : TypeId) (i : TypeInfo) (z : Value) (size bytes : Nat) (ht : Try.prog.underlying t = some (.slice e)) (hi : Try.prog.info? e = some i) (hz : i.zero = some z) (hsize : i.size = size) (hby : i.bytes = bytes) (hzs : z.cells.size = size) (hsz : 0 < size)
    (T : Tri w W e size b g h n us gc hc) (cs : List Value) (hcl : cs.length = 1 * size) (one : ∀ u ∈ cs, u.oneCell' = true) (h63 : h.n + 1 ≤ maxLen) (hb : (h.n + 1) * bytes ≤ 140737488355328) :
    ∃ h' W', (Builtin.append_ #[t, t] ty #[.slice h.p h.n h.c, .slice (some ⟨W.heap.size, 0, none⟩) 1 1]).run Try.prog (W.alloc (.cells cs.toArray e)) = .ok (.slice (Sl.p h') (Sl.n h') (Sl.c h')) W' ∧ h'.n = h.n + 1 ∧ Tri w W' e size b g h' n us gc (hc ++ cs) ∧ Apart h.v.ownBlock.toList W W' ∧ (∀ k, h'.v.ownBlock = some k → h.v.ownBlock = some k ∨ W.heap.size ≤ k) := by
  obtain ⟨h', W', hrun, hn', hway⟩ := app_or t ty e i z size bytes ht hi hz hsize hby hzs hsz T.nh 1 cs (by decide) hcl one h63 hb
  obtain ⟨k0, hk0⟩ : ∃ k, h.v.ownBlock = some k := by
    cases hq : h.p with
    | none => exact absurd hq T.hn
    | some A => exact ⟨A.block, by unfold Sl.v; rw [hq]; rfl⟩
  rcases hway with ⟨e1, e2, ⟨e3, -⟩, e4, e5⟩ | ⟨e1, e2, -⟩
  · have eo : h'.v.ownBlock = h.v.ownBlock := by unfold Sl.v; rw [e1]; cases h.p <;> rfl
    refine ⟨h', W', hrun, hn', ?_, e5, fun k hk => .inl (by rw [← eo]; exact hk)⟩
    rcases T.way with ⟨f1, f2, f3, f4, rs, f5, xs, f6, f7, f8⟩ | hw
    · have hp' : h'.p ≠ none := by rw [e1]; exact e3
      rw [f5, List.append_assoc] at e4
      have bg : Rv W' size g gc := by
        have := e4.sub hp' (n := n + 1) f7
        rw [e1, f1, e2, f2, ← f3] at this
        exact this
      have bb : Rv W' size b us := by
        have h4 := e4
        rw [f6, List.append_assoc] at h4
        have := h4.sub hp' (n := n) f8
        rw [e1, f1, e2, f2, ← f4] at this
        exact this
      exact ⟨bb, bg, by rw [f5, List.append_assoc]; exact e4, hp', fun P o hP => own_typ e4.own (own_pp (P := P) (o := o) (by rw [e1, f1]; exact hP.elim id (fun hP => by rw [f3] at hP; exact hP))), .inl ⟨by rw [e1, f1], by rw [e2, f2], f3, f4, rs ++ cs, by rw [f5, List.append_assoc], xs, f6, f7, f8⟩⟩
    · refine ⟨T.rb.kept e5 (fun P o hP => ?_), T.rg.kept e5 (fun P o hP => ?_), e4, by rw [e1]; exact e3, fun P o hP => ?_, .inr (fun k P o hk hP => hw k P o (by rw [← eo]; exact hk) hP)⟩
      · rw [hk0]; simp; exact hw k0 P o hk0 (.inl hP)
      · rw [hk0]; simp; exact hw k0 P o hk0 (.inr hP)
      · obtain ⟨cur, hc⟩ := T.ty P o hP
        exact ⟨cur, (e5.block P (lt_of_heap hc) (by rw [hk0]; simp; exact hw k0 P o hk0 hP)).trans hc⟩
  · have hp' : h'.p ≠ none := by
      intro hq
      obtain ⟨_, ⟨_, hz⟩ | ⟨g', cap, cur, hv, _⟩⟩ := e1.own
      · omega
      · unfold Sl.v at hv; rw [hq] at hv; simp at hv
    refine ⟨h', W', hrun, hn', ⟨T.rb.kept0 e2, T.rg.kept0 e2, e1.from T.nh.ap, hp', fun P o hP => by obtain ⟨cur, hc⟩ := T.ty P o hP; exact ⟨cur, keep0 e2 hc⟩, .inr (fun k P o hk hP => ?_)⟩, e2.mono (by simp), fun k hk => .inr (e1.new k hk)⟩
    have hk1 := e1.new k hk
    have := T.lt P o hP
    omega
/-- g and h made of b -/
theorem tri_of {w W : World} {b : Sl} {us : List Value} (t ty e : TypeId) (i : TypeInfo) (z : Value) (size bytes : Nat) (ht : Try.prog.underlying t = some (.slice e)) (hi : Try.prog.info? e = some i) (hz : i.zero = some z) (hsize : i.size = size) (hby : i.bytes = bytes) (hzs : z.cells.size = size) (hsz : 0 < size)
    (hb : Nw w W e size b us) (c1 c2 : List Value) (hc1 : c1.length = 1 * size) (hc2 : c2.length = 2 * size) (one1 : ∀ u ∈ c1, u.oneCell' = true) (one2 : ∀ u ∈ c2, u.oneCell' = true) (h63 : b.n + 2 ≤ maxLen) (hby2 : (b.n + 2) * bytes ≤ 140737488355328) :
    ∃ g W1, (Builtin.append_ #[t, t] ty #[.slice b.p b.n b.c, .slice (some ⟨W.heap.size, 0, none⟩) 1 1]).run Try.prog (W.alloc (.cells c1.toArray e)) = .ok (.slice (Sl.p g) (Sl.n g) (Sl.c g)) W1 ∧ g.n = b.n + 1 ∧ ∃ h W2, (Builtin.append_ #[t, t] ty #[.slice b.p b.n b.c, .slice (some ⟨W1.heap.size, 0, none⟩) 2 2]).run Try.prog (W1.alloc (.cells c2.toArray e)) = .ok (.slice (Sl.p h) (Sl.n h) (Sl.c h)) W2 ∧ h.n = b.n + 2 ∧ Apart b.v.ownBlock.toList W W2 ∧ W.heap.size ≤ W1.heap.size ∧ (∀ k, h.v.ownBlock = some k → b.v.ownBlock = some k ∨ W.heap.size ≤ k) ∧ (∀ k, g.v.ownBlock = some k → b.v.ownBlock = some k ∨ W.heap.size ≤ k) ∧ ∃ gc x, Tri w W2 e size b g h b.n us gc (us ++ c2) ∧ gc = us ++ x ∧ (x = c1 ∨ x = c2.take size) := by
  have hbl := hb.own.1
  have hbp : ∀ P o, b.p = some ⟨P, o, none⟩ → P < W.heap.size := fun P o hp => (hb.place hp).2
  obtain ⟨g, W1, hrun1, hn1, way1⟩ := app_or t ty e i z size bytes ht hi hz hsize hby hzs hsz hb 1 c1 (by decide) hc1 one1 (by omega) (Nat.le_trans (Nat.mul_le_mul_right _ (by omega)) hby2)
  have hbe : ∀ W', (∃ a : Apart [] w W', Rv W' size b us) → True := fun _ _ => trivial
  rcases way1 with ⟨e1, e2, ⟨e3, -⟩, e4, e5⟩ | ⟨e1, e2, hnr⟩
  · -- g in b's own room
    have hb1 : Nw w W1 e size b us := by
      obtain ⟨hl, ⟨hv, hz⟩ | ⟨gB, cap, cur, hv, hbb, hr, hle, hm, hs, ht⟩⟩ := e4.own
      · omega
      have hv' := hv
      unfold Sl.v at hv'
      simp at hv'
      obtain ⟨hp, hc⟩ := hv'
      refine ⟨⟨hbl, .inr ⟨gB, cap, cur, ?_, hbb, hr, by omega, hm, hs, ?_⟩⟩, hb.new, e4.ap⟩
      · unfold Sl.v
        rw [← e1, hp, ← e2, hc]
      · have h2 := congrArg (fun l => l.take (b.n * size)) ht
        simp only [List.take_take] at h2
        rw [Nat.min_eq_left (Nat.mul_le_mul_right _ (by omega)), ← hbl, List.take_left] at h2
        rw [← hbl]; exact h2
    obtain ⟨h, W2, hrun2, hn2, way2⟩ := app_or t ty e i z size bytes ht hi hz hsize hby hzs hsz hb1 2 c2 (by decide) hc2 one2 h63 hby2
    have ego : g.v.ownBlock = b.v.ownBlock := by unfold Sl.v; rw [e1]; cases b.p <;> rfl
    have hgf : g = ⟨b.p, b.n + 1, b.c⟩ := by cases g; simp at e1 e2 hn1; subst e1 e2 hn1; rfl
    refine ⟨g, W1, hrun1, hn1, h, W2, hrun2, hn2, ?_⟩
    rcases way2 with ⟨f1, f2, ⟨f3, -⟩, f4, f5⟩ | ⟨f1, f2, -⟩
    · have eho : h.v.ownBlock = b.v.ownBlock := by unfold Sl.v; rw [f1]; cases b.p <;> rfl
      have hhp : h.p ≠ none := by rw [f1]; exact f3
      have hs2 : c2 = c2.take size ++ c2.drop size := (List.take_append_drop _ _).symm
      have f4' : Nw w W2 e size h ((us ++ c2.take size) ++ c2.drop size) := by rw [List.append_assoc, ← hs2]; exact f4
      have lx : (us ++ c2.take size).length = (b.n + 1) * size := by rw [List.length_append, hbl, List.length_take, hc2, Nat.min_eq_left (by omega), Nat.add_mul, Nat.one_mul]
      refine ⟨e5.trans f5, e5.size, fun k hk => .inl (by rw [← eho]; exact hk), fun k hk => .inl (by rw [← ego]; exact hk), us ++ c2.take size, c2.take size, ⟨?_, ?_, f4, hhp, ?_, .inl ⟨f1, f2, hgf, rfl, c2.drop size, by rw [List.append_assoc, ← hs2], c2.take size, rfl, lx, hbl⟩⟩, rfl, .inr rfl⟩
      · have := f4.sub hhp (n := b.n) hbl
        rw [f1, f2] at this
        exact this
      · have := f4'.sub hhp (n := b.n + 1) lx
        rw [f1, f2, ← hgf] at this
        exact this
      · intro P o hP
        rw [hgf] at hP
        have : b.p = some ⟨P, o, none⟩ := by rcases hP with h | h <;> exact h
        exact own_typ f4.own (own_pp (P := P) (o := o) (by rw [f1]; exact this))
    · have hhp : h.p ≠ none := by
        intro hq
        obtain ⟨_, ⟨_, hz⟩ | ⟨g', cap, cur, hv, _⟩⟩ := f1.own
        · omega
        · unfold Sl.v at hv; rw [hq] at hv; simp at hv
      have lx : (us ++ c1).length = (b.n + 1) * size := by rw [List.length_append, hbl, hc1, Nat.add_mul]
      have lt1 : ∀ P o, (b.p = some ⟨P, o, none⟩ ∨ g.p = some ⟨P, o, none⟩) → P < W1.heap.size := fun P o hP => by
        have : b.p = some ⟨P, o, none⟩ := by rw [e1] at hP; rcases hP with h | h <;> exact h
        exact Nat.lt_of_lt_of_le (hbp P o this) e5.size
      refine ⟨e5.trans (f2.mono (by simp)), e5.size, fun k hk => .inr (Nat.le_trans e5.size (f1.new k hk)), fun k hk => .inl (by rw [← ego]; exact hk), us ++ c1, c1, ⟨hb1.rv.kept0 f2, e4.rv.kept0 f2, f1.from hb1.ap, hhp, fun P o hP => by
        have : b.p = some ⟨P, o, none⟩ := by rw [e1] at hP; rcases hP with h | h <;> exact h
        obtain ⟨cur, hc⟩ := own_typ hb1.own (own_pp this)
        exact ⟨cur, keep0 f2 hc⟩, .inr (fun k P o hk hP => ?_)⟩, rfl, .inl rfl⟩
      have := lt1 P o hP
      have := f1.new k hk
      omega
  · -- g in new memory
    have hb1 : Nw w W1 e size b us := hb.kept e2
    obtain ⟨h, W2, hrun2, hn2, way2⟩ := app_or t ty e i z size bytes ht hi hz hsize hby hzs hsz hb1 2 c2 (by decide) hc2 one2 h63 hby2
    refine ⟨g, W1, hrun1, hn1, h, W2, hrun2, hn2, ?_⟩
    have lt1 : ∀ P o, (b.p = some ⟨P, o, none⟩ ∨ g.p = some ⟨P, o, none⟩) → P < W1.heap.size := fun P o hP => by
      rcases hP with hP | hP
      · exact Nat.lt_of_lt_of_le (hbp P o hP) e2.size
      · exact (e1.place hP).2
    rcases way2 with ⟨f1, f2, ⟨f3, f6⟩, f4, f5⟩ | ⟨f1, f2, -⟩
    · have := hnr f3
      omega
    · have hhp : h.p ≠ none := by
        intro hq
        obtain ⟨_, ⟨_, hz⟩ | ⟨g', cap, cur, hv, _⟩⟩ := f1.own
        · omega
        · unfold Sl.v at hv; rw [hq] at hv; simp at hv
      refine ⟨(e2.trans f2).mono (by simp), e2.size, fun k hk => .inr (Nat.le_trans e2.size (f1.new k hk)), fun k hk => .inr (e1.new k hk), us ++ c1, c1, ⟨hb1.rv.kept0 f2, e1.rv.kept0 f2, f1.from hb1.ap, hhp, fun P o hP => by
        rcases hP with hP | hP
        · obtain ⟨cur, hc⟩ := own_typ hb1.own (own_pp hP)
          exact ⟨cur, keep0 f2 hc⟩
        · obtain ⟨cur, hc⟩ := own_typ e1.own (own_pp hP)
          exact ⟨cur, keep0 f2 hc⟩, .inr (fun k P o hk hP => ?_)⟩, rfl, .inl rfl⟩
      have := lt1 P o hP
      have := f1.new k hk
      omega
end Go.Proofs.Ytllhmidpphlbhaa.ds
namespace Go.Proofs.Ytllhmidpphlbhaa.ds
open Go.ChangeShapes Go.WideShapes Go.ChangeAt Go.RowKit Go.Sort
set_option linter.unusedVariables false
set_option linter.unusedSimpArgs false

/-- likewise of spans; what they must hold are copies -/
theorem Shf.pushS {w W : World} {H : Nat} {K : List Nat} {bl : List Sl} {bc : List (List Nat)} {sl wl : List Sl} {sc : List (List S)} {rb rh rs rw : Sl} {m : Nat} (h : Shf w W H K bl bc sl wl sc rb rh rs rw m) (hm : m ≤ 10000) (hlim : sl.length + 3 ≤ 3 * m) (b g q : Sl) (ub ug uq : List S) (hb : L W b.p b.n ub) (hg : L W g.p g.n ug) (hq : L W q.p q.n uq) (ob : b.ok ∧ b.n ≤ 2000000) (og : g.ok ∧ g.n ≤ 2000000) (oq : q.ok ∧ q.n ≤ 2000000) (K' : List Nat) (hK : ∀ k ∈ K, k ∈ K') (kb : InK K' b) (kg : InK K' g) (kq : InK K' q) (kt : ∀ P ∈ K', ∃ cur t, (t = 5 ∨ t = 85) ∧ W.heap[P]? = some (.cells cur t (0, 0))) :
    ∃ s1 W1, (Builtin.append_ #[71, 71] 71 #[.slice rs.p rs.n rs.c, .slice (some ⟨W.heap.size, 0, none⟩) 3 3]).run Try.prog (W.alloc (Obj.cells #[.slice b.p b.n b.c, .slice g.p g.n g.c, .slice q.p q.n q.c] 48)) = .ok (.slice (Sl.p s1) (Sl.n s1) (Sl.c s1)) W1 ∧ W1.heap[H]? = some (.cells (shL rb rh rs rw m) 73 (0, 0)) ∧ ∃ W2, W2 = W1.setCell ⟨H, 2, none⟩ (.slice s1.p s1.n s1.c) ∧ W2.heap[H]? = some (.cells (shL rb rh s1 rw m) 73 (0, 0)) ∧ ∃ c1 V1, (Builtin.append_ #[48, 48] 48 #[.slice none 0 0, .slice b.p b.n b.c]).run Try.prog W2.drew = .ok (.slice (Sl.p c1) (Sl.n c1) (Sl.c c1)) V1 ∧ Apart [] W2.drew V1 ∧ ∃ c2 V2, (Builtin.append_ #[48, 48] 48 #[.slice none 0 0, .slice g.p g.n g.c]).run Try.prog V1 = .ok (.slice (Sl.p c2) (Sl.n c2) (Sl.c c2)) V2 ∧ Apart [] V1 V2 ∧ ∃ c3 V3, (Builtin.append_ #[48, 48] 48 #[.slice none 0 0, .slice q.p q.n q.c]).run Try.prog V2 = .ok (.slice (Sl.p c3) (Sl.n c3) (Sl.c c3)) V3 ∧ Apart [] V2 V3 ∧ ∃ s2 W3, (Builtin.append_ #[71, 71] 71 #[.slice rw.p rw.n rw.c, .slice (some ⟨V3.heap.size, 0, none⟩) 3 3]).run Try.prog (V3.alloc (Obj.cells #[.slice c1.p c1.n c1.c, .slice c2.p c2.n c2.c, .slice c3.p c3.n c3.c] 48)) = .ok (.slice (Sl.p s2) (Sl.n s2) (Sl.c s2)) W3 ∧ W3.heap[H]? = some (.cells (shL rb rh s1 rw m) 73 (0, 0)) ∧ (∃ K3, (∀ k ∈ K', k ∈ K3) ∧ (∀ k ∈ K3, k ∈ K' ∨ W.heap.size ≤ k) ∧ Shf w (W3.setCell ⟨H, 3, none⟩ (.slice s2.p s2.n s2.c)) H K3 bl bc (sl ++ [b, g, q]) (wl ++ [c1, c2, c3]) (sc ++ [ub, ug, uq]) rb rh s1 s2 m) ∧ Wt [] W (W3.setCell ⟨H, 3, none⟩ (.slice s2.p s2.n s2.c)) := by
  obtain ⟨i0, hi, hz0, hz1, hz2⟩ := info_parts infoSs
  have hrs : rs.n = sl.length := by have := h.ns.own.1; rw [List.length_map] at this; omega
  have hrw : rw.n = sl.length := by have := h.nw.own.1; rw [List.length_map, h.lw] at this; omega
  have nK : ∀ (X : World) (Q : List Nat) k cur t, X.heap[k]? = some (.cells cur t (0, 0)) → t ∈ shT → (∀ P ∈ Q, ∃ cur t, (t = 5 ∨ t = 85) ∧ X.heap[P]? = some (.cells cur t (0, 0))) → k ∉ Q := fun X Q k cur t hk ht hkt hm => by
    obtain ⟨cu, t', ht', hh⟩ := hkt k hm
    rw [hk] at hh
    simp at hh
    obtain ⟨-, rfl⟩ := hh
    rcases ht' with rfl | rfl <;> exact absurd ht (by decide)
  obtain ⟨s1, W1, hrun1, hH1, -, hn1, ns1, blk2, ⟨Z1, aZ1, hZ1⟩, own1⟩ := shRow3 h.hH h.blk h.ns (by decide) 71 71 i0 _ 24 Try.underlying71 hi hz0 hz1 hz2 rfl (by decide) 2 (.slice b.p b.n b.c) (.slice g.p g.n g.c) (.slice q.p q.n q.c) (by intro u hu; simp at hu; rcases hu with rfl | rfl | rfl <;> rfl) (by omega)
  obtain ⟨W2, hW2⟩ : ∃ W2, W2 = W1.setCell ⟨H, 2, none⟩ (.slice s1.p s1.n s1.c) := ⟨_, rfl⟩
  rw [← hW2] at ns1 blk2 aZ1
  have nZ1 : ∀ k ∈ Z1, k ∉ K' := fun k hk => by
    rcases hZ1 k hk with rfl | hk
    · exact nK W _ _ _ _ h.blk (by decide) kt
    · obtain ⟨cur, hc⟩ := own_typ h.ns.own hk
      exact nK W _ _ _ _ hc (by decide) kt
  have off : ∀ {e : Nat} {s : Sl} {us : List Value}, e ≠ 73 → (e ≠ 48 ∨ ∀ k, rs.v.ownBlock = some k → s.v.ownBlock ≠ some k) → Nw w W e 1 s us → Nw w W2 e 1 s us := fun h73 h48 hn => hn.off aZ1 ns1.ap (fun k hk hm => by
    obtain ⟨cur, hc⟩ := own_typ hn.own hk
    rcases hZ1 k hm with rfl | hm
    · rw [h.blk] at hc; simp at hc; exact h73 hc.2.symm
    · rcases h48 with h48 | h48
      · obtain ⟨cu, hc2⟩ := own_typ h.ns.own hm
        rw [hc2] at hc; simp at hc; exact h48 hc.2.symm
      · exact h48 k hm hk)
  have nb2 := off (by decide) (.inl (by decide)) h.nb
  have nh2 := off (by decide) (.inl (by decide)) h.nh
  have nw2 := off (by decide) (.inr h.dif) h.nw
  have hb2 := hb.kept aZ1 (fun P o hP hm => nZ1 P hm (kb P o hP))
  have hg2 := hg.kept aZ1 (fun P o hP hm => nZ1 P hm (kg P o hP))
  have hq2 := hq.kept aZ1 (fun P o hP hm => nZ1 P hm (kq P o hP))
  have hbs2 : ∀ i, i < bl.length → RBs W2 (gS bl i) (gL bc i) := fun i hi => (h.b i hi).1.kept aZ1 (fun P o hP hm => nZ1 P hm (hK P ((h.b i hi).2 P o hP)))
  have hss2 : ∀ i, i < sl.length → L W2 (gS sl i).p (gS sl i).n (gL sc i) ∧ L W2 (gS wl i).p (gS wl i).n (gL sc i) := fun i hi => ⟨(h.s i hi).1.1.kept aZ1 (fun P o hP hm => nZ1 P hm (hK P ((h.s i hi).1.2 P o hP))), (h.s i hi).2.1.kept aZ1 (fun P o hP hm => nZ1 P hm (hK P ((h.s i hi).2.2 P o hP)))⟩
  have kt2 : ∀ P ∈ K', ∃ cur t, (t = 5 ∨ t = 85) ∧ W2.heap[P]? = some (.cells cur t (0, 0)) := fun P hP => by
    obtain ⟨cur, t, ht, hh⟩ := kt P hP
    exact ⟨cur, t, ht, (aZ1.block P (lt_of_heap hh) (fun hm => nZ1 P hm hP)).trans hh⟩
  have blk2' : W2.heap[H]? = some (.cells (shL rb rh s1 rw m) 73 (0, 0)) := by rw [blk2]; rfl
  have ad : Apart [] W2 W2.drew := (Apart.refl [] W2).drew
  obtain ⟨c1, V1, hr1, n1, e1⟩ := appS W2.drew b ub 48 (hb2.kept0 ad) ob.2 ob.1
  obtain ⟨c2, V2, hr2, n2, e2⟩ := appS V1 g ug 48 (hg2.kept0 (ad.trans n1.ap)) og.2 og.1
  obtain ⟨c3, V3, hr3, n3, e3⟩ := appS V2 q uq 48 (hq2.kept0 (ad.trans (n1.ap.trans n2.ap))) oq.2 oq.1
  have a3 : Apart [] W2 V3 := ad.trans (n1.ap.trans (n2.ap.trans n3.ap))
  have sW : W.heap.size ≤ W2.heap.size := aZ1.size
  have sd : W2.heap.size ≤ W2.drew.heap.size := ad.size
  have N1 : Nw W2 V3 85 3 c1 (flat ub) := ((n1.kept (n2.ap.trans n3.ap)).from ad)
  have N2 : Nw W2 V3 85 3 c2 (flat ug) := ((n2.kept n3.ap).from (ad.trans n1.ap))
  have N3 : Nw W2 V3 85 3 c3 (flat uq) := (n3.from (ad.trans (n1.ap.trans n2.ap)))
  have l1 := N1.lst hb.fit (by rw [hb.len]; exact ob.2)
  have l2 := N2.lst hg.fit (by rw [hg.len]; exact og.2)
  have l3 := N3.lst hq.fit (by rw [hq.len]; exact oq.2)
  obtain ⟨s2, W3, hrun2, hH3, -, hn3, nw3, blk4, ⟨Z3, aZ3, hZ3⟩, own3⟩ := shRow3 h.hH (keep0 a3 blk2') (nw2.kept a3) (by decide) 71 71 i0 _ 24 Try.underlying71 hi hz0 hz1 hz2 rfl (by decide) 3 (.slice c1.p c1.n c1.c) (.slice c2.p c2.n c2.c) (.slice c3.p c3.n c3.c) (by intro u hu; simp at hu; rcases hu with rfl | rfl | rfl <;> rfl) (by omega)
  obtain ⟨W4, hW4⟩ : ∃ W4, W4 = W3.setCell ⟨H, 3, none⟩ (.slice s2.p s2.n s2.c) := ⟨_, rfl⟩
  rw [← hW4] at nw3 blk4 aZ3
  have aZ4 : Apart Z3 W2 W4 := (a3.mono (by simp)).trans aZ3
  -- the new set of blocks
  obtain ⟨K3, hK3⟩ : ∃ K3, K3 = K' ++ (c1.v.ownBlock.toList ++ (c2.v.ownBlock.toList ++ c3.v.ownBlock.toList)) := ⟨_, rfl⟩
  have inL : ∀ s : Sl, (∀ k ∈ s.v.ownBlock.toList, k ∈ K3) → InK K3 s := fun s hs P o hP => hs P (by rw [own_pp hP]; simp)
  have k1 : InK K3 c1 := inL c1 (fun k hk => by rw [hK3]; simp only [List.mem_append]; exact .inr (.inl hk))
  have k2 : InK K3 c2 := inL c2 (fun k hk => by rw [hK3]; simp only [List.mem_append]; exact .inr (.inr (.inl hk)))
  have k3 : InK K3 c3 := inL c3 (fun k hk => by rw [hK3]; simp only [List.mem_append]; exact .inr (.inr (.inr hk)))
  have hKK : ∀ k ∈ K', k ∈ K3 := fun k hk => by rw [hK3]; exact List.mem_append_left _ hk
  have ktn : ∀ {c : Sl} {us : List Value}, Nw W2 V3 85 3 c us → ∀ k ∈ c.v.ownBlock.toList, W2.heap.size ≤ k ∧ ∃ cur, V3.heap[k]? = some (.cells cur 85 (0, 0)) := fun {c us} hn k hk => by
    have hk' : c.v.ownBlock = some k := by simpa using hk
    exact ⟨hn.new k hk', own_typ hn.own hk'⟩
  have kt3 : ∀ P ∈ K3, ∃ cur t, (t = 5 ∨ t = 85) ∧ V3.heap[P]? = some (.cells cur t (0, 0)) := fun P hP => by
    rw [hK3] at hP
    simp only [List.mem_append] at hP
    rcases hP with hP | hP | hP | hP
    · obtain ⟨cur, t, ht, hh⟩ := kt2 P hP
      exact ⟨cur, t, ht, keep0 a3 hh⟩
    · obtain ⟨-, cur, hc⟩ := ktn N1 P hP; exact ⟨cur, 85, .inr rfl, hc⟩
    · obtain ⟨-, cur, hc⟩ := ktn N2 P hP; exact ⟨cur, 85, .inr rfl, hc⟩
    · obtain ⟨-, cur, hc⟩ := ktn N3 P hP; exact ⟨cur, 85, .inr rfl, hc⟩
  have knew : ∀ k ∈ K3, k ∈ K' ∨ W.heap.size ≤ k := fun P hP => by
    rw [hK3] at hP
    simp only [List.mem_append] at hP
    rcases hP with hP | hP | hP | hP
    · exact .inl hP
    · have := (ktn N1 P hP).1; exact .inr (by omega)
    · have := (ktn N2 P hP).1; exact .inr (by omega)
    · have := (ktn N3 P hP).1; exact .inr (by omega)
  have nZ3 : ∀ k ∈ Z3, k ∉ K3 := fun k hk => by
    rcases hZ3 k hk with rfl | hk
    · exact nK V3 _ _ _ _ (keep0 a3 blk2') (by decide) kt3
    · obtain ⟨cur, hc⟩ := own_typ nw2.own hk
      exact nK V3 _ _ _ _ (keep0 a3 hc) (by decide) kt3
  have d12 : ∀ k, s1.v.ownBlock = some k → rw.v.ownBlock ≠ some k := fun k hk hk2 => by
    obtain ⟨cur, hc⟩ := own_typ h.nw.own hk2
    have := lt_of_heap hc
    rcases own1 k hk with h1 | h1
    · exact h.dif k h1 hk2
    · omega
  have off4 : ∀ {e : Nat} {s : Sl} {us : List Value}, e ≠ 73 → (e ≠ 48 ∨ ∀ k, s.v.ownBlock = some k → rw.v.ownBlock ≠ some k) → Nw w W2 e 1 s us → Nw w W4 e 1 s us := fun h73 h48 hn => hn.off aZ4 nw3.ap (fun k hk hm => by
    obtain ⟨cur, hc⟩ := own_typ hn.own hk
    rcases hZ3 k hm with rfl | hm
    · rw [blk2'] at hc; simp at hc; exact h73 hc.2.symm
    · rcases h48 with h48 | h48
      · obtain ⟨cu, hc2⟩ := own_typ nw2.own hm
        rw [hc2] at hc; simp at hc; exact h48 hc.2.symm
      · exact h48 k hk hm)
  have kb3 : InK K3 b := fun P o hP => hKK P (kb P o hP)
  have kg3 : InK K3 g := fun P o hP => hKK P (kg P o hP)
  have kq3 : InK K3 q := fun P o hP => hKK P (kq P o hP)
  obtain ⟨lb1, lb2, lb3, lb4⟩ := gL_3 (l := sc) (a := ub) (b := ug) (c := uq)
  rw [h.ls] at lb1 lb2 lb3 lb4
  have gw : ∀ i, (i < sl.length → gS (wl ++ [c1, c2, c3]) i = gS wl i) ∧ gS (wl ++ [c1, c2, c3]) sl.length = c1 ∧ gS (wl ++ [c1, c2, c3]) (sl.length + 1) = c2 ∧ gS (wl ++ [c1, c2, c3]) (sl.length + 2) = c3 := fun i => by
    rw [← h.lw]
    refine ⟨fun hi => ?_, ?_, ?_, ?_⟩
    · rcases gS_3 (l := wl) (a := c1) (b := c2) (c := c3) (i := i) (by simp; omega) with ⟨_, e⟩ | ⟨e, _⟩ | ⟨e, _⟩ | ⟨e, _⟩
      · exact e
      all_goals omega
    · rcases gS_3 (l := wl) (a := c1) (b := c2) (c := c3) (i := wl.length) (by simp) with ⟨e, _⟩ | ⟨_, e⟩ | ⟨e, _⟩ | ⟨e, _⟩
      · omega
      · exact e
      all_goals omega
    · rcases gS_3 (l := wl) (a := c1) (b := c2) (c := c3) (i := wl.length + 1) (by simp) with ⟨e, _⟩ | ⟨e, _⟩ | ⟨_, e⟩ | ⟨e, _⟩
      · omega
      · omega
      · exact e
      · omega
    · rcases gS_3 (l := wl) (a := c1) (b := c2) (c := c3) (i := wl.length + 2) (by simp) with ⟨e, _⟩ | ⟨e, _⟩ | ⟨e, _⟩ | ⟨_, e⟩
      · omega
      · omega
      · omega
      · exact e
  have L4 : ∀ {s : Sl} {xs : List S}, InK K3 s → L W2 s.p s.n xs → L W4 s.p s.n xs := fun hk hl => hl.kept aZ4 (fun P o hP hm => nZ3 P hm (hk P o hP))
  have L5 : ∀ {s : Sl} {xs : List S}, InK K3 s → L V3 s.p s.n xs → L W4 s.p s.n xs := fun hk hl => hl.kept aZ3 (fun P o hP hm => nZ3 P hm (hk P o hP))
  refine ⟨s1, W1, hrun1, hH1, W2, hW2, blk2', c1, V1, hr1, n1.ap, c2, V2, hr2, n2.ap, c3, V3, hr3, n3.ap, s2, W3, hrun2, hH3, ⟨K3, hKK, knew, ?_⟩, ?_⟩
  · rw [← hW4]
    refine ⟨nw3.ap, h.hH, by rw [blk4]; rfl, off4 (by decide) (.inl (by decide)) nb2, off4 (by decide) (.inl (by decide)) nh2, ?_, ?_, ?_, h.lb, by simp [h.ls], by simp [h.lw], ⟨h.lim.1, by simp; omega⟩, fun i hi => ?_, fun i hi => ?_, fun P hP => ?_⟩
    · have := off4 (by decide) (.inr d12) ns1
      rw [List.map_append]; exact this
    · rw [List.map_append]; exact nw3
    · intro k hk1 hk2
      rcases own3 k hk2 with h1 | h1
      · exact d12 k hk1 h1
      · obtain ⟨cur, hc⟩ := own_typ ns1.own hk1
        have := lt_of_heap hc
        have := a3.size
        omega
    · have kk : InK K3 (gS bl i) := fun P o hP => hKK P (hK P ((h.b i hi).2 P o hP))
      exact ⟨(hbs2 i hi).kept aZ4 (fun P o hP hm => nZ3 P hm (kk P o hP)), kk⟩
    · rcases gS_3 hi with ⟨e1, e2⟩ | ⟨e1, e2⟩ | ⟨e1, e2⟩ | ⟨e1, e2⟩
      · have q1 : InK K3 (gS sl i) := fun P o hP => hKK P (hK P ((h.s i e1).1.2 P o hP))
        have q2 : InK K3 (gS wl i) := fun P o hP => hKK P (hK P ((h.s i e1).2.2 P o hP))
        rw [e2, lb1 i e1, (gw i).1 e1]
        exact ⟨⟨L4 q1 (hss2 i e1).1, q1⟩, L4 q2 (hss2 i e1).2, q2⟩
      · rw [e2, e1, lb2, (gw i).2.1]
        exact ⟨⟨L4 kb3 hb2, kb3⟩, L5 k1 l1, k1⟩
      · rw [e2, e1, lb3, (gw i).2.2.1]
        exact ⟨⟨L4 kg3 hg2, kg3⟩, L5 k2 l2, k2⟩
      · rw [e2, e1, lb4, (gw i).2.2.2]
        exact ⟨⟨L4 kq3 hq2, kq3⟩, L5 k3 l3, k3⟩
    · obtain ⟨cur, t, ht, hh⟩ := kt3 P hP
      exact ⟨cur, t, ht, (aZ3.block P (lt_of_heap hh) (fun hm => nZ3 P hm hP)).trans hh⟩
  · rw [← hW4]
    refine (show Wt [] W W2 from ⟨Z1, aZ1, fun k hk => .inr ?_⟩).trans ⟨Z3, aZ4, fun k hk => .inr ?_⟩
    · rcases hZ1 k hk with rfl | hk
      · exact ⟨_, 73, by decide, h.blk⟩
      · obtain ⟨cur, hc⟩ := own_typ h.ns.own hk
        exact ⟨cur, 48, by decide, hc⟩
    · rcases hZ3 k hk with rfl | hk
      · exact ⟨_, 73, by decide, blk2'⟩
      · obtain ⟨cur, hc⟩ := own_typ nw2.own hk
        exact ⟨cur, 48, by decide, hc⟩
end Go.Proofs.Ytllhmidpphlbhaa.ds
