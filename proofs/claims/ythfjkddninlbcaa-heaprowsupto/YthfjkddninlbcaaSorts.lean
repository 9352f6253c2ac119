import Derived.Test.YthfjkddninlbcaaAble
namespace Go.Proofs.Ythfjkddninlbcaa.hp
open Go.ChangeShapes Go.WideShapes Go.ChangeAt Go.RowKit
set_option linter.unusedVariables false
def ent (fs : Nat → Int) (k : Nat) : E := ⟨fs k, k, k⟩
def ents (fs : Nat → Int) (N : Nat) : List E := (List.range N).map (ent fs)
theorem ents_succ (fs : Nat → Int) (N : Nat) : ents fs N ++ [ent fs N] = ents fs (N + 1) := by simp [ents, List.range_succ]
theorem ents_length (fs : Nat → Int) (N : Nat) : (ents fs N).length = N := by simp [ents]
theorem ents_mem {fs : Nat → Int} {N : Nat} {e : E} (h : e ∈ ents fs N) : ∃ k, k < N ∧ e = ent fs k := by
  simp [ents] at h
  obtain ⟨k, hk, e⟩ := h
  exact ⟨k, hk, e.symm⟩
theorem ents_nodup (fs : Nat → Int) (N : Nat) : (ents fs N).Pairwise (fun x y => x.a ≠ y.a) := by
  unfold ents
  rw [List.pairwise_map]
  refine List.Pairwise.imp ?_ (List.nodup_range (n := N))
  intro a b h e
  simp [ent] at e
  exact h (by omega)
def bools (bs : List Bool) : List Value := bs.map Value.bool
def rest (n : Nat) : List Bool := List.replicate n false
theorem rest_get (n k : Nat) : (rest n).getD k false = false := by
  unfold rest
  rw [List.getD_eq_getElem?_getD, List.getElem?_replicate]
  split <;> rfl
theorem info4 : (Try.prog.info? 4).map (fun i => (i.zero, i.size, i.bytes)) = some (some (.bool false), 1, 1) := by kernel_rfl
theorem make_bools (w : World) (n : Nat) (h2 : n ≤ 4000000) : Sem.run Try.prog (Instr.makeSlice 29 (Value.int .i64 n) (Value.int .i64 n)) w = .ok (.slice (some ⟨w.heap.size, 0, none⟩) n n) (w.alloc (.cells (bools (rest n)).toArray 4)) := by
  obtain ⟨i, hi, hz0, hz1, hz2⟩ := info_parts info4
  have := run_make (P := Try.prog) w 29 4 i _ Try.underlying29 hi hz0 .i64 .i64 n n (by omega) (by omega) (by rw [hz2]; omega) (by omega)
  rw [this, hz1]
  simp only [Int.toNat_natCast, Nat.mul_one]
  congr 3
  apply Array.ext
  · simp [madeCells, bools, rest]
  · intro j h1 h3
    simp [madeCells, bools, rest, Value.cells, Nat.mod_one]
/-- between two pops -/
structure SInv (fs : Nat → Int) (w wr : World) (H S L N i : Nat) (cs : List E) (bs : List Bool) (lr lm : Int) : Prop where
  own : Own w wr H cs N
  ap : Apart [] w wr
  hl : cs.length = N - i
  hi : i ≤ N
  mem : ∀ e ∈ cs, ∃ k, k < N ∧ e = ent fs k
  nd : cs.Pairwise (fun x y => x.a ≠ y.a)
  hS : wr.heap[S]? = some (.cells (bools bs).toArray 4 (0, 0))
  bl : bs.length = N
  un : ∀ e ∈ cs, bs.getD e.a.toNat false = false
  hL : wr.heap[L]? = some (.cells #[.int .i64 lr, .int .i64 lm] 28 (0, 0))
  last : 0 < i → ∀ y ∈ cs, ¬ (y.r < lr ∨ (y.r = lr ∧ y.a < lm))
  hS0 : w.heap.size ≤ S
  hL0 : w.heap.size ≤ L
theorem pw_perm {l l' : List E} (h : l.Perm l') (p : l'.Pairwise (fun x y => x.a ≠ y.a)) : l.Pairwise (fun x y => x.a ≠ y.a) :=
  (h.pairwise_iff (fun {a b} (h : a.a ≠ b.a) => h.symm)).2 p
theorem SInv.step {fs : Nat → Int} {w wr w2 : World} {H S L N i : Nat} {cs cs2 : List E} {bs : List Bool} {lr lm : Int} (h : SInv fs w wr H S L N i cs bs lr lm) (hi : i < N) (k : Nat) (hk : k < N) (own2 : Own w w2 H cs2 N) (ap2 : Apart [] w w2) (perm : (ent fs k :: cs2).Perm cs) (mn : ∀ y ∈ cs2, lex y (ent fs k) = false)
    (hS2 : w2.heap[S]? = some (.cells (bools bs).toArray 4 (0, 0))) (hL2 : w2.heap[L]? = some (.cells #[.int .i64 lr, .int .i64 lm] 28 (0, 0))) (hne : S ≠ L) :
    SInv fs w (((w2.setCell ⟨S, k, none⟩ (.bool true)).setCell ⟨L, 0, none⟩ (.int .i64 (fs k))).setCell ⟨L, 1, none⟩ (.int .i64 k)) H S L N (i + 1) cs2 (bs.set k true) (fs k) k := by
  have nd1 := pw_perm perm h.nd
  rw [List.pairwise_cons] at nd1
  have aS : Apart [S, L] w2 (((w2.setCell ⟨S, k, none⟩ (.bool true)).setCell ⟨L, 0, none⟩ (.int .i64 (fs k))).setCell ⟨L, 1, none⟩ (.int .i64 k)) := (((Apart.refl _ _).setCell (by simp) _).setCell (by simp) _).setCell (by simp) _
  have s1 := heap_setCell_same w2 S k _ 4 (.bool true) hS2
  have s2 := (heap_setCell_other (w2.setCell ⟨S, k, none⟩ (.bool true)) ⟨L, 0, none⟩ S (.int .i64 (fs k)) (fun e => hne e)).trans s1
  have s3 := (heap_setCell_other _ ⟨L, 1, none⟩ S (.int .i64 k) (fun e => hne e)).trans s2
  have l1 := (heap_setCell_other w2 ⟨S, k, none⟩ L (.bool true) (fun e => hne e.symm)).trans hL2
  obtain ⟨v, at2, hv⟩ := own2.ex
  refine ⟨⟨⟨v, at2.kept aS ?_, hv⟩, own2.hp, own2.hH⟩, ap2.trans' aS (by simp; exact ⟨h.hS0, h.hL0⟩), ?_, by omega, fun e he => h.mem e (perm.subset (by simp [he])), nd1.2, ?_, by simp [h.bl], ?_, row2 l1 _ _, fun _ y hy => ?_, h.hS0, h.hL0⟩
  · intro q hq
    simp at hq
    refine ⟨?_, ?_, by simp⟩
    · rintro rfl
      rcases hq with rfl | rfl
      · rw [at2.hh] at hS2; simp at hS2
      · rw [at2.hh] at hL2; simp at hL2
    · intro e
      obtain ⟨cur, h2⟩ := own_typ at2.own e
      rcases hq with rfl | rfl
      · rw [hS2] at h2; simp at h2
      · rw [hL2] at h2; simp at h2
  · have := perm.length_eq
    rw [h.hl] at this
    simp at this
    omega
  · rw [s3]; simp [bools]
  · intro e he
    have h1 := h.un e (perm.subset (by simp [he]))
    have h2 := nd1.1 e he
    obtain ⟨q, hq, rfl⟩ := h.mem e (perm.subset (by simp [he]))
    simp [ent] at h1 h2 ⊢
    have : k ≠ q := by omega
    simp only [List.getElem?_set, this, if_false]
    exact h1
  · have := mn y hy
    rw [lex_false] at this
    simpa [ent] using this
theorem SInv.drewN {fs : Nat → Int} {w wr : World} {H S L N i : Nat} {cs : List E} {bs : List Bool} {lr lm : Int} (h : SInv fs w wr H S L N i cs bs lr lm) (q : Nat) : SInv fs w (wr.drewN q) H S L N i cs bs lr lm :=
  { h with own := h.own.kept ((Apart.refl _ _).drewN q), ap := h.ap.drewN q, hS := h.hS, hL := h.hL }
theorem two_least {fs : Nat → Int} {N : Nat} {cs cs2 : List E} {e1 : E} {k : Nat} (mem : ∀ e ∈ cs, ∃ k, k < N ∧ e = ent fs k) (h1 : e1 ∈ cs) (m1 : ∀ y ∈ cs, lex y e1 = false) (perm : (ent fs k :: cs2).Perm cs) (mn : ∀ y ∈ cs2, lex y (ent fs k) = false) : e1 = ent fs k := by
  have a := m1 (ent fs k) (perm.subset (by simp))
  have b : lex e1 (ent fs k) = false := by
    have := perm.symm.subset h1
    simp at this
    rcases this with rfl | h
    · exact lexOrd.irr _
    · exact mn _ h
  obtain ⟨q, _, rfl⟩ := mem e1 h1
  rw [lex_false] at a b
  simp [ent] at a b
  have : q = k := by omega
  rw [this]
theorem nilq (a : Addr) (W : World) : Sem.run Try.prog (binOp BinOp.eql 23 (Value.pointer (some a)) (Value.pointer none)) W = .ok (.bool false) W := by first | rfl | (simp [binOp, Try.underlying23, go_sem]; done)
/-- numbers that came in -/
def IsInts (w : World) (p : Option Addr) (len : Nat) (fs : Nat → Int) : Prop := 0 < len → ∃ P o, p = some ⟨P, o, none⟩ ∧ P < w.heap.size ∧ ∀ i, i < len → w.cell? ⟨P, o + i, none⟩ = some (.int .i64 (fs i))
set_option maxHeartbeats 2000000 in
set_option maxRecDepth 100000 in
theorem sorts_walk (w : World) (p : Option Addr) (N cap : Nat) (fs : Nat → Int) (hN : N ≤ 1100000) (hp : IsInts w p N fs) :
    Calls Try.prog 3 #[.slice p N cap] w fun r w' => r = .returned (.bool true) ∧ Below w.heap.size w w' := by
  have hnil := nilq
  go_enter Try.func3, Try.ntmps3
  go_wp2_with fail
  refine (own_fresh w w (Nat.le_refl _)).mono ?_
  rintro r w1 ⟨rfl, o1, a1⟩
  go_wp2_with fail
  refine (able_ok w1).mono ?_
  rintro r w2 ⟨rfl, a2⟩
  have o2 := o1.kept a2
  have ap2 := a1.trans a2
  clear o1 a1 a2
  go_wp2
  go_loopw [4] (fun v wr => ∃ i : Nat, i ≤ N ∧ v = .int .i64 i ∧ Apart [] w wr ∧ ∃ cs, Own w wr w.heap.size cs i ∧ cs.Perm (ents fs i)) (fun v _ => N - (intOf v).toNat)
  case atStart => exact ⟨0, Nat.zero_le _, rfl, ap2, [], o2, by simp [ents]⟩
  case round =>
    clear o2 ap2
    obtain ⟨i, hi, rfl, ap, cs, own, perm⟩ := hrel
    by_cases hlt : i < N
    · obtain ⟨P, o, rfl, hP, hc⟩ := hp (by omega)
      have e0 := (ap.cell (p := ⟨P, o + i, none⟩) hP (by simp)).trans (hc i hlt)
      have hPu := own_push own (fs i) i (by rw [perm.length_eq, ents_length]; omega) (by omega) w ap rfl
      clear hc hp
      go_wp2_with fail
      refine hPu.mono ?_
      clear hPu
      rintro r w3 ⟨rfl, ⟨cs3, o3, p3⟩, a3, s3, _⟩
      have q3 : cs3.Perm (ents fs (i + 1)) := by
        rw [← ents_succ]
        exact p3.trans (perm.append_right _)
      clear perm p3 own ap e0
      go_wp2
      go_roundw
      case rel => exact ⟨i + 1, by omega, by go_num, a3, cs3, o3, q3⟩
      case measure => simp [intOf]; omega
    · obtain rfl : i = N := by omega
      have hrun := make_bools wr i (by omega)
      obtain ⟨Z, hZ⟩ : ∃ Z, Z = (bools (rest i)).toArray := ⟨_, rfl⟩
      rw [← hZ] at hrun
      have aS : Apart [] wr ((wr.alloc (.cells Z 4)).alloc (.cells #[.int .i64 0, .int .i64 0] 28)) := ((Apart.refl _ _).alloc _).alloc _
      have inv0 : SInv fs w ((wr.alloc (.cells Z 4)).alloc (.cells #[.int .i64 0, .int .i64 0] 28)) w.heap.size wr.heap.size (wr.heap.size + 1) i 0 cs (rest i) 0 0 := by
        refine ⟨own.kept aS, ap.trans aS, by rw [perm.length_eq, ents_length]; rfl, Nat.zero_le _, fun e he => ents_mem (perm.subset he), pw_perm perm (ents_nodup fs i), ?_, by simp [rest], fun e he => ?_, ?_, fun h0 => absurd h0 (by omega), ap.size, Nat.le_trans ap.size (Nat.le_succ _)⟩
        · rw [Below.heap_alloc _ _ _ (by simp), hZ]; exact heap_alloc_new wr _
        · exact rest_get _ _
        · have := heap_alloc_new (wr.alloc (.cells Z 4)) (.cells #[.int .i64 0, .int .i64 0] 28)
          simpa using this
      clear hZ own perm aS
      have hsz : w.heap.size ≤ wr.heap.size := ap.size
      generalize hS : wr.heap.size = S at *
      clear ap
      go_wp2
      go_loopw [7] (fun v wq => ∃ j : Nat, v = .int .i64 j ∧ ∃ cs bs lr lm, SInv fs w wq w.heap.size S (S + 1) i j cs bs lr lm) (fun v _ => i - (intOf v).toNat)
      case atStart => exact ⟨0, rfl, _, _, _, _, inv0⟩
      case round =>
        clear inv0 hrun hS
        obtain ⟨j, rfl, cs, bs, lr, lm, inv⟩ := hrel
        have hj := inv.hi
        by_cases hlt : j < i
        · obtain ⟨P, o, rfl, hP, hc⟩ := hp (by omega)
          have hcl : 0 < cs.length := by rw [inv.hl]; omega
          have hLe := own_least inv.own hcl
          go_wp2_with fail
          refine hLe.mono ?_
          clear hLe
          rintro r w3 ⟨e1, rfl, he1, m1, a3⟩
          have a3' : Apart [] wr (w3.alloc (.cells #[.int .i64 e1.r, .int .i64 e1.m] 28)) := a3.alloc _
          have hPo := own_pop (inv.own.kept a3') hcl (inv.ap.trans a3')
          go_wp2_with fail
          refine hPo.mono ?_
          clear hPo
          rintro r w4 ⟨e, cs4, rfl, o4, p4, m4, a4, s4, k4⟩
          obtain ⟨k, hk, rfl⟩ := inv.mem e (p4.subset (by simp))
          have he := two_least inv.mem he1 m1 p4 m4
          subst he
          have b8 := k4 _ _ _ _ (heap_alloc_new w3 (.cells #[.int .i64 (ent fs k).r, .int .i64 (ent fs k).m] 28)) (by decide) (by decide)
          have bS := k4 _ _ _ _ ((a3'.block _ (lt_of_heap inv.hS) (by simp)).trans inv.hS) (by decide) (by decide)
          have bL := k4 _ _ _ _ ((a3'.block _ (lt_of_heap inv.hL) (by simp)).trans inv.hL) (by decide) (by decide)
          have a5 : Apart [] w4 (w4.alloc (.cells #[.int .i64 (ent fs k).r, .int .i64 (ent fs k).m] 28)) := (Apart.refl _ _).alloc _
          have b8' := (a5.block _ (lt_of_heap b8) (by simp)).trans b8
          have bS' := (a5.block _ (lt_of_heap bS) (by simp)).trans bS
          have bL' := (a5.block _ (lt_of_heap bL) (by simp)).trans bL
          have bX := heap_alloc_new w4 (.cells #[.int .i64 (ent fs k).r, .int .i64 (ent fs k).m] 28)
          have hun := inv.un (ent fs k) (p4.subset (by simp))
          have hgt : bs[k]? = some false := by
            have hkb : k < bs.length := by rw [inv.bl]; exact hk
            simp [ent, hkb] at hun
            rw [List.getElem?_eq_getElem hkb, hun]
          have inv6 := inv.step hlt k hk (o4.kept a5) (a4.trans a5) p4 m4 bS' bL' (by omega)
          have hlast : 0 < j → ¬ (fs k < lr ∨ (fs k = lr ∧ (k : Int) < lm)) := fun h0 => inv.last h0 (ent fs k) (p4.subset (by simp))
          simp only [ent] at b8' bX bS' bL' a5 inv6
          go_wp2_with fail
          simp only [ent]
          generalize hW6 : w4.alloc (.cells #[.int .i64 (fs k), .int .i64 (k : Int)] 28) = W6 at *
          have c80 : W6.cell? ⟨w3.heap.size, 0, none⟩ = some (.int .i64 (fs k)) := by rw [cell_of_row _ _ _ _ _ _ b8']; rfl
          have c81 : W6.cell? ⟨w3.heap.size, 1, none⟩ = some (.int .i64 k) := by rw [cell_of_row _ _ _ _ _ _ b8']; rfl
          have cX0 : W6.cell? ⟨w4.heap.size, 0, none⟩ = some (.int .i64 (fs k)) := by rw [cell_of_row _ _ _ _ _ _ bX]; rfl
          have cX1 : W6.cell? ⟨w4.heap.size, 1, none⟩ = some (.int .i64 k) := by rw [cell_of_row _ _ _ _ _ _ bX]; rfl
          have cS : W6.cell? ⟨S, k, none⟩ = some (.bool false) := by rw [cell_of_row _ _ _ _ _ _ bS']; simp [bools, hgt]
          have fS := frozen_of_row W6 S k _ _ bS'
          have cL0 : W6.cell? ⟨S + 1, 0, none⟩ = some (.int .i64 lr) := by rw [cell_of_row _ _ _ _ _ _ bL']; rfl
          have cL1 : W6.cell? ⟨S + 1, 1, none⟩ = some (.int .i64 lm) := by rw [cell_of_row _ _ _ _ _ _ bL']; rfl
          have fL0 := frozen_of_row W6 (S + 1) 0 _ _ bL'
          have fL1 := frozen_of_row W6 (S + 1) 1 _ _ bL'
          have cP := ((a4.trans a5).cell (p := ⟨P, o + k, none⟩) hP (by simp)).trans (hc k hk)
          have d1 : decide ((k : Int) < 0) = false := decide_eq_false (by omega)
          have d2 : decide ((i : Int) ≤ (k : Int)) = false := decide_eq_false (by omega)
          have d3 : (fs k != fs k) = false := by simp
          have d4 : ((k : Int) != (k : Int)) = false := by simp
          have hkI : (k : Int) < (i : Int) := by omega
          have hS4 := lt_of_heap bS
          have hL4 := lt_of_heap bL
          have n1 : S ≠ w4.heap.size := by omega
          have n2 : S + 1 ≠ w4.heap.size := by omega
          have n3 : w4.heap.size ≠ S := by omega
          have n4 : w4.heap.size ≠ S + 1 := by omega
          clear hp hc b8 bS bL b8' bS' bL' bX a5 a3 a3' k4 m1 m4 p4 inv o4 he1 hun hgt hnil
          go_quiet (fail)
          clear d1 d2 d3 d4
          by_cases hj0 : j = 0
          · have e1 : ¬ ((0 : Int) < (j : Int)) := by omega
            clear hlast
            go_wp2
            go_roundw
            case rel => exact ⟨j + 1, by go_num, _, _, _, _, inv6.drewN _⟩
            case measure => simp [intOf]; omega
          · have e1 : (0 : Int) < (j : Int) := by omega
            have hl := hlast (by omega)
            by_cases e2 : lr = fs k
            · have e3 : ¬ ((k : Int) < lm) := fun h => hl (.inr ⟨e2.symm, h⟩)
              subst e2
              clear hlast hl
              go_wp2
              go_roundw
              case rel => exact ⟨j + 1, by go_num, _, _, _, _, inv6.drewN _⟩
              case measure => simp [intOf]; omega
            · have e3 : lr < fs k := by omega
              have e4 : ¬ (fs k < lr) := by omega
              have e5 : (lr == fs k) = false := beq_eq_false_iff_ne.2 e2
              clear hlast hl e2
              go_wp2
              go_roundw
              case rel => exact ⟨j + 1, by go_num, _, _, _, _, inv6.drewN _⟩
              case measure => simp [intOf]; omega
        · have hcl : cs.length = 0 := by rw [inv.hl]; omega
          have hPo := own_pop_none inv.own hcl
          go_wp2_with fail
          refine hPo.mono ?_
          clear hPo
          rintro r w3 ⟨rfl, a3⟩
          have hL := own_len ((inv.own.kept a3).kept ((Apart.refl [] w3).alloc (.cells #[.int .i64 0, .int .i64 0] 28))) 0 hcl
          have bel := ((inv.ap.trans a3).alloc (.cells #[.int .i64 0, .int .i64 0] 28)).below (Nat.le_refl _) (by simp)
          clear inv hp hcl
          go_wp2_with fail
          refine hL.mono ?_
          clear hL
          rintro r w4 ⟨rfl, rfl⟩
          go_wp2
          go_ret
          exact ⟨rfl, bel⟩
end Go.Proofs.Ythfjkddninlbcaa.hp
