import Derived.Test.YthfjkddninlbcaaStep2
import Derived.Test.YthfjkddninlbcaaSorts
namespace Go.Proofs.Ythfjkddninlbcaa.hp
open Go.ChangeShapes Go.WideShapes Go.ChangeAt Go.RowKit
set_option linter.unusedVariables false
def StepOk (ok : Int → Prop) : Prop := ∀ (w0 w : World) (W : Nat) (S : Nat → SD) (av : Value) (A : List E), WS w0 w W S av A → (∀ i, i < 2 → Good A (S i)) → ∀ t : Nat, t ≤ 1100000 → A.length ≤ t → (∀ i, i < 2 → (S i).n ≤ t ∧ (S i).L.length ≤ t) → ∀ who kind a b : Int, ok kind →
  Calls Try.prog 24 #[.pointer (some ⟨W, 0, none⟩), .agg #[.int .i64 who, .int .i64 kind, .int .i64 a, .int .i64 b]] w fun r w' => r = .returned (.bool true) ∧ SP w0 w' W (t + 1)
/-- a script that came in -/
structure OpC where
  who : Int
  kind : Int
  a : Int
  b : Int
def IsScript (w : World) (p : Option Addr) (len : Nat) (f : Nat → OpC) : Prop := 0 < len → ∃ P o, p = some ⟨P, o, none⟩ ∧ P < w.heap.size ∧ ∀ i, i < len → w.cell? ⟨P, o + i * 4, none⟩ = some (.int .i64 (f i).who) ∧ w.cell? ⟨P, o + i * 4 + 1, none⟩ = some (.int .i64 (f i).kind) ∧ w.cell? ⟨P, o + i * 4 + 2, none⟩ = some (.int .i64 (f i).a) ∧ w.cell? ⟨P, o + i * 4 + 3, none⟩ = some (.int .i64 (f i).b)
/-- the first i heaps are made -/
structure PS (w0 w : World) (W i : Nat) (Hs : Nat → Nat) : Prop where
  hW : w.heap[W]? = some (.cells #[if 0 < i then .pointer (some ⟨Hs 0, 0, none⟩) else .pointer none, if 1 < i then .pointer (some ⟨Hs 1, 0, none⟩) else .pointer none, .slice none 0 0, .slice none 0 0, .slice none 0 0] 61 (0, 0))
  hp : ∀ j, j < i → HP w (Hs j) (.slice none 0 0) [] 0 ∧ w0.heap.size ≤ Hs j
  ne : ∀ j k, j < i → k < i → j ≠ k → Hs j ≠ Hs k
  nW : w0.heap.size ≤ W
  ap : Apart [] w0 w
theorem hp_fresh {w : World} {H : Nat} (h : At w H freshF [] (.slice none 0 0) [] 0) : HP w H (.slice none 0 0) [] 0 := ⟨⟨[], h, Hp.nil _, List.Perm.refl _⟩, List.Pairwise.nil, List.Pairwise.nil⟩
theorem PS.ws {w0 w : World} {W : Nat} {Hs : Nat → Nat} (h : PS w0 w W 2 Hs) : SP w0 w W 0 := by
  refine ⟨fun j => ⟨Hs j, .slice none 0 0, [], 0, .slice none 0 0, [], []⟩, .slice none 0 0, [], ⟨h.hW, fun i hi => (h.hp i hi).1, fun i hi => ⟨World.ownsRow_nil _ _ _ _, List.Pairwise.nil, List.Perm.refl _, List.Pairwise.nil, List.Pairwise.nil, by simp⟩, World.ownsRow_nil _ _ _ _, by simp, fun i j hi hj e => h.ne i j hi hj e, by simp [Value.ownBlock], by simp [Value.ownBlock], h.nW, fun i hi => ⟨(h.hp i hi).2, by simp [Value.ownBlock], by simp [Value.ownBlock]⟩, by simp [Value.ownBlock], h.ap⟩, fun i hi => ⟨rfl, by simp, by simp⟩, by simp, fun i hi => by simp⟩
theorem PS.step {w0 w w1 : World} {W i : Nat} {Hs : Nat → Nat} (h : PS w0 w W i Hs) (hi : i < 2) (a1 : Apart [] w w1) (H : Nat) (hH : w.heap.size ≤ H) (at1 : At w1 H freshF [] (.slice none 0 0) [] 0) :
    (∃ v, w1.cell? ⟨W, i, none⟩ = some v) ∧ w1.frozen? ⟨W, i, none⟩ = false ∧ PS w0 (w1.setCell ⟨W, i, none⟩ (.pointer (some ⟨H, 0, none⟩))) W (i + 1) (fun j => if j = i then H else Hs j) ∧ (w1.setCell ⟨W, i, none⟩ (.pointer (some ⟨H, 0, none⟩))).cell? ⟨W, i, none⟩ = some (.pointer (some ⟨H, 0, none⟩)) := by
  have hW1 := (a1.block W (lt_of_heap h.hW) (by simp)).trans h.hW
  have a2 : Apart [W] w1 (w1.setCell ⟨W, i, none⟩ (.pointer (some ⟨H, 0, none⟩))) := (Apart.refl _ _).setCell (by simp) _
  have s1 := heap_setCell_same w1 W i _ 61 (.pointer (some ⟨H, 0, none⟩)) hW1
  have hWlt := lt_of_heap h.hW
  have hneW : ∀ G, HP w1 G (.slice none 0 0) [] 0 → G ≠ W := by
    rintro G hG rfl
    obtain ⟨c, e⟩ := hG.typ.1
    rw [hW1] at e; simp at e
  refine ⟨?_, frozen_of_row _ _ _ _ _ hW1, ⟨?_, fun j hj => ?_, fun j k hj hk e => ?_, h.nW, (h.ap.trans a1).trans' a2 (by simp; exact h.nW)⟩, ?_⟩
  · rw [cell_of_row _ _ _ _ _ _ hW1]
    match i, hi with
    | 0, _ => exact ⟨_, rfl⟩
    | 1, _ => exact ⟨_, rfl⟩
  · rw [s1]
    match i, hi with
    | 0, _ => simp
    | 1, _ => simp
  · by_cases e : j = i
    · subst e
      simp only [if_true]
      have := hp_fresh at1
      exact ⟨this.kept a2 (fun k hk => ⟨fun x => hneW H this (x.symm.trans (List.mem_singleton.1 hk)), by simp [Value.ownBlock]⟩), Nat.le_trans h.ap.size hH⟩
    · simp only [if_neg e]
      obtain ⟨x1, x2⟩ := h.hp j (by omega)
      have := x1.kept a1 (by simp)
      exact ⟨this.kept a2 (fun k hk => ⟨fun x => hneW _ this (x.symm.trans (List.mem_singleton.1 hk)), by simp [Value.ownBlock]⟩), x2⟩
  · have lt : ∀ j, j < i → Hs j < w.heap.size := fun j hj => by
      obtain ⟨c, e⟩ := (h.hp j hj).1.typ.1
      exact lt_of_heap e
    by_cases e1 : j = i <;> by_cases e2 : k = i
    · omega
    · simp only [if_pos e1, if_neg e2]; have := lt k (by omega); omega
    · simp only [if_neg e1, if_pos e2]; have := lt j (by omega); omega
    · simp only [if_neg e1, if_neg e2]; exact h.ne j k (by omega) (by omega) e
  · rw [cell_of_row _ _ _ _ _ _ s1]
    match i, hi with
    | 0, _ => rfl
    | 1, _ => rfl
theorem nilneq (W : World) : Sem.run Try.prog (binOp BinOp.neq 23 (Value.pointer none) (Value.pointer none)) W = .ok (.bool false) W := by first | rfl | (simp [binOp, Try.underlying23, go_sem]; done)
set_option maxHeartbeats 4000000 in
set_option maxRecDepth 100000 in
theorem plays_ok (w : World) (p : Option Addr) (N cap : Nat) (f : Nat → OpC) (hN : N ≤ 1100000) (hs : IsScript w p N f) (lo hi : Int) (hst : StepOk (fun k => k = 1 ∨ (lo ≤ k ∧ k ≤ hi))) :
    Calls Try.prog 19 #[.slice p N cap, .int .i64 lo, .int .i64 hi] w fun r w' => r = .returned (.bool true) ∧ Below w.heap.size w w' := by
  have hnil := nilq
  have hneq := nilneq
  have ps0 : PS w (w.alloc (.cells #[.pointer none, .pointer none, .slice none 0 0, .slice none 0 0, .slice none 0 0] 61)) w.heap.size 0 (fun _ => 0) := ⟨by simpa using heap_alloc_new w (.cells #[.pointer none, .pointer none, .slice none 0 0, .slice none 0 0, .slice none 0 0] 61), fun j hj => absurd hj (by omega), fun j k hj => absurd hj (by omega), Nat.le_refl _, (Apart.refl _ _).alloc _⟩
  have HST : Hid (StepOk (fun k => k = 1 ∨ (lo ≤ k ∧ k ≤ hi))) := hst
  clear hst
  go_enter Try.func19, Try.ntmps19
  go_wp2_with fail
  refine (able_ok _).mono ?_
  rintro r w1 ⟨rfl, a1⟩
  have hNn := new_nil w1
  go_wp2_with fail
  refine hNn.mono ?_
  clear hNn
  rintro r w2 ⟨rfl, rfl⟩
  have ps1 : PS w w2 w.heap.size 0 (fun _ => 0) := ⟨(a1.block _ (lt_of_heap ps0.hW) (by simp)).trans ps0.hW, fun j hj => absurd hj (by omega), fun j k hj => absurd hj (by omega), Nat.le_refl _, ps0.ap.trans a1⟩
  clear ps0 a1
  go_wp2
  go_loopw [8] (fun v wr => ∃ i : Nat, i ≤ 2 ∧ v = .int .i64 i ∧ ∃ Hs, PS w wr w.heap.size i Hs) (fun v _ => 2 - (intOf v).toNat)
  case atStart => exact ⟨0, Nat.zero_le _, rfl, _, ps1⟩
  case round =>
    clear ps1
    obtain ⟨i, hi2, rfl, Hs, ps⟩ := hrel
    by_cases hlt : i < 2
    · have iI : (i : Int) < 2 := by omega
      go_wp2_with fail
      go_region_with (first | (go_at_call 9; refine (fresh_at (wr.drewN 1)).mono ?_; rintro r w3 ⟨rfl, at3, a3⟩; have st := ps.step hlt (((Apart.refl [] wr).drewN 1).trans a3) wr.heap.size (Nat.le_refl _) at3; obtain ⟨⟨vv, cW⟩, fW, ps4, c4⟩ := st))
      all_goals
        clear ps at3 a3
        go_wp2
        go_roundw
        case rel => exact ⟨i + 1, by omega, by go_num, _, ps4⟩
        case measure => simp [intOf]; omega
    · obtain rfl : i = 2 := by omega
      have sp0 := ps.ws
      clear ps
      go_wp2
      go_loopw [9] (fun v wq => ∃ t : Nat, t ≤ N ∧ v = .int .i64 t ∧ SP w wq w.heap.size t) (fun v _ => N - (intOf v).toNat)
      case atStart => exact ⟨0, Nat.zero_le _, rfl, sp0⟩
      case round =>
        clear sp0
        obtain ⟨t, ht, rfl, sp⟩ := hrel
        obtain ⟨S, av, A, ws, gd, hA, hn⟩ := sp.ex
        clear sp
        by_cases hlt : t < N
        · obtain ⟨P, o, rfl, hP, hc⟩ := hs (by omega)
          obtain ⟨q0, q1, q2, q3⟩ := hc t hlt
          have e0 := (ws.ap.cell (p := ⟨P, o + t * 4, none⟩) hP (by simp)).trans q0
          have e1 := (ws.ap.cell (p := ⟨P, o + t * 4 + 1, none⟩) hP (by simp)).trans q1
          have e2 := (ws.ap.cell (p := ⟨P, o + t * 4 + 2, none⟩) hP (by simp)).trans q2
          have e3 := (ws.ap.cell (p := ⟨P, o + t * 4 + 3, none⟩) hP (by simp)).trans q3
          have hPr : P < wr.heap.size := Nat.lt_of_lt_of_le hP ws.ap.size
          clear q0 q1 q2 q3 hc hs
          have a4 : Apart [] wr (wr.alloc (.cells #[.int .i64 (f t).who, .int .i64 (f t).kind, .int .i64 (f t).a, .int .i64 (f t).b] 63)) := (Apart.refl _ _).alloc _
          have hSt := fun ok => HST.out w _ w.heap.size S av A (ws.kept a4) gd t (by omega) hA hn (f t).who (f t).kind (f t).a (f t).b ok
          have spN : SP w (wr.alloc (.cells #[.int .i64 (f t).who, .int .i64 (f t).kind, .int .i64 (f t).a, .int .i64 (f t).b] 63)) w.heap.size (t + 1) := SP.same ws gd t hA hn a4
          generalize (f t).who = who at *
          generalize (f t).kind = kind at *
          generalize (f t).a = a at *
          generalize (f t).b = b at *
          clear ws a4 gd hn hA
          by_cases k1 : kind = 1
          · subst k1
            have hS1 := hSt (.inl rfl)
            clear hSt spN
            go_wp2_with fail
            refine hS1.mono ?_
            clear hS1
            rintro r w5 ⟨rfl, sp5⟩
            go_wp2
            go_roundw
            case rel =>
              repeat apply Exists.intro
              refine ⟨⟨t + 1, by omega, ?_, sp5⟩, rfl⟩
              go_num
            case measure => simp [intOf]; omega
          · have b1 : (kind == 1) = false := beq_eq_false_iff_ne.2 k1
            clear k1
            by_cases k2 : lo ≤ kind
            · by_cases k3 : kind ≤ hi
              · have hS1 := hSt (.inr ⟨k2, k3⟩)
                clear hSt spN
                go_wp2_with fail
                refine hS1.mono ?_
                clear hS1
                rintro r w5 ⟨rfl, sp5⟩
                go_wp2
                go_roundw
                case rel =>
                  repeat apply Exists.intro
                  refine ⟨⟨t + 1, by omega, ?_, sp5⟩, rfl⟩
                  go_num
                case measure => simp [intOf]; omega
              · clear hSt
                go_wp2
                go_roundw
                case rel => exact ⟨t + 1, by omega, by go_num, spN⟩
                case measure => simp [intOf]; omega
            · clear hSt
              go_wp2
              go_roundw
              case rel => exact ⟨t + 1, by omega, by go_num, spN⟩
              case measure => simp [intOf]; omega
        · have hR0 : Calls Try.prog 25 #[.pointer (some ⟨w.heap.size, 0, none⟩), .int .i64 0] _ _ := row_ok ws 0 (by omega) (gd 0 (by omega))
          clear hs
          go_wp2_with fail
          refine hR0.mono ?_
          clear hR0
          rintro r w5 ⟨rfl, a5⟩
          have hR1 : Calls Try.prog 25 #[.pointer (some ⟨w.heap.size, 0, none⟩), .int .i64 1] _ _ := row_ok (ws.kept a5) 1 (by omega) (gd 1 (by omega))
          go_wp2_with fail
          refine hR1.mono ?_
          clear hR1
          rintro r w6 ⟨rfl, a6⟩
          have bel := ((ws.ap.trans a5).trans a6).below (Nat.le_refl _) (by simp)
          clear ws a5 a6
          go_wp2
          go_ret
          exact ⟨rfl, bel⟩
end Go.Proofs.Ythfjkddninlbcaa.hp
