import Derived.Test.YtdggkofihppcmaaDoorLk
import Derived.Test.YtdggkofihppcmaaDoorSpanOf
import Derived.Test.YtdggkofihppcmaaDoorBase
namespace Go.Proofs.YtdggkofihppcmaaDoor.ds
open Go.ChangeShapes Go.WideShapes Go.ChangeAt Go.RowKit Go.Shelf
set_option linter.unusedVariables false
set_option linter.unusedSimpArgs false
attribute [local go_sem] Oper.semAt_some
/-- blocks that are as they were -/
structure Fr (K : Nat → Prop) (w w' : World) : Prop where
  os : w'.os = w.os
  tape : w'.tape = w.tape
  output : w'.output = w.output
  size : w.heap.size ≤ w'.heap.size
  block : ∀ k, k < w.heap.size → K k → w'.heap[k]? = w.heap[k]?
theorem Apart.keep {w w' : World} (a : Apart [] w w') {p : Addr} {v : Value} (h : w.cell? p = some v) : w'.cell? p = some v := (a.cell (block_lt_of_cell h) (by simp)).trans h
theorem Fr.refl (K : Nat → Prop) (w : World) : Fr K w w := ⟨rfl, rfl, rfl, Nat.le_refl _, fun _ _ _ => rfl⟩
theorem Fr.trans {K : Nat → Prop} {a b c : World} (h : Fr K a b) (k : Fr K b c) : Fr K a c :=
  ⟨k.os.trans h.os, k.tape.trans h.tape, k.output.trans h.output, Nat.le_trans h.size k.size, fun i hi hK => (k.block i (Nat.lt_of_lt_of_le hi h.size) hK).trans (h.block i hi hK)⟩
theorem Apart.fr {w w' : World} {K : Nat → Prop} (h : Apart [] w w') : Fr K w w' := ⟨h.os, h.tape, h.output, h.size, fun k hl _ => h.block k hl (by simp)⟩
theorem Fr.tab {K : Nat → Prop} {w w' : World} (f : Fr K w w') (T : Tab w) (h : K 0) : Tab w' := ⟨fun j hj => (World.cell?_of_block (a := ⟨0, j, none⟩) (f.block 0 T.lt h)).trans (T.at' j hj)⟩
theorem Fr.bsp {K : Nat → Prop} {w w' : World} {B : Nat} {x : S} (f : Fr K w w') (b : Bsp w B x) (h : K B) : Bsp w' B x := b.same (f.block B b.lt h)
/-- lacking's boxes -/
theorem lacking_ok (x y : S) (w : World) : Calls Tryd.prog 61 #[spv x, spv y] w fun r w' => ∃ By Bx, r = .returned (.func (.func 73) #[] #[.pointer (some ⟨By, 0, none⟩), .pointer (some ⟨Bx, 0, none⟩)]) ∧ Bsp w' By y ∧ Bsp w' Bx x ∧ w.heap.size ≤ By ∧ w.heap.size ≤ Bx ∧ Apart [] w w' := by
  unfold spv
  go_enter Tryd.func61, Tryd.ntmps61
  go_wp2
  go_ret
  refine ⟨w.heap.size + 1, w.heap.size, rfl, ⟨?_, ?_, ?_⟩, ⟨?_, ?_, ?_⟩, by omega, Nat.le_refl _, ((Apart.refl _ _).alloc _).alloc _⟩
  all_goals simp
theorem L.fr {w w' : World} {p : Option Addr} {N : Nat} {xs : List S} {K : Nat → Prop} (h : L w p N xs) (f : Fr K w w') (hK : ∀ P o, p = some ⟨P, o, none⟩ → K P) : L w' p N xs := by
  refine { h with sp := fun h0 => ?_ }
  obtain ⟨P, o, rfl, hP, hc⟩ := h.sp h0
  have e : ∀ j, w'.cell? ⟨P, j, none⟩ = w.cell? ⟨P, j, none⟩ := fun j => World.cell?_of_block (a := ⟨P, j, none⟩) (f.block P hP (hK P o rfl))
  exact ⟨P, o, rfl, Nat.lt_of_lt_of_le hP f.size, fun i hi => by rw [e, e, e]; exact hc i hi⟩
theorem Fr.cell {K : Nat → Prop} {w w' : World} (f : Fr K w w') {a : Addr} {v : Value} (h : w.cell? a = some v) (hK : K a.block) : w'.cell? a = some v := (World.cell?_of_block (a := a) (f.block a.block (block_lt_of_cell h) hK)).trans h
theorem lackL_take {xs ys : List S} {i : Nat} (h : i < xs.length) : lackL (xs.take (i + 1)) ys = lackL (xs.take i) ys ++ (lack (g xs i) (ofn ys (g xs i).n)).map fun (c : Nat) => ((g xs i).n, (c : Int)) := by
  unfold lackL
  rw [List.take_succ_eq_append_getElem h, List.flatMap_append]
  have : xs[i] = g xs i := by simp [g, List.getD, h]
  simp [this]
theorem lackL_pre {xs ys : List S} {i : Nat} : lackL (xs.take i) ys <+: lackL xs ys := by
  have e : lackL xs ys = lackL (xs.take i) ys ++ lackL (xs.drop i) ys := by
    unfold lackL
    rw [← List.flatMap_append, List.take_append_drop]
  rw [e]; exact List.prefix_append _ _
/-- Kp of the loops: all below B but C's -/
def Kpc (C : Nat → Prop) (B : Nat) (A A' : World) : Prop := ∀ k, k < B → ¬ C k → A'.heap[k]? = A.heap[k]?
theorem lack_stops (n : Nat) (hn : 2 ≤ n) (C : Nat → Prop) (By Bx : Nat) (x y : S) (hx : Wf x) (hy : Wf y) (hxb : x.b ≤ 1048576) (hyb : y.b ≤ 1048576) (w : World) (T : Tab w) (b1 : Bsp w By y) (b2 : Bsp w Bx x) (h0 : ¬ C 0) (h1 : ¬ C By) (h2 : ¬ C Bx) :
    SeqStopsK Fence.wide n Tryd.prog 73 #[.pointer (some ⟨By, 0, none⟩), .pointer (some ⟨Bx, 0, none⟩)] (fun c : Nat => #[Value.int .i64 (c : Int)]) (Kpc C w.heap.size) (fun ys => ys = lack x y) (fun pre => pre <+: lack x y) (lack x y).length w := by
  intro l J Jx W hW hJ hJx hY hJ0
  have bl : ∀ k, k < w.heap.size → W.heap[k]? = w.heap[k]? := fun k hk => hW.block k hk
  refine lack1_in n hn l By Bx x y hx hy hxb hyb J Jx (Kpc C w.heap.size) ?_ (fun pre A B hA a => hJ pre A B none hA a.grown (by simp)) hY W ⟨fun j hj => (World.cell?_of_block (a := ⟨0, j, none⟩) (bl 0 T.lt)).trans (T.at' j hj)⟩ (b1.same (bl By b1.lt)) (b2.same (bl Bx b2.lt)) hJ0
  intro A B hK TA bA1 bA2
  exact ⟨⟨fun j hj => (World.cell?_of_block (a := ⟨0, j, none⟩) (hK 0 T.lt h0)).trans (TA.at' j hj)⟩, bA1.same (hK By b1.lt h1), bA2.same (hK Bx b2.lt h2)⟩
/-- with no panic -/
def noPanic (Q : Exit → Act → World → Prop) : Exit → Act → World → Prop
  | .panic _, _, _ => False
  | .normal, a, w => Q .normal a w
  | .ret, a, w => Q .ret a w
  | .exit i, a, w => Q (.exit i) a w
  | .goto l, a, w => Q (.goto l) a w
  | .outgrown, a, w => Q .outgrown a w
theorem noPanic_of {Q : Exit → Act → World → Prop} (e : Exit) (a : Act) (w : World) (h : noPanic Q e a w) : Q e a w := by
  cases e <;> first | exact h | exact h.elim
/-- the marks that loops over functions leave -/
def dmk (D : Nat) : Deferred := { target := .collected D, args := #[] }
structure Client (C : Nat → Prop) (J Jx : List (Int × Int) → World → Prop) : Prop where
  st : ∀ pre A B, J pre A → A.heap.size ≤ B.heap.size → (∀ k, C k → B.heap[k]? = A.heap[k]?) → J pre B
  stx : ∀ pre A B, Jx pre A → A.heap.size ≤ B.heap.size → (∀ k, C k → B.heap[k]? = A.heap[k]?) → Jx pre B
theorem leave_all {n : Nat} {fn : Func} {tmps : Array Value} {R : Ending → World → Prop} (hr : fn.results = #[]) : ∀ (Ds : List Nat) (W : World), Ds.Nodup → (∀ D ∈ Ds, W.heap[D]? = some (.deferred (some []))) →
    (∀ W', (∀ k, k ∉ Ds → W'.heap[k]? = W.heap[k]?) → W'.heap.size = W.heap.size → W'.os = W.os → W'.tape = W.tape → W'.output = W.output → R (.returned (.tuple #[])) W') → LeavesInM Fence.wide n Tryd.prog fn tmps R (Ds.map dmk) .returning W
  | [], W, _, _, hR => by
    show ∃ v, (results fn tmps).run Tryd.prog W = .ok v W ∧ R (.returned v) W
    exact ⟨_, results_none hr _ _ _, hR W (fun _ _ => rfl) rfl rfl rfl rfl⟩
  | D :: Ds, W, hnd, hD, hR => by
    have hne : D ∉ Ds := (List.nodup_cons.1 hnd).1
    refine ⟨by simp, .inl ⟨D, _, rfl, run_takeDeferred (hD D (by simp)), ?_⟩⟩
    refine leave_all hr Ds _ (List.nodup_cons.1 hnd).2 (fun D' hD' => ?_) (fun W' h1 h2 h3 h4 h5 => ?_)
    · rw [World.putObj_heap_other (fun e => by rw [e] at hD'; exact hne hD')]; exact hD D' (by simp [hD'])
    · refine hR W' (fun k hk => ?_) ?_ h3 h4 h5
      · simp at hk
        rw [h1 k hk.2, World.putObj_heap_other hk.1]
      · rw [h2]; simp
end Go.Proofs.YtdggkofihppcmaaDoor.ds
