import Derived.Test.YtdbeeikjngnnnaaG43
import Derived.Test.YtdbeeikjngnnnaaG44
import Derived.Test.YtdbeeikjngnnnaaG45
import Derived.Test.YtdbeeikjngnnnaaG46
namespace Go.Proofs.Ytdbeeikjngnnnaa.ty
open Go.ChangeShapes Go.WideShapes Go.ChangeAt Go.RowKit
set_option linter.unusedVariables false
set_option linter.unusedSimpArgs false
/-- an event is done -/
theorem act_ok {w0 w : World} {X k : Nat} {H : List Dn} {c : Nat → Nat → Nat} {P : Nat → Nat} {V : Nat → Vl} {s : Sl} (h1 : 1 ≤ k) (h4 : k ≤ 4) (h : Hm w0 w X k H c P V s) (g : Wr k H c V) (hl : H.length < 60) (ek A B By : Int) (hA : R64 A) (hB : R64 B) (hBy : R64 By) : Calls Try.prog 27 #[.pointer (some ⟨X, 0, none⟩), .agg #[.int .i64 ek, .int .i64 A, .int .i64 B, .int .i64 By]] w fun r w' => ∃ H' c' V' s', r = .returned (.bool true) ∧ Hm w0 w' X k H' c' P V' s' ∧ Wr k H' c' V' ∧ H'.length = H.length + 1 := by
  obtain rfl | rfl | rfl | rfl : k = 1 ∨ k = 2 ∨ k = 3 ∨ k = 4 := by omega
  · exact act1 h g hl ek A B By hA hB hBy
  · cases htk : (bits BinOp.and IntKind.i64 By 1 == 1)
    · exact act2p h g hl ek A B By hA hB hBy htk
    · exact act2t h g hl ek A B By hA hB hBy htk
  · exact act3 h g hl ek A B By hA hB hBy
  · exact act4 h g hl ek A B By hA hB hBy
theorem right_ok {w0 w : World} {X k : Nat} {H : List Dn} {c : Nat → Nat → Nat} {P : Nat → Nat} {V : Nat → Vl} {s : Sl} (h1 : 1 ≤ k) (h4 : k ≤ 4) (h : Hm w0 w X k H c P V s) (g : Wr k H c V) (hl : H.length ≤ 60) {i : Nat} (hi : i < 4) : Calls Try.prog 28 #[.pointer (some ⟨X, 0, none⟩), .int .i64 (i : Int)] w fun r w' => r = .returned (.bool true) ∧ Apart [] w w' := by
  obtain rfl | rfl | rfl | rfl : k = 1 ∨ k = 2 ∨ k = 3 ∨ k = 4 := by omega
  · exact right1 h g hl hi
  · exact right2 h g hl hi
  · exact right3 h g hl hi
  · exact right4 h g hl hi
/-- what a replica's bytes are read as -/
theorem Rel.back {k : Nat} {H : List Dn} (hh : Hs H) (hk : Hk k H) {v : Nat → Nat} {x : Vl} (h : Rel H v x) (g : Vc H v) (hx : x.kd = k) (hl : H.length ≤ 60) (h64 : (formV x).length ≤ 64) : valV k (formV x) = x := by
  have hg := h.gd hh hk g hx hl
  rw [← hx]
  refine valV_back ⟨hg.gd, fun s a t e => ?_⟩ (by have := hg.le; omega) (fun y hy => ?_) h64
  · subst e
    rcases h with ⟨hz, -⟩ | ⟨p, d, hp, -, hz, -⟩
    · simp only [Prod.mk.injEq] at hz; omega
    · simp only [Prod.mk.injEq] at hz
      have := hh.act p d hp
      omega
  · cases x using Vl.el with
    | cnt u d => simp [elsR] at hy
    | set c es =>
      obtain ⟨-, r, he, -⟩ := h
      subst he
      obtain ⟨e, -, -, rfl⟩ := cano_mem hy
      show 1 ≤ (elS e).size
      unfold elS
      rw [strB_size]
      unfold elB
      split
      · simp
      split <;> simp
    | flg c t => simp [elsR] at hy
    | rgs s a t => simp [elsR] at hy
end Go.Proofs.Ytdbeeikjngnnnaa.ty
namespace Go.Proofs.Ytdbeeikjngnnnaa.ty
open Go.ChangeShapes Go.WideShapes Go.ChangeAt Go.RowKit
set_option linter.unusedVariables false
set_option linter.unusedSimpArgs false
theorem new_w (w : World) (k : Nat) (h1 : 1 ≤ k) (h4 : k ≤ 4) : Calls Try.prog 9 #[.int .i64 (k : Int)] w fun r w' => ∃ V, r = .returned (.tuple #[.pointer (some ⟨V, 0, none⟩), .int .i64 0]) ∧ w.heap.size ≤ V ∧ Ho w' V (new0 k) ∧ Apart [] w w' := by
  refine (new_ok w k h1 h4).mono ?_
  rintro _ _ ⟨rfl, rfl⟩
  exact ⟨_, rfl, Nat.le_refl _, Ho.new w k h1 h4, (Apart.refl _ _).alloc _⟩
def hzero (k : Nat) : List Value := hrow k (fun _ => .pointer none) ⟨none, 0, 0⟩ (fun _ _ => false)
theorem build56 (k : Nat) (W : World) : (Instr.build 56 #[(0, .int .i64 (k : Int))]).run Try.prog W = .ok (.agg (hzero k).toArray) W := by kernel_rfl
theorem ex_build56 {W : World} {eval : Operand → Value} {op : Oper} {k : Nat} (x : Operand) (ho : op.op = .build 56 #[(0, x)]) (hx : eval x = .int .i64 (k : Int)) : (execOp eval op).run Try.prog W = .ok (.value (.agg (hzero k).toArray)) W := by
  unfold execOp
  have e1 : (#[(0, x)] : Array (Nat × Operand)).map (fun (i, x) => (i, eval x)) = #[(0, .int .i64 (k : Int))] := by simp [hx]
  simp only [ho, e1, Sem.run_bind, build56 k W, Sem.run_pure, Result.andThen_ok]
/-- events that came in -/
def evC (e : Int × Int × Int × Int) : List Value := [.int .i64 e.1, .int .i64 e.2.1, .int .i64 e.2.2.1, .int .i64 e.2.2.2]
def evL : List (Int × Int × Int × Int) → List Value
  | [] => []
  | e :: r => evC e ++ evL r
theorem evL_len : ∀ l, (evL l).length = l.length * 4
  | [] => rfl
  | e :: r => by simp only [evL, List.length_append, evL_len r, List.length_cons, evC, List.length_nil]; omega
theorem evL_at : ∀ (l : List (Int × Int × Int × Int)) {q j : Nat} {e : Int × Int × Int × Int}, l[q]? = some e → j < 4 → (evL l)[q * 4 + j]? = (evC e)[j]?
  | [], q, j, e, h, _ => by simp at h
  | x :: r, 0, j, e, h, hj => by
    obtain rfl : x = e := by simpa using h
    rw [Nat.zero_mul, Nat.zero_add, evL, List.getElem?_append_left (by simpa [evC] using hj)]
  | x :: r, q + 1, j, e, h, hj => by
    rw [List.getElem?_cons_succ] at h
    rw [evL, List.getElem?_append_right (by simp [evC]; omega)]
    have : (q + 1) * 4 + j - (evC x).length = q * 4 + j := by simp [evC]; omega
    rw [this]
    exact evL_at r h hj
structure Ev (w : World) (sl : Sl) (l : List (Int × Int × Int × Int)) : Prop where
  rd : Rd w sl.p (evL l)
  len : l.length = sl.n
  rg : ∀ e ∈ l, R64 e.1 ∧ R64 e.2.1 ∧ R64 e.2.2.1 ∧ R64 e.2.2.2
/-- the replicas while they are made -/
structure Mk (w0 w : World) (X k i : Nat) (P : Nat → Nat) : Prop where
  ap : Apart [] w0 w
  ge : w0.heap.size ≤ X
  blk : w.heap[X]? = some (.cells (hrow k (fun j => if j < i then .pointer (some ⟨P j, 0, none⟩) else .pointer none) ⟨none, 0, 0⟩ (fun _ _ => false)).toArray 56 (0, 0))
  pge : ∀ j, j < i → w0.heap.size ≤ P j
  ho : ∀ j, j < i → Ho w (P j) (new0 k)
  inj : ∀ a b, a < i → b < i → P a = P b → a = b
theorem hrow_congr (k : Nat) {pv pv' : Nat → Value} (s : Sl) (B : Nat → Nat → Bool) (h : ∀ j, j < 4 → pv j = pv' j) : hrow k pv s B = hrow k pv' s B := by
  unfold hrow
  rw [h 0 (by omega), h 1 (by omega), h 2 (by omega), h 3 (by omega)]
theorem Mk.hm {w0 w : World} {X k : Nat} {P : Nat → Nat} (h : Mk w0 w X k 4 P) : Hm w0 w X k [] (fun _ _ => 0) P (fun _ => new0 k) ⟨none, 0, 0⟩ := by
  refine ⟨h.ap, h.ge, ?_, h.pge, h.ho, h.inj, ⟨World.ownsRow_nil _ _ _ _, by simp [Sl.v, Value.ownBlock], h.ap⟩, rfl⟩
  rw [h.blk]
  congr 3
theorem Mk.next {w0 w w1 : World} {X k i V : Nat} {P : Nat → Nat} (h : Mk w0 w X k i P) (hi : i < 4) (hV : w.heap.size ≤ V) (o : Ho w1 V (new0 k)) (a : Apart [] w w1) : Mk w0 (w1.setCell ⟨X, 1 + i, none⟩ (.pointer (some ⟨V, 0, none⟩))) X k (i + 1) (ud P i V) := by
  have hb := keep0 a h.blk
  have a2 : Apart [X] w1 (w1.setCell ⟨X, 1 + i, none⟩ (.pointer (some ⟨V, 0, none⟩))) := (Apart.refl [X] w1).setCell (.inl (by simp)) _
  have k1 : TK [56] w1 (w1.setCell ⟨X, 1 + i, none⟩ (.pointer (some ⟨V, 0, none⟩))) := TK.one a2 hb
  refine ⟨(h.ap.trans a).trans' a2 (by intro y hy; simp at hy; rw [hy]; exact .inr h.ge), h.ge, ?_, fun j hj => ?_, fun j hj => ?_, fun x y hx hy e => ?_⟩
  · rw [heap_setCell_same w1 X (1 + i) _ 56 _ hb]
    have e := hrow_set_v k (fun j => if j < i then Value.pointer (some ⟨P j, 0, none⟩) else .pointer none) ⟨none, 0, 0⟩ (fun _ _ => false) hi (.pointer (some ⟨V, 0, none⟩))
    have e2 : hrow k (ud (fun j => if j < i then Value.pointer (some ⟨P j, 0, none⟩) else .pointer none) i (.pointer (some ⟨V, 0, none⟩))) ⟨none, 0, 0⟩ (fun _ _ => false) = hrow k (fun j => if j < i + 1 then .pointer (some ⟨ud P i V j, 0, none⟩) else .pointer none) ⟨none, 0, 0⟩ (fun _ _ => false) := hrow_congr k _ _ fun j _ => by
      unfold ud
      by_cases h1 : j = i
      · subst h1; simp
      · by_cases h2 : j < i
        · simp only [h1, h2, if_true, if_false, show j < i + 1 from by omega]
        · simp only [h1, h2, if_false, show ¬ j < i + 1 from by omega]
    rw [← e2, ← e]
    simp
  · unfold ud
    split
    · exact Nat.le_trans h.ap.size hV
    · exact h.pge j (by omega)
  · unfold ud
    split
    · exact o.tk k1 (by simp) (by simp)
    · exact ((h.ho j (by omega)).kept0 a).tk k1 (by simp) (by simp)
  · unfold ud at e
    by_cases h1 : x = i
    · by_cases h2 : y = i
      · omega
      · rw [if_pos h1, if_neg h2] at e
        have := (h.ho y (by omega)).lt
        omega
    · by_cases h2 : y = i
      · rw [if_neg h1, if_pos h2] at e
        have := (h.ho x (by omega)).lt
        omega
      · rw [if_neg h1, if_neg h2] at e
        exact h.inj x y (by omega) (by omega) e
end Go.Proofs.Ytdbeeikjngnnnaa.ty
