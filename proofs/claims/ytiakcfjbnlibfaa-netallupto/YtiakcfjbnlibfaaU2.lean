import Derived.Test.YtiakcfjbnlibfaaU1
namespace Go.Proofs.Ytiakcfjbnlibfaa.nt
open Go.ChangeShapes Go.WideShapes Go.ChangeAt Go.RowKit
set_option linter.unusedVariables false
set_option linter.unusedSimpArgs false
theorem own_cf {w : World} {g n cp : Nat} {ty : TypeId} {xs : List Value} (o : w.ownsRow 0 ty 1 (.slice (some ⟨g, 0, none⟩) n cp) n xs) (i : Nat) (hi : i < n) : (∃ y, w.cell? ⟨g, i, none⟩ = some y) ∧ w.frozen? ⟨g, i, none⟩ = false := by
  have hl : xs.length = n * 1 := o.1
  refine ⟨⟨xs[i], (o.cellAt i (by omega)).trans (List.getElem?_eq_getElem (by omega))⟩, ?_⟩
  obtain ⟨_, ⟨hv, hz⟩ | ⟨g, cap, cur, hv, _, hr, hle, hmx, _⟩⟩ := o
  · cases hv
  · simp at hv
    obtain ⟨rfl, rfl⟩ := hv
    exact frozen_of_row _ _ _ _ _ hr
def updL (v : Nat → List Value) (i : Nat) (x : List Value) : Nat → List Value := fun k => if k = i then x else v k
/-- what apart has done: rows of the answers that are kept aside are written -/
structure Ap (w W : World) (p : Px) (who : Nat → Option Nat) (L N : Nat → List Value) : Prop where
  ap : ∃ X, Apart X w W ∧ ∀ k ∈ X, ∃ t, who k = some t ∧ 40 ≤ t
  lf : ∀ i e, p.x.lf[i]? = some e → OB W who (40 + 2 * i) e.1 (L i) 5
  nm : ∀ i e, p.x.nm[i]? = some e → OB W who (41 + 2 * i) e.1 (N i) 3
def lfv (p : Px) (i : Nat) : List Value := match p.x.lf[i]? with | some e => byts e.2 | none => []
def nmv (p : Px) (i : Nat) : List Value := match p.x.nm[i]? with | some e => nums e.2.1 | none => []
theorem Ap.start {wa w : World} {P : Nat} {p : Px} {who : Nat → Option Nat} {l : Nat → List Value} (h : PQ wa w P p who l) : Ap w w p who (lfv p) (nmv p) :=
  ⟨⟨[], Apart.refl _ _, by simp⟩, fun i e he => by simp only [lfv, he]; exact (h.an.lf i e he).1, fun i e he => by simp only [nmv, he]; exact (h.an.nm i e he).1⟩
theorem Ap.kept0 {w W W' : World} {p : Px} {who : Nat → Option Nat} {L N : Nat → List Value} (h : Ap w W p who L N) (a : Apart [] W W') : Ap w W' p who L N := by
  obtain ⟨X, aX, hX⟩ := h.ap
  exact ⟨⟨X, aX.trans (a.mono (by simp)), hX⟩, fun i e he => (h.lf i e he).mv a (by simp) (fun _ _ h => h), fun i e he => (h.nm i e he).mv a (by simp) (fun _ _ h => h)⟩
theorem Ap.sm {wa w W : World} {P : Nat} {p : Px} {who : Nat → Option Nat} {L N : Nat → List Value} (h : Ap w W p who L N) (hp : PQ wa w P p who p.x.cof) : Sm W P p.oth p.x.cof who := by
  obtain ⟨X, aX, hX⟩ := h.ap
  refine hp.sm.keptT aX (fun k hk => ⟨fun e => ?_, fun f hf e => ?_⟩)
  · obtain ⟨t, ht, h4⟩ := hX k hk
    rw [e] at ht; simp at ht; omega
  · obtain ⟨t, ht, h4⟩ := hX k hk
    have : f ∈ ([2, 3, 5, 6, 8, 9, 10, 11] : List Nat) := hf
    rw [e] at ht; simp at ht this; omega
theorem Ap.wore {wa w W : World} {P : Nat} {p : Px} {who : Nat → Option Nat} {L N : Nat → List Value} (h : Ap w W p who L N) (hp : PQ wa w P p who p.x.cof) {i : Nat} {e : Sl × List Nat × Sl} (he : p.x.nm[i]? = some e) : OB W who 31 e.2.2 (nums e.2.1) 3 := by
  obtain ⟨X, aX, hX⟩ := h.ap
  refine (hp.an.nm i e he).2.mv aX (fun k hk e => ?_) (fun _ _ h => h)
  obtain ⟨t, ht, h4⟩ := hX k hk
  rw [e] at ht; simp at ht; omega
theorem Ap.len {wa w W : World} {P : Nat} {p : Px} {who : Nat → Option Nat} {L N : Nat → List Value} (h : Ap w W p who L N) (hp : PQ wa w P p who p.x.cof) (f : Nat) (hf : f ∈ fs) : ∃ q cp, W.cell? ⟨P, f, none⟩ = some (.slice q (p.x.cof f).length cp) := by
  obtain ⟨q, cp, hc, _⟩ := (h.sm hp).field f hf
  exact ⟨q, cp, hc⟩
theorem Ap.fld {wa w W : World} {P : Nat} {p : Px} {who : Nat → Option Nat} {L N : Nat → List Value} (h : Ap w W p who L N) (hp : PQ wa w P p who p.x.cof) (f : Nat) (hf : f ∈ fs) (i : Nat) (x : Value) (hi : (p.x.cof f)[i]? = some x) : ∃ g o cp, W.cell? ⟨P, f, none⟩ = some (.slice (some ⟨g, o, none⟩) (p.x.cof f).length cp) ∧ W.cell? ⟨g, o + i, none⟩ = some x := by
  obtain ⟨q, cp, hc, _, hx⟩ := (h.sm hp).field f hf
  obtain ⟨g, o, rfl, hg⟩ := hx i x hi
  exact ⟨g, o, cp, hc, hg⟩
theorem Ap.setL {w W : World} {p : Px} {who : Nat → Option Nat} {L N : Nat → List Value} (h : Ap w W p who L N) {i : Nat} {e : Sl × List Nat} (he : p.x.lf[i]? = some e) {g : Nat} (hg : e.1.p = some ⟨g, 0, none⟩) (j : Nat) (v : Value) : Ap w (W.setCell ⟨g, j, none⟩ v) p who (updL L i ((L i).set j v)) N := by
  have hw : who g = some (40 + 2 * i) := (h.lf i e he).t g (by unfold Sl.v; rw [hg]; rfl)
  have a : Apart [g] W (W.setCell ⟨g, j, none⟩ v) := (Apart.refl [g] W).setCell (by simp) _
  have hne : ∀ (t : Nat), t ≠ 40 + 2 * i → ∀ k ∈ [g], who k ≠ some t := fun t ht k hk e => by
    simp at hk; subst hk; rw [hw] at e; simp at e; exact ht e.symm
  obtain ⟨X, aX, hX⟩ := h.ap
  refine ⟨⟨g :: X, (aX.mono (fun y hy => List.mem_cons_of_mem _ hy)).trans (a.mono (by simp)), fun k hk => ?_⟩, fun i' e' he' => ?_, fun i' e' he' => (h.nm i' e' he').mv a (hne _ (by omega)) (fun _ _ h => h)⟩
  · rcases List.mem_cons.1 hk with rfl | hk
    · exact ⟨_, hw, by omega⟩
    · exact hX k hk
  · unfold updL
    split
    · rename_i e1; subst e1
      rw [he] at he'; cases he'
      have o := (h.lf i' e he).o
      have hv : e.1.v = .slice (some ⟨g, 0, none⟩) e.1.n e.1.c := by unfold Sl.v; rw [hg]
      rw [hv] at o
      refine ⟨?_, (h.lf i' e he).t⟩
      rw [hv]
      exact (o.stored j v).1
    · rename_i e1
      exact (h.lf i' e' he').mv a (hne _ (by omega)) (fun _ _ h => h)
theorem Ap.setN {w W : World} {p : Px} {who : Nat → Option Nat} {L N : Nat → List Value} (h : Ap w W p who L N) {i : Nat} {e : Sl × List Nat × Sl} (he : p.x.nm[i]? = some e) {g : Nat} (hg : e.1.p = some ⟨g, 0, none⟩) (j : Nat) (v : Value) : Ap w (W.setCell ⟨g, j, none⟩ v) p who L (updL N i ((N i).set j v)) := by
  have hw : who g = some (41 + 2 * i) := (h.nm i e he).t g (by unfold Sl.v; rw [hg]; rfl)
  have a : Apart [g] W (W.setCell ⟨g, j, none⟩ v) := (Apart.refl [g] W).setCell (by simp) _
  have hne : ∀ (t : Nat), t ≠ 41 + 2 * i → ∀ k ∈ [g], who k ≠ some t := fun t ht k hk e => by
    simp at hk; subst hk; rw [hw] at e; simp at e; exact ht e.symm
  obtain ⟨X, aX, hX⟩ := h.ap
  refine ⟨⟨g :: X, (aX.mono (fun y hy => List.mem_cons_of_mem _ hy)).trans (a.mono (by simp)), fun k hk => ?_⟩, fun i' e' he' => (h.lf i' e' he').mv a (hne _ (by omega)) (fun _ _ h => h), fun i' e' he' => ?_⟩
  · rcases List.mem_cons.1 hk with rfl | hk
    · exact ⟨_, hw, by omega⟩
    · exact hX k hk
  · unfold updL
    split
    · rename_i e1; subst e1
      rw [he] at he'; cases he'
      have o := (h.nm i' e he).o
      have hv : e.1.v = .slice (some ⟨g, 0, none⟩) e.1.n e.1.c := by unfold Sl.v; rw [hg]
      rw [hv] at o
      refine ⟨?_, (h.nm i' e he).t⟩
      rw [hv]
      exact (o.stored j v).1
    · rename_i e1
      exact (h.nm i' e' he').mv a (hne _ (by omega)) (fun _ _ h => h)
theorem Ap.fldU {wa w : World} {P : Nat} {p : Px} {who : Nat → Option Nat} (hp : PQ wa w P p who p.x.cof) (f : Nat) (hf : f ∈ fs) (i : Nat) (x : Value) (hi : (p.x.cof f)[i]? = some x) : ∃ g o cp, ∀ W L N, Ap w W p who L N → W.cell? ⟨P, f, none⟩ = some (.slice (some ⟨g, o, none⟩) (p.x.cof f).length cp) ∧ W.cell? ⟨g, o + i, none⟩ = some x := by
  obtain ⟨g, o, cp, h1, h2⟩ := (Ap.start hp).fld hp f hf i x hi
  refine ⟨g, o, cp, fun W L N h => ?_⟩
  obtain ⟨g', o', cp', h1', h2'⟩ := h.fld hp f hf i x hi
  have e : W.cell? ⟨P, f, none⟩ = w.cell? ⟨P, f, none⟩ := by
    obtain ⟨X, aX, hX⟩ := h.ap
    refine aX.cell hp.sm.lt (fun m => ?_)
    obtain ⟨t, ht, h4⟩ := hX P m
    rw [hp.sm.wS] at ht; simp at ht; omega
  rw [h1'] at e
  rw [h1] at e
  simp at e
  obtain ⟨⟨rfl, rfl⟩, rfl⟩ := e
  exact ⟨h1', h2'⟩
theorem Ap.lenU {wa w : World} {P : Nat} {p : Px} {who : Nat → Option Nat} (hp : PQ wa w P p who p.x.cof) (f : Nat) (hf : f ∈ fs) : ∃ q cp, ∀ W L N, Ap w W p who L N → W.cell? ⟨P, f, none⟩ = some (.slice q (p.x.cof f).length cp) := by
  obtain ⟨q, cp, h1⟩ := (Ap.start hp).len hp f hf
  refine ⟨q, cp, fun W L N h => ?_⟩
  obtain ⟨X, aX, hX⟩ := h.ap
  rw [← h1]
  refine aX.cell hp.sm.lt (fun m => ?_)
  obtain ⟨t, ht, h4⟩ := hX P m
  rw [hp.sm.wS] at ht; simp at ht; omega
theorem Ap.stp {w W : World} {p : Px} {who : Nat → Option Nat} {L N : Nat → List Value} (h : Ap w W p who L N) : Stp w W who who none := by
  obtain ⟨X, aX, hX⟩ := h.ap
  exact Stp.row aX (fun k hk => by obtain ⟨t, ht, _⟩ := hX k hk; left; rw [ht]; simp)
/-- a row of somebody's that isn't empty: where it lies -/
theorem OB.at {w : World} {who : Nat → Option Nat} {tag : Nat} {s : Sl} {us : List Value} {e : TypeId} (h : OB w who tag s us e) {j : Nat} (hj : j < s.n) : ∃ g, s.p = some ⟨g, 0, none⟩ := by
  obtain ⟨g, x, hg, _⟩ := h.cell (Apart.refl [] w) hj
  exact ⟨g, hg⟩
theorem own_rd {w : World} {s : Sl} {us : List Value} {e : TypeId} (o : w.ownsRow 0 e 1 s.v s.n us) : Rd w s.p us ∧ us.length = s.n ∧ s.ok := by
  refine ⟨Rd.own o, by have := o.1; omega, fun hp => ?_⟩
  obtain ⟨_, ⟨hv, hz⟩ | ⟨g, cap, cur, hv, _⟩⟩ := o
  · unfold Sl.v at hv; simp at hv; exact ⟨hv.2.1, hv.2.2⟩
  · unfold Sl.v at hv; simp at hv; rw [hp] at hv; cases hv.1
/-- what sign says -/
def sgn (i j : Nat) : Int := (7 * (i : Int) + (i : Int) / 256 + 3 * (j : Int)) % 256
set_option maxHeartbeats 2000000 in
theorem sign_ok (i j : Nat) (hi : i ≤ 100000) (hj : j ≤ 100000000) (w : World) : Calls Try.prog 45 #[.int .i64 (i : Nat), .int .i64 (j : Nat)] w fun r w' => r = .returned (.int .u8 (sgn i j)) ∧ w' = w := by
  go_enter Try.func45, Try.ntmps45
  go_wp2_with fail
  go_ret
  exact ⟨rfl, rfl⟩
/-- a row of nums up to here -/
structure NF (N : Nat → List Value) (p : Px) (i j : Nat) : Prop where
  full : ∀ k, k < i → ∀ e, p.x.nm[k]? = some e → ∀ m, m < e.1.n → (N k)[m]? = some (.int .i64 (-1 - (k : Int)))
  part : ∀ m, m < j → (N i)[m]? = some (.int .i64 (-1 - (i : Int)))
  rest : ∀ k, i < k → N k = nmv p k
theorem NF.set {N : Nat → List Value} {p : Px} {i j : Nat} (h : NF N p i j) (hj : j < (N i).length) : NF (updL N i ((N i).set j (.int .i64 (-1 - (i : Int))))) p i (j + 1) := by
  refine ⟨fun k hk => by simp only [updL, show ¬ k = i from by omega, if_false]; exact h.full k hk, fun m hm => ?_, fun k hk => by simp only [updL, show ¬ k = i from by omega, if_false]; exact h.rest k hk⟩
  simp only [updL, if_true]
  by_cases e : m = j
  · subst e; simp [hj]
  · rw [List.getElem?_set_ne (by omega)]; exact h.part m (by omega)
/-- a row of left up to here -/
structure LF (L : Nat → List Value) (p : Px) (i j : Nat) : Prop where
  full : ∀ k, k < i → ∀ e, p.x.lf[k]? = some e → ∀ m, m < e.1.n → (L k)[m]? = some (.int .u8 (sgn k m))
  part : ∀ m, m < j → (L i)[m]? = some (.int .u8 (sgn i m))
theorem LF.set {L : Nat → List Value} {p : Px} {i j : Nat} (h : LF L p i j) (hj : j < (L i).length) : LF (updL L i ((L i).set j (.int .u8 (sgn i j)))) p i (j + 1) := by
  refine ⟨fun k hk => by simp only [updL, show ¬ k = i from by omega, if_false]; exact h.full k hk, fun m hm => ?_⟩
  simp only [updL, if_true]
  by_cases e : m = j
  · subst e; simp [hj]
  · rw [List.getElem?_set_ne (by omega)]; exact h.part m (by omega)
structure NO (N : Nat → List Value) (p : Px) (i : Nat) : Prop where
  full : ∀ k, k < i → ∀ e, p.x.nm[k]? = some e → ∀ m, m < e.1.n → (N k)[m]? = some (.int .i64 (-1 - (k : Int)))
  rest : ∀ k, i ≤ k → N k = nmv p k
theorem NO.nf {N : Nat → List Value} {p : Px} {i : Nat} (h : NO N p i) : NF N p i 0 := ⟨h.full, fun m hm => by omega, fun k hk => h.rest k (by omega)⟩
theorem NF.no {N : Nat → List Value} {p : Px} {i j : Nat} (h : NF N p i j) {e : Sl × List Nat × Sl} (he : p.x.nm[i]? = some e) (hj : e.1.n ≤ j) : NO N p (i + 1) :=
  ⟨fun k hk e' he' m hm => by
    by_cases ek : k = i
    · subst ek; rw [he] at he'; cases he'; exact h.part m (by omega)
    · exact h.full k (by omega) e' he' m hm, fun k hk => h.rest k (by omega)⟩
theorem LF.next {L : Nat → List Value} {p : Px} {i j : Nat} (h : LF L p i j) {e : Sl × List Nat} (he : p.x.lf[i]? = some e) (hj : e.1.n ≤ j) : LF L p (i + 1) 0 :=
  ⟨fun k hk e' he' m hm => by
    by_cases ek : k = i
    · subst ek; rw [he] at he'; cases he'; exact h.part m (by omega)
    · exact h.full k (by omega) e' he' m hm, fun m hm => by omega⟩
structure A1 (w W : World) (p : Px) (who : Nat → Option Nat) : Prop where
  a : Ap w W p who (lfv p) (nmv p)
structure A2 (w W : World) (p : Px) (who : Nat → Option Nat) (i : Nat) : Prop where
  ex : ∃ N, Ap w W p who (lfv p) N ∧ NO N p i
structure A2i (w W : World) (p : Px) (who : Nat → Option Nat) (i j : Nat) : Prop where
  ex : ∃ N, Ap w W p who (lfv p) N ∧ NF N p i j
structure A3 (w W : World) (p : Px) (who : Nat → Option Nat) (i j : Nat) : Prop where
  ex : ∃ L N, Ap w W p who L N ∧ NO N p p.x.nm.length ∧ LF L p i j
end Go.Proofs.Ytiakcfjbnlibfaa.nt
