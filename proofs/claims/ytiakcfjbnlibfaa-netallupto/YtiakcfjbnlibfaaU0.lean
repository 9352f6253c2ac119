import Derived.Test.YtiakcfjbnlibfaaW7
import Derived.Test.YtiakcfjbnlibfaaV0
import Derived.Test.YtiakcfjbnlibfaaV1
namespace Go.Proofs.Ytiakcfjbnlibfaa.nt
open Go.ChangeShapes Go.WideShapes Go.ChangeAt Go.RowKit
set_option linter.unusedVariables false
set_option linter.unusedSimpArgs false
/-- what is handed in, in the lent memory -/
def lnt (bs : List Nat) : List Nat := bs ++ [167, 182]
theorem byts_lnt (bs : List Nat) : byts (lnt bs) = byts bs ++ [.int .u8 167, .int .u8 182] := by simp [byts, lnt]
theorem Stp.keeps {w w' : World} {who who' : Nat → Option Nat} (h : Stp w w' who who' none) {k : Nat} (hk : k < w.heap.size) (hn : who k = none) : w'.heap[k]? = w.heap[k]? := by
  obtain ⟨X, a, hX⟩ := h.ap
  exact a.block k hk (fun m => by rcases hX k m with e | e | e; exact e hn; omega; cases e)
theorem Stp.reads {w w' : World} {who who' : Nat → Option Nat} {l : LM} {x : Tx} (h : Stp w w' who who' none) (hl : ReadsL w l x) (hn : ∀ A o, 0 < l.d.n → l.d.p = some ⟨A, o, none⟩ → who A = none) : ReadsL w' l x := by
  obtain ⟨X, a, hX⟩ := h.ap
  have a' : Apart (X.filter (fun k => decide (k < w.heap.size))) w w' := ⟨a.os, a.tape, a.output, a.size, fun k hk hx => a.block k hk (fun m => hx (by simp [m, hk]))⟩
  refine hl.kept2 a' (fun A o e0 e m => ?_)
  simp at m
  rcases hX A m.1 with h1 | h1 | h1
  · exact h1 (hn A o e0 e)
  · omega
  · cases h1
theorem Stp.none' {w w' : World} {who who' : Nat → Option Nat} (h : Stp w w' who who' none) {k : Nat} (hk : k < w.heap.size) (hn : who k = none) : who' k = none := by
  cases e : who' k with
  | none => rfl
  | some s => rcases h.new k s e with e | e | e; rw [hn] at e; cases e; omega; cases e
/-- a copy of as many bytes over a row -/
theorem copy_over {w : World} {d s : Sl} {xs ys : List Value} (hd : w.ownsRow 0 5 1 d.v d.n xs) (hs : w.ownsRow 0 5 1 s.v s.n ys) (hn : d.n = s.n) (hp : 0 < d.n) (one : ∀ v ∈ ys, v.oneCell' = true) (ty : TypeId) :
    ∃ k w', d.p = some ⟨k, 0, none⟩ ∧ (Builtin.copy_ #[28, 28] ty #[.slice d.p d.n d.c, .slice s.p s.n s.c]).run Try.prog w = .ok (goInt (d.n : Int)) w' ∧ w'.ownsRow 0 5 1 d.v d.n ys ∧ Apart [k] w w' := by
  obtain ⟨dp, dn, dc⟩ := d
  obtain ⟨sp, sn, sc⟩ := s
  dsimp only at hn hp hd hs ⊢
  subst hn
  have hs0 := hs
  obtain ⟨hl, ⟨_, hz⟩ | ⟨g, cap, cur, hv, _, hr, hle, hmx, hcs, htk⟩⟩ := hd
  · omega
  obtain ⟨hl2, ⟨_, hz⟩ | ⟨g2, cap2, cur2, hv2, _⟩⟩ := hs
  · omega
  unfold Sl.v at hv hv2 hs0 ⊢
  dsimp only at hs0
  simp at hv hv2
  obtain ⟨rfl, rfl⟩ := hv
  obtain ⟨rfl, rfl⟩ := hv2
  have hcl : cur.toList.length = dc := by simp; omega
  have hrun := run_copy_rowN w 28 28 ty 5 1 g 0 dn dc ⟨g2, 0, none⟩ dn sc dn cur.toList 5 ys Try.underlying28 size5 (by simpa using hr) (by simp) (by omega) (fun j v hj => by
    rw [Addr.add_lit, Nat.zero_add, hs0.cellAt j (by have := (List.getElem?_eq_some_iff.1 hj).1; omega)]; exact hj) (by omega) one
  refine ⟨g, _, rfl, hrun, ⟨hl2, .inr ⟨g, dc, _, rfl, Nat.zero_le _, setRow_heap w g _ _ 5 _ (by simpa using hr), hle, hmx, ?_, ?_⟩⟩, apart_setRow _ _ _⟩
  · simp only [splice]; simp; omega
  · simp only [splice]; simp
    rw [List.take_append_of_le_length (by omega)]
    exact List.take_of_length_le (by omega)
/-- what Send answers, and what it does to the bag and the counts -/
def sCode (p : Px) : Int := if p.room ≤ (p.xs.length : Int) then 101 else 0
def sXs (p : Px) (x : Tx) : List Tx := if p.room ≤ (p.xs.length : Int) then p.xs else p.xs ++ [x]
def sC (p : Px) : Cn := if p.room ≤ (p.xs.length : Int) then { p.c with c1 := p.c.c1 + 1 } else { p.c with c0 := p.c.c0 + 1 }
theorem sC_cb {p : Px} {K : Nat} (h : Cb p.c K) : Cb (sC p) (K + 1) := by
  unfold sC
  split
  · exact h.a1
  · exact h.a0
structure SPost (wa w w' : World) (r : Ending) (P : Nat) (p : Px) (who : Nat → Option Nat) (x : Tx) : Prop where
  ex : ∃ who' d, r = .returned (.int .i64 (sCode p)) ∧ PQ wa w' P { p with b := d, xs := sXs p x, c := sC p } who' p.x.cof ∧ Stp w w' who who' none ∧ d.g = p.b.g
theorem sendP {wa w : World} {P : Nat} {p : Px} {who : Nat → Option Nat} {K : Nat} (h : PQ wa w P p who p.x.cof) (l : LM) (x : Tx) (hl : ReadsL w l x) (hK : Cb p.c K) (hK2 : K ≤ 1000000) (hr : p.room ≤ 256) :
    Calls Try.prog 11 #[.pointer (some ⟨p.b.g, 0, none⟩), l.agg] w fun r w' => SPost wa w w' r P p who x := by
  have hxl : p.xs.length = p.b.s.n := h.bt.b.xl
  have hb0 := hK.b0
  have hb1 := hK.b1
  by_cases hf : p.room ≤ (p.xs.length : Int)
  · refine (send_full h.bt.b l (by omega) (by omega) (by omega)).mono (fun r w' hh => ?_)
    obtain ⟨rfl, hb, a⟩ := hh
    have h2 := h.bag a (fun k hk => by simp at hk; subst hk; exact h.bt.wB) false p.b _ _ rfl hb (fun k hk => .inl (h.bt.wS k hk)) (fun j hj k hk => .inl (h.bt.wL j hj k hk))
    refine ⟨whoQ who w.heap.size w'.heap.size false 1, p.b, by simp [sCode, hf], by simpa [sXs, sC, hf] using h2, ⟨fun k s e => whoQ_old (fun k s hk => h.sm.own k s hk) e, fun k s e => ?_, _, a, fun k hk => ?_⟩, rfl⟩
    · rcases whoQ_new e with ⟨e, _⟩ | e
      · cases e
      · exact .inl e
    · simp at hk; subst hk; left; rw [h.bt.wB]; simp
  · refine (send_ok2 h.bt.b l x hl (by omega) (by omega) (by omega) (by omega)).mono (fun r w' hh => ?_)
    obtain ⟨s', l2, rfl, hb, a, hs', hl2⟩ := hh.ex
    have hX : ∀ k ∈ p.b.g :: p.b.s.v.ownBlock.toList, who k = some 1 := fun k hk => by
      simp at hk
      rcases hk with rfl | hk
      · exact h.bt.wB
      · exact h.bt.wS k hk
    have hsn : s'.n = p.b.s.n + 1 := by have := hb.len; have := h.bt.b.len; simp at *; omega
    have h2 := h.bag a hX true ⟨p.b.g, s', p.b.ls ++ [l2]⟩ _ _ rfl hb (fun k hk => (hs' k hk).imp (fun e => h.bt.wS k e) (fun e => ⟨rfl, e⟩)) (fun j hj k hk => by
      have hll := h.bt.b.len
      dsimp only at hj hk
      by_cases hjn : j < p.b.s.n
      · left
        refine h.bt.wL j hjn k ?_
        rwa [gL_left _ _ _ (by omega)] at hk
      · right
        refine ⟨rfl, hl2 k ?_⟩
        have : j = p.b.ls.length := by omega
        subst this
        rwa [gL_at] at hk)
    refine ⟨whoQ who w.heap.size w'.heap.size true 1, ⟨p.b.g, s', p.b.ls ++ [l2]⟩, by simp [sCode, hf], by simpa [sXs, sC, hf] using h2, ⟨fun k s e => whoQ_old (fun k s hk => h.sm.own k s hk) e, fun k s e => ?_, _, a, fun k hk => ?_⟩, rfl⟩
    · rcases whoQ_new e with ⟨_, e, _⟩ | e
      · exact .inr (.inl e)
      · exact .inl e
    · left; rw [hX k hk]; simp
structure RPost (wa w w' : World) (r : Ending) (P : Nat) (p q : Px) (who : Nat → Option Nat) (x : Tx) : Prop where
  ex : ∃ who' d, r = .returned (.int .i64 (sCode q)) ∧ PQ wa w' P { p with r := d, ys := sXs q x, e := sC q } who' p.x.cof ∧ Stp w w' who who' none ∧ d.g = p.r.g
theorem rsendP {wa w : World} {P : Nat} {p q : Px} {who : Nat → Option Nat} {K : Nat} (h : PQ wa w P p who p.x.cof) (l : LM) (x : Tx) (hl : ReadsL w l x) (hln : ∀ A o, 0 < l.d.n → l.d.p = some ⟨A, o, none⟩ → who A = none) (hxy : p.ys = q.xs ∧ p.e = q.c ∧ p.room = q.room) (hK : Cb q.c K) (hK2 : K ≤ 1000000) (hr : p.room ≤ 256) :
    Calls Try.prog 46 #[.pointer (some ⟨p.r.g, 0, none⟩), l.agg] w fun r w' => RPost wa w w' r P p q who x := by
  have hxl : p.ys.length = p.r.s.n := h.rt.b.xl
  have hX : ∀ k ∈ p.r.g :: p.r.s.v.ownBlock.toList, who k = some 2 := fun k hk => by
    simp at hk
    rcases hk with rfl | hk
    · exact h.rt.wB
    · exact h.rt.wS k hk
  obtain ⟨hxy, hee, hrr⟩ := hxy
  rw [hxy] at hxl
  rw [← hee] at hK
  have hb0 := hK.b0
  have hb1 := hK.b1
  by_cases hf : q.room ≤ (q.xs.length : Int)
  · refine (rsend_full h.rt.b l (by omega) (by omega) (by omega)).mono (fun r w' hh => ?_)
    obtain ⟨rfl, hb, a⟩ := hh
    have h2 := h.ref a (fun k hk => by simp at hk; subst hk; exact h.rt.wB) false p.r _ _ rfl hb (fun k hk => .inl (h.rt.wS k hk)) (fun j hj k hk => .inl (h.rt.wL j hj k hk))
    refine ⟨whoQ who w.heap.size w'.heap.size false 2, p.r, by simp [sCode, hf], by simpa [sXs, sC, hf, hxy, hee] using h2, ⟨fun k s e => whoQ_old (fun k s hk => h.sm.own k s hk) e, fun k s e => ?_, _, a, fun k hk => ?_⟩, rfl⟩
    · rcases whoQ_new e with ⟨e, _⟩ | e
      · cases e
      · exact .inl e
    · simp at hk; subst hk; left; rw [h.rt.wB]; simp
  · refine (rsend_ok3 h.rt.b l x hl (fun A o e0 e m => by have h1 := hln A o e0 e; rw [hX A m] at h1; cases h1) (by omega) (by omega) (by omega) (by omega)).mono (fun r w' hh => ?_)
    obtain ⟨s', l2, rfl, hb, a, hs', hl2⟩ := hh.ex
    have hX' : ∀ k ∈ p.r.g :: p.r.s.v.ownBlock.toList, who k = some 2 := fun k hk => by
      simp at hk
      rcases hk with rfl | hk
      · exact h.rt.wB
      · exact h.rt.wS k hk
    have hsn : s'.n = p.r.s.n + 1 := by have := hb.len; have := h.rt.b.len; simp at *; omega
    have h2 := h.ref a hX true ⟨p.r.g, s', p.r.ls ++ [l2]⟩ _ _ rfl hb (fun k hk => (hs' k hk).imp (fun e => h.rt.wS k e) (fun e => ⟨rfl, e⟩)) (fun j hj k hk => by
      have hll := h.rt.b.len
      dsimp only at hj hk
      by_cases hjn : j < p.r.s.n
      · left
        refine h.rt.wL j hjn k ?_
        rwa [gL_left _ _ _ (by omega)] at hk
      · right
        refine ⟨rfl, hl2 k ?_⟩
        have : j = p.r.ls.length := by omega
        subst this
        rwa [gL_at] at hk)
    refine ⟨whoQ who w.heap.size w'.heap.size true 2, ⟨p.r.g, s', p.r.ls ++ [l2]⟩, by simp [sCode, hf], by simpa [sXs, sC, hf, hxy, hee] using h2, ⟨fun k s e => whoQ_old (fun k s hk => h.sm.own k s hk) e, fun k s e => ?_, _, a, fun k hk => ?_⟩, rfl⟩
    · rcases whoQ_new e with ⟨_, e, _⟩ | e
      · exact .inr (.inl e)
      · exact .inl e
    · left; rw [hX k hk]; simp
end Go.Proofs.Ytiakcfjbnlibfaa.nt
