import Derived.Test.YtdbeeikjngnnnaaG40
namespace Go.Proofs.Ytdbeeikjngnnnaa.ty
open Go.ChangeShapes Go.WideShapes Go.ChangeAt Go.RowKit
set_option linter.unusedVariables false
set_option linter.unusedSimpArgs false
/-! ### a history being changed -/
structure Hx (w0 w : World) (X k : Nat) (B : Nat → Nat → Bool) (P : Nat → Nat) (V : Nat → Vl) (s : Sl) (L : List Value) (n : Nat) : Prop where
  ap : Apart [] w0 w
  ge : w0.heap.size ≤ X
  blk : w.heap[X]? = some (.cells (hrow k (fun i => .pointer (some ⟨P i, 0, none⟩)) s B).toArray 56 (0, 0))
  pge : ∀ i, i < 4 → w0.heap.size ≤ P i
  ho : ∀ i, i < 4 → Ho w (P i) (V i)
  inj : ∀ i j, i < 4 → j < 4 → P i = P j → i = j
  own : Nw w0 w 79 68 s L
  len : s.n = n
theorem Hm.hx {w0 w : World} {X k : Nat} {H : List Dn} {c : Nat → Nat → Nat} {P : Nat → Nat} {V : Nat → Vl} {s : Sl} (h : Hm w0 w X k H c P V s) : Hx w0 w X k (fun i p => se H (c i) p) P V s (rowsL H H) H.length := ⟨h.ap, h.ge, h.blk, h.pge, h.ho, h.inj, h.own, h.len⟩
theorem b256_congr {B B' : Nat → Nat → Bool} (h : ∀ i p, i < 4 → p < 64 → B i p = B' i p) : b256 B = b256 B' := by
  unfold b256
  refine List.map_congr_left fun t ht => ?_
  rw [List.mem_range] at ht
  rw [h (t / 64) (t % 64) (by omega) (by omega)]
theorem Hx.hm {w0 w : World} {X k : Nat} {H : List Dn} {c : Nat → Nat → Nat} {P : Nat → Nat} {V : Nat → Vl} {s : Sl} {B : Nat → Nat → Bool} {L : List Value} {n : Nat} (h : Hx w0 w X k B P V s L n) (hB : ∀ i p, i < 4 → p < 64 → B i p = se H (c i) p) (hL : L = rowsL H H) (hn : n = H.length) : Hm w0 w X k H c P V s := by
  have e := b256_congr hB
  have hb := h.blk
  unfold hrow at hb
  rw [e] at hb
  exact ⟨h.ap, h.ge, hb, h.pge, h.ho, h.inj, hL ▸ h.own, hn ▸ h.len⟩
theorem Hx.kept0 {w0 w w' : World} {X k : Nat} {B : Nat → Nat → Bool} {P : Nat → Nat} {V : Nat → Vl} {s : Sl} {L : List Value} {n : Nat} (h : Hx w0 w X k B P V s L n) (a : Apart [] w w') : Hx w0 w' X k B P V s L n :=
  ⟨h.ap.trans a, h.ge, keep0 a h.blk, h.pge, fun i hi => (h.ho i hi).kept0 a, h.inj, h.own.kept a, h.len⟩
theorem Ho.tk {ts : List Nat} {w w' : World} {V : Nat} {v : Vl} (h : Ho w V v) (k : TK ts w w') (h1 : 70 ∉ ts) (h2 : 106 ∉ ts) : Ho w' V v := by
  cases v using Vl.el with
  | cnt u d => exact k.block h h1
  | set c es =>
    obtain ⟨s, hb, he⟩ := h
    refine ⟨s, k.block hb h1, ?_⟩
    obtain ⟨Z, a, hz⟩ := k
    refine he.kept a (fun q hq cur m e => ?_)
    obtain ⟨cu, t, ht, hh⟩ := hz q hq
    rw [hh] at e
    simp only [Option.some.injEq, Obj.cells.injEq] at e
    exact h2 (e.2.1 ▸ ht)
  | flg c g => exact k.block h h1
  | rgs s x t => exact k.block h h1
theorem TK.one {w w' : World} {X T : Nat} {cs : Array Value} (a : Apart [X] w w') (h : w.heap[X]? = some (.cells cs T (0, 0))) : TK [T] w w' := ⟨[X], a, fun k hk => by simp at hk; subst hk; exact ⟨cs, T, by simp, h⟩⟩
theorem Nw.tk {ts : List Nat} {w0 w w' : World} {e size : Nat} {s : Sl} {us : List Value} (h : Nw w0 w e size s us) (k : TK ts w w') (ap : Apart [] w0 w') (he : e ∉ ts) : Nw w0 w' e size s us := by
  obtain ⟨Z, a, hz⟩ := k
  refine h.keepT a ap (fun q hq cur hh => ?_)
  obtain ⟨cu, t, ht, h2⟩ := hz q hq
  rw [h2] at hh
  simp only [Option.some.injEq, Obj.cells.injEq] at hh
  exact he (hh.2.1 ▸ ht)
/-- a replica's value has changed -/
theorem Hx.val {w0 w w' : World} {X k : Nat} {B : Nat → Nat → Bool} {P : Nat → Nat} {V : Nat → Vl} {s : Sl} {L : List Value} {n : Nat} (h : Hx w0 w X k B P V s L n) {i : Nat} (hi : i < 4) {x : Vl} (a : Apart [P i] w w') (o : Ho w' (P i) x) : Hx w0 w' X k B P (ud V i x) s L n := by
  obtain ⟨b, hb⟩ := (h.ho i hi).bd
  have k1 : TK [70] w w' := TK.one a hb
  have ap : Apart [] w0 w' := h.ap.trans' a (by intro y hy; simp at hy; rw [hy]; exact .inr (h.pge i hi))
  refine ⟨ap, h.ge, k1.block h.blk (by simp), h.pge, fun j hj => ?_, h.inj, h.own.tk k1 ap (by simp), h.len⟩
  unfold ud
  by_cases e : j = i
  · subst e; rw [if_pos rfl]; exact o
  · rw [if_neg e]
    exact (h.ho j hj).otherV a (h.ho i hi) (fun q => e (h.inj j i hj hi q))
/-- a cell of the history -/
theorem Hx.cell {w0 w : World} {X k : Nat} {B B' : Nat → Nat → Bool} {P : Nat → Nat} {V : Nat → Vl} {s : Sl} {L : List Value} {n : Nat} (h : Hx w0 w X k B P V s L n) {o : Nat} {v : Value} (hs : (hrow k (fun i => .pointer (some ⟨P i, 0, none⟩)) s B).set o v = hrow k (fun i => .pointer (some ⟨P i, 0, none⟩)) s B') : Hx w0 (w.setCell ⟨X, o, none⟩ v) X k B' P V s L n := by
  have a : Apart [X] w (w.setCell ⟨X, o, none⟩ v) := (Apart.refl [X] w).setCell (.inl (by simp)) _
  have k1 : TK [56] w (w.setCell ⟨X, o, none⟩ v) := TK.one a h.blk
  have ap : Apart [] w0 (w.setCell ⟨X, o, none⟩ v) := h.ap.trans' a (by intro y hy; simp at hy; rw [hy]; exact .inr h.ge)
  refine ⟨ap, h.ge, ?_, h.pge, fun j hj => (h.ho j hj).tk k1 (by simp) (by simp), h.inj, h.own.tk k1 ap (by simp), h.len⟩
  rw [heap_setCell_same w X o _ 56 _ h.blk, ← hs]
  simp
theorem Hx.bit {w0 w : World} {X k : Nat} {B : Nat → Nat → Bool} {P : Nat → Nat} {V : Nat → Vl} {s : Sl} {L : List Value} {n : Nat} (h : Hx w0 w X k B P V s L n) {i p : Nat} (hi : i < 4) (hp : p < 64) (b : Bool) : Hx w0 (w.setCell ⟨X, 6 + i * 64 + p, none⟩ (.bool b)) X k (ub B i p b) P V s L n := h.cell (hrow_set_b _ _ _ _ hi hp b)
/-- one event more -/
theorem Hx.grow {w0 w w1 : World} {X k : Nat} {B : Nat → Nat → Bool} {P : Nat → Nat} {V : Nat → Vl} {s s' : Sl} {L L' : List Value} {n : Nat} (h : Hx w0 w X k B P V s L n) (t : TK [79] w w1) (o : Nw w0 w1 79 68 s' L') (hn : s'.n = n + 1) : Hx w0 (w1.setCell ⟨X, 5, none⟩ (.slice s'.p s'.n s'.c)) X k B P V s' L' (n + 1) := by
  have hb := t.block h.blk (by simp)
  have a : Apart [X] w1 (w1.setCell ⟨X, 5, none⟩ (.slice s'.p s'.n s'.c)) := (Apart.refl [X] w1).setCell (.inl (by simp)) _
  have k1 : TK [56] w1 (w1.setCell ⟨X, 5, none⟩ (.slice s'.p s'.n s'.c)) := TK.one a hb
  have ap : Apart [] w0 (w1.setCell ⟨X, 5, none⟩ (.slice s'.p s'.n s'.c)) := o.ap.trans' a (by intro y hy; simp at hy; rw [hy]; exact .inr h.ge)
  refine ⟨ap, h.ge, ?_, h.pge, fun j hj => ((h.ho j hj).tk t (by simp) (by simp)).tk k1 (by simp) (by simp), h.inj, o.tk k1 ap (by simp), hn⟩
  rw [heap_setCell_same w1 X 5 _ 56 _ hb, ← hrow_set_s k _ s s' B]
  simp
/-! ### an event's own row -/
def fB (f : Nat → Bool) : List Value := (List.range 64).map fun p => .bool (f p)
def dC (a e : Int) (t : Bool) (x : ByteArray) (f : Nat → Bool) : List Value := .int .i64 a :: .int .i64 e :: .bool t :: .string x :: fB f
theorem fB_len (f : Nat → Bool) : (fB f).length = 64 := by simp [fB]
theorem dC_len (a e : Int) (t : Bool) (x : ByteArray) (f : Nat → Bool) : (dC a e t x f).length = 68 := by simp [dC, fB_len]
theorem dC_one (a e : Int) (t : Bool) (x : ByteArray) (f : Nat → Bool) : ∀ u ∈ dC a e t x f, u.oneCell' = true := by
  intro u hu
  simp only [dC, List.mem_cons, fB, List.mem_map] at hu
  rcases hu with rfl | rfl | rfl | rfl | ⟨p, -, rfl⟩ <;> rfl
theorem fB_one (f : Nat → Bool) : ∀ u ∈ fB f, u.oneCell' = true := by
  intro u hu
  simp only [fB, List.mem_map] at hu
  obtain ⟨p, -, rfl⟩ := hu
  rfl
theorem drow_dC (H : List Dn) (d : Dn) : drow H d = dC d.by_ (d.el : Int) d.tk d.tx (se H d.vc) := rfl
theorem size79 : (Try.prog.info? 79).map (·.size) = some 68 := by kernel_rfl
theorem size53 : (Try.prog.info? 53).map (·.size) = some 64 := by kernel_rfl
theorem info79 : (Try.prog.info? 79).map (fun i => (i.zero, i.size, i.bytes)) = some (some (.agg (dC 0 0 false ⟨#[]⟩ (fun _ => false)).toArray), 68, 104) := by kernel_rfl
theorem app79 {w W : World} {s : Sl} {L row : List Value} (h : Nw w W 79 68 s L) (hr : row.length = 68) (one : ∀ u ∈ row, u.oneCell' = true) (hl : s.n + 1 ≤ 100000) :
    ∃ s' W', (Builtin.append_ #[52, 52] 52 #[.slice s.p s.n s.c, .slice (some ⟨W.heap.size, 0, none⟩) 1 1]).run Try.prog (W.alloc (Obj.cells row.toArray 79)) = .ok (.slice s'.p s'.n s'.c) W' ∧ Nw w W' 79 68 s' (L ++ row) ∧ s'.n = s.n + 1 ∧ TK [79] W W' := by
  obtain ⟨i0, hif, hz0, hz1, hz2⟩ := info_of info79
  obtain ⟨s5, w5, hrun, hnw5, hs5, ap5, -⟩ := run_appM (s := s) 52 52 79 i0 _ 68 104 Try.underlying52 hif hz0 hz1 hz2 (by simp [Value.cells, dC_len]) (by decide) h 1 row (by decide) (by rw [hr]) one (by unfold maxLen; omega) (by omega)
  exact ⟨s5, w5, hrun, hnw5, hs5, TK.own h ap5 (by simp)⟩
theorem build79 (a e : Int) (t : Bool) (f : Nat → Bool) (W : World) : (Instr.build 79 #[(0, .int .i64 a), (1, .int .i64 e), (2, .bool t), (4, .agg (fB f).toArray)]).run Try.prog W = .ok (.agg (dC a e t ⟨#[]⟩ f).toArray) W := by kernel_rfl
end Go.Proofs.Ytdbeeikjngnnnaa.ty
namespace Go.Proofs.Ytdbeeikjngnnnaa.ty
open Go.ChangeShapes Go.WideShapes Go.ChangeAt Go.RowKit
set_option linter.unusedVariables false
set_option linter.unusedSimpArgs false
theorem ex_load53 {W : World} {eval : Operand → Value} {op : Oper} (x : Operand) (ho : op.op = .load 53 x) (b o : Nat) (cs : List Value) (hx : eval x = .pointer (some ⟨b, o, none⟩)) (hc : W.rangeAt b o cs) (hl : cs.length = 64) : (execOp eval op).run Try.prog W = .ok (.value (.agg cs.toArray)) W := by
  unfold execOp
  simp only [ho, hx, Instr.loadAt, Instr.sureAddr, Sem.run_bind, Sem.run_pure, Result.andThen_ok, run_loadVar_mid W b o 53 cs _ hc Try.underlying53 rfl (by rw [size53, hl])]
theorem ex_load79 {W : World} {eval : Operand → Value} {op : Oper} (x : Operand) (ho : op.op = .load 79 x) (b o : Nat) (cs : List Value) (hx : eval x = .pointer (some ⟨b, o, none⟩)) (hc : W.rangeAt b o cs) (hl : cs.length = 68) : (execOp eval op).run Try.prog W = .ok (.value (.agg cs.toArray)) W := by
  unfold execOp
  simp only [ho, hx, Instr.loadAt, Instr.sureAddr, Sem.run_bind, Sem.run_pure, Result.andThen_ok, run_loadVar_mid W b o 79 cs _ hc Try.underlying79 rfl (by rw [size79, hl])]
theorem ex_build79 {W : World} {eval : Operand → Value} {op : Oper} {a e : Int} {t : Bool} {f : Nat → Bool} (x y z u : Operand) (ho : op.op = .build 79 #[(0, x), (1, y), (2, z), (4, u)]) (hx : eval x = .int .i64 a) (hy : eval y = .int .i64 e) (hz : eval z = .bool t) (hu : eval u = .agg (fB f).toArray) : (execOp eval op).run Try.prog W = .ok (.value (.agg (dC a e t ⟨#[]⟩ f).toArray)) W := by
  unfold execOp
  have e1 : (#[(0, x), (1, y), (2, z), (4, u)] : Array (Nat × Operand)).map (fun (i, x) => (i, eval x)) = #[(0, .int .i64 a), (1, .int .i64 e), (2, .bool t), (4, .agg (fB f).toArray)] := by simp [hx, hy, hz, hu]
  simp only [ho, e1, Sem.run_bind, build79 a e t f W, Sem.run_pure, Result.andThen_ok]
theorem fB_at (f : Nat → Bool) (j : Nat) {v : Value} (h : (fB f)[j]? = some v) : j < 64 ∧ v = .bool (f j) := by
  unfold fB at h
  rw [List.getElem?_map] at h
  rcases Nat.lt_or_ge j 64 with hj | hj
  · rw [List.getElem?_range hj] at h
    exact ⟨hj, (Option.some.inj h).symm⟩
  · rw [List.getElem?_eq_none (by simp; omega)] at h; cases h
theorem Hx.bits {w0 w : World} {X k : Nat} {B : Nat → Nat → Bool} {P : Nat → Nat} {V : Nat → Vl} {s : Sl} {L : List Value} {n : Nat} (h : Hx w0 w X k B P V s L n) {i : Nat} (hi : i < 4) : w.rangeAt X (6 + i * 64) (fB (B i)) := fun j v hj => by
  obtain ⟨h1, rfl⟩ := fB_at _ _ hj
  exact row_cell h.blk (hrow_b _ _ _ _ hi h1)
theorem row_range {w : World} {X T : Nat} {l : List Value} (h : w.heap[X]? = some (.cells l.toArray T (0, 0))) : w.rangeAt X 0 l := fun j v hj => by
  rw [Nat.zero_add]; exact row_cell h hj
theorem Hx.vcell {w0 w : World} {X k : Nat} {B : Nat → Nat → Bool} {P : Nat → Nat} {V : Nat → Vl} {s : Sl} {L : List Value} {n : Nat} (h : Hx w0 w X k B P V s L n) {i : Nat} (hi : i < 4) : w.cell? ⟨X, 1 + i, none⟩ = some (.pointer (some ⟨P i, 0, none⟩)) := row_cell h.blk (hrow_v _ _ _ _ hi)
theorem Hx.all {w0 w : World} {X k : Nat} {B : Nat → Nat → Bool} {P : Nat → Nat} {V : Nat → Vl} {s : Sl} {L : List Value} {n : Nat} (h : Hx w0 w X k B P V s L n) : w.cell? ⟨X, 5, none⟩ = some (.slice s.p s.n s.c) := row_cell h.blk (hrow_s _ _ _ _)
theorem Hx.kind {w0 w : World} {X k : Nat} {B : Nat → Nat → Bool} {P : Nat → Nat} {V : Nat → Vl} {s : Sl} {L : List Value} {n : Nat} (h : Hx w0 w X k B P V s L n) : w.cell? ⟨X, 0, none⟩ = some (.int .i64 (k : Int)) := row_cell h.blk (hrow_k _ _ _ _)
theorem bslice79 (b e : Int) (t : Bool) (x : ByteArray) (f : Nat → Bool) (W : World) : (Instr.buildSlice 52 1 #[(0, .agg (dC b e t x f).toArray)]).run Try.prog W = .ok (.slice (some ⟨W.heap.size, 0, none⟩) 1 1) (W.alloc (.cells (dC b e t x f).toArray 79)) := by kernel_rfl
theorem wp_bs79 {b e : Int} {t : Bool} {x : ByteArray} {f : Nat → Bool} {o : Oper} {a : Act} {w : World} {K : Act → World → Prop} {Q : Exit → Act → World → Prop} (y : Operand) (ho : o.op = .buildSlice 52 1 #[(0, y)]) (hy : a.eval y = .agg (dC b e t x f).toArray)
    (hK : K (a.put o.dst (.slice (some ⟨w.heap.size, 0, none⟩) 1 1)) (w.alloc (.cells (dC b e t x f).toArray 79))) : o.wp Try.prog a w K Q := by
  unfold Oper.wp execOp
  have e1 : (#[(0, y)] : Array (Nat × Operand)).map (fun (i, x) => (i, a.eval x)) = #[(0, .agg (dC b e t x f).toArray)] := by simp [hy]
  simp only [ho, e1, Sem.run_bind, bslice79 b e t x f w, Result.andThen_ok]
  exact hK
end Go.Proofs.Ytdbeeikjngnnnaa.ty
namespace Go.Proofs.Ytdbeeikjngnnnaa.ty
open Go.ChangeShapes Go.WideShapes Go.ChangeAt Go.RowKit
set_option linter.unusedVariables false
set_option linter.unusedSimpArgs false
theorem app79b {w W : World} {s : Sl} {L row : List Value} (h : Nw w W 79 68 s L) (hr : row.length = 68) (one : ∀ u ∈ row, u.oneCell' = true) (hl : s.n + 1 ≤ 100000) :
    ∃ s' W', (Builtin.append_ #[52, 52] 52 #[.slice s.p s.n s.c, .slice (some ⟨W.heap.size, 0, none⟩) 1 1]).run Try.prog (W.alloc (Obj.cells row.toArray 79)) = .ok (.slice s'.p s'.n s'.c) W' ∧ Nw w W' 79 68 s' (L ++ row) ∧ s'.n = s.n + 1 ∧ TK [79] W W' ∧ Apart s.v.ownBlock.toList W W' := by
  obtain ⟨i0, hif, hz0, hz1, hz2⟩ := info_of info79
  obtain ⟨s5, w5, hrun, hnw5, hs5, ap5, -⟩ := run_appM (s := s) 52 52 79 i0 _ 68 104 Try.underlying52 hif hz0 hz1 hz2 (by simp [Value.cells, dC_len]) (by decide) h 1 row (by decide) (by rw [hr]) one (by unfold maxLen; omega) (by omega)
  exact ⟨s5, w5, hrun, hnw5, hs5, TK.own h ap5 (by simp), ap5⟩
/-- the event's own block, not yet of the history -/
structure Dw (w0 w : World) (D : Nat) (s : Sl) (r : List Value) : Prop where
  blk : w.heap[D]? = some (.cells r.toArray 79 (0, 0))
  ge : w0.heap.size ≤ D
  no : D ∉ s.v.ownBlock.toList
theorem Dw.kept0 {w0 w w' : World} {D : Nat} {s : Sl} {r : List Value} (h : Dw w0 w D s r) (a : Apart [] w w') : Dw w0 w' D s r := ⟨keep0 a h.blk, h.ge, h.no⟩
theorem Dw.keepB {w0 w w' : World} {D R : Nat} {s : Sl} {r : List Value} (h : Dw w0 w D s r) (a : Apart [R] w w') (hn : D ≠ R) : Dw w0 w' D s r := ⟨ty.keepB a h.blk hn, h.ge, h.no⟩
theorem Hx.dcell {w0 w : World} {X k : Nat} {B : Nat → Nat → Bool} {P : Nat → Nat} {V : Nat → Vl} {s : Sl} {L : List Value} {n D : Nat} {r : List Value} (h : Hx w0 w X k B P V s L n) (d : Dw w0 w D s r) (o : Nat) (v : Value) : Hx w0 (w.setCell ⟨D, o, none⟩ v) X k B P V s L n := by
  have a : Apart [D] w (w.setCell ⟨D, o, none⟩ v) := (Apart.refl [D] w).setCell (.inl (by simp)) _
  have k1 : TK [79] w (w.setCell ⟨D, o, none⟩ v) := TK.one a d.blk
  have ap : Apart [] w0 (w.setCell ⟨D, o, none⟩ v) := h.ap.trans' a (by intro y hy; simp at hy; rw [hy]; exact .inr d.ge)
  refine ⟨ap, h.ge, k1.block h.blk (by simp), h.pge, fun j hj => (h.ho j hj).tk k1 (by simp) (by simp), h.inj, h.own.keepN a ap d.no, h.len⟩
theorem Dw.set {w0 w : World} {D : Nat} {s : Sl} {r r' : List Value} (h : Dw w0 w D s r) (o : Nat) (v : Value) (e : r.set o v = r') : Dw w0 (w.setCell ⟨D, o, none⟩ v) D s r' := by
  refine ⟨?_, h.ge, h.no⟩
  rw [heap_setCell_same w D o _ 79 _ h.blk, ← e]
  simp
theorem Hx.ne {w0 w : World} {X k : Nat} {B : Nat → Nat → Bool} {P : Nat → Nat} {V : Nat → Vl} {s : Sl} {L : List Value} {n D : Nat} {r : List Value} (h : Hx w0 w X k B P V s L n) (d : Dw w0 w D s r) {i : Nat} (hi : i < 4) : D ≠ P i ∧ X ≠ P i ∧ D ≠ X := by
  obtain ⟨b, hb⟩ := (h.ho i hi).bd
  refine ⟨fun e => ?_, fun e => ?_, fun e => ?_⟩
  · have h1 := d.blk
    rw [e, hb] at h1
    simp only [Option.some.injEq, Obj.cells.injEq] at h1
    exact absurd h1.2.1 (by decide)
  · have h1 := h.blk
    rw [e, hb] at h1
    simp only [Option.some.injEq, Obj.cells.injEq] at h1
    exact absurd h1.2.1 (by decide)
  · have h1 := d.blk
    rw [e, h.blk] at h1
    simp only [Option.some.injEq, Obj.cells.injEq] at h1
    exact absurd h1.2.1 (by decide)
/-- the end of it -/
theorem act_end {w0 wb w9 : World} {X k : Nat} {H : List Dn} {c : Nat → Nat → Nat} {P : Nat → Nat} {V : Nat → Vl} {s s9 : Sl} {x : Vl} {d : Dn} (g : Wr k H c V) (ha : d.act < 4) (hv : d.vc = c d.act)
    (hx : Hx w0 wb X k (ub (fun i p => se H (c i) p) d.act H.length true) P (ud V d.act x) s (rowsL H H) H.length) (t : TK [79] wb w9) (n9 : Nw w0 w9 79 68 s9 (rowsL H H ++ drow H d)) (l9 : s9.n = s.n + 1) :
    Hm w0 (w9.setCell ⟨X, 5, none⟩ (.slice s9.p s9.n s9.c)) X k (H ++ [d]) (ud c d.act (ty.up (c d.act) d.act (H.length + 1))) P (ud V d.act x) s9 := by
  have hle : ∀ j, d.vc j ≤ H.length := fun j => by rw [hv]; exact (g.vc d.act ha).le j
  have hdr : drow (H ++ [d]) d = drow H d := by
    unfold drow
    have : ∀ p, se (H ++ [d]) d.vc p = se H d.vc p := fun p => se_push hle d p
    simp only [this]
  refine (hx.grow t n9 (by rw [l9, hx.len])).hm (fun j p hj hp => ?_) ?_ (by simp)
  · unfold ub ud
    by_cases hja : j = d.act
    · subst hja
      rw [if_pos rfl]
      by_cases hpn : p = H.length
      · subst hpn
        rw [if_pos ⟨rfl, rfl⟩]
        unfold se
        rw [push_new]
        simp [ty.up]
      · rw [if_neg (fun q => hpn q.2)]
        show se H (c d.act) p = se (H ++ [d]) (ty.up (c d.act) d.act (H.length + 1)) p
        unfold se
        rcases Nat.lt_or_ge p H.length with hlt | hge
        · obtain ⟨e, he⟩ : ∃ e, H[p]? = some e := ⟨_, List.getElem?_eq_getElem hlt⟩
          rw [he, push_old he]
          have := up_old (g.own d.act ha) he (m := H.length + 1) (by omega)
          simp only [decide_eq_decide]
          exact this.symm
        · rw [List.getElem?_eq_none (by omega), List.getElem?_eq_none (by simp; omega)]
    · rw [if_neg (fun q => hja q.1), if_neg hja]
      exact (se_push (g.vc j hj).le d p).symm
  · rw [rowsL_app, rowsL_push g.hs d H (fun e he => he), rowsL, rowsL, List.append_nil, hdr]
end Go.Proofs.Ytdbeeikjngnnnaa.ty
