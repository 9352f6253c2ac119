import Derived.Test.YtiakcfjbnlibfaaN25
import Derived.Lib.SlBytesConst
namespace Go.Proofs.Ytiakcfjbnlibfaa.nt
open Go.ChangeShapes Go.WideShapes Go.ChangeAt Go.RowKit
set_option linter.unusedVariables false
set_option linter.unusedSimpArgs false
theorem first_app (W : World) (l : LM) : ∃ R cp W', (Builtin.append_ #[22, 22] 22 #[.slice none 0 0, .slice (some ⟨W.heap.size, 0, none⟩) 1 1]).run Try.prog (W.alloc (boxL l)) = .ok (.slice (some ⟨R, 0, none⟩) 1 cp) W' ∧ W'.ownsRow 0 30 3 (.slice (some ⟨R, 0, none⟩) 1 cp) 1 (flatL [l]) ∧ Apart [] W W' ∧ W.heap.size ≤ R := by
  obtain ⟨i0, hi, hz0, hz1, hz2⟩ := info_parts infoL
  have hnw : Nw W W 30 3 ⟨none, 0, 0⟩ [] := ⟨World.ownsRow_nil _ _ _ _, by simp [Sl.v, Value.ownBlock], Apart.refl _ _⟩
  obtain ⟨t', w', hrun, n5, hs5, ap5, k5, hk5, hc5, hkk⟩ := run_appM 22 22 30 i0 _ 3 40 Try.underlying22 hi hz0 hz1 hz2 rfl (by decide) hnw 1 (LM.cs l) (by decide) rfl (fun v hv => oneL [l] v (by simpa [flatL] using hv)) (by unfold maxLen; simp) (by simp)
  obtain ⟨tp, tn, tc⟩ := t'
  simp only at hk5 hs5
  subst hk5 hs5
  refine ⟨k5, tc, w', hrun, ?_, ap5.mono (by simp [Sl.v, Value.ownBlock]), ?_⟩
  · have := n5.own
    simpa [flatL, Sl.v] using this
  · rcases hkk with e | e
    · simp [Sl.v, Value.ownBlock] at e
    · exact e
/-- the bytes of "first" -/
def fst5 : List Nat := [102, 105, 114, 115, 116]
theorem first_l (W : World) : RdL (W.alloc (.cells (byts fst5).toArray 5 (5, 6))) ⟨-1, -1, ⟨some ⟨W.heap.size, 0, none⟩, 5, 5⟩⟩ ⟨-1, -1, fst5⟩ := by
  have hb := heap_alloc_new W (.cells (byts fst5).toArray 5 (5, 6))
  refine ⟨⟨rfl, rfl, fun _ => ⟨W.heap.size, 0, rfl, lt_of_heap hb, fun j u hj => ?_⟩, rfl, by simp, by simp [fst5], fun e => by cases e⟩, fun P o e => ?_⟩
  · rw [cell_of_row _ _ _ _ _ _ hb, Nat.zero_add]
    simpa using hj
  · simp at e
    obtain ⟨rfl, rfl⟩ := e
    exact ⟨_, _, hb⟩
/-- what the walk makes of a constant's bytes -/
theorem first_conv (W : World) : Sem.run Try.prog (convert 28 28 (.slice (some ⟨W.heap.size, 0, none⟩) 5 5)) (W.alloc (.cells #[.int .u8 102, .int .u8 105, .int .u8 114, .int .u8 115, .int .u8 116] 5)) = .ok (.slice (some ⟨W.heap.size, 0, none⟩) 5 5) (W.alloc (.cells (byts fst5).toArray 5 (5, 6))) :=
  Lib.run_convert_bytes_const (P := Try.prog) W 28 5 #[.int .u8 102, .int .u8 105, .int .u8 114, .int .u8 115, .int .u8 116] 5 5 Try.underlying28 Try.underlying5
theorem row7 {w : World} {g : Nat} {t : TypeId} {a b c d e f h : Value} (hr : w.heap[g]? = some (.cells #[a, b, c, d, e, f, h] t (0, 0))) : w.cell? ⟨g, 0, none⟩ = some a ∧ w.cell? ⟨g, 1, none⟩ = some b ∧ w.cell? ⟨g, 2, none⟩ = some c ∧ w.cell? ⟨g, 3, none⟩ = some d ∧ w.cell? ⟨g, 4, none⟩ = some e ∧ w.cell? ⟨g, 5, none⟩ = some f ∧ w.cell? ⟨g, 6, none⟩ = some h := by
  refine ⟨?_, ?_, ?_, ?_, ?_, ?_, ?_⟩ <;> (rw [cell_of_row _ _ _ _ _ _ hr]; rfl)
/-- bounds of the counts -/
structure Cb (c : Cn) (K : Nat) : Prop where
  b0 : 0 ≤ c.c0 ∧ c.c0 ≤ K
  b1 : 0 ≤ c.c1 ∧ c.c1 ≤ K
  b2 : 0 ≤ c.c2 ∧ c.c2 ≤ K
  b3 : 0 ≤ c.c3 ∧ c.c3 ≤ K
  b4 : 0 ≤ c.c4 ∧ c.c4 ≤ K
theorem Cb.le {c : Cn} {K L : Nat} (h : Cb c K) (hl : K ≤ L) : Cb c L := by
  obtain ⟨h0, h1, h2, h3, h4⟩ := h
  exact ⟨by omega, by omega, by omega, by omega, by omega⟩
theorem Cb.a0 {c : Cn} {K : Nat} (h : Cb c K) : Cb { c with c0 := c.c0 + 1 } (K + 1) := by
  obtain ⟨h0, h1, h2, h3, h4⟩ := h
  exact ⟨by simp; omega, by simp; omega, by simp; omega, by simp; omega, by simp; omega⟩
theorem Cb.a1 {c : Cn} {K : Nat} (h : Cb c K) : Cb { c with c1 := c.c1 + 1 } (K + 1) := by
  obtain ⟨h0, h1, h2, h3, h4⟩ := h
  exact ⟨by simp; omega, by simp; omega, by simp; omega, by simp; omega, by simp; omega⟩
theorem Cb.a2 {c : Cn} {K : Nat} (h : Cb c K) : Cb { c with c2 := c.c2 + 1 } (K + 1) := by
  obtain ⟨h0, h1, h2, h3, h4⟩ := h
  exact ⟨by simp; omega, by simp; omega, by simp; omega, by simp; omega, by simp; omega⟩
theorem Cb.a3 {c : Cn} {K : Nat} (h : Cb c K) : Cb { c with c3 := c.c3 + 1 } (K + 1) := by
  obtain ⟨h0, h1, h2, h3, h4⟩ := h
  exact ⟨by simp; omega, by simp; omega, by simp; omega, by simp; omega, by simp; omega⟩
theorem Cb.a4 {c : Cn} {K : Nat} (h : Cb c K) : Cb { c with c4 := c.c4 + 1 } (K + 1) := by
  obtain ⟨h0, h1, h2, h3, h4⟩ := h
  exact ⟨by simp; omega, by simp; omega, by simp; omega, by simp; omega, by simp; omega⟩
/-- what holds between two calls -/
structure HJ (wa w : World) (Bg N R n cp K : Nat) (s : Sl) (ls ss : List LM) (xs zs : List Tx) (c : Cn) : Prop where
  m : HM wa w Bg (N : Int) s R n cp ls ss xs zs c
  pm : zs.Perm xs
  cn : c.c0 + c.c4 = s.n + c.c2 + c.c3
  b : Cb c K
theorem HJ.kept0 {wa w w' : World} {Bg N R n cp K : Nat} {s : Sl} {ls ss : List LM} {xs zs : List Tx} {c : Cn} (h : HJ wa w Bg N R n cp K s ls ss xs zs c) (a : Apart [] w w') : HJ wa w' Bg N R n cp K s ls ss xs zs c := ⟨h.m.kept0 a, h.pm, h.cn, h.b⟩
theorem HJ.le {wa w : World} {Bg N R n cp K L : Nat} {s : Sl} {ls ss : List LM} {xs zs : List Tx} {c : Cn} (h : HJ wa w Bg N R n cp K s ls ss xs zs c) (hl : K ≤ L) : HJ wa w Bg N R n cp L s ls ss xs zs c := ⟨h.m, h.pm, h.cn, h.b.le hl⟩
theorem HJ.nn {wa w : World} {Bg N R n cp K : Nat} {s : Sl} {ls ss : List LM} {xs zs : List Tx} {c : Cn} (h : HJ wa w Bg N R n cp K s ls ss xs zs c) : n = s.n := by
  rw [← h.m.zl, h.pm.length_eq, h.m.bag.xl]
/-- there is such a thing -/
structure HE (wa w : World) (Bg N K : Nat) (v : Value) : Prop where
  ex : ∃ (R n cp : Nat) (s : Sl) (ls ss : List LM) (xs zs : List Tx) (c : Cn), v = .slice (some ⟨R, 0, none⟩) n cp ∧ HJ wa w Bg N R n cp K s ls ss xs zs c
theorem Bag.nin {w0 w : World} {Bg : Nat} {room : Int} {s : Sl} {ls : List LM} {xs : List Tx} {c : Cn} (h : Bag w0 w Bg room s ls xs c) {B : Nat} {cs : Array Value} {t : TypeId} {fr : Nat × Nat} (hb : w.heap[B]? = some (.cells cs t fr)) (h1 : t ≠ 57) (h2 : t ≠ 30) : B ∉ Bg :: s.v.ownBlock.toList := fun m => by
  simp only [List.mem_cons] at m
  rcases m with rfl | m
  · exact blk_ne' h.blk cs fr h1 hb
  · obtain ⟨cu, tG⟩ := own_typ h.row.own (k := B) (by simpa using m)
    exact blk_ne' tG cs fr h2 hb
theorem Bag.far {w0 w : World} {Bg : Nat} {room : Int} {s : Sl} {ls : List LM} {xs : List Tx} {c : Cn} (h : Bag w0 w Bg room s ls xs c) {B : Nat} (hB : w.heap.size ≤ B) : B ∉ Bg :: s.v.ownBlock.toList := fun m => by
  simp only [List.mem_cons] at m
  rcases m with rfl | m
  · have := lt_of_heap h.blk
    omega
  · have := (h.row.own.lt B (by simpa using m)).2
    omega
theorem move_bad {w0 w : World} {Bg : Nat} {room : Int} {s : Sl} {ls : List LM} {xs : List Tx} {c : Cn} (h : Bag w0 w Bg room s ls xs c) (i j : Int) (hi : ¬ ((0 ≤ i ∧ i < (s.n : Int)) ∧ (0 ≤ j ∧ j < (s.n : Int)))) : Calls Try.prog 13 #[.pointer (some ⟨Bg, 0, none⟩), .int .i64 i, .int .i64 j] w fun r w' => r = .returned (.int .i64 100) ∧ Apart [] w w' := by
  have hh := has_ok h i
  by_cases h1 : 0 ≤ i ∧ i < (s.n : Int)
  · rw [decide_eq_true h1] at hh
    have h2 : ¬ (0 ≤ j ∧ j < (s.n : Int)) := fun h2 => hi ⟨h1, h2⟩
    have HH := hid h
    have H2 := hid h2
    clear h hi h1 h2
    go_enter Try.func13, Try.ntmps13
    go_wp2_with fail
    refine hh.mono ?_
    clear hh
    rintro _ w2 ⟨rfl, a2⟩
    have hg := has_ok (HH.out.kept0 a2) j
    rw [decide_eq_false H2.out] at hg
    have HA := hid a2
    clear a2
    dsimp only
    go_wp2_with fail
    refine hg.mono ?_
    clear hg
    rintro _ w3 ⟨rfl, a3⟩
    have HA3 := hid (HA.out.trans a3)
    clear a3
    dsimp only
    go_wp2
    go_ret
    exact ⟨rfl, HA3.out⟩
  · rw [decide_eq_false h1] at hh
    clear h hi h1
    go_enter Try.func13, Try.ntmps13
    go_wp2_with fail
    refine hh.mono ?_
    clear hh
    rintro _ w2 ⟨rfl, a2⟩
    have HA := hid a2
    clear a2
    dsimp only
    go_wp2
    go_ret
    exact ⟨rfl, HA.out⟩
theorem perm_out {zs xs : List Tx} {A I : Nat} (h : zs.Perm xs) (hA : A < zs.length) (hI : I < xs.length) (he : gT zs A = gT xs I) : (zs.eraseIdx A).Perm (xs.eraseIdx I) := by
  have h1 := perm_er zs A hA
  have h2 := perm_er xs I hI
  rw [he] at h1
  exact List.Perm.cons_inv ((h1.symm.trans h).trans h2)
theorem readsZ (w : World) : ReadsL w LM.z Tx.z := ⟨rfl, rfl, Rd.nil _ _, rfl, by simp [LM.z], by simp [Tx.z], fun _ => ⟨rfl, rfl⟩⟩
/-- .. with room for the counts that come -/
structure HE2 (wa w : World) (Bg N : Nat) (v : Value) : Prop where
  ex : ∃ (R n cp : Nat) (s : Sl) (ls ss : List LM) (xs zs : List Tx) (c : Cn) (K : Nat), v = .slice (some ⟨R, 0, none⟩) n cp ∧ K + n ≤ 2300 ∧ HJ wa w Bg N R n cp K s ls ss xs zs c
def slN : Value → Nat
  | .slice _ n _ => n
  | _ => 0
end Go.Proofs.Ytiakcfjbnlibfaa.nt
