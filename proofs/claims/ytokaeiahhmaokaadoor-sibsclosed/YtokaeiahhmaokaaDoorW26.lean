import Derived.Test.YtokaeiahhmaokaaDoorW25
import Derived.Test.YtokaeiahhmaokaaDoorW8
import Derived.Deep.CutRange
namespace Go.Proofs.YtokaeiahhmaokaaDoor.ds
open Go.ChangeShapes Go.WideShapes Go.ChangeAt Go.RowKit Go.Sort
set_option linter.unusedVariables false
set_option linter.unusedSimpArgs false
/-- an event: what it is, its node, its key, its client, its flags -/
structure Ev where
  a : Int
  n : Int
  k : Int
  q : Int
  f : Int
def Ev.agg (e : Ev) : Value := .agg #[.int .i64 e.a, .int .i64 e.n, .int .i64 e.k, .int .i64 e.q, .int .i64 e.f]
def i64 (x : Int) : Prop := -9223372036854775808 ≤ x ∧ x ≤ 9223372036854775807
structure Ev.ok (e : Ev) : Prop where
  a : i64 e.a
  n : i64 e.n
  k : i64 e.k
  q : i64 e.q
  f : i64 e.f
def Ev.box (e : Ev) : Obj := .cells #[.int .i64 e.a, .int .i64 e.n, .int .i64 e.k, .int .i64 e.q, .int .i64 e.f] 89 (0, 0)
theorem row5 {W : World} {b : Nat} {e : Ev} (h : W.heap[b]? = some e.box) : W.cell? ⟨b, 0, none⟩ = some (.int .i64 e.a) ∧ W.cell? ⟨b, 1, none⟩ = some (.int .i64 e.n) ∧ W.cell? ⟨b, 2, none⟩ = some (.int .i64 e.k) ∧ W.cell? ⟨b, 3, none⟩ = some (.int .i64 e.q) ∧ W.cell? ⟨b, 4, none⟩ = some (.int .i64 e.f) := by
  unfold Ev.box at h
  refine ⟨?_, ?_, ?_, ?_, ?_⟩ <;> (rw [cell_of_row _ _ _ _ _ _ h]; rfl)
theorem filt_nextP (p : Wr → Bool) (l : List Wr) (i : Nat) (hi : i < l.length) : ((l.take (i + 1)).filter p).length = ((l.take i).filter p).length + (if p (gR l i) = true then 1 else 0) := by
  rw [List.take_add_one, List.getElem?_eq_getElem hi, List.filter_append, List.length_append, ← gR_eq l i hi]
  by_cases h : p (gR l i) = true
  · simp [h]
  · simp [h]
theorem atN_next (v : Int) (l : List Wr) (i : Nat) (hi : i < l.length) : atN v (l.take (i + 1)) = atN v (l.take i) + (if (gR l i).n = v then 1 else 0) := by
  unfold atN
  rw [filt_nextP _ l i hi]
  simp
theorem row6v {w : World} {g : Nat} {t : TypeId} {a b c d e f : Value} (h : w.heap[g]? = some (.cells #[a, b, c, d, e, f] t (0, 0))) : w.cell? ⟨g, 0, none⟩ = some a ∧ w.cell? ⟨g, 1, none⟩ = some b ∧ w.cell? ⟨g, 2, none⟩ = some c ∧ w.cell? ⟨g, 3, none⟩ = some d ∧ w.cell? ⟨g, 4, none⟩ = some e ∧ w.cell? ⟨g, 5, none⟩ = some f := by
  refine ⟨?_, ?_, ?_, ?_, ?_, ?_⟩ <;> (rw [cell_of_row _ _ _ _ _ _ h]; rfl)
/-- the box of a new write and its byte -/
structure PB (s : Value) (wr wx : World) (v c k i : Nat) : Prop where
  ex : ∃ ab bb : Nat, s = .pointer (some ⟨ab, 0, none⟩) ∧ Apart [] wr wx ∧ wr.heap.size ≤ ab ∧ wr.heap.size ≤ bb ∧ ab ≠ bb ∧ wx.heap[ab]? = some (.cells #[.int .i64 (v : Nat), .int .i64 (c : Nat), .string (nmK k), .bool false, .slice (some ⟨bb, 0, none⟩) 1 1, .slice none 0 0] 28 (0, 0)) ∧ wx.heap[bb]? = some (.cells #[.int .u8 (i : Nat)] 5 (0, 0))
def put4 (w : World) (g : Nat) (a b c d : Value) : World := (((w.setCell ⟨g, 0, none⟩ a).setCell ⟨g, 1, none⟩ b).setCell ⟨g, 2, none⟩ c).setCell ⟨g, 3, none⟩ d
theorem row4s {w : World} {g : Nat} {t : TypeId} {a b c d : Value} (h : w.heap[g]? = some (.cells #[a, b, c, d] t (0, 0))) (x0 x1 x2 x3 : Value) : (put4 w g x0 x1 x2 x3).heap[g]? = some (.cells #[x0, x1, x2, x3] t (0, 0)) := by
  have h1 := heap_setCell_same w g 0 _ t x0 h
  have h2 := heap_setCell_same _ g 1 _ t x1 h1
  have h3 := heap_setCell_same _ g 2 _ t x2 h2
  have h4 := heap_setCell_same _ g 3 _ t x3 h3
  unfold put4
  simpa using h4
theorem ap4 (w : World) (g : Nat) (a b c d : Value) : Apart [g] w (put4 w g a b c d) := (((((Apart.refl _ _).setCell (.inl (by simp)) _).setCell (.inl (by simp)) _).setCell (.inl (by simp)) _).setCell (.inl (by simp)) _)
theorem row4v {w : World} {g : Nat} {t : TypeId} {a b c d : Value} (h : w.heap[g]? = some (.cells #[a, b, c, d] t (0, 0))) : w.cell? ⟨g, 0, none⟩ = some a ∧ w.cell? ⟨g, 1, none⟩ = some b ∧ w.cell? ⟨g, 2, none⟩ = some c ∧ w.cell? ⟨g, 3, none⟩ = some d := by
  refine ⟨?_, ?_, ?_, ?_⟩ <;> (rw [cell_of_row _ _ _ _ _ _ h]; rfl)
/-- the box of a client -/
structure CB (s : Value) (wr wx : World) (ky : Nat) (ok : Bool) (ct cx : Sl) : Prop where
  ex : ∃ cb : Nat, s = .pointer (some ⟨cb, 0, none⟩) ∧ Apart [] wr wx ∧ wr.heap.size ≤ cb ∧ wx.heap[cb]? = some (.cells #[.int .i64 (ky : Nat), .bool ok, .slice ct.p ct.n ct.c, .slice cx.p cx.n cx.c] 45 (0, 0))
/-- the world with one write more, its box beside it, what its client was told -/
structure MP (wB wx : World) (X : Nat) (g : Gh) (st : Wd) (x : E) (r : Wr) (ab : Nat) (tl : Sl) (ds : List (Int × Int)) : Prop where
  ex : ∃ m' : Sl, WM wB wx X { g with m := m', me := g.me ++ [x] } { st with made := st.made ++ [r] } ∧ wx.heap[ab]? = some (boxE x) ∧ ND wB wx tl ds
theorem push_MP {wB wr wd w6 : World} {X : Nat} {g : Gh} {st : Wd} {x : E} {r : Wr} {ab : Nat} {tl m' : Sl} {ds : List (Int × Int)} (hd : WM wB wd X g st) (hM : WM wB (w6.setCell ⟨X, 12, none⟩ m'.v) X { g with m := m', me := g.me ++ [x] } { st with made := st.made ++ [r] }) (ap : Apart g.m.v.ownBlock.toList wd w6) (hR : wd.heap[ab]? = some (boxE x)) (hN : ND wB wd tl ds) (hr : WM wB wr X g st) (hab : wr.heap.size ≤ ab) : MP wB (w6.setCell ⟨X, 12, none⟩ m'.v) X g st x r ab tl ds := by
  obtain ⟨cX, hX⟩ := hd.blkX
  have hXr : X < wr.heap.size := by obtain ⟨c, h⟩ := hr.blkX; exact lt_of_heap h
  have a6 : Apart [X] w6 (w6.setCell ⟨X, 12, none⟩ m'.v) := (Apart.refl _ _).setCell (.inl (by simp)) _
  have hmb : ∀ b ∈ g.m.v.ownBlock.toList, (∃ cur, wd.heap[b]? = some (.cells cur 28 (0, 0))) ∧ b < wr.heap.size := fun b hb => by
    refine ⟨own_typ hd.md.own.nw.own (by simpa using hb), ?_⟩
    obtain ⟨cur, hc⟩ := own_typ hr.md.own.nw.own (k := b) (by simpa using hb)
    exact lt_of_heap hc
  have habm : ab ∉ g.m.v.ownBlock.toList := fun hm => by have := (hmb ab hm).2; omega
  have R6 := (ap.block _ (lt_of_heap hR) habm).trans hR
  have R7 := (a6.block _ (lt_of_heap R6) (by simp; omega)).trans R6
  refine ⟨m', hM, R7, ⟨own_apart (own_apart hN.nw.own ap (fun b hb hm => ?_)) a6 (fun b hb hm => ?_), hN.nw.new, hM.ap⟩, hN.len⟩
  · obtain ⟨c1, e1⟩ := (hmb b hm).1
    obtain ⟨c2, e2⟩ := own_typ hN.nw.own hb
    rw [e1] at e2; simp at e2
  · simp at hm
    subst hm
    obtain ⟨c2, e2⟩ := own_typ hN.nw.own hb
    rw [hX] at e2; simp at e2
theorem buildT (W : World) (s : Sl) : Sem.run Tryd.prog (Instr.buildSlice 42 1 #[(0, s.v)]) W = .ok (.slice (some ⟨W.heap.size, 0, none⟩) 1 1) (W.alloc (.cells #[s.v] 43)) := by
  obtain ⟨ie, hi, hz0, hz1, hz2⟩ := info_parts info43
  refine run_buildSlice W 42 43 1 _ _ ie _ und42 hi hz0 (by rw [hz1]; decide) (by rw [hz1]; decide) ?_
  rw [hz1]
  first | rfl | (simp [Instr.fill, Array.range, Value.cells, Array.ofFn, Sl.v]; done) | kernel_rfl
/-- the world with one write more and what its client was told -/
structure TP (wB wx : World) (X : Nat) (g : Gh) (st : Wd) (x : E) (r : Wr) (ab : Nat) (ds : List (Int × Int)) (m' : Sl) : Prop where
  ex : ∃ t' te, WM wB wx X { g with m := m', me := g.me ++ [x], t := t', te := te } (putW st r ds) ∧ wx.heap[ab]? = some (boxE x)
theorem push_TP {wB wd w6 : World} {X : Nat} {g : Gh} {st : Wd} {x : E} {r : Wr} {ab : Nat} {tl m' t' : Sl} {ds : List (Int × Int)} (hd : WM wB wd X { g with m := m', me := g.me ++ [x] } { st with made := st.made ++ [r] }) (hM : WM wB (w6.setCell ⟨X, 13, none⟩ t'.v) X { g with m := m', me := g.me ++ [x], t := t', te := upd g.te st.told.length tl } { st with made := st.made ++ [r], told := st.told ++ [ds] }) (ap : Apart g.t.v.ownBlock.toList wd w6) (hR : wd.heap[ab]? = some (boxE x)) : TP wB (w6.setCell ⟨X, 13, none⟩ t'.v) X g st x r ab ds m' := by
  obtain ⟨cX, hX⟩ := hd.blkX
  have a6 : Apart [X] w6 (w6.setCell ⟨X, 13, none⟩ t'.v) := (Apart.refl _ _).setCell (.inl (by simp)) _
  have habm : ab ∉ g.t.v.ownBlock.toList := fun hm => by
    obtain ⟨c1, e1⟩ := own_typ hd.tl.own (k := ab) (by simpa using hm)
    rw [hR] at e1; unfold boxE at e1; simp at e1
  have hXa : ab ≠ X := fun e => by subst e; rw [hR] at hX; unfold boxE at hX; simp at hX
  have R6 := (ap.block _ (lt_of_heap hR) habm).trans hR
  have R7 := (a6.block _ (lt_of_heap R6) (by simp; exact hXa)).trans R6
  exact ⟨t', _, hM, R7⟩
theorem toks_nil (made : List Wr) (k : Nat) : TokS made k [] [] :=
  ⟨fun d hd => (by rw [hasd_nil] at hd; exact absurd hd (by simp)), fun d hd => absurd hd (by simp), fun y hy => ⟨fun h => (by rw [hasd_nil] at h; exact absurd h (by simp)), fun h => (by simp at h)⟩⟩
/-- what put leaves -/
structure PutP (wB w0 w' : World) (X : Nat) (z : Ending) (st : Wd) : Prop where
  ex : ∃ r ds v k, v < 4 ∧ k < 2 ∧ Inv (putW st r ds) ∧ r ∈ (putW st r ds).made ∧ r.k = nmK k ∧ (r.d = false ∧ r.vs.length = 1 ∧ ds.length ≤ 2000000) ∧ TkP wB w0 w' X z (tookW (putW st r ds) v k r)
set_option maxHeartbeats 32000000 in
set_option maxRecDepth 100000 in
theorem put_law {wB w0 : World} {X : Nat} {g : Gh} {st : Wd} (h : WM wB w0 X g st) (hI : Inv st) (TB : Tab wB) (hm : st.made.length ≤ 59) (hT : ∀ q, q < 4 → (st.cl q).told.length ≤ 2000000) (e : Ev) (he : e.ok) :
    Calls Tryd.prog 79 #[.pointer (some ⟨X, 0, none⟩), e.agg] w0 fun z w' => PutP wB w0 w' X z st := by
  obtain ⟨w1, hw1⟩ : ∃ w1, w1 = w0.alloc e.box := ⟨_, rfl⟩
  have HA1 : Hid (Apart [] w0 w1) := by unfold Hid; rw [hw1]; exact (Apart.refl [] w0).alloc _
  have HQ1 : Hid (w1.heap[w0.heap.size]? = some e.box) := by unfold Hid; rw [hw1]; exact heap_alloc_new w0 _
  obtain ⟨BE, HBE⟩ : ∃ BE, Hid (BE = w0.heap.size) := ⟨_, rfl⟩
  have HEC : Hid (∀ W, Apart [] w1 W → W.cell? ⟨BE, 0, none⟩ = some (.int .i64 e.a) ∧ W.cell? ⟨BE, 1, none⟩ = some (.int .i64 e.n) ∧ W.cell? ⟨BE, 2, none⟩ = some (.int .i64 e.k) ∧ W.cell? ⟨BE, 3, none⟩ = some (.int .i64 e.q) ∧ W.cell? ⟨BE, 4, none⟩ = some (.int .i64 e.f)) := fun W a => by
    rw [HBE.out]
    exact row5 ((a.block _ (lt_of_heap HQ1.out) (by simp)).trans HQ1.out)
  have HW := hid (h.kept HA1.out)
  have HI := hid hI
  have HTB := hid TB
  have HOK := hid he
  have HTl := hid hT
  obtain ⟨v, Hv⟩ : ∃ v, Hid (v = wth e.n 4) := ⟨_, rfl⟩
  obtain ⟨k, Hk⟩ : ∃ k, Hid (k = wth e.k 2) := ⟨_, rfl⟩
  have hv : v < 4 := by rw [Hv.out]; exact wth_lt _ (by omega)
  have hk : k < 2 := by rw [Hk.out]; exact wth_lt _ (by omega)
  have HL4 : Hid (∀ W, Calls Tryd.prog 19 #[.int .i64 e.n, .int .i64 4] W fun r w' => r = .returned (.int .i64 (v : Nat)) ∧ w' = W) := fun W => by rw [Hv.out]; exact within4 e.n he.n W
  have HL2 : Hid (∀ W, Calls Tryd.prog 19 #[.int .i64 e.k, .int .i64 2] W fun r w' => r = .returned (.int .i64 (k : Nat)) ∧ w' = W) := fun W => by rw [Hk.out]; exact within2 e.k he.k W
  obtain ⟨⟨mp, MN, mc⟩, Hmm⟩ : ∃ mm, Hid (mm = g.m) := ⟨_, rfl⟩
  have HMD : Hid (∀ W, Apart [] w1 W → W.cell? ⟨X, 12, none⟩ = some (.slice mp MN mc)) := fun W a => by
    rw [(HW.out.kept a).cell 12 (by omega), wc_made, ← Hmm.out]; rfl
  have HMN : Hid (MN = st.made.length) := by unfold Hid; rw [h.md.len, ← Hmm.out]
  have HFM : Hid (FL wB w1 ⟨mp, MN, mc⟩ g.me st.made) := by unfold Hid; rw [Hmm.out]; exact HW.out.md
  have hMN : MN ≤ 59 := by rw [HMN.out]; exact hm
  obtain ⟨b0, b1, b2, b3, b4⟩ := HEC.out w1 (Apart.refl _ _)
  have hl4 := HL4.out
  have hl2 := HL2.out
  have z12 := HMD.out w1 (Apart.refl _ _)
  clear h hI TB hm he hT
  unfold Ev.box at hw1
  unfold Ev.agg
  go_enter Tryd.func79, Tryd.ntmps79
  go_wp2_with fail
  rw [← hw1, ← HBE.out]
  clear hw1
  refine (HL4.out w1).mono ?_
  rintro _ w' ⟨rfl, hw'⟩
  rw [hw']
  clear hw' w'
  try dsimp only
  go_wp2_with fail
  refine (HL2.out w1).mono ?_
  rintro _ w' ⟨rfl, hw'⟩
  rw [hw']
  clear hw' w'
  try dsimp only
  go_wp2_with fail
  clear b0 b1 b2 b3 b4 z12 hl4 hl2
  go_loopw [7, 8] (fun a b wt => ∃ i : Nat, a = .int .i64 ((atN (v : Nat) (st.made.take i) + 1 : Nat) : Int) ∧ b = .int .i64 (i : Nat) ∧ i ≤ MN ∧ Apart [] w1 wt) (fun _ b _ => MN - (intOf b).toNat)
  case atStart => exact ⟨0, rfl, rfl, Nat.zero_le _, Apart.refl _ _⟩
  case round =>
    obtain ⟨i, rfl, rfl, hi, ap⟩ := hrel
    have HA := hid ap
    clear ap
    have z0 := HMD.out wr HA.out
    have HFL : Hid (atN (v : Nat) (st.made.take i) ≤ i) := Nat.le_trans (List.length_filter_le _ _) (by rw [List.length_take]; omega)
    by_cases hlt : i < MN
    · have hin : ((i : Nat) : Int) < (MN : Int) := by omega
      obtain ⟨PM, om, hpm, hPl, hcs⟩ := ((HFM.out.kept HA.out).le (by show MN ≤ 2000000; omega)).at (by show 0 < MN; omega)
      simp only at hpm
      subst hpm
      obtain ⟨k0, -, -, -, -, -⟩ := hcs i hlt
      have HNX := hid (atN_next (v : Nat) st.made i (by rw [← HMN.out]; exact hlt))
      have HRn : Hid ((gE g.me i).n = (gR st.made i).n) := ((HFM.out.kept HA.out).reads i hlt).n
      rw [← HRn.out] at HNX
      clear hcs
      generalize gE g.me i = x at *
      obtain ⟨cn, Hcn⟩ : ∃ cn, Hid (cn = atN (v : Nat) (st.made.take i)) := ⟨_, rfl⟩
      rw [← Hcn.out] at HNX HFL ⊢
      have hcn := HFL.out
      by_cases hq : x.n = (v : Nat)
      · have HN2 : Hid (atN (v : Nat) (st.made.take (i + 1)) = cn + 1) := by unfold Hid; rw [HNX.out, if_pos hq]
        go_wp2_with fail
        go_roundw
        case rel => exact ⟨i + 1, by rw [HN2.out]; exact congrArg (Value.int .i64) (by first | (unfold wrap64; omega) | omega), by go_num, by omega, HA.out⟩
        case measure => simp [intOf]; omega
      · have HN2 : Hid (atN (v : Nat) (st.made.take (i + 1)) = cn) := by unfold Hid; rw [HNX.out, if_neg hq]; rfl
        go_wp2_with fail
        go_roundw
        case rel => exact ⟨i + 1, by rw [HN2.out], by go_num, by omega, HA.out⟩
        case measure => simp [intOf]; omega
    · have hin : ¬ ((i : Nat) : Int) < (MN : Int) := by omega
      have HTK : Hid (atN (v : Nat) (st.made.take i) = atN (v : Nat) st.made) := by
        unfold Hid; rw [List.take_of_length_le (by rw [← HMN.out]; omega)]
      rw [HTK.out]
      obtain ⟨cn, Hcn⟩ : ∃ cn, Hid (cn = atN (v : Nat) st.made) := ⟨_, rfl⟩
      rw [← Hcn.out]
      have hcn : cn ≤ 59 := by rw [Hcn.out, ← HTK.out]; have := HFL.out; omega
      obtain rfl : i = MN := by omega
      go_upto_region 9 with fail
      clear z0 hin
      have HNM : Hid (∀ W, Calls Tryd.prog 57 #[.int .i64 (k : Nat)] W fun r w' => r = .returned (.string (nmK k)) ∧ Apart [] W w') := fun W => name_law k hk W
      have HU8 : Hid (IntKind.u8.wrap (i : Int) = (i : Int)) := by unfold Hid; have h0 : i ≤ 59 := hMN; rw [IntKind.wrap_u8]; omega
      have HMDr : Hid (∀ W, Apart [] wr W → W.cell? ⟨X, 12, none⟩ = some (.slice mp i mc)) := fun W a => HMD.out W (HA.out.trans a)
      go_cut [9] from 40 to 52 (fun s wx => PB s wr wx v (cn + 1) k i)
      · refine wp_region_held_drew (S := fun X => Apart [] wr X) (by kernel_rfl) (Apart.refl [] wr).drew (fun hHeld => ?_)
        have Twd : Hid (Apart [] wr wr.drew) := (Apart.refl [] wr).drew
        generalize wr.drew = wd at *
        refine tk 0 40 (.int .i64 (v : Nat)) rfl ?_ ?_
        · intro W hSW; go_simp
        simp only [Act.put, List.setIfInBounds_toArray, List.set_cons_zero, List.set_cons_succ]
        refine tk 1 41 (.int .i64 ((cn + 1 : Nat) : Int)) rfl ?_ ?_
        · intro W hSW; go_simp
        simp only [Act.put, List.setIfInBounds_toArray, List.set_cons_zero, List.set_cons_succ]
        refine tk 2 42 (.agg #[.int .i64 (v : Nat), .int .i64 ((cn + 1 : Nat) : Int)]) rfl ?_ ?_
        · intro W hSW; go_simp
        simp only [Act.put, List.setIfInBounds_toArray, List.set_cons_zero, List.set_cons_succ]
        refine tk 3 43 (.int .i64 (k : Nat)) rfl ?_ ?_
        · intro W hSW; go_simp
        simp only [Act.put, List.setIfInBounds_toArray, List.set_cons_zero, List.set_cons_succ]
        refine tk 5 45 (.pointer (some ⟨X, 0, none⟩)) rfl ?_ ?_
        · intro W hSW; go_simp
        simp only [Act.put, List.setIfInBounds_toArray, List.set_cons_zero, List.set_cons_succ]
        refine tk 6 46 (.pointer (some ⟨X, 0, none⟩)) rfl ?_ ?_
        · intro W hSW; go_simp
        simp only [Act.put, List.setIfInBounds_toArray, List.set_cons_zero, List.set_cons_succ]
        refine tk 7 47 (.pointer (some ⟨X, 12, none⟩)) rfl ?_ ?_
        · intro W hSW; go_simp
        simp only [Act.put, List.setIfInBounds_toArray, List.set_cons_zero, List.set_cons_succ]
        refine tk 8 48 (.slice mp i mc) rfl ?_ ?_
        · intro W hSW; have z := HMDr.out W hSW; go_simp
        simp only [Act.put, List.setIfInBounds_toArray, List.set_cons_zero, List.set_cons_succ]
        refine tk 9 49 (.int .i64 (i : Nat)) rfl ?_ ?_
        · intro W hSW; go_simp
        simp only [Act.put, List.setIfInBounds_toArray, List.set_cons_zero, List.set_cons_succ]
        refine tk 10 50 (.int .u8 (i : Nat)) rfl ?_ ?_
        · intro W hSW; have z := HU8.out; go_simp
        simp only [Act.put, List.setIfInBounds_toArray, List.set_cons_zero, List.set_cons_succ]
        refine wpAnyH_ready (rs := [4, 11, 13]) (by kernel_rfl) (by simp) ?_
        refine AllReadyH.cons rfl (fun KK hKK => ?_) (AllReadyH.cons rfl (fun KK hKK => ?_) (AllReadyH.cons rfl (fun KK hKK => ?_) AllReadyH.nil))
        · go_simp
          refine (HNM.out wd).mono ?_
          rintro _ w4 ⟨rfl, aw4⟩
          try dsimp only
          have Sw4 : Hid (Apart [] wd w4) := aw4
          clear aw4
          have Tw4 : Hid (Apart [] wr w4) := Twd.out.trans Sw4.out
          refine hKK.out _ _ Tw4.out (fun hHeld => ?_)
          clear hKK KK
          refine wpAnyH_ready (rs := [11, 13]) (by kernel_rfl) (by simp) ?_
          refine AllReadyH.cons rfl (fun KK hKK => ?_) (AllReadyH.cons rfl (fun KK hKK => ?_) AllReadyH.nil)
          · go_simp
            refine hKK.out _ _ (Tw4.out.alloc _) (fun hHeld => ?_)
            clear hKK KK
            obtain ⟨w411, hw411⟩ : ∃ w411, w411 = w4.alloc (.cells #[.int .u8 (i : Nat)] 5 (0, 0)) := ⟨_, rfl⟩
            have Sw411 : Hid (Apart [] w4 w411) := by unfold Hid; rw [hw411]; exact (Apart.refl [] w4).alloc _
            have Tw411 : Hid (Apart [] wr w411) := Tw4.out.trans Sw411.out
            have B11 : Hid (w411.heap[w4.heap.size]? = some (.cells #[.int .u8 (i : Nat)] 5 (0, 0))) := by unfold Hid; rw [hw411]; exact heap_alloc_new w4 _
            have L11 : Hid (wr.heap.size ≤ w4.heap.size) := Tw4.out.size
            rw [← hw411] at hHeld ⊢
            clear hw411
            obtain ⟨p11, e11⟩ : ∃ p, Hid (p = w4.heap.size) := ⟨_, rfl⟩
            rw [← e11.out] at B11 L11 ⊢
            have M11 : Hid (p11 < w411.heap.size) := lt_of_heap B11.out
            refine tk 12 52 (.agg #[.int .i64 (v : Nat), .int .i64 ((cn + 1 : Nat) : Int), .string (nmK k), .bool false, .slice (some ⟨p11, 0, none⟩) 1 1, .slice none 0 0]) rfl ?_ ?_
            · intro W hSW; go_simp
            simp only [Act.put, List.setIfInBounds_toArray, List.set_cons_zero, List.set_cons_succ]
            refine wpAnyH_ready (rs := [13]) (by kernel_rfl) (by simp) ?_
            refine AllReadyH.cons rfl (fun KK hKK => ?_) AllReadyH.nil
            · go_simp
              refine hKK.out _ _ (Tw411.out.alloc _) (fun hHeld => ?_)
              clear hKK KK
              obtain ⟨w41113, hw41113⟩ : ∃ w41113, w41113 = w411.alloc (.cells #[.int .i64 0, .int .i64 0, .string ⟨#[]⟩, .bool false, .slice none 0 0, .slice none 0 0] 28 (0, 0)) := ⟨_, rfl⟩
              have Sw41113 : Hid (Apart [] w411 w41113) := by unfold Hid; rw [hw41113]; exact (Apart.refl [] w411).alloc _
              have Tw41113 : Hid (Apart [] wr w41113) := Tw411.out.trans Sw41113.out
              have B13 : Hid (w41113.heap[w411.heap.size]? = some (.cells #[.int .i64 0, .int .i64 0, .string ⟨#[]⟩, .bool false, .slice none 0 0, .slice none 0 0] 28 (0, 0))) := by unfold Hid; rw [hw41113]; exact heap_alloc_new w411 _
              have L13 : Hid (wr.heap.size ≤ w411.heap.size) := Tw411.out.size
              rw [← hw41113] at hHeld ⊢
              clear hw41113
              obtain ⟨p13, e13⟩ : ∃ p, Hid (p = w411.heap.size) := ⟨_, rfl⟩
              rw [← e13.out] at B13 L13 ⊢
              have M13 : Hid (p13 < w41113.heap.size) := lt_of_heap B13.out
              have B11 := hid ((Sw41113.out.block _ (lt_of_heap B11.out) (by simp)).trans B11.out)
              have D1113 : Hid (p13 ≠ p11) := by unfold Hid; have := M11.out; have := e13.out; omega
              have M11 : Hid (p11 < w41113.heap.size) := lt_of_heap B11.out
              refine wpAnyH_ready (rs := [14]) (by kernel_rfl) (by simp) ?_
              refine AllReadyH.cons rfl (fun KK hKK => ?_) AllReadyH.nil
              obtain ⟨f0, f1, f2, f3, f4, f5⟩ := row6v B13.out
              have k0 := frozen_of_row _ _ 0 _ _ B13.out
              have k1 := frozen_of_row _ _ 1 _ _ B13.out
              have k2 := frozen_of_row _ _ 2 _ _ B13.out
              have k3 := frozen_of_row _ _ 3 _ _ B13.out
              have k4 := frozen_of_row _ _ 4 _ _ B13.out
              have k5 := frozen_of_row _ _ 5 _ _ B13.out
              go_simp
              have AE := ap6 w41113 p13 (.int .i64 (v : Nat)) (.int .i64 ((cn + 1 : Nat) : Int)) (.string (nmK k)) (.bool false) (.slice (some ⟨p11, 0, none⟩) 1 1) (.slice none 0 0)
              have RE := row6s B13.out (.int .i64 (v : Nat)) (.int .i64 ((cn + 1 : Nat) : Int)) (.string (nmK k)) (.bool false) (.slice (some ⟨p11, 0, none⟩) 1 1) (.slice none 0 0)
              have TE := Tw41113.out.trans' AE (by have := L13.out; intro y hy; simp at hy; subst hy; exact .inr this)
              have BE2 := (AE.block _ (lt_of_heap B11.out) (by have := D1113.out; simp; omega)).trans B11.out
              unfold put6 at AE RE TE BE2
              refine hKK.out _ _ TE (fun hHeld => ?_)
              clear hKK KK
              refine wpAnyH_done (by kernel_rfl) ?_ _
              clear f0 f1 f2 f3 f4 f5 k0 k1 k2 k3 k4 k5
              go_wp2_with fail
              go_meet
              exact ⟨p13, p11, rfl, TE, L13.out, L11.out, D1113.out, RE, BE2⟩
          · go_simp
            refine hKK.out _ _ (Tw4.out.alloc _) (fun hHeld => ?_)
            clear hKK KK
            obtain ⟨w413, hw413⟩ : ∃ w413, w413 = w4.alloc (.cells #[.int .i64 0, .int .i64 0, .string ⟨#[]⟩, .bool false, .slice none 0 0, .slice none 0 0] 28 (0, 0)) := ⟨_, rfl⟩
            have Sw413 : Hid (Apart [] w4 w413) := by unfold Hid; rw [hw413]; exact (Apart.refl [] w4).alloc _
            have Tw413 : Hid (Apart [] wr w413) := Tw4.out.trans Sw413.out
            have B13 : Hid (w413.heap[w4.heap.size]? = some (.cells #[.int .i64 0, .int .i64 0, .string ⟨#[]⟩, .bool false, .slice none 0 0, .slice none 0 0] 28 (0, 0))) := by unfold Hid; rw [hw413]; exact heap_alloc_new w4 _
            have L13 : Hid (wr.heap.size ≤ w4.heap.size) := Tw4.out.size
            rw [← hw413] at hHeld ⊢
            clear hw413
            obtain ⟨p13, e13⟩ : ∃ p, Hid (p = w4.heap.size) := ⟨_, rfl⟩
            rw [← e13.out] at B13 L13 ⊢
            have M13 : Hid (p13 < w413.heap.size) := lt_of_heap B13.out
            refine wpAnyH_ready (rs := [11]) (by kernel_rfl) (by simp) ?_
            refine AllReadyH.cons rfl (fun KK hKK => ?_) AllReadyH.nil
            · go_simp
              refine hKK.out _ _ (Tw413.out.alloc _) (fun hHeld => ?_)
              clear hKK KK
              obtain ⟨w41311, hw41311⟩ : ∃ w41311, w41311 = w413.alloc (.cells #[.int .u8 (i : Nat)] 5 (0, 0)) := ⟨_, rfl⟩
              have Sw41311 : Hid (Apart [] w413 w41311) := by unfold Hid; rw [hw41311]; exact (Apart.refl [] w413).alloc _
              have Tw41311 : Hid (Apart [] wr w41311) := Tw413.out.trans Sw41311.out
              have B11 : Hid (w41311.heap[w413.heap.size]? = some (.cells #[.int .u8 (i : Nat)] 5 (0, 0))) := by unfold Hid; rw [hw41311]; exact heap_alloc_new w413 _
              have L11 : Hid (wr.heap.size ≤ w413.heap.size) := Tw413.out.size
              rw [← hw41311] at hHeld ⊢
              clear hw41311
              obtain ⟨p11, e11⟩ : ∃ p, Hid (p = w413.heap.size) := ⟨_, rfl⟩
              rw [← e11.out] at B11 L11 ⊢
              have M11 : Hid (p11 < w41311.heap.size) := lt_of_heap B11.out
              have B13 := hid ((Sw41311.out.block _ (lt_of_heap B13.out) (by simp)).trans B13.out)
              have D1113 : Hid (p13 ≠ p11) := by unfold Hid; have := M13.out; have := e11.out; omega
              have M13 : Hid (p13 < w41311.heap.size) := lt_of_heap B13.out
              refine tk 12 52 (.agg #[.int .i64 (v : Nat), .int .i64 ((cn + 1 : Nat) : Int), .string (nmK k), .bool false, .slice (some ⟨p11, 0, none⟩) 1 1, .slice none 0 0]) rfl ?_ ?_
              · intro W hSW; go_simp
              simp only [Act.put, List.setIfInBounds_toArray, List.set_cons_zero, List.set_cons_succ]
              refine wpAnyH_ready (rs := [14]) (by kernel_rfl) (by simp) ?_
              refine AllReadyH.cons rfl (fun KK hKK => ?_) AllReadyH.nil
              obtain ⟨f0, f1, f2, f3, f4, f5⟩ := row6v B13.out
              have k0 := frozen_of_row _ _ 0 _ _ B13.out
              have k1 := frozen_of_row _ _ 1 _ _ B13.out
              have k2 := frozen_of_row _ _ 2 _ _ B13.out
              have k3 := frozen_of_row _ _ 3 _ _ B13.out
              have k4 := frozen_of_row _ _ 4 _ _ B13.out
              have k5 := frozen_of_row _ _ 5 _ _ B13.out
              go_simp
              have AE := ap6 w41311 p13 (.int .i64 (v : Nat)) (.int .i64 ((cn + 1 : Nat) : Int)) (.string (nmK k)) (.bool false) (.slice (some ⟨p11, 0, none⟩) 1 1) (.slice none 0 0)
              have RE := row6s B13.out (.int .i64 (v : Nat)) (.int .i64 ((cn + 1 : Nat) : Int)) (.string (nmK k)) (.bool false) (.slice (some ⟨p11, 0, none⟩) 1 1) (.slice none 0 0)
              have TE := Tw41311.out.trans' AE (by have := L13.out; intro y hy; simp at hy; subst hy; exact .inr this)
              have BE2 := (AE.block _ (lt_of_heap B11.out) (by have := D1113.out; simp; omega)).trans B11.out
              unfold put6 at AE RE TE BE2
              refine hKK.out _ _ TE (fun hHeld => ?_)
              clear hKK KK
              refine wpAnyH_done (by kernel_rfl) ?_ _
              clear f0 f1 f2 f3 f4 f5 k0 k1 k2 k3 k4 k5
              go_wp2_with fail
              go_meet
              exact ⟨p13, p11, rfl, TE, L13.out, L11.out, D1113.out, RE, BE2⟩
        · go_simp
          refine hKK.out _ _ (Twd.out.alloc _) (fun hHeld => ?_)
          clear hKK KK
          obtain ⟨w11, hw11⟩ : ∃ w11, w11 = wd.alloc (.cells #[.int .u8 (i : Nat)] 5 (0, 0)) := ⟨_, rfl⟩
          have Sw11 : Hid (Apart [] wd w11) := by unfold Hid; rw [hw11]; exact (Apart.refl [] wd).alloc _
          have Tw11 : Hid (Apart [] wr w11) := Twd.out.trans Sw11.out
          have B11 : Hid (w11.heap[wd.heap.size]? = some (.cells #[.int .u8 (i : Nat)] 5 (0, 0))) := by unfold Hid; rw [hw11]; exact heap_alloc_new wd _
          have L11 : Hid (wr.heap.size ≤ wd.heap.size) := Twd.out.size
          rw [← hw11] at hHeld ⊢
          clear hw11
          obtain ⟨p11, e11⟩ : ∃ p, Hid (p = wd.heap.size) := ⟨_, rfl⟩
          rw [← e11.out] at B11 L11 ⊢
          have M11 : Hid (p11 < w11.heap.size) := lt_of_heap B11.out
          refine wpAnyH_ready (rs := [4, 13]) (by kernel_rfl) (by simp) ?_
          refine AllReadyH.cons rfl (fun KK hKK => ?_) (AllReadyH.cons rfl (fun KK hKK => ?_) AllReadyH.nil)
          · go_simp
            refine (HNM.out w11).mono ?_
            rintro _ w114 ⟨rfl, aw114⟩
            try dsimp only
            have Sw114 : Hid (Apart [] w11 w114) := aw114
            clear aw114
            have Tw114 : Hid (Apart [] wr w114) := Tw11.out.trans Sw114.out
            refine hKK.out _ _ Tw114.out (fun hHeld => ?_)
            clear hKK KK
            have B11 := hid ((Sw114.out.block _ (lt_of_heap B11.out) (by simp)).trans B11.out)
            have M11 : Hid (p11 < w114.heap.size) := lt_of_heap B11.out
            refine tk 12 52 (.agg #[.int .i64 (v : Nat), .int .i64 ((cn + 1 : Nat) : Int), .string (nmK k), .bool false, .slice (some ⟨p11, 0, none⟩) 1 1, .slice none 0 0]) rfl ?_ ?_
            · intro W hSW; go_simp
            simp only [Act.put, List.setIfInBounds_toArray, List.set_cons_zero, List.set_cons_succ]
            refine wpAnyH_ready (rs := [13]) (by kernel_rfl) (by simp) ?_
            refine AllReadyH.cons rfl (fun KK hKK => ?_) AllReadyH.nil
            · go_simp
              refine hKK.out _ _ (Tw114.out.alloc _) (fun hHeld => ?_)
              clear hKK KK
              obtain ⟨w11413, hw11413⟩ : ∃ w11413, w11413 = w114.alloc (.cells #[.int .i64 0, .int .i64 0, .string ⟨#[]⟩, .bool false, .slice none 0 0, .slice none 0 0] 28 (0, 0)) := ⟨_, rfl⟩
              have Sw11413 : Hid (Apart [] w114 w11413) := by unfold Hid; rw [hw11413]; exact (Apart.refl [] w114).alloc _
              have Tw11413 : Hid (Apart [] wr w11413) := Tw114.out.trans Sw11413.out
              have B13 : Hid (w11413.heap[w114.heap.size]? = some (.cells #[.int .i64 0, .int .i64 0, .string ⟨#[]⟩, .bool false, .slice none 0 0, .slice none 0 0] 28 (0, 0))) := by unfold Hid; rw [hw11413]; exact heap_alloc_new w114 _
              have L13 : Hid (wr.heap.size ≤ w114.heap.size) := Tw114.out.size
              rw [← hw11413] at hHeld ⊢
              clear hw11413
              obtain ⟨p13, e13⟩ : ∃ p, Hid (p = w114.heap.size) := ⟨_, rfl⟩
              rw [← e13.out] at B13 L13 ⊢
              have M13 : Hid (p13 < w11413.heap.size) := lt_of_heap B13.out
              have B11 := hid ((Sw11413.out.block _ (lt_of_heap B11.out) (by simp)).trans B11.out)
              have D1113 : Hid (p13 ≠ p11) := by unfold Hid; have := M11.out; have := e13.out; omega
              have M11 : Hid (p11 < w11413.heap.size) := lt_of_heap B11.out
              refine wpAnyH_ready (rs := [14]) (by kernel_rfl) (by simp) ?_
              refine AllReadyH.cons rfl (fun KK hKK => ?_) AllReadyH.nil
              obtain ⟨f0, f1, f2, f3, f4, f5⟩ := row6v B13.out
              have k0 := frozen_of_row _ _ 0 _ _ B13.out
              have k1 := frozen_of_row _ _ 1 _ _ B13.out
              have k2 := frozen_of_row _ _ 2 _ _ B13.out
              have k3 := frozen_of_row _ _ 3 _ _ B13.out
              have k4 := frozen_of_row _ _ 4 _ _ B13.out
              have k5 := frozen_of_row _ _ 5 _ _ B13.out
              go_simp
              have AE := ap6 w11413 p13 (.int .i64 (v : Nat)) (.int .i64 ((cn + 1 : Nat) : Int)) (.string (nmK k)) (.bool false) (.slice (some ⟨p11, 0, none⟩) 1 1) (.slice none 0 0)
              have RE := row6s B13.out (.int .i64 (v : Nat)) (.int .i64 ((cn + 1 : Nat) : Int)) (.string (nmK k)) (.bool false) (.slice (some ⟨p11, 0, none⟩) 1 1) (.slice none 0 0)
              have TE := Tw11413.out.trans' AE (by have := L13.out; intro y hy; simp at hy; subst hy; exact .inr this)
              have BE2 := (AE.block _ (lt_of_heap B11.out) (by have := D1113.out; simp; omega)).trans B11.out
              unfold put6 at AE RE TE BE2
              refine hKK.out _ _ TE (fun hHeld => ?_)
              clear hKK KK
              refine wpAnyH_done (by kernel_rfl) ?_ _
              clear f0 f1 f2 f3 f4 f5 k0 k1 k2 k3 k4 k5
              go_wp2_with fail
              go_meet
              exact ⟨p13, p11, rfl, TE, L13.out, L11.out, D1113.out, RE, BE2⟩
          · go_simp
            refine hKK.out _ _ (Tw11.out.alloc _) (fun hHeld => ?_)
            clear hKK KK
            obtain ⟨w1113, hw1113⟩ : ∃ w1113, w1113 = w11.alloc (.cells #[.int .i64 0, .int .i64 0, .string ⟨#[]⟩, .bool false, .slice none 0 0, .slice none 0 0] 28 (0, 0)) := ⟨_, rfl⟩
            have Sw1113 : Hid (Apart [] w11 w1113) := by unfold Hid; rw [hw1113]; exact (Apart.refl [] w11).alloc _
            have Tw1113 : Hid (Apart [] wr w1113) := Tw11.out.trans Sw1113.out
            have B13 : Hid (w1113.heap[w11.heap.size]? = some (.cells #[.int .i64 0, .int .i64 0, .string ⟨#[]⟩, .bool false, .slice none 0 0, .slice none 0 0] 28 (0, 0))) := by unfold Hid; rw [hw1113]; exact heap_alloc_new w11 _
            have L13 : Hid (wr.heap.size ≤ w11.heap.size) := Tw11.out.size
            rw [← hw1113] at hHeld ⊢
            clear hw1113
            obtain ⟨p13, e13⟩ : ∃ p, Hid (p = w11.heap.size) := ⟨_, rfl⟩
            rw [← e13.out] at B13 L13 ⊢
            have M13 : Hid (p13 < w1113.heap.size) := lt_of_heap B13.out
            have B11 := hid ((Sw1113.out.block _ (lt_of_heap B11.out) (by simp)).trans B11.out)
            have D1113 : Hid (p13 ≠ p11) := by unfold Hid; have := M11.out; have := e13.out; omega
            have M11 : Hid (p11 < w1113.heap.size) := lt_of_heap B11.out
            refine wpAnyH_ready (rs := [4]) (by kernel_rfl) (by simp) ?_
            refine AllReadyH.cons rfl (fun KK hKK => ?_) AllReadyH.nil
            · go_simp
              refine (HNM.out w1113).mono ?_
              rintro _ w11134 ⟨rfl, aw11134⟩
              try dsimp only
              have Sw11134 : Hid (Apart [] w1113 w11134) := aw11134
              clear aw11134
              have Tw11134 : Hid (Apart [] wr w11134) := Tw1113.out.trans Sw11134.out
              refine hKK.out _ _ Tw11134.out (fun hHeld => ?_)
              clear hKK KK
              have B11 := hid ((Sw11134.out.block _ (lt_of_heap B11.out) (by simp)).trans B11.out)
              have M11 : Hid (p11 < w11134.heap.size) := lt_of_heap B11.out
              have B13 := hid ((Sw11134.out.block _ (lt_of_heap B13.out) (by simp)).trans B13.out)
              have M13 : Hid (p13 < w11134.heap.size) := lt_of_heap B13.out
              refine tk 12 52 (.agg #[.int .i64 (v : Nat), .int .i64 ((cn + 1 : Nat) : Int), .string (nmK k), .bool false, .slice (some ⟨p11, 0, none⟩) 1 1, .slice none 0 0]) rfl ?_ ?_
              · intro W hSW; go_simp
              simp only [Act.put, List.setIfInBounds_toArray, List.set_cons_zero, List.set_cons_succ]
              refine wpAnyH_ready (rs := [14]) (by kernel_rfl) (by simp) ?_
              refine AllReadyH.cons rfl (fun KK hKK => ?_) AllReadyH.nil
              obtain ⟨f0, f1, f2, f3, f4, f5⟩ := row6v B13.out
              have k0 := frozen_of_row _ _ 0 _ _ B13.out
              have k1 := frozen_of_row _ _ 1 _ _ B13.out
              have k2 := frozen_of_row _ _ 2 _ _ B13.out
              have k3 := frozen_of_row _ _ 3 _ _ B13.out
              have k4 := frozen_of_row _ _ 4 _ _ B13.out
              have k5 := frozen_of_row _ _ 5 _ _ B13.out
              go_simp
              have AE := ap6 w11134 p13 (.int .i64 (v : Nat)) (.int .i64 ((cn + 1 : Nat) : Int)) (.string (nmK k)) (.bool false) (.slice (some ⟨p11, 0, none⟩) 1 1) (.slice none 0 0)
              have RE := row6s B13.out (.int .i64 (v : Nat)) (.int .i64 ((cn + 1 : Nat) : Int)) (.string (nmK k)) (.bool false) (.slice (some ⟨p11, 0, none⟩) 1 1) (.slice none 0 0)
              have TE := Tw11134.out.trans' AE (by have := L13.out; intro y hy; simp at hy; subst hy; exact .inr this)
              have BE2 := (AE.block _ (lt_of_heap B11.out) (by have := D1113.out; simp; omega)).trans B11.out
              unfold put6 at AE RE TE BE2
              refine hKK.out _ _ TE (fun hHeld => ?_)
              clear hKK KK
              refine wpAnyH_done (by kernel_rfl) ?_ _
              clear f0 f1 f2 f3 f4 f5 k0 k1 k2 k3 k4 k5
              go_wp2_with fail
              go_meet
              exact ⟨p13, p11, rfl, TE, L13.out, L11.out, D1113.out, RE, BE2⟩
        · go_simp
          refine hKK.out _ _ (Twd.out.alloc _) (fun hHeld => ?_)
          clear hKK KK
          obtain ⟨w13, hw13⟩ : ∃ w13, w13 = wd.alloc (.cells #[.int .i64 0, .int .i64 0, .string ⟨#[]⟩, .bool false, .slice none 0 0, .slice none 0 0] 28 (0, 0)) := ⟨_, rfl⟩
          have Sw13 : Hid (Apart [] wd w13) := by unfold Hid; rw [hw13]; exact (Apart.refl [] wd).alloc _
          have Tw13 : Hid (Apart [] wr w13) := Twd.out.trans Sw13.out
          have B13 : Hid (w13.heap[wd.heap.size]? = some (.cells #[.int .i64 0, .int .i64 0, .string ⟨#[]⟩, .bool false, .slice none 0 0, .slice none 0 0] 28 (0, 0))) := by unfold Hid; rw [hw13]; exact heap_alloc_new wd _
          have L13 : Hid (wr.heap.size ≤ wd.heap.size) := Twd.out.size
          rw [← hw13] at hHeld ⊢
          clear hw13
          obtain ⟨p13, e13⟩ : ∃ p, Hid (p = wd.heap.size) := ⟨_, rfl⟩
          rw [← e13.out] at B13 L13 ⊢
          have M13 : Hid (p13 < w13.heap.size) := lt_of_heap B13.out
          refine wpAnyH_ready (rs := [4, 11]) (by kernel_rfl) (by simp) ?_
          refine AllReadyH.cons rfl (fun KK hKK => ?_) (AllReadyH.cons rfl (fun KK hKK => ?_) AllReadyH.nil)
          · go_simp
            refine (HNM.out w13).mono ?_
            rintro _ w134 ⟨rfl, aw134⟩
            try dsimp only
            have Sw134 : Hid (Apart [] w13 w134) := aw134
            clear aw134
            have Tw134 : Hid (Apart [] wr w134) := Tw13.out.trans Sw134.out
            refine hKK.out _ _ Tw134.out (fun hHeld => ?_)
            clear hKK KK
            have B13 := hid ((Sw134.out.block _ (lt_of_heap B13.out) (by simp)).trans B13.out)
            have M13 : Hid (p13 < w134.heap.size) := lt_of_heap B13.out
            refine wpAnyH_ready (rs := [11]) (by kernel_rfl) (by simp) ?_
            refine AllReadyH.cons rfl (fun KK hKK => ?_) AllReadyH.nil
            · go_simp
              refine hKK.out _ _ (Tw134.out.alloc _) (fun hHeld => ?_)
              clear hKK KK
              obtain ⟨w13411, hw13411⟩ : ∃ w13411, w13411 = w134.alloc (.cells #[.int .u8 (i : Nat)] 5 (0, 0)) := ⟨_, rfl⟩
              have Sw13411 : Hid (Apart [] w134 w13411) := by unfold Hid; rw [hw13411]; exact (Apart.refl [] w134).alloc _
              have Tw13411 : Hid (Apart [] wr w13411) := Tw134.out.trans Sw13411.out
              have B11 : Hid (w13411.heap[w134.heap.size]? = some (.cells #[.int .u8 (i : Nat)] 5 (0, 0))) := by unfold Hid; rw [hw13411]; exact heap_alloc_new w134 _
              have L11 : Hid (wr.heap.size ≤ w134.heap.size) := Tw134.out.size
              rw [← hw13411] at hHeld ⊢
              clear hw13411
              obtain ⟨p11, e11⟩ : ∃ p, Hid (p = w134.heap.size) := ⟨_, rfl⟩
              rw [← e11.out] at B11 L11 ⊢
              have M11 : Hid (p11 < w13411.heap.size) := lt_of_heap B11.out
              have B13 := hid ((Sw13411.out.block _ (lt_of_heap B13.out) (by simp)).trans B13.out)
              have D1113 : Hid (p13 ≠ p11) := by unfold Hid; have := M13.out; have := e11.out; omega
              have M13 : Hid (p13 < w13411.heap.size) := lt_of_heap B13.out
              refine tk 12 52 (.agg #[.int .i64 (v : Nat), .int .i64 ((cn + 1 : Nat) : Int), .string (nmK k), .bool false, .slice (some ⟨p11, 0, none⟩) 1 1, .slice none 0 0]) rfl ?_ ?_
              · intro W hSW; go_simp
              simp only [Act.put, List.setIfInBounds_toArray, List.set_cons_zero, List.set_cons_succ]
              refine wpAnyH_ready (rs := [14]) (by kernel_rfl) (by simp) ?_
              refine AllReadyH.cons rfl (fun KK hKK => ?_) AllReadyH.nil
              obtain ⟨f0, f1, f2, f3, f4, f5⟩ := row6v B13.out
              have k0 := frozen_of_row _ _ 0 _ _ B13.out
              have k1 := frozen_of_row _ _ 1 _ _ B13.out
              have k2 := frozen_of_row _ _ 2 _ _ B13.out
              have k3 := frozen_of_row _ _ 3 _ _ B13.out
              have k4 := frozen_of_row _ _ 4 _ _ B13.out
              have k5 := frozen_of_row _ _ 5 _ _ B13.out
              go_simp
              have AE := ap6 w13411 p13 (.int .i64 (v : Nat)) (.int .i64 ((cn + 1 : Nat) : Int)) (.string (nmK k)) (.bool false) (.slice (some ⟨p11, 0, none⟩) 1 1) (.slice none 0 0)
              have RE := row6s B13.out (.int .i64 (v : Nat)) (.int .i64 ((cn + 1 : Nat) : Int)) (.string (nmK k)) (.bool false) (.slice (some ⟨p11, 0, none⟩) 1 1) (.slice none 0 0)
              have TE := Tw13411.out.trans' AE (by have := L13.out; intro y hy; simp at hy; subst hy; exact .inr this)
              have BE2 := (AE.block _ (lt_of_heap B11.out) (by have := D1113.out; simp; omega)).trans B11.out
              unfold put6 at AE RE TE BE2
              refine hKK.out _ _ TE (fun hHeld => ?_)
              clear hKK KK
              refine wpAnyH_done (by kernel_rfl) ?_ _
              clear f0 f1 f2 f3 f4 f5 k0 k1 k2 k3 k4 k5
              go_wp2_with fail
              go_meet
              exact ⟨p13, p11, rfl, TE, L13.out, L11.out, D1113.out, RE, BE2⟩
          · go_simp
            refine hKK.out _ _ (Tw13.out.alloc _) (fun hHeld => ?_)
            clear hKK KK
            obtain ⟨w1311, hw1311⟩ : ∃ w1311, w1311 = w13.alloc (.cells #[.int .u8 (i : Nat)] 5 (0, 0)) := ⟨_, rfl⟩
            have Sw1311 : Hid (Apart [] w13 w1311) := by unfold Hid; rw [hw1311]; exact (Apart.refl [] w13).alloc _
            have Tw1311 : Hid (Apart [] wr w1311) := Tw13.out.trans Sw1311.out
            have B11 : Hid (w1311.heap[w13.heap.size]? = some (.cells #[.int .u8 (i : Nat)] 5 (0, 0))) := by unfold Hid; rw [hw1311]; exact heap_alloc_new w13 _
            have L11 : Hid (wr.heap.size ≤ w13.heap.size) := Tw13.out.size
            rw [← hw1311] at hHeld ⊢
            clear hw1311
            obtain ⟨p11, e11⟩ : ∃ p, Hid (p = w13.heap.size) := ⟨_, rfl⟩
            rw [← e11.out] at B11 L11 ⊢
            have M11 : Hid (p11 < w1311.heap.size) := lt_of_heap B11.out
            have B13 := hid ((Sw1311.out.block _ (lt_of_heap B13.out) (by simp)).trans B13.out)
            have D1113 : Hid (p13 ≠ p11) := by unfold Hid; have := M13.out; have := e11.out; omega
            have M13 : Hid (p13 < w1311.heap.size) := lt_of_heap B13.out
            refine wpAnyH_ready (rs := [4]) (by kernel_rfl) (by simp) ?_
            refine AllReadyH.cons rfl (fun KK hKK => ?_) AllReadyH.nil
            · go_simp
              refine (HNM.out w1311).mono ?_
              rintro _ w13114 ⟨rfl, aw13114⟩
              try dsimp only
              have Sw13114 : Hid (Apart [] w1311 w13114) := aw13114
              clear aw13114
              have Tw13114 : Hid (Apart [] wr w13114) := Tw1311.out.trans Sw13114.out
              refine hKK.out _ _ Tw13114.out (fun hHeld => ?_)
              clear hKK KK
              have B13 := hid ((Sw13114.out.block _ (lt_of_heap B13.out) (by simp)).trans B13.out)
              have M13 : Hid (p13 < w13114.heap.size) := lt_of_heap B13.out
              have B11 := hid ((Sw13114.out.block _ (lt_of_heap B11.out) (by simp)).trans B11.out)
              have M11 : Hid (p11 < w13114.heap.size) := lt_of_heap B11.out
              refine tk 12 52 (.agg #[.int .i64 (v : Nat), .int .i64 ((cn + 1 : Nat) : Int), .string (nmK k), .bool false, .slice (some ⟨p11, 0, none⟩) 1 1, .slice none 0 0]) rfl ?_ ?_
              · intro W hSW; go_simp
              simp only [Act.put, List.setIfInBounds_toArray, List.set_cons_zero, List.set_cons_succ]
              refine wpAnyH_ready (rs := [14]) (by kernel_rfl) (by simp) ?_
              refine AllReadyH.cons rfl (fun KK hKK => ?_) AllReadyH.nil
              obtain ⟨f0, f1, f2, f3, f4, f5⟩ := row6v B13.out
              have k0 := frozen_of_row _ _ 0 _ _ B13.out
              have k1 := frozen_of_row _ _ 1 _ _ B13.out
              have k2 := frozen_of_row _ _ 2 _ _ B13.out
              have k3 := frozen_of_row _ _ 3 _ _ B13.out
              have k4 := frozen_of_row _ _ 4 _ _ B13.out
              have k5 := frozen_of_row _ _ 5 _ _ B13.out
              go_simp
              have AE := ap6 w13114 p13 (.int .i64 (v : Nat)) (.int .i64 ((cn + 1 : Nat) : Int)) (.string (nmK k)) (.bool false) (.slice (some ⟨p11, 0, none⟩) 1 1) (.slice none 0 0)
              have RE := row6s B13.out (.int .i64 (v : Nat)) (.int .i64 ((cn + 1 : Nat) : Int)) (.string (nmK k)) (.bool false) (.slice (some ⟨p11, 0, none⟩) 1 1) (.slice none 0 0)
              have TE := Tw13114.out.trans' AE (by have := L13.out; intro y hy; simp at hy; subst hy; exact .inr this)
              have BE2 := (AE.block _ (lt_of_heap B11.out) (by have := D1113.out; simp; omega)).trans B11.out
              unfold put6 at AE RE TE BE2
              refine hKK.out _ _ TE (fun hHeld => ?_)
              clear hKK KK
              refine wpAnyH_done (by kernel_rfl) ?_ _
              clear f0 f1 f2 f3 f4 f5 k0 k1 k2 k3 k4 k5
              go_wp2_with fail
              go_meet
              exact ⟨p13, p11, rfl, TE, L13.out, L11.out, D1113.out, RE, BE2⟩
      obtain ⟨ab, bb, rfl, aX, hab, hbb, hne, hRow, hByte⟩ := hcut.ex
      have HAX := hid aX
      have HRow := hid hRow
      have HByte := hid hByte
      have Hab := hid hab
      have Hbb := hid hbb
      have Hne := hid hne
      clear hcut aX hRow hByte hab hbb hne
      have HWc := hid (HW.out.kept (HA.out.trans HAX.out))
      obtain ⟨q, Hq⟩ : ∃ q, Hid (q = wth e.q 4) := ⟨_, rfl⟩
      have hq4 : q < 4 := by rw [Hq.out]; exact wth_lt _ (by omega)
      have HLq : Hid (∀ W, Calls Tryd.prog 19 #[.int .i64 e.q, .int .i64 4] W fun r w' => r = .returned (.int .i64 (q : Nat)) ∧ w' = W) := fun W => by rw [Hq.out]; exact within4 e.q HOK.out.q W
      obtain ⟨ky, Hky⟩ : ∃ ky, Hid (ky = (st.cl q).key) := ⟨_, rfl⟩
      obtain ⟨ok, Hok⟩ : ∃ ok, Hid (ok = (st.cl q).ok) := ⟨_, rfl⟩
      obtain ⟨ct, Hct⟩ : ∃ ct, Hid (ct = g.ct q) := ⟨_, rfl⟩
      obtain ⟨cx, Hcx⟩ : ∃ cx, Hid (cx = g.cx q) := ⟨_, rfl⟩
      have HE3 : Hid (∀ W, Apart [] wc W → W.cell? ⟨BE, 3, none⟩ = some (.int .i64 e.q)) := fun W a => (HEC.out W (HA.out.trans (HAX.out.trans a))).2.2.2.1
      have HCL : Hid (∀ W, Apart [] wc W → W.cell? ⟨X, 14 + q * 4, none⟩ = some (.int .i64 (ky : Nat)) ∧ W.cell? ⟨X, 14 + q * 4 + 1, none⟩ = some (.bool ok) ∧ W.cell? ⟨X, 14 + q * 4 + 2, none⟩ = some (.slice ct.p ct.n ct.c) ∧ W.cell? ⟨X, 14 + q * 4 + 3, none⟩ = some (.slice cx.p cx.n cx.c)) := fun W a => by
        have hh := HWc.out.kept a
        obtain ⟨c0, c1, c2, c3⟩ := wc_cl g st.cl q hq4
        rw [hh.cell _ (by omega), hh.cell _ (by omega), hh.cell _ (by omega), hh.cell _ (by omega), c0, c1, c2, c3, Hky.out, Hok.out, Hct.out, Hcx.out]
        exact ⟨rfl, rfl, rfl, rfl⟩
      go_upto_region 11 with fail
      go_cut [11] from 53 to 60 (fun s wx => CB s wc wx ky ok ct cx)
      · refine wp_region_held_drew (S := fun X => Apart [] wc X) (by kernel_rfl) (Apart.refl [] wc).drew (fun hHeld => ?_)
        have Twg : Hid (Apart [] wc wc.drew) := (Apart.refl [] wc).drew
        generalize wc.drew = wg at *
        refine tk 0 53 (.pointer (some ⟨X, 0, none⟩)) rfl ?_ ?_
        · intro W hSW; go_simp
        simp only [Act.put, List.setIfInBounds_toArray, List.set_cons_zero, List.set_cons_succ]
        refine tk 1 54 (.pointer (some ⟨BE, 3, none⟩)) rfl ?_ ?_
        · intro W hSW; go_simp
        simp only [Act.put, List.setIfInBounds_toArray, List.set_cons_zero, List.set_cons_succ]
        refine tk 2 55 (.int .i64 e.q) rfl ?_ ?_
        · intro W hSW; have z := HE3.out W hSW; go_simp
        simp only [Act.put, List.setIfInBounds_toArray, List.set_cons_zero, List.set_cons_succ]
        refine tk 4 57 (.pointer (some ⟨X, 0, none⟩)) rfl ?_ ?_
        · intro W hSW; go_simp
        simp only [Act.put, List.setIfInBounds_toArray, List.set_cons_zero, List.set_cons_succ]
        refine tk 5 58 (.pointer (some ⟨X, 14, none⟩)) rfl ?_ ?_
        · intro W hSW; go_simp
        simp only [Act.put, List.setIfInBounds_toArray, List.set_cons_zero, List.set_cons_succ]
        refine wpAnyH_ready (rs := [3, 8]) (by kernel_rfl) (by simp) ?_
        refine AllReadyH.cons rfl (fun KK hKK => ?_) (AllReadyH.cons rfl (fun KK hKK => ?_) AllReadyH.nil)
        · go_simp
          refine (HLq.out wg).mono ?_
          rintro _ w' ⟨rfl, hw'⟩
          rw [hw']
          clear hw' w'
          try dsimp only
          refine hKK.out _ _ Twg.out (fun hHeld => ?_)
          clear hKK KK
          refine tk 6 59 (.pointer (some ⟨X, 14 + q * 4, none⟩)) rfl ?_ ?_
          · intro W hSW; go_simp <;> (first | omega | (intro hq; exfalso; omega))
          simp only [Act.put, List.setIfInBounds_toArray, List.set_cons_zero, List.set_cons_succ]
          refine tk 7 60 (.agg #[.int .i64 (ky : Nat), .bool ok, .slice ct.p ct.n ct.c, .slice cx.p cx.n cx.c]) rfl ?_ ?_
          · intro W hSW; obtain ⟨z0, z1, z2, z3⟩ := HCL.out W hSW; go_simp
          simp only [Act.put, List.setIfInBounds_toArray, List.set_cons_zero, List.set_cons_succ]
          refine wpAnyH_ready (rs := [8]) (by kernel_rfl) (by simp) ?_
          refine AllReadyH.cons rfl (fun KK hKK => ?_) AllReadyH.nil
          go_simp
          refine hKK.out _ _ (Twg.out.alloc _) (fun hHeld => ?_)
          clear hKK KK
          obtain ⟨w8, hw8⟩ : ∃ w8, w8 = wg.alloc (.cells #[.int .i64 0, .bool false, .slice none 0 0, .slice none 0 0] 45 (0, 0)) := ⟨_, rfl⟩
          have Tw8 : Hid (Apart [] wc w8) := by unfold Hid; rw [hw8]; exact Twg.out.alloc _
          have B8 : Hid (w8.heap[wg.heap.size]? = some (.cells #[.int .i64 0, .bool false, .slice none 0 0, .slice none 0 0] 45 (0, 0))) := by unfold Hid; rw [hw8]; exact heap_alloc_new wg _
          have L8 : Hid (wc.heap.size ≤ wg.heap.size) := Twg.out.size
          rw [← hw8] at hHeld ⊢
          clear hw8
          obtain ⟨p8, e8⟩ : ∃ p, Hid (p = wg.heap.size) := ⟨_, rfl⟩
          rw [← e8.out] at B8 L8 ⊢
          refine wpAnyH_ready (rs := [9]) (by kernel_rfl) (by simp) ?_
          refine AllReadyH.cons rfl (fun KK hKK => ?_) AllReadyH.nil
          obtain ⟨f0, f1, f2, f3⟩ := row4v B8.out
          have k0 := frozen_of_row _ _ 0 _ _ B8.out
          have k1 := frozen_of_row _ _ 1 _ _ B8.out
          have k2 := frozen_of_row _ _ 2 _ _ B8.out
          have k3 := frozen_of_row _ _ 3 _ _ B8.out
          go_simp
          have AE := ap4 w8 p8 (.int .i64 (ky : Nat)) (.bool ok) (.slice ct.p ct.n ct.c) (.slice cx.p cx.n cx.c)
          have RE := row4s B8.out (.int .i64 (ky : Nat)) (.bool ok) (.slice ct.p ct.n ct.c) (.slice cx.p cx.n cx.c)
          have TE := Tw8.out.trans' AE (by have := L8.out; intro y hy; simp at hy; subst hy; exact .inr this)
          unfold put4 at AE RE TE
          refine hKK.out _ _ TE (fun hHeld => ?_)
          clear hKK KK
          refine wpAnyH_done (by kernel_rfl) ?_ _
          clear f0 f1 f2 f3 k0 k1 k2 k3
          go_wp2_with fail
          go_meet
          exact ⟨p8, rfl, TE, L8.out, RE⟩
        · go_simp
          refine hKK.out _ _ (Twg.out.alloc _) (fun hHeld => ?_)
          clear hKK KK
          obtain ⟨w8, hw8⟩ : ∃ w8, w8 = wg.alloc (.cells #[.int .i64 0, .bool false, .slice none 0 0, .slice none 0 0] 45 (0, 0)) := ⟨_, rfl⟩
          have Tw8 : Hid (Apart [] wc w8) := by unfold Hid; rw [hw8]; exact Twg.out.alloc _
          have B8 : Hid (w8.heap[wg.heap.size]? = some (.cells #[.int .i64 0, .bool false, .slice none 0 0, .slice none 0 0] 45 (0, 0))) := by unfold Hid; rw [hw8]; exact heap_alloc_new wg _
          have L8 : Hid (wc.heap.size ≤ wg.heap.size) := Twg.out.size
          rw [← hw8] at hHeld ⊢
          clear hw8
          obtain ⟨p8, e8⟩ : ∃ p, Hid (p = wg.heap.size) := ⟨_, rfl⟩
          rw [← e8.out] at B8 L8 ⊢
          refine wpAnyH_ready (rs := [3]) (by kernel_rfl) (by simp) ?_
          refine AllReadyH.cons rfl (fun KK hKK => ?_) AllReadyH.nil
          go_simp
          refine (HLq.out w8).mono ?_
          rintro _ w' ⟨rfl, hw'⟩
          rw [hw']
          clear hw' w'
          try dsimp only
          refine hKK.out _ _ Tw8.out (fun hHeld => ?_)
          clear hKK KK
          refine tk 6 59 (.pointer (some ⟨X, 14 + q * 4, none⟩)) rfl ?_ ?_
          · intro W hSW; go_simp <;> (first | omega | (intro hq; exfalso; omega))
          simp only [Act.put, List.setIfInBounds_toArray, List.set_cons_zero, List.set_cons_succ]
          refine tk 7 60 (.agg #[.int .i64 (ky : Nat), .bool ok, .slice ct.p ct.n ct.c, .slice cx.p cx.n cx.c]) rfl ?_ ?_
          · intro W hSW; obtain ⟨z0, z1, z2, z3⟩ := HCL.out W hSW; go_simp
          simp only [Act.put, List.setIfInBounds_toArray, List.set_cons_zero, List.set_cons_succ]
          refine wpAnyH_ready (rs := [9]) (by kernel_rfl) (by simp) ?_
          refine AllReadyH.cons rfl (fun KK hKK => ?_) AllReadyH.nil
          obtain ⟨f0, f1, f2, f3⟩ := row4v B8.out
          have k0 := frozen_of_row _ _ 0 _ _ B8.out
          have k1 := frozen_of_row _ _ 1 _ _ B8.out
          have k2 := frozen_of_row _ _ 2 _ _ B8.out
          have k3 := frozen_of_row _ _ 3 _ _ B8.out
          go_simp
          have AE := ap4 w8 p8 (.int .i64 (ky : Nat)) (.bool ok) (.slice ct.p ct.n ct.c) (.slice cx.p cx.n cx.c)
          have RE := row4s B8.out (.int .i64 (ky : Nat)) (.bool ok) (.slice ct.p ct.n ct.c) (.slice cx.p cx.n cx.c)
          have TE := Tw8.out.trans' AE (by have := L8.out; intro y hy; simp at hy; subst hy; exact .inr this)
          unfold put4 at AE RE TE
          refine hKK.out _ _ TE (fun hHeld => ?_)
          clear hKK KK
          refine wpAnyH_done (by kernel_rfl) ?_ _
          clear f0 f1 f2 f3 k0 k1 k2 k3
          go_wp2_with fail
          go_meet
          exact ⟨p8, rfl, TE, L8.out, RE⟩
      obtain ⟨cb, rfl, aC, hcb, hC⟩ := hcut.ex
      have HAC := hid aC
      have Hcb := hid hcb
      have HC := hid hC
      clear hcut aC hcb hC
      have Hcab : Hid (ab ≠ cb) := by
        unfold Hid
        have h1 := lt_of_heap HRow.out
        have h2 := Hcb.out
        omega
      have HRK : Hid (wc.heap[ab]? = some (wbox (v : Nat) ((cn + 1 : Nat) : Int) (nmK k) bb (.slice none 0 0))) := (HAC.out.block _ (lt_of_heap HRow.out) (by simp)).trans HRow.out
      have HBK := hid ((HAC.out.block _ (lt_of_heap HByte.out) (by simp)).trans HByte.out)
      have HAK : Hid (Apart [] wr wc) := HAX.out.trans HAC.out
      have HWr : Hid (WM wB wr X g st) := HW.out.kept HA.out
      have HCk : Hid (wc.heap[cb]? = some (.cells #[.int .i64 (ky : Nat), .bool ok, (g.ct q).v, (g.cx q).v] 45 (0, 0))) := by
        unfold Hid; rw [← Hct.out, ← Hcx.out]; exact HC.out
      generalize wc = wk at *
      obtain ⟨c0, c1, c2, c3⟩ := row4v HC.out
      obtain ⟨-, -, -, -, b4⟩ := HEC.out _ (HA.out.trans (HAX.out.trans HAC.out))
      go_upto_region 12 with fail
      obtain ⟨f1, Hf1⟩ : ∃ f1, Hid (f1 = bits BinOp.and IntKind.i64 e.f 1) := ⟨_, rfl⟩
      have hf1 := Hf1.out
      obtain ⟨tb, Htb⟩ : ∃ tb, Hid (tb = (decide (f1 = 1) && ok && decide (ky = k))) := ⟨_, rfl⟩
      go_cut [74] from 61 to 74 (fun s wx => s = .bool tb ∧ wx = wk)
      · by_cases hfl : f1 = 1
        · cases ok
          case false =>
            have ht : tb = false := by rw [Htb.out]; simp
            go_wp2_with fail
            go_meet
            exact ⟨by rw [ht], rfl⟩
          case true =>
            by_cases hkk : ky = k
            · have ht : tb = true := by rw [Htb.out]; simp [hfl, hkk]
              have hkk2 : ((ky : Nat) : Int) = (k : Nat) := by rw [hkk]
              go_wp2_with fail
              go_meet
              exact ⟨by rw [ht], rfl⟩
            · have ht : tb = false := by rw [Htb.out]; simp [hkk]
              have hkk2 : ¬ ((ky : Nat) : Int) = (k : Nat) := by omega
              go_wp2_with fail
              go_meet
              exact ⟨by rw [ht]; exact congrArg Value.bool (beq_eq_false_iff_ne.2 hkk2), rfl⟩
        · have ht : tb = false := by rw [Htb.out]; simp [hfl]
          go_wp2_with fail
          go_meet
          exact ⟨by rw [ht], rfl⟩
      obtain ⟨rfl, hww⟩ := hcut
      rw [hww]
      clear hww c0 c1 c2 c3 b4 hf1
      go_upto_if 74 with fail
      obtain ⟨xs, Hxs⟩ : ∃ xs, Hid (xs = if tb then (st.cl q).tok else []) := ⟨_, rfl⟩
      obtain ⟨ds, Hds⟩ : ∃ ds, Hid (ds = if tb then (st.cl q).told else []) := ⟨_, rfl⟩
      go_cut [10] from 75 to 82 (fun s wx => IfP s wB wr wx X g st (v : Nat) ((cn + 1 : Nat) : Int) (nmK k) ab bb i xs ds)
      · cases tb
        case false =>
          have e1 : xs = [] := Hxs.out
          have e2 : ds = [] := Hds.out
          go_wp2_with fail
          go_meet
          exact ⟨⟨none, 0, 0⟩, ⟨none, 0, 0⟩, rfl, HAK.out, HRK.out, HBK.out, by rw [e1]; exact TS.nil _ _ (HWr.out.ap.trans HAK.out), by rw [e2]; exact ND.nil _ _ (HWr.out.ap.trans HAK.out)⟩
        case true =>
          have e1 : xs = (st.cl q).tok := Hxs.out
          have e2 : ds = (st.cl q).told := Hds.out
          obtain ⟨s1, w2, s2, w4, r1, z5, fz, z2, r2, hP⟩ := if_mem HWr.out HAK.out hq4 (HTl.out q hq4) Hab.out Hbb.out Hne.out Hcab.out HRK.out HBK.out HCk.out 26 43
          rw [← Hct.out] at z2 r2
          rw [← Hcx.out] at r1
          rw [← e1, ← e2] at hP
          have HP := hid hP
          obtain ⟨c0, c1, c2, c3⟩ := row4v HC.out
          clear hP e1 e2
          unfold Sl.v at r1 r2 z2
          go_upto_region 14 with (at_builtin; refine wpList_append3 rfl (.const (.slice none 0 0)) (.tmp 76) 26 rfl _ _ rfl rfl _ _ r1 ?_)
          go_wp2_with (at_builtin; refine wpList_append3 rfl (.tmp 79) (.tmp 81) 43 rfl _ _ rfl rfl _ _ r2 ?_)
          go_meet
          exact HP.out
      obtain ⟨tl, sx, rfl, aI, hRI, hBI, hTS, hND⟩ := hcut.ex
      have HAI := hid aI
      have HRI := hid hRI
      have HND := hid hND
      have HF := hid (fresh_if (n := (v : Nat)) (c := ((cn + 1 : Nat) : Int)) (k := nmK k) HWr.out.ap aI Hbb.out (by omega) hBI hTS)
      clear hcut aI hRI hBI hTS hND
      generalize wc = wi at *
      obtain ⟨m0, m1, m2, m3, m4, m5⟩ := row6v HRI.out
      have HWi := hid (HWr.out.kept HAI.out)
      have z12 := HMD.out wi (HA.out.trans HAI.out)
      obtain ⟨x, Hx⟩ : ∃ x : E, Hid (x = ⟨(v : Nat), ((cn + 1 : Nat) : Int), nmK k, false, ⟨some ⟨bb, 0, none⟩, 1, 1⟩, sx⟩) := ⟨_, rfl⟩
      obtain ⟨r, Hr⟩ : ∃ r : Wr, Hid (r = ⟨(v : Nat), ((cn + 1 : Nat) : Int), nmK k, false, [i], xs⟩) := ⟨_, rfl⟩
      rw [← Hx.out, ← Hr.out] at HF
      have HRx : Hid (wi.heap[ab]? = some (boxE x)) := by unfold Hid; rw [Hx.out]; exact HRI.out
      clear m0 m1 m2 m3 m4 m5 z12
      go_upto_region 15 with fail
      go_cut [] from 83 to 92 (fun wx => MP wB wx X g st x r ab tl ds)
      · have aD : Apart [] wi wi.drew := (Apart.refl [] wi).drew
        have hWd := HWi.out.kept aD
        have hgm : g.m.n ≤ 2000000 := by rw [← Hmm.out]; show i ≤ 2000000; omega
        obtain ⟨m', w6, hrun, x6, f6, hWM, ap6⟩ := WM.pushMade hWd hgm (HF.out.kept0 aD) 39
        have hMP : MP wB (w6.setCell ⟨X, 12, none⟩ m'.v) X g st x r ab tl ds := push_MP hWd hWM ap6 ((aD.block _ (lt_of_heap HRx.out) (by simp)).trans HRx.out) (HND.out.kept aD) HWr.out Hab.out
        have HP := hid hMP
        rw [← Hmm.out] at hrun x6
        have RD := (aD.block _ (lt_of_heap HRx.out) (by simp)).trans HRx.out
        obtain ⟨m0, m1, m2, m3, m4, m5⟩ := row6 RD
        have z12 := HMD.out wi.drew (HA.out.trans (HAI.out.trans aD))
        have z12b := HMD.out (wi.alloc (boxE x)).drew (HA.out.trans (HAI.out.trans ((Apart.refl [] wi).alloc _).drew))
        have hbu := fun W => buildE W x
        unfold E.agg at hbu
        unfold boxE Sl.v at hrun z12b hbu
        unfold Sl.v at x6 m4 m5
        clear aD hWd hgm hWM ap6 RD hMP
        simp only at hrun x6
        go_region_law (first | (refine step_app2 rfl (.tmp 87) (.tmp 89) 39 39 rfl _ _ rfl rfl _ _ hrun ?_))
        all_goals
          go_wp2
          go_meet
          exact HP.out
      obtain ⟨m', hWM, hRa, hND2⟩ := hcut.ex
      clear hcut
      generalize wc = wj at *
      have HWM := hid hWM
      have HRa := hid hRa
      have HND2 := hid hND2
      obtain ⟨⟨tp, TN, tc⟩, Htt⟩ : ∃ tt, Hid (tt = g.t) := ⟨_, rfl⟩
      have HTN : Hid (TN ≤ 59) := by
        have h1 := HWM.out.tn
        have h2 : st.told.length = st.made.length := HI.out.len
        have h3 := HMN.out
        rw [show ({ g with m := m', me := g.me ++ [x] } : Gh).t = g.t from rfl, ← Htt.out] at h1
        have h4 : TN = st.told.length := h1
        unfold Hid
        omega
      have HTD : Hid (∀ W, Apart [] wj W → W.cell? ⟨X, 13, none⟩ = some (.slice tp TN tc)) := fun W a => by
        rw [(HWM.out.kept a).cell 13 (by omega), wc_told]
        show some (Sl.v g.t) = _
        rw [← Htt.out]; rfl
      clear hWM hRa hND2
      go_upto_region 16 with fail
      go_cut [] from 93 to 102 (fun wx => TP wB wx X g st x r ab ds m')
      · have aD : Apart [] wj wj := Apart.refl [] wj
        have hWd := HWM.out.kept aD
        have hgt : ({ g with m := m', me := g.me ++ [x] } : Gh).t.n ≤ 2000000 := by
          show g.t.n ≤ 2000000
          rw [← Htt.out]; have := HTN.out; show TN ≤ 2000000; omega
        obtain ⟨t', w6, hrun, x6, f6, hW2, ap6⟩ := WM.pushTold hWd hgt (HND2.out.kept aD) 42
        have hTP : TP wB (w6.setCell ⟨X, 13, none⟩ t'.v) X g st x r ab ds m' := push_TP hWd hW2 ap6 ((aD.block _ (lt_of_heap HRa.out) (by simp)).trans HRa.out)
        have HP := hid hTP
        rw [show ({ g with m := m', me := g.me ++ [x] } : Gh).t = g.t from rfl, ← Htt.out] at hrun x6
        have z13 := HTD.out wj aD
        have z13b := HTD.out (wj.alloc (.cells #[tl.v] 43)) ((Apart.refl [] wj).alloc _)
        have hbu := fun W => buildT W tl
        unfold Sl.v at hrun x6 z13b hbu
        clear aD hWd hgt hW2 ap6 hTP
        simp only at hrun x6
        go_wp2_with (at_builtin; refine wpList_append3 rfl (.tmp 97) (.tmp 99) 42 rfl _ _ rfl rfl _ _ hrun ?_)
        go_meet
        exact HP.out
      obtain ⟨t', te, hW2, hRb⟩ := hcut.ex
      clear hcut
      generalize wc = wl at *
      have HTK2 : Hid (OkL 64 xs ∧ TokS st.made k ds xs) := by
        unfold Hid
        rw [Hxs.out, Hds.out]
        cases htb : tb
        · exact ⟨OkL.nil 64, toks_nil _ _⟩
        · have h0 := Htb.out
          rw [htb] at h0
          have h1 : (f1 = 1 ∧ ok = true) ∧ ky = k := by simpa using h0.symm
          have h2 : (st.cl q).ok = true := by rw [← Hok.out]; exact h1.1.2
          obtain ⟨_, h4, h5⟩ := HI.out.cli q hq4 h2
          refine ⟨h4, ?_⟩
          rw [← Hky.out, h1.2] at h5
          exact h5
      have HIP : Hid (Inv (putW st r ds)) := HI.out.put r ds hk (by rw [Hr.out]) ⟨by rw [Hr.out]; exact HTK2.out.1, by rw [Hr.out]; unfold IsDot; simp only; omega⟩ (by rw [Hr.out]; simp only; omega) (by rw [Hr.out]; simp only; rw [Hcn.out]; omega) (by rw [Hr.out]; exact HTK2.out.2)
      have HML : Hid ((putW st r ds).made.length ≤ 60) := by
        unfold Hid putW
        have := HMN.out
        simp only [List.length_append, List.length_singleton]
        omega
      have HMem : Hid (r ∈ (putW st r ds).made) := by unfold Hid putW; simp
      have HRk : Hid (r.k = nmK k) := by unfold Hid; rw [Hr.out]
      have HLST : Hid (x = gE ({ g with m := m', me := g.me ++ [x], t := t', te := te } : Gh).me st.made.length ∧ r = gR (putW st r ds).made st.made.length) := ⟨by
          have hl : g.me.length = st.made.length := by rw [HWr.out.md.own.len, HWr.out.md.len]
          show x = gE (g.me ++ [x]) st.made.length
          rw [← hl]; simp [gE], by
          show r = gR (st.made ++ [r]) st.made.length
          simp [gR]⟩
      have HRd : Hid (Reads wl x r) := by
        unfold Hid
        have h0 := hW2.md.reads st.made.length (by rw [← hW2.md.len]; show st.made.length < (st.made ++ [r]).length; simp)
        rw [← HLST.out.1, ← HLST.out.2] at h0
        exact h0
      have HTL := hid (take_law hW2 HIP.out (HTB.out.kept0 hW2.ap) HML.out hv hk x r HRd.out HMem.out HRk.out)
      obtain ⟨m0, m1, m2, m3, m4, m5⟩ := row6 hRb
      have hTL := HTL.out
      unfold E.agg at hTL
      unfold Sl.v at m4 m5 hTL
      clear hW2 hRb
      go_wp2_with fail
      refine hTL.mono ?_
      rintro _ w9 h9
      have H9 := hid h9
      obtain ⟨g9, rfl, hg9⟩ := h9.ex
      try dsimp only
      go_wp2_with fail
      go_ret
      exact ⟨r, ds, v, k, hv, hk, HIP.out, HMem.out, HRk.out, ⟨by rw [Hr.out], by rw [Hr.out]; rfl, by rw [Hds.out]; cases tb; exact Nat.zero_le _; exact HTl.out q hq4⟩, ⟨g9, rfl, hg9⟩⟩
end Go.Proofs.YtokaeiahhmaokaaDoor.ds
