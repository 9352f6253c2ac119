import Derived.Test.YtokaeiahhmaokaaDoorW26
import Derived.Test.YtokaeiahhmaokaaDoorW27
import Derived.Test.YtokaeiahhmaokaaDoorW21
import Derived.Test.YtokaeiahhmaokaaDoorW5
namespace Go.Proofs.YtokaeiahhmaokaaDoor.ds
open Go.ChangeShapes Go.WideShapes Go.ChangeAt Go.RowKit Go.Sort
set_option linter.unusedVariables false
set_option linter.unusedSimpArgs false
/-- what get gathers: the lists of the nodes that are asked, and their bases -/
structure AK (w wr : World) (g : Gh) (st : Wd) (k : Nat) (u b : Sl) (us vs : List Nat) (B : Nat → Sl × List S) : Prop where
  nu : Nw w wr 39 1 u (us.map fun v => (g.s v k).v)
  un : u.n = us.length
  nb : Nb w wr b B vs.length
  bb : ∀ i, i < vs.length → (B i).2 = bas (st.ck (vs.getD i 0))
theorem AK.nil (w wr : World) (a : Apart [] w wr) (g : Gh) (st : Wd) (k : Nat) (B : Nat → Sl × List S) : AK w wr g st k ⟨none, 0, 0⟩ ⟨none, 0, 0⟩ [] [] B :=
  ⟨⟨World.ownsRow_nil _ _ _ _, by simp [Sl.v, Value.ownBlock], a⟩, rfl, Nb.nil w wr a B, fun i hi => absurd hi (by simp)⟩
theorem AK.kept {w wr wx : World} {g : Gh} {st : Wd} {k : Nat} {u b : Sl} {us vs : List Nat} {B : Nat → Sl × List S} (h : AK w wr g st k u b us vs B) (a : Apart [] wr wx) : AK w wx g st k u b us vs B :=
  ⟨h.nu.kept a, h.un, h.nb.kept0 a, h.bb⟩
theorem AK.pushS {w wr : World} {g : Gh} {st : Wd} {k : Nat} {u b : Sl} {us vs : List Nat} {B : Nat → Sl × List S} (h : AK w wr g st k u b us vs B) (hm : us.length ≤ 2000000) (v : Nat) (ty : TypeId) :
    ∃ u' w6, (Builtin.append_ #[22, 22] ty #[u.v, .slice (some ⟨wr.heap.size, 0, none⟩) 1 1]).run Tryd.prog (wr.alloc (.cells #[(g.s v k).v] 39)) = .ok (Sl.v u') w6 ∧ AK w w6 g st k u' b (us ++ [v]) vs B := by
  obtain ⟨i0, hif, hz0, hz1, hz2⟩ := info_parts infoL
  have hun := h.un
  obtain ⟨u', w6, hrun, hnw, hsn, ap, -⟩ := run_appM (s := u) 22 ty 39 i0 _ 1 24 Tryd.underlying22 hif hz0 hz1 hz2 rfl (by decide) h.nu 1 [(g.s v k).v] (by decide) rfl (fun u hu => by simp at hu; rw [hu]; rfl) (by unfold maxLen; omega) (by omega)
  have kN : ∀ {e size : Nat} {s : Sl} {us : List Value}, e ≠ 39 → Nw w wr e size s us → Nw w w6 e size s us := fun he o => o.keepT ap hnw.ap (fun k hk cur hcur => by
    obtain ⟨c1, e1⟩ := own_typ h.nu.own (k := k) (by simpa using hk)
    rw [e1] at hcur
    simp at hcur
    exact he hcur.2.symm)
  refine ⟨u', w6, hrun, ⟨by rw [List.map_append]; exact hnw, by rw [List.length_append, hsn, hun]; rfl, ⟨kN (by decide) h.nb.nw, h.nb.un, fun i hi => kN (by decide) (h.nb.own i hi), h.nb.ln, h.nb.ok⟩, h.bb⟩⟩
theorem AK.pushB {w wr : World} {g : Gh} {st : Wd} {k : Nat} {u b : Sl} {us vs : List Nat} {B : Nat → Sl × List S} (h : AK w wr g st k u b us vs B) (hm : vs.length ≤ 2000000) (v : Nat) {s : Sl} (ho : Nw w wr 80 3 s (flat (bas (st.ck v)))) (hl : (bas (st.ck v)).length = s.n ∧ s.n ≤ 1048576) (hk : OkL 64 (bas (st.ck v))) (ty : TypeId) :
    ∃ b' w6 B', (Builtin.append_ #[29, 29] ty #[b.v, .slice (some ⟨wr.heap.size, 0, none⟩) 1 1]).run Tryd.prog (wr.alloc (.cells #[s.v] 26)) = .ok (Sl.v b') w6 ∧ AK w w6 g st k u b' us (vs ++ [v]) B' := by
  obtain ⟨i0, hif, hz0, hz1, hz2⟩ := info_parts infoSS
  have hun := h.nb.un
  obtain ⟨b', w6, hrun, hnw, hsn, ap, -⟩ := run_appM (s := b) 29 ty 26 i0 _ 1 24 Tryd.underlying29 hif hz0 hz1 hz2 rfl (by decide) h.nb.nw 1 [s.v] (by decide) rfl (fun u hu => by simp at hu; rw [hu]; rfl) (by unfold maxLen; omega) (by omega)
  have kN : ∀ {e size : Nat} {s : Sl} {us : List Value}, e ≠ 26 → Nw w wr e size s us → Nw w w6 e size s us := fun he o => o.keepT ap hnw.ap (fun k hk cur hcur => by
    obtain ⟨c1, e1⟩ := own_typ h.nb.nw.own (k := k) (by simpa using hk)
    rw [e1] at hcur
    simp at hcur
    exact he hcur.2.symm)
  have e1 : (List.range vs.length).map (fun i => (updB B vs.length (s, bas (st.ck v)) i).1.v) = (List.range vs.length).map fun i => (B i).1.v := List.map_congr_left (fun i hi => by rw [updB_lt B _ (List.mem_range.1 hi)])
  refine ⟨b', w6, updB B vs.length (s, bas (st.ck v)), hrun, ⟨kN (by decide) h.nu, h.un, ⟨?_, ?_, fun i hi => ?_, fun i hi => ?_, fun i hi => ?_⟩, fun i hi => ?_⟩⟩
  · rw [List.length_append, List.length_singleton, List.range_succ, List.map_append, e1]; simp only [List.map_cons, List.map_nil, updB_eq]; exact hnw
  · rw [List.length_append, hsn, hun]; rfl
  · rw [List.length_append, List.length_singleton] at hi
    by_cases him : i = vs.length
    · subst him; rw [updB_eq]; exact kN (by decide) ho
    · rw [updB_lt B _ (by omega)]; exact kN (by decide) (h.nb.own i (by omega))
  · rw [List.length_append, List.length_singleton] at hi
    by_cases him : i = vs.length
    · subst him; rw [updB_eq]; exact hl
    · rw [updB_lt B _ (by omega)]; exact h.nb.ln i (by omega)
  · rw [List.length_append, List.length_singleton] at hi
    by_cases him : i = vs.length
    · subst him; rw [updB_eq]; exact hk
    · rw [updB_lt B _ (by omega)]; exact h.nb.ok i (by omega)
  · rw [List.length_append, List.length_singleton] at hi
    by_cases him : i = vs.length
    · subst him; rw [updB_eq, show (vs ++ [v]).getD vs.length 0 = v from by simp [List.getD_eq_getElem?_getD]]
    · rw [updB_lt B _ (by omega), show (vs ++ [v]).getD i 0 = vs.getD i 0 from by rw [List.getD_eq_getElem?_getD, List.getD_eq_getElem?_getD, List.getElem?_append_left (by omega)]]; exact h.bb i (by omega)
def tF (g : Gh) (st : Wd) (k : Nat) (us : List Nat) (i : Nat) : Sl × List E × List Wr := (g.s (us.getD i 0) k, g.se (us.getD i 0) k, st.sb (us.getD i 0) k)
theorem tF_cat (g : Gh) (st : Wd) (k : Nat) (us : List Nat) : ∀ i, i ≤ us.length → catR (tF g st k us) i = setsOf st k (us.take i)
  | 0, _ => rfl
  | i + 1, h => by
    show catR (tF g st k us) i ++ _ = _
    rw [tF_cat g st k us i (by omega), List.take_add_one, List.getElem?_eq_getElem (by omega)]
    unfold setsOf tF
    rw [List.flatMap_append, List.getD_eq_getElem?_getD, List.getElem?_eq_getElem (by omega)]
    simp
theorem tF_tot (g : Gh) (st : Wd) (k : Nat) (us : List Nat) (M : Nat) (hM : ∀ v ∈ us, (g.s v k).n ≤ M) : ∀ i, i ≤ us.length → totL (tF g st k us) i ≤ i * M
  | 0, _ => by simp [totL]
  | i + 1, h => by
    show totL (tF g st k us) i + (g.s (us.getD i 0) k).n ≤ _
    have h1 := tF_tot g st k us M hM i (by omega)
    have h2 := hM (us.getD i 0) (by rw [List.getD_eq_getElem?_getD, List.getElem?_eq_getElem (by omega)]; exact List.getElem_mem _)
    rw [Nat.succ_mul]
    omega
theorem getD_memN {us : List Nat} {i : Nat} (h : i < us.length) : us.getD i 0 ∈ us := by
  rw [List.getD_eq_getElem?_getD, List.getElem?_eq_getElem h]; exact List.getElem_mem _
/-- what is asked for can be read -/
theorem AK.asked {wB w wr : World} {X : Nat} {g : Gh} {st : Wd} {k : Nat} {u b : Sl} {us : List Nat} {B : Nat → Sl × List S} (h : AK w wr g st k u b us us B) (hw : WM wB wr X g st) (hI : Inv st) (hm : st.made.length ≤ 60) (hk : k < 2) (hus : ∀ v ∈ us, v < 4) (hl : us.length ≤ 4) :
    Sets wr u.p us.length (tF g st k us) ∧ (∀ i, i < us.length → In wr (tF g st k us i).1 (tF g st k us i).2.1 (tF g st k us i).2.2) ∧ totL (tF g st k us) us.length ≤ 1048576 ∧ catR (tF g st k us) us.length = setsOf st k us ∧ LX wr b.p us.length ((List.range us.length).map fun i => (B i).1) (basesOf st us) := by
  have hn : ∀ v ∈ us, (g.s v k).n ≤ 60 := fun v hv => by
    rw [← (hw.sb v (hus v hv) k hk).len]
    exact Nat.le_trans (sib_len hI (hus v hv) hk) hm
  have hin : ∀ i, i < us.length → In wr (tF g st k us i).1 (tF g st k us i).2.1 (tF g st k us i).2.2 := fun i hi => by
    have hv := getD_memN hi
    have hf := hw.sb _ (hus _ hv) k hk
    have h60 := hn _ hv
    exact ⟨hf.le (by omega), by show (g.s _ k).n ≤ 1048576; omega, hf.len, hf.reads, hf.own.nw.ok⟩
  refine ⟨fun h0 => ?_, hin, ?_, ?_, ?_⟩
  · obtain ⟨P, o, e, hP, hc⟩ := h.nu.rd (by rw [List.length_map]; exact h0)
    refine ⟨P, o, e, hP, fun i hi => ⟨hc i _ ?_, hin i hi⟩⟩
    rw [List.getElem?_map, List.getElem?_eq_getElem hi]
    unfold tF
    rw [List.getD_eq_getElem?_getD, List.getElem?_eq_getElem hi]
    rfl
  · have := tF_tot g st k us 60 hn us.length (by omega)
    omega
  · rw [tF_cat g st k us us.length (by omega), List.take_length]
  · have := h.nb.lx
    have e : bsX B us.length = basesOf st us := by
      unfold bsX basesOf
      refine List.ext_getElem (by simp) (fun i h1 h2 => ?_)
      have hi : i < us.length := by simpa using h1
      rw [List.getElem_map, List.getElem_map, List.getElem_range, h.bb i hi, List.getD_eq_getElem?_getD, List.getElem?_eq_getElem hi]
      rfl
    rw [e] at this
    exact this
theorem gathw_len {st : Wd} (h : Inv st) {k : Nat} (hk : k < 2) {vs : List Nat} (hvs : ∀ v ∈ vs, v < 4) : (gathW (setsOf st k vs)).length ≤ st.made.length := by
  have hin := h.setsIn hk hvs
  have hd : ∀ x ∈ setsOf st k vs, ∀ y ∈ setsOf st k vs, dtW x = dtW y → x = y := fun x hx y hy e => h.ddk k x (hin x hx) y (hin y hy) e
  obtain ⟨gup, gmem⟩ := gathW_mem (fun x hx => (keq_iff _ _).2 (mem_mkK.1 (hin x hx)).2) hd
  have hnd : (gathW (setsOf st k vs)).Nodup := gup.imp (fun {a b} hab e => by rw [e, belowW_ir] at hab; cases hab)
  exact hnd.length_le_of_subset (fun x hx => (mem_mkK.1 (hin x ((gmem x).1 hx).1)).1)
/-- one dot more -/
theorem ND.push {w wr : World} {tl : Sl} {ds : List (Int × Int)} (h : ND w wr tl ds) (hn : tl.n ≤ 2000000) (d : Int × Int) (ty : TypeId) :
    ∃ t' w6, (Builtin.append_ #[43, 43] ty #[tl.v, .slice (some ⟨wr.heap.size, 0, none⟩) 1 1]).run Tryd.prog (wr.alloc (.cells #[.int .i64 d.1, .int .i64 d.2] 24)) = .ok (Sl.v t') w6 ∧ ND w w6 t' (ds ++ [d]) ∧ Apart tl.v.ownBlock.toList wr w6 := by
  obtain ⟨i0, hif, hz0, hz1, hz2⟩ := info_parts info24
  obtain ⟨t', w6, hrun, hnw, hsn, ap, -⟩ := run_appM (s := tl) 43 ty 24 i0 _ 2 16 und43 hif hz0 hz1 hz2 rfl (by decide) h.nw 1 [.int .i64 d.1, .int .i64 d.2] (by decide) rfl (fun u hu => by simp at hu; rcases hu with rfl | rfl <;> rfl) (by unfold maxLen; omega) (by omega)
  exact ⟨t', w6, hrun, ⟨by rw [flatD_append]; exact hnw, by rw [List.length_append, hsn, h.len]; rfl⟩, ap⟩
/-- get's answer as it grows, what Gather answered, the token -/
structure AD (w wr : World) (A k : Nat) (tl : Sl) (ds : List (Int × Int)) (s : Sl) (es : List E) (rs : List Wr) (x : Sl) (T : List S) : Prop where
  hA : w.heap.size ≤ A
  box : wr.heap[A]? = some (.cells #[.int .i64 (k : Nat), .bool true, tl.v, .slice none 0 0] 45 (0, 0))
  nd : ND w wr tl ds
  fl : FL w wr s es rs
  ts : TS w wr x.p x.n x.c T
theorem AD.kept {w wr wx : World} {A k : Nat} {tl : Sl} {ds : List (Int × Int)} {s : Sl} {es : List E} {rs : List Wr} {x : Sl} {T : List S} (h : AD w wr A k tl ds s es rs x T) (a : Apart [] wr wx) : AD w wx A k tl ds s es rs x T :=
  ⟨h.hA, (a.block _ (lt_of_heap h.box) (by simp)).trans h.box, h.nd.kept a, h.fl.kept a, h.ts.kept0 a⟩
theorem AD.push {w wr : World} {A k : Nat} {tl : Sl} {ds : List (Int × Int)} {s : Sl} {es : List E} {rs : List Wr} {x : Sl} {T : List S} (h : AD w wr A k tl ds s es rs x T) (hn : tl.n ≤ 2000000) (d : Int × Int) (ty : TypeId) :
    ∃ t' w6, (Builtin.append_ #[43, 43] ty #[tl.v, .slice (some ⟨wr.heap.size, 0, none⟩) 1 1]).run Tryd.prog (wr.alloc (.cells #[.int .i64 d.1, .int .i64 d.2] 24)) = .ok (Sl.v t') w6 ∧ w6.cell? ⟨A, 2, none⟩ = some tl.v ∧ w6.frozen? ⟨A, 2, none⟩ = false ∧ AD w (w6.setCell ⟨A, 2, none⟩ t'.v) A k t' (ds ++ [d]) s es rs x T := by
  obtain ⟨t', w6, hrun, nd6, ap⟩ := h.nd.push hn d ty
  have htyp : ∀ b ∈ tl.v.ownBlock.toList, ∃ cur, wr.heap[b]? = some (.cells cur 24 (0, 0)) := fun b hb => own_typ h.nd.nw.own (by simpa using hb)
  have R6 := (ap.block _ (lt_of_heap h.box) (fun hm => by
    obtain ⟨c, e⟩ := htyp _ hm
    rw [h.box] at e; simp at e)).trans h.box
  have a7 : Apart [A] w6 (w6.setCell ⟨A, 2, none⟩ t'.v) := (Apart.refl _ _).setCell (.inl (by simp)) _
  have aw6 := nd6.nw.ap
  have aw7 : Apart [] w (w6.setCell ⟨A, 2, none⟩ t'.v) := aw6.setCell (.inr h.hA) _
  have kN : ∀ {e size : Nat} {s : Sl} {us : List Value}, e ≠ 24 → Nw w wr e size s us → Nw w w6 e size s us := fun he o => o.keepT ap aw6 (fun b hb cur hcur => by
    obtain ⟨c1, e1⟩ := htyp b hb
    rw [e1] at hcur; simp at hcur
    exact he hcur.2.symm)
  have hX5 : ∀ b ∈ tl.v.ownBlock.toList, ∀ cu, wr.heap[b]? ≠ some (.cells cu 5 (0, 0)) ∧ wr.heap[b]? ≠ some (.cells cu 80 (0, 0)) := fun b hb cu => by
    obtain ⟨cur, tG⟩ := htyp b hb
    rw [tG]; simp
  have fl6 : FL w w6 s es rs := ⟨⟨kN (by decide) h.fl.own.nw, h.fl.own.len⟩, h.fl.len, fun j hj => (h.fl.fr j hj).kept ap aw6 hX5⟩
  have ts6 : TS w w6 x.p x.n x.c T := { h.ts with own := ⟨h.ts.own.len, own_apart h.ts.own.own ap (fun b hb hm => by
      obtain ⟨c1, e1⟩ := own_typ h.ts.own.own hb
      obtain ⟨c2, e2⟩ := htyp b hm
      rw [e1] at e2
      simp at e2), h.ts.own.new, aw6⟩ }
  refine ⟨t', w6, hrun, by rw [cell_of_row _ _ _ _ _ _ R6]; rfl, frozen_of_row _ _ 2 _ _ R6, ⟨h.hA, ?_, ⟨nd6.nw.other R6 (by decide) a7 aw7, nd6.len⟩, fl6.other R6 (by decide) a7 aw7, ts6.other R6 (by decide) a7 aw7⟩⟩
  have := heap_setCell_same w6 A 2 _ 45 t'.v R6
  simpa using this
/-- what get leaves -/
structure GetP (wB w0 w' : World) (X : Nat) (z : Ending) (st : Wd) : Prop where
  ex : ∃ q k told tok, q < 4 ∧ k < 2 ∧ told.length ≤ 60 ∧ Inv (getW st q k told tok) ∧ TkP wB w0 w' X z (getW st q k told tok)
/-- the token is written into the answer -/
theorem AD.tok {wB w wr : World} {X : Nat} {g : Gh} {st : Wd} {A k : Nat} {tl : Sl} {ds : List (Int × Int)} {s : Sl} {es : List E} {rs : List Wr} {x : Sl} {T : List S} (h : AD w wr A k tl ds s es rs x T) (hw : WM wB w X g st) :
    WM wB (wr.setCell ⟨A, 3, none⟩ x.v) X g st ∧ ND wB (wr.setCell ⟨A, 3, none⟩ x.v) tl ds ∧ TS wB (wr.setCell ⟨A, 3, none⟩ x.v) x.p x.n x.c T ∧ (wr.setCell ⟨A, 3, none⟩ x.v).heap[A]? = some (.cells #[.int .i64 (k : Nat), .bool true, tl.v, x.v] 45 (0, 0)) ∧ Apart [] w (wr.setCell ⟨A, 3, none⟩ x.v) := by
  have a7 : Apart [A] wr (wr.setCell ⟨A, 3, none⟩ x.v) := (Apart.refl _ _).setCell (.inl (by simp)) _
  have aw7 : Apart [] w (wr.setCell ⟨A, 3, none⟩ x.v) := h.nd.nw.ap.setCell (.inr h.hA) _
  refine ⟨hw.kept aw7, ⟨(h.nd.nw.other h.box (by decide) a7 aw7).from hw.ap, h.nd.len⟩, (h.ts.other h.box (by decide) a7 aw7).from hw.ap, ?_, aw7⟩
  have := heap_setCell_same wr A 3 _ 45 x.v h.box
  simpa using this
theorem buildD (W : World) (n c : Int) : Sem.run Tryd.prog (Instr.buildSlice 43 1 #[(0, .agg #[.int .i64 n, .int .i64 c])]) W = .ok (.slice (some ⟨W.heap.size, 0, none⟩) 1 1) (W.alloc (.cells #[.int .i64 n, .int .i64 c] 24)) := by
  obtain ⟨ie, hi, hz0, hz1, hz2⟩ := info_parts info24
  refine run_buildSlice W 43 24 1 _ _ ie _ und43 hi hz0 (by rw [hz1]; decide) (by rw [hz1]; decide) ?_
  rw [hz1]
  first | rfl | (simp [Instr.fill, Array.range, Value.cells, Array.ofFn, Sl.v]; done) | kernel_rfl
theorem take_snocD (l : List Wr) (i : Nat) (hi : i < l.length) : (l.map dtW).take (i + 1) = (l.map dtW).take i ++ [((gR l i).n, (gR l i).c)] := by
  rw [List.take_add_one, List.getElem?_map, List.getElem?_eq_getElem hi, gR_eq l i hi]
  rfl
end Go.Proofs.YtokaeiahhmaokaaDoor.ds
namespace Go.Proofs.YtokaeiahhmaokaaDoor.ds
open Go.ChangeShapes Go.WideShapes Go.ChangeAt Go.RowKit Go.Sort
set_option linter.unusedVariables false
set_option linter.unusedSimpArgs false
set_option maxHeartbeats 32000000 in
set_option maxRecDepth 100000 in
theorem get_law {wB w0 : World} {X : Nat} {g : Gh} {st : Wd} (h : WM wB w0 X g st) (hI : Inv st) (TB : Tab wB) (hm : st.made.length ≤ 60) (e : Ev) (he : e.ok) :
    Calls Tryd.prog 80 #[.pointer (some ⟨X, 0, none⟩), e.agg] w0 fun z w' => GetP wB w0 w' X z st := by
  obtain ⟨w1, hw1⟩ : ∃ w1, w1 = w0.alloc e.box := ⟨_, rfl⟩
  have HA1 : Hid (Apart [] w0 w1) := by unfold Hid; rw [hw1]; exact (Apart.refl [] w0).alloc _
  have HQ1 : Hid (w1.heap[w0.heap.size]? = some e.box) := by unfold Hid; rw [hw1]; exact heap_alloc_new w0 _
  obtain ⟨BE, HBE⟩ : ∃ BE, Hid (BE = w0.heap.size) := ⟨_, rfl⟩
  have HXlt : Hid (X < w0.heap.size) := by obtain ⟨c, hc⟩ := h.blkX; exact lt_of_heap hc
  have HXB : Hid (X ≠ BE) := by unfold Hid; rw [HBE.out]; have := HXlt.out; omega
  have HEB : Hid (∀ W, Apart [] w1 W → W.heap[BE]? = some e.box) := fun W a => by
    rw [HBE.out]; exact (a.block _ (lt_of_heap HQ1.out) (by simp)).trans HQ1.out
  have HEC : Hid (∀ W, Apart [] w1 W → W.cell? ⟨BE, 0, none⟩ = some (.int .i64 e.a) ∧ W.cell? ⟨BE, 1, none⟩ = some (.int .i64 e.n) ∧ W.cell? ⟨BE, 2, none⟩ = some (.int .i64 e.k) ∧ W.cell? ⟨BE, 3, none⟩ = some (.int .i64 e.q) ∧ W.cell? ⟨BE, 4, none⟩ = some (.int .i64 e.f)) := fun W a => row5 (HEB.out W a)
  have HW := hid (h.kept HA1.out)
  have HI := hid hI
  have HM := hid hm
  have HTB := hid TB
  obtain ⟨v, Hv⟩ : ∃ v, Hid (v = wth e.n 4) := ⟨_, rfl⟩
  obtain ⟨k, Hk⟩ : ∃ k, Hid (k = wth e.k 2) := ⟨_, rfl⟩
  obtain ⟨q, Hq⟩ : ∃ q, Hid (q = wth e.q 4) := ⟨_, rfl⟩
  have hv : v < 4 := by rw [Hv.out]; exact wth_lt _ (by omega)
  have hk : k < 2 := by rw [Hk.out]; exact wth_lt _ (by omega)
  have hq4 : q < 4 := by rw [Hq.out]; exact wth_lt _ (by omega)
  have HL4 : Hid (∀ W, Calls Tryd.prog 19 #[.int .i64 e.n, .int .i64 4] W fun r w' => r = .returned (.int .i64 (v : Nat)) ∧ w' = W) := fun W => by rw [Hv.out]; exact within4 e.n he.n W
  have HL2 : Hid (∀ W, Calls Tryd.prog 19 #[.int .i64 e.k, .int .i64 2] W fun r w' => r = .returned (.int .i64 (k : Nat)) ∧ w' = W) := fun W => by rw [Hk.out]; exact within2 e.k he.k W
  have HLq : Hid (∀ W, Calls Tryd.prog 19 #[.int .i64 e.q, .int .i64 4] W fun r w' => r = .returned (.int .i64 (q : Nat)) ∧ w' = W) := fun W => by rw [Hq.out]; exact within4 e.q he.q W
  have HSC : Hid (∀ W, Apart [] w1 W → ∀ i, i < 4 → W.cell? ⟨X, 4 + i * 2 + k, none⟩ = some (.slice (g.s i k).p (g.s i k).n (g.s i k).c) ∧ W.cell? ⟨X, i, none⟩ = some (.slice (g.c i).p (g.c i).n (g.c i).c)) := fun W a i hi => by
    have hh := HW.out.kept a
    rw [hh.cell _ (by omega), hh.cell _ (by omega), wc_sib _ _ i k hi hk, wc_clock _ _ i hi]
    exact ⟨rfl, rfl⟩
  have HBO : Hid (∀ i, i < 4 → OkL 64 (bas (st.ck i)) ∧ norm (st.ck i) = st.ck i) := fun i hi => ⟨(bas_ok (HI.out.ckok i hi) (by omega) (by omega)).mono (by omega), norm_of (HI.out.ckok i hi)⟩
  obtain ⟨b0, b1, b2, b3, b4⟩ := HEC.out w1 (Apart.refl _ _)
  clear h hI TB hm he
  unfold Ev.box at hw1
  unfold Ev.agg
  go_enter Tryd.func80, Tryd.ntmps80
  go_wp2_with fail
  rw [← hw1, ← HBE.out]
  clear hw1
  refine (HL2.out w1).mono ?_
  rintro _ w' ⟨rfl, hw'⟩
  rw [hw']
  clear hw' w'
  try dsimp only
  go_wp2_with fail
  clear b0 b1 b2 b3 b4
  go_loopw [6, 7, 8] (fun a b c wt => ∃ (i : Nat) (u bs : Sl) (us : List Nat) (B : Nat → Sl × List S), a = .slice u.p u.n u.c ∧ b = .slice bs.p bs.n bs.c ∧ c = .int .i64 (i : Nat) ∧ i ≤ 4 ∧ us.length ≤ i ∧ (∀ v ∈ us, v < 4) ∧ AK w1 wt g st k u bs us us B) (fun _ _ c _ => 4 - (intOf c).toNat)
  case atStart => exact ⟨0, ⟨none, 0, 0⟩, ⟨none, 0, 0⟩, [], fun _ => (⟨none, 0, 0⟩, []), rfl, rfl, rfl, Nat.zero_le _, Nat.le_refl _, by simp, AK.nil _ _ (Apart.refl _ _) _ _ _ _⟩
  case round =>
    obtain ⟨i, u, bs, us, B, rfl, rfl, rfl, hi, hul, hus, hak⟩ := hrel
    have HAK := hid hak
    have HUS := hid hus
    have HA : Hid (Apart [] w1 wr) := hak.nu.ap
    clear hak hus
    by_cases hlt : i < 4
    · have hin : ((i : Nat) : Int) < 4 := by omega
      obtain ⟨-, b1, -, -, b4⟩ := HEC.out wr HA.out
      go_upto_region 7 with fail
      go_cut [34] from 21 to 34 (fun s wx => ∃ tb : Bool, s = .bool tb ∧ wx = wr)
      · by_cases hiv : i = v
        · have hiv2 : ((i : Nat) : Int) = ((v : Nat) : Int) := by omega
          go_wp2_with fail
          refine (HL4.out wr).mono ?_
          rintro _ w' ⟨rfl, hw'⟩
          rw [hw']
          clear hw' w'
          try dsimp only
          go_wp2_with fail
          go_meet
          exact ⟨true, rfl, rfl⟩
        · have hiv2 : ¬ ((i : Nat) : Int) = ((v : Nat) : Int) := by omega
          go_wp2_with fail
          refine (HL4.out wr).mono ?_
          rintro _ w' ⟨rfl, hw'⟩
          rw [hw']
          clear hw' w'
          try dsimp only
          go_wp2_with fail
          go_meet
          exact ⟨_, rfl, rfl⟩
      obtain ⟨tb, rfl, hww⟩ := hcut
      rw [hww]
      clear hww b1 b4
      cases tb
      case false =>
        go_wp2_with fail
        go_roundw
        case rel => exact ⟨i + 1, u, bs, us, B, rfl, rfl, by go_num, by omega, by omega, HUS.out, HAK.out⟩
        case measure => simp [intOf]; omega
      case true =>
        obtain ⟨zs, zc⟩ := HSC.out wr HA.out i hlt
        obtain ⟨u2, w6, hrun, hak6⟩ := HAK.out.pushS (by omega) i 22
        have HAK6 := hid hak6
        have HA6 : Hid (Apart [] w1 w6) := hak6.nu.ap
        have zc6 := (HSC.out w6 HA6.out i hlt).2
        have HB := hid (bases_ok (cap := (g.c i).c) ((HW.out.kept HA6.out).ck i hlt).L)
        clear hak6
        unfold Sl.v at hrun
        have HRUN := hid hrun
        clear hrun
        obtain ⟨sip, Hsip⟩ : ∃ sip, Hid (sip = (g.s i k).p) := ⟨_, rfl⟩
        obtain ⟨sin, Hsin⟩ : ∃ sin, Hid (sin = (g.s i k).n) := ⟨_, rfl⟩
        obtain ⟨sic, Hsic⟩ : ∃ sic, Hid (sic = (g.s i k).c) := ⟨_, rfl⟩
        rw [← Hsip.out, ← Hsin.out, ← Hsic.out] at zs HRUN
        obtain ⟨cip, Hcip⟩ : ∃ cip, Hid (cip = (g.c i).p) := ⟨_, rfl⟩
        obtain ⟨cin, Hcin⟩ : ∃ cin, Hid (cin = (g.c i).n) := ⟨_, rfl⟩
        obtain ⟨cic, Hcic⟩ : ∃ cic, Hid (cic = (g.c i).c) := ⟨_, rfl⟩
        rw [← Hcip.out, ← Hcin.out, ← Hcic.out] at zc6 HB
        clear zc
        go_wp2_with (at_builtin; refine wpList_app2 rfl (.tmp 35) (.tmp 44) 22 22 rfl _ _ rfl rfl _ _ HRUN.out ?_)
        refine HB.out.mono ?_
        clear zs zc6
        rintro _ w7 hg
        obtain ⟨sp, sn, sc, rfl, ho, hn8⟩ := hg.ex
        rw [(HBO.out i hlt).2] at ho
        obtain ⟨b2, w8, B2, hrun2, hak8⟩ := (HAK6.out.kept ho.ap).pushB (by omega) i (s := ⟨sp, sn, sc⟩) ((show Nw w6 w7 80 3 ⟨sp, sn, sc⟩ (flat (bas (st.ck i))) from ⟨ho.own, ho.new, ho.ap⟩).from HA6.out) ⟨by first | exact ho.len | exact ho.len.symm, by show sn ≤ _; omega⟩ (HBO.out i hlt).1 29
        have HAK8 := hid hak8
        unfold Sl.v at hrun2
        have HRUN2 := hid hrun2
        clear hrun2 hak8 ho hg
        try dsimp only
        go_wp2_with (at_builtin; refine wpList_app2 rfl (.tmp 46) (.tmp 54) 29 29 rfl _ _ rfl rfl _ _ HRUN2.out ?_)
        go_roundw
        case rel => exact ⟨i + 1, u2, b2, us ++ [i], B2, rfl, rfl, by go_num, by omega, by simp; omega, fun y hy => by
          rcases List.mem_append.1 hy with hy | hy
          · exact HUS.out y hy
          · simp at hy; omega, HAK8.out⟩
        case measure => simp [intOf]; omega
    · obtain rfl : i = 4 := by omega
      have hin : ¬ ((4 : Nat) : Int) < 4 := by omega
      generalize wr = wM at *
      have HWM := hid (HW.out.kept HA.out)
      have HUN := hid HAK.out.un
      have HBN := hid HAK.out.nb.un
      obtain ⟨T, HTt⟩ : ∃ T, Hid (T = tokT 64 (basesOf st us) (setsOf st k us)) := ⟨_, rfl⟩
      obtain ⟨rs, Hrs⟩ : ∃ rs, Hid (rs = gathW (setsOf st k us)) := ⟨_, rfl⟩
      have HASK : Hid (OkL 64 T ∧ TokS st.made k (rs.map dtW) T) := by
        unfold Hid
        rw [HTt.out, Hrs.out]
        exact (HI.out.asks HM.out hk HUS.out).2
      have HGL : Hid (rs.length ≤ 60) := by unfold Hid; rw [Hrs.out]; exact Nat.le_trans (gathw_len HI.out hk HUS.out) HM.out
      have HTK : Hid (∀ W, Apart [] wM W → Calls Tryd.prog 27 #[.slice u.p u.n u.c, .slice bs.p bs.n bs.c, .int .i64 64] W fun r w' => TkPost W w' r T []) := fun W a => by
        obtain ⟨hS, hIn, hTt, hCat, hLX⟩ := (HAK.out.kept a).asked (HWM.out.kept a) HI.out HM.out hk HUS.out hul
        have := token_R W (HTB.out.kept0 (HWM.out.kept a).ap) u.p us.length u.c (tF g st k us) hS hIn (by omega) hTt bs.p us.length bs.c _ _ hLX (by omega) 64
        rw [hCat, (HI.out.asks HM.out hk HUS.out).1, ← HTt.out] at this
        rw [HUN.out, HBN.out]
        exact this
      have HGA : Hid (∀ W, Apart [] wM W → Calls Tryd.prog 20 #[.slice u.p u.n u.c] W fun r w' => CpPost W w' r rs.length rs) := fun W a => by
        obtain ⟨hS, hIn, hTt, hCat, hLX⟩ := (HAK.out.kept a).asked (HWM.out.kept a) HI.out HM.out hk HUS.out hul
        have := gather_R W (HTB.out.kept0 (HWM.out.kept a).ap) u.p us.length u.c (tF g st k us) hS hIn (by omega) hTt
        rw [hCat, ← Hrs.out] at this
        rw [HUN.out]
        exact this
      obtain ⟨wa, hwa⟩ : ∃ wa, wa = wM.alloc (.cells #[.int .i64 (k : Nat), .bool true, .slice none 0 0, .slice none 0 0] 45 (0, 0)) := ⟨_, rfl⟩
      have HAa : Hid (Apart [] wM wa) := by unfold Hid; rw [hwa]; exact (Apart.refl [] wM).alloc _
      obtain ⟨A, HAA⟩ : ∃ A, Hid (A = wM.heap.size) := ⟨_, rfl⟩
      have HBa : Hid (wa.heap[A]? = some (.cells #[.int .i64 (k : Nat), .bool true, .slice none 0 0, .slice none 0 0] 45 (0, 0))) := by unfold Hid; rw [HAA.out, hwa]; exact heap_alloc_new wM _
      go_wp2_with fail
      rw [← hwa, ← HAA.out]
      clear hwa
      refine (HTK.out wa HAa.out).mono ?_
      rintro _ w4 hp
      obtain ⟨xq, xn, xc, ⟨sop, son, soc⟩, eo, rfl, hts, hso, heo, hno, hfo⟩ := hp.ex
      have hso0 : son = 0 := hso
      subst hso0
      have HTS := hid hts
      clear hp heo hno hfo hso hts
      unfold Sl.v
      try dsimp only
      go_wp2_with fail
      refine (HGA.out w4 (HAa.out.trans HTS.out.own.ap)).mono ?_
      rintro _ w5 hp
      obtain ⟨⟨lp, LN, lc⟩, es, rfl, hsn, hes, hnw, hfr⟩ := hp.ex
      have hLN : LN = rs.length := hsn
      have HAD : Hid (AD wM w5 A k ⟨none, 0, 0⟩ [] ⟨lp, LN, lc⟩ es rs ⟨xq, xn, xc⟩ T) := by
        have a4 : Apart [] wM w4 := HAa.out.trans HTS.out.own.ap
        have a5 : Apart [] wM w5 := a4.trans hnw.ap
        have aa : Apart [] wa w5 := HTS.out.own.ap.trans hnw.ap
        refine ⟨by rw [HAA.out]; exact Nat.le_refl _, (aa.block _ (lt_of_heap HBa.out) (by simp)).trans HBa.out, ND.nil _ _ a5, ?_, (HTS.out.kept0 hnw.ap).from HAa.out⟩
        refine FL.from ⟨⟨hnw, by rw [hes]; exact hLN.symm⟩, hLN.symm, fun j hj => hfr j (by rw [← hLN]; exact hj)⟩ a4
      have HLN := hid hLN
      have hL60 : LN ≤ 60 := by rw [hLN]; exact HGL.out
      clear hp hsn hes hnw hfr hLN
      unfold Sl.v
      try dsimp only
      go_wp2_with fail
      go_loopw [13] (fun a wt => ∃ (j : Nat) (tl : Sl), a = .int .i64 (j : Nat) ∧ j ≤ LN ∧ AD wM wt A k tl ((rs.map dtW).take j) ⟨lp, LN, lc⟩ es rs ⟨xq, xn, xc⟩ T) (fun a _ => LN - (intOf a).toNat)
      case atStart => exact ⟨0, ⟨none, 0, 0⟩, rfl, Nat.zero_le _, HAD.out⟩
      case round =>
        clear HAD
        obtain ⟨j, tl, rfl, hj, had⟩ := hrel
        have HAD := hid had
        clear had
        by_cases hjl : j < LN
        · have hjn : ((j : Nat) : Int) < (LN : Int) := by omega
          have aD : Apart [] wr wr.drew := (Apart.refl [] wr).drew
          have hD := HAD.out.kept aD
          have htl : tl.n ≤ 60 := by
            have := hD.nd.len
            rw [← this, List.length_take]
            omega
          obtain ⟨t', w6, hrun, x6, f6, had6⟩ := hD.push (by omega) ((gR rs j).n, (gR rs j).c) 43
          have hTN := take_snocD rs j (by rw [← HLN.out]; exact hjl)
          rw [← hTN] at had6
          have HD6 := hid had6
          obtain ⟨P, o, hP, hPl, hcs⟩ := (HAD.out.fl.le (by show LN ≤ 2000000; omega)).at (by show 0 < LN; omega)
          simp only at hP
          subst hP
          have hR := HAD.out.fl.reads j hjl
          rw [← hR.n, ← hR.c] at hrun
          obtain ⟨k0, k1, -, -, -, -⟩ := hcs j hjl
          generalize gE es j = x at *
          have k0d := (aD.cell hPl (by simp)).trans k0
          have k1d := (aD.cell hPl (by simp)).trans k1
          have c2d : wr.drew.cell? ⟨A, 2, none⟩ = some (.slice tl.p tl.n tl.c) := by rw [cell_of_row _ _ _ _ _ _ hD.box]; rfl
          have c2e : (wr.alloc (.cells #[.int .i64 x.n, .int .i64 x.c] 24)).drew.cell? ⟨A, 2, none⟩ = some (.slice tl.p tl.n tl.c) := by
            rw [cell_of_row _ _ _ _ _ _ (HAD.out.kept ((Apart.refl [] wr).alloc _).drew).box]; rfl
          have hbu := fun W => buildD W x.n x.c
          unfold Sl.v at hrun x6
          simp only at hrun x6
          clear aD hD had6 hcs hR hTN k0 k1
          go_upto_region 18 with fail
          go_region_law (first | (refine step_app2 rfl (.tmp 76) (.tmp 82) 43 43 rfl _ _ rfl rfl _ _ hrun ?_))
          all_goals
            clear hrun x6 f6 k0d k1d c2d c2e hbu
            go_wp2_with fail
            go_roundw
            case rel => exact ⟨j + 1, t', by go_num, by omega, HD6.out⟩
            case measure => simp [intOf]; omega
        · obtain rfl : j = LN := by omega
          have hjn : ¬ ((j : Nat) : Int) < (j : Int) := by omega
          have HTKN : Hid ((rs.map dtW).take j = rs.map dtW) := List.take_of_length_le (by rw [List.length_map, HLN.out]; exact Nat.le_refl _)
          rw [HTKN.out] at HAD
          obtain ⟨hw2, hnd2, hts2, hbx2, ha2⟩ := HAD.out.tok HWM.out
          have HW2 := hid hw2
          have HND2 := hid hnd2
          have HTS2 := hid hts2
          have HBX2 := hid hbx2
          have HA2 := hid ha2
          obtain ⟨c0, c1, c2, c3⟩ := row4v HAD.out.box
          have f3 := frozen_of_row _ _ 3 _ _ HAD.out.box
          clear hw2 hnd2 hts2 hbx2 ha2
          go_upto_region 20 with fail
          obtain ⟨wg0, Hwg0⟩ : ∃ wg0, Hid (wg0 = wr.setCell ⟨A, 3, none⟩ (.slice xq xn xc)) := ⟨_, rfl⟩
          have HE0 : Hid (wr.setCell ⟨A, 3, none⟩ (Sl.v ⟨xq, xn, xc⟩) = wg0) := Hwg0.out.symm
          rw [HE0.out] at HW2 HND2 HTS2 HBX2 HA2
          rw [← Hwg0.out]
          clear c0 c1 c2 c3 f3
          have HXA : Hid (A ≠ X) := by
            intro e
            obtain ⟨cu, hc⟩ := HW2.out.blkX
            have := HBX2.out
            rw [e, hc] at this
            simp at this
          have HE3 : Hid (∀ W, Apart [X] wg0 W → W.cell? ⟨BE, 3, none⟩ = some (.int .i64 e.q)) := fun W a => by
            have hb := HEB.out wg0 (HA.out.trans HA2.out)
            exact (row5 ((a.block _ (lt_of_heap hb) (by have := HXB.out; simp; omega)).trans hb)).2.2.2.1
          have HBC : Hid (∀ W, Apart [X] wg0 W → W.cell? ⟨A, 0, none⟩ = some (.int .i64 (k : Nat)) ∧ W.cell? ⟨A, 1, none⟩ = some (.bool true) ∧ W.cell? ⟨A, 2, none⟩ = some (.slice tl.p tl.n tl.c) ∧ W.cell? ⟨A, 3, none⟩ = some (.slice xq xn xc)) := fun W a =>
            row4v ((a.block _ (lt_of_heap HBX2.out) (by have := HXA.out; simp; omega)).trans HBX2.out)
          refine wp_region_held_drew (S := fun W => Apart [X] wg0 W) (by kernel_rfl) (Apart.refl [X] wg0).drew (fun hHeld => ?_)
          have Twg : Hid (Apart [] wg0 wg0.drew) := (Apart.refl [] wg0).drew
          have Twx : Hid (Apart [X] wg0 wg0.drew) := (Apart.refl [X] wg0).drew
          generalize wg0.drew = wg at *
          refine tk 0 87 (.pointer (some ⟨X, 0, none⟩)) rfl ?_ ?_
          · intro W hSW; go_simp
          simp only [Act.put, List.setIfInBounds_toArray, List.set_cons_zero, List.set_cons_succ]
          refine tk 1 88 (.pointer (some ⟨BE, 3, none⟩)) rfl ?_ ?_
          · intro W hSW; go_simp
          simp only [Act.put, List.setIfInBounds_toArray, List.set_cons_zero, List.set_cons_succ]
          refine tk 2 89 (.int .i64 e.q) rfl ?_ ?_
          · intro W hSW; have z := HE3.out W hSW; go_simp
          simp only [Act.put, List.setIfInBounds_toArray, List.set_cons_zero, List.set_cons_succ]
          refine tk 4 91 (.agg #[.int .i64 (k : Nat), .bool true, .slice tl.p tl.n tl.c, .slice xq xn xc]) rfl ?_ ?_
          · intro W hSW; obtain ⟨z0, z1, z2, z3⟩ := HBC.out W hSW; go_simp
          simp only [Act.put, List.setIfInBounds_toArray, List.set_cons_zero, List.set_cons_succ]
          refine tk 5 92 (.pointer (some ⟨X, 0, none⟩)) rfl ?_ ?_
          · intro W hSW; go_simp
          simp only [Act.put, List.setIfInBounds_toArray, List.set_cons_zero, List.set_cons_succ]
          refine tk 6 93 (.pointer (some ⟨X, 14, none⟩)) rfl ?_ ?_
          · intro W hSW; go_simp
          simp only [Act.put, List.setIfInBounds_toArray, List.set_cons_zero, List.set_cons_succ]
          refine wpAnyH_ready (rs := [3]) (by kernel_rfl) (by simp) ?_
          refine AllReadyH.cons rfl (fun KK hKK => ?_) AllReadyH.nil
          go_simp
          refine (HLq.out wg).mono ?_
          rintro _ w' ⟨rfl, hw'⟩
          rw [hw']
          clear hw' w'
          try dsimp only
          refine hKK.out _ _ Twx.out (fun hHeld => ?_)
          clear hKK KK
          refine tk 7 94 (.pointer (some ⟨X, 14 + q * 4, none⟩)) rfl ?_ ?_
          · intro W hSW; go_simp <;> (first | omega | (intro hq; exfalso; omega))
          simp only [Act.put, List.setIfInBounds_toArray, List.set_cons_zero, List.set_cons_succ]
          refine wpAnyH_ready (rs := [8]) (by kernel_rfl) (by simp) ?_
          refine AllReadyH.cons rfl (fun KK hKK => ?_) AllReadyH.nil
          have hWg := HW2.out.kept Twg.out
          have HFIN := hid (hWg.setClient hq4 k (HND2.out.kept Twg.out) (x := ⟨xq, xn, xc⟩) (HTS2.out.kept0 Twg.out))
          have y0 := hWg.cell (14 + q * 4) (by omega)
          have y1 := hWg.cell (14 + q * 4 + 1) (by omega)
          have y2 := hWg.cell (14 + q * 4 + 2) (by omega)
          have y3 := hWg.cell (14 + q * 4 + 3) (by omega)
          have n0 := hWg.frozen (14 + q * 4)
          have n1 := hWg.frozen (14 + q * 4 + 1)
          have n2 := hWg.frozen (14 + q * 4 + 2)
          have n3 := hWg.frozen (14 + q * 4 + 3)
          clear hWg
          go_simp
          refine hKK.out _ _ ?_ (fun hHeld => ?_)
          · exact ((((Twx.out.setCell (.inl (by simp)) _).setCell (.inl (by simp)) _).setCell (.inl (by simp)) _).setCell (.inl (by simp)) _)
          clear hKK KK
          refine wpAnyH_done (by kernel_rfl) ?_ _
          clear y0 y1 y2 y3 n0 n1 n2 n3
          go_wp2_with fail
          go_ret
          exact ⟨q, k, rs.map dtW, T, hq4, hk, by rw [List.length_map]; exact HGL.out, HI.out.get hk HASK.out.1 HASK.out.2, ⟨_, rfl, HFIN.out⟩⟩
end Go.Proofs.YtokaeiahhmaokaaDoor.ds
