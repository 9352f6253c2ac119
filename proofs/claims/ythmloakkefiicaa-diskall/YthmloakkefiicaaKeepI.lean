import Derived.Test.YthmloakkefiicaaKeep
namespace Go.Proofs.Ythmloakkefiicaa.dk
open Go.ChangeShapes Go.WideShapes Go.ChangeAt Go.RowKit
theorem wrap_mark (mk : Nat) (h : mk ≤ 1000000) : IntKind.i64.wrap (-1000 - ((mk : Int) + 1)) = -1000 - ((mk : Int) + 1) := by
  rw [IntKind.wrap_i64]; omega
theorem info44 : (Try.prog.info? 44).map (fun i => (i.zero, i.size, i.bytes)) = some (some (.slice none 0 0), 1, 24) := by kernel_rfl
theorem info3 : (Try.prog.info? 3).map (fun i => (i.zero, i.size, i.bytes)) = some (some (.int .i64 0), 1, 8) := by kernel_rfl
/-- numbers in a row of their own -/
structure LentI (w : World) (g n c : Nat) (bs : List Int) : Prop where
  row : ∃ cur, w.heap[g]? = some (.cells cur 3 (0, 0)) ∧ cur.size = c
  cells : ∀ j, j < n → w.cell? ⟨g, j, none⟩ = some (.int .i64 (bs.getD j 0))
  len : bs.length = n
  le : n ≤ c
theorem LentI.set {w : World} {g n c : Nat} {bs : List Int} (h : LentI w g n c bs) (j : Nat) (hj : j < n) (x : Int) : LentI (w.setCell ⟨g, j, none⟩ (.int .i64 x)) g n c (bs.set j x) := by
  obtain ⟨cur, hr, hc⟩ := h.row
  have hl := h.len
  refine ⟨⟨_, heap_setCell_same _ _ _ _ _ _ hr, by simpa using hc⟩, fun i hi => ?_, by simpa using hl, h.le⟩
  have hle := h.le
  rw [cell_of_row _ _ _ _ _ _ (heap_setCell_same _ _ _ _ _ _ hr)]
  by_cases e : j = i
  · subst e
    rw [getD_set_same _ _ _ _ (by omega), Array.getElem?_setIfInBounds_self_of_lt (by omega)]
  · rw [getD_set_other _ _ _ _ _ e, Array.getElem?_setIfInBounds_ne e, ← cell_of_row _ _ _ _ _ _ hr]
    exact h.cells i hi
theorem LentI.kept {w w' : World} {g n c : Nat} {bs : List Int} {X : List Nat} (h : LentI w g n c bs) (a : Apart X w w') (hg : g ∉ X) : LentI w' g n c bs := by
  obtain ⟨cur, hr, hc⟩ := h.row
  exact ⟨⟨cur, (a.block g (lt_of_heap hr) hg).trans hr, hc⟩, fun j hj => (a.cell (p := ⟨g, j, none⟩) (lt_of_heap hr) hg).trans (h.cells j hj), h.len, h.le⟩
theorem LentI.free {w : World} {g n c : Nat} {bs : List Int} (h : LentI w g n c bs) (j : Nat) : w.frozen? ⟨g, j, none⟩ = false := by
  obtain ⟨cur, hr, hc⟩ := h.row
  exact frozen_of_row _ _ _ _ _ hr
theorem LentI.typ {w : World} {g n c : Nat} {bs : List Int} (h : LentI w g n c bs) : ∃ cur, w.heap[g]? = some (.cells cur 3 (0, 0)) := by
  obtain ⟨cur, hr, _⟩ := h.row; exact ⟨cur, hr⟩
theorem LentI.all {w : World} {g n c : Nat} {bs : List Int} {m : Int} (h : LentI w g n c bs) (hm : ∀ j, j < n → bs.getD j 0 = m) : LentI w g n c (List.replicate n m) :=
  ⟨h.row, fun j hj => by rw [h.cells j hj, hm j hj]; simp [hj], by simp, h.le⟩
/-- numbers that were answered: none, or a row of their own -/
def AnsI (w : World) (p : Option Addr) (l c : Nat) (bs : List Int) : Option Nat → Prop
  | none => p = none ∧ l = 0 ∧ c = 0 ∧ bs = []
  | some g => p = some ⟨g, 0, none⟩ ∧ LentI w g l c bs
theorem AnsI.kept {w w' : World} {p : Option Addr} {l c : Nat} {bs : List Int} {G : Option Nat} {X : List Nat} (h : AnsI w p l c bs G) (a : Apart X w w') (hx : ∀ g, G = some g → g ∉ X) : AnsI w' p l c bs G := by
  cases G with
  | none => exact h
  | some g => exact ⟨h.1, h.2.kept a (hx g rfl)⟩
theorem AnsI.nil {w : World} {p : Option Addr} {l c : Nat} {bs : List Int} {G : Option Nat} (h : AnsI w p l c bs G) : p = none → c = 0 := by
  cases G with
  | none => exact fun _ => h.2.2.1
  | some g => intro e; rw [h.1] at e; cases e
theorem AnsI.len {w : World} {p : Option Addr} {l c : Nat} {bs : List Int} {G : Option Nat} (h : AnsI w p l c bs G) : bs.length = l := by
  cases G with
  | none => obtain ⟨rfl, rfl, rfl, rfl⟩ := h; rfl
  | some g => exact h.2.len
theorem AnsI.lt {w : World} {p : Option Addr} {l c : Nat} {bs : List Int} {g : Nat} (h : AnsI w p l c bs (some g)) : g < w.heap.size := by
  obtain ⟨cur, hr⟩ := h.2.typ; exact lt_of_heap hr
theorem AnsI.ne {w : World} {p : Option Addr} {l c : Nat} {bs : List Int} {G : Option Nat} {P : Nat} {cur : Array Value} {t : TypeId} (h : AnsI w p l c bs G) (hr : w.heap[P]? = some (.cells cur t (0, 0))) (hne : t ≠ 3) : P ∉ G.toList := by
  intro hm
  cases G with
  | none => simp at hm
  | some g =>
    simp at hm; subst hm
    obtain ⟨c2, e2⟩ := h.2.typ
    rw [hr] at e2; simp at e2; exact hne e2.2
theorem AnsI.ne' {w : World} {p : Option Addr} {l c : Nat} {bs : List Int} {G : Option Nat} {P : Nat} {cur : Array Value} {t : TypeId} (h : AnsI w p l c bs G) (hr : w.heap[P]? = some (.cells cur t (0, 0))) (hne : t ≠ 3) : ∀ g, G = some g → g ∉ [P] := by
  intro g hg hm
  simp at hm; subst hm
  exact h.ne hr hne (by simp [hg])
theorem AnsI.other {w : World} {e' : TypeId} {v' : Value} {xs' : List Value} {p : Option Addr} {l c : Nat} {bs : List Int} {G G' : Option Nat} (h : AnsI w p l c bs G) (h' : SlAt w e' v' xs' G') (hne : 3 ≠ e') : ∀ g, G = some g → g ∉ G'.toList := by
  intro g hg
  subst hg
  obtain ⟨c1, e1⟩ := h.2.typ
  exact h'.ne e1 hne
theorem SlAt.otherI {w : World} {e : TypeId} {v : Value} {xs : List Value} {p : Option Addr} {l c : Nat} {bs : List Int} {G G' : Option Nat} (h : SlAt w e v xs G) (h' : AnsI w p l c bs G') (hne : e ≠ 3) : ∀ g, G = some g → g ∉ G'.toList := by
  intro g hg
  subst hg
  obtain ⟨c1, e1⟩ := h.typ
  exact h'.ne e1 hne
theorem AnsI.set {w : World} {p : Option Addr} {l c : Nat} {bs : List Int} {G : Option Nat} {P i : Nat} {cur : Array Value} {t : TypeId} {x : Value} (h : AnsI w p l c bs G) (hr : w.heap[P]? = some (.cells cur t (0, 0))) (hne : t ≠ 3) : AnsI (w.setCell ⟨P, i, none⟩ x) p l c bs G :=
  h.kept ((Apart.refl [P] w).setCell (by simp) x) (h.ne' hr hne)
theorem AnsI.all {w : World} {p : Option Addr} {l c : Nat} {bs : List Int} {G : Option Nat} {m : Int} (h : AnsI w p l c bs G) (hm : ∀ j, j < l → bs.getD j 0 = m) : AnsI w p l c (List.replicate l m) G := by
  cases G with
  | none => obtain ⟨rfl, rfl, rfl, rfl⟩ := h; exact ⟨rfl, rfl, rfl, rfl⟩
  | some g => exact ⟨h.1, h.2.all hm⟩
def KeepIPost (w : World) (P : Nat) (cur : Array Value) (p : Option Addr) (l c : Nat) (GA : Option Nat) (mk : Nat) (xb xh : List Value) (GB GH : Option Nat) (r : Ending) (w' : World) : Prop :=
  r = .returned (.tuple #[]) ∧ ∃ cur' bv' hv' GB' GH', PRow w' P cur' ∧ cur'[4]? = some bv' ∧ cur'[5]? = some hv' ∧ cur'[6]? = some (.int .i64 ((mk : Int) + 1)) ∧ (∀ i, i ≠ 4 → i ≠ 5 → i ≠ 6 → cur'[i]? = cur[i]?) ∧
      SlAt w' 44 bv' (shifted (xb ++ [Value.slice p l c])) GB' ∧ SlAt w' 3 hv' (shifted (xh ++ [Value.int .i64 (-1000 - ((mk : Int) + 1))])) GH' ∧ AnsI w' p l c (List.replicate l (-1000 - ((mk : Int) + 1))) GA ∧ Apart (P :: (GA.toList ++ (GB.toList ++ GH.toList))) w w' ∧ (GB' = GB ∨ ∃ k, GB' = some k ∧ w.heap.size ≤ k) ∧ (GH' = GH ∨ ∃ k, GH' = some k ∧ w.heap.size ≤ k)
set_option maxHeartbeats 2000000 in
set_option maxRecDepth 20000 in
theorem keepInts_any (w : World) (P : Nat) (cur : Array Value) (h : PRow w P cur) (p : Option Addr) (l c : Nat) (bs : List Int) (GA : Option Nat) (hb : AnsI w p l c bs GA) (hl : l ≤ 4194304) (mk : Nat) (hmk : mk ≤ 1000000) (bv hv : Value) (xb xh : List Value) (GB GH : Option Nat) (hB : SlAt w 44 bv xb GB) (hH : SlAt w 3 hv xh GH)
    (h6 : cur[6]? = some (.int .i64 mk)) (h2 : cur[4]? = some bv) (h3 : cur[5]? = some hv) (hn : xb.length ≤ 4) (hnh : xh.length = xb.length) (hAH : ∀ g, GA = some g → g ∉ GH.toList) :
    Calls Try.prog 61 #[.pointer (some ⟨P, 2, none⟩), .slice p l c] w fun r w' => KeepIPost w P cur p l c GA mk xb xh GB GH r w' := by
  have hnh4 : xh.length ≤ 4 := by omega
  have HNH : Hid (xh.length = xb.length) := hnh
  clear hnh
  have e6 := (h.cell 6).trans h6
  have f6 := h.free 6
  have hPl := lt_of_heap h.row
  have h1 := h.set 6 (.int .i64 ((mk : Int) + 1))
  have a01 : Apart [P] w (w.setCell ⟨P, 6, none⟩ (.int .i64 ((mk : Int) + 1))) := (Apart.refl _ _).setCell (by simp) _
  have hb1 : AnsI (w.setCell ⟨P, 6, none⟩ (.int .i64 ((mk : Int) + 1))) p l c bs GA := hb.set h.row (by decide)
  have hB1 : SlAt (w.setCell ⟨P, 6, none⟩ (.int .i64 ((mk : Int) + 1))) 44 bv xb GB := hB.set h.row (by decide)
  have hH1 : SlAt (w.setCell ⟨P, 6, none⟩ (.int .i64 ((mk : Int) + 1))) 3 hv xh GH := hH.set h.row (by decide)
  have b1 : (mk : Int) ≤ 1000000 := by omega
  go_enter Try.func61, Try.ntmps61
  go_wp2
  generalize w.setCell ⟨P, 6, none⟩ (.int .i64 ((mk : Int) + 1)) = w1 at *
  go_loopw [4] (fun i wr => ∃ k : Nat, k ≤ l ∧ i = .int .i64 k ∧ Apart GA.toList w1 wr ∧ ∃ bs', AnsI wr p l c bs' GA ∧ ∀ j, j < k → bs'.getD j 0 = (-1000 - ((mk : Int) + 1))) (fun i _ => l - (intOf i).toNat)
  case atStart => exact ⟨0, Nat.zero_le _, rfl, Apart.refl _ _, _, hb1, fun j hj => absurd hj (Nat.not_lt_zero j)⟩
  case round =>
    obtain ⟨k, hk, rfl, ha, bs', hL, hall⟩ := hrel
    have HALL : Hid (∀ j, j < k → bs'.getD j 0 = (-1000 - ((mk : Int) + 1))) := hall
    clear hall
    have HBL : Hid (bs'.length = l) := hL.len
    have hr := h1.kept ha (hb1.ne h1.row (by decide))
    have e6r : wr.cell? ⟨P, 6, none⟩ = some (.int .i64 ((mk : Int) + 1)) := by rw [hr.cell 6, Array.getElem?_setIfInBounds_self_of_lt (by rw [h.size]; decide)]
    by_cases hlt : k < l
    · cases GA with
      | none => have := hL.2.1; omega
      | some g =>
      obtain ⟨rfl, hL⟩ := hL
      have ec := hL.cells k hlt
      have ef := hL.free k
      have HST : Hid (∀ x, LentI (wr.setCell ⟨g, k, none⟩ (.int .i64 x)) g l c (bs'.set k x)) := fun x => hL.set k hlt x
      clear hL hr
      go_wp2
      go_roundw
      case rel => exact ⟨k + 1, by omega, by go_num, ha.setCell (by simp) _, _, ⟨rfl, HST.out _⟩, fun j hj => by
          by_cases e : k = j
          · subst e; rw [getD_set_same _ _ _ _ (by have := HBL.out; omega)]
          · rw [getD_set_other _ _ _ _ _ e]; exact HALL.out j (by omega)⟩
      case measure => simp [intOf]; omega
    · replace hL := hL.all (m := (-1000 - ((mk : Int) + 1))) (fun j hj => HALL.out j (by omega))
      clear HALL HBL
      have hB2 := hB1.kept ha (hB1.otherI hb1 (by decide))
      have hH2 := hH1.kept ha (fun g hg hm => by cases GA with | none => simp at hm | some k => (simp at hm; subst hm; exact hAH _ rfl (by simp [hg])))
      have a02 : Apart (P :: (GA.toList ++ (GB.toList ++ GH.toList))) w wr := (a01.mono (by simp)).trans (ha.mono (by simp +contextual))
      clear hB1 hH1 hb1 hB hH hb
      have e2r : wr.cell? ⟨P, 4, none⟩ = some bv := by rw [hr.cell 4, Array.getElem?_setIfInBounds_ne (by decide)]; exact h2
      obtain ⟨bp, bc, rfl⟩ := hB2.shape
      obtain ⟨hp, hc, rfl⟩ := hH2.shape
      obtain ⟨i0, hi, hz0, hz1, hz2⟩ := info_parts info44
      obtain ⟨i9, hi9, hy0, hy1, hy2⟩ := info_parts info3
      go_wp2_with (at_builtin; refine wpList_append_sl rfl (.tmp 30) (.tmp 32) 62 rfl 44 i0 (.slice none 0 0) 24 Try.underlying62 hi hz0 hz1 hz2 rfl (.slice bp xb.length bc) xb GB rfl (hB2.kept ((Apart.refl [] _).alloc _) (by simp)) ⟨wr.heap.size, 0, none⟩ 1 (.slice p l c) rfl (by simp) rfl (by omega) (by decide) ?_)
      intro bv' w2 GB' s2 a2 o2
      have a12 : Apart GB.toList wr w2 := (((Apart.refl [] _).alloc _).mono (by simp)).trans a2
      have h2r := hr.kept a12 (hB2.ne hr.row (by decide))
      have hH3 := hH2.kept a12 (hH2.other hB2 (by decide))
      have hA3 := hL.kept a12 (hL.other hB2 (by decide))
      have o2' : GB' = GB ∨ ∃ k, GB' = some k ∧ w.heap.size ≤ k := by
        rcases o2 with o2 | ⟨k, o2, o3⟩
        · exact .inl o2
        · exact .inr ⟨k, o2, by have := a02.size; first | omega | (simp at o3; omega)⟩
      obtain ⟨bp2, bc2, rfl⟩ := s2.shape
      have hlen2 : (xb ++ [Value.slice p l c]).length = xb.length + 1 := by simp
      rw [hlen2] at s2
      have e22 : ∃ y, w2.cell? ⟨P, 4, none⟩ = some y := ⟨_, (h2r.cell 4).trans (Array.getElem?_eq_getElem (by rw [h2r.size]; decide))⟩
      obtain ⟨y2, e22⟩ := e22
      have f22 := h2r.free 4
      have h4 := h2r.set 4 (.slice bp2 (xb.length + 1) bc2)
      have a23 : Apart (P :: (GA.toList ++ (GB.toList ++ GH.toList))) w (w2.setCell ⟨P, 4, none⟩ (.slice bp2 (xb.length + 1) bc2)) := (a02.trans (a12.mono (by simp +contextual))).setCell (by simp) _
      have s3 : SlAt (w2.setCell ⟨P, 4, none⟩ (.slice bp2 (xb.length + 1) bc2)) 44 (.slice bp2 (xb.length + 1) bc2) (xb ++ [Value.slice p l c]) GB' := s2.set h2r.row (by decide)
      have hH4 : SlAt (w2.setCell ⟨P, 4, none⟩ (.slice bp2 (xb.length + 1) bc2)) 3 (.slice hp xh.length hc) xh GH := hH3.set h2r.row (by decide)
      have hA4 : AnsI (w2.setCell ⟨P, 4, none⟩ (.slice bp2 (xb.length + 1) bc2)) p l c (List.replicate l (-1000 - ((mk : Int) + 1))) GA := hA3.set h2r.row (by decide)
      have c2 : ((cur.setIfInBounds 6 (.int .i64 ((mk : Int) + 1))).setIfInBounds 4 (.slice bp2 (xb.length + 1) bc2))[4]? = some (.slice bp2 (xb.length + 1) bc2) := by rw [Array.getElem?_setIfInBounds_self_of_lt (by have := h.size; simp; omega)]
      have c3 : ((cur.setIfInBounds 6 (.int .i64 ((mk : Int) + 1))).setIfInBounds 4 (.slice bp2 (xb.length + 1) bc2))[5]? = some (.slice hp xh.length hc) := by
        rw [Array.getElem?_setIfInBounds_ne (by decide), Array.getElem?_setIfInBounds_ne (by decide)]; exact h3
      have c6 : ((cur.setIfInBounds 6 (.int .i64 ((mk : Int) + 1))).setIfInBounds 4 (.slice bp2 (xb.length + 1) bc2))[6]? = some (.int .i64 ((mk : Int) + 1)) := by
        rw [Array.getElem?_setIfInBounds_ne (by decide), Array.getElem?_setIfInBounds_self_of_lt (by have := h.size; omega)]
      have cx : ∀ i, i ≠ 4 → i ≠ 5 → i ≠ 6 → ((cur.setIfInBounds 6 (.int .i64 ((mk : Int) + 1))).setIfInBounds 4 (.slice bp2 (xb.length + 1) bc2))[i]? = cur[i]? := fun i i2 i3 i6 => by
        rw [Array.getElem?_setIfInBounds_ne (fun e => i2 e.symm), Array.getElem?_setIfInBounds_ne (fun e => i6 e.symm)]
      generalize hcur3 : (cur.setIfInBounds 6 (.int .i64 ((mk : Int) + 1))).setIfInBounds 4 (.slice bp2 (xb.length + 1) bc2) = cur3 at *
      have HC : Hid (cur3[4]? = some (.slice bp2 (xb.length + 1) bc2) ∧ cur3[5]? = some (.slice hp xh.length hc) ∧ cur3[6]? = some (.int .i64 ((mk : Int) + 1)) ∧ ∀ i, i ≠ 4 → i ≠ 5 → i ≠ 6 → cur3[i]? = cur[i]?) := ⟨c2, c3, c6, cx⟩
      have e38 := (h4.cell 5).trans c3
      have f38 := h4.free 5
      have e36 := (h4.cell 6).trans c6
      have hwr : IntKind.i64.wrap (-1000 - ((mk : Int) + 1)) = (-1000 - ((mk : Int) + 1)) := wrap_mark mk hmk
      have hP3 := lt_of_heap h4.row
      clear hcur3 c2 c3 c6 cx hlen2 hA3 hH3 h2r s2 o2 a12 a2 e2r h2 h3 h6 hr hL ha h1 a01 hB2 hH2 a02 h e6 f6
      go_wp2_with fail
      generalize w2.setCell ⟨P, 4, none⟩ (.slice bp2 (xb.length + 1) bc2) = W3 at *
      go_region_law (refine step_append_sl rfl (.tmp 40) (.tmp 46) 44 rfl 3 i9 (.int .i64 0) 8 Try.underlying44 hi9 hy0 hy1 hy2 rfl (.slice hp xh.length hc) xh GH rfl (by first | exact hH4.kept (((Apart.refl [] W3).alloc _).drewN 1) (by simp) | exact hH4.kept (((Apart.refl [] W3).drewN 1).alloc _) (by simp)) ⟨W3.heap.size, 0, none⟩ 1 (.int .i64 (-1000 - ((mk : Int) + 1))) rfl (by simp) rfl (by omega) (by decide) ?_; intro hv' w4 GH' s4 a4 o4; have a34 : Apart GH.toList W3 w4 := ((((Apart.refl [] W3).alloc (.cells #[.int .i64 (-1000 - ((mk : Int) + 1))] 3)).drewN 1).mono (by simp)).trans a4; have h5 := h4.kept a34 (hH4.ne h4.row (by decide)); have e48 : ∃ y, w4.cell? ⟨P, 5, none⟩ = some y := ⟨_, (h5.cell 5).trans (Array.getElem?_eq_getElem (by rw [h5.size]; decide))⟩; obtain ⟨y8, e48⟩ := e48; have f48 := h5.free 5; have s34 := s3.kept a34 (s3.other hH4 (by decide)); have A34 := hA4.kept a34 hAH; obtain ⟨hp2, hc2, rfl⟩ := s4.shape)
      all_goals
        have hlw : (xh ++ [Value.int .i64 (-1000 - ((mk : Int) + 1))]).length = xh.length + 1 := by simp
        rw [hlw] at s4
        have s5 : SlAt (w4.setCell ⟨P, 5, none⟩ (.slice hp2 (xh.length + 1) hc2)) 3 (.slice hp2 (xh.length + 1) hc2) (xh ++ [Value.int .i64 (-1000 - ((mk : Int) + 1))]) GH' := s4.set h5.row (by decide)
        have s6 : SlAt (w4.setCell ⟨P, 5, none⟩ (.slice hp2 (xh.length + 1) hc2)) 44 (.slice bp2 (xb.length + 1) bc2) (xb ++ [Value.slice p l c]) GB' := s34.set h5.row (by decide)
        have A6 : AnsI (w4.setCell ⟨P, 5, none⟩ (.slice hp2 (xh.length + 1) hc2)) p l c (List.replicate l (-1000 - ((mk : Int) + 1))) GA := A34.set h5.row (by decide)
        have h6 := h5.set 5 (.slice hp2 (xh.length + 1) hc2)
        have a5 : Apart (P :: (GA.toList ++ (GB.toList ++ GH.toList))) w (w4.setCell ⟨P, 5, none⟩ (.slice hp2 (xh.length + 1) hc2)) := (a23.trans (a34.mono (by simp +contextual))).setCell (by simp) _
        have o4' : GH' = GH ∨ ∃ k, GH' = some k ∧ w.heap.size ≤ k := by
          rcases o4 with o4 | ⟨k, o4, o5⟩
          · exact .inl o4
          · exact .inr ⟨k, o4, by have := a23.size; first | omega | (simp at o5; omega)⟩
        have e62 : (w4.setCell ⟨P, 5, none⟩ (.slice hp2 (xh.length + 1) hc2)).cell? ⟨P, 4, none⟩ = some (.slice bp2 (xb.length + 1) bc2) := by
          rw [h6.cell 4, Array.getElem?_setIfInBounds_ne (by decide)]; exact HC.out.1
        have e63 : (w4.setCell ⟨P, 5, none⟩ (.slice hp2 (xh.length + 1) hc2)).cell? ⟨P, 5, none⟩ = some (.slice hp2 (xh.length + 1) hc2) := by
          rw [h6.cell 5, Array.getElem?_setIfInBounds_self_of_lt (by rw [h5.size]; decide)]
        have f62 := h6.free 4
        have f63 := h6.free 5
        have hP6 := lt_of_heap h6.row
        have k2 : (cur3.setIfInBounds 5 (.slice hp2 (xh.length + 1) hc2))[4]? = some (.slice bp2 (xb.length + 1) bc2) := by rw [Array.getElem?_setIfInBounds_ne (by decide)]; exact HC.out.1
        have k3 : (cur3.setIfInBounds 5 (.slice hp2 (xh.length + 1) hc2))[5]? = some (.slice hp2 (xh.length + 1) hc2) := by rw [Array.getElem?_setIfInBounds_self_of_lt (by rw [h5.size]; decide)]
        have k6 : (cur3.setIfInBounds 5 (.slice hp2 (xh.length + 1) hc2))[6]? = some (.int .i64 ((mk : Int) + 1)) := by rw [Array.getElem?_setIfInBounds_ne (by decide)]; exact HC.out.2.2.1
        have kx : ∀ i, i ≠ 4 → i ≠ 5 → i ≠ 6 → (cur3.setIfInBounds 5 (.slice hp2 (xh.length + 1) hc2))[i]? = cur[i]? := fun i i2 i3 i6 => by rw [Array.getElem?_setIfInBounds_ne (fun e => i3 e.symm)]; exact HC.out.2.2.2 i i2 i3 i6
        have HK : Hid ((cur3.setIfInBounds 5 (.slice hp2 (xh.length + 1) hc2))[4]? = some (.slice bp2 (xb.length + 1) bc2) ∧ (cur3.setIfInBounds 5 (.slice hp2 (xh.length + 1) hc2))[5]? = some (.slice hp2 (xh.length + 1) hc2) ∧ (cur3.setIfInBounds 5 (.slice hp2 (xh.length + 1) hc2))[6]? = some (.int .i64 ((mk : Int) + 1)) ∧ ∀ i, i ≠ 4 → i ≠ 5 → i ≠ 6 → (cur3.setIfInBounds 5 (.slice hp2 (xh.length + 1) hc2))[i]? = cur[i]?) := ⟨k2, k3, k6, kx⟩
        clear s4 s34 A34 a4 o4 e38 e36 f38 s3 hH4 hA4 h4 a23 a34 hlw h5 k2 k3 k6 kx HC e48 f48 hP3 e22 f22
        by_cases hq : 4 < xb.length + 1
        · cases GB' with
          | none => have := s6.2; simp at this
          | some gb =>
          cases GH' with
          | none => have := s5.2; simp at this
          | some gh =>
          have T6 := s6
          obtain ⟨ob, cb, ub, hvb, hrb, hlb, hzb, _⟩ := s6
          simp at hvb
          obtain ⟨rfl, rfl⟩ := hvb
          have T5 := s5
          obtain ⟨oh, ch, uh, hvh, hrh, hlh, hzh, _⟩ := s5
          simp at hvh
          obtain ⟨rfl, rfl⟩ := hvh
          have U6 := SlAt.tail (off := ob) (cap := bc2) (xs := xb ++ [Value.slice p l c]) (by simpa using T6) (by simp; omega)
          have U5 := SlAt.tail (off := oh) (cap := hc2) (xs := xh ++ [Value.int .i64 (-1000 - ((mk : Int) + 1))]) (by simpa using T5) (by have := HNH.out; simp; omega)
          have hqi : (4 : Int) < (xb.length : Int) + 1 := by omega
          simp at hlb hlh
          clear T6 T5 hrb hrh
          have HU : Hid (SlAt (w4.setCell ⟨P, 5, none⟩ (.slice (some ⟨gh, oh, none⟩) (xh.length + 1) hc2)) 44 (.slice (some ⟨gb, ob + 1, none⟩) xb.length (bc2 - 1)) (xb ++ [Value.slice p l c]).tail (some gb) ∧ SlAt (w4.setCell ⟨P, 5, none⟩ (.slice (some ⟨gh, oh, none⟩) (xh.length + 1) hc2)) 3 (.slice (some ⟨gh, oh + 1, none⟩) xh.length (hc2 - 1)) (xh ++ [Value.int .i64 (-1000 - ((mk : Int) + 1))]).tail (some gh)) := ⟨by simpa using U6, by simpa using U5⟩
          clear U5 U6
          generalize w4.setCell ⟨P, 5, none⟩ (.slice (some ⟨gh, oh, none⟩) (xh.length + 1) hc2) = W5 at *
          have hq2 : 4 < xh.length + 1 := by have := HNH.out; omega
          go_wp2
          go_end0
          have h61 := h6.set 4 (.slice (some ⟨gb, ob + 1, none⟩) xb.length (bc2 - 1))
          have h7 := h61.set 5 (.slice (some ⟨gh, oh + 1, none⟩) xh.length (hc2 - 1))
          have hsb : shifted (xb ++ [Value.slice p l c]) = (xb ++ [Value.slice p l c]).tail := by unfold shifted; rw [if_pos (by simp; omega)]
          have hsh : shifted (xh ++ [Value.int .i64 (-1000 - ((mk : Int) + 1))]) = (xh ++ [Value.int .i64 (-1000 - ((mk : Int) + 1))]).tail := by unfold shifted; rw [if_pos (by simp; omega)]
          obtain ⟨q2, q3, q6, qx⟩ := HK.out
          refine ⟨rfl, _, .slice (some ⟨gb, ob + 1, none⟩) xb.length (bc2 - 1), .slice (some ⟨gh, oh + 1, none⟩) xh.length (hc2 - 1), some gb, some gh, h7, ?_, ?_, ?_, ?_, ?_, ?_, (A6.set h6.row (by decide)).set h61.row (by decide), (a5.setCell (by simp) _).setCell (by simp) _, o2', o4'⟩
          · rw [Array.getElem?_setIfInBounds_ne (by decide), Array.getElem?_setIfInBounds_self_of_lt (by rw [h6.size]; decide)]
          · rw [Array.getElem?_setIfInBounds_self_of_lt (by rw [h61.size]; decide)]
          · rw [Array.getElem?_setIfInBounds_ne (by decide), Array.getElem?_setIfInBounds_ne (by decide)]; exact q6
          · intro i i2 i3 i6
            rw [Array.getElem?_setIfInBounds_ne (fun e => i3 e.symm), Array.getElem?_setIfInBounds_ne (fun e => i2 e.symm)]; exact qx i i2 i3 i6
          · rw [hsb]; exact (HU.out.1.set h6.row (by decide)).set h61.row (by decide)
          · rw [hsh]; exact (HU.out.2.set h6.row (by decide)).set h61.row (by decide)
        · have hqi : ¬ (4 : Int) < (xb.length : Int) + 1 := by omega
          go_wp2
          go_end0
          have hsb : shifted (xb ++ [Value.slice p l c]) = xb ++ [Value.slice p l c] := by unfold shifted; rw [if_neg (by simpa using hq)]
          have hsh : shifted (xh ++ [Value.int .i64 (-1000 - ((mk : Int) + 1))]) = xh ++ [Value.int .i64 (-1000 - ((mk : Int) + 1))] := by unfold shifted; rw [if_neg (by have := HNH.out; simp; omega)]
          refine ⟨rfl, _, _, _, GB', GH', h6, HK.out.1, HK.out.2.1, HK.out.2.2.1, HK.out.2.2.2, ?_, ?_, A6, a5, o2', o4'⟩
          · rw [hsb]; exact s6
          · rw [hsh]; exact s5
end Go.Proofs.Ythmloakkefiicaa.dk
