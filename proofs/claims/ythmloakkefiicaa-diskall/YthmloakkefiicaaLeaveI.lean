import Derived.Test.YthmloakkefiicaaStands
import Derived.Test.YthmloakkefiicaaTrace
namespace Go.Proofs.Ythmloakkefiicaa.dk
open Go.ChangeShapes Go.WideShapes Go.ChangeAt Go.RowKit
theorem own_lentI {w : World} {base n : Nat} {v : Value} {bs : List Int} (h : w.ownsRow base 3 1 v n (i64s bs)) (hn : 0 < n) (hl : bs.length = n) : ∃ g c, v = .slice (some ⟨g, 0, none⟩) n c ∧ base ≤ g ∧ LentI w g n c bs := by
  have h0 := h
  obtain ⟨_, ⟨_, hz⟩ | ⟨g, cap, cur, rfl, hb, hr, hle, _, hcs, _⟩⟩ := h
  · omega
  · refine ⟨g, cap, rfl, hb, ⟨⟨cur, hr, by omega⟩, fun j hj => ?_, hl, hle⟩⟩
    rw [h0.cellAt j (by omega)]
    simp [i64s, show j < bs.length by omega]
theorem run_append_ints (w : World) (ty : TypeId) (g l c : Nat) (bs : List Int) (h : LentI w g l c bs) (hl : l ≤ 1000000) (i : TypeInfo) (hi : Try.prog.info? 3 = some i) (hz : i.zero = some (.int .i64 0)) (hsize : i.size = 1) (hby : i.bytes = 8) :
    ∃ p' c' w' G', (Builtin.append_ #[44, 44] ty #[.slice none 0 0, .slice (some ⟨g, 0, none⟩) l c]).run Try.prog w = .ok (.slice p' l c') w' ∧ AnsI w' p' l c' bs G' ∧ Apart [] w w' ∧ (∀ k, G' = some k → w.heap.size ≤ k) := by
  have hlen := h.len
  obtain ⟨v', w', hrun, r1, r2, r3⟩ := run_append_own (P := Try.prog) w w.heap.size 44 ty 3 i (.int .i64 0) 1 8 Try.underlying44 hi hz hsize hby rfl (by decide) (.slice none 0 0) 0 [] (World.ownsRow_nil w _ 3 1) ⟨g, 0, none⟩ l c (i64s bs) (by simp [i64s, hlen]) (by
    intro j u hj
    simp only [i64s, List.getElem?_map, Option.map_eq_some_iff] at hj
    obtain ⟨x, hx, rfl⟩ := hj
    have hjl : j < bs.length := (List.getElem?_eq_some_iff.1 hx).1
    rw [Addr.add_lit, Nat.zero_add, h.cells j (by omega), List.getD_eq_getElem?_getD, hx]; rfl) (by
    intro u hu; simp [i64s] at hu; obtain ⟨x, _, rfl⟩ := hu; rfl) (by unfold maxLen; omega) (by omega) (Nat.le_refl _)
  rw [Nat.zero_add] at r1
  by_cases h0 : l = 0
  · subst h0
    have hv := r3.2 ⟨rfl, rfl⟩
    subst hv
    exact ⟨none, 0, w', none, hrun, ⟨rfl, rfl, rfl, List.eq_nil_of_length_eq_zero hlen⟩, apart_grown r2, by simp⟩
  · obtain ⟨g', c', rfl, hg', hL⟩ := own_lentI (bs := bs) (by simpa using r1) (by omega) hlen
    exact ⟨_, c', w', some g', hrun, ⟨rfl, hL⟩, apart_grown r2, by simpa using hg'⟩
theorem step_append_ints {w : World} {ops : Array Oper} {o : Oper} {a : Act} {K : Act → World → Prop} {Q : Exit → Act → World → Prop} {E : Prop} (hgd : o.guard = none) (x : Operand)
    (ho : o.op = .call { callee := .builtin .append, args := #[.const (.slice none 0 0), x], argTypes := #[44, 44] })
    (g l c : Nat) (bs : List Int) (h : LentI w g l c bs) (hl : l ≤ 1000000) (hx : a.eval x = .slice (some ⟨g, 0, none⟩) l c)
    (hK : ∀ p' c' w' G', AnsI w' p' l c' bs G' → Apart [] w w' → (∀ k, G' = some k → w.heap.size ≤ k) → K (a.put o.dst (.slice p' l c')) w') : if Region.wanted o (yielded ops a.tmps) = true then Oper.wp Try.prog o a w K Q else E := by
  have hw : Region.wanted o (yielded ops a.tmps) = true := by simp [Region.wanted, hgd]
  rw [if_pos hw]
  obtain ⟨i9, hi9, hy0, hy1, hy2⟩ := info_parts info3
  obtain ⟨p', c', w', G', hrun, r1, r2, r3⟩ := run_append_ints w o.type g l c bs h hl i9 hi9 hy0 hy1 hy2
  have hc0 : a.eval (.const (.slice none 0 0)) = .slice none 0 0 := rfl
  unfold Oper.wp
  simp [execOp, ho, resolve, invoke, builtin, hc0, hx, hrun, Result.andThen]
  exact hK p' c' w' G' r1 r2 r3
theorem leaveInts_no (w : World) (P : Nat) (cur : Array Value) (h : PRow w P cur) (p : Option Addr) (l c : Nat) (n : Nat) (lp : Option Addr) (lc : Nat) (h9 : cur[9]? = some (.slice lp n lc)) (hno : 100 ≤ n) :
    Calls Try.prog 60 #[.pointer (some ⟨P, 2, none⟩), .slice p l c] w fun r w' => r = .returned (.bool false) ∧ w' = w := by
  have e9 := (h.cell 9).trans h9
  have hn : (100 : Int) ≤ n := by omega
  go_enter Try.func60, Try.ntmps60
  go_wp2
  go_ret
  exact ⟨rfl, rfl⟩
def LeaveIPost (w : World) (P : Nat) (cur : Array Value) (p : Option Addr) (l c : Nat) (bs : List Int) (xn xw : List Value) (GN GW : Option Nat) (r : Ending) (w' : World) : Prop :=
  r = .returned (.bool true) ∧ ∃ cur' nv' wv' GN' GW' p' c' G', PRow w' P cur' ∧ cur'[9]? = some nv' ∧ cur'[10]? = some wv' ∧ (∀ i, i ≠ 9 → i ≠ 10 → cur'[i]? = cur[i]?) ∧
    SlAt w' 44 nv' (xn ++ [Value.slice p l c]) GN' ∧ SlAt w' 44 wv' (xw ++ [Value.slice p' l c']) GW' ∧ AnsI w' p' l c' bs G' ∧ (∀ k, G' = some k → w.heap.size ≤ k) ∧
    Apart (P :: (GN.toList ++ GW.toList)) w w' ∧ (GN' = GN ∨ ∃ k, GN' = some k ∧ w.heap.size ≤ k) ∧ (GW' = GW ∨ ∃ k, GW' = some k ∧ w.heap.size ≤ k) ∧ (∀ k, GN' = some k → GW' ≠ some k)
set_option maxHeartbeats 2000000 in
set_option maxRecDepth 20000 in
theorem leaveInts_yes (w : World) (P : Nat) (cur : Array Value) (h : PRow w P cur) (g l c : Nat) (bs : List Int) (hb : LentI w g l c bs) (hl : l ≤ 1000000) (nv wv : Value) (xn xw : List Value) (GN GW : Option Nat) (hN : SlAt w 44 nv xn GN) (hW : SlAt w 44 wv xw GW) (hNW : ∀ k, GN = some k → GW ≠ some k)
    (h9 : cur[9]? = some nv) (h10 : cur[10]? = some wv) (hn : xn.length < 100) (hnw : xw.length < 100) :
    Calls Try.prog 60 #[.pointer (some ⟨P, 2, none⟩), .slice (some ⟨g, 0, none⟩) l c] w fun r w' => LeaveIPost w P cur (some ⟨g, 0, none⟩) l c bs xn xw GN GW r w' := by
  have e9 := (h.cell 9).trans h9
  have f9 := h.free 9
  obtain ⟨np, nc, rfl⟩ := hN.shape
  obtain ⟨wp, wc, rfl⟩ := hW.shape
  have hn' : ¬ ((100 : Int) ≤ xn.length) := by omega
  obtain ⟨i0, hi, hz0, hz1, hz2⟩ := info_parts info44
  have hPl := lt_of_heap h.row
  go_enter Try.func60, Try.ntmps60
  go_wp2_with (at_builtin; refine wpList_append_sl rfl (.tmp 15) (.tmp 17) 62 rfl 44 i0 (.slice none 0 0) 24 Try.underlying62 hi hz0 hz1 hz2 rfl (.slice np xn.length nc) xn GN rfl (hN.kept ((Apart.refl [] _).alloc _) (by simp)) ⟨w.heap.size, 0, none⟩ 1 (.slice (some ⟨g, 0, none⟩) l c) rfl (by simp) rfl (by omega) (by decide) ?_)
  intro nv' w2 GN' s2 a2 o2
  have a12 : Apart GN.toList w w2 := (((Apart.refl [] _).alloc _).mono (by simp)).trans a2
  have h2 := h.kept a12 (hN.ne h.row (by decide))
  have hb2 : LentI w2 g l c bs := hb.kept a12 (by obtain ⟨cu, hcu⟩ := hb.typ; exact hN.ne hcu (by decide))
  have hW2 := hW.kept a12 (fun k hk hm => by
    cases GN with
    | none => simp at hm
    | some j => simp at hm; subst hm; exact hNW _ rfl hk)
  have o2' : GN' = GN ∨ ∃ k, GN' = some k ∧ w.heap.size ≤ k := by
    rcases o2 with o2 | ⟨k, o2, o3⟩
    · exact .inl o2
    · exact .inr ⟨k, o2, by first | omega | (simp at o3; omega)⟩
  have hNW2 : ∀ k, GN' = some k → GW ≠ some k := by
    intro k hk hkw
    rcases o2' with o | ⟨j, o, o3⟩
    · rw [o] at hk; exact hNW k hk hkw
    · rw [o] at hk; cases hk
      rw [hkw] at hW
      obtain ⟨c1, e1⟩ := hW.typ
      have := lt_of_heap e1; omega
  obtain ⟨np2, nc2, rfl⟩ := s2.shape
  have hlen2 : (xn ++ [Value.slice (some ⟨g, 0, none⟩) l c]).length = xn.length + 1 := by simp
  rw [hlen2] at s2
  obtain ⟨y9, e29⟩ : ∃ y, w2.cell? ⟨P, 9, none⟩ = some y := ⟨_, (h2.cell 9).trans (Array.getElem?_eq_getElem (by rw [h2.size]; decide))⟩
  have f29 := h2.free 9
  have h3 := h2.set 9 (.slice np2 (xn.length + 1) nc2)
  have a03 : Apart (P :: (GN.toList ++ GW.toList)) w (w2.setCell ⟨P, 9, none⟩ (.slice np2 (xn.length + 1) nc2)) := (a12.mono (by simp +contextual)).setCell (by simp) _
  have s3 : SlAt (w2.setCell ⟨P, 9, none⟩ (.slice np2 (xn.length + 1) nc2)) 44 (.slice np2 (xn.length + 1) nc2) (xn ++ [Value.slice (some ⟨g, 0, none⟩) l c]) GN' := s2.set h2.row (by decide)
  have hW3 : SlAt (w2.setCell ⟨P, 9, none⟩ (.slice np2 (xn.length + 1) nc2)) 44 (.slice wp xw.length wc) xw GW := hW2.set h2.row (by decide)
  have hb3 : LentI (w2.setCell ⟨P, 9, none⟩ (.slice np2 (xn.length + 1) nc2)) g l c bs := hb2.kept ((Apart.refl [P] _).setCell (by simp) _) (by
    obtain ⟨cu, hcu⟩ := hb2.typ
    intro hm; simp at hm; subst hm
    rw [h2.row] at hcu; simp at hcu)
  have c10 : (cur.setIfInBounds 9 (.slice np2 (xn.length + 1) nc2))[10]? = some (.slice wp xw.length wc) := by rw [Array.getElem?_setIfInBounds_ne (by decide)]; exact h10
  have e10 := (h3.cell 10).trans c10
  have f10 := h3.free 10
  have hP3 := lt_of_heap h3.row
  have HC : Hid (∀ i, i ≠ 9 → (cur.setIfInBounds 9 (.slice np2 (xn.length + 1) nc2))[i]? = cur[i]?) := fun i i9 => Array.getElem?_setIfInBounds_ne (fun e => i9 e.symm)
  have HC9 : Hid ((cur.setIfInBounds 9 (.slice np2 (xn.length + 1) nc2))[9]? = some (.slice np2 (xn.length + 1) nc2)) := Array.getElem?_setIfInBounds_self_of_lt (by rw [h.size]; decide)
  clear hlen2 s2 o2 a12 a2 h2 hW2 hb2 hN hW hb h e9 f9 c10 h9 h10
  go_wp2_with fail
  generalize cur.setIfInBounds 9 (.slice np2 (xn.length + 1) nc2) = cur3 at *
  generalize w2.setCell ⟨P, 9, none⟩ (.slice np2 (xn.length + 1) nc2) = W3 at *
  go_region_law (first | (refine step_append_ints rfl (.tmp 26) rfl g l c bs (hb3.kept ((Apart.refl [] W3).drewN 1) (by simp)) hl rfl ?_; intro p' c' wA GA hA aA nA; have a3A : Apart [] W3 wA := ((Apart.refl [] W3).drewN 1).trans aA; have eA10 := a3A.keep e10; have hA3 := h3.kept a3A (by simp); have fA10 := hA3.free 10; have hPA := lt_of_heap hA3.row; have sA := s3.kept a3A (by simp); have hWA := hW3.kept a3A (by simp)) | (refine step_append_sl rfl (.tmp 25) (.tmp 28) 62 rfl 44 i0 (.slice none 0 0) 24 Try.underlying62 hi hz0 hz1 hz2 rfl (.slice wp xw.length wc) xw GW rfl (hWA.kept ((Apart.refl [] _).alloc _) (by simp)) ⟨wA.heap.size, 0, none⟩ 1 (.slice p' l c') rfl (by simp) rfl (by omega) (by decide) ?_; intro wv' w4 GW' s4 a4 o4; have aA4 : Apart GW.toList wA w4 := (((Apart.refl [] wA).alloc (.cells #[.slice p' l c'] 44)).mono (by simp)).trans a4; have h4 := hA3.kept aA4 (hWA.ne hA3.row (by decide)); obtain ⟨y10, e410⟩ : ∃ y, w4.cell? ⟨P, 10, none⟩ = some y := ⟨_, (h4.cell 10).trans (Array.getElem?_eq_getElem (by rw [h4.size]; decide))⟩; have f410 := h4.free 10; obtain ⟨wp2, wc2, rfl⟩ := s4.shape))
  all_goals
    have hlw : (xw ++ [Value.slice p' l c']).length = xw.length + 1 := by simp
    rw [hlw] at s4
    have s44 := sA.kept aA4 (fun k hk hm => by
      cases GW with
      | none => simp at hm
      | some j => simp at hm; subst hm; exact hNW2 _ hk rfl)
    have A4 := hA.kept aA4 (hA.other hWA (by decide))
    have s5 : SlAt (w4.setCell ⟨P, 10, none⟩ (.slice wp2 (xw.length + 1) wc2)) 44 (.slice wp2 (xw.length + 1) wc2) (xw ++ [Value.slice p' l c']) GW' := s4.set h4.row (by decide)
    have s6 : SlAt (w4.setCell ⟨P, 10, none⟩ (.slice wp2 (xw.length + 1) wc2)) 44 (.slice np2 (xn.length + 1) nc2) (xn ++ [Value.slice (some ⟨g, 0, none⟩) l c]) GN' := s44.set h4.row (by decide)
    have A6 : AnsI (w4.setCell ⟨P, 10, none⟩ (.slice wp2 (xw.length + 1) wc2)) p' l c' bs GA := A4.set h4.row (by decide)
    have h6 := h4.set 10 (.slice wp2 (xw.length + 1) wc2)
    have a5 : Apart (P :: (GN.toList ++ GW.toList)) w (w4.setCell ⟨P, 10, none⟩ (.slice wp2 (xw.length + 1) wc2)) := ((a03.trans (a3A.mono (by simp))).trans (aA4.mono (by simp +contextual))).setCell (by simp) _
    have hsA := a3A.size
    have hs3 := a03.size
    have o4' : GW' = GW ∨ ∃ k, GW' = some k ∧ w.heap.size ≤ k := by
      rcases o4 with o4 | ⟨k, o4, o5⟩
      · exact .inl o4
      · exact .inr ⟨k, o4, by first | omega | (simp at o5; omega)⟩
    have nA' : ∀ k, GA = some k → w.heap.size ≤ k := fun k hk => by
      have := nA k hk
      first | omega | (simp at this; omega)
    have hNW' : ∀ k, GN' = some k → GW' ≠ some k := by
      intro k hk hkw
      rcases o4 with o | ⟨j, o, o3⟩
      · exact hNW2 k hk (o ▸ hkw)
      · rw [o] at hkw; cases hkw
        rw [hk] at sA
        obtain ⟨c1, e1⟩ := sA.typ
        have := lt_of_heap e1
        first | omega | (simp at o3; omega)
    have H9 : Hid ((cur3.setIfInBounds 10 (.slice wp2 (xw.length + 1) wc2))[9]? = some (.slice np2 (xn.length + 1) nc2) ∧ (cur3.setIfInBounds 10 (.slice wp2 (xw.length + 1) wc2))[10]? = some (.slice wp2 (xw.length + 1) wc2) ∧ ∀ i, i ≠ 9 → i ≠ 10 → (cur3.setIfInBounds 10 (.slice wp2 (xw.length + 1) wc2))[i]? = cur[i]?) :=
      ⟨by rw [Array.getElem?_setIfInBounds_ne (by decide)]; exact HC9.out, Array.getElem?_setIfInBounds_self_of_lt (by rw [h4.size]; decide), fun i i9 i10 => by rw [Array.getElem?_setIfInBounds_ne (fun e => i10 e.symm)]; exact HC.out i i9⟩
    clear s4 s44 A4 hA aA nA sA hWA aA4 a4 o4 h4 hA3 s3 hW3 hb3 h3 a03 a3A hlw HC HC9 e410 f410 eA10 fA10
    go_wp2
    go_ret
    exact ⟨rfl, _, _, _, GN', GW', p', c', GA, h6, H9.out.1, H9.out.2.1, H9.out.2.2, s6, s5, A6, nA', a5, o2', o4', hNW'⟩
end Go.Proofs.Ythmloakkefiicaa.dk
