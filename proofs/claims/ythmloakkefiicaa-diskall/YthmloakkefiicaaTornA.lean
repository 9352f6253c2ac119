import Derived.Test.YthmloakkefiicaaLasts
import Derived.Test.YthmloakkefiicaaPuts
import Derived.Test.YthmloakkefiicaaTrace
import Derived.Deep.RegionHeld
namespace Go.Proofs.Ythmloakkefiicaa.dk
open Go.ChangeShapes Go.WideShapes Go.ChangeAt Go.RowKit

theorem wsub_pos (a : Int) (h1 : 1 ≤ a) (h2 : a ≤ 1000) : wsub a = a - 1 := by unfold wsub wrap64; omega
/-- a write whose first t bytes were done -/
def tornL (old bs : List Int) (t : Nat) : List Int := bs.take t ++ old.drop t
theorem sec_torn {w : World} {D S : Nat} {d : Dk} (h : DiskAt w D S d) (m : Nat) (hm : m < d.n) (bs : List Int) (hb : bs.length = 512) (t : Nat) (ht : t ≤ 512) (d' : Dk) (hd' : d'.mem = splice d.mem (m * 512) (bs.take t)) : d'.sec m = tornL (d.sec m) bs t := by
  have hl := h.lmem
  unfold Dk.sec splice tornL at *
  rw [hd', List.drop_append, List.drop_eq_nil_of_le (by simp only [List.length_take]; omega)]
  simp only [List.nil_append, List.length_take]
  rw [show m * 512 - min (m * 512) d.mem.length = 0 from by omega, List.drop_zero, List.take_append, List.take_of_length_le (by simp; omega)]
  congr 1
  simp only [List.length_take, hb]
  rw [show min t 512 = t from by omega, List.drop_take, ← List.drop_drop]
/-- one disk armed, what the law keeps up -/
structure TInv (w wr : World) (B n : Nat) (V : Value) (k t : Nat) (z : Int) (q : Nat) (d : Dk) (L : List (List Int)) (xs : List Value) : Prop where
  hd : DiskAt wr (B + 1) B d
  hw : Wants wr B V L xs
  hn : d.n = n
  hL : L.length = n
  sec : ∀ j, j < n → d.sec j = L.getD j []
  hb : Below B w wr
  hs : B ≤ wr.heap.size
  yes : q ≤ k → d.on = true ∧ d.armed = true ∧ d.after = (k : Int) - q ∧ d.torn = t ∧ d.writes = q
  no : k < q → d.on = false ∧ d.armed = false ∧ d.writes = k + 1 ∧ d.tr.getD (k % 64) 0 = z
theorem TInv.step {w wr w6 : World} {B n gw cw : Nat} {k t q : Nat} {z : Int} {d : Dk} {L : List (List Int)} {xs : List Value} (h : TInv w wr B n (.slice (some ⟨gw, 0, none⟩) n cw) k t z q d L xs) (m : Nat) (hm : m < n) (d' : Dk)
    (hd6 : DiskAt w6 (B + 1) B d') (a6 : Apart [B + 1, B] wr w6) (bs : List Int) (hmem : d'.sec m = bs) (hoth : ∀ j, j < n → j ≠ m → d'.sec j = d.sec j) (hn' : d'.n = d.n)
    {g c : Nat} (hb7 : Bytes w6 (.slice (some ⟨g, 0, none⟩) 512 c) g c bs)
    (yes : q + 1 ≤ k → d'.on = true ∧ d'.armed = true ∧ d'.after = (k : Int) - ((q + 1 : Nat) : Int) ∧ d'.torn = t ∧ d'.writes = q + 1)
    (no : k < q + 1 → d'.on = false ∧ d'.armed = false ∧ d'.writes = k + 1 ∧ d'.tr.getD (k % 64) 0 = z) :
    TInv w (w6.setCell ⟨gw, m, none⟩ (.slice (some ⟨g, 0, none⟩) 512 c)) B n (.slice (some ⟨gw, 0, none⟩) n cw) k t z (q + 1) d' (L.set m bs) (xs.set m (.slice (some ⟨g, 0, none⟩) 512 c)) := by
  have hL := h.hL
  have hw7 := h.hw.keptD h.hd a6
  obtain ⟨_, _, e, hgw⟩ := hw7.shapeN hL (by omega)
  simp at e
  obtain ⟨rfl, rfl⟩ := e
  rw [← hL] at hw7
  have hw8 := hw7.set hb7 m (by omega)
  obtain ⟨cur, hcur⟩ := own_typ hw7.own (k := gw) rfl
  have hne : ∀ x, x ∈ [B + 1, B] → x ∉ [gw] := by
    intro x hx hx2
    simp at hx2; subst hx2
    exact hd6.not30 _ _ hx hcur
  refine ⟨hd6.kept hw8.2 (hne _ (by simp)) (hne _ (by simp)), ?_, by rw [hn', h.hn], by simp [hL], fun j hj => ?_, ?_, ?_, yes, no⟩
  · rw [← hL]; exact hw8.1
  · by_cases e : m = j
    · subst e
      rw [getD_set_same _ _ _ _ (by omega)]; exact hmem
    · rw [getD_set_other _ _ _ _ _ e, ← h.sec j hj]
      exact hoth j hj (fun x => e x.symm)
  · exact (h.hb.trans (a6.below h.hs (by simp))).setCell hgw _
  · have := a6.size; have := h.hs; simp [World.setCell]; omega
theorem TInv.same {w wr w' : World} {B n : Nat} {V : Value} {k t q q' : Nat} {z : Int} {d d' : Dk} {L : List (List Int)} {xs : List Value} (h : TInv w wr B n V k t z q d L xs) (hd' : DiskAt w' (B + 1) B d') (a : Apart [B + 1, B] wr w') (hmem : d'.mem = d.mem) (hn' : d'.n = d.n)
    (yes : q' ≤ k → d'.on = true ∧ d'.armed = true ∧ d'.after = (k : Int) - q' ∧ d'.torn = t ∧ d'.writes = q')
    (no : k < q' → d'.on = false ∧ d'.armed = false ∧ d'.writes = k + 1 ∧ d'.tr.getD (k % 64) 0 = z) : TInv w w' B n V k t z q' d' L xs :=
  ⟨hd', h.hw.keptD h.hd a, by rw [hn', h.hn], h.hL, fun j hj => by rw [← h.sec j hj]; simp [Dk.sec, hmem], h.hb.trans (a.below h.hs (by simp)), Nat.le_trans h.hs a.size, yes, no⟩
theorem tr_noted {w : World} {D S : Nat} {d : Dk} (h : DiskAt w D S d) (s : Int) : (d.noted s).tr.getD (d.writes % 64) 0 = s := by
  have := h.ltr
  exact getD_set_same _ _ _ _ (by have := Nat.mod_lt d.writes (show 64 > 0 by decide); omega)
/-- what 'copy(part[t:], old[t:])' leaves -/
theorem part_run {w : World} {g1 c1 g2 c2 : Nat} {bs old : List Int} (h1 : Bytes w (.slice (some ⟨g1, 0, none⟩) 512 c1) g1 c1 bs) (h2 : Bytes w (.slice (some ⟨g2, 0, none⟩) 512 c2) g2 c2 old) (hb : bs.length = 512) (ho : old.length = 512) (t : Nat) (ht : t < 512) :
    ∃ w', Sem.run Try.prog (Builtin.copy_ #[30, 30] 3 #[Value.slice (some ⟨g1, t, none⟩) (512 - t) (c1 - t), Value.slice (some ⟨g2, t, none⟩) (512 - t) (c2 - t)]) w = .ok (goInt ((512 - t : Nat) : Int)) w' ∧ Bytes w' (.slice (some ⟨g1, 0, none⟩) 512 c1) g1 c1 (tornL old bs t) ∧ Apart [g1] w w' := by
  obtain ⟨arr, hr, hsz⟩ := h1.row
  have hle := h1.le
  have hl : (u8s (old.drop t)).length = 512 - t := by rw [u8s_length, List.length_drop, ho]
  have := run_copy_row Try.prog w 30 30 3 5 g1 t (512 - t) (c1 - t) ⟨g2, t, none⟩ (512 - t) (c2 - t) arr 5 (u8s (old.drop t)) Try.underlying30 (by kernel_rfl) hr (by rw [hl]; exact (Nat.min_self _).symm) (fun j v hv => by
    obtain ⟨hj, rfl⟩ := u8s_at _ j v hv
    simp at hj
    rw [Addr.add_lit, h2.cells _ (by omega)]
    simp [List.getD_eq_getElem?_getD, List.getElem?_drop]) (by rw [hl]; omega) (u8s_one _)
  refine ⟨_, by rw [this, hl], ?_, (Apart.refl _ _).setRow (by simp) _⟩
  have htl : (tornL old bs t).length = 512 := by simp [tornL]; omega
  refine ⟨by rw [htl], fun j hj => ?_, by omega, ⟨_, setRow_heap _ _ _ _ _ _ hr, ?_⟩, by omega⟩
  · rw [cell_setRow_same _ _ _ _ _ _ _ hr]
    simp only [List.getElem?_toArray]
    have ha : ∀ i, i < 512 → arr.toList[i]? = some (.int .u8 (bs.getD i 0)) := by
      intro i hi
      have := h1.cells i (by omega)
      rw [cell_of_row _ _ _ _ _ _ hr] at this
      simpa using this
    by_cases hjt : j < t
    · rw [List.append_assoc, List.getElem?_append_left (by simp; omega), List.getElem?_take_of_lt hjt, ha j (by omega)]
      congr 2
      rw [tornL, getD_left _ _ _ _ (by simp; omega)]
      simp [List.getD_eq_getElem?_getD, List.getElem?_take_of_lt hjt]
    · rw [List.append_assoc, List.getElem?_append_right (by simp; omega), List.getElem?_append_left (by rw [hl]; simp; omega)]
      have e : (arr.toList.take t).length = t := by simp; omega
      rw [e]
      have e2 : (u8s (old.drop t))[j - t]? = some (.int .u8 ((old.drop t).getD (j - t) 0)) := by
        simp [u8s, List.getElem?_eq_getElem (show j - t < (old.drop t).length by simp; omega)]
      rw [e2]
      congr 2
      simp only [tornL, List.getD_eq_getElem?_getD]
      rw [List.getElem?_append_right (by simp; omega)]
      simp only [List.length_take, hb]
      rw [show min t 512 = t from by omega]
  · simp; rw [hl]; omega
end Go.Proofs.Ythmloakkefiicaa.dk
