import Derived.Test.YthmloakkefiicaaRefW
namespace Go.Proofs.Ythmloakkefiicaa.dk
open Go.ChangeShapes Go.WideShapes Go.ChangeAt Go.RowKit
theorem flat_at : ∀ (l : List Rw) (k : Nat) (h : k < l.length), (l.flatMap wcells)[k * 3]? = some (.int .i64 l[k].s) ∧ (l.flatMap wcells)[k * 3 + 1]? = some (.int .i64 l[k].k) ∧ (l.flatMap wcells)[k * 3 + 2]? = some l[k].v := by
  intro l
  induction l with
  | nil => intro k h; simp at h
  | cons x r ih =>
    intro k h
    cases k with
    | zero => simp [wcells]
    | succ k =>
      have := ih k (by simpa using h)
      rw [show (k + 1) * 3 = k * 3 + 3 from by omega]
      simpa [wcells] using this
/-- the log's cells -/
theorem RefAt.logAt {w : World} {R : Nat} {r : Rf} (h : RefAt w R r) (k : Nat) (hk : k < r.log.length) : ∃ g c, r.lv = .slice (some ⟨g, 0, none⟩) r.log.length c ∧ w.cell? ⟨g, k * 3, none⟩ = some (.int .i64 r.log[k].s) ∧ w.cell? ⟨g, k * 3 + 1, none⟩ = some (.int .i64 r.log[k].k) ∧ w.cell? ⟨g, k * 3 + 2, none⟩ = some r.log[k].v := by
  have h0 := h.own
  obtain ⟨hl, ⟨hv, hz⟩ | ⟨g, cap, cur, hv, hb, hr, hrest⟩⟩ := h.own
  · omega
  · rw [hv] at h0
    obtain ⟨f0, f1, f2⟩ := flat_at r.log k hk
    exact ⟨g, cap, hv, by rw [h0.cellAt _ (by omega), f0], by rw [h0.cellAt _ (by omega), f1], by rw [h0.cellAt _ (by omega), f2]⟩
theorem OwnB.at {w : World} {v : Value} {bs : List Int} (h : OwnB w v bs) (hp : 0 < bs.length) : ∃ g c, v = .slice (some ⟨g, 0, none⟩) bs.length c ∧ ∀ j, j < bs.length → w.cell? ⟨g, j, none⟩ = some (.int .u8 (bs.getD j 0)) := by
  obtain ⟨g, c, hb, _⟩ := own_bytes (base := 0) h hp
  exact ⟨g, c, hb.val, hb.cells⟩
/-- one sector, as the log makes it -/
def overL (old bs : List Int) (k : Nat) : List Int := bs.take k ++ old.drop k
def secStep (m : Nat) (acc : List Int) (x : Rw) : List Int := if x.s = m then overL acc x.bs x.k else acc
def Rf.sec0 (r : Rf) (m : Nat) : List Int := if r.first = [] then rep 512 0 else (r.first.drop (512 * m)).take 512
def Rf.secK (r : Rf) (m k : Nat) : List Int := (r.log.take k).foldl (secStep m) (r.sec0 m)
def Rf.sec (r : Rf) (m : Nat) : List Int := r.log.foldl (secStep m) (r.sec0 m)
theorem secK_succ (r : Rf) (m k : Nat) (h : k < r.log.length) : r.secK m (k + 1) = secStep m (r.secK m k) r.log[k] := by
  unfold Rf.secK
  rw [List.take_succ_eq_append_getElem h, List.foldl_append]; rfl
theorem secK_full (r : Rf) (m : Nat) : r.secK m r.log.length = r.sec m := by unfold Rf.secK Rf.sec; rw [List.take_length]
theorem overL_length (old bs : List Int) (k : Nat) (ho : old.length = 512) (hb : bs.length = 512) (hk : k ≤ 512) : (overL old bs k).length = 512 := by simp [overL]; omega
theorem overL_zero (old bs : List Int) : overL old bs 0 = old := by simp [overL]
theorem overL_succ (old bs : List Int) (k : Nat) (ho : old.length = 512) (hb : bs.length = 512) (hk : k < 512) : (u8s (overL old bs k)).toArray.setIfInBounds k (.int .u8 (bs.getD k 0)) = (u8s (overL old bs (k + 1))).toArray := by
  have e : (overL old bs k).set k (bs.getD k 0) = overL old bs (k + 1) := by
    unfold overL
    have e1 : (bs.take k).length = k := by simp; omega
    rw [List.set_append_right _ _ (by omega), e1, Nat.sub_self, List.take_succ_eq_append_getElem (by omega), List.append_assoc]
    congr 1
    rw [List.drop_eq_getElem_cons (show k < old.length by omega), List.set_cons_zero, List.getD_eq_getElem?_getD, List.getElem?_eq_getElem (by omega)]
    rfl
  rw [← e]
  simp [u8s, List.map_set]
def part0 (f : List Int) (m i : Nat) : List Int := ((f.drop (512 * m)).take 512).take i ++ rep (512 - i) 0
theorem part0_length (f : List Int) (m i : Nat) (hf : 512 * m + 512 ≤ f.length) (hi : i ≤ 512) : (part0 f m i).length = 512 := by simp [part0, rep]; omega
theorem part0_succ (f : List Int) (m i : Nat) (hf : 512 * m + 512 ≤ f.length) (hi : i < 512) : (u8s (part0 f m i)).toArray.setIfInBounds i (.int .u8 (f.getD (512 * m + i) 0)) = (u8s (part0 f m (i + 1))).toArray := by
  have hl : ((f.drop (512 * m)).take 512).length = 512 := by simp; omega
  have e : (part0 f m i).set i (f.getD (512 * m + i) 0) = part0 f m (i + 1) := by
    unfold part0
    have e1 : (((f.drop (512 * m)).take 512).take i).length = i := by rw [List.length_take, hl]; omega
    have e2 : ((f.drop (512 * m)).take 512).take (i + 1) = ((f.drop (512 * m)).take 512).take i ++ [((f.drop (512 * m)).take 512)[i]'(by rw [hl]; exact hi)] := List.take_succ_eq_append_getElem (by rw [hl]; exact hi)
    rw [List.set_append_right _ _ (by omega), e1, Nat.sub_self, e2, List.append_assoc]
    congr 1
    rw [show 512 - i = (512 - (i + 1)) + 1 from by omega]
    simp [rep, List.replicate_succ, List.getD_eq_getElem?_getD, show 512 * m + i < f.length by omega]
  rw [← e]
  simp [u8s, List.map_set]
theorem part0_done (r : Rf) (m k : Nat) (hf : r.first = [] ∨ r.first.length = r.n * 512) (hk0 : r.first = [] → k = 0) (hk : k ≤ 512) (hd : ¬ (k < 512 ∧ 0 < r.first.length)) : part0 r.first m k = r.sec0 m := by
  unfold Rf.sec0
  by_cases e : r.first = []
  · rw [if_pos e, hk0 e, part0]; simp
  · rw [if_neg e]
    have hl : 0 < r.first.length := List.length_pos_iff.2 e
    have hf2 : r.first.length = r.n * 512 := by
      rcases hf with x | x
      · exact absurd x e
      · exact x
    have : k = 512 := by omega
    subst this
    rw [part0, List.take_of_length_le (by simp; omega)]
    simp [rep]
theorem sec0_length (r : Rf) (m : Nat) (hm : m < r.n) (hf : r.first = [] ∨ r.first.length = r.n * 512) : (r.sec0 m).length = 512 := by
  unfold Rf.sec0
  by_cases e : r.first = []
  · rw [if_pos e, rep_length]
  · rw [if_neg e]
    rcases hf with x | x
    · exact absurd x e
    · simp; omega
theorem secK_length {w : World} {R : Nat} {r : Rf} (h : RefAt w R r) (m : Nat) (hm : m < r.n) (hf : r.first = [] ∨ r.first.length = r.n * 512) : ∀ k, k ≤ r.log.length → (r.secK m k).length = 512 := by
  intro k
  induction k with
  | zero => intro _; exact sec0_length r m hm hf
  | succ k ih =>
    intro hk
    rw [secK_succ r m k (by omega), secStep]
    have e := (h.each r.log[k] (List.getElem_mem _)).2
    split
    · exact overL_length _ _ _ (ih (by omega)) e.1 e.2.1
    · exact ih (by omega)
set_option maxHeartbeats 1000000 in
set_option maxRecDepth 10000 in
theorem rbytes_any {w : World} {R : Nat} {r : Rf} (h : RefAt w R r) (m : Nat) (hm : m < r.n) (hf : r.first = [] ∨ r.first.length = r.n * 512) (hlog : r.log.length ≤ 1000000) :
    Calls Try.prog 56 #[.pointer (some ⟨R, 0, none⟩), .int .i64 m] w fun e w' => ∃ g, e = .returned (.slice (some ⟨g, 0, none⟩) 512 512) ∧ w'.heap[g]? = some (.cells (u8s (r.sec m)).toArray 5 (0, 0)) ∧ (r.sec m).length = 512 ∧ w.heap.size ≤ g ∧ Apart [] w w' := by
  have hn := h.hn
  have hRl := lt_of_heap h.hr
  have h1 := h.r1
  have h2 := h.r2
  obtain ⟨fp, fc, hfv⟩ := own_shape h.hf
  obtain ⟨lp, lc, hlv⟩ := own_shape h.own
  rw [hfv] at h1
  rw [hlv] at h2
  have HFV : Hid (r.fv = .slice fp r.first.length fc) := hfv
  have HLV : Hid (r.lv = .slice lp r.log.length lc) := hlv
  clear hfv hlv
  have hrun : Sem.run Try.prog (Instr.makeSlice 30 (Value.int .i64 512) (Value.int .i64 512)) w = _ := make_bytes w 512 (by decide)
  obtain ⟨Z, hZ⟩ : ∃ Z, Z = rep 512 0 := ⟨_, rfl⟩
  rw [← hZ] at hrun
  have HZ : Hid (Z = rep 512 0) := hZ
  clear hZ
  go_enter Try.func56, Try.ntmps56
  go_wp2
  go_loopw [6] (fun i wr => ∃ k : Nat, k ≤ 512 ∧ i = .int .i64 k ∧ (r.first = [] → k = 0) ∧ wr.heap[w.heap.size]? = some (.cells (u8s (part0 r.first m k)).toArray 5 (0, 0)) ∧ Apart [] w wr) (fun i _ => 512 - (intOf i).toNat)
  case atStart =>
    refine ⟨0, Nat.zero_le _, rfl, fun _ => rfl, ?_, (Apart.refl _ _).alloc _⟩
    rw [heap_alloc_new, HZ.out]
    simp [part0]
  case round =>
    clear hrun
    obtain ⟨k, hk, rfl, hk0, hb, ha⟩ := hrel
    have h1r := (ha.cell (p := ⟨R, 1, none⟩) hRl (by simp)).trans h1
    have h2r := (ha.cell (p := ⟨R, 2, none⟩) hRl (by simp)).trans h2
    have HB : Hid (wr.heap[w.heap.size]? = some (.cells (u8s (part0 r.first m k)).toArray 5 (0, 0))) := hb
    by_cases hgo : k < 512 ∧ 0 < r.first.length
    · obtain ⟨hlt, hfl⟩ := hgo
      have hfl2 : r.first.length = r.n * 512 := by
        rcases hf with e | e
        · rw [e] at hfl; simp at hfl
        · exact e
      obtain ⟨gf, cf, hfv2, hcf⟩ := h.hf.at hfl
      have hgf : gf < w.heap.size := block_lt_of_cell (hcf 0 hfl)
      have e2 := HFV.out.symm.trans hfv2
      simp only [Value.slice.injEq] at e2
      obtain ⟨rfl, -, rfl⟩ := e2
      have ec := (ha.cell (p := ⟨gf, 512 * m + k, none⟩) hgf (by simp)).trans (hcf (512 * m + k) (by omega))
      have hpl := part0_length r.first m k (by omega) (by omega)
      have kg : wr.cell? ⟨w.heap.size, k, none⟩ = some (.int .u8 ((part0 r.first m k).getD k 0)) := by
        rw [cell_of_row _ _ _ _ _ _ hb]; simp [u8s, hpl, hlt]
      have kf := frozen_of_row wr w.heap.size k _ _ hb
      have hb2 : (wr.setCell ⟨w.heap.size, k, none⟩ (.int .u8 (r.first.getD (512 * m + k) 0))).heap[w.heap.size]? = some (.cells (u8s (part0 r.first m (k + 1))).toArray 5 (0, 0)) := by
        rw [heap_setCell_same _ _ _ _ _ _ hb, part0_succ _ _ _ (by omega) hlt]
      have ha2 : Apart [] w (wr.setCell ⟨w.heap.size, k, none⟩ (.int .u8 (r.first.getD (512 * m + k) 0))) := by
        refine ⟨ha.os, ha.tape, ha.output, by simpa [World.setCell] using ha.size, fun i hi hx => ?_⟩
        rw [heap_setCell_other _ _ _ _ (by show i ≠ w.heap.size; omega)]; exact ha.block i hi hx
      obtain ⟨x, hx⟩ : ∃ x, x = r.first.getD (512 * m + k) 0 := ⟨_, rfl⟩
      rw [← hx] at ec hb2 ha2
      have HB2 : Hid ((wr.setCell ⟨w.heap.size, k, none⟩ (.int .u8 x)).heap[w.heap.size]? = some (.cells (u8s (part0 r.first m (k + 1))).toArray 5 (0, 0))) := hb2
      have hfi : (0 : Int) < (r.first.length : Int) := by omega
      have hix : (512 : Int) * m + k < (r.first.length : Int) := by omega
      clear hx hb hb2 hpl hcf hfv2 hfl2 hf hk0
      have hne : r.first = [] → k + 1 = 0 := fun e => by rw [e] at hfl; simp at hfl
      go_wp2
      go_roundw
      case rel => exact ⟨k + 1, by omega, by go_num, hne, HB2.out, ha2⟩
      case measure => simp [intOf]; omega
    · have hdn := part0_done r m k hf hk0 hk hgo
      rw [hdn] at hb
      have HB1 : Hid (wr.heap[w.heap.size]? = some (.cells (u8s (r.sec0 m)).toArray 5 (0, 0))) := hb
      have hlen := secK_length h m hm hf
      have HLEN : Hid (∀ k, k ≤ r.log.length → (r.secK m k).length = 512) := hlen
      have hcon : k < 512 → ¬ ((0 : Int) < (r.first.length : Int)) := by omega
      clear hb HB hdn hf hk0 hlen
      by_cases hk5 : k < 512
      · have hc2 := hcon hk5
        clear hcon hgo
        go_wp2
        go_loopw [7] (fun i wr => ∃ j : Nat, j ≤ r.log.length ∧ i = .int .i64 j ∧ wr.heap[w.heap.size]? = some (.cells (u8s (r.secK m j)).toArray 5 (0, 0)) ∧ Apart [] w wr) (fun i _ => r.log.length - (intOf i).toNat)
        case atStart => exact ⟨0, Nat.zero_le _, rfl, HB1.out, ha⟩
        case round =>
          clear ha h1r h2r HB1
          obtain ⟨j, hj, rfl, hb, ha⟩ := hrel
          have h2r := (ha.cell (p := ⟨R, 2, none⟩) hRl (by simp)).trans h2
          have HB : Hid (wr.heap[w.heap.size]? = some (.cells (u8s (r.secK m j)).toArray 5 (0, 0))) := hb
          clear hb
          by_cases hlt : j < r.log.length
          · obtain ⟨gl, cl, hlv2, c0, c1, c2⟩ := h.logAt j hlt
            have hgl : gl < w.heap.size := block_lt_of_cell c0
            have e2 := HLV.out.symm.trans hlv2
            simp only [Value.slice.injEq] at e2
            obtain ⟨rfl, -, rfl⟩ := e2
            have d0 := (ha.cell (p := ⟨gl, j * 3, none⟩) hgl (by simp)).trans c0
            have hst := secK_succ r m j hlt
            have hea := h.each r.log[j] (List.getElem_mem _)
            have hlk := HLEN.out j (by omega)
            generalize r.log[j] = x at *
            by_cases hsm : x.s = m
            · have hsb : ((x.s : Int) == (m : Int)) = true := by rw [hsm]; exact beq_self_eq_true _
              rw [secStep, if_pos hsm] at hst
              have HST : Hid (r.secK m (j + 1) = overL (r.secK m j) x.bs x.k) := hst
              obtain ⟨gx, cx, hxv, hcx⟩ := hea.1.at (by omega)
              have hgx : gx < w.heap.size := block_lt_of_cell (hcx 0 (by omega))
              rw [hea.2.1] at hxv
              rw [hxv] at c2
              have hxk := hea.2.2.1
              have HXL : Hid (x.bs.length = 512) := hea.2.1
              clear hst hlv2 hsm hxv hea
              go_wp2
              go_loopw [8] (fun i wr => ∃ q : Nat, q ≤ x.k ∧ i = .int .i64 q ∧ wr.heap[w.heap.size]? = some (.cells (u8s (overL (r.secK m j) x.bs q)).toArray 5 (0, 0)) ∧ Apart [] w wr) (fun i _ => x.k - (intOf i).toNat)
              case atStart => exact ⟨0, Nat.zero_le _, rfl, by rw [overL_zero]; exact HB.out, ha⟩
              case round =>
                clear ha h2r d0 HB
                obtain ⟨q, hq, rfl, hb, ha⟩ := hrel
                have h2r := (ha.cell (p := ⟨R, 2, none⟩) hRl (by simp)).trans h2
                have d1 := (ha.cell (p := ⟨gl, j * 3 + 1, none⟩) hgl (by simp)).trans c1
                by_cases hqk : q < x.k
                · have d2 := (ha.cell (p := ⟨gl, j * 3 + 2, none⟩) hgl (by simp)).trans c2
                  have ec := (ha.cell (p := ⟨gx, q, none⟩) hgx (by simp)).trans (hcx q (by rw [HXL.out]; omega))
                  have hol := overL_length (r.secK m j) x.bs q hlk HXL.out (by omega)
                  have kg : wr.cell? ⟨w.heap.size, q, none⟩ = some (.int .u8 ((overL (r.secK m j) x.bs q).getD q 0)) := by
                    rw [cell_of_row _ _ _ _ _ _ hb]; simp [u8s, hol, show q < 512 by omega]
                  have kf := frozen_of_row wr w.heap.size q _ _ hb
                  have hb2 : (wr.setCell ⟨w.heap.size, q, none⟩ (.int .u8 (x.bs.getD q 0))).heap[w.heap.size]? = some (.cells (u8s (overL (r.secK m j) x.bs (q + 1))).toArray 5 (0, 0)) := by
                    rw [heap_setCell_same _ _ _ _ _ _ hb, overL_succ _ _ _ hlk HXL.out (by omega)]
                  have ha2 : Apart [] w (wr.setCell ⟨w.heap.size, q, none⟩ (.int .u8 (x.bs.getD q 0))) := by
                    refine ⟨ha.os, ha.tape, ha.output, by simpa [World.setCell] using ha.size, fun i hi hx => ?_⟩
                    rw [heap_setCell_other _ _ _ _ (by show i ≠ w.heap.size; omega)]; exact ha.block i hi hx
                  obtain ⟨y, hy⟩ : ∃ y, y = x.bs.getD q 0 := ⟨_, rfl⟩
                  rw [← hy] at ec hb2 ha2
                  have HB2 : Hid ((wr.setCell ⟨w.heap.size, q, none⟩ (.int .u8 y)).heap[w.heap.size]? = some (.cells (u8s (overL (r.secK m j) x.bs (q + 1))).toArray 5 (0, 0))) := hb2
                  clear hy hb hb2 hol hcx
                  have hlk2 : (512 : Int) = 512 := rfl
                  clear hlk2 hlk
                  go_wp2
                  go_roundw
                  case rel => exact ⟨q + 1, by omega, by go_num, HB2.out, ha2⟩
                  case measure => simp [intOf]; omega
                · have e : q = x.k := by omega
                  subst e
                  rw [← HST.out] at hb
                  have HB3 : Hid (wr.heap[w.heap.size]? = some (.cells (u8s (r.secK m (j + 1))).toArray 5 (0, 0))) := hb
                  clear hb hlk hcx
                  go_wp2
                  go_roundw
                  case rel => exact ⟨j + 1, by omega, by go_num, HB3.out, ha⟩
                  case measure => simp [intOf]; omega
            · have hsb : ((x.s : Int) == (m : Int)) = false := beq_eq_false_iff_ne.2 (by omega)
              rw [secStep, if_neg hsm] at hst
              have hbb := HB.out
              rw [← hst] at hbb
              have HB3 : Hid (wr.heap[w.heap.size]? = some (.cells (u8s (r.secK m (j + 1))).toArray 5 (0, 0))) := hbb
              clear hbb hst hlv2 hsm hea hlk c1 c2
              go_wp2
              go_roundw
              case rel => exact ⟨j + 1, by omega, by go_num, HB3.out, ha⟩
              case measure => simp [intOf]; omega
          · have e : j = r.log.length := by omega
            have E : Hid (j = r.log.length) := e
            clear e
            go_wp2
            go_ret
            have hbb := HB.out
            have hll := HLEN.out r.log.length (Nat.le_refl _)
            rw [E.out, secK_full] at hbb
            rw [secK_full] at hll
            exact ⟨w.heap.size, rfl, hbb, hll, Nat.le_refl _, ha⟩
      · have hc2 : ¬ ((k : Int) < 512) := by omega
        clear hcon hgo hk5
        go_wp2
        go_loopw [7] (fun i wr => ∃ j : Nat, j ≤ r.log.length ∧ i = .int .i64 j ∧ wr.heap[w.heap.size]? = some (.cells (u8s (r.secK m j)).toArray 5 (0, 0)) ∧ Apart [] w wr) (fun i _ => r.log.length - (intOf i).toNat)
        case atStart => exact ⟨0, Nat.zero_le _, rfl, HB1.out, ha⟩
        case round =>
          clear ha h1r h2r HB1
          obtain ⟨j, hj, rfl, hb, ha⟩ := hrel
          have h2r := (ha.cell (p := ⟨R, 2, none⟩) hRl (by simp)).trans h2
          have HB : Hid (wr.heap[w.heap.size]? = some (.cells (u8s (r.secK m j)).toArray 5 (0, 0))) := hb
          clear hb
          by_cases hlt : j < r.log.length
          · obtain ⟨gl, cl, hlv2, c0, c1, c2⟩ := h.logAt j hlt
            have hgl : gl < w.heap.size := block_lt_of_cell c0
            have e2 := HLV.out.symm.trans hlv2
            simp only [Value.slice.injEq] at e2
            obtain ⟨rfl, -, rfl⟩ := e2
            have d0 := (ha.cell (p := ⟨gl, j * 3, none⟩) hgl (by simp)).trans c0
            have hst := secK_succ r m j hlt
            have hea := h.each r.log[j] (List.getElem_mem _)
            have hlk := HLEN.out j (by omega)
            generalize r.log[j] = x at *
            by_cases hsm : x.s = m
            · have hsb : ((x.s : Int) == (m : Int)) = true := by rw [hsm]; exact beq_self_eq_true _
              rw [secStep, if_pos hsm] at hst
              have HST : Hid (r.secK m (j + 1) = overL (r.secK m j) x.bs x.k) := hst
              obtain ⟨gx, cx, hxv, hcx⟩ := hea.1.at (by omega)
              have hgx : gx < w.heap.size := block_lt_of_cell (hcx 0 (by omega))
              rw [hea.2.1] at hxv
              rw [hxv] at c2
              have hxk := hea.2.2.1
              have HXL : Hid (x.bs.length = 512) := hea.2.1
              clear hst hlv2 hsm hxv hea
              go_wp2
              go_loopw [8] (fun i wr => ∃ q : Nat, q ≤ x.k ∧ i = .int .i64 q ∧ wr.heap[w.heap.size]? = some (.cells (u8s (overL (r.secK m j) x.bs q)).toArray 5 (0, 0)) ∧ Apart [] w wr) (fun i _ => x.k - (intOf i).toNat)
              case atStart => exact ⟨0, Nat.zero_le _, rfl, by rw [overL_zero]; exact HB.out, ha⟩
              case round =>
                clear ha h2r d0 HB
                obtain ⟨q, hq, rfl, hb, ha⟩ := hrel
                have h2r := (ha.cell (p := ⟨R, 2, none⟩) hRl (by simp)).trans h2
                have d1 := (ha.cell (p := ⟨gl, j * 3 + 1, none⟩) hgl (by simp)).trans c1
                by_cases hqk : q < x.k
                · have d2 := (ha.cell (p := ⟨gl, j * 3 + 2, none⟩) hgl (by simp)).trans c2
                  have ec := (ha.cell (p := ⟨gx, q, none⟩) hgx (by simp)).trans (hcx q (by rw [HXL.out]; omega))
                  have hol := overL_length (r.secK m j) x.bs q hlk HXL.out (by omega)
                  have kg : wr.cell? ⟨w.heap.size, q, none⟩ = some (.int .u8 ((overL (r.secK m j) x.bs q).getD q 0)) := by
                    rw [cell_of_row _ _ _ _ _ _ hb]; simp [u8s, hol, show q < 512 by omega]
                  have kf := frozen_of_row wr w.heap.size q _ _ hb
                  have hb2 : (wr.setCell ⟨w.heap.size, q, none⟩ (.int .u8 (x.bs.getD q 0))).heap[w.heap.size]? = some (.cells (u8s (overL (r.secK m j) x.bs (q + 1))).toArray 5 (0, 0)) := by
                    rw [heap_setCell_same _ _ _ _ _ _ hb, overL_succ _ _ _ hlk HXL.out (by omega)]
                  have ha2 : Apart [] w (wr.setCell ⟨w.heap.size, q, none⟩ (.int .u8 (x.bs.getD q 0))) := by
                    refine ⟨ha.os, ha.tape, ha.output, by simpa [World.setCell] using ha.size, fun i hi hx => ?_⟩
                    rw [heap_setCell_other _ _ _ _ (by show i ≠ w.heap.size; omega)]; exact ha.block i hi hx
                  obtain ⟨y, hy⟩ : ∃ y, y = x.bs.getD q 0 := ⟨_, rfl⟩
                  rw [← hy] at ec hb2 ha2
                  have HB2 : Hid ((wr.setCell ⟨w.heap.size, q, none⟩ (.int .u8 y)).heap[w.heap.size]? = some (.cells (u8s (overL (r.secK m j) x.bs (q + 1))).toArray 5 (0, 0))) := hb2
                  clear hy hb hb2 hol hcx
                  have hlk2 : (512 : Int) = 512 := rfl
                  clear hlk2 hlk
                  go_wp2
                  go_roundw
                  case rel => exact ⟨q + 1, by omega, by go_num, HB2.out, ha2⟩
                  case measure => simp [intOf]; omega
                · have e : q = x.k := by omega
                  subst e
                  rw [← HST.out] at hb
                  have HB3 : Hid (wr.heap[w.heap.size]? = some (.cells (u8s (r.secK m (j + 1))).toArray 5 (0, 0))) := hb
                  clear hb hlk hcx
                  go_wp2
                  go_roundw
                  case rel => exact ⟨j + 1, by omega, by go_num, HB3.out, ha⟩
                  case measure => simp [intOf]; omega
            · have hsb : ((x.s : Int) == (m : Int)) = false := beq_eq_false_iff_ne.2 (by omega)
              rw [secStep, if_neg hsm] at hst
              have hbb := HB.out
              rw [← hst] at hbb
              have HB3 : Hid (wr.heap[w.heap.size]? = some (.cells (u8s (r.secK m (j + 1))).toArray 5 (0, 0))) := hbb
              clear hbb hst hlv2 hsm hea hlk c1 c2
              go_wp2
              go_roundw
              case rel => exact ⟨j + 1, by omega, by go_num, HB3.out, ha⟩
              case measure => simp [intOf]; omega
          · have e : j = r.log.length := by omega
            have E : Hid (j = r.log.length) := e
            clear e
            go_wp2
            go_ret
            have hbb := HB.out
            have hll := HLEN.out r.log.length (Nat.le_refl _)
            rw [E.out, secK_full] at hbb
            rw [secK_full] at hll
            exact ⟨w.heap.size, rfl, hbb, hll, Nat.le_refl _, ha⟩
end Go.Proofs.Ythmloakkefiicaa.dk
