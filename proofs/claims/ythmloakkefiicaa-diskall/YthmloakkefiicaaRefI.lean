import Derived.Test.YthmloakkefiicaaRefB
namespace Go.Proofs.Ythmloakkefiicaa.dk
open Go.ChangeShapes Go.WideShapes Go.ChangeAt Go.RowKit
theorem rread_off {w : World} {R : Nat} {r : Rf} (h : RefAt w R r) (s : Int) (ho : r.on = false) :
    Calls Try.prog 51 #[.pointer (some ⟨R, 0, none⟩), .int .i64 s] w fun e w' => e = .returned (.tuple #[.slice none 0 0, .int .i64 3]) ∧ w' = w := by
  have h3 := h.r3
  rw [ho] at h3
  go_enter Try.func51, Try.ntmps51
  go_wp2
  go_ret2
  exact ⟨rfl, rfl⟩
theorem rread_sector {w : World} {R : Nat} {r : Rf} (h : RefAt w R r) (s : Int) (ho : r.on = true) (hs : s < 0 ∨ (r.n : Int) ≤ s) :
    Calls Try.prog 51 #[.pointer (some ⟨R, 0, none⟩), .int .i64 s] w fun e w' => e = .returned (.tuple #[.slice none 0 0, .int .i64 10]) ∧ w' = w := by
  have h3 := h.r3
  have h0 := h.r0
  rw [ho] at h3
  by_cases hn : s < 0
  · go_enter Try.func51, Try.ntmps51
    go_wp2
    go_ret2
    exact ⟨rfl, rfl⟩
  · have hs2 : (r.n : Int) ≤ s := by omega
    clear hs
    go_enter Try.func51, Try.ntmps51
    go_wp2
    go_ret2
    exact ⟨rfl, rfl⟩
theorem rread_good {w : World} {R : Nat} {r : Rf} (h : RefAt w R r) (m : Nat) (ho : r.on = true) (hm : m < r.n) (hf : r.first = [] ∨ r.first.length = r.n * 512) (hlog : r.log.length ≤ 1000000) :
    Calls Try.prog 51 #[.pointer (some ⟨R, 0, none⟩), .int .i64 m] w fun e w' => ∃ g, e = .returned (.tuple #[.slice (some ⟨g, 0, none⟩) 512 512, .int .i64 0]) ∧ w'.heap[g]? = some (.cells (u8s (r.sec m)).toArray 5 (0, 0)) ∧ (r.sec m).length = 512 ∧ w.heap.size ≤ g ∧ Apart [] w w' := by
  have h3 := h.r3
  have h0 := h.r0
  rw [ho] at h3
  have n1 : ¬ ((m : Int) < 0) := by omega
  have n2 : ¬ ((r.n : Int) ≤ (m : Int)) := by omega
  go_enter Try.func51, Try.ntmps51
  go_wp2_with fail
  refine (rbytes_any h m hm hf hlog).mono ?_
  rintro e w' ⟨g, rfl, hr, hl, hg, ha⟩
  have HR : Hid (w'.heap[g]? = some (.cells (u8s (r.sec m)).toArray 5 (0, 0))) := hr
  have HL : Hid ((r.sec m).length = 512) := hl
  clear hr hl
  go_wp2
  go_ret2
  exact ⟨g, rfl, HR.out, HL.out, hg, ha⟩

/-! Image -/
def Rf.mem0 (r : Rf) : List Int := if r.first = [] then rep (r.n * 512) 0 else r.first
def memStep (acc : List Int) (x : Rw) : List Int := splice acc (x.s * 512) (x.bs.take x.k)
def Rf.memK (r : Rf) (k : Nat) : List Int := (r.log.take k).foldl memStep r.mem0
def Rf.mem (r : Rf) : List Int := r.log.foldl memStep r.mem0
theorem memK_succ (r : Rf) (k : Nat) (h : k < r.log.length) : r.memK (k + 1) = memStep (r.memK k) r.log[k] := by
  unfold Rf.memK
  rw [List.take_succ_eq_append_getElem h, List.foldl_append]; rfl
theorem memK_full (r : Rf) : r.memK r.log.length = r.mem := by unfold Rf.memK Rf.mem; rw [List.take_length]
theorem mem0_length (r : Rf) (hf : r.first = [] ∨ r.first.length = r.n * 512) : r.mem0.length = r.n * 512 := by
  unfold Rf.mem0
  by_cases e : r.first = []
  · rw [if_pos e, rep_length]
  · rw [if_neg e]
    rcases hf with x | x
    · exact absurd x e
    · exact x
theorem memK_length {w : World} {R : Nat} {r : Rf} (h : RefAt w R r) (hf : r.first = [] ∨ r.first.length = r.n * 512) : ∀ k, k ≤ r.log.length → (r.memK k).length = r.n * 512 := by
  intro k
  induction k with
  | zero => intro _; exact mem0_length r hf
  | succ k ih =>
    intro hk
    rw [memK_succ r k (by omega), memStep]
    have e := (h.each r.log[k] (List.getElem_mem _)).2
    have := ih (by omega)
    rw [length_splice _ _ _ (by rw [List.length_take]; omega)]
    exact this
def partI (f : List Int) (N i : Nat) : List Int := f.take i ++ rep (N - i) 0
theorem partI_succ (f : List Int) (N i : Nat) (hf : f.length = N) (hi : i < N) : (u8s (partI f N i)).toArray.setIfInBounds i (.int .u8 (f.getD i 0)) = (u8s (partI f N (i + 1))).toArray := by
  have e : (partI f N i).set i (f.getD i 0) = partI f N (i + 1) := by
    unfold partI
    have e1 : (f.take i).length = i := by simp; omega
    have e2 : f.take (i + 1) = f.take i ++ [f[i]] := List.take_succ_eq_append_getElem (by omega)
    rw [List.set_append_right _ _ (by omega), e1, Nat.sub_self, e2, List.append_assoc]
    congr 1
    rw [show N - i = (N - (i + 1)) + 1 from by omega]
    simp [rep, List.replicate_succ, List.getD_eq_getElem?_getD, show i < f.length by omega]
  rw [← e]
  simp [u8s, List.map_set]
theorem splice_succ (acc bs : List Int) (o k : Nat) (hb : k < bs.length) (ho : o + bs.length ≤ acc.length) : (u8s (splice acc o (bs.take k))).toArray.setIfInBounds (o + k) (.int .u8 (bs.getD k 0)) = (u8s (splice acc o (bs.take (k + 1)))).toArray := by
  have e : (splice acc o (bs.take k)).set (o + k) (bs.getD k 0) = splice acc o (bs.take (k + 1)) := by
    unfold splice
    have e1 : (acc.take o).length = o := by simp; omega
    have e2 : bs.take (k + 1) = bs.take k ++ [bs[k]] := List.take_succ_eq_append_getElem hb
    have e3 : (bs.take k).length = k := by simp; omega
    rw [List.set_append_right _ _ (by omega), e1, show o + k - o = k from by omega, List.set_append_right _ _ (by omega), e3, Nat.sub_self, e2]
    simp only [List.length_append, e3, List.length_cons, List.length_nil, List.append_assoc]
    congr 2
    rw [List.drop_eq_getElem_cons (show o + k < acc.length by omega), List.set_cons_zero, List.getD_eq_getElem?_getD, List.getElem?_eq_getElem hb]
    rfl
  rw [← e]
  simp [u8s, List.map_set]
theorem splice_zero (acc bs : List Int) (o : Nat) : splice acc o (bs.take 0) = acc := by simp [splice]
theorem partI_done (r : Rf) (k : Nat) (hf : r.first = [] ∨ r.first.length = r.n * 512) (hk : k = r.first.length) : partI r.first (r.n * 512) k = r.mem0 := by
  unfold Rf.mem0 partI
  by_cases e : r.first = []
  · rw [if_pos e, hk, e]; simp
  · rw [if_neg e]
    rcases hf with x | x
    · exact absurd x e
    · rw [hk, List.take_length, x]; simp [rep]
set_option maxHeartbeats 1000000 in
set_option maxRecDepth 10000 in
theorem rimage_any {w : World} {R : Nat} {r : Rf} (h : RefAt w R r) (hf : r.first = [] ∨ r.first.length = r.n * 512) (hlog : r.log.length ≤ 1000000) :
    Calls Try.prog 55 #[.pointer (some ⟨R, 0, none⟩)] w fun e w' => ∃ g, e = .returned (.slice (some ⟨g, 0, none⟩) (r.n * 512) (r.n * 512)) ∧ w'.heap[g]? = some (.cells (u8s r.mem).toArray 5 (0, 0)) ∧ r.mem.length = r.n * 512 ∧ w.heap.size ≤ g ∧ Apart [] w w' := by
  have hn := h.hn
  have hRl := lt_of_heap h.hr
  have h0 := h.r0
  have h1 := h.r1
  have h2 := h.r2
  obtain ⟨fp, fc, hfv⟩ := own_shape h.hf
  obtain ⟨lp, lc, hlv⟩ := own_shape h.own
  rw [hfv] at h1
  rw [hlv] at h2
  have HFV : Hid (r.fv = .slice fp r.first.length fc) := hfv
  have HLV : Hid (r.lv = .slice lp r.log.length lc) := hlv
  clear hfv hlv
  have hrun := make_bytes w (r.n * 512) (by omega)
  rw [show ((r.n * 512 : Nat) : Int) = 512 * (r.n : Int) from by omega] at hrun
  obtain ⟨Z, hZ⟩ : ∃ Z, Z = rep (r.n * 512) 0 := ⟨_, rfl⟩
  rw [← hZ] at hrun
  have HZ : Hid (Z = rep (r.n * 512) 0) := hZ
  clear hZ
  have hfl : r.first.length ≤ r.n * 512 := by
    rcases hf with e | e
    · rw [e]; simp
    · omega
  go_enter Try.func55, Try.ntmps55
  go_wp2
  go_loopw [4] (fun i wr => ∃ k : Nat, k ≤ r.first.length ∧ i = .int .i64 k ∧ wr.heap[w.heap.size]? = some (.cells (u8s (partI r.first (r.n * 512) k)).toArray 5 (0, 0)) ∧ Apart [] w wr) (fun i _ => r.first.length - (intOf i).toNat)
  case atStart =>
    refine ⟨0, Nat.zero_le _, rfl, ?_, (Apart.refl _ _).alloc _⟩
    rw [heap_alloc_new, HZ.out]
    simp [partI]
  case round =>
    clear hrun
    obtain ⟨k, hk, rfl, hb, ha⟩ := hrel
    have h1r := (ha.cell (p := ⟨R, 1, none⟩) hRl (by simp)).trans h1
    have h2r := (ha.cell (p := ⟨R, 2, none⟩) hRl (by simp)).trans h2
    have HB : Hid (wr.heap[w.heap.size]? = some (.cells (u8s (partI r.first (r.n * 512) k)).toArray 5 (0, 0))) := hb
    by_cases hlt : k < r.first.length
    · have hfl2 : r.first.length = r.n * 512 := by
        rcases hf with e | e
        · rw [e] at hlt; simp at hlt
        · exact e
      obtain ⟨gf, cf, hfv2, hcf⟩ := h.hf.at (by omega)
      have hgf : gf < w.heap.size := block_lt_of_cell (hcf 0 (by omega))
      have e2 := HFV.out.symm.trans hfv2
      simp only [Value.slice.injEq] at e2
      obtain ⟨rfl, -, rfl⟩ := e2
      have ec := (ha.cell (p := ⟨gf, k, none⟩) hgf (by simp)).trans (hcf k (by omega))
      have kg : wr.cell? ⟨w.heap.size, k, none⟩ = some (.int .u8 ((partI r.first (r.n * 512) k).getD k 0)) := by
        have hpl : (partI r.first (r.n * 512) k).length = r.n * 512 := by simp [partI, rep]; omega
        rw [cell_of_row _ _ _ _ _ _ hb]; simp [u8s, hpl, show k < r.n * 512 by omega]
      have kf := frozen_of_row wr w.heap.size k _ _ hb
      have hb2 : (wr.setCell ⟨w.heap.size, k, none⟩ (.int .u8 (r.first.getD k 0))).heap[w.heap.size]? = some (.cells (u8s (partI r.first (r.n * 512) (k + 1))).toArray 5 (0, 0)) := by
        rw [heap_setCell_same _ _ _ _ _ _ hb, partI_succ _ _ _ hfl2 (by omega)]
      have ha2 : Apart [] w (wr.setCell ⟨w.heap.size, k, none⟩ (.int .u8 (r.first.getD k 0))) := by
        refine ⟨ha.os, ha.tape, ha.output, by simpa [World.setCell] using ha.size, fun i hi hx => ?_⟩
        rw [heap_setCell_other _ _ _ _ (by show i ≠ w.heap.size; omega)]; exact ha.block i hi hx
      obtain ⟨x, hx⟩ : ∃ x, x = r.first.getD k 0 := ⟨_, rfl⟩
      rw [← hx] at ec hb2 ha2
      have HB2 : Hid ((wr.setCell ⟨w.heap.size, k, none⟩ (.int .u8 x)).heap[w.heap.size]? = some (.cells (u8s (partI r.first (r.n * 512) (k + 1))).toArray 5 (0, 0))) := hb2
      have hix : (k : Int) < (r.n : Int) * 512 := by omega
      have hix2 : k < r.n * 512 := by omega
      clear hx hb hb2 hcf hfv2 hfl2 hf
      go_wp2
      go_roundw
      case rel => exact ⟨k + 1, by omega, by go_num, HB2.out, ha2⟩
      case measure => simp [intOf]; omega
    · have hdn := partI_done r k hf (by omega)
      rw [hdn] at hb
      have HB1 : Hid (wr.heap[w.heap.size]? = some (.cells (u8s r.mem0).toArray 5 (0, 0))) := hb
      have hlen := memK_length h hf
      have HLEN : Hid (∀ k, k ≤ r.log.length → (r.memK k).length = r.n * 512) := hlen
      clear hb HB hdn hf hlen
      go_wp2
      go_loopw [5] (fun i wr => ∃ j : Nat, j ≤ r.log.length ∧ i = .int .i64 j ∧ wr.heap[w.heap.size]? = some (.cells (u8s (r.memK j)).toArray 5 (0, 0)) ∧ Apart [] w wr) (fun i _ => r.log.length - (intOf i).toNat)
      case atStart => exact ⟨0, Nat.zero_le _, rfl, HB1.out, ha⟩
      case round =>
        clear ha h1r h2r HB1
        obtain ⟨j, hj, rfl, hb, ha⟩ := hrel
        have h2r := (ha.cell (p := ⟨R, 2, none⟩) hRl (by simp)).trans h2
        have HB : Hid (wr.heap[w.heap.size]? = some (.cells (u8s (r.memK j)).toArray 5 (0, 0))) := hb
        have hBl := lt_of_heap hb
        clear hb
        by_cases hlt : j < r.log.length
        · obtain ⟨gl, cl, hlv2, c0, c1, c2⟩ := h.logAt j hlt
          have hgl : gl < w.heap.size := block_lt_of_cell c0
          have e2 := HLV.out.symm.trans hlv2
          simp only [Value.slice.injEq] at e2
          obtain ⟨rfl, -, rfl⟩ := e2
          have d0 := (ha.cell (p := ⟨gl, j * 3, none⟩) hgl (by simp)).trans c0
          have d1 := (ha.cell (p := ⟨gl, j * 3 + 1, none⟩) hgl (by simp)).trans c1
          have hst := memK_succ r j hlt
          have hea := h.each r.log[j] (List.getElem_mem _)
          have hlk := HLEN.out j (by omega)
          generalize r.log[j] = x at *
          rw [memStep] at hst
          have HST : Hid (r.memK (j + 1) = splice (r.memK j) (x.s * 512) (x.bs.take x.k)) := hst
          obtain ⟨gx, cx, hxv, hcx⟩ := hea.1.at (by omega)
          have hgx : gx < w.heap.size := block_lt_of_cell (hcx 0 (by omega))
          rw [hea.2.1] at hxv
          rw [hxv] at c2
          have d2 := (ha.cell (p := ⟨gl, j * 3 + 2, none⟩) hgl (by simp)).trans c2
          have hxk := hea.2.2.1
          have hxs := hea.2.2.2
          have HXL : Hid (x.bs.length = 512) := hea.2.1
          have HLK : Hid ((r.memK j).length = r.n * 512) := hlk
          clear hst hlv2 hxv hea hlk
          go_wp2
          obtain ⟨BX, hBX⟩ : ∃ BX, BX = wr.heap.size := ⟨_, rfl⟩
          rw [← hBX]
          have hBXl : w.heap.size < BX := by omega
          have hx0 : (wr.alloc (.cells #[.int .i64 x.s, .int .i64 x.k, .slice (some ⟨gx, 0, none⟩) 512 cx] 90)).heap[BX]? = some (.cells #[.int .i64 x.s, .int .i64 x.k, .slice (some ⟨gx, 0, none⟩) 512 cx] 90 (0, 0)) := by rw [hBX]; exact heap_alloc_new _ _
          have hb0 : (wr.alloc (.cells #[.int .i64 x.s, .int .i64 x.k, .slice (some ⟨gx, 0, none⟩) 512 cx] 90)).heap[w.heap.size]? = some (.cells (u8s (splice (r.memK j) (x.s * 512) (x.bs.take 0))).toArray 5 (0, 0)) := by
            rw [splice_zero, Below.heap_alloc _ _ _ (by omega)]; exact HB.out
          have ha0 := ha.alloc (.cells #[.int .i64 x.s, .int .i64 x.k, .slice (some ⟨gx, 0, none⟩) 512 cx] 90)
          generalize wr.alloc (.cells #[.int .i64 x.s, .int .i64 x.k, .slice (some ⟨gx, 0, none⟩) 512 cx] 90) = W0 at *
          clear hBX HB ha h2r d0 d1 d2 hBl
          go_loopw [7] (fun i wq => ∃ q : Nat, q ≤ x.k ∧ i = .int .i64 q ∧ wq.heap[w.heap.size]? = some (.cells (u8s (splice (r.memK j) (x.s * 512) (x.bs.take q))).toArray 5 (0, 0)) ∧ wq.heap[BX]? = some (.cells #[.int .i64 x.s, .int .i64 x.k, .slice (some ⟨gx, 0, none⟩) 512 cx] 90 (0, 0)) ∧ Apart [] w wq) (fun i _ => x.k - (intOf i).toNat)
          case atStart => exact ⟨0, Nat.zero_le _, rfl, hb0, hx0, ha0⟩
          case round =>
            clear hb0 hx0 ha0
            obtain ⟨q, hq, rfl, hb, hx, ha⟩ := hrel
            have b0 := cell_of_row _ _ 0 _ _ _ hx
            have b1 := cell_of_row _ _ 1 _ _ _ hx
            have b2 := cell_of_row _ _ 2 _ _ _ hx
            by_cases hqk : q < x.k
            · have ec := (ha.cell (p := ⟨gx, q, none⟩) hgx (by simp)).trans (hcx q (by rw [HXL.out]; omega))
              have hsl : (splice (r.memK j) (x.s * 512) (x.bs.take q)).length = r.n * 512 := by
                rw [length_splice _ _ _ (by rw [HLK.out, List.length_take, HXL.out]; omega)]; exact HLK.out
              have kg : wr.cell? ⟨w.heap.size, 512 * x.s + q, none⟩ = some (.int .u8 ((splice (r.memK j) (x.s * 512) (x.bs.take q)).getD (512 * x.s + q) 0)) := by
                rw [cell_of_row _ _ _ _ _ _ hb]; simp [u8s, hsl, show 512 * x.s + q < r.n * 512 by omega]
              have kf := frozen_of_row wr w.heap.size (512 * x.s + q) _ _ hb
              have hb2 : (wr.setCell ⟨w.heap.size, 512 * x.s + q, none⟩ (.int .u8 (x.bs.getD q 0))).drew.heap[w.heap.size]? = some (.cells (u8s (splice (r.memK j) (x.s * 512) (x.bs.take (q + 1)))).toArray 5 (0, 0)) := by
                show (wr.setCell ⟨w.heap.size, 512 * x.s + q, none⟩ _).heap[w.heap.size]? = _
                rw [heap_setCell_same _ _ _ _ _ _ hb, Nat.mul_comm 512 x.s, splice_succ _ _ _ _ (by rw [HXL.out]; omega) (by rw [HXL.out, HLK.out]; omega)]
              have hx2 : (wr.setCell ⟨w.heap.size, 512 * x.s + q, none⟩ (.int .u8 (x.bs.getD q 0))).drew.heap[BX]? = some (.cells #[.int .i64 x.s, .int .i64 x.k, .slice (some ⟨gx, 0, none⟩) 512 cx] 90 (0, 0)) := by
                show (wr.setCell ⟨w.heap.size, 512 * x.s + q, none⟩ _).heap[BX]? = _
                rw [heap_setCell_other _ _ _ _ (by show BX ≠ w.heap.size; omega)]; exact hx
              have ha2 : Apart [] w (wr.setCell ⟨w.heap.size, 512 * x.s + q, none⟩ (.int .u8 (x.bs.getD q 0))).drew := by
                refine ⟨ha.os, ha.tape, ha.output, by simpa [World.setCell] using ha.size, fun i hi hx => ?_⟩
                show (wr.setCell ⟨w.heap.size, 512 * x.s + q, none⟩ _).heap[i]? = _
                rw [heap_setCell_other _ _ _ _ (by show i ≠ w.heap.size; omega)]; exact ha.block i hi hx
              obtain ⟨y, hy⟩ : ∃ y, y = x.bs.getD q 0 := ⟨_, rfl⟩
              rw [← hy] at ec hb2 ha2 hx2
              have HB2 : Hid ((wr.setCell ⟨w.heap.size, 512 * x.s + q, none⟩ (.int .u8 y)).drew.heap[w.heap.size]? = some (.cells (u8s (splice (r.memK j) (x.s * 512) (x.bs.take (q + 1)))).toArray 5 (0, 0)) ∧ (wr.setCell ⟨w.heap.size, 512 * x.s + q, none⟩ (.int .u8 y)).drew.heap[BX]? = some (.cells #[.int .i64 x.s, .int .i64 x.k, .slice (some ⟨gx, 0, none⟩) 512 cx] 90 (0, 0))) := ⟨hb2, hx2⟩
              have hix : (512 : Int) * x.s + q < (r.n : Int) * 512 := by omega
              have hix2 : 512 * x.s + q < r.n * 512 := by omega
              have b0' : wr.cell? ⟨BX, 0, none⟩ = some (.int .i64 x.s) := b0
              have b1' : wr.cell? ⟨BX, 1, none⟩ = some (.int .i64 x.k) := b1
              have b2' : wr.cell? ⟨BX, 2, none⟩ = some (.slice (some ⟨gx, 0, none⟩) 512 cx) := b2
              clear hy hb hb2 hx hx2 hsl hcx b0 b1 b2
              go_wp2_with fail
              go_region
              go_wp2
              go_roundw
              case rel => exact ⟨q + 1, by omega, by go_num, HB2.out.1, HB2.out.2, ha2⟩
              case measure => simp [intOf]; omega
            · have e : q = x.k := by omega
              subst e
              rw [← HST.out] at hb
              have HB3 : Hid (wr.heap[w.heap.size]? = some (.cells (u8s (r.memK (j + 1))).toArray 5 (0, 0))) := hb
              have b1' : wr.cell? ⟨BX, 1, none⟩ = some (.int .i64 x.k) := b1
              clear hb hcx hx b0 b1 b2
              go_wp2
              go_roundw
              case rel => exact ⟨j + 1, by omega, by go_num, HB3.out, ha⟩
              case measure => simp [intOf]; omega
        · have e : j = r.log.length := by omega
          have E : Hid (j = r.log.length) := e
          clear e
          go_wp2
          go_ret
          have hbb := HB.out
          have hll := HLEN.out r.log.length (Nat.le_refl _)
          rw [E.out, memK_full] at hbb
          rw [memK_full] at hll
          exact ⟨w.heap.size, rfl, hbb, hll, Nat.le_refl _, ha⟩
end Go.Proofs.Ythmloakkefiicaa.dk
