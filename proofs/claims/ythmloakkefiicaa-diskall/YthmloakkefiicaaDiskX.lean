import Derived.Test.YthmloakkefiicaaDiskW
namespace Go.Proofs.Ythmloakkefiicaa.dk
open Go.ChangeShapes Go.WideShapes Go.ChangeAt Go.RowKit

theorem splice_u8s (m : List Int) (off : Nat) (bs : List Int) : (u8s m).take off ++ (u8s bs ++ (u8s m).drop (off + (u8s bs).length)) = u8s (splice m off bs) := by
  simp [u8s, splice]
theorem u8s_one (l : List Int) : ∀ v ∈ u8s l, v.oneCell' = true := ints_oneCell _ _
theorem u8s_at (l : List Int) (j : Nat) (v : Value) (h : (u8s l)[j]? = some v) : j < l.length ∧ v = .int .u8 (l.getD j 0) := by
  have hj : j < l.length := by
    have := (List.getElem?_eq_some_iff.1 h).1
    simpa [u8s] using this
  refine ⟨hj, ?_⟩
  simp [u8s, hj] at h
  simp [hj, ← h]

theorem copy_run {w : World} {D S : Nat} {d : Dk} (h : DiskAt w D S d) (m g o c : Nat) (bs : List Int) (hb : bs.length = 512) (hs1 : m < d.n) (hsrc : ∀ j, j < 512 → w.cell? ⟨g, o + j, none⟩ = some (.int .u8 (bs.getD j 0))) :
    Sem.run Try.prog (Builtin.copy_ #[30, 30] 3 #[Value.slice (some ⟨S, m * 512, none⟩) 512 512, Value.slice (some ⟨g, o, none⟩) 512 c]) w =
      .ok (goInt 512) (w.setRow S (u8s (splice d.mem (m * 512) bs)).toArray) := by
  have hl := h.lmem
  have := run_copy_row Try.prog w 30 30 3 5 S (m * 512) 512 512 ⟨g, o, none⟩ 512 c (u8s d.mem).toArray 75 (u8s bs) Try.underlying30 (by kernel_rfl) h.hs (by simp [u8s, hb]) (fun j v hv => by
    obtain ⟨hj, rfl⟩ := u8s_at bs j v hv
    rw [Addr.add_lit]; exact hsrc j (by omega)) (by simp [u8s, hb]; omega) (u8s_one _)
  rw [this, u8s_length, hb, ← splice_u8s, u8s_length, hb]
  simp
theorem spl_len {w : World} {D S : Nat} {d : Dk} (h : DiskAt w D S d) (m : Nat) (bs : List Int) (hb : bs.length = 512) (hs1 : m < d.n) : (splice d.mem (m * 512) bs).length = 512 * d.n := by
  rw [length_splice _ _ _ (by have := h.lmem; omega)]; exact h.lmem
set_option maxHeartbeats 400000 in
theorem write_plain {w : World} {D S : Nat} {d : Dk} (h : DiskAt w D S d) (m : Nat) (g o c : Nat) (bs : List Int) (hg : g ≠ D) (hb : bs.length = 512) (hsrc : ∀ j, j < 512 → w.cell? ⟨g, o + j, none⟩ = some (.int .u8 (bs.getD j 0))) (ho : d.on = true) (hs1 : m < d.n) (hw : d.writes < 1000000) (ha : d.armed = false) :
    Calls Try.prog 15 #[.pointer (some ⟨D, 0, none⟩), .int .i64 m, .slice (some ⟨g, o, none⟩) 512 c] w fun r w' => r = .returned (.int .i64 0) ∧
      DiskAt w' D S { d.noted m with mem := splice d.mem (m * 512) bs } ∧ Apart [D, S] w w' := by
  have hc := reach_any w D S d.n d.on m h.c0 h.c1
  rw [show reachE d.on d.n m = 0 from by simp [reachE, ho]; omega] at hc
  have hno := note_disk h m hw
  have hn := h.hn
  have hlt : g < w.heap.size := block_lt_of_cell (hsrc 0 (by decide))
  go_enter Try.func15, Try.ntmps15
  go_wp2_with fail
  refine hc.mono ?_
  rintro r w' ⟨rfl, rfl⟩
  go_wp2_with fail
  refine hno.mono ?_
  rintro r w1 ⟨rfl, h1, a1⟩
  clear hc hno
  have hsrc1 : ∀ j, j < 512 → w1.cell? ⟨g, o + j, none⟩ = some (.int .u8 (bs.getD j 0)) := fun j hj => (a1.cell (p := ⟨g, o + j, none⟩) hlt (by simpa using hg)).trans (hsrc j hj)
  have k0 : w1.cell? ⟨D, 0, none⟩ = some (.slice (some ⟨S, 0, none⟩) d.n d.n) := h1.c0
  have k2 : w1.cell? ⟨D, 2, none⟩ = some (.bool false) := by rw [← ha]; exact h1.c2
  clear hsrc
  go_wp2_with fail
  have hrun := copy_run h1 m g o c bs hb hs1 hsrc1
  rw [hrun]
  clear hrun
  go_wp2
  go_ret
  refine ⟨rfl, h1.putS _ ?_, (a1.mono (by simp)).trans ((Apart.refl _ _).setRow (by simp) _)⟩
  exact spl_len h m bs hb hs1

theorem wrap_run {w : World} {D S : Nat} {d : Dk} (h : DiskAt w D S d) (m : Nat) (g o c t : Nat) (bs : List Int) (ht : t ≤ 512) (hb : bs.length = t) (hs1 : m < d.n) (hsrc : ∀ j, j < t → w.cell? ⟨g, o + j, none⟩ = some (.int .u8 (bs.getD j 0))) :
    Sem.run Try.prog (Builtin.copy_ #[30, 30] 3 #[Value.slice (some ⟨S, m * 512, none⟩) t 512, Value.slice (some ⟨g, o, none⟩) 512 c]) w =
      .ok (goInt t) (w.setRow S (u8s (splice d.mem (m * 512) bs)).toArray) := by
  have hl := h.lmem
  have := run_copy_row Try.prog w 30 30 3 5 S (m * 512) t 512 ⟨g, o, none⟩ 512 c (u8s d.mem).toArray 75 (u8s bs) Try.underlying30 (by kernel_rfl) h.hs (by rw [u8s_length, hb]; exact (Nat.min_eq_right ht).symm) (fun j v hv => by
    obtain ⟨hj, rfl⟩ := u8s_at bs j v hv
    rw [Addr.add_lit]; exact hsrc j (by omega)) (by simp [u8s, hb]; omega) (u8s_one _)
  rw [this, u8s_length, hb, ← splice_u8s, u8s_length, hb]
  simp

def wsub (a : Int) : Int := wrap64 (a - 1)
set_option maxHeartbeats 400000 in
theorem write_armed {w : World} {D S : Nat} {d : Dk} (h : DiskAt w D S d) (m : Nat) (g o c : Nat) (bs : List Int) (hg : g ≠ D) (hb : bs.length = 512) (hsrc : ∀ j, j < 512 → w.cell? ⟨g, o + j, none⟩ = some (.int .u8 (bs.getD j 0))) (ho : d.on = true) (hs1 : m < d.n) (hw : d.writes < 1000000) (ha : d.armed = true) (hz : d.after ≠ 0) :
    Calls Try.prog 15 #[.pointer (some ⟨D, 0, none⟩), .int .i64 m, .slice (some ⟨g, o, none⟩) 512 c] w fun r w' => r = .returned (.int .i64 0) ∧
      DiskAt w' D S { d.noted m with mem := splice d.mem (m * 512) bs, after := wsub d.after } ∧ Apart [D, S] w w' := by
  have hc := reach_any w D S d.n d.on m h.c0 h.c1
  rw [show reachE d.on d.n m = 0 from by simp [reachE, ho]; omega] at hc
  have hno := note_disk h m hw
  have hn := h.hn
  have hlt : g < w.heap.size := block_lt_of_cell (hsrc 0 (by decide))
  go_enter Try.func15, Try.ntmps15
  go_wp2_with fail
  refine hc.mono ?_
  rintro r w' ⟨rfl, rfl⟩
  go_wp2_with fail
  refine hno.mono ?_
  rintro r w1 ⟨rfl, h1, a1⟩
  clear hc hno
  have hsrc1 : ∀ j, j < 512 → w1.cell? ⟨g, o + j, none⟩ = some (.int .u8 (bs.getD j 0)) := fun j hj => (a1.cell (p := ⟨g, o + j, none⟩) hlt (by simpa using hg)).trans (hsrc j hj)
  have k0 : w1.cell? ⟨D, 0, none⟩ = some (.slice (some ⟨S, 0, none⟩) d.n d.n) := h1.c0
  have k2 : w1.cell? ⟨D, 2, none⟩ = some (.bool true) := by rw [← ha]; exact h1.c2
  have k3 : w1.cell? ⟨D, 3, none⟩ = some (.int .i64 d.after) := h1.c3
  have kf := h1.fr 3
  have hz' : (d.after == 0) = false := by simpa using hz
  clear hsrc hz
  go_wp2_with fail
  have h2 := h1.put3 (wrap64 (d.after - 1))
  have hrun := copy_run h2 m g o c bs hb hs1 (fun j hj => by
    rw [World.cell?_of_block (w := w1) (heap_setCell_other _ _ _ _ hg)]; exact hsrc1 j hj)
  rw [hrun]
  clear hrun
  go_wp2
  go_ret
  refine ⟨rfl, h2.putS _ ?_, (a1.mono (by simp)).trans (((Apart.refl _ _).setCell (by simp) _).setRow (by simp) _)⟩
  exact spl_len h m bs hb hs1

set_option maxHeartbeats 400000 in
theorem write_torn {w : World} {D S : Nat} {d : Dk} (h : DiskAt w D S d) (m : Nat) (g o c t : Nat) (bs : List Int) (hg : g ≠ D) (hb : bs.length = 512) (hsrc : ∀ j, j < 512 → w.cell? ⟨g, o + j, none⟩ = some (.int .u8 (bs.getD j 0))) (ho : d.on = true) (hs1 : m < d.n) (hw : d.writes < 1000000) (ha : d.armed = true) (hz : d.after = 0) (ht : d.torn = t) (htl : t ≤ 512) :
    Calls Try.prog 15 #[.pointer (some ⟨D, 0, none⟩), .int .i64 m, .slice (some ⟨g, o, none⟩) 512 c] w fun r w' => r = .returned (.int .i64 3) ∧
      DiskAt w' D S { (d.noted m).offed with mem := splice d.mem (m * 512) (bs.take t) } ∧ Apart [D, S] w w' := by
  have hc := reach_any w D S d.n d.on m h.c0 h.c1
  rw [show reachE d.on d.n m = 0 from by simp [reachE, ho]; omega] at hc
  have hno := note_disk h m hw
  have hn := h.hn
  have hlt : g < w.heap.size := block_lt_of_cell (hsrc 0 (by decide))
  go_enter Try.func15, Try.ntmps15
  go_wp2_with fail
  refine hc.mono ?_
  rintro r w' ⟨rfl, rfl⟩
  go_wp2_with fail
  refine hno.mono ?_
  rintro r w1 ⟨rfl, h1, a1⟩
  clear hc hno
  have hsrc1 : ∀ j, j < 512 → w1.cell? ⟨g, o + j, none⟩ = some (.int .u8 (bs.getD j 0)) := fun j hj => (a1.cell (p := ⟨g, o + j, none⟩) hlt (by simpa using hg)).trans (hsrc j hj)
  have k0 : w1.cell? ⟨D, 0, none⟩ = some (.slice (some ⟨S, 0, none⟩) d.n d.n) := h1.c0
  have k2 : w1.cell? ⟨D, 2, none⟩ = some (.bool true) := by rw [← ha]; exact h1.c2
  have k3 : w1.cell? ⟨D, 3, none⟩ = some (.int .i64 0) := by rw [← hz]; exact h1.c3
  have k4 : w1.cell? ⟨D, 4, none⟩ = some (.int .i64 t) := by rw [← ht]; exact h1.c4
  have hrun : Sem.run Try.prog (Builtin.copy_ #[30, 30] 3 #[Value.slice (some ⟨S, m * 512, none⟩) t 512, Value.slice (some ⟨g, o, none⟩) 512 c]) w1.drew = .ok (goInt t) (w1.drew.setRow S (u8s (splice d.mem (m * 512) (bs.take t))).toArray) :=
    wrap_run (h1.drewN 1) m g o c t (bs.take t) htl (by simp; omega) hs1 (fun j hj => by
      have := hsrc1 j (by omega)
      rw [List.getD_eq_getElem?_getD, List.getElem?_take_of_lt hj, ← List.getD_eq_getElem?_getD]
      exact this)
  clear hsrc hz ht
  have ht0 : (0 : Int) ≤ (t : Int) := by omega
  have ht1 : (t : Int) ≤ 512 := by omega
  have ht2 : ¬ ((512 : Int) < (t : Int)) := by omega
  go_wp2_with fail
  go_region
  have h2 := (h1.drewN 1).putS (splice d.mem (m * 512) (bs.take t)) (by
    show _ = 512 * d.n
    have := h.lmem
    rw [length_splice _ _ _ (by simp; omega)]; exact this)
  clear hrun k0 k2 k3 k4
  go_wp2_with fail
  refine (off_disk h2).mono ?_
  rintro r w2 ⟨rfl, h3, a3⟩
  go_wp2
  go_ret
  exact ⟨rfl, h3, (a1.mono (by simp)).trans (((((Apart.refl _ _).drewN 1).setRow (by simp) _)).trans (a3.mono (by simp)))⟩
end Go.Proofs.Ythmloakkefiicaa.dk
