import Derived.Test.YthmloakkefiicaaDisk
namespace Go.Proofs.Ythmloakkefiicaa.dk
open Go.ChangeShapes Go.WideShapes Go.ChangeAt Go.RowKit
set_option maxHeartbeats 400000 in
theorem note_any (w : World) (D : Nat) (s : Int) (t : Int) (W : Nat) (hW : W ≤ 1000000) (h5 : w.cell? ⟨D, 5, none⟩ = some (.int .i64 W)) (ht : w.cell? ⟨D, 6 + W % 64, none⟩ = some (.int .i64 t)) (hf : ∀ i, w.frozen? ⟨D, i, none⟩ = false) :
    Calls Try.prog 37 #[.pointer (some ⟨D, 0, none⟩), .int .i64 s] w fun r w' => r = .returned (.tuple #[]) ∧ ∃ k, w' = ((w.setCell ⟨D, 6 + W % 64, none⟩ (.int .i64 s)).setCell ⟨D, 5, none⟩ (.int .i64 ((W : Int) + 1))).drewN k := by
  have f5 := hf 5
  have ft := hf (6 + W % 64)
  go_enter Try.func37, Try.ntmps37
  go_wp2
  go_region
  go_wp2
  go_end0
  exact ⟨rfl, 1, rfl⟩

/-! a field written -/
theorem DiskAt.put1 {w : World} {D S : Nat} {d : Dk} (h : DiskAt w D S d) (b : Bool) : DiskAt (w.setCell ⟨D, 1, none⟩ (.bool b)) D S { d with on := b } :=
  { h with
    hd := by rw [heap_setCell_same _ _ _ _ _ _ h.hd]; rfl
    hs := by rw [heap_setCell_other _ _ _ _ (fun e => h.ne e.symm)]; exact h.hs }
theorem DiskAt.put2 {w : World} {D S : Nat} {d : Dk} (h : DiskAt w D S d) (b : Bool) : DiskAt (w.setCell ⟨D, 2, none⟩ (.bool b)) D S { d with armed := b } :=
  { h with
    hd := by rw [heap_setCell_same _ _ _ _ _ _ h.hd]; rfl
    hs := by rw [heap_setCell_other _ _ _ _ (fun e => h.ne e.symm)]; exact h.hs }
theorem DiskAt.put3 {w : World} {D S : Nat} {d : Dk} (h : DiskAt w D S d) (b : Int) : DiskAt (w.setCell ⟨D, 3, none⟩ (.int .i64 b)) D S { d with after := b } :=
  { h with
    hd := by rw [heap_setCell_same _ _ _ _ _ _ h.hd]; rfl
    hs := by rw [heap_setCell_other _ _ _ _ (fun e => h.ne e.symm)]; exact h.hs }
theorem DiskAt.put4 {w : World} {D S : Nat} {d : Dk} (h : DiskAt w D S d) (b : Int) : DiskAt (w.setCell ⟨D, 4, none⟩ (.int .i64 b)) D S { d with torn := b } :=
  { h with
    hd := by rw [heap_setCell_same _ _ _ _ _ _ h.hd]; rfl
    hs := by rw [heap_setCell_other _ _ _ _ (fun e => h.ne e.symm)]; exact h.hs }
theorem DiskAt.put5 {w : World} {D S : Nat} {d : Dk} (h : DiskAt w D S d) (b : Nat) (hb : b ≤ 1000000) : DiskAt (w.setCell ⟨D, 5, none⟩ (.int .i64 b)) D S { d with writes := b } :=
  { h with
    hd := by rw [heap_setCell_same _ _ _ _ _ _ h.hd]; rfl
    hs := by rw [heap_setCell_other _ _ _ _ (fun e => h.ne e.symm)]; exact h.hs
    hw := hb }
theorem DiskAt.putT {w : World} {D S : Nat} {d : Dk} (h : DiskAt w D S d) (i : Nat) (v : Int) : DiskAt (w.setCell ⟨D, 6 + i, none⟩ (.int .i64 v)) D S { d with tr := d.tr.set i v } :=
  { h with
    hd := by
      rw [heap_setCell_same _ _ _ _ _ _ h.hd, show 6 + i = i + 6 from by omega]
      simp [dcells]
    hs := by rw [heap_setCell_other _ _ _ _ (fun e => h.ne e.symm)]; exact h.hs
    ltr := by simp [h.ltr] }
theorem DiskAt.drewN {w : World} {D S : Nat} {d : Dk} (h : DiskAt w D S d) (k : Nat) : DiskAt (w.drewN k) D S d := { h with hd := h.hd, hs := h.hs }
theorem DiskAt.putS {w : World} {D S : Nat} {d : Dk} (h : DiskAt w D S d) (m : List Int) (hm : m.length = 512 * d.n) : DiskAt (w.setRow S (u8s m).toArray) D S { d with mem := m } :=
  { h with
    hd := by rw [setRow_other _ _ _ _ h.ne]; exact h.hd
    hs := setRow_heap _ _ _ _ _ _ h.hs
    lmem := hm }

def Dk.noted (d : Dk) (s : Int) : Dk := { d with tr := d.tr.set (d.writes % 64) s, writes := d.writes + 1 }
theorem note_disk {w : World} {D S : Nat} {d : Dk} (h : DiskAt w D S d) (s : Int) (hw : d.writes < 1000000) :
    Calls Try.prog 37 #[.pointer (some ⟨D, 0, none⟩), .int .i64 s] w fun r w' => r = .returned (.tuple #[]) ∧ DiskAt w' D S (d.noted s) ∧ Apart [D] w w' := by
  refine (note_any w D s _ d.writes h.hw h.c5 (h.ct _ (Nat.mod_lt _ (by decide))) h.fr).mono ?_
  rintro r w' ⟨rfl, k, rfl⟩
  refine ⟨rfl, ?_, ?_⟩
  · exact ((h.putT (d.writes % 64) s).put5 (d.writes + 1) (by omega)).drewN k
  · exact (((Apart.refl _ _).setCell (by simp) _).setCell (by simp) _).drewN _
def Dk.offed (d : Dk) : Dk := { d with on := false, armed := false }
theorem off_disk {w : World} {D S : Nat} {d : Dk} (h : DiskAt w D S d) :
    Calls Try.prog 16 #[.pointer (some ⟨D, 0, none⟩)] w fun r w' => r = .returned (.tuple #[]) ∧ DiskAt w' D S d.offed ∧ Apart [D] w w' := by
  refine (off_any w D _ _ h.c1 h.c2 h.fr).mono ?_
  rintro r w' ⟨rfl, rfl⟩
  exact ⟨rfl, (h.put1 false).put2 false, ((Apart.refl _ _).setCell (by simp) _).setCell (by simp) _⟩
def Dk.oned (d : Dk) : Dk := { d with on := true }
theorem on_disk {w : World} {D S : Nat} {d : Dk} (h : DiskAt w D S d) :
    Calls Try.prog 19 #[.pointer (some ⟨D, 0, none⟩)] w fun r w' => r = .returned (.tuple #[]) ∧ DiskAt w' D S d.oned ∧ Apart [D] w w' := by
  refine (on_any w D _ h.c1 h.fr).mono ?_
  rintro r w' ⟨rfl, rfl⟩
  exact ⟨rfl, h.put1 true, (Apart.refl _ _).setCell (by simp) _⟩

theorem write_off {w : World} {D S : Nat} {d : Dk} (h : DiskAt w D S d) (s : Int) (p : Option Addr) (l c : Nat) (ho : d.on = false) :
    Calls Try.prog 15 #[.pointer (some ⟨D, 0, none⟩), .int .i64 s, .slice p l c] w fun r w' => r = .returned (.int .i64 3) ∧ w' = w := by
  have hc := reach_any w D S d.n d.on s h.c0 h.c1
  rw [show reachE d.on d.n s = 3 from by simp [reachE, ho]] at hc
  go_enter Try.func15, Try.ntmps15
  go_wp2_with fail
  refine hc.mono ?_
  rintro r w' ⟨rfl, rfl⟩
  go_wp2
  go_ret
  exact ⟨rfl, rfl⟩
theorem write_sector {w : World} {D S : Nat} {d : Dk} (h : DiskAt w D S d) (s : Int) (p : Option Addr) (l c : Nat) (ho : d.on = true) (hs : s < 0 ∨ (d.n : Int) ≤ s) :
    Calls Try.prog 15 #[.pointer (some ⟨D, 0, none⟩), .int .i64 s, .slice p l c] w fun r w' => r = .returned (.int .i64 10) ∧ w' = w := by
  have hc := reach_any w D S d.n d.on s h.c0 h.c1
  rw [show reachE d.on d.n s = 10 from by simp [reachE, ho, hs]] at hc
  clear hs
  go_enter Try.func15, Try.ntmps15
  go_wp2_with fail
  refine hc.mono ?_
  rintro r w' ⟨rfl, rfl⟩
  go_wp2
  go_ret
  exact ⟨rfl, rfl⟩
theorem write_arg {w : World} {D S : Nat} {d : Dk} (h : DiskAt w D S d) (s : Int) (p : Option Addr) (l c : Nat) (ho : d.on = true) (hs0 : 0 ≤ s) (hs1 : s < d.n) (hl : l ≠ 512) :
    Calls Try.prog 15 #[.pointer (some ⟨D, 0, none⟩), .int .i64 s, .slice p l c] w fun r w' => r = .returned (.int .i64 1) ∧ w' = w := by
  have hc := reach_any w D S d.n d.on s h.c0 h.c1
  rw [show reachE d.on d.n s = 0 from by simp [reachE, ho]; omega] at hc
  have hl' : ((l : Int) != 512) = true := by rw [bne_iff_ne]; omega
  clear hl
  go_enter Try.func15, Try.ntmps15
  go_wp2_with fail
  refine hc.mono ?_
  rintro r w' ⟨rfl, rfl⟩
  go_wp2
  go_ret
  exact ⟨rfl, rfl⟩
end Go.Proofs.Ythmloakkefiicaa.dk
