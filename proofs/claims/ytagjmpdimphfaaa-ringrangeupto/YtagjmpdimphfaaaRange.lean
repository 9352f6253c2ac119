import Derived.Test.YtagjmpdimphfaaaSame
import Derived.Lib.ConvBytes
namespace Go.Proofs.Ytagjmpdimphfaaa.rg
open Go.ChangeShapes Go.WideShapes Go.ChangeAt Go.RowKit Go.Sort
set_option linter.unusedVariables false
set_option linter.unusedSimpArgs false
def strN (s : ByteArray) : List Nat := s.data.toList.map UInt8.toNat
theorem strN_len (s : ByteArray) : (strN s).length = s.size := by simp [strN]
theorem strN_get (s : ByteArray) (j : Nat) (hj : j < s.size) : (strN s).getD j 0 = (s.data.toList.getD j 0).toNat := by
  have h1 : j < s.data.toList.length := by simpa using hj
  simp [strN, List.getD_eq_getElem?_getD, List.getElem?_eq_getElem h1]
theorem strN_lt (s : ByteArray) : ∀ x ∈ strN s, x < 256 := by
  intro x hx
  simp only [strN, List.mem_map] at hx
  obtain ⟨b, _, rfl⟩ := hx
  exact b.toNat_lt
theorem bytes_apart (w : World) (e : TypeId) (s : ByteArray) : Apart [] w (Lib.bytesWorld w e s) :=
  ⟨rfl, rfl, rfl, by rw [Lib.bytesWorld_size]; omega, fun k hk _ => Lib.bytesWorld_at_old w e s k hk⟩
theorem bytes_by (w : World) (e : TypeId) (s : ByteArray) : By (Lib.bytesWorld w e s) (some ⟨w.heap.size, 0, none⟩) s.size (strN s) := by
  refine ⟨strN_len s, strN_lt s, fun h0 => ⟨w.heap.size, 0, rfl, by rw [Lib.bytesWorld_size]; omega, fun i hi => ?_⟩⟩
  rw [strN_len] at hi
  rw [Nat.zero_add, Lib.bytesWorld_cell w e s i hi, strN_get s i hi]
set_option maxHeartbeats 2000000 in
set_option maxRecDepth 100000 in
theorem range_ok {w : World} {R n m : Nat} (G : Rg w R n m) (s : ByteArray) (hs : s.size ≤ 9223372036854775807) : Calls Try.prog 14 #[.pointer (some ⟨R, 0, none⟩), .string s] w fun r w' => r = .returned (.int .i64 (hashN (strN s) % m : Nat)) ∧ Apart [] w w' := by
  have r1 : ∀ X, Apart [] w X → X.cell? ⟨R, 1, none⟩ = some (.int .i64 (m : Nat)) := fun X a => (a.cell (p := ⟨R, 1, none⟩) G.lt (by simp)).trans G.c1
  have hm1 := G.m1
  have hm16 := G.m16
  have aD : Apart [] w w.drew := (Apart.refl _ _).drew
  have hconv := Lib.run_convert_string_bytes (P := Try.prog) w.drew 9 64 5 s Try.underlying9 Try.underlying64 Try.underlying5
  have aB : Apart [] w (Lib.bytesWorld w.drew 5 s) := aD.trans (bytes_apart w.drew 5 s)
  have hBy := bytes_by w.drew 5 s
  have hwm : IntKind.u32.wrap (m : Int) = (m : Int) := by simp [IntKind.wrap, IntKind.bits, IntKind.signed]; omega
  have hh := hashN_lt (strN s)
  have hm0 : ¬ ((m : Int) = 0) := by omega
  obtain ⟨cb, Hcb⟩ : ∃ cb, Hid (cb = grownCap w.drew s.size 0 5) := ⟨_, rfl⟩
  rw [← Hcb.out] at hconv
  generalize Lib.bytesWorld w.drew 5 s = Z at *
  obtain ⟨h, Hh⟩ : ∃ h, Hid (h = hashN (strN s)) := ⟨_, rfl⟩
  obtain ⟨q, Hq⟩ : ∃ q, Hid (q = h % m) := ⟨_, rfl⟩
  have hlt : q < 16 := by rw [Hq.out]; exact Nat.lt_of_lt_of_le (Nat.mod_lt _ (by omega)) hm16
  have hrem : ((h : Int)).tmod (m : Int) = (q : Int) := by rw [Hq.out, Int.ofNat_tmod]
  have hwq : IntKind.i64.wrap (q : Int) = (q : Int) := by simp [IntKind.wrap, IntKind.bits, IntKind.signed]; omega
  have hm00 : ¬ m = 0 := by omega
  rw [← Hh.out] at hh ⊢
  rw [← Hq.out]
  go_enter Try.func14, Try.ntmps14
  go_wp2_with fail
  refine wp_region_held_drew (S := fun X => Apart [] w X) (by kernel_rfl) aD (fun hHeld => ?_)
  refine wpAnyH_take (i := 0) (oi := ⟨some 5, _, _, _, _, _⟩) (v := (.string s)) rfl (by kernel_rfl) (by kernel_rfl) (by kernel_rfl) (fun _ _ _ h => h) (Or.inl ⟨by rfl, ?_⟩) (by assumption) ?_
  · intro W hSW; go_simp
  simp only [Act.put, List.setIfInBounds_toArray, List.set_cons_zero, List.set_cons_succ]
  refine wpAnyH_take (i := 3) (oi := ⟨some 8, _, _, _, _, _⟩) (v := (.pointer (some ⟨R, 0, none⟩))) rfl (by kernel_rfl) (by kernel_rfl) (by kernel_rfl) (fun _ _ _ h => h) (Or.inl ⟨by rfl, ?_⟩) (by assumption) ?_
  · intro W hSW; go_simp
  simp only [Act.put, List.setIfInBounds_toArray, List.set_cons_zero, List.set_cons_succ]
  refine wpAnyH_take (i := 4) (oi := ⟨some 9, _, _, _, _, _⟩) (v := (.pointer (some ⟨R, 0, none⟩))) rfl (by kernel_rfl) (by kernel_rfl) (by kernel_rfl) (fun _ _ _ h => h) (Or.inl ⟨by rfl, ?_⟩) (by assumption) ?_
  · intro W hSW; go_simp
  simp only [Act.put, List.setIfInBounds_toArray, List.set_cons_zero, List.set_cons_succ]
  refine wpAnyH_take (i := 5) (oi := ⟨some 10, _, _, _, _, _⟩) (v := (.pointer (some ⟨R, 1, none⟩))) rfl (by kernel_rfl) (by kernel_rfl) (by kernel_rfl) (fun _ _ _ h => h) (Or.inl ⟨by rfl, ?_⟩) (by assumption) ?_
  · intro W hSW; go_simp
  simp only [Act.put, List.setIfInBounds_toArray, List.set_cons_zero, List.set_cons_succ]
  refine wpAnyH_take (i := 6) (oi := ⟨some 11, _, _, _, _, _⟩) (v := (.int .i64 (m : Nat))) rfl (by kernel_rfl) (by kernel_rfl) (by kernel_rfl) (fun _ _ _ h => h) (Or.inl ⟨by rfl, ?_⟩) (by assumption) ?_
  · intro W hSW; go_simp
  simp only [Act.put, List.setIfInBounds_toArray, List.set_cons_zero, List.set_cons_succ]
  refine wpAnyH_take (i := 7) (oi := ⟨some 12, _, _, _, _, _⟩) (v := (.int .u32 (m : Nat))) rfl (by kernel_rfl) (by kernel_rfl) (by kernel_rfl) (fun _ _ _ h => h) (Or.inl ⟨by rfl, ?_⟩) (by assumption) ?_
  · intro W hSW; go_simp
  simp only [Act.put, List.setIfInBounds_toArray, List.set_cons_zero, List.set_cons_succ]
  refine wpAnyH_ready (rs := [1]) (by kernel_rfl) (by simp) ?_
  refine AllReadyH.cons rfl (fun KK hKK => ?_) AllReadyH.nil
  go_simp
  refine hKK.out _ _ (by assumption) (fun hHeld => ?_)
  clear hKK KK
  refine wpAnyH_ready (rs := [2]) (by kernel_rfl) (by simp) ?_
  refine AllReadyH.cons rfl (fun KK hKK => ?_) AllReadyH.nil
  go_simp
  refine (hash_ok hBy (by omega)).mono ?_
  rintro r w2 ⟨rfl, rfl⟩
  dsimp only
  rw [← Hh.out]
  refine hKK.out _ _ (by assumption) (fun hHeld => ?_)
  clear hKK KK
  refine wpAnyH_take (i := 8) (oi := ⟨some 13, _, _, _, _, _⟩) (v := (.int .u32 (q : Nat))) rfl (by kernel_rfl) (by kernel_rfl) (by kernel_rfl) (fun _ _ _ h => h) (Or.inl ⟨by rfl, ?_⟩) (by assumption) ?_
  · intro W hSW; go_simp
  simp only [Act.put, List.setIfInBounds_toArray, List.set_cons_zero, List.set_cons_succ]
  refine wpAnyH_take (i := 9) (oi := ⟨some 14, _, _, _, _, _⟩) (v := (.int .i64 (q : Nat))) rfl (by kernel_rfl) (by kernel_rfl) (by kernel_rfl) (fun _ _ _ h => h) (Or.inl ⟨by rfl, ?_⟩) (by assumption) ?_
  · intro W hSW; go_simp
  simp only [Act.put, List.setIfInBounds_toArray, List.set_cons_zero, List.set_cons_succ]
  refine wpAnyH_take (i := 10) (oi := ⟨some 4, _, _, _, _, _⟩) (v := (.int .i64 (q : Nat))) rfl (by kernel_rfl) (by kernel_rfl) (by kernel_rfl) (fun _ _ _ h => h) (Or.inl ⟨by rfl, ?_⟩) (by assumption) ?_
  · intro W hSW; go_simp
  simp only [Act.put, List.setIfInBounds_toArray, List.set_cons_zero, List.set_cons_succ]
  refine wpAnyH_done (by kernel_rfl) ?_ _
  go_wp2_with fail
  go_ret
  exact ⟨rfl, by assumption⟩
end Go.Proofs.Ytagjmpdimphfaaa.rg
