import Derived.Test.YtdbeeikjngnnnaaG8
namespace Go.Proofs.Ytdbeeikjngnnnaa.ty
open Go.ChangeShapes Go.WideShapes Go.ChangeAt Go.RowKit
set_option linter.unusedVariables false
set_option linter.unusedSimpArgs false
set_option maxRecDepth 100000 in
theorem Merge_no {w : World} {V O : Nat} {T T' : TypeId} {x y : Value} {e : Int} (he : e ≠ 0) (hV : Bd w V (.iface T x)) (hO : Bd w O (.iface T' y)) (hc : ∀ wx, Apart [] w wx → Calls Try.prog 32 #[.iface T x, .iface T' y] wx fun r w' => r = .returned (.tuple #[.nilIface, .int .i64 e]) ∧ Apart [] wx w') : Calls Try.prog 14 #[.pointer (some ⟨V, 0, none⟩), .pointer (some ⟨O, 0, none⟩)] w fun r w' => r = .returned (.int .i64 e) ∧ Apart [] w w' := by
  have HV := hid hV
  have HO := hid hO
  have HC := hid hc
  clear hV hO hc
  go_enter Try.func14, Try.ntmps14
  go_upto_region 3 with fail
  have hAd : Apart [V] w w.drew := (Apart.refl [V] w).drew
  have HA : Hid (Apart [] w w.drew) := (Apart.refl [] w).drew
  refine wp_region_held_drew (S := fun W => Apart [V] w W) (by kernel_rfl) hAd (fun hHeld => ?_)
  generalize w.drew = wd at *
  clear hAd
  refine tk 0 7 (.pointer (some ⟨V, 0, none⟩)) rfl ?_ ?_
  · intro W hSW; go_simp
  simp only [Act.put, List.setIfInBounds_toArray, List.set_cons_zero, List.set_cons_succ]
  refine tk 1 8 (.pointer (some ⟨V, 0, none⟩)) rfl ?_ ?_
  · intro W hSW; go_simp
  simp only [Act.put, List.setIfInBounds_toArray, List.set_cons_zero, List.set_cons_succ]
  refine tk 2 9 (.pointer (some ⟨V, 0, none⟩)) rfl ?_ ?_
  · intro W hSW; go_simp
  simp only [Act.put, List.setIfInBounds_toArray, List.set_cons_zero, List.set_cons_succ]
  refine tk 3 10 (.pointer (some ⟨V, 0, none⟩)) rfl ?_ ?_
  · intro W hSW; go_simp
  simp only [Act.put, List.setIfInBounds_toArray, List.set_cons_zero, List.set_cons_succ]
  refine tk 5 12 (.pointer (some ⟨O, 0, none⟩)) rfl ?_ ?_
  · intro W hSW; go_simp
  simp only [Act.put, List.setIfInBounds_toArray, List.set_cons_zero, List.set_cons_succ]
  refine tk 6 13 (.pointer (some ⟨O, 0, none⟩)) rfl ?_ ?_
  · intro W hSW; go_simp
  simp only [Act.put, List.setIfInBounds_toArray, List.set_cons_zero, List.set_cons_succ]
  refine tk 7 14 (.pointer (some ⟨O, 0, none⟩)) rfl ?_ ?_
  · intro W hSW; go_simp
  simp only [Act.put, List.setIfInBounds_toArray, List.set_cons_zero, List.set_cons_succ]
  refine wpAnyH_ready (rs := [4, 8]) (by kernel_rfl) (by simp) ?_
  refine AllReadyH.cons rfl (fun KK hKK => ?_) (AllReadyH.cons rfl (fun KK hKK => ?_) AllReadyH.nil)
  · have z4 : wd.cell? ⟨V, 0, none⟩ = some (.iface T x) := by rw [cell_of_row _ _ _ _ _ _ (keep0 HA.out HV.out)]; rfl
    go_simp
    refine hKK.out _ _ hHeld (fun hHeld => ?_)
    clear hKK KK z4
    try simp only [Act.put, List.setIfInBounds_toArray, List.set_cons_zero, List.set_cons_succ]
    refine wpAnyH_ready (rs := [8]) (by kernel_rfl) (by simp) ?_
    refine AllReadyH.cons rfl (fun KK hKK => ?_) AllReadyH.nil
    have z8 : wd.cell? ⟨O, 0, none⟩ = some (.iface T' y) := by rw [cell_of_row _ _ _ _ _ _ (keep0 HA.out HO.out)]; rfl
    go_simp
    refine hKK.out _ _ hHeld (fun hHeld => ?_)
    clear hKK KK z8
    try simp only [Act.put, List.setIfInBounds_toArray, List.set_cons_zero, List.set_cons_succ]
    refine wpAnyH_ready (rs := [9]) (by kernel_rfl) (by simp) ?_
    refine AllReadyH.cons rfl (fun KK hKK => ?_) AllReadyH.nil
    go_simp
    refine (HC.out _ HA.out).mono ?_
    rintro _ w2 ⟨rfl, a2⟩
    have HA2 := hid (HA.out.trans a2)
    have hH2 := hHeld.trans (a2.mono (by simp))
    clear a2
    try dsimp only
    refine hKK.out _ _ hH2 (fun hHeld => ?_)
    clear hKK KK
    try simp only [Act.put, List.setIfInBounds_toArray, List.set_cons_zero, List.set_cons_succ]
    refine tk 10 17 (.nilIface) rfl ?_ ?_
    · intro W hSW; go_simp
    simp only [Act.put, List.setIfInBounds_toArray, List.set_cons_zero, List.set_cons_succ]
    refine tk 11 18 (.int .i64 e) rfl ?_ ?_
    · intro W hSW; go_simp
    simp only [Act.put, List.setIfInBounds_toArray, List.set_cons_zero, List.set_cons_succ]
    refine wpAnyH_ready (rs := [12]) (by kernel_rfl) (by simp) ?_
    refine AllReadyH.cons rfl (fun KK hKK => ?_) AllReadyH.nil
    go_simp
    refine (become_no _ e he).mono ?_
    rintro _ _ ⟨rfl, rfl⟩
    try dsimp only
    refine hKK.out _ _ hHeld (fun hHeld => ?_)
    clear hKK KK
    try simp only [Act.put, List.setIfInBounds_toArray, List.set_cons_zero, List.set_cons_succ]
    refine tk 13 4 (.int .i64 e) rfl ?_ ?_
    · intro W hSW; go_simp
    simp only [Act.put, List.setIfInBounds_toArray, List.set_cons_zero, List.set_cons_succ]
    refine wpAnyH_done (by kernel_rfl) ?_ _
    clear hHeld
    go_wp2_with fail
    go_ret
    exact ⟨rfl, HA2.out⟩
  · have z8 : wd.cell? ⟨O, 0, none⟩ = some (.iface T' y) := by rw [cell_of_row _ _ _ _ _ _ (keep0 HA.out HO.out)]; rfl
    go_simp
    refine hKK.out _ _ hHeld (fun hHeld => ?_)
    clear hKK KK z8
    try simp only [Act.put, List.setIfInBounds_toArray, List.set_cons_zero, List.set_cons_succ]
    refine wpAnyH_ready (rs := [4]) (by kernel_rfl) (by simp) ?_
    refine AllReadyH.cons rfl (fun KK hKK => ?_) AllReadyH.nil
    have z4 : wd.cell? ⟨V, 0, none⟩ = some (.iface T x) := by rw [cell_of_row _ _ _ _ _ _ (keep0 HA.out HV.out)]; rfl
    go_simp
    refine hKK.out _ _ hHeld (fun hHeld => ?_)
    clear hKK KK z4
    try simp only [Act.put, List.setIfInBounds_toArray, List.set_cons_zero, List.set_cons_succ]
    refine wpAnyH_ready (rs := [9]) (by kernel_rfl) (by simp) ?_
    refine AllReadyH.cons rfl (fun KK hKK => ?_) AllReadyH.nil
    go_simp
    refine (HC.out _ HA.out).mono ?_
    rintro _ w2 ⟨rfl, a2⟩
    have HA2 := hid (HA.out.trans a2)
    have hH2 := hHeld.trans (a2.mono (by simp))
    clear a2
    try dsimp only
    refine hKK.out _ _ hH2 (fun hHeld => ?_)
    clear hKK KK
    try simp only [Act.put, List.setIfInBounds_toArray, List.set_cons_zero, List.set_cons_succ]
    refine tk 10 17 (.nilIface) rfl ?_ ?_
    · intro W hSW; go_simp
    simp only [Act.put, List.setIfInBounds_toArray, List.set_cons_zero, List.set_cons_succ]
    refine tk 11 18 (.int .i64 e) rfl ?_ ?_
    · intro W hSW; go_simp
    simp only [Act.put, List.setIfInBounds_toArray, List.set_cons_zero, List.set_cons_succ]
    refine wpAnyH_ready (rs := [12]) (by kernel_rfl) (by simp) ?_
    refine AllReadyH.cons rfl (fun KK hKK => ?_) AllReadyH.nil
    go_simp
    refine (become_no _ e he).mono ?_
    rintro _ _ ⟨rfl, rfl⟩
    try dsimp only
    refine hKK.out _ _ hHeld (fun hHeld => ?_)
    clear hKK KK
    try simp only [Act.put, List.setIfInBounds_toArray, List.set_cons_zero, List.set_cons_succ]
    refine tk 13 4 (.int .i64 e) rfl ?_ ?_
    · intro W hSW; go_simp
    simp only [Act.put, List.setIfInBounds_toArray, List.set_cons_zero, List.set_cons_succ]
    refine wpAnyH_done (by kernel_rfl) ?_ _
    clear hHeld
    go_wp2_with fail
    go_ret
    exact ⟨rfl, HA2.out⟩
set_option maxRecDepth 100000 in
theorem Merge_ok {w : World} {V O : Nat} {T T' : TypeId} {x y : Value} {P : Array Value → World → Prop} (hV : Bd w V (.iface T x)) (hO : Bd w O (.iface T' y)) (hc : ∀ wx, Apart [] w wx → Calls Try.prog 32 #[.iface T x, .iface T' y] wx fun r w' => ∃ es, r = .returned (.tuple #[.iface T (.agg es), .int .i64 0]) ∧ Apart [] wx w' ∧ P es w') : Calls Try.prog 14 #[.pointer (some ⟨V, 0, none⟩), .pointer (some ⟨O, 0, none⟩)] w fun r w' => r = .returned (.int .i64 0) ∧ ∃ es w2, Bd w' V (.iface T (.agg es)) ∧ Apart [] w w2 ∧ Apart [V] w2 w' ∧ P es w2 := by
  have HV := hid hV
  have HO := hid hO
  have HC := hid hc
  clear hV hO hc
  go_enter Try.func14, Try.ntmps14
  go_upto_region 3 with fail
  have hAd : Apart [V] w w.drew := (Apart.refl [V] w).drew
  have HA : Hid (Apart [] w w.drew) := (Apart.refl [] w).drew
  refine wp_region_held_drew (S := fun W => Apart [V] w W) (by kernel_rfl) hAd (fun hHeld => ?_)
  generalize w.drew = wd at *
  clear hAd
  refine tk 0 7 (.pointer (some ⟨V, 0, none⟩)) rfl ?_ ?_
  · intro W hSW; go_simp
  simp only [Act.put, List.setIfInBounds_toArray, List.set_cons_zero, List.set_cons_succ]
  refine tk 1 8 (.pointer (some ⟨V, 0, none⟩)) rfl ?_ ?_
  · intro W hSW; go_simp
  simp only [Act.put, List.setIfInBounds_toArray, List.set_cons_zero, List.set_cons_succ]
  refine tk 2 9 (.pointer (some ⟨V, 0, none⟩)) rfl ?_ ?_
  · intro W hSW; go_simp
  simp only [Act.put, List.setIfInBounds_toArray, List.set_cons_zero, List.set_cons_succ]
  refine tk 3 10 (.pointer (some ⟨V, 0, none⟩)) rfl ?_ ?_
  · intro W hSW; go_simp
  simp only [Act.put, List.setIfInBounds_toArray, List.set_cons_zero, List.set_cons_succ]
  refine tk 5 12 (.pointer (some ⟨O, 0, none⟩)) rfl ?_ ?_
  · intro W hSW; go_simp
  simp only [Act.put, List.setIfInBounds_toArray, List.set_cons_zero, List.set_cons_succ]
  refine tk 6 13 (.pointer (some ⟨O, 0, none⟩)) rfl ?_ ?_
  · intro W hSW; go_simp
  simp only [Act.put, List.setIfInBounds_toArray, List.set_cons_zero, List.set_cons_succ]
  refine tk 7 14 (.pointer (some ⟨O, 0, none⟩)) rfl ?_ ?_
  · intro W hSW; go_simp
  simp only [Act.put, List.setIfInBounds_toArray, List.set_cons_zero, List.set_cons_succ]
  refine wpAnyH_ready (rs := [4, 8]) (by kernel_rfl) (by simp) ?_
  refine AllReadyH.cons rfl (fun KK hKK => ?_) (AllReadyH.cons rfl (fun KK hKK => ?_) AllReadyH.nil)
  · have z4 : wd.cell? ⟨V, 0, none⟩ = some (.iface T x) := by rw [cell_of_row _ _ _ _ _ _ (keep0 HA.out HV.out)]; rfl
    go_simp
    refine hKK.out _ _ hHeld (fun hHeld => ?_)
    clear hKK KK z4
    try simp only [Act.put, List.setIfInBounds_toArray, List.set_cons_zero, List.set_cons_succ]
    refine wpAnyH_ready (rs := [8]) (by kernel_rfl) (by simp) ?_
    refine AllReadyH.cons rfl (fun KK hKK => ?_) AllReadyH.nil
    have z8 : wd.cell? ⟨O, 0, none⟩ = some (.iface T' y) := by rw [cell_of_row _ _ _ _ _ _ (keep0 HA.out HO.out)]; rfl
    go_simp
    refine hKK.out _ _ hHeld (fun hHeld => ?_)
    clear hKK KK z8
    try simp only [Act.put, List.setIfInBounds_toArray, List.set_cons_zero, List.set_cons_succ]
    refine wpAnyH_ready (rs := [9]) (by kernel_rfl) (by simp) ?_
    refine AllReadyH.cons rfl (fun KK hKK => ?_) AllReadyH.nil
    go_simp
    refine (HC.out _ HA.out).mono ?_
    rintro _ w2 ⟨es, rfl, a2, p2⟩
    have HA2 := hid (HA.out.trans a2)
    have HP := hid p2
    have hH2 := hHeld.trans (a2.mono (by simp))
    clear a2 p2
    try dsimp only
    refine hKK.out _ _ hH2 (fun hHeld => ?_)
    clear hKK KK
    try simp only [Act.put, List.setIfInBounds_toArray, List.set_cons_zero, List.set_cons_succ]
    refine tk 10 17 (.iface T (.agg es)) rfl ?_ ?_
    · intro W hSW; go_simp
    simp only [Act.put, List.setIfInBounds_toArray, List.set_cons_zero, List.set_cons_succ]
    refine tk 11 18 (.int .i64 0) rfl ?_ ?_
    · intro W hSW; go_simp
    simp only [Act.put, List.setIfInBounds_toArray, List.set_cons_zero, List.set_cons_succ]
    refine wpAnyH_ready (rs := [12]) (by kernel_rfl) (by simp) ?_
    refine AllReadyH.cons rfl (fun KK hKK => ?_) AllReadyH.nil
    go_simp
    refine (become_ok (keep0 HA2.out HV.out) T (.agg es)).mono ?_
    rintro _ w3 ⟨rfl, b3, a3⟩
    have H3 := hid (And.intro b3 a3)
    have hH3 := hHeld.trans a3
    clear b3 a3
    try dsimp only
    refine hKK.out _ _ hH3 (fun hHeld => ?_)
    clear hKK KK
    try simp only [Act.put, List.setIfInBounds_toArray, List.set_cons_zero, List.set_cons_succ]
    refine tk 13 4 (.int .i64 0) rfl ?_ ?_
    · intro W hSW; go_simp
    simp only [Act.put, List.setIfInBounds_toArray, List.set_cons_zero, List.set_cons_succ]
    refine wpAnyH_done (by kernel_rfl) ?_ _
    clear hHeld
    go_wp2_with fail
    go_ret
    exact ⟨rfl, es, w2, H3.out.1, HA2.out, H3.out.2, HP.out⟩
  · have z8 : wd.cell? ⟨O, 0, none⟩ = some (.iface T' y) := by rw [cell_of_row _ _ _ _ _ _ (keep0 HA.out HO.out)]; rfl
    go_simp
    refine hKK.out _ _ hHeld (fun hHeld => ?_)
    clear hKK KK z8
    try simp only [Act.put, List.setIfInBounds_toArray, List.set_cons_zero, List.set_cons_succ]
    refine wpAnyH_ready (rs := [4]) (by kernel_rfl) (by simp) ?_
    refine AllReadyH.cons rfl (fun KK hKK => ?_) AllReadyH.nil
    have z4 : wd.cell? ⟨V, 0, none⟩ = some (.iface T x) := by rw [cell_of_row _ _ _ _ _ _ (keep0 HA.out HV.out)]; rfl
    go_simp
    refine hKK.out _ _ hHeld (fun hHeld => ?_)
    clear hKK KK z4
    try simp only [Act.put, List.setIfInBounds_toArray, List.set_cons_zero, List.set_cons_succ]
    refine wpAnyH_ready (rs := [9]) (by kernel_rfl) (by simp) ?_
    refine AllReadyH.cons rfl (fun KK hKK => ?_) AllReadyH.nil
    go_simp
    refine (HC.out _ HA.out).mono ?_
    rintro _ w2 ⟨es, rfl, a2, p2⟩
    have HA2 := hid (HA.out.trans a2)
    have HP := hid p2
    have hH2 := hHeld.trans (a2.mono (by simp))
    clear a2 p2
    try dsimp only
    refine hKK.out _ _ hH2 (fun hHeld => ?_)
    clear hKK KK
    try simp only [Act.put, List.setIfInBounds_toArray, List.set_cons_zero, List.set_cons_succ]
    refine tk 10 17 (.iface T (.agg es)) rfl ?_ ?_
    · intro W hSW; go_simp
    simp only [Act.put, List.setIfInBounds_toArray, List.set_cons_zero, List.set_cons_succ]
    refine tk 11 18 (.int .i64 0) rfl ?_ ?_
    · intro W hSW; go_simp
    simp only [Act.put, List.setIfInBounds_toArray, List.set_cons_zero, List.set_cons_succ]
    refine wpAnyH_ready (rs := [12]) (by kernel_rfl) (by simp) ?_
    refine AllReadyH.cons rfl (fun KK hKK => ?_) AllReadyH.nil
    go_simp
    refine (become_ok (keep0 HA2.out HV.out) T (.agg es)).mono ?_
    rintro _ w3 ⟨rfl, b3, a3⟩
    have H3 := hid (And.intro b3 a3)
    have hH3 := hHeld.trans a3
    clear b3 a3
    try dsimp only
    refine hKK.out _ _ hH3 (fun hHeld => ?_)
    clear hKK KK
    try simp only [Act.put, List.setIfInBounds_toArray, List.set_cons_zero, List.set_cons_succ]
    refine tk 13 4 (.int .i64 0) rfl ?_ ?_
    · intro W hSW; go_simp
    simp only [Act.put, List.setIfInBounds_toArray, List.set_cons_zero, List.set_cons_succ]
    refine wpAnyH_done (by kernel_rfl) ?_ _
    clear hHeld
    go_wp2_with fail
    go_ret
    exact ⟨rfl, es, w2, H3.out.1, HA2.out, H3.out.2, HP.out⟩
end Go.Proofs.Ytdbeeikjngnnnaa.ty
namespace Go.Proofs.Ytdbeeikjngnnnaa.ty
open Go.ChangeShapes Go.WideShapes Go.ChangeAt Go.RowKit
set_option linter.unusedVariables false
set_option linter.unusedSimpArgs false
theorem info5 : (Try.prog.info? 5).map (fun i => (i.zero, i.size, i.bytes)) = some (some (.int .u8 0), 1, 1) := by kernel_rfl
theorem info_of {t : TypeId} {z : Option Value} {s b : Nat} (h : (Try.prog.info? t).map (fun i => (i.zero, i.size, i.bytes)) = some (z, s, b)) : ∃ i, Try.prog.info? t = some i ∧ i.zero = z ∧ i.size = s ∧ i.bytes = b := by
  cases hq : Try.prog.info? t with
  | none => simp [hq] at h
  | some i =>
    simp [hq] at h
    exact ⟨i, rfl, h.1, h.2.1, h.2.2⟩
/-- only blocks of these types have changed -/
def TK (ts : List Nat) (W W' : World) : Prop := ∃ Z, Apart Z W W' ∧ ∀ k ∈ Z, ∃ cur t, t ∈ ts ∧ W.heap[k]? = some (.cells cur t (0, 0))
theorem TK.trans {ts : List Nat} {W W1 W2 : World} (h : TK ts W W1) (k : TK ts W1 W2) : TK ts W W2 := by
  obtain ⟨Z, a, hz⟩ := h
  obtain ⟨Y, b, hy⟩ := k
  refine ⟨Z ++ Y.filter (fun y => y < W.heap.size), (a.mono (fun x hx => List.mem_append_left _ hx)).trans' b (fun y hyy => ?_), fun k hk => ?_⟩
  · by_cases hs : y < W.heap.size
    · left; simp [hyy, hs]
    · right; omega
  · rcases List.mem_append.1 hk with hk | hk
    · exact hz k hk
    · simp at hk
      by_cases hkz : k ∈ Z
      · exact hz k hkz
      · obtain ⟨cur, t, ht, hh⟩ := hy k hk.1
        exact ⟨cur, t, ht, (a.block k hk.2 hkz).symm.trans hh⟩
theorem TK.block {ts : List Nat} {W W' : World} (h : TK ts W W') {Y : Nat} {cur : Array Value} {t : TypeId} (hY : W.heap[Y]? = some (.cells cur t (0, 0))) (ht : t ∉ ts) : W'.heap[Y]? = some (.cells cur t (0, 0)) := by
  obtain ⟨Z, a, hz⟩ := h
  refine (a.block Y (lt_of_heap hY) (fun hm => ?_)).trans hY
  obtain ⟨cu, t', ht', hh⟩ := hz Y hm
  rw [hY] at hh
  simp at hh
  exact ht (hh.2 ▸ ht')
theorem TK.size {ts : List Nat} {W W' : World} (h : TK ts W W') : W.heap.size ≤ W'.heap.size := by obtain ⟨Z, a, _⟩ := h; exact a.size
theorem TK.own {ts : List Nat} {w W W' : World} {e size : Nat} {s : Sl} {us : List Value} (hn : Nw w W e size s us) (a : Apart s.v.ownBlock.toList W W') (he : e ∈ ts) : TK ts W W' :=
  ⟨_, a, fun k hk => by obtain ⟨cur, hc⟩ := own_typ hn.own (k := k) (by simpa using hk); exact ⟨cur, e, he, hc⟩⟩
theorem TK.refl (ts : List Nat) (w : World) : TK ts w w := ⟨[], Apart.refl _ _, by simp⟩
theorem TK.of0 {ts : List Nat} {w w' : World} (a : Apart [] w w') : TK ts w w' := ⟨[], a, by simp⟩
/-- bytes in memory of the call's own -/
structure Bf (wB w : World) (s : Sl) (us : List Nat) : Prop where
  nw : Nw wB w 5 1 s (byts us)
  len : s.n = us.length
theorem Bf.kept {wB w w' : World} {s : Sl} {us : List Nat} (h : Bf wB w s us) (a : Apart [] w w') : Bf wB w' s us := ⟨h.nw.kept a, h.len⟩
theorem byts_app (a b : List Nat) : byts (a ++ b) = byts a ++ byts b := by simp [byts]
theorem app_byte {wB w : World} {s : Sl} {us : List Nat} (h : Bf wB w s us) (x : Nat) (hl : us.length + 1 ≤ 4000000) :
    ∃ s' W', (Builtin.append_ #[22, 22] 22 #[.slice s.p s.n s.c, .slice (some ⟨w.heap.size, 0, none⟩) 1 1]).run Try.prog (w.alloc (Obj.cells #[.int .u8 (x : Int)] 5)) = .ok (.slice s'.p s'.n s'.c) W' ∧ Bf wB W' s' (us ++ [x]) ∧ TK [5] w W' := by
  obtain ⟨i0, hif, hz0, hz1, hz2⟩ := info_of info5
  have hlen := h.len
  obtain ⟨s5, w5, hrun, hnw5, hs5, ap5, k5, hk5, -, hk6⟩ := run_appM (s := s) 22 22 5 i0 _ 1 1 Try.underlying22 hif hz0 hz1 hz2 rfl (by decide) h.nw 1 (byts [x]) (by decide) rfl (oneB _) (by unfold maxLen; omega) (by omega)
  exact ⟨s5, w5, hrun, ⟨by rw [byts_app]; exact hnw5, by simp; omega⟩, TK.own h.nw ap5 (by simp)⟩
/-- a number's bytes, the least first -/
def leB (n : Nat) : Nat → List Nat
  | 0 => []
  | k + 1 => leB n k ++ [n / 2 ^ (8 * k) % 256]
theorem leB_len (n : Nat) : ∀ k, (leB n k).length = k
  | 0 => rfl
  | k + 1 => by simp [leB, leB_len n k]
set_option maxRecDepth 100000 in
theorem appN {wB w : World} {s : Sl} {us : List Nat} (hb : Bf wB w s us) (hl : us.length ≤ 1000000) {n : Nat} {width : Nat} (hw : width ≤ 6) : Calls Try.prog 85 #[.slice s.p s.n s.c, .int .i64 (n : Int), .int .i64 (width : Int)] w fun r w' => ∃ s', r = .returned (.slice s'.p s'.n s'.c) ∧ Bf wB w' s' (us ++ leB n width) ∧ TK [5] w w' := by
  have HB := hid hb
  have Hl := hid hl
  clear hb hl
  go_enter Try.func85, Try.ntmps85
  go_wp2_with fail
  go_loopw [0, 9] (fun b v wt => ∃ (i : Nat) (s : Sl), v = .int .i64 (i : Nat) ∧ i ≤ width ∧ b = .slice s.p s.n s.c ∧ Hid (Bf wB wt s (us ++ leB n i)) ∧ Hid (TK [5] w wt)) (fun _ v _ => width - (intOf v).toNat)
  case atStart => exact ⟨0, s, rfl, Nat.zero_le _, rfl, by simpa [leB] using HB, hid (TK.refl _ _)⟩
  case round =>
    clear HB
    obtain ⟨i, s2, rfl, hi, rfl, HB, HT⟩ := hrel
    generalize wr = wt at *
    by_cases hlt : i < width
    · have hlti : ((i : Nat) : Int) < (width : Nat) := by omega
      have h8 : wrap64 (8 * (i : Int)) = ((8 * i : Nat) : Int) := by rw [IntWalk.wrap64_in _ (by omega)]; omega
      obtain ⟨s3, w3, hrun, hb3, hk3⟩ := app_byte HB.out (n / 2 ^ (8 * i) % 256) (by have := Hl.out; simp [leB_len]; omega)
      have e : ((n / 2 ^ (8 * i) % 256 : Nat) : Int) = (n : Int) / 2 ^ (8 * i) % 256 := by
        rw [Int.natCast_emod, Int.natCast_ediv, Int.natCast_pow]; rfl
      rw [e] at hrun
      clear e
      have HR := hid hrun
      have HB3 : Hid (Bf wB w3 s3 (us ++ leB n (i + 1))) := by unfold Hid; rw [leB, ← List.append_assoc]; exact hb3
      have HT3 := hid (HT.out.trans hk3)
      clear hrun hb3 hk3
      go_wp2_with (refine wpList_append3 rfl _ _ 22 rfl _ _ rfl rfl (.slice s3.p s3.n s3.c) w3 HR.out ?_)
      exact ⟨⟨i + 1, s3, by go_num, by omega, rfl, HB3, HT3⟩, by simp [intOf]; omega⟩
    · have hlti : ¬ ((i : Nat) : Int) < (width : Nat) := by omega
      obtain rfl : i = width := by omega
      go_wp2_with fail
      go_ret
      exact ⟨s2, rfl, HB.out, HT.out⟩
end Go.Proofs.Ytdbeeikjngnnnaa.ty
