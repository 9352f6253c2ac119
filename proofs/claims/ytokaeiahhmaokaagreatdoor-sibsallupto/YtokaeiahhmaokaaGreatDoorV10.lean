import Derived.Test.YtokaeiahhmaokaaGreatDoorV1
import Derived.Test.YtokaeiahhmaokaaGreatDoorV9
namespace Go.Proofs.YtokaeiahhmaokaaGreatDoor.ds
open Go.ChangeShapes Go.WideShapes Go.ChangeAt Go.RowKit Go.Sort
set_option linter.unusedVariables false
set_option linter.unusedSimpArgs false
/-- a write put ahead of the first whose dot is above its own -/
def insE (u : E) : List E → List E
  | [] => [u]
  | x :: l => if below u x = true then u :: x :: l else x :: insE u l
theorem insE_done (u x : E) : ∀ (l : List E), l.any (below u) = true → insE u (l ++ [x]) = insE u l ++ [x]
  | [], h => by simp at h
  | y :: l, h => by
    simp only [List.cons_append, insE]
    by_cases hy : below u y = true
    · simp [hy]
    · rw [if_neg hy, if_neg hy, insE_done u x l (by simpa [hy] using h)]; rfl
theorem insE_not (u : E) (m : List E) : ∀ (l : List E), l.any (below u) = false → insE u (l ++ m) = l ++ insE u m
  | [], h => rfl
  | y :: l, h => by
    simp only [List.any_cons, Bool.or_eq_false_iff] at h
    simp only [List.cons_append, insE]
    rw [if_neg (by rw [h.1]; simp), insE_not u m l h.2]
theorem insE_length (u : E) : ∀ l, (insE u l).length = l.length + 1
  | [] => rfl
  | y :: l => by
    simp only [insE]
    split
    · simp
    · simp [insE_length u l]
/-- the list so far -/
def outE (u : E) (l : List E) : List E := if l.any (below u) = true then insE u l else l
theorem takeE {es : List E} {i : Nat} (hi : i < es.length) : es.take (i + 1) = es.take i ++ [gE es i] := by
  rw [List.take_succ_eq_append_getElem hi, gE_eq _ _ hi]
theorem outE_step1 {u : E} {l : List E} {x : E} (h : l.any (below u) = true) : outE u (l ++ [x]) = outE u l ++ [x] := by
  unfold outE
  rw [if_pos h, if_pos (by simp [h]), insE_done u x l h]
theorem outE_step2 {u : E} {l : List E} {x : E} (h : l.any (below u) = false) (hx : below u x = true) : outE u (l ++ [x]) = (outE u l ++ [u]) ++ [x] := by
  have e1 : outE u l = l := by unfold outE; rw [if_neg (by rw [h]; simp)]
  have e2 : outE u (l ++ [x]) = insE u (l ++ [x]) := by unfold outE; rw [if_pos (by simp [hx])]
  rw [e1, e2, insE_not u [x] l h]
  simp [insE, hx]
theorem outE_step3 {u : E} {l : List E} {x : E} (h : l.any (below u) = false) (hx : below u x = false) : outE u (l ++ [x]) = outE u l ++ [x] := by
  have e1 : outE u l = l := by unfold outE; rw [if_neg (by rw [h]; simp)]
  have e2 : outE u (l ++ [x]) = l ++ [x] := by
    unfold outE
    rw [if_neg (by rw [List.any_append, h]; simp [hx])]
  rw [e1, e2]
theorem outE_length (u : E) (l : List E) : (outE u l).length ≤ l.length + 1 := by
  unfold outE
  split
  · rw [insE_length]; omega
  · omega
theorem insE_end {u : E} {l : List E} (h : l.any (below u) = false) : insE u l = outE u l ++ [u] := by
  have := insE_not u [] l h
  rw [List.append_nil] at this
  rw [this]
  unfold outE
  rw [if_neg (by rw [h]; simp)]
  rfl
set_option maxHeartbeats 8000000 in
set_option maxRecDepth 100000 in
theorem put_ok (w : World) (p : Option Addr) (N cap : Nat) (es : List E) (u : E) (h : LE w p N es) (hN : N ≤ 1500000) :
    Calls Tryz.prog 56 #[.slice p N cap, u.agg] w fun r w' => ∃ s, r = .returned (Sl.v s) ∧ OwnE w w' s (insE u es) := by
  have aB : Apart [] w (w.alloc (boxE u)) := (Apart.refl [] w).alloc _
  have HB := hid aB
  have HC := hid (Cap.new w u)
  have HL := hid h
  have HN := hid h.len
  have o0 : OwnE (w.alloc (boxE u)) (w.alloc (boxE u)) ⟨none, 0, 0⟩ (outE u (es.take 0)) := OwnE.nil _ _ (Apart.refl _ _)
  clear h aB
  unfold E.agg
  go_enter Tryz.func56, Tryz.ntmps56
  go_wp2_with fail
  go_loopw [5, 6, 7] (fun v5 v6 v7 wr => ∃ (i : Nat) (s : Sl), v7 = .int .i64 (i : Nat) ∧ i ≤ N ∧ v5 = s.v ∧ v6 = .bool ((es.take i).any (below u)) ∧ OwnE (w.alloc (boxE u)) wr s (outE u (es.take i)) ∧ Apart [] (w.alloc (boxE u)) wr) (fun _ _ v7 _ => N - (intOf v7).toNat)
  case atStart => exact ⟨0, ⟨none, 0, 0⟩, rfl, Nat.zero_le _, rfl, rfl, o0, Apart.refl _ _⟩
  case round =>
    clear o0
    obtain ⟨i, ⟨ps, ns, cs⟩, rfl, hi, rfl, rfl, own, ap⟩ := hrel
    have HO := hid own
    have HA := hid ap
    clear own ap
    have HCr := hid (HC.out.kept0 HA.out)
    have hns : ns ≤ 1500001 := by
      have h1 := HO.out.len
      have h2 := outE_length u (es.take i)
      rw [List.length_take] at h2
      simp only at h1
      omega
    unfold Sl.v
    have hbx := fun W => buildE W (gE es i)
    have hbu := fun W => buildE W u
    by_cases hlt : i < N
    · obtain ⟨P, o, hpe, hPw, _⟩ := HL.out.at (by omega)
      obtain ⟨P', o', hpe', hP0, hc⟩ := (HL.out.kept0 (HB.out.trans HA.out)).at (by omega)
      rw [hpe] at hpe'
      simp at hpe'
      obtain ⟨rfl, rfl⟩ := hpe'
      subst hpe
      obtain ⟨c0, c1, c2, c3, c4, c5⟩ := hc i hlt
      obtain ⟨u0, u1, u2, u3, u4, u5⟩ := row6 HCr.out
      have hNB : w.heap.size < wr.heap.size := lt_of_heap HCr.out
      have hP : P < wr.drew.heap.size := hP0
      have htk := takeE (es := es) (i := i) (by rw [HN.out]; exact hlt)
      have HTK := hid htk
      obtain ⟨x, hx⟩ : ∃ x, x = gE es i := ⟨_, rfl⟩
      rw [← hx] at c0 c1 c2 c3 c4 c5 hbx HTK
      unfold Sl.v at c4 c5 u4 u5
      unfold E.agg Sl.v at hbx hbu
      clear hc htk hx
      cases hd : (es.take i).any (below u)
      · have HD := hid hd
        clear hd
        go_wp2_with fail
        refine wp_region_held_drew (S := fun X => X.cell? ⟨w.heap.size, 0, none⟩ = some (.int .i64 u.n) ∧ X.cell? ⟨w.heap.size, 1, none⟩ = some (.int .i64 u.c) ∧ X.cell? ⟨P, o + i * 6, none⟩ = some (.int .i64 x.n) ∧ X.cell? ⟨P, o + i * 6 + 1, none⟩ = some (.int .i64 x.c)) (by kernel_rfl) ⟨u0, u1, c0, c1⟩ (fun hHeld => ?_)
        refine tk 0 14 (.bool false) rfl ?_ ?_
        · intro W hSW; obtain ⟨h1, h2, h3, h4⟩ := hSW; go_simp
        simp only [Act.put, List.setIfInBounds_toArray, List.set_cons_zero, List.set_cons_succ]
        refine tk 1 15 (.bool true) rfl ?_ ?_
        · intro W hSW; obtain ⟨h1, h2, h3, h4⟩ := hSW; go_simp
        simp only [Act.put, List.setIfInBounds_toArray, List.set_cons_zero, List.set_cons_succ]
        refine tk 2 16 (.bool true) rfl ?_ ?_
        · intro W hSW; obtain ⟨h1, h2, h3, h4⟩ := hSW; go_simp
        simp only [Act.put, List.setIfInBounds_toArray, List.set_cons_zero, List.set_cons_succ]
        refine tk 3 17 (.pointer (some ⟨w.heap.size, 0, none⟩)) rfl ?_ ?_
        · intro W hSW; obtain ⟨h1, h2, h3, h4⟩ := hSW; go_simp
        simp only [Act.put, List.setIfInBounds_toArray, List.set_cons_zero, List.set_cons_succ]
        refine tk 4 18 (.agg #[.int .i64 u.n, .int .i64 u.c]) rfl ?_ ?_
        · intro W hSW; obtain ⟨h1, h2, h3, h4⟩ := hSW; go_simp
        simp only [Act.put, List.setIfInBounds_toArray, List.set_cons_zero, List.set_cons_succ]
        refine tk 5 19 (.slice (some ⟨P, o, none⟩) N cap) rfl ?_ ?_
        · intro W hSW; obtain ⟨h1, h2, h3, h4⟩ := hSW; go_simp
        simp only [Act.put, List.setIfInBounds_toArray, List.set_cons_zero, List.set_cons_succ]
        refine tk 6 20 (.int .i64 (i : Nat)) rfl ?_ ?_
        · intro W hSW; obtain ⟨h1, h2, h3, h4⟩ := hSW; go_simp
        simp only [Act.put, List.setIfInBounds_toArray, List.set_cons_zero, List.set_cons_succ]
        refine tk 7 21 (.pointer (some ⟨P, o + i * 6, none⟩)) rfl ?_ ?_
        · intro W hSW; obtain ⟨h1, h2, h3, h4⟩ := hSW; go_simp
        simp only [Act.put, List.setIfInBounds_toArray, List.set_cons_zero, List.set_cons_succ]
        refine tk 8 22 (.pointer (some ⟨P, o + i * 6, none⟩)) rfl ?_ ?_
        · intro W hSW; obtain ⟨h1, h2, h3, h4⟩ := hSW; go_simp
        simp only [Act.put, List.setIfInBounds_toArray, List.set_cons_zero, List.set_cons_succ]
        refine tk 9 23 (.agg #[.int .i64 x.n, .int .i64 x.c]) rfl ?_ ?_
        · intro W hSW; obtain ⟨h1, h2, h3, h4⟩ := hSW; go_simp
        simp only [Act.put, List.setIfInBounds_toArray, List.set_cons_zero, List.set_cons_succ]
        refine wpAnyH_ready (rs := [10]) (by kernel_rfl) (by simp) ?_
        refine AllReadyH.cons rfl (fun KK hKK => ?_) AllReadyH.nil
        go_simp
        refine (rbelow_ok u x _).mono ?_
        rintro r1 w2 ⟨rfl, a2⟩
        have HA2 := hid (HA.out.drew.trans a2)
        dsimp only
        refine hKK.out _ _ ⟨(a2.cell (p := ⟨w.heap.size, 0, none⟩) hNB (by simp)).trans u0, (a2.cell (p := ⟨w.heap.size, 1, none⟩) hNB (by simp)).trans u1, (a2.cell (p := ⟨P, o + i * 6, none⟩) hP (by simp)).trans c0, (a2.cell (p := ⟨P, o + i * 6 + 1, none⟩) hP (by simp)).trans c1⟩ (fun hHeld => ?_)
        clear hKK KK
        refine tk 11 25 (.bool (below u x)) rfl ?_ ?_
        · intro W hSW; obtain ⟨h1, h2, h3, h4⟩ := hSW; go_simp
        simp only [Act.put, List.setIfInBounds_toArray, List.set_cons_zero, List.set_cons_succ]
        refine wpAnyH_done (by kernel_rfl) ?_ _
        cases hb : below u x
        · obtain ⟨s', W', hrun, own', hn', ap'⟩ := run_appE (s := ⟨ps, ns, cs⟩) (HO.out.kept ((Apart.refl [] wr).drew.trans a2)) (by show ns ≤ _; omega) x 35
          have k0 := (a2.cell (p := ⟨P, o + i * 6, none⟩) hP (by simp)).trans c0
          have k1 := (a2.cell (p := ⟨P, o + i * 6 + 1, none⟩) hP (by simp)).trans c1
          have k2 := (a2.cell (p := ⟨P, o + i * 6 + 2, none⟩) hP (by simp)).trans c2
          have k3 := (a2.cell (p := ⟨P, o + i * 6 + 3, none⟩) hP (by simp)).trans c3
          have k4 := (a2.cell (p := ⟨P, o + i * 6 + 4, none⟩) hP (by simp)).trans c4
          have k5 := (a2.cell (p := ⟨P, o + i * 6 + 5, none⟩) hP (by simp)).trans c5
          have HO2 := hid own'
          have HAP2 := hid ap'
          clear own' ap' hn' c0 c1 c2 c3 c4 c5 u0 u1 u2 u3 u4 u5 a2
          unfold Sl.v boxE at hrun
          go_wp2_with (at_builtin; refine wpList_append3 rfl (.tmp 30) (.tmp 35) 35 rfl _ _ rfl rfl _ _ hrun ?_)
          go_wp2
          go_roundw
          case rel => exact ⟨i + 1, s', by go_num, by omega, rfl, by rw [HTK.out, List.any_append, HD.out]; simp [hb], by rw [HTK.out, outE_step3 HD.out hb]; exact HO2.out, HA2.out.trans' HAP2.out (fun y hy => .inr (HO.out.nw.new y (by simpa using hy)))⟩
          case measure => simp [intOf]; omega
        · obtain ⟨s1, W3, hrun1, own1, hn1, ap1⟩ := run_appE (s := ⟨ps, ns, cs⟩) (HO.out.kept ((Apart.refl [] wr).drew.trans a2)) (by show ns ≤ _; omega) u 35
          have v0 := (a2.cell (p := ⟨w.heap.size, 0, none⟩) hNB (by simp)).trans u0
          have v1 := (a2.cell (p := ⟨w.heap.size, 1, none⟩) hNB (by simp)).trans u1
          have v2 := (a2.cell (p := ⟨w.heap.size, 2, none⟩) hNB (by simp)).trans u2
          have v3 := (a2.cell (p := ⟨w.heap.size, 3, none⟩) hNB (by simp)).trans u3
          have v4 := (a2.cell (p := ⟨w.heap.size, 4, none⟩) hNB (by simp)).trans u4
          have v5 := (a2.cell (p := ⟨w.heap.size, 5, none⟩) hNB (by simp)).trans u5
          obtain ⟨s2, W4, hrun2, own2, hn2, ap2⟩ := run_appE own1 (by rw [hn1]; show ns + 1 ≤ _; omega) x 35
          have hP2 : P < w2.heap.size := Nat.lt_of_lt_of_le hP a2.size
          have hX1 : P ∉ (Sl.v ⟨ps, ns, cs⟩).ownBlock.toList := fun hm => by
            have := HO.out.nw.new P (by simpa using hm)
            simp at this; omega
          have k0 := (ap1.cell (p := ⟨P, o + i * 6, none⟩) hP2 hX1).trans ((a2.cell (p := ⟨P, o + i * 6, none⟩) hP (by simp)).trans c0)
          have k1 := (ap1.cell (p := ⟨P, o + i * 6 + 1, none⟩) hP2 hX1).trans ((a2.cell (p := ⟨P, o + i * 6 + 1, none⟩) hP (by simp)).trans c1)
          have k2 := (ap1.cell (p := ⟨P, o + i * 6 + 2, none⟩) hP2 hX1).trans ((a2.cell (p := ⟨P, o + i * 6 + 2, none⟩) hP (by simp)).trans c2)
          have k3 := (ap1.cell (p := ⟨P, o + i * 6 + 3, none⟩) hP2 hX1).trans ((a2.cell (p := ⟨P, o + i * 6 + 3, none⟩) hP (by simp)).trans c3)
          have k4 := (ap1.cell (p := ⟨P, o + i * 6 + 4, none⟩) hP2 hX1).trans ((a2.cell (p := ⟨P, o + i * 6 + 4, none⟩) hP (by simp)).trans c4)
          have k5 := (ap1.cell (p := ⟨P, o + i * 6 + 5, none⟩) hP2 hX1).trans ((a2.cell (p := ⟨P, o + i * 6 + 5, none⟩) hP (by simp)).trans c5)
          have HO1 := hid own1
          have HO2 := hid own2
          have HAP1 := hid ap1
          have HAP2 := hid ap2
          clear own1 own2 ap1 ap2 hn1 hn2 c0 c1 c2 c3 c4 c5 u0 u1 u2 u3 u4 u5 a2 hX1
          unfold Sl.v boxE at hrun1 hrun2
          go_wp2_with (first | (at_builtin; refine wpList_append3 rfl (.tmp 26) (.tmp 28) 35 rfl _ _ rfl rfl _ _ hrun1 ?_) | (at_builtin; refine wpList_append3 rfl (.tmp 30) (.tmp 35) 35 rfl _ _ rfl rfl _ _ hrun2 ?_))
          go_wp2
          go_roundw
          case rel => exact ⟨i + 1, s2, by go_num, by omega, rfl, by rw [HTK.out, List.any_append, HD.out]; simp [hb], by rw [HTK.out, outE_step2 HD.out hb]; exact HO2.out, HO2.out.nw.ap⟩
          case measure => simp [intOf]; omega
      · have HD := hid hd
        clear hd
        go_wp2_with fail
        refine wp_region_held_drew (S := fun X => X.cell? ⟨w.heap.size, 0, none⟩ = some (.int .i64 u.n) ∧ X.cell? ⟨w.heap.size, 1, none⟩ = some (.int .i64 u.c) ∧ X.cell? ⟨P, o + i * 6, none⟩ = some (.int .i64 x.n) ∧ X.cell? ⟨P, o + i * 6 + 1, none⟩ = some (.int .i64 x.c)) (by kernel_rfl) ⟨u0, u1, c0, c1⟩ (fun hHeld => ?_)
        refine tk 0 14 (.bool true) rfl ?_ ?_
        · intro W hSW; obtain ⟨h1, h2, h3, h4⟩ := hSW; go_simp
        simp only [Act.put, List.setIfInBounds_toArray, List.set_cons_zero, List.set_cons_succ]
        refine tk 1 15 (.bool false) rfl ?_ ?_
        · intro W hSW; obtain ⟨h1, h2, h3, h4⟩ := hSW; go_simp
        simp only [Act.put, List.setIfInBounds_toArray, List.set_cons_zero, List.set_cons_succ]
        refine tk 2 16 (.bool false) rfl ?_ ?_
        · intro W hSW; obtain ⟨h1, h2, h3, h4⟩ := hSW; go_simp
        simp only [Act.put, List.setIfInBounds_toArray, List.set_cons_zero, List.set_cons_succ]
        refine tu 3 17 rfl ?_
        simp only [Act.put, List.setIfInBounds_toArray, List.set_cons_zero, List.set_cons_succ]
        refine tu 4 18 rfl ?_
        simp only [Act.put, List.setIfInBounds_toArray, List.set_cons_zero, List.set_cons_succ]
        refine tu 5 19 rfl ?_
        simp only [Act.put, List.setIfInBounds_toArray, List.set_cons_zero, List.set_cons_succ]
        refine tu 6 20 rfl ?_
        simp only [Act.put, List.setIfInBounds_toArray, List.set_cons_zero, List.set_cons_succ]
        refine tu 7 21 rfl ?_
        simp only [Act.put, List.setIfInBounds_toArray, List.set_cons_zero, List.set_cons_succ]
        refine tu 8 22 rfl ?_
        simp only [Act.put, List.setIfInBounds_toArray, List.set_cons_zero, List.set_cons_succ]
        refine tu 9 23 rfl ?_
        simp only [Act.put, List.setIfInBounds_toArray, List.set_cons_zero, List.set_cons_succ]
        refine tu 10 24 rfl ?_
        simp only [Act.put, List.setIfInBounds_toArray, List.set_cons_zero, List.set_cons_succ]
        refine tk 11 25 (.bool false) rfl ?_ ?_
        · intro W hSW; obtain ⟨h1, h2, h3, h4⟩ := hSW; go_simp
        simp only [Act.put, List.setIfInBounds_toArray, List.set_cons_zero, List.set_cons_succ]
        refine wpAnyH_done (by kernel_rfl) ?_ _
        obtain ⟨s', W', hrun, own', hn', ap'⟩ := run_appE (s := ⟨ps, ns, cs⟩) (HO.out.kept ((Apart.refl [] wr).drew)) (by show ns ≤ _; omega) x 35
        have k0 : wr.drew.cell? ⟨P, o + i * 6, none⟩ = _ := c0
        have k1 : wr.drew.cell? ⟨P, o + i * 6 + 1, none⟩ = _ := c1
        have k2 : wr.drew.cell? ⟨P, o + i * 6 + 2, none⟩ = _ := c2
        have k3 : wr.drew.cell? ⟨P, o + i * 6 + 3, none⟩ = _ := c3
        have k4 : wr.drew.cell? ⟨P, o + i * 6 + 4, none⟩ = _ := c4
        have k5 : wr.drew.cell? ⟨P, o + i * 6 + 5, none⟩ = _ := c5
        have HO2 := hid own'
        clear own' ap' hn' u0 u1 u2 u3 u4 u5
        unfold Sl.v boxE at hrun
        go_wp2_with (at_builtin; refine wpList_append3 rfl (.tmp 30) (.tmp 35) 35 rfl _ _ rfl rfl _ _ hrun ?_)
        go_wp2
        go_roundw
        case rel => exact ⟨i + 1, s', by go_num, by omega, rfl, by rw [HTK.out, List.any_append, HD.out]; simp, by rw [HTK.out, outE_step1 HD.out]; exact HO2.out, HO2.out.nw.ap⟩
        case measure => simp [intOf]; omega
    · obtain rfl : i = N := by omega
      have htk : es.take i = es := List.take_of_length_le (by rw [HN.out]; exact Nat.le_refl _)
      rw [htk] at HO
      obtain ⟨u0, u1, u2, u3, u4, u5⟩ := row6 HCr.out
      unfold Sl.v at u4 u5
      unfold E.agg Sl.v at hbu
      clear hbx
      cases hd : (es.take i).any (below u)
      · rw [htk] at hd
        obtain ⟨s', W', hrun, own', hn', ap'⟩ := run_appE (s := ⟨ps, ns, cs⟩) HO.out (by show ns ≤ _; omega) u 35
        have HO2 := hid own'
        have HD := hid hd
        clear own' ap' hn' hd htk
        unfold Sl.v boxE at hrun
        go_wp2_with (at_builtin; refine wpList_append3 rfl (.tmp 39) (.tmp 41) 35 rfl _ _ rfl rfl _ _ hrun ?_)
        go_wp2
        go_ret
        exact ⟨s', rfl, ⟨⟨by rw [insE_end HD.out]; exact HO2.out.nw.own, fun k hk => Nat.le_trans HB.out.size (HO2.out.nw.new k hk), HB.out.trans HO2.out.nw.ap⟩, by rw [insE_end HD.out]; exact HO2.out.len⟩⟩
      · rw [htk] at hd
        have HD := hid hd
        clear hd htk
        go_wp2
        go_ret
        have e1 : outE u es = insE u es := by unfold outE; rw [if_pos HD.out]
        exact ⟨⟨ps, ns, cs⟩, rfl, ⟨⟨by rw [← e1]; exact HO.out.nw.own, fun k hk => Nat.le_trans HB.out.size (HO.out.nw.new k hk), HB.out.trans HO.out.nw.ap⟩, by rw [← e1]; exact HO.out.len⟩⟩
end Go.Proofs.YtokaeiahhmaokaaGreatDoor.ds
