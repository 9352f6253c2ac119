import Derived.Test.YtokaeiahhmaokaaB13
namespace Go.Proofs.Ytokaeiahhmaokaa.ds
open Go.ChangeShapes Go.WideShapes Go.ChangeAt Go.RowKit Go.Sort
set_option linter.unusedVariables false
set_option linter.unusedSimpArgs false
theorem Fresh.from {w0 w w' : World} {e : E} {r : Wr} (h : Fresh w w' e r) (a : Apart [] w0 w) : Fresh w0 w' e r :=
  { h with
    v := ⟨h.v.own, fun k hk => Nat.le_trans a.size (h.v.new k hk), a.trans h.v.ap⟩
    x := ⟨h.x.own, fun k hk => Nat.le_trans a.size (h.x.new k hk), a.trans h.x.ap⟩ }
set_option maxHeartbeats 4000000 in
set_option maxRecDepth 100000 in
theorem twinList_ok (w : World) (p : Option Addr) (N cap : Nat) (es : List E) (rs : List Wr) (h : LE w p N es) (hN : N ≤ 1500000) (hr : ∀ j, j < N → Reads w (gE es j) (gR rs j)) :
    Calls Try.prog 13 #[.slice p N cap] w fun r w' => ∃ (s : Sl) (fs : List E), r = .returned s.v ∧ OwnE w w' s fs ∧ s.n = N ∧ ∀ j, j < N → Fresh w w' (gE fs j) (gR rs j) := by
  have HL := hid h
  have HR := hid hr
  have HN := hid h.len
  clear h hr
  go_enter Try.func13, Try.ntmps13
  go_wp2_with fail
  go_loopw [3, 4] (fun v3 v4 wr => ∃ (i : Nat) (s : Sl) (fs : List E), v4 = .int .i64 (i : Nat) ∧ i ≤ N ∧ v3 = s.v ∧ OwnE w wr s fs ∧ s.n = i ∧ ∀ j, j < i → Fresh w wr (gE fs j) (gR rs j)) (fun _ v4 _ => N - (intOf v4).toNat)
  case atStart => exact ⟨0, ⟨none, 0, 0⟩, [], rfl, Nat.zero_le _, rfl, OwnE.nil w w (Apart.refl _ _), rfl, fun j hj => absurd hj (by omega)⟩
  case round =>
    obtain ⟨i, ⟨ps, ns, cs⟩, fs, rfl, hi, rfl, own, hsn, hfr⟩ := hrel
    simp only at hsn
    subst hsn
    have HO := hid own
    have HFR := hid hfr
    clear own hfr
    unfold Sl.v
    by_cases hlt : ns < N
    · obtain ⟨P, o, rfl, hP, hc⟩ := (HL.out.kept0 HO.out.nw.ap).at (by omega)
      obtain ⟨c0, c1, c2, c3, c4, c5⟩ := hc ns hlt
      have hC := twin_ok (gE es ns) (gR rs ns) wr ((HR.out ns hlt).kept0 HO.out.nw.ap)
      generalize gE es ns = x at *
      unfold Sl.v at c4 c5
      unfold E.agg Sl.v at hC
      clear hc
      go_wp2_with fail
      refine hC.mono ?_
      clear hC
      rintro r w2 ⟨e', rfl, fr⟩
      obtain ⟨s', W3, hrun, own', hn', ap'⟩ := run_appE (s := ⟨ps, ns, cs⟩) (HO.out.kept fr.v.ap) (by show ns ≤ _; omega) e' 34
      have hX : ∀ k ∈ (Sl.v ⟨ps, ns, cs⟩).ownBlock.toList, ∀ cur, w2.heap[k]? ≠ some (.cells cur 5 (0, 0)) ∧ w2.heap[k]? ≠ some (.cells cur 38 (0, 0)) := by
        intro k hk cu
        obtain ⟨cur, tG⟩ := own_typ (HO.out.kept fr.v.ap).nw.own (k := k) (by simpa using hk)
        rw [tG]
        simp
      have hlen : fs.length = ns := HO.out.len
      have hall : ∀ j, j < ns + 1 → Fresh w W3 (gE (fs ++ [e']) j) (gR rs j) := by
        intro j hj
        by_cases e : j = ns
        · subst e
          rw [show gE (fs ++ [e']) j = e' from by unfold gE; simp [List.getD_eq_getElem?_getD, ← hlen]]
          exact (fr.from HO.out.nw.ap).kept ap' own'.nw.ap hX
        · rw [show gE (fs ++ [e']) j = gE fs j from by unfold gE; rw [List.getD_eq_getElem?_getD, List.getD_eq_getElem?_getD, List.getElem?_append_left (by omega)]]
          exact ((HFR.out j (by omega)).kept0 fr.v.ap).kept ap' own'.nw.ap hX
      have HALL := hid hall
      have HO2 := hid own'
      have HN2 := hid hn'
      have hb := fun W => buildE W e'
      unfold E.agg Sl.v at hb
      unfold Sl.v boxE at hrun
      clear hall own' ap' hn' hX hlen fr c0 c1 c2 c3 c4 c5
      dsimp only
      go_wp2_with (at_builtin; refine wpList_append3 rfl (.tmp 11) (.tmp 17) 34 rfl _ _ rfl rfl _ _ hrun ?_)
      go_wp2
      go_roundw
      case rel => exact ⟨ns + 1, s', fs ++ [e'], by go_num, by omega, rfl, HO2.out, HN2.out, HALL.out⟩
      case measure => simp [intOf]; omega
    · obtain rfl : ns = N := by omega
      go_wp2
      go_ret
      exact ⟨⟨ps, ns, cs⟩, fs, rfl, HO.out, rfl, HFR.out⟩
end Go.Proofs.Ytokaeiahhmaokaa.ds
