import Derived.Test.YtokaeiahhmaokaaGreatDoorV12
import Derived.Laws.CopyOwn
namespace Go.Proofs.YtokaeiahhmaokaaGreatDoor.ds
open Go.ChangeShapes Go.WideShapes Go.ChangeAt Go.RowKit Go.Sort
set_option linter.unusedVariables false
set_option linter.unusedSimpArgs false
theorem Fresh.from {w0 w w' : World} {e : E} {r : Wr} (h : Fresh w w' e r) (a : Apart [] w0 w) : Fresh w0 w' e r :=
  { h with
    v := ⟨h.v.own, fun k hk => Nat.le_trans a.size (h.v.new k hk), a.trans h.v.ap⟩
    x := ⟨h.x.own, fun k hk => Nat.le_trans a.size (h.x.new k hk), a.trans h.x.ap⟩ }
set_option maxHeartbeats 4000000 in
set_option maxRecDepth 100000 in
theorem twinList_ok (w : World) (p : Option Addr) (N cap : Nat) (es : List E) (rs : List Wr) (h : LE w p N es) (hN : N ≤ 1500000) (hr : ∀ j, j < N → Reads w (gE es j) (gR rs j)) :
    Calls Tryz.prog 17 #[.slice p N cap] w fun r w' => ∃ (s : Sl) (fs : List E), r = .returned s.v ∧ OwnE w w' s fs ∧ s.n = N ∧ ∀ j, j < N → Fresh w w' (gE fs j) (gR rs j) := by
  have HL := hid h
  have HR := hid hr
  have HN := hid h.len
  clear h hr
  go_enter Tryz.func17, Tryz.ntmps17
  go_wp2_with fail
  go_loopw [3, 4] (fun v3 v4 wr => ∃ (i : Nat) (s : Sl) (fs : List E), v4 = .int .i64 (i : Nat) ∧ i ≤ N ∧ v3 = s.v ∧ OwnE w wr s fs ∧ s.n = i ∧ ∀ j, j < i → Fresh w wr (gE fs j) (gR rs j)) (fun _ v4 _ => N - (intOf v4).toNat)
  case atStart => exact ⟨0, ⟨none, 0, 0⟩, [], rfl, Nat.zero_le _, rfl, OwnE.nil w w (Apart.refl _ _), rfl, fun j hj => absurd hj (by omega)⟩
  case round =>
    obtain ⟨i, ⟨ps, ns, cs⟩, fs, rfl, hi, rfl, own, hsn, hfr⟩ := hrel
    simp only at hsn
    subst hsn
    have HO := hid own
    have HFR := hid hfr
    clear own hfr
    unfold Sl.v
    by_cases hlt : ns < N
    · obtain ⟨P, o, rfl, hP, hc⟩ := (HL.out.kept0 HO.out.nw.ap).at (by omega)
      obtain ⟨c0, c1, c2, c3, c4, c5⟩ := hc ns hlt
      have hC := twin_ok (gE es ns) (gR rs ns) wr ((HR.out ns hlt).kept0 HO.out.nw.ap)
      generalize gE es ns = x at *
      unfold Sl.v at c4 c5
      unfold E.agg Sl.v at hC
      clear hc
      go_wp2_with fail
      refine hC.mono ?_
      clear hC
      rintro r w2 ⟨e', rfl, fr⟩
      obtain ⟨s', W3, hrun, own', hn', ap'⟩ := run_appE (s := ⟨ps, ns, cs⟩) (HO.out.kept fr.v.ap) (by show ns ≤ _; omega) e' 35
      have hX : ∀ k ∈ (Sl.v ⟨ps, ns, cs⟩).ownBlock.toList, ∀ cur, w2.heap[k]? ≠ some (.cells cur 5 (0, 0)) ∧ w2.heap[k]? ≠ some (.cells cur 47 (0, 0)) := by
        intro k hk cu
        obtain ⟨cur, tG⟩ := own_typ (HO.out.kept fr.v.ap).nw.own (k := k) (by simpa using hk)
        rw [tG]
        simp
      have hlen : fs.length = ns := HO.out.len
      have hall : ∀ j, j < ns + 1 → Fresh w W3 (gE (fs ++ [e']) j) (gR rs j) := by
        intro j hj
        by_cases e : j = ns
        · subst e
          rw [show gE (fs ++ [e']) j = e' from by unfold gE; simp [List.getD_eq_getElem?_getD, ← hlen]]
          exact (fr.from HO.out.nw.ap).kept ap' own'.nw.ap hX
        · rw [show gE (fs ++ [e']) j = gE fs j from by unfold gE; rw [List.getD_eq_getElem?_getD, List.getD_eq_getElem?_getD, List.getElem?_append_left (by omega)]]
          exact ((HFR.out j (by omega)).kept0 fr.v.ap).kept ap' own'.nw.ap hX
      have HALL := hid hall
      have HO2 := hid own'
      have HN2 := hid hn'
      have hb := fun W => buildE W e'
      unfold E.agg Sl.v at hb
      unfold Sl.v boxE at hrun
      clear hall own' ap' hn' hX hlen fr c0 c1 c2 c3 c4 c5
      dsimp only
      go_wp2_with (at_builtin; refine wpList_append3 rfl (.tmp 11) (.tmp 17) 35 rfl _ _ rfl rfl _ _ hrun ?_)
      go_wp2
      go_roundw
      case rel => exact ⟨ns + 1, s', fs ++ [e'], by go_num, by omega, rfl, HO2.out, HN2.out, HALL.out⟩
      case measure => simp [intOf]; omega
    · obtain rfl : ns = N := by omega
      go_wp2
      go_ret
      exact ⟨⟨ps, ns, cs⟩, fs, rfl, HO.out, rfl, HFR.out⟩
end Go.Proofs.YtokaeiahhmaokaaGreatDoor.ds
namespace Go.Proofs.YtokaeiahhmaokaaGreatDoor.ds
open Go.ChangeShapes Go.WideShapes Go.ChangeAt Go.RowKit Go.Sort
set_option linter.unusedVariables false
set_option linter.unusedSimpArgs false
theorem in_ok (w : World) (LB G n c : Nat) (vv xx : Value) (h : w.heap[LB]? = some (.cells #[.slice (some ⟨G, 0, none⟩) (n + 2) c, vv, xx] 62 (0, 0))) (hc : n + 2 ≤ c) (hn : n ≤ 2000000) :
    Calls Tryz.prog 12 #[.pointer (some ⟨LB, 0, none⟩)] w fun r w' => r = .returned (.slice (some ⟨G, 0, none⟩) n c) ∧ Apart [] w w' := by
  have l0 : w.cell? ⟨LB, 0, none⟩ = some (.slice (some ⟨G, 0, none⟩) (n + 2) c) := by rw [cell_of_row _ _ _ _ _ _ h]; rfl
  have hx : ((n : Int) + 2) - 2 = (n : Int) := by omega
  clear h
  go_enter Tryz.func12, Tryz.ntmps12
  go_wp2_with fail
  go_quiet (fail)
  go_wp2
  go_ret
  exact ⟨rfl, (Apart.refl [] w).drewN _⟩
end Go.Proofs.YtokaeiahhmaokaaGreatDoor.ds
namespace Go.Proofs.YtokaeiahhmaokaaGreatDoor.ds
open Go.ChangeShapes Go.WideShapes Go.ChangeAt Go.RowKit Go.Sort
set_option linter.unusedVariables false
/-- where the program puts it: at the first that stands behind, or at the end -/
def atE (u : E) (l : List E) : Nat := (l.findIdx? (below u)).getD l.length
theorem atE_le (u : E) (l : List E) : atE u l ≤ l.length := by
  unfold atE
  cases h : l.findIdx? (below u) with
  | none => simp
  | some k =>
    rw [List.findIdx?_eq_some_iff_getElem] at h
    obtain ⟨hk, _⟩ := h
    simp; omega
theorem insE_at (u : E) : ∀ l : List E, insE u l = l.take (atE u l) ++ [u] ++ l.drop (atE u l)
  | [] => by simp [insE, atE]
  | x :: l => by
    have ih := insE_at u l
    unfold insE
    by_cases hx : below u x = true
    · rw [if_pos hx]
      have : atE u (x :: l) = 0 := by unfold atE; rw [List.findIdx?_cons]; simp [hx]
      rw [this]; simp
    · rw [if_neg hx]
      have : atE u (x :: l) = atE u l + 1 := by
        unfold atE
        rw [List.findIdx?_cons]
        simp only [hx]
        cases l.findIdx? (below u) <;> simp
      rw [this, ih]
      simp
theorem idx_at (u : E) (l : List E) : (if idxE (below u) l < 0 then (l.length : Int) else idxE (below u) l) = (atE u l : Int) := by
  unfold idxE atE
  cases l.findIdx? (below u) with
  | none => simp
  | some k => simp; omega
end Go.Proofs.YtokaeiahhmaokaaGreatDoor.ds
namespace Go.Proofs.YtokaeiahhmaokaaGreatDoor.ds
open Go.ChangeShapes Go.WideShapes Go.ChangeAt Go.RowKit Go.Sort
set_option linter.unusedVariables false
set_option linter.unusedSimpArgs false
/-- what slices.Insert of one write must answer -/
def InsOk : Prop := ∀ (w W : World) (s : Sl) (l : List E) (u : E) (k B : Nat), OwnE w W s l → s.n ≤ 1500000 → k ≤ s.n → Cap W B u → Calls Tryz.prog 85 #[s.v, .int .i64 (k : Int), .slice (some ⟨B, 0, none⟩) 1 1] W fun r W' => ∃ s', r = .returned (Sl.v s') ∧ OwnE w W' s' (l.take k ++ [u] ++ l.drop k)
set_option maxHeartbeats 8000000 in
set_option maxRecDepth 100000 in
theorem merged_ok (hI : InsOk) (w : World) (p : Option Addr) (N cap : Nat) (es : List E) (u : E) (X : E → List S) (h : LE w p N es) (hN : N ≤ 1100000) (hX : ∀ j, j < N → L w (gE es j).x.p (gE es j).x.n (X (gE es j))) (hu : L w u.x.p u.x.n (X u)) :
    Calls Tryz.prog 55 #[.slice p N cap, u.agg] w fun r w' => ∃ s, r = .returned (Sl.v s) ∧ OwnE w w' s (mergeE X es u) := by
  have aB : Apart [] w (w.alloc (boxE u)) := (Apart.refl [] w).alloc _
  have HB := hid aB
  have HC := hid (Cap.new w u)
  have HL := hid h
  have HN := hid h.len
  have HX := hid hX
  have HU := hid hu
  have HI := hid hI
  have o0 : OwnE (w.alloc (boxE u)) (w.alloc (boxE u)) ⟨none, 0, 0⟩ (leftE X (es.take 0) u) := OwnE.nil _ _ (Apart.refl _ _)
  clear h aB hX hu hI
  unfold E.agg
  go_enter Tryz.func55, Tryz.ntmps55
  go_wp2_with fail
  go_loopw [5, 11] (fun v5 v11 wr => ∃ (i : Nat) (s : Sl), v11 = .int .i64 (i : Nat) ∧ i ≤ N ∧ v5 = s.v ∧ OwnE (w.alloc (boxE u)) wr s (leftE X (es.take i) u)) (fun _ v11 _ => N - (intOf v11).toNat)
  case atStart => exact ⟨0, ⟨none, 0, 0⟩, rfl, Nat.zero_le _, rfl, o0⟩
  case round =>
    clear o0
    obtain ⟨i, ⟨ps, ns, cs⟩, rfl, hi, rfl, own⟩ := hrel
    have HO := hid own
    have HA := hid own.nw.ap
    clear own
    have HCr := hid (HC.out.kept0 HA.out)
    have hns : ns ≤ 1100000 := by
      have h1 := HO.out.len
      have h2 := leftE_len X (es.take i) u
      rw [List.length_take] at h2
      simp only at h1
      omega
    have hbx := fun W => buildE W (gE es i)
    unfold Sl.v
    by_cases hlt : i < N
    · obtain ⟨P, o, hpe, hPw, _⟩ := HL.out.at (by omega)
      obtain ⟨P', o', hpe', hP, hc⟩ := (HL.out.kept0 (HB.out.trans HA.out)).at (by omega)
      rw [hpe] at hpe'
      simp at hpe'
      obtain ⟨rfl, rfl⟩ := hpe'
      subst hpe
      obtain ⟨c0, c1, c2, c3, c4, c5⟩ := hc i hlt
      have HTK := hid (takeE (es := es) (i := i) (by rw [HN.out]; exact hlt))
      obtain ⟨x, hx⟩ : ∃ x, x = gE es i := ⟨_, rfl⟩
      rw [← hx] at c0 c1 c2 c3 c4 c5 hbx HTK
      obtain ⟨v1, HV1⟩ : ∃ v1, Hid (v1 = cvE (X u) u x) := ⟨_, rfl⟩
      have aX : Apart [] wr (wr.alloc (boxE x)) := (Apart.refl [] wr).alloc _
      have hC1 := covers_ok u x (X u) (wr.alloc (boxE x)) (HU.out.kept0 ((HB.out.trans HA.out).trans aX)) v1 HV1.out
      obtain ⟨u0, u1, u2, u3, u4, u5⟩ := row6 (HCr.out.kept0 aX)
      have bX : Cap (wr.alloc (boxE x)) wr.heap.size x := Cap.new wr x
      obtain ⟨x0, x1, x2, x3, x4, x5⟩ := row6 bX
      have HBX := hid bX
      have HAX := hid aX
      unfold Sl.v at c4 c5
      unfold boxE Sl.v at u0 u1 u2 u3 u4 u5 x0 x1 x2 x3 x4 x5
      unfold E.agg Sl.v at hbx hC1
      clear hc hx bX aX
      go_wp2_with fail
      refine hC1.mono ?_
      clear hC1
      rintro r w2 ⟨rfl, a2⟩
      have HA2 := hid (HAX.out.trans a2)
      obtain ⟨y0, y1, y2, y3, y4, y5⟩ := row6 (HBX.out.kept0 a2)
      unfold Sl.v at y4 y5
      clear c0 c1 c2 c3 c4 c5 u0 u1 u2 u3 u4 u5 x0 x1 x2 x3 x4 x5
      cases v1
      · obtain ⟨s', W3, hrun, own', hn', ap'⟩ := run_appE (s := ⟨ps, ns, cs⟩) (HO.out.kept HA2.out) (by show ns ≤ _; omega) x 35
        have HO2 := hid own'
        have HLS : Hid (leftE X (es.take (i + 1)) u = leftE X (es.take i) u ++ [x]) := by
          show leftE X (es.take (i + 1)) u = _
          rw [HTK.out, leftE_snoc, ← HV1.out]; simp
        unfold Sl.v boxE at hrun
        clear own' ap' hn' a2
        go_wp2_with (at_builtin; refine wpList_append3 rfl (.tmp 19) (.tmp 21) 35 rfl _ _ rfl rfl _ _ hrun ?_)
        go_wp2
        go_roundw
        case rel => exact ⟨i + 1, s', by go_num, by omega, rfl, by rw [HLS.out]; exact HO2.out⟩
        case measure => simp [intOf]; omega
      · have HLS : Hid (leftE X (es.take (i + 1)) u = leftE X (es.take i) u) := by
          show leftE X (es.take (i + 1)) u = _
          rw [HTK.out, leftE_snoc, ← HV1.out]; simp
        clear a2
        go_wp2
        go_roundw
        case rel => exact ⟨i + 1, ⟨ps, ns, cs⟩, by go_num, by omega, rfl, by rw [HLS.out]; exact HO.out.kept HA2.out⟩
        case measure => simp [intOf]; omega
    · obtain rfl : N = i := by omega
      have htk : es.take N = es := List.take_of_length_le (by rw [HN.out]; exact Nat.le_refl _)
      rw [htk] at HO
      clear hbx htk
      obtain ⟨l, hl⟩ : ∃ l, l = leftE X es u := ⟨_, rfl⟩
      rw [← hl] at HO
      have HLL := hid hl
      have hmem : ∀ t ∈ l, L wr t.x.p t.x.n (X t) := by
        intro t ht
        rw [hl] at ht
        have ht2 := (List.mem_filter.1 ht).1
        obtain ⟨k, hk, rfl⟩ := List.getElem_of_mem ht2
        have := HX.out k (by rw [← HN.out]; exact hk)
        rw [gE_eq _ _ hk] at this
        exact this.kept0 (HB.out.trans HA.out)
      have gmem : ∀ k, k < l.length → gE l k ∈ l := fun k hk => by rw [gE_eq _ _ hk]; exact List.getElem_mem hk
      have hAsk : Asks wr 83 #[.pointer (some ⟨w.heap.size, 0, none⟩)] l (fun t => cvE (X t) t u) := fun k hk W a => cov1_ok (gE l k) u w.heap.size (X (gE l k)) W (HCr.out.kept0 a) ((hmem _ (gmem k hk)).kept0 a)
      have hK := contains29 (cap := cs) (HO.out.LE (by show ns ≤ _; omega)) _ hAsk
      clear hAsk hmem hl
      go_wp2_with fail
      refine hK.mono ?_
      clear hK
      rintro r w2 ⟨rfl, a2⟩
      have HA2 := hid a2
      clear a2
      dsimp only
      cases hcv : l.any (fun t => cvE (X t) t u)
      · have HM : Hid (mergeE X es u = insE u l) := by
          show mergeE X es u = _
          unfold mergeE
          rw [← HLL.out, if_neg (by rw [hcv]; simp)]
        clear hcv
        have hAsk2 : Asks w2 84 #[.pointer (some ⟨w.heap.size, 0, none⟩)] l (below u) := fun k hk W a => beh1_ok (gE l k) u w.heap.size W (HCr.out.kept0 (HA2.out.trans a))
        have hK2 := index30 (cap := cs) ((HO.out.kept HA2.out).LE (by show ns ≤ _; omega)) _ hAsk2
        clear hAsk2
        have hat := idx_at u l
        have hat2 := atE_le u l
        have hln : l.length = ns := HO.out.len
        rw [hln] at hat hat2
        generalize idxE (below u) l = z at *
        go_wp2_with fail
        refine hK2.mono ?_
        clear hK2
        rintro r w3 ⟨rfl, a3⟩
        have HA3 := hid (HA2.out.trans a3)
        clear a3
        dsimp only
        obtain ⟨u0, u1, u2, u3, u4, u5⟩ := row6 (HCr.out.kept0 HA3.out)
        unfold Sl.v at u4 u5
        have hbu := fun W => buildE W u
        unfold E.agg Sl.v at hbu
        have hIn := HI.out (w.alloc (boxE u)) (w3.alloc (boxE u)) ⟨ps, ns, cs⟩ l u (atE u l) w3.heap.size (HO.out.kept (HA3.out.alloc _)) (by show ns ≤ _; omega) hat2 (Cap.new w3 u)
        rw [← insE_at, ← hat] at hIn
        unfold Sl.v at hIn
        have HHAT := hid hat
        clear hat hat2 hln
        by_cases hz : z < 0
        · rw [if_pos hz] at hIn
          go_wp2_with fail
          refine hIn.mono ?_
          rintro r w4 ⟨s4, rfl, own4⟩
          have HO4 := hid own4
          clear own4 hIn
          dsimp only
          go_wp2
          go_ret
          exact ⟨s4, rfl, ⟨⟨by rw [HM.out]; exact HO4.out.nw.own, fun k hk => Nat.le_trans HB.out.size (HO4.out.nw.new k hk), HB.out.trans HO4.out.nw.ap⟩, by rw [HM.out]; exact HO4.out.len⟩⟩
        · rw [if_neg hz] at hIn
          go_wp2_with fail
          refine hIn.mono ?_
          rintro r w4 ⟨s4, rfl, own4⟩
          have HO4 := hid own4
          clear own4 hIn
          dsimp only
          go_wp2
          go_ret
          exact ⟨s4, rfl, ⟨⟨by rw [HM.out]; exact HO4.out.nw.own, fun k hk => Nat.le_trans HB.out.size (HO4.out.nw.new k hk), HB.out.trans HO4.out.nw.ap⟩, by rw [HM.out]; exact HO4.out.len⟩⟩
      · have HM : Hid (mergeE X es u = l) := by
          show mergeE X es u = _
          unfold mergeE
          rw [← HLL.out, if_pos hcv]
        clear hcv
        go_wp2
        go_ret
        have o5 := HO.out.kept HA2.out
        exact ⟨⟨ps, ns, cs⟩, rfl, ⟨⟨by rw [HM.out]; exact o5.nw.own, fun k hk => Nat.le_trans HB.out.size (o5.nw.new k hk), HB.out.trans o5.nw.ap⟩, by rw [HM.out]; exact o5.len⟩⟩
end Go.Proofs.YtokaeiahhmaokaaGreatDoor.ds
namespace Go.Proofs.YtokaeiahhmaokaaGreatDoor.ds
open Go.ChangeShapes Go.WideShapes Go.ChangeAt Go.RowKit Go.Sort
set_option linter.unusedVariables false
set_option linter.unusedSimpArgs false
theorem gR_map (R : E → Wr) (l : List E) (j : Nat) (hj : j < l.length) : gR (l.map R) j = R (gE l j) := by
  unfold gR
  rw [gE_eq _ _ hj, List.getD_eq_getElem?_getD]
  simp [hj]
theorem insE_mem (u t : E) : ∀ l : List E, t ∈ insE u l → t = u ∨ t ∈ l
  | [], h => by simp [insE] at h; exact .inl h
  | x :: l, h => by
    unfold insE at h
    split at h
    · simp at h
      rcases h with h | h | h
      · exact .inl h
      · exact .inr (by simp [h])
      · exact .inr (by simp [h])
    · simp at h
      rcases h with h | h
      · exact .inr (by simp [h])
      · rcases insE_mem u t l h with h | h
        · exact .inl h
        · exact .inr (by simp [h])
theorem mergeE_mem {X : E → List S} {es : List E} {u t : E} (h : t ∈ mergeE X es u) : t = u ∨ t ∈ es := by
  unfold mergeE at h
  split at h
  · exact .inr (List.mem_filter.1 h).1
  · rcases insE_mem u t _ h with h | h
    · exact .inl h
    · exact .inr (List.mem_filter.1 h).1
/-- what Merge leaves -/
structure MgPost (w w' : World) (r : Ending) (R : E → Wr) (e : Int) (l : List E) : Prop where
  ex : ∃ (s : Sl) (fs : List E), r = .returned (.tuple #[s.v, .int .i64 e]) ∧ s.n = l.length ∧ fs.length = l.length ∧ Nw w w' 28 6 s (flatE fs) ∧ ∀ j, j < l.length → Fresh w w' (gE fs j) (R (gE l j))
set_option maxHeartbeats 8000000 in
set_option maxRecDepth 100000 in
theorem merge_ok (hI : InsOk) (w : World) (p : Option Addr) (N cap : Nat) (es : List E) (u : E) (lim : Int) (R : E → Wr) (h : LE w p N es) (hN : N ≤ 1100000) (ok : Sl.ok ⟨p, N, cap⟩) (hR : ∀ t ∈ es, Reads w t (R t)) (hu : Reads w u (R u)) :
    Calls Tryz.prog 28 #[.slice p N cap, u.agg, .int .i64 lim] w fun r w' => MgPost w w' r R (merr (fun t => (R t).xs) es u lim) (mlist (fun t => (R t).xs) es u lim) := by
  have aB : Apart [] w (w.alloc (boxE u)) := (Apart.refl [] w).alloc _
  have HB := hid aB
  have HC := hid (Cap.new w u)
  have HL := hid h
  have HN := hid h.len
  have HR := hid hR
  have HU := hid hu
  have HI := hid hI
  have HOK := hid ok
  have gmem : ∀ k, k < es.length → gE es k ∈ es := fun k hk => by rw [gE_eq _ _ hk]; exact List.getElem_mem hk
  have hAsk : Asks (w.alloc (boxE u)) 53 #[.pointer (some ⟨w.heap.size, 0, none⟩)] es (fun t => !keq t.k u.k) := fun k hk W a => key1_ok (gE es k) u w.heap.size W (HC.out.kept0 a)
  have hK := contains16 (cap := cap) (h.kept0 aB) _ hAsk
  clear h aB hR hu hI ok hAsk
  unfold E.agg
  go_enter Tryz.func28, Tryz.ntmps28
  go_wp2_with fail
  refine hK.mono ?_
  clear hK
  rintro r w1 ⟨rfl, a1⟩
  have HA1 := hid (HB.out.trans a1)
  dsimp only
  cases hk : es.any (fun t => !keq t.k u.k)
  · have HK := hid hk
    have hAsk : Asks w1 54 #[.pointer (some ⟨w.heap.size, 0, none⟩)] es (fun t => deq t u) := fun k hk W a => dot1_ok (gE es k) u w.heap.size W (HC.out.kept0 (a1.trans a))
    have hK2 := contains17 (cap := cap) (HL.out.kept0 HA1.out) _ hAsk
    have HC1 := hid (HC.out.kept0 a1)
    clear hk hAsk a1
    go_wp2_with fail
    refine hK2.mono ?_
    clear hK2
    rintro r w2 ⟨rfl, a2⟩
    have HA2 := hid (HA1.out.trans a2)
    have HC2 := hid (HC1.out.kept0 a2)
    clear a2
    dsimp only
    cases hd : es.any (fun t => deq t u)
    · have HD := hid hd
      clear hd
      have hMg := merged_ok HI.out w2 p N cap es u (fun t => (R t).xs) (HL.out.kept0 HA2.out) hN (fun j hj => ((HR.out _ (gmem j (by rw [HN.out]; exact hj))).kept0 HA2.out).x) (HU.out.kept0 HA2.out).x
      obtain ⟨u0, u1, u2, u3, u4, u5⟩ := row6 HC2.out
      unfold Sl.v at u4 u5
      unfold E.agg Sl.v at hMg
      go_wp2_with fail
      refine hMg.mono ?_
      clear hMg
      rintro r w3 ⟨⟨p4, n4, c4⟩, rfl, own4⟩
      have HO4 := hid own4
      have HA3 := hid (HA2.out.trans own4.nw.ap)
      have hl4 : (mergeE (fun t => (R t).xs) es u).length = n4 := own4.len
      have HL4 := hid hl4
      have hn4 : n4 ≤ 1200000 := by
        have h1 := mergeE_len (fun t => (R t).xs) es u
        rw [hl4, HN.out] at h1
        omega
      clear own4 hl4
      dsimp only
      by_cases hlm : lim < (n4 : Int)
      · go_wp2
        go_ret2
        have e1 : merr (fun t => (R t).xs) es u lim = 51 := by unfold merr; rw [if_neg (by rw [HK.out]; simp), if_neg (by rw [HD.out]; simp), HL4.out, if_pos hlm]
        have e2 : mlist (fun t => (R t).xs) es u lim = [] := by unfold mlist; rw [if_neg (by rw [HK.out]; simp), if_neg (by rw [HD.out]; simp), HL4.out, if_pos hlm]
        rw [e1, e2]
        exact ⟨⟨none, 0, 0⟩, [], rfl, rfl, rfl, ⟨World.ownsRow_nil _ _ _ _, by simp [Sl.v, Value.ownBlock], HA3.out⟩, fun j hj => absurd hj (by simp)⟩
      · have e1 : merr (fun t => (R t).xs) es u lim = 0 := by unfold merr; rw [if_neg (by rw [HK.out]; simp), if_neg (by rw [HD.out]; simp), HL4.out, if_neg hlm]
        have e2 : mlist (fun t => (R t).xs) es u lim = mergeE (fun t => (R t).xs) es u := by unfold mlist; rw [if_neg (by rw [HK.out]; simp), if_neg (by rw [HD.out]; simp), HL4.out, if_neg hlm]
        have HE1 := hid e1
        have HE2 := hid e2
        clear e1 e2
        obtain ⟨l, hl⟩ : ∃ l, l = mergeE (fun t => (R t).xs) es u := ⟨_, rfl⟩
        have HLL := hid hl
        rw [← hl] at HO4 HL4
        have lmem : ∀ j, j < n4 → Reads w3 (gE l j) (R (gE l j)) := fun j hj => by
          have hj2 : j < l.length := by rw [HL4.out]; exact hj
          have hm : gE l j ∈ mergeE (fun t => (R t).xs) es u := by rw [← hl, gE_eq _ _ hj2]; exact List.getElem_mem hj2
          rcases mergeE_mem hm with e | e
          · rw [e]; exact HU.out.kept0 HA3.out
          · exact (HR.out _ e).kept0 HA3.out
        have hCp := copies_ok w3 ⟨p4, n4, c4⟩ n4 l (l.map R) rfl HO4.out.nw.ok (HO4.out.LE (by show n4 ≤ _; omega)) (fun j hj => by rw [gR_map R l j (by rw [HL4.out]; exact hj)]; exact lmem j hj)
        unfold Sl.v at hCp
        clear lmem hl
        go_wp2_with fail
        refine hCp.mono ?_
        clear hCp
        rintro r w5 ⟨s, fs, rfl, hs, hfl, nw, fr⟩
        have HNW := hid nw
        have HFR := hid fr
        clear nw fr
        dsimp only
        go_wp2
        go_ret2
        rw [HE1.out, HE2.out, ← HLL.out]
        exact ⟨s, fs, rfl, by rw [HL4.out]; exact hs, by rw [HL4.out]; exact hfl, ⟨HNW.out.own, fun k hk => Nat.le_trans HA3.out.size (HNW.out.new k hk), HA3.out.trans HNW.out.ap⟩, fun j hj => by
          have := (HFR.out j (by rw [← HL4.out]; exact hj)).from HA3.out
          rwa [gR_map R l j hj] at this⟩
    · have HD := hid hd
      clear hd
      have hCp := copies_ok w2 ⟨p, N, cap⟩ N es (es.map R) rfl HOK.out (HL.out.kept0 HA2.out) (fun j hj => by rw [gR_map R es j (by rw [HN.out]; exact hj)]; exact (HR.out _ (gmem j (by rw [HN.out]; exact hj))).kept0 HA2.out)
      unfold Sl.v at hCp
      go_wp2_with fail
      refine hCp.mono ?_
      clear hCp
      rintro r w3 ⟨s, fs, rfl, hs, hfl, nw, fr⟩
      have HNW := hid nw
      have HFR := hid fr
      clear nw fr
      dsimp only
      go_wp2
      go_ret2
      have e1 : merr (fun t => (R t).xs) es u lim = 0 := by unfold merr; rw [if_neg (by rw [HK.out]; simp), if_pos HD.out]
      have e2 : mlist (fun t => (R t).xs) es u lim = es := by unfold mlist; rw [if_neg (by rw [HK.out]; simp), if_pos HD.out]
      rw [e1, e2]
      exact ⟨s, fs, rfl, by rw [HN.out]; exact hs, by rw [HN.out]; exact hfl, ⟨HNW.out.own, fun k hk => Nat.le_trans HA2.out.size (HNW.out.new k hk), HA2.out.trans HNW.out.ap⟩, fun j hj => by
        have := (HFR.out j (by rw [← HN.out]; exact hj)).from HA2.out
        rwa [gR_map R es j hj] at this⟩
  · go_wp2
    go_ret2
    have e1 : merr (fun t => (R t).xs) es u lim = 50 := by unfold merr; rw [if_pos hk]
    have e2 : mlist (fun t => (R t).xs) es u lim = [] := by unfold mlist; rw [if_pos hk]
    rw [e1, e2]
    exact ⟨⟨none, 0, 0⟩, [], rfl, rfl, rfl, ⟨World.ownsRow_nil _ _ _ _, by simp [Sl.v, Value.ownBlock], HA1.out⟩, fun j hj => absurd hj (by simp)⟩
end Go.Proofs.YtokaeiahhmaokaaGreatDoor.ds
namespace Go.Proofs.YtokaeiahhmaokaaGreatDoor.ds
open Go.ChangeShapes Go.WideShapes Go.ChangeAt Go.RowKit Go.Sort
set_option linter.unusedVariables false
set_option linter.unusedSimpArgs false
theorem Rd.det {w : World} {p : Option Addr} {us vs : List Value} (h : Rd w p us) (h' : Rd w p vs) (hl : us.length = vs.length) : us = vs := by
  by_cases h0 : 0 < us.length
  · obtain ⟨P, o, e1, _, hc⟩ := h h0
    obtain ⟨P', o', e2, _, hc'⟩ := h' (by omega)
    rw [e1] at e2
    simp at e2
    obtain ⟨rfl, rfl⟩ := e2
    apply List.ext_getElem hl
    intro j h1 h2
    have a := hc j _ (List.getElem?_eq_getElem h1)
    have b := hc' j _ (List.getElem?_eq_getElem h2)
    rw [a] at b
    simpa using b
  · rw [List.length_eq_zero_iff.1 (by omega : us.length = 0), List.length_eq_zero_iff.1 (by omega : vs.length = 0)]
theorem byts_inj : ∀ {a b : List Nat}, byts a = byts b → a = b
  | [], [], _ => rfl
  | [], _ :: _, h => by simp [byts] at h
  | _ :: _, [], h => by simp [byts] at h
  | x :: a, y :: b, h => by
    simp only [byts, List.map_cons, List.cons.injEq, Value.int.injEq] at h
    have h1 : x = y := by have := h.1.2; omega
    rw [h1, byts_inj (a := a) (b := b) h.2]
theorem flat_inj : ∀ {a b : List S}, flat a = flat b → a = b
  | [], [], _ => rfl
  | [], _ :: _, h => by simp [flat, ec] at h
  | _ :: _, [], h => by simp [flat, ec] at h
  | x :: a, y :: b, h => by
    have e : ∀ z l, flat (z :: l) = ec z ++ flat l := fun z l => rfl
    rw [e, e] at h
    simp only [ec, List.cons_append, List.nil_append, List.cons.injEq, Value.int.injEq] at h
    obtain ⟨h1, h2, h3, h4⟩ := h
    rw [flat_inj h4]
    cases x; cases y
    simp only at h1 h2 h3
    rw [h1.2, h2.2, Int.ofNat.inj h3.2]
theorem Reads.det {w : World} {e : E} {r q : Wr} (h : Reads w e r) (h' : Reads w e q) : r = q := by
  have e1 := byts_inj (Rd.det h.v h'.v (by simp [byts]; rw [h.vn, h'.vn]))
  have e2 := flat_inj (Rd.det h.x.rd h'.x.rd (by rw [flat_length, flat_length, h.x.len, h'.x.len]))
  have a1 := h.n.symm.trans h'.n
  have a2 := h.c.symm.trans h'.c
  have a3 := h.k.symm.trans h'.k
  have a4 := h.d.symm.trans h'.d
  cases r; cases q
  simp only at a1 a2 a3 a4 e1 e2
  subst a1; subst a2; subst a3; subst a4; subst e1; subst e2; rfl
open Classical in
/-- how a write reads -/
noncomputable def RW (w : World) (t : E) : Wr := if h : ∃ r, Reads w t r then h.choose else Wr.z
theorem RW_eq {w : World} {t : E} {r : Wr} (h : Reads w t r) : RW w t = r := by
  unfold RW
  rw [dif_pos ⟨r, h⟩]
  exact Reads.det (Exists.choose_spec (⟨r, h⟩ : ∃ r, Reads w t r)) h
theorem RW_reads {w : World} {t : E} {r : Wr} (h : Reads w t r) : Reads w t (RW w t) := by rw [RW_eq h]; exact h
/-- merging, as the writes read -/
noncomputable def cvW (t u : Wr) : Bool := keq t.k u.k && hasd t.xs u.n u.c
def belowW (a b : Wr) : Bool := decide (a.n < b.n) || (decide (a.n = b.n) && decide (a.c < b.c))
def deqW (a b : Wr) : Bool := decide (a.n = b.n) && decide (a.c = b.c)
noncomputable def leftW (rs : List Wr) (u : Wr) : List Wr := rs.filter fun t => !cvW u t
def insW (u : Wr) : List Wr → List Wr
  | [] => [u]
  | x :: l => if belowW u x = true then u :: x :: l else x :: insW u l
noncomputable def mergeW (rs : List Wr) (u : Wr) : List Wr := if (leftW rs u).any (fun t => cvW t u) = true then leftW rs u else insW u (leftW rs u)
noncomputable def merrW (rs : List Wr) (u : Wr) (lim : Int) : Int := if rs.any (fun t => !keq t.k u.k) = true then 50 else if rs.any (fun t => deqW t u) = true then 0 else if lim < (mergeW rs u).length then 51 else 0
noncomputable def mlistW (rs : List Wr) (u : Wr) (lim : Int) : List Wr := if rs.any (fun t => !keq t.k u.k) = true then [] else if rs.any (fun t => deqW t u) = true then rs else if lim < (mergeW rs u).length then [] else mergeW rs u
/-- the dot and the key are the write's -/
structure As (e : E) (r : Wr) : Prop where
  n : e.n = r.n
  c : e.c = r.c
  k : e.k = r.k
theorem Reads.as {w : World} {e : E} {r : Wr} (h : Reads w e r) : As e r := ⟨h.n, h.c, h.k⟩
theorem any_R {f : E → Bool} {g : Wr → Bool} {R : E → Wr} : ∀ (es : List E), (∀ t ∈ es, f t = g (R t)) → es.any f = (es.map R).any g
  | [], _ => rfl
  | x :: l, h => by
    simp only [List.any_cons, List.map_cons]
    rw [h x (by simp), any_R l (fun t ht => h t (by simp [ht]))]
theorem filter_R {f : E → Bool} {g : Wr → Bool} {R : E → Wr} : ∀ (es : List E), (∀ t ∈ es, f t = g (R t)) → (es.filter f).map R = (es.map R).filter g
  | [], _ => rfl
  | x :: l, h => by
    have ih := filter_R (f := f) (g := g) (R := R) l (fun t ht => h t (by simp [ht]))
    have hx := h x (by simp)
    simp only [List.filter_cons, List.map_cons]
    rw [← hx]
    split
    · simp [ih]
    · exact ih
theorem insE_R {R : E → Wr} {u : E} : ∀ (es : List E), (∀ t ∈ es, below u t = belowW (R u) (R t)) → (insE u es).map R = insW (R u) (es.map R)
  | [], _ => rfl
  | x :: l, h => by
    have ih := insE_R (R := R) (u := u) l (fun t ht => h t (by simp [ht]))
    have hx := h x (by simp)
    simp only [insE, insW, List.map_cons]
    rw [← hx]
    split
    · simp
    · simp [ih]
theorem as_below {u t : E} {a b : Wr} (h : As u a) (k : As t b) : below u t = belowW a b := by unfold below belowW; rw [h.n, h.c, k.n, k.c]
theorem as_deq {u t : E} {a b : Wr} (h : As u a) (k : As t b) : deq u t = deqW a b := by unfold deq deqW; rw [h.n, h.c, k.n, k.c]
theorem as_cv {u t : E} {a b : Wr} (h : As u a) (k : As t b) : cvE a.xs u t = cvW a b := by unfold cvE cvW; rw [h.k, k.n, k.c, k.k]
theorem left_W {R : E → Wr} {es : List E} {u : E} (h : ∀ t ∈ es, As t (R t)) (hu : As u (R u)) : (leftE (fun t => (R t).xs) es u).map R = leftW (es.map R) (R u) := by
  unfold leftE leftW
  exact filter_R es (fun t ht => by rw [as_cv hu (h t ht)])
theorem merge_W {R : E → Wr} {es : List E} {u : E} (h : ∀ t ∈ es, As t (R t)) (hu : As u (R u)) : (mergeE (fun t => (R t).xs) es u).map R = mergeW (es.map R) (R u) := by
  have hl : ∀ t ∈ leftE (fun t => (R t).xs) es u, As t (R t) := fun t ht => h t (List.mem_filter.1 ht).1
  unfold mergeE mergeW
  rw [← left_W h hu, ← any_R (f := fun t => cvE (R t).xs t u) (g := fun t => cvW t (R u)) (R := R) _ (fun t ht => as_cv (hl t ht) hu)]
  split
  · rfl
  · exact insE_R _ (fun t ht => as_below hu (hl t ht))
theorem merge_len {R : E → Wr} {es : List E} {u : E} (h : ∀ t ∈ es, As t (R t)) (hu : As u (R u)) : (mergeE (fun t => (R t).xs) es u).length = (mergeW (es.map R) (R u)).length := by
  rw [← merge_W h hu]; simp
theorem merr_W {R : E → Wr} {es : List E} {u : E} {lim : Int} (h : ∀ t ∈ es, As t (R t)) (hu : As u (R u)) : merr (fun t => (R t).xs) es u lim = merrW (es.map R) (R u) lim := by
  unfold merr merrW
  rw [← any_R (f := fun t => !keq t.k u.k) (g := fun t => !keq t.k (R u).k) (R := R) es (fun t ht => by rw [(h t ht).k, hu.k]), ← any_R (f := fun t => deq t u) (g := fun t => deqW t (R u)) (R := R) es (fun t ht => as_deq (h t ht) hu), merge_len h hu]
theorem mlist_W {R : E → Wr} {es : List E} {u : E} {lim : Int} (h : ∀ t ∈ es, As t (R t)) (hu : As u (R u)) : (mlist (fun t => (R t).xs) es u lim).map R = mlistW (es.map R) (R u) lim := by
  unfold mlist mlistW
  rw [← any_R (f := fun t => !keq t.k u.k) (g := fun t => !keq t.k (R u).k) (R := R) es (fun t ht => by rw [(h t ht).k, hu.k]), ← any_R (f := fun t => deq t u) (g := fun t => deqW t (R u)) (R := R) es (fun t ht => as_deq (h t ht) hu), merge_len h hu]
  split
  · rfl
  · split
    · rfl
    · split
      · rfl
      · exact merge_W h hu
end Go.Proofs.YtokaeiahhmaokaaGreatDoor.ds
namespace Go.Proofs.YtokaeiahhmaokaaGreatDoor.ds
open Go.ChangeShapes Go.WideShapes Go.ChangeAt Go.RowKit Go.Sort
set_option linter.unusedVariables false
set_option linter.unusedSimpArgs false
/-- several more at a list's end -/
theorem run_appS {w W : World} {s : Sl} {us : List Value} (t ty e : TypeId) (i : TypeInfo) (z : Value) (size bytes : Nat) (ht : Tryz.prog.underlying t = some (.slice e)) (hi : Tryz.prog.info? e = some i) (hz : i.zero = some z) (hsize : i.size = size) (hby : i.bytes = bytes) (hzs : z.cells.size = size) (hsz : 0 < size)
    (h : Nw w W e size s us) (ad : Addr) (m c : Nat) (cs : List Value) (hm : 0 < m) (hcl : cs.length = m * size) (hcs : ∀ j u, cs[j]? = some u → W.cell? (ad.add j) = some u) (one : ∀ u ∈ cs, u.oneCell' = true) (h63 : s.n + m ≤ maxLen) (hb : (s.n + m) * bytes ≤ 140737488355328) :
    ∃ s' W', (Builtin.append_ #[t, t] ty #[s.v, .slice (some ad) m c]).run Tryz.prog W = .ok (Sl.v s') W' ∧ Nw w W' e size s' (us ++ cs) ∧ s'.n = s.n + m ∧ Apart s.v.ownBlock.toList W W' ∧ ∃ k, s'.p = some ⟨k, 0, none⟩ ∧ s'.n ≤ s'.c ∧ (s.v.ownBlock = some k ∨ W.heap.size ≤ k) := by
  have key : ∃ v' W', (Builtin.append_ #[t, t] ty #[s.v, .slice (some ad) m c]).run Tryz.prog W = .ok v' W' ∧ W'.ownsRow 0 e size v' (s.n + m) (us ++ cs) ∧ W.grownBy W' s.v.ownBlock ∧ NewOr W s.v v' :=
    run_append2 W t ty e i z size bytes ht hi hz hsize hby hzs hsz s.v s.n us h.own ad m c cs hm hcl hcs one h63 hb
  obtain ⟨v', W', hrun, r1, r2, r3⟩ := key
  have ap : Apart s.v.ownBlock.toList W W' := apart_grown r2
  obtain ⟨k, c, rfl, hle⟩ : ∃ k c, v' = .slice (some ⟨k, 0, none⟩) (s.n + m) c ∧ s.n + m ≤ c := by
    obtain ⟨_, ⟨hv, hz⟩ | ⟨g, cap, cur, hv, _, _, hle, _⟩⟩ := r1
    · exact absurd hz (by omega)
    · exact ⟨g, cap, hv, hle⟩
  have hk : s.v.ownBlock = some k ∨ W.heap.size ≤ k := by
    rcases r3 with r3 | ⟨q, r3, hq⟩
    · left; rw [← r3]; rfl
    · right
      simp [Value.ownBlock] at r3
      omega
  refine ⟨⟨some ⟨k, 0, none⟩, s.n + m, c⟩, W', hrun, ⟨r1, fun b hb => ?_, h.ap.trans' ap (fun y hy => ?_)⟩, rfl, ap, k, rfl, hle, hk⟩
  · simp [Sl.v, Value.ownBlock] at hb
    subst hb
    rcases hk with hk | hk
    · exact h.new _ hk
    · have := h.ap.size; omega
  · simp at hy
    exact .inr (h.new y hy)
/-- .. out of a row that was just made -/
theorem run_appM {w W : World} {s : Sl} {us : List Value} (t ty e : TypeId) (i : TypeInfo) (z : Value) (size bytes : Nat) (ht : Tryz.prog.underlying t = some (.slice e)) (hi : Tryz.prog.info? e = some i) (hz : i.zero = some z) (hsize : i.size = size) (hby : i.bytes = bytes) (hzs : z.cells.size = size) (hsz : 0 < size)
    (h : Nw w W e size s us) (m : Nat) (cs : List Value) (hm : 0 < m) (hcl : cs.length = m * size) (one : ∀ u ∈ cs, u.oneCell' = true) (h63 : s.n + m ≤ maxLen) (hb : (s.n + m) * bytes ≤ 140737488355328) :
    ∃ s' W', (Builtin.append_ #[t, t] ty #[s.v, .slice (some ⟨W.heap.size, 0, none⟩) m m]).run Tryz.prog (W.alloc (.cells cs.toArray e)) = .ok (Sl.v s') W' ∧ Nw w W' e size s' (us ++ cs) ∧ s'.n = s.n + m ∧ Apart s.v.ownBlock.toList W W' ∧ ∃ k, s'.p = some ⟨k, 0, none⟩ ∧ s'.n ≤ s'.c ∧ (s.v.ownBlock = some k ∨ W.heap.size ≤ k) := by
  have a1 : Apart [] W (W.alloc (.cells cs.toArray e)) := (Apart.refl [] W).alloc _
  have hcs : ∀ j u, cs[j]? = some u → (W.alloc (.cells cs.toArray e)).cell? ((⟨W.heap.size, 0, none⟩ : Addr).add j) = some u := by
    intro j u hj
    rw [Addr.add_lit, Nat.zero_add, cell_of_row _ _ _ _ _ _ (heap_alloc_new W (.cells cs.toArray e))]
    simpa using hj
  obtain ⟨s', W', hrun, r1, r2, r3, k, r4, r5, r6⟩ := run_appS t ty e i z size bytes ht hi hz hsize hby hzs hsz (h.kept a1) ⟨W.heap.size, 0, none⟩ m m cs hm hcl hcs one h63 hb
  exact ⟨s', W', hrun, r1, r2, (a1.mono (by simp)).trans r3, k, r4, r5, r6.imp id (fun h => Nat.le_trans a1.size h)⟩
/-- copy of several cells an element, into a row that is known whole -/
theorem run_copy_rowN (w : World) (dT sT ty elem : TypeId) (sz g o dLen dCap : Nat) (a : Addr) (sLen sCap m : Nat) (cur : List Value) (t : TypeId) (cs : List Value)
    (hu : Tryz.prog.underlying dT = some (.slice elem)) (hs : (Tryz.prog.info? elem).map (·.size) = some sz)
    (hg : w.heap[g]? = some (.cells cur.toArray t (0, 0))) (hm : m = Nat.min sLen dLen) (hn : cs.length = m * sz)
    (hsrc : ∀ j v, cs[j]? = some v → w.cell? (a.add j) = some v) (hfit : o + cs.length ≤ cur.length) (h1 : ∀ v ∈ cs, v.oneCell' = true) :
    (Builtin.copy_ #[dT, sT] ty #[.slice (some ⟨g, o, none⟩) dLen dCap, .slice (some a) sLen sCap]).run Tryz.prog w =
      .ok (goInt m) (w.setRow g (splice cur o cs).toArray) := by
  have hl := run_loadCells_list (P := Tryz.prog) w a cs hsrc
  have hst := run_storeCells_at Tryz.prog g o t cs 0 cur.toArray w hg (by simpa using hfit) h1
  cases hq : Tryz.prog.info? elem with
  | none => simp [hq] at hs
  | some i =>
    have hi : i.size = sz := by simpa [hq] using hs
    simp [Builtin.copy_, run_underlying hu, Builtin.lenOf, Builtin.firstCells, sizeOf, typeInfo, hq, hi, ← hm, ← hn, hl, hst, splice]
theorem apart_setRow (w : World) (g : Nat) (cs : Array Value) : Apart [g] w (w.setRow g cs) :=
  ⟨rfl, rfl, rfl, by simp [World.setRow], fun k hk hx => setRow_other w g k cs (fun e => hx (by simp [e]))⟩
/-- a gap of one is made at k, and filled -/
theorem splice_ins {α : Type} (A D U R : List α) (hR : U.length ≤ R.length) :
    (splice (splice (A ++ D ++ R) (A.length + U.length) D) A.length U).take (A.length + U.length + D.length) = A ++ U ++ D := by
  have e1 : splice (A ++ D ++ R) (A.length + U.length) D = A ++ (((D ++ R).take U.length) ++ (D ++ (A ++ D ++ R).drop (A.length + U.length + D.length))) := by
    unfold splice
    rw [List.append_assoc A D R, List.take_append, List.take_of_length_le (by omega)]
    simp
  rw [e1]
  unfold splice
  have hl : ((D ++ R).take U.length).length = U.length := by simp; omega
  rw [List.take_append_of_le_length (Nat.le_refl _), List.take_of_length_le (Nat.le_refl _), List.drop_append, List.drop_eq_nil_of_le (by omega : A.length ≤ A.length + U.length)]
  rw [show A.length + U.length - A.length = ((D ++ R).take U.length).length from by omega, List.nil_append, List.drop_left]
  rw [← List.append_assoc, ← List.append_assoc, List.take_append_of_le_length (by simp; omega)]
  exact List.take_of_length_le (by simp; omega)
end Go.Proofs.YtokaeiahhmaokaaGreatDoor.ds
