import Derived.Test.YtokaeiahhmaokaaB15
namespace Go.Proofs.Ytokaeiahhmaokaa.ds
open Go.ChangeShapes Go.WideShapes Go.ChangeAt Go.RowKit Go.Sort
set_option linter.unusedVariables false
set_option linter.unusedSimpArgs false
/-- what slices.Insert of one write must answer -/
def InsOk : Prop := ∀ (w W : World) (s : Sl) (l : List E) (u : E) (k B : Nat), OwnE w W s l → s.n ≤ 1500000 → k ≤ s.n → Cap W B u → Calls Try.prog 32 #[s.v, .int .i64 (k : Int), .slice (some ⟨B, 0, none⟩) 1 1] W fun r W' => ∃ s', r = .returned (Sl.v s') ∧ OwnE w W' s' (l.take k ++ [u] ++ l.drop k)
/-- the writes that stay -/
structure Lf (w W : World) (X : E → List S) (es : List E) (u : E) (i : Nat) (s : Sl) : Prop where
  own : OwnE (w.alloc (boxE u)) W s (leftE X (es.take i) u)
set_option maxHeartbeats 8000000 in
set_option maxRecDepth 100000 in
theorem merged_ok (hI : InsOk) (w : World) (p : Option Addr) (N cap : Nat) (es : List E) (u : E) (X : E → List S) (h : LE w p N es) (hN : N ≤ 1100000) (hX : ∀ j, j < N → L w (gE es j).x.p (gE es j).x.n (X (gE es j))) (hu : L w u.x.p u.x.n (X u)) :
    Calls Try.prog 19 #[.slice p N cap, u.agg] w fun r w' => ∃ s, r = .returned (Sl.v s) ∧ OwnE w w' s (mergeE X es u) := by
  have aB : Apart [] w (w.alloc (boxE u)) := (Apart.refl [] w).alloc _
  have HB := hid aB
  have HC := hid (Cap.new w u)
  have HL := hid h
  have HN := hid h.len
  have HX := hid hX
  have HU := hid hu
  have HI := hid hI
  have o0 : OwnE (w.alloc (boxE u)) (w.alloc (boxE u)) ⟨none, 0, 0⟩ (leftE X (es.take 0) u) := OwnE.nil _ _ (Apart.refl _ _)
  clear h aB hX hu hI
  unfold E.agg
  go_enter Try.func19, Try.ntmps19
  go_wp2_with fail
  go_loopw [5, 11] (fun v5 v11 wr => ∃ (i : Nat) (s : Sl), v11 = .int .i64 (i : Nat) ∧ i ≤ N ∧ v5 = s.v ∧ OwnE (w.alloc (boxE u)) wr s (leftE X (es.take i) u)) (fun _ v11 _ => N - (intOf v11).toNat)
  case atStart => exact ⟨0, ⟨none, 0, 0⟩, rfl, Nat.zero_le _, rfl, o0⟩
  case round =>
    clear o0
    obtain ⟨i, ⟨ps, ns, cs⟩, rfl, hi, rfl, own⟩ := hrel
    have HO := hid own
    have HA := hid own.nw.ap
    clear own
    have HCr := hid (HC.out.kept0 HA.out)
    have hns : ns ≤ 1100000 := by
      have h1 := HO.out.len
      have h2 := leftE_len X (es.take i) u
      rw [List.length_take] at h2
      simp only at h1
      omega
    have hbx := fun W => buildE W (gE es i)
    unfold Sl.v
    by_cases hlt : i < N
    · obtain ⟨P, o, hpe, hPw, _⟩ := HL.out.at (by omega)
      obtain ⟨P', o', hpe', hP, hc⟩ := (HL.out.kept0 (HB.out.trans HA.out)).at (by omega)
      rw [hpe] at hpe'
      simp at hpe'
      obtain ⟨rfl, rfl⟩ := hpe'
      subst hpe
      obtain ⟨c0, c1, c2, c3, c4, c5⟩ := hc i hlt
      have HTK := hid (takeE (es := es) (i := i) (by rw [HN.out]; exact hlt))
      obtain ⟨x, hx⟩ : ∃ x, x = gE es i := ⟨_, rfl⟩
      rw [← hx] at c0 c1 c2 c3 c4 c5 hbx HTK
      obtain ⟨v1, HV1⟩ : ∃ v1, Hid (v1 = cvE (X u) u x) := ⟨_, rfl⟩
      have aX : Apart [] wr (wr.alloc (boxE x)) := (Apart.refl [] wr).alloc _
      have hC1 := covers_ok u x (X u) (wr.alloc (boxE x)) (HU.out.kept0 ((HB.out.trans HA.out).trans aX)) v1 HV1.out
      obtain ⟨u0, u1, u2, u3, u4, u5⟩ := row6 (HCr.out.kept0 aX)
      have bX : Cap (wr.alloc (boxE x)) wr.heap.size x := Cap.new wr x
      obtain ⟨x0, x1, x2, x3, x4, x5⟩ := row6 bX
      have HBX := hid bX
      have HAX := hid aX
      unfold Sl.v at c4 c5
      unfold boxE Sl.v at u0 u1 u2 u3 u4 u5 x0 x1 x2 x3 x4 x5
      unfold E.agg Sl.v at hbx hC1
      clear hc hx bX aX
      go_wp2_with fail
      refine hC1.mono ?_
      clear hC1
      rintro r w2 ⟨rfl, a2⟩
      have HA2 := hid (HAX.out.trans a2)
      obtain ⟨y0, y1, y2, y3, y4, y5⟩ := row6 (HBX.out.kept0 a2)
      unfold Sl.v at y4 y5
      clear c0 c1 c2 c3 c4 c5 u0 u1 u2 u3 u4 u5 x0 x1 x2 x3 x4 x5
      cases v1
      · obtain ⟨s', W3, hrun, own', hn', ap'⟩ := run_appE (s := ⟨ps, ns, cs⟩) (HO.out.kept HA2.out) (by show ns ≤ _; omega) x 34
        have HO2 := hid own'
        have HLS : Hid (leftE X (es.take (i + 1)) u = leftE X (es.take i) u ++ [x]) := by
          show leftE X (es.take (i + 1)) u = _
          rw [HTK.out, leftE_snoc, ← HV1.out]; simp
        unfold Sl.v boxE at hrun
        clear own' ap' hn' a2
        go_wp2_with (at_builtin; refine wpList_append3 rfl (.tmp 19) (.tmp 21) 34 rfl _ _ rfl rfl _ _ hrun ?_)
        go_wp2
        go_roundw
        case rel => exact ⟨i + 1, s', by go_num, by omega, rfl, by rw [HLS.out]; exact HO2.out⟩
        case measure => simp [intOf]; omega
      · have HLS : Hid (leftE X (es.take (i + 1)) u = leftE X (es.take i) u) := by
          show leftE X (es.take (i + 1)) u = _
          rw [HTK.out, leftE_snoc, ← HV1.out]; simp
        clear a2
        go_wp2
        go_roundw
        case rel => exact ⟨i + 1, ⟨ps, ns, cs⟩, by go_num, by omega, rfl, by rw [HLS.out]; exact HO.out.kept HA2.out⟩
        case measure => simp [intOf]; omega
    · obtain rfl : N = i := by omega
      have htk : es.take N = es := List.take_of_length_le (by rw [HN.out]; exact Nat.le_refl _)
      rw [htk] at HO
      clear hbx htk
      obtain ⟨l, hl⟩ : ∃ l, l = leftE X es u := ⟨_, rfl⟩
      rw [← hl] at HO
      have HLL := hid hl
      have hmem : ∀ t ∈ l, L wr t.x.p t.x.n (X t) := by
        intro t ht
        rw [hl] at ht
        have ht2 := (List.mem_filter.1 ht).1
        obtain ⟨k, hk, rfl⟩ := List.getElem_of_mem ht2
        have := HX.out k (by rw [← HN.out]; exact hk)
        rw [gE_eq _ _ hk] at this
        exact this.kept0 (HB.out.trans HA.out)
      have gmem : ∀ k, k < l.length → gE l k ∈ l := fun k hk => by rw [gE_eq _ _ hk]; exact List.getElem_mem hk
      have hAsk : Asks wr 29 #[.pointer (some ⟨w.heap.size, 0, none⟩)] l (fun t => cvE (X t) t u) := fun k hk W a => cov1_ok (gE l k) u w.heap.size (X (gE l k)) W (HCr.out.kept0 a) ((hmem _ (gmem k hk)).kept0 a)
      have hK := contains29 (cap := cs) (HO.out.LE (by show ns ≤ _; omega)) _ hAsk
      clear hAsk hmem hl
      go_wp2_with fail
      refine hK.mono ?_
      clear hK
      rintro r w2 ⟨rfl, a2⟩
      have HA2 := hid a2
      clear a2
      dsimp only
      cases hcv : l.any (fun t => cvE (X t) t u)
      · have HM : Hid (mergeE X es u = insE u l) := by
          show mergeE X es u = _
          unfold mergeE
          rw [← HLL.out, if_neg (by rw [hcv]; simp)]
        clear hcv
        have hAsk2 : Asks w2 30 #[.pointer (some ⟨w.heap.size, 0, none⟩)] l (below u) := fun k hk W a => beh1_ok (gE l k) u w.heap.size W (HCr.out.kept0 (HA2.out.trans a))
        have hK2 := index30 (cap := cs) ((HO.out.kept HA2.out).LE (by show ns ≤ _; omega)) _ hAsk2
        clear hAsk2
        have hat := idx_at u l
        have hat2 := atE_le u l
        have hln : l.length = ns := HO.out.len
        rw [hln] at hat hat2
        generalize idxE (below u) l = z at *
        go_wp2_with fail
        refine hK2.mono ?_
        clear hK2
        rintro r w3 ⟨rfl, a3⟩
        have HA3 := hid (HA2.out.trans a3)
        clear a3
        dsimp only
        obtain ⟨u0, u1, u2, u3, u4, u5⟩ := row6 (HCr.out.kept0 HA3.out)
        unfold Sl.v at u4 u5
        have hbu := fun W => buildE W u
        unfold E.agg Sl.v at hbu
        have hIn := HI.out (w.alloc (boxE u)) (w3.alloc (boxE u)) ⟨ps, ns, cs⟩ l u (atE u l) w3.heap.size (HO.out.kept (HA3.out.alloc _)) (by show ns ≤ _; omega) hat2 (Cap.new w3 u)
        rw [← insE_at, ← hat] at hIn
        unfold Sl.v at hIn
        have HHAT := hid hat
        clear hat hat2 hln
        by_cases hz : z < 0
        · rw [if_pos hz] at hIn
          go_wp2_with fail
          refine hIn.mono ?_
          rintro r w4 ⟨s4, rfl, own4⟩
          have HO4 := hid own4
          clear own4 hIn
          dsimp only
          go_wp2
          go_ret
          exact ⟨s4, rfl, ⟨⟨by rw [HM.out]; exact HO4.out.nw.own, fun k hk => Nat.le_trans HB.out.size (HO4.out.nw.new k hk), HB.out.trans HO4.out.nw.ap⟩, by rw [HM.out]; exact HO4.out.len⟩⟩
        · rw [if_neg hz] at hIn
          go_wp2_with fail
          refine hIn.mono ?_
          rintro r w4 ⟨s4, rfl, own4⟩
          have HO4 := hid own4
          clear own4 hIn
          dsimp only
          go_wp2
          go_ret
          exact ⟨s4, rfl, ⟨⟨by rw [HM.out]; exact HO4.out.nw.own, fun k hk => Nat.le_trans HB.out.size (HO4.out.nw.new k hk), HB.out.trans HO4.out.nw.ap⟩, by rw [HM.out]; exact HO4.out.len⟩⟩
      · have HM : Hid (mergeE X es u = l) := by
          show mergeE X es u = _
          unfold mergeE
          rw [← HLL.out, if_pos hcv]
        clear hcv
        go_wp2
        go_ret
        have o5 := HO.out.kept HA2.out
        exact ⟨⟨ps, ns, cs⟩, rfl, ⟨⟨by rw [HM.out]; exact o5.nw.own, fun k hk => Nat.le_trans HB.out.size (o5.nw.new k hk), HB.out.trans o5.nw.ap⟩, by rw [HM.out]; exact o5.len⟩⟩
end Go.Proofs.Ytokaeiahhmaokaa.ds
