import Derived.Test.YtokaeiahhmaokaaB17
namespace Go.Proofs.Ytokaeiahhmaokaa.ds
open Go.ChangeShapes Go.WideShapes Go.ChangeAt Go.RowKit Go.Sort
set_option linter.unusedVariables false
set_option linter.unusedSimpArgs false
theorem gR_map (R : E → Wr) (l : List E) (j : Nat) (hj : j < l.length) : gR (l.map R) j = R (gE l j) := by
  unfold gR
  rw [gE_eq _ _ hj, List.getD_eq_getElem?_getD]
  simp [hj]
theorem insE_mem (u t : E) : ∀ l : List E, t ∈ insE u l → t = u ∨ t ∈ l
  | [], h => by simp [insE] at h; exact .inl h
  | x :: l, h => by
    unfold insE at h
    split at h
    · simp at h
      rcases h with h | h | h
      · exact .inl h
      · exact .inr (by simp [h])
      · exact .inr (by simp [h])
    · simp at h
      rcases h with h | h
      · exact .inr (by simp [h])
      · rcases insE_mem u t l h with h | h
        · exact .inl h
        · exact .inr (by simp [h])
theorem mergeE_mem {X : E → List S} {es : List E} {u t : E} (h : t ∈ mergeE X es u) : t = u ∨ t ∈ es := by
  unfold mergeE at h
  split at h
  · exact .inr (List.mem_filter.1 h).1
  · rcases insE_mem u t _ h with h | h
    · exact .inl h
    · exact .inr (List.mem_filter.1 h).1
/-- what Merge leaves -/
structure MgPost (w w' : World) (r : Ending) (R : E → Wr) (e : Int) (l : List E) : Prop where
  ex : ∃ (s : Sl) (fs : List E), r = .returned (.tuple #[s.v, .int .i64 e]) ∧ s.n = l.length ∧ fs.length = l.length ∧ Nw w w' 28 6 s (flatE fs) ∧ ∀ j, j < l.length → Fresh w w' (gE fs j) (R (gE l j))
set_option maxHeartbeats 8000000 in
set_option maxRecDepth 100000 in
theorem merge_ok (hI : InsOk) (w : World) (p : Option Addr) (N cap : Nat) (es : List E) (u : E) (lim : Int) (R : E → Wr) (h : LE w p N es) (hN : N ≤ 1100000) (ok : Sl.ok ⟨p, N, cap⟩) (hR : ∀ t ∈ es, Reads w t (R t)) (hu : Reads w u (R u)) :
    Calls Try.prog 6 #[.slice p N cap, u.agg, .int .i64 lim] w fun r w' => MgPost w w' r R (merr (fun t => (R t).xs) es u lim) (mlist (fun t => (R t).xs) es u lim) := by
  have aB : Apart [] w (w.alloc (boxE u)) := (Apart.refl [] w).alloc _
  have HB := hid aB
  have HC := hid (Cap.new w u)
  have HL := hid h
  have HN := hid h.len
  have HR := hid hR
  have HU := hid hu
  have HI := hid hI
  have HOK := hid ok
  have gmem : ∀ k, k < es.length → gE es k ∈ es := fun k hk => by rw [gE_eq _ _ hk]; exact List.getElem_mem hk
  have hAsk : Asks (w.alloc (boxE u)) 16 #[.pointer (some ⟨w.heap.size, 0, none⟩)] es (fun t => !keq t.k u.k) := fun k hk W a => key1_ok (gE es k) u w.heap.size W (HC.out.kept0 a)
  have hK := contains16 (cap := cap) (h.kept0 aB) _ hAsk
  clear h aB hR hu hI ok hAsk
  unfold E.agg
  go_enter Try.func6, Try.ntmps6
  go_wp2_with fail
  refine hK.mono ?_
  clear hK
  rintro r w1 ⟨rfl, a1⟩
  have HA1 := hid (HB.out.trans a1)
  dsimp only
  cases hk : es.any (fun t => !keq t.k u.k)
  · have HK := hid hk
    have hAsk : Asks w1 17 #[.pointer (some ⟨w.heap.size, 0, none⟩)] es (fun t => deq t u) := fun k hk W a => dot1_ok (gE es k) u w.heap.size W (HC.out.kept0 (a1.trans a))
    have hK2 := contains17 (cap := cap) (HL.out.kept0 HA1.out) _ hAsk
    have HC1 := hid (HC.out.kept0 a1)
    clear hk hAsk a1
    go_wp2_with fail
    refine hK2.mono ?_
    clear hK2
    rintro r w2 ⟨rfl, a2⟩
    have HA2 := hid (HA1.out.trans a2)
    have HC2 := hid (HC1.out.kept0 a2)
    clear a2
    dsimp only
    cases hd : es.any (fun t => deq t u)
    · have HD := hid hd
      clear hd
      have hMg := merged_ok HI.out w2 p N cap es u (fun t => (R t).xs) (HL.out.kept0 HA2.out) hN (fun j hj => ((HR.out _ (gmem j (by rw [HN.out]; exact hj))).kept0 HA2.out).x) (HU.out.kept0 HA2.out).x
      obtain ⟨u0, u1, u2, u3, u4, u5⟩ := row6 HC2.out
      unfold Sl.v at u4 u5
      unfold E.agg Sl.v at hMg
      go_wp2_with fail
      refine hMg.mono ?_
      clear hMg
      rintro r w3 ⟨⟨p4, n4, c4⟩, rfl, own4⟩
      have HO4 := hid own4
      have HA3 := hid (HA2.out.trans own4.nw.ap)
      have hl4 : (mergeE (fun t => (R t).xs) es u).length = n4 := own4.len
      have HL4 := hid hl4
      have hn4 : n4 ≤ 1200000 := by
        have h1 := mergeE_len (fun t => (R t).xs) es u
        rw [hl4, HN.out] at h1
        omega
      clear own4 hl4
      dsimp only
      by_cases hlm : lim < (n4 : Int)
      · go_wp2
        go_ret2
        have e1 : merr (fun t => (R t).xs) es u lim = 51 := by unfold merr; rw [if_neg (by rw [HK.out]; simp), if_neg (by rw [HD.out]; simp), HL4.out, if_pos hlm]
        have e2 : mlist (fun t => (R t).xs) es u lim = [] := by unfold mlist; rw [if_neg (by rw [HK.out]; simp), if_neg (by rw [HD.out]; simp), HL4.out, if_pos hlm]
        rw [e1, e2]
        exact ⟨⟨none, 0, 0⟩, [], rfl, rfl, rfl, ⟨World.ownsRow_nil _ _ _ _, by simp [Sl.v, Value.ownBlock], HA3.out⟩, fun j hj => absurd hj (by simp)⟩
      · have e1 : merr (fun t => (R t).xs) es u lim = 0 := by unfold merr; rw [if_neg (by rw [HK.out]; simp), if_neg (by rw [HD.out]; simp), HL4.out, if_neg hlm]
        have e2 : mlist (fun t => (R t).xs) es u lim = mergeE (fun t => (R t).xs) es u := by unfold mlist; rw [if_neg (by rw [HK.out]; simp), if_neg (by rw [HD.out]; simp), HL4.out, if_neg hlm]
        have HE1 := hid e1
        have HE2 := hid e2
        clear e1 e2
        obtain ⟨l, hl⟩ : ∃ l, l = mergeE (fun t => (R t).xs) es u := ⟨_, rfl⟩
        have HLL := hid hl
        rw [← hl] at HO4 HL4
        have lmem : ∀ j, j < n4 → Reads w3 (gE l j) (R (gE l j)) := fun j hj => by
          have hj2 : j < l.length := by rw [HL4.out]; exact hj
          have hm : gE l j ∈ mergeE (fun t => (R t).xs) es u := by rw [← hl, gE_eq _ _ hj2]; exact List.getElem_mem hj2
          rcases mergeE_mem hm with e | e
          · rw [e]; exact HU.out.kept0 HA3.out
          · exact (HR.out _ e).kept0 HA3.out
        have hCp := copies_ok w3 ⟨p4, n4, c4⟩ n4 l (l.map R) rfl HO4.out.nw.ok (HO4.out.LE (by show n4 ≤ _; omega)) (fun j hj => by rw [gR_map R l j (by rw [HL4.out]; exact hj)]; exact lmem j hj)
        unfold Sl.v at hCp
        clear lmem hl
        go_wp2_with fail
        refine hCp.mono ?_
        clear hCp
        rintro r w5 ⟨s, fs, rfl, hs, hfl, nw, fr⟩
        have HNW := hid nw
        have HFR := hid fr
        clear nw fr
        dsimp only
        go_wp2
        go_ret2
        rw [HE1.out, HE2.out, ← HLL.out]
        exact ⟨s, fs, rfl, by rw [HL4.out]; exact hs, by rw [HL4.out]; exact hfl, ⟨HNW.out.own, fun k hk => Nat.le_trans HA3.out.size (HNW.out.new k hk), HA3.out.trans HNW.out.ap⟩, fun j hj => by
          have := (HFR.out j (by rw [← HL4.out]; exact hj)).from HA3.out
          rwa [gR_map R l j hj] at this⟩
    · have HD := hid hd
      clear hd
      have hCp := copies_ok w2 ⟨p, N, cap⟩ N es (es.map R) rfl HOK.out (HL.out.kept0 HA2.out) (fun j hj => by rw [gR_map R es j (by rw [HN.out]; exact hj)]; exact (HR.out _ (gmem j (by rw [HN.out]; exact hj))).kept0 HA2.out)
      unfold Sl.v at hCp
      go_wp2_with fail
      refine hCp.mono ?_
      clear hCp
      rintro r w3 ⟨s, fs, rfl, hs, hfl, nw, fr⟩
      have HNW := hid nw
      have HFR := hid fr
      clear nw fr
      dsimp only
      go_wp2
      go_ret2
      have e1 : merr (fun t => (R t).xs) es u lim = 0 := by unfold merr; rw [if_neg (by rw [HK.out]; simp), if_pos HD.out]
      have e2 : mlist (fun t => (R t).xs) es u lim = es := by unfold mlist; rw [if_neg (by rw [HK.out]; simp), if_pos HD.out]
      rw [e1, e2]
      exact ⟨s, fs, rfl, by rw [HN.out]; exact hs, by rw [HN.out]; exact hfl, ⟨HNW.out.own, fun k hk => Nat.le_trans HA2.out.size (HNW.out.new k hk), HA2.out.trans HNW.out.ap⟩, fun j hj => by
        have := (HFR.out j (by rw [← HN.out]; exact hj)).from HA2.out
        rwa [gR_map R es j hj] at this⟩
  · go_wp2
    go_ret2
    have e1 : merr (fun t => (R t).xs) es u lim = 50 := by unfold merr; rw [if_pos hk]
    have e2 : mlist (fun t => (R t).xs) es u lim = [] := by unfold mlist; rw [if_pos hk]
    rw [e1, e2]
    exact ⟨⟨none, 0, 0⟩, [], rfl, rfl, rfl, ⟨World.ownsRow_nil _ _ _ _, by simp [Sl.v, Value.ownBlock], HA1.out⟩, fun j hj => absurd hj (by simp)⟩
end Go.Proofs.Ytokaeiahhmaokaa.ds
