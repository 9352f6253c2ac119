import Derived.Test.YtdbeeikjngnnnaaG39
namespace Go.Proofs.Ytdbeeikjngnnnaa.ty
open Go.ChangeShapes Go.WideShapes Go.ChangeAt Go.RowKit
set_option linter.unusedVariables false
set_option linter.unusedSimpArgs false
theorem rgs_of {x : Vl} (h : x.kd = 4) : ∃ s a t, x = .rgs s a t := by
  cases x using Vl.el with
  | cnt u d => cases h
  | set c es => cases h
  | flg c t => cases h
  | rgs s a t => exact ⟨s, a, t, rfl⟩
set_option maxHeartbeats 4000000 in
set_option maxRecDepth 100000 in
theorem right4a {w0 w : World} {X : Nat} {H : List Dn} {c : Nat → Nat → Nat} {P : Nat → Nat} {V : Nat → Vl} {s : Sl} (h : Hm w0 w X 4 H c P V s) (g : Wr 4 H c V) (hl : H.length ≤ 60) {i : Nat} (hi : i < 4) (ht : textR (V i) = []) (hno : ∀ p, se H (c i) p = false) : Calls Try.prog 28 #[.pointer (some ⟨X, 0, none⟩), .int .i64 (i : Int)] w fun r w' => r = .returned (.bool true) ∧ Apart [] w w' := by
  have HM := hid h
  obtain ⟨n, Hn⟩ : ∃ n, Hid (n = H.length) := ⟨_, hid rfl⟩
  have hn6 : n ≤ 60 := by rw [Hn.out]; exact hl
  have zs := h.all
  have hsn : s.n = n := by rw [Hn.out]; exact h.len
  rw [hsn] at zs
  have zk : w.cell? ⟨X, 0, none⟩ = some (.int .i64 4) := h.kind
  have zv := h.val hi
  have HCx := hid (Text_v (h.ho i hi) (g.gk hl hi).ok)
  rw [ht] at HCx
  have Hno := hid hno
  clear hsn hl h g ht hno
  go_enter Try.func28, Try.ntmps28
  go_wp2_with fail
  go_loopw [11, 12] (fun v11 v12 wt => ∃ p : Nat, v11 = .bool false ∧ v12 = .int .i64 (p : Int) ∧ p ≤ n ∧ Hid (wt = w)) (fun _ v12 _ => n - intN v12)
  case atStart => exact ⟨0, rfl, rfl, Nat.zero_le _, hid rfl⟩
  case round =>
    obtain ⟨p, rfl, rfl, hp, Hwr⟩ := hrel
    rw [Hwr.out]
    clear Hwr wr
    by_cases hlt : p < n
    · have hlti : ((p : Nat) : Int) < ((n : Nat) : Int) := by omega
      have hp60 : p < 60 := by omega
      have zb := HM.out.bit hi (p := p) (by omega)
      rw [Hno.out p] at zb
      go_wp2_with fail
      exact ⟨⟨p + 1, rfl, by go_num, by omega, hid (by first | exact trivial | rfl)⟩, by simp [intN]; omega⟩
    · have hlti : ¬ ((p : Nat) : Int) < ((n : Nat) : Int) := by omega
      go_wp2_with (go_at_call 24; refine HCx.out.mono ?_; rintro _ w2 ⟨sl, rfl, a2, o2, q2, c2⟩; have HA2 := hid a2; have hc2 : sl.n = 0 := c2.symm; rw [hc2]; clear a2 o2 q2 c2 hc2)
      go_ret
      exact ⟨by simp, HA2.out⟩
set_option maxHeartbeats 8000000 in
set_option maxRecDepth 100000 in
theorem right4b {w0 w : World} {X : Nat} {H : List Dn} {c : Nat → Nat → Nat} {P : Nat → Nat} {V : Nat → Vl} {s : Sl} (h : Hm w0 w X 4 H c P V s) (g : Wr 4 H c V) (hl : H.length ≤ 60) {i : Nat} (hi : i < 4) {st at_ : Int} {t : ByteArray} (hv : V i = .rgs st at_ t) {p0 : Nat} {d0 : Dn} (hp0 : H[p0]? = some d0) (hs0 : se H (c i) p0 = true) (ht : t = d0.tx) (hn0 : snB H (c i) p0 H.length = false) : Calls Try.prog 28 #[.pointer (some ⟨X, 0, none⟩), .int .i64 (i : Int)] w fun r w' => r = .returned (.bool true) ∧ Apart [] w w' := by
  have HM := hid h
  obtain ⟨n, Hn⟩ : ∃ n, Hid (n = H.length) := ⟨_, hid rfl⟩
  have hn6 : n ≤ 60 := by rw [Hn.out]; exact hl
  have Hp0n : Hid (p0 < n) := hid (by rw [Hn.out]; exact at_lt hp0)
  have hsn : Hid (s.n = n) := hid (by rw [Hn.out]; exact h.len)
  have zk : w.cell? ⟨X, 0, none⟩ = some (.int .i64 4) := h.kind
  have HCx0 := hid (fun wx (a : Apart [] w wx) => Text_v (h.ho i hi |>.kept0 a) (g.gk hl hi).ok)
  rw [hv] at HCx0
  have HCx : Hid (∀ wx, Apart [] w wx → Calls Try.prog 24 #[.pointer (some ⟨P i, 0, none⟩)] wx fun r w' => ∃ sl : Sl, r = .returned (.slice sl.p sl.n sl.c) ∧ Apart [] wx w' ∧ sl.ok ∧ RdT w' sl.p 5 (byts (bsk t)) ∧ (bsk t).length = sl.n) := HCx0
  have Hp0 := hid hp0
  have Hs0 := hid hs0
  have Ht := hid ht
  have Hn0 := hid hn0
  clear hl h g ht hv hp0 hs0 hn0 HCx0
  go_enter Try.func28, Try.ntmps28
  go_wp2_with fail
  go_loopw [11, 12] (fun v11 v12 wt => ∃ (p : Nat) (b : Bool), v11 = .bool b ∧ v12 = .int .i64 (p : Int) ∧ p ≤ p0 ∧ Hid (Apart [] w wt)) (fun _ v12 _ => n - intN v12)
  case atStart => exact ⟨0, false, rfl, rfl, Nat.zero_le _, hid (Apart.refl _ _)⟩
  case round =>
    obtain ⟨p, b0, rfl, rfl, hp, HA⟩ := hrel
    generalize wr = wt at *
    have hlt : p < n := by have := Hp0n.out; omega
    have hlti : ((p : Nat) : Int) < ((n : Nat) : Int) := by omega
    have hp60 : p < 60 := by omega
    have HMt := hid (HM.out.kept0 HA.out)
    have zs := HMt.out.all
    rw [hsn.out] at zs
    have Hb := hid (HMt.out.bit hi (p := p) (by omega))
    obtain ⟨b, HB⟩ : ∃ b, Hid (b = se H (c i) p) := ⟨_, hid rfl⟩
    rw [← HB.out] at Hb
    have zb := Hb.out
    cases b
    · have hpne : p + 1 ≤ p0 := by
        rcases Nat.lt_or_ge p p0 with h1 | h1
        · exact h1
        · exfalso
          obtain rfl : p = p0 := by omega
          have := HB.out; rw [Hs0.out] at this; cases this
      go_wp2_with fail
      exact ⟨⟨p + 1, b0, rfl, by go_num, hpne, HA⟩, by simp [intN]; omega⟩
    · obtain ⟨A, o, hsp, hA, hev⟩ := HMt.out.ev (by have := Hn.out; omega)
      have Hev := hid hev
      have HAo := hid hA
      have Hsp := hid hsp
      rw [hsp] at zs
      clear hev hsp hA
      obtain ⟨d, Hd⟩ : ∃ d, Hid (H[p]? = some d) := ⟨_, hid (List.getElem?_eq_getElem (by have := Hn.out; omega))⟩
      go_upto_region 32 with fail
      go_loopw [13, 14] (fun v13 v14 wu => ∃ q : Nat, v13 = .bool (snB H (c i) p q) ∧ v14 = .int .i64 (q : Int) ∧ q ≤ n ∧ Hid (wu = wt)) (fun _ v14 _ => n - intN v14)
      case atStart => exact ⟨0, rfl, rfl, Nat.zero_le _, hid rfl⟩
      case round =>
        obtain ⟨q, rfl, rfl, hq, Hwr⟩ := hrel
        rw [Hwr.out]
        clear Hwr wr
        obtain ⟨g, Hg⟩ : ∃ g, Hid (g = snB H (c i) p q) := ⟨_, hid rfl⟩
        rw [← Hg.out]
        by_cases hltq : q < n
        · have hltqi : ((q : Nat) : Int) < ((n : Nat) : Int) := by omega
          have hq60 : q < 60 := by omega
          have Hs1 := hid (snB_succ H (c i) p q)
          rw [← Hg.out] at Hs1
          cases g
          · obtain ⟨f, Hf⟩ : ∃ d, Hid (H[q]? = some d) := ⟨_, hid (List.getElem?_eq_getElem (by have := Hn.out; omega))⟩
            have Hb2 := hid (HMt.out.bit hi (p := q) (by omega))
            obtain ⟨b2, HB2⟩ : ∃ b, Hid (b = se H (c i) q) := ⟨_, hid rfl⟩
            rw [← HB2.out] at Hb2
            have zb2 := Hb2.out
            cases b2
            · go_wp2_with fail
              exact ⟨⟨q + 1, by rw [Hs1.out, ← HB2.out]; rfl, by go_num, by omega, hid (by first | exact trivial | rfl)⟩, by simp [intN]; omega⟩
            · have zsw := Hev.out q f (4 + p) _ Hf.out (drow_b H f (p := p) (by omega)) (by omega)
              obtain ⟨sb, Hsb⟩ : ∃ b, Hid (b = se H f.vc p) := ⟨_, hid rfl⟩
              rw [← Hsb.out, ← Nat.add_assoc] at zsw
              have Hswa : Hid (sw H q p = sb) := hid (by unfold sw; rw [Hf.out, Hsb.out])
              go_wp2_with fail
              exact ⟨⟨q + 1, by rw [Hs1.out, ← HB2.out, Hswa.out]; rfl, by go_num, by omega, hid (by first | exact trivial | rfl)⟩, by simp [intN]; omega⟩
          · go_wp2_with fail
            exact ⟨⟨q + 1, by rw [Hs1.out]; rfl, by go_num, by omega, hid (by first | exact trivial | rfl)⟩, by simp [intN]; omega⟩
        · have hltqi : ¬ ((q : Nat) : Int) < ((n : Nat) : Int) := by omega
          have Hqn : Hid (q = H.length) := hid (by have := Hn.out; omega)
          go_upto_region 35 with fail
          have HZv := hid (HMt.out.val hi)
          have HZs := hid zs
          have HZt := hid (Hev.out p d 3 _ Hd.out (drow_tx H d) (by omega))
          have HXl := hid (lt_of_heap HMt.out.blk)
          obtain ⟨tx, Htx⟩ : ∃ x, Hid (x = d.tx) := ⟨_, hid rfl⟩
          rw [← Htx.out] at HZt
          obtain ⟨Pi, HPi⟩ : ∃ x, Hid (x = P i) := ⟨_, hid rfl⟩
          rw [← HPi.out] at HZv HCx
          clear zs
          cases g
          · skip
            have hAd : Apart [] wt wt.drew := (Apart.refl [] wt).drew
            refine wp_region_held_drew (S := fun W => Apart [] wt W) (by kernel_rfl) hAd (fun hHeld => ?_)
            generalize wt.drew = wd at *
            clear hAd
            refine tk 0 161 (.bool false) rfl ?_ ?_
            · intro W hSW; go_simp
            simp only [Act.put, List.setIfInBounds_toArray, List.set_cons_zero, List.set_cons_succ]
            refine tk 1 162 (.bool true) rfl ?_ ?_
            · intro W hSW; go_simp
            simp only [Act.put, List.setIfInBounds_toArray, List.set_cons_zero, List.set_cons_succ]
            refine tk 2 163 (.bool true) rfl ?_ ?_
            · intro W hSW; go_simp
            simp only [Act.put, List.setIfInBounds_toArray, List.set_cons_zero, List.set_cons_succ]
            refine tk 3 164 (.pointer (some ⟨X, 0, none⟩)) rfl ?_ ?_
            · intro W hSW; go_simp
            simp only [Act.put, List.setIfInBounds_toArray, List.set_cons_zero, List.set_cons_succ]
            refine tk 4 165 (.int .i64 (i : Nat)) rfl ?_ ?_
            · intro W hSW; go_simp
            simp only [Act.put, List.setIfInBounds_toArray, List.set_cons_zero, List.set_cons_succ]
            refine tk 5 166 (.pointer (some ⟨X, 0, none⟩)) rfl ?_ ?_
            · intro W hSW; go_simp
            simp only [Act.put, List.setIfInBounds_toArray, List.set_cons_zero, List.set_cons_succ]
            refine tk 6 167 (.pointer (some ⟨X, 1, none⟩)) rfl ?_ ?_
            · intro W hSW; go_simp
            simp only [Act.put, List.setIfInBounds_toArray, List.set_cons_zero, List.set_cons_succ]
            refine tk 7 168 (.pointer (some ⟨X, 1 + i, none⟩)) rfl ?_ ?_
            · intro W hSW; have hi4 : ¬ (4 : Int) ≤ (i : Int) := (by omega); go_simp
            simp only [Act.put, List.setIfInBounds_toArray, List.set_cons_zero, List.set_cons_succ]
            refine tk 8 169 (.pointer (some ⟨Pi, 0, none⟩)) rfl ?_ ?_
            · intro W hSW; have z := (hSW.cell (p := ⟨X, 1 + i, none⟩) HXl.out (by simp)).trans HZv.out; go_simp
            simp only [Act.put, List.setIfInBounds_toArray, List.set_cons_zero, List.set_cons_succ]
            refine tk 11 172 (.pointer (some ⟨X, 0, none⟩)) rfl ?_ ?_
            · intro W hSW; go_simp
            simp only [Act.put, List.setIfInBounds_toArray, List.set_cons_zero, List.set_cons_succ]
            refine tk 12 173 (.pointer (some ⟨X, 0, none⟩)) rfl ?_ ?_
            · intro W hSW; go_simp
            simp only [Act.put, List.setIfInBounds_toArray, List.set_cons_zero, List.set_cons_succ]
            refine tk 13 174 (.pointer (some ⟨X, 5, none⟩)) rfl ?_ ?_
            · intro W hSW; go_simp
            simp only [Act.put, List.setIfInBounds_toArray, List.set_cons_zero, List.set_cons_succ]
            refine tk 14 175 (.slice (some ⟨A, o, none⟩) n s.c) rfl ?_ ?_
            · intro W hSW; have z := (hSW.cell (p := ⟨X, 5, none⟩) HXl.out (by simp)).trans HZs.out; go_simp
            simp only [Act.put, List.setIfInBounds_toArray, List.set_cons_zero, List.set_cons_succ]
            refine tk 15 176 (.int .i64 (p : Nat)) rfl ?_ ?_
            · intro W hSW; go_simp
            simp only [Act.put, List.setIfInBounds_toArray, List.set_cons_zero, List.set_cons_succ]
            refine tk 16 177 (.pointer (some ⟨A, o + p * 68, none⟩)) rfl ?_ ?_
            · intro W hSW; go_simp
            simp only [Act.put, List.setIfInBounds_toArray, List.set_cons_zero, List.set_cons_succ]
            refine tk 17 178 (.pointer (some ⟨A, o + p * 68 + 3, none⟩)) rfl ?_ ?_
            · intro W hSW; go_simp
            simp only [Act.put, List.setIfInBounds_toArray, List.set_cons_zero, List.set_cons_succ]
            refine tk 18 179 (.string tx) rfl ?_ ?_
            · intro W hSW; have z := (hSW.cell (p := ⟨A, o + p * 68 + 3, none⟩) HAo.out (by simp)).trans HZt.out; go_simp
            simp only [Act.put, List.setIfInBounds_toArray, List.set_cons_zero, List.set_cons_succ]
            refine wpAnyH_ready (rs := [9]) (by kernel_rfl) (by simp) ?_
            refine AllReadyH.cons rfl (fun KK hKK => ?_) AllReadyH.nil
            go_simp
            refine (HCx.out _ (HA.out.trans hHeld)).mono ?_
            rintro _ w5 ⟨sl, rfl, a5, o5, q5, c5⟩
            have hHx := hHeld.trans a5
            have HT5 := hid q5.rd
            have HL5 := hid c5
            have HO5 := hid o5
            clear q5 c5 o5
            try dsimp only
            refine hKK.out _ _ hHx (fun hHeld => ?_)
            clear hKK KK
            try simp only [Act.put, List.setIfInBounds_toArray, List.set_cons_zero, List.set_cons_succ]
            refine wpAnyH_ready (rs := [10]) (by kernel_rfl) (by simp) ?_
            refine AllReadyH.cons rfl (fun KK hKK => ?_) AllReadyH.nil
            have hcv := conv_bytes HT5.out HL5.out HO5.out
            rw [strB_bsk] at hcv
            go_simp
            refine hKK.out _ _ hHeld (fun hHeld => ?_)
            clear hKK KK hcv
            try simp only [Act.put, List.setIfInBounds_toArray, List.set_cons_zero, List.set_cons_succ]
            by_cases htx : t = tx
            · have htb : (t.toList == tx.toList) = true := by rw [htx]; simp
              refine tk 19 180 (.bool true) rfl ?_ ?_
              · intro W hSW; go_simp
              simp only [Act.put, List.setIfInBounds_toArray, List.set_cons_zero, List.set_cons_succ]
              refine tk 20 181 (.bool true) rfl ?_ ?_
              · intro W hSW; go_simp
              simp only [Act.put, List.setIfInBounds_toArray, List.set_cons_zero, List.set_cons_succ]
              refine wpAnyH_done (by kernel_rfl) ?_ _
              have HSn := hid (HA.out.trans hHeld)
              clear hHeld
              go_wp2_with fail
              go_ret
              exact ⟨rfl, HSn.out⟩
            · have htb : (t.toList == tx.toList) = false := by
                rw [beq_eq_false_iff_ne]; intro k; rw [Lib.toList_data, Lib.toList_data] at k; exact htx (ba_inj k)
              refine tk 19 180 (.bool false) rfl ?_ ?_
              · intro W hSW; go_simp
              simp only [Act.put, List.setIfInBounds_toArray, List.set_cons_zero, List.set_cons_succ]
              refine tk 20 181 (.bool false) rfl ?_ ?_
              · intro W hSW; go_simp
              simp only [Act.put, List.setIfInBounds_toArray, List.set_cons_zero, List.set_cons_succ]
              refine wpAnyH_done (by kernel_rfl) ?_ _
              have hpne : p + 1 ≤ p0 := by
                rcases Nat.lt_or_ge p p0 with h1 | h1
                · exact h1
                · exfalso
                  obtain rfl : p = p0 := by omega
                  have h2 := Hd.out
                  rw [Hp0.out] at h2
                  rw [Ht.out, Htx.out, Option.some.inj h2] at htx
                  exact htx rfl
              have HSn := hid (HA.out.trans hHeld)
              clear hHeld
              go_wp2_with fail
              exact ⟨⟨p + 1, true, rfl, by go_num, hpne, HSn⟩, by simp [intN]; omega⟩
          · skip
            have hpne : p + 1 ≤ p0 := by
              rcases Nat.lt_or_ge p p0 with h1 | h1
              · exact h1
              · exfalso
                obtain rfl : p = p0 := by omega
                have h2 := Hg.out
                rw [Hqn.out, Hn0.out] at h2
                cases h2
            have hAd : Apart [] wt wt.drew := (Apart.refl [] wt).drew
            refine wp_region_held_drew (S := fun W => Apart [] wt W) (by kernel_rfl) hAd (fun hHeld => ?_)
            generalize wt.drew = wd at *
            clear hAd
            refine tk 0 161 (.bool true) rfl ?_ ?_
            · intro W hSW; go_simp
            simp only [Act.put, List.setIfInBounds_toArray, List.set_cons_zero, List.set_cons_succ]
            refine tk 1 162 (.bool false) rfl ?_ ?_
            · intro W hSW; go_simp
            simp only [Act.put, List.setIfInBounds_toArray, List.set_cons_zero, List.set_cons_succ]
            refine tk 2 163 (.bool false) rfl ?_ ?_
            · intro W hSW; go_simp
            simp only [Act.put, List.setIfInBounds_toArray, List.set_cons_zero, List.set_cons_succ]
            refine tu 3 164 rfl ?_
            simp only [Act.put, List.setIfInBounds_toArray, List.set_cons_zero, List.set_cons_succ]
            refine tu 4 165 rfl ?_
            simp only [Act.put, List.setIfInBounds_toArray, List.set_cons_zero, List.set_cons_succ]
            refine tu 5 166 rfl ?_
            simp only [Act.put, List.setIfInBounds_toArray, List.set_cons_zero, List.set_cons_succ]
            refine tu 6 167 rfl ?_
            simp only [Act.put, List.setIfInBounds_toArray, List.set_cons_zero, List.set_cons_succ]
            refine tu 7 168 rfl ?_
            simp only [Act.put, List.setIfInBounds_toArray, List.set_cons_zero, List.set_cons_succ]
            refine tu 8 169 rfl ?_
            simp only [Act.put, List.setIfInBounds_toArray, List.set_cons_zero, List.set_cons_succ]
            refine tu 11 172 rfl ?_
            simp only [Act.put, List.setIfInBounds_toArray, List.set_cons_zero, List.set_cons_succ]
            refine tu 12 173 rfl ?_
            simp only [Act.put, List.setIfInBounds_toArray, List.set_cons_zero, List.set_cons_succ]
            refine tu 13 174 rfl ?_
            simp only [Act.put, List.setIfInBounds_toArray, List.set_cons_zero, List.set_cons_succ]
            refine tu 14 175 rfl ?_
            simp only [Act.put, List.setIfInBounds_toArray, List.set_cons_zero, List.set_cons_succ]
            refine tu 15 176 rfl ?_
            simp only [Act.put, List.setIfInBounds_toArray, List.set_cons_zero, List.set_cons_succ]
            refine tu 16 177 rfl ?_
            simp only [Act.put, List.setIfInBounds_toArray, List.set_cons_zero, List.set_cons_succ]
            refine tu 17 178 rfl ?_
            simp only [Act.put, List.setIfInBounds_toArray, List.set_cons_zero, List.set_cons_succ]
            refine tu 18 179 rfl ?_
            simp only [Act.put, List.setIfInBounds_toArray, List.set_cons_zero, List.set_cons_succ]
            refine wpAnyH_pass 9 (o := ⟨some 170, _, _, _, _, _⟩) (by kernel_rfl) rfl (by kernel_rfl) (by assumption) ?_
            simp only [Act.put, List.setIfInBounds_toArray, List.set_cons_zero, List.set_cons_succ]
            refine wpAnyH_pass 10 (o := ⟨some 171, _, _, _, _, _⟩) (by kernel_rfl) rfl (by kernel_rfl) (by assumption) ?_
            simp only [Act.put, List.setIfInBounds_toArray, List.set_cons_zero, List.set_cons_succ]
            refine tu 19 180 rfl ?_
            simp only [Act.put, List.setIfInBounds_toArray, List.set_cons_zero, List.set_cons_succ]
            refine tk 20 181 (.bool false) rfl ?_ ?_
            · intro W hSW; go_simp
            simp only [Act.put, List.setIfInBounds_toArray, List.set_cons_zero, List.set_cons_succ]
            refine wpAnyH_done (by kernel_rfl) ?_ _
            have HSn := hid (HA.out.trans hHeld)
            clear hHeld
            go_wp2_with fail
            exact ⟨⟨p + 1, true, rfl, by go_num, hpne, HSn⟩, by simp [intN]; omega⟩
theorem right4 {w0 w : World} {X : Nat} {H : List Dn} {c : Nat → Nat → Nat} {P : Nat → Nat} {V : Nat → Vl} {s : Sl} (h : Hm w0 w X 4 H c P V s) (g : Wr 4 H c V) (hl : H.length ≤ 60) {i : Nat} (hi : i < 4) : Calls Try.prog 28 #[.pointer (some ⟨X, 0, none⟩), .int .i64 (i : Int)] w fun r w' => r = .returned (.bool true) ∧ Apart [] w w' := by
  obtain ⟨st, a, t, hv⟩ := rgs_of (g.kd i hi)
  have hr := g.rel i hi
  rw [hv] at hr
  rcases text_right g.hs hr with ⟨h1, h2⟩ | ⟨p, d, h1, h2, h3, h4⟩
  · exact right4a h g hl hi (by rw [hv, h1]; exact bsk_nil) h2
  · exact right4b h g hl hi hv h1 h2 h3 h4
end Go.Proofs.Ytdbeeikjngnnnaa.ty
