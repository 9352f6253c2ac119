import Derived.Test.YthfjkddninlbcaaStepA
namespace Go.Proofs.Ythfjkddninlbcaa.hp
open Go.ChangeShapes Go.WideShapes Go.ChangeAt Go.RowKit
set_option linter.unusedVariables false
set_option maxHeartbeats 10000000 in
set_option maxRecDepth 100000 in
theorem step1_ok {w0 w : World} {W : Nat} {S : Nat → SD} {av : Value} {A : List E} (h : WS w0 w W S av A) (gd : ∀ i, i < 2 → Good A (S i)) (t : Nat) (ht : t ≤ 1100000) (hA : A.length ≤ t) (hn : ∀ i, i < 2 → (S i).n ≤ t ∧ (S i).L.length ≤ t) (who a b : Int) :
    Calls Try.prog 24 #[.pointer (some ⟨W, 0, none⟩), .agg #[.int .i64 who, .int .i64 1, .int .i64 a, .int .i64 b]] w fun r w' => r = .returned (.bool true) ∧ SP w0 w' W (t + 1) := by
  obtain ⟨i0, hi0, hz0, hz1, hz2⟩ := info_parts info28
  obtain ⟨i, hi, hbi⟩ : ∃ i : Nat, i < 2 ∧ bits .and .i64 who 1 = (i : Int) := ⟨(who % 2).toNat, by omega, by rw [bits1]; omega⟩
  obtain ⟨pa, ca, hav⟩ := own_slice h.all
  have c4 := h.ca
  have hall := h.all
  rw [hav] at c4 hall
  have HAV : Hid (av = .slice pa A.length ca) := hav
  clear hav
  have hWs := lt_of_heap h.hW
  have iI : (i : Int) < 2 := by omega
  go_enter Try.func24, Try.ntmps24
  go_wp2_with fail
  go_cut [] from 25 to 38 (fun wx => ∃ av', WS w0 wx W S av' (A ++ [⟨a, b, 0⟩]) ∧ Op4 wx w.heap.size who 1 a b)
  case first =>
    go_region_law (refine step_append2 rfl (.tmp 29) (.tmp 35) 38 rfl 28 i0 (.agg #[.int .i64 0, .int .i64 0]) 2 16 Try.underlying38 hi0 hz0 hz1 hz2 rfl (by decide) (.slice pa A.length ca) A.length (flat2 A) rfl (by first | exact ((hall.alloc _).alloc _).drew | exact ((hall.alloc _).drew.alloc _)) ⟨w.heap.size + 1, 0, none⟩ 1 1 [.int .i64 a, .int .i64 b] rfl (by decide) rfl (by intro j u hj; match j, hj with | 0, hj => (simp at hj; subst hj; simp [Addr.add]) | 1, hj => (simp at hj; subst hj; simp [Addr.add])) (by intro u hu; simp at hu; rcases hu with rfl | rfl <;> rfl) (by unfold maxLen; omega) (by omega) ?_; intro v' w4 own4 gr4 nw4; rw [← HAV.out] at gr4 nw4; have aW := (((Apart.refl [] w).alloc (.cells #[.int .i64 who, .int .i64 1, .int .i64 a, .int .i64 b] 63)).alloc (.cells #[.int .i64 a, .int .i64 b] 28)).drewN 1; have hG := h.grow aW gr4 ⟨a, b, 0⟩ own4 nw4 (by omega); have c44 := cell_of_row w4 W 4 _ _ _ hG.1; have f44 := frozen_of_row w4 W 4 _ _ hG.1; rw [show (wc S av)[4]? = some av from rfl] at c44; obtain ⟨pa2, ca2, hv2⟩ := own_slice own4; subst hv2)
    all_goals
      go_wp2_with fail
      go_meet
      exact ⟨_, hG.2.1, ⟨hG.2.2 w.heap.size _ (by
        show ((w.alloc (.cells #[.int .i64 who, .int .i64 1, .int .i64 a, .int .i64 b] 63)).alloc (.cells #[.int .i64 a, .int .i64 b] 28)).heap[w.heap.size]? = _
        rw [Below.heap_alloc _ _ _ (by simp)]; exact heap_alloc_new w _)⟩⟩
  case rest =>
    obtain ⟨av', h5, op5⟩ := hcut
    have x2 := op5.c2
    have x3 := op5.c3
    have cp := h5.cp i hi
    have hPu := hp_push (w := wc.drewN 1) ((h5.hp i hi).kept ((Apart.refl [] wc).drewN 1) (by simp)) a b (fun e he => by
      rw [(gd i hi).rel] at he
      simp at he
      obtain ⟨e', he', rfl⟩ := he
      exact (gd i hi).age e' he') (by rw [(gd i hi).rel, List.length_map, ← (h5.rp i hi).perm.length_eq]; have := (hn i hi).2; omega) (by have := (hn i hi).1; omega)
    clear c4 hall h
    go_wp2_with fail
    go_cut [] from 39 to 50 (fun wx => ∃ v6, WS w0 wx W (upd S i { S i with v := v6, row := rowOf ((S i).row ++ [⟨a, b, (S i).n⟩]), n := (S i).n + 1 }) av' (A ++ [⟨a, b, 0⟩]) ∧ Op4 wx w.heap.size who 1 a b)
    case first =>
      go_region_with (first | (go_at_call 11; refine hPu.mono ?_; rintro r w6 ⟨rfl, v6, hp6, a6, nw6⟩))
      all_goals
        go_wp2_with fail
        go_meet
        exact ⟨v6, (h5.kept ((Apart.refl [] wc).drewN 1)).heap i hi a6 v6 _ _ nw6 hp6, ⟨((h5.hp i hi).kept ((Apart.refl [] wc).drewN 1) (by simp)).keeps a6 op5.hb (by decide) (by decide)⟩⟩
    case rest =>
      obtain ⟨v6, h6, op6⟩ := hcut
      obtain ⟨S6, hS6⟩ : ∃ S6, S6 = upd S i { S i with v := v6, row := rowOf ((S i).row ++ [⟨a, b, (S i).n⟩]), n := (S i).n + 1 } := ⟨_, rfl⟩
      rw [← hS6] at h6
      have e6 : S6 i = { S i with v := v6, row := rowOf ((S i).row ++ [⟨a, b, (S i).n⟩]), n := (S i).n + 1 } := by rw [hS6, upd_same]
      have hL6 : (S6 i).L = (S i).L := by rw [e6]
      have hrl6 : (S6 i).rl = (S i).rl := by rw [e6]
      have y2 := op6.c2
      have ca6 := h6.ca
      obtain ⟨pa2, ca2, hav2⟩ := own_slice h6.all
      rw [hav2, List.length_append, List.length_singleton] at ca6
      have hAb : A.length ≤ 1100000 := by omega
      have hRp := rpush_at (wc.drewN 1) W (2 + i) (hp.wc S6 av') (S6 i).lv (S6 i).L ((h6.kept ((Apart.refl [] wc).drewN 1)).wl i hi) ⟨a, A.length, (S i).n⟩ (by rw [hL6]; have := (hn i hi).2; omega)
      have HH : Hid (h6 = h6) := rfl
      have hfin : ∀ w7 lv', WL w7 W (2 + i) ((hp.wc S6 av').setIfInBounds (2 + i) lv') lv' ((S6 i).L ++ [⟨a, A.length, (S i).n⟩]) → Apart (ids W (S6 i).lv) (wc.drewN 1) w7 → NewOr (wc.drewN 1) (S6 i).lv lv' → SP w0 w7 W (t + 1) := by
        intro w7 lv' hwl a7 nw7
        have hd := (h6.hp i hi).di
        have inc' : Inc ((S6 i).L ++ [(⟨a, A.length, (S i).n⟩ : E)]) := by
          refine List.pairwise_append.2 ⟨(h6.rp i hi).inc, by simp, fun x hx y hy => ?_⟩
          simp at hy; subst hy
          rw [hL6] at hx
          have hx2 : x ∈ (S i).rl := by
            have := (h6.rp i hi).perm
            rw [hL6, hrl6] at this
            exact this.subset hx
          exact (gd i hi).age x hx2
        have hdl : Dist (rowOf ((S6 i).rl ++ [(⟨a, A.length, (S i).n⟩ : E)])) := Dist.perm ((rowOf_perm _).trans ((h6.rp i hi).perm.symm.append_right _)) inc'.dist
        have hws := (h6.kept ((Apart.refl [] wc).drewN 1)).ref i hi a7 (by
          intro k hk
          simp [ids] at hk
          exact hk) lv' _ (rowOf ((S6 i).rl ++ [⟨a, A.length, (S i).n⟩])) hwl inc' (((h6.rp i hi).perm.append_right _).trans (rowOf_perm _).symm) (rowOf_up _) hdl (by
          intro k hk
          rcases nw7 with x | ⟨q, x, hq⟩
          · left; rw [← x]; exact hk
          · right; rw [x] at hk; simp at hk; subst hk; exact hq)
        refine ⟨_, _, _, hws, ?_, by simp; omega, ?_⟩
        · intro j hj
          by_cases e : j = i
          · subst e
            rw [upd_same]
            have hdr : Dist (S j).row := by
              rw [(gd j hj).rel]
              have := (h6.rp j hj).di
              rw [hrl6] at this
              exact dist_map this
            have := (gd j hj).push hdr (by have := (h6.rp j hj).perm; rw [hL6, hrl6] at this; exact this) a b v6 lv'
            rw [e6]
            exact this
          · rw [upd_other _ _ _ _ e, hS6, upd_other _ _ _ _ e]; exact (gd j hj).grow _
        · intro j hj
          by_cases e : j = i
          · subst e
            rw [upd_same]
            have := hn j hj
            refine ⟨?_, ?_⟩
            · show (S6 j).n ≤ t + 1
              rw [e6]; show (S j).n + 1 ≤ t + 1; omega
            · show ((S6 j).L ++ [_]).length ≤ t + 1
              rw [hL6]; simp; omega
          · rw [upd_other _ _ _ _ e, hS6, upd_other _ _ _ _ e]; have := hn j hj; omega
      clear hPu x2 x3 cp h5 op5 HH
      have HS6 : Hid (S6 = upd S i { S i with v := v6, row := rowOf ((S i).row ++ [⟨a, b, (S i).n⟩]), n := (S i).n + 1 }) := hS6
      clear hS6 e6 hL6 hrl6 hav2 h6
      generalize A.length = NA at *
      have hwr : IntKind.i64.wrap (NA : Int) = (NA : Int) := by rw [IntKind.wrap_i64]; omega
      go_wp2_with fail
      go_region_with (first | (go_at_call 29; refine hRp.mono ?_; rintro r w7 ⟨rfl, lv', hwl, a7, nw7⟩))
      all_goals
        have post := hfin _ _ hwl a7 nw7
        clear hRp hfin hwl a7 nw7 hwr
        go_wp2
        go_ret
        exact ⟨rfl, post⟩
end Go.Proofs.Ythfjkddninlbcaa.hp
