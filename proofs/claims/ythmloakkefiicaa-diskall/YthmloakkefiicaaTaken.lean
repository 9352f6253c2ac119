import Derived.Test.YthmloakkefiicaaTells2
namespace Go.Proofs.Ythmloakkefiicaa.dk
open Go.ChangeShapes Go.WideShapes Go.ChangeAt Go.RowKit
set_option linter.unusedVariables false
set_option linter.unusedSimpArgs false
theorem typ_ne {w : World} {a b : Nat} {ca cb : Array Value} {ta tb : TypeId} (ha : w.heap[a]? = some (.cells ca ta (0, 0))) (hb : w.heap[b]? = some (.cells cb tb (0, 0))) (h : ta ≠ tb) : a ≠ b := by
  intro e; subst e; rw [ha] at hb; injection hb with h1; injection h1 with _ h2; exact h h2
open Classical in
theorem pr_fresh {w : World} {P D S R n : Nat} {bs first : List Int} {fv : Value} (row : w.heap[P]? = some (.cells (pair0 D R) 66 (0, 0))) (hd : DiskAt w D S (Dk.fresh n bs)) (hr : RefAt w R (Rf.fresh n first fv)) (hrel : Rel (Dk.fresh n bs) (Rf.fresh n first fv)) (hn : 1 ≤ n) :
    ∃ x who, Pr w P x who ∧ Bk x 0 ∧ x.D = D ∧ x.R = R ∧ x.d = Dk.fresh n bs ∧ x.r = Rf.fresh n first fv ∧ (∀ k s, who k = some s → k = P ∨ k = D ∨ k = S ∨ k = R ∨ fv.ownBlock = some k) := by
  obtain ⟨r, hrr⟩ : ∃ r, r = Rf.fresh n first fv := ⟨_, rfl⟩
  have hfv : ∀ k, fv.ownBlock = some k → ∃ cur, w.heap[k]? = some (.cells cur 5 (0, 0)) := fun k hk => own_typ hr.hf hk
  have nPD := typ_ne row hd.hd (by decide)
  have nPS := typ_ne row hd.hs (by decide)
  have nPR := typ_ne row hr.hr (by decide)
  have nDR := typ_ne hd.hd hr.hr (by decide)
  have nSR := typ_ne hd.hs hr.hr (by decide)
  have blk : ∀ k, RefBlk R (Rf.fresh n first fv) k → k = R ∨ fv.ownBlock = some k := by
    intro k hk
    rcases hk with hk | hk | hk | ⟨x, hx, _⟩
    · exact .inl hk
    · exact .inr hk
    · simp [Rf.fresh, Value.ownBlock] at hk
    · simp [Rf.fresh] at hx
  have nB : ∀ k, RefBlk R (Rf.fresh n first fv) k → k ≠ P ∧ k ≠ D ∧ k ≠ S := by
    intro k hk
    rcases blk k hk with rfl | hk
    · exact ⟨fun e => nPR e.symm, fun e => nDR e.symm, fun e => nSR e.symm⟩
    · obtain ⟨cur, hc⟩ := hfv k hk
      exact ⟨typ_ne hc row (by decide), typ_ne hc hd.hd (by decide), typ_ne hc hd.hs (by decide)⟩
  obtain ⟨who, hwho⟩ : ∃ who : Nat → Option Nat, who = fun k => if k = P then some 0 else if k = D ∨ k = S then some 1 else if RefBlk R (Rf.fresh n first fv) k then some 2 else none := ⟨_, rfl⟩
  have inv : ∀ k s, who k = some s → k = P ∨ k = D ∨ k = S ∨ RefBlk R (Rf.fresh n first fv) k := by
    intro k s hk
    subst hwho
    simp only at hk
    split at hk
    · rename_i e; exact .inl e
    · split at hk
      · rename_i e; rcases e with e | e
        · exact .inr (.inl e)
        · exact .inr (.inr (.inl e))
      · split at hk
        · rename_i e; exact .inr (.inr (.inr e))
        · cases hk
  refine ⟨⟨D, S, R, Dk.fresh n bs, Rf.fresh n first fv, fun _ => .slice none 0 0, fun _ => none, none, 0, 0, [], none, [], [], [], [], [], [], 0, 0, 0⟩, who, ⟨?_, ?_, row, ⟨hd, ?_, ?_⟩, ⟨hr, ?_⟩, ?_, ⟨⟨rfl, rfl, rfl, rfl⟩, by simp⟩, by simp, by simp, by simp, by simp, by simp, ⟨by simp, by simp, rfl, by simp, by simp, by simp, rfl, by simp, by simp, hn, hrel⟩⟩, ⟨Nat.le_refl _, Nat.le_refl _, Nat.le_refl _⟩, rfl, rfl, rfl, rfl, ?_⟩
  · intro k t hk
    rcases inv k t hk with rfl | rfl | rfl | h1
    · exact lt_of_heap row
    · exact lt_of_heap hd.hd
    · exact lt_of_heap hd.hs
    · exact hr.lt h1
  · subst hwho; simp
  · subst hwho; simp [nPD.symm]
  · subst hwho; simp [nPS.symm]
  · intro k hk
    have hk' : RefBlk R (Rf.fresh n first fv) k := hk
    obtain ⟨h1, h2, h3⟩ := nB k hk'
    subst hwho
    simp only [if_neg h1, if_neg (not_or.2 ⟨h2, h3⟩), if_pos hk']
  · refine fs_cases ?_ ?_ ?_ ?_ ?_ ?_ ?_ ?_ <;> exact ⟨⟨rfl, rfl⟩, by simp⟩
  · intro k s hk
    rcases inv k s hk with h1 | h1 | h1 | h1
    · exact .inl h1
    · exact .inr (.inl h1)
    · exact .inr (.inr (.inl h1))
    · rcases blk k h1 with h2 | h2
      · exact .inr (.inr (.inr (.inl h2)))
      · exact .inr (.inr (.inr (.inr h2)))
/-- a new pair -/
structure NewP (w w' : World) (P : Nat) (x : Pd) (who : Nat → Option Nat) : Prop where
  pr : Pr w' P x who
  bk : Bk x 0
  on : x.d.on = true
  wr : x.d.writes = 0
  nw : ∀ k s, who k = some s → w.heap.size ≤ k
  ap : Apart [] w w'
theorem made_pr (w : World) (s : Int) : Calls Try.prog 31 #[.int .i64 s] w fun r w' => (r = .returned (.tuple #[.pointer none, .bool true]) ∧ w' = w) ∨ (∃ P x who, r = .returned (.tuple #[.pointer (some ⟨P, 0, none⟩), .bool true]) ∧ NewP w w' P x who) := by
  by_cases hs : s < 1 ∨ 4096 < s
  · exact (made_bad w s hs).mono (fun r w' h => .inl h)
  · obtain ⟨n, rfl⟩ : ∃ n : Nat, s = (n : Int) := ⟨s.toNat, by omega⟩
    refine (made_good w n (by omega) (by omega)).mono ?_
    rintro r w' ⟨P, D, R, S, rfl, hp, hd, hr, a, _, q1, q2, q3, q4⟩
    obtain ⟨x, who, p, b, _, _, ed, er, nw⟩ := pr_fresh hp.row hd hr (Rel.fresh n) (by omega)
    refine .inr ⟨P, x, who, rfl, p, b, by rw [ed]; rfl, by rw [ed]; rfl, fun k s hk => ?_, a⟩
    rcases nw k s hk with rfl | rfl | rfl | rfl | h1
    · exact q1
    · exact q2
    · exact q4
    · exact q3
    · simp [Value.ownBlock] at h1
set_option maxHeartbeats 4000000 in
set_option maxRecDepth 100000 in
theorem taken_bad (w : World) (p : Option Addr) (l c : Nat) (bs : List Int) (hs : Src w p l bs) (hnil : p = none → l = 0 ∧ c = 0) (hl : l ≤ 4194304) (hb : l = 0 ∨ l % 512 ≠ 0 ∨ 4096 < l / 512) :
    Calls Try.prog 32 #[.slice p l c] w fun r w' => r = .returned (.tuple #[.pointer none, .bool true]) ∧ Apart [] w w' := by
  have HS := hid hs
  have HB := hid hb
  have HNIL := hid hnil
  clear hs hb hnil
  go_enter Try.func32, Try.ntmps32
  go_wp2_with fail
  refine (lend_any w p l c bs HS.out hl HNIL.out).mono ?_
  rintro r w1 ⟨v, rfl, hown, a1⟩
  dsimp only
  obtain ⟨g, c1, rfl, hg, hL⟩ := own_lent hown (by omega) (by rw [lentL_length, HS.out.hlen])
  have HL := hid hL
  have hle := hL.le
  have A1 := hid a1
  clear hown hL a1
  go_wp2_with fail
  refine (from_bad w1 _ l c1 hl HB.out).mono ?_
  rintro r w2 ⟨rfl, rfl⟩
  dsimp only
  go_wp2_with fail
  refine (rfrom_bad w2 p l c hl HB.out).mono ?_
  rintro r w3 ⟨rfl, rfl⟩
  dsimp only
  go_wp2_with fail
  refine (kept_ok w3 g c1 l bs HL.out p c (HS.out.below (A1.out.below (Nat.le_refl _) (by simp))) (fun e => (HNIL.out e).2) hl).mono ?_
  rintro r w4 ⟨rfl, a4, bs', hL4⟩
  dsimp only
  have A4 : Hid (Apart [] w w4) := ⟨a4.os.trans A1.out.os, a4.tape.trans A1.out.tape, a4.output.trans A1.out.output, Nat.le_trans A1.out.size a4.size, fun k hk _ => (a4.block k (Nat.lt_of_lt_of_le hk A1.out.size) (by simp; omega)).trans (A1.out.block k hk (by simp))⟩
  have HL4 := hid hL4
  clear a4 hL4
  go_wp2_with fail
  refine (num_any _ _).mono ?_
  rintro r w5 ⟨rfl, rfl⟩
  dsimp only
  go_wp2_with fail
  refine (from_bad w5 _ l c1 hl HB.out).mono ?_
  rintro r w6 ⟨rfl, rfl⟩
  dsimp only
  go_wp2_with fail
  refine wp_region_held_drew (S := fun W => Apart [] w6 W) (by kernel_rfl) ((Apart.refl [] w6).drewN 1) (fun hHeld => ?_)
  refine wpAnyH_take (i := 0) (oi := ⟨some 53, _, _, _, _, _⟩) (v := .int .i64 1) rfl (by kernel_rfl) (by kernel_rfl) (by kernel_rfl) (fun _ _ _ h => h) (Or.inl ⟨by rfl, ?_⟩) (by assumption) ?_
  · intro W hSW; go_simp
  simp only [Act.put, List.setIfInBounds_toArray, List.set_cons_zero, List.set_cons_succ]
  refine wpAnyH_take (i := 2) (oi := ⟨some 55, _, _, _, _, _⟩) (v := .int .i64 1) rfl (by kernel_rfl) (by kernel_rfl) (by kernel_rfl) (fun _ _ _ h => h) (Or.inl ⟨by rfl, ?_⟩) (by assumption) ?_
  · intro W hSW; go_simp
  simp only [Act.put, List.setIfInBounds_toArray, List.set_cons_zero, List.set_cons_succ]
  refine wpAnyH_ready (rs := [1]) (by kernel_rfl) (by simp) ?_
  refine AllReadyH.cons rfl (fun KK hKK => ?_) AllReadyH.nil
  go_simp
  refine (num_any _ _).mono ?_
  rintro r w7 ⟨rfl, rfl⟩
  dsimp only
  refine hKK.out _ _ (by assumption) (fun hHeld => ?_)
  clear hKK KK
  refine wpAnyH_take (i := 3) (oi := ⟨some 56, _, _, _, _, _⟩) (v := .bool false) rfl (by kernel_rfl) (by kernel_rfl) (by kernel_rfl) (fun _ _ _ h => h) (Or.inl ⟨by rfl, ?_⟩) (by assumption) ?_
  · intro W hSW; go_simp
  simp only [Act.put, List.setIfInBounds_toArray, List.set_cons_zero, List.set_cons_succ]
  refine wpAnyH_take (i := 4) (oi := ⟨some 57, _, _, _, _, _⟩) (v := .bool false) rfl (by kernel_rfl) (by kernel_rfl) (by kernel_rfl) (fun _ _ _ h => h) (Or.inl ⟨by rfl, ?_⟩) (by assumption) ?_
  · intro W hSW; go_simp
  simp only [Act.put, List.setIfInBounds_toArray, List.set_cons_zero, List.set_cons_succ]
  refine wpAnyH_take (i := 5) (oi := ⟨some 58, _, _, _, _, _⟩) (v := .pointer none) rfl (by kernel_rfl) (by kernel_rfl) (by kernel_rfl) (fun _ _ _ h => h) (Or.inl ⟨by rfl, ?_⟩) (by assumption) ?_
  · intro W hSW; go_simp
  simp only [Act.put, List.setIfInBounds_toArray, List.set_cons_zero, List.set_cons_succ]
  refine wpAnyH_take (i := 6) (oi := ⟨some 59, _, _, _, _, _⟩) (v := .bool true) rfl (by kernel_rfl) (by kernel_rfl) (by kernel_rfl) (fun _ _ _ h => h) (Or.inl ⟨by rfl, ?_⟩) (by assumption) ?_
  · intro W hSW; go_simp
  simp only [Act.put, List.setIfInBounds_toArray, List.set_cons_zero, List.set_cons_succ]
  refine wpAnyH_take (i := 7) (oi := ⟨some 60, _, _, _, _, _⟩) (v := .pointer none) rfl (by kernel_rfl) (by kernel_rfl) (by kernel_rfl) (fun _ _ _ h => h) (Or.inl ⟨by rfl, ?_⟩) (by assumption) ?_
  · intro W hSW; go_simp
  simp only [Act.put, List.setIfInBounds_toArray, List.set_cons_zero, List.set_cons_succ]
  refine wpAnyH_take (i := 8) (oi := ⟨some 61, _, _, _, _, _⟩) (v := .bool true) rfl (by kernel_rfl) (by kernel_rfl) (by kernel_rfl) (fun _ _ _ h => h) (Or.inl ⟨by rfl, ?_⟩) (by assumption) ?_
  · intro W hSW; go_simp
  simp only [Act.put, List.setIfInBounds_toArray, List.set_cons_zero, List.set_cons_succ]
  refine wpAnyH_take (i := 9) (oi := ⟨some 62, _, _, _, _, _⟩) (v := .bool false) rfl (by kernel_rfl) (by kernel_rfl) (by kernel_rfl) (fun _ _ _ h => h) (Or.inl ⟨by rfl, ?_⟩) (by assumption) ?_
  · intro W hSW; go_simp
  simp only [Act.put, List.setIfInBounds_toArray, List.set_cons_zero, List.set_cons_succ]
  refine wpAnyH_take (i := 10) (oi := ⟨some 63, _, _, _, _, _⟩) (v := .bool false) rfl (by kernel_rfl) (by kernel_rfl) (by kernel_rfl) (fun _ _ _ h => h) (Or.inl ⟨by rfl, ?_⟩) (by assumption) ?_
  · intro W hSW; go_simp
  simp only [Act.put, List.setIfInBounds_toArray, List.set_cons_zero, List.set_cons_succ]
  refine wpAnyH_take (i := 11) (oi := ⟨some 64, _, _, _, _, _⟩) (v := .bool false) rfl (by kernel_rfl) (by kernel_rfl) (by kernel_rfl) (fun _ _ _ h => h) (Or.inl ⟨by rfl, ?_⟩) (by assumption) ?_
  · intro W hSW; go_simp
  simp only [Act.put, List.setIfInBounds_toArray, List.set_cons_zero, List.set_cons_succ]
  refine wpAnyH_take (i := 12) (oi := ⟨some 65, _, _, _, _, _⟩) (v := .pointer none) rfl (by kernel_rfl) (by kernel_rfl) (by kernel_rfl) (fun _ _ _ h => h) (Or.inl ⟨by rfl, ?_⟩) (by assumption) ?_
  · intro W hSW; go_simp
  simp only [Act.put, List.setIfInBounds_toArray, List.set_cons_zero, List.set_cons_succ]
  refine wpAnyH_take (i := 13) (oi := ⟨some 66, _, _, _, _, _⟩) (v := .bool false) rfl (by kernel_rfl) (by kernel_rfl) (by kernel_rfl) (fun _ _ _ h => h) (Or.inl ⟨by rfl, ?_⟩) (by assumption) ?_
  · intro W hSW; go_simp
  simp only [Act.put, List.setIfInBounds_toArray, List.set_cons_zero, List.set_cons_succ]
  refine wpAnyH_take (i := 14) (oi := ⟨some 67, _, _, _, _, _⟩) (v := .bool false) rfl (by kernel_rfl) (by kernel_rfl) (by kernel_rfl) (fun _ _ _ h => h) (Or.inl ⟨by rfl, ?_⟩) (by assumption) ?_
  · intro W hSW; go_simp
  simp only [Act.put, List.setIfInBounds_toArray, List.set_cons_zero, List.set_cons_succ]
  refine wpAnyH_take (i := 15) (oi := ⟨some 68, _, _, _, _, _⟩) (v := undef) rfl (by kernel_rfl) (by kernel_rfl) (by kernel_rfl) (fun _ _ _ h => h) (Or.inr ⟨by rfl, rfl⟩) (by assumption) ?_
  simp only [Act.put, List.setIfInBounds_toArray, List.set_cons_zero, List.set_cons_succ]
  refine wpAnyH_take (i := 16) (oi := ⟨some 69, _, _, _, _, _⟩) (v := undef) rfl (by kernel_rfl) (by kernel_rfl) (by kernel_rfl) (fun _ _ _ h => h) (Or.inr ⟨by rfl, rfl⟩) (by assumption) ?_
  simp only [Act.put, List.setIfInBounds_toArray, List.set_cons_zero, List.set_cons_succ]
  refine wpAnyH_take (i := 17) (oi := ⟨some 70, _, _, _, _, _⟩) (v := undef) rfl (by kernel_rfl) (by kernel_rfl) (by kernel_rfl) (fun _ _ _ h => h) (Or.inr ⟨by rfl, rfl⟩) (by assumption) ?_
  simp only [Act.put, List.setIfInBounds_toArray, List.set_cons_zero, List.set_cons_succ]
  refine wpAnyH_take (i := 18) (oi := ⟨some 71, _, _, _, _, _⟩) (v := undef) rfl (by kernel_rfl) (by kernel_rfl) (by kernel_rfl) (fun _ _ _ h => h) (Or.inr ⟨by rfl, rfl⟩) (by assumption) ?_
  simp only [Act.put, List.setIfInBounds_toArray, List.set_cons_zero, List.set_cons_succ]
  refine wpAnyH_take (i := 19) (oi := ⟨some 72, _, _, _, _, _⟩) (v := undef) rfl (by kernel_rfl) (by kernel_rfl) (by kernel_rfl) (fun _ _ _ h => h) (Or.inr ⟨by rfl, rfl⟩) (by assumption) ?_
  simp only [Act.put, List.setIfInBounds_toArray, List.set_cons_zero, List.set_cons_succ]
  refine wpAnyH_take (i := 20) (oi := ⟨some 73, _, _, _, _, _⟩) (v := undef) rfl (by kernel_rfl) (by kernel_rfl) (by kernel_rfl) (fun _ _ _ h => h) (Or.inr ⟨by rfl, rfl⟩) (by assumption) ?_
  simp only [Act.put, List.setIfInBounds_toArray, List.set_cons_zero, List.set_cons_succ]
  refine wpAnyH_take (i := 21) (oi := ⟨some 74, _, _, _, _, _⟩) (v := undef) rfl (by kernel_rfl) (by kernel_rfl) (by kernel_rfl) (fun _ _ _ h => h) (Or.inr ⟨by rfl, rfl⟩) (by assumption) ?_
  simp only [Act.put, List.setIfInBounds_toArray, List.set_cons_zero, List.set_cons_succ]
  refine wpAnyH_take (i := 22) (oi := ⟨some 75, _, _, _, _, _⟩) (v := undef) rfl (by kernel_rfl) (by kernel_rfl) (by kernel_rfl) (fun _ _ _ h => h) (Or.inr ⟨by rfl, rfl⟩) (by assumption) ?_
  simp only [Act.put, List.setIfInBounds_toArray, List.set_cons_zero, List.set_cons_succ]
  refine wpAnyH_take (i := 23) (oi := ⟨some 76, _, _, _, _, _⟩) (v := .bool false) rfl (by kernel_rfl) (by kernel_rfl) (by kernel_rfl) (fun _ _ _ h => h) (Or.inl ⟨by rfl, ?_⟩) (by assumption) ?_
  · intro W hSW; go_simp
  simp only [Act.put, List.setIfInBounds_toArray, List.set_cons_zero, List.set_cons_succ]
  refine wpAnyH_take (i := 24) (oi := ⟨some 77, _, _, _, _, _⟩) (v := .bool false) rfl (by kernel_rfl) (by kernel_rfl) (by kernel_rfl) (fun _ _ _ h => h) (Or.inl ⟨by rfl, ?_⟩) (by assumption) ?_
  · intro W hSW; go_simp
  simp only [Act.put, List.setIfInBounds_toArray, List.set_cons_zero, List.set_cons_succ]
  refine wpAnyH_done (by kernel_rfl) ?_ _
  go_wp2_with fail
  go_ret2
  exact ⟨rfl, A4.out.drewN 1⟩
theorem image_src {w : World} {D S n : Nat} {bs : List Int} (h : DiskAt w D S (Dk.fresh n bs)) (hn : 1 ≤ n) : Calls Try.prog 22 #[.pointer (some ⟨D, 0, none⟩)] w fun r w' => ∃ p l c, r = .returned (.slice p l c) ∧ Src w' p l bs ∧ (p = none → c = 0) ∧ Apart [] w w' := by
  refine (image_cap h hn).mono ?_
  rintro r w' ⟨v, g, cap, rfl, hcap, hb, hg, a⟩
  exact ⟨some ⟨g, 0, none⟩, bs.length, cap, by rw [hb.val]; rfl, (hb.lent _ rfl).src, (fun e => by cases e), a⟩
set_option maxHeartbeats 4000000 in
set_option maxRecDepth 100000 in
theorem taken_good (w : World) (p : Option Addr) (l c n : Nat) (bs : List Int) (hs : Src w p l bs) (hnil : p = none → l = 0 ∧ c = 0) (hn1 : 1 ≤ n) (hn2 : n ≤ 4096) (hln : l = n * 512) :
    Calls Try.prog 32 #[.slice p l c] w fun r w' => ∃ P x who, r = .returned (.tuple #[.pointer (some ⟨P, 0, none⟩), .bool true]) ∧ NewP w w' P x who := by
  have HS := hid hs
  have HLN := hid hln
  have HNIL := hid hnil
  have hl : l ≤ 4194304 := by omega
  clear hs hln hnil
  go_enter Try.func32, Try.ntmps32
  go_wp2_with fail
  refine (lend_any w p l c bs HS.out hl HNIL.out).mono ?_
  rintro r w1 ⟨v, rfl, hown, a1⟩
  dsimp only
  obtain ⟨g, c1, rfl, hg, hL⟩ := own_lent hown (by omega) (by rw [lentL_length, HS.out.hlen])
  have HL := hid hL
  have hle := hL.le
  have A1 := hid a1
  have C2 := from_good w1 n g 0 c1 bs hn1 hn2 (by have := HLN.out; omega) (by rw [HS.out.hlen]; exact HLN.out) (fun j hj => by
    have h1 := HLN.out
    have h2 := HS.out.hlen
    rw [Nat.zero_add, ← lentL_head bs j (by omega)]; exact hL.cells j (by omega))
  rw [← HLN.out] at C2
  have HC2 := hid C2
  clear hown hL a1 C2
  go_wp2_with fail
  refine HC2.out.mono ?_
  rintro r w2 ⟨rfl, hd2, a2⟩
  dsimp only
  have HD2 := hid hd2
  have A2 := hid a2
  have C3 := rfrom_good w2 n p c bs (by rw [← HLN.out]; exact HS.out.below ((A1.out.trans a2).below (Nat.le_refl _) (by simp))) hn1 hn2
  rw [← HLN.out] at C3
  have HC3 := hid C3
  clear hd2 a2 C3 HC2
  go_wp2_with fail
  refine HC3.out.mono ?_
  rintro r w3 ⟨R, fv, rfl, hr3, hR3, a3, hfv3⟩
  dsimp only
  have HR3 := hid hr3
  have A3 := hid a3
  have HF3 := hid hfv3
  clear hr3 a3 hfv3 HC3
  go_wp2_with fail
  refine (kept_ok w3 g c1 l bs ((HL.out.kept A2.out (by simp)).kept A3.out (by simp)) p c (HS.out.below (((A1.out.trans A2.out).trans A3.out).below (Nat.le_refl _) (by simp))) (fun e => (HNIL.out e).2) hl).mono ?_
  rintro r w4 ⟨rfl, a4, bs', hL4⟩
  dsimp only
  have hgl : g < w1.heap.size := by obtain ⟨cur, hr, _⟩ := HL.out.row; exact lt_of_heap hr
  have A4 := hid a4
  have hbl := hL4.len
  have HBL := hid hbl
  have HL4 := hid hL4
  have htl : (bs'.take l).length = l := by simp; omega
  have hsrc4 : ∀ j, j < l → w4.cell? ⟨g, j, none⟩ = some (.int .u8 ((bs'.take l).getD j 0)) := fun j hj => by
    rw [hL4.cells j (by omega)]
    simp [List.getElem?_take, hj]
  have C5 := from_good w4 n g 0 c1 (bs'.take l) hn1 hn2 (by have := HLN.out; omega) (by rw [htl]; exact HLN.out) (fun j hj => by rw [Nat.zero_add]; exact hsrc4 j (by have := HLN.out; omega))
  rw [← HLN.out] at C5
  have HC5 := hid C5
  have HSR := hid hsrc4
  have HTL := hid htl
  clear a4 hL4 hbl C5 hsrc4 htl
  go_wp2_with fail
  refine (num_any _ _).mono ?_
  rintro r w5 ⟨rfl, rfl⟩
  dsimp only
  go_wp2_with fail
  generalize hw4 : w5 = w4 at *
  clear hw4
  refine HC5.out.mono ?_
  rintro r w5 ⟨rfl, hd5, a5⟩
  dsimp only
  have HI := hid (image_src (w := w5.drewN 1) (hd5.drewN 1) hn1)
  have A5 := hid a5
  have hgl4 : Hid (g < w4.heap.size) := by obtain ⟨cur, hr, _⟩ := HL4.out.row; exact lt_of_heap hr
  have HG5 : Hid (∀ W, Apart [] w5 W → Src W (some ⟨g, 0, none⟩) l (bs'.take l)) := fun W aW => ⟨HTL.out, fun h0 => ⟨g, 0, rfl, Nat.lt_of_lt_of_le hgl4.out (Nat.le_trans A5.out.size aW.size), fun j hj => by
    rw [Nat.zero_add, (A5.out.trans aW).cell (p := ⟨g, j, none⟩) hgl4.out (by simp)]; exact HSR.out j hj⟩⟩
  have hnc : ¬ c1 < l := by omega
  clear hd5 a5 HC5
  go_wp2_with fail
  refine wp_region_held_drew (S := fun W => Apart [] w5 W) (by kernel_rfl) ((Apart.refl [] w5).drewN 1) (fun hHeld => ?_)
  refine wpAnyH_take (i := 0) (oi := ⟨some 53, _, _, _, _, _⟩) (v := .int .i64 0) rfl (by kernel_rfl) (by kernel_rfl) (by kernel_rfl) (fun _ _ _ h => h) (Or.inl ⟨by rfl, ?_⟩) (by assumption) ?_
  · intro W hSW; go_simp
  simp only [Act.put, List.setIfInBounds_toArray, List.set_cons_zero, List.set_cons_succ]
  refine wpAnyH_take (i := 2) (oi := ⟨some 55, _, _, _, _, _⟩) (v := .int .i64 0) rfl (by kernel_rfl) (by kernel_rfl) (by kernel_rfl) (fun _ _ _ h => h) (Or.inl ⟨by rfl, ?_⟩) (by assumption) ?_
  · intro W hSW; go_simp
  simp only [Act.put, List.setIfInBounds_toArray, List.set_cons_zero, List.set_cons_succ]
  refine wpAnyH_ready (rs := [1]) (by kernel_rfl) (by simp) ?_
  refine AllReadyH.cons rfl (fun KK hKK => ?_) AllReadyH.nil
  go_simp
  refine (num_any _ _).mono ?_
  rintro r w7 ⟨rfl, rfl⟩
  dsimp only
  refine hKK.out _ _ (by assumption) (fun hHeld => ?_)
  clear hKK KK
  refine wpAnyH_take (i := 3) (oi := ⟨some 56, _, _, _, _, _⟩) (v := .bool false) rfl (by kernel_rfl) (by kernel_rfl) (by kernel_rfl) (fun _ _ _ h => h) (Or.inl ⟨by rfl, ?_⟩) (by assumption) ?_
  · intro W hSW; go_simp
  simp only [Act.put, List.setIfInBounds_toArray, List.set_cons_zero, List.set_cons_succ]
  refine wpAnyH_take (i := 4) (oi := ⟨some 57, _, _, _, _, _⟩) (v := .bool false) rfl (by kernel_rfl) (by kernel_rfl) (by kernel_rfl) (fun _ _ _ h => h) (Or.inl ⟨by rfl, ?_⟩) (by assumption) ?_
  · intro W hSW; go_simp
  simp only [Act.put, List.setIfInBounds_toArray, List.set_cons_zero, List.set_cons_succ]
  refine wpAnyH_take (i := 5) (oi := ⟨some 58, _, _, _, _, _⟩) (v := .pointer (some ⟨w4.heap.size + 1, 0, none⟩)) rfl (by kernel_rfl) (by kernel_rfl) (by kernel_rfl) (fun _ _ _ h => h) (Or.inl ⟨by rfl, ?_⟩) (by assumption) ?_
  · intro W hSW; go_simp
  simp only [Act.put, List.setIfInBounds_toArray, List.set_cons_zero, List.set_cons_succ]
  refine wpAnyH_take (i := 6) (oi := ⟨some 59, _, _, _, _, _⟩) (v := .bool false) rfl (by kernel_rfl) (by kernel_rfl) (by kernel_rfl) (fun _ _ _ h => h) (Or.inl ⟨by rfl, ?_⟩) (by assumption) ?_
  · intro W hSW; go_simp
  simp only [Act.put, List.setIfInBounds_toArray, List.set_cons_zero, List.set_cons_succ]
  refine wpAnyH_take (i := 7) (oi := ⟨some 60, _, _, _, _, _⟩) (v := .pointer (some ⟨R, 0, none⟩)) rfl (by kernel_rfl) (by kernel_rfl) (by kernel_rfl) (fun _ _ _ h => h) (Or.inl ⟨by rfl, ?_⟩) (by assumption) ?_
  · intro W hSW; go_simp
  simp only [Act.put, List.setIfInBounds_toArray, List.set_cons_zero, List.set_cons_succ]
  refine wpAnyH_take (i := 8) (oi := ⟨some 61, _, _, _, _, _⟩) (v := .bool false) rfl (by kernel_rfl) (by kernel_rfl) (by kernel_rfl) (fun _ _ _ h => h) (Or.inl ⟨by rfl, ?_⟩) (by assumption) ?_
  · intro W hSW; go_simp
  simp only [Act.put, List.setIfInBounds_toArray, List.set_cons_zero, List.set_cons_succ]
  refine wpAnyH_take (i := 9) (oi := ⟨some 62, _, _, _, _, _⟩) (v := .bool false) rfl (by kernel_rfl) (by kernel_rfl) (by kernel_rfl) (fun _ _ _ h => h) (Or.inl ⟨by rfl, ?_⟩) (by assumption) ?_
  · intro W hSW; go_simp
  simp only [Act.put, List.setIfInBounds_toArray, List.set_cons_zero, List.set_cons_succ]
  refine wpAnyH_take (i := 10) (oi := ⟨some 63, _, _, _, _, _⟩) (v := .bool false) rfl (by kernel_rfl) (by kernel_rfl) (by kernel_rfl) (fun _ _ _ h => h) (Or.inl ⟨by rfl, ?_⟩) (by assumption) ?_
  · intro W hSW; go_simp
  simp only [Act.put, List.setIfInBounds_toArray, List.set_cons_zero, List.set_cons_succ]
  refine wpAnyH_take (i := 11) (oi := ⟨some 64, _, _, _, _, _⟩) (v := .bool false) rfl (by kernel_rfl) (by kernel_rfl) (by kernel_rfl) (fun _ _ _ h => h) (Or.inl ⟨by rfl, ?_⟩) (by assumption) ?_
  · intro W hSW; go_simp
  simp only [Act.put, List.setIfInBounds_toArray, List.set_cons_zero, List.set_cons_succ]
  refine wpAnyH_take (i := 12) (oi := ⟨some 65, _, _, _, _, _⟩) (v := .pointer (some ⟨w4.heap.size + 1, 0, none⟩)) rfl (by kernel_rfl) (by kernel_rfl) (by kernel_rfl) (fun _ _ _ h => h) (Or.inl ⟨by rfl, ?_⟩) (by assumption) ?_
  · intro W hSW; go_simp
  simp only [Act.put, List.setIfInBounds_toArray, List.set_cons_zero, List.set_cons_succ]
  refine wpAnyH_take (i := 13) (oi := ⟨some 66, _, _, _, _, _⟩) (v := .bool true) rfl (by kernel_rfl) (by kernel_rfl) (by kernel_rfl) (fun _ _ _ h => h) (Or.inl ⟨by rfl, ?_⟩) (by assumption) ?_
  · intro W hSW; go_simp
  simp only [Act.put, List.setIfInBounds_toArray, List.set_cons_zero, List.set_cons_succ]
  refine wpAnyH_take (i := 14) (oi := ⟨some 67, _, _, _, _, _⟩) (v := .bool true) rfl (by kernel_rfl) (by kernel_rfl) (by kernel_rfl) (fun _ _ _ h => h) (Or.inl ⟨by rfl, ?_⟩) (by assumption) ?_
  · intro W hSW; go_simp
  simp only [Act.put, List.setIfInBounds_toArray, List.set_cons_zero, List.set_cons_succ]
  refine wpAnyH_take (i := 15) (oi := ⟨some 68, _, _, _, _, _⟩) (v := .pointer (some ⟨w4.heap.size + 1, 0, none⟩)) rfl (by kernel_rfl) (by kernel_rfl) (by kernel_rfl) (fun _ _ _ h => h) (Or.inl ⟨by rfl, ?_⟩) (by assumption) ?_
  · intro W hSW; go_simp
  simp only [Act.put, List.setIfInBounds_toArray, List.set_cons_zero, List.set_cons_succ]
  refine wpAnyH_take (i := 17) (oi := ⟨some 70, _, _, _, _, _⟩) (v := .slice (some ⟨g, 0, none⟩) (l + 40) c1) rfl (by kernel_rfl) (by kernel_rfl) (by kernel_rfl) (fun _ _ _ h => h) (Or.inl ⟨by rfl, ?_⟩) (by assumption) ?_
  · intro W hSW; go_simp
  simp only [Act.put, List.setIfInBounds_toArray, List.set_cons_zero, List.set_cons_succ]
  refine wpAnyH_take (i := 18) (oi := ⟨some 71, _, _, _, _, _⟩) (v := .slice p l c) rfl (by kernel_rfl) (by kernel_rfl) (by kernel_rfl) (fun _ _ _ h => h) (Or.inl ⟨by rfl, ?_⟩) (by assumption) ?_
  · intro W hSW; go_simp
  simp only [Act.put, List.setIfInBounds_toArray, List.set_cons_zero, List.set_cons_succ]
  refine wpAnyH_take (i := 19) (oi := ⟨some 72, _, _, _, _, _⟩) (v := .int .i64 (l : Nat)) rfl (by kernel_rfl) (by kernel_rfl) (by kernel_rfl) (fun _ _ _ h => h) (Or.inl ⟨by rfl, ?_⟩) (by assumption) ?_
  · intro W hSW; go_simp
  simp only [Act.put, List.setIfInBounds_toArray, List.set_cons_zero, List.set_cons_succ]
  refine wpAnyH_take (i := 20) (oi := ⟨some 73, _, _, _, _, _⟩) (v := .slice (some ⟨g, 0, none⟩) l c1) rfl (by kernel_rfl) (by kernel_rfl) (by kernel_rfl) (fun _ _ _ h => h) (Or.inl ⟨by rfl, ?_⟩) (by assumption) ?_
  · intro W hSW; go_simp
  simp only [Act.put, List.setIfInBounds_toArray, List.set_cons_zero, List.set_cons_succ]
  refine wpAnyH_ready (rs := [16]) (by kernel_rfl) (by simp) ?_
  refine AllReadyH.cons rfl (fun KK hKK => ?_) AllReadyH.nil
  go_simp
  refine HI.out.mono ?_
  rintro r w6 ⟨p6, l6, c6, rfl, hs6, hn6, a6⟩
  dsimp only
  have HS6 := hid hs6
  have HN6 := hid hn6
  have A6 : Apart [] w5 w6 := ((Apart.refl [] w5).drewN 1).trans a6
  clear hs6 hn6 a6
  refine hKK.out _ _ (by assumption) (fun hHeld => ?_)
  clear hKK KK
  refine wpAnyH_ready (rs := [21]) (by kernel_rfl) (by simp) ?_
  refine AllReadyH.cons rfl (fun KK hKK => ?_) AllReadyH.nil
  go_simp
  refine (same_src w6 p6 _ l6 l c6 c1 _ HS6.out (HG5.out w6 A6) HN6.out (fun e => by cases e)).mono ?_
  rintro r w7 ⟨rfl, rfl⟩
  dsimp only
  refine hKK.out _ _ (by assumption) (fun hHeld => ?_)
  clear hKK KK
  refine wpAnyH_take (i := 22) (oi := ⟨some 75, _, _, _, _, _⟩) (v := .bool false) rfl (by kernel_rfl) (by kernel_rfl) (by kernel_rfl) (fun _ _ _ h => h) (Or.inl ⟨by rfl, ?_⟩) (by assumption) ?_
  · intro W hSW; go_simp
  simp only [Act.put, List.setIfInBounds_toArray, List.set_cons_zero, List.set_cons_succ]
  refine wpAnyH_take (i := 23) (oi := ⟨some 76, _, _, _, _, _⟩) (v := .bool false) rfl (by kernel_rfl) (by kernel_rfl) (by kernel_rfl) (fun _ _ _ h => h) (Or.inl ⟨by rfl, ?_⟩) (by assumption) ?_
  · intro W hSW; go_simp
  simp only [Act.put, List.setIfInBounds_toArray, List.set_cons_zero, List.set_cons_succ]
  refine wpAnyH_take (i := 24) (oi := ⟨some 77, _, _, _, _, _⟩) (v := .bool false) rfl (by kernel_rfl) (by kernel_rfl) (by kernel_rfl) (fun _ _ _ h => h) (Or.inl ⟨by rfl, ?_⟩) (by assumption) ?_
  · intro W hSW; go_simp
  simp only [Act.put, List.setIfInBounds_toArray, List.set_cons_zero, List.set_cons_succ]
  refine wpAnyH_done (by kernel_rfl) ?_ _
  have A56 := hid A6
  clear A6 HI HG5 HS6 HN6 HSR
  go_wp2_with fail
  go_ret2
  have aN : Apart [] w7 (w7.alloc (.cells (pair0 (w1.heap.size + 1) R) 66)) := (Apart.refl _ _).alloc _
  have A47 : Apart [] w4 (w7.alloc (.cells (pair0 (w1.heap.size + 1) R) 66)) := (A5.out.trans A56.out).trans aN
  have s2 := A2.out.size
  have s3 := A3.out.size
  have s1 := A1.out.size
  have hdF : DiskAt (w7.alloc (.cells (pair0 (w1.heap.size + 1) R) 66)) (w1.heap.size + 1) w1.heap.size (Dk.fresh n bs) :=
    ((HD2.out.kept A3.out (by simp) (by simp)).kept A4.out (by simp; omega) (by simp; omega)).kept A47 (by simp) (by simp)
  have hrF : RefAt (w7.alloc (.cells (pair0 (w1.heap.size + 1) R) 66)) R (Rf.fresh n bs fv) := by
    have r4 : RefAt w4 R (Rf.fresh n bs fv) := HR3.out.same (fun k hk => A4.out.block k (HR3.out.lt hk) (by
      have hk2 : w2.heap.size ≤ k := by
        rcases hk with hk | hk | hk | ⟨y, hy, _⟩
        · omega
        · exact HF3.out k hk
        · simp [Rf.fresh, Value.ownBlock] at hk
        · simp [Rf.fresh] at hy
      simp; omega))
    exact r4.same (fun k hk => A47.block k (r4.lt hk) (by simp))
  obtain ⟨x, who, pr, bk, eD, eR, ed, er, nw⟩ := pr_fresh (new_row w7 _) hdF hrF (Rel.freshOf n bs fv hn1 (by rw [HS.out.hlen]; exact HLN.out)) hn1
  have A4w : Apart [] w w4 := by
    have a := A1.out.trans (A2.out.trans A3.out)
    have a4 := A4.out
    exact ⟨a4.os.trans a.os, a4.tape.trans a.tape, a4.output.trans a.output, Nat.le_trans a.size a4.size, fun k hk _ => (a4.block k (Nat.lt_of_lt_of_le hk a.size) (by simp; omega)).trans (a.block k hk (by simp))⟩
  refine ⟨w7.heap.size, x, who, rfl, pr, bk, by rw [ed]; rfl, by rw [ed]; rfl, fun k s hk => ?_, A4w.trans A47⟩
  have s7 := (A4w.trans (A5.out.trans A56.out)).size
  rcases nw k s hk with rfl | rfl | rfl | rfl | h1
  · exact s7
  · omega
  · omega
  · omega
  · have := HF3.out k h1; omega
/-- taken, of any image -/
theorem taken_pr (w : World) (p : Option Addr) (l c : Nat) (bs : List Int) (hs : Src w p l bs) (hnil : p = none → l = 0 ∧ c = 0) (hl : l ≤ 4194304) :
    Calls Try.prog 32 #[.slice p l c] w fun r w' => (r = .returned (.tuple #[.pointer none, .bool true]) ∧ Apart [] w w') ∨ (∃ P x who, r = .returned (.tuple #[.pointer (some ⟨P, 0, none⟩), .bool true]) ∧ NewP w w' P x who) := by
  by_cases hb : l = 0 ∨ l % 512 ≠ 0 ∨ 4096 < l / 512
  · exact (taken_bad w p l c bs hs hnil hl hb).mono (fun r w' h => .inl h)
  · exact (taken_good w p l c (l / 512) bs hs hnil (by omega) (by omega) (by omega)).mono (fun r w' h => .inr h)
end Go.Proofs.Ythmloakkefiicaa.dk
