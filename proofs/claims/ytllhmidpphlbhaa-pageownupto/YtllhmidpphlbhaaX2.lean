import Derived.Test.YtllhmidpphlbhaaG36
namespace Go.Proofs.Ytllhmidpphlbhaa.ds
open Go.ChangeShapes Go.WideShapes Go.ChangeAt Go.RowKit Go.Sort
set_option linter.unusedVariables false
set_option linter.unusedSimpArgs false

/-- where the document's reader has gone wrong -/
def wrP (s : Ps) : Int := if s.bad = true then (s.at_ : Int) else -1
/-- the document's reader in memory -/
structure RX (wB w : World) (R : Nat) (s0 : Sl) (B : List Nat) (s : Ps) : Prop where
  ex : ∃ a : Nat, w.heap[R]? = some (.cells #[.slice s0.p s0.n s0.c, .int .i64 (a : Nat), .int .i64 (wrP s)] 140 (0, 0)) ∧ (s.bad = false → a = s.at_) ∧ a ≤ 2048
  new : wB.heap.size ≤ R
  ap : Apart [] wB w
  rd : Rd wB s0.p (byts B)
  len : B.length = 2048
  n : s0.n = 2048
  b8 : ∀ b ∈ B, b < 256
  le : s.at_ ≤ 2048
theorem RX.kept0 {wB w w' : World} {R : Nat} {s0 : Sl} {B : List Nat} {s : Ps} (h : RX wB w R s0 B s) (a : Apart [] w w') : RX wB w' R s0 B s := by
  obtain ⟨q, h1, h2⟩ := h.ex
  exact { h with ex := ⟨q, keep0 a h1, h2⟩, ap := h.ap.trans a }
theorem RX.other {wB w w' : World} {R X : Nat} {s0 : Sl} {B : List Nat} {s : Ps} (h : RX wB w R s0 B s) (a : Apart [X] w w') (hX : X ≠ R) (hn : wB.heap.size ≤ X) : RX wB w' R s0 B s := by
  obtain ⟨q, h1, h2⟩ := h.ex
  exact { h with ex := ⟨q, keepB a h1 (fun h => hX h.symm), h2⟩, ap := h.ap.trans' a (fun y hy => by simp at hy; exact .inr (by omega)) }
theorem getD8 {B : List Nat} (h8 : ∀ b ∈ B, b < 256) (q : Nat) : B.getD q 0 < 256 := by
  rw [List.getD_eq_getElem?_getD]
  cases hg : B[q]? with
  | none => simp
  | some b => exact h8 b (List.mem_of_getElem? hg)
/-- a reader that has not gone wrong: a byte of the page -/
theorem RX.byte {wB W : World} {s0 : Sl} {B : List Nat} (rd : Rd wB s0.p (byts B)) (len : B.length = 2048) (a : Apart [] wB W) : ∃ P o, s0.p = some ⟨P, o, none⟩ ∧ ∀ i, i < 2048 → W.cell? ⟨P, o + i, none⟩ = some (.int .u8 ((B.getD i 0 : Nat) : Int)) := by
  obtain ⟨P, o, e, hP, hc⟩ := rd.kept0 a (by rw [byts_len]; omega)
  refine ⟨P, o, e, fun i hi => hc i _ ?_⟩
  rw [byts, List.getElem?_map, List.getElem?_eq_getElem (by omega), List.getD_eq_getElem?_getD, List.getElem?_eq_getElem (by omega)]; rfl
set_option maxHeartbeats 8000000 in
set_option maxRecDepth 100000 in
theorem field_ok {wB w : World} {R : Nat} {s0 : Sl} {B : List Nat} {s : Ps} (h : RX wB w R s0 B s) (k lo hi : Nat) (hk : k ≤ 6) (hlo : lo ≤ 1152921504606846976) (hhi : hi ≤ 1152921504606846976) (hr : s.bad = false → s.at_ + k ≤ 2048) : Calls Try.prog 75 #[.pointer (some ⟨R, 0, none⟩), .int .i64 (k : Nat), .int .i64 (lo : Nat), .int .i64 (hi : Nat)] w fun e w' => e = .returned (.int .i64 ((num B k lo hi s).1 : Nat)) ∧ RX wB w' R s0 B (num B k lo hi s).2 ∧ Apart [R] w w' := by
  obtain ⟨q, hb, hq, hq2⟩ := h.ex
  by_cases hbad : s.bad = true
  · have e1 : wrP s = (s.at_ : Int) := by unfold wrP; rw [if_pos hbad]
    rw [num_bad B _ _ _ hbad]
    rw [e1] at hb
    have z2 := crow hb 2 _ rfl
    have HH := hid h
    have hge : (0 : Int) ≤ (s.at_ : Int) := by omega
    clear h hb hq e1 hr
    go_enter Try.func75, Try.ntmps75
    go_wp2_with fail
    go_ret
    exact ⟨rfl, HH.out, Apart.refl _ _⟩
  · have hgood : s.bad = false := by simpa using hbad
    obtain ⟨at_, bad⟩ := s
    dsimp only at hgood hbad hq hr
    subst hgood
    have e0 := hq rfl
    subst e0
    have e1 : wrP ⟨q, false⟩ = -1 := rfl
    rw [e1] at hb
    have hqk := hr rfl
    have HH := hid h
    have HB := hid hb
    have HNEW := hid h.new
    have HAP := hid h.ap
    have HB8 := hid h.b8
    have z2 := crow hb 2 _ rfl
    obtain ⟨P, o, hP, -⟩ := RX.byte h.rd h.len h.ap
    have hn0 := h.n
    have HCL : Hid (∀ W, (W.heap[R]? = some (.cells #[.slice s0.p s0.n s0.c, .int .i64 (q : Nat), .int .i64 (-1)] 140 (0, 0)) ∧ Apart [] wB W) → W.cell? ⟨R, 0, none⟩ = some (.slice (some ⟨P, o, none⟩) 2048 s0.c) ∧ W.cell? ⟨R, 1, none⟩ = some (.int .i64 (q : Nat)) ∧ ∀ i, i < 2048 → W.cell? ⟨P, o + i, none⟩ = some (.int .u8 ((B.getD i 0 : Nat) : Int))) := fun W hW => by
      obtain ⟨P', o', e, hc⟩ := RX.byte h.rd h.len hW.2
      rw [hP] at e
      simp at e
      obtain ⟨rfl, rfl⟩ := e
      exact ⟨by rw [← hP, ← hn0]; exact crow hW.1 0 _ rfl, crow hW.1 1 _ rfl, hc⟩
    have hS0 : w.heap[R]? = some (.cells #[.slice s0.p s0.n s0.c, .int .i64 (q : Nat), .int .i64 (-1)] 140 (0, 0)) ∧ Apart [] wB w := ⟨hb, h.ap⟩
    have HS0 := hid hS0
    clear hS0
    have HLT : Hid (∀ j, le B j q < 256 ^ j) := fun j => le_lt h.b8 j q
    clear h hb hq hr hbad
    have hwk : IntKind.i64.wrap ((k : Int) - 1) = (k : Int) - 1 := by rw [IntKind.wrap_i64]; omega
    go_enter Try.func75, Try.ntmps75
    go_wp2_with fail
    clear z2
    go_loopw [9, 10] (fun a b wt => ∃ j : Nat, a = .int .i64 ((le B (k - j) (q + j) : Nat) : Int) ∧ b = .int .i64 ((j : Int) - 1) ∧ j ≤ k ∧ (wt.heap[R]? = some (.cells #[.slice s0.p s0.n s0.c, .int .i64 (q : Nat), .int .i64 (-1)] 140 (0, 0)) ∧ Apart [] wB wt) ∧ Apart [R] w wt) (fun _ b _ => (intOf b + 1).toNat)
    case atStart => exact ⟨k, by rw [Nat.sub_self]; rfl, rfl, Nat.le_refl _, HS0.out, Apart.refl _ _⟩
    case round =>
      obtain ⟨j, rfl, rfl, hjk, hS, ha⟩ := hrel
      have HS := hid hS
      have HAA := hid ha
      clear hS ha
      by_cases hj : 0 < j
      · have hji : (0 : Int) ≤ (j : Int) - 1 := by omega
        obtain ⟨i, rfl⟩ : ∃ i, j = i + 1 := ⟨j - 1, by omega⟩
        have e2 : ((i + 1 : Nat) : Int) - 1 = (i : Int) := by omega
        rw [e2] at hji ⊢
        have hle2 : le B (k - i) (q + i) = le B (k - (i + 1)) (q + (i + 1)) * 256 + B.getD (q + i) 0 := by
          have e3 : k - i = (k - (i + 1)) + 1 := by omega
          rw [e3]
          show B.getD (q + i) 0 + 256 * le B (k - (i + 1)) (q + i + 1) = _
          rw [show q + i + 1 = q + (i + 1) from rfl]
          omega
        have hlt : le B (k - (i + 1)) (q + (i + 1)) < 1099511627776 := by
          have h1 := le_lt (B := B) HB8.out (k - (i + 1)) (q + (i + 1))
          have h2 : 256 ^ (k - (i + 1)) ≤ 256 ^ 5 := Nat.pow_le_pow_right (by omega) (by omega)
          omega
        have hb8 := getD8 HB8.out (q + i)
        obtain ⟨m, Hm⟩ : ∃ m, Hid (m = le B (k - (i + 1)) (q + (i + 1))) := ⟨_, rfl⟩
        obtain ⟨x, Hx⟩ : ∃ x, Hid (x = q + i) := ⟨_, rfl⟩
        rw [← Hx.out] at hb8 hle2
        obtain ⟨u, Hu⟩ : ∃ u, Hid (u = B.getD x 0) := ⟨_, rfl⟩
        rw [← Hm.out] at hlt ⊢
        rw [← Hu.out] at hb8
        obtain ⟨y, Hy⟩ : ∃ y, Hid (y = m * 256) := ⟨_, rfl⟩
        obtain ⟨z, Hz⟩ : ∃ z, Hid (z = y + u) := ⟨_, rfl⟩
        have HLE2 : Hid (z = le B (k - i) (q + i)) := by unfold Hid; rw [Hz.out, Hy.out, Hm.out, Hu.out, ← Hx.out, hle2]
        clear hle2
        have hw2 : IntKind.i64.wrap ((m : Int) * 256) = (y : Int) := by have := Hy.out; rw [IntKind.wrap_i64]; omega
        have hw3 : IntKind.i64.wrap ((q : Int) + (i : Int)) = (x : Int) := by have := Hx.out; rw [IntKind.wrap_i64]; omega
        have hw4 : IntKind.i64.wrap ((y : Int) + (u : Int)) = (z : Int) := by have := Hy.out; have := Hz.out; rw [IntKind.wrap_i64]; omega
        have hw5 : IntKind.i64.wrap (u : Int) = (u : Int) := by rw [IntKind.wrap_i64]; omega
        have hix2 : x < 2048 := by have := Hx.out; omega
        have hix : (x : Int) < 2048 := by omega
        have hSd : wr.drew.heap[R]? = some (.cells #[.slice s0.p s0.n s0.c, .int .i64 (q : Nat), .int .i64 (-1)] 140 (0, 0)) ∧ Apart [] wB wr.drew := ⟨keep0 (Apart.refl [] wr).drew HS.out.1, HS.out.2.drew⟩
        have HAd := hid HAA.out.drew
        go_upto_region 7 with fail
        refine wp_region_held_drew (S := fun W => W.heap[R]? = some (.cells #[.slice s0.p s0.n s0.c, .int .i64 (q : Nat), .int .i64 (-1)] 140 (0, 0)) ∧ Apart [] wB W) (by kernel_rfl) hSd (fun hHeld => ?_)
        generalize wr.drew = wd at *
        refine tk 0 22 (.int .i64 (m : Nat)) rfl ?_ ?_
        · intro W hSW; go_simp
        simp only [Act.put, List.setIfInBounds_toArray, List.set_cons_zero, List.set_cons_succ]
        refine tk 1 23 (.int .i64 (y : Nat)) rfl ?_ ?_
        · intro W hSW; go_simp
        simp only [Act.put, List.setIfInBounds_toArray, List.set_cons_zero, List.set_cons_succ]
        refine tk 2 24 (.pointer (some ⟨R, 0, none⟩)) rfl ?_ ?_
        · intro W hSW; go_simp
        simp only [Act.put, List.setIfInBounds_toArray, List.set_cons_zero, List.set_cons_succ]
        refine tk 3 25 (.pointer (some ⟨R, 0, none⟩)) rfl ?_ ?_
        · intro W hSW; go_simp
        simp only [Act.put, List.setIfInBounds_toArray, List.set_cons_zero, List.set_cons_succ]
        refine tk 4 26 (.pointer (some ⟨R, 0, none⟩)) rfl ?_ ?_
        · intro W hSW; go_simp
        simp only [Act.put, List.setIfInBounds_toArray, List.set_cons_zero, List.set_cons_succ]
        refine tk 5 27 (.slice (some ⟨P, o, none⟩) 2048 s0.c) rfl ?_ ?_
        · intro W hSW; obtain ⟨c0, c1, cc⟩ := HCL.out W hSW; go_simp
        simp only [Act.put, List.setIfInBounds_toArray, List.set_cons_zero, List.set_cons_succ]
        refine tk 6 28 (.pointer (some ⟨R, 0, none⟩)) rfl ?_ ?_
        · intro W hSW; go_simp
        simp only [Act.put, List.setIfInBounds_toArray, List.set_cons_zero, List.set_cons_succ]
        refine tk 7 29 (.pointer (some ⟨R, 0, none⟩)) rfl ?_ ?_
        · intro W hSW; go_simp
        simp only [Act.put, List.setIfInBounds_toArray, List.set_cons_zero, List.set_cons_succ]
        refine tk 8 30 (.pointer (some ⟨R, 1, none⟩)) rfl ?_ ?_
        · intro W hSW; go_simp
        simp only [Act.put, List.setIfInBounds_toArray, List.set_cons_zero, List.set_cons_succ]
        refine tk 9 31 (.int .i64 (q : Nat)) rfl ?_ ?_
        · intro W hSW; obtain ⟨c0, c1, cc⟩ := HCL.out W hSW; go_simp
        simp only [Act.put, List.setIfInBounds_toArray, List.set_cons_zero, List.set_cons_succ]
        refine tk 10 32 (.int .i64 (i : Nat)) rfl ?_ ?_
        · intro W hSW; go_simp
        simp only [Act.put, List.setIfInBounds_toArray, List.set_cons_zero, List.set_cons_succ]
        refine tk 11 33 (.int .i64 (x : Nat)) rfl ?_ ?_
        · intro W hSW; go_simp
        simp only [Act.put, List.setIfInBounds_toArray, List.set_cons_zero, List.set_cons_succ]
        refine tk 12 34 (.pointer (some ⟨P, o + x, none⟩)) rfl ?_ ?_
        · intro W hSW; go_simp
        simp only [Act.put, List.setIfInBounds_toArray, List.set_cons_zero, List.set_cons_succ]
        refine tk 13 35 (.int .u8 (u : Nat)) rfl ?_ ?_
        · intro W hSW; obtain ⟨c0, c1, cc⟩ := HCL.out W hSW; have cu := cc x hix2; rw [← Hu.out] at cu; clear cc; go_simp
        simp only [Act.put, List.setIfInBounds_toArray, List.set_cons_zero, List.set_cons_succ]
        refine tk 14 36 (.int .i64 (u : Nat)) rfl ?_ ?_
        · intro W hSW; go_simp
        simp only [Act.put, List.setIfInBounds_toArray, List.set_cons_zero, List.set_cons_succ]
        refine tk 15 37 (.int .i64 (z : Nat)) rfl ?_ ?_
        · intro W hSW; go_simp
        simp only [Act.put, List.setIfInBounds_toArray, List.set_cons_zero, List.set_cons_succ]
        refine tk 16 9 (.int .i64 (z : Nat)) rfl ?_ ?_
        · intro W hSW; go_simp
        simp only [Act.put, List.setIfInBounds_toArray, List.set_cons_zero, List.set_cons_succ]
        refine wpAnyH_done (by kernel_rfl) ?_ _
        have HSd := hid hHeld
        clear hHeld hSd
        go_wp2_with fail
        go_roundw
        case rel => exact ⟨i, by rw [HLE2.out], by go_num, by omega, HSd.out, HAd.out⟩
        case measure => simp [intOf] <;> omega
      · have hj0 : j = 0 := by omega
        subst hj0
        rw [Nat.sub_zero, Nat.add_zero]
        have hji : ¬ (0 : Int) ≤ ((0 : Nat) : Int) - 1 := by omega
        have hji2 : ((0 : Nat) : Int) - 1 = -1 := by omega
        rw [hji2] at hji ⊢
        have hv48 : le B k q < 281474976710656 := by
          have h1 := HLT.out k
          have h2 : 256 ^ k ≤ 256 ^ 6 := Nat.pow_le_pow_right (by omega) hk
          omega
        obtain ⟨v, Hv⟩ : ∃ v, Hid (v = le B k q) := ⟨_, rfl⟩
        rw [← Hv.out] at hv48 ⊢
        have HNUM : Hid (num B k lo hi ⟨q, false⟩ = if lo ≤ v ∧ v ≤ hi then (v, ⟨q + k, false⟩) else (0, ⟨q, true⟩)) := by
          unfold Hid num
          rw [if_neg (by simp), ← Hv.out]
        have y1 := crow HS.out.1 1 _ rfl
        have y2 := crow HS.out.1 2 _ rfl
        have f1 := frozen_of_row _ _ 1 _ _ HS.out.1
        have f2 := frozen_of_row _ _ 2 _ _ HS.out.1
        by_cases hin : lo ≤ v ∧ v ≤ hi
        · have i1 : ¬ (v : Int) < (lo : Int) := by omega
          have i2 : ¬ (v : Int) > (hi : Int) := by omega
          have hw6 : IntKind.i64.wrap ((q : Int) + (k : Int)) = ((q + k : Nat) : Int) := by rw [IntKind.wrap_i64]; omega
          have hb2 := heap_setCell_same wr R 1 _ 140 (.int .i64 ((q + k : Nat) : Int)) HS.out.1
          have ha2 : Apart [R] wr (wr.setCell ⟨R, 1, none⟩ (.int .i64 ((q + k : Nat) : Int))) := (Apart.refl [R] wr).setCell (.inl (by simp)) _
          have HN : Hid (num B k lo hi ⟨q, false⟩ = (v, ⟨q + k, false⟩)) := by unfold Hid; rw [HNUM.out, if_pos hin]
          have HX : Hid (RX wB (wr.setCell ⟨R, 1, none⟩ (.int .i64 ((q + k : Nat) : Int))) R s0 B ⟨q + k, false⟩ ∧ Apart [R] w (wr.setCell ⟨R, 1, none⟩ (.int .i64 ((q + k : Nat) : Int)))) := by
            refine ⟨{ HH.out with ex := ⟨q + k, by rw [hb2]; rfl, fun _ => rfl, by omega⟩, ap := HS.out.2.trans' ha2 (fun y hy => by simp at hy; exact .inr (by rw [hy]; exact HNEW.out)), le := by show q + k ≤ 2048; omega }, HAA.out.trans ha2⟩
          clear hb2 ha2
          go_wp2_with fail
          go_ret
          refine ⟨by rw [HN.out]; rfl, ?_⟩
          rw [HN.out]
          exact HX.out
        · have hb2 := heap_setCell_same wr R 2 _ 140 (.int .i64 (q : Nat)) HS.out.1
          have ha2 : Apart [R] wr (wr.setCell ⟨R, 2, none⟩ (.int .i64 (q : Nat))) := (Apart.refl [R] wr).setCell (.inl (by simp)) _
          have HN : Hid (num B k lo hi ⟨q, false⟩ = (0, ⟨q, true⟩)) := by unfold Hid; rw [HNUM.out, if_neg hin]
          have HX : Hid (RX wB (wr.setCell ⟨R, 2, none⟩ (.int .i64 (q : Nat))) R s0 B ⟨q, true⟩ ∧ Apart [R] w (wr.setCell ⟨R, 2, none⟩ (.int .i64 (q : Nat)))) := by
            refine ⟨{ HH.out with ex := ⟨q, by rw [hb2]; rfl, fun _ => rfl, hq2⟩, ap := HS.out.2.trans' ha2 (fun y hy => by simp at hy; exact .inr (by rw [hy]; exact HNEW.out)), le := hq2 }, HAA.out.trans ha2⟩
          clear hb2 ha2
          by_cases hin1 : lo ≤ v
          · have i1 : ¬ (v : Int) < (lo : Int) := by omega
            have i2 : (v : Int) > (hi : Int) := by omega
            go_wp2_with fail
            go_ret
            refine ⟨by rw [HN.out]; rfl, ?_⟩
            rw [HN.out]
            exact HX.out
          · have i1 : (v : Int) < (lo : Int) := by omega
            go_wp2_with fail
            go_ret
            refine ⟨by rw [HN.out]; rfl, ?_⟩
            rw [HN.out]
            exact HX.out
end Go.Proofs.Ytllhmidpphlbhaa.ds
namespace Go.Proofs.Ytllhmidpphlbhaa.ds
open Go.ChangeShapes Go.WideShapes Go.ChangeAt Go.RowKit Go.Sort
set_option linter.unusedVariables false
set_option linter.unusedSimpArgs false

def tkS (s : Ps) (n : Nat) : Ps := if s.bad = true then s else ⟨s.at_ + n, false⟩
/-- what take answers -/
structure TkP (wB w : World) (R : Nat) (s0 : Sl) (B : List Nat) (s : Ps) (n : Nat) (e : Ending) (w' : World) : Prop where
  ex : ∃ t : Sl, e = .returned (.slice t.p t.n t.c) ∧ (s.bad = true → t = slz) ∧ (s.bad = false → Bf wB w' t ((B.drop s.at_).take n))
  r : RX wB w' R s0 B (tkS s n)
  a : Apart [R] w w'
theorem take_next {B : List Nat} {q i : Nat} (h : q + i < B.length) : (B.drop q).take (i + 1) = (B.drop q).take i ++ [B.getD (q + i) 0] := by
  rw [List.take_succ_eq_append_getElem (by rw [List.length_drop]; omega)]
  rw [List.getElem_drop, List.getD_eq_getElem?_getD, List.getElem?_eq_getElem h]; rfl
set_option maxHeartbeats 8000000 in
set_option maxRecDepth 100000 in
theorem take_ok {wB w : World} {R : Nat} {s0 : Sl} {B : List Nat} {s : Ps} (h : RX wB w R s0 B s) (n : Nat) (hr : s.bad = false → s.at_ + n ≤ 2048) : Calls Try.prog 77 #[.pointer (some ⟨R, 0, none⟩), .int .i64 (n : Nat)] w fun e w' => TkP wB w R s0 B s n e w' := by
  obtain ⟨q, hb, hq, hq2⟩ := h.ex
  by_cases hbad : s.bad = true
  · have e1 : wrP s = (s.at_ : Int) := by unfold wrP; rw [if_pos hbad]
    rw [e1] at hb
    have z2 := crow hb 2 _ rfl
    have HH := hid h
    have hge : (0 : Int) ≤ (s.at_ : Int) := by omega
    have HT : Hid (tkS s n = s) := by unfold Hid tkS; rw [if_pos hbad]
    have HBAD := hid hbad
    clear h hb hq e1 hr hbad
    go_enter Try.func77, Try.ntmps77
    go_wp2_with fail
    go_ret
    exact ⟨⟨slz, rfl, fun _ => rfl, fun h => by rw [HBAD.out] at h; cases h⟩, by rw [HT.out]; exact HH.out, Apart.refl _ _⟩
  · have hgood : s.bad = false := by simpa using hbad
    obtain ⟨at_, bad⟩ := s
    dsimp only at hgood hbad hq hr
    subst hgood
    have e0 := hq rfl
    subst e0
    have e1 : wrP ⟨q, false⟩ = -1 := rfl
    rw [e1] at hb
    have hqk := hr rfl
    have HH := hid h
    have HNEW := hid h.new
    have HLEN := hid h.len
    have z2 := crow hb 2 _ rfl
    obtain ⟨P, o, hP, -⟩ := RX.byte h.rd h.len h.ap
    have hn0 := h.n
    have HCL : Hid (∀ W, (W.heap[R]? = some (.cells #[.slice s0.p s0.n s0.c, .int .i64 (q : Nat), .int .i64 (-1)] 140 (0, 0)) ∧ Apart [] wB W) → W.cell? ⟨R, 0, none⟩ = some (.slice (some ⟨P, o, none⟩) 2048 s0.c) ∧ W.cell? ⟨R, 1, none⟩ = some (.int .i64 (q : Nat)) ∧ ∀ i, i < 2048 → W.cell? ⟨P, o + i, none⟩ = some (.int .u8 ((B.getD i 0 : Nat) : Int))) := fun W hW => by
      obtain ⟨P', o', e, hc⟩ := RX.byte h.rd h.len hW.2
      rw [hP] at e
      simp at e
      obtain ⟨rfl, rfl⟩ := e
      exact ⟨by rw [← hP, ← hn0]; exact crow hW.1 0 _ rfl, crow hW.1 1 _ rfl, hc⟩
    have HAP := hid h.ap
    have HB0 := hid hb
    clear h hb hq hr hbad
    go_enter Try.func77, Try.ntmps77
    go_wp2_with fail
    clear z2
    go_loopw [5, 6] (fun a b wt => ∃ (i : Nat) (t : Sl), a = .slice t.p t.n t.c ∧ b = .int .i64 (i : Nat) ∧ i ≤ n ∧ wt.heap[R]? = some (.cells #[.slice s0.p s0.n s0.c, .int .i64 (q : Nat), .int .i64 (-1)] 140 (0, 0)) ∧ Bf wB wt t ((B.drop q).take i) ∧ Apart [R] w wt ∧ ∀ k, t.v.ownBlock = some k → w.heap.size ≤ k) (fun _ b _ => n - (intOf b).toNat)
    case atStart => exact ⟨0, slz, rfl, rfl, Nat.zero_le _, HB0.out, Bf.nil HAP.out, Apart.refl _ _, fun k hk => by simp [Sl.v, slz, Value.ownBlock] at hk⟩
    case round =>
      obtain ⟨i, t, rfl, rfl, hin, hrow, hbf, hwa, hfr⟩ := hrel
      have HWA := hid hwa
      have HFR := hid hfr
      have HBF := hid hbf
      have HROW := hid hrow
      clear hbf hrow hwa hfr
      by_cases hlt : i < n
      · have hlti : ((i : Nat) : Int) < (n : Int) := by omega
        obtain ⟨x, Hx⟩ : ∃ x, Hid (x = q + i) := ⟨_, rfl⟩
        obtain ⟨u, Hu⟩ : ∃ u, Hid (u = B.getD x 0) := ⟨_, rfl⟩
        have hw3 : IntKind.i64.wrap ((q : Int) + (i : Int)) = (x : Int) := by have := Hx.out; rw [IntKind.wrap_i64]; omega
        have hix2 : x < 2048 := by have := Hx.out; omega
        have hix : (x : Int) < 2048 := by omega
        have HTN : Hid ((B.drop q).take (i + 1) = (B.drop q).take i ++ [u]) := by
          unfold Hid
          rw [Hu.out, Hx.out]
          exact take_next (by rw [HLEN.out]; have := Hx.out; omega)
        have hSd : wr.drew.heap[R]? = some (.cells #[.slice s0.p s0.n s0.c, .int .i64 (q : Nat), .int .i64 (-1)] 140 (0, 0)) ∧ Apart [] wB wr.drew := ⟨keep0 (Apart.refl [] wr).drew HROW.out, HBF.out.nw.ap.drew⟩
        have HBFd := hid (HBF.out.kept (Apart.refl [] wr).drew)
        have HWAd := hid HWA.out.drew
        go_upto_region 7 with fail
        refine wp_region_held_drew (S := fun W => W.heap[R]? = some (.cells #[.slice s0.p s0.n s0.c, .int .i64 (q : Nat), .int .i64 (-1)] 140 (0, 0)) ∧ Apart [] wB W) (by kernel_rfl) hSd (fun hHeld => ?_)
        generalize wr.drew = wd at *
        obtain ⟨t2, W2, hrun, hb2, hg2⟩ := app_byte HBFd.out u (by simp; omega)
        have HRUN := hid hrun
        have HB2 : Hid (Bf wB W2 t2 ((B.drop q).take (i + 1))) := by unfold Hid; rw [HTN.out]; exact hb2
        have hS2 : W2.heap[R]? = some (.cells #[.slice s0.p s0.n s0.c, .int .i64 (q : Nat), .int .i64 (-1)] 140 (0, 0)) ∧ Apart [] wB W2 := ⟨hg2.block HBFd.out hHeld.1 (by decide), hb2.nw.ap⟩
        have hS1 : (wd.alloc (Obj.cells #[.int .u8 (u : Int)] 5)).heap[R]? = some (.cells #[.slice s0.p s0.n s0.c, .int .i64 (q : Nat), .int .i64 (-1)] 140 (0, 0)) ∧ Apart [] wB (wd.alloc (Obj.cells #[.int .u8 (u : Int)] 5)) := ⟨keep0 ((Apart.refl [] wd).alloc _) hHeld.1, hHeld.2.alloc _⟩
        have HWA2 : Hid (Apart [R] w W2) := HWAd.out.trans' hg2.ap (fun y hy => .inr (HFR.out y (by simpa using hy)))
        have HFR2 : Hid (∀ k, t2.v.ownBlock = some k → w.heap.size ≤ k) := fun k hk => (hg2.new k hk).elim (HFR.out k) (fun h => Nat.le_trans HWAd.out.size h)
        clear hrun hb2 hg2
        refine tk 0 17 (.slice t.p t.n t.c) rfl ?_ ?_
        · intro W hSW; go_simp
        simp only [Act.put, List.setIfInBounds_toArray, List.set_cons_zero, List.set_cons_succ]
        refine tk 1 18 (.pointer (some ⟨R, 0, none⟩)) rfl ?_ ?_
        · intro W hSW; go_simp
        simp only [Act.put, List.setIfInBounds_toArray, List.set_cons_zero, List.set_cons_succ]
        refine tk 2 19 (.pointer (some ⟨R, 0, none⟩)) rfl ?_ ?_
        · intro W hSW; go_simp
        simp only [Act.put, List.setIfInBounds_toArray, List.set_cons_zero, List.set_cons_succ]
        refine tk 3 20 (.pointer (some ⟨R, 0, none⟩)) rfl ?_ ?_
        · intro W hSW; go_simp
        simp only [Act.put, List.setIfInBounds_toArray, List.set_cons_zero, List.set_cons_succ]
        refine tk 4 21 (.slice (some ⟨P, o, none⟩) 2048 s0.c) rfl ?_ ?_
        · intro W hSW; obtain ⟨c0, c1, cc⟩ := HCL.out W hSW; go_simp
        simp only [Act.put, List.setIfInBounds_toArray, List.set_cons_zero, List.set_cons_succ]
        refine tk 5 22 (.pointer (some ⟨R, 0, none⟩)) rfl ?_ ?_
        · intro W hSW; go_simp
        simp only [Act.put, List.setIfInBounds_toArray, List.set_cons_zero, List.set_cons_succ]
        refine tk 6 23 (.pointer (some ⟨R, 0, none⟩)) rfl ?_ ?_
        · intro W hSW; go_simp
        simp only [Act.put, List.setIfInBounds_toArray, List.set_cons_zero, List.set_cons_succ]
        refine tk 7 24 (.pointer (some ⟨R, 1, none⟩)) rfl ?_ ?_
        · intro W hSW; go_simp
        simp only [Act.put, List.setIfInBounds_toArray, List.set_cons_zero, List.set_cons_succ]
        refine tk 8 25 (.int .i64 (q : Nat)) rfl ?_ ?_
        · intro W hSW; obtain ⟨c0, c1, cc⟩ := HCL.out W hSW; go_simp
        simp only [Act.put, List.setIfInBounds_toArray, List.set_cons_zero, List.set_cons_succ]
        refine tk 9 26 (.int .i64 (i : Nat)) rfl ?_ ?_
        · intro W hSW; go_simp
        simp only [Act.put, List.setIfInBounds_toArray, List.set_cons_zero, List.set_cons_succ]
        refine tk 10 27 (.int .i64 (x : Nat)) rfl ?_ ?_
        · intro W hSW; go_simp
        simp only [Act.put, List.setIfInBounds_toArray, List.set_cons_zero, List.set_cons_succ]
        refine tk 11 28 (.pointer (some ⟨P, o + x, none⟩)) rfl ?_ ?_
        · intro W hSW; go_simp
        simp only [Act.put, List.setIfInBounds_toArray, List.set_cons_zero, List.set_cons_succ]
        refine tk 12 29 (.int .u8 (u : Nat)) rfl ?_ ?_
        · intro W hSW; obtain ⟨c0, c1, cc⟩ := HCL.out W hSW; have cu := cc x hix2; rw [← Hu.out] at cu; clear cc; go_simp
        simp only [Act.put, List.setIfInBounds_toArray, List.set_cons_zero, List.set_cons_succ]
        refine wpAnyH_ready (rs := [13]) (by kernel_rfl) (by simp) ?_
        refine AllReadyH.cons rfl (fun KK hKK => ?_) AllReadyH.nil
        go_simp
        refine hKK.out _ _ hS1 (fun hHeld => ?_)
        clear hKK KK
        try simp only [Act.put, List.setIfInBounds_toArray, List.set_cons_zero, List.set_cons_succ]
        refine wpAnyH_ready (rs := [14]) (by kernel_rfl) (by simp) ?_
        refine AllReadyH.cons rfl (fun KK hKK => ?_) AllReadyH.nil
        refine step_app2 (o := ⟨some 31, _, _, _, _, _⟩) rfl (.tmp 17) (.tmp 30) 28 28 rfl _ _ rfl rfl _ _ HRUN.out ?_
        refine hKK.out _ _ hS2 (fun hHeld => ?_)
        clear hKK KK
        try simp only [Act.put, List.setIfInBounds_toArray, List.set_cons_zero, List.set_cons_succ]
        refine tk 15 5 (.slice t2.p t2.n t2.c) rfl ?_ ?_
        · intro W hSW; go_simp
        simp only [Act.put, List.setIfInBounds_toArray, List.set_cons_zero, List.set_cons_succ]
        refine wpAnyH_done (by kernel_rfl) ?_ _
        have HS2 := hid hHeld
        clear hHeld hSd hS1 hS2
        go_wp2_with fail
        go_roundw
        case rel => exact ⟨i + 1, t2, rfl, by go_num, by omega, HS2.out.1, HB2.out, HWA2.out, HFR2.out⟩
        case measure => simp [intOf]; omega
      · have hlti : ¬ ((i : Nat) : Int) < (n : Int) := by omega
        have hie : i = n := by omega
        subst hie
        have y1 := crow HROW.out 1 _ rfl
        have f1 := frozen_of_row _ _ 1 _ _ HROW.out
        have hw6 : IntKind.i64.wrap ((q : Int) + (i : Int)) = ((q + i : Nat) : Int) := by rw [IntKind.wrap_i64]; omega
        have hb2 := heap_setCell_same wr R 1 _ 140 (.int .i64 ((q + i : Nat) : Int)) HROW.out
        have ha2 : Apart [R] wr (wr.setCell ⟨R, 1, none⟩ (.int .i64 ((q + i : Nat) : Int))) := (Apart.refl [R] wr).setCell (.inl (by simp)) _
        have HX : Hid (TkP wB w R s0 B ⟨q, false⟩ i (.returned (.slice t.p t.n t.c)) (wr.setCell ⟨R, 1, none⟩ (.int .i64 ((q + i : Nat) : Int)))) := by
          have ha3 : Apart [R] w (wr.setCell ⟨R, 1, none⟩ (.int .i64 ((q + i : Nat) : Int))) := HWA.out.trans ha2
          have haB : Apart [] wB (wr.setCell ⟨R, 1, none⟩ (.int .i64 ((q + i : Nat) : Int))) := HBF.out.nw.ap.trans' ha2 (fun y hy => by simp at hy; exact .inr (by rw [hy]; exact HNEW.out))
          refine ⟨⟨t, rfl, (fun h => by cases h), (fun _ => ⟨HBF.out.nw.keepT ha2 haB (fun k hk cur hh => ?_), HBF.out.len⟩)⟩, ?_, ha3⟩
          · simp at hk
            rw [hk, HROW.out] at hh
            simp at hh
          · exact { HH.out with ex := ⟨q + i, by rw [hb2]; rfl, fun _ => rfl, by omega⟩, ap := haB, le := by show q + i ≤ 2048; omega }
        clear hb2 ha2
        go_wp2_with fail
        go_ret
        exact HX.out
end Go.Proofs.Ytllhmidpphlbhaa.ds
namespace Go.Proofs.Ytllhmidpphlbhaa.ds
open Go.ChangeShapes Go.WideShapes Go.ChangeAt Go.RowKit Go.Sort
set_option linter.unusedVariables false
set_option linter.unusedSimpArgs false
set_option maxHeartbeats 4000000 in
set_option maxRecDepth 100000 in
theorem fail_ok {wB w : World} {R : Nat} {s0 : Sl} {B : List Nat} {q' : Nat} (h : RX wB w R s0 B ⟨q', false⟩) (q : Nat) (hq : q ≤ 2048) : Calls Try.prog 102 #[.pointer (some ⟨R, 0, none⟩), .int .i64 (q : Nat)] w fun e w' => e = .returned (.tuple #[]) ∧ RX wB w' R s0 B ⟨q, true⟩ ∧ Apart [R] w w' := by
  obtain ⟨a, hb, ha, ha2⟩ := h.ex
  have e0 := ha rfl
  have e1 : wrP ⟨q', false⟩ = -1 := rfl
  rw [e1] at hb
  have z2 := crow hb 2 _ rfl
  have f2 := frozen_of_row _ _ 2 _ _ hb
  have hb2 := heap_setCell_same w R 2 _ 140 (.int .i64 (q : Nat)) hb
  have hA2 : Apart [R] w (w.setCell ⟨R, 2, none⟩ (.int .i64 (q : Nat))) := (Apart.refl [R] w).setCell (.inl (by simp)) _
  have HX : Hid (RX wB (w.setCell ⟨R, 2, none⟩ (.int .i64 (q : Nat))) R s0 B ⟨q, true⟩ ∧ Apart [R] w (w.setCell ⟨R, 2, none⟩ (.int .i64 (q : Nat)))) :=
    ⟨{ h with ex := ⟨a, by rw [hb2]; rfl, (fun h => by cases h), ha2⟩, ap := h.ap.trans' hA2 (fun y hy => by simp at hy; exact .inr (by rw [hy]; exact h.new)), le := hq }, hA2⟩
  clear hb hb2 hA2 h
  go_enter Try.func102, Try.ntmps102
  go_wp2_with fail
  go_end0
  exact ⟨rfl, HX.out⟩
end Go.Proofs.Ytllhmidpphlbhaa.ds
