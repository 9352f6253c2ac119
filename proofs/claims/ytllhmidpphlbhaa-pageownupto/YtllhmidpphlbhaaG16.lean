import Derived.Test.YtllhmidpphlbhaaG15
namespace Go.Proofs.Ytllhmidpphlbhaa.ds
open Go.ChangeShapes Go.WideShapes Go.ChangeAt Go.RowKit Go.Sort
set_option linter.unusedVariables false
set_option linter.unusedSimpArgs false

/-- where the reader in memory stands -/
def plc (w : World) (R : Nat) : Nat := match w.cell? ⟨R, 1, none⟩, w.cell? ⟨R, 2, none⟩ with
  | some (.int _ n), some (.bool b) => 2 * (4096 - n.toNat) + (if b = true then 0 else 1)
  | _, _ => 0
theorem PR.plc {w : World} {R P o c : Nat} {B : List Nat} {s : Ps} (h : PR w R P o c B s) : plc w R = 2 * (4096 - s.at_) + (if s.bad = true then 0 else 1) := by
  obtain ⟨z0, z1, z2, _, _⟩ := h.cells
  unfold ds.plc
  rw [z1, z2]
  simp
/-- the walk over the zeros -/
structure ZI (w wt : World) (R P o c : Nat) (B : List Nat) (s si : Ps) (f : Nat) : Prop where
  r : PR wt R P o c B si
  a : Apart [R] w wt
  e : zerosR B 2048 s = zerosR B f si
  f : si.bad = false → 2048 ≤ si.at_ + f
set_option maxHeartbeats 8000000 in
set_option maxRecDepth 100000 in
theorem zeros_ok {w : World} {R P o c : Nat} {B : List Nat} {s : Ps} (h : PR w R P o c B s) :
    Calls Try.prog 50 #[.pointer (some ⟨R, 0, none⟩)] w fun e w' => PO w w' R P o c B e (.tuple #[]) (zerosR B 2048 s) := by
  have HI : Hid (ZI w w R P o c B s s 2048) := ⟨h, Apart.refl _ _, rfl, fun _ => by omega⟩
  clear h
  go_enter Try.func50, Try.ntmps50
  go_wp2_with fail
  go_loopw [] (fun wt => ∃ (si : Ps) (f : Nat), ZI w wt R P o c B s si f) (fun wt => plc wt R)
  case atStart => exact ⟨s, 2048, HI.out⟩
  case round =>
    obtain ⟨si, f, hI⟩ := hrel
    have HJ := hid hI
    clear hI HI
    obtain ⟨q, b⟩ := si
    have HC : Hid (∀ W, Apart [] wr W → W.cell? ⟨R, 0, none⟩ = some (.slice (some ⟨P, o, none⟩) 2048 c) ∧ W.cell? ⟨R, 1, none⟩ = some (.int .i64 (q : Nat)) ∧ W.cell? ⟨R, 2, none⟩ = some (.bool b)) := fun W a => by
      have := (HJ.out.r.kept0 a).cells
      exact ⟨this.1, this.2.1, this.2.2.1⟩
    have hq := HJ.out.r.le
    dsimp only at hq
    cases b with
    | true =>
      go_upto_region 0 with fail
      refine wp_region_held_drew (S := fun W => Apart [] wr W) (by kernel_rfl) (Apart.refl [] wr).drew (fun hHeld => ?_)
      have Twd : Hid (Apart [] wr wr.drew) := (Apart.refl [] wr).drew
      generalize wr.drew = wd at *
      refine tk 0 2 (.pointer (some ⟨R, 0, none⟩)) rfl ?_ ?_
      · intro W hSW; go_simp
      simp only [Act.put, List.setIfInBounds_toArray, List.set_cons_zero, List.set_cons_succ]
      refine tk 1 3 (.pointer (some ⟨R, 0, none⟩)) rfl ?_ ?_
      · intro W hSW; go_simp
      simp only [Act.put, List.setIfInBounds_toArray, List.set_cons_zero, List.set_cons_succ]
      refine tk 2 4 (.pointer (some ⟨R, 2, none⟩)) rfl ?_ ?_
      · intro W hSW; go_simp
      simp only [Act.put, List.setIfInBounds_toArray, List.set_cons_zero, List.set_cons_succ]
      refine tk 3 5 (.bool true) rfl ?_ ?_
      · intro W hSW; obtain ⟨z0, z1, z2⟩ := HC.out W hSW; go_simp
      simp only [Act.put, List.setIfInBounds_toArray, List.set_cons_zero, List.set_cons_succ]
      refine tk 4 6 (.bool false) rfl ?_ ?_
      · intro W hSW; go_simp
      simp only [Act.put, List.setIfInBounds_toArray, List.set_cons_zero, List.set_cons_succ]
      refine tk 5 7 (.bool false) rfl ?_ ?_
      · intro W hSW; go_simp
      simp only [Act.put, List.setIfInBounds_toArray, List.set_cons_zero, List.set_cons_succ]
      refine tu 6 8 rfl ?_
      simp only [Act.put, List.setIfInBounds_toArray, List.set_cons_zero, List.set_cons_succ]
      refine tu 7 9 rfl ?_
      simp only [Act.put, List.setIfInBounds_toArray, List.set_cons_zero, List.set_cons_succ]
      refine tu 8 10 rfl ?_
      simp only [Act.put, List.setIfInBounds_toArray, List.set_cons_zero, List.set_cons_succ]
      refine tu 9 11 rfl ?_
      simp only [Act.put, List.setIfInBounds_toArray, List.set_cons_zero, List.set_cons_succ]
      refine tu 10 12 rfl ?_
      simp only [Act.put, List.setIfInBounds_toArray, List.set_cons_zero, List.set_cons_succ]
      refine tu 11 13 rfl ?_
      simp only [Act.put, List.setIfInBounds_toArray, List.set_cons_zero, List.set_cons_succ]
      refine tu 12 14 rfl ?_
      simp only [Act.put, List.setIfInBounds_toArray, List.set_cons_zero, List.set_cons_succ]
      refine tu 13 15 rfl ?_
      simp only [Act.put, List.setIfInBounds_toArray, List.set_cons_zero, List.set_cons_succ]
      refine tu 14 16 rfl ?_
      simp only [Act.put, List.setIfInBounds_toArray, List.set_cons_zero, List.set_cons_succ]
      refine tu 15 17 rfl ?_
      simp only [Act.put, List.setIfInBounds_toArray, List.set_cons_zero, List.set_cons_succ]
      refine tk 16 18 (.bool false) rfl ?_ ?_
      · intro W hSW; go_simp
      simp only [Act.put, List.setIfInBounds_toArray, List.set_cons_zero, List.set_cons_succ]
      refine wpAnyH_done (by kernel_rfl) ?_ _
      clear hHeld
      go_wp2_with fail
      first | go_end0 | skip
      rw [HJ.out.e, zerosR_bad B f rfl]
      exact ⟨rfl, HJ.out.r.kept0 Twd.out, HJ.out.a.trans (Twd.out.mono (by simp))⟩
    | false =>
      by_cases hlt : q < 2048
      · have hlti : ((q : Nat) : Int) < 2048 := by omega
        have hf := HJ.out.f rfl
        dsimp only at hf
        have HN := fun W (hW : PR W R P o c B ⟨q, false⟩) => hid (number_ok hW 1 0 0 ⟨by omega, by omega⟩ (fun _ => by dsimp only; omega) (by omega) (by omega))
        go_upto_region 0 with fail
        refine wp_region_held_drew (S := fun W => Apart [] wr W) (by kernel_rfl) (Apart.refl [] wr).drew (fun hHeld => ?_)
        have Twd : Hid (Apart [] wr wr.drew) := (Apart.refl [] wr).drew
        generalize wr.drew = wd at *
        refine tk 0 2 (.pointer (some ⟨R, 0, none⟩)) rfl ?_ ?_
        · intro W hSW; go_simp
        simp only [Act.put, List.setIfInBounds_toArray, List.set_cons_zero, List.set_cons_succ]
        refine tk 1 3 (.pointer (some ⟨R, 0, none⟩)) rfl ?_ ?_
        · intro W hSW; go_simp
        simp only [Act.put, List.setIfInBounds_toArray, List.set_cons_zero, List.set_cons_succ]
        refine tk 2 4 (.pointer (some ⟨R, 2, none⟩)) rfl ?_ ?_
        · intro W hSW; go_simp
        simp only [Act.put, List.setIfInBounds_toArray, List.set_cons_zero, List.set_cons_succ]
        refine tk 3 5 (.bool false) rfl ?_ ?_
        · intro W hSW; obtain ⟨z0, z1, z2⟩ := HC.out W hSW; go_simp
        simp only [Act.put, List.setIfInBounds_toArray, List.set_cons_zero, List.set_cons_succ]
        refine tk 4 6 (.bool true) rfl ?_ ?_
        · intro W hSW; go_simp
        simp only [Act.put, List.setIfInBounds_toArray, List.set_cons_zero, List.set_cons_succ]
        refine tk 5 7 (.bool true) rfl ?_ ?_
        · intro W hSW; go_simp
        simp only [Act.put, List.setIfInBounds_toArray, List.set_cons_zero, List.set_cons_succ]
        refine tk 6 8 (.pointer (some ⟨R, 0, none⟩)) rfl ?_ ?_
        · intro W hSW; go_simp
        simp only [Act.put, List.setIfInBounds_toArray, List.set_cons_zero, List.set_cons_succ]
        refine tk 7 9 (.pointer (some ⟨R, 0, none⟩)) rfl ?_ ?_
        · intro W hSW; go_simp
        simp only [Act.put, List.setIfInBounds_toArray, List.set_cons_zero, List.set_cons_succ]
        refine tk 8 10 (.pointer (some ⟨R, 1, none⟩)) rfl ?_ ?_
        · intro W hSW; go_simp
        simp only [Act.put, List.setIfInBounds_toArray, List.set_cons_zero, List.set_cons_succ]
        refine tk 9 11 (.int .i64 (q : Nat)) rfl ?_ ?_
        · intro W hSW; obtain ⟨z0, z1, z2⟩ := HC.out W hSW; go_simp
        simp only [Act.put, List.setIfInBounds_toArray, List.set_cons_zero, List.set_cons_succ]
        refine tk 10 12 (.pointer (some ⟨R, 0, none⟩)) rfl ?_ ?_
        · intro W hSW; go_simp
        simp only [Act.put, List.setIfInBounds_toArray, List.set_cons_zero, List.set_cons_succ]
        refine tk 11 13 (.pointer (some ⟨R, 0, none⟩)) rfl ?_ ?_
        · intro W hSW; go_simp
        simp only [Act.put, List.setIfInBounds_toArray, List.set_cons_zero, List.set_cons_succ]
        refine tk 12 14 (.pointer (some ⟨R, 0, none⟩)) rfl ?_ ?_
        · intro W hSW; go_simp
        simp only [Act.put, List.setIfInBounds_toArray, List.set_cons_zero, List.set_cons_succ]
        refine tk 13 15 (.slice (some ⟨P, o, none⟩) 2048 c) rfl ?_ ?_
        · intro W hSW; obtain ⟨z0, z1, z2⟩ := HC.out W hSW; go_simp
        simp only [Act.put, List.setIfInBounds_toArray, List.set_cons_zero, List.set_cons_succ]
        refine tk 14 16 (.int .i64 2048) rfl ?_ ?_
        · intro W hSW; go_simp
        simp only [Act.put, List.setIfInBounds_toArray, List.set_cons_zero, List.set_cons_succ]
        refine tk 15 17 (.bool true) rfl ?_ ?_
        · intro W hSW; go_simp
        simp only [Act.put, List.setIfInBounds_toArray, List.set_cons_zero, List.set_cons_succ]
        refine tk 16 18 (.bool true) rfl ?_ ?_
        · intro W hSW; go_simp
        simp only [Act.put, List.setIfInBounds_toArray, List.set_cons_zero, List.set_cons_succ]
        refine wpAnyH_done (by kernel_rfl) ?_ _
        clear hHeld
        go_wp2_with fail
        refine (HN _ (HJ.out.r.kept0 Twd.out)).out.mono ?_
        rintro _ w1 ⟨rfl, r1, a1⟩
        have HR1 := hid r1
        have HA1 := hid ((HJ.out.a.trans (Twd.out.mono (by simp))).trans a1)
        have HB1 := hid HJ.out.r.plc
        have HB2 := hid r1.plc
        clear r1 a1 HN
        dsimp only
        obtain ⟨f', rfl⟩ : ∃ f', f = f' + 1 := ⟨f - 1, by omega⟩
        have HE : Hid (zerosR B 2048 s = zerosR B f' (num B 1 0 0 ⟨q, false⟩).2) := by
          unfold Hid
          rw [HJ.out.e]
          show (if _ then _ else _) = _
          rw [if_pos ⟨rfl, hlt⟩]
        have h1 := num_at B 1 0 0 ⟨q, false⟩
        have h2 := num_ok B 1 0 0 ⟨q, false⟩
        generalize num B 1 0 0 ⟨q, false⟩ = x at *
        obtain ⟨n, q', b'⟩ := x
        dsimp only at h1 h2 HE HB1 HB2 HR1
        go_wp2_with fail
        go_roundw
        case rel => exact ⟨⟨q', b'⟩, f', HR1.out, HA1.out, HE.out, fun hb => by
          dsimp only at hb ⊢
          have := (h2 hb).2.1
          simp only [Prod.mk.injEq, Ps.mk.injEq] at this
          omega⟩
        case measure =>
          rw [HB1.out, HB2.out]
          cases b' with
          | true => simp; omega
          | false =>
            have := (h2 rfl).2.1
            simp only [Prod.mk.injEq, Ps.mk.injEq] at this
            simp; omega
      · have hlti : ¬ ((q : Nat) : Int) < 2048 := by omega
        go_upto_region 0 with fail
        refine wp_region_held_drew (S := fun W => Apart [] wr W) (by kernel_rfl) (Apart.refl [] wr).drew (fun hHeld => ?_)
        have Twd : Hid (Apart [] wr wr.drew) := (Apart.refl [] wr).drew
        generalize wr.drew = wd at *
        refine tk 0 2 (.pointer (some ⟨R, 0, none⟩)) rfl ?_ ?_
        · intro W hSW; go_simp
        simp only [Act.put, List.setIfInBounds_toArray, List.set_cons_zero, List.set_cons_succ]
        refine tk 1 3 (.pointer (some ⟨R, 0, none⟩)) rfl ?_ ?_
        · intro W hSW; go_simp
        simp only [Act.put, List.setIfInBounds_toArray, List.set_cons_zero, List.set_cons_succ]
        refine tk 2 4 (.pointer (some ⟨R, 2, none⟩)) rfl ?_ ?_
        · intro W hSW; go_simp
        simp only [Act.put, List.setIfInBounds_toArray, List.set_cons_zero, List.set_cons_succ]
        refine tk 3 5 (.bool false) rfl ?_ ?_
        · intro W hSW; obtain ⟨z0, z1, z2⟩ := HC.out W hSW; go_simp
        simp only [Act.put, List.setIfInBounds_toArray, List.set_cons_zero, List.set_cons_succ]
        refine tk 4 6 (.bool true) rfl ?_ ?_
        · intro W hSW; go_simp
        simp only [Act.put, List.setIfInBounds_toArray, List.set_cons_zero, List.set_cons_succ]
        refine tk 5 7 (.bool true) rfl ?_ ?_
        · intro W hSW; go_simp
        simp only [Act.put, List.setIfInBounds_toArray, List.set_cons_zero, List.set_cons_succ]
        refine tk 6 8 (.pointer (some ⟨R, 0, none⟩)) rfl ?_ ?_
        · intro W hSW; go_simp
        simp only [Act.put, List.setIfInBounds_toArray, List.set_cons_zero, List.set_cons_succ]
        refine tk 7 9 (.pointer (some ⟨R, 0, none⟩)) rfl ?_ ?_
        · intro W hSW; go_simp
        simp only [Act.put, List.setIfInBounds_toArray, List.set_cons_zero, List.set_cons_succ]
        refine tk 8 10 (.pointer (some ⟨R, 1, none⟩)) rfl ?_ ?_
        · intro W hSW; go_simp
        simp only [Act.put, List.setIfInBounds_toArray, List.set_cons_zero, List.set_cons_succ]
        refine tk 9 11 (.int .i64 (q : Nat)) rfl ?_ ?_
        · intro W hSW; obtain ⟨z0, z1, z2⟩ := HC.out W hSW; go_simp
        simp only [Act.put, List.setIfInBounds_toArray, List.set_cons_zero, List.set_cons_succ]
        refine tk 10 12 (.pointer (some ⟨R, 0, none⟩)) rfl ?_ ?_
        · intro W hSW; go_simp
        simp only [Act.put, List.setIfInBounds_toArray, List.set_cons_zero, List.set_cons_succ]
        refine tk 11 13 (.pointer (some ⟨R, 0, none⟩)) rfl ?_ ?_
        · intro W hSW; go_simp
        simp only [Act.put, List.setIfInBounds_toArray, List.set_cons_zero, List.set_cons_succ]
        refine tk 12 14 (.pointer (some ⟨R, 0, none⟩)) rfl ?_ ?_
        · intro W hSW; go_simp
        simp only [Act.put, List.setIfInBounds_toArray, List.set_cons_zero, List.set_cons_succ]
        refine tk 13 15 (.slice (some ⟨P, o, none⟩) 2048 c) rfl ?_ ?_
        · intro W hSW; obtain ⟨z0, z1, z2⟩ := HC.out W hSW; go_simp
        simp only [Act.put, List.setIfInBounds_toArray, List.set_cons_zero, List.set_cons_succ]
        refine tk 14 16 (.int .i64 2048) rfl ?_ ?_
        · intro W hSW; go_simp
        simp only [Act.put, List.setIfInBounds_toArray, List.set_cons_zero, List.set_cons_succ]
        refine tk 15 17 (.bool false) rfl ?_ ?_
        · intro W hSW; go_simp
        simp only [Act.put, List.setIfInBounds_toArray, List.set_cons_zero, List.set_cons_succ]
        refine tk 16 18 (.bool false) rfl ?_ ?_
        · intro W hSW; go_simp
        simp only [Act.put, List.setIfInBounds_toArray, List.set_cons_zero, List.set_cons_succ]
        refine wpAnyH_done (by kernel_rfl) ?_ _
        clear hHeld
        go_wp2_with fail
        first | go_end0 | skip
        have HE : Hid (zerosR B f ⟨q, false⟩ = ⟨q, false⟩) := by
          unfold Hid
          cases f with
          | zero => rfl
          | succ f => show (if _ then _ else _) = _; rw [if_neg (fun h => hlt h.2)]
        rw [HJ.out.e, HE.out]
        exact ⟨rfl, HJ.out.r.kept0 Twd.out, HJ.out.a.trans (Twd.out.mono (by simp))⟩
end Go.Proofs.Ytllhmidpphlbhaa.ds
namespace Go.Proofs.Ytllhmidpphlbhaa.ds
open Go.ChangeShapes Go.WideShapes Go.ChangeAt Go.RowKit Go.Sort
set_option linter.unusedVariables false
set_option linter.unusedSimpArgs false

/-- bytes that can be read, with room behind them -/
structure Pb (w : World) (s : Sl) (B : List Nat) : Prop where
  rd : Rd w s.p (byts B)
  len : B.length = s.n
  b8 : ∀ b ∈ B, b < 256
  cap : s.n ≤ s.c
  ok : s.ok
  lim : s.n ≤ 1073741824
theorem Pb.kept0 {w w' : World} {s : Sl} {B : List Nat} (h : Pb w s B) (a : Apart [] w w') : Pb w' s B := { h with rd := h.rd.kept0 a }
/-- a page's reader over such bytes -/
theorem Pb.reader {w : World} {s : Sl} {B : List Nat} (h : Pb w s B) (hn : s.n = 2048) : ∃ P o, s.p = some ⟨P, o, none⟩ ∧ P < w.heap.size ∧ ∀ w1 R, Apart [] w w1 → w.heap.size ≤ R → w1.heap[R]? = some (.cells #[.slice s.p s.n s.c, .int .i64 0, .bool false] 97 (0, 0)) → PR w1 R P o s.c B ⟨0, false⟩ := by
  have hl := h.len
  obtain ⟨P, o, e, hP, hc⟩ := h.rd (by simp [byts]; omega)
  refine ⟨P, o, e, hP, fun w1 R a hR hb => ⟨?_, ?_, by omega, h.b8, by show 0 ≤ 2048; omega, by have := h.cap; omega, by omega⟩⟩
  · rw [hb, e, hn]; rfl
  · have := h.rd.kept0 a
    rw [e] at this; exact this
theorem hd_room {B : List Nat} : (headR B ⟨0, false⟩).2.at_ ≤ 19 ∧ (headR B ⟨0, false⟩).1.m ≤ 16 ∧ ((headR B ⟨0, false⟩).1.k ≠ 1 → (headR B ⟨0, false⟩).1.m ≤ 8) := by
  have h := headR_at B ⟨0, false⟩
  dsimp only at h
  exact ⟨by omega, h.2.2.2.1, h.2.2.2.2.1⟩
theorem keyV_one (P o : Nat) (h : Ph) : (keyV P o h).oneCell' = true := by unfold keyV; split <;> rfl

set_option maxHeartbeats 8000000 in
set_option maxRecDepth 100000 in
theorem check_ok {w : World} {s : Sl} {B : List Nat} (h : Pb w s B) :
    Calls Try.prog 18 #[.slice s.p s.n s.c] w fun e w' => e = .returned (.tuple #[.int .i64 ((checkR B).1 : Nat), .int .i64 ((checkR B).2.1 : Nat), .int .i64 ((checkR B).2.2 : Nat)]) ∧ Apart [] w w' := by
  have HP := hid h
  have hlim := h.lim
  have hl := h.len
  by_cases hn : s.n = 2048
  · obtain ⟨P, o, hp, hPl, hrd⟩ := h.reader hn
    have HCK : Hid (checkR B = if (endR B).bad = true then (0, (endR B).at_, 70) else ((bodyR B).1.k, 0, 0)) := by unfold Hid checkR; rw [if_pos (by omega)]
    obtain ⟨R, HXR⟩ : ∃ X, Hid (X = w.heap.size) := ⟨_, rfl⟩
    obtain ⟨w1, hw1⟩ : ∃ W, W = w.alloc (.cells #[.slice s.p s.n s.c, .int .i64 0, .bool false] 97) := ⟨_, rfl⟩
    have HW1 : Hid (Apart [] w w1) := by unfold Hid; rw [hw1]; exact (Apart.refl [] w).alloc _
    have HR : Hid (PR w1 R P o s.c B ⟨0, false⟩) := hrd w1 R HW1.out (by rw [HXR.out]; exact Nat.le_refl _) (by rw [HXR.out, hw1]; exact heap_alloc_new w _)
    have HA : Hid (Apart [R] w1 w1) := Apart.refl _ _
    have HLR : Hid (w.heap.size ≤ R) := by unfold Hid; rw [HXR.out]; exact Nat.le_refl _
    have HFIN : Hid (∀ z, Apart [R] w1 z → Apart [] w z) := fun z a => HW1.out.trans' a (by intro y hy; simp at hy; rw [hy]; exact .inr HLR.out)
    have HC1 := fun W (hW : PR W R P o s.c B ⟨0, false⟩) => hid (head_ok hW (fun _ => by dsimp only; omega))
    have HRM := hid (hd_room (B := B))
    have HBO : Hid (bodyR B = ((headR B ⟨0, false⟩).1, if (headR B ⟨0, false⟩).1.k = 1 then (clocksR B (headR B ⟨0, false⟩).1.m 0 (headR B ⟨0, false⟩).2).2 else (writesR B (headR B ⟨0, false⟩).1.m 0 0 (headR B ⟨0, false⟩).2).2)) := rfl
    generalize headR B ⟨0, false⟩ = x at *
    obtain ⟨hd, s1⟩ := x
    dsimp only at HC1 HRM HBO
    have HC2 := fun W (hW : PR W R P o s.c B s1) => hid (clocks_ok hW hd.m (by have := HRM.out; omega) (fun hb => by have := HRM.out; omega))
    have HC3 := fun W (hW : PR W R P o s.c B s1) (hk : hd.k ≠ 1) => hid (writes_ok hW hd.m (by have := HRM.out; omega) (fun hb => by have := HRM.out; have := this.2.2 hk; omega))
    have hni : ((s.n : Nat) : Int) = 2048 := by omega
    clear h hrd hl hlim HRM hp hn hPl
    go_enter Try.func18, Try.ntmps18
    go_wp2_with fail
    rw [← hw1, ← HXR.out]
    clear hw1 HXR
    refine (HC1 _ HR.out).out.mono ?_
    rintro _ w2 ⟨rfl, rw2, aw2⟩
    replace HR := hid rw2
    replace HA := hid (HA.out.trans aw2)
    clear rw2 aw2 HC1
    have HKV := hid (keyV_one P o hd)
    unfold hdV
    generalize keyV P o hd = kv at *
    obtain ⟨H, HXH⟩ : ∃ X, Hid (X = w2.heap.size) := ⟨_, rfl⟩
    obtain ⟨w3, hw3⟩ : ∃ W, W = w2.alloc (.cells #[.int .i64 0, .int .i64 0, .int .i64 0, .int .i64 0, .slice none 0 0] 99) := ⟨_, rfl⟩
    have HSw3 : Hid (Apart [] w2 w3) := by unfold Hid; rw [hw3]; exact (Apart.refl [] w2).alloc _
    have HBH : Hid (w3.heap[H]? = some (.cells #[.int .i64 0, .int .i64 0, .int .i64 0, .int .i64 0, .slice none 0 0] 99 (0, 0))) := by unfold Hid; rw [HXH.out, hw3]; exact heap_alloc_new w2 _
    have HNH_R : Hid (H ≠ R) := by unfold Hid; have := lt_of_heap HR.out.blk; rw [HXH.out]; omega
    have HNH_P : Hid (P ≠ H) := by unfold Hid; have := HR.out.lt; rw [HXH.out]; omega
    have HLH : Hid (w1.heap.size ≤ H) := by unfold Hid; rw [HXH.out]; exact HA.out.size
    replace HR := hid (HR.out.kept0 HSw3.out)
    replace HA := hid (HA.out.trans (HSw3.out.mono (by simp)))
    obtain ⟨w4, hw4⟩ : ∃ W, W = w3.setCells H 0 (hdL hd.k hd.g hd.o hd.m kv) := ⟨_, rfl⟩
    have HSw4 : Hid (Apart [H] w3 w4) := by unfold Hid; rw [hw4]; exact apart_setCells _ _ _ (Apart.refl _ _) (.inl (by simp))
    have HBH2 : Hid (w4.heap[H]? = some (.cells (hdL hd.k hd.g hd.o hd.m kv).toArray 99 (0, 0))) := by
      unfold Hid; rw [hw4]
      have := heap_setCells_same (hdL hd.k hd.g hd.o hd.m kv) 0 w3 _ HBH.out
      rw [spl_all (by rfl)] at this
      exact this
    replace HR := hid (HR.out.kept HSw4.out (by simp; exact HNH_R.out.symm) (by simp; exact HNH_P.out))
    replace HA := hid (HA.out.trans' HSw4.out (by intro y hy; simp at hy; rw [hy]; exact .inr HLH.out))
    clear HBH
    have HT : Hid ((w2.alloc (.cells #[.int .i64 0, .int .i64 0, .int .i64 0, .int .i64 0, .slice none 0 0] 99)).there w2.heap.size 0 (hdL hd.k hd.g hd.o hd.m kv).toArray.size) := there_of (heap_alloc_new w2 _) 0 _ (by show 0 + 5 ≤ 5; omega)
    rename_i K1 hK1
    refine hK1 _ _ ?_
    clear hK1
    refine wpList_cutat 1 (fun a' w' => Hid (wpList _ _ _ (List.drop 1 _) a' w')) (fun T hT => ?_) (fun _ _ h => h)
    dsimp only [List.take, List.cons_append, List.nil_append, List.append]
    go_wp2_with fail
    refine hT _ _ ?_
    clear hT T
    unfold Hid
    dsimp only [List.drop]
    refine wpList_store_mid rfl 99 (.tmp 6) (.tmp 15) rfl _ 0 (hdL hd.k hd.g hd.o hd.m kv).toArray rfl rfl HT.out size99 (hdL_one _ _ _ _ _ HKV.out) ?_
    rw [show (hdL hd.k hd.g hd.o hd.m kv).toArray.toList = hdL hd.k hd.g hd.o hd.m kv from rfl, ← hw3, ← HXH.out, ← hw4]
    clear HT hw3 HXH hw4
    obtain ⟨y0, y1, y2, y3, y4⟩ := cells_hd HBH2.out
    by_cases hk : hd.k = 1
    · have hki : ((hd.k : Nat) : Int) = 1 := by omega
      go_wp2_with fail
      clear y0 y1 y2 y3 y4
      refine (HC2 _ HR.out).out.mono ?_
      rintro _ w5 ⟨⟨rfl, rw5, aw5⟩, _⟩
      replace HR := hid rw5
      have HBH3 := hid (keepB aw5 HBH2.out HNH_R.out)
      replace HA := hid (HA.out.trans aw5)
      clear rw5 aw5 HC2 HC3
      dsimp only
      go_wp2_with fail
      refine (zeros_ok HR.out).mono ?_
      rintro _ w6 ⟨rfl, rw6, aw6⟩
      replace HR := hid rw6
      replace HBH3 := hid (keepB aw6 HBH3.out HNH_R.out)
      replace HA := hid (HA.out.trans aw6)
      clear rw6 aw6
      dsimp only
      have HEN : Hid (endR B = zerosR B 2048 (clocksR B hd.m 0 s1).2) := by unfold Hid endR; rw [HBO.out]; dsimp only; rw [if_pos hk]
      have HBK : Hid ((bodyR B).1.k = hd.k) := by unfold Hid; rw [HBO.out]
      rw [← HEN.out] at HR
      generalize endR B = en at *
      obtain ⟨q, b⟩ := en
      dsimp only at HCK
      obtain ⟨r0, r1, r2, r3, r4⟩ := HR.out.cells
      dsimp only at r1 r2
      obtain ⟨y0, y1, y2, y3, y4⟩ := cells_hd HBH3.out
      cases b with
      | true =>
        have HCK2 : Hid (checkR B = (0, q, 70)) := by unfold Hid; rw [HCK.out]; simp
        go_upto_region 10 with fail
        clear r0 r1 r2 r3 r4 y0 y1 y2 y3 y4
        refine wp_region_held_drew (S := fun W => Apart [] w6 W) (by kernel_rfl) (Apart.refl [] w6).drew (fun hHeld => ?_)
        have Twd : Hid (Apart [] w6 w6.drew) := (Apart.refl [] w6).drew
        have HC : Hid (∀ W, Apart [] w6 W → W.cell? ⟨R, 1, none⟩ = some (.int .i64 (q : Nat))) := fun W a => (HR.out.kept0 a).cells.2.1
        generalize w6.drew = wd at *
        refine tk 0 28 (.pointer (some ⟨R, 1, none⟩)) rfl ?_ ?_
        · intro W hSW; go_simp
        simp only [Act.put, List.setIfInBounds_toArray, List.set_cons_zero, List.set_cons_succ]
        refine tk 1 29 (.int .i64 (q : Nat)) rfl ?_ ?_
        · intro W hSW; have z1 := HC.out W hSW; go_simp
        simp only [Act.put, List.setIfInBounds_toArray, List.set_cons_zero, List.set_cons_succ]
        refine tk 2 2 (.int .i64 0) rfl ?_ ?_
        · intro W hSW; go_simp
        simp only [Act.put, List.setIfInBounds_toArray, List.set_cons_zero, List.set_cons_succ]
        refine tk 3 3 (.int .i64 (q : Nat)) rfl ?_ ?_
        · intro W hSW; go_simp
        simp only [Act.put, List.setIfInBounds_toArray, List.set_cons_zero, List.set_cons_succ]
        refine tk 4 4 (.int .i64 70) rfl ?_ ?_
        · intro W hSW; go_simp
        simp only [Act.put, List.setIfInBounds_toArray, List.set_cons_zero, List.set_cons_succ]
        refine wpAnyH_done (by kernel_rfl) ?_ _
        clear hHeld
        go_wp2_with fail
        go_ret3
        rw [HCK2.out]
        exact ⟨rfl, (HFIN.out _ HA.out).trans Twd.out⟩
      | false =>
        have HCK2 : Hid (checkR B = (hd.k, 0, 0)) := by unfold Hid; rw [HCK.out, HBK.out]; simp
        go_wp2_with fail
        go_ret3
        rw [HCK2.out]
        first | exact ⟨rfl, HFIN.out _ HA.out⟩ | exact ⟨by rw [hk]; rfl, HFIN.out _ HA.out⟩
    · have hki : ¬ ((hd.k : Nat) : Int) = 1 := by omega
      go_wp2_with fail
      clear y0 y1 y2 y3 y4
      refine (HC3 _ HR.out hk).out.mono ?_
      rintro _ w5 ⟨⟨rfl, rw5, aw5⟩, _⟩
      replace HR := hid rw5
      have HBH3 := hid (keepB aw5 HBH2.out HNH_R.out)
      replace HA := hid (HA.out.trans aw5)
      clear rw5 aw5 HC2 HC3
      dsimp only
      go_wp2_with fail
      refine (zeros_ok HR.out).mono ?_
      rintro _ w6 ⟨rfl, rw6, aw6⟩
      replace HR := hid rw6
      replace HBH3 := hid (keepB aw6 HBH3.out HNH_R.out)
      replace HA := hid (HA.out.trans aw6)
      clear rw6 aw6
      dsimp only
      have HEN : Hid (endR B = zerosR B 2048 (writesR B hd.m 0 0 s1).2) := by unfold Hid endR; rw [HBO.out]; dsimp only; rw [if_neg hk]
      have HBK : Hid ((bodyR B).1.k = hd.k) := by unfold Hid; rw [HBO.out]
      rw [← HEN.out] at HR
      generalize endR B = en at *
      obtain ⟨q, b⟩ := en
      dsimp only at HCK
      obtain ⟨r0, r1, r2, r3, r4⟩ := HR.out.cells
      dsimp only at r1 r2
      obtain ⟨y0, y1, y2, y3, y4⟩ := cells_hd HBH3.out
      cases b with
      | true =>
        have HCK2 : Hid (checkR B = (0, q, 70)) := by unfold Hid; rw [HCK.out]; simp
        go_upto_region 10 with fail
        clear r0 r1 r2 r3 r4 y0 y1 y2 y3 y4
        refine wp_region_held_drew (S := fun W => Apart [] w6 W) (by kernel_rfl) (Apart.refl [] w6).drew (fun hHeld => ?_)
        have Twd : Hid (Apart [] w6 w6.drew) := (Apart.refl [] w6).drew
        have HC : Hid (∀ W, Apart [] w6 W → W.cell? ⟨R, 1, none⟩ = some (.int .i64 (q : Nat))) := fun W a => (HR.out.kept0 a).cells.2.1
        generalize w6.drew = wd at *
        refine tk 0 28 (.pointer (some ⟨R, 1, none⟩)) rfl ?_ ?_
        · intro W hSW; go_simp
        simp only [Act.put, List.setIfInBounds_toArray, List.set_cons_zero, List.set_cons_succ]
        refine tk 1 29 (.int .i64 (q : Nat)) rfl ?_ ?_
        · intro W hSW; have z1 := HC.out W hSW; go_simp
        simp only [Act.put, List.setIfInBounds_toArray, List.set_cons_zero, List.set_cons_succ]
        refine tk 2 2 (.int .i64 0) rfl ?_ ?_
        · intro W hSW; go_simp
        simp only [Act.put, List.setIfInBounds_toArray, List.set_cons_zero, List.set_cons_succ]
        refine tk 3 3 (.int .i64 (q : Nat)) rfl ?_ ?_
        · intro W hSW; go_simp
        simp only [Act.put, List.setIfInBounds_toArray, List.set_cons_zero, List.set_cons_succ]
        refine tk 4 4 (.int .i64 70) rfl ?_ ?_
        · intro W hSW; go_simp
        simp only [Act.put, List.setIfInBounds_toArray, List.set_cons_zero, List.set_cons_succ]
        refine wpAnyH_done (by kernel_rfl) ?_ _
        clear hHeld
        go_wp2_with fail
        go_ret3
        rw [HCK2.out]
        exact ⟨rfl, (HFIN.out _ HA.out).trans Twd.out⟩
      | false =>
        have HCK2 : Hid (checkR B = (hd.k, 0, 0)) := by unfold Hid; rw [HCK.out, HBK.out]; simp
        go_wp2_with fail
        go_ret3
        rw [HCK2.out]
        first | exact ⟨rfl, HFIN.out _ HA.out⟩ | exact ⟨by rw [hk]; rfl, HFIN.out _ HA.out⟩
  · have HCK : Hid (checkR B = (0, min s.n 2048, 70)) := by unfold Hid checkR; rw [if_neg (by omega), hl]
    have hni : ¬ ((s.n : Nat) : Int) = 2048 := by omega
    clear h hl hn
    go_enter Try.func18, Try.ntmps18
    go_wp2_with fail
    go_ret3
    rw [HCK.out]
    exact ⟨by rw [show ((0, min s.n 2048, 70) : Nat × Nat × Nat).2.1 = min s.n 2048 from rfl, show ((min s.n 2048 : Nat) : Int) = min (s.n : Int) 2048 from by omega]; rfl, Apart.refl _ _⟩
end Go.Proofs.Ytllhmidpphlbhaa.ds
