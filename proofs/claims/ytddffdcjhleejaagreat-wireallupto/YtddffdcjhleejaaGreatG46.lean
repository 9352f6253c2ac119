import Derived.Test.YtddffdcjhleejaaGreatG1
import Derived.Test.YtddffdcjhleejaaGreatG45
import Derived.Test.YtddffdcjhleejaaGreatG33
import Derived.Test.YtddffdcjhleejaaGreatG15
import Derived.Lib.ConvBytes
namespace Go.Proofs.YtddffdcjhleejaaGreat.ds
open Go.ChangeShapes Go.WideShapes Go.ChangeAt Go.RowKit Go.Sort
set_option linter.unusedVariables false
set_option linter.unusedSimpArgs false
theorem RBs.readerX {w wx : World} {p : Option Addr} {N c : Nat} {B : List Nat} (h : RBs w ⟨p, N, c⟩ B) (hlim : N ≤ 1000000) (hcap : N ≤ c) {R at' : Nat} (a : Apart [] w wx) (hR : wx.heap[R]? = some (.cells #[.slice p N c, .int .i64 (at' : Nat), .int .i64 (-1)] 100 (0, 0))) (hn : w.heap.size ≤ R) (ha : at' ≤ N) : RX w wx R p N c B at' (-1) :=
  ⟨hR, h.rd.kept0 a, h.len, hlim, ha, hcap, h.rd, h.b8, h.ok, a, hn⟩
set_option maxHeartbeats 4000000 in
set_option maxRecDepth 100000 in
theorem rgetSet_bad (w : World) (p : Option Addr) (N c : Nat) (q : Int) (hq : q < 0 ∨ (N : Int) < q) :
    Calls Tryz.prog 25 #[.slice p N c, .int .i64 q] w fun e w' => Apart [] w w' ∧ e = .returned (.tuple #[.slice none 0 0, .int .i64 0, .int .i64 1]) := by
  by_cases h1 : q < 0
  · go_enter Tryz.func25, Tryz.ntmps25
    go_wp2_with fail
    go_ret3
    exact ⟨Apart.refl _ _, rfl⟩
  · have h2 : q > (N : Int) := by omega
    go_enter Tryz.func25, Tryz.ntmps25
    go_wp2_with fail
    go_ret3
    exact ⟨Apart.refl _ _, rfl⟩
set_option maxHeartbeats 4000000 in
set_option maxRecDepth 100000 in
theorem rgetSet_ok {w : World} {p : Option Addr} {N c : Nat} {B : List Nat} (h : RBs w ⟨p, N, c⟩ B) (hlim : N ≤ 1000000) (hcap : N ≤ c) (q : Nat) (hq : q ≤ N) :
    Calls Tryz.prog 25 #[.slice p N c, .int .i64 (q : Nat)] w fun e w' => RdP w w' e (rset B q) (.slice none 0 0) (VSet w) := by
  have h1 : ¬ ((q : Nat) : Int) < 0 := by omega
  have h2 : ¬ ((q : Nat) : Int) > (N : Int) := by omega
  obtain ⟨R, HR⟩ : ∃ R, Hid (R = w.heap.size) := ⟨_, rfl⟩
  obtain ⟨w1, hw1⟩ : ∃ w1, w1 = w.alloc (.cells #[.slice p N c, .int .i64 (q : Nat), .int .i64 (-1)] 100) := ⟨_, rfl⟩
  have HA1 : Hid (Apart [] w w1) := by unfold Hid; rw [hw1]; exact (Apart.refl [] w).alloc _
  have HR1 : Hid (w1.heap[R]? = some (.cells #[.slice p N c, .int .i64 (q : Nat), .int .i64 (-1)] 100 (0, 0))) := by unfold Hid; rw [HR.out, hw1]; exact heap_alloc_new w _
  have HRX := hid (h.readerX hlim hcap HA1.out HR1.out (by rw [HR.out]; exact Nat.le_refl _) hq)
  have HC := hid (rsetX_ok HRX.out false 18446744073709551615 rfl)
  clear h hq
  go_enter Tryz.func25, Tryz.ntmps25
  go_wp2_with fail
  rw [← hw1, ← HR.out]
  clear hw1
  refine HC.out.mono ?_
  rintro e w2 ⟨ha2, hm⟩
  have HA2 : Hid (Apart [] w w2) := HA1.out.trans' ha2 (by intro y hy; simp at hy; rw [hy, HR.out]; exact .inr (Nat.le_refl _))
  clear ha2 HC
  have hrr : rspans B q 18446744073709551615 = rset B q := rfl
  rw [hrr] at hm
  cases hr : rset B q with
  | error x =>
    rw [hr] at hm
    obtain ⟨⟨v, rfl, l0, _, s, rfl, _⟩, q2, hq2⟩ := hm
    have HRR := hid hr
    obtain ⟨z0, z1, z2, z3, z4⟩ := hq2.cells
    have hx0 : ((x : Nat) : Int) ≥ 0 := by omega
    clear hq2 hr
    try dsimp only
    go_upto_region 6 with fail
    refine wp_region_held_drew (S := fun W => W.cell? ⟨R, 2, none⟩ = some (.int .i64 (x : Nat))) (by kernel_rfl) z2 (fun hHeld => ?_)
    have HA3 : Hid (Apart [] w w2.drew) := HA2.out.drew
    generalize w2.drew = w3 at *
    clear z0 z1 z2 z3 z4
    refine tkn 0 28 (.pointer (some ⟨R, 0, none⟩)) rfl ?_ ?_
    · intro W hSW; go_simp
    refine tkn 1 29 (.pointer (some ⟨R, 0, none⟩)) rfl ?_ ?_
    · intro W hSW; go_simp
    refine tkn 2 30 (.pointer (some ⟨R, 2, none⟩)) rfl ?_ ?_
    · intro W hSW; go_simp
    refine tkn 3 31 (.int .i64 (x : Nat)) rfl ?_ ?_
    · intro W hSW; go_simp
    refine tkn 4 4 (.slice none 0 0) rfl ?_ ?_
    · intro W hSW; go_simp
    refine tkn 5 5 (.int .i64 (x : Nat)) rfl ?_ ?_
    · intro W hSW; go_simp
    refine tkn 6 6 (.int .i64 60) rfl ?_ ?_
    · intro W hSW; go_simp
    refine wpAnyH_done (by kernel_rfl) ?_ _
    go_wp2_with fail
    go_ret3
    exact ⟨HA3.out, fun a q e => (by rw [HRR.out] at e; cases e), fun y e => (by rw [HRR.out] at e; cases e; rfl)⟩
  | ok t =>
    obtain ⟨l, q2⟩ := t
    rw [hr] at hm
    obtain ⟨⟨v, rfl, s, rfl, hs⟩, hq2⟩ := hm
    have HRR := hid hr
    have HSS := hid hs
    obtain ⟨z0, z1, z2, z3, z4⟩ := hq2.cells
    clear hq2 hr hs
    try dsimp only
    go_upto_region 7 with fail
    refine wp_region_held_drew (S := fun W => W.cell? ⟨R, 1, none⟩ = some (.int .i64 (q2 : Nat))) (by kernel_rfl) z1 (fun hHeld => ?_)
    have HA3 : Hid (Apart [] w w2.drew) := HA2.out.drew
    have HS3 : Hid (VSet w l (.slice s.p s.n s.c) w2.drew) := ⟨s, rfl, HSS.out.1.kept (Apart.refl [] w2).drew, HSS.out.2⟩
    generalize w2.drew = w3 at *
    clear z0 z1 z2 z3 z4
    refine tkn 0 32 (.slice s.p s.n s.c) rfl ?_ ?_
    · intro W hSW; go_simp
    refine tkn 1 33 (.pointer (some ⟨R, 0, none⟩)) rfl ?_ ?_
    · intro W hSW; go_simp
    refine tkn 2 34 (.pointer (some ⟨R, 0, none⟩)) rfl ?_ ?_
    · intro W hSW; go_simp
    refine tkn 3 35 (.pointer (some ⟨R, 1, none⟩)) rfl ?_ ?_
    · intro W hSW; go_simp
    refine tkn 4 36 (.int .i64 (q2 : Nat)) rfl ?_ ?_
    · intro W hSW; go_simp
    refine tkn 5 4 (.slice s.p s.n s.c) rfl ?_ ?_
    · intro W hSW; go_simp
    refine tkn 6 5 (.int .i64 (q2 : Nat)) rfl ?_ ?_
    · intro W hSW; go_simp
    refine tkn 7 6 (.int .i64 0) rfl ?_ ?_
    · intro W hSW; go_simp
    refine wpAnyH_done (by kernel_rfl) ?_ _
    go_wp2_with fail
    go_ret3
    exact ⟨HA3.out, fun a q e => (by rw [HRR.out] at e; cases e; exact ⟨_, rfl, HS3.out⟩), fun y e => (by rw [HRR.out] at e; cases e)⟩
end Go.Proofs.YtddffdcjhleejaaGreat.ds
namespace Go.Proofs.YtddffdcjhleejaaGreat.ds
open Go.ChangeShapes Go.WideShapes Go.ChangeAt Go.RowKit Go.Sort
set_option linter.unusedVariables false
set_option linter.unusedSimpArgs false
/-- then a text is read -/
def tx {α : Type} (B : List Nat) (r : Except Nat (α × Nat)) (lo hi : Nat) : Except Nat ((α × List Nat) × Nat) := rb r fun a q => rb (rtext B q lo hi) fun k q' => .ok ((a, k), q')
theorem tx_nx {α : Type} (B : List Nat) (r : Except Nat (α × Nat)) (lo hi : Nat) : tx B r lo hi = rb (nx B r (fun _ => lo) hi) fun an q1 => rb (rbytes B an.2 q1) fun k q' => .ok ((an.1, k), q') := by
  unfold tx nx rtext
  cases r with
  | error y => rfl
  | ok t =>
    obtain ⟨a, q⟩ := t
    simp only [rb_ok]
    cases rbound B q lo hi with
    | error y => rfl
    | ok t => obtain ⟨n, q1⟩ := t; rfl
theorem RX.take_rd {wB w : World} {R : Nat} {p : Option Addr} {N c : Nat} {B : List Nat} {q q2 : Nat} {x : Int} (h : RX wB w R p N c B q2 x) (n : Nat) (hn : n ≤ N - q) (hq : q ≤ N) : Rd w (if c = q then p else p.map fun x => x.add q) (byts ((B.drop q).take n)) ∧ ((B.drop q).take n).length = n ∧ Sl.ok ⟨if c = q then p else p.map fun x => x.add q, n, c - q⟩ := by
  have hl := h.len
  have hcap := h.cap
  refine ⟨fun h0 => ?_, by rw [List.length_take, List.length_drop]; omega, fun e0 => ?_⟩
  · have hn0 : 0 < n := by
      simp [byts] at h0; omega
    obtain ⟨P, o, e, hP, hc⟩ := h.rd (by simp [byts]; omega)
    rw [if_neg (by omega), e]
    refine ⟨P, o + q, by simp [Addr.add_lit], hP, fun j v hj => ?_⟩
    have := hc (q + j) v (by
      unfold byts at hj ⊢
      rw [List.getElem?_map, List.getElem?_take] at hj
      split at hj
      · rw [List.getElem?_map]; rw [List.getElem?_drop] at hj; exact hj
      · cases hj)
    rw [← Nat.add_assoc] at this
    exact this
  · by_cases hc : c = q
    · exact ⟨by show n = 0; omega, by show c - q = 0; omega⟩
    · have e1 : (if c = q then p else p.map fun x => x.add q) = none := e0
      rw [if_neg hc] at e1
      cases hp0 : p with
      | none =>
        have := h.ok hp0
        exact ⟨by show n = 0; omega, by show c - q = 0; omega⟩
      | some a => rw [hp0] at e1; cases e1
set_option maxHeartbeats 8000000 in
set_option maxRecDepth 100000 in
theorem rtext_any {α : Type} {wB w : World} {R : Nat} {p : Option Addr} {N c : Nat} {B : List Nat} {r : Except Nat (α × Nat)} (h : RS wB w R p N c B (plc r)) (lo hi : Nat) (hlo : lo ≤ 1000000) (hhi : hi ≤ 1000000) :
    Calls Tryz.prog 87 #[.pointer (some ⟨R, 0, none⟩), .int .i64 (lo : Nat), .int .i64 (hi : Nat)] w fun e w' => Apart [R] w w' ∧ ∃ s : ByteArray, e = .returned (.string s) ∧ RS wB w' R p N c B (plc (tx B r lo hi)) ∧ ∀ a k q', tx B r lo hi = .ok ((a, k), q') → s = strB k := by
  have HC := hid (rnumI_any h (fun _ => lo) hi (lo : Nat) (fun _ _ _ => ⟨rfl, by omega⟩) (by omega))
  have HT := hid (tx_nx B r lo hi)
  clear h
  go_enter Tryz.func87, Tryz.ntmps87
  go_wp2_with fail
  refine HC.out.mono ?_
  rintro _ w2 ⟨ha2, z, rfl, hr2, hz2⟩
  have HA2 := hid ha2
  clear ha2 HC
  try dsimp only
  cases hn : nx B r (fun _ => lo) hi with
  | error y =>
    rw [hn] at hr2
    obtain ⟨q2, x2, h1, _, h3⟩ := hr2
    have hx := h3 y rfl
    subst hx
    have HF : Hid (tx B r lo hi = .error y) := by unfold Hid; rw [HT.out, hn]; rfl
    have hy : ¬ ((y : Nat) : Int) < 0 := by omega
    have hy2 : ((y : Nat) : Int) ≥ 0 := by omega
    have HR2 := hid h1
    clear h1 h3 hn hz2 HT
    go_upto_region 2 with fail
    have HRd := hid (HR2.out.kept (Apart.refl [] w2).drew)
    have HAd : Hid (Apart [R] w w2.drew) := HA2.out.drew
    refine wp_region_held_drew (S := fun W => W.heap[R]? = some (.cells #[.slice p N c, .int .i64 (q2 : Nat), .int .i64 (y : Nat)] 100 (0, 0)) ∧ True) (by kernel_rfl) ⟨HRd.out.blk, trivial⟩ (fun hHeld => ?_)
    generalize w2.drew = wd at *
    refine tkn 0 13 (.pointer (some ⟨R, 0, none⟩)) rfl ?_ ?_
    · intro W hSW; go_simp
    refine tkn 1 14 (.pointer (some ⟨R, 0, none⟩)) rfl ?_ ?_
    · intro W hSW; go_simp
    refine tkn 2 15 (.pointer (some ⟨R, 2, none⟩)) rfl ?_ ?_
    · intro W hSW; go_simp
    refine tkn 3 16 (.int .i64 (y : Nat)) rfl ?_ ?_
    · intro W hSW; obtain ⟨x0, x1, x2⟩ := row3v hSW.1; go_simp
    refine tkn 4 17 (.bool false) rfl ?_ ?_
    · intro W hSW; go_simp
    refine tkn 5 18 (.bool false) rfl ?_ ?_
    · intro W hSW; go_simp
    refine tun 6 19 rfl ?_
    refine tun 7 20 rfl ?_
    refine tun 8 21 rfl ?_
    refine tun 9 22 rfl ?_
    refine tun 10 23 rfl ?_
    refine tun 11 24 rfl ?_
    refine tun 12 25 rfl ?_
    refine tun 13 26 rfl ?_
    refine tun 14 27 rfl ?_
    refine tun 15 28 rfl ?_
    refine tun 16 29 rfl ?_
    refine tun 17 30 rfl ?_
    refine tkn 18 31 (.bool false) rfl ?_ ?_
    · intro W hSW; go_simp
    refine wpAnyH_done (by kernel_rfl) ?_ _
    clear hHeld
    obtain ⟨z0, z1, z2, z3, z4⟩ := HRd.out.cells
    go_wp2_with fail
    go_ret
    exact ⟨HAd.out, _, rfl, by rw [HF.out]; exact RS.err HRd.out, fun a k q' e => by rw [HF.out] at e; cases e⟩
  | ok t =>
    obtain ⟨⟨a, n⟩, q2⟩ := t
    rw [hn] at hr2
    obtain ⟨q2', x2, h1, h2, _⟩ := hr2
    obtain ⟨rfl, rfl⟩ := h2 q2 rfl
    obtain rfl := hz2 a n q2' hn
    have hnle : n ≤ hi := by
      unfold nx at hn
      cases r with
      | error y => cases hn
      | ok t =>
        obtain ⟨b, q⟩ := t
        simp only [rb_ok] at hn
        cases hb : rbound B q lo hi with
        | error y => rw [hb] at hn; cases hn
        | ok t =>
          obtain ⟨m, q3⟩ := t
          have := rbound_le hb
          rw [hb, rb_ok] at hn
          cases hn
          omega
    have HR2 := hid h1
    have hlen := h1.len
    have hlim := h1.lim
    have hcap := h1.cap
    have hle2 := h1.le
    have hsub : IntKind.i64.wrap ((N : Int) - (q2' : Int)) = ((N - q2' : Nat) : Int) := by rw [IntKind.wrap_i64]; omega
    have HN := hid hn
    clear h1 h2 hn hz2
    go_upto_region 2 with fail
    have HRd := hid (HR2.out.kept (Apart.refl [] w2).drew)
    have HAd : Hid (Apart [R] w w2.drew) := HA2.out.drew
    refine wp_region_held_drew (S := fun W => W.heap[R]? = some (.cells #[.slice p N c, .int .i64 (q2' : Nat), .int .i64 (-1)] 100 (0, 0)) ∧ True) (by kernel_rfl) ⟨HRd.out.blk, trivial⟩ (fun hHeld => ?_)
    generalize w2.drew = wd at *
    refine tkn 0 13 (.pointer (some ⟨R, 0, none⟩)) rfl ?_ ?_
    · intro W hSW; go_simp
    refine tkn 1 14 (.pointer (some ⟨R, 0, none⟩)) rfl ?_ ?_
    · intro W hSW; go_simp
    refine tkn 2 15 (.pointer (some ⟨R, 2, none⟩)) rfl ?_ ?_
    · intro W hSW; go_simp
    refine tkn 3 16 (.int .i64 (-1)) rfl ?_ ?_
    · intro W hSW; obtain ⟨x0, x1, x2⟩ := row3v hSW.1; go_simp
    refine tkn 4 17 (.bool true) rfl ?_ ?_
    · intro W hSW; go_simp
    refine tkn 5 18 (.bool true) rfl ?_ ?_
    · intro W hSW; go_simp
    refine tkn 6 19 (.int .i64 (n : Nat)) rfl ?_ ?_
    · intro W hSW; go_simp
    refine tkn 7 20 (.pointer (some ⟨R, 0, none⟩)) rfl ?_ ?_
    · intro W hSW; go_simp
    refine tkn 8 21 (.pointer (some ⟨R, 0, none⟩)) rfl ?_ ?_
    · intro W hSW; go_simp
    refine tkn 9 22 (.pointer (some ⟨R, 0, none⟩)) rfl ?_ ?_
    · intro W hSW; go_simp
    refine tkn 10 23 (.slice p N c) rfl ?_ ?_
    · intro W hSW; obtain ⟨x0, x1, x2⟩ := row3v hSW.1; go_simp
    refine tkn 11 24 (.int .i64 (N : Nat)) rfl ?_ ?_
    · intro W hSW; go_simp
    refine tkn 12 25 (.pointer (some ⟨R, 0, none⟩)) rfl ?_ ?_
    · intro W hSW; go_simp
    refine tkn 13 26 (.pointer (some ⟨R, 0, none⟩)) rfl ?_ ?_
    · intro W hSW; go_simp
    refine tkn 14 27 (.pointer (some ⟨R, 1, none⟩)) rfl ?_ ?_
    · intro W hSW; go_simp
    refine tkn 15 28 (.int .i64 (q2' : Nat)) rfl ?_ ?_
    · intro W hSW; obtain ⟨x0, x1, x2⟩ := row3v hSW.1; go_simp
    refine tkn 16 29 (.int .i64 ((N - q2' : Nat) : Int)) rfl ?_ ?_
    · intro W hSW; go_simp
    by_cases hlt : n ≤ N - q2'
    · have hgt : ¬ ((n : Nat) : Int) > ((N - q2' : Nat) : Int) := by omega
      have HF : Hid (tx B r lo hi = .ok ((a, (B.drop q2').take n), q2' + n)) := by unfold Hid; rw [HT.out, HN.out]; simp only [rb_ok]; unfold rbytes; rw [if_pos (by omega)]; rfl
      refine tkn 17 30 (.bool false) rfl ?_ ?_
      · intro W hSW; go_simp
      refine tkn 18 31 (.bool false) rfl ?_ ?_
      · intro W hSW; go_simp
      refine wpAnyH_done (by kernel_rfl) ?_ _
      clear hHeld
      obtain ⟨z0, z1, z2, z3, z4⟩ := HRd.out.cells
      go_upto_region 6 with fail
      clear z0 z1 z2 z3 z4
      obtain ⟨hrd, hrl, hok⟩ := HRd.out.take_rd (q := q2') n hlt hle2
      have HRe := hid (HRd.out.kept (Apart.refl [] wd).drew)
      have HAe : Hid (Apart [R] w wd.drew) := HAd.out.drew
      have hrd2 := hrd.kept0 (Apart.refl [] wd).drew
      obtain ⟨pp, Hpp⟩ : ∃ pp, Hid (pp = if c = q2' then p else Option.map (fun x => x.add q2') p) := ⟨_, rfl⟩
      obtain ⟨cd, Hcd⟩ : ∃ cd, Hid (cd = c - q2') := ⟨_, rfl⟩
      rw [← Hpp.out] at hrd2 hok
      rw [← Hcd.out] at hok
      have HRL := hid hrl
      have HOK := hid hok
      obtain ⟨t, Ht⟩ : ∃ t, Hid (t = q2' + n) := ⟨_, rfl⟩
      have hadd : IntKind.i64.wrap ((q2' : Int) + (n : Int)) = ((t : Nat) : Int) := by rw [IntKind.wrap_i64, Ht.out]; omega
      refine wp_region_held_drew (S := fun W => W.heap[R]? = some (.cells #[.slice p N c, .int .i64 (q2' : Nat), .int .i64 (-1)] 100 (0, 0)) ∧ Rd W pp (byts ((B.drop q2').take n))) (by kernel_rfl) ⟨HRe.out.blk, hrd2⟩ (fun hHeld => ?_)
      clear hrd hrd2 hrl hok
      generalize wd.drew = we at *
      refine tkn 0 44 (.pointer (some ⟨R, 0, none⟩)) rfl ?_ ?_
      · intro W hSW; go_simp
      refine tkn 1 45 (.pointer (some ⟨R, 0, none⟩)) rfl ?_ ?_
      · intro W hSW; go_simp
      refine tkn 2 46 (.pointer (some ⟨R, 0, none⟩)) rfl ?_ ?_
      · intro W hSW; go_simp
      refine tkn 3 47 (.slice p N c) rfl ?_ ?_
      · intro W hSW; obtain ⟨x0, x1, x2⟩ := row3v hSW.1; go_simp
      refine tkn 4 48 (.pointer (some ⟨R, 0, none⟩)) rfl ?_ ?_
      · intro W hSW; go_simp
      refine tkn 5 49 (.pointer (some ⟨R, 0, none⟩)) rfl ?_ ?_
      · intro W hSW; go_simp
      refine tkn 6 50 (.pointer (some ⟨R, 1, none⟩)) rfl ?_ ?_
      · intro W hSW; go_simp
      refine tkn 7 51 (.int .i64 (q2' : Nat)) rfl ?_ ?_
      · intro W hSW; obtain ⟨x0, x1, x2⟩ := row3v hSW.1; go_simp
      refine tkn 8 52 (.pointer (some ⟨R, 0, none⟩)) rfl ?_ ?_
      · intro W hSW; go_simp
      refine tkn 9 53 (.pointer (some ⟨R, 0, none⟩)) rfl ?_ ?_
      · intro W hSW; go_simp
      refine tkn 10 54 (.pointer (some ⟨R, 1, none⟩)) rfl ?_ ?_
      · intro W hSW; go_simp
      refine tkn 11 55 (.int .i64 (q2' : Nat)) rfl ?_ ?_
      · intro W hSW; obtain ⟨x0, x1, x2⟩ := row3v hSW.1; go_simp
      refine tkn 12 56 (.int .i64 (n : Nat)) rfl ?_ ?_
      · intro W hSW; go_simp
      refine tkn 13 57 (.int .i64 (t : Nat)) rfl ?_ ?_
      · intro W hSW; go_simp
      have HE0 := hid hHeld
      refine wpAnyH_ready (rs := [14]) (by kernel_rfl) (by simp) ?_
      refine AllReadyH.cons rfl (fun KK hKK => ?_) AllReadyH.nil
      go_simp
      have htc : t ≤ c := by rw [Ht.out]; omega
      have hqt : q2' ≤ t := by rw [Ht.out]; omega
      have htn : t - q2' = n := by rw [Ht.out]; omega
      rw [if_pos htc, if_pos hqt, htn]
      rw [← Hpp.out, ← Hcd.out]
      refine hKK.out _ _ HE0.out (fun hHeld => ?_)
      clear hKK KK
      try simp only [Act.put, List.setIfInBounds_toArray, List.set_cons_zero, List.set_cons_succ]
      refine tkn 15 59 (.string (strB ((B.drop q2').take n))) rfl ?_ ?_
      · intro W hSW; have hcv := conv_bytes (s := ⟨pp, n, cd⟩) hSW.2 HRL.out HOK.out; simp only at hcv; go_simp
      refine tkn 16 8 (.string (strB ((B.drop q2').take n))) rfl ?_ ?_
      · intro W hSW; go_simp
      refine wpAnyH_done (by kernel_rfl) ?_ _
      clear hHeld
      clear htc hqt htn HE0
      obtain ⟨z0, z1, z2, z3, z4⟩ := HRe.out.cells
      have HR3 : Hid (RX wB (we.setCell ⟨R, 1, none⟩ (.int .i64 (t : Nat))) R p N c B t (-1)) := HRe.out.move t (by rw [Ht.out]; omega)
      have HA3 : Hid (Apart [R] w (we.setCell ⟨R, 1, none⟩ (.int .i64 (t : Nat)))) := HAe.out.setCell (.inl (by simp)) _
      generalize hst : strB ((B.drop q2').take n) = st at *
      go_wp2_with fail
      go_ret
      refine ⟨?_, st, rfl, ?_, fun a' k q3 e => ?_⟩
      · exact HA3.out
      · rw [HF.out, ← Ht.out]; exact RS.ok HR3.out
      · rw [HF.out] at e; cases e; exact hst.symm
    · have hgt : ((n : Nat) : Int) > ((N - q2' : Nat) : Int) := by omega
      have HF : Hid (tx B r lo hi = .error N) := by unfold Hid; rw [HT.out, HN.out]; simp only [rb_ok]; unfold rbytes; rw [if_neg (by omega), hlen]; rfl
      refine tkn 17 30 (.bool true) rfl ?_ ?_
      · intro W hSW; go_simp
      refine tkn 18 31 (.bool true) rfl ?_ ?_
      · intro W hSW; go_simp
      refine wpAnyH_done (by kernel_rfl) ?_ _
      clear hHeld
      obtain ⟨z0, z1, z2, z3, z4⟩ := HRd.out.cells
      go_wp2_with fail
      clear z0 z1 z2 z3 z4
      refine (rwrong_yes HRd.out (N : Nat)).mono ?_
      rintro _ w3 ⟨rfl, ha3, hr3⟩
      have HA3 : Hid (Apart [R] w w3) := HAd.out.trans ha3
      have HR3 := hid hr3
      have hN0 : ((N : Nat) : Int) ≥ 0 := by omega
      clear ha3 hr3
      try dsimp only
      obtain ⟨z0, z1, z2, z3, z4⟩ := HR3.out.cells
      go_wp2_with fail
      go_ret
      exact ⟨HA3.out, _, rfl, by rw [HF.out]; exact RS.err HR3.out, fun a k q' e => by rw [HF.out] at e; cases e⟩
end Go.Proofs.YtddffdcjhleejaaGreat.ds
namespace Go.Proofs.YtddffdcjhleejaaGreat.ds
open Go.ChangeShapes Go.WideShapes Go.ChangeAt Go.RowKit Go.Sort
set_option linter.unusedVariables false
set_option linter.unusedSimpArgs false
/-- what can be read, in a block of a type -/
def RdT (w : World) (p : Option Addr) (t : Nat) (us : List Value) : Prop := 0 < us.length → ∃ P o, p = some ⟨P, o, none⟩ ∧ (∃ cur m, w.heap[P]? = some (.cells cur t m)) ∧ ∀ j u, us[j]? = some u → w.cell? ⟨P, o + j, none⟩ = some u
theorem RdT.nil (w : World) (p : Option Addr) (t : Nat) : RdT w p t [] := fun h => absurd h (by simp)
theorem RdT.rd {w : World} {p : Option Addr} {t : Nat} {us : List Value} (h : RdT w p t us) : Rd w p us := fun h0 => by
  obtain ⟨P, o, e, ⟨cur, m, hb⟩, hc⟩ := h h0
  exact ⟨P, o, e, lt_of_heap hb, hc⟩
theorem RdT.kept {w w' : World} {p : Option Addr} {t : Nat} {us : List Value} {X : List Nat} (h : RdT w p t us) (a : Apart X w w') (hX : ∀ k ∈ X, ∀ cur m, w.heap[k]? ≠ some (.cells cur t m)) : RdT w' p t us := fun h0 => by
  obtain ⟨P, o, e, ⟨cur, m, hb⟩, hc⟩ := h h0
  have hn : P ∉ X := fun hm => hX P hm cur m hb
  exact ⟨P, o, e, ⟨cur, m, (a.block P (lt_of_heap hb) hn).trans hb⟩, fun j u hj => (a.cell (lt_of_heap hb) hn).trans (hc j u hj)⟩
theorem conv_str (w : World) (s : ByteArray) : ∃ (sl : Sl) (w' : World), Sem.run Tryz.prog (convert 9 30 (.string s)) w = .ok (.slice sl.p sl.n sl.c) w' ∧ Apart [] w w' ∧ sl.ok ∧ RdT w' sl.p 5 (byts (bsk s)) ∧ (bsk s).length = sl.n := by
  refine ⟨⟨some ⟨w.heap.size, 0, none⟩, s.size, grownCap w s.size 0 5⟩, Go.Lib.bytesWorld w 5 s, Go.Lib.run_convert_string_bytes w 9 30 5 s Tryz.underlying9 Tryz.underlying30 Tryz.underlying5, ?_, (fun e => by cases e), ?_, bsk_len s⟩
  · exact ⟨by rfl, by rfl, by rfl, by rw [Go.Lib.bytesWorld_size]; omega, fun k hk _ => Go.Lib.bytesWorld_at_old w 5 s k hk⟩
  · intro h0
    refine ⟨w.heap.size, 0, rfl, ⟨_, _, Go.Lib.bytesWorld_at_new w 5 s⟩, fun j u hj => ?_⟩
    have hl := bsk_len s
    have hjl : j < (bsk s).length := by
      have := (List.getElem?_eq_some_iff.1 hj).1
      simpa [byts] using this
    rw [Nat.zero_add, Go.Lib.bytesWorld_cell w 5 s j (by omega)]
    have e1 : (bsk s)[j]? = some ((s.data.toList.getD j 0).toNat) := by
      have h2 : j < s.data.toList.length := by rw [Array.length_toList]; have : s.data.size = s.size := rfl; omega
      unfold bsk
      rw [ByteArray.toList_eq, List.getElem?_map, List.getD_eq_getElem?_getD, List.getElem?_eq_getElem h2]
      rfl
    rw [byts, List.getElem?_map, e1] at hj
    simp only [Option.map_some, Option.some.injEq] at hj
    rw [← hj]
/-- the document's write in memory -/
structure WX (wB w : World) (e : E) (r : Wr) : Prop where
  n : e.n = r.n
  c : e.c = r.c
  k : e.k = r.k
  d : e.d = r.d
  v : RdT w e.v.p 5 (byts r.vs)
  vn : r.vs.length = e.v.n
  vl : e.v.n ≤ 2000000
  vb : ∀ b ∈ r.vs, b < 256
  vo : e.v.ok
  x : Nw wB w 48 3 e.x (flat r.xs)
  xn : r.xs.length = e.x.n
  xl : e.x.n ≤ 2000000
  xf : ∀ y ∈ r.xs, y.t < 2 ^ 64
/-- one that is asked: what does not answer is wrong -/
def fq {α : Type} (r : Except Nat (α × Nat)) (P : α → Bool) (y : Nat) : Except Nat (α × Nat) := rb r fun a q => if P a = true then .ok (a, q) else .error y
theorem fq_out {α : Type} (r : Except Nat (α × Nat)) (P : α → Bool) (y : Nat) (b : Bool) (hb : ∀ a q, r = .ok (a, q) → b = !P a) : (if b = true then wr1 (plc r) y else plc r) = plc (fq r P y) := by
  cases r with
  | error x => cases b <;> rfl
  | ok t =>
    obtain ⟨a, q⟩ := t
    have := hb a q rfl
    unfold fq
    rw [rb_ok]
    subst this
    cases P a <;> simp [plc, wr1]
theorem fq_prev {α : Type} {r : Except Nat (α × Nat)} {P : α → Bool} {y : Nat} {a : α} {q : Nat} (h : fq r P y = .ok (a, q)) : r = .ok (a, q) ∧ P a = true := by
  cases r with
  | error x => cases h
  | ok t =>
    obtain ⟨b, q0⟩ := t
    unfold fq at h
    rw [rb_ok] at h
    by_cases hp : P b = true
    · rw [if_pos hp] at h; cases h; exact ⟨rfl, hp⟩
    · rw [if_neg hp] at h; cases h
theorem nx_prev2 {α : Type} {B : List Nat} {r : Except Nat (α × Nat)} {lo : α → Nat} {hi : Nat} {a : α × Nat} {q' : Nat} (h : nx B r lo hi = .ok (a, q')) : ∃ q, r = .ok (a.1, q) ∧ rbound B q (lo a.1) hi = .ok (a.2, q') := by
  cases r with
  | error y => cases h
  | ok t =>
    obtain ⟨b, q⟩ := t
    unfold nx at h
    rw [rb_ok] at h
    cases hr : rbound B q (lo b) hi with
    | error y => rw [hr] at h; cases h
    | ok t =>
      obtain ⟨m, q2⟩ := t
      rw [hr, rb_ok] at h
      cases h
      exact ⟨q, rfl, hr⟩
theorem tx_prev {α : Type} {B : List Nat} {r : Except Nat (α × Nat)} {lo hi : Nat} {a : α × List Nat} {q' : Nat} (h : tx B r lo hi = .ok (a, q')) : ∃ q, r = .ok (a.1, q) ∧ rtext B q lo hi = .ok (a.2, q') := by
  cases r with
  | error y => cases h
  | ok t =>
    obtain ⟨b, q⟩ := t
    unfold tx at h
    rw [rb_ok] at h
    cases hr : rtext B q lo hi with
    | error y => rw [hr] at h; cases h
    | ok t =>
      obtain ⟨m, q2⟩ := t
      rw [hr, rb_ok] at h
      cases h
      exact ⟨q, rfl, hr⟩
theorem st_prev {α : Type} {B : List Nat} {r : Except Nat (α × Nat)} {mb : Nat} {a : α × List S} {q' : Nat} (h : st B r mb = .ok (a, q')) : ∃ q, r = .ok (a.1, q) ∧ rspans B q mb = .ok (a.2, q') := by
  cases r with
  | error y => cases h
  | ok t =>
    obtain ⟨b, q⟩ := t
    unfold st at h
    rw [rb_ok] at h
    cases hr : rspans B q mb with
    | error y => rw [hr] at h; cases h
    | ok t =>
      obtain ⟨m, q2⟩ := t
      rw [hr, rb_ok] at h
      cases h
      exact ⟨q, rfl, hr⟩
/-- then a value is read -/
def vl {α : Type} (B : List Nat) (r : Except Nat ((α × Nat) × Nat)) : Except Nat (((α × Nat) × List Nat) × Nat) := rb r fun a q => rb (rvalue B a.2 q) fun vs q' => .ok ((a, vs), q')
theorem vl_prev {α : Type} {B : List Nat} {r : Except Nat ((α × Nat) × Nat)} {a : (α × Nat) × List Nat} {q' : Nat} (h : vl B r = .ok (a, q')) : ∃ q, r = .ok (a.1, q) ∧ rvalue B a.1.2 q = .ok (a.2, q') := by
  cases r with
  | error y => cases h
  | ok t =>
    obtain ⟨b, q⟩ := t
    unfold vl at h
    rw [rb_ok] at h
    cases hr : rvalue B b.2 q with
    | error y => rw [hr] at h; cases h
    | ok t =>
      obtain ⟨m, q2⟩ := t
      rw [hr, rb_ok] at h
      cases h
      exact ⟨q, rfl, hr⟩
/-- the steps of a write -/
def wq2 (B : List Nat) (q : Nat) : Except Nat (((Unit × Nat) × Nat) × Nat) := nx B (nx B (.ok ((), q)) (fun _ => 0) 7) (fun _ => 1) 1048576
def wq3 (B : List Nat) (q : Nat) (an ac : Int) : Except Nat (((Unit × Nat) × Nat) × Nat) := fq (wq2 B q) (fun a => risW an ac (a.1.2 : Nat) (a.2 : Nat)) q
def wq4 (B : List Nat) (q : Nat) (an ac : Int) : Except Nat ((((Unit × Nat) × Nat) × List Nat) × Nat) := tx B (wq3 B q an ac) 1 16
def wq5 (B : List Nat) (q : Nat) (an ac : Int) (key : ByteArray) : Except Nat ((((Unit × Nat) × Nat) × List Nat) × Nat) := fq (wq4 B q an ac) (fun a => keyOk key a.2) q
def wq6 (B : List Nat) (q : Nat) (an ac : Int) (key : ByteArray) : Except Nat (((((Unit × Nat) × Nat) × List Nat) × Nat) × Nat) := nx B (wq5 B q an ac key) (fun _ => 0) 1
noncomputable def wq7 (B : List Nat) (q : Nat) (an ac : Int) (key : ByteArray) : Except Nat ((((((Unit × Nat) × Nat) × List Nat) × Nat) × List Nat) × Nat) := vl B (wq6 B q an ac key)
def mkW (a : ((((Unit × Nat) × Nat) × List Nat) × Nat) × List Nat) (xs : List S) : Wr := ⟨(a.1.1.1.1.2 : Nat), (a.1.1.1.2 : Nat), strB a.1.1.2, decide (a.1.2 = 1), a.2, xs⟩
theorem rb_if {α β : Type} (P : Prop) [Decidable P] (a b : Except Nat (α × Nat)) (f : α → Nat → Except Nat (β × Nat)) : rb (if P then a else b) f = if P then rb a f else rb b f := by by_cases h : P <;> simp [h]
theorem rwrite_link (B : List Nat) (q : Nat) (an ac : Int) (key : ByteArray) : rwrite B q an ac key = rb (wq7 B q an ac key) fun a q4 => rb (rspans B q4 18446744073709551615) fun xs q5 => if hasd xs (mkW a xs).n (mkW a xs).c = false then .ok (mkW a xs, q5) else .error q4 := by
  unfold rwrite wq7 wq6 wq5 wq4 wq3 wq2 vl nx tx fq rdot
  simp only [rb_rb, rb_ok, rb_if, rb_err]
  rfl
theorem fin_out {α β : Type} (B : List Nat) (r7 : Except Nat (α × Nat)) (mb qa : Nat) (H : α → List S → Bool) (f : α → List S → β) (own : Bool) (hqa : ∀ q', plc r7 = .ok q' → qa = q') (hown : ∀ a l q', st B r7 mb = .ok ((a, l), q') → own = H a l) :
    (if own = true then wr1 (plc (st B r7 mb)) qa else plc (st B r7 mb)) = plc (rb r7 fun a q4 => rb (rspans B q4 mb) fun xs q5 => if H a xs = false then .ok (f a xs, q5) else .error q4) := by
  cases r7 with
  | error x => cases own <;> rfl
  | ok t =>
    obtain ⟨a, q4⟩ := t
    have h1 := hqa q4 rfl
    subst h1
    unfold st at hown ⊢
    simp only [rb_ok] at hown ⊢
    cases hr : rspans B qa mb with
    | error y => cases own <;> rfl
    | ok t =>
      obtain ⟨l, q5⟩ := t
      rw [hr] at hown
      have h2 := hown a l q5 rfl
      subst h2
      simp only [rb_ok]
      cases H a l <;> simp [plc, wr1]
/-- the walk's memory: the reader, the answer's box, the write's box -/
structure WS (wB w wx : World) (R : Nat) (p : Option Addr) (N c : Nat) (B : List Nat) (s : Except Nat Nat) (Y X : Nat) (cs : Array Value) : Prop where
  ap : Apart [R] w wx
  rs : RS wB wx R p N c B s
  bx : wx.heap[X]? = some (.cells cs 37 (0, 0))
  by' : wx.heap[Y]? = some (.cells #[.int .i64 0, .int .i64 0, .string ⟨#[]⟩, .bool false, .slice none 0 0, .slice none 0 0] 37 (0, 0))
  wX : w.heap.size ≤ X
  wY : w.heap.size ≤ Y
  bX : wB.heap.size ≤ X
  bY : wB.heap.size ≤ Y
  xy : X ≠ Y
  rX : R ≠ X
  rY : R ≠ Y
theorem WS.call {wB w wx w' : World} {R : Nat} {p : Option Addr} {N c : Nat} {B : List Nat} {s s' : Except Nat Nat} {Y X : Nat} {cs : Array Value} (h : WS wB w wx R p N c B s Y X cs) (a : Apart [R] wx w') (hr : RS wB w' R p N c B s') : WS wB w w' R p N c B s' Y X cs :=
  { h with ap := h.ap.trans a, rs := hr, bx := (a.block X (lt_of_heap h.bx) (by have := h.rX; simp; omega)).trans h.bx, by' := (a.block Y (lt_of_heap h.by') (by have := h.rY; simp; omega)).trans h.by' }
theorem WS.kept {wB w wx w' : World} {R : Nat} {p : Option Addr} {N c : Nat} {B : List Nat} {s : Except Nat Nat} {Y X : Nat} {cs : Array Value} (h : WS wB w wx R p N c B s Y X cs) (a : Apart [] wx w') : WS wB w w' R p N c B s Y X cs :=
  h.call (a.mono (by simp)) (h.rs.kept a)
theorem WS.store {wB w wx : World} {R : Nat} {p : Option Addr} {N c : Nat} {B : List Nat} {s : Except Nat Nat} {Y X : Nat} {cs : Array Value} (h : WS wB w wx R p N c B s Y X cs) (k : Nat) (v : Value) : WS wB w (wx.setCell ⟨X, k, none⟩ v) R p N c B s Y X (cs.setIfInBounds k v) := by
  have a : Apart [X] wx (wx.setCell ⟨X, k, none⟩ v) := (Apart.refl _ _).setCell (.inl (by simp)) _
  refine { h with ap := h.ap.trans' a (by intro y hy; simp at hy; rw [hy]; exact .inr h.wX), rs := h.rs.app a (by intro y hy; simp at hy; rw [hy]; exact ⟨h.bX, _, 37, h.bx, by decide⟩), bx := heap_setCell_same wx X k _ 37 v h.bx, by' := (a.block Y (lt_of_heap h.by') (by have := h.xy; simp; omega)).trans h.by' }
end Go.Proofs.YtddffdcjhleejaaGreat.ds
