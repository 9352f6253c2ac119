import Derived.Test.YtopmhacnopfifaaTake
namespace Go.Proofs.Ytopmhacnopfifaa.hp
open Go.ChangeShapes Go.WideShapes Go.ChangeAt Go.RowKit
set_option linter.unusedVariables false
section
variable {F : Value} {C : List (Nat × Int)} {R : E → E → Bool → Prop}
structure T2 (R : E → E → Bool → Prop) (F : Value) (C : List (Nat × Int)) (w0 wr : World) (H : Nat) (v0 : Value) (n : Nat) (rs ps : List E) (j : Nat) (v : Value) (cs : List E) : Prop where
  hj : j ≤ ps.length
  at_ : At wr H F C v cs n
  perm : cs.Perm (rs ++ ps.take j)
  hp : ∀ A, Fits R A → Hp A rs → Hp A cs
  ap : Apart (ids H v0) w0 wr
  nw : NewOr w0 v0 v
theorem T2.step {w0 wr w1 : World} {H : Nat} {v0 : Value} {n : Nat} {rs ps : List E} {j : Nat} {v : Value} {cs : List E} (h : T2 R F C w0 wr H v0 n rs ps j v cs) (hj : j < ps.length) {W : World} (aW : Apart [] wr W) (p : PutPost R F C W w1 H v (cs ++ [g ps j]) cs n) : ∃ v' cs', T2 R F C w0 w1 H v0 n rs ps (j + 1) v' cs' := by
  obtain ⟨v', cs', at1, perm1, hp1, a1, nw1⟩ := p.ex
  refine ⟨v', cs', by omega, at1, ?_, fun A f x => hp1 A f (h.hp A f x), (h.ap.trans (aW.mono (by simp))).trans' a1 ?_, h.nw.trans nw1 (Nat.le_trans h.ap.size aW.size)⟩
  · refine perm1.trans ?_
    rw [List.take_add_one, ← List.append_assoc]
    have : ps[j]?.toList = [g ps j] := by rw [List.getElem?_eq_getElem hj, g_eq _ _ hj]; rfl
    rw [this]
    exact h.perm.append_right _
  · intro y hy
    simp only [ids, List.mem_cons] at hy
    rcases hy with rfl | hy
    · left; simp [ids]
    · exact h.nw.ids y hy
set_option maxHeartbeats 2000000 in
theorem take_at (K : Kind F C R) (w : World) (H G cap N k n : Nat) (es : List E) (h : At w H F C (.slice (some ⟨G, 0, none⟩) N cap) es n) (hN : es.length = N) (hk : k < N) :
    Calls Try.prog 12 #[.pointer (some ⟨H, 0, none⟩), .int .i64 k] w fun r w' => ∃ e, r = .returned (.tuple #[.agg #[.int .i64 e.r, .int .i64 e.m], .bool true]) ∧ TakePost R F C w w' H (.slice (some ⟨G, 0, none⟩) N cap) es k n e := by
  have hl := h.hl
  rw [hN] at hl
  have c1 := h.c1
  have hHs := lt_of_heap h.hh
  have hGs : G < w.heap.size := (h.own.lt G rfl).2
  have hrun := make_es (w.alloc (.cells #[.int .i64 0, .int .i64 0] 31)) k (by omega)
  obtain ⟨Z, hZ⟩ : ∃ Z, Z = (flat (zs k)).toArray := ⟨_, rfl⟩
  rw [← hZ] at hrun
  have inv0 : T1 R F C w ((w.alloc (.cells #[.int .i64 0, .int .i64 0] 31)).alloc (.cells Z 92)) H G (w.heap.size + 1) cap N k n es 0 [] es := by
    have a0 : Apart [] w ((w.alloc (.cells #[.int .i64 0, .int .i64 0] 31)).alloc (.cells Z 92)) := ((Apart.refl _ _).alloc _).alloc _
    refine ⟨Nat.zero_le _, rfl, hN, h.kept0 a0, ?_, List.Perm.refl _, fun A f x => ⟨x, List.Pairwise.nil, by simp⟩, a0.mono (by simp), ?_⟩
    · have := World.ownsRow_lit (base := 0) (e := 92) (size := 3) (w.alloc (.cells #[.int .i64 0, .int .i64 0] 31)) Z k (Nat.zero_le _) (by unfold maxLen; omega) (by rw [hZ]; simp [flat_length, zs])
      rw [hZ] at this ⊢
      simpa using this
    · rw [Below.heap_alloc _ _ _ (by simp)]; exact heap_alloc_new w _
  have HN : Hid (es.length = N) := hN
  clear hN hZ
  have t1 : decide ((k : Int) < 0) = false := decide_eq_false (by omega)
  have t2 : decide ((N : Int) ≤ (k : Int)) = false := decide_eq_false (by omega)
  have t3 : ¬ ((k : Int) < 0) := by omega
  have t4 : ¬ ((N : Int) ≤ (k : Int)) := by omega
  go_enter Try.func12, Try.ntmps12
  go_wp2
  go_loopw [28] (fun v wr => ∃ j : Nat, v = .int .i64 j ∧ ∃ ps rs, T1 R F C w wr H G (w.heap.size + 1) cap N k n es j ps rs) (fun v _ => k - (intOf v).toNat)
  case atStart => exact ⟨0, rfl, _, _, inv0⟩
  case round =>
    clear inv0
    obtain ⟨j, rfl, ps, rs, inv⟩ := hrel
    have hjk := inv.hj
    by_cases hlt : j < k
    · have hR := remove0 K wr H G cap (N - (j + 1)) rs n (by have := inv.at_; rwa [show N - j = N - (j + 1) + 1 from by omega] at this) (by rw [inv.rl]; omega)
      go_wp2_with fail
      refine hR.mono ?_
      clear hR
      rintro r w2 ⟨rfl, ⟨cs, hcl, at2, perm2, hp2, a2⟩⟩
      have inv2 := inv.step hk hlt hHs hGs (by omega) hcl at2 perm2 hp2 a2
      have own2 := own_apart inv.own a2 (fun q hq hm => by simp [Value.ownBlock] at hq hm; omega)
      have q0 := own2.cellAt (j * 3) (by omega)
      have q1 := own2.cellAt (j * 3 + 1) (by omega)
      have q2 := own2.cellAt (j * 3 + 2) (by omega)
      have kk := flat_get (ps ++ zs (k - j)) j (by rw [List.length_append, inv.pl]; simp [zs]; omega)
      rw [kk.1] at q0
      rw [kk.2.1] at q1
      rw [kk.2.2] at q2
      have f0 := own2.frozenAt (j * 3)
      have f1 := own2.frozenAt (j * 3 + 1)
      have f2 := own2.frozenAt (j * 3 + 2)
      simp only [put3] at inv2
      clear inv kk own2 at2 perm2 hp2 a2
      go_wp2
      go_roundw
      case rel => exact ⟨j + 1, by go_num, _, _, inv2⟩
      case measure => simp [intOf]; omega
    · obtain rfl : j = k := by omega
      have hR := remove0 K wr H G cap (N - (j + 1)) rs n (by have := inv.at_; rwa [show N - j = N - (j + 1) + 1 from by omega] at this) (by rw [inv.rl]; omega)
      go_wp2_with fail
      refine hR.mono ?_
      clear hR
      rintro r w2 ⟨rfl, ⟨cs, hcl, at2, perm2, hp2, a2⟩⟩
      have own2 := own_apart inv.own a2 (fun q hq hm => by simp [Value.ownBlock] at hq hm; omega)
      have hR2 := (a2.block _ (lt_of_heap inv.hR) (by simp; omega)).trans inv.hR
      have ap2 := inv.ap.trans a2
      have hsz : w.heap.size < w2.heap.size := lt_of_heap hR2
      have hBs : w.heap.size + 1 < w2.heap.size := (own2.lt _ rfl).2
      obtain ⟨e, he⟩ : ∃ e, g rs 0 = e := ⟨_, rfl⟩
      rw [he] at perm2 ⊢
      have hsrt : ∀ A, Fits R A → Hp A es → Hp A cs ∧ Srt A (ps ++ [e]) cs := by
        intro A f x
        obtain ⟨x1, x2⟩ := inv.srt A f x
        refine ⟨hp2 A f x1, ?_⟩
        have := x2.step f.1 x1 (by rw [inv.rl]; omega) (by rw [he]; exact perm2)
        rwa [he] at this
      have hperm : (ps ++ e :: cs).Perm es := List.Perm.trans (List.Perm.append_left ps perm2) inv.perm
      have hpl := inv.pl
      have HPL : Hid (ps.length = j) := hpl
      have hcell : ∀ q, q < j → ∀ W, Apart (ids H (.slice (some ⟨G, 0, none⟩) (N - (j + 1)) cap)) (w2.alloc (.cells #[.int .i64 e.r, .int .i64 e.m, .int .i64 e.a] 92)) W → W.cell? ⟨w.heap.size + 1, q * 3, none⟩ = some (.int .i64 (g ps q).r) ∧ W.cell? ⟨w.heap.size + 1, q * 3 + 1, none⟩ = some (.int .i64 (g ps q).m) ∧ W.cell? ⟨w.heap.size + 1, q * 3 + 2, none⟩ = some (.int .i64 (g ps q).a) := by
        intro q hq W aW
        have o3 := own_apart (own2.alloc (.cells #[.int .i64 e.r, .int .i64 e.m, .int .i64 e.a] 92)) aW (fun k hk hm => by simp [Value.ownBlock, ids] at hk hm; omega)
        have kk := flat_get (ps ++ zs (j - j)) q (by rw [List.length_append, HPL.out]; omega)
        rw [show g (ps ++ zs (j - j)) q = g ps q from by rw [Nat.sub_self]; simp [zs]] at kk
        exact ⟨by rw [o3.cellAt _ (by omega)]; exact kk.1, by rw [o3.cellAt _ (by omega)]; exact kk.2.1, by rw [o3.cellAt _ (by omega)]; exact kk.2.2⟩
      have t20 : T2 R F C (w2.alloc (.cells #[.int .i64 e.r, .int .i64 e.m, .int .i64 e.a] 92)) (w2.alloc (.cells #[.int .i64 e.r, .int .i64 e.m, .int .i64 e.a] 92)) H (.slice (some ⟨G, 0, none⟩) (N - (j + 1)) cap) n cs ps 0 (.slice (some ⟨G, 0, none⟩) (N - (j + 1)) cap) cs :=
        ⟨Nat.zero_le _, at2.kept0 ((Apart.refl _ _).alloc _), by simp, fun A f x => x, Apart.refl _ _, .inl rfl⟩
      have HCL : Hid (cs.length = N - (j + 1)) := hcl
      clear hpl hcl he inv own2 at2 perm2 hp2 a2
      go_wp2
      go_loopw [41] (fun v wr => ∃ q : Nat, v = .int .i64 q ∧ ∃ v2 ds, T2 R F C (w2.alloc (.cells #[.int .i64 e.r, .int .i64 e.m, .int .i64 e.a] 92)) wr H (.slice (some ⟨G, 0, none⟩) (N - (j + 1)) cap) n cs ps q v2 ds) (fun v _ => j - (intOf v).toNat)
      case atStart => exact ⟨0, rfl, _, _, t20⟩
      case round =>
        clear t20
        obtain ⟨q, rfl, v2, ds, inv⟩ := hrel
        have hqj := inv.hj
        rw [HPL.out] at hqj
        by_cases hq : q < j
        · obtain ⟨k0, k1, k2⟩ := hcell q hq wr inv.ap
          have hBr : w.heap.size + 1 < wr.heap.size := Nat.lt_of_lt_of_le (by simp; omega) inv.ap.size
          have aW : Apart [] wr (wr.alloc (.cells #[.int .i64 (g ps q).r, .int .i64 (g ps q).m, .int .i64 (g ps q).a] 92)) := (Apart.refl _ _).alloc _
          have hP := put_at K (wr.alloc (.cells #[.int .i64 (g ps q).r, .int .i64 (g ps q).m, .int .i64 (g ps q).a] 92)) H v2 ds n (inv.at_.kept0 aW) (g ps q) (by
            have := inv.perm.length_eq
            rw [List.length_append, List.length_take, HCL.out, HPL.out] at this
            omega)
          clear hcell
          go_wp2_with fail
          refine hP.mono ?_
          clear hP
          rintro r w5 ⟨rfl, p5⟩
          obtain ⟨v5, ds5, inv5⟩ := inv.step (by rw [HPL.out]; exact hq) aW p5
          clear inv p5 aW k0 k1 k2
          go_wp2
          go_roundw
          case rel => exact ⟨q + 1, by go_num, _, _, inv5⟩
          case measure => simp [intOf]; omega
        · obtain rfl : q = j := by omega
          have bD : wr.heap[w2.heap.size]? = some (.cells #[.int .i64 e.r, .int .i64 e.m, .int .i64 e.a] 92 (0, 0)) := (inv.ap.block _ (by simp) (by simp [ids, Value.ownBlock]; omega)).trans (heap_alloc_new w2 _)
          have bR : wr.heap[w.heap.size]? = some (.cells #[.int .i64 0, .int .i64 0] 31 (0, 0)) := (inv.ap.block _ (by simp; omega) (by simp [ids, Value.ownBlock]; omega)).trans ((Below.heap_alloc _ _ _ hsz).trans hR2)
          have d0 : wr.cell? ⟨w2.heap.size, 0, none⟩ = some (.int .i64 e.r) := by rw [cell_of_row _ _ _ _ _ _ bD]; rfl
          have d1 : wr.cell? ⟨w2.heap.size, 1, none⟩ = some (.int .i64 e.m) := by rw [cell_of_row _ _ _ _ _ _ bD]; rfl
          have r0 : wr.cell? ⟨w.heap.size, 0, none⟩ = some (.int .i64 0) := by rw [cell_of_row _ _ _ _ _ _ bR]; rfl
          have r1 : wr.cell? ⟨w.heap.size, 1, none⟩ = some (.int .i64 0) := by rw [cell_of_row _ _ _ _ _ _ bR]; rfl
          have fR0 := frozen_of_row wr w.heap.size 0 _ _ bR
          have fR1 := frozen_of_row wr w.heap.size 1 _ _ bR
          have bR2 := row2 bR (.int .i64 e.r) (.int .i64 e.m)
          have a7 : Apart [w.heap.size] wr ((wr.setCell ⟨w.heap.size, 0, none⟩ (.int .i64 e.r)).setCell ⟨w.heap.size, 1, none⟩ (.int .i64 e.m)) := ((Apart.refl _ _).setCell (by simp) _).setCell (by simp) _
          have post : TakePost R F C w ((wr.setCell ⟨w.heap.size, 0, none⟩ (.int .i64 e.r)).setCell ⟨w.heap.size, 1, none⟩ (.int .i64 e.m)) H (.slice (some ⟨G, 0, none⟩) N cap) es q n e := by
            refine ⟨v2, ps, cs, ds, HPL.out, inv.at_.kept a7 ?_, ?_, hperm, fun A f x => ⟨inv.hp A f (hsrt A f x).1, (hsrt A f x).2⟩, ?_, ?_⟩
            · intro y hy
              simp at hy
              subst hy
              refine ⟨by omega, ?_, fun b hb => ?_⟩
              · rcases inv.nw with h1 | ⟨p, h1, h2⟩
                · rw [h1]; simp [Value.ownBlock]; omega
                · rw [h1]; simp at h2 ⊢; omega
              · have := lt_of_heap (h.hc b hb)
                omega
            · have := inv.perm
              rw [List.take_of_length_le (by rw [HPL.out]; exact Nat.le_refl _)] at this
              exact this.trans List.perm_append_comm
            · refine ((ap2.mono (by simp [ids, Value.ownBlock])).trans' (((Apart.refl (ids H (.slice (some ⟨G, 0, none⟩) (N - (q + 1)) cap)) w2).alloc _).trans inv.ap) (by simp [ids, Value.ownBlock])).trans' a7 (by simp)
            · rcases inv.nw with h1 | ⟨p, h1, h2⟩
              · exact .inl h1
              · exact .inr ⟨p, h1, by simp at h2; omega⟩
          clear bD bR hcell inv a7 hR2 ap2 hsrt hperm
          go_wp2
          refine bodyPost_ret (results_ct rfl _ _ w.heap.size 31 (.int .i64 e.r) (.int .i64 e.m) (0, 0) rfl bR2) rfl ?_
          exact ⟨e, rfl, post⟩
end
end Go.Proofs.Ytopmhacnopfifaa.hp
