import Derived.Test.YtddffdcjhleejaaV31
namespace Go.Proofs.Ytddffdcjhleejaa.ds
open Go.ChangeShapes Go.WideShapes Go.ChangeAt Go.RowKit Go.Sort
set_option linter.unusedVariables false
set_option linter.unusedSimpArgs false
def mkS : S := ⟨77, 77, 77⟩
/-- a list of spans in memory of the call's own -/
structure Ss (wB w : World) (s : Sl) (xs : List S) : Prop where
  nw : Nw wB w 86 3 s (flat xs)
  len : s.n = xs.length
  fit : ∀ x ∈ xs, x.t < 2 ^ 64
theorem Ss.kept {wB w w' : World} {s : Sl} {xs : List S} (h : Ss wB w s xs) (a : Apart [] w w') : Ss wB w' s xs := ⟨h.nw.kept a, h.len, h.fit⟩
theorem Ss.nil {wB w : World} (a : Apart [] wB w) : Ss wB w ⟨none, 0, 0⟩ [] := ⟨⟨World.ownsRow_nil _ _ _ _, by simp [Sl.v, Value.ownBlock], a⟩, rfl, by simp⟩
theorem app_span {wB w : World} {s : Sl} {xs : List S} (h : Ss wB w s xs) (x : S) (hx : x.t < 2 ^ 64) (hl : xs.length ≤ 2000000) :
    ∃ s' W', (Builtin.append_ #[26, 26] 26 #[.slice s.p s.n s.c, .slice (some ⟨w.heap.size, 0, none⟩) 1 1]).run Try.prog (w.alloc (Obj.cells #[.int .i64 x.n, .int .i64 x.b, .int .u64 (x.t : Int)] 86)) = .ok (.slice s'.p s'.n s'.c) W' ∧ Ss wB W' s' (xs ++ [x]) := by
  obtain ⟨i0, hif, hz0, hz1, hz2⟩ := info_parts info52
  have hlen := h.len
  obtain ⟨s5, w5, hrun, hnw5, hs5, ap5, k5, hk5, -, hk6⟩ := run_appM (s := s) 26 26 86 i0 _ 3 24 Try.underlying26 hif hz0 hz1 hz2 rfl (by decide) h.nw 1 [.int .i64 x.n, .int .i64 x.b, .int .u64 (x.t : Int)] (by decide) rfl (fun u hu => by simp at hu; rcases hu with rfl | rfl | rfl <;> rfl) (by unfold maxLen; omega) (by omega)
  exact ⟨s5, w5, hrun, ⟨by rw [flat_snoc]; exact hnw5, by simp; omega, fun y hy => by
    rcases List.mem_append.1 hy with hy | hy
    · exact h.fit y hy
    · simp at hy; rw [hy]; exact hx⟩⟩
structure SpP (w : World) (xs : List S) (e : Ending) (w' : World) : Prop where
  ex : ∃ s : Sl, e = .returned (.slice s.p s.n s.c) ∧ Ss w w' s xs
set_option maxHeartbeats 4000000 in
set_option maxRecDepth 100000 in
/-- a copy of spans, with a mark behind it -/
theorem spansL_ok {w : World} {p : Option Addr} {n c : Nat} {xs : List S} (h : L w p n xs) (hl : n ≤ 2000000) : Calls Try.prog 23 #[.slice p n c] w fun r w' => SpP w (xs ++ [mkS]) r w' := by
  have HR := hid h
  have HLE := hid h.len
  clear h
  go_enter Try.func23, Try.ntmps23
  go_wp2_with fail
  go_loopw [3, 4] (fun a b wt => ∃ (i : Nat) (t : Sl), a = .slice t.p t.n t.c ∧ b = .int .i64 (i : Nat) ∧ i ≤ n ∧ Ss w wt t (xs.take i)) (fun _ b _ => n - (intOf b).toNat)
  case atStart => exact ⟨0, ⟨none, 0, 0⟩, rfl, rfl, Nat.zero_le _, Ss.nil (Apart.refl _ _)⟩
  case round =>
    obtain ⟨i, t, rfl, rfl, hi, hb⟩ := hrel
    have HB := hid hb
    clear hb
    by_cases hlt : i < n
    · have hlti : ((i : Nat) : Int) < (n : Int) := by omega
      have hil : i < xs.length := by rw [HLE.out]; exact hlt
      obtain ⟨P, o, hP, hPl, hc⟩ := (HR.out.kept0 HB.out.nw.ap).sp (by omega)
      obtain ⟨c0, c1, c2⟩ := hc i hil
      subst hP
      clear hc
      obtain ⟨x, Hx⟩ : ∃ x, Hid (x = g xs i) := ⟨_, rfl⟩
      rw [← Hx.out] at c0 c1 c2
      obtain ⟨s2, w2, hrun, hb2⟩ := app_span HB.out x (HR.out.fit x (by rw [Hx.out]; exact g_mem hil)) (by simp; omega)
      have HRUN := hid hrun
      have HB2 : Hid (Ss w w2 s2 (xs.take (i + 1))) := by unfold Hid; rw [take_g hil, ← Hx.out]; exact hb2
      clear hrun hb2
      go_wp2_with (at_builtin; refine wpList_app2 rfl (.tmp 11) (.tmp 16) 26 26 rfl _ _ rfl rfl _ _ HRUN.out ?_)
      go_roundw
      case rel => exact ⟨i + 1, s2, rfl, by go_num, by omega, HB2.out⟩
      case measure => simp [intOf]; omega
    · have hlti : ¬ ((i : Nat) : Int) < (n : Int) := by omega
      have HB1 : Hid (Ss w wr t xs) := by
        unfold Hid
        have := HB.out
        rw [List.take_of_length_le (by rw [HLE.out]; omega)] at this
        exact this
      obtain ⟨s2, w2, hrun, hb2⟩ := app_span HB1.out mkS (by decide) (by rw [HLE.out]; omega)
      have HRUN : Hid ((Builtin.append_ #[26, 26] 26 #[.slice t.p t.n t.c, .slice (some ⟨wr.heap.size, 0, none⟩) 1 1]).run Try.prog (wr.alloc (Obj.cells #[.int .i64 77, .int .i64 77, .int .u64 77] 86)) = .ok (.slice s2.p s2.n s2.c) w2) := hrun
      have HB2 := hid hb2
      clear hrun hb2
      go_wp2_with (at_builtin; refine wpList_app2 rfl (.tmp 18) (.tmp 20) 26 26 rfl _ _ rfl rfl _ _ HRUN.out ?_)
      go_ret
      exact ⟨s2, rfl, HB2.out⟩
/-- a write that is lent: its lists are the beginnings of lists with marks behind -/
structure Ln (w W : World) (e : E) (r : Wr) (sv sx : Sl) : Prop where
  n : e.n = r.n
  c : e.c = r.c
  k : e.k = r.k
  d : e.d = r.d
  v : e.v = ⟨sv.p, r.vs.length, sv.c⟩
  x : e.x = ⟨sx.p, r.xs.length, sx.c⟩
  bv : Bf w W sv (r.vs ++ [165, 90])
  bx : Ss w W sx (r.xs ++ [mkS])
  vb : ∀ b ∈ r.vs, b < 256
  vl : r.vs.length ≤ 2000000
  xl : r.xs.length ≤ 2000000
theorem Bf.keepT {wB w w' : World} {s : Sl} {us : List Nat} {X : List Nat} (h : Bf wB w s us) (a : Apart X w w') (ap : Apart [] wB w') (hX : ∀ k ∈ X, ∀ cur, w.heap[k]? ≠ some (.cells cur 5 (0, 0))) : Bf wB w' s us := ⟨h.nw.keepT a ap hX, h.len⟩
theorem Ss.keepT {wB w w' : World} {s : Sl} {us : List S} {X : List Nat} (h : Ss wB w s us) (a : Apart X w w') (ap : Apart [] wB w') (hX : ∀ k ∈ X, ∀ cur, w.heap[k]? ≠ some (.cells cur 86 (0, 0))) : Ss wB w' s us := ⟨h.nw.keepT a ap hX, h.len, h.fit⟩
theorem Ln.keepT {w W W' : World} {e : E} {r : Wr} {sv sx : Sl} {X : List Nat} (h : Ln w W e r sv sx) (a : Apart X W W') (ap : Apart [] w W') (hX : ∀ k ∈ X, ∀ cur, W.heap[k]? ≠ some (.cells cur 5 (0, 0)) ∧ W.heap[k]? ≠ some (.cells cur 86 (0, 0))) : Ln w W' e r sv sx :=
  { h with bv := h.bv.keepT a ap (fun k hk cur => (hX k hk cur).1), bx := h.bx.keepT a ap (fun k hk cur => (hX k hk cur).2) }
theorem Ln.kept {w W W' : World} {e : E} {r : Wr} {sv sx : Sl} (h : Ln w W e r sv sx) (a : Apart [] W W') : Ln w W' e r sv sx := h.keepT a (h.bv.nw.ap.trans a) (by simp)
theorem Rd.pre {w : World} {p : Option Addr} {us vs : List Value} (h : Rd w p (us ++ vs)) : Rd w p us := by
  intro h0
  obtain ⟨P, o, e, hP, hc⟩ := h (by simp; omega)
  refine ⟨P, o, e, hP, fun j u hj => hc j u ?_⟩
  have hj' : j < us.length := by
    by_cases hq : j < us.length
    · exact hq
    · rw [List.getElem?_eq_none (by omega)] at hj; cases hj
  rw [List.getElem?_append_left hj']
  exact hj
theorem Ln.reads {w W : World} {e : E} {r : Wr} {sv sx : Sl} (h : Ln w W e r sv sx) : Reads W e r := by
  have hv := h.v
  have hx := h.x
  have e1 : e.v.p = sv.p ∧ e.v.n = r.vs.length ∧ e.v.c = sv.c := by rw [hv]; exact ⟨rfl, rfl, rfl⟩
  have e2 : e.x.p = sx.p ∧ e.x.n = r.xs.length ∧ e.x.c = sx.c := by rw [hx]; exact ⟨rfl, rfl, rfl⟩
  refine ⟨h.n, h.c, h.k, h.d, ?_, e1.2.1.symm, by rw [e1.2.1]; exact h.vl, h.vb, ?_, by rw [e2.2.1]; exact h.xl, ?_, ?_⟩
  · rw [e1.1]
    have := h.bv.nw.rd
    rw [byts_app] at this
    exact this.pre
  · rw [e2.1, e2.2.1]
    have := h.bx.nw.rd
    rw [flat_snoc] at this
    exact ⟨Sp.of_rd this.pre, rfl, by have := h.xl; omega, fun y hy => h.bx.fit y (List.mem_append_left _ hy)⟩
  · intro hp
    rw [e1.1] at hp
    have := (h.bv.nw.ok hp).1
    have := h.bv.len
    simp at this
    omega
  · intro hp
    rw [e2.1] at hp
    have := (h.bx.nw.ok hp).1
    have := h.bx.len
    simp at this
    omega
theorem Ss.cap {wB w : World} {s : Sl} {xs : List S} (h : Ss wB w s (xs ++ [mkS])) : xs.length ≤ s.c ∧ ∃ g, s.p = some ⟨g, 0, none⟩ := by
  have hlen := h.len
  rw [List.length_append] at hlen
  simp at hlen
  obtain ⟨_, ⟨hv, hz⟩ | ⟨g, cap, cur, hv, _, _, hle, _⟩⟩ := h.nw.own
  · omega
  · unfold Sl.v at hv
    simp at hv
    exact ⟨by omega, g, hv.1⟩
end Go.Proofs.Ytddffdcjhleejaa.ds
