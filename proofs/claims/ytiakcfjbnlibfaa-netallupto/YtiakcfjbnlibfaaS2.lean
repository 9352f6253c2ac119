import Derived.Test.YtiakcfjbnlibfaaS1
namespace Go.Proofs.Ytiakcfjbnlibfaa.nt
open Go.ChangeShapes Go.WideShapes Go.ChangeAt Go.RowKit
set_option linter.unusedVariables false
set_option linter.unusedSimpArgs false
/-- append of a letter to a list of the call's own: its run -/
theorem app_one {w W : World} {s : Sl} {ls : List LM} (h : Nw w W 30 3 s (flatL ls)) (l : LM) (hn : s.n ≤ 100000) :
    ∃ s' W', (Builtin.append_ #[22, 22] 22 #[.slice s.p s.n s.c, .slice (some ⟨W.heap.size, 0, none⟩) 1 1]).run Try.prog (W.alloc (boxL l)) = .ok (.slice s'.p s'.n s'.c) W' ∧ s'.n = s.n + 1 ∧ Nw w W' 30 3 s' (flatL (ls ++ [l])) := by
  obtain ⟨i0, hi, hz0, hz1, hz2⟩ := info_parts infoL
  obtain ⟨s', W', hrun, r1, r2, _⟩ := run_appM 22 22 30 i0 _ 3 40 Try.underlying22 hi hz0 hz1 hz2 rfl (by decide) h 1 (LM.cs l) (by decide) rfl (fun v hv => oneL [l] v (by simpa [flatL] using hv)) (by unfold maxLen; omega) (by omega)
  refine ⟨s', W', hrun, r2, ?_⟩
  rw [← flatL_snoc]
  exact r1
theorem wo_skip {α : Type} (l : List α) (i : Nat) (hi : i < l.length) : (l.take (i + 1)).eraseIdx i = (l.take i).eraseIdx i := by
  rw [List.eraseIdx_of_length_le (by simp; omega : (l.take i).length ≤ i), List.eraseIdx_eq_take_drop_succ, List.take_take, Nat.min_eq_left (by omega), List.drop_eq_nil_of_le (by simp; omega), List.append_nil]
theorem wo_more {α : Type} (l : List α) (i k : Nat) (d : α) (hk : k < l.length) (hne : k ≠ i) : (l.take (k + 1)).eraseIdx i = (l.take k).eraseIdx i ++ [l.getD k d] := by
  have e : l.take (k + 1) = l.take k ++ [l.getD k d] := by
    rw [List.take_add_one, List.getD_eq_getElem?_getD, List.getElem?_eq_getElem hk]; rfl
  rw [e]
  by_cases h : i < k
  · rw [List.eraseIdx_append_of_lt_length (by simp; omega)]
  · rw [List.eraseIdx_of_length_le (by simp; omega), List.eraseIdx_of_length_le (by simp; omega)]
set_option maxHeartbeats 4000000 in
theorem without_ok {w0 w : World} {Bg : Nat} {room : Int} {s : Sl} {ls : List LM} {xs : List Tx} {c : Cn} (h : RB w0 w Bg room s ls xs c) (i : Nat) (hi : i < s.n) : Calls Try.prog 47 #[.pointer (some ⟨Bg, 0, none⟩), .int .i64 (i : Int)] w fun r w' => ∃ s', r = .returned (.slice s'.p s'.n s'.c) ∧ s'.n = s.n - 1 ∧ Nw w w' 30 3 s' (flatL (ls.eraseIdx i)) := by
  have hll : ls.length = s.n := h.len
  have hle := h.le
  have HH := hid h
  clear h
  go_enter Try.func47, Try.ntmps47
  go_wp2_with fail
  go_loopw [5, 6] (fun u v wr => ∃ (k : Nat) (t : Sl), v = .int .i64 (k : Nat) ∧ u = .slice t.p t.n t.c ∧ k ≤ s.n ∧ t.n = ((ls.take k).eraseIdx i).length ∧ Nw w wr 30 3 t (flatL ((ls.take k).eraseIdx i))) (fun _ v _ => s.n - (intOf v).toNat)
  case atStart => exact ⟨0, ⟨none, 0, 0⟩, rfl, rfl, Nat.zero_le _, rfl, ⟨World.ownsRow_nil _ _ _ _, by simp [Sl.v, Value.ownBlock], Apart.refl _ _⟩⟩
  case round =>
    obtain ⟨k, t, rfl, rfl, hk, htn, hN⟩ := hrel
    have HN := hid hN
    have HT := hid htn
    obtain ⟨b0, b1, _⟩ := (HH.out.kept0 hN.ap).cells
    clear hN htn
    by_cases hlt : k < s.n
    · have hz : ((k : Nat) : Int) < ((s.n : Nat) : Int) := by omega
      by_cases hki : k = i
      · subst hki
        have HR := hid (wo_skip ls k (by omega))
        go_wp2_with fail
        go_roundw
        case rel => exact ⟨k + 1, t, by go_num, rfl, by omega, by rw [HR.out]; exact HT.out, by rw [HR.out]; exact HN.out⟩
        case measure => simp [intOf]; omega
      · have hkz : ¬ ((k : Nat) : Int) = ((i : Nat) : Int) := by omega
        obtain ⟨G, hG, g0, g1, g2⟩ := (HH.out.kept0 HN.out.ap).at hlt
        rw [hG] at b1
        clear hG
        have HR := hid (wo_more ls i k LM.z (by omega) hki)
        have ht256 : t.n ≤ 256 := by
          rw [HT.out]
          have := List.length_eraseIdx_le (ls.take k) i
          simp at this
          omega
        obtain ⟨s', W', hrun, r2, r1⟩ := app_one HN.out (gL ls k) (by omega)
        have hbl := buildL wr (gL ls k)
        have HE : Hid (s'.n = ((ls.take (k + 1)).eraseIdx i).length ∧ Nw w W' 30 3 s' (flatL ((ls.take (k + 1)).eraseIdx i))) := by
          rw [HR.out]
          exact ⟨by rw [r2, HT.out, List.length_append]; rfl, r1⟩
        clear r1 r2 hki
        generalize gL ls k = y at *
        unfold boxL Sl.v at hrun
        unfold LM.agg boxL Sl.v at hbl
        unfold Sl.v at g2
        go_wp2_with (at_builtin; refine wpList_append3 rfl (.tmp 19) (.tmp 27) 22 rfl _ _ rfl rfl _ _ hrun ?_)
        go_roundw
        case rel => exact ⟨k + 1, s', by go_num, rfl, by omega, HE.out.1, HE.out.2⟩
        case measure => simp [intOf]; omega
    · obtain rfl : s.n = k := by omega
      have HE : Hid (t.n = s.n - 1 ∧ Nw w wr 30 3 t (flatL (ls.eraseIdx i))) := by
        have h1 := HT.out
        have h2 := HN.out
        rw [List.take_of_length_le (by omega)] at h1 h2
        exact ⟨by rw [h1, List.length_eraseIdx, if_pos (by omega)]; omega, h2⟩
      go_wp2
      go_ret
      exact ⟨t, rfl, HE.out.1, HE.out.2⟩
/-- the document's bag with another row -/
theorem RB.repl {w0 w w' : World} {Bg : Nat} {room : Int} {s s' : Sl} {ls ls' : List LM} {xs xs' : List Tx} {c : Cn} (h : RB w0 w Bg room s ls xs c) (nw : Nw w w' 30 3 s' (flatL ls')) (hl : ls'.length = s'.n) (hx : xs'.length = s'.n) (hle : s'.n ≤ 256) (f : Nat → Nat) (hf : ∀ j, j < s'.n → f j < s.n ∧ gL ls' j = gL ls (f j) ∧ gT xs' j = gT xs (f j)) :
    RB w0 (w'.setCell ⟨Bg, 1, none⟩ (.slice s'.p s'.n s'.c)) Bg room s' ls' xs' c ∧ Apart [Bg] w (w'.setCell ⟨Bg, 1, none⟩ (.slice s'.p s'.n s'.c)) ∧ (∀ k, s'.v.ownBlock = some k → w.heap.size ≤ k) := by
  have b1 := (nw.ap.block Bg (lt_of_heap h.blk) (by simp)).trans h.blk
  have ag : Apart [Bg] w' (w'.setCell ⟨Bg, 1, none⟩ (.slice s'.p s'.n s'.c)) := (Apart.refl _ _).setCell (.inl (by simp)) _
  have hX : ∀ (t : TypeId), t ≠ 77 → ∀ k ∈ [Bg], ∀ cur : Array Value, w'.heap[k]? ≠ some (.cells cur t (0, 0)) := fun t ht k hk cur => by simp at hk; subst hk; exact blk_ne b1 cur ht
  have hap : Apart [] w0 w' := h.row.ap.trans nw.ap
  have nw0 : Nw w0 w' 30 3 s' (flatL ls') := ⟨nw.own, fun k hk => Nat.le_trans h.row.ap.size (nw.new k hk), hap⟩
  refine ⟨⟨?_, h.hB, nw0.keepT ag (hap.trans' ag (by simp; exact h.hB)) (hX 30 (by decide)), hl, hx, hle, fun j hj => ?_⟩, (nw.ap.mono (by simp)).trans ag, nw.new⟩
  · have := heap_setCell_same w' Bg 1 _ 77 (.slice s'.p s'.n s'.c) b1
    simpa [Sl.v] using this
  · obtain ⟨h1, h2, h3⟩ := hf j hj
    rw [h2, h3]
    exact ((h.rd _ h1).kept0 nw.ap).keepT ag (hX 5 (by decide))
end Go.Proofs.Ytiakcfjbnlibfaa.nt
