import Derived.Test.YtiakcfjbnlibfaaS4
namespace Go.Proofs.Ytiakcfjbnlibfaa.nt
open Go.ChangeShapes Go.WideShapes Go.ChangeAt Go.RowKit
set_option linter.unusedVariables false
set_option linter.unusedSimpArgs false
/-- the places of a node's letters, of the first k -/
def tos (node : Int) (xs : List Tx) (k : Nat) : List Nat := (List.range k).filter (fun j => decide ((gT xs j).t = node))
theorem tos_yes {node : Int} {xs : List Tx} {k : Nat} (h : (gT xs k).t = node) : tos node xs (k + 1) = tos node xs k ++ [k] := by
  unfold tos
  rw [List.range_succ, List.filter_append]
  simp [h]
theorem tos_no {node : Int} {xs : List Tx} {k : Nat} (h : ¬ (gT xs k).t = node) : tos node xs (k + 1) = tos node xs k := by
  unfold tos
  rw [List.range_succ, List.filter_append]
  simp [h]
theorem tos_len (node : Int) (xs : List Tx) (k : Nat) : (tos node xs k).length ≤ k := by
  have := List.length_filter_le (fun j => decide ((gT xs j).t = node)) (List.range k)
  simpa [tos] using this
def nums (l : List Nat) : List Value := l.map (fun (k : Nat) => .int .i64 (k : Int))
theorem infoI : (Try.prog.info? 3).map (fun i => (i.zero, i.size, i.bytes)) = some (some (.int .i64 0), 1, 8) := by kernel_rfl
theorem app_int {w W : World} {s : Sl} {ls : List Nat} (h : Nw w W 3 1 s (nums ls)) (k : Nat) (hn : s.n ≤ 100000) :
    ∃ s' W', (Builtin.append_ #[65, 65] 65 #[.slice s.p s.n s.c, .slice (some ⟨W.heap.size, 0, none⟩) 1 1]).run Try.prog (W.alloc (.cells #[.int .i64 (k : Int)] 3)) = .ok (.slice s'.p s'.n s'.c) W' ∧ s'.n = s.n + 1 ∧ Nw w W' 3 1 s' (nums (ls ++ [k])) := by
  obtain ⟨i0, hi, hz0, hz1, hz2⟩ := info_parts infoI
  obtain ⟨s', W', hrun, r1, r2, _⟩ := run_appM 65 65 3 i0 _ 1 8 Try.underlying65 hi hz0 hz1 hz2 rfl (by decide) h 1 [.int .i64 (k : Int)] (by decide) rfl (fun v hv => by simp at hv; subst hv; rfl) (by unfold maxLen; omega) (by omega)
  refine ⟨s', W', hrun, r2, ?_⟩
  simpa [nums] using r1
structure ToPost (w w' : World) (r : Ending) (l : List Nat) : Prop where
  ex : ∃ s', r = .returned (.slice s'.p s'.n s'.c) ∧ s'.n = l.length ∧ Nw w w' 3 1 s' (nums l)
set_option maxHeartbeats 4000000 in
theorem rto_ok {w0 w : World} {Bg : Nat} {room : Int} {s : Sl} {ls : List LM} {xs : List Tx} {c : Cn} (h : RB w0 w Bg room s ls xs c) (node : Int) : Calls Try.prog 43 #[.pointer (some ⟨Bg, 0, none⟩), .int .i64 node] w fun r w' => ToPost w w' r (tos node xs s.n) := by
  have hle := h.le
  have HH := hid h
  clear h
  go_enter Try.func43, Try.ntmps43
  go_wp2_with fail
  go_loopw [5, 6] (fun u v wr => ∃ (k : Nat) (t : Sl), v = .int .i64 (k : Nat) ∧ u = .slice t.p t.n t.c ∧ k ≤ s.n ∧ t.n = (tos node xs k).length ∧ Nw w wr 3 1 t (nums (tos node xs k))) (fun _ v _ => s.n - (intOf v).toNat)
  case atStart => exact ⟨0, ⟨none, 0, 0⟩, rfl, rfl, Nat.zero_le _, rfl, ⟨World.ownsRow_nil _ _ _ _, by simp [Sl.v, Value.ownBlock], Apart.refl _ _⟩⟩
  case round =>
    obtain ⟨k, t, rfl, rfl, hk, htn, hN⟩ := hrel
    have HN := hid hN
    have HT := hid htn
    obtain ⟨b0, b1, _⟩ := (HH.out.kept0 hN.ap).cells
    clear hN htn
    by_cases hlt : k < s.n
    · have hz : ((k : Nat) : Int) < ((s.n : Nat) : Int) := by omega
      obtain ⟨G, hG, g0, g1, g2⟩ := (HH.out.kept0 HN.out.ap).at hlt
      rw [hG] at b1
      rw [(HH.out.rd k hlt).t] at g1
      clear hG g0 g2
      by_cases hki : (gT xs k).t = node
      · have HR := hid (tos_yes hki)
        rw [hki] at g1
        obtain ⟨s', W', hrun, r2, r1⟩ := app_int HN.out k (by rw [HT.out]; have := tos_len node xs k; omega)
        have HE : Hid (s'.n = (tos node xs (k + 1)).length ∧ Nw w W' 3 1 s' (nums (tos node xs (k + 1)))) := by
          rw [HR.out]
          exact ⟨by rw [r2, HT.out, List.length_append]; rfl, r1⟩
        clear r1 r2 hki
        go_wp2_with (at_builtin; refine wpList_append3 rfl (.tmp 26) (.tmp 28) 65 rfl _ _ rfl rfl _ _ hrun ?_)
        go_roundw
        case rel => exact ⟨k + 1, s', by go_num, rfl, by omega, HE.out.1, HE.out.2⟩
        case measure => simp [intOf]; omega
      · have HR := hid (tos_no hki)
        go_wp2_with fail
        go_roundw
        case rel => exact ⟨k + 1, t, by go_num, rfl, by omega, by rw [HR.out]; exact HT.out, by rw [HR.out]; exact HN.out⟩
        case measure => simp [intOf]; omega
    · obtain rfl : s.n = k := by omega
      go_wp2
      go_ret
      exact ⟨t, rfl, HT.out, HN.out⟩
set_option maxHeartbeats 4000000 in
theorem to_ok {w0 w : World} {Bg : Nat} {room : Int} {s : Sl} {ls : List LM} {xs : List Tx} {c : Cn} (h : Bag w0 w Bg room s ls xs c) (node : Int) : Calls Try.prog 41 #[.pointer (some ⟨Bg, 0, none⟩), .int .i64 node] w fun r w' => ToPost w w' r (tos node xs s.n) := by
  have hle := h.le
  have HH := hid h
  obtain ⟨b0, b1, _⟩ := h.cells
  clear h
  go_enter Try.func41, Try.ntmps41
  go_wp2_with fail
  go_loopw [5, 13] (fun u v wr => ∃ (k : Nat) (t : Sl), v = .int .i64 (k : Nat) ∧ u = .slice t.p t.n t.c ∧ k ≤ s.n ∧ t.n = (tos node xs k).length ∧ Nw w wr 3 1 t (nums (tos node xs k))) (fun _ v _ => s.n - (intOf v).toNat)
  case atStart => exact ⟨0, ⟨none, 0, 0⟩, rfl, rfl, Nat.zero_le _, rfl, ⟨World.ownsRow_nil _ _ _ _, by simp [Sl.v, Value.ownBlock], Apart.refl _ _⟩⟩
  case round =>
    obtain ⟨k, t, rfl, rfl, hk, htn, hN⟩ := hrel
    have HN := hid hN
    have HT := hid htn
    clear hN htn b0 b1
    by_cases hlt : k < s.n
    · have hz : ((k : Nat) : Int) < ((s.n : Nat) : Int) := by omega
      obtain ⟨G, hG, g0, g1, g2⟩ := (HH.out.kept0 HN.out.ap).at hlt
      obtain ⟨sp, sn, sc⟩ := s
      dsimp only at hG
      subst hG
      have hgt := (HH.out.rd k hlt).t
      rw [hgt] at g1
      obtain ⟨W1, hW1⟩ : ∃ W1, W1 = wr.alloc (boxL (⟨(gL ls k).f, (gT xs k).t, (gL ls k).d⟩ : LM)) := ⟨_, rfl⟩
      have a1 : Apart [] wr W1 := by rw [hW1]; exact (Apart.refl [] wr).alloc _
      have hbx : W1.heap[wr.heap.size]? = some (.cells #[.int .i64 (gL ls k).f, .int .i64 (gT xs k).t, .slice (gL ls k).d.p (gL ls k).d.n (gL ls k).d.c] 30 (0, 0)) := by rw [hW1]; exact heap_alloc_new wr _
      have HN1 := hid (HN.out.kept a1)
      obtain ⟨y0, y1, y2⟩ := row3 hbx
      unfold boxL Sl.v at hW1
      unfold Sl.v at g2
      dsimp only at hW1 hz
      clear hbx a1 hgt
      generalize gL ls k = y at *
      go_upto_region 5 with fail
      rw [← hW1]
      clear hW1 g0 g1 g2
      by_cases hki : (gT xs k).t = node
      · have HR := hid (tos_yes hki)
        rw [hki] at y1
        obtain ⟨s', W', hrun, r2, r1⟩ := app_int HN1.out k (by rw [HT.out]; have := tos_len node xs k; dsimp only at hle; omega)
        have HE : Hid (s'.n = (tos node xs (k + 1)).length ∧ Nw w W' 3 1 s' (nums (tos node xs (k + 1)))) := by
          rw [HR.out]
          exact ⟨by rw [r2, HT.out, List.length_append]; rfl, r1⟩
        clear r1 r2 hki
        go_wp2_with (at_builtin; refine wpList_append3 rfl (.tmp 22) (.tmp 24) 65 rfl _ _ rfl rfl _ _ hrun ?_)
        go_roundw
        case rel => exact ⟨k + 1, s', by go_num, rfl, by dsimp only at hlt ⊢; omega, HE.out.1, HE.out.2⟩
        case measure => simp [intOf]; dsimp only at hlt; omega
      · have HR := hid (tos_no hki)
        go_wp2_with fail
        go_roundw
        case rel => exact ⟨k + 1, t, by go_num, rfl, by dsimp only at hlt ⊢; omega, by rw [HR.out]; exact HT.out, by rw [HR.out]; exact HN1.out⟩
        case measure => simp [intOf]; dsimp only at hlt; omega
    · obtain rfl : s.n = k := by omega
      go_wp2
      go_ret
      exact ⟨t, rfl, HT.out, HN.out⟩
end Go.Proofs.Ytiakcfjbnlibfaa.nt
