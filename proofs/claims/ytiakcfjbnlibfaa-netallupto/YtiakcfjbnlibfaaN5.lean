import Derived.Test.YtiakcfjbnlibfaaN4
import Derived.Laws.BytesString
namespace Go.Proofs.Ytiakcfjbnlibfaa.nt
open Go.ChangeShapes Go.WideShapes Go.ChangeAt Go.RowKit
set_option linter.unusedVariables false
set_option linter.unusedSimpArgs false
def strB (bs : List Nat) : ByteArray := (bs.map (fun (b : Nat) => (b : Int))).foldl (fun r n => r.push (UInt8.ofNat n.toNat)) ByteArray.empty
theorem conv_bytes {w : World} {s : Sl} {bs : List Nat} (h : Rd w s.p (byts bs)) (hl : bs.length = s.n) (ok : s.ok) : Sem.run Try.prog (convert 28 9 (.slice s.p s.n s.c)) w = .ok (.string (strB bs)) w := by
  rw [run_convert_bytes_string w 28 9 5 _ _ _ Try.underlying28 Try.underlying5 Try.underlying9]
  obtain ⟨p, n, c⟩ := s
  unfold Sl.ok at ok
  simp only at h hl ok ⊢
  have hbl : (byts bs).length = n := by simp [byts, hl]
  cases p with
  | none =>
    obtain ⟨rfl, rfl⟩ := ok rfl
    obtain rfl : bs = [] := List.eq_nil_of_length_eq_zero hl
    simp [Conv.bytesToString, strB]
  | some a =>
    refine run_bytesToString w _ _ _ (bs.map (fun (b : Nat) => (b : Int))) ?_
    have := run_loadCells_list (P := Try.prog) w a (byts bs) (fun j v hv => by
      obtain ⟨P, o, e, _, hc⟩ := h (by
        by_cases h0 : 0 < (byts bs).length
        · exact h0
        · rw [List.getElem?_eq_none (by omega)] at hv; cases hv)
      cases e
      rw [Addr.add_lit]; exact hc j v hv)
    rw [hbl] at this
    rw [this]
    simp [byts]
set_option maxHeartbeats 2000000 in
theorem alike_yes (a b : LM) (x : Tx) (w : World) (h : ReadsL w a x) (k : ReadsL w b x) : Calls Try.prog 16 #[a.agg, b.agg] w fun r w' => r = .returned (.bool true) ∧ Apart [] w w' := by
  have aV : Apart [] w ((w.alloc (boxL a)).alloc (boxL b)) := ((Apart.refl [] w).alloc _).alloc _
  have e1 := conv_bytes (h.kept0 aV).d h.dn h.ok
  have e2 := conv_bytes (k.kept0 aV).d k.dn k.ok
  obtain ⟨W, hW⟩ : ∃ W, W = (w.alloc (boxL a)).alloc (boxL b) := ⟨_, rfl⟩
  have q1 : W.heap[w.heap.size]? = some (.cells #[.int .i64 a.f, .int .i64 a.t, a.d.v] 30 (0, 0)) := by rw [hW, Below.heap_alloc _ _ _ (by simp)]; exact heap_alloc_new w _
  have q2 : W.heap[w.heap.size + 1]? = some (.cells #[.int .i64 b.f, .int .i64 b.t, b.d.v] 30 (0, 0)) := by
    have := heap_alloc_new (w.alloc (boxL a)) (boxL b)
    rw [hW]
    have e1 : (w.alloc (boxL a)).heap.size = w.heap.size + 1 := by simp
    rw [e1] at this
    exact this
  rw [← hW] at e1 e2 aV
  have hf : a.f = b.f := h.f.trans k.f.symm
  have ht : a.t = b.t := h.t.trans k.t.symm
  obtain ⟨s0, s1, s2⟩ := row3 q1
  obtain ⟨t0, t1, t2⟩ := row3 q2
  unfold boxL Sl.v at hW
  rw [hf] at s0 hW
  rw [ht] at s1 hW
  generalize strB x.b = s at e1 e2
  have HA := hid aV
  unfold Sl.v at s2 t2
  unfold LM.agg Sl.v
  rw [hf, ht]
  clear q1 q2 h k hf ht aV
  go_enter Try.func16, Try.ntmps16
  go_upto_region 1 with fail
  rw [← hW]
  clear hW
  go_wp2
  go_ret
  exact ⟨rfl, HA.out⟩
theorem num_ok (e : Int) (w : World) : Calls Try.prog 10 #[.int .i64 e] w fun r w' => r = .returned (.int .i64 e) ∧ w' = w := by
  go_enter Try.func10, Try.ntmps10
  go_wp2
  go_ret
  exact ⟨rfl, rfl⟩
end Go.Proofs.Ytiakcfjbnlibfaa.nt
