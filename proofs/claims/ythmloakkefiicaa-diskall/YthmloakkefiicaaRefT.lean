import Derived.Test.YthmloakkefiicaaRefB
import Derived.Test.YthmloakkefiicaaTrace
namespace Go.Proofs.Ythmloakkefiicaa.dk
open Go.ChangeShapes Go.WideShapes Go.ChangeAt Go.RowKit
def secs (l : List Rw) : List Int := l.map fun x => (x.s : Int)
def Rf.traceK (r : Rf) (a k : Nat) : List Int := secs ((r.log.drop a).take k)
def Rf.trace (r : Rf) : List Int := secs (r.log.drop (r.log.length - 64))
theorem traceK_succ (r : Rf) (a k : Nat) (h : a + k < r.log.length) : i64s (r.traceK a k) ++ [Value.int .i64 (r.log[a + k].s : Int)] = i64s (r.traceK a (k + 1)) := by
  have e : (r.log.drop a).take (k + 1) = (r.log.drop a).take k ++ [(r.log.drop a)[k]'(by simp; omega)] := List.take_succ_eq_append_getElem (by simp; omega)
  unfold Rf.traceK
  rw [e]
  simp [secs, i64s]
theorem traceK0_succ (r : Rf) (k : Nat) (h : k < r.log.length) : i64s (r.traceK 0 k) ++ [Value.int .i64 (r.log[k].s : Int)] = i64s (r.traceK 0 (k + 1)) := by
  have := traceK_succ r 0 k (by omega)
  simpa using this
set_option maxHeartbeats 400000 in
theorem rtrace_any {w : World} {R : Nat} {r : Rf} (h : RefAt w R r) (hlog : r.log.length ≤ 1000000) :
    Calls Try.prog 59 #[.pointer (some ⟨R, 0, none⟩)] w fun e w' => ∃ v, e = .returned v ∧ w'.ownsRow w.heap.size 3 1 v r.trace.length (i64s r.trace) ∧ Apart [] w w' := by
  have hRl := lt_of_heap h.hr
  have h2 := h.r2
  obtain ⟨lp, lc, hlv⟩ := own_shape h.own
  rw [hlv] at h2
  have HLV : Hid (r.lv = .slice lp r.log.length lc) := hlv
  clear hlv
  obtain ⟨i0, hi, hz0, hz1, hz2⟩ := info_parts info3
  obtain ⟨A, hA⟩ : ∃ A, A = r.log.length - 64 := ⟨_, rfl⟩
  have hmx : max (0 : Int) ((r.log.length : Int) - 64) = (A : Int) := by omega
  have HA : Hid (A = r.log.length - 64) := hA
  have hAl : A ≤ r.log.length := by omega
  have hAc : ¬ ((0 : Int) < (r.log.length : Int) - 64) → A = 0 := by omega
  have hAd : ((0 : Int) < (r.log.length : Int) - 64) → (r.log.length : Int) - 64 = (A : Int) := by omega
  clear hA hmx
  by_cases hc : (0 : Int) < (r.log.length : Int) - 64
  · have hAd' := hAd hc
    obtain ⟨V, hV⟩ : ∃ V, V = r.log.length := ⟨_, rfl⟩
    have HV : Hid (V = r.log.length) := hV
    rw [← hV] at h2 hc hAd' hAl hlog
    have hVA : V = A + 64 := by omega
    subst hVA
    clear hV hAd hAc hAd'
    go_enter Try.func59, Try.ntmps59
    go_wp2
    go_loopw [3, 4] (fun v i wr => ∃ k : Nat, A + k ≤ (A + 64) ∧ i = .int .i64 ((A + k : Nat) : Int) ∧ wr.ownsRow w.heap.size 3 1 v k (i64s (r.traceK (A) k)) ∧ Below w.heap.size w wr) (fun _ i _ => (A + 64) - (intOf i).toNat)
    case atStart => exact ⟨0, by omega, rfl, World.ownsRow_nil _ _ _ _, Below.refl _ _⟩
    case round =>
      obtain ⟨k, hk, rfl, hown, hnx⟩ := hrel
      have h2r := (hnx.cell (p := ⟨R, 2, none⟩) hRl).trans h2
      by_cases hlt : A + k < A + 64
      · obtain ⟨gl, cl, hlv2, c0, c1, c2⟩ := h.logAt (A + k) (by rw [← HV.out]; exact hlt)
        have hgl : gl < w.heap.size := block_lt_of_cell c0
        have e2 := HLV.out.symm.trans hlv2
        simp only [Value.slice.injEq] at e2
        obtain ⟨rfl, -, rfl⟩ := e2
        have d0 := (hnx.cell (p := ⟨gl, (A + k) * 3, none⟩) hgl).trans c0
        have hsn := traceK_succ r (A) k (by rw [← HV.out]; exact hlt)
        generalize (r.log[A + k]'(by rw [← HV.out]; exact hlt)).s = x at *
        have HSN : Hid (i64s (r.traceK (A) k) ++ [Value.int .i64 (x : Int)] = i64s (r.traceK (A) (k + 1))) := hsn
        clear hsn c0 c1 c2 hlv2
        go_wp2_with (at_builtin; refine wpList_append_own _ rfl _ _ 44 rfl w.heap.size 3 i0 (.int .i64 0) 1 8 Try.underlying44 hi hz0 hz1 hz2 rfl (by decide) _ _ _ rfl (hown.alloc _) ⟨wr.heap.size, 0, none⟩ 1 1 [.int .i64 (x : Int)] rfl rfl ?c1 ?c2 ?c3 ?c4 ?c5 ?_)
        case c1 =>
          intro j u hj
          match j, hj with
          | 0, hj => simp at hj; subst hj; simp [Addr.add]
        case c2 => intro u hu; simp at hu; subst hu; rfl
        case c3 => unfold maxLen; omega
        case c4 => omega
        case c5 => have := hnx.size; simp; omega
        · intro v' w1 hown' hgrow _
          have hb1 : Below w.heap.size w w1 := (hnx.alloc hnx.size _).grown hgrow (by have := hnx.size; simp; omega) (fun k hk => (hown.lt k hk).1)
          rw [HSN.out] at hown'
          clear hgrow hown hnx
          go_wp2
          go_roundw
          case rel => exact ⟨k + 1, by omega, by go_num, hown', hb1⟩
          case measure => simp [intOf]; omega
      · have e0 : k = 64 := by omega
        have E0 : Hid (k = 64) := e0
        clear e0
        go_wp2
        go_ret
        have e : r.traceK (A) k = r.trace := by
          unfold Rf.traceK Rf.trace
          rw [← HV.out, show A + 64 - 64 = A from by omega, List.take_of_length_le (by have := E0.out; rw [List.length_drop, ← HV.out]; omega)]
        have hl : r.trace.length = k := by rw [← e]; simp [Rf.traceK, secs, ← HV.out]; omega
        rw [e] at hown
        rw [hl]
        exact ⟨_, rfl, hown, apart_of_below hnx⟩
  · obtain ⟨V, hV⟩ : ∃ V, V = r.log.length := ⟨_, rfl⟩
    have HV : Hid (V = r.log.length) := hV
    rw [← hV] at h2 hc hlog
    have hV64 : V ≤ 64 := by omega
    clear hV hAd hAc hAl HA
    go_enter Try.func59, Try.ntmps59
    go_wp2
    go_loopw [3, 4] (fun v i wr => ∃ k : Nat, k ≤ V ∧ i = .int .i64 ((k : Nat) : Int) ∧ wr.ownsRow w.heap.size 3 1 v k (i64s (r.traceK 0 k)) ∧ Below w.heap.size w wr) (fun _ i _ => V - (intOf i).toNat)
    case atStart => exact ⟨0, by omega, rfl, World.ownsRow_nil _ _ _ _, Below.refl _ _⟩
    case round =>
      obtain ⟨k, hk, rfl, hown, hnx⟩ := hrel
      have h2r := (hnx.cell (p := ⟨R, 2, none⟩) hRl).trans h2
      by_cases hlt : k < V
      · obtain ⟨gl, cl, hlv2, c0, c1, c2⟩ := h.logAt k (by rw [← HV.out]; exact hlt)
        have hgl : gl < w.heap.size := block_lt_of_cell c0
        have e2 := HLV.out.symm.trans hlv2
        simp only [Value.slice.injEq] at e2
        obtain ⟨rfl, -, rfl⟩ := e2
        have d0 := (hnx.cell (p := ⟨gl, k * 3, none⟩) hgl).trans c0
        have hsn := traceK0_succ r k (by rw [← HV.out]; exact hlt)
        generalize (r.log[k]'(by rw [← HV.out]; exact hlt)).s = x at *
        have HSN : Hid (i64s (r.traceK 0 k) ++ [Value.int .i64 (x : Int)] = i64s (r.traceK 0 (k + 1))) := hsn
        clear hsn c0 c1 c2 hlv2
        go_wp2_with (at_builtin; refine wpList_append_own _ rfl _ _ 44 rfl w.heap.size 3 i0 (.int .i64 0) 1 8 Try.underlying44 hi hz0 hz1 hz2 rfl (by decide) _ _ _ rfl (hown.alloc _) ⟨wr.heap.size, 0, none⟩ 1 1 [.int .i64 (x : Int)] rfl rfl ?c1 ?c2 ?c3 ?c4 ?c5 ?_)
        case c1 =>
          intro j u hj
          match j, hj with
          | 0, hj => simp at hj; subst hj; simp [Addr.add]
        case c2 => intro u hu; simp at hu; subst hu; rfl
        case c3 => unfold maxLen; omega
        case c4 => omega
        case c5 => have := hnx.size; simp; omega
        · intro v' w1 hown' hgrow _
          have hb1 : Below w.heap.size w w1 := (hnx.alloc hnx.size _).grown hgrow (by have := hnx.size; simp; omega) (fun k hk => (hown.lt k hk).1)
          rw [HSN.out] at hown'
          clear hgrow hown hnx
          go_wp2
          go_roundw
          case rel => exact ⟨k + 1, by omega, by go_num, hown', hb1⟩
          case measure => simp [intOf]; omega
      · have e0 : k = V := by omega
        have E0 : Hid (k = V) := e0
        clear e0
        go_wp2
        go_ret
        have e : r.traceK 0 k = r.trace := by
          unfold Rf.traceK Rf.trace
          rw [← HV.out, show V - 64 = 0 from by omega, List.take_of_length_le (by have := E0.out; rw [List.length_drop, ← HV.out]; omega)]
        have hl : r.trace.length = k := by rw [← e]; simp [Rf.traceK, secs, ← HV.out]; omega
        rw [e] at hown
        rw [hl]
        exact ⟨_, rfl, hown, apart_of_below hnx⟩
end Go.Proofs.Ythmloakkefiicaa.dk
