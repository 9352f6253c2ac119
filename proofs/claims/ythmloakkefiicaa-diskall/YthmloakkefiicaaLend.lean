import Derived.Test.YthmloakkefiicaaRefF
import Derived.Laws.AppendOwnNone
namespace Go.Proofs.Ythmloakkefiicaa.dk
open Go.ChangeShapes Go.WideShapes Go.ChangeAt Go.RowKit
def marks (k : Nat) : List Int := (List.range k).map fun i => ((167 + i : Nat) : Int)
theorem marks_length (k : Nat) : (marks k).length = k := by simp [marks]
theorem marks_succ (k : Nat) : marks k ++ [((167 + k : Nat) : Int)] = marks (k + 1) := by simp [marks, List.range_succ]
def lentL (bs : List Int) : List Int := bs ++ marks 40
set_option maxHeartbeats 400000 in
theorem lend_any (w : World) (p : Option Addr) (len cap : Nat) (bs : List Int) (hs : Src w p len bs) (hlen : len ≤ 4194304) (hpn : p = none → len = 0 ∧ cap = 0) :
    Calls Try.prog 39 #[.slice p len cap] w fun r w' => ∃ v, r = .returned v ∧ w'.ownsRow w.heap.size 5 1 v (len + 40) (u8s (lentL bs)) ∧ Apart [] w w' := by
  obtain ⟨i0, hi, hz0, hz1, hz2⟩ := info_parts info5
  have HL : Hid (bs.length = len) := hs.hlen
  cases p with
  | none =>
    obtain ⟨rfl, rfl⟩ := hpn rfl
    go_enter Try.func39, Try.ntmps39
    go_wp2
    go_loopw [3, 4] (fun v i wr => ∃ k : Nat, k ≤ 40 ∧ i = .int .i64 k ∧ wr.ownsRow w.heap.size 5 1 v k (u8s (bs ++ marks k)) ∧ Below w.heap.size w wr) (fun _ i _ => 40 - (intOf i).toNat)
    case atStart => exact ⟨0, Nat.zero_le _, rfl, by rw [List.eq_nil_of_length_eq_zero HL.out]; exact World.ownsRow_nil _ _ _ _, Below.refl _ _⟩
    case round =>
      obtain ⟨k, hk, rfl, hown, hnx⟩ := hrel
      by_cases hlt : k < 40
      · have hsn : u8s (bs ++ marks k) ++ [Value.int .u8 (167 + (k : Int))] = u8s (bs ++ marks (k + 1)) := by rw [← marks_succ]; simp [u8s]
        have HSN : Hid (u8s (bs ++ marks k) ++ [Value.int .u8 (167 + (k : Int))] = u8s (bs ++ marks (k + 1))) := hsn
        clear hsn
        go_wp2_with (at_builtin; refine wpList_append_own _ rfl (.tmp 12) (.tmp 16) 30 rfl w.heap.size 5 i0 (.int .u8 0) 1 1 Try.underlying30 hi hz0 hz1 hz2 rfl (by decide) _ _ _ rfl (hown.alloc _) ⟨wr.heap.size, 0, none⟩ 1 1 [.int .u8 (167 + (k : Int))] rfl rfl ?d1 ?d2 ?d3 ?d4 ?d5 ?_)
        case d1 =>
          intro j u hj
          match j, hj with
          | 0, hj => simp at hj; subst hj; simp [Addr.add]
        case d2 => intro u hu; simp at hu; subst hu; rfl
        case d3 => unfold maxLen; omega
        case d4 => omega
        case d5 => have := hnx.size; simp; omega
        · intro v' w1 hown' hgrow _
          have hb1 : Below w.heap.size w w1 := (hnx.alloc hnx.size _).grown hgrow (by have := hnx.size; simp; omega) (fun k hk => (hown.lt k hk).1)
          rw [HSN.out] at hown'
          clear hgrow hown hnx
          go_wp2
          go_roundw
          case rel => exact ⟨k + 1, by omega, by go_num, hown', hb1⟩
          case measure => simp [intOf]; omega
      · have e : k = 40 := by omega
        subst e
        go_wp2
        go_ret
        exact ⟨_, rfl, hown, apart_of_below hnx⟩
  | some ad =>
    go_enter Try.func39, Try.ntmps39
    go_wp2_with (at_builtin; refine wpList_append_own _ rfl (.tmp 5) (.tmp 6) 30 rfl w.heap.size 5 i0 (.int .u8 0) 1 1 Try.underlying30 hi hz0 hz1 hz2 rfl (by decide) _ _ _ rfl (World.ownsRow_nil _ _ _ _) ad len cap (u8s bs) rfl ?c0 ?c1 ?c2 ?c3 ?c4 ?c5 ?_)
    case c0 => rw [u8s_length, HL.out]; omega
    case c1 =>
      intro j v hv
      obtain ⟨hj, rfl⟩ := u8s_at bs j v hv
      obtain ⟨g, o, e, _, hc⟩ := hs.cells (by have := HL.out; omega)
      cases e
      rw [Addr.add_lit]; exact hc j (by have := HL.out; omega)
    case c2 => exact u8s_one _
    case c3 => unfold maxLen; omega
    case c4 => omega
    case c5 => exact Nat.le_refl _
    · intro vA wA hownA hgrowA _
      have hbA : Below w.heap.size w wA := (Below.refl _ _).grown hgrowA (Nat.le_refl _) (fun k hk => by cases hk)
      clear hgrowA
      go_wp2
      go_loopw [3, 4] (fun v i wr => ∃ k : Nat, k ≤ 40 ∧ i = .int .i64 k ∧ wr.ownsRow w.heap.size 5 1 v (len + k) (u8s (bs ++ marks k)) ∧ Below w.heap.size w wr) (fun _ i _ => 40 - (intOf i).toNat)
      case atStart => exact ⟨0, Nat.zero_le _, rfl, by simpa [marks] using hownA, hbA⟩
      case round =>
        obtain ⟨k, hk, rfl, hown, hnx⟩ := hrel
        by_cases hlt : k < 40
        · have hsn : u8s (bs ++ marks k) ++ [Value.int .u8 (167 + (k : Int))] = u8s (bs ++ marks (k + 1)) := by rw [← marks_succ]; simp [u8s]
          have HSN : Hid (u8s (bs ++ marks k) ++ [Value.int .u8 (167 + (k : Int))] = u8s (bs ++ marks (k + 1))) := hsn
          clear hsn
          go_wp2_with (at_builtin; refine wpList_append_own _ rfl (.tmp 12) (.tmp 16) 30 rfl w.heap.size 5 i0 (.int .u8 0) 1 1 Try.underlying30 hi hz0 hz1 hz2 rfl (by decide) _ _ _ rfl (hown.alloc _) ⟨wr.heap.size, 0, none⟩ 1 1 [.int .u8 (167 + (k : Int))] rfl rfl ?d1 ?d2 ?d3 ?d4 ?d5 ?_)
          case d1 =>
            intro j u hj
            match j, hj with
            | 0, hj => simp at hj; subst hj; simp [Addr.add]
          case d2 => intro u hu; simp at hu; subst hu; rfl
          case d3 => unfold maxLen; omega
          case d4 => omega
          case d5 => have := hnx.size; simp; omega
          · intro v' w1 hown' hgrow _
            have hb1 : Below w.heap.size w w1 := (hnx.alloc hnx.size _).grown hgrow (by have := hnx.size; simp; omega) (fun k hk => (hown.lt k hk).1)
            rw [HSN.out] at hown'
            clear hgrow hown hnx
            go_wp2
            go_roundw
            case rel => exact ⟨k + 1, by omega, by go_num, hown', hb1⟩
            case measure => simp [intOf]; omega
        · have e : k = 40 := by omega
          subst e
          go_wp2
          go_ret
          exact ⟨_, rfl, hown, apart_of_below hnx⟩
end Go.Proofs.Ythmloakkefiicaa.dk
