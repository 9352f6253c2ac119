import Derived.Test.YthmloakkefiicaaRefW
namespace Go.Proofs.Ythmloakkefiicaa.dk
open Go.ChangeShapes Go.WideShapes Go.ChangeAt Go.RowKit
theorem rfrom_good (w : World) (n : Nat) (p : Option Addr) (c : Nat) (bs : List Int) (hs : Src w p (n * 512) bs) (hn1 : 1 ≤ n) (hn2 : n ≤ 4096) :
    Calls Try.prog 40 #[.slice p (n * 512) c] w fun r w' => ∃ R fv, r = .returned (.tuple #[.pointer (some ⟨R, 0, none⟩), .int .i64 0]) ∧ RefAt w' R (Rf.fresh n bs fv) ∧ w.heap.size ≤ R ∧ Apart [] w w' ∧ (∀ k, fv.ownBlock = some k → w.heap.size ≤ k) := by
  have hl := hs.hlen
  have HL : Hid (bs.length = n * 512) := hl
  clear hl
  have m0 : ((n : Int) * 512 == 0) = false := beq_eq_false_iff_ne.2 (by omega)
  have m1 : ((n : Int) * 512) % 512 = 0 := by omega
  have m2 : ((n : Int) * 512) / 512 = n := by omega
  have m3 : ¬ ((4096 : Int) < (n : Int)) := by omega
  go_enter Try.func40, Try.ntmps40
  go_wp2_with fail
  refine (copied_any w p (n * 512) c bs hs (by omega)).mono ?_
  rintro e w1 ⟨v, rfl, hown, a1⟩
  obtain ⟨g, vc, rfl, hgw⟩ : ∃ g vc, v = .slice (some ⟨g, 0, none⟩) (n * 512) vc ∧ Hid (w.heap.size ≤ g) := by
    obtain ⟨_, ⟨_, hz⟩ | ⟨g, cap, cur, rfl, hb, _⟩⟩ := hown
    · omega
    · exact ⟨g, cap, rfl, hb⟩
  have hownb : OwnB w1 (.slice (some ⟨g, 0, none⟩) (n * 512) vc) bs := by
    show w1.ownsRow 0 5 1 _ bs.length _
    rw [HL.out]
    obtain ⟨x1, ⟨x2, x3⟩ | ⟨g', cap, cur, x2, _, x4⟩⟩ := hown
    · cases x2
    · exact ⟨x1, .inr ⟨g', cap, cur, x2, Nat.zero_le _, x4⟩⟩
  clear hown
  have hsz := a1.size
  go_wp2
  go_ret2
  refine ⟨w1.heap.size, .slice (some ⟨g, 0, none⟩) (n * 512) vc, rfl, ⟨?_, hownb.apart ((Apart.refl [] w1).alloc _) (by simp), World.ownsRow_nil _ _ _ _, fun x hx => by simp [Rf.fresh] at hx, hn2⟩, hsz, a1.alloc _, fun k hk => by simp [Value.ownBlock] at hk; exact hk ▸ hgw.out⟩
  rw [heap_alloc_new]; rfl
theorem rfrom_bad (w : World) (p : Option Addr) (len c : Nat) (hlen : len ≤ 4194304) (hb : len = 0 ∨ len % 512 ≠ 0 ∨ 4096 < len / 512) :
    Calls Try.prog 40 #[.slice p len c] w fun r w' => r = .returned (.tuple #[.pointer none, .int .i64 1]) ∧ w' = w := by
  by_cases h0 : len = 0
  · subst h0
    go_enter Try.func40, Try.ntmps40
    go_wp2
    go_ret2
    exact ⟨rfl, rfl⟩
  · have m0 : ((len : Int) == 0) = false := beq_eq_false_iff_ne.2 (by omega)
    by_cases h1 : len % 512 = 0
    · have m1 : ((len : Int) % 512 != 0) = false := by
        have : (len : Int) % 512 = 0 := by omega
        rw [this]; rfl
      have m3 : (4096 : Int) < (len : Int) / 512 := by omega
      clear hb h0 h1
      go_enter Try.func40, Try.ntmps40
      go_wp2
      go_ret2
      exact ⟨rfl, rfl⟩
    · have m1 : ((len : Int) % 512 != 0) = true := by rw [bne_iff_ne]; omega
      clear hb h0 h1
      go_enter Try.func40, Try.ntmps40
      go_wp2
      go_ret2
      exact ⟨rfl, rfl⟩
/-- From: what is no disk -/
theorem from_bad (w : World) (p : Option Addr) (len c : Nat) (hlen : len ≤ 4194304) (hb : len = 0 ∨ len % 512 ≠ 0 ∨ 4096 < len / 512) :
    Calls Try.prog 25 #[.slice p len c] w fun r w' => r = .returned (.tuple #[.pointer none, .int .i64 1]) ∧ w' = w := by
  by_cases h1 : len % 512 = 0
  · have m1 : ((len : Int) % 512 != 0) = false := by
      have : (len : Int) % 512 = 0 := by omega
      rw [this]; rfl
    have hnb := new_bad w ((len : Int) / 512) (by omega)
    clear hb h1
    go_enter Try.func25, Try.ntmps25
    go_wp2_with fail
    refine hnb.mono ?_
    rintro r w' ⟨rfl, rfl⟩
    go_wp2
    go_ret2
    exact ⟨rfl, rfl⟩
  · have m1 : ((len : Int) % 512 != 0) = true := by rw [bne_iff_ne]; omega
    clear hb h1
    go_enter Try.func25, Try.ntmps25
    go_wp2
    go_ret2
    exact ⟨rfl, rfl⟩

/-! lent bytes -/
theorem conv_src {w : World} {p : Option Addr} {len c : Nat} {bs : List Int} (h : Src w p len bs) (hp : p = none → c = 0) : Sem.run Try.prog (convert 30 9 (.slice p len c)) w = .ok (.string (strOf bs)) w := by
  rw [run_convert_bytes_string w 30 9 5 _ _ _ Try.underlying30 Try.underlying5 Try.underlying9]
  have hl := h.hlen
  cases p with
  | none =>
    have : len = 0 := by
      by_cases h0 : 0 < len
      · obtain ⟨g, o, e, _⟩ := h.cells h0; cases e
      · omega
    subst this
    obtain rfl : bs = [] := List.eq_nil_of_length_eq_zero hl
    have := hp rfl
    subst this
    simp [Conv.bytesToString, strOf]
  | some a =>
    refine run_bytesToString w _ _ _ bs ?_
    have := run_loadCells_list (P := Try.prog) w a (u8s bs) (fun j v hv => by
      obtain ⟨hj, rfl⟩ := u8s_at bs j v hv
      obtain ⟨g, o, e, _, hc⟩ := h.cells (by omega)
      cases e
      rw [Addr.add_lit]; exact hc j (by omega))
    rw [u8s_length, hl] at this
    exact this
theorem same_src (w : World) (p1 p2 : Option Addr) (l1 l2 c1 c2 : Nat) (b : List Int) (h1 : Src w p1 l1 b) (h2 : Src w p2 l2 b) (q1 : p1 = none → c1 = 0) (q2 : p2 = none → c2 = 0) : Calls Try.prog 28 #[.slice p1 l1 c1, .slice p2 l2 c2] w fun r w' => r = .returned (.bool true) ∧ w' = w := by
  have e1 := conv_src h1 q1
  have e2 := conv_src h2 q2
  generalize strOf b = s at e1 e2
  go_enter Try.func28, Try.ntmps28
  go_wp2
  go_ret
  exact ⟨rfl, rfl⟩
end Go.Proofs.Ythmloakkefiicaa.dk
