import Derived.Test.YtokaeiahhmaokaaB4
import Derived.Test.YtokaeiahhmaokaaM1
namespace Go.Proofs.Ytokaeiahhmaokaa.ds
open Go.ChangeShapes Go.WideShapes Go.ChangeAt Go.RowKit Go.Sort
set_option linter.unusedVariables false
set_option linter.unusedSimpArgs false
/-- a slice of new memory -/
structure Nw (w w' : World) (e size : Nat) (s : Sl) (us : List Value) : Prop where
  own : w'.ownsRow 0 e size s.v s.n us
  new : ∀ k, s.v.ownBlock = some k → w.heap.size ≤ k
  ap : Apart [] w w'
theorem Nw.kept {w w' w2 : World} {e size : Nat} {s : Sl} {us : List Value} (h : Nw w w' e size s us) (a : Apart [] w' w2) : Nw w w2 e size s us := ⟨own_apart h.own a (by simp), h.new, h.ap.trans a⟩
theorem Nw.rd {w w' : World} {e size : Nat} {s : Sl} {us : List Value} (h : Nw w w' e size s us) : Rd w' s.p us := Rd.own h.own
theorem Nw.ok {w w' : World} {e size : Nat} {s : Sl} {us : List Value} (h : Nw w w' e size s us) : s.ok := by
  intro hp
  obtain ⟨_, ⟨hv, hz⟩ | ⟨g, cap, cur, hv, _⟩⟩ := h.own
  · unfold Sl.v at hv; simp at hv; exact ⟨hz, hv.2.2⟩
  · unfold Sl.v at hv; simp [hp] at hv
theorem infoW : (Try.prog.info? 28).map (fun i => (i.zero, i.size, i.bytes)) = some (some (.agg #[.int .i64 0, .int .i64 0, .string ⟨#[]⟩, .bool false, .slice none 0 0, .slice none 0 0]), 6, 88) := by kernel_rfl
theorem infoB : (Try.prog.info? 5).map (fun i => (i.zero, i.size, i.bytes)) = some (some (.int .u8 0), 1, 1) := by kernel_rfl
set_option maxRecDepth 100000 in
theorem eqlSW (w : World) (a : Addr) (n c : Nat) : Sem.run Try.prog (binOp BinOp.eql 34 (Value.slice (some a) n c) (Value.slice none 0 0)) w = .ok (.bool false) w := by
  first | rfl | (simp [binOp, Try.underlying34, go_sem]; done)
set_option maxRecDepth 100000 in
theorem eqlNW (w : World) : Sem.run Try.prog (binOp BinOp.eql 34 (Value.slice none 0 0) (Value.slice none 0 0)) w = .ok (.bool true) w := by
  first | rfl | (simp [binOp, Try.underlying34, go_sem]; done)
set_option maxHeartbeats 1000000 in
theorem cloneW (w : World) (s : Sl) (us : List Value) (h : Rd w s.p us) (hl : us.length = s.n * 6) (one : ∀ u ∈ us, u.oneCell' = true) (hN : s.n ≤ 2000000) (ok : s.ok) :
    Calls Try.prog 26 #[s.v] w fun r w' => ∃ s', r = .returned (Sl.v s') ∧ s'.n = s.n ∧ Nw w w' 28 6 s' us := by
  obtain ⟨p, N, cap⟩ := s
  simp only at h hl hN
  unfold Sl.ok at ok
  simp only at ok
  cases p with
  | none =>
    obtain ⟨rfl, rfl⟩ := ok rfl
    have hu : us = [] := List.length_eq_zero_iff.1 (by omega)
    subst hu
    have hq := eqlNW w
    unfold Sl.v
    go_enter Try.func26, Try.ntmps26
    go_wp2
    go_ret
    exact ⟨⟨none, 0, 0⟩, rfl, rfl, World.ownsRow_nil _ _ _ _, by simp [Sl.v, Value.ownBlock], Apart.refl _ _⟩
  | some ad =>
    obtain ⟨i0, hi, hz0, hz1, hz2⟩ := info_parts infoW
    have hq := eqlSW w ad N cap
    have HL := hid hl
    have hcs : ∀ j u, us[j]? = some u → (w.alloc (.cells #[] 28)).cell? (ad.add j) = some u := by
      intro j u hj
      have hjl : j < us.length := by
        by_cases hc : j < us.length
        · exact hc
        · rw [List.getElem?_eq_none (by omega)] at hj; cases hj
      obtain ⟨P, o, e1, hP, hc⟩ := (h.kept0 ((Apart.refl [] w).alloc (.cells #[] 28))) (by omega)
      simp at e1
      subst e1
      rw [Addr.add_lit]
      exact hc j u hj
    have o1 : (w.alloc (.cells #[] 28)).ownsRow 0 28 6 (.slice (some ⟨w.heap.size, 0, none⟩) 0 0) 0 [] := World.ownsRow_lit (base := 0) (e := 28) (size := 6) w #[] 0 (Nat.zero_le _) (by decide) rfl
    obtain ⟨v', w', hrun, r1, r2, r3⟩ := run_append3 (w.alloc (.cells #[] 28)) 34 34 28 i0 _ 6 88 Try.underlying34 hi hz0 hz1 hz2 rfl (by decide) w.heap.size 0 0 [] o1 ad N cap us HL.out hcs one (by unfold maxLen; omega) (by omega)
    rw [Nat.zero_add, List.nil_append] at r1
    have ap : Apart [] w w' := ((Apart.refl [] w).alloc (.cells #[] 28)).trans' (apart_grown r2) (by simp)
    have hnew : ∃ k c, v' = .slice (some ⟨k, 0, none⟩) N c ∧ w.heap.size ≤ k := by
      rcases r3 with r3 | ⟨k, r3, hk⟩
      · obtain ⟨_, ⟨hv, _⟩ | ⟨g', cap', cur, hv, _⟩⟩ := r1
        · rw [hv] at r3; simp [Value.ownBlock] at r3
        · rw [hv] at r3; simp [Value.ownBlock] at r3; exact ⟨g', cap', hv, by omega⟩
      · obtain ⟨_, ⟨hv, _⟩ | ⟨g', cap', cur, hv, _⟩⟩ := r1
        · rw [hv] at r3; simp [Value.ownBlock] at r3
        · rw [hv] at r3; simp [Value.ownBlock] at r3; simp at hk; exact ⟨g', cap', hv, by omega⟩
    obtain ⟨k, c, rfl, hk⟩ := hnew
    clear r2 r3 o1 hl ok hcs h
    unfold Sl.v
    go_enter Try.func26, Try.ntmps26
    go_wp2_with (at_builtin; refine wpList_append3 rfl (.tmp 5) (.tmp 6) 34 rfl _ _ rfl rfl _ _ hrun ?_)
    go_wp2
    go_ret
    exact ⟨⟨some ⟨k, 0, none⟩, N, c⟩, rfl, rfl, r1, fun b hb => by simp [Sl.v, Value.ownBlock] at hb; omega, ap⟩
set_option maxRecDepth 100000 in
theorem eqlSB (w : World) (a : Addr) (n c : Nat) : Sem.run Try.prog (binOp BinOp.eql 25 (Value.slice (some a) n c) (Value.slice none 0 0)) w = .ok (.bool false) w := by
  first | rfl | (simp [binOp, Try.underlying25, go_sem]; done)
set_option maxRecDepth 100000 in
theorem eqlNB (w : World) : Sem.run Try.prog (binOp BinOp.eql 25 (Value.slice none 0 0) (Value.slice none 0 0)) w = .ok (.bool true) w := by
  first | rfl | (simp [binOp, Try.underlying25, go_sem]; done)
set_option maxHeartbeats 1000000 in
theorem cloneB (w : World) (s : Sl) (us : List Value) (h : Rd w s.p us) (hl : us.length = s.n * 1) (one : ∀ u ∈ us, u.oneCell' = true) (hN : s.n ≤ 2000000) (ok : s.ok) :
    Calls Try.prog 27 #[s.v] w fun r w' => ∃ s', r = .returned (Sl.v s') ∧ s'.n = s.n ∧ Nw w w' 5 1 s' us := by
  obtain ⟨p, N, cap⟩ := s
  simp only at h hl hN
  unfold Sl.ok at ok
  simp only at ok
  cases p with
  | none =>
    obtain ⟨rfl, rfl⟩ := ok rfl
    have hu : us = [] := List.length_eq_zero_iff.1 (by omega)
    subst hu
    have hq := eqlNB w
    unfold Sl.v
    go_enter Try.func27, Try.ntmps27
    go_wp2
    go_ret
    exact ⟨⟨none, 0, 0⟩, rfl, rfl, World.ownsRow_nil _ _ _ _, by simp [Sl.v, Value.ownBlock], Apart.refl _ _⟩
  | some ad =>
    obtain ⟨i0, hi, hz0, hz1, hz2⟩ := info_parts infoB
    have hq := eqlSB w ad N cap
    have HL := hid hl
    have hcs : ∀ j u, us[j]? = some u → (w.alloc (.cells #[] 5)).cell? (ad.add j) = some u := by
      intro j u hj
      have hjl : j < us.length := by
        by_cases hc : j < us.length
        · exact hc
        · rw [List.getElem?_eq_none (by omega)] at hj; cases hj
      obtain ⟨P, o, e1, hP, hc⟩ := (h.kept0 ((Apart.refl [] w).alloc (.cells #[] 5))) (by omega)
      simp at e1
      subst e1
      rw [Addr.add_lit]
      exact hc j u hj
    have o1 : (w.alloc (.cells #[] 5)).ownsRow 0 5 1 (.slice (some ⟨w.heap.size, 0, none⟩) 0 0) 0 [] := World.ownsRow_lit (base := 0) (e := 5) (size := 1) w #[] 0 (Nat.zero_le _) (by decide) rfl
    obtain ⟨v', w', hrun, r1, r2, r3⟩ := run_append3 (w.alloc (.cells #[] 5)) 25 25 5 i0 _ 1 1 Try.underlying25 hi hz0 hz1 hz2 rfl (by decide) w.heap.size 0 0 [] o1 ad N cap us HL.out hcs one (by unfold maxLen; omega) (by omega)
    rw [Nat.zero_add, List.nil_append] at r1
    have ap : Apart [] w w' := ((Apart.refl [] w).alloc (.cells #[] 5)).trans' (apart_grown r2) (by simp)
    have hnew : ∃ k c, v' = .slice (some ⟨k, 0, none⟩) N c ∧ w.heap.size ≤ k := by
      rcases r3 with r3 | ⟨k, r3, hk⟩
      · obtain ⟨_, ⟨hv, _⟩ | ⟨g', cap', cur, hv, _⟩⟩ := r1
        · rw [hv] at r3; simp [Value.ownBlock] at r3
        · rw [hv] at r3; simp [Value.ownBlock] at r3; exact ⟨g', cap', hv, by omega⟩
      · obtain ⟨_, ⟨hv, _⟩ | ⟨g', cap', cur, hv, _⟩⟩ := r1
        · rw [hv] at r3; simp [Value.ownBlock] at r3
        · rw [hv] at r3; simp [Value.ownBlock] at r3; simp at hk; exact ⟨g', cap', hv, by omega⟩
    obtain ⟨k, c, rfl, hk⟩ := hnew
    clear r2 r3 o1 hl ok hcs h
    unfold Sl.v
    go_enter Try.func27, Try.ntmps27
    go_wp2_with (at_builtin; refine wpList_append3 rfl (.tmp 5) (.tmp 6) 25 rfl _ _ rfl rfl _ _ hrun ?_)
    go_wp2
    go_ret
    exact ⟨⟨some ⟨k, 0, none⟩, N, c⟩, rfl, rfl, r1, fun b hb => by simp [Sl.v, Value.ownBlock] at hb; omega, ap⟩
set_option maxRecDepth 100000 in
theorem eqlSS (w : World) (a : Addr) (n c : Nat) : Sem.run Try.prog (binOp BinOp.eql 26 (Value.slice (some a) n c) (Value.slice none 0 0)) w = .ok (.bool false) w := by
  first | rfl | (simp [binOp, Try.underlying26, go_sem]; done)
set_option maxRecDepth 100000 in
theorem eqlNS (w : World) : Sem.run Try.prog (binOp BinOp.eql 26 (Value.slice none 0 0) (Value.slice none 0 0)) w = .ok (.bool true) w := by
  first | rfl | (simp [binOp, Try.underlying26, go_sem]; done)
set_option maxHeartbeats 1000000 in
theorem cloneS (w : World) (s : Sl) (us : List Value) (h : Rd w s.p us) (hl : us.length = s.n * 3) (one : ∀ u ∈ us, u.oneCell' = true) (hN : s.n ≤ 2000000) (ok : s.ok) :
    Calls Try.prog 28 #[s.v] w fun r w' => ∃ s', r = .returned (Sl.v s') ∧ s'.n = s.n ∧ Nw w w' 38 3 s' us := by
  obtain ⟨p, N, cap⟩ := s
  simp only at h hl hN
  unfold Sl.ok at ok
  simp only at ok
  cases p with
  | none =>
    obtain ⟨rfl, rfl⟩ := ok rfl
    have hu : us = [] := List.length_eq_zero_iff.1 (by omega)
    subst hu
    have hq := eqlNS w
    unfold Sl.v
    go_enter Try.func28, Try.ntmps28
    go_wp2
    go_ret
    exact ⟨⟨none, 0, 0⟩, rfl, rfl, World.ownsRow_nil _ _ _ _, by simp [Sl.v, Value.ownBlock], Apart.refl _ _⟩
  | some ad =>
    obtain ⟨i0, hi, hz0, hz1, hz2⟩ := info_parts info52
    have hq := eqlSS w ad N cap
    have HL := hid hl
    have hcs : ∀ j u, us[j]? = some u → (w.alloc (.cells #[] 38)).cell? (ad.add j) = some u := by
      intro j u hj
      have hjl : j < us.length := by
        by_cases hc : j < us.length
        · exact hc
        · rw [List.getElem?_eq_none (by omega)] at hj; cases hj
      obtain ⟨P, o, e1, hP, hc⟩ := (h.kept0 ((Apart.refl [] w).alloc (.cells #[] 38))) (by omega)
      simp at e1
      subst e1
      rw [Addr.add_lit]
      exact hc j u hj
    have o1 : (w.alloc (.cells #[] 38)).ownsRow 0 38 3 (.slice (some ⟨w.heap.size, 0, none⟩) 0 0) 0 [] := World.ownsRow_lit (base := 0) (e := 38) (size := 3) w #[] 0 (Nat.zero_le _) (by decide) rfl
    obtain ⟨v', w', hrun, r1, r2, r3⟩ := run_append3 (w.alloc (.cells #[] 38)) 26 26 38 i0 _ 3 24 Try.underlying26 hi hz0 hz1 hz2 rfl (by decide) w.heap.size 0 0 [] o1 ad N cap us HL.out hcs one (by unfold maxLen; omega) (by omega)
    rw [Nat.zero_add, List.nil_append] at r1
    have ap : Apart [] w w' := ((Apart.refl [] w).alloc (.cells #[] 38)).trans' (apart_grown r2) (by simp)
    have hnew : ∃ k c, v' = .slice (some ⟨k, 0, none⟩) N c ∧ w.heap.size ≤ k := by
      rcases r3 with r3 | ⟨k, r3, hk⟩
      · obtain ⟨_, ⟨hv, _⟩ | ⟨g', cap', cur, hv, _⟩⟩ := r1
        · rw [hv] at r3; simp [Value.ownBlock] at r3
        · rw [hv] at r3; simp [Value.ownBlock] at r3; exact ⟨g', cap', hv, by omega⟩
      · obtain ⟨_, ⟨hv, _⟩ | ⟨g', cap', cur, hv, _⟩⟩ := r1
        · rw [hv] at r3; simp [Value.ownBlock] at r3
        · rw [hv] at r3; simp [Value.ownBlock] at r3; simp at hk; exact ⟨g', cap', hv, by omega⟩
    obtain ⟨k, c, rfl, hk⟩ := hnew
    clear r2 r3 o1 hl ok hcs h
    unfold Sl.v
    go_enter Try.func28, Try.ntmps28
    go_wp2_with (at_builtin; refine wpList_append3 rfl (.tmp 5) (.tmp 6) 26 rfl _ _ rfl rfl _ _ hrun ?_)
    go_wp2
    go_ret
    exact ⟨⟨some ⟨k, 0, none⟩, N, c⟩, rfl, rfl, r1, fun b hb => by simp [Sl.v, Value.ownBlock] at hb; omega, ap⟩
theorem oneB (bs : List Nat) : ∀ u ∈ byts bs, u.oneCell' = true := by
  intro u hu
  simp [byts] at hu
  obtain ⟨b, _, rfl⟩ := hu
  rfl
end Go.Proofs.Ytokaeiahhmaokaa.ds
