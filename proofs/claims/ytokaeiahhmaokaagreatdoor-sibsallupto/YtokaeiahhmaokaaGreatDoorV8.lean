import Derived.Test.YtokaeiahhmaokaaGreatDoorV7
import Derived.Test.YtokaeiahhmaokaaGreatDoorV3
namespace Go.Proofs.YtokaeiahhmaokaaGreatDoor.ds
open Go.ChangeShapes Go.WideShapes Go.ChangeAt Go.RowKit
set_option linter.unusedVariables false
set_option linter.unusedSimpArgs false
set_option maxHeartbeats 8000000 in
theorem right_walk (e : E) (gap : Int) (w : World) (b1 b2 : Bool) (c1 : Int) (hs : shortE e)
    (hd : ∀ W, Calls Tryz.prog 71 #[.agg #[.int .i64 e.n, .int .i64 e.c]] W fun r w' => r = .returned (.bool b1) ∧ Apart [] W w')
    (hc : ∀ W, Apart [] w W → Calls Tryz.prog 40 #[.slice e.x.p e.x.n e.x.c, .int .i64 gap] W fun r w' => r = .returned (.int .i64 c1) ∧ Apart [] W w')
    (hh : ∀ W, Apart [] w W → Calls Tryz.prog 49 #[.slice e.x.p e.x.n e.x.c, .agg #[.int .i64 e.n, .int .i64 e.c]] W fun r w' => r = .returned (.bool b2) ∧ Apart [] W w') :
    Calls Tryz.prog 46 #[e.agg, .int .i64 gap] w fun r w' => r = .returned (.bool (b1 && (decide (c1 = 0) && !b2))) ∧ Apart [] w w' := by
  obtain ⟨en, ec, ek, ed, ev, ex⟩ := e
  obtain ⟨wb, hwb⟩ : ∃ wb, wb = w.alloc (boxE ⟨en, ec, ek, ed, ev, ex⟩) := ⟨_, rfl⟩
  have a0 : Apart [] w wb := by rw [hwb]; exact (Apart.refl [] w).alloc _
  have q1 : wb.heap[w.heap.size]? = some (boxE ⟨en, ec, ek, ed, ev, ex⟩) := by rw [hwb]; exact heap_alloc_new w _
  unfold boxE at q1
  obtain ⟨t0, t1, t2, t3, t4, t5⟩ := row6 q1
  obtain ⟨⟨h1, h2⟩, h3, h4⟩ := hs
  have HD := hid hd
  have HC := hid hc
  have HH := hid hh
  have HA := hid a0
  have HQ := hid q1
  unfold boxE at hwb
  unfold E.agg
  unfold Sl.v at hwb t4 t5 ⊢
  dsimp only at *
  clear hd hc hh a0 q1
  cases ed with
  | false =>
    clear h4
    go_enter Tryz.func46, Tryz.ntmps46
    go_upto_region 1 with fail
    rw [← hwb]
    clear hwb
    go_wp2_with fail
    refine (HD.out wb).mono ?_
    clear HD
    rintro _ w1 ⟨rfl, a1⟩
    try dsimp only
    cases b1 with
    | false =>
      go_wp2_with fail
      go_ret
      exact ⟨rfl, HA.out.trans a1⟩
    | true =>
      have HA1 := hid (HA.out.trans a1)
      obtain ⟨t0, t1, t2, t3, t4, t5⟩ := row6 ((a1.block _ (lt_of_heap HQ.out) (by simp)).trans HQ.out)
      try dsimp only at t0 t1 t2 t3 t4 t5
      unfold Sl.v at t4 t5
      have HQ1 := hid ((a1.block _ (lt_of_heap HQ.out) (by simp)).trans HQ.out)
      clear a1 HA HQ
      try dsimp only
      go_wp2_with fail
      refine (HC.out _ HA1.out).mono ?_
      clear HC
      rintro _ w2 ⟨rfl, a2⟩
      obtain ⟨t0, t1, t2, t3, t4, t5⟩ := row6 ((a2.block _ (lt_of_heap HQ1.out) (by simp)).trans HQ1.out)
      try dsimp only at t0 t1 t2 t3 t4 t5
      unfold Sl.v at t4 t5
      have HA2 := hid (HA1.out.trans a2)
      clear a2 HA1 HQ1
      try dsimp only
      by_cases hc : c1 = 0
      · subst hc
        go_wp2_with fail
        refine (HH.out _ HA2.out).mono ?_
        clear HH
        rintro _ w3 ⟨rfl, a3⟩
        have HA3 := hid (HA2.out.trans a3)
        clear a3
        try dsimp only
        cases b2
        · go_wp2_with fail
          go_ret
          exact ⟨rfl, HA3.out⟩
        · go_wp2_with fail
          go_ret
          exact ⟨rfl, HA3.out⟩
      · go_wp2_with fail
        go_ret
        exact ⟨by simp [hc], HA2.out⟩
  | true =>
    have h5 : ¬ 0 < (ev.n : Int) := fun h => h4 ⟨rfl, h⟩
    clear h4
    go_enter Tryz.func46, Tryz.ntmps46
    go_upto_region 1 with fail
    rw [← hwb]
    clear hwb
    go_wp2_with fail
    refine (HD.out wb).mono ?_
    clear HD
    rintro _ w1 ⟨rfl, a1⟩
    try dsimp only
    cases b1 with
    | false =>
      go_wp2_with fail
      go_ret
      exact ⟨rfl, HA.out.trans a1⟩
    | true =>
      have HA1 := hid (HA.out.trans a1)
      obtain ⟨t0, t1, t2, t3, t4, t5⟩ := row6 ((a1.block _ (lt_of_heap HQ.out) (by simp)).trans HQ.out)
      try dsimp only at t0 t1 t2 t3 t4 t5
      unfold Sl.v at t4 t5
      have HQ1 := hid ((a1.block _ (lt_of_heap HQ.out) (by simp)).trans HQ.out)
      clear a1 HA HQ
      try dsimp only
      go_wp2_with fail
      refine (HC.out _ HA1.out).mono ?_
      clear HC
      rintro _ w2 ⟨rfl, a2⟩
      obtain ⟨t0, t1, t2, t3, t4, t5⟩ := row6 ((a2.block _ (lt_of_heap HQ1.out) (by simp)).trans HQ1.out)
      try dsimp only at t0 t1 t2 t3 t4 t5
      unfold Sl.v at t4 t5
      have HA2 := hid (HA1.out.trans a2)
      clear a2 HA1 HQ1
      try dsimp only
      by_cases hc : c1 = 0
      · subst hc
        go_wp2_with fail
        refine (HH.out _ HA2.out).mono ?_
        clear HH
        rintro _ w3 ⟨rfl, a3⟩
        have HA3 := hid (HA2.out.trans a3)
        clear a3
        try dsimp only
        cases b2
        · go_wp2_with fail
          go_ret
          exact ⟨rfl, HA3.out⟩
        · go_wp2_with fail
          go_ret
          exact ⟨rfl, HA3.out⟩
      · go_wp2_with fail
        go_ret
        exact ⟨by simp [hc], HA2.out⟩
set_option maxHeartbeats 8000000 in
theorem right_short (e : E) (gap : Int) (w : World) (hs : ¬ shortE e) : Calls Tryz.prog 46 #[e.agg, .int .i64 gap] w fun r w' => r = .returned (.bool false) ∧ Apart [] w w' := by
  obtain ⟨en, ec, ek, ed, ev, ex⟩ := e
  obtain ⟨wb, hwb⟩ : ∃ wb, wb = w.alloc (boxE ⟨en, ec, ek, ed, ev, ex⟩) := ⟨_, rfl⟩
  have a0 : Apart [] w wb := by rw [hwb]; exact (Apart.refl [] w).alloc _
  have q1 : wb.heap[w.heap.size]? = some (boxE ⟨en, ec, ek, ed, ev, ex⟩) := by rw [hwb]; exact heap_alloc_new w _
  unfold boxE at q1
  obtain ⟨t0, t1, t2, t3, t4, t5⟩ := row6 q1
  have HA := hid a0
  unfold boxE at hwb
  unfold E.agg
  unfold Sl.v at hwb t4 t5 ⊢
  unfold shortE at hs
  dsimp only at *
  clear a0 q1
  by_cases h1 : ¬ 1 ≤ (ek.size : Int)
  · clear hs
    go_enter Tryz.func46, Tryz.ntmps46
    go_upto_region 1 with fail
    rw [← hwb]
    clear hwb
    go_wp2_with fail
    go_ret
    exact ⟨rfl, HA.out⟩
  have h1 := Classical.not_not.1 h1
  by_cases h2 : ¬ (ek.size : Int) ≤ 16
  · clear hs
    go_enter Tryz.func46, Tryz.ntmps46
    go_upto_region 1 with fail
    rw [← hwb]
    clear hwb
    go_wp2_with fail
    go_ret
    exact ⟨rfl, HA.out⟩
  have h2 := Classical.not_not.1 h2
  by_cases h3 : ¬ (ev.n : Int) ≤ 64
  · clear hs
    go_enter Tryz.func46, Tryz.ntmps46
    go_upto_region 1 with fail
    rw [← hwb]
    clear hwb
    go_wp2_with fail
    go_ret
    exact ⟨rfl, HA.out⟩
  have h3 := Classical.not_not.1 h3
  have h4 : ed = true ∧ 0 < (ev.n : Int) := Classical.byContradiction fun h => hs ⟨⟨h1, h2⟩, h3, h⟩
  obtain ⟨rfl, h5⟩ := h4
  clear hs
  go_enter Tryz.func46, Tryz.ntmps46
  go_upto_region 1 with fail
  rw [← hwb]
  clear hwb
  go_wp2_with fail
  go_ret
  exact ⟨rfl, HA.out⟩
end Go.Proofs.YtokaeiahhmaokaaGreatDoor.ds
namespace Go.Proofs.YtokaeiahhmaokaaGreatDoor.ds
open Go.ChangeShapes Go.WideShapes Go.ChangeAt Go.RowKit
set_option linter.unusedVariables false
set_option maxRecDepth 100000
set_option linter.unusedSimpArgs false
theorem run_append3 (w : World) (t ty e : TypeId) (i : TypeInfo) (z : Value) (size bytes : Nat) (ht : Tryz.prog.underlying t = some (.slice e)) (hi : Tryz.prog.info? e = some i) (hz : i.zero = some z) (hsize : i.size = size) (hby : i.bytes = bytes) (hzs : z.cells.size = size) (hsz : 0 < size)
    (g n cap : Nat) (xs : List Value) (h : w.ownsRow 0 e size (.slice (some ⟨g, 0, none⟩) n cap) n xs) (ad : Addr) (m c : Nat) (news : List Value) (hl : news.length = m * size) (hnews : ∀ j u, news[j]? = some u → w.cell? (ad.add j) = some u) (h1 : ∀ u ∈ news, u.oneCell' = true) (h63 : n + m ≤ maxLen) (hb : (n + m) * bytes ≤ 140737488355328) :
    ∃ v' w', (Builtin.append_ #[t, t] ty #[.slice (some ⟨g, 0, none⟩) n cap, .slice (some ad) m c]).run Tryz.prog w = .ok v' w' ∧ w'.ownsRow 0 e size v' (n + m) (xs ++ news) ∧ w.grownBy w' (some g) ∧ NewOr w (.slice (some ⟨g, 0, none⟩) n cap) v' := by
  by_cases hroom : n + m ≤ cap
  · obtain ⟨w', hrun, r1, r2⟩ := run_append_own_spare (P := Tryz.prog) w 0 t ty e i size ht hi hsize g n cap xs h ad m c news hl hnews h1 hroom
    exact ⟨_, w', hrun, r1, r2, .inl rfl⟩
  · have hle : n ≤ cap := by
      obtain ⟨_, ⟨hv, _⟩ | ⟨g', cap', cur, hv, _, _, hle, _⟩⟩ := h
      · cases hv
      · simp at hv; omega
    obtain ⟨v', w', hrun, r1, r2, r3⟩ := run_append2 w t ty e i z size bytes ht hi hz hsize hby hzs hsz (.slice (some ⟨g, 0, none⟩) n cap) n xs h ad m c news (by omega) hl hnews h1 h63 hb
    exact ⟨v', w', hrun, r1, r2, r3⟩
theorem oneFlat (es : List S) : ∀ u ∈ flat es, u.oneCell' = true := by
  intro u hu
  simp [flat, ec] at hu
  obtain ⟨e, _, h | h | h⟩ := hu <;> subst h <;> rfl
/-- the cells of a list that can be read -/
theorem Sp.cells {w : World} {P o : Nat} {xs : List S} (h : Sp w (some ⟨P, o, none⟩) xs) : ∀ j u, (flat xs)[j]? = some u → w.cell? ((⟨P, o, none⟩ : Addr).add j) = some u := by
  intro j u hj
  have hjl : j < (flat xs).length := by
    by_cases hc : j < (flat xs).length
    · exact hc
    · rw [List.getElem?_eq_none (by omega)] at hj; cases hj
  have hfl := flat_length xs
  have hk : j / 3 < xs.length := by omega
  obtain ⟨P', o', e, hP, hc⟩ := h (by omega)
  simp only [Option.some.injEq, Addr.mk.injEq, and_true] at e
  obtain ⟨rfl, rfl⟩ := e
  obtain ⟨c0, c1, c2⟩ := hc (j / 3) hk
  obtain ⟨g0, g1, g2⟩ := flat_get xs (j / 3) hk
  rw [Addr.add_lit]
  have h3 : j % 3 = 0 ∨ j % 3 = 1 ∨ j % 3 = 2 := by omega
  rcases h3 with h3 | h3 | h3
  · have e : j = j / 3 * 3 := by omega
    rw [e] at hj ⊢
    rw [g0] at hj; cases hj
    exact c0
  · have e : j = j / 3 * 3 + 1 := by omega
    rw [e] at hj
    rw [g1] at hj; cases hj
    rw [show o + j = o + j / 3 * 3 + 1 by omega]; exact c1
  · have e : j = j / 3 * 3 + 2 := by omega
    rw [e] at hj
    rw [g2] at hj; cases hj
    rw [show o + j = o + j / 3 * 3 + 2 by omega]; exact c2
end Go.Proofs.YtokaeiahhmaokaaGreatDoor.ds
namespace Go.Proofs.YtokaeiahhmaokaaGreatDoor.ds
open Go.ChangeShapes Go.WideShapes Go.ChangeAt Go.RowKit Go.Sort
set_option linter.unusedVariables false
set_option linter.unusedSimpArgs false
/-- a slice of new memory -/
structure Nw (w w' : World) (e size : Nat) (s : Sl) (us : List Value) : Prop where
  own : w'.ownsRow 0 e size s.v s.n us
  new : ∀ k, s.v.ownBlock = some k → w.heap.size ≤ k
  ap : Apart [] w w'
theorem Nw.kept {w w' w2 : World} {e size : Nat} {s : Sl} {us : List Value} (h : Nw w w' e size s us) (a : Apart [] w' w2) : Nw w w2 e size s us := ⟨own_apart h.own a (by simp), h.new, h.ap.trans a⟩
theorem Nw.rd {w w' : World} {e size : Nat} {s : Sl} {us : List Value} (h : Nw w w' e size s us) : Rd w' s.p us := Rd.own h.own
theorem Nw.ok {w w' : World} {e size : Nat} {s : Sl} {us : List Value} (h : Nw w w' e size s us) : s.ok := by
  intro hp
  obtain ⟨_, ⟨hv, hz⟩ | ⟨g, cap, cur, hv, _⟩⟩ := h.own
  · unfold Sl.v at hv; simp at hv; exact ⟨hz, hv.2.2⟩
  · unfold Sl.v at hv; simp [hp] at hv
theorem infoW : (Tryz.prog.info? 28).map (fun i => (i.zero, i.size, i.bytes)) = some (some (.agg #[.int .i64 0, .int .i64 0, .string ⟨#[]⟩, .bool false, .slice none 0 0, .slice none 0 0]), 6, 88) := by kernel_rfl
theorem infoB : (Tryz.prog.info? 5).map (fun i => (i.zero, i.size, i.bytes)) = some (some (.int .u8 0), 1, 1) := by kernel_rfl
set_option maxRecDepth 100000 in
theorem eqlSW (w : World) (a : Addr) (n c : Nat) : Sem.run Tryz.prog (binOp BinOp.eql 35 (Value.slice (some a) n c) (Value.slice none 0 0)) w = .ok (.bool false) w := by
  first | rfl | (simp [binOp, Tryz.underlying35, go_sem]; done)
set_option maxRecDepth 100000 in
theorem eqlNW (w : World) : Sem.run Tryz.prog (binOp BinOp.eql 35 (Value.slice none 0 0) (Value.slice none 0 0)) w = .ok (.bool true) w := by
  first | rfl | (simp [binOp, Tryz.underlying35, go_sem]; done)
set_option maxHeartbeats 1000000 in
theorem cloneW (w : World) (s : Sl) (us : List Value) (h : Rd w s.p us) (hl : us.length = s.n * 6) (one : ∀ u ∈ us, u.oneCell' = true) (hN : s.n ≤ 2000000) (ok : s.ok) :
    Calls Tryz.prog 59 #[s.v] w fun r w' => ∃ s', r = .returned (Sl.v s') ∧ s'.n = s.n ∧ Nw w w' 28 6 s' us := by
  obtain ⟨p, N, cap⟩ := s
  simp only at h hl hN
  unfold Sl.ok at ok
  simp only at ok
  cases p with
  | none =>
    obtain ⟨rfl, rfl⟩ := ok rfl
    have hu : us = [] := List.length_eq_zero_iff.1 (by omega)
    subst hu
    have hq := eqlNW w
    unfold Sl.v
    go_enter Tryz.func59, Tryz.ntmps59
    go_wp2
    go_ret
    exact ⟨⟨none, 0, 0⟩, rfl, rfl, World.ownsRow_nil _ _ _ _, by simp [Sl.v, Value.ownBlock], Apart.refl _ _⟩
  | some ad =>
    obtain ⟨i0, hi, hz0, hz1, hz2⟩ := info_parts infoW
    have hq := eqlSW w ad N cap
    have HL := hid hl
    have hcs : ∀ j u, us[j]? = some u → (w.alloc (.cells #[] 28)).cell? (ad.add j) = some u := by
      intro j u hj
      have hjl : j < us.length := by
        by_cases hc : j < us.length
        · exact hc
        · rw [List.getElem?_eq_none (by omega)] at hj; cases hj
      obtain ⟨P, o, e1, hP, hc⟩ := (h.kept0 ((Apart.refl [] w).alloc (.cells #[] 28))) (by omega)
      simp at e1
      subst e1
      rw [Addr.add_lit]
      exact hc j u hj
    have o1 : (w.alloc (.cells #[] 28)).ownsRow 0 28 6 (.slice (some ⟨w.heap.size, 0, none⟩) 0 0) 0 [] := World.ownsRow_lit (base := 0) (e := 28) (size := 6) w #[] 0 (Nat.zero_le _) (by decide) rfl
    obtain ⟨v', w', hrun, r1, r2, r3⟩ := run_append3 (w.alloc (.cells #[] 28)) 35 35 28 i0 _ 6 88 Tryz.underlying35 hi hz0 hz1 hz2 rfl (by decide) w.heap.size 0 0 [] o1 ad N cap us HL.out hcs one (by unfold maxLen; omega) (by omega)
    rw [Nat.zero_add, List.nil_append] at r1
    have ap : Apart [] w w' := ((Apart.refl [] w).alloc (.cells #[] 28)).trans' (apart_grown r2) (by simp)
    have hnew : ∃ k c, v' = .slice (some ⟨k, 0, none⟩) N c ∧ w.heap.size ≤ k := by
      rcases r3 with r3 | ⟨k, r3, hk⟩
      · obtain ⟨_, ⟨hv, _⟩ | ⟨g', cap', cur, hv, _⟩⟩ := r1
        · rw [hv] at r3; simp [Value.ownBlock] at r3
        · rw [hv] at r3; simp [Value.ownBlock] at r3; exact ⟨g', cap', hv, by omega⟩
      · obtain ⟨_, ⟨hv, _⟩ | ⟨g', cap', cur, hv, _⟩⟩ := r1
        · rw [hv] at r3; simp [Value.ownBlock] at r3
        · rw [hv] at r3; simp [Value.ownBlock] at r3; simp at hk; exact ⟨g', cap', hv, by omega⟩
    obtain ⟨k, c, rfl, hk⟩ := hnew
    clear r2 r3 o1 hl ok hcs h
    unfold Sl.v
    go_enter Tryz.func59, Tryz.ntmps59
    go_wp2_with (at_builtin; refine wpList_append3 rfl (.tmp 5) (.tmp 6) 35 rfl _ _ rfl rfl _ _ hrun ?_)
    go_wp2
    go_ret
    exact ⟨⟨some ⟨k, 0, none⟩, N, c⟩, rfl, rfl, r1, fun b hb => by simp [Sl.v, Value.ownBlock] at hb; omega, ap⟩
set_option maxRecDepth 100000 in
theorem eqlSB (w : World) (a : Addr) (n c : Nat) : Sem.run Tryz.prog (binOp BinOp.eql 25 (Value.slice (some a) n c) (Value.slice none 0 0)) w = .ok (.bool false) w := by
  first | rfl | (simp [binOp, Tryz.underlying25, go_sem]; done)
set_option maxRecDepth 100000 in
theorem eqlNB (w : World) : Sem.run Tryz.prog (binOp BinOp.eql 25 (Value.slice none 0 0) (Value.slice none 0 0)) w = .ok (.bool true) w := by
  first | rfl | (simp [binOp, Tryz.underlying25, go_sem]; done)
set_option maxHeartbeats 1000000 in
theorem cloneB (w : World) (s : Sl) (us : List Value) (h : Rd w s.p us) (hl : us.length = s.n * 1) (one : ∀ u ∈ us, u.oneCell' = true) (hN : s.n ≤ 2000000) (ok : s.ok) :
    Calls Tryz.prog 60 #[s.v] w fun r w' => ∃ s', r = .returned (Sl.v s') ∧ s'.n = s.n ∧ Nw w w' 5 1 s' us := by
  obtain ⟨p, N, cap⟩ := s
  simp only at h hl hN
  unfold Sl.ok at ok
  simp only at ok
  cases p with
  | none =>
    obtain ⟨rfl, rfl⟩ := ok rfl
    have hu : us = [] := List.length_eq_zero_iff.1 (by omega)
    subst hu
    have hq := eqlNB w
    unfold Sl.v
    go_enter Tryz.func60, Tryz.ntmps60
    go_wp2
    go_ret
    exact ⟨⟨none, 0, 0⟩, rfl, rfl, World.ownsRow_nil _ _ _ _, by simp [Sl.v, Value.ownBlock], Apart.refl _ _⟩
  | some ad =>
    obtain ⟨i0, hi, hz0, hz1, hz2⟩ := info_parts infoB
    have hq := eqlSB w ad N cap
    have HL := hid hl
    have hcs : ∀ j u, us[j]? = some u → (w.alloc (.cells #[] 5)).cell? (ad.add j) = some u := by
      intro j u hj
      have hjl : j < us.length := by
        by_cases hc : j < us.length
        · exact hc
        · rw [List.getElem?_eq_none (by omega)] at hj; cases hj
      obtain ⟨P, o, e1, hP, hc⟩ := (h.kept0 ((Apart.refl [] w).alloc (.cells #[] 5))) (by omega)
      simp at e1
      subst e1
      rw [Addr.add_lit]
      exact hc j u hj
    have o1 : (w.alloc (.cells #[] 5)).ownsRow 0 5 1 (.slice (some ⟨w.heap.size, 0, none⟩) 0 0) 0 [] := World.ownsRow_lit (base := 0) (e := 5) (size := 1) w #[] 0 (Nat.zero_le _) (by decide) rfl
    obtain ⟨v', w', hrun, r1, r2, r3⟩ := run_append3 (w.alloc (.cells #[] 5)) 25 25 5 i0 _ 1 1 Tryz.underlying25 hi hz0 hz1 hz2 rfl (by decide) w.heap.size 0 0 [] o1 ad N cap us HL.out hcs one (by unfold maxLen; omega) (by omega)
    rw [Nat.zero_add, List.nil_append] at r1
    have ap : Apart [] w w' := ((Apart.refl [] w).alloc (.cells #[] 5)).trans' (apart_grown r2) (by simp)
    have hnew : ∃ k c, v' = .slice (some ⟨k, 0, none⟩) N c ∧ w.heap.size ≤ k := by
      rcases r3 with r3 | ⟨k, r3, hk⟩
      · obtain ⟨_, ⟨hv, _⟩ | ⟨g', cap', cur, hv, _⟩⟩ := r1
        · rw [hv] at r3; simp [Value.ownBlock] at r3
        · rw [hv] at r3; simp [Value.ownBlock] at r3; exact ⟨g', cap', hv, by omega⟩
      · obtain ⟨_, ⟨hv, _⟩ | ⟨g', cap', cur, hv, _⟩⟩ := r1
        · rw [hv] at r3; simp [Value.ownBlock] at r3
        · rw [hv] at r3; simp [Value.ownBlock] at r3; simp at hk; exact ⟨g', cap', hv, by omega⟩
    obtain ⟨k, c, rfl, hk⟩ := hnew
    clear r2 r3 o1 hl ok hcs h
    unfold Sl.v
    go_enter Tryz.func60, Tryz.ntmps60
    go_wp2_with (at_builtin; refine wpList_append3 rfl (.tmp 5) (.tmp 6) 25 rfl _ _ rfl rfl _ _ hrun ?_)
    go_wp2
    go_ret
    exact ⟨⟨some ⟨k, 0, none⟩, N, c⟩, rfl, rfl, r1, fun b hb => by simp [Sl.v, Value.ownBlock] at hb; omega, ap⟩
set_option maxRecDepth 100000 in
theorem eqlSS (w : World) (a : Addr) (n c : Nat) : Sem.run Tryz.prog (binOp BinOp.eql 26 (Value.slice (some a) n c) (Value.slice none 0 0)) w = .ok (.bool false) w := by
  first | rfl | (simp [binOp, Tryz.underlying26, go_sem]; done)
set_option maxRecDepth 100000 in
theorem eqlNS (w : World) : Sem.run Tryz.prog (binOp BinOp.eql 26 (Value.slice none 0 0) (Value.slice none 0 0)) w = .ok (.bool true) w := by
  first | rfl | (simp [binOp, Tryz.underlying26, go_sem]; done)
set_option maxHeartbeats 1000000 in
theorem cloneS (w : World) (s : Sl) (us : List Value) (h : Rd w s.p us) (hl : us.length = s.n * 3) (one : ∀ u ∈ us, u.oneCell' = true) (hN : s.n ≤ 2000000) (ok : s.ok) :
    Calls Tryz.prog 61 #[s.v] w fun r w' => ∃ s', r = .returned (Sl.v s') ∧ s'.n = s.n ∧ Nw w w' 47 3 s' us := by
  obtain ⟨p, N, cap⟩ := s
  simp only at h hl hN
  unfold Sl.ok at ok
  simp only at ok
  cases p with
  | none =>
    obtain ⟨rfl, rfl⟩ := ok rfl
    have hu : us = [] := List.length_eq_zero_iff.1 (by omega)
    subst hu
    have hq := eqlNS w
    unfold Sl.v
    go_enter Tryz.func61, Tryz.ntmps61
    go_wp2
    go_ret
    exact ⟨⟨none, 0, 0⟩, rfl, rfl, World.ownsRow_nil _ _ _ _, by simp [Sl.v, Value.ownBlock], Apart.refl _ _⟩
  | some ad =>
    obtain ⟨i0, hi, hz0, hz1, hz2⟩ := info_parts info52
    have hq := eqlSS w ad N cap
    have HL := hid hl
    have hcs : ∀ j u, us[j]? = some u → (w.alloc (.cells #[] 47)).cell? (ad.add j) = some u := by
      intro j u hj
      have hjl : j < us.length := by
        by_cases hc : j < us.length
        · exact hc
        · rw [List.getElem?_eq_none (by omega)] at hj; cases hj
      obtain ⟨P, o, e1, hP, hc⟩ := (h.kept0 ((Apart.refl [] w).alloc (.cells #[] 47))) (by omega)
      simp at e1
      subst e1
      rw [Addr.add_lit]
      exact hc j u hj
    have o1 : (w.alloc (.cells #[] 47)).ownsRow 0 47 3 (.slice (some ⟨w.heap.size, 0, none⟩) 0 0) 0 [] := World.ownsRow_lit (base := 0) (e := 47) (size := 3) w #[] 0 (Nat.zero_le _) (by decide) rfl
    obtain ⟨v', w', hrun, r1, r2, r3⟩ := run_append3 (w.alloc (.cells #[] 47)) 26 26 47 i0 _ 3 24 Tryz.underlying26 hi hz0 hz1 hz2 rfl (by decide) w.heap.size 0 0 [] o1 ad N cap us HL.out hcs one (by unfold maxLen; omega) (by omega)
    rw [Nat.zero_add, List.nil_append] at r1
    have ap : Apart [] w w' := ((Apart.refl [] w).alloc (.cells #[] 47)).trans' (apart_grown r2) (by simp)
    have hnew : ∃ k c, v' = .slice (some ⟨k, 0, none⟩) N c ∧ w.heap.size ≤ k := by
      rcases r3 with r3 | ⟨k, r3, hk⟩
      · obtain ⟨_, ⟨hv, _⟩ | ⟨g', cap', cur, hv, _⟩⟩ := r1
        · rw [hv] at r3; simp [Value.ownBlock] at r3
        · rw [hv] at r3; simp [Value.ownBlock] at r3; exact ⟨g', cap', hv, by omega⟩
      · obtain ⟨_, ⟨hv, _⟩ | ⟨g', cap', cur, hv, _⟩⟩ := r1
        · rw [hv] at r3; simp [Value.ownBlock] at r3
        · rw [hv] at r3; simp [Value.ownBlock] at r3; simp at hk; exact ⟨g', cap', hv, by omega⟩
    obtain ⟨k, c, rfl, hk⟩ := hnew
    clear r2 r3 o1 hl ok hcs h
    unfold Sl.v
    go_enter Tryz.func61, Tryz.ntmps61
    go_wp2_with (at_builtin; refine wpList_append3 rfl (.tmp 5) (.tmp 6) 26 rfl _ _ rfl rfl _ _ hrun ?_)
    go_wp2
    go_ret
    exact ⟨⟨some ⟨k, 0, none⟩, N, c⟩, rfl, rfl, r1, fun b hb => by simp [Sl.v, Value.ownBlock] at hb; omega, ap⟩
theorem oneB (bs : List Nat) : ∀ u ∈ byts bs, u.oneCell' = true := by
  intro u hu
  simp [byts] at hu
  obtain ⟨b, _, rfl⟩ := hu
  rfl
end Go.Proofs.YtokaeiahhmaokaaGreatDoor.ds
