import Derived.Test.YthfjkddninlbcaaRow
namespace Go.Proofs.Ythfjkddninlbcaa.hp
open Go.ChangeShapes Go.WideShapes Go.ChangeAt Go.RowKit
set_option linter.unusedVariables false
/-- the document's list, in the order in which they came: ages rise -/
def Inc (L : List E) : Prop := L.Pairwise (fun x y => x.a < y.a)
theorem Inc.dist {L : List E} (h : Inc L) : Dist L := h.imp (fun h => by omega)
def cnt (L : List E) (x : E) : Nat := L.countP (fun y => lex y x)
theorem cnt_le (L : List E) (x : E) : cnt L x ≤ L.length := List.countP_le_length
theorem cnt_take (L : List E) (x : E) (j : Nat) (hj : j < L.length) : cnt (L.take (j + 1)) x = cnt (L.take j) x + (if lex (g L j) x = true then 1 else 0) := by
  unfold cnt
  rw [List.take_add_one, List.countP_append, List.getElem?_eq_getElem hj, g_eq _ _ hj]
  simp [List.countP_cons]
theorem Inc.lex_iff {L : List E} (h : Inc L) (i j : Nat) (hi : i < L.length) (hj : j < L.length) : lex (g L j) (g L i) = true ↔ (g L j).r < (g L i).r ∨ ((g L j).r = (g L i).r ∧ j < i) := by
  rw [hp.lex_iff]
  have key : (g L j).a < (g L i).a ↔ j < i := by
    rw [g_eq _ _ hi, g_eq _ _ hj]
    have hp := List.pairwise_iff_getElem.1 h
    rcases Nat.lt_trichotomy j i with hlt | heq | hlt
    · have := hp j i hj hi hlt; exact ⟨fun _ => hlt, fun _ => this⟩
    · subst heq; omega
    · have := hp i j hi hj hlt; omega
  rw [key]
/-- a thing's number in the row is how many are ahead of it -/
theorem cnt_row {row : List E} (up : Up row) (di : Dist row) (k : Nat) (hk : k < row.length) : cnt row (g row k) = k := by
  have hsplit : row = row.take k ++ g row k :: row.drop (k + 1) := by
    rw [g_eq _ _ hk]
    rw [List.getElem_cons_drop hk, List.take_append_drop]
  have hu := List.pairwise_iff_getElem.1 up
  have hd := List.pairwise_iff_getElem.1 di
  have c1 : (row.take k).countP (fun y => lex y (g row k)) = k := by
    rw [List.countP_eq_length.2]
    · simp; omega
    · intro y hy
      obtain ⟨j, hj, rfl⟩ := List.getElem_of_mem hy
      have hj' : j < k := by simp at hj; omega
      rw [List.getElem_take]
      have a1 := hu j k (by omega) hk hj'
      have a2 := hd j k (by omega) hk hj'
      rw [g_eq _ _ hk, lex_iff]
      rw [lex_false] at a1
      omega
  have c2 : (row.drop (k + 1)).countP (fun y => lex y (g row k)) = 0 := by
    rw [List.countP_eq_zero]
    intro y hy
    obtain ⟨j, hj, rfl⟩ := List.getElem_of_mem hy
    rw [List.getElem_drop, g_eq _ _ hk]
    have a1 := hu k (k + 1 + j) hk (by simp at hj; omega) (by omega)
    simp [a1]
  have hcg : row.countP (fun y => lex y (g row k)) = (row.take k ++ g row k :: row.drop (k + 1)).countP (fun y => lex y (g row k)) := congrArg (List.countP (fun y => lex y (g row k))) hsplit
  unfold cnt
  rw [hcg, List.countP_append, List.countP_cons, c1]
  have c3 : lex (g row k) (g row k) = false := lexOrd.irr _
  rw [c2]
  simp [c3]
theorem cnt_perm {L row : List E} (p : L.Perm row) (x : E) : cnt L x = cnt row x := p.countP_eq _
theorem place_some {L row : List E} (p : L.Perm row) (up : Up row) (di : Dist row) (i k : Nat) (hi : i < L.length) (h : cnt L (g L i) = k) : k < row.length ∧ g L i = g row k := by
  have hm : g L i ∈ row := p.subset (by rw [g_eq _ _ hi]; exact List.getElem_mem hi)
  obtain ⟨q, hq, e⟩ := mem_g hm
  have := cnt_row up di q hq
  rw [e, ← cnt_perm p, h] at this
  subst this
  exact ⟨hq, e.symm⟩
theorem place_ex {L row : List E} (p : L.Perm row) (up : Up row) (di : Dist row) (k : Nat) (hk : k < row.length) : ∃ i, i < L.length ∧ cnt L (g L i) = k := by
  have hm : g row k ∈ L := p.symm.subset (by rw [g_eq _ _ hk]; exact List.getElem_mem hk)
  obtain ⟨i, hi, e⟩ := mem_g hm
  exact ⟨i, hi, by rw [e, cnt_perm p]; exact cnt_row up di k hk⟩
/-- the list in memory: its slice lies at W, q -/
structure LAt (w : World) (W q : Nat) (lv : Value) (L : List E) : Prop where
  hc : w.cell? ⟨W, q, none⟩ = some lv
  own : w.ownsRow 0 75 2 lv L.length (flat2 L)
  hl : L.length ≤ 1200000
theorem LAt.drewN {w : World} {W q : Nat} {lv : Value} {L : List E} (h : LAt w W q lv L) (n : Nat) : LAt (w.drewN n) W q lv L := ⟨h.hc, h.own, h.hl⟩
theorem LAt.shape0 {w : World} {W q : Nat} {lv : Value} {L : List E} (h : LAt w W q lv L) : ∃ p c, lv = .slice p L.length c := by
  obtain ⟨hl, ⟨hv, hz⟩ | ⟨g, cap, cur, rfl, hb, hr, hle, _⟩⟩ := h.own
  · exact ⟨none, 0, by rw [hv, hz]⟩
  · exact ⟨_, cap, rfl⟩
theorem LAt.shape {w : World} {W q : Nat} {lv : Value} {L : List E} (h : LAt w W q lv L) (h0 : 0 < L.length) : ∃ G c, lv = .slice (some ⟨G, 0, none⟩) L.length c := by
  obtain ⟨hl, ⟨hv, hz⟩ | ⟨g, cap, cur, rfl, hb, hr, hle, _⟩⟩ := h.own
  · omega
  · exact ⟨_, cap, rfl⟩
theorem LAt.e0 {w : World} {W q G c : Nat} {L : List E} (h : LAt w W q (.slice (some ⟨G, 0, none⟩) L.length c) L) (k : Nat) (hk : k < L.length) : w.cell? ⟨G, k * 2, none⟩ = some (.int .i64 (g L k).r) := by rw [h.own.cellAt _ (by omega)]; exact (flat2_get L k hk).1
theorem LAt.e1 {w : World} {W q G c : Nat} {L : List E} (h : LAt w W q (.slice (some ⟨G, 0, none⟩) L.length c) L) (k : Nat) (hk : k < L.length) : w.cell? ⟨G, k * 2 + 1, none⟩ = some (.int .i64 (g L k).m) := by rw [h.own.cellAt _ (by omega)]; exact (flat2_get L k hk).2
set_option maxHeartbeats 1000000 in
set_option maxRecDepth 100000 in
theorem place_at (w : World) (W q : Nat) (lv : Value) (L : List E) (h : LAt w W q lv L) (inc : Inc L) (k : Int) :
    Calls Try.prog 35 #[.pointer (some ⟨W, q, none⟩), .int .i64 k] w fun r w' => (∃ z, w' = w.drewN z) ∧ ((∃ i : Nat, i < L.length ∧ (cnt L (g L i) : Int) = k ∧ r = .returned (.int .i64 i)) ∨ ((∀ i, i < L.length → (cnt L (g L i) : Int) ≠ k) ∧ r = .returned (.int .i64 (-1)))) := by
  obtain ⟨p, c, hv⟩ := h.shape0
  have c0 := h.hc
  have hll := h.hl
  rw [hv] at c0
  obtain ⟨N, hN⟩ : ∃ N, L.length = N := ⟨_, rfl⟩
  have HN : Hid (L.length = N) := hN
  rw [hN] at c0 hll
  have HV : Hid (lv = .slice p L.length c) := hv
  clear hv hN
  go_enter Try.func35, Try.ntmps35
  go_wp2
  go_loopw [5] (fun v wr => ∃ i : Nat, i ≤ N ∧ v = .int .i64 i ∧ (∃ z, wr = w.drewN z) ∧ ∀ j, j < i → (cnt L (g L j) : Int) ≠ k) (fun v _ => N - (intOf v).toNat)
  case atStart => exact ⟨0, Nat.zero_le _, rfl, ⟨0, rfl⟩, fun j hj => absurd hj (by omega)⟩
  case round =>
    obtain ⟨i, hi, rfl, ⟨z, rfl⟩, hno⟩ := hrel
    by_cases hlt : i < N
    · obtain ⟨G, c', hv2⟩ := h.shape (by rw [HN.out]; omega)
      have hpG : p = some ⟨G, 0, none⟩ := by
        have := HV.out.symm.trans hv2
        simp at this; exact this.1
      subst hpG
      have h' := h
      rw [hv2] at h'
      have i0 := h'.e0 i (by rw [HN.out]; exact hlt)
      clear hv2
      go_wp2
      go_loopw [6, 7] (fun x v wr => ∃ j : Nat, j ≤ N ∧ v = .int .i64 j ∧ x = .int .i64 (cnt (L.take j) (g L i)) ∧ ∃ y, wr = w.drewN y) (fun _ v _ => N - (intOf v).toNat)
      case atStart => exact ⟨0, Nat.zero_le _, rfl, by simp [cnt], _, rfl⟩
      case round =>
        obtain ⟨j, hj, rfl, rfl, y, rfl⟩ := hrel
        by_cases hlt2 : j < N
        · have j0 := h'.e0 j (by rw [HN.out]; exact hlt2)
          have ct := cnt_take L (g L i) j (by rw [HN.out]; exact hlt2)
          have li := inc.lex_iff i j (by rw [HN.out]; exact hlt) (by rw [HN.out]; exact hlt2)
          have hcl : cnt (L.take j) (g L i) ≤ 1200000 := Nat.le_trans (cnt_le _ _) (by simp; omega)
          have iI : (i : Int) < (N : Int) := by omega
          have jI : (j : Int) < (N : Int) := by omega
          generalize hcc : cnt (L.take j) (g L i) = cc at *
          have HCC : Hid (cnt (L.take j) (g L i) = cc) := hcc
          clear hcc
          generalize hxi : (g L i).r = xi at *
          generalize hxj : (g L j).r = xj at *
          have HXI : Hid ((g L i).r = xi) := hxi
          have HXJ : Hid ((g L j).r = xj) := hxj
          clear hxi hxj
          by_cases k1 : xj < xi
          · rw [if_pos (li.2 (.inl k1))] at ct
            have HCT : Hid (cnt (L.take (j + 1)) (g L i) = cc + 1) := ct
            clear ct li h' h hno
            have b1 : decide (xj < xi) = true := decide_eq_true k1
            go_wp2_with fail
            go_quiet (fail)
            clear b1
            go_wp2
            go_roundw
            case rel => exact ⟨j + 1, by omega, by go_num, by rw [HCT.out]; go_num, _, rfl⟩
            case measure => simp [intOf]; omega
          · by_cases k2 : xj = xi
            · subst k2
              by_cases k3 : j < i
              · rw [if_pos (li.2 (.inr ⟨rfl, k3⟩))] at ct
                have HCT : Hid (cnt (L.take (j + 1)) (g L i) = cc + 1) := ct
                clear ct li h' h hno k1
                have b1 : decide (xj < xj) = false := by simp
                have b2 : (xj == xj) = true := by simp
                have b3 : decide ((j : Int) < (i : Int)) = true := decide_eq_true (by omega)
                have b4 : decide (j < i) = true := decide_eq_true (by omega)
                go_wp2_with fail
                go_quiet (fail)
                clear b1 b2 b3 b4
                go_wp2
                go_roundw
                case rel => exact ⟨j + 1, by omega, by go_num, by rw [HCT.out]; go_num, _, rfl⟩
                case measure => simp [intOf]; omega
              · rw [if_neg (fun hh => by rcases li.1 hh with h1 | h1 <;> omega)] at ct
                have HCT : Hid (cnt (L.take (j + 1)) (g L i) = cc + 0) := ct
                clear ct li h' h hno k1
                have b1 : decide (xj < xj) = false := by simp
                have b2 : (xj == xj) = true := by simp
                have b3 : decide ((j : Int) < (i : Int)) = false := decide_eq_false (by omega)
                have b4 : decide (j < i) = false := decide_eq_false (by omega)
                go_wp2_with fail
                go_quiet (fail)
                clear b1 b2 b3 b4
                go_wp2
                go_roundw
                case rel => exact ⟨j + 1, by omega, by go_num, by rw [HCT.out]; rfl, _, rfl⟩
                case measure => simp [intOf]; omega
            · rw [if_neg (fun hh => by rcases li.1 hh with h1 | h1 <;> omega)] at ct
              have HCT : Hid (cnt (L.take (j + 1)) (g L i) = cc + 0) := ct
              clear ct li h' h hno
              have b1 : decide (xj < xi) = false := decide_eq_false k1
              have b2 : (xj == xi) = false := beq_eq_false_iff_ne.2 k2
              clear k1 k2
              go_wp2_with fail
              go_quiet (fail)
              clear b1 b2
              go_wp2
              go_roundw
              case rel => exact ⟨j + 1, by omega, by go_num, by rw [HCT.out]; rfl, _, rfl⟩
              case measure => simp [intOf]; omega
        · obtain rfl : j = N := by omega
          have hct : cnt (L.take j) (g L i) = cnt L (g L i) := by rw [List.take_of_length_le (by rw [HN.out]; exact Nat.le_refl _)]
          rw [hct]
          obtain ⟨cc, hcc⟩ : ∃ cc, cnt L (g L i) = cc := ⟨_, rfl⟩
          have HCC : Hid (cnt L (g L i) = cc) := hcc
          rw [hcc]
          clear hcc hct h' h
          by_cases hk : (cc : Int) = k
          · have b1 : ((cc : Int) == k) = true := beq_iff_eq.2 hk
            have HK : Hid ((cc : Int) = k) := hk
            clear hk
            go_wp2
            go_ret
            exact ⟨⟨_, rfl⟩, .inl ⟨i, by rw [HN.out]; exact hlt, by rw [HCC.out]; exact HK.out, rfl⟩⟩
          · have b1 : ((cc : Int) == k) = false := beq_eq_false_iff_ne.2 hk
            have HNO : Hid (∀ q, q < i + 1 → (cnt L (g L q) : Int) ≠ k) := fun q hq => by
              by_cases e : q = i
              · subst e; rw [HCC.out]; exact hk
              · exact hno q (by omega)
            clear hk hno
            go_wp2
            go_roundw
            case rel => exact ⟨i + 1, by omega, by go_num, ⟨_, rfl⟩, HNO.out⟩
            case measure => simp [intOf]; omega
    · obtain rfl : i = N := by omega
      have HNO : Hid (∀ q, q < i → (cnt L (g L q) : Int) ≠ k) := hno
      clear hno h
      go_wp2
      go_ret
      exact ⟨⟨_, rfl⟩, .inr ⟨fun q hq => HNO.out q (by rw [← HN.out]; exact hq), rfl⟩⟩
end Go.Proofs.Ythfjkddninlbcaa.hp
