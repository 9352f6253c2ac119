import Derived.Test.YtokaeiahhmaokaaDoorW6
import Derived.Test.YtokaeiahhmaokaaDoorW1
import Derived.Deep.RegionHeld
import Derived.Great.BuildSlice
namespace Go.Proofs.YtokaeiahhmaokaaDoor.ds
open Go.ChangeShapes Go.WideShapes Go.ChangeAt Go.RowKit Go.Sort
set_option linter.unusedVariables false
set_option linter.unusedSimpArgs false
/-- a slice of new memory -/
structure Nw (w w' : World) (e size : Nat) (s : Sl) (us : List Value) : Prop where
  own : w'.ownsRow 0 e size s.v s.n us
  new : ∀ k, s.v.ownBlock = some k → w.heap.size ≤ k
  ap : Apart [] w w'
theorem Nw.kept {w w' w2 : World} {e size : Nat} {s : Sl} {us : List Value} (h : Nw w w' e size s us) (a : Apart [] w' w2) : Nw w w2 e size s us := ⟨own_apart h.own a (by simp), h.new, h.ap.trans a⟩
theorem Nw.rd {w w' : World} {e size : Nat} {s : Sl} {us : List Value} (h : Nw w w' e size s us) : Rd w' s.p us := Rd.own h.own
theorem Nw.ok {w w' : World} {e size : Nat} {s : Sl} {us : List Value} (h : Nw w w' e size s us) : s.ok := by
  intro hp
  obtain ⟨_, ⟨hv, hz⟩ | ⟨g, cap, cur, hv, _⟩⟩ := h.own
  · unfold Sl.v at hv; simp at hv; exact ⟨hz, hv.2.2⟩
  · unfold Sl.v at hv; simp [hp] at hv
theorem infoW : (Tryd.prog.info? 28).map (fun i => (i.zero, i.size, i.bytes)) = some (some (.agg #[.int .i64 0, .int .i64 0, .string ⟨#[]⟩, .bool false, .slice none 0 0, .slice none 0 0]), 6, 88) := by kernel_rfl
theorem infoB : (Tryd.prog.info? 5).map (fun i => (i.zero, i.size, i.bytes)) = some (some (.int .u8 0), 1, 1) := by kernel_rfl
set_option maxRecDepth 100000 in
theorem eqlSW (w : World) (a : Addr) (n c : Nat) : Sem.run Tryd.prog (binOp BinOp.eql 39 (Value.slice (some a) n c) (Value.slice none 0 0)) w = .ok (.bool false) w := by
  first | rfl | (simp [binOp, Tryd.underlying39, go_sem]; done)
set_option maxRecDepth 100000 in
theorem eqlNW (w : World) : Sem.run Tryd.prog (binOp BinOp.eql 39 (Value.slice none 0 0) (Value.slice none 0 0)) w = .ok (.bool true) w := by
  first | rfl | (simp [binOp, Tryd.underlying39, go_sem]; done)
set_option maxHeartbeats 1000000 in
theorem cloneW (w : World) (s : Sl) (us : List Value) (h : Rd w s.p us) (hl : us.length = s.n * 6) (one : ∀ u ∈ us, u.oneCell' = true) (hN : s.n ≤ 2000000) (ok : s.ok) :
    Calls Tryd.prog 85 #[s.v] w fun r w' => ∃ s', r = .returned (Sl.v s') ∧ s'.n = s.n ∧ Nw w w' 28 6 s' us := by
  obtain ⟨p, N, cap⟩ := s
  simp only at h hl hN
  unfold Sl.ok at ok
  simp only at ok
  cases p with
  | none =>
    obtain ⟨rfl, rfl⟩ := ok rfl
    have hu : us = [] := List.length_eq_zero_iff.1 (by omega)
    subst hu
    have hq := eqlNW w
    unfold Sl.v
    go_enter Tryd.func85, Tryd.ntmps85
    go_wp2
    go_ret
    exact ⟨⟨none, 0, 0⟩, rfl, rfl, World.ownsRow_nil _ _ _ _, by simp [Sl.v, Value.ownBlock], Apart.refl _ _⟩
  | some ad =>
    obtain ⟨i0, hi, hz0, hz1, hz2⟩ := info_parts infoW
    have hq := eqlSW w ad N cap
    have HL := hid hl
    have hcs : ∀ j u, us[j]? = some u → (w.alloc (.cells #[] 28)).cell? (ad.add j) = some u := by
      intro j u hj
      have hjl : j < us.length := by
        by_cases hc : j < us.length
        · exact hc
        · rw [List.getElem?_eq_none (by omega)] at hj; cases hj
      obtain ⟨P, o, e1, hP, hc⟩ := (h.kept0 ((Apart.refl [] w).alloc (.cells #[] 28))) (by omega)
      simp at e1
      subst e1
      rw [Addr.add_lit]
      exact hc j u hj
    have o1 : (w.alloc (.cells #[] 28)).ownsRow 0 28 6 (.slice (some ⟨w.heap.size, 0, none⟩) 0 0) 0 [] := World.ownsRow_lit (base := 0) (e := 28) (size := 6) w #[] 0 (Nat.zero_le _) (by decide) rfl
    obtain ⟨v', w', hrun, r1, r2, r3⟩ := run_append3 (w.alloc (.cells #[] 28)) 39 39 28 i0 _ 6 88 Tryd.underlying39 hi hz0 hz1 hz2 rfl (by decide) w.heap.size 0 0 [] o1 ad N cap us HL.out hcs one (by unfold maxLen; omega) (by omega)
    rw [Nat.zero_add, List.nil_append] at r1
    have ap : Apart [] w w' := ((Apart.refl [] w).alloc (.cells #[] 28)).trans' (apart_grown r2) (by simp)
    have hnew : ∃ k c, v' = .slice (some ⟨k, 0, none⟩) N c ∧ w.heap.size ≤ k := by
      rcases r3 with r3 | ⟨k, r3, hk⟩
      · obtain ⟨_, ⟨hv, _⟩ | ⟨g', cap', cur, hv, _⟩⟩ := r1
        · rw [hv] at r3; simp [Value.ownBlock] at r3
        · rw [hv] at r3; simp [Value.ownBlock] at r3; exact ⟨g', cap', hv, by omega⟩
      · obtain ⟨_, ⟨hv, _⟩ | ⟨g', cap', cur, hv, _⟩⟩ := r1
        · rw [hv] at r3; simp [Value.ownBlock] at r3
        · rw [hv] at r3; simp [Value.ownBlock] at r3; simp at hk; exact ⟨g', cap', hv, by omega⟩
    obtain ⟨k, c, rfl, hk⟩ := hnew
    clear r2 r3 o1 hl ok hcs h
    unfold Sl.v
    go_enter Tryd.func85, Tryd.ntmps85
    go_wp2_with (at_builtin; refine wpList_append3 rfl (.tmp 5) (.tmp 6) 39 rfl _ _ rfl rfl _ _ hrun ?_)
    go_wp2
    go_ret
    exact ⟨⟨some ⟨k, 0, none⟩, N, c⟩, rfl, rfl, r1, fun b hb => by simp [Sl.v, Value.ownBlock] at hb; omega, ap⟩
set_option maxRecDepth 100000 in
theorem eqlSB (w : World) (a : Addr) (n c : Nat) : Sem.run Tryd.prog (binOp BinOp.eql 25 (Value.slice (some a) n c) (Value.slice none 0 0)) w = .ok (.bool false) w := by
  first | rfl | (simp [binOp, Tryd.underlying25, go_sem]; done)
set_option maxRecDepth 100000 in
theorem eqlNB (w : World) : Sem.run Tryd.prog (binOp BinOp.eql 25 (Value.slice none 0 0) (Value.slice none 0 0)) w = .ok (.bool true) w := by
  first | rfl | (simp [binOp, Tryd.underlying25, go_sem]; done)
set_option maxHeartbeats 1000000 in
theorem cloneB (w : World) (s : Sl) (us : List Value) (h : Rd w s.p us) (hl : us.length = s.n * 1) (one : ∀ u ∈ us, u.oneCell' = true) (hN : s.n ≤ 2000000) (ok : s.ok) :
    Calls Tryd.prog 86 #[s.v] w fun r w' => ∃ s', r = .returned (Sl.v s') ∧ s'.n = s.n ∧ Nw w w' 5 1 s' us := by
  obtain ⟨p, N, cap⟩ := s
  simp only at h hl hN
  unfold Sl.ok at ok
  simp only at ok
  cases p with
  | none =>
    obtain ⟨rfl, rfl⟩ := ok rfl
    have hu : us = [] := List.length_eq_zero_iff.1 (by omega)
    subst hu
    have hq := eqlNB w
    unfold Sl.v
    go_enter Tryd.func86, Tryd.ntmps86
    go_wp2
    go_ret
    exact ⟨⟨none, 0, 0⟩, rfl, rfl, World.ownsRow_nil _ _ _ _, by simp [Sl.v, Value.ownBlock], Apart.refl _ _⟩
  | some ad =>
    obtain ⟨i0, hi, hz0, hz1, hz2⟩ := info_parts infoB
    have hq := eqlSB w ad N cap
    have HL := hid hl
    have hcs : ∀ j u, us[j]? = some u → (w.alloc (.cells #[] 5)).cell? (ad.add j) = some u := by
      intro j u hj
      have hjl : j < us.length := by
        by_cases hc : j < us.length
        · exact hc
        · rw [List.getElem?_eq_none (by omega)] at hj; cases hj
      obtain ⟨P, o, e1, hP, hc⟩ := (h.kept0 ((Apart.refl [] w).alloc (.cells #[] 5))) (by omega)
      simp at e1
      subst e1
      rw [Addr.add_lit]
      exact hc j u hj
    have o1 : (w.alloc (.cells #[] 5)).ownsRow 0 5 1 (.slice (some ⟨w.heap.size, 0, none⟩) 0 0) 0 [] := World.ownsRow_lit (base := 0) (e := 5) (size := 1) w #[] 0 (Nat.zero_le _) (by decide) rfl
    obtain ⟨v', w', hrun, r1, r2, r3⟩ := run_append3 (w.alloc (.cells #[] 5)) 25 25 5 i0 _ 1 1 Tryd.underlying25 hi hz0 hz1 hz2 rfl (by decide) w.heap.size 0 0 [] o1 ad N cap us HL.out hcs one (by unfold maxLen; omega) (by omega)
    rw [Nat.zero_add, List.nil_append] at r1
    have ap : Apart [] w w' := ((Apart.refl [] w).alloc (.cells #[] 5)).trans' (apart_grown r2) (by simp)
    have hnew : ∃ k c, v' = .slice (some ⟨k, 0, none⟩) N c ∧ w.heap.size ≤ k := by
      rcases r3 with r3 | ⟨k, r3, hk⟩
      · obtain ⟨_, ⟨hv, _⟩ | ⟨g', cap', cur, hv, _⟩⟩ := r1
        · rw [hv] at r3; simp [Value.ownBlock] at r3
        · rw [hv] at r3; simp [Value.ownBlock] at r3; exact ⟨g', cap', hv, by omega⟩
      · obtain ⟨_, ⟨hv, _⟩ | ⟨g', cap', cur, hv, _⟩⟩ := r1
        · rw [hv] at r3; simp [Value.ownBlock] at r3
        · rw [hv] at r3; simp [Value.ownBlock] at r3; simp at hk; exact ⟨g', cap', hv, by omega⟩
    obtain ⟨k, c, rfl, hk⟩ := hnew
    clear r2 r3 o1 hl ok hcs h
    unfold Sl.v
    go_enter Tryd.func86, Tryd.ntmps86
    go_wp2_with (at_builtin; refine wpList_append3 rfl (.tmp 5) (.tmp 6) 25 rfl _ _ rfl rfl _ _ hrun ?_)
    go_wp2
    go_ret
    exact ⟨⟨some ⟨k, 0, none⟩, N, c⟩, rfl, rfl, r1, fun b hb => by simp [Sl.v, Value.ownBlock] at hb; omega, ap⟩
set_option maxRecDepth 100000 in
theorem eqlSS (w : World) (a : Addr) (n c : Nat) : Sem.run Tryd.prog (binOp BinOp.eql 26 (Value.slice (some a) n c) (Value.slice none 0 0)) w = .ok (.bool false) w := by
  first | rfl | (simp [binOp, Tryd.underlying26, go_sem]; done)
set_option maxRecDepth 100000 in
theorem eqlNS (w : World) : Sem.run Tryd.prog (binOp BinOp.eql 26 (Value.slice none 0 0) (Value.slice none 0 0)) w = .ok (.bool true) w := by
  first | rfl | (simp [binOp, Tryd.underlying26, go_sem]; done)
set_option maxHeartbeats 1000000 in
theorem cloneS (w : World) (s : Sl) (us : List Value) (h : Rd w s.p us) (hl : us.length = s.n * 3) (one : ∀ u ∈ us, u.oneCell' = true) (hN : s.n ≤ 2000000) (ok : s.ok) :
    Calls Tryd.prog 87 #[s.v] w fun r w' => ∃ s', r = .returned (Sl.v s') ∧ s'.n = s.n ∧ Nw w w' 80 3 s' us := by
  obtain ⟨p, N, cap⟩ := s
  simp only at h hl hN
  unfold Sl.ok at ok
  simp only at ok
  cases p with
  | none =>
    obtain ⟨rfl, rfl⟩ := ok rfl
    have hu : us = [] := List.length_eq_zero_iff.1 (by omega)
    subst hu
    have hq := eqlNS w
    unfold Sl.v
    go_enter Tryd.func87, Tryd.ntmps87
    go_wp2
    go_ret
    exact ⟨⟨none, 0, 0⟩, rfl, rfl, World.ownsRow_nil _ _ _ _, by simp [Sl.v, Value.ownBlock], Apart.refl _ _⟩
  | some ad =>
    obtain ⟨i0, hi, hz0, hz1, hz2⟩ := info_parts info52
    have hq := eqlSS w ad N cap
    have HL := hid hl
    have hcs : ∀ j u, us[j]? = some u → (w.alloc (.cells #[] 80)).cell? (ad.add j) = some u := by
      intro j u hj
      have hjl : j < us.length := by
        by_cases hc : j < us.length
        · exact hc
        · rw [List.getElem?_eq_none (by omega)] at hj; cases hj
      obtain ⟨P, o, e1, hP, hc⟩ := (h.kept0 ((Apart.refl [] w).alloc (.cells #[] 80))) (by omega)
      simp at e1
      subst e1
      rw [Addr.add_lit]
      exact hc j u hj
    have o1 : (w.alloc (.cells #[] 80)).ownsRow 0 80 3 (.slice (some ⟨w.heap.size, 0, none⟩) 0 0) 0 [] := World.ownsRow_lit (base := 0) (e := 80) (size := 3) w #[] 0 (Nat.zero_le _) (by decide) rfl
    obtain ⟨v', w', hrun, r1, r2, r3⟩ := run_append3 (w.alloc (.cells #[] 80)) 26 26 80 i0 _ 3 24 Tryd.underlying26 hi hz0 hz1 hz2 rfl (by decide) w.heap.size 0 0 [] o1 ad N cap us HL.out hcs one (by unfold maxLen; omega) (by omega)
    rw [Nat.zero_add, List.nil_append] at r1
    have ap : Apart [] w w' := ((Apart.refl [] w).alloc (.cells #[] 80)).trans' (apart_grown r2) (by simp)
    have hnew : ∃ k c, v' = .slice (some ⟨k, 0, none⟩) N c ∧ w.heap.size ≤ k := by
      rcases r3 with r3 | ⟨k, r3, hk⟩
      · obtain ⟨_, ⟨hv, _⟩ | ⟨g', cap', cur, hv, _⟩⟩ := r1
        · rw [hv] at r3; simp [Value.ownBlock] at r3
        · rw [hv] at r3; simp [Value.ownBlock] at r3; exact ⟨g', cap', hv, by omega⟩
      · obtain ⟨_, ⟨hv, _⟩ | ⟨g', cap', cur, hv, _⟩⟩ := r1
        · rw [hv] at r3; simp [Value.ownBlock] at r3
        · rw [hv] at r3; simp [Value.ownBlock] at r3; simp at hk; exact ⟨g', cap', hv, by omega⟩
    obtain ⟨k, c, rfl, hk⟩ := hnew
    clear r2 r3 o1 hl ok hcs h
    unfold Sl.v
    go_enter Tryd.func87, Tryd.ntmps87
    go_wp2_with (at_builtin; refine wpList_append3 rfl (.tmp 5) (.tmp 6) 26 rfl _ _ rfl rfl _ _ hrun ?_)
    go_wp2
    go_ret
    exact ⟨⟨some ⟨k, 0, none⟩, N, c⟩, rfl, rfl, r1, fun b hb => by simp [Sl.v, Value.ownBlock] at hb; omega, ap⟩
theorem oneB (bs : List Nat) : ∀ u ∈ byts bs, u.oneCell' = true := by
  intro u hu
  simp [byts] at hu
  obtain ⟨b, _, rfl⟩ := hu
  rfl
end Go.Proofs.YtokaeiahhmaokaaDoor.ds
namespace Go.Proofs.YtokaeiahhmaokaaDoor.ds
open Go.ChangeShapes Go.WideShapes Go.ChangeAt Go.RowKit Go.Sort
set_option linter.unusedVariables false
set_option linter.unusedSimpArgs false
theorem own_typ {w : World} {base : Nat} {e : TypeId} {size : Nat} {v : Value} {n : Nat} {xs : List Value} (h : w.ownsRow base e size v n xs) {k : Nat} (hk : v.ownBlock = some k) : ∃ cur, w.heap[k]? = some (.cells cur e (0, 0)) := by
  obtain ⟨_, ⟨hv, _⟩ | ⟨g, cap, cur, hv, _, hr, _⟩⟩ := h
  · rw [hv] at hk; simp [Value.ownBlock] at hk
  · rw [hv] at hk; simp [Value.ownBlock] at hk; subst hk; exact ⟨cur, hr⟩
def Wr.z : Wr := ⟨0, 0, ⟨#[]⟩, false, [], []⟩
def gR (rs : List Wr) (k : Nat) : Wr := rs.getD k Wr.z
/-- a write of new memory, its slices too -/
structure Fresh (w wr : World) (e : E) (r : Wr) : Prop where
  n : e.n = r.n
  c : e.c = r.c
  k : e.k = r.k
  d : e.d = r.d
  v : Nw w wr 5 1 e.v (byts r.vs)
  vn : r.vs.length = e.v.n
  vl : e.v.n ≤ 2000000
  vb : ∀ b ∈ r.vs, b < 256
  x : Nw w wr 80 3 e.x (flat r.xs)
  xn : r.xs.length = e.x.n
  xl : e.x.n ≤ 2000000
  xf : ∀ y ∈ r.xs, y.t < 2 ^ 64
theorem Fresh.reads {w wr : World} {e : E} {r : Wr} (h : Fresh w wr e r) : Reads wr e r :=
  ⟨h.n, h.c, h.k, h.d, h.v.rd, h.vn, h.vl, h.vb, ⟨Sp.own (cap := e.x.c) (n := e.x.n) h.x.own h.xn.symm, h.xn, by have := h.xl; omega, h.xf⟩, h.xl, h.v.ok, h.x.ok⟩
theorem Fresh.kept {w wr w' : World} {e : E} {r : Wr} {X : List Nat} (h : Fresh w wr e r) (a : Apart X wr w') (aw : Apart [] w w') (hX : ∀ k ∈ X, ∀ cur, wr.heap[k]? ≠ some (.cells cur 5 (0, 0)) ∧ wr.heap[k]? ≠ some (.cells cur 80 (0, 0))) : Fresh w w' e r :=
  { h with
    v := ⟨own_apart h.v.own a (fun k hk hm => by obtain ⟨cur, e1⟩ := own_typ h.v.own hk; exact (hX k hm cur).1 e1), h.v.new, aw⟩
    x := ⟨own_apart h.x.own a (fun k hk hm => by obtain ⟨cur, e1⟩ := own_typ h.x.own hk; exact (hX k hm cur).2 e1), h.x.new, aw⟩ }
theorem Fresh.kept0 {w wr w' : World} {e : E} {r : Wr} (h : Fresh w wr e r) (a : Apart [] wr w') : Fresh w w' e r := h.kept a (h.v.ap.trans a) (by simp)
theorem flatE_set2 (es : List E) (e : E) : ∀ (k : Nat), k < es.length → e.n = (gE es k).n → e.c = (gE es k).c → e.k = (gE es k).k → e.d = (gE es k).d → flatE (es.set k e) = ((flatE es).set (k * 6 + 4) e.v.v).set (k * 6 + 5) e.x.v := by
  induction es with
  | nil => intro k hk; simp at hk
  | cons a l ih =>
    intro k hk h1 h2 h3 h4
    match k with
    | 0 =>
      simp [gE] at h1 h2 h3 h4
      simp [flatE, E.cs, h1, h2, h3, h4]
    | k + 1 =>
      have := ih k (by simpa using hk) h1 h2 h3 h4
      rw [show (k + 1) * 6 + 4 = k * 6 + 4 + 6 from by omega, show (k + 1) * 6 + 5 = k * 6 + 5 + 6 from by omega]
      show E.cs a ++ flatE (l.set k e) = _
      rw [this]; rfl
theorem gE_set (es : List E) (i k : Nat) (e : E) (hi : i < es.length) : gE (es.set i e) k = if k = i then e else gE es k := by
  unfold gE
  simp only [List.getD_eq_getElem?_getD, List.getElem?_set]
  by_cases h : i = k
  · subst h; simp [hi]
  · rw [if_neg h, if_neg (fun e => h e.symm)]
/-- a list that is being copied -/
structure Cp (w wr : World) (G N c : Nat) (es : List E) (rs : List Wr) (i : Nat) (cs : List E) : Prop where
  own : wr.ownsRow 0 28 6 (.slice (some ⟨G, 0, none⟩) N c) N (flatE cs)
  hG : w.heap.size ≤ G
  len : cs.length = N
  fr : ∀ j, j < i → Fresh w wr (gE cs j) (gR rs j)
  old : ∀ j, i ≤ j → gE cs j = gE es j
  ap : Apart [] w wr
theorem Cp.step {w wr W W' : World} {G N c : Nat} {es : List E} {rs : List Wr} {i : Nat} {cs : List E} (h : Cp w wr G N c es rs i cs) (hi : i < N) (a : Apart [] wr W) (s t : Sl) (r : Reads w (gE es i) (gR rs i)) (hs : s.n = (gE es i).v.n) (ht : t.n = (gE es i).x.n) (ns : Nw w W 5 1 s (byts (gR rs i).vs)) (nt : Nw w W 80 3 t (flat (gR rs i).xs)) (hW : W' = (W.setCell ⟨G, i * 6 + 4, none⟩ s.v).setCell ⟨G, i * 6 + 5, none⟩ t.v) :
    ∃ cs', Cp w W' G N c es rs (i + 1) cs' := by
  have o1 := own_apart h.own a (by simp)
  have hil : i < cs.length := by rw [h.len]; exact hi
  have aG : Apart [G] W W' := by
    subst hW
    exact ((Apart.refl _ _).setCell (.inl (by simp)) _).setCell (.inl (by simp)) _
  have aw : Apart [] w W' := (h.ap.trans a).trans' aG (by have := h.hG; simp; omega)
  obtain ⟨cur, tG⟩ := own_typ o1 (k := G) rfl
  have hX : ∀ k ∈ [G], ∀ cur, W.heap[k]? ≠ some (.cells cur 5 (0, 0)) ∧ W.heap[k]? ≠ some (.cells cur 80 (0, 0)) := by
    intro k hk cu
    simp at hk
    subst hk
    rw [tG]
    simp
  refine ⟨cs.set i ⟨(gE cs i).n, (gE cs i).c, (gE cs i).k, (gE cs i).d, s, t⟩, ?_, h.hG, by simp [h.len], fun j hj => ?_, fun j hj => ?_, aw⟩
  · rw [flatE_set2 cs ⟨(gE cs i).n, (gE cs i).c, (gE cs i).k, (gE cs i).d, s, t⟩ i hil rfl rfl rfl rfl]
    subst hW
    exact ((o1.stored (i * 6 + 4) s.v).1.stored (i * 6 + 5) t.v).1
  · rw [gE_set _ _ _ _ hil]
    by_cases e : j = i
    · subst e
      rw [if_pos rfl]
      have f0 : Fresh w W ⟨(gE cs j).n, (gE cs j).c, (gE cs j).k, (gE cs j).d, s, t⟩ (gR rs j) := by
        have e0 := h.old j (Nat.le_refl _)
        exact ⟨by rw [e0]; exact r.n, by rw [e0]; exact r.c, by rw [e0]; exact r.k, by rw [e0]; exact r.d, ns, by rw [r.vn]; exact hs.symm, by show s.n ≤ _; rw [hs]; exact r.vl, r.vb, nt, by rw [r.x.len]; exact ht.symm, by show t.n ≤ _; rw [ht]; exact r.xl, r.x.fit⟩
      exact f0.kept aG aw hX
    · rw [if_neg e]
      exact ((h.fr j (by omega)).kept0 a).kept aG aw hX
  · rw [gE_set _ _ _ _ hil, if_neg (by omega)]
    exact h.old j (by omega)
/-- what copies answers -/
structure CpPost (w w' : World) (r : Ending) (N : Nat) (rs : List Wr) : Prop where
  ex : ∃ (s : Sl) (es : List E), r = .returned s.v ∧ s.n = N ∧ es.length = N ∧ Nw w w' 28 6 s (flatE es) ∧ ∀ j, j < N → Fresh w w' (gE es j) (gR rs j)
set_option maxHeartbeats 8000000 in
set_option maxRecDepth 100000 in
theorem copies_ok (w : World) (s : Sl) (N0 : Nat) (es : List E) (rs : List Wr) (hs : s.n = N0) (ok : s.ok) (h : LE w s.p N0 es) (hr : ∀ j, j < N0 → Reads w (gE es j) (gR rs j)) :
    Calls Tryd.prog 50 #[s.v] w fun r w' => CpPost w w' r N0 rs := by
  have hC := cloneW w s (flatE es) h.rd (by rw [flatE_length, h.len, hs]) (oneE es) (by rw [hs]; exact h.lim) ok
  rw [hs] at hC
  have hl := h.lim
  have HLE := hid h
  have HRS := hid hr
  obtain ⟨p, n, cap⟩ := s
  simp only at hs
  subst hs
  clear h hr ok
  unfold Sl.v at hC ⊢
  go_enter Tryd.func50, Tryd.ntmps50
  go_wp2_with fail
  refine hC.mono ?_
  clear hC
  rintro r w1 ⟨⟨p1, N, c⟩, rfl, hn1, nw⟩
  simp only at hn1
  subst hn1
  dsimp only
  have HNW := hid nw
  clear nw
  by_cases h0 : N = 0
  · subst h0
    go_wp2_with fail
    go_loopw [9] (fun v wr => v = .int .i64 0 ∧ wr = w1) (fun v _ => 0)
    case atStart => exact ⟨rfl, rfl⟩
    case round =>
      obtain ⟨rfl, rfl⟩ := hrel
      go_wp2
      go_ret
      exact ⟨⟨p1, 0, c⟩, es, rfl, rfl, HLE.out.len, HNW.out, fun j hj => absurd hj (by omega)⟩
  · obtain ⟨G, rfl⟩ : ∃ G, p1 = some ⟨G, 0, none⟩ := by
      obtain ⟨_, ⟨hv, hz⟩ | ⟨g, cap', cur, hv, _⟩⟩ := HNW.out.own
      · exact absurd hz h0
      · unfold Sl.v at hv; simp at hv; exact ⟨g, hv.1⟩
    have inv0 : Cp w w1 G N c es rs 0 es := ⟨HNW.out.own, HNW.out.new G rfl, HLE.out.len, fun j hj => absurd hj (by omega), fun j _ => rfl, HNW.out.ap⟩
    go_wp2_with fail
    go_loopw [9] (fun v wr => ∃ i : Nat, v = .int .i64 (i : Nat) ∧ i ≤ N ∧ ∃ cs, Cp w wr G N c es rs i cs) (fun v _ => N - (intOf v).toNat)
    case atStart => exact ⟨0, rfl, Nat.zero_le _, es, inv0⟩
    case round =>
      clear inv0
      obtain ⟨i, rfl, hi, cs, inv⟩ := hrel
      have HI := hid inv
      clear inv
      by_cases hlt : i < N
      · obtain ⟨g0, g1, g2, g3, g4, g5⟩ := flatE_get cs i (by rw [HI.out.len]; exact hlt)
        have d0 := (HI.out.own.cellAt (i * 6) (by omega)).trans g0
        have d1 := (HI.out.own.cellAt (i * 6 + 1) (by omega)).trans g1
        have d2 := (HI.out.own.cellAt (i * 6 + 2) (by omega)).trans g2
        have d3 := (HI.out.own.cellAt (i * 6 + 3) (by omega)).trans g3
        have d4 := (HI.out.own.cellAt (i * 6 + 4) (by omega)).trans g4
        have d5 := (HI.out.own.cellAt (i * 6 + 5) (by omega)).trans g5
        clear g0 g1 g2 g3 g4 g5
        have e0 := HI.out.old i (Nat.le_refl _)
        have HRE := hid (HRS.out i hlt)
        obtain ⟨e, he⟩ : ∃ e, e = gE cs i := ⟨_, rfl⟩
        rw [← he] at d0 d1 d2 d3 d4 d5 e0
        have HEE := hid he
        have HE0 := hid e0
        clear e0
        have a1 : Apart [] wr (wr.alloc (boxE e)).drew := ((Apart.refl [] wr).alloc _).drew
        have HA1 := hid a1
        have hrd : Reads (wr.alloc (boxE e)).drew e (gR rs i) := by
          have hq := HRE.out.kept0 (HI.out.ap.trans a1)
          rw [← HE0.out] at hq
          exact hq
        have HRD := hid hrd
        have HRx : Hid (Rd (wr.alloc (boxE e)).drew e.x.p (flat (gR rs i).xs)) := fun h0 => by
          obtain ⟨P, o, e1, hP, hc⟩ := hrd.x.sp (by rw [flat_length] at h0; omega)
          refine ⟨P, o, e1, hP, fun j u hj => ?_⟩
          have hsp := hrd.x.sp
          rw [e1] at hsp
          have := hsp.cells j u hj
          rwa [Addr.add_lit] at this
        have hCB := cloneB (wr.alloc (boxE e)).drew e.v (byts (gR rs i).vs) hrd.v (by rw [← hrd.vn]; simp [byts]) (oneB _) hrd.vl hrd.vo
        have bX : (wr.alloc (boxE e)).drew.heap[wr.heap.size]? = some (.cells #[.int .i64 e.n, .int .i64 e.c, .string e.k, .bool e.d, e.v.v, e.x.v] 28 (0, 0)) := heap_alloc_new wr _
        have hSb : (wr.alloc (boxE e)).drew.cell? ⟨wr.heap.size, 4, none⟩ = some (.slice e.v.p e.v.n e.v.c) ∧ (wr.alloc (boxE e)).drew.cell? ⟨wr.heap.size, 5, none⟩ = some (.slice e.x.p e.x.n e.x.c) := ⟨(row6 bX).2.2.2.2.1, (row6 bX).2.2.2.2.2⟩
        have hNB : wr.heap.size < (wr.alloc (boxE e)).drew.heap.size := lt_of_heap bX
        unfold Sl.v at d4 d5 hCB
        clear hrd a1 bX he
        go_wp2_with fail
        refine wp_region_held_drew (S := fun X => X.cell? ⟨wr.heap.size, 4, none⟩ = some (.slice e.v.p e.v.n e.v.c) ∧ X.cell? ⟨wr.heap.size, 5, none⟩ = some (.slice e.x.p e.x.n e.x.c)) (by kernel_rfl) hSb (fun hHeld => ?_)
        refine tk 0 14 (.slice (some ⟨G, 0, none⟩) N c) rfl ?_ ?_
        · intro W hSW; obtain ⟨hS4, hS5⟩ := hSW; go_simp
        simp only [Act.put, List.setIfInBounds_toArray, List.set_cons_zero, List.set_cons_succ]
        refine tk 1 15 (.int .i64 (i : Nat)) rfl ?_ ?_
        · intro W hSW; obtain ⟨hS4, hS5⟩ := hSW; go_simp
        simp only [Act.put, List.setIfInBounds_toArray, List.set_cons_zero, List.set_cons_succ]
        refine tk 2 16 (.slice (some ⟨G, 0, none⟩) N c) rfl ?_ ?_
        · intro W hSW; obtain ⟨hS4, hS5⟩ := hSW; go_simp
        simp only [Act.put, List.setIfInBounds_toArray, List.set_cons_zero, List.set_cons_succ]
        refine tk 3 17 (.int .i64 (i : Nat)) rfl ?_ ?_
        · intro W hSW; obtain ⟨hS4, hS5⟩ := hSW; go_simp
        simp only [Act.put, List.setIfInBounds_toArray, List.set_cons_zero, List.set_cons_succ]
        refine tk 4 18 (.pointer (some ⟨wr.heap.size, 4, none⟩)) rfl ?_ ?_
        · intro W hSW; obtain ⟨hS4, hS5⟩ := hSW; go_simp
        simp only [Act.put, List.setIfInBounds_toArray, List.set_cons_zero, List.set_cons_succ]
        refine tk 5 19 (.slice e.v.p e.v.n e.v.c) rfl ?_ ?_
        · intro W hSW; obtain ⟨hS4, hS5⟩ := hSW; go_simp
        simp only [Act.put, List.setIfInBounds_toArray, List.set_cons_zero, List.set_cons_succ]
        refine tk 7 21 (.pointer (some ⟨wr.heap.size, 5, none⟩)) rfl ?_ ?_
        · intro W hSW; obtain ⟨hS4, hS5⟩ := hSW; go_simp
        simp only [Act.put, List.setIfInBounds_toArray, List.set_cons_zero, List.set_cons_succ]
        refine tk 8 22 (.slice e.x.p e.x.n e.x.c) rfl ?_ ?_
        · intro W hSW; obtain ⟨hS4, hS5⟩ := hSW; go_simp
        simp only [Act.put, List.setIfInBounds_toArray, List.set_cons_zero, List.set_cons_succ]
        refine wpAnyH_ready (rs := [6]) (by kernel_rfl) (by simp) ?_
        refine AllReadyH.cons rfl (fun KK hKK => ?_) AllReadyH.nil
        go_simp
        refine hCB.mono ?_
        clear hCB
        rintro r1 w2 ⟨s1, rfl, hs1x, nw1⟩
        have HS1 := hid hs1x
        clear hs1x
        have hSn : w2.cell? ⟨wr.heap.size, 4, none⟩ = some (.slice e.v.p e.v.n e.v.c) ∧ w2.cell? ⟨wr.heap.size, 5, none⟩ = some (.slice e.x.p e.x.n e.x.c) := ⟨(nw1.ap.cell hNB (by simp)).trans hSb.1, (nw1.ap.cell hNB (by simp)).trans hSb.2⟩
        have HN1 := hid nw1
        have hCS := cloneS w2 e.x (flat (gR rs i).xs) (HRx.out.kept0 nw1.ap) (by rw [flat_length, HRD.out.x.len]) (oneFlat _) HRD.out.xl HRD.out.xo
        unfold Sl.v at hCS
        dsimp only
        refine hKK.out _ _ hSn (fun hHeld => ?_)
        clear hKK KK nw1 hSb
        refine wpAnyH_ready (rs := [9]) (by kernel_rfl) (by simp) ?_
        refine AllReadyH.cons rfl (fun KK hKK => ?_) AllReadyH.nil
        go_simp
        refine hCS.mono ?_
        clear hCS
        rintro r1 w3 ⟨s2, rfl, hs2x, nw2⟩
        have HS2 := hid hs2x
        clear hs2x
        have hSm : w3.cell? ⟨wr.heap.size, 4, none⟩ = some (.slice e.v.p e.v.n e.v.c) ∧ w3.cell? ⟨wr.heap.size, 5, none⟩ = some (.slice e.x.p e.x.n e.x.c) := ⟨(nw2.ap.cell (Nat.lt_of_lt_of_le hNB HN1.out.ap.size) (by simp)).trans hSn.1, (nw2.ap.cell (Nat.lt_of_lt_of_le hNB HN1.out.ap.size) (by simp)).trans hSn.2⟩
        have HN2 := hid nw2
        have aV := HA1.out.trans (HN1.out.ap.trans nw2.ap)
        have HA3 := hid aV
        obtain ⟨cs', inv'⟩ := HI.out.step hlt aV s1 s2 HRE.out (by rw [← HE0.out]; exact HS1.out) (by rw [← HE0.out]; exact HS2.out) ⟨own_apart HN1.out.own nw2.ap (by simp), fun k hk => Nat.le_trans (Nat.le_trans HI.out.ap.size HA1.out.size) (HN1.out.new k hk), HI.out.ap.trans aV⟩ ⟨HN2.out.own, fun k hk => Nat.le_trans (Nat.le_trans HI.out.ap.size (HA1.out.trans HN1.out.ap).size) (HN2.out.new k hk), HI.out.ap.trans aV⟩ rfl
        have HI2 := hid inv'
        have o3 := own_apart HI.out.own aV (by simp)
        have q4 := (o3.cellAt (i * 6 + 4) (by omega)).trans (flatE_get cs i (by rw [HI.out.len]; exact hlt)).2.2.2.2.1
        have q5 := (o3.cellAt (i * 6 + 5) (by omega)).trans (flatE_get cs i (by rw [HI.out.len]; exact hlt)).2.2.2.2.2
        have f4 := o3.frozenAt (i * 6 + 4)
        have f5 := o3.frozenAt (i * 6 + 5)
        have hGne : G ≠ wr.heap.size := by have := (HI.out.own.lt G rfl).2; omega
        unfold Sl.v at inv' HI2 q4 q5
        clear inv' aV o3
        dsimp only
        refine hKK.out _ _ hSm (fun hHeld => ?_)
        clear hKK KK nw2 hSn
        refine tk 10 24 (.pointer (some ⟨G, i * 6, none⟩)) rfl ?_ ?_
        · intro W hSW; obtain ⟨hS4, hS5⟩ := hSW; go_simp
        simp only [Act.put, List.setIfInBounds_toArray, List.set_cons_zero, List.set_cons_succ]
        refine tk 11 25 (.pointer (some ⟨G, i * 6 + 4, none⟩)) rfl ?_ ?_
        · intro W hSW; obtain ⟨hS4, hS5⟩ := hSW; go_simp
        simp only [Act.put, List.setIfInBounds_toArray, List.set_cons_zero, List.set_cons_succ]
        refine wpAnyH_ready (rs := [12]) (by kernel_rfl) (by simp) ?_
        refine AllReadyH.cons rfl (fun KK hKK => ?_) AllReadyH.nil
        go_simp
        have hSk : (w3.setCell ⟨G, i * 6 + 4, none⟩ (.slice s1.p s1.n s1.c)).cell? ⟨wr.heap.size, 4, none⟩ = some (.slice e.v.p e.v.n e.v.c) ∧ (w3.setCell ⟨G, i * 6 + 4, none⟩ (.slice s1.p s1.n s1.c)).cell? ⟨wr.heap.size, 5, none⟩ = some (.slice e.x.p e.x.n e.x.c) := by
          have ag : Apart [G] w3 (w3.setCell ⟨G, i * 6 + 4, none⟩ (.slice s1.p s1.n s1.c)) := (Apart.refl _ _).setCell (.inl (by simp)) _
          exact ⟨(ag.cell (Nat.lt_of_lt_of_le hNB (HN1.out.ap.trans HN2.out.ap).size) (by simpa using hGne.symm)).trans hSm.1, (ag.cell (Nat.lt_of_lt_of_le hNB (HN1.out.ap.trans HN2.out.ap).size) (by simpa using hGne.symm)).trans hSm.2⟩
        refine hKK.out _ _ hSk (fun hHeld => ?_)
        clear hKK KK
        refine tk 13 26 (.pointer (some ⟨G, i * 6, none⟩)) rfl ?_ ?_
        · intro W hSW; obtain ⟨hS4, hS5⟩ := hSW; go_simp
        simp only [Act.put, List.setIfInBounds_toArray, List.set_cons_zero, List.set_cons_succ]
        refine tk 14 27 (.pointer (some ⟨G, i * 6 + 5, none⟩)) rfl ?_ ?_
        · intro W hSW; obtain ⟨hS4, hS5⟩ := hSW; go_simp
        simp only [Act.put, List.setIfInBounds_toArray, List.set_cons_zero, List.set_cons_succ]
        refine wpAnyH_ready (rs := [15]) (by kernel_rfl) (by simp) ?_
        refine AllReadyH.cons rfl (fun KK hKK => ?_) AllReadyH.nil
        go_simp
        have hSl : ((w3.setCell ⟨G, i * 6 + 4, none⟩ (.slice s1.p s1.n s1.c)).setCell ⟨G, i * 6 + 5, none⟩ (.slice s2.p s2.n s2.c)).cell? ⟨wr.heap.size, 4, none⟩ = some (.slice e.v.p e.v.n e.v.c) ∧ ((w3.setCell ⟨G, i * 6 + 4, none⟩ (.slice s1.p s1.n s1.c)).setCell ⟨G, i * 6 + 5, none⟩ (.slice s2.p s2.n s2.c)).cell? ⟨wr.heap.size, 5, none⟩ = some (.slice e.x.p e.x.n e.x.c) := by
          have ag : Apart [G] w3 ((w3.setCell ⟨G, i * 6 + 4, none⟩ (.slice s1.p s1.n s1.c)).setCell ⟨G, i * 6 + 5, none⟩ (.slice s2.p s2.n s2.c)) := ((Apart.refl _ _).setCell (.inl (by simp)) _).setCell (.inl (by simp)) _
          exact ⟨(ag.cell (Nat.lt_of_lt_of_le hNB (HN1.out.ap.trans HN2.out.ap).size) (by simpa using hGne.symm)).trans hSm.1, (ag.cell (Nat.lt_of_lt_of_le hNB (HN1.out.ap.trans HN2.out.ap).size) (by simpa using hGne.symm)).trans hSm.2⟩
        refine hKK.out _ _ hSl (fun hHeld => ?_)
        clear hKK KK
        refine wpAnyH_done (by kernel_rfl) ?_ _
        go_wp2
        go_roundw
        case rel => exact ⟨i + 1, by go_num, by omega, cs', HI2.out⟩
        case measure => simp [intOf]; omega
      · obtain rfl : i = N := by omega
        go_wp2
        go_ret
        exact ⟨⟨some ⟨G, 0, none⟩, i, c⟩, cs, rfl, rfl, HI.out.len, ⟨HI.out.own, fun k hk => by simp [Sl.v, Value.ownBlock] at hk; subst hk; exact HI.out.hG, HI.out.ap⟩, HI.out.fr⟩
end Go.Proofs.YtokaeiahhmaokaaDoor.ds
namespace Go.Proofs.YtokaeiahhmaokaaDoor.ds
open Go.ChangeShapes Go.WideShapes Go.ChangeAt Go.RowKit Go.Sort
set_option linter.unusedVariables false
set_option linter.unusedSimpArgs false
theorem buildE (W : World) (e : E) : Sem.run Tryd.prog (Instr.buildSlice 39 1 #[(0, e.agg)]) W = .ok (.slice (some ⟨W.heap.size, 0, none⟩) 1 1) (W.alloc (boxE e)) := by
  obtain ⟨ie, hi, hz0, hz1, hz2⟩ := info_parts infoW
  refine run_buildSlice W 39 28 1 _ _ ie _ Tryd.underlying39 hi hz0 (by rw [hz1]; decide) (by rw [hz1]; decide) ?_
  rw [hz1]
  first | rfl | (simp [Instr.fill, Array.range, Value.cells, Array.ofFn, E.agg]; done) | kernel_rfl
/-- a list of writes of the call's own -/
structure OwnE (w W : World) (s : Sl) (es : List E) : Prop where
  nw : Nw w W 28 6 s (flatE es)
  len : es.length = s.n
theorem OwnE.kept {w W W' : World} {s : Sl} {es : List E} (h : OwnE w W s es) (a : Apart [] W W') : OwnE w W' s es := ⟨h.nw.kept a, h.len⟩
theorem OwnE.nil (w W : World) (a : Apart [] w W) : OwnE w W ⟨none, 0, 0⟩ [] := ⟨⟨World.ownsRow_nil _ _ _ _, by simp [Sl.v, Value.ownBlock], a⟩, rfl⟩
theorem OwnE.LE {w W : World} {s : Sl} {es : List E} (h : OwnE w W s es) (hn : s.n ≤ 2000000) : LE W s.p s.n es := ⟨h.nw.rd, h.len, hn⟩
/-- one more at its end -/
theorem run_appE {w W : World} {s : Sl} {es : List E} (h : OwnE w W s es) (hn : s.n ≤ 2000000) (e : E) (ty : TypeId) :
    ∃ s' W', (Builtin.append_ #[39, 39] ty #[s.v, .slice (some ⟨W.heap.size, 0, none⟩) 1 1]).run Tryd.prog (W.alloc (boxE e)) = .ok (Sl.v s') W' ∧ OwnE w W' s' (es ++ [e]) ∧ s'.n = s.n + 1 ∧ Apart s.v.ownBlock.toList W W' := by
  obtain ⟨i0, hi, hz0, hz1, hz2⟩ := info_parts infoW
  have o1 := (h.kept ((Apart.refl [] W).alloc (boxE e))).nw.own
  have hcs : ∀ j u, (E.cs e)[j]? = some u → (W.alloc (boxE e)).cell? ((⟨W.heap.size, 0, none⟩ : Addr).add j) = some u := by
    intro j u hj
    rw [Addr.add_lit, Nat.zero_add, cell_of_row _ _ _ _ _ _ (heap_alloc_new W (boxE e))]
    simpa [E.cs] using hj
  have one : ∀ u ∈ E.cs e, u.oneCell' = true := fun u hu => oneE [e] u (by simpa [flatE] using hu)
  have key : ∃ v' W', (Builtin.append_ #[39, 39] ty #[s.v, .slice (some ⟨W.heap.size, 0, none⟩) 1 1]).run Tryd.prog (W.alloc (boxE e)) = .ok v' W' ∧ W'.ownsRow 0 28 6 v' (s.n + 1) (flatE es ++ E.cs e) ∧ (W.alloc (boxE e)).grownBy W' s.v.ownBlock ∧ NewOr (W.alloc (boxE e)) s.v v' := by
    obtain ⟨p, n, c⟩ := s
    simp only at hn
    have o2 := o1
    unfold Sl.v at o1 ⊢
    obtain ⟨_, ⟨hv, hz⟩ | ⟨g, cap, cur, hv, _⟩⟩ := o2
    · unfold Sl.v at hv
      simp at hv
      obtain ⟨rfl, rfl, rfl⟩ := hv
      exact run_append2 (W.alloc (boxE e)) 39 ty 28 i0 _ 6 88 Tryd.underlying39 hi hz0 hz1 hz2 rfl (by decide) (.slice none 0 0) 0 (flatE es) o1 ⟨W.heap.size, 0, none⟩ 1 1 (E.cs e) (by simp) (by simp [E.cs]) hcs one (by decide) (by decide)
    · unfold Sl.v at hv
      simp at hv
      obtain ⟨rfl, rfl⟩ := hv
      exact run_append3 (W.alloc (boxE e)) 39 ty 28 i0 _ 6 88 Tryd.underlying39 hi hz0 hz1 hz2 rfl (by decide) g n c (flatE es) o1 ⟨W.heap.size, 0, none⟩ 1 1 (E.cs e) (by simp [E.cs]) hcs one (by unfold maxLen; omega) (by omega)
  obtain ⟨v', W', hrun, r1, r2, r3⟩ := key
  have ap : Apart s.v.ownBlock.toList W W' := (((Apart.refl _ W).alloc (boxE e))).trans (apart_grown r2)
  have hnew : ∀ k, v'.ownBlock = some k → w.heap.size ≤ k := by
    intro k hk
    rcases r3 with r3 | ⟨q, r3, hq⟩
    · exact h.nw.new k (r3 ▸ hk)
    · rw [r3] at hk; simp at hk; subst hk
      simp at hq
      have := h.nw.ap.size
      omega
  obtain ⟨s', rfl, hs'⟩ : ∃ s' : Sl, v' = s'.v ∧ s'.n = s.n + 1 := by
    obtain ⟨_, ⟨hv, hz⟩ | ⟨g, cap, cur, hv, _⟩⟩ := r1
    · exact absurd hz (by omega)
    · exact ⟨⟨some ⟨g, 0, none⟩, s.n + 1, cap⟩, hv, rfl⟩
  refine ⟨s', W', hrun, ⟨⟨by rw [hs', ← flatE_snoc]; exact r1, hnew, h.nw.ap.trans' ap (fun y hy => ?_)⟩, by rw [List.length_append, h.len, hs']; rfl⟩, hs', ap⟩
  simp at hy
  exact .inr (h.nw.new y hy)
end Go.Proofs.YtokaeiahhmaokaaDoor.ds
namespace Go.Proofs.YtokaeiahhmaokaaDoor.ds
open Go.ChangeShapes Go.WideShapes Go.ChangeAt Go.RowKit Go.Sort
set_option linter.unusedVariables false
set_option linter.unusedSimpArgs false
/-- a write put ahead of the first whose dot is above its own -/
def insE (u : E) : List E → List E
  | [] => [u]
  | x :: l => if below u x = true then u :: x :: l else x :: insE u l
theorem insE_length (u : E) : ∀ l, (insE u l).length = l.length + 1
  | [] => rfl
  | y :: l => by
    simp only [insE]
    split
    · simp
    · simp [insE_length u l]
theorem takeE {es : List E} {i : Nat} (hi : i < es.length) : es.take (i + 1) = es.take i ++ [gE es i] := by
  rw [List.take_succ_eq_append_getElem hi, gE_eq _ _ hi]
end Go.Proofs.YtokaeiahhmaokaaDoor.ds
namespace Go.Proofs.YtokaeiahhmaokaaDoor.ds
open Go.ChangeShapes Go.WideShapes Go.ChangeAt Go.RowKit Go.Sort
set_option linter.unusedVariables false
set_option linter.unusedSimpArgs false
/-- what Merge leaves, of the writes as they lie in memory; X: how their contexts read -/
noncomputable def leftE (X : E → List S) (es : List E) (u : E) : List E := es.filter fun t => !cvE (X u) u t
noncomputable def mergeE (X : E → List S) (es : List E) (u : E) : List E := if (leftE X es u).any (fun t => cvE (X t) t u) = true then leftE X es u else insE u (leftE X es u)
theorem leftE_len (X : E → List S) (es : List E) (u : E) : (leftE X es u).length ≤ es.length := List.length_filter_le _ _
theorem mergeE_len (X : E → List S) (es : List E) (u : E) : (mergeE X es u).length ≤ es.length + 1 := by
  have := leftE_len X es u
  unfold mergeE
  split
  · omega
  · rw [insE_length]; omega
theorem leftE_snoc (X : E → List S) (l : List E) (x u : E) : leftE X (l ++ [x]) u = leftE X l u ++ (if cvE (X u) u x = true then [] else [x]) := by
  unfold leftE
  rw [List.filter_append]
  by_cases h : cvE (X u) u x = true
  · simp [h]
  · simp [h]
/-- what Merge answers: the error, the list -/
noncomputable def merr (X : E → List S) (es : List E) (u : E) (lim : Int) : Int := if es.any (fun t => !keq t.k u.k) = true then 50 else if es.any (fun t => deq t u) = true then 0 else if lim < (mergeE X es u).length then 51 else 0
noncomputable def mlist (X : E → List S) (es : List E) (u : E) (lim : Int) : List E := if es.any (fun t => !keq t.k u.k) = true then [] else if es.any (fun t => deq t u) = true then es else if lim < (mergeE X es u).length then [] else mergeE X es u
end Go.Proofs.YtokaeiahhmaokaaDoor.ds
