import Derived.Test.YtopmhacnopfifaaNAll
import Derived.Laws.EntriesVeiled
import Derived.Deep.CutRange
namespace Go.Proofs.Ytopmhacnopfifaa.nm
open Go.ChangeShapes Go.WideShapes Go.ChangeAt Go.RowKit
set_option linter.unusedVariables false
def ec2 (e : E) : List Value := [.string e.r, .slice e.m.p e.m.n e.m.c]
def flat2 (es : List E) : List Value := es.flatMap ec2
theorem flat2_length (es : List E) : (flat2 es).length = es.length * 2 := by
  induction es with
  | nil => rfl
  | cons e l ih => simp only [flat2, List.flatMap_cons, List.length_append, List.length_cons] at *; simp only [ec2, List.length_cons, List.length_nil]; omega
theorem flat2_get (es : List E) : ∀ (k : Nat), k < es.length → (flat2 es)[k * 2]? = some (.string (g es k).r) ∧ (flat2 es)[k * 2 + 1]? = some (.slice (g es k).m.p (g es k).m.n (g es k).m.c) := by
  induction es with
  | nil => intro k hk; simp at hk
  | cons e l ih =>
    intro k hk
    match k with
    | 0 => exact ⟨rfl, rfl⟩
    | k + 1 =>
      have := ih k (by simpa using hk)
      rw [show (k + 1) * 2 = k * 2 + 2 from by omega]
      exact this
theorem flat2_set (es : List E) (e : E) : ∀ (k : Nat), flat2 (es.set k e) = ((flat2 es).set (k * 2) (.string e.r)).set (k * 2 + 1) (.slice e.m.p e.m.n e.m.c) := by
  induction es with
  | nil => intro k; simp [flat2]
  | cons x l ih =>
    intro k
    match k with
    | 0 => rfl
    | k + 1 =>
      have := ih k
      rw [show (k + 1) * 2 = k * 2 + 2 from by omega]
      show ec2 x ++ flat2 (l.set k e) = _
      rw [this]; rfl
theorem madeZ2 (n : Nat) : madeCells #[.string ⟨#[]⟩, .slice none 0 0] (n * 2) = (flat2 (zs n)).toArray := by
  apply Array.ext
  · simp [madeCells, flat2_length, zs]
  · intro i h1 h2
    have hi : i < n * 2 := by simpa [madeCells] using h1
    have h3 : i % 2 = 0 ∨ i % 2 = 1 := by omega
    have key := flat2_get (zs n) (i / 2) (by simp [zs]; omega)
    have hz : nm.g (zs n) (i / 2) = z := by simp [nm.g, zs, List.getD_eq_getElem?_getD, List.getElem?_replicate]; split <;> rfl
    rw [hz] at key
    have h2' : i < (flat2 (zs n)).length := by simpa using h2
    have e2 : (flat2 (zs n))[i]? = some ((madeCells #[.string ⟨#[]⟩, .slice none 0 0] (n * 2))[i]) := by
      rcases h3 with h | h
      · rw [show (madeCells #[Value.string ⟨#[]⟩, .slice none 0 0] (n * 2))[i] = .string ⟨#[]⟩ from by simp [madeCells, h]]
        have k1 := key.1
        rw [show i / 2 * 2 = i from by omega] at k1
        exact k1
      · rw [show (madeCells #[Value.string ⟨#[]⟩, .slice none 0 0] (n * 2))[i] = .slice none 0 0 from by simp [madeCells, h]]
        have k1 := key.2
        rw [show i / 2 * 2 + 1 = i from by omega] at k1
        exact k1
    rw [List.getElem?_eq_getElem h2'] at e2
    simpa using (Option.some.inj e2).symm
theorem info28 : (Try.prog.info? 72).map (fun i => (i.zero, i.size, i.bytes)) = some (some (.agg #[.string ⟨#[]⟩, .slice none 0 0]), 2, 40) := by kernel_rfl
theorem make_items (w : World) (n : Nat) (h2 : n ≤ 4000000) : Sem.run Try.prog (Instr.makeSlice 80 (Value.int .i64 n) (Value.int .i64 n)) w = .ok (.slice (some ⟨w.heap.size, 0, none⟩) n n) (w.alloc (.cells (flat2 (zs n)).toArray 72)) := by
  obtain ⟨i, hi, hz0, hz1, hz2⟩ := info_parts info28
  have := run_make (P := Try.prog) w 80 72 i _ Try.underlying80 hi hz0 .i64 .i64 n n (by omega) (by omega) (by rw [hz2]; omega) (by omega)
  rw [this, hz1]
  simp only [Int.toNat_natCast]
  rw [show (Value.agg #[Value.string ⟨#[]⟩, .slice none 0 0]).cells = #[.string ⟨#[]⟩, .slice none 0 0] from rfl, madeZ2]
set_option maxRecDepth 100000 in
theorem field51 (W : World) (a b c : Value) : Sem.run Try.prog (Instr.field 117 (.agg #[a, b, c]) 0) W = .ok (.agg #[a, b]) W := by
  first | rfl | kernel_rfl
section
variable {F : Value} {C : List (Nat × Int)} {R : E → E → Bool → Prop}
theorem clone_any (w : World) (es : List E) (v : Value) (h : w.ownsRow 0 117 3 v es.length (flat es)) (hl : es.length ≤ 4000000) (N : Nat) (hN : es.length = N) :
    Calls Try.prog 59 #[v] w fun r w' => ∃ p c, r = .returned (.slice p N c) ∧ w'.ownsRow 0 117 3 (.slice p N c) es.length (flat es) ∧ (∀ k, (Value.slice p N c).ownBlock = some k → w.heap.size ≤ k) ∧ Apart [] w w' := by
  subst hN
  have h' := h
  obtain ⟨hx, ⟨rfl, hz⟩ | ⟨G, cap, cur, rfl, _⟩⟩ := h
  · refine (clone_nil w).mono ?_
    rintro r w' ⟨rfl, rfl⟩
    exact ⟨none, 0, by rw [hz], by rw [hz] at h' ⊢; exact h', by simp [Value.ownBlock], Apart.refl _ _⟩
  · refine (clone_some w es G cap h' hl).mono ?_
    rintro r w' ⟨k, c, rfl, ho, hk, a⟩
    exact ⟨_, _, rfl, ho, by simp [Value.ownBlock]; omega, a⟩
/-- the heap of which the row is read off -/
theorem At.copy {w w' : World} {H : Nat} {v v' : Value} {es : List E} {n : Nat} (h : At w H F C v es n) (a : Apart [] w w') (own : w'.ownsRow 0 117 3 v' es.length (flat es)) : At (w'.alloc (.cells #[F, v', .int .i64 0] 110)) w'.heap.size F C v' es 0 :=
  ⟨heap_alloc_new w' _, own.alloc _, fun b hb => by
    have h1 := (a.block b.1 (lt_of_heap (h.hc b hb)) (by simp)).trans (h.hc b hb)
    rw [Below.heap_alloc _ _ _ (lt_of_heap h1)]; exact h1, by omega, h.hl⟩
structure T3 (R : E → E → Bool → Prop) (F : Value) (C : List (Nat × Int)) (w wr : World) (H B N : Nat) (es : List E) (j : Nat) (v : Value) (ps rs : List E) : Prop where
  hj : j ≤ N
  pl : ps.length = j
  rl : rs.length = N - j
  at_ : At wr H F C v rs 0
  hv : ∀ k, v.ownBlock = some k → w.heap.size ≤ k
  own : wr.ownsRow 0 72 2 (.slice (some ⟨B, 0, none⟩) N N) N (flat2 (ps ++ zs (N - j)))
  perm : (ps ++ rs).Perm es
  srt : ∀ A, Fits R A → Hp A es → Hp A rs ∧ Srt A ps rs
  ap : Apart [] w wr
def put2 (w : World) (G k : Nat) (e : E) : World := (w.setCell ⟨G, k * 2, none⟩ (.string e.r)).setCell ⟨G, k * 2 + 1, none⟩ (.slice e.m.p e.m.n e.m.c)
theorem put2_apart (w : World) (G k : Nat) (e : E) : Apart [G] w (put2 w G k e) := ((Apart.refl _ _).setCell (by simp) _).setCell (by simp) _
theorem T3.neB {w wr : World} {H B N : Nat} {es : List E} {j : Nat} {v : Value} {ps rs : List E} (h : T3 R F C w wr H B N es j v ps rs) : B ∉ ids H v ∧ ∀ b ∈ C, b.1 ≠ B := by
  obtain ⟨cur, hb⟩ := own_typ h.own (k := B) rfl
  refine ⟨fun m => ?_, fun b hb2 e => ?_⟩
  · simp [ids] at m
    rcases m with m | m
    · rw [m, h.at_.hh] at hb; simp at hb
    · obtain ⟨cur2, h2⟩ := own_typ h.at_.own m
      rw [hb] at h2; simp at h2
  · have := h.at_.hc b hb2
    rw [e, hb] at this; simp at this
theorem T3.step {w wr w2 : World} {H G cap B N : Nat} {es : List E} {j : Nat} {ps rs cs : List E} (h : T3 R F C w wr H B N es j (.slice (some ⟨G, 0, none⟩) (N - (j + 1) + 1) cap) ps rs) (hj : j < N) (hH : w.heap.size ≤ H) (hB : w.heap.size ≤ B)
    (hcl : cs.length = N - (j + 1)) (at2 : At w2 H F C (.slice (some ⟨G, 0, none⟩) (N - (j + 1)) cap) cs 0) (perm2 : (g rs 0 :: cs).Perm rs) (hp2 : ∀ A, Fits R A → Hp A rs → Hp A cs) (a2 : Apart [H, G] wr w2) :
    T3 R F C w (put2 w2 B j (g rs 0)) H B N es (j + 1) (.slice (some ⟨G, 0, none⟩) (N - (j + 1)) cap) (ps ++ [g rs 0]) cs := by
  have ap3 := put2_apart w2 B j (g rs 0)
  have hnB := h.neB
  simp [ids, Value.ownBlock] at hnB
  have own2 := own_apart h.own a2 (fun q hq hm => by simp [Value.ownBlock] at hq hm; omega)
  have own3 := (own2.stored (j * 2) (.string (g rs 0).r)).1.stored (j * 2 + 1) (.slice (g rs 0).m.p (g rs 0).m.n (g rs 0).m.c)
  refine ⟨by omega, by simp [h.pl], hcl, at2.kept ap3 ?_, fun k hk => h.hv k hk, ?_, ?_, fun A f nm => ?_, ?_⟩
  · intro q hq
    simp at hq
    subst hq
    exact ⟨by omega, by simp [Value.ownBlock]; omega, fun b hb => hnB.2 b.1 b.2 hb⟩
  · have := own3.1
    rw [← flat2_set, set_zs ps _ N j h.pl hj] at this
    exact this
  · refine List.Perm.trans ?_ h.perm
    rw [List.append_assoc]
    exact List.Perm.append_left ps perm2
  · obtain ⟨h1, h2⟩ := h.srt A f nm
    exact ⟨hp2 A f h1, h2.step f.1 h1 (by rw [h.rl]; omega) perm2⟩
  · have hG := h.hv G rfl
    exact (h.ap.trans' a2 (by simp; omega)).trans' ap3 (by simp; omega)
structure AllPost (R : E → E → Bool → Prop) (w w' : World) (B N : Nat) (es l : List E) : Prop where
  own : w'.ownsRow 0 72 2 (.slice (some ⟨B, 0, none⟩) N N) N (flat2 l)
  hB : w.heap.size ≤ B
  len : l.length = N
  perm : l.Perm es
  srt : ∀ A, Fits R A → Hp A es → Srt A l []
  ap : Apart [] w w'
set_option maxHeartbeats 1000000 in
theorem all_at {kf : Nat} {cf : Array Value} (K : Kind (.func (.func kf) #[] cf) C R) (w : World) (H : Nat) (v : Value) (N n : Nat) (es : List E) (h : At w H (.func (.func kf) #[] cf) C v es n) (hN : es.length = N) :
    Calls Try.prog 35 #[.pointer (some ⟨H, 0, none⟩)] w fun r w' => ∃ B l, r = .returned (.slice (some ⟨B, 0, none⟩) N N) ∧ AllPost R w w' B N es l := by
  have c0 := h.c0
  have c1 := h.c1
  have hHs := lt_of_heap h.hh
  have hl := h.hl
  obtain ⟨p, cap, hv⟩ := h.shape0
  rw [hN] at hv hl
  subst hv
  have HN : Hid (es.length = N) := hN
  clear hN
  go_enter Try.func35, Try.ntmps35
  go_wp2_with fail
  go_cut [3] from 6 to 15 (fun s wc => ∃ H2 p2 k2, s = .pointer (some ⟨H2, 0, none⟩) ∧ At wc H2 (.func (.func kf) #[] cf) C (.slice p2 N k2) es 0 ∧ w.heap.size ≤ H2 ∧ (∀ k, (Value.slice p2 N k2).ownBlock = some k → w.heap.size ≤ k) ∧ Apart [] w wc)
  case first =>
    go_region_with (first | (go_at_call 59; refine (clone_any ((w.alloc (.cells #[.nilFunc, .slice none 0 0, .int .i64 0] 110)).drewN 1) es _ (h.kept0 (((Apart.refl _ _).alloc _).drewN 1)).own (by rw [HN.out]; exact hl) N HN.out).mono ?_; rintro r w2 ⟨p2, k2, rfl, own2, hn2, a2⟩; have l0 := ((h.kept0 (((Apart.refl [] w).alloc (.cells #[.nilFunc, .slice none 0 0, .int .i64 0] 110)).drewN 1)).kept0 a2).c0; have bQ := (a2.block w.heap.size (by simp) (by simp)).trans (heap_alloc_new w (.cells #[.nilFunc, .slice none 0 0, .int .i64 0] 110)); have q0 := cell_of_row w2 w.heap.size 0 _ _ _ bQ; have q1 := cell_of_row w2 w.heap.size 1 _ _ _ bQ; have q2 := cell_of_row w2 w.heap.size 2 _ _ _ bQ; have f0 := frozen_of_row w2 w.heap.size 0 _ _ bQ; have f1 := frozen_of_row w2 w.heap.size 1 _ _ bQ; have f2 := frozen_of_row w2 w.heap.size 2 _ _ bQ; simp only [List.getElem?_toArray, List.getElem?_cons_zero, List.getElem?_cons_succ] at q0 q1 q2) | (go_at_call 59; refine (clone_any (w.drewN 1) es _ (h.kept0 ((Apart.refl _ _).drewN 1)).own (by rw [HN.out]; exact hl) N HN.out).mono ?_; rintro r w2 ⟨p2, k2, rfl, own2, hn2, a2⟩; have l0 := ((h.kept0 ((Apart.refl [] w).drewN 1)).kept0 a2).c0; have hH2 : H < w2.heap.size := Nat.lt_of_lt_of_le hHs a2.size; have aD : Apart [] w w2 := ((Apart.refl [] w).drewN 1).trans a2))
    all_goals
      go_wp2_with fail
      go_meet
    all_goals first
      | exact ⟨w2.heap.size, p2, k2, rfl, h.copy aD own2, Nat.le_trans (show w.heap.size ≤ (w.drewN 1).heap.size from Nat.le_refl _) a2.size, hn2, aD.alloc _⟩
      | (refine ⟨w.heap.size, p2, k2, rfl, ?_, Nat.le_refl _, fun k hk => Nat.le_trans (by simp) (hn2 k hk), ?_⟩
         · have a3 := ((((Apart.refl [w.heap.size] w2).setCell (p := ⟨w.heap.size, 0, none⟩) (by simp) (.func (.func kf) #[] cf)).setCell (p := ⟨w.heap.size, 1, none⟩) (by simp) (.slice p2 N k2)).setCell (p := ⟨w.heap.size, 2, none⟩) (by simp) (.int .i64 0))
           have aw : Apart [] w w2 := (((Apart.refl [] w).alloc (.cells #[.nilFunc, .slice none 0 0, .int .i64 0] 110)).drewN 1).trans a2
           refine ⟨row3 bQ _ _ _, own_apart own2 a3 (fun k hk hm => ?_), fun b hb => ?_, by omega, by rw [HN.out]; exact hl⟩
           · have := hn2 k hk; simp at this hm; omega
           · have h1 := h.hc b hb
             have hlt := lt_of_heap h1
             exact (a3.block _ (Nat.lt_of_lt_of_le hlt aw.size) (by simp; omega)).trans ((aw.block _ hlt (by simp)).trans h1)
         · have a3 := ((((Apart.refl [w.heap.size] w2).setCell (p := ⟨w.heap.size, 0, none⟩) (by simp) (.func (.func kf) #[] cf)).setCell (p := ⟨w.heap.size, 1, none⟩) (by simp) (.slice p2 N k2)).setCell (p := ⟨w.heap.size, 2, none⟩) (by simp) (.int .i64 0))
           have aw : Apart [] w w2 := (((Apart.refl [] w).alloc (.cells #[.nilFunc, .slice none 0 0, .int .i64 0] 110)).drewN 1).trans a2
           exact aw.trans' a3 (by simp))
  case rest =>
    obtain ⟨H2, p2, k2, rfl, at2, hH2, hn2, aw⟩ := hcut
    have d1 := (h.kept0 aw).c1
    have hrun := make_items wc N hl
    obtain ⟨Z, hZ⟩ : ∃ Z, Z = (flat2 (zs N)).toArray := ⟨_, rfl⟩
    rw [← hZ] at hrun
    have inv0 : T3 R (.func (.func kf) #[] cf) C w (wc.alloc (.cells Z 72)) H2 wc.heap.size N es 0 (.slice p2 N k2) [] es := by
      refine ⟨Nat.zero_le _, rfl, HN.out, at2.kept0 ((Apart.refl _ _).alloc _), hn2, ?_, List.Perm.refl _, fun A f x => ⟨x, List.Pairwise.nil, by simp⟩, aw.alloc _⟩
      have := World.ownsRow_lit (base := 0) (e := 72) (size := 2) wc Z N (Nat.zero_le _) (by unfold maxLen; omega) (by rw [hZ]; simp [flat2_length, zs])
      rw [hZ] at this ⊢
      simpa using this
    have hBw : w.heap.size ≤ wc.heap.size := aw.size
    have hfld : ∀ (W : World) (a b c : Value), Sem.run Try.prog (Instr.field 117 (.agg #[a, b, c]) 0) W = .ok (.agg #[a, b]) W := fun W a b c => field51 W a b c
    clear hZ at2 hn2 aw c0 c1
    go_wp2
    go_loopw [24] (fun x wr => ∃ j : Nat, x = .int .i64 j ∧ ∃ v ps rs, T3 R (.func (.func kf) #[] cf) C w wr H2 wc.heap.size N es j v ps rs) (fun x _ => N - (intOf x).toNat)
    case atStart => exact ⟨0, rfl, _, _, _, inv0⟩
    case round =>
      clear inv0 hrun d1
      obtain ⟨j, rfl, v, ps, rs, inv⟩ := hrel
      have hjN := inv.hj
      by_cases hlt : j < N
      · obtain ⟨G, cp, rfl, hcp⟩ := inv.at_.shape (by rw [inv.rl]; omega)
        have hrl : rs.length = N - (j + 1) + 1 := by rw [inv.rl]; omega
        rw [hrl] at inv
        have hR := remove0 K wr H2 G cp (N - (j + 1)) rs 0 inv.at_ hrl
        have HRL : Hid (rs.length = N - (j + 1) + 1) := hrl
        clear hrl
        go_wp2_with fail
        refine hR.mono ?_
        clear hR
        rintro r w2 ⟨rfl, ⟨cs, hcl, at2, perm2, hp2, a2⟩⟩
        have inv2 := inv.step hlt hH2 hBw hcl at2 perm2 hp2 a2
        have hnB := inv.neB
        simp [ids, Value.ownBlock] at hnB
        have own2 := own_apart inv.own a2 (fun q hq hm => by simp [Value.ownBlock] at hq hm; omega)
        have q0 := own2.cellAt (j * 2) (by omega)
        have q1 := own2.cellAt (j * 2 + 1) (by omega)
        have kk := flat2_get (ps ++ zs (N - j)) j (by rw [List.length_append, inv.pl]; simp [zs]; omega)
        rw [kk.1] at q0
        rw [kk.2] at q1
        have f0 := own2.frozenAt (j * 2)
        have f1 := own2.frozenAt (j * 2 + 1)
        simp only [put2] at inv2
        clear inv kk own2 at2 perm2 hp2 a2 hnB hcl
        go_wp2
        go_roundw
        case rel => exact ⟨j + 1, by go_num, _, _, _, inv2⟩
        case measure => simp [intOf]; omega
      · obtain rfl : j = N := by omega
        have post : AllPost R w wr wc.heap.size j es ps := by
          have hrs : rs = [] := List.length_eq_zero_iff.1 (by rw [inv.rl]; omega)
          have nm := inv.perm
          have ho := inv.own
          rw [Nat.sub_self] at ho
          refine ⟨by simpa [zs] using ho, hBw, inv.pl, by rw [hrs] at nm; simpa using nm, fun A f x => by have := (inv.srt A f x).2; rwa [hrs] at this, inv.ap⟩
        clear inv
        go_wp2
        go_ret
        exact ⟨_, _, rfl, post⟩
end
end Go.Proofs.Ytopmhacnopfifaa.nm
