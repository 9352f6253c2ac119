import Derived.Test.YtmdjjigiipboaaaDoorG1
namespace Go.Proofs.YtmdjjigiipboaaaDoor.ds
open Go.ChangeShapes Go.WideShapes Go.ChangeAt Go.RowKit
set_option linter.unusedVariables false
set_option linter.unusedSimpArgs false
def flatD (ds : List (Int × Int)) : List Value := ds.flatMap fun d => [.int .i64 d.1, .int .i64 d.2]
theorem flatD_length (ds : List (Int × Int)) : (flatD ds).length = ds.length * 2 := by
  induction ds with
  | nil => rfl
  | cons e l ih => simp only [flatD, List.flatMap_cons, List.length_append, List.length_cons, List.length_nil] at *; omega
theorem flatD_get (ds : List (Int × Int)) : ∀ (k : Nat), k < ds.length → (flatD ds)[k * 2]? = some (.int .i64 (ds.getD k (0, 0)).1) ∧ (flatD ds)[k * 2 + 1]? = some (.int .i64 (ds.getD k (0, 0)).2) := by
  induction ds with
  | nil => intro k hk; simp at hk
  | cons e l ih =>
    intro k hk
    match k with
    | 0 => exact ⟨rfl, rfl⟩
    | k + 1 =>
      have := ih k (by simpa using hk)
      rw [show (k + 1) * 2 = k * 2 + 2 from by omega]
      exact this
theorem flatD_snoc (ds : List (Int × Int)) (a b : Int) : flatD ds ++ [.int .i64 a, .int .i64 b] = flatD (ds ++ [(a, b)]) := by simp [flatD]
structure OwnD (w w' : World) (p : Option Addr) (n cap : Nat) (ds : List (Int × Int)) : Prop where
  len : n = ds.length
  own : w'.ownsRow 0 35 2 (.slice p n cap) n (flatD ds)
  new : ∀ b, (Value.slice p n cap).ownBlock = some b → w.heap.size ≤ b
  ap : Apart [] w w'
theorem OwnD.kept {w w' w2 : World} {p : Option Addr} {n cap : Nat} {ds : List (Int × Int)} (h : OwnD w w' p n cap ds) (a : Apart [] w' w2) : OwnD w w2 p n cap ds := ⟨h.len, own_apart h.own a (by simp), h.new, h.ap.trans a⟩
theorem OwnD.LD {w w' : World} {p : Option Addr} {n cap : Nat} {ds : List (Int × Int)} (h : OwnD w w' p n cap ds) (hl : n ≤ 1000) : LD w' p n ds := by
  refine ⟨h.len.symm, by omega, fun h0 => ?_⟩
  obtain ⟨hl2, ⟨hv, hz⟩ | ⟨G, cap', cur, hv, hb, hr, hle, _⟩⟩ := id h.own
  · omega
  · simp only [Value.slice.injEq] at hv
    obtain ⟨rfl, _, rfl⟩ := hv
    refine ⟨G, 0, rfl, lt_of_heap hr, fun i hi => ?_⟩
    have hlen := h.len
    obtain ⟨c0, c1⟩ := flatD_get ds i (by omega)
    rw [Nat.zero_add]
    have hfl := flatD_length ds
    exact ⟨by rw [h.own.cellAt _ (by omega)]; exact c0, by rw [h.own.cellAt _ (by omega)]; exact c1⟩
theorem own_typ {w : World} {base : Nat} {e : TypeId} {size : Nat} {v : Value} {n : Nat} {xs : List Value} (h : w.ownsRow base e size v n xs) {k : Nat} (hk : v.ownBlock = some k) : ∃ cur, w.heap[k]? = some (.cells cur e (0, 0)) := by
  obtain ⟨hl, ⟨hv, hz⟩ | ⟨g, cap, cur, rfl, hb, hr, hrest⟩⟩ := h
  · subst hv; cases hk
  · simp [Value.ownBlock] at hk; subst hk; exact ⟨cur, hr⟩
theorem Own.keptX' {w w' w2 : World} {p : Option Addr} {n cap : Nat} {xs : List S} {X : List Nat} (h : Own w w' p n cap xs) (a : Apart X w' w2) (h1 : ∀ k, (Value.slice p n cap).ownBlock = some k → k ∉ X) (h2 : ∀ x ∈ X, w.heap.size ≤ x) : Own w w2 p n cap xs := ⟨h.len, own_apart h.own a h1, h.new, h.ap.trans' a (fun y hy => .inr (h2 y hy))⟩
theorem info35b : (Tryd.prog.info? 35).map (fun i => (i.zero, i.size, i.bytes)) = some (some (.agg #[.int .i64 0, .int .i64 0]), 2, 16) := by kernel_rfl
/-- a dot more; the set beside it stays -/
theorem ownd_append {w W : World} {p ps : Option Addr} {n cap ns cs : Nat} {ds : List (Int × Int)} {xs : List S} (h : OwnD w W p n cap ds) (s : Own w W ps ns cs xs) (hn : n ≤ 1000) (ty : TypeId) (ad : Addr) (a b : Int) (h0 : W.cell? (ad.add 0) = some (.int .i64 a)) (h1 : W.cell? (ad.add 1) = some (.int .i64 b)) :
    ∃ p' cap' w', (Builtin.append_ #[30, 30] ty #[.slice p n cap, .slice (some ad) 1 1]).run Tryd.prog W = .ok (.slice p' (n + 1) cap') w' ∧ OwnD w w' p' (n + 1) cap' (ds ++ [(a, b)]) ∧ Own w w' ps ns cs xs := by
  obtain ⟨i0, hi, hz0, hz1, hz2⟩ := info_parts info35b
  obtain ⟨v', w', hrun, r1, r2, r3⟩ := run_append2 W 30 ty 35 i0 (.agg #[.int .i64 0, .int .i64 0]) 2 16 Tryd.underlying30 hi hz0 hz1 hz2 rfl (by decide) (.slice p n cap) n (flatD ds) h.own ad 1 1 [.int .i64 a, .int .i64 b] (by decide) rfl
    (by
      intro j u hj
      match j, hj with
      | 0, hj => simp at hj; subst hj; exact h0
      | 1, hj => simp at hj; subst hj; exact h1)
    (by intro u hu; simp at hu; rcases hu with rfl | rfl <;> rfl) (by unfold maxLen; omega) (by omega)
  rw [flatD_snoc] at r1
  have hs : ∃ p' cap', v' = .slice p' (n + 1) cap' := by
    obtain ⟨_, ⟨_, hz⟩ | ⟨g, cap', cur, rfl, _⟩⟩ := id r1
    · omega
    · exact ⟨_, _, rfl⟩
  obtain ⟨p', cap', rfl⟩ := hs
  have ag := apart_grown r2
  refine ⟨p', cap', w', hrun, ⟨by simp [h.len], r1, fun b hb => ?_, h.ap.trans' ag (fun y hy => .inr (h.new y (by simpa using hy)))⟩, s.keptX' ag (fun k hk hm => ?_) (fun y hy => h.new y (by simpa using hy))⟩
  · rcases r3 with r3 | ⟨k, r3, hk⟩
    · exact h.new b (r3.symm.trans hb)
    · rw [r3] at hb; cases hb; exact Nat.le_trans h.ap.size hk
  · have hm' : (Value.slice p n cap).ownBlock = some k := by simpa using hm
    obtain ⟨c1, e1⟩ := own_typ s.own hk
    obtain ⟨c2, e2⟩ := own_typ h.own hm'
    rw [e1] at e2; simp at e2
/-- what holds behind each dot -/
structure GInv (w wr : World) (ps : Option Addr) (ns cs : Nat) (xs : List S) (pl : Option Addr) (nl cl : Nat) (ds : List (Int × Int)) (gap : Int) (i : Nat) : Prop where
  os : Own w wr ps ns cs xs
  ol : OwnD w wr pl nl cl ds
  ok : OkL gap xs
  mm : ∀ n : Nat, n < 8 → ∀ c : Int, 1 ≤ c → memb ds n c = dot (ofn xs n) c
  val : ∀ d ∈ ds, (0 ≤ d.1 ∧ d.1 < 8) ∧ 1 ≤ d.2 ∧ d.2 ≤ 200
  tt : tot xs = ds.length
  le : ds.length ≤ i
theorem GInv.kept {w wr w2 : World} {ps : Option Addr} {ns cs : Nat} {xs : List S} {pl : Option Addr} {nl cl : Nat} {ds : List (Int × Int)} {gap : Int} {i : Nat} (h : GInv w wr ps ns cs xs pl nl cl ds gap i) (a : Apart [] wr w2) : GInv w w2 ps ns cs xs pl nl cl ds gap i := { h with os := h.os.kept a, ol := h.ol.kept a }
theorem withc_same {x : S} {c : Int} (hx : Wf x) (hc : 1 ≤ c) (h64 : c ≤ x.b + 64) (h : dot x c = true) : withc x c = x :=
  ext (withc_n x c) (withc_wf hx h64) hx fun e he => by
    rw [withc_dot hc e he]
    by_cases h1 : e = c
    · subst h1; simp [h]
    · simp [h1]
def addF2 (xs : List S) (dn dc : Int) (j : Nat) : S := if (j : Int) = dn then withc (ofn xs dn) dc else ofn xs j
theorem sum_one {F G : Nat → S} {d e : Nat} : ∀ k, (∀ j, j < k → j ≠ d → F j = G j) → (cnt (F d) = cnt (G d) + e) → sumF F k = sumF G k + (if d < k then e else 0)
  | 0, _, _ => by simp [sumF]
  | k + 1, h, hc => by
    have ih := sum_one k (fun j hj hd => h j (by omega) hd) hc
    simp only [sumF]
    by_cases hk : k = d
    · subst hk
      rw [ih, hc, if_neg (by omega), if_pos (by omega)]; omega
    · rw [ih, h k (by omega) hk]
      by_cases h1 : d < k
      · rw [if_pos h1, if_pos (by omega)]; omega
      · rw [if_neg h1, if_neg (by omega)]; omega
theorem tot_addl {gp : Int} {xs : List S} (k : OkL gp xs) (h0 : 1 ≤ gp) (hg : gp ≤ 64) (dn : Nat) (hdn : dn < 8) (dc : Int) (hc : 1 ≤ dc) (hcg : dc ≤ (ofn xs dn).b + gp) : tot (addl xs dn dc) = tot xs + (if dot (ofn xs dn) dc then 0 else 1) := by
  have wf := k.wf (by omega : 0 ≤ gp) hg (dn : Int)
  rw [tot_eq k (by omega) hg]
  show tot (gath (addF2 xs dn dc) 8) = _
  rw [tot_gath]
  have hs := sum_one (F := addF2 xs dn dc) (G := fun j => ofn xs j) (d := dn) (e := if dot (ofn xs dn) dc then 0 else 1) 8 (fun j _ hd => by
    unfold addF2; rw [if_neg (by omega)]) (by
    unfold addF2
    rw [if_pos rfl]
    cases hdot : dot (ofn xs dn) dc
    · rw [cnt_withc wf hc (by omega) hdot]; simp
    · rw [withc_same wf hc (by omega) hdot]; simp)
  rw [if_pos hdn] at hs
  exact hs
theorem addl_okb {gp : Int} {xs : List S} (k : OkL gp xs) (h0 : 1 ≤ gp) (hg : gp ≤ 64) (dn : Nat) (dc : Int) (hc : 1 ≤ dc ∧ dc ≤ 1048576) (hcg : dc ≤ (ofn xs dn).b + gp) : OkL gp (addl xs dn dc) := by
  show OkL gp (gath (addF2 xs dn dc) 8)
  refine gath_ok (fun j _ => ?_) (fun j => ?_) 8 (by omega)
  · unfold addF2
    split
    · rename_i h
      rw [h]
      exact withc_okn (k.okn (by omega) hg dn) hg hc.1 hc.2 hcg
    · exact k.okn (by omega) hg j
  · unfold addF2
    split
    · rename_i h; rw [withc_n, ofn_n, h]
    · exact ofn_n xs j
theorem ofn_addl (xs : List S) (dn : Nat) (dc : Int) (n : Nat) (hn : n < 8) : ofn (addl xs dn dc) n = addF2 xs dn dc n := by
  have := ofn_gath (F := addF2 xs dn dc) (fun j => by
    unfold addF2
    split
    · rename_i h; rw [withc_n, ofn_n, h]
    · exact ofn_n xs j) n 8
  rw [if_pos hn] at this
  exact this
theorem dot_addl (xs : List S) (dn : Nat) (dc : Int) (hc : 1 ≤ dc) (n : Nat) (hn : n < 8) (c : Int) (h1 : 1 ≤ c) : dot (ofn (addl xs dn dc) n) c = (dot (ofn xs n) c || decide ((dn : Int) = n ∧ dc = c)) := by
  rw [ofn_addl xs dn dc n hn]
  unfold addF2
  by_cases hnd : (n : Int) = dn
  · rw [if_pos hnd, withc_dot hc c h1, hnd]
    congr 1
    rw [decide_eq_decide]
    constructor
    · intro h; exact ⟨rfl, h.symm⟩
    · rintro ⟨_, h⟩; exact h.symm
  · rw [if_neg hnd, decide_eq_false (fun h => hnd h.1.symm), Bool.or_false]
/-- the dot was there -/
theorem GInv.again {w wr w2 : World} {ps p2 : Option Addr} {ns cs n2 c2 : Nat} {xs : List S} {pl : Option Addr} {nl cl : Nat} {ds : List (Int × Int)} {gap : Int} {i : Nat} (h : GInv w wr ps ns cs xs pl nl cl ds gap i) (a : Apart [] wr w2) (dn : Nat) (hdn : dn < 8) (dc : Int) (hc : 1 ≤ dc ∧ dc ≤ 200) (hg : 1 ≤ gap ∧ gap ≤ 64) (hcg : dc ≤ (ofn xs dn).b + gap) (own : Own w w2 p2 n2 c2 (addl xs dn dc)) (hd : dot (ofn xs dn) dc = true) : GInv w w2 p2 n2 c2 (addl xs dn dc) pl nl cl ds gap (i + 1) := by
  refine ⟨own, h.ol.kept a, addl_okb h.ok hg.1 hg.2 dn dc ⟨hc.1, by omega⟩ hcg, fun n hn c h1 => ?_, h.val, ?_, by have := h.le; omega⟩
  · rw [dot_addl xs dn dc hc.1 n hn c h1, h.mm n hn c h1]
    by_cases h2 : (dn : Int) = n ∧ dc = c
    · have e : dn = n := by omega
      obtain ⟨_, rfl⟩ := h2
      subst e
      rw [hd]; rfl
    · rw [decide_eq_false h2, Bool.or_false]
  · rw [tot_addl h.ok hg.1 hg.2 dn hdn dc hc.1 hcg, hd, h.tt]; rfl
/-- the dot is new -/
theorem GInv.more {w wr w2 : World} {ps p2 p3 : Option Addr} {ns cs n2 c2 c3 : Nat} {xs : List S} {pl : Option Addr} {nl cl : Nat} {ds : List (Int × Int)} {gap : Int} {i : Nat} (h : GInv w wr ps ns cs xs pl nl cl ds gap i) (dn : Nat) (hdn : dn < 8) (dc : Int) (hc : 1 ≤ dc ∧ dc ≤ 200) (hg : 1 ≤ gap ∧ gap ≤ 64) (hcg : dc ≤ (ofn xs dn).b + gap) (own : Own w w2 p2 n2 c2 (addl xs dn dc)) (ol : OwnD w w2 p3 (nl + 1) c3 (ds ++ [((dn : Int), dc)])) (hd : dot (ofn xs dn) dc = false) : GInv w w2 p2 n2 c2 (addl xs dn dc) p3 (nl + 1) c3 (ds ++ [((dn : Int), dc)]) gap (i + 1) := by
  refine ⟨own, ol, addl_okb h.ok hg.1 hg.2 dn dc ⟨hc.1, by omega⟩ hcg, fun n hn c h1 => ?_, fun d hd => ?_, ?_, by have := h.le; simp; omega⟩
  · rw [dot_addl xs dn dc hc.1 n hn c h1, ← h.mm n hn c h1]
    simp [memb]
  · simp only [List.mem_append, List.mem_singleton] at hd
    rcases hd with hd | rfl
    · exact h.val d hd
    · exact ⟨⟨by show (0 : Int) ≤ dn; omega, by show (dn : Int) < 8; omega⟩, hc⟩
  · rw [tot_addl h.ok hg.1 hg.2 dn hdn dc hc.1 hcg, hd, h.tt]; simp
theorem GInv.has {w wr : World} {ps : Option Addr} {ns cs : Nat} {xs : List S} {pl : Option Addr} {nl cl : Nat} {ds : List (Int × Int)} {gap : Int} {i : Nat} (h : GInv w wr ps ns cs xs pl nl cl ds gap i) (hg : 1 ≤ gap ∧ gap ≤ 64) (n c : Int) : hasv xs n c = memb ds n c := by
  by_cases hn : 0 ≤ n ∧ n < 8
  · obtain ⟨m, rfl⟩ := Int.eq_ofNat_of_zero_le hn.1
    by_cases hc : 1 ≤ c
    · rw [h.mm m (by omega) c hc]
      unfold hasv
      rw [decide_eq_true hn]
      by_cases hM : c ≤ 1048576
      · rw [decide_eq_true ⟨hc, hM⟩]; rfl
      · rw [decide_eq_false (fun hh => hM hh.2)]
        have mx := (h.ok.okn (by omega : 0 ≤ gap) hg.2 (m : Int)).mx
        rw [(top_le (base_le_top _)).1 (Int.le_refl _) c (by omega)]; rfl
    · have e : memb ds m c = false := by
        unfold memb
        rw [List.any_eq_false]
        intro d hd
        have := (h.val d hd).2
        simp; intro _; omega
      rw [e]
      unfold hasv
      rw [decide_eq_false (p := 1 ≤ c ∧ c ≤ 1048576) (fun hh => hc hh.1)]; simp
  · have e : memb ds n c = false := by
      unfold memb
      rw [List.any_eq_false]
      intro d hd
      have := (h.val d hd).1
      simp; intro he; omega
    rw [e]
    unfold hasv
    rw [decide_eq_false hn]; simp
end Go.Proofs.YtmdjjigiipboaaaDoor.ds
