import Derived.Test.YthmloakkefiicaaRefW
import Derived.Deep.DeepAppendRoom
import Derived.ArgAppend
namespace Go.Proofs.Ythmloakkefiicaa.dk
open Go.ChangeShapes Go.WideShapes Go.ChangeAt Go.RowKit
/-- the row is the old one, or a new one -/
def NewOr (w : World) (v v' : Value) : Prop := v'.ownBlock = v.ownBlock ∨ ∃ k, v'.ownBlock = some k ∧ w.heap.size ≤ k
theorem own_base {w : World} {b c : Nat} {e : TypeId} {size : Nat} {v : Value} {n : Nat} {xs : List Value} (h : w.ownsRow b e size v n xs) (hc : c ≤ b) : w.ownsRow c e size v n xs := by
  obtain ⟨hl, ⟨hv, hz⟩ | ⟨g, cap, cur, rfl, hb, hr⟩⟩ := h
  · exact ⟨hl, .inl ⟨hv, hz⟩⟩
  · exact ⟨hl, .inr ⟨g, cap, cur, rfl, by omega, hr⟩⟩
theorem run_append2 (w : World) (t ty e : TypeId) (i : TypeInfo) (z : Value) (size bytes : Nat) (ht : Try.prog.underlying t = some (.slice e)) (hi : Try.prog.info? e = some i) (hz : i.zero = some z) (hsize : i.size = size) (hby : i.bytes = bytes) (hzs : z.cells.size = size) (hsz : 0 < size)
    (v : Value) (n : Nat) (xs : List Value) (h : w.ownsRow 0 e size v n xs) (ad : Addr) (m c : Nat) (news : List Value) (hm : 0 < m) (hl : news.length = m * size) (hnews : ∀ j u, news[j]? = some u → w.cell? (ad.add j) = some u) (h1 : ∀ u ∈ news, u.oneCell' = true) (h63 : n + m ≤ maxLen) (hb : (n + m) * bytes ≤ 140737488355328) :
    ∃ v' w', (Builtin.append_ #[t, t] ty #[v, .slice (some ad) m c]).run Try.prog w = .ok v' w' ∧ w'.ownsRow 0 e size v' (n + m) (xs ++ news) ∧ w.grownBy w' v.ownBlock ∧ NewOr w v v' := by
  have h0 := h
  obtain ⟨hxl, ⟨rfl, rfl⟩ | ⟨g, cap, cur, rfl, hbb, hr, hle, hrest⟩⟩ := h
  · obtain rfl : xs = [] := by simpa using hxl
    obtain ⟨v', w', hrun, r1, r2, _⟩ := run_append_own (P := Try.prog) w w.heap.size t ty e i z size bytes ht hi hz hsize hby hzs hsz (.slice none 0 0) 0 [] (World.ownsRow_nil w _ e size) ad m c news hl hnews h1 h63 hb (Nat.le_refl _)
    refine ⟨v', w', hrun, own_base r1 (Nat.zero_le _), r2, .inr ?_⟩
    obtain ⟨_, ⟨_, hzz⟩ | ⟨g, cap, cur, rfl, hb2, _⟩⟩ := r1
    · omega
    · exact ⟨g, rfl, hb2⟩
  · by_cases hroom : n + m ≤ cap
    · obtain ⟨w', hrun, r1, r2⟩ := run_append_own_spare (P := Try.prog) w 0 t ty e i size ht hi hsize g n cap xs h0 ad m c news hl hnews h1 hroom
      exact ⟨_, w', hrun, r1, r2, .inl rfl⟩
    · obtain ⟨v', w', hrun, r1, r2⟩ := run_append_arg_grows (P := Try.prog) w t ty e i z size bytes ht hi hz hsize hby hzs hsz ⟨g, 0, none⟩ n cap xs (by omega) (fun j u hu => h0.cells rfl j u hu) ad m c news hl hnews (by omega) h63 hb
      refine ⟨v', w', hrun, own_base r1 (Nat.zero_le _), ⟨r2.os, r2.tape, r2.output, r2.size, fun k hk _ => r2.block k hk (by simp)⟩, .inr ?_⟩
      obtain ⟨_, ⟨_, hzz⟩ | ⟨g', cap', cur', rfl, hb2, _⟩⟩ := r1
      · omega
      · exact ⟨g', rfl, hb2⟩
theorem step_append_own {ops : Array Oper} {o : Oper} {a : Act} {w : World} {K : Act → World → Prop} {Q : Exit → Act → World → Prop} {E : Prop} (hg : o.guard = none) (s x : Operand) (t : TypeId)
    (ho : o.op = .call { callee := .builtin .append, args := #[s, x], argTypes := #[t, t] })
    (e : TypeId) (i : TypeInfo) (z : Value) (size bytes : Nat) (ht : Try.prog.underlying t = some (.slice e)) (hi : Try.prog.info? e = some i) (hz : i.zero = some z)
    (hsize : i.size = size) (hby : i.bytes = bytes) (hzs : z.cells.size = size) (hsz : 0 < size)
    (v : Value) (n : Nat) (xs : List Value) (hs : a.eval s = v) (hown : w.ownsRow 0 e size v n xs)
    (ad : Addr) (m c : Nat) (news : List Value) (hm : 0 < m) (hx : a.eval x = .slice (some ad) m c) (hl : news.length = m * size) (hnews : ∀ j u, news[j]? = some u → w.cell? (ad.add j) = some u) (h1 : ∀ u ∈ news, u.oneCell' = true)
    (h63 : n + m ≤ maxLen) (hbytes : (n + m) * bytes ≤ 140737488355328)
    (h : ∀ v' w', w'.ownsRow 0 e size v' (n + m) (xs ++ news) → w.grownBy w' v.ownBlock → NewOr w v v' → K (a.put o.dst v') w') : if Region.wanted o (yielded ops a.tmps) = true then Oper.wp Try.prog o a w K Q else E := by
  have hw : Region.wanted o (yielded ops a.tmps) = true := by simp [Region.wanted, hg]
  rw [if_pos hw]
  obtain ⟨v', w', hrun, r1, r2, r3⟩ := run_append2 w t o.type e i z size bytes ht hi hz hsize hby hzs hsz v n xs hown ad m c news hm hl hnews h1 h63 hbytes
  unfold Oper.wp
  simp [execOp, ho, resolve, invoke, builtin, hs, hx, hrun, Result.andThen]
  exact h v' w' r1 r2 r3
def New2 (w : World) (v lv lv' : Value) : Prop := (∀ k, v.ownBlock = some k → w.heap.size ≤ k) ∧ (∀ k, lv'.ownBlock = some k → lv.ownBlock = some k ∨ w.heap.size ≤ k)
theorem new2_of {w W : World} {g l c : Nat} {lv lv' : Value} (h : w.heap.size ≤ W.heap.size) (hg : w.heap.size ≤ g) (n : NewOr W lv lv') : New2 w (.slice (some ⟨g, 0, none⟩) l c) lv lv' := by
  refine ⟨fun k hk => ?_, fun k hk => ?_⟩
  · simp [Value.ownBlock] at hk; omega
  · rcases n with n | ⟨k', n, hk'⟩
    · exact .inl (n ▸ hk)
    · rw [n] at hk; cases hk; exact .inr (by omega)
theorem info90 : (Try.prog.info? 90).map (fun i => (i.zero, i.size, i.bytes)) = some (some (.agg #[.int .i64 0, .int .i64 0, .slice none 0 0]), 3, 40) := by kernel_rfl
theorem flat_snoc (l : List Rw) (x : Rw) : l.flatMap wcells ++ wcells x = (l ++ [x]).flatMap wcells := by simp
/-- behind the append of a raw write -/
theorem ref_grown {w W w4 : World} {R : Nat} {r : Rf} (h : RefAt w R r) (aW : Apart [] w W) (gr : W.grownBy w4 r.lv.ownBlock) : w4.heap[R]? = some (.cells (rcells r).toArray 84 (0, 0)) ∧ Apart (r.lv.ownBlock.toList) w w4 := by
  have hW := h.kept aW (by simp) (by simp) (by simp)
  have ap : Apart (r.lv.ownBlock.toList) w w4 := (aW.mono (by simp)).trans (apart_grown gr)
  refine ⟨(ap.block R (lt_of_heap h.hr) (fun hm => ?_)).trans h.hr, ap⟩
  obtain ⟨cur, e⟩ := own_typ h.own (k := R) (by simpa using hm)
  rw [h.hr] at e; simp at e
theorem ref_logged {w W w4 : World} {R : Nat} {r : Rf} (h : RefAt w R r) (aW : Apart [] w W) (gr : W.grownBy w4 r.lv.ownBlock) (x : Rw) (v' : Value) (own4 : w4.ownsRow 0 90 3 v' (r.log.length + 1) (r.log.flatMap wcells ++ wcells x))
    (hx : OwnB W x.v x.bs) (hl : x.bs.length = 512) (hk : x.k ≤ 512) (hs : x.s < r.n) :
    RefAt (w4.setCell ⟨R, 2, none⟩ v') R { r with log := r.log ++ [x], lv := v' } ∧ Apart (R :: r.lv.ownBlock.toList) w (w4.setCell ⟨R, 2, none⟩ v') := by
  obtain ⟨hR, ap⟩ := ref_grown h aW gr
  have hty : ∀ k cur, k ∈ r.lv.ownBlock.toList → w.heap[k]? ≠ some (.cells cur 5 (0, 0)) := by
    intro k cur hk e
    obtain ⟨cur2, e2⟩ := own_typ h.own (k := k) (by simpa using hk)
    rw [e] at e2; simp at e2
  have hW := h.kept aW (by simp) (by simp) (by simp)
  have htyW : ∀ k cur, k ∈ r.lv.ownBlock.toList → W.heap[k]? ≠ some (.cells cur 5 (0, 0)) := by
    intro k cur hk e
    obtain ⟨cur2, e2⟩ := own_typ hW.own (k := k) (by simpa using hk)
    rw [e] at e2; simp at e2
  have ne : ∀ k, v'.ownBlock = some k → k ∉ [R] := by
    intro k hk hm
    simp at hm; subst hm
    obtain ⟨cur, e⟩ := own_typ own4 hk
    rw [hR] at e; simp at e
  have a2 : Apart [R] w4 (w4.setCell ⟨R, 2, none⟩ v') := (Apart.refl _ _).setCell (by simp) v'
  refine ⟨⟨by rw [heap_setCell_same _ _ _ _ _ _ hR]; rfl, (h.hf.apart ap hty).set84 hR, ?_, ?_, h.hn⟩, (ap.mono (by simp +contextual)).trans (a2.mono (by simp))⟩
  · have := own_apart own4 a2 ne
    rw [flat_snoc] at this
    simpa using this
  · intro y hy
    simp at hy
    rcases hy with hy | rfl
    · exact ⟨((h.each y hy).1.apart ap hty).set84 hR, (h.each y hy).2⟩
    · exact ⟨(hx.apart (apart_grown gr) htyW).set84 hR, hl, hk, hs⟩
set_option maxHeartbeats 400000 in
theorem rwrite_whole {w : World} {R : Nat} {r : Rf} (h : RefAt w R r) (m : Nat) (p : Option Addr) (c : Nat) (bs : List Int) (hs : Src w p 512 bs) (ho : r.on = true) (hm : m < r.n) (hlog : r.log.length ≤ 1000000) (hle : r.left < 0) :
    Calls Try.prog 47 #[.pointer (some ⟨R, 0, none⟩), .int .i64 m, .slice p 512 c] w fun e w' => e = .returned (.int .i64 0) ∧ ∃ v lv', RefAt w' R { r with log := r.log ++ [⟨m, 512, bs, v⟩], lv := lv' } ∧ Apart (R :: r.lv.ownBlock.toList) w w' ∧ New2 w v r.lv lv' := by
  have h3 := h.r3
  have h0 := h.r0
  have h4 := h.r4
  rw [ho] at h3
  have hn := h.hn
  have hl4 : (r.left == 0) = false := beq_eq_false_iff_ne.2 (by omega)
  have hbl := hs.hlen
  have HBL : Hid (bs.length = 512) := hbl
  clear hbl
  have hm0 : ¬ ((m : Int) < 0) := by omega
  obtain ⟨i0, hi, hz0, hz1, hz2⟩ := info_parts info90
  go_enter Try.func47, Try.ntmps47
  go_wp2_with fail
  refine (copied_any w p 512 c bs hs (by omega)).mono ?_
  rintro e w1 ⟨v, rfl, hown, a1⟩
  have hr1 := h.kept a1 (by simp) (by simp) (by simp)
  have h14 := hr1.r4
  have h12 := hr1.r2
  have hRl := lt_of_heap hr1.hr
  obtain ⟨lp, lc, hlv⟩ := own_shape hr1.own
  have hownL := hr1.own
  rw [hlv] at hownL h12
  have HLV : Hid (r.lv = .slice lp r.log.length lc) := hlv
  clear hlv
  obtain ⟨g, vc, rfl, hgw⟩ : ∃ g vc, v = .slice (some ⟨g, 0, none⟩) 512 vc ∧ Hid (w.heap.size ≤ g) := by
    obtain ⟨_, ⟨_, hz⟩ | ⟨g, cap, cur, rfl, hb, _⟩⟩ := hown
    · omega
    · exact ⟨g, cap, rfl, hb⟩
  have hownb : OwnB w1 (.slice (some ⟨g, 0, none⟩) 512 vc) bs := by
    show w1.ownsRow 0 5 1 _ bs.length _
    rw [HBL.out]
    obtain ⟨x1, ⟨x2, x3⟩ | ⟨g', cap, cur, x2, _, x4⟩⟩ := hown
    · cases x2
    · exact ⟨x1, .inr ⟨g', cap, cur, x2, Nat.zero_le _, x4⟩⟩
  clear h3 h0 h4 hown
  go_wp2_with fail
  go_region_law (refine step_append_own rfl (.tmp 68) (.tmp 70) 82 rfl 90 i0 (.agg #[.int .i64 0, .int .i64 0, .slice none 0 0]) 3 40 Try.underlying82 hi hz0 hz1 hz2 rfl (by decide) (.slice lp r.log.length lc) r.log.length (r.log.flatMap wcells) rfl (by first | exact ((hownL.alloc _).alloc _).drew | exact ((hownL.alloc _).drew.alloc _)) ⟨w1.heap.size + 1, 0, none⟩ 1 1 [.int .i64 m, .int .i64 512, .slice (some ⟨g, 0, none⟩) 512 vc] (by decide) rfl rfl (by intro j u hj; match j, hj with | 0, hj => (simp at hj; subst hj; simp [Addr.add]) | 1, hj => (simp at hj; subst hj; simp [Addr.add]) | 2, hj => (simp at hj; subst hj; simp [Addr.add])) (by intro u hu; simp at hu; rcases hu with rfl | rfl | rfl <;> rfl) (by unfold maxLen; omega) (by omega) ?_; intro v' w4 hown4 hgrow4 hnew4; rw [← HLV.out] at hgrow4 hnew4; have aW := (((Apart.refl [] w1).alloc (.cells #[.int .i64 m, .int .i64 512, .slice (some ⟨g, 0, none⟩) 512 vc] 90)).alloc (.cells #[.int .i64 m, .int .i64 512, .slice (some ⟨g, 0, none⟩) 512 vc] 90)).drewN 1; have hRG := ref_grown hr1 aW hgrow4; have c42 := cell_of_row w4 R 2 _ _ _ hRG.1; have f42 := frozen_of_row w4 R 2 _ _ hRG.1; have hLG := ref_logged hr1 aW hgrow4 ⟨m, 512, bs, .slice (some ⟨g, 0, none⟩) 512 vc⟩ v' hown4 (hownb.apart aW (by simp)) HBL.out (Nat.le_refl _) hm; have HN2 : Hid (New2 w (.slice (some ⟨g, 0, none⟩) 512 vc) r.lv v') := new2_of (Nat.le_trans a1.size aW.size) hgw.out hnew4; clear hnew4; obtain ⟨lp2, lc2, rfl⟩ := own_shape hown4; rw [show (rcells r).toArray[2]? = some r.lv from rfl] at c42; clear hgrow4 hRG hown4 aW)
  all_goals
    go_wp2
    go_ret
    exact ⟨rfl, _, _, hLG.1, (a1.mono (by simp)).trans hLG.2, HN2.out⟩
set_option maxHeartbeats 400000 in
theorem rwrite_armed {w : World} {R : Nat} {r : Rf} (h : RefAt w R r) (m : Nat) (p : Option Addr) (c : Nat) (bs : List Int) (hs : Src w p 512 bs) (ho : r.on = true) (hm : m < r.n) (hlog : r.log.length ≤ 1000000) (hle : 0 < r.left) :
    Calls Try.prog 47 #[.pointer (some ⟨R, 0, none⟩), .int .i64 m, .slice p 512 c] w fun e w' => e = .returned (.int .i64 0) ∧ ∃ v lv', RefAt w' R { r with log := r.log ++ [⟨m, 512, bs, v⟩], lv := lv', left := wsub r.left } ∧ Apart (R :: r.lv.ownBlock.toList) w w' ∧ New2 w v r.lv lv' := by
  have h3 := h.r3
  have h0 := h.r0
  have h4 := h.r4
  rw [ho] at h3
  clear ho
  have hn := h.hn
  have hl4 : (r.left == 0) = false := beq_eq_false_iff_ne.2 (by omega)
  have hbl := hs.hlen
  have HBL : Hid (bs.length = 512) := hbl
  clear hbl
  have hm0 : ¬ ((m : Int) < 0) := by omega
  obtain ⟨i0, hi, hz0, hz1, hz2⟩ := info_parts info90
  go_enter Try.func47, Try.ntmps47
  go_wp2_with fail
  refine (copied_any w p 512 c bs hs (by omega)).mono ?_
  rintro e w1 ⟨v, rfl, hown, a1⟩
  have hr1 := h.kept a1 (by simp) (by simp) (by simp)
  have h14 := hr1.r4
  obtain ⟨g, vc, rfl, hgw⟩ : ∃ g vc, v = .slice (some ⟨g, 0, none⟩) 512 vc ∧ Hid (w.heap.size ≤ g) := by
    obtain ⟨_, ⟨_, hz⟩ | ⟨g, cap, cur, rfl, hb, _⟩⟩ := hown
    · omega
    · exact ⟨g, cap, rfl, hb⟩
  have hownb : OwnB w1 (.slice (some ⟨g, 0, none⟩) 512 vc) bs := by
    show w1.ownsRow 0 5 1 _ bs.length _
    rw [HBL.out]
    obtain ⟨x1, ⟨x2, x3⟩ | ⟨g', cap, cur, x2, _, x4⟩⟩ := hown
    · cases x2
    · exact ⟨x1, .inr ⟨g', cap, cur, x2, Nat.zero_le _, x4⟩⟩
  clear h3 h0 h4 hown
  have hRl1 := lt_of_heap hr1.hr
  have f14 := hr1.rf 4
  have hr2 := hr1.put4 (wrap64 (r.left - 1))
  have hb2 : OwnB (w1.setCell ⟨R, 4, none⟩ (.int .i64 (wrap64 (r.left - 1)))) (.slice (some ⟨g, 0, none⟩) 512 vc) bs := hownb.set84 hr1.hr
  have a12 : Apart [R] w1 (w1.setCell ⟨R, 4, none⟩ (.int .i64 (wrap64 (r.left - 1)))) := (Apart.refl _ _).setCell (by simp) _
  go_wp2_with fail
  have hzz : w1.heap.size = (w1.setCell ⟨R, 4, none⟩ (.int .i64 (wrap64 (r.left - 1)))).heap.size := by simp [World.setCell]
  rw [hzz]
  generalize w1.setCell ⟨R, 4, none⟩ (.int .i64 (wrap64 (r.left - 1))) = w2 at *
  clear hzz hr1 hownb h14 f14
  have h12 : w2.cell? ⟨R, 2, none⟩ = some r.lv := hr2.r2
  have hRl := lt_of_heap hr2.hr
  obtain ⟨lp, lc, hlv⟩ := own_shape hr2.own
  have hownL : w2.ownsRow 0 90 3 r.lv r.log.length (r.log.flatMap wcells) := hr2.own
  rw [hlv] at hownL h12
  have HLV : Hid (r.lv = .slice lp r.log.length lc) := hlv
  clear hlv
  go_region_law (refine step_append_own rfl (.tmp 68) (.tmp 70) 82 rfl 90 i0 (.agg #[.int .i64 0, .int .i64 0, .slice none 0 0]) 3 40 Try.underlying82 hi hz0 hz1 hz2 rfl (by decide) (.slice lp r.log.length lc) r.log.length (r.log.flatMap wcells) rfl (by first | exact ((hownL.alloc _).alloc _).drew | exact ((hownL.alloc _).drew.alloc _)) ⟨w2.heap.size + 1, 0, none⟩ 1 1 [.int .i64 m, .int .i64 512, .slice (some ⟨g, 0, none⟩) 512 vc] (by decide) rfl rfl (by intro j u hj; match j, hj with | 0, hj => (simp at hj; subst hj; simp [Addr.add]) | 1, hj => (simp at hj; subst hj; simp [Addr.add]) | 2, hj => (simp at hj; subst hj; simp [Addr.add])) (by intro u hu; simp at hu; rcases hu with rfl | rfl | rfl <;> rfl) (by unfold maxLen; omega) (by omega) ?_; intro v' w4 hown4 hgrow4 hnew4; rw [← HLV.out] at hgrow4 hnew4; have aW := (((Apart.refl [] w2).alloc (.cells #[.int .i64 m, .int .i64 512, .slice (some ⟨g, 0, none⟩) 512 vc] 90)).alloc (.cells #[.int .i64 m, .int .i64 512, .slice (some ⟨g, 0, none⟩) 512 vc] 90)).drewN 1; have hRG := ref_grown hr2 aW hgrow4; have c42 := cell_of_row w4 R 2 _ _ _ hRG.1; have f42 := frozen_of_row w4 R 2 _ _ hRG.1; have hLG := ref_logged hr2 aW hgrow4 ⟨m, 512, bs, .slice (some ⟨g, 0, none⟩) 512 vc⟩ v' hown4 (hb2.apart aW (by simp)) HBL.out (Nat.le_refl _) hm; have HN2 : Hid (New2 w (.slice (some ⟨g, 0, none⟩) 512 vc) r.lv v') := new2_of (Nat.le_trans a1.size (Nat.le_trans a12.size aW.size)) hgw.out hnew4; clear hnew4; obtain ⟨lp2, lc2, rfl⟩ := own_shape hown4; rw [show (rcells { r with left := wrap64 (r.left - 1) }).toArray[2]? = some r.lv from rfl] at c42; clear hgrow4 hRG hown4 aW)
  all_goals
    go_wp2
    go_ret
    exact ⟨rfl, _, _, hLG.1, ((a1.mono (by simp)).trans (a12.mono (by simp))).trans hLG.2, HN2.out⟩
set_option maxHeartbeats 400000 in
theorem rwrite_torn {w : World} {R : Nat} {r : Rf} (h : RefAt w R r) (m : Nat) (p : Option Addr) (c : Nat) (bs : List Int) (hs : Src w p 512 bs) (ho : r.on = true) (hm : m < r.n) (hlog : r.log.length ≤ 1000000) (hle : r.left = 0) (t : Nat) (ht : r.torn = t) (htl : t ≤ 512) :
    Calls Try.prog 47 #[.pointer (some ⟨R, 0, none⟩), .int .i64 m, .slice p 512 c] w fun e w' => e = .returned (.int .i64 3) ∧ ∃ v lv', RefAt w' R ({ r with log := r.log ++ [⟨m, t, bs, v⟩], lv := lv' } : Rf).offed ∧ Apart (R :: r.lv.ownBlock.toList) w w' ∧ New2 w v r.lv lv' := by
  have h3 := h.r3
  have h0 := h.r0
  have h4 := h.r4
  rw [ho] at h3
  clear ho
  have h5 := h.r5
  rw [ht] at h5
  rw [hle] at h4
  have hn := h.hn
  have hbl := hs.hlen
  have HBL : Hid (bs.length = 512) := hbl
  clear hbl
  have hm0 : ¬ ((m : Int) < 0) := by omega
  obtain ⟨i0, hi, hz0, hz1, hz2⟩ := info_parts info90
  go_enter Try.func47, Try.ntmps47
  go_wp2_with fail
  refine (copied_any w p 512 c bs hs (by omega)).mono ?_
  rintro e w1 ⟨v, rfl, hown, a1⟩
  have hr1 := h.kept a1 (by simp) (by simp) (by simp)
  have h14 := hr1.r4
  rw [hle] at h14
  have h15 := hr1.r5
  rw [ht] at h15
  clear hle ht
  have h12 := hr1.r2
  have hRl := lt_of_heap hr1.hr
  obtain ⟨lp, lc, hlv⟩ := own_shape hr1.own
  have hownL := hr1.own
  rw [hlv] at hownL h12
  have HLV : Hid (r.lv = .slice lp r.log.length lc) := hlv
  clear hlv
  obtain ⟨g, vc, rfl, hgw⟩ : ∃ g vc, v = .slice (some ⟨g, 0, none⟩) 512 vc ∧ Hid (w.heap.size ≤ g) := by
    obtain ⟨_, ⟨_, hz⟩ | ⟨g, cap, cur, rfl, hb, _⟩⟩ := hown
    · omega
    · exact ⟨g, cap, rfl, hb⟩
  have hownb : OwnB w1 (.slice (some ⟨g, 0, none⟩) 512 vc) bs := by
    show w1.ownsRow 0 5 1 _ bs.length _
    rw [HBL.out]
    obtain ⟨x1, ⟨x2, x3⟩ | ⟨g', cap, cur, x2, _, x4⟩⟩ := hown
    · cases x2
    · exact ⟨x1, .inr ⟨g', cap, cur, x2, Nat.zero_le _, x4⟩⟩
  clear h3 h0 h4 h5 hown
  go_wp2_with fail
  go_region_law (refine step_append_own rfl (.tmp 44) (.tmp 46) 82 rfl 90 i0 (.agg #[.int .i64 0, .int .i64 0, .slice none 0 0]) 3 40 Try.underlying82 hi hz0 hz1 hz2 rfl (by decide) (.slice lp r.log.length lc) r.log.length (r.log.flatMap wcells) rfl (by first | exact ((hownL.alloc _).alloc _).drew | exact ((hownL.alloc _).drew.alloc _)) ⟨w1.heap.size + 1, 0, none⟩ 1 1 [.int .i64 m, .int .i64 t, .slice (some ⟨g, 0, none⟩) 512 vc] (by decide) rfl rfl (by intro j u hj; match j, hj with | 0, hj => (simp at hj; subst hj; simp [Addr.add]) | 1, hj => (simp at hj; subst hj; simp [Addr.add]) | 2, hj => (simp at hj; subst hj; simp [Addr.add])) (by intro u hu; simp at hu; rcases hu with rfl | rfl | rfl <;> rfl) (by unfold maxLen; omega) (by omega) ?_; intro v' w4 hown4 hgrow4 hnew4; rw [← HLV.out] at hgrow4 hnew4; have aW := (((Apart.refl [] w1).alloc (.cells #[.int .i64 m, .int .i64 t, .slice (some ⟨g, 0, none⟩) 512 vc] 90)).alloc (.cells #[.int .i64 m, .int .i64 t, .slice (some ⟨g, 0, none⟩) 512 vc] 90)).drewN 1; have hRG := ref_grown hr1 aW hgrow4; have c42 := cell_of_row w4 R 2 _ _ _ hRG.1; have f42 := frozen_of_row w4 R 2 _ _ hRG.1; have hLG := ref_logged hr1 aW hgrow4 ⟨m, t, bs, .slice (some ⟨g, 0, none⟩) 512 vc⟩ v' hown4 (hownb.apart aW (by simp)) HBL.out htl hm; have HN2 : Hid (New2 w (.slice (some ⟨g, 0, none⟩) 512 vc) r.lv v') := new2_of (Nat.le_trans a1.size aW.size) hgw.out hnew4; clear hnew4; obtain ⟨lp2, lc2, rfl⟩ := own_shape hown4; rw [show (rcells r).toArray[2]? = some r.lv from rfl] at c42; clear hgrow4 hRG hown4 aW)
  all_goals
    go_wp2_with fail
    refine (roff_ref hLG.1).mono ?_
    rintro e w5 ⟨rfl, hr5, a5⟩
    go_wp2
    go_ret
    exact ⟨rfl, _, _, hr5, ((a1.mono (by simp)).trans hLG.2).trans (a5.mono (by simp)), HN2.out⟩
end Go.Proofs.Ythmloakkefiicaa.dk
