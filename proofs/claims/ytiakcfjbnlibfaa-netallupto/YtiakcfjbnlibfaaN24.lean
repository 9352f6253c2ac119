import Derived.Test.YtiakcfjbnlibfaaN23
namespace Go.Proofs.Ytiakcfjbnlibfaa.nt
open Go.ChangeShapes Go.WideShapes Go.ChangeAt Go.RowKit
set_option linter.unusedVariables false
set_option linter.unusedSimpArgs false
/-- append(s[:i], s[i+1:]...) -/
theorem erase_run {w : World} {R m cp : Nat} {ss : List LM} (h : w.ownsRow 0 30 3 (.slice (some ⟨R, 0, none⟩) (m + 1) cp) (m + 1) (flatL ss)) (hl : ss.length = m + 1) (i : Nat) (hi : i ≤ m) (a : Addr) (k c : Nat) (ha : (a = ⟨R, (i + 1) * 3, none⟩ ∧ k = m - i) ∨ (k = 0 ∧ i = m)) :
    ∃ w', (Builtin.append_ #[22, 22] 22 #[.slice (some ⟨R, 0, none⟩) i cp, .slice (some a) k c]).run Try.prog w = .ok (.slice (some ⟨R, 0, none⟩) m cp) w' ∧ w'.ownsRow 0 30 3 (.slice (some ⟨R, 0, none⟩) m cp) m (flatL (ss.eraseIdx i)) ∧ Apart [R] w w' := by
  obtain ⟨i0, hi0, hz0, hz1, hz2⟩ := info_parts infoL
  obtain ⟨cur, hcur, hfit, cur2, hcur2, hfit2, ho3, ho2⟩ := out_rows h hl i hi
  have hcap : m + 1 ≤ cp := by
    obtain ⟨_, ⟨hv, hz⟩ | ⟨g, cq, cu, hv, _, _, hle2, hmx, _⟩⟩ := h
    · simp at hv
    · simp at hv
      rw [hv.2]
      exact hle2
  have hml : (ss.drop (i + 1)).length = m - i := by simp; omega
  have hmf := flatL_length (ss.drop (i + 1))
  have hd := flat_cut ss (i + 1) ss.length
  rw [List.take_of_length_le (by simp), List.take_of_length_le (by rw [List.length_drop, flatL_length]; omega)] at hd
  have hki : i + k = m := by rcases ha with ⟨_, h⟩ | ⟨h, h'⟩ <;> omega
  refine ⟨w.setRow R (splice cur (i * 3) (flatL (ss.drop (i + 1)))).toArray, ?_, ?_, apart_setRow _ _ _⟩
  · have := run_append_room (P := Try.prog) w 22 22 30 i0 Try.underlying22 hi0 R i cp cur.toArray hcur a k c (flatL (ss.drop (i + 1))) (by rw [hmf, hml, hz1]; congr 1; omega) (fun j u hj => by
      rcases ha with ⟨rfl, hk⟩ | ⟨hk, hk'⟩
      · rw [hd, List.getElem?_drop] at hj
        rw [Addr.add_lit]
        have hq2 : (i + 1) * 3 + j < (flatL ss).length := (List.getElem?_eq_some_iff.1 hj).1
        rw [flatL_length, hl] at hq2
        exact (h.cellAt _ (by omega)).trans hj
      · have : flatL (ss.drop (i + 1)) = [] := List.eq_nil_of_length_eq_zero (by rw [hmf, hml]; omega)
        rw [this] at hj
        simp at hj) (oneL _) (by omega) (by rw [hz1]; simpa using hfit)
    rw [hz1, hki] at this
    rw [this]
    simp [splice]
  · have := own_shrink ho2 m (by omega)
    rwa [List.take_append_of_le_length (by rw [List.length_eraseIdx, if_pos (by omega)]; omega), List.take_of_length_le (by rw [List.length_eraseIdx, if_pos (by omega)]; omega)] at this
/-- a letter that reads so, its bytes in a row of bytes -/
structure RdL (w : World) (l : LM) (x : Tx) : Prop where
  r : ReadsL w l x
  b : ∀ P o, l.d.p = some ⟨P, o, none⟩ → ∃ cur fr, w.heap[P]? = some (.cells cur 5 fr)
theorem blk_ne' {w : World} {k : Nat} {c : Array Value} {t0 : TypeId} {f0 : Nat × Nat} (h : w.heap[k]? = some (.cells c t0 f0)) (cur : Array Value) (fr : Nat × Nat) {t : TypeId} (ht : t ≠ t0) : w.heap[k]? ≠ some (.cells cur t fr) := by
  rw [h]
  simp
  intro _ e
  exact absurd e.symm ht
theorem OwnL.rdl {w : World} {l : LM} {x : Tx} (h : OwnL w l x) : RdL w l x := ⟨h.reads, fun P o e => by
  obtain ⟨_, ⟨hv, hz⟩ | ⟨g, cap, cur, hv, _, hr, _⟩⟩ := h.d
  · unfold Sl.v at hv; simp [e] at hv
  · unfold Sl.v at hv
    simp [e] at hv
    obtain ⟨⟨rfl, _⟩, _⟩ := hv
    exact ⟨cur, _, hr⟩⟩
theorem RdL.keepT {w w' : World} {l : LM} {x : Tx} {X : List Nat} (h : RdL w l x) (a : Apart X w w') (hX : ∀ k ∈ X, ∀ cur fr, w.heap[k]? ≠ some (.cells cur 5 fr)) : RdL w' l x := by
  have hP : ∀ P o, l.d.p = some ⟨P, o, none⟩ → P ∉ X := fun P o e hm => by
    obtain ⟨cur, fr, hc⟩ := h.b P o e
    exact hX P hm cur fr hc
  refine ⟨h.r.kept a hP, fun P o e => ?_⟩
  obtain ⟨cur, fr, hc⟩ := h.b P o e
  exact ⟨cur, fr, (a.block P (lt_of_heap hc) (hP P o e)).trans hc⟩
theorem RdL.kept0 {w w' : World} {l : LM} {x : Tx} (h : RdL w l x) (a : Apart [] w w') : RdL w' l x := h.keepT a (by simp)
/-- NetHonest's memory: the bag, and what was sent -/
structure HM (wa w : World) (Bg : Nat) (room : Int) (s : Sl) (R n cp : Nat) (ls ss : List LM) (xs zs : List Tx) (c : Cn) : Prop where
  bag : Bag wa w Bg room s ls xs c
  snt : w.ownsRow 0 30 3 (.slice (some ⟨R, 0, none⟩) n cp) n (flatL ss)
  new : wa.heap.size ≤ R
  sl : ss.length = n
  zl : zs.length = n
  ne : s.v.ownBlock ≠ some R
  rd : ∀ j, j < n → RdL w (gL ss j) (gT zs j)
theorem HM.kept0 {wa w w' : World} {Bg : Nat} {room : Int} {s : Sl} {R n cp : Nat} {ls ss : List LM} {xs zs : List Tx} {c : Cn} (h : HM wa w Bg room s R n cp ls ss xs zs c) (a : Apart [] w w') : HM wa w' Bg room s R n cp ls ss xs zs c :=
  ⟨h.bag.kept0 a, own_apart h.snt a (by simp), h.new, h.sl, h.zl, h.ne, fun j hj => (h.rd j hj).kept0 a⟩
theorem HM.neB {wa w : World} {Bg : Nat} {room : Int} {s : Sl} {R n cp : Nat} {ls ss : List LM} {xs zs : List Tx} {c : Cn} (h : HM wa w Bg room s R n cp ls ss xs zs c) : R ≠ Bg := fun e => by
  obtain ⟨cu, t⟩ := own_typ h.snt (k := R) rfl
  have := h.bag.blk
  rw [← e, t] at this
  simp at this
/-- the bag has changed -/
theorem HM.rebag {wa w w' : World} {Bg : Nat} {room : Int} {s s' : Sl} {R n cp : Nat} {ls ss ls' : List LM} {xs zs xs' : List Tx} {c c' : Cn} (h : HM wa w Bg room s R n cp ls ss xs zs c) (b : Bag wa w' Bg room s' ls' xs' c') (a : Apart (Bg :: s.v.ownBlock.toList) w w')
    (hn : ∀ k, s'.v.ownBlock = some k → s.v.ownBlock = some k ∨ w.heap.size ≤ k) : HM wa w' Bg room s' R n cp ls' ss xs' zs c' := by
  have hR : R < w.heap.size := (h.snt.lt R rfl).2
  refine ⟨b, own_apart h.snt a (fun k hk m => ?_), h.new, h.sl, h.zl, fun e => ?_, fun j hj => (h.rd j hj).keepT a (fun k hk cur fr => ?_)⟩
  · simp [Value.ownBlock] at hk
    subst hk
    simp at m
    rcases m with m | m
    · exact h.neB m
    · exact h.ne m
  · rcases hn R e with q | q
    · exact h.ne q
    · omega
  · simp only [List.mem_cons] at hk
    rcases hk with rfl | hk
    · exact blk_ne' h.bag.blk cur fr (by decide)
    · obtain ⟨cu, tG⟩ := own_typ h.bag.row.own (k := k) (by simpa using hk)
      exact blk_ne' tG cur fr (by decide)
/-- what is sent has changed, in memory of its own -/
theorem HM.resend {wa w w' : World} {Bg : Nat} {room : Int} {s : Sl} {R n cp R' n' cp' : Nat} {ls ss ss' : List LM} {xs zs zs' : List Tx} {c : Cn} (h : HM wa w Bg room s R n cp ls ss xs zs c) (o : w'.ownsRow 0 30 3 (.slice (some ⟨R', 0, none⟩) n' cp') n' (flatL ss')) (a : Apart [R] w w') (hR : R' = R ∨ w.heap.size ≤ R') (sl : ss'.length = n') (zl : zs'.length = n') (rd : ∀ j, j < n' → RdL w (gL ss' j) (gT zs' j)) : HM wa w' Bg room s R' n' cp' ls ss' xs zs' c := by
  obtain ⟨cu, tR⟩ := own_typ h.snt (k := R) rfl
  have hX : ∀ k ∈ [R], ∀ (cur : Array Value) (fr : Nat × Nat), w.heap[k]? ≠ some (.cells cur 5 fr) := fun k hk cur fr => by simp at hk; subst hk; exact blk_ne' tR cur fr (by decide)
  refine ⟨h.bag.apart1 a h.neB h.ne (fun cur {t} ht => blk_ne tR cur ht) h.new, o, ?_, sl, zl, fun e => ?_, fun j hj => (rd j hj).keepT a hX⟩
  · rcases hR with rfl | hR
    · exact h.new
    · exact Nat.le_trans h.bag.row.ap.size hR
  · rcases hR with rfl | hR
    · exact h.ne e
    · have := (h.bag.row.own.lt R' e).2
      omega
/-- append of one to what is sent: its run -/
theorem HM.push {wa w : World} {Bg : Nat} {room : Int} {s : Sl} {R n cp : Nat} {ls ss : List LM} {xs zs : List Tx} {c : Cn} (h : HM wa w Bg room s R n cp ls ss xs zs c) (l : LM) (x : Tx) (hl : RdL w l x) (hn : n ≤ 4000000) :
    ∃ R' cp' w', (Builtin.append_ #[22, 22] 22 #[.slice (some ⟨R, 0, none⟩) n cp, .slice (some ⟨w.heap.size, 0, none⟩) 1 1]).run Try.prog (w.alloc (boxL l)) = .ok (.slice (some ⟨R', 0, none⟩) (n + 1) cp') w' ∧ HM wa w' Bg room s R' (n + 1) cp' ls (ss ++ [l]) xs (zs ++ [x]) c := by
  obtain ⟨i0, hi, hz0, hz1, hz2⟩ := info_parts infoL
  have hnw : Nw wa w 30 3 ⟨some ⟨R, 0, none⟩, n, cp⟩ (flatL ss) := ⟨h.snt, fun k hk => by simp [Sl.v, Value.ownBlock] at hk; subst hk; exact h.new, h.bag.row.ap⟩
  obtain ⟨t', w', hrun, n5, hs5, ap5, k5, hk5, hc5, hkk⟩ := run_appM 22 22 30 i0 _ 3 40 Try.underlying22 hi hz0 hz1 hz2 rfl (by decide) hnw 1 (LM.cs l) (by decide) rfl (fun v hv => oneL [l] v (by simpa [flatL] using hv)) (by unfold maxLen; simp; omega) (by simp; omega)
  obtain ⟨tp, tn, tc⟩ := t'
  simp only at hk5 hs5
  subst hk5 hs5
  have hap : Apart [R] w w' := ap5.mono (by simp [Sl.v, Value.ownBlock])
  have hkk' : k5 = R ∨ w.heap.size ≤ k5 := by
    rcases hkk with e | e
    · left; simp [Sl.v, Value.ownBlock] at e; exact e.symm
    · exact .inr e
  refine ⟨k5, tc, w', hrun, h.resend ?_ hap hkk' (by simp [h.sl]) (by simp [h.zl]) (fun j hj => ?_)⟩
  · rw [← flatL_snoc]; exact n5.own
  · by_cases e : j = n
    · have e1 : gL (ss ++ [l]) j = l := by rw [e, ← h.sl]; exact gL_at ss l
      have e2 : gT (zs ++ [x]) j = x := by rw [e, ← h.zl]; exact gT_at zs x
      rw [e1, e2]; exact hl
    · rw [gL_left _ _ _ (by rw [h.sl]; omega), gT_left _ _ _ (by rw [h.zl]; omega)]
      exact h.rd j (by omega)
/-- one is taken out of what was sent: its run -/
theorem HM.pull {wa w : World} {Bg : Nat} {room : Int} {s : Sl} {R m cp : Nat} {ls ss : List LM} {xs zs : List Tx} {c : Cn} (h : HM wa w Bg room s R (m + 1) cp ls ss xs zs c) (i : Nat) (hi : i ≤ m) (a : Addr) (k c' : Nat) (ha : (a = ⟨R, (i + 1) * 3, none⟩ ∧ k = m - i) ∨ (k = 0 ∧ i = m)) :
    ∃ w', (Builtin.append_ #[22, 22] 22 #[.slice (some ⟨R, 0, none⟩) i cp, .slice (some a) k c']).run Try.prog w = .ok (.slice (some ⟨R, 0, none⟩) m cp) w' ∧ HM wa w' Bg room s R m cp ls (ss.eraseIdx i) xs (zs.eraseIdx i) c := by
  obtain ⟨w', hrun, o, ap⟩ := erase_run h.snt h.sl i hi a k c' ha
  have h1 := h.sl
  have h2 := h.zl
  refine ⟨w', hrun, h.resend o ap (.inl rfl) (by rw [List.length_eraseIdx, if_pos (by omega)]; omega) (by rw [List.length_eraseIdx, if_pos (by omega)]; omega) (fun j hj => ?_)⟩
  rw [show gL (ss.eraseIdx i) j = gL ss (ers i j) from er_get _ _ _ _, show gT (zs.eraseIdx i) j = gT zs (ers i j) from er_get _ _ _ _]
  exact h.rd _ (by unfold ers; split <;> omega)
theorem HM.inl {wa w : World} {Bg : Nat} {room : Int} {s : Sl} {R n cp : Nat} {ls ss : List LM} {xs zs : List Tx} {c : Cn} (h : HM wa w Bg room s R n cp ls ss xs zs c) : InL w ⟨some ⟨R, 0, none⟩, n, cp⟩ ss zs := by
  refine ⟨Rd.own h.snt, h.sl, h.zl, (fun e => by cases e), fun j hj => (h.rd j hj).r⟩
/-- permutations, by place -/
theorem gT_mem {l : List Tx} {i : Nat} (h : i < l.length) : gT l i ∈ l := by
  unfold gT
  rw [List.getD_eq_getElem?_getD, List.getElem?_eq_getElem h]
  exact List.getElem_mem h
theorem perm_er (l : List Tx) (i : Nat) (h : i < l.length) : l.Perm (gT l i :: l.eraseIdx i) := by
  have e : gT l i = l[i] := by unfold gT; simp [List.getD_eq_getElem?_getD, h]
  rw [e]
  have e2 : l = l.take i ++ l[i] :: l.drop (i + 1) := by rw [← List.drop_eq_getElem_cons h, List.take_append_drop]
  rw [← er_split]
  exact (List.Perm.of_eq e2).trans List.perm_middle
theorem perm_mv (l : List Tx) (i j : Nat) (hi : i < l.length) : l.Perm (mvD Tx.z i j l) := by
  have e : l.getD i Tx.z = gT l i := rfl
  unfold mvD
  rw [er_split, e]
  refine (perm_er l i hi).trans ?_
  have h1 : (l.eraseIdx i).Perm ((l.eraseIdx i).take j ++ (l.eraseIdx i).drop j) := by rw [List.take_append_drop]
  refine (h1.cons (gT l i)).trans ?_
  rw [List.append_assoc]
  exact (List.perm_middle).symm
end Go.Proofs.Ytiakcfjbnlibfaa.nt
