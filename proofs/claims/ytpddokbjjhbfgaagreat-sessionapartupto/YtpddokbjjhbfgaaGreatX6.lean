import Derived.Test.YtpddokbjjhbfgaaGreatX4
import Derived.Test.YtpddokbjjhbfgaaGreatU38
namespace Go.Proofs.YtpddokbjjhbfgaaGreat.ds
open Go.ChangeShapes Go.WideShapes Go.ChangeAt Go.RowKit Go.Sort
set_option linter.unusedVariables false
set_option linter.unusedSimpArgs false
/-- append of several, out of a row that was just made: in its own room, or in new memory -/
theorem app_or {w W : World} {s : Sl} {us : List Value} (t ty e : TypeId) (i : TypeInfo) (z : Value) (size bytes : Nat) (ht : Tryz.prog.underlying t = some (.slice e)) (hi : Tryz.prog.info? e = some i) (hz : i.zero = some z) (hsize : i.size = size) (hby : i.bytes = bytes) (hzs : z.cells.size = size) (hsz : 0 < size)
    (h : Nw w W e size s us) (m : Nat) (cs : List Value) (hm : 0 < m) (hcl : cs.length = m * size) (one : ∀ u ∈ cs, u.oneCell' = true) (h63 : s.n + m ≤ maxLen) (hb : (s.n + m) * bytes ≤ 140737488355328) :
    ∃ s' W', (Builtin.append_ #[t, t] ty #[.slice s.p s.n s.c, .slice (some ⟨W.heap.size, 0, none⟩) m m]).run Tryz.prog (W.alloc (.cells cs.toArray e)) = .ok (.slice (Sl.p s') (Sl.n s') (Sl.c s')) W' ∧ s'.n = s.n + m ∧ ((s'.p = s.p ∧ s'.c = s.c ∧ (s.p ≠ none ∧ s.n + m ≤ s.c) ∧ Nw w W' e size s' (us ++ cs) ∧ Apart s.v.ownBlock.toList W W') ∨ (Nw W W' e size s' (us ++ cs) ∧ Apart [] W W' ∧ (s.p ≠ none → s.c < s.n + m))) := by
  have a1 : Apart [] W (W.alloc (.cells cs.toArray e)) := (Apart.refl [] W).alloc _
  have hcs : ∀ j u, cs[j]? = some u → (W.alloc (.cells cs.toArray e)).cell? ((⟨W.heap.size, 0, none⟩ : Addr).add j) = some u := by
    intro j u hj
    rw [Addr.add_lit, Nat.zero_add, cell_of_row _ _ _ _ _ _ (heap_alloc_new W (.cells cs.toArray e))]
    simpa using hj
  have hk := h.kept a1
  have h0 := hk.own
  obtain ⟨hxl, ⟨hv, hn0⟩ | ⟨g, cap, cur, hv, hbb, hr, hle, hrest⟩⟩ := hk.own
  · have hu : us = [] := by rw [hn0] at hxl; simpa using hxl
    subst hu
    obtain ⟨v', W', hrun, r1, r2, _⟩ := run_append_own (P := Tryz.prog) (W.alloc (.cells cs.toArray e)) (W.alloc (.cells cs.toArray e)).heap.size t ty e i z size bytes ht hi hz hsize hby hzs hsz (.slice none 0 0) 0 [] (World.ownsRow_nil _ _ e size) ⟨W.heap.size, 0, none⟩ m m cs hcl hcs one (by omega) (by rw [Nat.zero_add]; rw [hn0, Nat.zero_add] at hb; exact hb) (Nat.le_refl _)
    have ap : Apart [] (W.alloc (.cells cs.toArray e)) W' := by have := apart_grown r2; simpa [Value.ownBlock] using this
    have hnew : ∀ k, v'.ownBlock = some k → W.heap.size ≤ k := fun k hk => Nat.le_trans a1.size ((r1.lt k hk).1)
    have r0 := own_base r1 (Nat.zero_le _)
    obtain ⟨s', e1, e2⟩ : ∃ s' : Sl, v' = .slice s'.p s'.n s'.c ∧ s'.n = m := by
      obtain ⟨_, ⟨hv, hz⟩ | ⟨g, cap, cur, hv, _⟩⟩ := r1
      · omega
      · exact ⟨⟨some ⟨g, 0, none⟩, m, cap⟩, by rw [hv, Nat.zero_add], rfl⟩
    have hsv : (Value.slice s.p s.n s.c) = .slice none 0 0 := hv
    refine ⟨s', W', by rw [hsv, ← e1]; exact hrun, by omega, .inr ⟨⟨?_, ?_, a1.trans ap⟩, a1.trans ap, fun hq => by simp at hsv; exact absurd hsv.1 hq⟩⟩
    · show W'.ownsRow 0 e size (.slice s'.p s'.n s'.c) s'.n _
      rw [← e1, e2]
      rw [Nat.zero_add] at r0
      exact r0
    · intro k hk
      refine hnew k ?_
      rw [e1]; exact hk
  · have hsv : (Value.slice s.p s.n s.c) = .slice (some ⟨g, 0, none⟩) s.n cap := hv
    have hsp : s.p = some ⟨g, 0, none⟩ ∧ s.c = cap := by simp at hsv; exact hsv
    by_cases hroom : s.n + m ≤ cap
    · rw [hv] at h0
      obtain ⟨W', hrun, r1, r2⟩ := run_append_own_spare (P := Tryz.prog) (W.alloc (.cells cs.toArray e)) 0 t ty e i size ht hi hsize g s.n cap us h0 ⟨W.heap.size, 0, none⟩ m m cs hcl hcs one hroom
      have ap : Apart [g] (W.alloc (.cells cs.toArray e)) W' := by have := apart_grown r2; simpa [Value.ownBlock] using this
      have hgw : w.heap.size ≤ g := h.new g (by rw [hv]; rfl)
      have hb1 : s.v.ownBlock = some g := by rw [hv]; rfl
      refine ⟨⟨s.p, s.n + m, s.c⟩, W', by rw [hsv, hsp.1, hsp.2]; exact hrun, rfl, .inl ⟨rfl, rfl, ⟨by rw [hsp.1]; simp, by rw [hsp.2]; exact hroom⟩, ⟨?_, ?_, ?_⟩, ?_⟩⟩
      · unfold Sl.v
        dsimp only
        rw [hsp.1, hsp.2]
        exact r1
      · intro k hk
        unfold Sl.v at hk
        dsimp only at hk
        rw [hsp.1] at hk
        simp [Value.ownBlock] at hk
        omega
      · exact h.ap.trans' ((a1.mono (by simp)).trans ap) (fun y hy => by simp at hy; exact .inr (by omega))
      · rw [hb1]
        exact (a1.mono (by simp)).trans ap
    · obtain ⟨v', W', hrun, r1, r2⟩ := run_append_arg_grows (P := Tryz.prog) (W.alloc (.cells cs.toArray e)) t ty e i z size bytes ht hi hz hsize hby hzs hsz ⟨g, 0, none⟩ s.n cap us (by omega) (fun j u hu => by rw [hv] at h0; exact h0.cells rfl j u hu) ⟨W.heap.size, 0, none⟩ m m cs hcl hcs (by omega) h63 hb
      have ap : Apart [] (W.alloc (.cells cs.toArray e)) W' := by have := apart_grown r2; simpa using this
      have hnew : ∀ k, v'.ownBlock = some k → W.heap.size ≤ k := fun k hk => Nat.le_trans a1.size ((r1.lt k hk).1)
      have r0 := own_base r1 (Nat.zero_le _)
      obtain ⟨s', e1, e2⟩ : ∃ s' : Sl, v' = .slice s'.p s'.n s'.c ∧ s'.n = s.n + m := by
        obtain ⟨_, ⟨hv, hz⟩ | ⟨g, cap, cur, hv, _⟩⟩ := r1
        · omega
        · exact ⟨⟨some ⟨g, 0, none⟩, s.n + m, cap⟩, hv, rfl⟩
      refine ⟨s', W', by rw [hsv, ← e1]; exact hrun, e2, .inr ⟨⟨?_, ?_, a1.trans ap⟩, a1.trans ap, fun _ => by rw [hsp.2]; omega⟩⟩
      · show W'.ownsRow 0 e size (.slice s'.p s'.n s'.c) s'.n _
        rw [← e1, e2]
        exact r0
      · intro k hk
        refine hnew k ?_
        rw [e1]; exact hk

/-- which blocks a list and what was appended to it have -/
def Bl (l x : Sl) (k : Nat) : Prop := x.v.ownBlock = some k ∨ ∃ o, l.p = some ⟨k, o, none⟩
/-- a list l, and x: l with more behind it -/
structure Gl (w W : World) (l x : Sl) (L X : List Dt) : Prop where
  rd : Rd W l.p (flD L)
  nw : Nw w W 34 2 x (flD X)
  pre : ∃ t, X = L ++ t
  alt : x.p = l.p ∨ ∀ k, x.v.ownBlock = some k → ∀ o, l.p ≠ some ⟨k, o, none⟩
  lt : ∀ k, Bl l x k → w.heap.size ≤ k ∧ k < W.heap.size
theorem flD_app (a b : List Dt) : flD (a ++ b) = flD a ++ flD b := (rg.dt.flP_append a b).symm
theorem Gl.off {w W W' : World} {l x : Sl} {L X : List Dt} {Y : List Nat} (h : Gl w W l x L X) (a : Apart Y W W') (ap : Apart [] w W') (hY : ∀ k, Bl l x k → k ∉ Y) : Gl w W' l x L X :=
  ⟨h.rd.kept a (fun P o e => hY P (.inr ⟨o, e⟩)), h.nw.off a ap (fun k hk => hY k (.inl hk)), h.pre, h.alt, fun k hk => ⟨(h.lt k hk).1, Nat.lt_of_lt_of_le (h.lt k hk).2 a.size⟩⟩
theorem Gl.app {w W : World} {l x : Sl} {L X : List Dt} (h : Gl w W l x L X) (d : Dt) (hl : X.length ≤ 4000000) :
    ∃ x' W', (Builtin.append_ #[50, 50] 50 #[.slice x.p x.n x.c, .slice (some ⟨W.heap.size, 0, none⟩) 1 1]).run Tryz.prog (W.alloc (Obj.cells #[.int .i64 d.1, .int .i64 d.2] 34)) = .ok (.slice (Sl.p x') (Sl.n x') (Sl.c x')) W' ∧ Gl w W' l x' L (X ++ [d]) ∧ Apart x.v.ownBlock.toList W W' ∧ x'.n = x.n + 1 ∧ ∀ k, Bl l x' k → Bl l x k ∨ W.heap.size ≤ k := by
  obtain ⟨i0, hi, hz0, hz1, hz2⟩ := info_parts infoD
  have hn : x.n = X.length := by have := h.nw.own.1; rw [flD_len] at this; omega
  obtain ⟨x', W', hrun, hn', hor⟩ := app_or 50 50 34 i0 _ 2 16 Tryz.underlying50 hi hz0 hz1 hz2 rfl (by decide) h.nw 1 (flD [d]) (by decide) (by rw [flD_len]; rfl) (fun u hu => rg.dt.flP_one hu) (by unfold maxLen; omega) (by omega)
  obtain ⟨t, ht⟩ := h.pre
  refine ⟨x', W', hrun, ?_⟩
  rcases hor with ⟨hp, hc, -, hnw, ap⟩ | ⟨hnw, ap, -⟩
  · have hob : x'.v.ownBlock = x.v.ownBlock := by
      unfold Sl.v
      rw [hp]
      cases x.p <;> rfl
    rw [← flD_app] at hnw
    refine ⟨⟨?_, hnw, ⟨t ++ [d], by rw [ht, List.append_assoc]⟩, ?_, fun k hk => ?_⟩, ap, hn', fun k hk => ?_⟩
    · rcases h.alt with e | e
      · have := hnw.rd
        rw [ht, List.append_assoc, flD_app] at this
        rw [← e, ← hp]
        exact this.pre
      · refine h.rd.kept ap (fun P o e2 hm => ?_)
        exact e P (by simpa using hm) o e2
    · rw [hp, hob]; exact h.alt
    · have hb : Bl l x k := by unfold Bl at hk ⊢; rw [hob] at hk; exact hk
      exact ⟨(h.lt k hb).1, Nat.lt_of_lt_of_le (h.lt k hb).2 ap.size⟩
    · left; unfold Bl at hk ⊢; rw [hob] at hk; exact hk
  · rw [← flD_app] at hnw
    have hnew : ∀ k, x'.v.ownBlock = some k → W.heap.size ≤ k ∧ k < W'.heap.size := fun k hk => (hnw.own_p hk).2
    have hnw2 : Nw w W' 34 2 x' (flD (X ++ [d])) := hnw.from h.nw.ap
    refine ⟨⟨h.rd.kept0 ap, hnw2, ⟨t ++ [d], by rw [ht, List.append_assoc]⟩, .inr (fun k hk o e => ?_), fun k hk => ?_⟩, ap.mono (by simp), hn', fun k hk => ?_⟩
    · have h1 := hnew k hk
      have h2 := (h.lt k (.inr ⟨o, e⟩)).2
      omega
    · rcases hk with hk | hk
      · exact ⟨hnw2.new k hk, (hnew k hk).2⟩
      · exact ⟨(h.lt k (.inr hk)).1, Nat.lt_of_lt_of_le (h.lt k (.inr hk)).2 ap.size⟩
    · rcases hk with hk | hk
      · exact .inr (hnew k hk).1
      · exact .inl (.inr hk)
/-- the first i dots written over -/
def ovD (a : Int) (i : Nat) (D : List Dt) : List Dt := (List.range i).map (fun j : Nat => (a, (j : Int))) ++ D.drop i
theorem ovD_len (a : Int) (i : Nat) (D : List Dt) (hi : i ≤ D.length) : (ovD a i D).length = D.length := by simp [ovD]; omega
theorem ovD_step (a : Int) (i : Nat) (D : List Dt) (hi : i < D.length) : (ovD a i D).set i (a, (i : Int)) = ovD a (i + 1) D := by
  unfold ovD
  rw [List.set_append_right _ _ (by simp)]
  simp only [List.length_map, List.length_range, Nat.sub_self]
  rw [List.drop_eq_getElem_cons hi, List.set_cons_zero, List.range_succ, List.map_append]
  simp
theorem ovD_get (a : Int) (n i : Nat) (D : List Dt) (hi : i < n) : (ovD a n D).getD i (0, 0) = (a, (i : Int)) := by
  unfold ovD
  rw [List.getD_eq_getElem?_getD, List.getElem?_append_left (by simp; exact hi)]
  simp [hi]
theorem flD_set (l : List Dt) (i : Nat) (hi : i < l.length) (d : Dt) : flD (l.set i d) = (flD l).take (i * 2) ++ flD [d] ++ (flD l).drop (i * 2 + 2) := by
  rw [List.set_eq_take_append_cons_drop, if_pos hi]
  have e1 : l = l.take i ++ l.drop i := (List.take_append_drop i l).symm
  have e2 : l.drop i = [l[i]] ++ l.drop (i + 1) := by rw [List.drop_eq_getElem_cons hi]; rfl
  have hlen : (flD (l.take i)).length = i * 2 := by rw [flD_len, List.length_take]; omega
  have hf : flD l = flD (l.take i) ++ (flD [l[i]] ++ flD (l.drop (i + 1))) := by
    rw [← flD_app, ← e2, ← flD_app, ← e1]
  have h2 : (flD [l[i]]).length = 2 := by rw [flD_len]; rfl
  rw [hf]
  have t1 : (flD (l.take i) ++ (flD [l[i]] ++ flD (l.drop (i + 1)))).take (i * 2) = flD (l.take i) := by
    rw [List.take_append_of_le_length (by omega), List.take_of_length_le (by omega)]
  have t2 : (flD (l.take i) ++ (flD [l[i]] ++ flD (l.drop (i + 1)))).drop (i * 2 + 2) = flD (l.drop (i + 1)) := by
    rw [List.drop_append, List.drop_of_length_le (by omega), List.nil_append, hlen, show i * 2 + 2 - i * 2 = 2 by omega, List.drop_append, h2, Nat.sub_self, List.drop_of_length_le (by omega)]
    simp
  rw [t1, t2, show l.take i ++ d :: l.drop (i + 1) = l.take i ++ ([d] ++ l.drop (i + 1)) from rfl, flD_app, flD_app, List.append_assoc]
theorem own_setD {w : World} {q : Sl} {l : List Dt} (h : w.ownsRow 0 34 2 q.v q.n (flD l)) {Q : Nat} (hq : q.v.ownBlock = some Q) {i : Nat} (hi : i < q.n) (d : Dt) : ((w.setCell ⟨Q, i * 2, none⟩ (.int .i64 d.1)).setCell ⟨Q, i * 2 + 1, none⟩ (.int .i64 d.2)).ownsRow 0 34 2 q.v q.n (flD (l.set i d)) := by
  obtain ⟨hl, ⟨hv, hz⟩ | ⟨gB, cap, cur, hv, hb, hr, hle, hm, hs, ht⟩⟩ := h
  · omega
  have hgq : gB = Q := by rw [hv] at hq; simpa [Value.ownBlock] using hq
  subst hgq
  have hgl : l.length = q.n := by rw [flD_len] at hl; omega
  have hset := heap_setCells_same (g := gB) (t := 34) [.int .i64 d.1, .int .i64 d.2] (i * 2) w cur hr
  have hsp := spl_list [.int .i64 d.1, .int .i64 d.2] (i * 2) cur.toList (by simp; omega)
  rw [Array.toArray_toList] at hsp
  have hfd : flD [d] = [.int .i64 d.1, .int .i64 d.2] := rfl
  refine ⟨by rw [flD_len]; simp; omega, .inr ⟨gB, cap, _, hv, hb, hset, hle, hm, ?_, ?_⟩⟩
  · rw [hsp]
    simp
    omega
  · rw [hsp, flD_set l i (by omega), ← ht, hfd]
    simp only [List.toList_toArray, List.length_cons, List.length_nil]
    rw [List.take_append, List.take_append, List.take_take, List.take_take]
    have e1 : min (q.n * 2) (i * 2) = i * 2 := by omega
    have e1' : min (i * 2) (q.n * 2) = i * 2 := by omega
    have e2 : ((cur.toList.take (i * 2)).length) = i * 2 := by simp; omega
    rw [e1, e1', List.length_append, e2, List.take_of_length_le (l := [Value.int .i64 d.1, Value.int .i64 d.2]) (by simp; omega), List.drop_take]
    simp
theorem Nw.setD {w0 w : World} {q : Sl} {l : List Dt} (h : Nw w0 w 34 2 q (flD l)) {Q : Nat} (hq : q.v.ownBlock = some Q) {i : Nat} (hi : i < q.n) (d : Dt) : Nw w0 ((w.setCell ⟨Q, i * 2, none⟩ (.int .i64 d.1)).setCell ⟨Q, i * 2 + 1, none⟩ (.int .i64 d.2)) 34 2 q (flD (l.set i d)) :=
  ⟨own_setD h.own hq hi d, h.new, h.ap.trans' (((Apart.refl [Q] w).setCell (.inl (by simp)) _).setCell (.inl (by simp)) _) (fun y hy => .inr (by simp at hy; rw [hy]; exact h.new Q hq))⟩
end Go.Proofs.YtpddokbjjhbfgaaGreat.ds
namespace Go.Proofs.YtpddokbjjhbfgaaGreat.ds
open Go.ChangeShapes Go.WideShapes Go.ChangeAt Go.RowKit Go.Sort
set_option linter.unusedVariables false
set_option linter.unusedSimpArgs false
/-- both lists, each with more behind it -/
structure G2 (w W : World) (l x m y : Sl) (L M : List Dt) (X Y : List Dt) : Prop where
  a : Gl w W l x L X
  b : Gl w W m y M Y
  d : ∀ k, Bl l x k → ¬ Bl m y k
theorem Bl_self {l : Sl} {w W : World} {us : List Value} (h : Nw w W 34 2 l us) {k : Nat} (hk : Bl l l k) : l.v.ownBlock = some k := by
  rcases hk with hk | ⟨o, hk⟩
  · exact hk
  · unfold Sl.v
    rw [hk]
    rfl
theorem Gl.self {w W : World} {l : Sl} {L : List Dt} (h : Nw w W 34 2 l (flD L)) : Gl w W l l L L := ⟨h.rd, h, ⟨[], by simp⟩, .inl rfl, fun k hk => (h.own_p (Bl_self h hk)).2⟩
def tailD (a : Int) (k : Nat) : List Dt := (List.range k).map (fun j : Nat => (a, (j : Int)))
theorem tailD_succ (a : Int) (k : Nat) : tailD a (k + 1) = tailD a k ++ [(a, (k : Int))] := by simp [tailD, List.range_succ]
theorem G2.appX {w W : World} {l x m y : Sl} {L M X Y : List Dt} (h : G2 w W l x m y L M X Y) (d : Dt) (hl : X.length ≤ 4000000) :
    ∃ x' W', (Builtin.append_ #[50, 50] 50 #[.slice x.p x.n x.c, .slice (some ⟨W.heap.size, 0, none⟩) 1 1]).run Tryz.prog (W.alloc (Obj.cells #[.int .i64 d.1, .int .i64 d.2] 34)) = .ok (.slice (Sl.p x') (Sl.n x') (Sl.c x')) W' ∧ G2 w W' l x' m y L M (X ++ [d]) Y ∧ x'.n = x.n + 1 := by
  obtain ⟨x', W', hrun, hg, ap, hn, hnew⟩ := h.a.app d hl
  refine ⟨x', W', hrun, ⟨hg, h.b.off ap hg.nw.ap (fun k hk hm => h.d k (.inl (by simpa using hm)) hk), fun k hk hk2 => ?_⟩, hn⟩
  rcases hnew k hk with h1 | h1
  · exact h.d k h1 hk2
  · have := (h.b.lt k hk2).2; omega
theorem G2.symm {w W : World} {l x m y : Sl} {L M X Y : List Dt} (h : G2 w W l x m y L M X Y) : G2 w W m y l x M L Y X := ⟨h.b, h.a, fun k h1 h2 => h.d k h2 h1⟩
set_option maxHeartbeats 16000000 in
set_option maxRecDepth 100000 in
/-- heads of the law -/
theorem headsL_ok {w : World} {P : Pd} {c : Cf} {nn rr pp : Nat} {lk : List Int} {f : ByteArray → Sg} {N : Nat} (h : Pr w P c nn rr pp lk f N) (hN : N ≤ 2000000) {key : ByteArray} (hk : key.size ≤ maxLen) : Calls Tryz.prog 70 #[.pointer (some ⟨P.B, 0, none⟩), .string key] w fun r w' => r = .returned (.bool true) ∧ Apart [] w w' := by
  have HP := hid h
  have HPC := hid h.cells
  obtain ⟨D, HD⟩ : ∃ D, Hid (D = (f key).1) := ⟨_, hid rfl⟩
  obtain ⟨n, Hn⟩ : ∃ n, Hid (n = D.length) := ⟨_, hid rfl⟩
  have hn : n ≤ 2000000 := by rw [Hn.out, HD.out]; exact Nat.le_trans (h.s.hd key hk).2.2 hN
  have HHD : Hid (∀ W, Apart [] w W → Calls Tryz.prog 17 #[.pointer (some ⟨P.G.S, 0, none⟩), .string key] W fun r w' => ∃ (p : Option Addr) (c : Nat), r = .returned (.slice p n c) ∧ Nw W w' 34 2 ⟨p, n, c⟩ (flD D)) := fun W a => (heads_ok (h.s.kept0 a) (by omega) hk).mono (fun r w' ⟨s, e, hs⟩ => by
    rw [← HD.out] at hs
    have e2 : s.n = n := by have := hs.own.1; rw [flD_len] at this; rw [Hn.out]; omega
    refine ⟨s.p, s.c, by rw [e, e2], ?_⟩
    rw [← e2]
    exact hs)
  have HRH : Hid (∀ W, Apart [] w W → Calls Tryz.prog 96 #[.pointer (some ⟨P.T.S, 0, none⟩), .string key] W fun r w' => ∃ (p : Option Addr) (c : Nat), r = .returned (.slice p n c) ∧ Apart [] W w' ∧ Rd w' p (flD D)) := fun W a => (rheads_ok (h.r.kept0 a) (by omega) hk).mono (fun r w' ⟨s, e, a2, hs, _⟩ => by
    rw [← HD.out] at hs
    have e2 : s.n = n := by have := hs.1; rw [flD_len] at this; rw [Hn.out]; omega
    exact ⟨s.p, s.c, by rw [e, e2], a2, Rd.own (show w'.ownsRow 0 34 2 (.slice s.p s.n s.c) s.n _ from hs)⟩)
  obtain ⟨v0, v1⟩ := h.cells w (Apart.refl _ _)
  clear h hk
  go_enter Tryz.func70, Tryz.ntmps70
  go_wp2_with fail
  refine (HHD.out w (Apart.refl _ _)).mono ?_
  rintro _ w1 ⟨lp, lc, rfl, hl⟩
  have HL1 := hid hl
  have HA1 := hid hl.ap
  clear hl v0 v1
  obtain ⟨v0, v1⟩ := HPC.out w1 HA1.out
  try dsimp only
  go_wp2_with fail
  refine (HHD.out w1 HA1.out).mono ?_
  rintro _ w2 ⟨mp, mc, rfl, hm⟩
  have HM2 : Hid (Nw w w2 34 2 ⟨mp, n, mc⟩ (flD D)) := hid (hm.from HA1.out)
  have HLM : Hid (∀ k, (Sl.v ⟨lp, n, lc⟩).ownBlock = some k → (Sl.v ⟨mp, n, mc⟩).ownBlock ≠ some k) := hid (fun k h1 h2 => by
    have h3 := (HL1.out.own_p h1).2.2
    have h4 := hm.new k h2
    omega)
  have HL2 := hid (HL1.out.kept hm.ap)
  have HA2 := hid (HA1.out.trans hm.ap)
  clear hm v0 v1 HL1 HA1
  obtain ⟨v0, v1⟩ := HPC.out w2 HA2.out
  try dsimp only
  go_wp2_with fail
  refine (HRH.out w2 HA2.out).mono ?_
  rintro _ w3 ⟨sp, sc, rfl, a3, hs⟩
  have HS3 := hid hs
  have HL3 := hid (HL2.out.kept a3)
  have HM3 := hid (HM2.out.kept a3)
  have HA3 := hid (HA2.out.trans a3)
  clear a3 hs v0 v1 HL2 HM2 HA2
  try dsimp only
  go_wp2_with fail
  refine (sameD_yes HL3.out.rd HS3.out Hn.out.symm (by omega)).mono ?_
  rintro _ w4 ⟨rfl, a4⟩
  have HL4 := hid (HL3.out.kept a4)
  have HM4 := hid (HM3.out.kept a4)
  have HA4 := hid (HA3.out.trans a4)
  clear a4 HL3 HM3 HA3 HS3
  try dsimp only
  go_wp2_with fail
  refine (sameD_yes HM4.out.rd HL4.out.rd Hn.out.symm (by omega)).mono ?_
  rintro _ w5 ⟨rfl, a5⟩
  have HL5 := hid (HL4.out.kept a5)
  have HM5 := hid (HM4.out.kept a5)
  have HA5 := hid (HA4.out.trans a5)
  clear a5 HL4 HM4 HA4
  try dsimp only
  go_wp2_with fail
  go_loopw [8] (fun a wt => ∃ i : Nat, a = .int .i64 (i : Nat) ∧ i ≤ n ∧ Hid (Nw w wt 34 2 ⟨lp, n, lc⟩ (flD (ovD 70 i D)) ∧ Nw w wt 34 2 ⟨mp, n, mc⟩ (flD D))) (fun a _ => n - (intOf a).toNat)
  case atStart => exact ⟨0, rfl, Nat.zero_le _, hid ⟨by simpa [ovD] using HL5.out, HM5.out⟩⟩
  case round =>
    obtain ⟨i, rfl, hile, HI⟩ := hrel
    by_cases hlt : i < n
    · have hlti : ((i : Nat) : Int) < ((n : Nat) : Int) := by omega
      obtain ⟨g, cur, hg, hgo, -⟩ := HI.out.1.blk (show 0 < n by omega)
      simp only at hg
      have HGO := hid hgo
      obtain ⟨⟨x0, hx0⟩, hf0⟩ := ((HI.out.1.ov (g := g) hg).1).cell (i := i * 2) (by simp; omega)
      obtain ⟨⟨x1, hx1⟩, hf1⟩ := ((HI.out.1.ov (g := g) hg).1).cell (i := i * 2 + 1) (by simp; omega)
      obtain ⟨w6, hw6⟩ : ∃ V, V = (wr.setCell ⟨g, i * 2, none⟩ (.int .i64 70)).setCell ⟨g, i * 2 + 1, none⟩ (.int .i64 (i : Nat)) := ⟨_, rfl⟩
      have HE : Hid (Nw w w6 34 2 ⟨lp, n, lc⟩ (flD (ovD 70 (i + 1) D)) ∧ Nw w w6 34 2 ⟨mp, n, mc⟩ (flD D)) := by
        have h1 := HI.out.1.setD HGO.out hlt (70, (i : Int))
        rw [ovD_step 70 i D (by rw [← Hn.out]; exact hlt)] at h1
        rw [hw6]
        refine hid ⟨h1, HI.out.2.off (((Apart.refl [g] wr).setCell (.inl (by simp)) _).setCell (.inl (by simp)) _) h1.ap (fun k hk hm => ?_)⟩
        simp at hm
        rw [hm] at hk
        exact HLM.out g HGO.out hk
      clear hgo
      subst hg
      go_wp2_with fail
      rw [← hw6]
      clear hw6
      go_roundw
      case rel => exact ⟨i + 1, by go_num, by omega, HE⟩
      case measure => simp [intOf]; omega
    · have hlti : ¬ ((i : Nat) : Int) < ((n : Nat) : Int) := by omega
      have hin : i = n := by omega
      have HL6 : Hid (Nw w wr 34 2 ⟨lp, n, lc⟩ (flD (ovD 70 n D))) := by have := HI.out.1; rw [hin] at this; exact hid this
      have HM6 := hid HI.out.2
      clear HI HL5 HM5 HA5 hin
      generalize wr = w6 at *
      go_wp2_with fail
      go_loopw [9] (fun a wt => ∃ i : Nat, a = .int .i64 (i : Nat) ∧ i ≤ n ∧ Hid (Nw w wt 34 2 ⟨lp, n, lc⟩ (flD (ovD 70 n D)) ∧ Nw w wt 34 2 ⟨mp, n, mc⟩ (flD (ovD 80 i D)))) (fun a _ => n - (intOf a).toNat)
      case atStart => exact ⟨0, rfl, Nat.zero_le _, hid ⟨HL6.out, by simpa [ovD] using HM6.out⟩⟩
      case round =>
        obtain ⟨j, rfl, hjle, HI⟩ := hrel
        by_cases hjt : j < n
        · have hlti : ((j : Nat) : Int) < ((n : Nat) : Int) := by omega
          obtain ⟨g, cur, hg, hgo, -⟩ := HI.out.2.blk (show 0 < n by omega)
          simp only at hg
          have HGO := hid hgo
          obtain ⟨⟨x0, hx0⟩, hf0⟩ := ((HI.out.2.ov (g := g) hg).1).cell (i := j * 2) (by simp; omega)
          obtain ⟨⟨x1, hx1⟩, hf1⟩ := ((HI.out.2.ov (g := g) hg).1).cell (i := j * 2 + 1) (by simp; omega)
          obtain ⟨w7, hw7⟩ : ∃ V, V = (wr.setCell ⟨g, j * 2, none⟩ (.int .i64 80)).setCell ⟨g, j * 2 + 1, none⟩ (.int .i64 (j : Nat)) := ⟨_, rfl⟩
          have HE : Hid (Nw w w7 34 2 ⟨lp, n, lc⟩ (flD (ovD 70 n D)) ∧ Nw w w7 34 2 ⟨mp, n, mc⟩ (flD (ovD 80 (j + 1) D))) := by
            have h1 := HI.out.2.setD HGO.out hjt (80, (j : Int))
            rw [ovD_step 80 j D (by rw [← Hn.out]; exact hjt)] at h1
            rw [hw7]
            refine hid ⟨HI.out.1.off (((Apart.refl [g] wr).setCell (.inl (by simp)) _).setCell (.inl (by simp)) _) h1.ap (fun k hk hm => ?_), h1⟩
            simp at hm
            rw [hm] at hk
            exact HLM.out g hk HGO.out
          clear hgo
          subst hg
          go_wp2_with fail
          rw [← hw7]
          clear hw7
          go_roundw
          case rel => exact ⟨j + 1, by go_num, by omega, HE⟩
          case measure => simp [intOf]; omega
        · have hlti : ¬ ((j : Nat) : Int) < ((n : Nat) : Int) := by omega
          have hjn : j = n := by omega
          have HG0 : Hid (G2 w wr ⟨lp, n, lc⟩ ⟨lp, n, lc⟩ ⟨mp, n, mc⟩ ⟨mp, n, mc⟩ (ovD 70 n D) (ovD 80 n D) (ovD 70 n D ++ tailD 71 0) (ovD 80 n D ++ tailD 81 0)) := by
            have h1 := HI.out.1
            have h2 := HI.out.2
            rw [hjn] at h2
            have e1 : ∀ L : List Dt, ∀ a, L ++ tailD a 0 = L := fun L a => by simp [tailD]
            rw [e1, e1]
            exact hid ⟨Gl.self h1, Gl.self h2, fun k k1 k2 => HLM.out k (Bl_self h1 k1) (Bl_self h2 k2)⟩
          clear HI HL6 HM6 hjn
          generalize wr = w7 at *
          have HNL : Hid ((ovD 70 n D).length = n ∧ (ovD 80 n D).length = n) := hid ⟨by rw [ovD_len _ _ _ (by rw [← Hn.out]; exact Nat.le_refl _)]; exact Hn.out.symm, by rw [ovD_len _ _ _ (by rw [← Hn.out]; exact Nat.le_refl _)]; exact Hn.out.symm⟩
          go_wp2_with fail
          go_loopw [10, 11, 12] (fun a b d wt => ∃ (k : Nat) (x y : Sl), a = .slice x.p (n + k : Nat) x.c ∧ b = .slice y.p (n + k : Nat) y.c ∧ d = .int .i64 (k : Nat) ∧ k ≤ 80 ∧ Hid (x.n = n + k ∧ y.n = n + k ∧ G2 w wt ⟨lp, n, lc⟩ x ⟨mp, n, mc⟩ y (ovD 70 n D) (ovD 80 n D) (ovD 70 n D ++ tailD 71 k) (ovD 80 n D ++ tailD 81 k))) (fun _ _ d _ => 80 - (intOf d).toNat)
          case atStart => exact ⟨0, ⟨lp, n, lc⟩, ⟨mp, n, mc⟩, rfl, rfl, rfl, by omega, hid ⟨rfl, rfl, HG0.out⟩⟩
          case round =>
            obtain ⟨k, x, y, rfl, rfl, rfl, hkle, HI⟩ := hrel
            generalize wr = w8 at *
            by_cases hkt : k < 80
            · have hlti : ((k : Nat) : Int) < 80 := by omega
              have htl : ∀ a, (tailD a k).length = k := fun a => by simp [tailD]
              obtain ⟨x', w9, hrun, hg9, hn9⟩ := HI.out.2.2.appX (71, (k : Int)) (by rw [List.length_append, htl, HNL.out.1]; omega)
              rw [HI.out.1] at hrun hn9
              obtain ⟨y', wA, hrun2, hgA, hnA⟩ := hg9.symm.appX (81, (k : Int)) (by rw [List.length_append, htl, HNL.out.2]; omega)
              rw [HI.out.2.1] at hrun2 hnA
              rw [hn9] at hrun
              rw [hnA] at hrun2
              have HRUN := hid hrun
              have HRUN2 := hid hrun2
              have HE : Hid (x'.n = n + (k + 1) ∧ y'.n = n + (k + 1) ∧ G2 w wA ⟨lp, n, lc⟩ x' ⟨mp, n, mc⟩ y' (ovD 70 n D) (ovD 80 n D) (ovD 70 n D ++ tailD 71 (k + 1)) (ovD 80 n D ++ tailD 81 (k + 1))) := by
                rw [tailD_succ, tailD_succ, ← List.append_assoc, ← List.append_assoc]
                exact hid ⟨by omega, by omega, hgA.symm⟩
              clear hrun hrun2 hg9 hgA hn9 hnA htl HI
              go_upto_region 20 with (at_builtin; refine wpList_app2 rfl (.tmp 70) (.tmp 73) 50 50 rfl _ _ rfl rfl _ _ HRUN.out ?_)
              go_wp2_with (at_builtin; refine wpList_app2 rfl (.tmp 75) (.tmp 78) 50 50 rfl _ _ rfl rfl _ _ HRUN2.out ?_)
              go_roundw
              case rel => exact ⟨k + 1, x', y', rfl, rfl, by go_num, by omega, HE⟩
              case measure => simp [intOf]; omega
            · have hlti : ¬ ((k : Nat) : Int) < 80 := by omega
              have hk80 : k = 80 := by omega
              subst hk80
              have HRL : Hid (Rd w8 lp (flD (ovD 70 n D)) ∧ Rd w8 mp (flD (ovD 80 n D)) ∧ Apart [] w w8) := hid ⟨HI.out.2.2.a.rd, HI.out.2.2.b.rd, HI.out.2.2.a.nw.ap⟩
              clear HI HG0
              obtain ⟨v0, v1⟩ := HPC.out w8 HRL.out.2.2
              go_wp2_with fail
              refine (HHD.out w8 HRL.out.2.2).mono ?_
              rintro _ w9 ⟨ap, ac, rfl, ha⟩
              have HAG := hid ha.rd
              have HR9 : Hid (Rd w9 lp (flD (ovD 70 n D)) ∧ Rd w9 mp (flD (ovD 80 n D)) ∧ Apart [] w w9) := hid ⟨HRL.out.1.kept0 ha.ap, HRL.out.2.1.kept0 ha.ap, HRL.out.2.2.trans ha.ap⟩
              clear ha v0 v1 HRL
              try dsimp only
              go_wp2_with fail
              go_loopw [7, 14] (fun a b wt => ∃ i : Nat, a = .bool true ∧ b = .int .i64 (i : Nat) ∧ i ≤ n ∧ wt = w9) (fun _ b _ => n - (intOf b).toNat)
              case atStart => exact ⟨0, rfl, rfl, Nat.zero_le _, rfl⟩
              case round =>
                obtain ⟨i, rfl, rfl, hile2, rfl⟩ := hrel
                by_cases hit : i < n
                · have hlti : ((i : Nat) : Int) < ((n : Nat) : Int) := by omega
                  obtain ⟨A, oa, hA, hAc⟩ := Rd_dot HR9.out.1 (i := i) (by rw [HNL.out.1]; exact hit)
                  obtain ⟨B, ob, hB, hBc⟩ := Rd_dot HR9.out.2.1 (i := i) (by rw [HNL.out.2]; exact hit)
                  rw [ovD_get 70 n i D hit] at hAc
                  rw [ovD_get 80 n i D hit] at hBc
                  obtain ⟨c0, c1⟩ := hAc wr (Apart.refl _ _)
                  obtain ⟨c2, c3⟩ := hBc wr (Apart.refl _ _)
                  simp only at c0 c1 c2 c3
                  clear hAc hBc
                  have hii : (((i : Nat) : Int) == ((i : Nat) : Int)) = true := by simp
                  subst hA hB
                  go_wp2_with fail
                  go_roundw
                  case rel => exact ⟨i + 1, rfl, by go_num, by omega, by first | rfl | trivial⟩
                  case measure => simp [intOf]; omega
                · have hlti : ¬ ((i : Nat) : Int) < ((n : Nat) : Int) := by omega
                  obtain ⟨v0, v1⟩ := HPC.out wr HR9.out.2.2
                  have hn80 : IntKind.i64.wrap (((n : Nat) : Int) + 80) = ((n : Nat) : Int) + 80 := by rw [IntKind.wrap_i64]; omega
                  have hnn : ((((n + 80 : Nat) : Nat) : Int) == ((n : Nat) : Int) + 80) = true := by simp
                  have hnn2 : (((n : Nat) : Int) + 80 == ((n : Nat) : Int) + 80) = true := by simp
                  go_wp2_with fail
                  refine (HRH.out wr HR9.out.2.2).mono ?_
                  rintro _ wA ⟨sp2, sc2, rfl, aA, hs2⟩
                  have HSA := hid hs2
                  have HAGA := hid (HAG.out.kept0 aA)
                  have HAA := hid (HR9.out.2.2.trans aA)
                  clear aA hs2 v0 v1
                  try dsimp only
                  go_wp2_with fail
                  refine (sameD_yes HAGA.out HSA.out Hn.out.symm (by omega)).mono ?_
                  rintro _ wC ⟨rfl, aC⟩
                  have HAC := hid (HAA.out.trans aC)
                  clear aC
                  try dsimp only
                  go_wp2_with fail
                  go_ret
                  exact ⟨rfl, HAC.out⟩
end Go.Proofs.YtpddokbjjhbfgaaGreat.ds
