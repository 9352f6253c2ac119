import Derived.Test.YtdbeeikjngnnnaaGreatC9
namespace Go.Proofs.YtdbeeikjngnnnaaGreat.ty
open Go.ChangeShapes Go.WideShapes Go.ChangeAt Go.RowKit
set_option linter.unusedVariables false
set_option linter.unusedSimpArgs false
set_option maxRecDepth 100000
set_option maxHeartbeats 8000000
structure Es (w : World) (s : Sl) (es : List En) : Prop where
 rd : RdT w s.p 141 (evs es)
 len : s.n = es.length
 cap : s.n ≤ s.c
 ok : s.ok
 row : ∀ x ∈ es, x.t.length = 8
theorem evs_len : ∀ {es : List En}, (∀ x ∈ es, x.t.length = 8) → (evs es).length = es.length * 9
 | [], _ => rfl
 | x :: r, h => by
  have h1 := evs_len (es := r) (fun y hy => h y (List.mem_cons_of_mem _ hy))
  have h2 := h x (by simp)
  simp only [evs, En.vs, List.length_append, List.length_cons, rv_len, h1, h2]
  omega
theorem evs_app (a b : List En) : evs (a ++ b) = evs a ++ evs b := by
 induction a with
 | nil => rfl
 | cons x r ih => simp [evs, ih, List.append_assoc]
theorem En.vs_len {x : En} (h : x.t.length = 8) : x.vs.length = 9 := by simp [En.vs, rv_len, h]
theorem evs_split {es : List En} {i : Nat} (hi : i < es.length) : evs es = evs (es.take i) ++ (es[i].vs ++ evs (es.drop (i + 1))) := by
 rw [← show evs (es[i] :: es.drop (i + 1)) = es[i].vs ++ evs (es.drop (i + 1)) from rfl, ← evs_app, ← List.drop_eq_getElem_cons hi, List.take_append_drop]
theorem Es.at {w : World} {s : Sl} {es : List En} (h : Es w s es) (i : Nat) (hi : i < es.length) : ∃ P o, s.p = some ⟨P, o, none⟩ ∧ w.rangeAt P (o + i * 9) es[i].vs ∧ P < w.heap.size := by
 have hl := evs_len h.row
 obtain ⟨P, o, e, ⟨cur, m, hb⟩, hc⟩ := h.rd (by omega)
 refine ⟨P, o, e, fun j v hj => ?_, lt_of_heapM hb⟩
 have hx : es[i].vs.length = 9 := En.vs_len (h.row _ (List.getElem_mem hi))
 have hjl : j < 9 := by
  by_cases hc : j < 9
  ·exact hc
  ·rw [List.getElem?_eq_none (by omega)] at hj; cases hj
 have ht : (evs (es.take i)).length = i * 9 := by
  rw [evs_len (fun x hx => h.row x (List.mem_of_mem_take hx)), List.length_take]
  congr 1; omega
 rw [Nat.add_assoc]
 refine hc _ _ ?_
 rw [evs_split hi, List.getElem?_append_right (by omega), ht, List.getElem?_append_left (by omega)]
 rw [show i * 9 + j - i * 9 = j from by omega]
 exact hj
theorem Es.kept {w w' : World} {s : Sl} {es : List En} {X : List Nat} (h : Es w s es) (a : Apart X w w') (hX : ∀ k ∈ X, ∀ cur m, w.heap[k]? ≠ some (.cells cur 141 m)) : Es w' s es := ⟨h.rd.kept a hX, h.len, h.cap, h.ok, h.row⟩
theorem Es.kept0 {w w' : World} {s : Sl} {es : List En} (h : Es w s es) (a : Apart [] w w') : Es w' s es := h.kept a (by simp)
theorem Es.nil (w : World) : Es w ⟨none, 0, 0⟩ [] := ⟨RdT.nil _ _ _, rfl, Nat.le_refl _, fun _ => ⟨rfl, rfl⟩, by simp⟩
theorem ex_load106 {W : World} {eval : Operand → Value} {op : Oper} (x : Operand) (ho : op.op = .load 141 x) (b o : Nat) (cs : List Value) (hx : eval x = .pointer (some ⟨b, o, none⟩)) (hc : W.rangeAt b o cs) (hl : cs.length = 9) : (execOp eval op).run Tryz.prog W = .ok (.value (.agg cs.toArray)) W := by
 unfold execOp
 simp only [ho, hx, Instr.loadAt, Instr.sureAddr, Sem.run_bind, Sem.run_pure, Result.andThen_ok, run_loadVar_mid W b o 141 cs _ hc Tryz.underlying141 rfl (by rw [size106, hl])]
theorem ex_half {W : World} {eval : Operand → Value} {op : Oper} (x : Operand) (l h m : Nat) (ho : op.op = .binOp .shr 132 x (.const (.int .u64 1)) 132) (hx : eval x = .int .u64 ((l : Int) + (h : Int))) (hk : eval (.const (.int .u64 1)) = .int .u64 1) (hm : ((l : Int) + (h : Int)) / 2 = (m : Int)) : (execOp eval op).run Tryz.prog W = .ok (.value (.int .u64 (m : Int))) W := by
 unfold execOp
 simp only [ho, hx, hk]
 rw [← hm]
 go_simp
theorem wpL_valG {P : Program} {ops : Array Oper} {rest : List Oper} {o : Oper} {a : Act} {w : World} {Q : Exit → Act → World → Prop} (hw : Region.wanted o (yielded ops a.tmps) = true) (v : Value) (h : (execOp a.eval o).run P w = .ok (.value v) w) (hK : wpList P ops Q rest (a.put o.dst v) w) : wpList P ops Q (o :: rest) a w := by
 refine wpList_step fun K hK' => ?_
 rw [if_pos hw]
 unfold Oper.wp
 rw [h]
 exact hK' _ _ hK
structure Fo (es : List En) (x : ByteArray) (k : Nat) : Prop where
 le : k ≤ es.length
 lt : ∀ i (h : i < es.length), i < k → bl es[i].e x = true
 ge : ∀ i (h : i < es.length), k ≤ i → bl es[i].e x = false
def fnd (es : List En) (x : ByteArray) (k : Nat) : Bool := match es[k]? with
 | some y => cb y.e x == 0
 | none => false
theorem so_lt {es : List En} (h : So es) {i j : Nat} (hi : i < es.length) (hj : j < es.length) (hij : i < j) : bl es[i].e es[j].e = true := List.pairwise_iff_getElem.1 h i j hi hj hij
theorem search_ok {w : World} {s : Sl} {es : List En} (h : Es w s es) (hs : So es) (hn : es.length ≤ 1000000) (x : ByteArray) : Calls Tryz.prog 122 #[.slice s.p s.n s.c, .string x, .func (.func 123) #[] #[]] w fun r w' => ∃ k : Nat, r = .returned (.tuple #[.int .i64 (k : Int), .bool (fnd es x k)]) ∧ Fo es x k ∧ Apart [] w w' := by
 have HE := hid h
 have HS := hid hs
 have HC := hid cel_ok
 obtain ⟨N, HN⟩ : ∃ N, Hid (N = es.length) := ⟨_, hid rfl⟩
 have hNl : N ≤ 1000000 := by rw [HN.out]; exact hn
 have hsn : s.n = N := by rw [HN.out]; exact h.len
 rw [hsn]
 clear h hs hn hsn
 go_enter Tryz.func122, Tryz.ntmps122
 go_wp2_with fail
 go_loopw [9, 10] (fun a b wt => ∃ l h : Nat, a = .int .i64 (l : Nat) ∧ b = .int .i64 (h : Nat) ∧ l ≤ h ∧ h ≤ N ∧ Hid (Apart [] w wt) ∧ Hid (∀ i (hi : i < es.length), i < l → bl es[i].e x = true) ∧ Hid (∀ i (hi : i < es.length), h ≤ i → bl es[i].e x = false)) (fun a b _ => (intOf b).toNat - (intOf a).toNat)
 case atStart => exact ⟨0, N, rfl, rfl, Nat.zero_le _, Nat.le_refl _, hid (Apart.refl _ _), hid (fun i _ h => absurd h (by omega)), hid (fun i hi h => absurd h (by have := HN.out; omega))⟩
 case round =>
  obtain ⟨l, h, rfl, rfl, hlh, hhN, HA, HL, HG⟩ := hrel
  generalize wr = wt at *
  by_cases hlt : l < h
  ·have hlti : ((l : Nat) : Int) < ((h : Nat) : Int) := by omega
   obtain ⟨m, hm⟩ : ∃ m, m = (l + h) / 2 := ⟨_, rfl⟩
   have Hml : Hid (m < es.length) := hid (by rw [← HN.out]; omega)
   obtain ⟨P, o, hp, hr, hP⟩ := (HE.out.kept0 HA.out).at m Hml.out
   have HR := hid hr
   have HX : Hid ((es[m]'Hml.out).vs.length = 9) := hid (En.vs_len (HE.out.row _ (List.getElem_mem _)))
   obtain ⟨y, Hy⟩ : ∃ y, Hid (y = es[m]'Hml.out) := ⟨_, hid rfl⟩
   rw [← Hy.out] at HR HX
   have hmm : ((l : Int) + (h : Int)) / 2 = (m : Int) := by omega
   have hmN : m < N := by omega
   have hlm : l ≤ m := by omega
   have hmh : m < h := by omega
   rw [hp]
   clear hr hP hp hm
   by_cases hb : cb y.e x < 0
   ·have HBL : Hid (bl (es[m]'Hml.out).e x = true) := hid (by rw [← Hy.out]; exact (cb_lt _ _).1 hb)
    go_wp2_with (first | (refine wpL_val rfl (.int .u64 (m : Int)) (ex_half _ l h m rfl rfl rfl hmm) ?_) | (refine wpL_val rfl (.agg y.vs.toArray) (ex_load106 _ rfl P (o + m * 9) _ (by first | rfl | simp [hmm]) HR.out HX.out) ?_) | (go_at_call 123; refine (HC.out _ y x).mono ?_; rintro _ w2 ⟨rfl, a2⟩; have HA2 := hid (HA.out.trans a2); clear a2))
    refine ⟨⟨m + 1, h, by go_num, rfl, by omega, hhN, HA2, ?_, HG⟩, by simp [intOf]; omega⟩
    unfold Hid
    intro i hi hil
    rcases Nat.lt_or_ge i m with h1 | h1
    ·exact bl_trans (so_lt HS.out hi Hml.out h1) HBL.out
    ·obtain rfl : i = m := by omega
     exact HBL.out
   ·have HBL : Hid (bl (es[m]'Hml.out).e x = false) := hid (by rw [← Hy.out]; exact Bool.eq_false_iff.2 (fun e => hb ((cb_lt _ _).2 e)))
    go_wp2_with (first | (refine wpL_val rfl (.int .u64 (m : Int)) (ex_half _ l h m rfl rfl rfl hmm) ?_) | (refine wpL_val rfl (.agg y.vs.toArray) (ex_load106 _ rfl P (o + m * 9) _ (by first | rfl | simp [hmm]) HR.out HX.out) ?_) | (go_at_call 123; refine (HC.out _ y x).mono ?_; rintro _ w2 ⟨rfl, a2⟩; have HA2 := hid (HA.out.trans a2); clear a2))
    refine ⟨⟨l, m, rfl, rfl, hlm, by omega, HA2, HL, ?_⟩, by simp [intOf]; omega⟩
    unfold Hid
    intro i hi hil
    rcases Nat.lt_or_ge m i with h1 | h1
    ·cases hq : bl es[i].e x
     ·rfl
     ·have := bl_trans (so_lt HS.out Hml.out hi h1) hq
      rw [HBL.out] at this; cases this
    ·obtain rfl : i = m := by omega
     exact HBL.out
  ·have hlti : ¬ ((l : Nat) : Int) < ((h : Nat) : Int) := by omega
   obtain rfl : l = h := by omega
   have HF : Hid (Fo es x l) := hid ⟨by rw [← HN.out]; exact hhN, HL.out, HG.out⟩
   by_cases hlN : l < N
   ·have hlNi : ((l : Nat) : Int) < ((N : Nat) : Int) := by omega
    have Hml : Hid (l < es.length) := hid (by rw [← HN.out]; exact hlN)
    obtain ⟨P, o, hp, hr, hP⟩ := (HE.out.kept0 HA.out).at l Hml.out
    have HR := hid hr
    have HX : Hid ((es[l]'Hml.out).vs.length = 9) := hid (En.vs_len (HE.out.row _ (List.getElem_mem _)))
    obtain ⟨y, Hy⟩ : ∃ y, Hid (y = es[l]'Hml.out) := ⟨_, hid rfl⟩
    rw [← Hy.out] at HR HX
    have HQ : Hid (fnd es x l = (cb y.e x == 0)) := hid (by unfold fnd; rw [List.getElem?_eq_getElem Hml.out, ← Hy.out])
    rw [hp]
    clear hr hP hp
    go_wp2_with (first | (refine wpL_valG rfl (.agg y.vs.toArray) (ex_load106 _ rfl P (o + l * 9) _ rfl HR.out HX.out) ?_) | (go_at_call 123; refine (HC.out _ y x).mono ?_; rintro _ w2 ⟨rfl, a2⟩; have HA2 := hid (HA.out.trans a2); clear a2))
    go_ret2
    exact ⟨l, by rw [HQ.out]; rfl, HF.out, HA2.out⟩
   ·have hlNi : ¬ ((l : Nat) : Int) < ((N : Nat) : Int) := by omega
    have HQ : Hid (fnd es x l = false) := hid (by unfold fnd; rw [List.getElem?_eq_none (by rw [← HN.out]; omega)])
    go_wp2_with fail
    go_ret2
    exact ⟨l, by rw [HQ.out]; rfl, HF.out, HA.out⟩
def sv (c : List Int) (s : Sl) : Array Value := (rv c ++ [Value.slice s.p s.n s.c]).toArray
theorem sv_size {c : List Int} (h : c.length = 8) (s : Sl) : (sv c s).size = 9 := by simp [sv, rv_len, h]
theorem sv_cell {W : World} {X t : Nat} {c : List Int} {s : Sl} (hc : c.length = 8) (h : W.heap[X]? = some (.cells (sv c s) t (0, 0))) : W.cell? ⟨X, 8, none⟩ = some (.slice s.p s.n s.c) := by
 rw [cell_of_row _ _ _ _ _ _ h]
 simp [sv, rv_len, hc, List.getElem?_append_right]
theorem sv_row {W : World} {X t : Nat} {c : List Int} {s : Sl} (h : W.heap[X]? = some (.cells (sv c s) t (0, 0))) : W.rangeAt X 0 (rv c) := by
 intro j v hj
 have hjl : j < (rv c).length := by
  by_cases hc : j < (rv c).length
  ·exact hc
  ·rw [List.getElem?_eq_none (by omega)] at hj; cases hj
 rw [cell_of_row _ _ _ _ _ _ h, Nat.zero_add]
 simp only [sv, List.getElem?_toArray]
 rw [List.getElem?_append_left hjl]; exact hj
theorem sz106 (W : World) : (sizeOf 141).run Tryz.prog W = .ok 9 W := by kernel_rfl
theorem el89 : Tryz.prog.elem 102 = 141 := by kernel_rfl
def Sl.pre (s : Sl) (k : Nat) : Sl := ⟨if s.c = 0 then s.p else s.p.map (·.add (0 * 9)), k, s.c⟩
def Sl.post (s : Sl) (k : Nat) : Sl := ⟨if s.c = k then s.p else s.p.map (·.add (k * 9)), s.n - k, s.c - k⟩
theorem ul89 : Tryz.prog.underlying 102 = some (.slice (Tryz.prog.elem 102)) := by rw [el89]; exact Tryz.underlying102
theorem ex_pre {W : World} {eval : Operand → Value} {op : Oper} (s : Sl) (k : Nat) (x y : Operand) (ho : op.op = .slice 102 x none (some y) none) (hx : eval x = .slice s.p s.n s.c) (hy : eval y = .int .i64 (k : Int)) (hk : k ≤ s.c) : (execOp eval op).run Tryz.prog W = .ok (.value (.slice (s.pre k).p (s.pre k).n (s.pre k).c)) W := by
 unfold execOp
 simp only [ho, hx, Option.map_some, Option.map_none, hy, Sem.run_bind, run_sliceAt_slice W 102 _ _ _ _ ul89, run_slice_h W 102 s.p s.n s.c ul89 .i64 (k : Int) (by omega) (by omega), el89, sz106, Result.andThen_ok, Sem.run_pure]
 simp [sliced, Sl.pre]
theorem ex_post {W : World} {eval : Operand → Value} {op : Oper} (s : Sl) (k : Nat) (x y : Operand) (ho : op.op = .slice 102 x (some y) none none) (hx : eval x = .slice s.p s.n s.c) (hy : eval y = .int .i64 (k : Int)) (hk : k ≤ s.n) : (execOp eval op).run Tryz.prog W = .ok (.value (.slice (s.post k).p (s.post k).n (s.post k).c)) W := by
 unfold execOp
 simp only [ho, hx, Option.map_some, Option.map_none, hy, Sem.run_bind, run_sliceAt_slice W 102 _ _ _ _ ul89, run_slice_l W 102 s.p s.n s.c ul89 .i64 (k : Int) (by omega) (by omega), el89, sz106, Result.andThen_ok, Sem.run_pure]
 simp [sliced, Sl.post]
theorem Es.pre {w : World} {s : Sl} {es : List En} (h : Es w s es) {k : Nat} (hk : k ≤ es.length) : Es w (s.pre k) (es.take k) := by
 refine ⟨fun h0 => ?_, by simp [Sl.pre]; omega, by have := h.len; have := h.cap; show k ≤ s.c; omega, fun hp => ?_, fun x hx => h.row x (List.mem_of_mem_take hx)⟩
 ·have e : evs es = evs (es.take k) ++ evs (es.drop k) := by rw [← evs_app, List.take_append_drop]
  obtain ⟨P, o, e1, hb, hc⟩ := h.rd (by rw [e, List.length_append]; omega)
  refine ⟨P, o, ?_, hb, fun j u hj => hc j u ?_⟩
  ·simp only [Sl.pre, e1, Option.map_some, Addr.add_lit, Nat.zero_mul, Nat.add_zero, ite_self]
  ·rw [e, List.getElem?_append_left (by have := (List.getElem?_eq_some_iff.1 hj).1; exact this)]; exact hj
 ·have hn : s.p = none := by
   simp only [Sl.pre] at hp
   split at hp
   ·exact hp
   ·simpa using hp
  have h1 := h.ok hn
  have h2 := h.len
  exact ⟨by show k = 0; omega, h1.2⟩
theorem Es.post {w : World} {s : Sl} {es : List En} (h : Es w s es) {k : Nat} (hk : k ≤ es.length) : Es w (s.post k) (es.drop k) := by
 have hl := h.len
 have hcp := h.cap
 refine ⟨fun h0 => ?_, by simp [Sl.post]; omega, by show s.n - k ≤ s.c - k; omega, fun hp => ?_, fun x hx => h.row x (List.mem_of_mem_drop hx)⟩
 ·have e : evs es = evs (es.take k) ++ evs (es.drop k) := by rw [← evs_app, List.take_append_drop]
  have ht : (evs (es.take k)).length = k * 9 := by
   rw [evs_len (fun x hx => h.row x (List.mem_of_mem_take hx)), List.length_take]
   congr 1; omega
  have hd : (es.drop k).length ≠ 0 := by
   intro h1
   rw [List.length_eq_zero_iff.1 h1] at h0
   simp [evs] at h0
  rw [List.length_drop] at hd
  obtain ⟨P, o, e1, hb, hc⟩ := h.rd (by rw [e, List.length_append]; omega)
  refine ⟨P, o + k * 9, ?_, hb, fun j u hj => ?_⟩
  ·simp only [Sl.post, e1, Option.map_some, Addr.add_lit]
   rw [if_neg (by omega)]
  ·rw [Nat.add_assoc]
   refine hc _ _ ?_
   rw [e, List.getElem?_append_right (by omega), ht, show k * 9 + j - k * 9 = j from by omega]
   exact hj
 ·have hn : s.p = none := by
   simp only [Sl.post] at hp
   split at hp
   ·exact hp
   ·simpa using hp
  have h1 := h.ok hn
  exact ⟨by show s.n - k = 0; omega, by show s.c - k = 0; omega⟩
theorem Fo.take {es : List En} {x : ByteArray} {k : Nat} (h : Fo es x k) : es.take k = lo es x := by
 have e : es = es.take k ++ es.drop k := (List.take_append_drop k es).symm
 unfold lo
 conv => rhs; rw [e]
 rw [List.filter_append]
 have h1 : (es.take k).filter (fun y => bl y.e x) = es.take k := by
  apply List.filter_eq_self.2
  intro y hy
  obtain ⟨i, hi, rfl⟩ := List.getElem_of_mem hy
  rw [List.length_take] at hi
  rw [List.getElem_take]
  exact h.lt i (by omega) (by omega)
 have h2 : (es.drop k).filter (fun y => bl y.e x) = [] := by
  apply List.filter_eq_nil_iff.2
  intro y hy
  obtain ⟨i, hi, rfl⟩ := List.getElem_of_mem hy
  rw [List.length_drop] at hi
  rw [List.getElem_drop, h.ge (k + i) (by omega) (by omega)]
  simp
 rw [h1, h2, List.append_nil]
theorem Fo.hi_of {es : List En} {x : ByteArray} {k m : Nat} (h : Fo es x k) (hs : So es) (hkm : k ≤ m) (hg : ∀ i (hi : i < es.length), m ≤ i → bl x es[i].e = true) (hl : ∀ i (hi : i < es.length), i < m → bl x es[i].e = false) : es.drop m = hi es x := by
 have e : es = es.take m ++ es.drop m := (List.take_append_drop m es).symm
 unfold hi
 conv => rhs; rw [e]
 rw [List.filter_append]
 have h1 : (es.drop m).filter (fun y => bl x y.e) = es.drop m := by
  apply List.filter_eq_self.2
  intro y hy
  obtain ⟨i, hi, rfl⟩ := List.getElem_of_mem hy
  rw [List.length_drop] at hi
  rw [List.getElem_drop]
  exact hg (m + i) (by omega) (by omega)
 have h2 : (es.take m).filter (fun y => bl x y.e) = [] := by
  apply List.filter_eq_nil_iff.2
  intro y hy
  obtain ⟨i, hi, rfl⟩ := List.getElem_of_mem hy
  rw [List.length_take] at hi
  rw [List.getElem_take, hl i (by omega) (by omega)]
  simp
 rw [h1, h2, List.nil_append]
theorem bl_asym {a b : ByteArray} (h : bl a b = true) : bl b a = false := by
 cases hq : bl b a
 ·rfl
 ·have := bl_trans h hq; rw [bl_irrefl] at this; cases this
theorem Fo.found {es : List En} {x : ByteArray} {k : Nat} (h : Fo es x k) (hs : So es) (hf : fnd es x k = true) : k + 1 ≤ es.length ∧ es.drop (k + 1) = ty.hi es x := by
 unfold fnd at hf
 split at hf
 ·rename_i y hy
  obtain ⟨hk, hy⟩ := List.getElem?_eq_some_iff.1 hy
  have he : es[k].e = x := (cb_eq _ _).1 (by rw [hy]; simpa using hf)
  refine ⟨hk, h.hi_of hs (by omega) (fun i hi him => ?_) (fun i hi him => ?_)⟩
  ·rw [← he]; exact so_lt hs hk hi (by omega)
  ·rcases Nat.lt_or_ge i k with h1 | h1
   ·exact bl_asym (h.lt i hi h1)
   ·obtain rfl : i = k := by omega
    rw [he, bl_irrefl]
 ·cases hf
theorem Fo.lost {es : List En} {x : ByteArray} {k : Nat} (h : Fo es x k) (hs : So es) (hf : fnd es x k = false) : es.drop k = ty.hi es x := by
 refine h.hi_of hs (Nat.le_refl _) (fun i hi him => ?_) (fun i hi him => bl_asym (h.lt i hi him))
 have h1 := h.ge i hi him
 cases hq : bl x es[i].e
 ·exfalso
  have he := bl_total h1 hq
  rcases Nat.lt_or_ge k i with h2 | h2
  ·have h3 := so_lt hs (show k < es.length by omega) hi h2
   rw [he, h.ge k (by omega) (Nat.le_refl _)] at h3
   cases h3
  ·obtain rfl : i = k := by omega
   unfold fnd at hf
   rw [List.getElem?_eq_getElem hi] at hf
   simp only [beq_eq_false_iff_ne, ne_eq, cb_eq] at hf
   exact hf he
 ·rfl
theorem around_ok {w : World} {c : List Int} {s : Sl} {es : List En} (hc : c.length = 8) (h : Es w s es) (hs : So es) (hn : es.length ≤ 1000000) (x : ByteArray) : Calls Tryz.prog 120 #[.agg (sv c s), .string x] w fun r w' => ∃ a b : Sl, r = .returned (.tuple #[.slice a.p a.n a.c, .slice b.p b.n b.c]) ∧ Apart [] w w' ∧ Es w' a (lo es x) ∧ Es w' b (hi es x) := by
 have HE := hid h
 have HS := hid hs
 have Hc := hid hc
 have Hn := hid hn
 clear h hs hc hn
 have HA := hid (Apart.refl [] w)
 go_enter Tryz.func120, Tryz.ntmps120
 go_upto_region 1 with fail
 obtain ⟨X, HXX⟩ : ∃ X, Hid (X = w.heap.size) := ⟨_, rfl⟩
 obtain ⟨w1, hw1⟩ : ∃ W, W = w.alloc (.cells (sv c s) 104) := ⟨_, rfl⟩
 have HSw1 : Hid (Apart [] w w1) := hid (zM hw1)
 have HBX : Hid (w1.heap[X]? = some (.cells (sv c s) 104 (0, 0))) := hid (zN HXX.out hw1)
 replace HA := hid (HA.out.trans HSw1.out)
 rw [← hw1, ← HXX.out]
 clear hw1 HXX
 have z : w1.cell? ⟨X, 8, none⟩ = some (.slice s.p s.n s.c) := sv_cell Hc.out HBX.out
 have HC := hid (search_ok (HE.out.kept0 HSw1.out) HS.out Hn.out x)
 go_upto_region 2 with (go_at_call 122; refine HC.out.mono ?_; rintro _ w2 ⟨k, rfl, f2, a2⟩; have HF := hid f2; have HS2 := hid a2; clear f2 a2)
 clear z HC
 have hle : k ≤ s.n := by have h1 := HF.out.le; rw [HE.out.len]; exact h1
 have hlc : k ≤ s.c := Nat.le_trans hle HE.out.cap
 have hle2 : k ≤ 1000000 := by have h1 := HF.out.le; have h2 := Hn.out; omega
 replace HA := hid (HA.out.trans HS2.out)
 replace HBX := hid (keep0 HS2.out HBX.out)
 clear HS2 HSw1
 obtain ⟨f, Hf⟩ : ∃ f, Hid (f = fnd es x k) := ⟨_, hid rfl⟩
 rw [← Hf.out]
 cases f
 ·have HD : Hid (es.drop k = hi es x) := hid (HF.out.lost HS.out Hf.out.symm)
  go_upto_region 4 with fail
  refine wp_region_held_drew (S := fun W => Apart [] w2 W) (by kernel_rfl) (Apart.refl [] w2).drew fun hHeld => ?_
  generalize w2.drew = wd at *
  refine zt 0 25 ?_
  simp only [zA,zB,zC,zD,zF]
  refine tk 1 26 (.slice s.p s.n s.c) rfl ?_ ?_
  ·intro W hSW; have z := sv_cell Hc.out (keep0 hSW HBX.out); go_simp
  refine zt 2 27 ?_
  simp only [zA,zB,zC,zD,zF]
  refine tk 3 28 (.slice (s.pre k).p (s.pre k).n (s.pre k).c) rfl ?_ ?_
  ·intro W hSW; exact ex_pre s k _ _ rfl rfl rfl hlc
  refine zt 4 29 ?_
  simp only [zA,zB,zC,zD,zF]
  refine tk 5 30 (.slice s.p s.n s.c) rfl ?_ ?_
  ·intro W hSW; have z := sv_cell Hc.out (keep0 hSW HBX.out); go_simp
  refine zt 6 31 ?_
  simp only [zA,zB,zC,zD,zF]
  refine tk 7 32 (.slice (s.post k).p (s.post k).n (s.post k).c) rfl ?_ ?_
  ·intro W hSW; exact ex_post s k _ _ rfl rfl rfl hle
  refine zt 8 4 ?_
  refine zt 9 5 ?_
  simp only [zA,zB,zC,zD,zF]
  refine wpAnyH_done (by kernel_rfl) ?_ _
  have HA3 := hid (HA.out.trans hHeld)
  clear hHeld
  go_wp2_with fail
  go_ret2
  exact ⟨_, _, rfl, HA3.out, by rw [← HF.out.take]; exact (HE.out.kept0 HA3.out).pre HF.out.le, by rw [← HD.out]; exact (HE.out.kept0 HA3.out).post HF.out.le⟩
 ·have HD : Hid (k + 1 ≤ es.length ∧ es.drop (k + 1) = hi es x) := hid (HF.out.found HS.out Hf.out.symm)
  have hk1 : k + 1 ≤ s.n := by rw [HE.out.len]; exact HD.out.1
  go_upto_region 3 with fail
  refine wp_region_held_drew (S := fun W => Apart [] w2 W) (by kernel_rfl) (Apart.refl [] w2).drew fun hHeld => ?_
  generalize w2.drew = wd at *
  refine zt 0 16 ?_
  simp only [zA,zB,zC,zD,zF]
  refine tk 1 17 (.slice s.p s.n s.c) rfl ?_ ?_
  ·intro W hSW; have z := sv_cell Hc.out (keep0 hSW HBX.out); go_simp
  refine zt 2 18 ?_
  simp only [zA,zB,zC,zD,zF]
  refine tk 3 19 (.slice (s.pre k).p (s.pre k).n (s.pre k).c) rfl ?_ ?_
  ·intro W hSW; exact ex_pre s k _ _ rfl rfl rfl hlc
  refine zt 4 20 ?_
  simp only [zA,zB,zC,zD,zF]
  refine tk 5 21 (.slice s.p s.n s.c) rfl ?_ ?_
  ·intro W hSW; have z := sv_cell Hc.out (keep0 hSW HBX.out); go_simp
  refine zt 6 22 ?_
  simp only [zA,zB,zC,zD,zF]
  refine tk 7 23 (.int .i64 ((k + 1 : Nat) : Int)) rfl ?_ ?_
  ·intro W hSW; go_simp; have e64 : IntKind.i64.wrap ((k : Int) + 1) = (k : Int) + 1 := IntWalk.i64_in _ (by omega); exact e64
  simp only [zA,zB,zC,zD,zF]
  refine tk 8 24 (.slice (s.post (k + 1)).p (s.post (k + 1)).n (s.post (k + 1)).c) rfl ?_ ?_
  ·intro W hSW; exact ex_post s (k + 1) _ _ rfl rfl rfl hk1
  refine zt 9 4 ?_
  refine zt 10 5 ?_
  simp only [zA,zB,zC,zD,zF]
  refine wpAnyH_done (by kernel_rfl) ?_ _
  have HA3 := hid (HA.out.trans hHeld)
  clear hHeld
  go_wp2_with fail
  go_ret2
  exact ⟨_, _, rfl, HA3.out, by rw [← HF.out.take]; exact (HE.out.kept0 HA3.out).pre HF.out.le, by rw [← HD.out.2]; exact (HE.out.kept0 HA3.out).post HD.out.1⟩
def leaE (m t : List En) : ByteArray := match m, t with
 | [], [] => ⟨#[]⟩
 | [], y :: _ => y.e
 | x :: _, [] => x.e
 | x :: _, y :: _ => Lib.minS x.e y.e
theorem Es.first {w : World} {s : Sl} {x : En} {r : List En} (h : Es w s (x :: r)) : ∃ P o, s.p = some ⟨P, o, none⟩ ∧ w.rangeAt P o x.vs ∧ P < w.heap.size := by
 obtain ⟨P, o, h1, h2, h3⟩ := h.at 0 (by simp)
 rw [Nat.zero_mul, Nat.add_zero] at h2
 exact ⟨P, o, h1, h2, h3⟩
theorem least_right {w : World} {a b : Sl} {y : En} {t : List En} (ha : a.n = 0) (hb : Es w b (y :: t)) (hl : b.n ≤ 1000000) : Calls Tryz.prog 66 #[.slice a.p a.n a.c, .slice b.p b.n b.c] w fun r w' => r = .returned (.string y.e) ∧ Apart [] w w' := by
 obtain ⟨P, o, hp, hr, hP⟩ := hb.first
 have z : w.cell? ⟨P, o, none⟩ = some (.string y.e) := by have := hr 0 _ rfl; rwa [Nat.add_zero] at this
 have hn : ((b.n : Nat) : Int) > 0 := by have := hb.len; simp at this; omega
 have hn2 : (0 : Int) < ((b.n : Nat) : Int) := hn
 rw [ha, hp]
 clear hb hr hP hp ha
 go_enter Tryz.func66, Tryz.ntmps66
 go_wp2_with fail
 go_ret
 exact ⟨rfl, Apart.refl _ _⟩
theorem least_left {w : World} {a b : Sl} {x : En} {m : List En} (ha : Es w a (x :: m)) (hb : b.n = 0) (hl : a.n ≤ 1000000) : Calls Tryz.prog 66 #[.slice a.p a.n a.c, .slice b.p b.n b.c] w fun r w' => r = .returned (.string x.e) ∧ Apart [] w w' := by
 obtain ⟨P, o, hp, hr, hP⟩ := ha.first
 have z : w.cell? ⟨P, o, none⟩ = some (.string x.e) := by have := hr 0 _ rfl; rwa [Nat.add_zero] at this
 have hn : (0 : Int) < ((a.n : Nat) : Int) := by have := ha.len; simp at this; omega
 have hne : (((a.n : Nat) : Int) == 0) = false := by simp only [beq_eq_false_iff_ne]; omega
 rw [hb, hp]
 clear ha hr hP hp hb
 go_enter Tryz.func66, Tryz.ntmps66
 go_wp2_with fail
 go_ret
 exact ⟨rfl, Apart.refl _ _⟩
theorem least_both {w : World} {a b : Sl} {x y : En} {m t : List En} (ha : Es w a (x :: m)) (hb : Es w b (y :: t)) (hl : a.n ≤ 1000000) (hl' : b.n ≤ 1000000) : Calls Tryz.prog 66 #[.slice a.p a.n a.c, .slice b.p b.n b.c] w fun r w' => r = .returned (.string (Lib.minS x.e y.e)) ∧ Apart [] w w' := by
 obtain ⟨P, o, hp, hr, hP⟩ := ha.first
 obtain ⟨P', o', hp', hr', hP'⟩ := hb.first
 have HZ : Hid (w.cell? ⟨P, o, none⟩ = some (.string x.e)) := hid (by have := hr 0 _ rfl; rwa [Nat.add_zero] at this)
 have HZ' : Hid (w.cell? ⟨P', o', none⟩ = some (.string y.e)) := hid (by have := hr' 0 _ rfl; rwa [Nat.add_zero] at this)
 have HP := hid hP
 have HP' := hid hP'
 have hn : (0 : Int) < ((a.n : Nat) : Int) := by have := ha.len; simp at this; omega
 have hne : (((a.n : Nat) : Int) == 0) = false := by simp only [beq_eq_false_iff_ne]; omega
 have hn' : (0 : Int) < ((b.n : Nat) : Int) := by have := hb.len; simp at this; omega
 have hne' : (((b.n : Nat) : Int) == 0) = false := by simp only [beq_eq_false_iff_ne]; omega
 have hm := fun (wx : World) (ts : Array TypeId) (ty : TypeId) => Lib.run_min_strs (P := Tryz.prog) wx ts ty x.e y.e
 obtain ⟨z, Hz⟩ : ∃ z, Hid (z = Lib.minS x.e y.e) := ⟨_, hid rfl⟩
 rw [← Hz.out] at hm ⊢
 rw [hp, hp']
 clear ha hb hr hr' hp hp' hP hP'
 go_enter Tryz.func66, Tryz.ntmps66
 go_upto_region 5 with fail
 refine wp_region_held_drew (S := fun W => Apart [] w W) (by kernel_rfl) (Apart.refl [] w).drew fun hHeld => ?_
 generalize w.drew = wd at *
 refine zt 0 19 ?_
 simp only [zA,zB,zC,zD,zF]
 refine tk 1 20 (.pointer (some ⟨P, o, none⟩)) rfl ?_ ?_
 ·intro W hSW; go_simp; intro e; omega
 refine zt 2 21 ?_
 simp only [zA,zB,zC,zD,zF]
 refine tk 3 22 (.string x.e) rfl ?_ ?_
 ·intro W hSW; have z := (hSW.cell (p := ⟨P, o, none⟩) HP.out (by simp)).trans HZ.out; go_simp
 refine zt 4 23 ?_
 simp only [zA,zB,zC,zD,zF]
 refine tk 5 24 (.pointer (some ⟨P', o', none⟩)) rfl ?_ ?_
 ·intro W hSW; go_simp; intro e; omega
 refine zt 6 25 ?_
 simp only [zA,zB,zC,zD,zF]
 refine tk 7 26 (.string y.e) rfl ?_ ?_
 ·intro W hSW; have z := (hSW.cell (p := ⟨P', o', none⟩) HP'.out (by simp)).trans HZ'.out; go_simp
 refine zt 8 27 ?_
 refine zt 9 4 ?_
 simp only [zA,zB,zC,zD,zF]
 refine wpAnyH_done (by kernel_rfl) ?_ _
 have HSd := hid hHeld
 clear hHeld
 go_wp2_with fail
 go_ret
 exact ⟨rfl, HSd.out⟩
theorem build91 {u : List Int} (hu : u.length = 8) (W : World) : (Instr.build 104 #[(1, .agg (rv u).toArray)]).run Tryz.prog W = .ok (.agg (sv u ⟨none, 0, 0⟩)) W := by
 obtain ⟨a0, a1, a2, a3, a4, a5, a6, a7, rfl⟩ := list8 hu
 kernel_rfl
theorem ex_build91 {u : List Int} {W : World} {eval : Operand → Value} {op : Oper} (x : Operand) (ho : op.op = .build 104 #[(1, x)]) (hx : eval x = .agg (rv u).toArray) (hu : u.length = 8) : (execOp eval op).run Tryz.prog W = .ok (.value (.agg (sv u ⟨none, 0, 0⟩))) W := by
 unfold execOp
 have e : (#[(1, x)] : Array (Nat × Operand)).map (fun (i, x) => (i, eval x)) = #[(1, .agg (rv u).toArray)] := by simp [hx]
 simp only [ho, e, Sem.run_bind, build91 hu W, Sem.run_pure, Result.andThen_ok]
theorem sv_one (c : List Int) (s : Sl) : (sv c s).all Value.oneCell' = true := by
 unfold sv
 exact all_oneCell_toArray (by
  intro u hu
  rcases List.mem_append.1 hu with h | h
  ·exact rv_one _ u h
  ·simp at h; subst h; rfl)
end Go.Proofs.YtdbeeikjngnnnaaGreat.ty
