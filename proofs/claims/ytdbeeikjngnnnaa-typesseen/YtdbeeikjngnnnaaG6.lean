import Derived.Test.YtdbeeikjngnnnaaG5
import Derived.Laws.StructEq
import Derived.Stop.BytesEq
namespace Go.Proofs.Ytdbeeikjngnnnaa.ty
open Go.ChangeShapes Go.WideShapes Go.ChangeAt Go.RowKit
set_option linter.unusedVariables false
set_option linter.unusedSimpArgs false
/-- cells written one behind the other -/
def spl (cs : Array Value) : Nat → List Value → Array Value
  | _, [] => cs
  | o, v :: r => spl (cs.setIfInBounds o v) (o + 1) r
theorem heap_setCells_same {g : Nat} {t : TypeId} : ∀ (vs : List Value) (o : Nat) (w : World) (cs : Array Value), w.heap[g]? = some (.cells cs t (0, 0)) → (w.setCells g o vs).heap[g]? = some (.cells (spl cs o vs) t (0, 0))
  | [], o, w, cs, h => h
  | v :: r, o, w, cs, h => heap_setCells_same r (o + 1) _ _ (heap_setCell_same w g o cs t v h)
theorem spl_list : ∀ (vs : List Value) (o : Nat) (l : List Value), o + vs.length ≤ l.length → spl l.toArray o vs = (l.take o ++ vs ++ l.drop (o + vs.length)).toArray
  | [], o, l, h => by simp [spl]
  | v :: r, o, l, h => by
    unfold spl
    simp only [List.length_cons] at h
    have e : l.toArray.setIfInBounds o v = (l.set o v).toArray := by simp
    rw [e, spl_list r (o + 1) (l.set o v) (by simp; omega)]
    congr 1
    rw [List.take_add_one, List.getElem?_set_self (by omega), List.take_set_of_le (by omega), List.drop_set_of_lt (by omega)]
    simp only [Option.toList_some, List.append_assoc, List.singleton_append, List.length_cons, List.cons_append, List.nil_append]
    rw [show o + 1 + r.length = o + (r.length + 1) from by omega]
theorem wpL_val {P : Program} {ops : Array Oper} {rest : List Oper} {o : Oper} {a : Act} {w : World} {Q : Exit → Act → World → Prop} (hgd : o.guard = none) (v : Value) (h : (execOp a.eval o).run P w = .ok (.value v) w) (hK : wpList P ops Q rest (a.put o.dst v) w) : wpList P ops Q (o :: rest) a w := by
  refine wpList_plain hgd fun K hK' => ?_
  unfold Oper.wp
  rw [h]
  exact hK' _ _ hK
theorem there_of {W : World} {X t : Nat} {cs : Array Value} (h : W.heap[X]? = some (.cells cs t (0, 0))) (o n : Nat) (hn : o + n ≤ cs.size) : W.there X o n := by
  intro j hj
  refine ⟨?_, frozen_of_row _ _ _ _ _ h⟩
  rw [cell_of_row _ _ _ _ _ _ h, Array.getElem?_eq_getElem (by omega)]
  rfl
theorem set0_row {W : World} {X t : Nat} {u d g : List Int} (hu : u.length = 8) (hg : g.length = 8) (h : W.heap[X]? = some (.cells (rv (u ++ d)).toArray t (0, 0))) : (W.setCells X 0 (rv g)).heap[X]? = some (.cells (rv (g ++ d)).toArray t (0, 0)) := by
  rw [heap_setCells_same _ _ _ _ h, spl_list _ _ _ (by simp [rv_len, hu, hg])]
  have e : (rv (u ++ d)).drop (0 + (rv g).length) = rv d := by
    rw [rv_len, hg]
    unfold rv
    rw [List.map_append, Nat.zero_add, List.drop_append_of_le_length (by simp; omega), List.drop_eq_nil_of_le (by simp; omega), List.nil_append]
  rw [e]
  simp [rv]
theorem set8_row {W : World} {X t : Nat} {u d g : List Int} (hu : u.length = 8) (hd : d.length = 8) (hg : g.length = 8) (h : W.heap[X]? = some (.cells (rv (u ++ d)).toArray t (0, 0))) : (W.setCells X 8 (rv g)).heap[X]? = some (.cells (rv (u ++ g)).toArray t (0, 0)) := by
  rw [heap_setCells_same _ _ _ _ h, spl_list _ _ _ (by simp [rv_len, hu, hg, hd])]
  have e : (rv (u ++ d)).drop (8 + (rv g).length) = [] := List.drop_eq_nil_of_le (by simp [rv_len, hu, hd, hg])
  have e2 : (rv (u ++ d)).take 8 = rv u := by
    unfold rv
    rw [List.map_append, List.take_append_of_le_length (by simp; omega), List.take_of_length_le (by simp; omega)]
  rw [e, e2]
  simp [rv]
theorem apart_setCells (W : World) (X : Nat) : ∀ (vs : List Value) (o : Nat), Apart [X] W (W.setCells X o vs) := by
  intro vs
  induction vs generalizing W with
  | nil => intro o; exact Apart.refl _ _
  | cons v r ih => intro o; exact ((Apart.refl [X] W).setCell (p := ⟨X, o, none⟩) (.inl (by simp)) v).trans (ih _ (o + 1))
theorem build93a {u : List Int} (hu : u.length = 8) (W : World) : (Instr.build 93 #[(1, .agg (rv u).toArray)]).run Try.prog W = .ok (.agg (rv (u ++ zr)).toArray) W := by
  obtain ⟨a0, a1, a2, a3, a4, a5, a6, a7, rfl⟩ := list8 hu
  kernel_rfl
theorem ex_build93a {u : List Int} {W : World} {eval : Operand → Value} {op : Oper} (x : Operand) (ho : op.op = .build 93 #[(1, x)]) (hx : eval x = .agg (rv u).toArray) (hu : u.length = 8) : (execOp eval op).run Try.prog W = .ok (.value (.agg (rv (u ++ zr)).toArray)) W := by
  unfold execOp
  have e : (#[(1, x)] : Array (Nat × Operand)).map (fun (i, x) => (i, eval x)) = #[(1, .agg (rv u).toArray)] := by simp [hx]
  simp only [ho, e, Sem.run_bind, build93a hu W, Sem.run_pure, Result.andThen_ok]
set_option maxRecDepth 100000 in
theorem turn_actor {w : World} {cs : Array Value} (a : Int) (b : Bool) (ha : isA a = false) : Calls Try.prog 106 #[.agg cs, .int .i64 a, .bool b] w fun r w' => r = .returned (.tuple #[.nilIface, .int .i64 191]) ∧ Apart [] w w' := by
  have hc := fun wx => isActor_ok wx a
  rw [ha] at hc
  clear ha
  have HC := hid hc
  clear hc
  go_enter Try.func106, Try.ntmps106
  go_wp2_with (go_at_call 81; refine (HC.out _).mono ?_; rintro _ _ ⟨rfl, rfl⟩)
  go_wp2_with fail
  go_ret2
  exact ⟨rfl, (Apart.refl _ _).alloc _⟩
set_option maxRecDepth 100000 in
theorem turn_off {w : World} {c g : List Int} (hcl : c.length = 8) (i : Nat) (hi : i < 8) : Calls Try.prog 106 #[.agg (rv (c ++ g)).toArray, .int .i64 (i : Int), .bool false] w fun r w' => r = .returned (.tuple #[.iface 93 (.agg (rv (c ++ zr)).toArray), .int .i64 0]) ∧ Apart [] w w' := by
  have hc := fun wx => isActor_ok wx (i : Int)
  have ha : isA (i : Int) = true := by simp [isA]; omega
  rw [ha] at hc
  clear ha
  have HC := hid hc
  clear hc
  have Hc := hid hcl
  clear hcl
  have HA := hid (Apart.refl [] w)
  go_enter Try.func106, Try.ntmps106
  go_upto_region 4 with (go_at_call 81; refine (HC.out _).mono ?_; rintro _ _ ⟨rfl, rfl⟩)
  obtain ⟨X, HXX⟩ : ∃ X, Hid (X = w.heap.size) := ⟨_, rfl⟩
  obtain ⟨w1, hw1⟩ : ∃ W, W = w.alloc (.cells (rv (c ++ g)).toArray 93) := ⟨_, rfl⟩
  have HSw1 : Hid (Apart [] w w1) := by unfold Hid; rw [hw1]; exact (Apart.refl [] w).alloc _
  have HBX : Hid (w1.heap[X]? = some (.cells (rv (c ++ g)).toArray 93 (0, 0))) := by unfold Hid; rw [HXX.out, hw1]; exact heap_alloc_new w _
  have HLX : Hid (w.heap.size ≤ X) := by unfold Hid; rw [HXX.out]; exact HA.out.size
  replace HA := hid (HA.out.trans HSw1.out)
  rw [← hw1, ← HXX.out]
  clear hw1 HXX
  go_wp2_with (first
    | refine wpL_val rfl (.agg (rv c).toArray) (ex_load _ rfl X 0 _ rfl (rg0 HBX.out) (by rw [rv_len, Hc.out])) ?_
    | refine wpL_val rfl (.agg (rv (c ++ zr)).toArray) (ex_build93a _ rfl rfl Hc.out) ?_)
  go_ret2
  exact ⟨rfl, HA.out⟩
set_option maxRecDepth 100000 in
theorem turn_full {w : World} {c g : List Int} (hcl : c.length = 8) (i : Nat) (hi : i < 8) (hf : c.getD i 0 = 65535) : Calls Try.prog 106 #[.agg (rv (c ++ g)).toArray, .int .i64 (i : Int), .bool true] w fun r w' => r = .returned (.tuple #[.nilIface, .int .i64 92]) ∧ Apart [] w w' := by
  have hc := fun wx => isActor_ok wx (i : Int)
  have ha : isA (i : Int) = true := by simp [isA]; omega
  rw [ha] at hc
  clear ha
  have HC := hid hc
  clear hc
  have Hc := hid hcl
  clear hcl
  have HA := hid (Apart.refl [] w)
  have hlt0 : (0 : Int) ≤ ((i : Nat) : Int) ∧ ((i : Nat) : Int) < 8 := by omega
  go_enter Try.func106, Try.ntmps106
  go_upto_region 5 with (go_at_call 81; refine (HC.out _).mono ?_; rintro _ _ ⟨rfl, rfl⟩)
  obtain ⟨X, HXX⟩ : ∃ X, Hid (X = w.heap.size) := ⟨_, rfl⟩
  obtain ⟨w1, hw1⟩ : ∃ W, W = w.alloc (.cells (rv (c ++ g)).toArray 93) := ⟨_, rfl⟩
  have HSw1 : Hid (Apart [] w w1) := by unfold Hid; rw [hw1]; exact (Apart.refl [] w).alloc _
  have HBX : Hid (w1.heap[X]? = some (.cells (rv (c ++ g)).toArray 93 (0, 0))) := by unfold Hid; rw [HXX.out, hw1]; exact heap_alloc_new w _
  have HLX : Hid (w.heap.size ≤ X) := by unfold Hid; rw [HXX.out]; exact HA.out.size
  replace HA := hid (HA.out.trans HSw1.out)
  rw [← hw1, ← HXX.out]
  clear hw1 HXX
  have z := cell20 HBX.out i (by rw [Hc.out]; exact hi)
  rw [hf] at z
  clear hf
  go_wp2_with fail
  go_ret2
  exact ⟨rfl, HA.out⟩
set_option maxRecDepth 100000 in
theorem turn_on {w : World} {c g : List Int} (hcl : c.length = 8) (hgl : g.length = 8) (i : Nat) (hi : i < 8) (h0 : 0 ≤ c.getD i 0) (h1 : c.getD i 0 < 65535) : Calls Try.prog 106 #[.agg (rv (c ++ g)).toArray, .int .i64 (i : Int), .bool true] w fun r w' => r = .returned (.tuple #[.iface 93 (.agg (rv (c.set i (c.getD i 0 + 1) ++ zr.set i (c.getD i 0 + 1))).toArray), .int .i64 0]) ∧ Apart [] w w' := by
  have hc := fun wx => isActor_ok wx (i : Int)
  have ha : isA (i : Int) = true := by simp [isA]; omega
  rw [ha] at hc
  clear ha
  have HC := hid hc
  clear hc
  have HO := hid (fun wx => oneMore_ok (w := wx) hcl i hi h0 (by omega))
  have hne : (c.getD i 0 == 65535) = false := by simp only [beq_eq_false_iff_ne]; omega
  obtain ⟨p, Hp⟩ : ∃ p, Hid (p = c.set i (c.getD i 0 + 1)) := ⟨_, hid rfl⟩
  obtain ⟨q, Hq⟩ : ∃ q, Hid (q = zr.set i (c.getD i 0 + 1)) := ⟨_, hid rfl⟩
  rw [← Hp.out, ← Hq.out] at HO ⊢
  have Hpl : Hid (p.length = 8) := by unfold Hid; rw [Hp.out, List.length_set, hcl]
  have Hql : Hid (q.length = 8) := by unfold Hid; rw [Hq.out, List.length_set]; rfl
  have Hc := hid hcl
  have Hgl := hid hgl
  obtain ⟨xa, Hxa⟩ : ∃ z : Int, Hid (z = c.getD i 0) := ⟨_, hid rfl⟩
  rw [← Hxa.out] at hne
  clear hcl hgl h0 h1
  have HA := hid (Apart.refl [] w)
  have hlt0 : (0 : Int) ≤ ((i : Nat) : Int) ∧ ((i : Nat) : Int) < 8 := by omega
  go_enter Try.func106, Try.ntmps106
  go_upto_region 5 with (go_at_call 81; refine (HC.out _).mono ?_; rintro _ _ ⟨rfl, rfl⟩)
  obtain ⟨X, HXX⟩ : ∃ X, Hid (X = w.heap.size) := ⟨_, rfl⟩
  obtain ⟨w1, hw1⟩ : ∃ W, W = w.alloc (.cells (rv (c ++ g)).toArray 93) := ⟨_, rfl⟩
  have HSw1 : Hid (Apart [] w w1) := by unfold Hid; rw [hw1]; exact (Apart.refl [] w).alloc _
  have HBX : Hid (w1.heap[X]? = some (.cells (rv (c ++ g)).toArray 93 (0, 0))) := by unfold Hid; rw [HXX.out, hw1]; exact heap_alloc_new w _
  have HLX : Hid (w.heap.size ≤ X) := by unfold Hid; rw [HXX.out]; exact HA.out.size
  replace HA := hid (HA.out.trans HSw1.out)
  rw [← hw1, ← HXX.out]
  clear hw1 HXX
  have z := cell20 HBX.out i (by rw [Hc.out]; exact hi)
  rw [← Hxa.out] at z
  go_upto_region 7 with fail
  clear z hne
  go_wp2_with (first
    | refine wpL_val rfl (.agg (rv c).toArray) (ex_load _ rfl X 0 _ rfl (rg0 HBX.out) (by rw [rv_len, Hc.out])) ?_
    | (go_at_call 93; refine (HO.out _).mono ?_; rintro _ w2 ⟨rfl, a2⟩; have HA2 := hid a2; clear a2; have HB2 := hid (keep0 HA2.out HBX.out))
    | (refine wpList_store_mid rfl 86 _ _ rfl X 0 (rv p).toArray rfl rfl (there_of HB2.out 0 _ (by simp [rv_len, Hpl.out, Hc.out])) (by rw [size86]; simp [rv_len, Hpl.out]) (all_oneCell_toArray (rv_one _)) ?_
       simp only [List.toList_toArray]
       have HB3 := hid (set0_row Hc.out Hpl.out HB2.out)
       have HS3 := hid (apart_setCells w2 X (rv p) 0)
       generalize w2.setCells X 0 (rv p) = w3 at *
       clear HB2)
    | (refine wpList_store_mid rfl 86 _ _ rfl X 8 (rv q).toArray rfl rfl (there_of HB3.out 8 _ (by simp [rv_len, Hpl.out, Hql.out, Hgl.out])) (by rw [size86]; simp [rv_len, Hql.out]) (all_oneCell_toArray (rv_one _)) ?_
       simp only [List.toList_toArray]
       have HB4 := hid (set8_row Hpl.out Hgl.out Hql.out HB3.out)
       have HS4 := hid (apart_setCells w3 X (rv q) 8)
       generalize w3.setCells X 8 (rv q) = w4 at *
       clear HB3)
    | refine wpList_load_row rfl 93 _ rfl X rfl 93 _ (0, 0) _ HB4.out Try.underlying93 rfl (by rw [size93]; simp [rv_len, Hpl.out, Hql.out]) ?_)
  go_ret2
  exact ⟨rfl, (HA.out.trans HA2.out).trans' (HS3.out.trans HS4.out) (by intro y hy; simp at hy; rw [hy]; exact .inr HLX.out)⟩
theorem run_eqI (w : World) (d : Nat) (xs ys : List Int) (hx : xs.length = 8) (hy : ys.length = 8) : (Op.equalIn (d + 2) 86 (.agg (rv xs).toArray) (.agg (rv ys).toArray)).run Try.prog w = .ok ((List.range' 0 8 1).all fun i => xs.getD i 0 == ys.getD i 0) w := by
  have hsz : ∀ w, (sizeOf 3).run Try.prog w = .ok 1 w := fun _ => by kernel_rfl
  rw [Op.equalIn]
  simp only [Sem.run_bind, run_underlying Try.underlying86, Result.andThen_ok, hsz, Std.Legacy.Range.forIn_eq_forIn_range', Std.Legacy.Range.size, Nat.sub_zero, Nat.add_sub_cancel, Nat.div_one]
  have hl : ∀ i ∈ List.range' 0 8 1, i < 8 := fun i hi => by simpa using (List.mem_range'_1.1 hi).2
  generalize List.range' 0 8 1 = l at hl ⊢
  induction l with
  | nil => simp
  | cons i l ih =>
    have hi : i < 8 := hl i (by simp)
    have px : (part 3 (rv xs).toArray (i * 1)).run Try.prog w = .ok (.int .i64 (xs.getD i 0)) w := by
      have := rv_at xs i (by omega)
      simp [part, isAgg, run_underlying Try.underlying3, this]
    have py : (part 3 (rv ys).toArray (i * 1)).run Try.prog w = .ok (.int .i64 (ys.getD i 0)) w := by
      have := rv_at ys i (by omega)
      simp [part, isAgg, run_underlying Try.underlying3, this]
    have pe : (Op.equalIn (d + 1) 3 (.int .i64 (xs.getD i 0)) (.int .i64 (ys.getD i 0))).run Try.prog w = .ok (xs.getD i 0 == ys.getD i 0) w := by
      rw [run_equalIn_int w d 3 .i64 .i64 _ _ Try.underlying3]
    simp only [List.forIn_cons, Sem.run_bind, px, py, pe, Result.andThen_ok, List.all_cons]
    cases hb : (xs.getD i 0 == ys.getD i 0)
    · simp
    · simp only [Bool.not_true, Bool.false_eq_true, if_false, Sem.run_pure, Result.andThen_ok, Bool.true_and]
      exact ih fun j hj => hl j (by simp [hj])
theorem all8 {xs ys : List Int} (hx : xs.length = 8) (hy : ys.length = 8) : ((List.range' 0 8 1).all fun i => xs.getD i 0 == ys.getD i 0) = (xs == ys) := by
  obtain ⟨a0, a1, a2, a3, a4, a5, a6, a7, rfl⟩ := list8 hx
  obtain ⟨b0, b1, b2, b3, b4, b5, b6, b7, rfl⟩ := list8 hy
  simp [List.range']
theorem run_eql_row (w : World) {a b : List Int} (ha : a.length = 8) (hb : b.length = 8) : (binOp .eql 86 (.agg (rv a).toArray) (.agg (rv b).toArray)).run Try.prog w = .ok (.bool (a == b)) w := by
  rw [run_eql_struct, run_eqI w 9998 a b ha hb, all8 ha hb]
  rfl
theorem run_neq_row (w : World) {a b : List Int} (ha : a.length = 8) (hb : b.length = 8) : (binOp .neq 86 (.agg (rv a).toArray) (.agg (rv b).toArray)).run Try.prog w = .ok (.bool (a != b)) w := by
  rw [run_neq_struct, run_eqI w 9998 a b ha hb, all8 ha hb]
  rfl
theorem gd_row (w : World) (o : BinOp) (x y : Operand) (a b : Array Value) : (eqGuard o 86 x y (.agg a) (.agg b)).run Try.prog w = .ok () w := by
  cases o <;> kernel_rfl
theorem build86 (W : World) : (Instr.build 86 #[]).run Try.prog W = .ok (.agg (rv zr).toArray) W := by kernel_rfl
theorem ex_build86 {W : World} {eval : Operand → Value} {op : Oper} (ho : op.op = .build 86 #[]) : (execOp eval op).run Try.prog W = .ok (.value (.agg (rv zr).toArray)) W := by
  unfold execOp
  have e : (#[] : Array (Nat × Operand)).map (fun (i, x) => (i, eval x)) = #[] := by simp
  simp only [ho, e, Sem.run_bind, build86 W, Sem.run_pure, Result.andThen_ok]
set_option maxRecDepth 100000 in
theorem on_ok {w : World} {c g : List Int} (hcl : c.length = 8) (hgl : g.length = 8) : Calls Try.prog 103 #[.agg (rv (c ++ g)).toArray] w fun r w' => r = .returned (.bool (g != zr)) ∧ Apart [] w w' := by
  have Hc := hid hcl
  have Hgl := hid hgl
  have hr := fun wx => run_neq_row wx hgl (show zr.length = 8 from rfl)
  have hg := fun wx x y => gd_row wx .neq x y (rv g).toArray (rv zr).toArray
  clear hcl hgl
  have HA := hid (Apart.refl [] w)
  go_enter Try.func103, Try.ntmps103
  go_upto_region 1 with fail
  obtain ⟨X, HXX⟩ : ∃ X, Hid (X = w.heap.size) := ⟨_, rfl⟩
  obtain ⟨w1, hw1⟩ : ∃ W, W = w.alloc (.cells (rv (c ++ g)).toArray 93) := ⟨_, rfl⟩
  have HSw1 : Hid (Apart [] w w1) := by unfold Hid; rw [hw1]; exact (Apart.refl [] w).alloc _
  have HBX : Hid (w1.heap[X]? = some (.cells (rv (c ++ g)).toArray 93 (0, 0))) := by unfold Hid; rw [HXX.out, hw1]; exact heap_alloc_new w _
  have HLX : Hid (w.heap.size ≤ X) := by unfold Hid; rw [HXX.out]; exact HA.out.size
  replace HA := hid (HA.out.trans HSw1.out)
  rw [← hw1, ← HXX.out]
  clear hw1 HXX
  go_wp2_with (first
    | refine wpL_val rfl (.agg (rv g).toArray) (ex_load _ rfl X 8 _ rfl (rg8 Hc.out HBX.out) (by rw [rv_len, Hgl.out])) ?_
    | refine wpL_val rfl (.agg (rv zr).toArray) (ex_build86 rfl) ?_)
  go_ret
  exact ⟨rfl, HA.out⟩
end Go.Proofs.Ytdbeeikjngnnnaa.ty
