import Derived.Test.YtdbeeikjngnnnaaGreatC5
import Derived.Test.YtdbeeikjngnnnaaGreatC6
import Derived.Test.YtdbeeikjngnnnaaGreatC7
import Derived.Test.YtdbeeikjngnnnaaGreatC8
namespace Go.Proofs.YtdbeeikjngnnnaaGreat.ty
open Go.ChangeShapes Go.WideShapes Go.ChangeAt Go.RowKit
set_option linter.unusedVariables false
set_option linter.unusedSimpArgs false
set_option maxRecDepth 100000
set_option maxHeartbeats 8000000
def spl (cs : Array Value) : Nat → List Value → Array Value
 | _, [] => cs
 | o, v :: r => spl (cs.setIfInBounds o v) (o + 1) r
theorem heap_setCells_same {g : Nat} {t : TypeId} : ∀ (vs : List Value) (o : Nat) (w : World) (cs : Array Value), w.heap[g]? = some (.cells cs t (0, 0)) → (w.setCells g o vs).heap[g]? = some (.cells (spl cs o vs) t (0, 0))
 | [], o, w, cs, h => h
 | v :: r, o, w, cs, h => heap_setCells_same r (o + 1) _ _ (heap_setCell_same w g o cs t v h)
theorem spl_list : ∀ (vs : List Value) (o : Nat) (l : List Value), o + vs.length ≤ l.length → spl l.toArray o vs = (l.take o ++ vs ++ l.drop (o + vs.length)).toArray
 | [], o, l, h => by simp [spl]
 | v :: r, o, l, h => by
  unfold spl
  simp only [List.length_cons] at h
  have e : l.toArray.setIfInBounds o v = (l.set o v).toArray := by simp
  rw [e, spl_list r (o + 1) (l.set o v) (by simp; omega)]
  congr 1
  rw [List.take_add_one, List.getElem?_set_self (by omega), List.take_set_of_le (by omega), List.drop_set_of_lt (by omega)]
  simp only [Option.toList_some, List.append_assoc, List.singleton_append, List.length_cons, List.cons_append, List.nil_append]
  rw [show o + 1 + r.length = o + (r.length + 1) from by omega]
theorem wpL_val {P : Program} {ops : Array Oper} {rest : List Oper} {o : Oper} {a : Act} {w : World} {Q : Exit → Act → World → Prop} (hgd : o.guard = none) (v : Value) (h : (execOp a.eval o).run P w = .ok (.value v) w) (hK : wpList P ops Q rest (a.put o.dst v) w) : wpList P ops Q (o :: rest) a w := by
 refine wpList_plain hgd fun K hK' => ?_
 unfold Oper.wp
 rw [h]
 exact hK' _ _ hK
theorem there_of {W : World} {X t : Nat} {cs : Array Value} (h : W.heap[X]? = some (.cells cs t (0, 0))) (o n : Nat) (hn : o + n ≤ cs.size) : W.there X o n := by
 intro j hj
 refine ⟨?_, frozen_of_row _ _ _ _ _ h⟩
 rw [cell_of_row _ _ _ _ _ _ h, Array.getElem?_eq_getElem (by omega)]
 rfl
theorem set0_row {W : World} {X t : Nat} {u d g : List Int} (hu : u.length = 8) (hg : g.length = 8) (h : W.heap[X]? = some (.cells (rv (u ++ d)).toArray t (0, 0))) : (W.setCells X 0 (rv g)).heap[X]? = some (.cells (rv (g ++ d)).toArray t (0, 0)) := by
 rw [heap_setCells_same _ _ _ _ h, spl_list _ _ _ (by simp [rv_len, hu, hg])]
 have e : (rv (u ++ d)).drop (0 + (rv g).length) = rv d := by
  rw [rv_len, hg]
  unfold rv
  rw [List.map_append, Nat.zero_add, List.drop_append_of_le_length (by simp; omega), List.drop_eq_nil_of_le (by simp; omega), List.nil_append]
 rw [e]
 simp [rv]
theorem set8_row {W : World} {X t : Nat} {u d g : List Int} (hu : u.length = 8) (hd : d.length = 8) (hg : g.length = 8) (h : W.heap[X]? = some (.cells (rv (u ++ d)).toArray t (0, 0))) : (W.setCells X 8 (rv g)).heap[X]? = some (.cells (rv (u ++ g)).toArray t (0, 0)) := by
 rw [heap_setCells_same _ _ _ _ h, spl_list _ _ _ (by simp [rv_len, hu, hg, hd])]
 have e : (rv (u ++ d)).drop (8 + (rv g).length) = [] := List.drop_eq_nil_of_le (by simp [rv_len, hu, hd, hg])
 have e2 : (rv (u ++ d)).take 8 = rv u := by
  unfold rv
  rw [List.map_append, List.take_append_of_le_length (by simp; omega), List.take_of_length_le (by simp; omega)]
 rw [e, e2]
 simp [rv]
theorem apart_setCells (W : World) (X : Nat) : ∀ (vs : List Value) (o : Nat), Apart [X] W (W.setCells X o vs) := by
 intro vs
 induction vs generalizing W with
 | nil => intro o; exact Apart.refl _ _
 | cons v r ih => intro o; exact ((Apart.refl [X] W).setCell (p := ⟨X, o, none⟩) (.inl (by simp)) v).trans (ih _ (o + 1))
theorem build93a {u : List Int} (hu : u.length = 8) (W : World) : (Instr.build 106 #[(1, .agg (rv u).toArray)]).run Tryz.prog W = .ok (.agg (rv (u ++ zr)).toArray) W := by
 obtain ⟨a0, a1, a2, a3, a4, a5, a6, a7, rfl⟩ := list8 hu
 kernel_rfl
theorem ex_build93a {u : List Int} {W : World} {eval : Operand → Value} {op : Oper} (x : Operand) (ho : op.op = .build 106 #[(1, x)]) (hx : eval x = .agg (rv u).toArray) (hu : u.length = 8) : (execOp eval op).run Tryz.prog W = .ok (.value (.agg (rv (u ++ zr)).toArray)) W := by
 unfold execOp
 have e : (#[(1, x)] : Array (Nat × Operand)).map (fun (i, x) => (i, eval x)) = #[(1, .agg (rv u).toArray)] := by simp [hx]
 simp only [ho, e, Sem.run_bind, build93a hu W, Sem.run_pure, Result.andThen_ok]
theorem turn_actor {w : World} {cs : Array Value} (a : Int) (b : Bool) (ha : isA a = false) : Calls Tryz.prog 132 #[.agg cs, .int .i64 a, .bool b] w fun r w' => r = .returned (.tuple #[.nilIface, .int .i64 191]) ∧ Apart [] w w' := by
 have hc := fun wx => isActor_ok wx a
 rw [ha] at hc
 clear ha
 have HC := hid hc
 clear hc
 go_enter Tryz.func132, Tryz.ntmps132
 go_wp2_with (go_at_call 106; refine (HC.out _).mono ?_; rintro _ _ ⟨rfl, rfl⟩)
 go_wp2_with fail
 go_ret2
 exact ⟨rfl, (Apart.refl _ _).alloc _⟩
theorem turn_off {w : World} {c g : List Int} (hcl : c.length = 8) (i : Nat) (hi : i < 8) : Calls Tryz.prog 132 #[.agg (rv (c ++ g)).toArray, .int .i64 (i : Int), .bool false] w fun r w' => r = .returned (.tuple #[.iface 106 (.agg (rv (c ++ zr)).toArray), .int .i64 0]) ∧ Apart [] w w' := by
 have hc := fun wx => isActor_ok wx (i : Int)
 have ha : isA (i : Int) = true := by simp [isA]; omega
 rw [ha] at hc
 clear ha
 have HC := hid hc
 clear hc
 have Hc := hid hcl
 clear hcl
 have HA := hid (Apart.refl [] w)
 go_enter Tryz.func132, Tryz.ntmps132
 go_upto_region 4 with (go_at_call 106; refine (HC.out _).mono ?_; rintro _ _ ⟨rfl, rfl⟩)
 obtain ⟨X, HXX⟩ : ∃ X, Hid (X = w.heap.size) := ⟨_, rfl⟩
 obtain ⟨w1, hw1⟩ : ∃ W, W = w.alloc (.cells (rv (c ++ g)).toArray 106) := ⟨_, rfl⟩
 have HSw1 : Hid (Apart [] w w1) := hid (zM hw1)
 have HBX : Hid (w1.heap[X]? = some (.cells (rv (c ++ g)).toArray 106 (0, 0))) := hid (zN HXX.out hw1)
 have HLX : Hid (w.heap.size ≤ X) := by unfold Hid; rw [HXX.out]; exact HA.out.size
 replace HA := hid (HA.out.trans HSw1.out)
 rw [← hw1, ← HXX.out]
 clear hw1 HXX
 go_wp2_with (first
  | refine wpL_val rfl (.agg (rv c).toArray) (ex_load _ rfl X 0 _ rfl (rg0 HBX.out) (by rw [rv_len, Hc.out])) ?_
  | refine wpL_val rfl (.agg (rv (c ++ zr)).toArray) (ex_build93a _ rfl rfl Hc.out) ?_)
 go_ret2
 exact ⟨rfl, HA.out⟩
theorem turn_full {w : World} {c g : List Int} (hcl : c.length = 8) (i : Nat) (hi : i < 8) (hf : c.getD i 0 = 65535) : Calls Tryz.prog 132 #[.agg (rv (c ++ g)).toArray, .int .i64 (i : Int), .bool true] w fun r w' => r = .returned (.tuple #[.nilIface, .int .i64 92]) ∧ Apart [] w w' := by
 have hc := fun wx => isActor_ok wx (i : Int)
 have ha : isA (i : Int) = true := by simp [isA]; omega
 rw [ha] at hc
 clear ha
 have HC := hid hc
 clear hc
 have Hc := hid hcl
 clear hcl
 have HA := hid (Apart.refl [] w)
 have hlt0 : (0 : Int) ≤ ((i : Nat) : Int) ∧ ((i : Nat) : Int) < 8 := by omega
 go_enter Tryz.func132, Tryz.ntmps132
 go_upto_region 5 with (go_at_call 106; refine (HC.out _).mono ?_; rintro _ _ ⟨rfl, rfl⟩)
 obtain ⟨X, HXX⟩ : ∃ X, Hid (X = w.heap.size) := ⟨_, rfl⟩
 obtain ⟨w1, hw1⟩ : ∃ W, W = w.alloc (.cells (rv (c ++ g)).toArray 106) := ⟨_, rfl⟩
 have HSw1 : Hid (Apart [] w w1) := hid (zM hw1)
 have HBX : Hid (w1.heap[X]? = some (.cells (rv (c ++ g)).toArray 106 (0, 0))) := hid (zN HXX.out hw1)
 have HLX : Hid (w.heap.size ≤ X) := by unfold Hid; rw [HXX.out]; exact HA.out.size
 replace HA := hid (HA.out.trans HSw1.out)
 rw [← hw1, ← HXX.out]
 clear hw1 HXX
 have z := cell20 HBX.out i (by rw [Hc.out]; exact hi)
 rw [hf] at z
 clear hf
 go_wp2_with fail
 go_ret2
 exact ⟨rfl, HA.out⟩
theorem turn_on {w : World} {c g : List Int} (hcl : c.length = 8) (hgl : g.length = 8) (i : Nat) (hi : i < 8) (h0 : 0 ≤ c.getD i 0) (h1 : c.getD i 0 < 65535) : Calls Tryz.prog 132 #[.agg (rv (c ++ g)).toArray, .int .i64 (i : Int), .bool true] w fun r w' => r = .returned (.tuple #[.iface 106 (.agg (rv (c.set i (c.getD i 0 + 1) ++ zr.set i (c.getD i 0 + 1))).toArray), .int .i64 0]) ∧ Apart [] w w' := by
 have hc := fun wx => isActor_ok wx (i : Int)
 have ha : isA (i : Int) = true := by simp [isA]; omega
 rw [ha] at hc
 clear ha
 have HC := hid hc
 clear hc
 have HO := hid (fun wx => oneMore_ok (w := wx) hcl i hi h0 (by omega))
 have hne : (c.getD i 0 == 65535) = false := by simp only [beq_eq_false_iff_ne]; omega
 obtain ⟨p, Hp⟩ : ∃ p, Hid (p = c.set i (c.getD i 0 + 1)) := ⟨_, hid rfl⟩
 obtain ⟨q, Hq⟩ : ∃ q, Hid (q = zr.set i (c.getD i 0 + 1)) := ⟨_, hid rfl⟩
 rw [← Hp.out, ← Hq.out] at HO ⊢
 have Hpl : Hid (p.length = 8) := by unfold Hid; rw [Hp.out, List.length_set, hcl]
 have Hql : Hid (q.length = 8) := by unfold Hid; rw [Hq.out, List.length_set]; rfl
 have Hc := hid hcl
 have Hgl := hid hgl
 obtain ⟨xa, Hxa⟩ : ∃ z : Int, Hid (z = c.getD i 0) := ⟨_, hid rfl⟩
 rw [← Hxa.out] at hne
 clear hcl hgl h0 h1
 have HA := hid (Apart.refl [] w)
 have hlt0 : (0 : Int) ≤ ((i : Nat) : Int) ∧ ((i : Nat) : Int) < 8 := by omega
 go_enter Tryz.func132, Tryz.ntmps132
 go_upto_region 5 with (go_at_call 106; refine (HC.out _).mono ?_; rintro _ _ ⟨rfl, rfl⟩)
 obtain ⟨X, HXX⟩ : ∃ X, Hid (X = w.heap.size) := ⟨_, rfl⟩
 obtain ⟨w1, hw1⟩ : ∃ W, W = w.alloc (.cells (rv (c ++ g)).toArray 106) := ⟨_, rfl⟩
 have HSw1 : Hid (Apart [] w w1) := hid (zM hw1)
 have HBX : Hid (w1.heap[X]? = some (.cells (rv (c ++ g)).toArray 106 (0, 0))) := hid (zN HXX.out hw1)
 have HLX : Hid (w.heap.size ≤ X) := by unfold Hid; rw [HXX.out]; exact HA.out.size
 replace HA := hid (HA.out.trans HSw1.out)
 rw [← hw1, ← HXX.out]
 clear hw1 HXX
 have z := cell20 HBX.out i (by rw [Hc.out]; exact hi)
 rw [← Hxa.out] at z
 go_upto_region 7 with fail
 clear z hne
 go_wp2_with (first
  | refine wpL_val rfl (.agg (rv c).toArray) (ex_load _ rfl X 0 _ rfl (rg0 HBX.out) (by rw [rv_len, Hc.out])) ?_
  | (go_at_call 119; refine (HO.out _).mono ?_; rintro _ w2 ⟨rfl, a2⟩; have HA2 := hid a2; clear a2; have HB2 := hid (keep0 HA2.out HBX.out))
  | (refine wpList_store_mid rfl 99 _ _ rfl X 0 (rv p).toArray rfl rfl (there_of HB2.out 0 _ (by simp [rv_len, Hpl.out, Hc.out])) (by rw [size86]; simp [rv_len, Hpl.out]) (all_oneCell_toArray (rv_one _)) ?_
     simp only [List.toList_toArray]
     have HB3 := hid (set0_row Hc.out Hpl.out HB2.out)
     have HS3 := hid (apart_setCells w2 X (rv p) 0)
     generalize w2.setCells X 0 (rv p) = w3 at *
     clear HB2)
  | (refine wpList_store_mid rfl 99 _ _ rfl X 8 (rv q).toArray rfl rfl (there_of HB3.out 8 _ (by simp [rv_len, Hpl.out, Hql.out, Hgl.out])) (by rw [size86]; simp [rv_len, Hql.out]) (all_oneCell_toArray (rv_one _)) ?_
     simp only [List.toList_toArray]
     have HB4 := hid (set8_row Hpl.out Hgl.out Hql.out HB3.out)
     have HS4 := hid (apart_setCells w3 X (rv q) 8)
     generalize w3.setCells X 8 (rv q) = w4 at *
     clear HB3)
  | refine wpList_load_row rfl 106 _ rfl X rfl 106 _ (0, 0) _ HB4.out Tryz.underlying106 rfl (by rw [size93]; simp [rv_len, Hpl.out, Hql.out]) ?_)
 go_ret2
 exact ⟨rfl, (HA.out.trans HA2.out).trans' (HS3.out.trans HS4.out) (by intro y hy; simp at hy; rw [hy]; exact .inr HLX.out)⟩
theorem run_eqI (w : World) (d : Nat) (xs ys : List Int) (hx : xs.length = 8) (hy : ys.length = 8) : (Op.equalIn (d + 2) 99 (.agg (rv xs).toArray) (.agg (rv ys).toArray)).run Tryz.prog w = .ok ((List.range' 0 8 1).all fun i => xs.getD i 0 == ys.getD i 0) w := by
 have hsz : ∀ w, (sizeOf 3).run Tryz.prog w = .ok 1 w := fun _ => by kernel_rfl
 rw [Op.equalIn]
 simp only [Sem.run_bind, run_underlying Tryz.underlying99, Result.andThen_ok, hsz, Std.Legacy.Range.forIn_eq_forIn_range', Std.Legacy.Range.size, Nat.sub_zero, Nat.add_sub_cancel, Nat.div_one]
 have hl : ∀ i ∈ List.range' 0 8 1, i < 8 := fun i hi => by simpa using (List.mem_range'_1.1 hi).2
 generalize List.range' 0 8 1 = l at hl ⊢
 induction l with
 | nil => simp
 | cons i l ih =>
  have hi : i < 8 := hl i (by simp)
  have px : (part 3 (rv xs).toArray (i * 1)).run Tryz.prog w = .ok (.int .i64 (xs.getD i 0)) w := by
   have := rv_at xs i (by omega)
   simp [part, isAgg, run_underlying Tryz.underlying3, this]
  have py : (part 3 (rv ys).toArray (i * 1)).run Tryz.prog w = .ok (.int .i64 (ys.getD i 0)) w := by
   have := rv_at ys i (by omega)
   simp [part, isAgg, run_underlying Tryz.underlying3, this]
  have pe : (Op.equalIn (d + 1) 3 (.int .i64 (xs.getD i 0)) (.int .i64 (ys.getD i 0))).run Tryz.prog w = .ok (xs.getD i 0 == ys.getD i 0) w := by
   rw [run_equalIn_int w d 3 .i64 .i64 _ _ Tryz.underlying3]
  simp only [List.forIn_cons, Sem.run_bind, px, py, pe, Result.andThen_ok, List.all_cons]
  cases hb : (xs.getD i 0 == ys.getD i 0)
  ·simp
  ·simp only [Bool.not_true, Bool.false_eq_true, if_false, Sem.run_pure, Result.andThen_ok, Bool.true_and]
   exact ih fun j hj => hl j (by simp [hj])
theorem all8 {xs ys : List Int} (hx : xs.length = 8) (hy : ys.length = 8) : ((List.range' 0 8 1).all fun i => xs.getD i 0 == ys.getD i 0) = (xs == ys) := by
 obtain ⟨a0, a1, a2, a3, a4, a5, a6, a7, rfl⟩ := list8 hx
 obtain ⟨b0, b1, b2, b3, b4, b5, b6, b7, rfl⟩ := list8 hy
 simp [List.range']
theorem run_eql_row (w : World) {a b : List Int} (ha : a.length = 8) (hb : b.length = 8) : (binOp .eql 99 (.agg (rv a).toArray) (.agg (rv b).toArray)).run Tryz.prog w = .ok (.bool (a == b)) w := by
 rw [run_eql_struct, run_eqI w 9998 a b ha hb, all8 ha hb]
 rfl
theorem run_neq_row (w : World) {a b : List Int} (ha : a.length = 8) (hb : b.length = 8) : (binOp .neq 99 (.agg (rv a).toArray) (.agg (rv b).toArray)).run Tryz.prog w = .ok (.bool (a != b)) w := by
 rw [run_neq_struct, run_eqI w 9998 a b ha hb, all8 ha hb]
 rfl
theorem gd_row (w : World) (o : BinOp) (x y : Operand) (a b : Array Value) : (eqGuard o 99 x y (.agg a) (.agg b)).run Tryz.prog w = .ok () w := by
 cases o <;> kernel_rfl
theorem build86 (W : World) : (Instr.build 99 #[]).run Tryz.prog W = .ok (.agg (rv zr).toArray) W := by kernel_rfl
theorem ex_build86 {W : World} {eval : Operand → Value} {op : Oper} (ho : op.op = .build 99 #[]) : (execOp eval op).run Tryz.prog W = .ok (.value (.agg (rv zr).toArray)) W := by
 unfold execOp
 have e : (#[] : Array (Nat × Operand)).map (fun (i, x) => (i, eval x)) = #[] := by simp
 simp only [ho, e, Sem.run_bind, build86 W, Sem.run_pure, Result.andThen_ok]
theorem on_ok {w : World} {c g : List Int} (hcl : c.length = 8) (hgl : g.length = 8) : Calls Tryz.prog 129 #[.agg (rv (c ++ g)).toArray] w fun r w' => r = .returned (.bool (g != zr)) ∧ Apart [] w w' := by
 have Hc := hid hcl
 have Hgl := hid hgl
 have hr := fun wx => run_neq_row wx hgl (show zr.length = 8 from rfl)
 have hg := fun wx x y => gd_row wx .neq x y (rv g).toArray (rv zr).toArray
 clear hcl hgl
 have HA := hid (Apart.refl [] w)
 go_enter Tryz.func129, Tryz.ntmps129
 go_upto_region 1 with fail
 obtain ⟨X, HXX⟩ : ∃ X, Hid (X = w.heap.size) := ⟨_, rfl⟩
 obtain ⟨w1, hw1⟩ : ∃ W, W = w.alloc (.cells (rv (c ++ g)).toArray 106) := ⟨_, rfl⟩
 have HSw1 : Hid (Apart [] w w1) := hid (zM hw1)
 have HBX : Hid (w1.heap[X]? = some (.cells (rv (c ++ g)).toArray 106 (0, 0))) := hid (zN HXX.out hw1)
 have HLX : Hid (w.heap.size ≤ X) := by unfold Hid; rw [HXX.out]; exact HA.out.size
 replace HA := hid (HA.out.trans HSw1.out)
 rw [← hw1, ← HXX.out]
 clear hw1 HXX
 go_wp2_with (first
  | refine wpL_val rfl (.agg (rv g).toArray) (ex_load _ rfl X 8 _ rfl (rg8 Hc.out HBX.out) (by rw [rv_len, Hgl.out])) ?_
  | refine wpL_val rfl (.agg (rv zr).toArray) (ex_build86 rfl) ?_)
 go_ret
 exact ⟨rfl, HA.out⟩
theorem i64_or_nat (a b : Nat) (ha : a < 2 ^ 63) (hb : b < 2 ^ 63) : bits .or .i64 (a : Int) (b : Int) = ((a ||| b : Nat) : Int) := by
 have hx : a ||| b < 2 ^ 63 := Nat.or_lt_two_pow ha hb
 show IntKind.i64.wrap ((BitVec.ofInt 64 (a : Int) ||| BitVec.ofInt 64 (b : Int)).toNat : Int) = _
 rw [BitVec.toNat_or, ofInt_u64 a (by omega), ofInt_u64 b (by omega), IntWalk.i64_left]
 exact IntWalk.wrap64_in _ (by omega)
def ors (x y : Int) : Int := ((x.toNat ||| (y * 16777216).toNat : Nat) : Int)
def ob (a b : List Int) : List Int := List.zipWith ors a b
theorem ob_len {a b : List Int} (ha : a.length = 8) (hb : b.length = 8) : (ob a b).length = 8 := by simp [ob, ha, hb]
def obI (a b : List Int) (i : Nat) : List Int := (ob a b).take i ++ a.drop i
theorem obI_zero (a b : List Int) : obI a b 0 = a := by simp [obI]
theorem obI_len {a b : List Int} (ha : a.length = 8) (hb : b.length = 8) (i : Nat) (hi : i ≤ 8) : (obI a b i).length = 8 := by simp [obI, ob_len ha hb, ha]; omega
theorem obI_at {a b : List Int} (ha : a.length = 8) (hb : b.length = 8) (i : Nat) (hi : i < 8) : (obI a b i).getD i 0 = a.getD i 0 := by
 have h1 := ob_len ha hb
 rw [List.getD_eq_getElem?_getD, List.getD_eq_getElem?_getD, obI, List.getElem?_append_right (by simp; omega)]
 simp [h1, Nat.min_eq_left (Nat.le_of_lt hi)]
theorem obI_end {a b : List Int} (ha : a.length = 8) (hb : b.length = 8) : obI a b 8 = ob a b := by
 rw [obI, List.take_of_length_le (by rw [ob_len ha hb]; omega), List.drop_eq_nil_of_le (by omega), List.append_nil]
theorem obI_step {a b : List Int} (ha : a.length = 8) (hb : b.length = 8) (i : Nat) (hi : i < 8) : (obI a b i).set i (ors (a.getD i 0) (b.getD i 0)) = obI a b (i + 1) := by
 have h1 := ob_len ha hb
 apply List.ext_getElem?
 intro j
 rw [List.getElem?_set]
 by_cases hj : j = i
 ·subst hj
  have hl := obI_len ha hb j (by omega)
  simp [hl, hi]
  rw [obI, List.getElem?_append_left (by simp; omega), List.getElem?_take_of_lt (by omega), ob, List.getElem?_zipWith]
  have e1 : a[j]? = some (a.getD j 0) := by simp [ha, hi]
  have e2 : b[j]? = some (b.getD j 0) := by simp [hb, hi]
  rw [e1, e2]
  simp
 ·rw [if_neg (by omega)]
  unfold obI
  by_cases hlt : j < i
  ·rw [List.getElem?_append_left (by simp; omega), List.getElem?_append_left (by simp; omega), List.getElem?_take_of_lt hlt, List.getElem?_take_of_lt (by omega)]
  ·rw [List.getElem?_append_right (by simp; omega), List.getElem?_append_right (by simp; omega)]
   simp [h1, Nat.min_eq_left (Nat.le_of_lt hi), Nat.min_eq_left (show i + 1 ≤ 8 from hi)]
   congr 1
   omega
theorem cform_ok {w : World} {u d : List Int} (hu : Wd u) (hd : Wd d) : Calls Tryz.prog 102 #[.agg (rv (u ++ d)).toArray] w fun r w' => ∃ s', r = .returned (.slice s'.p s'.n s'.c) ∧ Bf w w' s' (1 :: rowB (ob u d) 6) := by
 have Hu := hid hu
 have Hd := hid hd
 clear hu hd
 have HA := hid (Apart.refl [] w)
 go_enter Tryz.func102, Tryz.ntmps102
 go_upto_region 1 with fail
 obtain ⟨X, HXX⟩ : ∃ X, Hid (X = w.heap.size) := ⟨_, rfl⟩
 obtain ⟨w1, hw1⟩ : ∃ W, W = w.alloc (.cells (rv (u ++ d)).toArray 101) := ⟨_, rfl⟩
 have HSw1 : Hid (Apart [] w w1) := hid (zM hw1)
 have HBX : Hid (w1.heap[X]? = some (.cells (rv (u ++ d)).toArray 101 (0, 0))) := hid (zN HXX.out hw1)
 have HLX : Hid (w.heap.size ≤ X) := by unfold Hid; rw [HXX.out]; exact HA.out.size
 replace HA := hid (HA.out.trans HSw1.out)
 rw [← hw1, ← HXX.out]
 clear hw1 HXX
 go_wp2_with (first
  | refine wpL_val rfl (.agg (rv u).toArray) (ex_load _ rfl X 0 _ rfl (rg0 HBX.out) (by rw [rv_len, Hu.out.1])) ?_
  | (refine wpList_store_row rfl 99 _ _ rfl w1.heap.size (rv u).toArray rfl rfl 99 _ (heap_alloc_new w1 _) (by rw [size86]; simp [rv_len, Hu.out.1]) (by simp [rv_len, Hu.out.1]) (all_oneCell_toArray (rv_one _)) ?_
     have HB2 := hid (put_new (w := w1) (z := #[.int .i64 0, .int .i64 0, .int .i64 0, .int .i64 0, .int .i64 0, .int .i64 0, .int .i64 0, .int .i64 0]) (cs := (rv u).toArray) (T := 99))
     have HS2 := hid (put_apart (w := w1) (z := #[.int .i64 0, .int .i64 0, .int .i64 0, .int .i64 0, .int .i64 0, .int .i64 0, .int .i64 0, .int .i64 0]) (cs := (rv u).toArray) (T := 99))
     have HLY : Hid (w.heap.size ≤ w1.heap.size) := hid HA.out.size
     obtain ⟨Y, HY⟩ : ∃ X, X = w1.heap.size := ⟨_, rfl⟩
     rw [← HY] at HB2 HS2 HLY ⊢
     generalize (w1.alloc (.cells #[.int .i64 0, .int .i64 0, .int .i64 0, .int .i64 0, .int .i64 0, .int .i64 0, .int .i64 0, .int .i64 0] 99)).setRow Y (rv u).toArray = w2 at *
     clear HY)
  | refine wpL_val rfl (.agg (rv d).toArray) (ex_load _ rfl X 8 _ rfl (rg8 Hu.out.1 (keep0 HS2.out HBX.out)) (by rw [rv_len, Hd.out.1])) ?_)
 replace HA := hid (HA.out.trans HS2.out)
 replace HB2 : Hid (w2.heap[Y]? = some (.cells (rv (obI u d 0)).toArray 99 (0, 0))) := by rw [obI_zero]; exact HB2
 clear HBX
 go_loopw [10] (fun v wt => ∃ i : Nat, v = .int .i64 (i : Nat) ∧ i ≤ 8 ∧ Hid (Apart [] w wt) ∧ Hid (wt.heap[Y]? = some (.cells (rv (obI u d i)).toArray 99 (0, 0)))) (fun v _ => 8 - (intOf v).toNat)
 case atStart => exact ⟨0, rfl, Nat.zero_le _, HA, HB2⟩
 case round =>
  clear HA HB2
  obtain ⟨i, rfl, hi, HA, HBX⟩ := hrel
  generalize wr = wt at *
  by_cases hlt : i < 8
  ·have hlti : ((i : Nat) : Int) < 8 := by omega
   have hlt0 : (0 : Int) ≤ ((i : Nat) : Int) ∧ ((i : Nat) : Int) < 8 := by omega
   have hri := fun (wx : World) => run_idx (b := d) i Hd.out.1 hlt wx
   have zx : wt.cell? ⟨Y, i, none⟩ = some (.int .i64 (u.getD i 0)) := by
    rw [← obI_at Hu.out.1 Hd.out.1 i hlt]
    exact cellR HBX.out i (by rw [obI_len Hu.out.1 Hd.out.1 i hi]; exact hlt)
   have fx := frozen_of_row _ _ i _ _ HBX.out
   obtain ⟨xa, Hxa⟩ : ∃ z : Int, Hid (z = u.getD i 0) := ⟨_, hid rfl⟩
   obtain ⟨xb, Hxb⟩ : ∃ z : Int, Hid (z = d.getD i 0) := ⟨_, hid rfl⟩
   rw [← Hxa.out] at zx
   rw [← Hxb.out] at hri
   have h1 := Hu.out.at i hlt
   have h2 := Hd.out.at i hlt
   rw [← Hxa.out] at h1
   rw [← Hxb.out] at h2
   have Hor : Hid (bits .or .i64 xa (wrap64 (xb * 16777216)) = ors (u.getD i 0) (d.getD i 0)) := by
    unfold Hid
    rw [← Hxa.out, ← Hxb.out, IntWalk.wrap64_in _ (by omega)]
    obtain ⟨A, hA⟩ := Int.eq_ofNat_of_zero_le h1.1
    obtain ⟨B, hB⟩ := Int.eq_ofNat_of_zero_le (show 0 ≤ xb * 16777216 by omega)
    rw [ors, hB, hA]
    exact i64_or_nat A B (by omega) (by omega)
   clear h1 h2
   go_wp2_with fail
   rw [Hor.out]
   refine ⟨⟨i + 1, by go_num, by omega, ?_, ?_⟩, by simp [intOf]; omega⟩
   ·exact hid (HA.out.setCell (.inr HLY.out) _)
   ·unfold Hid
    rw [heap_setCell_same wt Y i _ 99 _ HBX.out, ← obI_step Hu.out.1 Hd.out.1 i hlt, ← rv_set]
    simp
  ·have hlti : ¬ ((i : Nat) : Int) < 8 := by omega
   obtain rfl : i = 8 := by omega
   rw [obI_end Hu.out.1 Hd.out.1] at HBX
   have Hol := hid (ob_len Hu.out.1 Hd.out.1)
   obtain ⟨g, Hg⟩ : ∃ g, Hid (g = ob u d) := ⟨_, hid rfl⟩
   rw [← Hg.out] at HBX Hol
   have HB1 : Hid (Bf w (wt.alloc (.cells #[.int .u8 1] 5)) ⟨some ⟨wt.heap.size, 0, none⟩, 1, 1⟩ [1]) := by
    unfold Hid
    refine ⟨⟨⟨rfl, .inr ⟨wt.heap.size, 1, _, rfl, Nat.zero_le _, heap_alloc_new wt _, Nat.le_refl _, by unfold maxLen; omega, rfl, rfl⟩⟩, fun k hk => by simp [Sl.v, Value.ownBlock] at hk; rw [← hk]; exact HA.out.size, HA.out.alloc _⟩, rfl⟩
   have HC := hid (appRow HB1.out (by simp) Hol.out (width := 6) (by omega))
   have HBX5 : Hid ((wt.alloc (.cells #[.int .u8 1] 5)).heap[Y]? = some (.cells (rv g).toArray 99 (0, 0))) := hid (keep0 ((Apart.refl [] wt).alloc _) HBX.out)
   go_wp2_with (first
    | refine wpList_load_row rfl 99 _ rfl Y rfl 99 _ (0, 0) _ HBX5.out Tryz.underlying99 rfl (by rw [size86]; simp [rv_len, Hol.out]) ?_
    | (go_at_call 107; refine HC.out.mono ?_; rintro _ w6 ⟨s4, rfl, b6, t6⟩; have H6 := hid b6; clear b6 t6))
   go_ret
   exact ⟨s4, rfl, by rw [← Hg.out]; exact H6.out⟩
theorem me_form1 (cs : Array Value) (w : World) : (method 284 101 (.agg cs) "rookery/types.form").run Tryz.prog w = .ok (102, .agg cs) w := by kernel_rfl
theorem Bytes1 {w : World} {V : Nat} {u d : List Int} (hV : Bd w V (.iface 101 (.agg (rv (u ++ d)).toArray))) (hu : Wd u) (hd : Wd d) : Calls Tryz.prog 17 #[.pointer (some ⟨V, 0, none⟩)] w fun r w' => ∃ s, r = .returned (.tuple #[.slice s.p s.n s.c, .int .i64 0]) ∧ Bf w w' s (1 :: rowB (ob u d) 6) := by
 have z : w.cell? ⟨V, 0, none⟩ = some (.iface 101 (.agg (rv (u ++ d)).toArray)) := zK hV
 have hm := fun wx => me_form1 (rv (u ++ d)).toArray wx
 have HC := hid (cform_ok (w := w) hu hd)
 clear hV hu hd
 go_enter Tryz.func17, Tryz.ntmps17
 go_upto_region 2 with (go_at_call 102; refine HC.out.mono ?_; rintro _ w1 ⟨s, rfl, b1⟩; have HB := hid b1; clear b1)
 have hn : ¬ ((s.n : Nat) : Int) > 64 := by
  have h1 := HB.out.len
  have h2 := nb8_len (ob u d) 6 8
  rw [rowB, List.length_cons, List.length_cons] at h1
  omega
 go_wp2_with fail
 go_ret2
 exact ⟨s, rfl, HB.out⟩
theorem alike_yes {w : World} {s s' : Sl} {bs : List Nat} (h : Rd w s.p (byts bs)) (hl : bs.length = s.n) (ok : s.ok) (h' : Rd w s'.p (byts bs)) (hl' : bs.length = s'.n) (ok' : s'.ok) : Calls Tryz.prog 18 #[.slice s.p s.n s.c, .slice s'.p s'.n s'.c] w fun r w' => r = .returned (.bool true) ∧ w' = w := by
 have e1 := conv_bytes h hl ok
 have e2 := conv_bytes h' hl' ok'
 clear h hl ok h' hl' ok'
 go_enter Tryz.func18, Tryz.ntmps18
 go_wp2_with fail
 go_ret
 exact ⟨by first | rfl | simp, rfl⟩
theorem Wd.zr : Wd zr := ⟨rfl, by intro x hx; simp [ty.zr] at hx; omega⟩
def u5 : List Int := [5, 0, 0, 0, 0, 0, 0, 0]
theorem Wd.u5 : Wd u5 := ⟨rfl, by intro x hx; simp [ty.u5] at hx; omega⟩
theorem able_ok (w : World) : Calls Tryz.prog 9 #[] w fun r w' => r = .returned (.bool true) ∧ Apart [] w w' := by
 have HN := hid (new_ok w 1 (by omega) (by omega))
 obtain ⟨V, hVe⟩ : ∃ V, V = w.heap.size := ⟨_, rfl⟩
 obtain ⟨w1, hw1⟩ : ∃ W, W = w.alloc (.cells #[zb 1] 71) := ⟨_, rfl⟩
 have HV1 : Hid (Bd w1 V (.iface 101 (.agg (rv (zr ++ zr)).toArray))) := by unfold Hid; rw [hw1, hVe]; exact heap_alloc_new w _
 have HA1 : Hid (Apart [] w w1) := hid (zM hw1)
 have HL : Hid (w.heap.size ≤ V) := by unfold Hid; omega
 rw [← hw1, ← hVe] at HN
 clear hw1 hVe
 have HAdd : Hid (Calls Tryz.prog 15 #[.pointer (some ⟨V, 0, none⟩), .int .i64 0, .int .i64 5] w1 fun r w' => r = .returned (.int .i64 0) ∧ Bd w' V (.iface 101 (.agg (rv (u5 ++ zr)).toArray)) ∧ Apart [V] w1 w') :=
  hid (Add1_ok (.int .i64 0) (.int .i64 5) HV1.out (add_ok (w := w1) Wd.zr Wd.zr 0 (by omega) 5 (by omega) (by omega)))
 go_enter Tryz.func9, Tryz.ntmps9
 go_upto_region 2 with (go_at_call 14; refine HN.out.mono ?_; rintro _ _ ⟨rfl, rfl⟩)
 go_upto_region 4 with (first
  | (go_at_call 15; refine HAdd.out.mono ?_; rintro _ w2 ⟨rfl, v2, a2⟩; have HV2 := hid v2; have HA2 := hid a2; clear v2 a2; have HSum := hid (Sum1 HV2.out (sum_ok (w := w2) Wd.u5 Wd.zr)); have e5 : Hid (sumC u5 zr 8 = 5) := hid (by decide); rw [e5.out] at HSum)
  | (go_at_call 16; refine HSum.out.mono ?_; rintro _ w3 ⟨rfl, a3⟩; have HA3 := hid a3; clear a3))
 have HBy := hid (Bytes1 (w := w3) (keep0 HA3.out HV2.out) Wd.u5 Wd.zr)
 have e6 : (1 :: rowB (ob u5 zr) 6) = [1, 1, 5, 0, 0, 0, 0, 0] := by decide
 rw [e6] at HBy
 clear e6
 go_upto_region 5 with (go_at_call 17; refine HBy.out.mono ?_; rintro _ w4 ⟨s, rfl, b4⟩; have HB := hid b4; clear b4)
 obtain ⟨w5, hw5⟩ : ∃ W, W = w4.alloc (.cells #[.int .u8 1, .int .u8 1, .int .u8 5, .int .u8 0, .int .u8 0, .int .u8 0, .int .u8 0, .int .u8 0] 5) := ⟨_, rfl⟩
 have HA5 : Hid (Apart [] w4 w5) := hid (zM hw5)
 have HR5 : Hid (Rd w5 (some ⟨w4.heap.size, 0, none⟩) (byts [1, 1, 5, 0, 0, 0, 0, 0])) := by
  unfold Hid
  intro _
  have hh : w5.heap[w4.heap.size]? = some (.cells (byts [1, 1, 5, 0, 0, 0, 0, 0]).toArray 5 (0, 0)) := by rw [hw5]; exact heap_alloc_new w4 _
  refine ⟨w4.heap.size, 0, rfl, lt_of_heap hh, fun j v hj => ?_⟩
  rw [Nat.zero_add, cell_of_row _ _ _ _ _ _ hh]
  simpa using hj
 have HAl := hid (alike_yes (w := w5) (s := s) (s' := ⟨some ⟨w4.heap.size, 0, none⟩, 8, 8⟩) (HB.out.nw.kept HA5.out).rd HB.out.len.symm HB.out.nw.ok HR5.out rfl (fun e => by cases e))
 have HFin : Hid (Apart [] w w5) := hid ((((HA1.out.trans' HA2.out (by intro y hy; simp at hy; rw [hy]; exact .inr HL.out)).trans HA3.out).trans HB.out.nw.ap).trans HA5.out)
 rw [hw5] at HAl HFin
 clear HA5 HR5 hw5
 go_wp2_with (go_at_call 18; refine HAl.out.mono ?_; rintro _ _ ⟨rfl, rfl⟩)
 go_wp2_with fail
 go_ret
 exact ⟨rfl, HFin.out⟩
end Go.Proofs.YtdbeeikjngnnnaaGreat.ty
