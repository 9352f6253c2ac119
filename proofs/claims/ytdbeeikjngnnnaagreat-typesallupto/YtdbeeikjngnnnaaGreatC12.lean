import Derived.Test.YtdbeeikjngnnnaaGreatC11
namespace Go.Proofs.YtdbeeikjngnnnaaGreat.ty
open Go.ChangeShapes Go.WideShapes Go.ChangeAt Go.RowKit
set_option linter.unusedVariables false
set_option linter.unusedSimpArgs false
set_option maxRecDepth 100000
set_option maxHeartbeats 8000000
def isE (n : Nat) : Bool := decide (1 ≤ n ∧ n ≤ 8)
theorem isElement_ok (w : World) (n : Nat) : Calls Tryz.prog 118 #[.int .i64 (n : Int)] w fun r w' => r = .returned (.bool (isE n)) ∧ w' = w := by
 by_cases h1 : 1 ≤ n
 ·have e1 : ((n : Nat) : Int) ≥ 1 := by omega
  by_cases h2 : n ≤ 8
  ·have e2 : ((n : Nat) : Int) ≤ 8 := by omega
   have e : isE n = true := by simp [isE, h1, h2]
   rw [e]
   go_enter Tryz.func118, Tryz.ntmps118
   go_wp2_with fail
   go_ret
   exact ⟨by first | rfl | simp, rfl⟩
  ·have e2 : ¬ ((n : Nat) : Int) ≤ 8 := by omega
   have e : isE n = false := by simp [isE, h2]
   rw [e]
   go_enter Tryz.func118, Tryz.ntmps118
   go_wp2_with fail
   go_ret
   exact ⟨by first | rfl | simp, rfl⟩
 ·have e1 : ¬ ((n : Nat) : Int) ≥ 1 := by omega
  have e : isE n = false := by simp [isE, h1]
  rw [e]
  go_enter Tryz.func118, Tryz.ntmps118
  go_wp2_with fail
  go_ret
  exact ⟨by first | rfl | simp, rfl⟩
theorem build106 (t : ByteArray) (W : World) : (Instr.build 141 #[(0, .string t)]).run Tryz.prog W = .ok (.agg (⟨t, zr⟩ : En).vs.toArray) W := by kernel_rfl
theorem ex_build106 {t : ByteArray} {W : World} {eval : Operand → Value} {op : Oper} (x : Operand) (ho : op.op = .build 141 #[(0, x)]) (hx : eval x = .string t) : (execOp eval op).run Tryz.prog W = .ok (.value (.agg (⟨t, zr⟩ : En).vs.toArray)) W := by
 unfold execOp
 have e : (#[(0, x)] : Array (Nat × Operand)).map (fun (i, x) => (i, eval x)) = #[(0, .string t)] := by simp [hx]
 simp only [ho, e, Sem.run_bind, build106 t W, Sem.run_pure, Result.andThen_ok]
theorem setC_row {W : World} {X t : Nat} {c g : List Int} {s : Sl} (hc : c.length = 8) (hg : g.length = 8) (h : W.heap[X]? = some (.cells (sv c s) t (0, 0))) : (W.setCells X 0 (rv g)).heap[X]? = some (.cells (sv g s) t (0, 0)) := by
 unfold sv at h ⊢
 rw [heap_setCells_same _ _ _ _ h, spl_list _ _ _ (by simp [rv_len, hc, hg])]
 have e : (rv c ++ [Value.slice s.p s.n s.c]).drop (0 + (rv g).length) = [Value.slice s.p s.n s.c] := by
  rw [rv_len, hg, Nat.zero_add, List.drop_append_of_le_length (by simp [rv_len, hc]), List.drop_eq_nil_of_le (by simp [rv_len, hc]), List.nil_append]
 rw [e]
 simp
theorem setT_row {W : World} {X t : Nat} {x : En} {g : List Int} (hx : x.t.length = 8) (hg : g.length = 8) (h : W.heap[X]? = some (.cells x.vs.toArray t (0, 0))) : (W.setCells X 1 (rv g)).heap[X]? = some (.cells (⟨x.e, g⟩ : En).vs.toArray t (0, 0)) := by
 rw [heap_setCells_same _ _ _ _ h, spl_list _ _ _ (by simp [En.vs, rv_len, hx, hg])]
 have e : x.vs.drop (1 + (rv g).length) = [] := List.drop_eq_nil_of_le (by simp [En.vs, rv_len, hx, hg])
 rw [e]
 simp [En.vs]
theorem sv_set {W : World} {X t : Nat} {c : List Int} {s s' : Sl} (hc : c.length = 8) (h : W.heap[X]? = some (.cells (sv c s) t (0, 0))) : (W.setCell ⟨X, 8, none⟩ (.slice s'.p s'.n s'.c)).heap[X]? = some (.cells (sv c s') t (0, 0)) := by
 rw [heap_setCell_same _ _ _ _ _ _ h]
 congr 1
 unfold sv
 rw [List.setIfInBounds_toArray, List.set_append_right _ _ (by rw [rv_len, hc]; exact Nat.le_refl _), rv_len, hc]
 rfl
theorem apart1 {w W : World} {X t : Nat} {cs : Array Value} (h : W.heap[X]? = some (.cells cs t (0, 0))) (ht : t ≠ 141) : ∀ k ∈ [X], ∀ cur m, W.heap[k]? ≠ some (.cells cur 141 m) := by
 intro k hk cur m e
 simp at hk
 subst hk
 rw [h] at e
 simp only [Option.some.injEq, Obj.cells.injEq] at e
 exact ht e.2.1
theorem take_ok {w : World} {c : List Int} {s sl : Sl} {es : List En} {bs : List Nat} (hc : c.length = 8) (h : Es w s es) (hs : So es) (hn : es.length ≤ 500000) (hb : Rd w sl.p (byts bs)) (hl : bs.length = sl.n) (ok : sl.ok) : Calls Tryz.prog 117 #[.agg (sv c s), .slice sl.p sl.n sl.c] w fun r w' => ∃ s', r = .returned (.tuple #[.iface 104 (.agg (sv c s')), .int .i64 0]) ∧ Apart [] w w' ∧ Es w' s' (lo es (strB bs) ++ hi es (strB bs)) := by
 have HE := hid h
 have HS := hid hs
 have Hc := hid hc
 have Hn := hid hn
 have HR := hid hb
 have Hl := hid hl
 have Hok := hid ok
 clear h hs hc hn hb hl ok
 have HA := hid (Apart.refl [] w)
 go_enter Tryz.func117, Tryz.ntmps117
 go_upto_region 1 with fail
 obtain ⟨X, HXX⟩ : ∃ X, Hid (X = w.heap.size) := ⟨_, rfl⟩
 obtain ⟨w1, hw1⟩ : ∃ W, W = w.alloc (.cells (sv c s) 104) := ⟨_, rfl⟩
 have HSw1 : Hid (Apart [] w w1) := hid (zM hw1)
 have HBX : Hid (w1.heap[X]? = some (.cells (sv c s) 104 (0, 0))) := hid (zN HXX.out hw1)
 have HLX : Hid (w.heap.size ≤ X) := by unfold Hid; rw [HXX.out]; exact HA.out.size
 replace HA := hid (HA.out.trans HSw1.out)
 rw [← hw1, ← HXX.out]
 clear hw1 HXX
 have hcv := conv_bytes (HR.out.kept0 HSw1.out) Hl.out Hok.out
 have HC := hid (around_ok Hc.out (HE.out.kept0 HSw1.out) HS.out (by have := Hn.out; omega) (strB bs))
 go_upto_region 2 with (first
  | refine wpList_load_row rfl 104 _ rfl X rfl 104 _ (0, 0) _ HBX.out Tryz.underlying104 rfl (by rw [size91, sv_size Hc.out]) ?_
  | (go_at_call 120; refine HC.out.mono ?_; rintro _ w2 ⟨a, b, rfl, a2, ea, eb⟩; have HA2 := hid a2; have HEa := hid ea; have HEb := hid eb; clear a2 ea eb))
 clear hcv HC
 replace HBX := hid (keep0 HA2.out HBX.out)
 replace HA := hid (HA.out.trans HA2.out)
 clear HA2 HSw1
 obtain ⟨w3, hw3⟩ : ∃ W, W = w2.alloc (.cells #[.slice a.p a.n a.c, .slice b.p b.n b.c] 102) := ⟨_, rfl⟩
 obtain ⟨B, HXB⟩ : ∃ X, Hid (X = w2.heap.size) := ⟨_, rfl⟩
 have HSw3 : Hid (Apart [] w2 w3) := hid (zM hw3)
 have HBB : Hid (w3.heap[B]? = some (.cells (pvs [(a, lo es (strB bs)), (b, hi es (strB bs))]).toArray 102 (0, 0))) := hid (zN HXB.out hw3)
 have Hpl : Hid ((pfl [(a, lo es (strB bs)), (b, hi es (strB bs))]).length ≤ 1000000) := by
  unfold Hid
  have h1 : (lo es (strB bs)).length ≤ es.length := List.length_filter_le _ _
  have h2 : (hi es (strB bs)).length ≤ es.length := List.length_filter_le _ _
  have h3 := Hn.out
  simp only [pfl, List.flatMap_cons, List.flatMap_nil, List.length_append, List.length_nil]
  omega
 have HC := hid (concat_ok (cc := 2) (N := 2) rfl (by omega) HBB.out (by
  intro q hq
  simp at hq
  rcases hq with rfl | rfl
  ·exact HEa.out.kept0 HSw3.out
  ·exact HEb.out.kept0 HSw3.out) Hpl.out)
 have e1 : pfl [(a, lo es (strB bs)), (b, hi es (strB bs))] = lo es (strB bs) ++ hi es (strB bs) := by simp [pfl]
 rw [e1] at HC
 clear e1
 have HBX3 := hid (keep0 HSw3.out HBX.out)
 go_wp2_with (first
  | (go_at_call 121; rw [← hw3, ← HXB.out]; refine HC.out.mono ?_; rintro _ w4 ⟨s4, rfl, a4, e4, -⟩; have HA4 := hid a4; have HE4 := hid e4; clear a4 e4; replace HBX3 := hid (keep0 HA4.out HBX3.out); have f8 := frozen_of_row _ _ 8 _ _ HBX3.out; have z8 := sv_cell Hc.out HBX3.out)
  | (refine wpList_load_row rfl 104 _ rfl X rfl 104 _ (0, 0) _ (sv_set (s' := s4) Hc.out HBX3.out) Tryz.underlying104 rfl (by rw [size91, sv_size Hc.out]) ?_))
 go_ret2
 refine ⟨s4, rfl, ((HA.out.trans HSw3.out).trans HA4.out).setCell (.inr HLX.out) _, ?_⟩
 exact HE4.out.kept (X := [X]) ((Apart.refl [X] w4).setCell (p := ⟨X, 8, none⟩) (.inl (by simp)) _) (apart1 (w := w) HBX3.out (by decide))
theorem put_actor {w : World} {cs : Array Value} (a : Int) (b : Value) (ha : isA a = false) : Calls Tryz.prog 114 #[.agg cs, .int .i64 a, b] w fun r w' => r = .returned (.tuple #[.nilIface, .int .i64 191]) ∧ Apart [] w w' := by
 have hc := fun wx => isActor_ok wx a
 rw [ha] at hc
 clear ha
 have HC := hid hc
 clear hc
 go_enter Tryz.func114, Tryz.ntmps114
 go_wp2_with (go_at_call 106; refine (HC.out _).mono ?_; rintro _ _ ⟨rfl, rfl⟩)
 go_wp2_with fail
 go_ret2
 exact ⟨rfl, (Apart.refl _ _).alloc _⟩
theorem put_arg {w : World} {cs : Array Value} (i : Nat) (hi : i < 8) (sl : Sl) (he : isE sl.n = false) : Calls Tryz.prog 114 #[.agg cs, .int .i64 (i : Int), .slice sl.p sl.n sl.c] w fun r w' => r = .returned (.tuple #[.nilIface, .int .i64 1]) ∧ Apart [] w w' := by
 have hc := fun wx => isActor_ok wx (i : Int)
 have ha : isA (i : Int) = true := by simp [isA]; omega
 rw [ha] at hc
 have HC := hid hc
 have hd := fun wx => isElement_ok wx sl.n
 rw [he] at hd
 have HD := hid hd
 clear hc hd ha he
 go_enter Tryz.func114, Tryz.ntmps114
 go_wp2_with (first
  | (go_at_call 106; refine (HC.out _).mono ?_; rintro _ _ ⟨rfl, rfl⟩)
  | (go_at_call 118; refine (HD.out _).mono ?_; rintro _ _ ⟨rfl, rfl⟩))
 go_wp2_with fail
 go_ret2
 exact ⟨rfl, (Apart.refl _ _).alloc _⟩
theorem buildS {x : ByteArray} {q : List Int} (hq : q.length = 8) (W : World) : (Instr.buildSlice 102 1 #[(0, .agg (⟨x, q⟩ : En).vs.toArray)]).run Tryz.prog W = .ok (.slice (some ⟨W.heap.size, 0, none⟩) 1 1) (W.alloc (.cells (⟨x, q⟩ : En).vs.toArray 141)) := by
 obtain ⟨a0, a1, a2, a3, a4, a5, a6, a7, rfl⟩ := list8 hq
 kernel_rfl
theorem wpL_bs {x : ByteArray} {q : List Int} (hq : q.length = 8) {ops : Array Oper} {rest : List Oper} {o : Oper} {a : Act} {w : World} {Q : Exit → Act → World → Prop} (hg : o.guard = none) (y : Operand) (ho : o.op = .buildSlice 102 1 #[(0, y)]) (hy : a.eval y = .agg (⟨x, q⟩ : En).vs.toArray)
  (hK : wpList Tryz.prog ops Q rest (a.put o.dst (.slice (some ⟨w.heap.size, 0, none⟩) 1 1)) (w.alloc (.cells (⟨x, q⟩ : En).vs.toArray 141))) : wpList Tryz.prog ops Q (o :: rest) a w := by
 refine wpList_plain hg fun K hK' => ?_
 unfold Oper.wp execOp
 have e : (#[(0, y)] : Array (Nat × Operand)).map (fun (i, x) => (i, a.eval x)) = #[(0, .agg (⟨x, q⟩ : En).vs.toArray)] := by simp [hy]
 simp only [ho, e, Sem.run_bind, buildS hq w, Result.andThen_ok]
 exact hK' _ _ hK
theorem strB_size (bs : List Nat) : (strB bs).size = bs.length := by
 unfold strB
 have : ∀ (l : List Int) (r : ByteArray), (l.foldl (fun r n => r.push (UInt8.ofNat n.toNat)) r).size = r.size + l.length := by
  intro l
  induction l with
  | nil => intro r; rfl
  | cons a l ih => intro r; rw [List.foldl_cons, ih, ByteArray.size_push, List.length_cons]; omega
 rw [this, List.length_map]
 exact Nat.zero_add _
def putC (c : List Int) (i : Nat) : List Int := c.set i (c.getD i 0 + 1)
def putE (c : List Int) (es : List En) (i : Nat) (x : ByteArray) : List En := lo es x ++ [⟨x, zr.set i (c.getD i 0 + 1)⟩] ++ hi es x
theorem sv_at {W : World} {X t : Nat} {c : List Int} {s : Sl} (i : Nat) (hi : i < 8) (hc : c.length = 8) (h : W.heap[X]? = some (.cells (sv c s) t (0, 0))) : W.cell? ⟨X, i, none⟩ = some (.int .i64 (c.getD i 0)) := by
 have := sv_row h i _ (rv_at c i (by omega))
 rwa [Nat.zero_add] at this
theorem put_full {w : World} {c : List Int} {s sl : Sl} {es : List En} {bs : List Nat} (hc : c.length = 8) (h : Es w s es) (hs : So es) (hn : es.length ≤ 200) (hel : ∀ x ∈ es, x.e.size ≤ 1000) (hb : Rd w sl.p (byts bs)) (hl : bs.length = sl.n) (ok : sl.ok) (i : Nat) (h8 : i < 8) (he : isE sl.n = true) (h1 : c.getD i 0 = 65535) : Calls Tryz.prog 114 #[.agg (sv c s), .int .i64 (i : Int), .slice sl.p sl.n sl.c] w fun r w' => r = .returned (.tuple #[.nilIface, .int .i64 92]) ∧ Apart [] w w' := by
 have hca := fun wx => isActor_ok wx (i : Int)
 have ha : isA (i : Int) = true := by simp [isA]; omega
 rw [ha] at hca
 have HCa := hid hca
 have hd := fun wx => isElement_ok wx sl.n
 have Hsn : Hid (sl.n ≤ 8) := hid (by simp [isE] at he; exact he.2)
 rw [he] at hd
 have HD := hid hd
 clear hca hd ha he
 have HE := hid h
 have HS := hid hs
 have Hn := hid hn
 have Hel := hid hel
 have HR := hid hb
 have Hl := hid hl
 have Hok := hid ok
 have Hc := hid hc
 clear h hs hc hn hb hl ok hel
 have HA := hid (Apart.refl [] w)
 have hlt0 : (0 : Int) ≤ ((i : Nat) : Int) ∧ ((i : Nat) : Int) < 8 := by omega
 go_enter Tryz.func114, Tryz.ntmps114
 go_upto_region 5 with (first
  | (go_at_call 106; refine (HCa.out _).mono ?_; rintro _ _ ⟨rfl, rfl⟩)
  | (go_at_call 118; refine (HD.out _).mono ?_; rintro _ _ ⟨rfl, rfl⟩))
 obtain ⟨X, HXX⟩ : ∃ X, Hid (X = w.heap.size) := ⟨_, rfl⟩
 obtain ⟨w1, hw1⟩ : ∃ W, W = w.alloc (.cells (sv c s) 104) := ⟨_, rfl⟩
 have HSw1 : Hid (Apart [] w w1) := hid (zM hw1)
 have HBX : Hid (w1.heap[X]? = some (.cells (sv c s) 104 (0, 0))) := hid (zN HXX.out hw1)
 have HLX : Hid (w.heap.size ≤ X) := by unfold Hid; rw [HXX.out]; exact HA.out.size
 replace HA := hid (HA.out.trans HSw1.out)
 rw [← hw1, ← HXX.out]
 clear hw1 HXX HCa HD
 have z := sv_at i h8 Hc.out HBX.out
 rw [h1] at z
 go_wp2_with fail
 go_ret2
 exact ⟨rfl, HA.out⟩
theorem put_ok {w : World} {c : List Int} {s sl : Sl} {es : List En} {bs : List Nat} (hc : c.length = 8) (h : Es w s es) (hs : So es) (hn : es.length ≤ 200) (hel : ∀ x ∈ es, x.e.size ≤ 1000) (hb : Rd w sl.p (byts bs)) (hl : bs.length = sl.n) (ok : sl.ok) (i : Nat) (h8 : i < 8) (he : isE sl.n = true) (h0 : 0 ≤ c.getD i 0) (h1 : c.getD i 0 < 65535) (hw : (setB (putC c i) (putE c es i (strB bs))).length ≤ 64) : Calls Tryz.prog 114 #[.agg (sv c s), .int .i64 (i : Int), .slice sl.p sl.n sl.c] w fun r w' => ∃ s', r = .returned (.tuple #[.iface 104 (.agg (sv (putC c i) s')), .int .i64 0]) ∧ Apart [] w w' ∧ Es w' s' (putE c es i (strB bs)) := by
 have hca := fun wx => isActor_ok wx (i : Int)
 have ha : isA (i : Int) = true := by simp [isA]; omega
 rw [ha] at hca
 have HCa := hid hca
 have hd := fun wx => isElement_ok wx sl.n
 have Hsn : Hid (sl.n ≤ 8) := hid (by simp [isE] at he; exact he.2)
 rw [he] at hd
 have HD := hid hd
 clear hca hd ha he
 have HE := hid h
 have HS := hid hs
 have Hn := hid hn
 have Hel := hid hel
 have HR := hid hb
 have Hl := hid hl
 have Hok := hid ok
 have HO := hid (fun wx => oneMore_ok (w := wx) hc i h8 h0 (by omega))
 have hne : (c.getD i 0 == 65535) = false := by simp only [beq_eq_false_iff_ne]; omega
 have Hw := hid hw
 clear hw h0 h1
 have Hpc : Hid (putC c i = c.set i (c.getD i 0 + 1)) := hid rfl
 have Hpe : Hid (putE c es i (strB bs) = lo es (strB bs) ++ [⟨strB bs, zr.set i (c.getD i 0 + 1)⟩] ++ hi es (strB bs)) := hid rfl
 obtain ⟨p, Hp⟩ : ∃ p, Hid (p = c.set i (c.getD i 0 + 1)) := ⟨_, hid rfl⟩
 obtain ⟨q, Hq⟩ : ∃ q, Hid (q = zr.set i (c.getD i 0 + 1)) := ⟨_, hid rfl⟩
 rw [← Hp.out, ← Hq.out] at HO
 rw [← Hp.out] at Hpc
 rw [← Hq.out] at Hpe
 rw [Hpc.out, Hpe.out] at Hw
 obtain ⟨x, Hx⟩ : ∃ x, Hid (x = strB bs) := ⟨_, hid rfl⟩
 rw [Hpc.out, Hpe.out, ← Hx.out]
 rw [← Hx.out] at Hpe Hw
 have Hpl : Hid (p.length = 8) := by unfold Hid; rw [Hp.out, List.length_set, hc]
 have Hql : Hid (q.length = 8) := by unfold Hid; rw [Hq.out, List.length_set]; rfl
 obtain ⟨xa, Hxa⟩ : ∃ z : Int, Hid (z = c.getD i 0) := ⟨_, hid rfl⟩
 rw [← Hxa.out] at hne
 have Hc := hid hc
 clear h hs hc hn hb hl ok hel
 have HA := hid (Apart.refl [] w)
 have hlt0 : (0 : Int) ≤ ((i : Nat) : Int) ∧ ((i : Nat) : Int) < 8 := by omega
 go_enter Tryz.func114, Tryz.ntmps114
 go_upto_region 5 with (first
  | (go_at_call 106; refine (HCa.out _).mono ?_; rintro _ _ ⟨rfl, rfl⟩)
  | (go_at_call 118; refine (HD.out _).mono ?_; rintro _ _ ⟨rfl, rfl⟩))
 obtain ⟨X, HXX⟩ : ∃ X, Hid (X = w.heap.size) := ⟨_, rfl⟩
 obtain ⟨w1, hw1⟩ : ∃ W, W = w.alloc (.cells (sv c s) 104) := ⟨_, rfl⟩
 have HSw1 : Hid (Apart [] w w1) := hid (zM hw1)
 have HBX : Hid (w1.heap[X]? = some (.cells (sv c s) 104 (0, 0))) := hid (zN HXX.out hw1)
 have HLX : Hid (w.heap.size ≤ X) := by unfold Hid; rw [HXX.out]; exact HA.out.size
 replace HA := hid (HA.out.trans HSw1.out)
 rw [← hw1, ← HXX.out]
 clear hw1 HXX HCa HD
 have z := sv_at i h8 Hc.out HBX.out
 rw [← Hxa.out] at z
 go_upto_region 7 with fail
 clear z hne
 have hcv := conv_bytes (HR.out.kept0 HSw1.out) Hl.out Hok.out
 rw [← Hx.out] at hcv
 obtain ⟨y, Hy⟩ : ∃ y : En, Hid (y = ⟨x, zr⟩) := ⟨_, hid rfl⟩
 have Hye : Hid (y.e = x) := hid (by rw [Hy.out])
 have Hyt : Hid (y.t.length = 8) := hid (by rw [Hy.out]; rfl)
 have HYX : Hid (y.vs.length = 9) := hid (En.vs_len Hyt.out)
 go_upto_region 8 with (first
  | refine wpL_val rfl (.agg y.vs.toArray) (by rw [Hy.out]; exact ex_build106 _ rfl rfl) ?_
  | (refine wpList_store_row rfl 141 _ _ rfl w1.heap.size y.vs.toArray rfl rfl 141 _ (heap_alloc_new w1 _) (by rw [size106]; simp [HYX.out]) (by simp [HYX.out]) (all_oneCell_toArray (by intro u hu; exact evs_one (es := [y]) u (by simpa [evs] using hu))) ?_
     have HB5 := hid (put_new (w := w1) (z := zE) (cs := y.vs.toArray) (T := 141))
     have HS5 := hid (put_apart (w := w1) (z := zE) (cs := y.vs.toArray) (T := 141))
     obtain ⟨Z, HZ⟩ : ∃ X, X = w1.heap.size := ⟨_, rfl⟩
     have HNZ : Hid (X ≠ Z) := hid (by have := lt_of_heap HBX.out; omega)
     have HLZ : Hid (w.heap.size ≤ Z) := hid (by rw [HZ]; exact HA.out.size)
     have HLZ1 : Hid (w1.heap.size ≤ Z) := hid (by rw [HZ]; exact Nat.le_refl _)
     unfold zE at HB5 HS5
     rw [← HZ] at HB5 HS5 ⊢
     generalize (w1.alloc (.cells #[.string ⟨#[]⟩, .int .i64 0, .int .i64 0, .int .i64 0, .int .i64 0, .int .i64 0, .int .i64 0, .int .i64 0, .int .i64 0] 141)).setRow Z y.vs.toArray = w5 at *
     clear HZ))
 clear hcv
 replace HA := hid (HA.out.trans HS5.out)
 replace HBX := hid (keep0 HS5.out HBX.out)
 go_upto_region 9 with (first
  | refine wpL_val rfl (.agg (rv c).toArray) (ex_load _ rfl X 0 _ rfl (sv_row HBX.out) (by rw [rv_len, Hc.out])) ?_
  | (go_at_call 119; refine (HO.out _).mono ?_; rintro _ w6 ⟨rfl, a6⟩; have HA6 := hid (HA.out.trans a6); have HBX6 := hid (keep0 a6 HBX.out); have HBZ6 := hid (keep0 a6 HB5.out); clear a6)
  | (refine wpList_store_mid rfl 99 _ _ rfl X 0 (rv p).toArray rfl rfl (there_of HBX6.out 0 _ (by simp [rv_len, Hpl.out, sv_size Hc.out])) (by rw [size86]; simp [rv_len, Hpl.out]) (all_oneCell_toArray (rv_one _)) ?_
     simp only [List.toList_toArray]
     have HBX7 := hid (setC_row Hc.out Hpl.out HBX6.out)
     have HS7 := hid (apart_setCells w6 X (rv p) 0)
     have HBZ7 := hid (keepB HS7.out HBZ6.out HNZ.out.symm)
     generalize w6.setCells X 0 (rv p) = w7 at *
     clear HBX6 HBZ6)
  | (refine wpList_store_mid rfl 99 _ _ rfl Z 1 (rv q).toArray rfl rfl (there_of HBZ7.out 1 _ (by simp [rv_len, Hql.out, HYX.out])) (by rw [size86]; simp [rv_len, Hql.out]) (all_oneCell_toArray (rv_one _)) ?_
     simp only [List.toList_toArray]
     have HBZ8 := hid (setT_row Hyt.out Hql.out HBZ7.out)
     have HS8 := hid (apart_setCells w7 Z (rv q) 1)
     have HBX8 := hid (keepB HS8.out HBX7.out HNZ.out)
     generalize w7.setCells Z 1 (rv q) = w8 at *
     clear HBX7 HBZ7))
 replace HA : Hid (Apart [] w w8) := hid ((HA6.out.trans' HS7.out (by intro y hy; simp at hy; rw [hy]; exact .inr HLX.out)).trans' HS8.out (by intro y hy; simp at hy; rw [hy]; exact .inr HLZ.out))
 clear HA6 HS7 HS8 HB5 HS5 HBX HO
 rw [Hye.out] at HBZ8
 clear Hy Hye Hyt HYX
 have zx : w8.cell? ⟨Z, 0, none⟩ = some (.string x) := zK HBZ8.out
 have HC := hid (around_ok Hpl.out (HE.out.kept0 HA.out) HS.out (by have := Hn.out; omega) x)
 go_upto_region 10 with (first
  | refine wpList_load_row rfl 104 _ rfl X rfl 104 _ (0, 0) _ HBX8.out Tryz.underlying104 rfl (by rw [size91, sv_size Hpl.out]) ?_
  | (go_at_call 120; refine HC.out.mono ?_; rintro _ w9 ⟨a, b, rfl, a9, ea, eb⟩; have HA9 := hid a9; have HEa := hid ea; have HEb := hid eb; clear a9 ea eb))
 clear zx HC
 have HBX9 := hid (keep0 HA9.out HBX8.out)
 have HBZ9 := hid (keep0 HA9.out HBZ8.out)
 replace HA := hid (HA.out.trans HA9.out)
 clear HA9 HBX8 HBZ8
 have Hen : Hid ((⟨x, q⟩ : En).vs.length = 9) := hid (En.vs_len Hql.out)
 obtain ⟨w10, hw10⟩ : ∃ W, W = w9.alloc (.cells (⟨x, q⟩ : En).vs.toArray 141) := ⟨_, rfl⟩
 obtain ⟨w11, hw11⟩ : ∃ W, W = w10.alloc (.cells #[.slice a.p a.n a.c, .slice (some ⟨w9.heap.size, 0, none⟩) 1 1, .slice b.p b.n b.c] 102) := ⟨_, rfl⟩
 obtain ⟨B, HXB⟩ : ∃ X, Hid (X = w10.heap.size) := ⟨_, rfl⟩
 have HS10 : Hid (Apart [] w9 w10) := hid (zM hw10)
 have HS11 : Hid (Apart [] w10 w11) := hid (zM hw11)
 have HBE : Hid (w10.heap[w9.heap.size]? = some (.cells (⟨x, q⟩ : En).vs.toArray 141 (0, 0))) := by unfold Hid; rw [hw10]; exact heap_alloc_new w9 _
 have HBB : Hid (w11.heap[B]? = some (.cells (pvs [(a, lo es x), (⟨some ⟨w9.heap.size, 0, none⟩, 1, 1⟩, [⟨x, q⟩]), (b, hi es x)]).toArray 102 (0, 0))) := hid (zN HXB.out hw11)
 have heB : w9.heap.size + 1 = B := by rw [HXB.out, hw10]; exact (Array.size_push _).symm
 have HE1 : Hid (Es w10 ⟨some ⟨w9.heap.size, 0, none⟩, 1, 1⟩ [⟨x, q⟩]) := by
  unfold Hid
  refine ⟨fun _ => ⟨w9.heap.size, 0, rfl, ⟨_, _, HBE.out⟩, fun j u hj => ?_⟩, rfl, Nat.le_refl _, (fun e => by cases e), (fun y hy => by simp at hy; rw [hy]; exact Hql.out)⟩
  rw [cell_of_row _ _ _ _ _ _ HBE.out, Nat.zero_add]
  simpa [evs] using hj
 have e1 : pfl [(a, lo es x), (⟨some ⟨w9.heap.size, 0, none⟩, 1, 1⟩, [⟨x, q⟩]), (b, hi es x)] = lo es x ++ [⟨x, q⟩] ++ hi es x := by simp [pfl]
 have Hlen : Hid ((lo es x ++ [(⟨x, q⟩ : En)] ++ hi es x).length ≤ 2 * es.length + 1) := by
  unfold Hid
  have h1 : (lo es x).length ≤ es.length := List.length_filter_le _ _
  have h2 : (hi es x).length ≤ es.length := List.length_filter_le _ _
  simp only [List.length_append, List.length_cons, List.length_nil]
  omega
 have HC := hid (concat_ok (cc := 3) (N := 3) rfl (by omega) HBB.out (by
  intro q hq
  simp at hq
  rcases hq with rfl | rfl | rfl
  ·exact (HEa.out.kept0 HS10.out).kept0 HS11.out
  ·exact HE1.out.kept0 HS11.out
  ·exact (HEb.out.kept0 HS10.out).kept0 HS11.out) (by rw [e1]; have := Hlen.out; have := Hn.out; omega))
 rw [e1] at HC
 clear e1
 have HBX3 := hid (keep0 HS11.out (keep0 HS10.out HBX9.out))
 have HZ10 := hid (keep0 HS10.out HBZ9.out)
 go_upto_region 11 with (first
  | refine wpList_load_row rfl 141 _ rfl Z rfl 141 _ (0, 0) _ HBZ9.out Tryz.underlying141 rfl (by rw [size106]; simp [Hen.out]) ?_
  | refine wpL_bs Hql.out rfl _ rfl rfl ?_
  | (go_at_call 121; rw [← hw10]; try rw [heB]
     rw [← hw11]; refine HC.out.mono ?_; rintro _ w4 ⟨s4, rfl, a4, e4, -⟩; have HA4 := hid a4; have HE4 := hid e4; clear a4 e4; replace HBX3 := hid (keep0 HA4.out HBX3.out); have f8 := frozen_of_row _ _ 8 _ _ HBX3.out; have z8 := sv_cell Hpl.out HBX3.out))
 replace HA := hid (((HA.out.trans HS10.out).trans HS11.out).trans HA4.out)
 have HE5 : Hid (Es (w4.setCell ⟨X, 8, none⟩ (.slice s4.p s4.n s4.c)) s4 (lo es x ++ [⟨x, q⟩] ++ hi es x)) := hid (HE4.out.kept (X := [X]) ((Apart.refl [X] w4).setCell (p := ⟨X, 8, none⟩) (.inl (by simp)) _) (apart1 (w := w) HBX3.out (by decide)))
 have HB5 := hid (sv_set (s' := s4) Hpl.out HBX3.out)
 have HA5 : Hid (Apart [] w (w4.setCell ⟨X, 8, none⟩ (.slice s4.p s4.n s4.c))) := hid (HA.out.setCell (.inr HLX.out) _)
 generalize w4.setCell ⟨X, 8, none⟩ (.slice s4.p s4.n s4.c) = w5 at *
 clear f8 z8 HBX3 HE4 HA4 HC HBE HBB HE1 HEa HEb HZ10 HBZ9 HBX9 HS10 HS11 heB hw10 hw11 HXB HA
 have Hxs : Hid (x.size ≤ 8) := hid (by rw [Hx.out, strB_size, Hl.out]; exact Hsn.out)
 have HC := hid (sform_ok Hpl.out HE5.out (by have := Hlen.out; have := Hn.out; omega) (by
  intro y hy
  simp only [List.mem_append, List.mem_cons, List.not_mem_nil, or_false] at hy
  rcases hy with (hy | rfl) | hy
  ·exact Hel.out y ((List.mem_filter.1 hy).1)
  ·have := Hxs.out; show x.size ≤ 1000; omega
  ·exact Hel.out y ((List.mem_filter.1 hy).1)))
 go_wp2_with (first
  | refine wpList_load_row rfl 104 _ rfl X rfl 104 _ (0, 0) _ HB5.out Tryz.underlying104 rfl (by rw [size91, sv_size Hpl.out]) ?_
  | (go_at_call 113; refine HC.out.mono ?_; rintro _ w6 ⟨s6, rfl, b6⟩; have HB6 := hid b6; clear b6; have hcmp : ¬ ((s6.n : Nat) : Int) > 64 := by have h1 := HB6.out.len; have h2 := Hw.out; omega)
  | refine wpList_load_row rfl 104 _ rfl X rfl 104 _ (0, 0) _ (keep0 HB6.out.nw.ap HB5.out) Tryz.underlying104 rfl (by rw [size91, sv_size Hpl.out]) ?_)
 go_ret2
 exact ⟨s4, rfl, HA5.out.trans HB6.out.nw.ap, HE5.out.kept0 HB6.out.nw.ap⟩
theorem put_wide {w : World} {c : List Int} {s sl : Sl} {es : List En} {bs : List Nat} (hc : c.length = 8) (h : Es w s es) (hs : So es) (hn : es.length ≤ 200) (hel : ∀ x ∈ es, x.e.size ≤ 1000) (hb : Rd w sl.p (byts bs)) (hl : bs.length = sl.n) (ok : sl.ok) (i : Nat) (h8 : i < 8) (he : isE sl.n = true) (h0 : 0 ≤ c.getD i 0) (h1 : c.getD i 0 < 65535) (hw : 64 < (setB (putC c i) (putE c es i (strB bs))).length) : Calls Tryz.prog 114 #[.agg (sv c s), .int .i64 (i : Int), .slice sl.p sl.n sl.c] w fun r w' => r = .returned (.tuple #[.nilIface, .int .i64 71]) ∧ Apart [] w w' := by
 have hca := fun wx => isActor_ok wx (i : Int)
 have ha : isA (i : Int) = true := by simp [isA]; omega
 rw [ha] at hca
 have HCa := hid hca
 have hd := fun wx => isElement_ok wx sl.n
 have Hsn : Hid (sl.n ≤ 8) := hid (by simp [isE] at he; exact he.2)
 rw [he] at hd
 have HD := hid hd
 clear hca hd ha he
 have HE := hid h
 have HS := hid hs
 have Hn := hid hn
 have Hel := hid hel
 have HR := hid hb
 have Hl := hid hl
 have Hok := hid ok
 have HO := hid (fun wx => oneMore_ok (w := wx) hc i h8 h0 (by omega))
 have hne : (c.getD i 0 == 65535) = false := by simp only [beq_eq_false_iff_ne]; omega
 have Hw := hid hw
 clear hw h0 h1
 have Hpc : Hid (putC c i = c.set i (c.getD i 0 + 1)) := hid rfl
 have Hpe : Hid (putE c es i (strB bs) = lo es (strB bs) ++ [⟨strB bs, zr.set i (c.getD i 0 + 1)⟩] ++ hi es (strB bs)) := hid rfl
 obtain ⟨p, Hp⟩ : ∃ p, Hid (p = c.set i (c.getD i 0 + 1)) := ⟨_, hid rfl⟩
 obtain ⟨q, Hq⟩ : ∃ q, Hid (q = zr.set i (c.getD i 0 + 1)) := ⟨_, hid rfl⟩
 rw [← Hp.out, ← Hq.out] at HO
 rw [← Hp.out] at Hpc
 rw [← Hq.out] at Hpe
 rw [Hpc.out, Hpe.out] at Hw
 obtain ⟨x, Hx⟩ : ∃ x, Hid (x = strB bs) := ⟨_, hid rfl⟩
 rw [← Hx.out] at Hpe Hw
 have Hpl : Hid (p.length = 8) := by unfold Hid; rw [Hp.out, List.length_set, hc]
 have Hql : Hid (q.length = 8) := by unfold Hid; rw [Hq.out, List.length_set]; rfl
 obtain ⟨xa, Hxa⟩ : ∃ z : Int, Hid (z = c.getD i 0) := ⟨_, hid rfl⟩
 rw [← Hxa.out] at hne
 have Hc := hid hc
 clear h hs hc hn hb hl ok hel
 have HA := hid (Apart.refl [] w)
 have hlt0 : (0 : Int) ≤ ((i : Nat) : Int) ∧ ((i : Nat) : Int) < 8 := by omega
 go_enter Tryz.func114, Tryz.ntmps114
 go_upto_region 5 with (first
  | (go_at_call 106; refine (HCa.out _).mono ?_; rintro _ _ ⟨rfl, rfl⟩)
  | (go_at_call 118; refine (HD.out _).mono ?_; rintro _ _ ⟨rfl, rfl⟩))
 obtain ⟨X, HXX⟩ : ∃ X, Hid (X = w.heap.size) := ⟨_, rfl⟩
 obtain ⟨w1, hw1⟩ : ∃ W, W = w.alloc (.cells (sv c s) 104) := ⟨_, rfl⟩
 have HSw1 : Hid (Apart [] w w1) := hid (zM hw1)
 have HBX : Hid (w1.heap[X]? = some (.cells (sv c s) 104 (0, 0))) := hid (zN HXX.out hw1)
 have HLX : Hid (w.heap.size ≤ X) := by unfold Hid; rw [HXX.out]; exact HA.out.size
 replace HA := hid (HA.out.trans HSw1.out)
 rw [← hw1, ← HXX.out]
 clear hw1 HXX HCa HD
 have z := sv_at i h8 Hc.out HBX.out
 rw [← Hxa.out] at z
 go_upto_region 7 with fail
 clear z hne
 have hcv := conv_bytes (HR.out.kept0 HSw1.out) Hl.out Hok.out
 rw [← Hx.out] at hcv
 obtain ⟨y, Hy⟩ : ∃ y : En, Hid (y = ⟨x, zr⟩) := ⟨_, hid rfl⟩
 have Hye : Hid (y.e = x) := hid (by rw [Hy.out])
 have Hyt : Hid (y.t.length = 8) := hid (by rw [Hy.out]; rfl)
 have HYX : Hid (y.vs.length = 9) := hid (En.vs_len Hyt.out)
 go_upto_region 8 with (first
  | refine wpL_val rfl (.agg y.vs.toArray) (by rw [Hy.out]; exact ex_build106 _ rfl rfl) ?_
  | (refine wpList_store_row rfl 141 _ _ rfl w1.heap.size y.vs.toArray rfl rfl 141 _ (heap_alloc_new w1 _) (by rw [size106]; simp [HYX.out]) (by simp [HYX.out]) (all_oneCell_toArray (by intro u hu; exact evs_one (es := [y]) u (by simpa [evs] using hu))) ?_
     have HB5 := hid (put_new (w := w1) (z := zE) (cs := y.vs.toArray) (T := 141))
     have HS5 := hid (put_apart (w := w1) (z := zE) (cs := y.vs.toArray) (T := 141))
     obtain ⟨Z, HZ⟩ : ∃ X, X = w1.heap.size := ⟨_, rfl⟩
     have HNZ : Hid (X ≠ Z) := hid (by have := lt_of_heap HBX.out; omega)
     have HLZ : Hid (w.heap.size ≤ Z) := hid (by rw [HZ]; exact HA.out.size)
     have HLZ1 : Hid (w1.heap.size ≤ Z) := hid (by rw [HZ]; exact Nat.le_refl _)
     unfold zE at HB5 HS5
     rw [← HZ] at HB5 HS5 ⊢
     generalize (w1.alloc (.cells #[.string ⟨#[]⟩, .int .i64 0, .int .i64 0, .int .i64 0, .int .i64 0, .int .i64 0, .int .i64 0, .int .i64 0, .int .i64 0] 141)).setRow Z y.vs.toArray = w5 at *
     clear HZ))
 clear hcv
 replace HA := hid (HA.out.trans HS5.out)
 replace HBX := hid (keep0 HS5.out HBX.out)
 go_upto_region 9 with (first
  | refine wpL_val rfl (.agg (rv c).toArray) (ex_load _ rfl X 0 _ rfl (sv_row HBX.out) (by rw [rv_len, Hc.out])) ?_
  | (go_at_call 119; refine (HO.out _).mono ?_; rintro _ w6 ⟨rfl, a6⟩; have HA6 := hid (HA.out.trans a6); have HBX6 := hid (keep0 a6 HBX.out); have HBZ6 := hid (keep0 a6 HB5.out); clear a6)
  | (refine wpList_store_mid rfl 99 _ _ rfl X 0 (rv p).toArray rfl rfl (there_of HBX6.out 0 _ (by simp [rv_len, Hpl.out, sv_size Hc.out])) (by rw [size86]; simp [rv_len, Hpl.out]) (all_oneCell_toArray (rv_one _)) ?_
     simp only [List.toList_toArray]
     have HBX7 := hid (setC_row Hc.out Hpl.out HBX6.out)
     have HS7 := hid (apart_setCells w6 X (rv p) 0)
     have HBZ7 := hid (keepB HS7.out HBZ6.out HNZ.out.symm)
     generalize w6.setCells X 0 (rv p) = w7 at *
     clear HBX6 HBZ6)
  | (refine wpList_store_mid rfl 99 _ _ rfl Z 1 (rv q).toArray rfl rfl (there_of HBZ7.out 1 _ (by simp [rv_len, Hql.out, HYX.out])) (by rw [size86]; simp [rv_len, Hql.out]) (all_oneCell_toArray (rv_one _)) ?_
     simp only [List.toList_toArray]
     have HBZ8 := hid (setT_row Hyt.out Hql.out HBZ7.out)
     have HS8 := hid (apart_setCells w7 Z (rv q) 1)
     have HBX8 := hid (keepB HS8.out HBX7.out HNZ.out)
     generalize w7.setCells Z 1 (rv q) = w8 at *
     clear HBX7 HBZ7))
 replace HA : Hid (Apart [] w w8) := hid ((HA6.out.trans' HS7.out (by intro y hy; simp at hy; rw [hy]; exact .inr HLX.out)).trans' HS8.out (by intro y hy; simp at hy; rw [hy]; exact .inr HLZ.out))
 clear HA6 HS7 HS8 HB5 HS5 HBX HO
 rw [Hye.out] at HBZ8
 clear Hy Hye Hyt HYX
 have zx : w8.cell? ⟨Z, 0, none⟩ = some (.string x) := zK HBZ8.out
 have HC := hid (around_ok Hpl.out (HE.out.kept0 HA.out) HS.out (by have := Hn.out; omega) x)
 go_upto_region 10 with (first
  | refine wpList_load_row rfl 104 _ rfl X rfl 104 _ (0, 0) _ HBX8.out Tryz.underlying104 rfl (by rw [size91, sv_size Hpl.out]) ?_
  | (go_at_call 120; refine HC.out.mono ?_; rintro _ w9 ⟨a, b, rfl, a9, ea, eb⟩; have HA9 := hid a9; have HEa := hid ea; have HEb := hid eb; clear a9 ea eb))
 clear zx HC
 have HBX9 := hid (keep0 HA9.out HBX8.out)
 have HBZ9 := hid (keep0 HA9.out HBZ8.out)
 replace HA := hid (HA.out.trans HA9.out)
 clear HA9 HBX8 HBZ8
 have Hen : Hid ((⟨x, q⟩ : En).vs.length = 9) := hid (En.vs_len Hql.out)
 obtain ⟨w10, hw10⟩ : ∃ W, W = w9.alloc (.cells (⟨x, q⟩ : En).vs.toArray 141) := ⟨_, rfl⟩
 obtain ⟨w11, hw11⟩ : ∃ W, W = w10.alloc (.cells #[.slice a.p a.n a.c, .slice (some ⟨w9.heap.size, 0, none⟩) 1 1, .slice b.p b.n b.c] 102) := ⟨_, rfl⟩
 obtain ⟨B, HXB⟩ : ∃ X, Hid (X = w10.heap.size) := ⟨_, rfl⟩
 have HS10 : Hid (Apart [] w9 w10) := hid (zM hw10)
 have HS11 : Hid (Apart [] w10 w11) := hid (zM hw11)
 have HBE : Hid (w10.heap[w9.heap.size]? = some (.cells (⟨x, q⟩ : En).vs.toArray 141 (0, 0))) := by unfold Hid; rw [hw10]; exact heap_alloc_new w9 _
 have HBB : Hid (w11.heap[B]? = some (.cells (pvs [(a, lo es x), (⟨some ⟨w9.heap.size, 0, none⟩, 1, 1⟩, [⟨x, q⟩]), (b, hi es x)]).toArray 102 (0, 0))) := hid (zN HXB.out hw11)
 have heB : w9.heap.size + 1 = B := by rw [HXB.out, hw10]; exact (Array.size_push _).symm
 have HE1 : Hid (Es w10 ⟨some ⟨w9.heap.size, 0, none⟩, 1, 1⟩ [⟨x, q⟩]) := by
  unfold Hid
  refine ⟨fun _ => ⟨w9.heap.size, 0, rfl, ⟨_, _, HBE.out⟩, fun j u hj => ?_⟩, rfl, Nat.le_refl _, (fun e => by cases e), (fun y hy => by simp at hy; rw [hy]; exact Hql.out)⟩
  rw [cell_of_row _ _ _ _ _ _ HBE.out, Nat.zero_add]
  simpa [evs] using hj
 have e1 : pfl [(a, lo es x), (⟨some ⟨w9.heap.size, 0, none⟩, 1, 1⟩, [⟨x, q⟩]), (b, hi es x)] = lo es x ++ [⟨x, q⟩] ++ hi es x := by simp [pfl]
 have Hlen : Hid ((lo es x ++ [(⟨x, q⟩ : En)] ++ hi es x).length ≤ 2 * es.length + 1) := by
  unfold Hid
  have h1 : (lo es x).length ≤ es.length := List.length_filter_le _ _
  have h2 : (hi es x).length ≤ es.length := List.length_filter_le _ _
  simp only [List.length_append, List.length_cons, List.length_nil]
  omega
 have HC := hid (concat_ok (cc := 3) (N := 3) rfl (by omega) HBB.out (by
  intro q hq
  simp at hq
  rcases hq with rfl | rfl | rfl
  ·exact (HEa.out.kept0 HS10.out).kept0 HS11.out
  ·exact HE1.out.kept0 HS11.out
  ·exact (HEb.out.kept0 HS10.out).kept0 HS11.out) (by rw [e1]; have := Hlen.out; have := Hn.out; omega))
 rw [e1] at HC
 clear e1
 have HBX3 := hid (keep0 HS11.out (keep0 HS10.out HBX9.out))
 have HZ10 := hid (keep0 HS10.out HBZ9.out)
 go_upto_region 11 with (first
  | refine wpList_load_row rfl 141 _ rfl Z rfl 141 _ (0, 0) _ HBZ9.out Tryz.underlying141 rfl (by rw [size106]; simp [Hen.out]) ?_
  | refine wpL_bs Hql.out rfl _ rfl rfl ?_
  | (go_at_call 121; rw [← hw10]; try rw [heB]
     rw [← hw11]; refine HC.out.mono ?_; rintro _ w4 ⟨s4, rfl, a4, e4, -⟩; have HA4 := hid a4; have HE4 := hid e4; clear a4 e4; replace HBX3 := hid (keep0 HA4.out HBX3.out); have f8 := frozen_of_row _ _ 8 _ _ HBX3.out; have z8 := sv_cell Hpl.out HBX3.out))
 replace HA := hid (((HA.out.trans HS10.out).trans HS11.out).trans HA4.out)
 have HE5 : Hid (Es (w4.setCell ⟨X, 8, none⟩ (.slice s4.p s4.n s4.c)) s4 (lo es x ++ [⟨x, q⟩] ++ hi es x)) := hid (HE4.out.kept (X := [X]) ((Apart.refl [X] w4).setCell (p := ⟨X, 8, none⟩) (.inl (by simp)) _) (apart1 (w := w) HBX3.out (by decide)))
 have HB5 := hid (sv_set (s' := s4) Hpl.out HBX3.out)
 have HA5 : Hid (Apart [] w (w4.setCell ⟨X, 8, none⟩ (.slice s4.p s4.n s4.c))) := hid (HA.out.setCell (.inr HLX.out) _)
 generalize w4.setCell ⟨X, 8, none⟩ (.slice s4.p s4.n s4.c) = w5 at *
 clear f8 z8 HBX3 HE4 HA4 HC HBE HBB HE1 HEa HEb HZ10 HBZ9 HBX9 HS10 HS11 heB hw10 hw11 HXB HA
 have Hxs : Hid (x.size ≤ 8) := hid (by rw [Hx.out, strB_size, Hl.out]; exact Hsn.out)
 have HC := hid (sform_ok Hpl.out HE5.out (by have := Hlen.out; have := Hn.out; omega) (by
  intro y hy
  simp only [List.mem_append, List.mem_cons, List.not_mem_nil, or_false] at hy
  rcases hy with (hy | rfl) | hy
  ·exact Hel.out y ((List.mem_filter.1 hy).1)
  ·have := Hxs.out; show x.size ≤ 1000; omega
  ·exact Hel.out y ((List.mem_filter.1 hy).1)))
 go_wp2_with (first
  | refine wpList_load_row rfl 104 _ rfl X rfl 104 _ (0, 0) _ HB5.out Tryz.underlying104 rfl (by rw [size91, sv_size Hpl.out]) ?_
  | (go_at_call 113; refine HC.out.mono ?_; rintro _ w6 ⟨s6, rfl, b6⟩; have HB6 := hid b6; clear b6; have hcmp : ((s6.n : Nat) : Int) > 64 := by have h1 := HB6.out.len; have h2 := Hw.out; omega)
  | refine wpList_load_row rfl 104 _ rfl X rfl 104 _ (0, 0) _ (keep0 HB6.out.nw.ap HB5.out) Tryz.underlying104 rfl (by rw [size91, sv_size Hpl.out]) ?_)
 go_ret2
 exact ⟨rfl, HA5.out.trans HB6.out.nw.ap⟩
end Go.Proofs.YtdbeeikjngnnnaaGreat.ty
