import Derived.Test.YtdbeeikjngnnnaaGreatChecked
import Derived.WalkKit
import Derived.ProofKit
import Derived.OpenShut
import Derived.Deep.QuietTactic
import Derived.BigQuiet
import Derived.BigRegion
import Derived.Laws.CopyOwn
import Derived.Laws.IdiomCopy
import Derived.WalkSmall
import Derived.Laws.ResultCell
import Derived.Laws.AppendOwnNone
import Derived.Deep.RegionHeld
import Derived.Deep.DeepAppendRoom
import Derived.Great.BuildSlice
import Derived.Deep.CutBlock
import Derived.Deep.RegionLaw
import Derived.ArgAppend
import Derived.Laws.Strings
import Derived.Laws.StructEq
import Derived.Below
import Derived.Deep.MidRow
import Derived.Great.Ranges
import Derived.Deep.RegionHeld3
import Derived.Laws.NewBlocks
import Derived.OrdersHeld
import Derived.Stop.BytesEq
import Derived.Laws.BytesString
import Derived.Lib.ConvBytes
import Derived.Laws.BitsAllLaws
import Derived.WalkLawsBesides
import Derived.Lib.Bytealg
import Derived.Laws.Externs
import Derived.Lib.SliceRun
import Derived.Lib.AppendZerosOnto
import Derived.Lib.AppendStr
import Derived.Lib.SlBytesConst
import Derived.Sort.Walk0
import Derived.Laws.Cover1
import Derived.Lib.Strings
import Derived.Lib.MinMaxS
import GoSem.Claim
import GoSem.ClaimJoined
import GoSem.ClaimMapViews
import Derived.JoinedTies
import Derived.KernelRfl
import Derived.JoinedCond
import Derived.ShutString
import Derived.ChangeOld
import Derived.Carry
import Derived.ChangeSlices
import Derived.Deep.Slices
import Derived.Deep.DeepHandedRow
import Derived.RowKit
import Derived.ChangeShapes
import Derived.SizedLaws
import Derived.ChangeMaps5
import Derived.Sort.WalkA
import Derived.Test.YtdbeeikjngnnnaaGreatRows
import Derived.Test.YtdbeeikjngnnnaaGreatD7
namespace Go.Proofs.YtdbeeikjngnnnaaGreat.ty
open Go.ChangeShapes Go.WideShapes Go.ChangeAt Go.RowKit
set_option linter.unusedVariables false
set_option linter.unusedSimpArgs false
/-- a set -/
def sv (c : List Int) (s : Sl) : Array Value := (rv c ++ [Value.slice s.p s.n s.c]).toArray
theorem sv_size {c : List Int} (h : c.length = 8) (s : Sl) : (sv c s).size = 9 := by simp [sv, rv_len, h]
theorem sv_cell {W : World} {X t : Nat} {c : List Int} {s : Sl} (hc : c.length = 8) (h : W.heap[X]? = some (.cells (sv c s) t (0, 0))) : W.cell? ⟨X, 8, none⟩ = some (.slice s.p s.n s.c) := by
  rw [cell_of_row _ _ _ _ _ _ h]
  simp [sv, rv_len, hc, List.getElem?_append_right]
theorem sv_row {W : World} {X t : Nat} {c : List Int} {s : Sl} (h : W.heap[X]? = some (.cells (sv c s) t (0, 0))) : W.rangeAt X 0 (rv c) := by
  intro j v hj
  have hjl : j < (rv c).length := by
    by_cases hc : j < (rv c).length
    · exact hc
    · rw [List.getElem?_eq_none (by omega)] at hj; cases hj
  rw [cell_of_row _ _ _ _ _ _ h, Nat.zero_add]
  simp only [sv, List.getElem?_toArray]
  rw [List.getElem?_append_left hjl]; exact hj
theorem sz106 (W : World) : (sizeOf 141).run Tryz.prog W = .ok 9 W := by kernel_rfl
theorem el89 : Tryz.prog.elem 102 = 141 := by kernel_rfl
/-- the first k of them -/
def Sl.pre (s : Sl) (k : Nat) : Sl := ⟨if s.c = 0 then s.p else s.p.map (·.add (0 * 9)), k, s.c⟩
/-- what is behind them -/
def Sl.post (s : Sl) (k : Nat) : Sl := ⟨if s.c = k then s.p else s.p.map (·.add (k * 9)), s.n - k, s.c - k⟩
theorem ul89 : Tryz.prog.underlying 102 = some (.slice (Tryz.prog.elem 102)) := by rw [el89]; exact Tryz.underlying102
theorem ex_pre {W : World} {eval : Operand → Value} {op : Oper} (s : Sl) (k : Nat) (x y : Operand) (ho : op.op = .slice 102 x none (some y) none) (hx : eval x = .slice s.p s.n s.c) (hy : eval y = .int .i64 (k : Int)) (hk : k ≤ s.c) : (execOp eval op).run Tryz.prog W = .ok (.value (.slice (s.pre k).p (s.pre k).n (s.pre k).c)) W := by
  unfold execOp
  simp only [ho, hx, Option.map_some, Option.map_none, hy, Sem.run_bind, run_sliceAt_slice W 102 _ _ _ _ ul89, run_slice_h W 102 s.p s.n s.c ul89 .i64 (k : Int) (by omega) (by omega), el89, sz106, Result.andThen_ok, Sem.run_pure]
  simp [sliced, Sl.pre]
theorem ex_post {W : World} {eval : Operand → Value} {op : Oper} (s : Sl) (k : Nat) (x y : Operand) (ho : op.op = .slice 102 x (some y) none none) (hx : eval x = .slice s.p s.n s.c) (hy : eval y = .int .i64 (k : Int)) (hk : k ≤ s.n) : (execOp eval op).run Tryz.prog W = .ok (.value (.slice (s.post k).p (s.post k).n (s.post k).c)) W := by
  unfold execOp
  simp only [ho, hx, Option.map_some, Option.map_none, hy, Sem.run_bind, run_sliceAt_slice W 102 _ _ _ _ ul89, run_slice_l W 102 s.p s.n s.c ul89 .i64 (k : Int) (by omega) (by omega), el89, sz106, Result.andThen_ok, Sem.run_pure]
  simp [sliced, Sl.post]
theorem Es.pre {w : World} {s : Sl} {es : List En} (h : Es w s es) {k : Nat} (hk : k ≤ es.length) : Es w (s.pre k) (es.take k) := by
  refine ⟨fun h0 => ?_, by simp [Sl.pre]; omega, by have := h.len; have := h.cap; show k ≤ s.c; omega, fun hp => ?_, fun x hx => h.row x (List.mem_of_mem_take hx)⟩
  · have e : evs es = evs (es.take k) ++ evs (es.drop k) := by rw [← evs_app, List.take_append_drop]
    obtain ⟨P, o, e1, hb, hc⟩ := h.rd (by rw [e, List.length_append]; omega)
    refine ⟨P, o, ?_, hb, fun j u hj => hc j u ?_⟩
    · simp only [Sl.pre, e1, Option.map_some, Addr.add_lit, Nat.zero_mul, Nat.add_zero, ite_self]
    · rw [e, List.getElem?_append_left (by have := (List.getElem?_eq_some_iff.1 hj).1; exact this)]; exact hj
  · have hn : s.p = none := by
      simp only [Sl.pre] at hp
      split at hp
      · exact hp
      · simpa using hp
    have h1 := h.ok hn
    have h2 := h.len
    exact ⟨by show k = 0; omega, h1.2⟩
theorem Es.post {w : World} {s : Sl} {es : List En} (h : Es w s es) {k : Nat} (hk : k ≤ es.length) : Es w (s.post k) (es.drop k) := by
  have hl := h.len
  have hcp := h.cap
  refine ⟨fun h0 => ?_, by simp [Sl.post]; omega, by show s.n - k ≤ s.c - k; omega, fun hp => ?_, fun x hx => h.row x (List.mem_of_mem_drop hx)⟩
  · have e : evs es = evs (es.take k) ++ evs (es.drop k) := by rw [← evs_app, List.take_append_drop]
    have ht : (evs (es.take k)).length = k * 9 := by
      rw [evs_len (fun x hx => h.row x (List.mem_of_mem_take hx)), List.length_take]
      congr 1; omega
    have hd : (es.drop k).length ≠ 0 := by
      intro h1
      rw [List.length_eq_zero_iff.1 h1] at h0
      simp [evs] at h0
    rw [List.length_drop] at hd
    obtain ⟨P, o, e1, hb, hc⟩ := h.rd (by rw [e, List.length_append]; omega)
    refine ⟨P, o + k * 9, ?_, hb, fun j u hj => ?_⟩
    · simp only [Sl.post, e1, Option.map_some, Addr.add_lit]
      rw [if_neg (by omega)]
    · rw [Nat.add_assoc]
      refine hc _ _ ?_
      rw [e, List.getElem?_append_right (by omega), ht, show k * 9 + j - k * 9 = j from by omega]
      exact hj
  · have hn : s.p = none := by
      simp only [Sl.post] at hp
      split at hp
      · exact hp
      · simpa using hp
    have h1 := h.ok hn
    exact ⟨by show s.n - k = 0; omega, by show s.c - k = 0; omega⟩
theorem Fo.take {es : List En} {x : ByteArray} {k : Nat} (h : Fo es x k) : es.take k = lo es x := by
  have e : es = es.take k ++ es.drop k := (List.take_append_drop k es).symm
  unfold lo
  conv => rhs; rw [e]
  rw [List.filter_append]
  have h1 : (es.take k).filter (fun y => bl y.e x) = es.take k := by
    apply List.filter_eq_self.2
    intro y hy
    obtain ⟨i, hi, rfl⟩ := List.getElem_of_mem hy
    rw [List.length_take] at hi
    rw [List.getElem_take]
    exact h.lt i (by omega) (by omega)
  have h2 : (es.drop k).filter (fun y => bl y.e x) = [] := by
    apply List.filter_eq_nil_iff.2
    intro y hy
    obtain ⟨i, hi, rfl⟩ := List.getElem_of_mem hy
    rw [List.length_drop] at hi
    rw [List.getElem_drop, h.ge (k + i) (by omega) (by omega)]
    simp
  rw [h1, h2, List.append_nil]
theorem Fo.hi_of {es : List En} {x : ByteArray} {k m : Nat} (h : Fo es x k) (hs : So es) (hkm : k ≤ m) (hg : ∀ i (hi : i < es.length), m ≤ i → bl x es[i].e = true) (hl : ∀ i (hi : i < es.length), i < m → bl x es[i].e = false) : es.drop m = hi es x := by
  have e : es = es.take m ++ es.drop m := (List.take_append_drop m es).symm
  unfold hi
  conv => rhs; rw [e]
  rw [List.filter_append]
  have h1 : (es.drop m).filter (fun y => bl x y.e) = es.drop m := by
    apply List.filter_eq_self.2
    intro y hy
    obtain ⟨i, hi, rfl⟩ := List.getElem_of_mem hy
    rw [List.length_drop] at hi
    rw [List.getElem_drop]
    exact hg (m + i) (by omega) (by omega)
  have h2 : (es.take m).filter (fun y => bl x y.e) = [] := by
    apply List.filter_eq_nil_iff.2
    intro y hy
    obtain ⟨i, hi, rfl⟩ := List.getElem_of_mem hy
    rw [List.length_take] at hi
    rw [List.getElem_take, hl i (by omega) (by omega)]
    simp
  rw [h1, h2, List.nil_append]
theorem bl_asym {a b : ByteArray} (h : bl a b = true) : bl b a = false := by
  cases hq : bl b a
  · rfl
  · have := bl_trans h hq; rw [bl_irrefl] at this; cases this
/-- found: it stands at k -/
theorem Fo.found {es : List En} {x : ByteArray} {k : Nat} (h : Fo es x k) (hs : So es) (hf : fnd es x k = true) : k + 1 ≤ es.length ∧ es.drop (k + 1) = ty.hi es x := by
  unfold fnd at hf
  split at hf
  · rename_i y hy
    obtain ⟨hk, hy⟩ := List.getElem?_eq_some_iff.1 hy
    have he : es[k].e = x := (cb_eq _ _).1 (by rw [hy]; simpa using hf)
    refine ⟨hk, h.hi_of hs (by omega) (fun i hi him => ?_) (fun i hi him => ?_)⟩
    · rw [← he]; exact so_lt hs hk hi (by omega)
    · rcases Nat.lt_or_ge i k with h1 | h1
      · exact bl_asym (h.lt i hi h1)
      · obtain rfl : i = k := by omega
        rw [he, bl_irrefl]
  · cases hf
theorem Fo.lost {es : List En} {x : ByteArray} {k : Nat} (h : Fo es x k) (hs : So es) (hf : fnd es x k = false) : es.drop k = ty.hi es x := by
  refine h.hi_of hs (Nat.le_refl _) (fun i hi him => ?_) (fun i hi him => bl_asym (h.lt i hi him))
  have h1 := h.ge i hi him
  cases hq : bl x es[i].e
  · exfalso
    have he := bl_total h1 hq
    rcases Nat.lt_or_ge k i with h2 | h2
    · have h3 := so_lt hs (show k < es.length by omega) hi h2
      rw [he, h.ge k (by omega) (Nat.le_refl _)] at h3
      cases h3
    · obtain rfl : i = k := by omega
      unfold fnd at hf
      rw [List.getElem?_eq_getElem hi] at hf
      simp only [beq_eq_false_iff_ne, ne_eq, cb_eq] at hf
      exact hf he
  · rfl
set_option maxRecDepth 100000 in
theorem around_ok {w : World} {c : List Int} {s : Sl} {es : List En} (hc : c.length = 8) (h : Es w s es) (hs : So es) (hn : es.length ≤ 1000000) (x : ByteArray) : Calls Tryz.prog 120 #[.agg (sv c s), .string x] w fun r w' => ∃ a b : Sl, r = .returned (.tuple #[.slice a.p a.n a.c, .slice b.p b.n b.c]) ∧ Apart [] w w' ∧ Es w' a (lo es x) ∧ Es w' b (hi es x) := by
  have HE := hid h
  have HS := hid hs
  have Hc := hid hc
  have Hn := hid hn
  clear h hs hc hn
  have HA := hid (Apart.refl [] w)
  go_enter Tryz.func120, Tryz.ntmps120
  go_upto_region 1 with fail
  obtain ⟨X, HXX⟩ : ∃ X, Hid (X = w.heap.size) := ⟨_, rfl⟩
  obtain ⟨w1, hw1⟩ : ∃ W, W = w.alloc (.cells (sv c s) 104) := ⟨_, rfl⟩
  have HSw1 : Hid (Apart [] w w1) := by unfold Hid; rw [hw1]; exact (Apart.refl [] w).alloc _
  have HBX : Hid (w1.heap[X]? = some (.cells (sv c s) 104 (0, 0))) := by unfold Hid; rw [HXX.out, hw1]; exact heap_alloc_new w _
  replace HA := hid (HA.out.trans HSw1.out)
  rw [← hw1, ← HXX.out]
  clear hw1 HXX
  have z : w1.cell? ⟨X, 8, none⟩ = some (.slice s.p s.n s.c) := sv_cell Hc.out HBX.out
  have HC := hid (search_ok (HE.out.kept0 HSw1.out) HS.out Hn.out x)
  go_upto_region 2 with (go_at_call 122; refine HC.out.mono ?_; rintro _ w2 ⟨k, rfl, f2, a2⟩; have HF := hid f2; have HS2 := hid a2; clear f2 a2)
  clear z HC
  have hle : k ≤ s.n := by have h1 := HF.out.le; rw [HE.out.len]; exact h1
  have hlc : k ≤ s.c := Nat.le_trans hle HE.out.cap
  have hle2 : k ≤ 1000000 := by have h1 := HF.out.le; have h2 := Hn.out; omega
  replace HA := hid (HA.out.trans HS2.out)
  replace HBX := hid (keep0 HS2.out HBX.out)
  clear HS2 HSw1
  obtain ⟨f, Hf⟩ : ∃ f, Hid (f = fnd es x k) := ⟨_, hid rfl⟩
  rw [← Hf.out]
  cases f
  · have HD : Hid (es.drop k = hi es x) := hid (HF.out.lost HS.out Hf.out.symm)
    go_upto_region 4 with fail
    have hAd : Apart [] w2 w2.drew := (Apart.refl [] w2).drew
    refine wp_region_held_drew (S := fun W => Apart [] w2 W) (by kernel_rfl) hAd (fun hHeld => ?_)
    generalize w2.drew = wd at *
    clear hAd
    refine tk 0 25 (.pointer (some ⟨X, 8, none⟩)) rfl ?_ ?_
    · intro W hSW; go_simp
    simp only [Act.put, List.setIfInBounds_toArray, List.set_cons_zero, List.set_cons_succ]
    refine tk 1 26 (.slice s.p s.n s.c) rfl ?_ ?_
    · intro W hSW; have z := sv_cell Hc.out (keep0 hSW HBX.out); go_simp
    simp only [Act.put, List.setIfInBounds_toArray, List.set_cons_zero, List.set_cons_succ]
    refine tk 2 27 (.int .i64 (k : Nat)) rfl ?_ ?_
    · intro W hSW; go_simp
    simp only [Act.put, List.setIfInBounds_toArray, List.set_cons_zero, List.set_cons_succ]
    refine tk 3 28 (.slice (s.pre k).p (s.pre k).n (s.pre k).c) rfl ?_ ?_
    · intro W hSW; exact ex_pre s k _ _ rfl rfl rfl hlc
    simp only [Act.put, List.setIfInBounds_toArray, List.set_cons_zero, List.set_cons_succ]
    refine tk 4 29 (.pointer (some ⟨X, 8, none⟩)) rfl ?_ ?_
    · intro W hSW; go_simp
    simp only [Act.put, List.setIfInBounds_toArray, List.set_cons_zero, List.set_cons_succ]
    refine tk 5 30 (.slice s.p s.n s.c) rfl ?_ ?_
    · intro W hSW; have z := sv_cell Hc.out (keep0 hSW HBX.out); go_simp
    simp only [Act.put, List.setIfInBounds_toArray, List.set_cons_zero, List.set_cons_succ]
    refine tk 6 31 (.int .i64 (k : Nat)) rfl ?_ ?_
    · intro W hSW; go_simp
    simp only [Act.put, List.setIfInBounds_toArray, List.set_cons_zero, List.set_cons_succ]
    refine tk 7 32 (.slice (s.post k).p (s.post k).n (s.post k).c) rfl ?_ ?_
    · intro W hSW; exact ex_post s k _ _ rfl rfl rfl hle
    simp only [Act.put, List.setIfInBounds_toArray, List.set_cons_zero, List.set_cons_succ]
    refine tk 8 4 (.slice (s.pre k).p (s.pre k).n (s.pre k).c) rfl ?_ ?_
    · intro W hSW; go_simp
    simp only [Act.put, List.setIfInBounds_toArray, List.set_cons_zero, List.set_cons_succ]
    refine tk 9 5 (.slice (s.post k).p (s.post k).n (s.post k).c) rfl ?_ ?_
    · intro W hSW; go_simp
    simp only [Act.put, List.setIfInBounds_toArray, List.set_cons_zero, List.set_cons_succ]
    refine wpAnyH_done (by kernel_rfl) ?_ _
    have HA3 := hid (HA.out.trans hHeld)
    clear hHeld
    go_wp2_with fail
    go_ret2
    exact ⟨_, _, rfl, HA3.out, by rw [← HF.out.take]; exact (HE.out.kept0 HA3.out).pre HF.out.le, by rw [← HD.out]; exact (HE.out.kept0 HA3.out).post HF.out.le⟩
  · have HD : Hid (k + 1 ≤ es.length ∧ es.drop (k + 1) = hi es x) := hid (HF.out.found HS.out Hf.out.symm)
    have hk1 : k + 1 ≤ s.n := by rw [HE.out.len]; exact HD.out.1
    go_upto_region 3 with fail
    have hAd : Apart [] w2 w2.drew := (Apart.refl [] w2).drew
    refine wp_region_held_drew (S := fun W => Apart [] w2 W) (by kernel_rfl) hAd (fun hHeld => ?_)
    generalize w2.drew = wd at *
    clear hAd
    refine tk 0 16 (.pointer (some ⟨X, 8, none⟩)) rfl ?_ ?_
    · intro W hSW; go_simp
    simp only [Act.put, List.setIfInBounds_toArray, List.set_cons_zero, List.set_cons_succ]
    refine tk 1 17 (.slice s.p s.n s.c) rfl ?_ ?_
    · intro W hSW; have z := sv_cell Hc.out (keep0 hSW HBX.out); go_simp
    simp only [Act.put, List.setIfInBounds_toArray, List.set_cons_zero, List.set_cons_succ]
    refine tk 2 18 (.int .i64 (k : Nat)) rfl ?_ ?_
    · intro W hSW; go_simp
    simp only [Act.put, List.setIfInBounds_toArray, List.set_cons_zero, List.set_cons_succ]
    refine tk 3 19 (.slice (s.pre k).p (s.pre k).n (s.pre k).c) rfl ?_ ?_
    · intro W hSW; exact ex_pre s k _ _ rfl rfl rfl hlc
    simp only [Act.put, List.setIfInBounds_toArray, List.set_cons_zero, List.set_cons_succ]
    refine tk 4 20 (.pointer (some ⟨X, 8, none⟩)) rfl ?_ ?_
    · intro W hSW; go_simp
    simp only [Act.put, List.setIfInBounds_toArray, List.set_cons_zero, List.set_cons_succ]
    refine tk 5 21 (.slice s.p s.n s.c) rfl ?_ ?_
    · intro W hSW; have z := sv_cell Hc.out (keep0 hSW HBX.out); go_simp
    simp only [Act.put, List.setIfInBounds_toArray, List.set_cons_zero, List.set_cons_succ]
    refine tk 6 22 (.int .i64 (k : Nat)) rfl ?_ ?_
    · intro W hSW; go_simp
    simp only [Act.put, List.setIfInBounds_toArray, List.set_cons_zero, List.set_cons_succ]
    refine tk 7 23 (.int .i64 ((k + 1 : Nat) : Int)) rfl ?_ ?_
    · intro W hSW; go_simp; have e64 : IntKind.i64.wrap ((k : Int) + 1) = (k : Int) + 1 := IntWalk.i64_in _ (by omega); exact e64
    simp only [Act.put, List.setIfInBounds_toArray, List.set_cons_zero, List.set_cons_succ]
    refine tk 8 24 (.slice (s.post (k + 1)).p (s.post (k + 1)).n (s.post (k + 1)).c) rfl ?_ ?_
    · intro W hSW; exact ex_post s (k + 1) _ _ rfl rfl rfl hk1
    simp only [Act.put, List.setIfInBounds_toArray, List.set_cons_zero, List.set_cons_succ]
    refine tk 9 4 (.slice (s.pre k).p (s.pre k).n (s.pre k).c) rfl ?_ ?_
    · intro W hSW; go_simp
    simp only [Act.put, List.setIfInBounds_toArray, List.set_cons_zero, List.set_cons_succ]
    refine tk 10 5 (.slice (s.post (k + 1)).p (s.post (k + 1)).n (s.post (k + 1)).c) rfl ?_ ?_
    · intro W hSW; go_simp
    simp only [Act.put, List.setIfInBounds_toArray, List.set_cons_zero, List.set_cons_succ]
    refine wpAnyH_done (by kernel_rfl) ?_ _
    have HA3 := hid (HA.out.trans hHeld)
    clear hHeld
    go_wp2_with fail
    go_ret2
    exact ⟨_, _, rfl, HA3.out, by rw [← HF.out.take]; exact (HE.out.kept0 HA3.out).pre HF.out.le, by rw [← HD.out.2]; exact (HE.out.kept0 HA3.out).post HD.out.1⟩
end Go.Proofs.YtdbeeikjngnnnaaGreat.ty
namespace Go.Proofs.YtdbeeikjngnnnaaGreat.ty
open Go.ChangeShapes Go.WideShapes Go.ChangeAt Go.RowKit
set_option linter.unusedVariables false
set_option linter.unusedSimpArgs false
set_option maxRecDepth 100000 in
theorem Put2_p {w : World} {V : Nat} {cs : Array Value} (a b : Value) {Q : Array Value → World → Prop} (hV : Bd w V (.iface 104 (.agg cs))) (hc : Calls Tryz.prog 114 #[.agg cs, a, b] w fun r w' => ∃ d, r = .returned (.tuple #[.iface 104 (.agg d), .int .i64 0]) ∧ Apart [] w w' ∧ Q d w') : Calls Tryz.prog 36 #[.pointer (some ⟨V, 0, none⟩), a, b] w fun r w' => r = .returned (.int .i64 0) ∧ ∃ d w1, Bd w' V (.iface 104 (.agg d)) ∧ Apart [] w w1 ∧ Apart [V] w1 w' ∧ Bd w1 V (.iface 104 (.agg cs)) ∧ Q d w1 := by
  have z : w.cell? ⟨V, 0, none⟩ = some (.iface 104 (.agg cs)) := by rw [cell_of_row _ _ _ _ _ _ hV]; rfl
  have HV := hid hV
  clear hV
  have hm := fun wx => me_put2 cs wx
  have HC := hid hc
  clear hc
  go_enter Tryz.func36, Tryz.ntmps36
  go_wp2_with (go_at_call 114; refine HC.out.mono ?_; rintro _ w1 ⟨d, rfl, a1, q1⟩; have HA1 := hid a1; have HQ1 := hid q1; clear a1 q1)
  go_wp2_with (go_at_call 34; refine (become_ok (b0 := .iface 104 (.agg cs)) (keep0 HA1.out HV.out) 104 (.agg d)).mono ?_; rintro _ w2 ⟨rfl, b2, a2⟩; have HA2 := hid (And.intro b2 a2); clear b2 a2)
  go_wp2_with fail
  go_ret
  exact ⟨rfl, d, w1, HA2.out.1, HA1.out, HA2.out.2, keep0 HA1.out HV.out, HQ1.out⟩
set_option maxRecDepth 100000 in
theorem Take2_p {w : World} {V : Nat} {cs : Array Value} (a : Value) {Q : Array Value → World → Prop} (hV : Bd w V (.iface 104 (.agg cs))) (hc : Calls Tryz.prog 117 #[.agg cs, a] w fun r w' => ∃ d, r = .returned (.tuple #[.iface 104 (.agg d), .int .i64 0]) ∧ Apart [] w w' ∧ Q d w') : Calls Tryz.prog 37 #[.pointer (some ⟨V, 0, none⟩), a] w fun r w' => r = .returned (.int .i64 0) ∧ ∃ d w1, Bd w' V (.iface 104 (.agg d)) ∧ Apart [] w w1 ∧ Apart [V] w1 w' ∧ Bd w1 V (.iface 104 (.agg cs)) ∧ Q d w1 := by
  have z : w.cell? ⟨V, 0, none⟩ = some (.iface 104 (.agg cs)) := by rw [cell_of_row _ _ _ _ _ _ hV]; rfl
  have HV := hid hV
  clear hV
  have hm := fun wx => me_take2 cs wx
  have HC := hid hc
  clear hc
  go_enter Tryz.func37, Tryz.ntmps37
  go_wp2_with (go_at_call 117; refine HC.out.mono ?_; rintro _ w1 ⟨d, rfl, a1, q1⟩; have HA1 := hid a1; have HQ1 := hid q1; clear a1 q1)
  go_wp2_with (go_at_call 34; refine (become_ok (b0 := .iface 104 (.agg cs)) (keep0 HA1.out HV.out) 104 (.agg d)).mono ?_; rintro _ w2 ⟨rfl, b2, a2⟩; have HA2 := hid (And.intro b2 a2); clear b2 a2)
  go_wp2_with fail
  go_ret
  exact ⟨rfl, d, w1, HA2.out.1, HA1.out, HA2.out.2, keep0 HA1.out HV.out, HQ1.out⟩
set_option maxRecDepth 100000 in
theorem Elements2_p {w : World} {V : Nat} {cs : Array Value} {Q : Value → World → Prop} (hV : Bd w V (.iface 104 (.agg cs))) (hc : Calls Tryz.prog 112 #[.agg cs] w fun r w' => ∃ x, r = .returned x ∧ Q x w') : Calls Tryz.prog 31 #[.pointer (some ⟨V, 0, none⟩)] w fun r w' => ∃ x, r = .returned x ∧ Q x w' := by
  have z : w.cell? ⟨V, 0, none⟩ = some (.iface 104 (.agg cs)) := by rw [cell_of_row _ _ _ _ _ _ hV]; rfl
  have hm := fun wx => me_elements2 cs wx
  have HC := hid hc
  clear hc hV
  go_enter Tryz.func31, Tryz.ntmps31
  go_wp2_with (go_at_call 112; refine HC.out.mono ?_; rintro _ w1 ⟨x, rfl, q1⟩; have HQ := hid q1; clear q1)
  go_wp2_with fail
  go_ret
  exact ⟨_, rfl, HQ.out⟩
set_option maxRecDepth 100000 in
theorem Text4_p {w : World} {V : Nat} {cs : Array Value} {Q : Value → World → Prop} (hV : Bd w V (.iface 108 (.agg cs))) (hc : Calls Tryz.prog 136 #[.agg cs] w fun r w' => ∃ x, r = .returned x ∧ Q x w') : Calls Tryz.prog 27 #[.pointer (some ⟨V, 0, none⟩)] w fun r w' => ∃ x, r = .returned x ∧ Q x w' := by
  have z : w.cell? ⟨V, 0, none⟩ = some (.iface 108 (.agg cs)) := by rw [cell_of_row _ _ _ _ _ _ hV]; rfl
  have hm := fun wx => me_text4 cs wx
  have HC := hid hc
  clear hc hV
  go_enter Tryz.func27, Tryz.ntmps27
  go_wp2_with (go_at_call 136; refine HC.out.mono ?_; rintro _ w1 ⟨x, rfl, q1⟩; have HQ := hid q1; clear q1)
  go_wp2_with fail
  go_ret
  exact ⟨_, rfl, HQ.out⟩
/-- a value -/
def Vl : Type := (List Int × List Int) ⊕ (List Int × List En) ⊕ (List Int × List Int) ⊕ (Int × Int × ByteArray)
abbrev Vl.cnt (u d : List Int) : Vl := Sum.inl (u, d)
abbrev Vl.set (c : List Int) (es : List En) : Vl := Sum.inr (Sum.inl (c, es))
abbrev Vl.flg (c g : List Int) : Vl := Sum.inr (Sum.inr (Sum.inl (c, g)))
abbrev Vl.rgs (s a : Int) (t : ByteArray) : Vl := Sum.inr (Sum.inr (Sum.inr (s, a, t)))
theorem Vl.el {motive : Vl → Prop} (cnt : ∀ u d, motive (Vl.cnt u d)) (set : ∀ c es, motive (Vl.set c es)) (flg : ∀ c g, motive (Vl.flg c g)) (rgs : ∀ s a t, motive (Vl.rgs s a t)) (v : Vl) : motive v := by
  rcases v with ⟨u, d⟩ | ⟨c, es⟩ | ⟨c, g⟩ | ⟨s, a, t⟩
  · exact cnt u d
  · exact set c es
  · exact flg c g
  · exact rgs s a t
/-- .. in memory -/
def Ho (w : World) (V : Nat) : Vl → Prop
  | Sum.inl (u, d) => Bd w V (.iface 101 (.agg (rv (u ++ d)).toArray))
  | Sum.inr (Sum.inl (c, es)) => ∃ s, Bd w V (.iface 104 (.agg (sv c s))) ∧ Es w s es
  | Sum.inr (Sum.inr (Sum.inl (c, g))) => Bd w V (.iface 106 (.agg (rv (c ++ g)).toArray))
  | Sum.inr (Sum.inr (Sum.inr (s, a, t))) => Bd w V (.iface 108 (.agg (ty.rg s a t)))
def Cn (r : List Int) : Prop := r.length = 8 ∧ ∀ i, 0 ≤ r.getD i 0 ∧ r.getD i 0 ≤ 65535
/-- as it may be -/
def Ok : Vl → Prop
  | Sum.inl (u, d) => Wd u ∧ Wd d
  | Sum.inr (Sum.inl (c, es)) => Cn c ∧ So es ∧ es.length ≤ 200 ∧ (∀ x ∈ es, x.e.size ≤ 8 ∧ Cn x.t)
  | Sum.inr (Sum.inr (Sum.inl (c, g))) => Cn c ∧ Cn g
  | Sum.inr (Sum.inr (Sum.inr (s, a, t))) => 0 ≤ s ∧ s ≤ 16777215
def Vl.kd : Vl → Nat
  | Sum.inl _ => 1
  | Sum.inr (Sum.inl _) => 2
  | Sum.inr (Sum.inr (Sum.inl _)) => 3
  | Sum.inr (Sum.inr (Sum.inr _)) => 4
theorem no106 {w : World} {V : Nat} {b : Value} (h : Bd w V b) : ∀ k ∈ [V], ∀ cur m, w.heap[k]? ≠ some (.cells cur 141 m) := by
  intro k hk cur m e
  simp at hk
  subst hk
  rw [show w.heap[k]? = _ from h] at e
  simp only [Option.some.injEq, Obj.cells.injEq] at e
  exact absurd e.2.1 (by decide)
/-- another value may change -/
theorem Ho.other {w w' : World} {V V' : Nat} {v : Vl} {b : Value} (h : Ho w V v) (a : Apart [V'] w w') (hb : Bd w V' b) (hn : V ≠ V') : Ho w' V v := by
  cases v using Vl.el with
  | cnt u d => exact keepB a h hn
  | set c es => obtain ⟨s, h1, h2⟩ := h; exact ⟨s, keepB a h1 hn, h2.kept a (no106 hb)⟩
  | flg c g => exact keepB a h hn
  | rgs s x t => exact keepB a h hn
theorem Ho.kept0 {w w' : World} {V : Nat} {v : Vl} (h : Ho w V v) (a : Apart [] w w') : Ho w' V v := by
  cases v using Vl.el with
  | cnt u d => exact keep0 a h
  | set c es => obtain ⟨s, h1, h2⟩ := h; exact ⟨s, keep0 a h1, h2.kept0 a⟩
  | flg c g => exact keep0 a h
  | rgs s x t => exact keep0 a h
theorem Ho.bd {w : World} {V : Nat} {v : Vl} (h : Ho w V v) : ∃ b, Bd w V b := by
  cases v using Vl.el with
  | cnt u d => exact ⟨_, h⟩
  | set c es => obtain ⟨s, h1, h2⟩ := h; exact ⟨_, h1⟩
  | flg c g => exact ⟨_, h⟩
  | rgs s x t => exact ⟨_, h⟩
def new0 (k : Nat) : Vl := if k = 1 then .cnt zr zr else if k = 2 then .set zr [] else if k = 3 then .flg zr zr else .rgs 0 0 ⟨#[]⟩
theorem Ho.new (w : World) (k : Nat) (h1 : 1 ≤ k) (h4 : k ≤ 4) : Ho (w.alloc (.cells #[zb k] 71)) w.heap.size (new0 k) := by
  obtain rfl | rfl | rfl | rfl : k = 1 ∨ k = 2 ∨ k = 3 ∨ k = 4 := by omega
  · exact heap_alloc_new w _
  · exact ⟨⟨none, 0, 0⟩, heap_alloc_new w _, Es.nil _⟩
  · exact heap_alloc_new w _
  · exact heap_alloc_new w _
theorem Cn.zr : Cn zr := ⟨rfl, fun i => by
  have e : ty.zr = List.replicate 8 0 := rfl
  rw [e, List.getD_eq_getElem?_getD, List.getElem?_replicate]
  split <;> simp⟩
/-- Add -/
def addR (v : Vl) (a b : Int) : Int × Vl := match v with
  | Sum.inl (u, d) => if isA a = false then (191, v) else if b > 16777215 ∨ b < -16777215 then (92, v) else if u.getD a.toNat 0 + max b 0 > 16777215 ∨ d.getD a.toNat 0 - min b 0 > 16777215 then (92, v) else (0, .cnt (u.set a.toNat (u.getD a.toNat 0 + max b 0)) (d.set a.toNat (d.getD a.toNat 0 - min b 0)))
  | _ => (190, v)
theorem isA_i {a : Int} (h : isA a = true) : ∃ i : Nat, a = (i : Int) ∧ i < 8 ∧ a.toNat = i := by
  simp [isA] at h
  exact ⟨a.toNat, by omega, by omega, rfl⟩
theorem Add_v {w : World} {V : Nat} {v : Vl} (hV : Ho w V v) (ok : Ok v) (a b : Int) : Calls Tryz.prog 15 #[.pointer (some ⟨V, 0, none⟩), .int .i64 a, .int .i64 b] w fun r w' => r = .returned (.int .i64 (addR v a b).1) ∧ Ho w' V (addR v a b).2 ∧ Apart [V] w w' := by
  cases v using Vl.el with
  | cnt u d =>
    cases ha : isA a
    · have e : addR (.cnt u d) a b = (191, .cnt u d) := by simp [addR, ha]
      rw [e]
      refine (Add1_no (.int .i64 a) (.int .i64 b) (by decide) hV (add_actor a b ha)).mono ?_
      rintro _ w' ⟨rfl, a'⟩
      exact ⟨rfl, hV.kept0 a', a'.mono (by simp)⟩
    · obtain ⟨i, rfl, hi, hx⟩ := isA_i ha
      by_cases h1 : b > 16777215 ∨ b < -16777215
      · have e : addR (.cnt u d) i b = (92, .cnt u d) := by simp [addR, ha, h1]
        rw [e]
        refine (Add1_no (.int .i64 (i : Int)) (.int .i64 b) (by decide) hV (add_wide (i : Int) b ha h1)).mono ?_
        rintro _ w' ⟨rfl, a'⟩
        exact ⟨rfl, hV.kept0 a', a'.mono (by simp)⟩
      · have hc := add_ok (w := w) ok.1 ok.2 i hi b (by omega) (by omega)
        by_cases h2 : u.getD i 0 + max b 0 > 16777215 ∨ d.getD i 0 - min b 0 > 16777215
        · have e : addR (.cnt u d) i b = (92, .cnt u d) := by simp only [addR, hx, ha, if_neg h1, if_pos h2]; simp
          have e2 : addV u d i b = .tuple #[.nilIface, .int .i64 92] := by rw [addV, if_pos h2]
          rw [e]
          rw [e2] at hc
          refine (Add1_no (.int .i64 (i : Int)) (.int .i64 b) (by decide) hV hc).mono ?_
          rintro _ w' ⟨rfl, a'⟩
          exact ⟨rfl, hV.kept0 a', a'.mono (by simp)⟩
        · have e : addR (.cnt u d) i b = (0, .cnt (u.set i (u.getD i 0 + max b 0)) (d.set i (d.getD i 0 - min b 0))) := by simp only [addR, hx, ha, if_neg h1, if_neg h2]; simp
          have e2 : addV u d i b = .tuple #[.iface 101 (.agg (rv (u.set i (u.getD i 0 + max b 0) ++ d.set i (d.getD i 0 - min b 0))).toArray), .int .i64 0] := by rw [addV, if_neg h2]
          rw [e]
          rw [e2] at hc
          refine (Add1_ok (.int .i64 (i : Int)) (.int .i64 b) hV hc).mono ?_
          rintro _ w' ⟨rfl, h', a'⟩
          exact ⟨rfl, h', a'⟩
  | set c es =>
    have hV' := hV
    obtain ⟨s, h1, h2⟩ := hV
    refine (Add2_no _ _ (e := 190) (by decide) h1 (sv_size ok.1.1 s) (o_add _ _ _)).mono ?_
    rintro _ w' ⟨rfl, a'⟩
    exact ⟨rfl, hV'.kept0 a', a'.mono (by simp)⟩
  | flg c g =>
    refine (Add3_no _ _ (e := 190) (by decide) hV (by simp [rv_len, ok.1.1, ok.2.1]) (o_add _ _ _)).mono ?_
    rintro _ w' ⟨rfl, a'⟩
    exact ⟨rfl, hV.kept0 a', a'.mono (by simp)⟩
  | rgs s x t =>
    refine (Add4_no _ _ (e := 190) (by decide) hV rfl (o_add _ _ _)).mono ?_
    rintro _ w' ⟨rfl, a'⟩
    exact ⟨rfl, hV.kept0 a', a'.mono (by simp)⟩
end Go.Proofs.YtdbeeikjngnnnaaGreat.ty
namespace Go.Proofs.YtdbeeikjngnnnaaGreat.ty
open Go.ChangeShapes Go.WideShapes Go.ChangeAt Go.RowKit
set_option linter.unusedVariables false
set_option linter.unusedSimpArgs false
def wn (k j : Nat) (g : Bool) : Int := if k ≠ j then 190 else if g then 0 else 191
theorem Cn.set {r : List Int} (h : Cn r) (i : Nat) {x : Int} (h0 : 0 ≤ x) (h1 : x ≤ 65535) : Cn (r.set i x) := by
  refine ⟨by rw [List.length_set]; exact h.1, fun j => ?_⟩
  rw [List.getD_eq_getElem?_getD, List.getElem?_set]
  have hj := h.2 j
  rw [List.getD_eq_getElem?_getD] at hj
  split
  · split
    · exact ⟨h0, h1⟩
    · simp
  · exact hj
end Go.Proofs.YtdbeeikjngnnnaaGreat.ty
