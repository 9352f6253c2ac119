import Derived.Test.YtdbeeikjngnnnaaGreatChecked
import Derived.WalkKit
import Derived.ProofKit
import Derived.OpenShut
import Derived.Deep.QuietTactic
import Derived.BigQuiet
import Derived.BigRegion
import Derived.Laws.CopyOwn
import Derived.Laws.IdiomCopy
import Derived.WalkSmall
import Derived.Laws.ResultCell
import Derived.Laws.AppendOwnNone
import Derived.Deep.RegionHeld
import Derived.Deep.DeepAppendRoom
import Derived.Great.BuildSlice
import Derived.Deep.CutBlock
import Derived.Deep.RegionLaw
import Derived.ArgAppend
import Derived.Laws.Strings
import Derived.Laws.StructEq
import Derived.Below
import Derived.Deep.MidRow
import Derived.Great.Ranges
import Derived.Deep.RegionHeld3
import Derived.Laws.NewBlocks
import Derived.OrdersHeld
import Derived.Stop.BytesEq
import Derived.Laws.BytesString
import Derived.Lib.ConvBytes
import Derived.Laws.BitsAllLaws
import Derived.WalkLawsBesides
import Derived.Lib.Bytealg
import Derived.Laws.Externs
import Derived.Lib.SliceRun
import Derived.Lib.AppendZerosOnto
import Derived.Lib.AppendStr
import Derived.Lib.SlBytesConst
import Derived.Sort.Walk0
import Derived.Laws.Cover1
import Derived.Lib.Strings
import Derived.Lib.MinMaxS
import GoSem.Claim
import GoSem.ClaimJoined
import GoSem.ClaimMapViews
import Derived.JoinedTies
import Derived.KernelRfl
import Derived.JoinedCond
import Derived.ShutString
import Derived.ChangeOld
import Derived.Carry
import Derived.ChangeSlices
import Derived.Deep.Slices
import Derived.Deep.DeepHandedRow
import Derived.RowKit
import Derived.ChangeShapes
import Derived.SizedLaws
import Derived.ChangeMaps5
import Derived.Sort.WalkA
import Derived.Test.YtdbeeikjngnnnaaGreatRows
import Derived.Test.YtdbeeikjngnnnaaGreatM18
namespace Go.Proofs.YtdbeeikjngnnnaaGreat.ty
open Go.ChangeShapes Go.WideShapes Go.ChangeAt Go.RowKit
set_option linter.unusedVariables false
set_option linter.unusedSimpArgs false
theorem results_row_tmp {P : Program} {fn : Func} {p q : Tmp} {ty : TypeId} (h : fn.results = #[.cell p ty, .tmp q]) (tmps : Array Value) (w : World) (g : Nat) (t : TypeId) (cs : Array Value) (fr : Nat × Nat) (d : TypeDesc) (v : Value)
    (hp : tmps.getD p undef = .pointer (some ⟨g, 0, none⟩)) (hq : tmps.getD q undef = v) (hg : w.heap[g]? = some (.cells cs t fr))
    (hu : P.underlying ty = some d) (hd : (match d with | .struct _ | .array _ _ => true | _ => false) = true) (hi : (P.info? ty).map (·.size) = some cs.size) :
    (results fn tmps).run P w = .ok (.tuple #[.agg cs, v]) w := by
  have hp' : tmps[p]?.getD undef = .pointer (some ⟨g, 0, none⟩) := by simpa using hp
  have hq' : tmps[q]?.getD undef = v := by simpa using hq
  simp [results, h, hp', hq', asAddr, run_loadVar_row w g t ty cs fr d hg hu hd hi, Sem.run_bind, Result.andThen]
set_option maxRecDepth 100000 in
theorem split_nil {w : World} {s : Sl} (hn : s.n = 0) (e : ByteArray) : Calls Tryz.prog 67 #[.slice s.p s.n s.c, .string e] w fun r w' => r = .returned (.tuple #[.agg (rv zr).toArray, .slice s.p s.n s.c]) ∧ Apart [] w w' := by
  rw [hn]
  go_enter Tryz.func67, Tryz.ntmps67
  go_wp2_with (refine wpList_store_row rfl 99 _ _ rfl w.heap.size (rv zr).toArray rfl rfl 99 _ (heap_alloc_new w _) (by rw [size86]; rfl) (by rfl) (all_oneCell_toArray (rv_one _)) ?_)
  refine bodyPost_ret (results_row_tmp rfl _ _ w.heap.size 99 (rv zr).toArray _ _ _ rfl rfl (setRow_heap _ _ _ _ _ _ (heap_alloc_new w _)) Tryz.underlying99 rfl (by rw [size86]; rfl)) rfl ?_
  exact ⟨rfl, put_apart⟩
set_option maxRecDepth 100000 in
theorem split_ne {w : World} {s : Sl} {x : En} {r : List En} (h : Es w s (x :: r)) (hl : s.n ≤ 1000000) (e : ByteArray) (he : x.e ≠ e) : Calls Tryz.prog 67 #[.slice s.p s.n s.c, .string e] w fun r w' => r = .returned (.tuple #[.agg (rv zr).toArray, .slice s.p s.n s.c]) ∧ Apart [] w w' := by
  obtain ⟨P, o, hp, hr, hP⟩ := h.first
  have z : (w.alloc (.cells #[.int .i64 0, .int .i64 0, .int .i64 0, .int .i64 0, .int .i64 0, .int .i64 0, .int .i64 0, .int .i64 0] 99)).cell? ⟨P, o, none⟩ = some (.string x.e) := by
    have h1 := hr 0 _ rfl
    rw [Nat.add_zero] at h1
    exact (((Apart.refl [] w).alloc _).cell (p := ⟨P, o, none⟩) hP (by simp)).trans h1
  have hn : (0 : Int) < ((s.n : Nat) : Int) := by have := h.len; simp at this; omega
  have hne : (((s.n : Nat) : Int) == 0) = false := by simp only [beq_eq_false_iff_ne]; omega
  have hee : (x.e.toList == e.toList) = false := by
    rw [beq_eq_false_iff_ne]
    intro k
    rw [Lib.toList_data, Lib.toList_data] at k
    exact he (ba_inj k)
  rw [hp]
  clear h hr hP hp he
  go_enter Tryz.func67, Tryz.ntmps67
  go_wp2_with (refine wpList_store_row rfl 99 _ _ rfl w.heap.size (rv zr).toArray rfl rfl 99 _ (heap_alloc_new w _) (by rw [size86]; rfl) (by rfl) (all_oneCell_toArray (rv_one _)) ?_)
  refine bodyPost_ret (results_row_tmp rfl _ _ w.heap.size 99 (rv zr).toArray _ _ _ rfl rfl (setRow_heap _ _ _ _ _ _ (heap_alloc_new w _)) Tryz.underlying99 rfl (by rw [size86]; rfl)) rfl ?_
  exact ⟨rfl, put_apart⟩
set_option maxRecDepth 100000 in
theorem split_eq {w : World} {s : Sl} {x : En} {r : List En} (h : Es w s (x :: r)) (hl : s.n ≤ 1000000) : Calls Tryz.prog 67 #[.slice s.p s.n s.c, .string x.e] w fun q w' => q = .returned (.tuple #[.agg (rv x.t).toArray, .slice (s.post 1).p (s.post 1).n (s.post 1).c]) ∧ Apart [] w w' := by
  obtain ⟨P, o, hp, hr, hP⟩ := h.first
  have Hxl : Hid (x.t.length = 8) := hid (h.row x (by simp))
  have HR : Hid (w.rangeAt P o x.vs) := hid hr
  have HP := hid hP
  have z : (w.alloc (.cells #[.int .i64 0, .int .i64 0, .int .i64 0, .int .i64 0, .int .i64 0, .int .i64 0, .int .i64 0, .int .i64 0] 99)).cell? ⟨P, o, none⟩ = some (.string x.e) := by
    have h1 := hr 0 _ rfl
    rw [Nat.add_zero] at h1
    exact (((Apart.refl [] w).alloc _).cell (p := ⟨P, o, none⟩) hP (by simp)).trans h1
  have hn : (0 : Int) < ((s.n : Nat) : Int) := by have := h.len; simp at this; omega
  have hne : (((s.n : Nat) : Int) == 0) = false := by simp only [beq_eq_false_iff_ne]; omega
  have hee : (x.e.toList == x.e.toList) = true := by rw [beq_iff_eq]
  have HS1 : Hid (1 ≤ s.n) := hid (by omega)
  obtain ⟨a, Ha⟩ : ∃ a, Hid (a = s.post 1) := ⟨_, hid rfl⟩
  rw [← Ha.out]
  obtain ⟨vp, Hvp⟩ : ∃ v, Hid (v = s.p) := ⟨_, hid rfl⟩
  have Hpp : Hid (vp = some ⟨P, o, none⟩) := hid (by rw [Hvp.out, hp])
  have Hpe : Hid (s.p = some ⟨P, o, none⟩) := hid hp
  rw [hp]
  clear h hr hP hp
  go_enter Tryz.func67, Tryz.ntmps67
  go_upto_region 3 with fail
  have HBZ : Hid ((w.alloc (.cells #[.int .i64 0, .int .i64 0, .int .i64 0, .int .i64 0, .int .i64 0, .int .i64 0, .int .i64 0, .int .i64 0] 99)).heap[w.heap.size]? = some (.cells (rv zr).toArray 99 (0, 0))) := hid (heap_alloc_new w _)
  have HA1 : Hid (Apart [] w (w.alloc (.cells #[.int .i64 0, .int .i64 0, .int .i64 0, .int .i64 0, .int .i64 0, .int .i64 0, .int .i64 0, .int .i64 0] 99))) := hid ((Apart.refl [] w).alloc _)
  obtain ⟨X, HX⟩ : ∃ X, Hid (X = w.heap.size) := ⟨_, hid rfl⟩
  rw [← HX.out] at HBZ ⊢
  have HNX : Hid (P ≠ X) := hid (by have := HP.out; rw [HX.out]; omega)
  generalize w.alloc (.cells #[.int .i64 0, .int .i64 0, .int .i64 0, .int .i64 0, .int .i64 0, .int .i64 0, .int .i64 0, .int .i64 0] 99) = w1 at *
  clear z
  have HR1 : Hid (w1.rangeAt P o x.vs) := hid (fun j v hj => (HA1.out.cell (p := ⟨P, o + j, none⟩) HP.out (by simp)).trans (HR.out j v hj))
  have HP1 : Hid (P < w1.heap.size) := hid (Nat.lt_of_lt_of_le HP.out HA1.out.size)
  have HOX : Hid (w1.drew.heap[X]? = some (.cells (rv zr).toArray 99 (0, 0))) := HBZ
  have hAd : Apart [X] w1 w1.drew := (Apart.refl [X] w1).drew
  refine wp_region_held_drew (S := fun W => Apart [X] w1 W) (by kernel_rfl) hAd (fun hHeld => ?_)
  generalize w1.drew = wd at *
  clear hAd
  refine tk 0 19 (.slice (some ⟨P, o, none⟩) s.n s.c) rfl ?_ ?_
  · intro W hSW; go_simp
  simp only [Act.put, List.setIfInBounds_toArray, List.set_cons_zero, List.set_cons_succ]
  refine tk 1 20 (.pointer (some ⟨P, o, none⟩)) rfl ?_ ?_
  · intro W hSW; go_simp; intro e; omega
  simp only [Act.put, List.setIfInBounds_toArray, List.set_cons_zero, List.set_cons_succ]
  refine tk 2 21 (.pointer (some ⟨P, o + 1, none⟩)) rfl ?_ ?_
  · intro W hSW; go_simp
  simp only [Act.put, List.setIfInBounds_toArray, List.set_cons_zero, List.set_cons_succ]
  refine tk 3 22 (.agg (rv x.t).toArray) rfl ?_ ?_
  · intro W hSW; exact ex_load _ rfl P (o + 1) _ rfl (fun j v hj => (hSW.cell (p := ⟨P, o + 1 + j, none⟩) HP1.out (by simp; exact HNX.out)).trans (by have := HR1.out (j + 1) v (by rw [En.vs, List.getElem?_cons_succ]; exact hj); rwa [show o + (j + 1) = o + 1 + j from by omega] at this)) (by rw [rv_len, Hxl.out])
  simp only [Act.put, List.setIfInBounds_toArray, List.set_cons_zero, List.set_cons_succ]
  refine tk 4 23 (.slice (some ⟨P, o, none⟩) s.n s.c) rfl ?_ ?_
  · intro W hSW; go_simp
  simp only [Act.put, List.setIfInBounds_toArray, List.set_cons_zero, List.set_cons_succ]
  refine tk 5 24 (.slice a.p a.n a.c) rfl ?_ ?_
  · intro W hSW; rw [Ha.out]; exact ex_post s 1 _ _ rfl (by rw [Hpe.out]; rfl) rfl HS1.out
  simp only [Act.put, List.setIfInBounds_toArray, List.set_cons_zero, List.set_cons_succ]
  refine wpAnyH_ready (rs := [6]) (by kernel_rfl) (by simp) ?_
  refine AllReadyH.cons rfl (fun KK hKK => ?_) AllReadyH.nil
  rw [if_pos (by rfl)]
  refine wp_store_row 99 _ _ rfl X (rv x.t).toArray rfl rfl 99 _ HOX.out (by rw [size86]; simp [rv_len, Hxl.out]) (by simp [rv_len, Hxl.out]; rfl) (all_oneCell_toArray (rv_one _)) ?_
  have hHa := hHeld.trans (apart_setRow wd X (rv x.t).toArray)
  replace HOX := hid (setRow_heap _ _ _ (rv x.t).toArray _ _ HOX.out)
  generalize wd.setRow X (rv x.t).toArray = wa at *
  try dsimp only
  refine hKK.out _ _ hHa (fun hHeld => ?_)
  clear hKK KK
  try simp only [Act.put, List.setIfInBounds_toArray, List.set_cons_zero, List.set_cons_succ]
  refine tk 7 5 (.slice a.p a.n a.c) rfl ?_ ?_
  · intro W hSW; go_simp
  simp only [Act.put, List.setIfInBounds_toArray, List.set_cons_zero, List.set_cons_succ]
  refine wpAnyH_done (by kernel_rfl) ?_ _
  have HAP : Hid (Apart [] w wa) := hid (HA1.out.trans' hHeld (by intro y hy; simp at hy; rw [hy, HX.out]; exact .inr (Nat.le_refl _)))
  clear hHeld
  go_wp2_with fail
  refine bodyPost_ret (results_row_tmp rfl _ _ X 99 (rv x.t).toArray _ _ _ rfl rfl HOX.out Tryz.underlying99 rfl (by rw [size86]; simp [rv_len, Hxl.out])) rfl ?_
  exact ⟨rfl, HAP.out⟩
/-- split -/
theorem split_ok {w : World} {s : Sl} {m : List En} (h : Es w s m) (hl : s.n ≤ 1000000) (e : ByteArray) : Calls Tryz.prog 67 #[.slice s.p s.n s.c, .string e] w fun r w' => ∃ s' : Sl, r = .returned (.tuple #[.agg (rv (entE m e)).toArray, .slice s'.p s'.n s'.c]) ∧ Apart [] w w' ∧ (∀ W, Es W s m → Es W s' (resE m e)) ∧ s'.n ≤ s.n := by
  cases m with
  | nil =>
    refine (split_nil h.len e).mono ?_
    rintro _ w' ⟨rfl, a⟩
    exact ⟨s, rfl, a, fun W hW => hW, Nat.le_refl _⟩
  | cons x r =>
    rw [entE_cons, resE_cons]
    by_cases he : x.e = e
    · subst he
      refine (split_eq h hl).mono ?_
      rintro _ w' ⟨rfl, a⟩
      rw [if_pos rfl, if_pos rfl]
      exact ⟨_, rfl, a, fun W hW => hW.post (k := 1) (by simp), Nat.sub_le _ _⟩
    · refine (split_ne h hl e he).mono ?_
      rintro _ w' ⟨rfl, a⟩
      rw [if_neg he, if_neg he]
      exact ⟨s, rfl, a, fun W hW => hW, Nat.le_refl _⟩
/-- least -/
theorem least_ok {w : World} {a b : Sl} {m t : List En} (ha : Es w a m) (hb : Es w b t) (hl : a.n ≤ 1000000) (hl' : b.n ≤ 1000000) (h0 : ¬ m.length + t.length = 0) : Calls Tryz.prog 66 #[.slice a.p a.n a.c, .slice b.p b.n b.c] w fun r w' => r = .returned (.string (leaE m t)) ∧ Apart [] w w' := by
  cases m with
  | nil => cases t with
    | nil => exact absurd rfl h0
    | cons y t => exact least_right ha.len hb hl'
  | cons x m => cases t with
    | nil => exact least_left ha hb.len hl
    | cons y t => exact least_both ha hb hl hl'
end Go.Proofs.YtdbeeikjngnnnaaGreat.ty
