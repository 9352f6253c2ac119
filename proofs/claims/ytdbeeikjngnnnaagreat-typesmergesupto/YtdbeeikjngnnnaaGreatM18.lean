import Derived.Test.YtdbeeikjngnnnaaGreatChecked
import Derived.WalkKit
import Derived.ProofKit
import Derived.OpenShut
import Derived.Deep.QuietTactic
import Derived.BigQuiet
import Derived.BigRegion
import Derived.Laws.CopyOwn
import Derived.Laws.IdiomCopy
import Derived.WalkSmall
import Derived.Laws.ResultCell
import Derived.Laws.AppendOwnNone
import Derived.Deep.RegionHeld
import Derived.Deep.DeepAppendRoom
import Derived.Great.BuildSlice
import Derived.Deep.CutBlock
import Derived.Deep.RegionLaw
import Derived.ArgAppend
import Derived.Laws.Strings
import Derived.Laws.StructEq
import Derived.Below
import Derived.Deep.MidRow
import Derived.Great.Ranges
import Derived.Deep.RegionHeld3
import Derived.Laws.NewBlocks
import Derived.OrdersHeld
import Derived.Stop.BytesEq
import Derived.Laws.BytesString
import Derived.Lib.ConvBytes
import Derived.Laws.BitsAllLaws
import Derived.WalkLawsBesides
import Derived.Lib.Bytealg
import Derived.Laws.Externs
import Derived.Lib.SliceRun
import Derived.Lib.AppendZerosOnto
import Derived.Lib.AppendStr
import Derived.Lib.SlBytesConst
import Derived.Sort.Walk0
import Derived.Laws.Cover1
import Derived.Lib.Strings
import Derived.Lib.MinMaxS
import GoSem.Claim
import GoSem.ClaimJoined
import GoSem.ClaimMapViews
import Derived.JoinedTies
import Derived.KernelRfl
import Derived.JoinedCond
import Derived.ShutString
import Derived.ChangeOld
import Derived.Carry
import Derived.ChangeSlices
import Derived.Deep.Slices
import Derived.Deep.DeepHandedRow
import Derived.RowKit
import Derived.ChangeShapes
import Derived.SizedLaws
import Derived.ChangeMaps5
import Derived.Sort.WalkA
import Derived.Test.YtdbeeikjngnnnaaGreatRows
import Derived.Test.YtdbeeikjngnnnaaGreatM17
namespace Go.Proofs.YtdbeeikjngnnnaaGreat.ty
open Go.ChangeShapes Go.WideShapes Go.ChangeAt Go.RowKit
set_option linter.unusedVariables false
set_option linter.unusedSimpArgs false
/-- the least element of two lists -/
def leaE (m t : List En) : ByteArray := match m, t with
  | [], [] => ⟨#[]⟩
  | [], y :: _ => y.e
  | x :: _, [] => x.e
  | x :: _, y :: _ => Lib.minS x.e y.e
theorem Es.first {w : World} {s : Sl} {x : En} {r : List En} (h : Es w s (x :: r)) : ∃ P o, s.p = some ⟨P, o, none⟩ ∧ w.rangeAt P o x.vs ∧ P < w.heap.size := by
  obtain ⟨P, o, h1, h2, h3⟩ := h.at 0 (by simp)
  rw [Nat.zero_mul, Nat.add_zero] at h2
  exact ⟨P, o, h1, h2, h3⟩
set_option maxRecDepth 100000 in
theorem least_right {w : World} {a b : Sl} {y : En} {t : List En} (ha : a.n = 0) (hb : Es w b (y :: t)) (hl : b.n ≤ 1000000) : Calls Tryz.prog 66 #[.slice a.p a.n a.c, .slice b.p b.n b.c] w fun r w' => r = .returned (.string y.e) ∧ Apart [] w w' := by
  obtain ⟨P, o, hp, hr, hP⟩ := hb.first
  have z : w.cell? ⟨P, o, none⟩ = some (.string y.e) := by have := hr 0 _ rfl; rwa [Nat.add_zero] at this
  have hn : ((b.n : Nat) : Int) > 0 := by have := hb.len; simp at this; omega
  have hn2 : (0 : Int) < ((b.n : Nat) : Int) := hn
  rw [ha, hp]
  clear hb hr hP hp ha
  go_enter Tryz.func66, Tryz.ntmps66
  go_wp2_with fail
  go_ret
  exact ⟨rfl, Apart.refl _ _⟩
set_option maxRecDepth 100000 in
theorem least_left {w : World} {a b : Sl} {x : En} {m : List En} (ha : Es w a (x :: m)) (hb : b.n = 0) (hl : a.n ≤ 1000000) : Calls Tryz.prog 66 #[.slice a.p a.n a.c, .slice b.p b.n b.c] w fun r w' => r = .returned (.string x.e) ∧ Apart [] w w' := by
  obtain ⟨P, o, hp, hr, hP⟩ := ha.first
  have z : w.cell? ⟨P, o, none⟩ = some (.string x.e) := by have := hr 0 _ rfl; rwa [Nat.add_zero] at this
  have hn : (0 : Int) < ((a.n : Nat) : Int) := by have := ha.len; simp at this; omega
  have hne : (((a.n : Nat) : Int) == 0) = false := by simp only [beq_eq_false_iff_ne]; omega
  rw [hb, hp]
  clear ha hr hP hp hb
  go_enter Tryz.func66, Tryz.ntmps66
  go_wp2_with fail
  go_ret
  exact ⟨rfl, Apart.refl _ _⟩
set_option maxRecDepth 100000 in
theorem least_both {w : World} {a b : Sl} {x y : En} {m t : List En} (ha : Es w a (x :: m)) (hb : Es w b (y :: t)) (hl : a.n ≤ 1000000) (hl' : b.n ≤ 1000000) : Calls Tryz.prog 66 #[.slice a.p a.n a.c, .slice b.p b.n b.c] w fun r w' => r = .returned (.string (Lib.minS x.e y.e)) ∧ Apart [] w w' := by
  obtain ⟨P, o, hp, hr, hP⟩ := ha.first
  obtain ⟨P', o', hp', hr', hP'⟩ := hb.first
  have HZ : Hid (w.cell? ⟨P, o, none⟩ = some (.string x.e)) := hid (by have := hr 0 _ rfl; rwa [Nat.add_zero] at this)
  have HZ' : Hid (w.cell? ⟨P', o', none⟩ = some (.string y.e)) := hid (by have := hr' 0 _ rfl; rwa [Nat.add_zero] at this)
  have HP := hid hP
  have HP' := hid hP'
  have hn : (0 : Int) < ((a.n : Nat) : Int) := by have := ha.len; simp at this; omega
  have hne : (((a.n : Nat) : Int) == 0) = false := by simp only [beq_eq_false_iff_ne]; omega
  have hn' : (0 : Int) < ((b.n : Nat) : Int) := by have := hb.len; simp at this; omega
  have hne' : (((b.n : Nat) : Int) == 0) = false := by simp only [beq_eq_false_iff_ne]; omega
  have hm := fun (wx : World) (ts : Array TypeId) (ty : TypeId) => Lib.run_min_strs (P := Tryz.prog) wx ts ty x.e y.e
  obtain ⟨z, Hz⟩ : ∃ z, Hid (z = Lib.minS x.e y.e) := ⟨_, hid rfl⟩
  rw [← Hz.out] at hm ⊢
  rw [hp, hp']
  clear ha hb hr hr' hp hp' hP hP'
  go_enter Tryz.func66, Tryz.ntmps66
  go_upto_region 5 with fail
  have hAd : Apart [] w w.drew := (Apart.refl [] w).drew
  refine wp_region_held_drew (S := fun W => Apart [] w W) (by kernel_rfl) hAd (fun hHeld => ?_)
  generalize w.drew = wd at *
  clear hAd
  refine tk 0 19 (.slice (some ⟨P, o, none⟩) a.n a.c) rfl ?_ ?_
  · intro W hSW; go_simp
  simp only [Act.put, List.setIfInBounds_toArray, List.set_cons_zero, List.set_cons_succ]
  refine tk 1 20 (.pointer (some ⟨P, o, none⟩)) rfl ?_ ?_
  · intro W hSW; go_simp; intro e; omega
  simp only [Act.put, List.setIfInBounds_toArray, List.set_cons_zero, List.set_cons_succ]
  refine tk 2 21 (.pointer (some ⟨P, o, none⟩)) rfl ?_ ?_
  · intro W hSW; go_simp
  simp only [Act.put, List.setIfInBounds_toArray, List.set_cons_zero, List.set_cons_succ]
  refine tk 3 22 (.string x.e) rfl ?_ ?_
  · intro W hSW; have z := (hSW.cell (p := ⟨P, o, none⟩) HP.out (by simp)).trans HZ.out; go_simp
  simp only [Act.put, List.setIfInBounds_toArray, List.set_cons_zero, List.set_cons_succ]
  refine tk 4 23 (.slice (some ⟨P', o', none⟩) b.n b.c) rfl ?_ ?_
  · intro W hSW; go_simp
  simp only [Act.put, List.setIfInBounds_toArray, List.set_cons_zero, List.set_cons_succ]
  refine tk 5 24 (.pointer (some ⟨P', o', none⟩)) rfl ?_ ?_
  · intro W hSW; go_simp; intro e; omega
  simp only [Act.put, List.setIfInBounds_toArray, List.set_cons_zero, List.set_cons_succ]
  refine tk 6 25 (.pointer (some ⟨P', o', none⟩)) rfl ?_ ?_
  · intro W hSW; go_simp
  simp only [Act.put, List.setIfInBounds_toArray, List.set_cons_zero, List.set_cons_succ]
  refine tk 7 26 (.string y.e) rfl ?_ ?_
  · intro W hSW; have z := (hSW.cell (p := ⟨P', o', none⟩) HP'.out (by simp)).trans HZ'.out; go_simp
  simp only [Act.put, List.setIfInBounds_toArray, List.set_cons_zero, List.set_cons_succ]
  refine tk 8 27 (.string z) rfl ?_ ?_
  · intro W hSW; go_simp
  simp only [Act.put, List.setIfInBounds_toArray, List.set_cons_zero, List.set_cons_succ]
  refine tk 9 4 (.string z) rfl ?_ ?_
  · intro W hSW; go_simp
  simp only [Act.put, List.setIfInBounds_toArray, List.set_cons_zero, List.set_cons_succ]
  refine wpAnyH_done (by kernel_rfl) ?_ _
  have HSd := hid hHeld
  clear hHeld
  go_wp2_with fail
  go_ret
  exact ⟨rfl, HSd.out⟩
end Go.Proofs.YtdbeeikjngnnnaaGreat.ty
namespace Go.Proofs.YtdbeeikjngnnnaaGreat.ty
open Go.ChangeShapes Go.WideShapes Go.ChangeAt Go.RowKit
set_option linter.unusedVariables false
set_option linter.unusedSimpArgs false
theorem row_ext {a b : List Int} (ha : a.length = 8) (hb : b.length = 8) (h : ∀ i, i < 8 → a.getD i 0 = b.getD i 0) : a = b := by
  apply List.ext_getElem?
  intro i
  rcases Nat.lt_or_ge i 8 with hi | hi
  · have := h i hi
    rw [List.getD_eq_getElem?_getD, List.getD_eq_getElem?_getD] at this
    rw [List.getElem?_eq_getElem (by omega), List.getElem?_eq_getElem (by omega)] at this ⊢
    simp at this
    rw [this]
  · rw [List.getElem?_eq_none (by omega), List.getElem?_eq_none (by omega)]
theorem gr_at {a b : List Int} (ha : a.length = 8) (hb : b.length = 8) (i : Nat) (hi : i < 8) : (gr a b).getD i 0 = max (a.getD i 0) (b.getD i 0) := by
  unfold gr
  rw [List.getD_eq_getElem?_getD, List.getElem?_zipWith, List.getD_eq_getElem?_getD, List.getD_eq_getElem?_getD, List.getElem?_eq_getElem (by omega), List.getElem?_eq_getElem (by omega)]
  rfl
theorem mt_len (a ca b cb : List Int) : (mt a ca b cb).length = 8 := mtI_len _ _ _ _ _
theorem mt_at (a ca b cb : List Int) (i : Nat) (hi : i < 8) : (mt a ca b cb).getD i 0 = max (st (a.getD i 0) (b.getD i 0) (cb.getD i 0)) (st (b.getD i 0) (a.getD i 0) (ca.getD i 0)) := by
  unfold mt mtI
  rw [List.getD_eq_getElem?_getD, List.getElem?_map, List.getElem?_range hi]
  simp [hi, mtA]
theorem zrD (i : Nat) : zr.getD i 0 = 0 := by
  have e : zr = List.replicate 8 0 := rfl
  rw [e, List.getD_eq_getElem?_getD, List.getElem?_replicate]
  split <;> simp
/-- no number of the one is above that of the other, and none is below 0 -/
def Wi (a c : List Int) : Prop := a.length = 8 ∧ c.length = 8 ∧ ∀ i, i < 8 → 0 ≤ a.getD i 0 ∧ a.getD i 0 ≤ c.getD i 0
theorem Wi.zr {c : List Int} (hc : c.length = 8) (h0 : ∀ i, i < 8 → 0 ≤ c.getD i 0) : Wi ty.zr c := ⟨rfl, hc, fun i hi => by rw [zrD]; exact ⟨Int.le_refl _, h0 i hi⟩⟩
theorem gr_idem {a : List Int} (ha : a.length = 8) : gr a a = a := by
  refine row_ext (gr_len ha ha) ha fun i hi => ?_
  rw [gr_at ha ha i hi]; omega
/-- one number of the tags that are left -/
def m1 (t c o r : Int) : Int := max (st t o r) (st o t c)
theorem m1_eq {t c o r : Int} (h0 : 0 ≤ t) (h1 : t ≤ c) (h2 : 0 ≤ o) (h3 : o ≤ r) : m1 t c o r = if t = o then t else if r < t then t else if c < o then o else 0 := by
  unfold m1 st
  by_cases e : t = o
  · subst e; simp
  · simp only [e, false_or, if_false, show ¬ o = t from fun h => e h.symm]
    by_cases a : r < t
    · have b : ¬ c < o := by omega
      simp only [a, b, if_true, if_false]; omega
    · by_cases b : c < o
      · simp only [a, b, if_true, if_false]; omega
      · simp only [a, b, if_false]; rfl
theorem m1_bd {t c o r : Int} (h0 : 0 ≤ t) (h1 : t ≤ c) (h2 : 0 ≤ o) (h3 : o ≤ r) : 0 ≤ m1 t c o r ∧ m1 t c o r ≤ max c r := by
  rw [m1_eq h0 h1 h2 h3]
  split
  · omega
  split
  · omega
  split <;> omega
theorem mt_zz (c d : List Int) : mt zr c zr d = zr := by
  refine row_ext (mt_len _ _ _ _) rfl fun i hi => ?_
  rw [mt_at _ _ _ _ i hi]
  unfold st
  simp
theorem mt_wi {a c b d : List Int} (h : Wi a c) (k : Wi b d) : Wi (mt a c b d) (gr c d) := ⟨mt_len _ _ _ _, gr_len h.2.1 k.2.1, fun i hi => by
  have h1 := h.2.2 i hi
  have h2 := k.2.2 i hi
  rw [mt_at _ _ _ _ i hi, gr_at h.2.1 k.2.1 i hi]
  exact m1_bd h1.1 h1.2 h2.1 h2.2⟩
/-- the tags of an element -/
def tg : List En → ByteArray → List Int
  | [], _ => zr
  | x :: r, e => if x.e = e then x.t else tg r e
/-- what split tells -/
def entE (m : List En) (e : ByteArray) : List Int := match m with
  | [] => zr
  | x :: _ => if x.e = e then x.t else zr
def resE (m : List En) (e : ByteArray) : List En := match m with
  | [] => []
  | x :: r => if x.e = e then r else x :: r
theorem resE_cons (x : En) (r : List En) (l : ByteArray) : resE (x :: r) l = if x.e = l then r else x :: r := rfl
theorem entE_cons (x : En) (r : List En) (l : ByteArray) : entE (x :: r) l = if x.e = l then x.t else zr := rfl
def mgF (c d : List Int) : Nat → List En → List En → List En
  | 0, _, _ => []
  | n + 1, m, t => if m.length + t.length = 0 then [] else
      (if mt (entE m (leaE m t)) c (entE t (leaE m t)) d = zr then [] else [⟨leaE m t, mt (entE m (leaE m t)) c (entE t (leaE m t)) d⟩]) ++ mgF c d n (resE m (leaE m t)) (resE t (leaE m t))
theorem mgF_nil (c d : List Int) (n : Nat) : mgF c d n [] [] = [] := by
  cases n with
  | zero => rfl
  | succ n => simp [mgF]
/-- nothing lies below l -/
def Lb (m : List En) (l : ByteArray) : Prop := ∀ x ∈ m, bl x.e l = false
theorem Lb.head {x : En} {r : List En} {l : ByteArray} (h : So (x :: r)) (hx : bl x.e l = false) : Lb (x :: r) l := by
  intro y hy
  rcases List.mem_cons.1 hy with rfl | hy
  · exact hx
  · have h1 := (List.pairwise_cons.1 h).1 y hy
    cases h2 : bl y.e l
    · rfl
    · have := bl_trans h1 h2
      rw [hx] at this; cases this
theorem min_l (a b : ByteArray) : bl a (Lib.minS a b) = false ∧ bl b (Lib.minS a b) = false := by
  unfold Lib.minS
  by_cases h1 : a.data.toList < b.data.toList
  · simp only [h1, true_or, if_true]
    refine ⟨bl_irrefl a, ?_⟩
    cases h2 : bl b a
    · rfl
    · have := bl_trans (show bl a b = true by unfold bl; simp [h1]) h2
      rw [bl_irrefl] at this; cases this
  · by_cases h2 : a.data.toList = b.data.toList
    · have e := ba_inj h2
      subst e
      simp only [or_true, if_true]
      exact ⟨bl_irrefl a, bl_irrefl a⟩
    · simp only [h1, h2, or_self, if_false]
      exact ⟨by unfold bl; simp [h1], bl_irrefl b⟩
theorem min_or (a b : ByteArray) : Lib.minS a b = a ∨ Lib.minS a b = b := by
  unfold Lib.minS
  split
  · exact .inl rfl
  · exact .inr rfl
theorem lea_lb {m t : List En} (hm : So m) (ht : So t) : Lb m (leaE m t) ∧ Lb t (leaE m t) := by
  cases m with
  | nil => cases t with
    | nil => exact ⟨fun x hx => by simp at hx, fun x hx => by simp at hx⟩
    | cons y t => exact ⟨fun x hx => by simp at hx, Lb.head ht (bl_irrefl _)⟩
  | cons x m => cases t with
    | nil => exact ⟨Lb.head hm (bl_irrefl _), fun x hx => by simp at hx⟩
    | cons y t => exact ⟨Lb.head hm (min_l _ _).1, Lb.head ht (min_l _ _).2⟩
theorem lea_some {m t : List En} (h : ¬ m.length + t.length = 0) : (∃ x r, m = x :: r ∧ x.e = leaE m t) ∨ (∃ x r, t = x :: r ∧ x.e = leaE m t) := by
  cases m with
  | nil => cases t with
    | nil => exact absurd rfl h
    | cons y t => exact .inr ⟨y, t, rfl, rfl⟩
  | cons x m => cases t with
    | nil => exact .inl ⟨x, m, rfl, rfl⟩
    | cons y t =>
      rcases min_or x.e y.e with e | e
      · exact .inl ⟨x, m, rfl, e.symm⟩
      · exact .inr ⟨y, t, rfl, e.symm⟩
theorem res_len (m : List En) (l : ByteArray) : (resE m l).length ≤ m.length := by
  cases m with
  | nil => exact Nat.le_refl _
  | cons x r => rw [resE_cons]; split <;> simp
theorem res_lt {x : En} {r : List En} {l : ByteArray} (h : x.e = l) : (resE (x :: r) l).length < (x :: r).length := by
  simp [resE, h]
theorem res_less {m t : List En} (h : ¬ m.length + t.length = 0) : (resE m (leaE m t)).length + (resE t (leaE m t)).length < m.length + t.length := by
  have h1 := res_len m (leaE m t)
  have h2 := res_len t (leaE m t)
  rcases lea_some h with ⟨x, r, e, hx⟩ | ⟨x, r, e, hx⟩
  · have h3 := res_lt (r := r) hx
    rw [← e] at h3
    omega
  · have h3 := res_lt (r := r) hx
    rw [← e] at h3
    omega
theorem res_so {m : List En} (h : So m) (l : ByteArray) : So (resE m l) := by
  cases m with
  | nil => exact h
  | cons x r =>
    rw [resE_cons]
    split
    · exact (List.pairwise_cons.1 h).2
    · exact h
theorem res_mem {m : List En} {l : ByteArray} {x : En} (h : x ∈ resE m l) : x ∈ m := by
  cases m with
  | nil => exact h
  | cons y r =>
    rw [resE_cons] at h
    split at h
    · exact List.mem_cons_of_mem _ h
    · exact h
/-- behind the least: all above it -/
theorem res_gt {m : List En} {l : ByteArray} (h : So m) (hb : Lb m l) : ∀ x ∈ resE m l, bl l x.e = true := by
  cases m with
  | nil => intro x hx; simp [resE] at hx
  | cons y r =>
    intro x hx
    rw [resE_cons] at hx
    split at hx
    · rename_i e
      rw [← e]
      exact (List.pairwise_cons.1 h).1 x hx
    · rename_i e
      have h1 : bl l y.e = true := by
        cases h2 : bl l y.e
        · exact absurd (bl_total (hb y (by simp)) h2) e
        · rfl
      rcases List.mem_cons.1 hx with rfl | hx
      · exact h1
      · exact bl_trans h1 ((List.pairwise_cons.1 h).1 x hx)
theorem tg_gt {m : List En} {l : ByteArray} (h : ∀ x ∈ m, bl l x.e = true) : tg m l = zr := by
  induction m with
  | nil => rfl
  | cons x r ih =>
    have h1 := h x (by simp)
    have hne : ¬ x.e = l := by intro e; rw [e, bl_irrefl] at h1; cases h1
    simp only [tg, hne, if_false]
    exact ih fun y hy => h y (List.mem_cons_of_mem _ hy)
theorem tg_lea {m : List En} {l : ByteArray} (h : So m) (hb : Lb m l) : tg m l = entE m l := by
  cases m with
  | nil => rfl
  | cons x r =>
    rw [tg, entE_cons]
    by_cases e : x.e = l
    · simp [e]
    · simp only [e, if_false]
      have := res_gt h hb
      rw [resE_cons] at this
      simp only [e, if_false] at this
      exact tg_gt fun y hy => this y (List.mem_cons_of_mem _ hy)
theorem tg_res {m : List En} {l e : ByteArray} (hn : e ≠ l) : tg (resE m l) e = tg m e := by
  cases m with
  | nil => rfl
  | cons x r =>
    rw [resE_cons]
    by_cases h : x.e = l
    · simp only [h, if_true]
      have : ¬ x.e = e := fun k => hn (k.symm.trans h)
      simp [tg, this]
    · simp only [h, if_false]
theorem mgF_tg (c d : List Int) (e : ByteArray) : ∀ (n : Nat) {m t : List En}, So m → So t → m.length + t.length ≤ n → tg (mgF c d n m t) e = mt (tg m e) c (tg t e) d
  | 0, m, t, hm, ht, hn => by
    have h1 : m = [] := List.eq_nil_of_length_eq_zero (by omega)
    have h2 : t = [] := List.eq_nil_of_length_eq_zero (by omega)
    subst h1; subst h2
    exact (mt_zz c d).symm
  | n + 1, m, t, hm, ht, hn => by
    by_cases h0 : m.length + t.length = 0
    · have h1 : m = [] := List.eq_nil_of_length_eq_zero (by omega)
      have h2 : t = [] := List.eq_nil_of_length_eq_zero (by omega)
      subst h1; subst h2
      rw [mgF_nil]
      exact (mt_zz c d).symm
    · have hl := res_less h0
      obtain ⟨b1, b2⟩ := lea_lb hm ht
      have ih := mgF_tg c d e n (res_so hm (leaE m t)) (res_so ht (leaE m t)) (by omega)
      rw [mgF, if_neg h0]
      by_cases he : e = leaE m t
      · rw [← he] at b1 b2 ih ⊢
        have g1 := tg_lea hm b1
        have g2 := tg_lea ht b2
        rw [tg_gt (res_gt hm b1), tg_gt (res_gt ht b2), mt_zz] at ih
        rw [g1, g2]
        split
        · rename_i hz
          rw [List.nil_append, ih, hz]
        · rw [List.singleton_append, tg, if_pos rfl]
      · rw [tg_res he, tg_res he] at ih
        split
        · rw [List.nil_append, ih]
        · rw [List.singleton_append, tg, if_neg (fun k => he k.symm), ih]
theorem mgF_mem (c d : List Int) : ∀ (n : Nat) {m t : List En} {z : En}, z ∈ mgF c d n m t → (∃ x ∈ m, x.e = z.e) ∨ (∃ x ∈ t, x.e = z.e)
  | 0, m, t, z, h => by simp [mgF] at h
  | n + 1, m, t, z, h => by
    rw [mgF] at h
    split at h
    · simp at h
    · rename_i h0
      rcases List.mem_append.1 h with h | h
      · split at h
        · simp at h
        · rw [List.mem_singleton] at h
          rcases lea_some h0 with ⟨x, r, e, hx⟩ | ⟨x, r, e, hx⟩
          · exact .inl ⟨x, by rw [e]; simp, by rw [h]; exact hx⟩
          · exact .inr ⟨x, by rw [e]; simp, by rw [h]; exact hx⟩
      · rcases mgF_mem c d n h with ⟨x, hx, e⟩ | ⟨x, hx, e⟩
        · exact .inl ⟨x, res_mem hx, e⟩
        · exact .inr ⟨x, res_mem hx, e⟩
theorem mgF_so (c d : List Int) : ∀ (n : Nat) {m t : List En}, So m → So t → So (mgF c d n m t)
  | 0, m, t, hm, ht => List.Pairwise.nil
  | n + 1, m, t, hm, ht => by
    rw [mgF]
    split
    · exact List.Pairwise.nil
    · obtain ⟨b1, b2⟩ := lea_lb hm ht
      have ih := mgF_so c d n (res_so hm (leaE m t)) (res_so ht (leaE m t))
      split
      · exact ih
      · refine List.pairwise_cons.2 ⟨fun z hz => ?_, ih⟩
        rcases mgF_mem c d n hz with ⟨x, hx, e⟩ | ⟨x, hx, e⟩
        · rw [← e]; exact res_gt hm b1 x hx
        · rw [← e]; exact res_gt ht b2 x hx
theorem mgF_nz (c d : List Int) : ∀ (n : Nat) {m t : List En} {z : En}, z ∈ mgF c d n m t → z.t ≠ zr
  | 0, m, t, z, h => by simp [mgF] at h
  | n + 1, m, t, z, h => by
    rw [mgF] at h
    split at h
    · simp at h
    · rcases List.mem_append.1 h with h | h
      · split at h
        · simp at h
        · rename_i hz
          rw [List.mem_singleton] at h
          rw [h]; exact hz
      · exact mgF_nz c d n h
theorem mgF_len (c d : List Int) : ∀ (n : Nat) (m t : List En), (mgF c d n m t).length ≤ m.length + t.length
  | 0, m, t => by simp [mgF]
  | n + 1, m, t => by
    rw [mgF]
    split
    · simp
    · rename_i h0
      have h1 := res_less h0
      have h2 := mgF_len c d n (resE m (leaE m t)) (resE t (leaE m t))
      rw [List.length_append]
      split <;> simp only [List.length_nil, List.length_singleton] <;> omega
theorem tg_mem {es : List En} (h : So es) {x : En} (hx : x ∈ es) : tg es x.e = x.t := by
  induction es with
  | nil => simp at hx
  | cons y r ih =>
    unfold tg
    rcases List.mem_cons.1 hx with rfl | hx
    · simp
    · have h1 := (List.pairwise_cons.1 h).1 x hx
      have hne : ¬ y.e = x.e := by intro e; rw [e, bl_irrefl] at h1; cases h1
      simp only [hne, if_false]
      exact ih (List.pairwise_cons.1 h).2 hx
theorem tg_or (es : List En) (e : ByteArray) : tg es e = zr ∨ ∃ x ∈ es, x.e = e ∧ tg es e = x.t := by
  induction es with
  | nil => exact .inl rfl
  | cons y r ih =>
    unfold tg
    by_cases h : y.e = e
    · exact .inr ⟨y, by simp, h, by simp [h]⟩
    · simp only [h, if_false]
      rcases ih with ih | ⟨x, hx, e1, e2⟩
      · exact .inl ih
      · exact .inr ⟨x, List.mem_cons_of_mem _ hx, e1, e2⟩
/-- two sets' entries -/
def mgE (c d : List Int) (m t : List En) : List En := mgF c d (m.length + t.length) m t
/-- a set as it may be -/
structure Gs (c : List Int) (es : List En) : Prop where
  so : So es
  nz : ∀ x ∈ es, x.t ≠ zr
  wi : ∀ x ∈ es, Wi x.t c
  len : c.length = 8
  ge : ∀ i, i < 8 → 0 ≤ c.getD i 0
theorem Gs.tg {c : List Int} {es : List En} (h : Gs c es) (e : ByteArray) : Wi (ty.tg es e) c := by
  rcases tg_or es e with h1 | ⟨x, hx, -, h1⟩
  · rw [h1]; exact Wi.zr h.len h.ge
  · rw [h1]; exact h.wi x hx
theorem mgE_tg {c d : List Int} {m t : List En} (h : Gs c m) (k : Gs d t) (e : ByteArray) : tg (mgE c d m t) e = mt (tg m e) c (tg t e) d := mgF_tg c d e _ h.so k.so (Nat.le_refl _)
theorem mgE_gs {c d : List Int} {m t : List En} (h : Gs c m) (k : Gs d t) : Gs (gr c d) (mgE c d m t) := by
  have hs := mgF_so c d (m.length + t.length) h.so k.so
  refine ⟨hs, fun x hx => mgF_nz c d _ hx, fun x hx => ?_, gr_len h.len k.len, fun i hi => ?_⟩
  · have e1 : ty.tg (mgE c d m t) x.e = x.t := tg_mem hs hx
    rw [mgE_tg h k] at e1
    rw [← e1]
    exact mt_wi (h.tg _) (k.tg _)
  · have h1 := h.ge i hi
    rw [gr_at h.len k.len i hi]
    omega
theorem Gs.new : Gs zr [] := ⟨List.Pairwise.nil, by simp, by simp, rfl, fun i _ => by rw [zrD]; exact Int.le_refl _⟩
theorem mgE_len (c d : List Int) (m t : List En) : (mgE c d m t).length ≤ m.length + t.length := mgF_len c d _ m t
theorem mgE_size {c d : List Int} {m t : List En} {n : Nat} (h : ∀ x ∈ m, x.e.size ≤ n) (k : ∀ x ∈ t, x.e.size ≤ n) : ∀ x ∈ mgE c d m t, x.e.size ≤ n := by
  intro x hx
  rcases mgF_mem c d _ hx with ⟨y, hy, e⟩ | ⟨y, hy, e⟩
  · rw [← e]; exact h y hy
  · rw [← e]; exact k y hy
end Go.Proofs.YtdbeeikjngnnnaaGreat.ty
