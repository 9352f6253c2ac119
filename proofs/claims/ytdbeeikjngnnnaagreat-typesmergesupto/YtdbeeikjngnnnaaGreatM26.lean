import Derived.Test.YtdbeeikjngnnnaaGreatChecked
import Derived.WalkKit
import Derived.ProofKit
import Derived.OpenShut
import Derived.Deep.QuietTactic
import Derived.BigQuiet
import Derived.BigRegion
import Derived.Laws.CopyOwn
import Derived.Laws.IdiomCopy
import Derived.WalkSmall
import Derived.Laws.ResultCell
import Derived.Laws.AppendOwnNone
import Derived.Deep.RegionHeld
import Derived.Deep.DeepAppendRoom
import Derived.Great.BuildSlice
import Derived.Deep.CutBlock
import Derived.Deep.RegionLaw
import Derived.ArgAppend
import Derived.Laws.Strings
import Derived.Laws.StructEq
import Derived.Below
import Derived.Deep.MidRow
import Derived.Great.Ranges
import Derived.Deep.RegionHeld3
import Derived.Laws.NewBlocks
import Derived.OrdersHeld
import Derived.Stop.BytesEq
import Derived.Laws.BytesString
import Derived.Lib.ConvBytes
import Derived.Laws.BitsAllLaws
import Derived.WalkLawsBesides
import Derived.Lib.Bytealg
import Derived.Laws.Externs
import Derived.Lib.SliceRun
import Derived.Lib.AppendZerosOnto
import Derived.Lib.AppendStr
import Derived.Lib.SlBytesConst
import Derived.Sort.Walk0
import Derived.Laws.Cover1
import Derived.Lib.Strings
import Derived.Lib.MinMaxS
import GoSem.Claim
import GoSem.ClaimJoined
import GoSem.ClaimMapViews
import Derived.JoinedTies
import Derived.KernelRfl
import Derived.JoinedCond
import Derived.ShutString
import Derived.ChangeOld
import Derived.Carry
import Derived.ChangeSlices
import Derived.Deep.Slices
import Derived.Deep.DeepHandedRow
import Derived.RowKit
import Derived.ChangeShapes
import Derived.SizedLaws
import Derived.ChangeMaps5
import Derived.Sort.WalkA
import Derived.Test.YtdbeeikjngnnnaaGreatRows
import Derived.Test.YtdbeeikjngnnnaaGreatM25
namespace Go.Proofs.YtdbeeikjngnnnaaGreat.ty
open Go.ChangeShapes Go.WideShapes Go.ChangeAt Go.RowKit
set_option linter.unusedVariables false
set_option linter.unusedSimpArgs false
theorem Ts.congr {ts : List Tg} {T O : ByteArray → List Int} (h : Ts ts T) (e : ∀ x, T x = O x) : Ts ts O := by
  have : T = O := funext e
  rw [← this]; exact h
theorem flT_wi {c g : List Int} (h : Wi g c) (hc : Cn c) (e : ByteArray) : Wi (flT g e) c := by
  unfold flT
  split
  · exact h
  · exact Wi.zr hc.1 hc.ge
theorem Rl.mg {v o : Vl} {ts os : List Tg} (h : Rl v ts) (k : Rl o os) (iv : Iv v) (io : Iv o) (e : v.kd = o.kd) : Rl (mgV v o) (mergeT ts (rvO v ts).c os (rvO o os).c) := by
  revert h k iv io
  refine Vl.two (motive := fun v o => Rl v ts → Rl o os → Iv v → Iv o → Rl (mgV v o) (mergeT ts (rvO v ts).c os (rvO o os).c)) ?_ ?_ ?_ ?_ v o e
  · intro u d p q h k iv io
    rw [show ts = [] from h, show os = [] from k]
    rfl
  · intro c es d fs h k iv io
    obtain ⟨⟨hg, hc, hs⟩, -⟩ := iv.gt
    obtain ⟨⟨kg, kc, ks⟩, -⟩ := io.gt
    refine ⟨(h.1.merge k.1 hg.tg kg.tg).congr fun x => (mgE_tg hg kg x).symm, Fw.merge h.1 k.1 hg.tg kg.tg h.2 k.2⟩
  · intro c g d f h k iv io
    obtain ⟨⟨hc, hw⟩, -⟩ := iv.gt
    obtain ⟨⟨kc, kw⟩, -⟩ := io.gt
    refine ⟨(h.1.merge k.1 (flT_wi hw hc) (flT_wi kw kc)).congr fun x => ?_, Fw.merge h.1 k.1 (flT_wi hw hc) (flT_wi kw kc) h.2 k.2⟩
    unfold flT
    by_cases hx : x = ⟨#[]⟩
    · rw [if_pos hx, if_pos hx, if_pos hx]
    · rw [if_neg hx, if_neg hx, if_neg hx, mt_zz]
  · intro x y h k iv io
    rw [show ts = [] from h, show os = [] from k]
    show Rl (mgV (.rgs x.1 x.2.1 x.2.2) (.rgs y.1 y.2.1 y.2.2)) []
    rcases Classical.em (Lt3 x y) with hl | hl
    · rw [mgV_yes hl]; rfl
    · rw [mgV_no hl]; rfl
theorem Iv.mg {v o : Vl} (iv : Iv v) (io : Iv o) (e : v.kd = o.kd) : Iv (mgV v o) := by
  have hgd := mgV_gd iv.gt.1 io.gt.1 e
  revert iv io hgd
  refine Vl.two (motive := fun v o => Iv v → Iv o → Gd (mgV v o) → Iv (mgV v o)) ?_ ?_ ?_ ?_ v o e
  · intro u d p q iv io hgd
    exact ⟨⟨hgd, fun s a t e => by cases e⟩, fun x hx => by simp [mgV, elsR] at hx⟩
  · intro c es d fs iv io hgd
    refine ⟨⟨hgd, fun s a t e => by cases e⟩, fun x hx => ?_⟩
    rcases mgF_mem c d _ (show x ∈ mgF c d (es.length + fs.length) es fs from hx) with ⟨y, hy, e⟩ | ⟨y, hy, e⟩
    · rw [← e]; exact iv.sz y hy
    · rw [← e]; exact io.sz y hy
  · intro c g d f iv io hgd
    exact ⟨⟨hgd, fun s a t e => by cases e⟩, fun x hx => by simp [mgV, elsR] at hx⟩
  · intro x y iv io hgd
    rcases Classical.em (Lt3 x y) with hl | hl
    · rw [mgV_yes hl]; exact io
    · rw [mgV_no hl]; exact iv
/-- the document's value behind a merge -/
def mgD (v o : Rv) (later : Bool) : Rv := ⟨v.k, gr v.u o.u, gr v.d o.d, gr v.c o.c, mergeT v.ts v.c o.ts o.c, if later = true then o.st else v.st, if later = true then o.ac else v.ac, if later = true then o.tx else v.tx⟩
def lateB (v o : Rv) : Bool := decide (v.st < o.st) || (v.st == o.st && (decide (v.ac < o.ac) || (v.ac == o.ac && bl v.tx o.tx)))
theorem lateB_iff (v o : Rv) : lateB v o = true ↔ Lt3 (v.st, v.ac, v.tx) (o.st, o.ac, o.tx) := by
  unfold lateB Lt3
  simp only [Bool.or_eq_true, Bool.and_eq_true, decide_eq_true_eq, beq_iff_eq]
theorem gr_zz : gr zr zr = zr := gr_idem rfl
theorem lateB_zz (a b : Rv) (h1 : a.st = 0) (h2 : a.ac = 0) (h3 : a.tx = ⟨#[]⟩) (k1 : b.st = 0) (k2 : b.ac = 0) (k3 : b.tx = ⟨#[]⟩) : lateB a b = false := by
  cases q : lateB a b
  · rfl
  · have := (lateB_iff a b).1 q
    rw [h1, h2, h3, k1, k2, k3] at this
    exact absurd this (Lt3.irrefl _)
theorem rvO_mg {v o : Vl} {ts os : List Tg} (h : Rl v ts) (k : Rl o os) (iv : Iv v) (io : Iv o) (e : v.kd = o.kd) : mgD (rvO v ts) (rvO o os) (lateB (rvO v ts) (rvO o os)) = rvO (mgV v o) (mergeT ts (rvO v ts).c os (rvO o os).c) := by
  revert h k iv io
  refine Vl.two (motive := fun v o => Rl v ts → Rl o os → Iv v → Iv o → mgD (rvO v ts) (rvO o os) (lateB (rvO v ts) (rvO o os)) = rvO (mgV v o) (mergeT ts (rvO v ts).c os (rvO o os).c)) ?_ ?_ ?_ ?_ v o e
  · intro u d p q h k iv io
    rw [lateB_zz _ _ rfl rfl rfl rfl rfl rfl]
    show Rv.mk 1 (gr u p) (gr d q) (gr zr zr) _ 0 0 ⟨#[]⟩ = Rv.mk 1 (gr u p) (gr d q) zr _ 0 0 ⟨#[]⟩
    rw [gr_zz]; rfl
  · intro c es d fs h k iv io
    rw [lateB_zz _ _ rfl rfl rfl rfl rfl rfl]
    show Rv.mk 2 (gr zr zr) (gr zr zr) (gr c d) _ 0 0 ⟨#[]⟩ = Rv.mk 2 zr zr (gr c d) _ 0 0 ⟨#[]⟩
    rw [gr_zz]; rfl
  · intro c g d f h k iv io
    rw [lateB_zz _ _ rfl rfl rfl rfl rfl rfl]
    show Rv.mk 3 (gr zr zr) (gr zr zr) (gr c d) _ 0 0 ⟨#[]⟩ = Rv.mk 3 zr zr (gr c d) _ 0 0 ⟨#[]⟩
    rw [gr_zz]; rfl
  · intro x y h k iv io
    rcases Classical.em (Lt3 x y) with hl | hl
    · have hf : lateB (rvO (.rgs x.1 x.2.1 x.2.2) ts) (rvO (.rgs y.1 y.2.1 y.2.2) os) = true := (lateB_iff _ _).2 hl
      rw [hf, mgV_yes hl]
      show Rv.mk 4 (gr zr zr) (gr zr zr) (gr zr zr) _ y.1 y.2.1 y.2.2 = Rv.mk 4 zr zr zr _ y.1 y.2.1 y.2.2
      rw [gr_zz]; rfl
    · have hf : lateB (rvO (.rgs x.1 x.2.1 x.2.2) ts) (rvO (.rgs y.1 y.2.1 y.2.2) os) = false := by
        cases q : lateB (rvO (.rgs x.1 x.2.1 x.2.2) ts) (rvO (.rgs y.1 y.2.1 y.2.2) os)
        · rfl
        · exact absurd ((lateB_iff _ _).1 q) hl
      rw [hf, mgV_no hl]
      show Rv.mk 4 (gr zr zr) (gr zr zr) (gr zr zr) _ x.1 x.2.1 x.2.2 = Rv.mk 4 zr zr zr _ x.1 x.2.1 x.2.2
      rw [gr_zz]; rfl
theorem Iv.new {k : Nat} (h1 : 1 ≤ k) (h4 : k ≤ 4) : Iv (new0 k) := by
  refine ⟨⟨new0_gd k, fun s a t e => ?_⟩, fun x hx => ?_⟩
  · obtain rfl | rfl | rfl | rfl : k = 1 ∨ k = 2 ∨ k = 3 ∨ k = 4 := by omega
    all_goals cases e
    decide
  · obtain rfl | rfl | rfl | rfl : k = 1 ∨ k = 2 ∨ k = 3 ∨ k = 4 := by omega
    all_goals simp [new0, elsR] at hx
theorem Rl.new {k : Nat} (h1 : 1 ≤ k) (h4 : k ≤ 4) : Rl (new0 k) [] := by
  obtain rfl | rfl | rfl | rfl : k = 1 ∨ k = 2 ∨ k = 3 ∨ k = 4 := by omega
  · rfl
  · exact ⟨Ts.nil.congr fun _ => rfl, Fw.nil⟩
  · exact ⟨Ts.nil.congr fun x => by unfold flT; split <;> rfl, Fw.nil⟩
  · rfl
theorem rvO_new {k : Nat} (h1 : 1 ≤ k) (h4 : k ≤ 4) : rvO (new0 k) [] = rv0 k := by
  obtain rfl | rfl | rfl | rfl : k = 1 ∨ k = 2 ∨ k = 3 ∨ k = 4 := by omega
  all_goals rfl
theorem Rl.on {v : Vl} {ts : List Tg} (h : Rl v ts) (iv : Iv v) : ronR (rvO v ts) = onR v := by
  cases v using Vl.el with
  | cnt u d => rfl
  | set c es => rfl
  | rgs s a t => rfl
  | flg c g =>
    obtain ⟨⟨hc, hw⟩, -⟩ := iv.gt
    show (3 == 3 && decide (0 < ts.length)) = (g != zr)
    rw [show ((3 : Nat) == 3) = true from rfl, Bool.true_and]
    by_cases hg : g = zr
    · have : ts = [] := by
        cases ts with
        | nil => rfl
        | cons t r =>
          have h1 := h.1.og.ok t (by simp)
          have h2 := h.1.eq t.e t.a h1.1
          rw [numT_mem h.1.og (by simp)] at h2
          unfold flT at h2
          rw [hg] at h2
          split at h2
          all_goals rw [zrD] at h2; omega
      rw [this, hg]; decide
    · have h0 : ∃ i, i < 8 ∧ g.getD i 0 ≠ 0 := by
        refine Classical.byContradiction fun k => hg (row_ext hw.1 rfl fun i hi => ?_)
        rw [zrD]
        exact Classical.byContradiction fun q => k ⟨i, hi, q⟩
      obtain ⟨i, hi, hne⟩ := h0
      have h1 := h.1.eq ⟨#[]⟩ i hi
      unfold flT at h1
      rw [if_pos rfl] at h1
      have h2 : 0 < ts.length := by
        rcases numT_or ts ⟨#[]⟩ i with ⟨z, -⟩ | ⟨t, ht, -⟩
        · rw [z] at h1; exact absurd h1 hne
        · exact List.length_pos_of_mem ht
      have h3 : (g != zr) = true := by simpa using hg
      rw [h3, decide_eq_true h2]
theorem Rl.tr {ts : List Tg} {T : ByteArray → List Int} (h : Ts ts T) {c : List Int} (hc : Cn c) (e : ByteArray) (w : Wi (T e) c) : Tr ts e (T e) := ⟨h.len e, fun a ha => h.eq e a ha, fun a ha => by
  have h1 := h.eq e a ha
  have h2 := w.2.2 a ha
  have h3 := hc.2 a
  omega⟩
end Go.Proofs.YtdbeeikjngnnnaaGreat.ty
namespace Go.Proofs.YtdbeeikjngnnnaaGreat.ty
open Go.ChangeShapes Go.WideShapes Go.ChangeAt Go.RowKit
set_option linter.unusedVariables false
set_option linter.unusedSimpArgs false
theorem Cn.sm {c : List Int} (h : Cn c) : Sm c := ⟨h.1, fun i hi => by have := h.2 i; omega⟩
/-- the document's form, of any value -/
theorem dform_any {w : World} {O : Nat} {v : Vl} {ts : List Tg} {s : Sl} (h : Dk w O (rvO v ts) s) (hr : Rl v ts) (iv : Iv v) : Calls Tryz.prog 44 #[.pointer (some ⟨O, 0, none⟩)] w fun x w' => ∃ s', x = .returned (.slice s'.p s'.n s'.c) ∧ Bf w w' s' (formV v) := by
  cases v using Vl.el with
  | cnt u d => exact dform_cnt h.dv rfl iv.gt.1.1 iv.gt.1.2
  | set c es =>
    obtain ⟨⟨hg, hc, hs⟩, -⟩ := iv.gt
    have hle := hr.els (v := .set c es) iv.gt.1
    have hl := hr.len
    exact dform_set (r := rvO (.set c es) ts) h rfl (by show ts.length ≤ _; omega) hc.sm (els_eq hr.1 hg.so hg.nz (fun x hx => (hg.wi x hx).1)) (by show es.length ≤ 500; have : es.length ≤ 96 := hle; omega) (fun x hx => by have := hs x hx; omega) (fun x hx => by
      have h1 := Rl.tr hr.1 hc x.e (hg.tg x.e)
      rw [tg_mem hg.so hx] at h1
      exact h1)
  | flg c g =>
    obtain ⟨⟨hc, hw⟩, -⟩ := iv.gt
    have hl := hr.len
    have h1 := Rl.tr hr.1 hc ⟨#[]⟩ (flT_wi hw hc _)
    have e : flT g ⟨#[]⟩ = g := by unfold flT; rw [if_pos rfl]
    rw [e] at h1
    exact dform_flg (r := rvO (.flg c g) ts) h rfl (by show ts.length ≤ _; omega) hc.sm h1
  | rgs n a t =>
    obtain ⟨⟨⟨h0, h1⟩, ⟨h2, h3⟩, -⟩, -⟩ := iv.gt
    obtain ⟨n, rfl⟩ := Int.eq_ofNat_of_zero_le h0
    obtain ⟨b, rfl⟩ := Int.eq_ofNat_of_zero_le h2
    exact dform_reg (r := rvO (.rgs n b t) ts) h.dv rfl (n := n) (a := b) rfl (by omega) rfl (by show t.size ≤ 1000; omega)
set_option maxRecDepth 100000 in
/-- the document's bytes -/
theorem rbytes_ok {w : World} {O : Nat} {v : Vl} {ts : List Tg} {s : Sl} (h : Dk w O (rvO v ts) s) (hr : Rl v ts) (iv : Iv v) : Calls Tryz.prog 23 #[.pointer (some ⟨O, 0, none⟩)] w fun x w' => ∃ s' : Sl, x = .returned (.tuple #[.slice s'.p s'.n s'.c, .int .i64 (wzV v)]) ∧ Bq w' s' (bzV v) ∧ Apart [] w w' := by
  have HF := hid (dform_any h hr iv)
  clear h hr iv
  unfold bzV wzV
  by_cases hl : (formV v).length ≤ 64
  · rw [if_pos hl, if_pos hl]
    have Hl := hid hl
    clear hl
    go_enter Tryz.func23, Tryz.ntmps23
    go_upto_region 2 with (
      go_at_call 44
      refine HF.out.mono ?_
      rintro _ w3 ⟨s3, rfl, b3⟩
      have HB := hid b3
      clear b3)
    have hn : ¬ ((s3.n : Nat) : Int) > 64 := by have h1 := HB.out.len; have h2 := Hl.out; omega
    go_wp2_with fail
    go_ret2
    exact ⟨s3, rfl, ⟨HB.out.nw.rd, HB.out.len.symm, HB.out.nw.ok⟩, HB.out.nw.ap⟩
  · rw [if_neg hl, if_neg hl]
    have Hl := hid hl
    clear hl
    go_enter Tryz.func23, Tryz.ntmps23
    go_upto_region 2 with (
      go_at_call 44
      refine HF.out.mono ?_
      rintro _ w3 ⟨s3, rfl, b3⟩
      have HB := hid b3
      clear b3)
    have hn : ((s3.n : Nat) : Int) > 64 := by have h1 := HB.out.len; have h2 := Hl.out; omega
    go_wp2_with fail
    go_ret2
    exact ⟨⟨none, 0, 0⟩, rfl, ⟨Rd.nil _ _, rfl, fun _ => ⟨rfl, rfl⟩⟩, HB.out.nw.ap⟩
set_option maxRecDepth 100000 in
/-- the document's elements of what is no set -/
theorem dels_no {w : World} {O : Nat} {r : Rv} {s : Sl} (h : Dv w O r s) (hk : r.k ≠ 2) : Calls Tryz.prog 32 #[.pointer (some ⟨O, 0, none⟩)] w fun x w' => ∃ s', x = .returned (.slice s'.p s'.n s'.c) ∧ Apart [] w w' ∧ Ss w' s' [] := by
  have zs := h.tags
  have zk := h.kind
  obtain ⟨k, Hk⟩ : ∃ k, Hid (k = r.k) := ⟨_, hid rfl⟩
  rw [← Hk.out] at zk
  have hkb : (((k : Nat) : Int) == 2) = false := by have := Hk.out; simp only [beq_eq_false_iff_ne]; omega
  clear h hk
  have Hfin : Hid (Apart [] w w ∧ Ss w ⟨none, 0, 0⟩ []) := hid ⟨Apart.refl _ _, RdT.nil _ _ _, rfl, Nat.le_refl _, fun _ => ⟨rfl, rfl⟩⟩
  go_enter Tryz.func32, Tryz.ntmps32
  go_wp2_with fail
  go_loopw [3, 4] (fun v3 v4 wt => Hid (v3 = .slice none 0 0 ∧ v4 = .int .i64 0) ∧ Hid (wt = w)) (fun _ v4 _ => 0)
  case atStart => exact ⟨hid ⟨rfl, rfl⟩, hid rfl⟩
  case round =>
    obtain ⟨Hv, Hw⟩ := hrel
    obtain ⟨rfl, rfl⟩ := Hv.out
    rw [Hw.out]
    by_cases hlt : 0 < s.n
    · have hlti : ((0 : Nat) : Int) < ((s.n : Nat) : Int) := by omega
      have hlti' : (0 : Int) < ((s.n : Nat) : Int) := by omega
      go_wp2_with fail
      go_ret
      exact ⟨⟨none, 0, 0⟩, rfl, Hfin.out⟩
    · have hlti : ¬ ((0 : Nat) : Int) < ((s.n : Nat) : Int) := by omega
      have hlti' : ¬ (0 : Int) < ((s.n : Nat) : Int) := by omega
      go_wp2_with fail
      go_ret
      exact ⟨⟨none, 0, 0⟩, rfl, Hfin.out⟩
theorem rels_ok {w : World} {O : Nat} {v : Vl} {ts : List Tg} {s : Sl} (h : Dk w O (rvO v ts) s) (hr : Rl v ts) (iv : Iv v) : Calls Tryz.prog 32 #[.pointer (some ⟨O, 0, none⟩)] w fun x w' => ∃ s', x = .returned (.slice s'.p s'.n s'.c) ∧ Apart [] w w' ∧ Ss w' s' ((elsR v).map fun x => x.e) := by
  cases v using Vl.el with
  | cnt u d => exact dels_no h.dv (by simp [rvO])
  | flg c g => exact dels_no h.dv (by simp [rvO])
  | rgs n a t => exact dels_no h.dv (by simp [rvO])
  | set c es =>
    obtain ⟨⟨hg, hc, hs⟩, -⟩ := iv.gt
    have hl := hr.len
    have h1 := dels_ok (r := rvO (.set c es) ts) h.dv rfl (by show ts.length ≤ _; omega)
    have e : elsT (rvO (.set c es) ts).ts [] = es.map fun x => x.e := els_eq hr.1 hg.so hg.nz (fun x hx => (hg.wi x hx).1)
    rw [e] at h1
    exact h1
theorem sumC_zz : sumC zr zr 8 = 0 := by decide +kernel
theorem rsum_v {w : World} {O : Nat} {v : Vl} {ts : List Tg} {s : Sl} (h : Dk w O (rvO v ts) s) (iv : Iv v) : Calls Tryz.prog 28 #[.pointer (some ⟨O, 0, none⟩)] w fun x w' => x = .returned (.int .i64 (sumR v)) ∧ Apart [] w w' := by
  have key : ∀ {r : Rv} {z : Int}, Dk w O r s → Wd r.u → Wd r.d → sumC r.u r.d 8 = z → Calls Tryz.prog 28 #[.pointer (some ⟨O, 0, none⟩)] w fun x w' => x = .returned (.int .i64 z) ∧ Apart [] w w' := by
    intro r z hd hu hdd e
    subst e
    exact rsum_ok hd.dv hu hdd
  cases v using Vl.el with
  | cnt u d => exact key h iv.gt.1.1 iv.gt.1.2 rfl
  | set c es => exact key h Wd.zr Wd.zr sumC_zz
  | flg c g => exact key h Wd.zr Wd.zr sumC_zz
  | rgs n a t => exact key h Wd.zr Wd.zr sumC_zz
theorem ron_v {w : World} {O : Nat} {v : Vl} {ts : List Tg} {s : Sl} (h : Dk w O (rvO v ts) s) (hr : Rl v ts) (iv : Iv v) : Calls Tryz.prog 30 #[.pointer (some ⟨O, 0, none⟩)] w fun x w' => x = .returned (.bool (onR v)) ∧ Apart [] w w' := by
  rw [← hr.on iv]
  exact ron_ok h.dv
theorem dset_rest {r : Rv} {s : Sl} (lu : r.u.length = 8) (ld : r.d.length = 8) (lc : r.c.length = 8) (i : Nat) (v : Value) : (dCells r s).set (25 + i) v = .int .i64 (r.k : Int) :: (rv r.u ++ (rv r.d ++ (rv r.c ++ ([Value.slice s.p s.n s.c, .int .i64 r.st, .int .i64 r.ac, .string r.tx].set i v)))) := by
  unfold dCells
  rw [show 25 + i = (8 + (8 + (8 + i))) + 1 by omega, List.set_cons_succ, List.set_append_right _ _ (by rw [rv_len]; omega), rv_len, lu, Nat.add_sub_cancel_left, List.set_append_right _ _ (by rw [rv_len]; omega), rv_len, ld, Nat.add_sub_cancel_left, List.set_append_right _ _ (by rw [rv_len]; omega), rv_len, lc, Nat.add_sub_cancel_left]
theorem dset_up {r : Rv} {s : Sl} {i : Nat} (hi : i < 8) (lu : r.u.length = 8) (x : Int) : (dCells r s).set (1 + i) (.int .i64 x) = dCells { r with u := r.u.set i x } s := by
  unfold dCells
  rw [Nat.add_comm, List.set_cons_succ, List.set_append_left _ _ (by rw [rv_len, lu]; exact hi), rv_set]
theorem dset_down {r : Rv} {s : Sl} {i : Nat} (hi : i < 8) (lu : r.u.length = 8) (ld : r.d.length = 8) (x : Int) : (dCells r s).set (9 + i) (.int .i64 x) = dCells { r with d := r.d.set i x } s := by
  unfold dCells
  rw [show 9 + i = (8 + i) + 1 by omega, List.set_cons_succ, List.set_append_right _ _ (by rw [rv_len]; omega), rv_len, lu, Nat.add_sub_cancel_left, List.set_append_left _ _ (by rw [rv_len, ld]; exact hi), rv_set]
theorem dset_count {r : Rv} {s : Sl} {i : Nat} (hi : i < 8) (lu : r.u.length = 8) (ld : r.d.length = 8) (lc : r.c.length = 8) (x : Int) : (dCells r s).set (17 + i) (.int .i64 x) = dCells { r with c := r.c.set i x } s := by
  unfold dCells
  rw [show 17 + i = (8 + (8 + i)) + 1 by omega, List.set_cons_succ, List.set_append_right _ _ (by rw [rv_len]; omega), rv_len, lu, Nat.add_sub_cancel_left, List.set_append_right _ _ (by rw [rv_len]; omega), rv_len, ld, Nat.add_sub_cancel_left, List.set_append_left _ _ (by rw [rv_len, lc]; exact hi), rv_set]
/-- a value's block written, its tags as they were -/
theorem Dk.wr {w w' : World} {O : Nat} {r r' : Rv} {s : Sl} (h : Dk w O r s) (a : Apart [O] w w') (hb : w'.heap[O]? = some (.cells (dCells r' s).toArray 63 (0, 0))) (ht : r'.ts = r.ts) (lu : r'.u.length = 8) (ld : r'.d.length = 8) (lc : r'.c.length = 8) : Dk w' O r' s := by
  have hne : ∀ (A : Nat) (cur : Array Value), w.heap[A]? = some (.cells cur 96 (0, 0)) → A ≠ O := fun A cur h3 e => by
    rw [e, h.dv.blk] at h3
    simp at h3
  refine ⟨⟨hb, ?_, by rw [ht]; exact h.dv.len, h.dv.ok, lu, ld, lc⟩, fun h0 => ?_⟩
  · rw [ht]
    by_cases h0 : 0 < r.ts.length
    · obtain ⟨A, o, cur, h1, h3⟩ := h.tag h0
      refine h.dv.rd.kept a (fun P o' hp hm => ?_)
      rw [h1] at hp
      simp only [Option.some.injEq, Addr.mk.injEq] at hp
      exact hne A cur h3 (by rw [hp.1]; exact List.mem_singleton.1 hm)
    · have e : r.ts = [] := List.length_eq_zero_iff.1 (by omega)
      rw [e]
      exact Rd.nil _ _
  · rw [ht] at h0
    obtain ⟨A, o, cur, h1, h3⟩ := h.tag h0
    exact ⟨A, o, cur, h1, keepB a h3 (hne A cur h3)⟩
end Go.Proofs.YtdbeeikjngnnnaaGreat.ty
