import Derived.Test.YtdbeeikjngnnnaaGreatChecked
import Derived.WalkKit
import Derived.ProofKit
import Derived.OpenShut
import Derived.Deep.QuietTactic
import Derived.BigQuiet
import Derived.BigRegion
import Derived.Laws.CopyOwn
import Derived.Laws.IdiomCopy
import Derived.WalkSmall
import Derived.Laws.ResultCell
import Derived.Laws.AppendOwnNone
import Derived.Deep.RegionHeld
import Derived.Deep.DeepAppendRoom
import Derived.Great.BuildSlice
import Derived.Deep.CutBlock
import Derived.Deep.RegionLaw
import Derived.ArgAppend
import Derived.Laws.Strings
import Derived.Laws.StructEq
import Derived.Below
import Derived.Deep.MidRow
import Derived.Great.Ranges
import Derived.Deep.RegionHeld3
import Derived.Laws.NewBlocks
import Derived.OrdersHeld
import Derived.Stop.BytesEq
import Derived.Laws.BytesString
import Derived.Lib.ConvBytes
import Derived.Laws.BitsAllLaws
import Derived.WalkLawsBesides
import Derived.Lib.Bytealg
import Derived.Laws.Externs
import Derived.Lib.SliceRun
import Derived.Lib.AppendZerosOnto
import Derived.Lib.AppendStr
import Derived.Lib.SlBytesConst
import Derived.Sort.Walk0
import Derived.Laws.Cover1
import Derived.Lib.Strings
import Derived.Lib.MinMaxS
import GoSem.Claim
import GoSem.ClaimJoined
import GoSem.ClaimMapViews
import Derived.JoinedTies
import Derived.KernelRfl
import Derived.JoinedCond
import Derived.ShutString
import Derived.ChangeOld
import Derived.Carry
import Derived.ChangeSlices
import Derived.Deep.Slices
import Derived.Deep.DeepHandedRow
import Derived.RowKit
import Derived.ChangeShapes
import Derived.SizedLaws
import Derived.ChangeMaps5
import Derived.Sort.WalkA
import Derived.Test.YtdbeeikjngnnnaaGreatRows
import Derived.Test.YtdbeeikjngnnnaaGreatV22
namespace Go.Proofs.YtdbeeikjngnnnaaGreat.ty
open Go.ChangeShapes Go.WideShapes Go.ChangeAt Go.RowKit
set_option linter.unusedVariables false
set_option linter.unusedSimpArgs false
theorem Cn.sm {c : List Int} (h : Cn c) : Sm c := ⟨h.1, fun i hi => by have := h.2 i; omega⟩
/-- the document's form, of any value -/
theorem dform_any {w : World} {O : Nat} {v : Vl} {ts : List Tg} {s : Sl} (h : Dk w O (rvO v ts) s) (hr : Rl v ts) (iv : Iv v) : Calls Tryz.prog 44 #[.pointer (some ⟨O, 0, none⟩)] w fun x w' => ∃ s', x = .returned (.slice s'.p s'.n s'.c) ∧ Bf w w' s' (formV v) := by
  cases v using Vl.el with
  | cnt u d => exact dform_cnt h.dv rfl iv.gt.1.1 iv.gt.1.2
  | set c es =>
    obtain ⟨⟨hg, hc, hs⟩, -⟩ := iv.gt
    have hle := hr.els (v := .set c es) iv.gt.1
    have hl := hr.len
    exact dform_set (r := rvO (.set c es) ts) h rfl (by show ts.length ≤ _; omega) hc.sm (els_eq hr.1 hg.so hg.nz (fun x hx => (hg.wi x hx).1)) (by show es.length ≤ 500; have : es.length ≤ 96 := hle; omega) (fun x hx => by have := hs x hx; omega) (fun x hx => by
      have h1 := Rl.tr hr.1 hc x.e (hg.tg x.e)
      rw [tg_mem hg.so hx] at h1
      exact h1)
  | flg c g =>
    obtain ⟨⟨hc, hw⟩, -⟩ := iv.gt
    have hl := hr.len
    have h1 := Rl.tr hr.1 hc ⟨#[]⟩ (flT_wi hw hc _)
    have e : flT g ⟨#[]⟩ = g := by unfold flT; rw [if_pos rfl]
    rw [e] at h1
    exact dform_flg (r := rvO (.flg c g) ts) h rfl (by show ts.length ≤ _; omega) hc.sm h1
  | rgs n a t =>
    obtain ⟨⟨⟨h0, h1⟩, ⟨h2, h3⟩, -⟩, -⟩ := iv.gt
    obtain ⟨n, rfl⟩ := Int.eq_ofNat_of_zero_le h0
    obtain ⟨b, rfl⟩ := Int.eq_ofNat_of_zero_le h2
    exact dform_reg (r := rvO (.rgs n b t) ts) h.dv rfl (n := n) (a := b) rfl (by omega) rfl (by show t.size ≤ 1000; omega)
set_option maxRecDepth 100000 in
/-- the document's bytes -/
theorem rbytes_ok {w : World} {O : Nat} {v : Vl} {ts : List Tg} {s : Sl} (h : Dk w O (rvO v ts) s) (hr : Rl v ts) (iv : Iv v) : Calls Tryz.prog 23 #[.pointer (some ⟨O, 0, none⟩)] w fun x w' => ∃ s' : Sl, x = .returned (.tuple #[.slice s'.p s'.n s'.c, .int .i64 (wzV v)]) ∧ Bq w' s' (bzV v) ∧ Apart [] w w' := by
  have HF := hid (dform_any h hr iv)
  clear h hr iv
  unfold bzV wzV
  by_cases hl : (formV v).length ≤ 64
  · rw [if_pos hl, if_pos hl]
    have Hl := hid hl
    clear hl
    go_enter Tryz.func23, Tryz.ntmps23
    go_upto_region 2 with (
      go_at_call 44
      refine HF.out.mono ?_
      rintro _ w3 ⟨s3, rfl, b3⟩
      have HB := hid b3
      clear b3)
    have hn : ¬ ((s3.n : Nat) : Int) > 64 := by have h1 := HB.out.len; have h2 := Hl.out; omega
    go_wp2_with fail
    go_ret2
    exact ⟨s3, rfl, ⟨HB.out.nw.rd, HB.out.len.symm, HB.out.nw.ok⟩, HB.out.nw.ap⟩
  · rw [if_neg hl, if_neg hl]
    have Hl := hid hl
    clear hl
    go_enter Tryz.func23, Tryz.ntmps23
    go_upto_region 2 with (
      go_at_call 44
      refine HF.out.mono ?_
      rintro _ w3 ⟨s3, rfl, b3⟩
      have HB := hid b3
      clear b3)
    have hn : ((s3.n : Nat) : Int) > 64 := by have h1 := HB.out.len; have h2 := Hl.out; omega
    go_wp2_with fail
    go_ret2
    exact ⟨⟨none, 0, 0⟩, rfl, ⟨Rd.nil _ _, rfl, fun _ => ⟨rfl, rfl⟩⟩, HB.out.nw.ap⟩
set_option maxRecDepth 100000 in
/-- the document's elements of what is no set -/
theorem dels_no {w : World} {O : Nat} {r : Rv} {s : Sl} (h : Dv w O r s) (hk : r.k ≠ 2) : Calls Tryz.prog 32 #[.pointer (some ⟨O, 0, none⟩)] w fun x w' => ∃ s', x = .returned (.slice s'.p s'.n s'.c) ∧ Apart [] w w' ∧ Ss w' s' [] := by
  have zs := h.tags
  have zk := h.kind
  obtain ⟨k, Hk⟩ : ∃ k, Hid (k = r.k) := ⟨_, hid rfl⟩
  rw [← Hk.out] at zk
  have hkb : (((k : Nat) : Int) == 2) = false := by have := Hk.out; simp only [beq_eq_false_iff_ne]; omega
  clear h hk
  have Hfin : Hid (Apart [] w w ∧ Ss w ⟨none, 0, 0⟩ []) := hid ⟨Apart.refl _ _, RdT.nil _ _ _, rfl, Nat.le_refl _, fun _ => ⟨rfl, rfl⟩⟩
  go_enter Tryz.func32, Tryz.ntmps32
  go_wp2_with fail
  go_loopw [3, 4] (fun v3 v4 wt => Hid (v3 = .slice none 0 0 ∧ v4 = .int .i64 0) ∧ Hid (wt = w)) (fun _ v4 _ => 0)
  case atStart => exact ⟨hid ⟨rfl, rfl⟩, hid rfl⟩
  case round =>
    obtain ⟨Hv, Hw⟩ := hrel
    obtain ⟨rfl, rfl⟩ := Hv.out
    rw [Hw.out]
    by_cases hlt : 0 < s.n
    · have hlti : ((0 : Nat) : Int) < ((s.n : Nat) : Int) := by omega
      have hlti' : (0 : Int) < ((s.n : Nat) : Int) := by omega
      go_wp2_with fail
      go_ret
      exact ⟨⟨none, 0, 0⟩, rfl, Hfin.out⟩
    · have hlti : ¬ ((0 : Nat) : Int) < ((s.n : Nat) : Int) := by omega
      have hlti' : ¬ (0 : Int) < ((s.n : Nat) : Int) := by omega
      go_wp2_with fail
      go_ret
      exact ⟨⟨none, 0, 0⟩, rfl, Hfin.out⟩
theorem rels_ok {w : World} {O : Nat} {v : Vl} {ts : List Tg} {s : Sl} (h : Dk w O (rvO v ts) s) (hr : Rl v ts) (iv : Iv v) : Calls Tryz.prog 32 #[.pointer (some ⟨O, 0, none⟩)] w fun x w' => ∃ s', x = .returned (.slice s'.p s'.n s'.c) ∧ Apart [] w w' ∧ Ss w' s' ((elsR v).map fun x => x.e) := by
  cases v using Vl.el with
  | cnt u d => exact dels_no h.dv (by simp [rvO])
  | flg c g => exact dels_no h.dv (by simp [rvO])
  | rgs n a t => exact dels_no h.dv (by simp [rvO])
  | set c es =>
    obtain ⟨⟨hg, hc, hs⟩, -⟩ := iv.gt
    have hl := hr.len
    have h1 := dels_ok (r := rvO (.set c es) ts) h.dv rfl (by show ts.length ≤ _; omega)
    have e : elsT (rvO (.set c es) ts).ts [] = es.map fun x => x.e := els_eq hr.1 hg.so hg.nz (fun x hx => (hg.wi x hx).1)
    rw [e] at h1
    exact h1
theorem sumC_zz : sumC zr zr 8 = 0 := by decide +kernel
theorem rsum_v {w : World} {O : Nat} {v : Vl} {ts : List Tg} {s : Sl} (h : Dk w O (rvO v ts) s) (iv : Iv v) : Calls Tryz.prog 28 #[.pointer (some ⟨O, 0, none⟩)] w fun x w' => x = .returned (.int .i64 (sumR v)) ∧ Apart [] w w' := by
  have key : ∀ {r : Rv} {z : Int}, Dk w O r s → Wd r.u → Wd r.d → sumC r.u r.d 8 = z → Calls Tryz.prog 28 #[.pointer (some ⟨O, 0, none⟩)] w fun x w' => x = .returned (.int .i64 z) ∧ Apart [] w w' := by
    intro r z hd hu hdd e
    subst e
    exact rsum_ok hd.dv hu hdd
  cases v using Vl.el with
  | cnt u d => exact key h iv.gt.1.1 iv.gt.1.2 rfl
  | set c es => exact key h Wd.zr Wd.zr sumC_zz
  | flg c g => exact key h Wd.zr Wd.zr sumC_zz
  | rgs n a t => exact key h Wd.zr Wd.zr sumC_zz
theorem ron_v {w : World} {O : Nat} {v : Vl} {ts : List Tg} {s : Sl} (h : Dk w O (rvO v ts) s) (hr : Rl v ts) (iv : Iv v) : Calls Tryz.prog 30 #[.pointer (some ⟨O, 0, none⟩)] w fun x w' => x = .returned (.bool (onR v)) ∧ Apart [] w w' := by
  rw [← hr.on iv]
  exact ron_ok h.dv
theorem dset_rest {r : Rv} {s : Sl} (lu : r.u.length = 8) (ld : r.d.length = 8) (lc : r.c.length = 8) (i : Nat) (v : Value) : (dCells r s).set (25 + i) v = .int .i64 (r.k : Int) :: (rv r.u ++ (rv r.d ++ (rv r.c ++ ([Value.slice s.p s.n s.c, .int .i64 r.st, .int .i64 r.ac, .string r.tx].set i v)))) := by
  unfold dCells
  rw [show 25 + i = (8 + (8 + (8 + i))) + 1 by omega, List.set_cons_succ, List.set_append_right _ _ (by rw [rv_len]; omega), rv_len, lu, Nat.add_sub_cancel_left, List.set_append_right _ _ (by rw [rv_len]; omega), rv_len, ld, Nat.add_sub_cancel_left, List.set_append_right _ _ (by rw [rv_len]; omega), rv_len, lc, Nat.add_sub_cancel_left]
theorem dset_up {r : Rv} {s : Sl} {i : Nat} (hi : i < 8) (lu : r.u.length = 8) (x : Int) : (dCells r s).set (1 + i) (.int .i64 x) = dCells { r with u := r.u.set i x } s := by
  unfold dCells
  rw [Nat.add_comm, List.set_cons_succ, List.set_append_left _ _ (by rw [rv_len, lu]; exact hi), rv_set]
theorem dset_down {r : Rv} {s : Sl} {i : Nat} (hi : i < 8) (lu : r.u.length = 8) (ld : r.d.length = 8) (x : Int) : (dCells r s).set (9 + i) (.int .i64 x) = dCells { r with d := r.d.set i x } s := by
  unfold dCells
  rw [show 9 + i = (8 + i) + 1 by omega, List.set_cons_succ, List.set_append_right _ _ (by rw [rv_len]; omega), rv_len, lu, Nat.add_sub_cancel_left, List.set_append_left _ _ (by rw [rv_len, ld]; exact hi), rv_set]
theorem dset_count {r : Rv} {s : Sl} {i : Nat} (hi : i < 8) (lu : r.u.length = 8) (ld : r.d.length = 8) (lc : r.c.length = 8) (x : Int) : (dCells r s).set (17 + i) (.int .i64 x) = dCells { r with c := r.c.set i x } s := by
  unfold dCells
  rw [show 17 + i = (8 + (8 + i)) + 1 by omega, List.set_cons_succ, List.set_append_right _ _ (by rw [rv_len]; omega), rv_len, lu, Nat.add_sub_cancel_left, List.set_append_right _ _ (by rw [rv_len]; omega), rv_len, ld, Nat.add_sub_cancel_left, List.set_append_left _ _ (by rw [rv_len, lc]; exact hi), rv_set]
/-- a value's block written, its tags as they were -/
theorem Dk.wr {w w' : World} {O : Nat} {r r' : Rv} {s : Sl} (h : Dk w O r s) (a : Apart [O] w w') (hb : w'.heap[O]? = some (.cells (dCells r' s).toArray 63 (0, 0))) (ht : r'.ts = r.ts) (lu : r'.u.length = 8) (ld : r'.d.length = 8) (lc : r'.c.length = 8) : Dk w' O r' s := by
  have hne : ∀ (A : Nat) (cur : Array Value), w.heap[A]? = some (.cells cur 96 (0, 0)) → A ≠ O := fun A cur h3 e => by
    rw [e, h.dv.blk] at h3
    simp at h3
  refine ⟨⟨hb, ?_, by rw [ht]; exact h.dv.len, h.dv.ok, lu, ld, lc⟩, fun h0 => ?_⟩
  · rw [ht]
    by_cases h0 : 0 < r.ts.length
    · obtain ⟨A, o, cur, h1, h3⟩ := h.tag h0
      refine h.dv.rd.kept a (fun P o' hp hm => ?_)
      rw [h1] at hp
      simp only [Option.some.injEq, Addr.mk.injEq] at hp
      exact hne A cur h3 (by rw [hp.1]; exact List.mem_singleton.1 hm)
    · have e : r.ts = [] := List.length_eq_zero_iff.1 (by omega)
      rw [e]
      exact Rd.nil _ _
  · rw [ht] at h0
    obtain ⟨A, o, cur, h1, h3⟩ := h.tag h0
    exact ⟨A, o, cur, h1, keepB a h3 (hne A cur h3)⟩
end Go.Proofs.YtdbeeikjngnnnaaGreat.ty
namespace Go.Proofs.YtdbeeikjngnnnaaGreat.ty
open Go.ChangeShapes Go.WideShapes Go.ChangeAt Go.RowKit
set_option linter.unusedVariables false
set_option linter.unusedSimpArgs false
theorem info96 : (Tryz.prog.info? 96).map (fun i => (i.zero, i.size, i.bytes)) = some (some (.agg #[.string ⟨#[]⟩, .int .i64 0, .int .i64 0]), 3, 32) := by kernel_rfl
theorem tgL_one {ts : List Tg} : ∀ u ∈ tgL ts, u.oneCell' = true := by
  induction ts with
  | nil => intro u hu; simp [tgL] at hu
  | cons t r ih =>
    intro u hu
    rcases List.mem_append.1 hu with hu | hu
    · simp only [tgC, List.mem_cons, List.not_mem_nil, or_false] at hu
      rcases hu with rfl | rfl | rfl <;> rfl
    · exact ih u hu
/-- one more tag -/
theorem app_tag {w W : World} {s : Sl} {us : List Tg} (h : Nw w W 96 3 s (tgL us)) (t : Tg) (hl : s.n ≤ 1000000) :
    ∃ s' W', (Builtin.append_ #[61, 61] 61 #[.slice s.p s.n s.c, .slice (some ⟨W.heap.size, 0, none⟩) 1 1]).run Tryz.prog (W.alloc (.cells #[.string t.e, .int .i64 (t.a : Int), .int .i64 (t.n : Int)] 96)) = .ok (.slice s'.p s'.n s'.c) W' ∧ Nw w W' 96 3 s' (tgL (us ++ [t])) ∧ s'.n = s.n + 1 ∧ Apart s.v.ownBlock.toList W W' := by
  obtain ⟨i0, hif, hz0, hz1, hz2⟩ := info_of info96
  obtain ⟨s5, w5, hrun, hnw5, hs5, ap5, k5, hk5, -, hk6⟩ := run_appM (s := s) 61 61 96 i0 _ 3 32 Tryz.underlying61 hif hz0 hz1 hz2 rfl (by decide) h 1 (tgL [t]) (by decide) rfl tgL_one (by unfold maxLen; omega) (by omega)
  exact ⟨s5, w5, hrun, by rw [tgL_app]; exact hnw5, hs5, ap5⟩
theorem Nw.none96 (w W : World) (a : Apart [] w W) : Nw w W 96 3 ⟨none, 0, 0⟩ (tgL []) := ⟨World.ownsRow_nil _ _ _ _, by simp [Sl.v, Value.ownBlock], a⟩
/-- new tags stored -/
theorem Dk.put {wB w : World} {O : Nat} {r : Rv} {s so : Sl} {ts : List Tg} (h : Dk w O r s) (n : Nw wB w 96 3 so (tgL ts)) (hs : so.n = ts.length) : Dk (w.setCell ⟨O, 25, none⟩ (.slice so.p so.n so.c)) O { r with ts := ts } so := by
  have hb : (w.setCell ⟨O, 25, none⟩ (.slice so.p so.n so.c)).heap[O]? = some (.cells (dCells { r with ts := ts } so).toArray 63 (0, 0)) := by
    have h1 := heap_setCell_same w O 25 _ 63 (.slice so.p so.n so.c) h.dv.blk
    have h2 := dset_rest (r := r) (s := s) h.dv.lu h.dv.ld h.dv.lc 0 (.slice so.p so.n so.c)
    rw [Nat.add_zero] at h2
    rw [List.setIfInBounds_toArray, h2] at h1
    exact h1
  have ha : Apart [O] w (w.setCell ⟨O, 25, none⟩ (.slice so.p so.n so.c)) := (Apart.refl [O] w).setCell (.inl (by simp)) _
  have hO : ∀ k ∈ [O], ∀ cur, w.heap[k]? ≠ some (.cells cur 96 (0, 0)) := fun k hk cur e => by
    rw [List.mem_singleton.1 hk, h.dv.blk] at e
    simp at e
  have ht : ∀ k cur, so.v.ownBlock = some k → w.heap[k]? = some (.cells cur 96 (0, 0)) → k ≠ O := fun k cur _ e q => hO O (by simp) cur (by rw [← q]; exact e)
  have hown : (w.setCell ⟨O, 25, none⟩ (.slice so.p so.n so.c)).ownsRow 0 96 3 so.v so.n (tgL ts) := own_apart n.own ha (fun k hk hm => by
    obtain ⟨cur, e⟩ := own_typ n.own hk
    exact ht k cur hk e (List.mem_singleton.1 hm))
  refine ⟨⟨hb, Rd.own hown, hs, n.ok, h.dv.lu, h.dv.ld, h.dv.lc⟩, fun h0 => ?_⟩
  obtain ⟨P, o, hp, hP, -⟩ := Rd.own hown (by rw [tgL_len]; have : 0 < ts.length := h0; omega)
  obtain ⟨cur, e⟩ := own_typ hown (k := P) (by rw [Sl.v, hp]; rfl)
  exact ⟨P, o, cur, hp, e⟩
theorem takeT_app (a b : List Tg) (e : ByteArray) : takeT (a ++ b) e = takeT a e ++ takeT b e := by unfold takeT; rw [List.filter_append]
set_option maxHeartbeats 4000000 in
set_option maxRecDepth 100000 in
/-- the document's take -/
theorem rtake_ok {w : World} {O : Nat} {r : Rv} {s : Sl} (h : Dk w O r s) (hl : r.ts.length ≤ 10000) (e : ByteArray) : Calls Tryz.prog 52 #[.pointer (some ⟨O, 0, none⟩), .string e] w fun x w' => x = .returned (.tuple #[]) ∧ Apart [O] w w' ∧ ∃ s', Dk w' O { r with ts := takeT r.ts e } s' ∧ w'.ownsRow 0 96 3 s'.v s'.n (tgL (takeT r.ts e)) ∧ (∀ k, s'.v.ownBlock = some k → w.heap.size ≤ k) ∧ s'.n = (takeT r.ts e).length := by
  have HD := hid h
  have hOw := lt_of_heap h.dv.blk
  obtain ⟨n, Hn⟩ : ∃ n, Hid (n = r.ts.length) := ⟨_, hid rfl⟩
  have hn6 : n ≤ 10000 := by rw [Hn.out]; exact hl
  have hsn : s.n = n := by rw [Hn.out]; exact h.dv.len
  have HN0 := hid (Nw.none96 w w (Apart.refl [] w))
  clear h hl
  go_enter Tryz.func52, Tryz.ntmps52
  go_wp2_with fail
  go_loopw [4, 5] (fun v4 v5 wt => ∃ (q : Nat) (so : Sl), v4 = .slice so.p so.n so.c ∧ v5 = .int .i64 (q : Int) ∧ q ≤ n ∧ Hid (Nw w wt 96 3 so (tgL (takeT (r.ts.take q) e))) ∧ Hid (so.n = (takeT (r.ts.take q) e).length)) (fun _ v5 _ => n - natV v5)
  case atStart => exact ⟨0, ⟨none, 0, 0⟩, rfl, rfl, Nat.zero_le _, HN0, hid rfl⟩
  case round =>
    clear HN0
    obtain ⟨q, so, rfl, rfl, hq, HN, Hso⟩ := hrel
    generalize wr = wt at *
    have HDt := hid (HD.out.kept0 HN.out.ap)
    have zs := HDt.out.dv.tags
    rw [hsn] at zs
    by_cases hlt : q < n
    · have hlti : ((q : Nat) : Int) < ((n : Nat) : Int) := by omega
      obtain ⟨A, o, hsp, hAs, hev⟩ := HDt.out.dv.tag (by have := Hn.out; omega)
      rw [hsp] at zs
      obtain ⟨t, Ht⟩ : ∃ t, Hid (r.ts[q]? = some t) := ⟨_, hid (List.getElem?_eq_getElem (by have := Hn.out; omega))⟩
      have Htk : Hid (r.ts.take (q + 1) = r.ts.take q ++ [t]) := hid (by
        have hql : q < r.ts.length := by have := Hn.out; omega
        have h1 := Ht.out
        rw [List.getElem?_eq_getElem hql] at h1
        rw [List.take_succ_eq_append_getElem hql, Option.some.inj h1])
      obtain ⟨z0, z1, z2⟩ := hev q t Ht.out
      clear hev hsp hAs
      have Hle : Hid (so.n ≤ 10000) := hid (by
        rw [Hso.out]
        have h1 : (takeT (r.ts.take q) e).length ≤ (r.ts.take q).length := List.length_filter_le _ _
        rw [List.length_take] at h1
        omega)
      by_cases he : t.e = e
      · have heb : (t.e.toList == e.toList) = true := by rw [he]; simp
        have heb2 : (t.e.toList != e.toList) = false := by rw [he]; simp
        have Hnx : Hid (takeT (r.ts.take (q + 1)) e = takeT (r.ts.take q) e) := hid (by
          rw [Htk.out, takeT_app]
          have : takeT [t] e = [] := by unfold takeT; simp [he]
          rw [this, List.append_nil])
        clear he
        go_wp2_with fail
        exact ⟨⟨q + 1, so, rfl, by go_num, by omega, by rw [Hnx.out]; exact HN, by rw [Hnx.out]; exact Hso⟩, by simp [natV]; omega⟩
      · have heb : (t.e.toList == e.toList) = false := by
          rw [beq_eq_false_iff_ne]
          intro k
          rw [Lib.toList_data, Lib.toList_data] at k
          exact he (ba_inj k)
        have heb2 : (t.e.toList != e.toList) = true := by
          rw [bne_iff_ne]
          exact beq_eq_false_iff_ne.1 heb
        have Hnx : Hid (takeT (r.ts.take (q + 1)) e = takeT (r.ts.take q) e ++ [t]) := hid (by
          rw [Htk.out, takeT_app]
          have : takeT [t] e = [t] := by unfold takeT; simp [he]
          rw [this])
        obtain ⟨s2, w2, hrun, n2, l2, a2⟩ := app_tag HN.out t (by have := Hle.out; omega)
        have HR := hid hrun
        have HN2 := hid n2
        have Hs2 : Hid (s2.n = (takeT (r.ts.take (q + 1)) e).length) := hid (by rw [l2, Hnx.out, List.length_append, Hso.out]; rfl)
        clear he hrun n2 l2 a2
        go_wp2_with (refine wpList_append3 rfl _ _ 61 rfl _ _ rfl rfl (.slice s2.p s2.n s2.c) w2 HR.out ?_)
        exact ⟨⟨q + 1, s2, rfl, by go_num, by omega, by rw [Hnx.out]; exact HN2, Hs2⟩, by simp [natV]; omega⟩
    · have hlti : ¬ ((q : Nat) : Int) < ((n : Nat) : Int) := by omega
      have He : Hid (r.ts.take q = r.ts) := hid (List.take_of_length_le (by have := Hn.out; omega))
      rw [He.out] at HN Hso
      have Hf : Hid (wt.frozen? ⟨O, 25, none⟩ = false) := hid (frozen_of_row _ _ _ _ _ HDt.out.dv.blk)
      have hf := Hf.out
      have HDn := hid (HDt.out.put HN.out Hso.out)
      have HAn : Hid (Apart [O] w (wt.setCell ⟨O, 25, none⟩ (.slice so.p so.n so.c))) := hid (((HN.out.ap).mono (by simp)).setCell (.inl (by simp)) _)
      have HNn : Hid ((wt.setCell ⟨O, 25, none⟩ (.slice so.p so.n so.c)).ownsRow 0 96 3 so.v so.n (tgL (takeT r.ts e))) := hid (own_apart HN.out.own ((Apart.refl [O] wt).setCell (.inl (by simp)) _) (fun k hk hm => by
        have h1 := HN.out.new k hk
        have h2 := List.mem_singleton.1 hm
        omega))
      go_wp2_with fail
      go_end0
      exact ⟨rfl, HAn.out, so, HDn.out, HNn.out, HN.out.new, Hso.out⟩
end Go.Proofs.YtdbeeikjngnnnaaGreat.ty
