import Derived.Test.YtdbeeikjngnnnaaGreatChecked
import Derived.WalkKit
import Derived.ProofKit
import Derived.OpenShut
import Derived.Deep.QuietTactic
import Derived.BigQuiet
import Derived.BigRegion
import Derived.Laws.CopyOwn
import Derived.Laws.IdiomCopy
import Derived.WalkSmall
import Derived.Laws.ResultCell
import Derived.Laws.AppendOwnNone
import Derived.Deep.RegionHeld
import Derived.Deep.DeepAppendRoom
import Derived.Great.BuildSlice
import Derived.Deep.CutBlock
import Derived.Deep.RegionLaw
import Derived.ArgAppend
import Derived.Laws.Strings
import Derived.Laws.StructEq
import Derived.Below
import Derived.Deep.MidRow
import Derived.Great.Ranges
import Derived.Deep.RegionHeld3
import Derived.Laws.NewBlocks
import Derived.OrdersHeld
import Derived.Stop.BytesEq
import Derived.Laws.BytesString
import Derived.Lib.ConvBytes
import Derived.Laws.BitsAllLaws
import Derived.WalkLawsBesides
import Derived.Lib.Bytealg
import Derived.Laws.Externs
import Derived.Lib.SliceRun
import Derived.Lib.AppendZerosOnto
import Derived.Lib.AppendStr
import Derived.Lib.SlBytesConst
import Derived.Sort.Walk0
import Derived.Laws.Cover1
import Derived.Lib.Strings
import Derived.Lib.MinMaxS
import GoSem.Claim
import GoSem.ClaimJoined
import GoSem.ClaimMapViews
import Derived.JoinedTies
import Derived.KernelRfl
import Derived.JoinedCond
import Derived.ShutString
import Derived.ChangeOld
import Derived.Carry
import Derived.ChangeSlices
import Derived.Deep.Slices
import Derived.Deep.DeepHandedRow
import Derived.RowKit
import Derived.ChangeShapes
import Derived.SizedLaws
import Derived.ChangeMaps5
import Derived.Sort.WalkA
import Derived.Test.YtdbeeikjngnnnaaGreatRows
import Derived.Test.YtdbeeikjngnnnaaGreatD26
import Derived.Test.YtdbeeikjngnnnaaGreatD31
namespace Go.Proofs.YtdbeeikjngnnnaaGreat.ty
open Go.ChangeShapes Go.WideShapes Go.ChangeAt Go.RowKit
set_option linter.unusedVariables false
set_option linter.unusedSimpArgs false
theorem info96 : (Tryz.prog.info? 96).map (fun i => (i.zero, i.size, i.bytes)) = some (some (.agg #[.string ⟨#[]⟩, .int .i64 0, .int .i64 0]), 3, 32) := by kernel_rfl
theorem tgL_one {ts : List Tg} : ∀ u ∈ tgL ts, u.oneCell' = true := by
  induction ts with
  | nil => intro u hu; simp [tgL] at hu
  | cons t r ih =>
    intro u hu
    rcases List.mem_append.1 hu with hu | hu
    · simp only [tgC, List.mem_cons, List.not_mem_nil, or_false] at hu
      rcases hu with rfl | rfl | rfl <;> rfl
    · exact ih u hu
/-- one more tag -/
theorem app_tag {w W : World} {s : Sl} {us : List Tg} (h : Nw w W 96 3 s (tgL us)) (t : Tg) (hl : s.n ≤ 1000000) :
    ∃ s' W', (Builtin.append_ #[61, 61] 61 #[.slice s.p s.n s.c, .slice (some ⟨W.heap.size, 0, none⟩) 1 1]).run Tryz.prog (W.alloc (.cells #[.string t.e, .int .i64 (t.a : Int), .int .i64 (t.n : Int)] 96)) = .ok (.slice s'.p s'.n s'.c) W' ∧ Nw w W' 96 3 s' (tgL (us ++ [t])) ∧ s'.n = s.n + 1 ∧ Apart s.v.ownBlock.toList W W' := by
  obtain ⟨i0, hif, hz0, hz1, hz2⟩ := info_of info96
  obtain ⟨s5, w5, hrun, hnw5, hs5, ap5, k5, hk5, -, hk6⟩ := run_appM (s := s) 61 61 96 i0 _ 3 32 Tryz.underlying61 hif hz0 hz1 hz2 rfl (by decide) h 1 (tgL [t]) (by decide) rfl tgL_one (by unfold maxLen; omega) (by omega)
  exact ⟨s5, w5, hrun, by rw [tgL_app]; exact hnw5, hs5, ap5⟩
theorem Nw.none96 (w W : World) (a : Apart [] w W) : Nw w W 96 3 ⟨none, 0, 0⟩ (tgL []) := ⟨World.ownsRow_nil _ _ _ _, by simp [Sl.v, Value.ownBlock], a⟩
/-- new tags stored -/
theorem Dk.put {wB w : World} {O : Nat} {r : Rv} {s so : Sl} {ts : List Tg} (h : Dk w O r s) (n : Nw wB w 96 3 so (tgL ts)) (hs : so.n = ts.length) : Dk (w.setCell ⟨O, 25, none⟩ (.slice so.p so.n so.c)) O { r with ts := ts } so := by
  have hb : (w.setCell ⟨O, 25, none⟩ (.slice so.p so.n so.c)).heap[O]? = some (.cells (dCells { r with ts := ts } so).toArray 63 (0, 0)) := by
    have h1 := heap_setCell_same w O 25 _ 63 (.slice so.p so.n so.c) h.dv.blk
    have h2 := dset_rest (r := r) (s := s) h.dv.lu h.dv.ld h.dv.lc 0 (.slice so.p so.n so.c)
    rw [Nat.add_zero] at h2
    rw [List.setIfInBounds_toArray, h2] at h1
    exact h1
  have ha : Apart [O] w (w.setCell ⟨O, 25, none⟩ (.slice so.p so.n so.c)) := (Apart.refl [O] w).setCell (.inl (by simp)) _
  have hO : ∀ k ∈ [O], ∀ cur, w.heap[k]? ≠ some (.cells cur 96 (0, 0)) := fun k hk cur e => by
    rw [List.mem_singleton.1 hk, h.dv.blk] at e
    simp at e
  have ht : ∀ k cur, so.v.ownBlock = some k → w.heap[k]? = some (.cells cur 96 (0, 0)) → k ≠ O := fun k cur _ e q => hO O (by simp) cur (by rw [← q]; exact e)
  have hown : (w.setCell ⟨O, 25, none⟩ (.slice so.p so.n so.c)).ownsRow 0 96 3 so.v so.n (tgL ts) := own_apart n.own ha (fun k hk hm => by
    obtain ⟨cur, e⟩ := own_typ n.own hk
    exact ht k cur hk e (List.mem_singleton.1 hm))
  refine ⟨⟨hb, Rd.own hown, hs, n.ok, h.dv.lu, h.dv.ld, h.dv.lc⟩, fun h0 => ?_⟩
  obtain ⟨P, o, hp, hP, -⟩ := Rd.own hown (by rw [tgL_len]; have : 0 < ts.length := h0; omega)
  obtain ⟨cur, e⟩ := own_typ hown (k := P) (by rw [Sl.v, hp]; rfl)
  exact ⟨P, o, cur, hp, e⟩
theorem takeT_app (a b : List Tg) (e : ByteArray) : takeT (a ++ b) e = takeT a e ++ takeT b e := by unfold takeT; rw [List.filter_append]
set_option maxHeartbeats 4000000 in
set_option maxRecDepth 100000 in
/-- the document's take -/
theorem rtake_ok {w : World} {O : Nat} {r : Rv} {s : Sl} (h : Dk w O r s) (hl : r.ts.length ≤ 10000) (e : ByteArray) : Calls Tryz.prog 52 #[.pointer (some ⟨O, 0, none⟩), .string e] w fun x w' => x = .returned (.tuple #[]) ∧ Apart [O] w w' ∧ ∃ s', Dk w' O { r with ts := takeT r.ts e } s' ∧ w'.ownsRow 0 96 3 s'.v s'.n (tgL (takeT r.ts e)) ∧ (∀ k, s'.v.ownBlock = some k → w.heap.size ≤ k) ∧ s'.n = (takeT r.ts e).length := by
  have HD := hid h
  have hOw := lt_of_heap h.dv.blk
  obtain ⟨n, Hn⟩ : ∃ n, Hid (n = r.ts.length) := ⟨_, hid rfl⟩
  have hn6 : n ≤ 10000 := by rw [Hn.out]; exact hl
  have hsn : s.n = n := by rw [Hn.out]; exact h.dv.len
  have HN0 := hid (Nw.none96 w w (Apart.refl [] w))
  clear h hl
  go_enter Tryz.func52, Tryz.ntmps52
  go_wp2_with fail
  go_loopw [4, 5] (fun v4 v5 wt => ∃ (q : Nat) (so : Sl), v4 = .slice so.p so.n so.c ∧ v5 = .int .i64 (q : Int) ∧ q ≤ n ∧ Hid (Nw w wt 96 3 so (tgL (takeT (r.ts.take q) e))) ∧ Hid (so.n = (takeT (r.ts.take q) e).length)) (fun _ v5 _ => n - natV v5)
  case atStart => exact ⟨0, ⟨none, 0, 0⟩, rfl, rfl, Nat.zero_le _, HN0, hid rfl⟩
  case round =>
    clear HN0
    obtain ⟨q, so, rfl, rfl, hq, HN, Hso⟩ := hrel
    generalize wr = wt at *
    have HDt := hid (HD.out.kept0 HN.out.ap)
    have zs := HDt.out.dv.tags
    rw [hsn] at zs
    by_cases hlt : q < n
    · have hlti : ((q : Nat) : Int) < ((n : Nat) : Int) := by omega
      obtain ⟨A, o, hsp, hAs, hev⟩ := HDt.out.dv.tag (by have := Hn.out; omega)
      rw [hsp] at zs
      obtain ⟨t, Ht⟩ : ∃ t, Hid (r.ts[q]? = some t) := ⟨_, hid (List.getElem?_eq_getElem (by have := Hn.out; omega))⟩
      have Htk : Hid (r.ts.take (q + 1) = r.ts.take q ++ [t]) := hid (by
        have hql : q < r.ts.length := by have := Hn.out; omega
        have h1 := Ht.out
        rw [List.getElem?_eq_getElem hql] at h1
        rw [List.take_succ_eq_append_getElem hql, Option.some.inj h1])
      obtain ⟨z0, z1, z2⟩ := hev q t Ht.out
      clear hev hsp hAs
      have Hle : Hid (so.n ≤ 10000) := hid (by
        rw [Hso.out]
        have h1 : (takeT (r.ts.take q) e).length ≤ (r.ts.take q).length := List.length_filter_le _ _
        rw [List.length_take] at h1
        omega)
      by_cases he : t.e = e
      · have heb : (t.e.toList == e.toList) = true := by rw [he]; simp
        have heb2 : (t.e.toList != e.toList) = false := by rw [he]; simp
        have Hnx : Hid (takeT (r.ts.take (q + 1)) e = takeT (r.ts.take q) e) := hid (by
          rw [Htk.out, takeT_app]
          have : takeT [t] e = [] := by unfold takeT; simp [he]
          rw [this, List.append_nil])
        clear he
        go_wp2_with fail
        exact ⟨⟨q + 1, so, rfl, by go_num, by omega, by rw [Hnx.out]; exact HN, by rw [Hnx.out]; exact Hso⟩, by simp [natV]; omega⟩
      · have heb : (t.e.toList == e.toList) = false := by
          rw [beq_eq_false_iff_ne]
          intro k
          rw [Lib.toList_data, Lib.toList_data] at k
          exact he (ba_inj k)
        have heb2 : (t.e.toList != e.toList) = true := by
          rw [bne_iff_ne]
          exact beq_eq_false_iff_ne.1 heb
        have Hnx : Hid (takeT (r.ts.take (q + 1)) e = takeT (r.ts.take q) e ++ [t]) := hid (by
          rw [Htk.out, takeT_app]
          have : takeT [t] e = [t] := by unfold takeT; simp [he]
          rw [this])
        obtain ⟨s2, w2, hrun, n2, l2, a2⟩ := app_tag HN.out t (by have := Hle.out; omega)
        have HR := hid hrun
        have HN2 := hid n2
        have Hs2 : Hid (s2.n = (takeT (r.ts.take (q + 1)) e).length) := hid (by rw [l2, Hnx.out, List.length_append, Hso.out]; rfl)
        clear he hrun n2 l2 a2
        go_wp2_with (refine wpList_append3 rfl _ _ 61 rfl _ _ rfl rfl (.slice s2.p s2.n s2.c) w2 HR.out ?_)
        exact ⟨⟨q + 1, s2, rfl, by go_num, by omega, by rw [Hnx.out]; exact HN2, Hs2⟩, by simp [natV]; omega⟩
    · have hlti : ¬ ((q : Nat) : Int) < ((n : Nat) : Int) := by omega
      have He : Hid (r.ts.take q = r.ts) := hid (List.take_of_length_le (by have := Hn.out; omega))
      rw [He.out] at HN Hso
      have Hf : Hid (wt.frozen? ⟨O, 25, none⟩ = false) := hid (frozen_of_row _ _ _ _ _ HDt.out.dv.blk)
      have hf := Hf.out
      have HDn := hid (HDt.out.put HN.out Hso.out)
      have HAn : Hid (Apart [O] w (wt.setCell ⟨O, 25, none⟩ (.slice so.p so.n so.c))) := hid (((HN.out.ap).mono (by simp)).setCell (.inl (by simp)) _)
      have HNn : Hid ((wt.setCell ⟨O, 25, none⟩ (.slice so.p so.n so.c)).ownsRow 0 96 3 so.v so.n (tgL (takeT r.ts e))) := hid (own_apart HN.out.own ((Apart.refl [O] wt).setCell (.inl (by simp)) _) (fun k hk hm => by
        have h1 := HN.out.new k hk
        have h2 := List.mem_singleton.1 hm
        omega))
      go_wp2_with fail
      go_end0
      exact ⟨rfl, HAn.out, so, HDn.out, HNn.out, HN.out.new, Hso.out⟩
end Go.Proofs.YtdbeeikjngnnnaaGreat.ty
namespace Go.Proofs.YtdbeeikjngnnnaaGreat.ty
open Go.ChangeShapes Go.WideShapes Go.ChangeAt Go.RowKit
set_option linter.unusedVariables false
set_option linter.unusedSimpArgs false
def z63 : Array Value := #[.int .i64 0, .int .i64 0, .int .i64 0, .int .i64 0, .int .i64 0, .int .i64 0, .int .i64 0, .int .i64 0, .int .i64 0, .int .i64 0, .int .i64 0, .int .i64 0, .int .i64 0, .int .i64 0, .int .i64 0, .int .i64 0, .int .i64 0, .int .i64 0, .int .i64 0, .int .i64 0, .int .i64 0, .int .i64 0, .int .i64 0, .int .i64 0, .int .i64 0, .slice none 0 0, .int .i64 0, .int .i64 0, .string ⟨#[]⟩]
theorem size63 : (Tryz.prog.info? 63).map (·.size) = some 29 := by kernel_rfl
theorem dC_len {r : Rv} {s : Sl} (lu : r.u.length = 8) (ld : r.d.length = 8) (lc : r.c.length = 8) : (dCells r s).length = 29 := by
  simp only [dCells, List.length_cons, List.length_append, rv_len, lu, ld, lc, List.length_nil]
theorem dC_all {r : Rv} {s : Sl} : (dCells r s).toArray.all Value.oneCell' = true := by
  refine all_oneCell_toArray fun u hu => ?_
  unfold dCells at hu
  rcases List.mem_cons.1 hu with rfl | hu
  · rfl
  rcases List.mem_append.1 hu with hu | hu
  · exact rv_one _ u hu
  rcases List.mem_append.1 hu with hu | hu
  · exact rv_one _ u hu
  rcases List.mem_append.1 hu with hu | hu
  · exact rv_one _ u hu
  simp only [List.mem_cons, List.not_mem_nil, or_false] at hu
  rcases hu with rfl | rfl | rfl | rfl <;> rfl
theorem Dk.copy {w w' : World} {O X : Nat} {r : Rv} {s : Sl} (h : Dk w O r s) (a : Apart [] w w') (hb : w'.heap[X]? = some (.cells (dCells r s).toArray 63 (0, 0))) : Dk w' X r s := by
  have k := h.kept0 a
  exact ⟨⟨hb, k.dv.rd, k.dv.len, k.dv.ok, k.dv.lu, k.dv.ld, k.dv.lc⟩, k.tag⟩
set_option maxRecDepth 100000 in
theorem rput_arg {w : World} {O : Nat} {i : Int} {e : ByteArray} (he : isE e.size = false) : Calls Tryz.prog 51 #[.pointer (some ⟨O, 0, none⟩), .int .i64 i, .string e] w fun x w' => x = .returned (.int .i64 1) ∧ Apart [] w w' := by
  have h : ((e.size : Nat) : Int) < 1 ∨ (¬ ((e.size : Nat) : Int) < 1 ∧ ((e.size : Nat) : Int) > 8) := by
    have := isE_iff e.size
    rw [he] at this
    simp at this
    omega
  have HA := hid (Apart.refl [] w)
  clear he
  go_enter Tryz.func51, Tryz.ntmps51
  rcases h with h | ⟨h, h'⟩
  · go_wp2_with fail
    go_ret
    exact ⟨rfl, HA.out⟩
  · go_wp2_with fail
    go_ret
    exact ⟨rfl, HA.out⟩
set_option maxRecDepth 100000 in
theorem rput_full {w : World} {O : Nat} {r : Rv} {s : Sl} (h : Dk w O r s) {i : Nat} (hi : i < 8) {e : ByteArray} (he : isE e.size = true) (hx : r.c.getD i 0 ≥ 65535) : Calls Tryz.prog 51 #[.pointer (some ⟨O, 0, none⟩), .int .i64 (i : Int), .string e] w fun x w' => x = .returned (.int .i64 92) ∧ Apart [] w w' := by
  have h1 := (isE_iff e.size).1 he
  have h2 : ¬ ((e.size : Nat) : Int) < 1 := by omega
  have h3 : ¬ ((e.size : Nat) : Int) > 8 := by omega
  have h8 : ¬ (8 : Int) ≤ (i : Int) := by omega
  have HA := hid (Apart.refl [] w)
  have zc := h.dv.count hi
  obtain ⟨x, Hx⟩ : ∃ x, Hid (x = r.c.getD i 0) := ⟨_, hid rfl⟩
  rw [← Hx.out] at hx zc
  clear he h1 h
  go_enter Tryz.func51, Tryz.ntmps51
  go_wp2_with fail
  go_ret
  exact ⟨rfl, HA.out⟩
theorem build96 (e : ByteArray) (a b : Int) (W : World) : (Instr.build 96 #[(0, .string e), (1, .int .i64 a), (2, .int .i64 b)]).run Tryz.prog W = .ok (.agg #[.string e, .int .i64 a, .int .i64 b]) W := by kernel_rfl
theorem ex_build96 {W : World} {eval : Operand → Value} {op : Oper} {e : ByteArray} {a b : Int} (x y z : Operand) (ho : op.op = .build 96 #[(0, x), (1, y), (2, z)]) (hx : eval x = .string e) (hy : eval y = .int .i64 a) (hz : eval z = .int .i64 b) : (execOp eval op).run Tryz.prog W = .ok (.value (.agg #[.string e, .int .i64 a, .int .i64 b])) W := by
  unfold execOp
  have e1 : (#[(0, x), (1, y), (2, z)] : Array (Nat × Operand)).map (fun (i, x) => (i, eval x)) = #[(0, .string e), (1, .int .i64 a), (2, .int .i64 b)] := by simp [hx, hy, hz]
  simp only [ho, e1, Sem.run_bind, build96 e a b W, Sem.run_pure, Result.andThen_ok]
/-- the block has this form, with some tags in it -/
def Sx (r : Rv) (X : Nat) (W : World) : Prop := ∃ sx, W.heap[X]? = some (.cells (dCells r sx).toArray 63 (0, 0))
theorem cellC {W : World} {X : Nat} {r : Rv} {sx : Sl} (hb : W.heap[X]? = some (.cells (dCells r sx).toArray 63 (0, 0))) (hl : r.u.length = 8 ∧ r.d.length = 8 ∧ r.c.length = 8) {i : Nat} (hi : i < 8) : W.cell? ⟨X, 17 + i, none⟩ = some (.int .i64 (r.c.getD i 0)) := by
  refine dcell hb ?_
  unfold dCells
  rw [show 17 + i = (8 + (8 + i)) + 1 by omega, List.getElem?_cons_succ, List.getElem?_append_right (by rw [rv_len, hl.1]; omega), rv_len, hl.1, Nat.add_sub_cancel_left, List.getElem?_append_right (by rw [rv_len, hl.2.1]; omega), rv_len, hl.2.1, Nat.add_sub_cancel_left, List.getElem?_append_left (by rw [rv_len, hl.2.2]; exact hi)]
  exact rv_at _ _ (by rw [hl.2.2]; exact hi)
theorem cell25 {W : World} {X : Nat} {r : Rv} {sx : Sl} (hb : W.heap[X]? = some (.cells (dCells r sx).toArray 63 (0, 0))) (hl : r.u.length = 8 ∧ r.d.length = 8 ∧ r.c.length = 8) : W.cell? ⟨X, 25, none⟩ = some (.slice sx.p sx.n sx.c) := by
  refine dcell hb ?_
  unfold dCells
  rw [List.getElem?_cons_succ, List.getElem?_append_right (by rw [rv_len, hl.1]; omega), rv_len, hl.1, List.getElem?_append_right (by rw [rv_len, hl.2.1]; omega), rv_len, hl.2.1, List.getElem?_append_right (by rw [rv_len, hl.2.2]; omega), rv_len, hl.2.2]
  rfl
/-- new tags stored, the old ones being whatever -/
theorem Dk.put2 {wB w : World} {O : Nat} {r : Rv} {s so : Sl} {ts : List Tg} (hb : w.heap[O]? = some (.cells (dCells r s).toArray 63 (0, 0))) (hl : r.u.length = 8 ∧ r.d.length = 8 ∧ r.c.length = 8) (n : Nw wB w 96 3 so (tgL ts)) (hs : so.n = ts.length) : Dk (w.setCell ⟨O, 25, none⟩ (.slice so.p so.n so.c)) O { r with ts := ts } so := by
  have hb' : w.heap[O]? = some (.cells (dCells { r with ts := [] } s).toArray 63 (0, 0)) := hb
  have hb2 : (w.setCell ⟨O, 25, none⟩ (.slice so.p so.n so.c)).heap[O]? = some (.cells (dCells { r with ts := ts } so).toArray 63 (0, 0)) := by
    have h1 := heap_setCell_same w O 25 _ 63 (.slice so.p so.n so.c) hb
    have h2 := dset_rest (r := r) (s := s) hl.1 hl.2.1 hl.2.2 0 (.slice so.p so.n so.c)
    rw [Nat.add_zero] at h2
    rw [List.setIfInBounds_toArray, h2] at h1
    exact h1
  have ha : Apart [O] w (w.setCell ⟨O, 25, none⟩ (.slice so.p so.n so.c)) := (Apart.refl [O] w).setCell (.inl (by simp)) _
  have hown : (w.setCell ⟨O, 25, none⟩ (.slice so.p so.n so.c)).ownsRow 0 96 3 so.v so.n (tgL ts) := own_apart n.own ha (fun k hk hm => by
    obtain ⟨cur, e⟩ := own_typ n.own hk
    rw [List.mem_singleton.1 hm, hb] at e
    simp at e)
  refine ⟨⟨hb2, Rd.own hown, hs, n.ok, hl.1, hl.2.1, hl.2.2⟩, fun h0 => ?_⟩
  obtain ⟨P, o, hp, hP, -⟩ := Rd.own hown (by rw [tgL_len]; have : 0 < ts.length := h0; omega)
  obtain ⟨cur, e⟩ := own_typ hown (k := P) (by rw [Sl.v, hp]; rfl)
  exact ⟨P, o, cur, hp, e⟩
/-- a value copied over another one -/
theorem Dk.put3 {w : World} {X O : Nat} {r : Rv} {s : Sl} {old : Array Value} (h : Dk w X r s) (hO : w.heap[O]? = some (.cells old 63 (0, 0))) : Dk (w.setRow O (dCells r s).toArray) O r s := by
  have hb := setRow_heap w O old (dCells r s).toArray 63 (0, 0) hO
  have ha := apart_setRow w O (dCells r s).toArray
  have hX : ∀ k ∈ [O], ∀ cur, w.heap[k]? ≠ some (.cells cur 96 (0, 0)) := fun k hk cur e => by
    rw [List.mem_singleton.1 hk, hO] at e
    simp at e
  refine ⟨⟨hb, ?_, h.dv.len, h.dv.ok, h.dv.lu, h.dv.ld, h.dv.lc⟩, fun h0 => ?_⟩
  · by_cases h0 : 0 < r.ts.length
    · obtain ⟨A, o, cur, h1, h3⟩ := h.tag h0
      refine h.dv.rd.kept ha (fun P o' hp hm => ?_)
      rw [h1] at hp
      simp only [Option.some.injEq, Addr.mk.injEq] at hp
      exact hX P hm cur (by rw [← hp.1]; exact h3)
    · have e : r.ts = [] := List.length_eq_zero_iff.1 (by omega)
      rw [e]
      exact Rd.nil _ _
  · obtain ⟨A, o, cur, h1, h3⟩ := h.tag h0
    exact ⟨A, o, cur, h1, (ha.block _ (lt_of_heap h3) (fun hm => hX A hm cur h3)).trans h3⟩
/-- what put makes, ahead of the test of its width -/
def putD (r : Rv) (i : Nat) (e : ByteArray) : Rv := { r with c := r.c.set i (r.c.getD i 0 + 1), ts := takeT r.ts e ++ [⟨e, i, (r.c.getD i 0).toNat + 1⟩] }
end Go.Proofs.YtdbeeikjngnnnaaGreat.ty
namespace Go.Proofs.YtdbeeikjngnnnaaGreat.ty
open Go.ChangeShapes Go.WideShapes Go.ChangeAt Go.RowKit
set_option linter.unusedVariables false
set_option linter.unusedSimpArgs false
theorem spl_mid (A B B' C : List Value) (h : B'.length = B.length) : spl (A ++ (B ++ C)).toArray A.length B' = (A ++ (B' ++ C)).toArray := by
  rw [spl_list _ _ _ (by simp only [List.length_append]; omega)]
  have e1 : (A ++ (B ++ C)).take A.length = A := by simp
  have e2 : (A ++ (B ++ C)).drop (A.length + B'.length) = C := by
    rw [h, ← List.append_assoc]
    have : A.length + B.length = (A ++ B).length := by simp
    rw [this, List.drop_left]
  rw [e1, e2, List.append_assoc]
theorem Dk.rowU {w : World} {O : Nat} {r : Rv} {s : Sl} (h : Dk w O r s) {u : List Int} (hu : u.length = 8) : Dk (w.setCells O 1 (rv u)) O { r with u := u } s := by
  refine h.wr (apart_setCells w O (rv u) 1) ?_ rfl hu h.dv.ld h.dv.lc
  rw [heap_setCells_same _ _ _ _ h.dv.blk]
  have := spl_mid [.int .i64 (r.k : Int)] (rv r.u) (rv u) (rv r.d ++ (rv r.c ++ [.slice s.p s.n s.c, .int .i64 r.st, .int .i64 r.ac, .string r.tx])) (by rw [rv_len, rv_len, hu, h.dv.lu])
  exact congrArg (fun x => some (Obj.cells x 63 (0, 0))) this
theorem Dk.rowDn {w : World} {O : Nat} {r : Rv} {s : Sl} (h : Dk w O r s) {u : List Int} (hu : u.length = 8) : Dk (w.setCells O 9 (rv u)) O { r with d := u } s := by
  refine h.wr (apart_setCells w O (rv u) 9) ?_ rfl h.dv.lu hu h.dv.lc
  rw [heap_setCells_same _ _ _ _ h.dv.blk]
  have := spl_mid (.int .i64 (r.k : Int) :: rv r.u) (rv r.d) (rv u) (rv r.c ++ [.slice s.p s.n s.c, .int .i64 r.st, .int .i64 r.ac, .string r.tx]) (by rw [rv_len, rv_len, hu, h.dv.ld])
  rw [List.length_cons, rv_len, h.dv.lu] at this
  exact congrArg (fun x => some (Obj.cells x 63 (0, 0))) this
theorem Dk.rowC {w : World} {O : Nat} {r : Rv} {s : Sl} (h : Dk w O r s) {u : List Int} (hu : u.length = 8) : Dk (w.setCells O 17 (rv u)) O { r with c := u } s := by
  refine h.wr (apart_setCells w O (rv u) 17) ?_ rfl h.dv.lu h.dv.ld hu
  rw [heap_setCells_same _ _ _ _ h.dv.blk]
  have := spl_mid (.int .i64 (r.k : Int) :: (rv r.u ++ rv r.d)) (rv r.c) (rv u) [.slice s.p s.n s.c, .int .i64 r.st, .int .i64 r.ac, .string r.tx] (by rw [rv_len, rv_len, hu, h.dv.lc])
  rw [List.length_cons, List.length_append, rv_len, rv_len, h.dv.lu, h.dv.ld] at this
  have e : (.int .i64 (r.k : Int) :: (rv r.u ++ rv r.d)) ++ (rv r.c ++ [.slice s.p s.n s.c, .int .i64 r.st, .int .i64 r.ac, .string r.tx]) = dCells r s := by
    unfold dCells; simp
  have e2 : (.int .i64 (r.k : Int) :: (rv r.u ++ rv r.d)) ++ (rv u ++ [.slice s.p s.n s.c, .int .i64 r.st, .int .i64 r.ac, .string r.tx]) = dCells { r with c := u } s := by
    unfold dCells; simp
  rw [e, e2] at this
  exact congrArg (fun x => some (Obj.cells x 63 (0, 0))) this
theorem dk_there {w : World} {O : Nat} {r : Rv} {s : Sl} (h : Dk w O r s) (o n : Nat) (hn : o + n ≤ 29) : w.there O o n := there_of h.dv.blk o n (by rw [List.size_toArray, dC_len h.dv.lu h.dv.ld h.dv.lc]; exact hn)
/-- what the document's Read tells -/
structure RdY (w : World) (k : Nat) (bs : List Nat) (x : Ending) (w' : World) : Prop where
  ok : rdOk k bs = true
  out : ∃ V s' ts, x = .returned (.tuple #[.pointer (some ⟨V, 0, none⟩), .int .i64 0]) ∧ w.heap.size ≤ V ∧ Dk w' V (rvO (readV k bs) ts) s' ∧ Rl (readV k bs) ts
  ap : Apart [] w w'
structure RdN (w : World) (k : Nat) (bs : List Nat) (x : Ending) (w' : World) : Prop where
  no : rdOk k bs = false
  eq : x = .returned (.tuple #[.pointer none, .int .i64 190])
  ap : Apart [] w w'
def RdP (w : World) (k : Nat) (bs : List Nat) (x : Ending) (w' : World) : Prop := RdY w k bs x w' ∨ RdN w k bs x w'
theorem build134 (p : Option Addr) (n c : Nat) (W : World) : (Instr.build 134 #[(0, .slice p n c)]).run Tryz.prog W = .ok (.agg #[.slice p n c, .int .i64 0, .bool false]) W := by kernel_rfl
theorem ex_build134 {W : World} {eval : Operand → Value} {op : Oper} {p : Option Addr} {n c : Nat} (x : Operand) (ho : op.op = .build 134 #[(0, x)]) (hx : eval x = .slice p n c) : (execOp eval op).run Tryz.prog W = .ok (.value (.agg #[.slice p n c, .int .i64 0, .bool false])) W := by
  unfold execOp
  have e1 : (#[(0, x)] : Array (Nat × Operand)).map (fun (i, x) => (i, eval x)) = #[(0, .slice p n c)] := by simp [hx]
  simp only [ho, e1, Sem.run_bind, build134 p n c W, Sem.run_pure, Result.andThen_ok]
theorem Dr.new' {w w1 : World} {sl : Sl} {bs : List Nat} (h : Gv w sl bs) (hl : bs.length ≤ 64) (a : Apart [] w w1) : Dr w (w1.alloc (.cells #[.slice sl.p sl.n sl.c, .int .i64 0, .bool false] 134)) w1.heap.size sl bs 0 false := ⟨heap_alloc_new w1 _, a.size, a.alloc _, h.rd, h.len, h.ok, h.u8, hl, Nat.zero_le _⟩
theorem formV_head (v : Vl) : ∃ l, formV v = v.kd :: l := by
  cases v using Vl.el with
  | cnt u d => exact ⟨_, rfl⟩
  | set c es => exact ⟨_, rfl⟩
  | flg c g => exact ⟨_, rfl⟩
  | rgs s a t => exact ⟨_, rfl⟩
theorem readV_kd {k : Nat} (h1 : 1 ≤ k) (h4 : k ≤ 4) (bs : List Nat) : (readV k bs).kd = k := by
  obtain rfl | rfl | rfl | rfl : k = 1 ∨ k = 2 ∨ k = 3 ∨ k = 4 := by omega
  all_goals rfl
theorem rdOk_form {k : Nat} {bs : List Nat} (h : rdOk k bs = true) : rightV (readV k bs) = true ∧ formV (readV k bs) = bs := by
  unfold rdOk at h
  simp only [Bool.and_eq_true, decide_eq_true_eq] at h
  exact h
theorem rdOk_head {k : Nat} (h1 : 1 ≤ k) (h4 : k ≤ 4) {bs : List Nat} (h : rdOk k bs = true) : ∃ l, bs = k :: l := by
  obtain ⟨l, hl⟩ := formV_head (readV k bs)
  rw [(rdOk_form h).2, readV_kd h1 h4] at hl
  exact ⟨l, hl⟩
theorem rdOk_no {k : Nat} (h1 : 1 ≤ k) (h4 : k ≤ 4) {bs : List Nat} (h : dnum bs 0 1 ≠ k) : rdOk k bs = false := by
  cases c : rdOk k bs
  · rfl
  · obtain ⟨l, rfl⟩ := rdOk_head h1 h4 c
    exact absurd (drop_head (show (k :: l).drop 0 = k :: l from rfl)).2.1 h
theorem dnum_head {k : Nat} (h1 : 1 ≤ k) {bs : List Nat} (h : dnum bs 0 1 = k) : dbad bs 0 1 = false ∧ dat bs 0 1 = 1 ∧ ∃ l, bs = k :: l := by
  cases bs with
  | nil => simp [dnum] at h; omega
  | cons x l =>
    obtain ⟨d1, d2, d3⟩ := drop_head (show (x :: l).drop 0 = x :: l from rfl)
    rw [d2] at h
    subst h
    exact ⟨d1, by unfold dat; rw [if_pos (by simp)], l, rfl⟩
set_option maxRecDepth 100000 in
theorem dRead_long {w : World} {k : Nat} (h1 : 1 ≤ k) (h4 : k ≤ 4) (p : Option Addr) (n c : Nat) (hn : ((n : Nat) : Int) > 64) : Calls Tryz.prog 46 #[.int .i64 (k : Int), .slice p n c] w fun x w' => x = .returned (.tuple #[.pointer none, .int .i64 2]) ∧ Apart [] w w' := by
  have HN := hid (rnew_ok w k h1 h4)
  clear h1 h4
  go_enter Tryz.func46, Tryz.ntmps46
  go_wp2_with (go_at_call 19; refine HN.out.mono ?_; rintro _ wn ⟨V, rfl, hV, dV, aV⟩; have HA := hid aV; clear aV dV hV)
  go_ret2
  exact ⟨rfl, HA.out⟩
end Go.Proofs.YtdbeeikjngnnnaaGreat.ty
