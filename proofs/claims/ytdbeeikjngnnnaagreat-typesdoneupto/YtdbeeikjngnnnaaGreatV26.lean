import Derived.Test.YtdbeeikjngnnnaaGreatChecked
import Derived.WalkKit
import Derived.ProofKit
import Derived.OpenShut
import Derived.Deep.QuietTactic
import Derived.BigQuiet
import Derived.BigRegion
import Derived.Laws.CopyOwn
import Derived.Laws.IdiomCopy
import Derived.WalkSmall
import Derived.Laws.ResultCell
import Derived.Laws.AppendOwnNone
import Derived.Deep.RegionHeld
import Derived.Deep.DeepAppendRoom
import Derived.Great.BuildSlice
import Derived.Deep.CutBlock
import Derived.Deep.RegionLaw
import Derived.ArgAppend
import Derived.Laws.Strings
import Derived.Laws.StructEq
import Derived.Below
import Derived.Deep.MidRow
import Derived.Great.Ranges
import Derived.Deep.RegionHeld3
import Derived.Laws.NewBlocks
import Derived.OrdersHeld
import Derived.Stop.BytesEq
import Derived.Laws.BytesString
import Derived.Lib.ConvBytes
import Derived.Laws.BitsAllLaws
import Derived.WalkLawsBesides
import Derived.Lib.Bytealg
import Derived.Laws.Externs
import Derived.Lib.SliceRun
import Derived.Lib.AppendZerosOnto
import Derived.Lib.AppendStr
import Derived.Lib.SlBytesConst
import Derived.Sort.Walk0
import Derived.Laws.Cover1
import Derived.Lib.Strings
import Derived.Lib.MinMaxS
import GoSem.Claim
import GoSem.ClaimJoined
import GoSem.ClaimMapViews
import Derived.JoinedTies
import Derived.KernelRfl
import Derived.JoinedCond
import Derived.ShutString
import Derived.ChangeOld
import Derived.Carry
import Derived.ChangeSlices
import Derived.Deep.Slices
import Derived.Deep.DeepHandedRow
import Derived.RowKit
import Derived.ChangeShapes
import Derived.SizedLaws
import Derived.ChangeMaps5
import Derived.Sort.WalkA
import Derived.Test.YtdbeeikjngnnnaaGreatRows
import Derived.Test.YtdbeeikjngnnnaaGreatV24
namespace Go.Proofs.YtdbeeikjngnnnaaGreat.ty
open Go.ChangeShapes Go.WideShapes Go.ChangeAt Go.RowKit
set_option linter.unusedVariables false
set_option linter.unusedSimpArgs false
def z63 : Array Value := #[.int .i64 0, .int .i64 0, .int .i64 0, .int .i64 0, .int .i64 0, .int .i64 0, .int .i64 0, .int .i64 0, .int .i64 0, .int .i64 0, .int .i64 0, .int .i64 0, .int .i64 0, .int .i64 0, .int .i64 0, .int .i64 0, .int .i64 0, .int .i64 0, .int .i64 0, .int .i64 0, .int .i64 0, .int .i64 0, .int .i64 0, .int .i64 0, .int .i64 0, .slice none 0 0, .int .i64 0, .int .i64 0, .string ⟨#[]⟩]
theorem size63 : (Tryz.prog.info? 63).map (·.size) = some 29 := by kernel_rfl
theorem dC_len {r : Rv} {s : Sl} (lu : r.u.length = 8) (ld : r.d.length = 8) (lc : r.c.length = 8) : (dCells r s).length = 29 := by
  simp only [dCells, List.length_cons, List.length_append, rv_len, lu, ld, lc, List.length_nil]
theorem dC_all {r : Rv} {s : Sl} : (dCells r s).toArray.all Value.oneCell' = true := by
  refine all_oneCell_toArray fun u hu => ?_
  unfold dCells at hu
  rcases List.mem_cons.1 hu with rfl | hu
  · rfl
  rcases List.mem_append.1 hu with hu | hu
  · exact rv_one _ u hu
  rcases List.mem_append.1 hu with hu | hu
  · exact rv_one _ u hu
  rcases List.mem_append.1 hu with hu | hu
  · exact rv_one _ u hu
  simp only [List.mem_cons, List.not_mem_nil, or_false] at hu
  rcases hu with rfl | rfl | rfl | rfl <;> rfl
theorem Dk.copy {w w' : World} {O X : Nat} {r : Rv} {s : Sl} (h : Dk w O r s) (a : Apart [] w w') (hb : w'.heap[X]? = some (.cells (dCells r s).toArray 63 (0, 0))) : Dk w' X r s := by
  have k := h.kept0 a
  exact ⟨⟨hb, k.dv.rd, k.dv.len, k.dv.ok, k.dv.lu, k.dv.ld, k.dv.lc⟩, k.tag⟩
set_option maxRecDepth 100000 in
theorem rput_arg {w : World} {O : Nat} {i : Int} {e : ByteArray} (he : isE e.size = false) : Calls Tryz.prog 51 #[.pointer (some ⟨O, 0, none⟩), .int .i64 i, .string e] w fun x w' => x = .returned (.int .i64 1) ∧ Apart [] w w' := by
  have h : ((e.size : Nat) : Int) < 1 ∨ (¬ ((e.size : Nat) : Int) < 1 ∧ ((e.size : Nat) : Int) > 8) := by
    have := isE_iff e.size
    rw [he] at this
    simp at this
    omega
  have HA := hid (Apart.refl [] w)
  clear he
  go_enter Tryz.func51, Tryz.ntmps51
  rcases h with h | ⟨h, h'⟩
  · go_wp2_with fail
    go_ret
    exact ⟨rfl, HA.out⟩
  · go_wp2_with fail
    go_ret
    exact ⟨rfl, HA.out⟩
set_option maxRecDepth 100000 in
theorem rput_full {w : World} {O : Nat} {r : Rv} {s : Sl} (h : Dk w O r s) {i : Nat} (hi : i < 8) {e : ByteArray} (he : isE e.size = true) (hx : r.c.getD i 0 ≥ 65535) : Calls Tryz.prog 51 #[.pointer (some ⟨O, 0, none⟩), .int .i64 (i : Int), .string e] w fun x w' => x = .returned (.int .i64 92) ∧ Apart [] w w' := by
  have h1 := (isE_iff e.size).1 he
  have h2 : ¬ ((e.size : Nat) : Int) < 1 := by omega
  have h3 : ¬ ((e.size : Nat) : Int) > 8 := by omega
  have h8 : ¬ (8 : Int) ≤ (i : Int) := by omega
  have HA := hid (Apart.refl [] w)
  have zc := h.dv.count hi
  obtain ⟨x, Hx⟩ : ∃ x, Hid (x = r.c.getD i 0) := ⟨_, hid rfl⟩
  rw [← Hx.out] at hx zc
  clear he h1 h
  go_enter Tryz.func51, Tryz.ntmps51
  go_wp2_with fail
  go_ret
  exact ⟨rfl, HA.out⟩
theorem build96 (e : ByteArray) (a b : Int) (W : World) : (Instr.build 96 #[(0, .string e), (1, .int .i64 a), (2, .int .i64 b)]).run Tryz.prog W = .ok (.agg #[.string e, .int .i64 a, .int .i64 b]) W := by kernel_rfl
theorem ex_build96 {W : World} {eval : Operand → Value} {op : Oper} {e : ByteArray} {a b : Int} (x y z : Operand) (ho : op.op = .build 96 #[(0, x), (1, y), (2, z)]) (hx : eval x = .string e) (hy : eval y = .int .i64 a) (hz : eval z = .int .i64 b) : (execOp eval op).run Tryz.prog W = .ok (.value (.agg #[.string e, .int .i64 a, .int .i64 b])) W := by
  unfold execOp
  have e1 : (#[(0, x), (1, y), (2, z)] : Array (Nat × Operand)).map (fun (i, x) => (i, eval x)) = #[(0, .string e), (1, .int .i64 a), (2, .int .i64 b)] := by simp [hx, hy, hz]
  simp only [ho, e1, Sem.run_bind, build96 e a b W, Sem.run_pure, Result.andThen_ok]
/-- the block has this form, with some tags in it -/
def Sx (r : Rv) (X : Nat) (W : World) : Prop := ∃ sx, W.heap[X]? = some (.cells (dCells r sx).toArray 63 (0, 0))
theorem cellC {W : World} {X : Nat} {r : Rv} {sx : Sl} (hb : W.heap[X]? = some (.cells (dCells r sx).toArray 63 (0, 0))) (hl : r.u.length = 8 ∧ r.d.length = 8 ∧ r.c.length = 8) {i : Nat} (hi : i < 8) : W.cell? ⟨X, 17 + i, none⟩ = some (.int .i64 (r.c.getD i 0)) := by
  refine dcell hb ?_
  unfold dCells
  rw [show 17 + i = (8 + (8 + i)) + 1 by omega, List.getElem?_cons_succ, List.getElem?_append_right (by rw [rv_len, hl.1]; omega), rv_len, hl.1, Nat.add_sub_cancel_left, List.getElem?_append_right (by rw [rv_len, hl.2.1]; omega), rv_len, hl.2.1, Nat.add_sub_cancel_left, List.getElem?_append_left (by rw [rv_len, hl.2.2]; exact hi)]
  exact rv_at _ _ (by rw [hl.2.2]; exact hi)
theorem cell25 {W : World} {X : Nat} {r : Rv} {sx : Sl} (hb : W.heap[X]? = some (.cells (dCells r sx).toArray 63 (0, 0))) (hl : r.u.length = 8 ∧ r.d.length = 8 ∧ r.c.length = 8) : W.cell? ⟨X, 25, none⟩ = some (.slice sx.p sx.n sx.c) := by
  refine dcell hb ?_
  unfold dCells
  rw [List.getElem?_cons_succ, List.getElem?_append_right (by rw [rv_len, hl.1]; omega), rv_len, hl.1, List.getElem?_append_right (by rw [rv_len, hl.2.1]; omega), rv_len, hl.2.1, List.getElem?_append_right (by rw [rv_len, hl.2.2]; omega), rv_len, hl.2.2]
  rfl
/-- new tags stored, the old ones being whatever -/
theorem Dk.put2 {wB w : World} {O : Nat} {r : Rv} {s so : Sl} {ts : List Tg} (hb : w.heap[O]? = some (.cells (dCells r s).toArray 63 (0, 0))) (hl : r.u.length = 8 ∧ r.d.length = 8 ∧ r.c.length = 8) (n : Nw wB w 96 3 so (tgL ts)) (hs : so.n = ts.length) : Dk (w.setCell ⟨O, 25, none⟩ (.slice so.p so.n so.c)) O { r with ts := ts } so := by
  have hb' : w.heap[O]? = some (.cells (dCells { r with ts := [] } s).toArray 63 (0, 0)) := hb
  have hb2 : (w.setCell ⟨O, 25, none⟩ (.slice so.p so.n so.c)).heap[O]? = some (.cells (dCells { r with ts := ts } so).toArray 63 (0, 0)) := by
    have h1 := heap_setCell_same w O 25 _ 63 (.slice so.p so.n so.c) hb
    have h2 := dset_rest (r := r) (s := s) hl.1 hl.2.1 hl.2.2 0 (.slice so.p so.n so.c)
    rw [Nat.add_zero] at h2
    rw [List.setIfInBounds_toArray, h2] at h1
    exact h1
  have ha : Apart [O] w (w.setCell ⟨O, 25, none⟩ (.slice so.p so.n so.c)) := (Apart.refl [O] w).setCell (.inl (by simp)) _
  have hown : (w.setCell ⟨O, 25, none⟩ (.slice so.p so.n so.c)).ownsRow 0 96 3 so.v so.n (tgL ts) := own_apart n.own ha (fun k hk hm => by
    obtain ⟨cur, e⟩ := own_typ n.own hk
    rw [List.mem_singleton.1 hm, hb] at e
    simp at e)
  refine ⟨⟨hb2, Rd.own hown, hs, n.ok, hl.1, hl.2.1, hl.2.2⟩, fun h0 => ?_⟩
  obtain ⟨P, o, hp, hP, -⟩ := Rd.own hown (by rw [tgL_len]; have : 0 < ts.length := h0; omega)
  obtain ⟨cur, e⟩ := own_typ hown (k := P) (by rw [Sl.v, hp]; rfl)
  exact ⟨P, o, cur, hp, e⟩
/-- a value copied over another one -/
theorem Dk.put3 {w : World} {X O : Nat} {r : Rv} {s : Sl} {old : Array Value} (h : Dk w X r s) (hO : w.heap[O]? = some (.cells old 63 (0, 0))) : Dk (w.setRow O (dCells r s).toArray) O r s := by
  have hb := setRow_heap w O old (dCells r s).toArray 63 (0, 0) hO
  have ha := apart_setRow w O (dCells r s).toArray
  have hX : ∀ k ∈ [O], ∀ cur, w.heap[k]? ≠ some (.cells cur 96 (0, 0)) := fun k hk cur e => by
    rw [List.mem_singleton.1 hk, hO] at e
    simp at e
  refine ⟨⟨hb, ?_, h.dv.len, h.dv.ok, h.dv.lu, h.dv.ld, h.dv.lc⟩, fun h0 => ?_⟩
  · by_cases h0 : 0 < r.ts.length
    · obtain ⟨A, o, cur, h1, h3⟩ := h.tag h0
      refine h.dv.rd.kept ha (fun P o' hp hm => ?_)
      rw [h1] at hp
      simp only [Option.some.injEq, Addr.mk.injEq] at hp
      exact hX P hm cur (by rw [← hp.1]; exact h3)
    · have e : r.ts = [] := List.length_eq_zero_iff.1 (by omega)
      rw [e]
      exact Rd.nil _ _
  · obtain ⟨A, o, cur, h1, h3⟩ := h.tag h0
    exact ⟨A, o, cur, h1, (ha.block _ (lt_of_heap h3) (fun hm => hX A hm cur h3)).trans h3⟩
/-- what put makes, ahead of the test of its width -/
def putD (r : Rv) (i : Nat) (e : ByteArray) : Rv := { r with c := r.c.set i (r.c.getD i 0 + 1), ts := takeT r.ts e ++ [⟨e, i, (r.c.getD i 0).toNat + 1⟩] }
end Go.Proofs.YtdbeeikjngnnnaaGreat.ty
