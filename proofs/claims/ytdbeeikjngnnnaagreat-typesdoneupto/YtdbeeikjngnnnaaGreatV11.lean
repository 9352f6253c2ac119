import Derived.Test.YtdbeeikjngnnnaaGreatChecked
import Derived.WalkKit
import Derived.ProofKit
import Derived.OpenShut
import Derived.Deep.QuietTactic
import Derived.BigQuiet
import Derived.BigRegion
import Derived.Laws.CopyOwn
import Derived.Laws.IdiomCopy
import Derived.WalkSmall
import Derived.Laws.ResultCell
import Derived.Laws.AppendOwnNone
import Derived.Deep.RegionHeld
import Derived.Deep.DeepAppendRoom
import Derived.Great.BuildSlice
import Derived.Deep.CutBlock
import Derived.Deep.RegionLaw
import Derived.ArgAppend
import Derived.Laws.Strings
import Derived.Laws.StructEq
import Derived.Below
import Derived.Deep.MidRow
import Derived.Great.Ranges
import Derived.Deep.RegionHeld3
import Derived.Laws.NewBlocks
import Derived.OrdersHeld
import Derived.Stop.BytesEq
import Derived.Laws.BytesString
import Derived.Lib.ConvBytes
import Derived.Laws.BitsAllLaws
import Derived.WalkLawsBesides
import Derived.Lib.Bytealg
import Derived.Laws.Externs
import Derived.Lib.SliceRun
import Derived.Lib.AppendZerosOnto
import Derived.Lib.AppendStr
import Derived.Lib.SlBytesConst
import Derived.Sort.Walk0
import Derived.Laws.Cover1
import Derived.Lib.Strings
import Derived.Lib.MinMaxS
import GoSem.Claim
import GoSem.ClaimJoined
import GoSem.ClaimMapViews
import Derived.JoinedTies
import Derived.KernelRfl
import Derived.JoinedCond
import Derived.ShutString
import Derived.ChangeOld
import Derived.Carry
import Derived.ChangeSlices
import Derived.Deep.Slices
import Derived.Deep.DeepHandedRow
import Derived.RowKit
import Derived.ChangeShapes
import Derived.SizedLaws
import Derived.ChangeMaps5
import Derived.Sort.WalkA
import Derived.Test.YtdbeeikjngnnnaaGreatRows
import Derived.Test.YtdbeeikjngnnnaaGreatV10
namespace Go.Proofs.YtdbeeikjngnnnaaGreat.ty
open Go.ChangeShapes Go.WideShapes Go.ChangeAt Go.RowKit
set_option linter.unusedVariables false
set_option linter.unusedSimpArgs false
/-- entries in memory -/
structure Es (w : World) (s : Sl) (es : List En) : Prop where
  rd : RdT w s.p 141 (evs es)
  len : s.n = es.length
  cap : s.n ≤ s.c
  ok : s.ok
  row : ∀ x ∈ es, x.t.length = 8
theorem evs_len : ∀ {es : List En}, (∀ x ∈ es, x.t.length = 8) → (evs es).length = es.length * 9
  | [], _ => rfl
  | x :: r, h => by
    have h1 := evs_len (es := r) (fun y hy => h y (List.mem_cons_of_mem _ hy))
    have h2 := h x (by simp)
    simp only [evs, En.vs, List.length_append, List.length_cons, rv_len, h1, h2]
    omega
theorem evs_app (a b : List En) : evs (a ++ b) = evs a ++ evs b := by
  induction a with
  | nil => rfl
  | cons x r ih => simp [evs, ih, List.append_assoc]
theorem En.vs_len {x : En} (h : x.t.length = 8) : x.vs.length = 9 := by simp [En.vs, rv_len, h]
theorem evs_split {es : List En} {i : Nat} (hi : i < es.length) : evs es = evs (es.take i) ++ (es[i].vs ++ evs (es.drop (i + 1))) := by
  rw [← show evs (es[i] :: es.drop (i + 1)) = es[i].vs ++ evs (es.drop (i + 1)) from rfl, ← evs_app, ← List.drop_eq_getElem_cons hi, List.take_append_drop]
theorem Es.at {w : World} {s : Sl} {es : List En} (h : Es w s es) (i : Nat) (hi : i < es.length) : ∃ P o, s.p = some ⟨P, o, none⟩ ∧ w.rangeAt P (o + i * 9) es[i].vs ∧ P < w.heap.size := by
  have hl := evs_len h.row
  obtain ⟨P, o, e, ⟨cur, m, hb⟩, hc⟩ := h.rd (by omega)
  refine ⟨P, o, e, fun j v hj => ?_, lt_of_heapM hb⟩
  have hx : es[i].vs.length = 9 := En.vs_len (h.row _ (List.getElem_mem hi))
  have hjl : j < 9 := by
    by_cases hc : j < 9
    · exact hc
    · rw [List.getElem?_eq_none (by omega)] at hj; cases hj
  have ht : (evs (es.take i)).length = i * 9 := by
    rw [evs_len (fun x hx => h.row x (List.mem_of_mem_take hx)), List.length_take]
    congr 1; omega
  rw [Nat.add_assoc]
  refine hc _ _ ?_
  rw [evs_split hi, List.getElem?_append_right (by omega), ht, List.getElem?_append_left (by omega)]
  rw [show i * 9 + j - i * 9 = j from by omega]
  exact hj
theorem Es.kept {w w' : World} {s : Sl} {es : List En} {X : List Nat} (h : Es w s es) (a : Apart X w w') (hX : ∀ k ∈ X, ∀ cur m, w.heap[k]? ≠ some (.cells cur 141 m)) : Es w' s es := ⟨h.rd.kept a hX, h.len, h.cap, h.ok, h.row⟩
theorem Es.kept0 {w w' : World} {s : Sl} {es : List En} (h : Es w s es) (a : Apart [] w w') : Es w' s es := h.kept a (by simp)
theorem Es.nil (w : World) : Es w ⟨none, 0, 0⟩ [] := ⟨RdT.nil _ _ _, rfl, Nat.le_refl _, fun _ => ⟨rfl, rfl⟩, by simp⟩
theorem ex_load106 {W : World} {eval : Operand → Value} {op : Oper} (x : Operand) (ho : op.op = .load 141 x) (b o : Nat) (cs : List Value) (hx : eval x = .pointer (some ⟨b, o, none⟩)) (hc : W.rangeAt b o cs) (hl : cs.length = 9) : (execOp eval op).run Tryz.prog W = .ok (.value (.agg cs.toArray)) W := by
  unfold execOp
  simp only [ho, hx, Instr.loadAt, Instr.sureAddr, Sem.run_bind, Sem.run_pure, Result.andThen_ok, run_loadVar_mid W b o 141 cs _ hc Tryz.underlying141 rfl (by rw [size106, hl])]
theorem ex_half {W : World} {eval : Operand → Value} {op : Oper} (x : Operand) (l h m : Nat) (ho : op.op = .binOp .shr 132 x (.const (.int .u64 1)) 132) (hx : eval x = .int .u64 ((l : Int) + (h : Int))) (hk : eval (.const (.int .u64 1)) = .int .u64 1) (hm : ((l : Int) + (h : Int)) / 2 = (m : Int)) : (execOp eval op).run Tryz.prog W = .ok (.value (.int .u64 (m : Int))) W := by
  unfold execOp
  simp only [ho, hx, hk]
  rw [← hm]
  go_simp
theorem wpL_valG {P : Program} {ops : Array Oper} {rest : List Oper} {o : Oper} {a : Act} {w : World} {Q : Exit → Act → World → Prop} (hw : Region.wanted o (yielded ops a.tmps) = true) (v : Value) (h : (execOp a.eval o).run P w = .ok (.value v) w) (hK : wpList P ops Q rest (a.put o.dst v) w) : wpList P ops Q (o :: rest) a w := by
  refine wpList_step fun K hK' => ?_
  rw [if_pos hw]
  unfold Oper.wp
  rw [h]
  exact hK' _ _ hK
/-- what the search has found out -/
structure Fo (es : List En) (x : ByteArray) (k : Nat) : Prop where
  le : k ≤ es.length
  lt : ∀ i (h : i < es.length), i < k → bl es[i].e x = true
  ge : ∀ i (h : i < es.length), k ≤ i → bl es[i].e x = false
def fnd (es : List En) (x : ByteArray) (k : Nat) : Bool := match es[k]? with
  | some y => cb y.e x == 0
  | none => false
theorem so_lt {es : List En} (h : So es) {i j : Nat} (hi : i < es.length) (hj : j < es.length) (hij : i < j) : bl es[i].e es[j].e = true := List.pairwise_iff_getElem.1 h i j hi hj hij
set_option maxHeartbeats 2000000 in
set_option maxRecDepth 100000 in
theorem search_ok {w : World} {s : Sl} {es : List En} (h : Es w s es) (hs : So es) (hn : es.length ≤ 1000000) (x : ByteArray) : Calls Tryz.prog 122 #[.slice s.p s.n s.c, .string x, .func (.func 123) #[] #[]] w fun r w' => ∃ k : Nat, r = .returned (.tuple #[.int .i64 (k : Int), .bool (fnd es x k)]) ∧ Fo es x k ∧ Apart [] w w' := by
  have HE := hid h
  have HS := hid hs
  have HC := hid cel_ok
  obtain ⟨N, HN⟩ : ∃ N, Hid (N = es.length) := ⟨_, hid rfl⟩
  have hNl : N ≤ 1000000 := by rw [HN.out]; exact hn
  have hsn : s.n = N := by rw [HN.out]; exact h.len
  rw [hsn]
  clear h hs hn hsn
  go_enter Tryz.func122, Tryz.ntmps122
  go_wp2_with fail
  go_loopw [9, 10] (fun a b wt => ∃ l h : Nat, a = .int .i64 (l : Nat) ∧ b = .int .i64 (h : Nat) ∧ l ≤ h ∧ h ≤ N ∧ Hid (Apart [] w wt) ∧ Hid (∀ i (hi : i < es.length), i < l → bl es[i].e x = true) ∧ Hid (∀ i (hi : i < es.length), h ≤ i → bl es[i].e x = false)) (fun a b _ => (intOf b).toNat - (intOf a).toNat)
  case atStart => exact ⟨0, N, rfl, rfl, Nat.zero_le _, Nat.le_refl _, hid (Apart.refl _ _), hid (fun i _ h => absurd h (by omega)), hid (fun i hi h => absurd h (by have := HN.out; omega))⟩
  case round =>
    obtain ⟨l, h, rfl, rfl, hlh, hhN, HA, HL, HG⟩ := hrel
    generalize wr = wt at *
    by_cases hlt : l < h
    · have hlti : ((l : Nat) : Int) < ((h : Nat) : Int) := by omega
      obtain ⟨m, hm⟩ : ∃ m, m = (l + h) / 2 := ⟨_, rfl⟩
      have Hml : Hid (m < es.length) := hid (by rw [← HN.out]; omega)
      obtain ⟨P, o, hp, hr, hP⟩ := (HE.out.kept0 HA.out).at m Hml.out
      have HR := hid hr
      have HX : Hid ((es[m]'Hml.out).vs.length = 9) := hid (En.vs_len (HE.out.row _ (List.getElem_mem _)))
      obtain ⟨y, Hy⟩ : ∃ y, Hid (y = es[m]'Hml.out) := ⟨_, hid rfl⟩
      rw [← Hy.out] at HR HX
      have hmm : ((l : Int) + (h : Int)) / 2 = (m : Int) := by omega
      have hmN : m < N := by omega
      have hlm : l ≤ m := by omega
      have hmh : m < h := by omega
      rw [hp]
      clear hr hP hp hm
      by_cases hb : cb y.e x < 0
      · have HBL : Hid (bl (es[m]'Hml.out).e x = true) := hid (by rw [← Hy.out]; exact (cb_lt _ _).1 hb)
        go_wp2_with (first | (refine wpL_val rfl (.int .u64 (m : Int)) (ex_half _ l h m rfl rfl rfl hmm) ?_) | (refine wpL_val rfl (.agg y.vs.toArray) (ex_load106 _ rfl P (o + m * 9) _ (by first | rfl | simp [hmm]) HR.out HX.out) ?_) | (go_at_call 123; refine (HC.out _ y x).mono ?_; rintro _ w2 ⟨rfl, a2⟩; have HA2 := hid (HA.out.trans a2); clear a2))
        refine ⟨⟨m + 1, h, by go_num, rfl, by omega, hhN, HA2, ?_, HG⟩, by simp [intOf]; omega⟩
        unfold Hid
        intro i hi hil
        rcases Nat.lt_or_ge i m with h1 | h1
        · exact bl_trans (so_lt HS.out hi Hml.out h1) HBL.out
        · obtain rfl : i = m := by omega
          exact HBL.out
      · have HBL : Hid (bl (es[m]'Hml.out).e x = false) := hid (by rw [← Hy.out]; exact Bool.eq_false_iff.2 (fun e => hb ((cb_lt _ _).2 e)))
        go_wp2_with (first | (refine wpL_val rfl (.int .u64 (m : Int)) (ex_half _ l h m rfl rfl rfl hmm) ?_) | (refine wpL_val rfl (.agg y.vs.toArray) (ex_load106 _ rfl P (o + m * 9) _ (by first | rfl | simp [hmm]) HR.out HX.out) ?_) | (go_at_call 123; refine (HC.out _ y x).mono ?_; rintro _ w2 ⟨rfl, a2⟩; have HA2 := hid (HA.out.trans a2); clear a2))
        refine ⟨⟨l, m, rfl, rfl, hlm, by omega, HA2, HL, ?_⟩, by simp [intOf]; omega⟩
        unfold Hid
        intro i hi hil
        rcases Nat.lt_or_ge m i with h1 | h1
        · cases hq : bl es[i].e x
          · rfl
          · have := bl_trans (so_lt HS.out Hml.out hi h1) hq
            rw [HBL.out] at this; cases this
        · obtain rfl : i = m := by omega
          exact HBL.out
    · have hlti : ¬ ((l : Nat) : Int) < ((h : Nat) : Int) := by omega
      obtain rfl : l = h := by omega
      have HF : Hid (Fo es x l) := hid ⟨by rw [← HN.out]; exact hhN, HL.out, HG.out⟩
      by_cases hlN : l < N
      · have hlNi : ((l : Nat) : Int) < ((N : Nat) : Int) := by omega
        have Hml : Hid (l < es.length) := hid (by rw [← HN.out]; exact hlN)
        obtain ⟨P, o, hp, hr, hP⟩ := (HE.out.kept0 HA.out).at l Hml.out
        have HR := hid hr
        have HX : Hid ((es[l]'Hml.out).vs.length = 9) := hid (En.vs_len (HE.out.row _ (List.getElem_mem _)))
        obtain ⟨y, Hy⟩ : ∃ y, Hid (y = es[l]'Hml.out) := ⟨_, hid rfl⟩
        rw [← Hy.out] at HR HX
        have HQ : Hid (fnd es x l = (cb y.e x == 0)) := hid (by unfold fnd; rw [List.getElem?_eq_getElem Hml.out, ← Hy.out])
        rw [hp]
        clear hr hP hp
        go_wp2_with (first | (refine wpL_valG rfl (.agg y.vs.toArray) (ex_load106 _ rfl P (o + l * 9) _ rfl HR.out HX.out) ?_) | (go_at_call 123; refine (HC.out _ y x).mono ?_; rintro _ w2 ⟨rfl, a2⟩; have HA2 := hid (HA.out.trans a2); clear a2))
        go_ret2
        exact ⟨l, by rw [HQ.out]; rfl, HF.out, HA2.out⟩
      · have hlNi : ¬ ((l : Nat) : Int) < ((N : Nat) : Int) := by omega
        have HQ : Hid (fnd es x l = false) := hid (by unfold fnd; rw [List.getElem?_eq_none (by rw [← HN.out]; omega)])
        go_wp2_with fail
        go_ret2
        exact ⟨l, by rw [HQ.out]; rfl, HF.out, HA.out⟩
end Go.Proofs.YtdbeeikjngnnnaaGreat.ty
namespace Go.Proofs.YtdbeeikjngnnnaaGreat.ty
open Go.ChangeShapes Go.WideShapes Go.ChangeAt Go.RowKit
set_option linter.unusedVariables false
set_option linter.unusedSimpArgs false
theorem Es.first {w : World} {s : Sl} {x : En} {r : List En} (h : Es w s (x :: r)) : ∃ P o, s.p = some ⟨P, o, none⟩ ∧ w.rangeAt P o x.vs ∧ P < w.heap.size := by
  obtain ⟨P, o, h1, h2, h3⟩ := h.at 0 (by simp)
  rw [Nat.zero_mul, Nat.add_zero] at h2
  exact ⟨P, o, h1, h2, h3⟩
end Go.Proofs.YtdbeeikjngnnnaaGreat.ty
