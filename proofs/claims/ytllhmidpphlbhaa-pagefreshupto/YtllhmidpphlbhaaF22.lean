import Derived.Deep.RegionHeld
import Derived.OrdersHeld
import Derived.WalkKit
import Derived.ProofKit
import Derived.Lib.TrailingZeros
import Derived.Test.YtllhmidpphlbhaaChecked
import Derived.OpenShut
import Derived.Deep.QuietTactic
import Derived.BigQuiet
import Derived.BigRegion
import Derived.Laws.CopyOwn
import Derived.Laws.Bits64b
import Derived.Laws.MathBits
import Derived.Laws.ShiftsVarLaws
import Derived.WalkSmall
import Derived.Laws.ResultCell
import Derived.Lib.BitFns
import Derived.Laws.StructEq
import Derived.ArgAppend
import Derived.Deep.RegionLaw
import Derived.Deep.DeepAppendRoom
import Derived.Sort.WalkA
import Derived.Laws.Strings
import Derived.Deep.CutBlock
import Derived.Great.BuildSlice
import Derived.Laws.AppendOwnNone
import Derived.Lib.Overlaps
import Derived.Lib.AppendZerosOnto
import Derived.Laws.NewBlocks
import Derived.Laws.Externs
import Derived.Laws.IdiomCopy
import Derived.Laws.BytesString
import Derived.Deep.CutRange
import Derived.RangeFuncNested
import Derived.RangeFuncBound
import Derived.RangeFuncCalls
import Derived.RangeFuncLeaves
import Derived.Shelf.Abstract
import Derived.Shelf.RegionOpen
import Derived.OwnWalkIn
import Derived.TacticsInMore
import Derived.LoopNIn
import Derived.LoopIn
import GoSem.Claim
import GoSem.ClaimJoined
import GoSem.ClaimMapViews
import Derived.JoinedTies
import Derived.KernelRfl
import Derived.Deep.OwnRows
import Derived.Lib.LaidTab
import Derived.JoinedCond
import Derived.ShutString
import Derived.ChangeOld
import Derived.Below
import Derived.Carry
import Derived.ChangeSlices
import Derived.Deep.Slices
import Derived.Deep.DeepHandedRow
import Derived.RowKit
import Derived.ChangeShapes
import Derived.SizedLaws
import Derived.ChangeMaps5
import Derived.Lib.Walk
import Derived.Lib.SliceRun
import Derived.Lib.AppendStr
import Derived.Lib.ConvBytes
import Derived.Deep.RegionHeld3
import Derived.Deep.MidRow
import Derived.Laws.MakeOwn
import Derived.Lib.SlBytesConst
import Derived.Test.YtllhmidpphlbhaaRows
import Derived.Test.YtllhmidpphlbhaaF20
import Derived.Test.YtllhmidpphlbhaaF21
namespace Go.Proofs.Ytllhmidpphlbhaa.ds
open Go.ChangeShapes Go.WideShapes Go.ChangeAt Go.RowKit Go.Sort
set_option linter.unusedVariables false
set_option linter.unusedSimpArgs false
/-- all but some blocks from lo up to hi stay -/
def Fr (lo hi : Nat) (W W' : World) : Prop := ∃ Z, Apart Z W W' ∧ ∀ k ∈ Z, lo ≤ k ∧ k < hi
theorem Fr.refl (lo hi : Nat) (W : World) : Fr lo hi W W := ⟨[], Apart.refl _ _, by simp⟩
theorem Fr.trans {lo hi : Nat} {W W1 W2 : World} (h : Fr lo hi W W1) (k : Fr lo hi W1 W2) : Fr lo hi W W2 := by
  obtain ⟨Z, a, hz⟩ := h
  obtain ⟨Y, b, hy⟩ := k
  exact ⟨Z ++ Y, (a.mono (fun x hx => List.mem_append_left _ hx)).trans (b.mono (fun x hx => List.mem_append_right _ hx)), fun k hk => (List.mem_append.1 hk).elim (hz k) (hy k)⟩
theorem Fr.one {lo hi P : Nat} {W W' : World} (a : Apart [P] W W') (h : lo ≤ P ∧ P < hi) : Fr lo hi W W' := ⟨[P], a, fun k hk => by simp at hk; rw [hk]; exact h⟩
theorem Fr.of0 {lo hi : Nat} {W W' : World} (a : Apart [] W W') : Fr lo hi W W' := ⟨[], a, by simp⟩
theorem Fr.base {lo hi : Nat} {w W W' : World} (h : Fr lo hi W W') (a : Apart [] w W) (hl : w.heap.size ≤ lo) : Apart [] w W' := by
  obtain ⟨Z, b, hz⟩ := h
  exact a.trans' b (fun y hy => .inr (by have := hz y hy; omega))
theorem Fr.block {lo hi : Nat} {W W' : World} (h : Fr lo hi W W') {Y : Nat} {o : Obj} (hY : W.heap[Y]? = some o) (hn : Y < lo ∨ hi ≤ Y) : W'.heap[Y]? = some o := by
  obtain ⟨Z, b, hz⟩ := h
  exact (b.block Y (lt_of_heap hY) (fun hm => by have := hz Y hm; omega)).trans hY

theorem gL_map {α β : Type} (f : List α → List β) {l : List (List α)} {i : Nat} (hi : i < l.length) : gL (l.map f) i = f (gL l i) := by
  unfold gL
  rw [List.getD_eq_getElem?_getD, List.getD_eq_getElem?_getD, List.getElem?_map, List.getElem?_eq_getElem hi]; rfl
theorem LD.killV {w W W' : World} {X lo lo' P : Nat} {sv sx : Sl} {vl xl : List Sl} {vb : List (List Nat)} {xb : List (List S)} (h : LD w W X lo lo' sv sx vl xl vb xb) (hlo : lo < vl.length) (hP : (gS vl lo).v.ownBlock = some P) (a : Apart [P] W W') (hPt : ∃ cur, W.heap[P]? = some (.cells cur 5 (0, 0))) : LD w W' X (lo + 1) lo' sv sx vl xl vb xb := by
  have hv := h.v.kill hlo hP a hPt (by decide)
  obtain ⟨cur, hPt⟩ := hPt
  have tk : TK [5] W W' := TK.one a hPt (by simp)
  exact ⟨tk.block h.blk (by decide), h.nb, hv, h.x.keep tk hv.nw.ap (by decide) (by decide)⟩
theorem LD.killX {w W W' : World} {X lo lo' P : Nat} {sv sx : Sl} {vl xl : List Sl} {vb : List (List Nat)} {xb : List (List S)} (h : LD w W X lo lo' sv sx vl xl vb xb) (hlo : lo' < xl.length) (hP : (gS xl lo').v.ownBlock = some P) (a : Apart [P] W W') (hPt : ∃ cur, W.heap[P]? = some (.cells cur 85 (0, 0))) : LD w W' X lo (lo' + 1) sv sx vl xl vb xb := by
  have hx := h.x.kill hlo hP a hPt (by decide)
  obtain ⟨cur, hPt⟩ := hPt
  have tk : TK [85] W W' := TK.one a hPt (by simp)
  exact ⟨tk.block h.blk (by decide), h.nb, h.v.keep tk hx.nw.ap (by decide) (by decide), hx⟩
/-- the element i of a list of lists -/
theorem RR.at {w W : World} {te size tl lo i : Nat} {s : Sl} {l : List Sl} {c : List (List Value)} (h : RR w W te size tl lo s l c) (hi : i < l.length) : ∃ G o, s.p = some ⟨G, o, none⟩ ∧ W.cell? ⟨G, o + i, none⟩ = some (.slice (gS l i).p (gS l i).n (gS l i).c) := by
  obtain ⟨P, o, e, hP, hc⟩ := h.nw.rd (by simp; omega)
  refine ⟨P, o, e, hc i _ ?_⟩
  rw [List.getElem?_map, List.getElem?_eq_getElem hi]
  unfold gS
  rw [List.getD_eq_getElem?_getD, List.getElem?_eq_getElem hi]; rfl
/-- the row i, its block and the mark behind it -/
theorem LD.rowV {w W : World} {X lo lo' i : Nat} {sv sx : Sl} {vl xl : List Sl} {vb : List (List Nat)} {xb : List (List S)} (h : LD w W X lo lo' sv sx vl xl vb xb) (hlo : lo ≤ i) (hi : i < vl.length) : ∃ P cur, (gS vl i).p = some ⟨P, 0, none⟩ ∧ (gS vl i).v.ownBlock = some P ∧ W.heap[P]? = some (.cells cur 5 (0, 0)) ∧ 0 < (gS vl i).n ∧ (gS vl i).n ≤ cur.size ∧ cur.size ≤ maxLen ∧ W.cell? ⟨P, (gS vl i).n - 1, none⟩ = some (.int .u8 167) ∧ w.heap.size ≤ P := by
  have hr := h.v.each i hlo hi
  rw [gL_map _ (by rw [(vl_len h).1]; exact hi)] at hr
  obtain ⟨e1, -⟩ := hr.bytes
  obtain ⟨P, cur, hp, ho, hb, hle, hs, ht, hn, hm⟩ := hr.blk (by omega)
  refine ⟨P, cur, hp, ho, hb, by omega, by omega, by omega, ?_, hn⟩
  obtain ⟨P', o, e, hP, hc⟩ := hr.rd (by rw [byts_len, List.length_append]; simp)
  rw [hp] at e
  simp at e
  obtain ⟨rfl, rfl⟩ := e
  have := hc ((gS vl i).n - 1) (.int .u8 167) (by rw [e1, byts_app, List.getElem?_append_right (by rw [byts_len]; omega), byts_len]; simp [byts])
  simpa using this
theorem LD.rowX {w W : World} {X lo lo' i : Nat} {sv sx : Sl} {vl xl : List Sl} {vb : List (List Nat)} {xb : List (List S)} (h : LD w W X lo lo' sv sx vl xl vb xb) (hlo : lo' ≤ i) (hi : i < xl.length) : ∃ P cur, (gS xl i).p = some ⟨P, 0, none⟩ ∧ (gS xl i).v.ownBlock = some P ∧ W.heap[P]? = some (.cells cur 85 (0, 0)) ∧ 0 < (gS xl i).n ∧ (gS xl i).n * 3 ≤ cur.size ∧ (gS xl i).n ≤ maxLen ∧ W.cell? ⟨P, ((gS xl i).n - 1) * 3, none⟩ = some (.int .i64 (-71)) ∧ W.cell? ⟨P, ((gS xl i).n - 1) * 3 + 1, none⟩ = some (.int .i64 (-72)) ∧ w.heap.size ≤ P := by
  have hr := h.x.each i hlo hi
  rw [gL_map _ (by rw [(vl_len h).2]; exact hi)] at hr
  have e1 : (gS xl i).n = (gL xb i).length + 1 := by
    have := hr.own.1
    rw [flat_length, List.length_append] at this
    simp at this
    omega
  obtain ⟨P, cur, hp, ho, hb, hle, hs, ht, hn, hm⟩ := hr.blk (by omega)
  have hsn : (gS xl i).n * 3 ≤ (gS xl i).c * 3 := Nat.mul_le_mul_right _ hle
  obtain ⟨P', o, e, hP, hc⟩ := hr.rd (by rw [flat_length, List.length_append]; simp)
  rw [hp] at e
  simp at e
  obtain ⟨rfl, rfl⟩ := e
  have hg : g (gL xb i ++ [mkS]) ((gS xl i).n - 1) = mkS := by
    unfold g
    rw [List.getD_eq_getElem?_getD, List.getElem?_append_right (by omega), e1, Nat.add_sub_cancel, Nat.sub_self]; rfl
  obtain ⟨q0, q1, q2⟩ := flat_get (gL xb i ++ [mkS]) ((gS xl i).n - 1) (by rw [List.length_append]; simp; omega)
  rw [hg] at q0 q1
  have c0 := hc _ _ q0
  have c1 := hc _ _ q1
  exact ⟨P, cur, hp, ho, hb, by omega, by omega, by omega, by simpa [mkS] using c0, by simpa [mkS] using c1, hn⟩
end Go.Proofs.Ytllhmidpphlbhaa.ds
namespace Go.Proofs.Ytllhmidpphlbhaa.ds
open Go.ChangeShapes Go.WideShapes Go.ChangeAt Go.RowKit Go.Sort
set_option linter.unusedVariables false
set_option linter.unusedSimpArgs false
set_option maxHeartbeats 4000000 in
set_option maxRecDepth 100000 in
/-- the first of some writes -/
theorem first_ok {w : World} {s : Sl} {es : List E} {rs : List Wr} (h : RWs w s es rs) : Calls Try.prog 42 #[.slice s.p s.n s.c] w fun q w' => q = .returned (.agg #[.int .i64 (gE es 0).n, .int .i64 (gE es 0).c, .string (gE es 0).k, .bool (gE es 0).d, .slice (gE es 0).v.p (gE es 0).v.n (gE es 0).v.c, .slice (gE es 0).x.p (gE es 0).x.n (gE es 0).x.c]) ∧ Apart [] w w' := by
  obtain ⟨A, HXA⟩ : ∃ A, Hid (A = w.heap.size) := ⟨_, rfl⟩
  obtain ⟨W0, hW0⟩ : ∃ V, V = w.alloc (.cells #[.int .i64 0, .int .i64 0, .string ⟨#[]⟩, .bool false, .slice none 0 0, .slice none 0 0] 50) := ⟨_, rfl⟩
  have a0 : Apart [] w W0 := by rw [hW0]; exact (Apart.refl [] w).alloc _
  have hA0 : W0.heap[A]? = some (.cells #[.int .i64 0, .int .i64 0, .string ⟨#[]⟩, .bool false, .slice none 0 0, .slice none 0 0] 50 (0, 0)) := by rw [hW0, HXA.out]; exact heap_alloc_new w _
  obtain ⟨b0, b1, b2, b3, b4, b5⟩ := rowv6 hA0
  have g0 := frozen_of_row _ _ 0 _ _ hA0
  have g1 := frozen_of_row _ _ 1 _ _ hA0
  have g2 := frozen_of_row _ _ 2 _ _ hA0
  have g3 := frozen_of_row _ _ 3 _ _ hA0
  have g4 := frozen_of_row _ _ 4 _ _ hA0
  have g5 := frozen_of_row _ _ 5 _ _ hA0
  obtain ⟨e, He⟩ : ∃ e, Hid (e = gE es 0) := ⟨_, rfl⟩
  rw [← He.out]
  obtain ⟨hB9, a9⟩ := set6 (.int .i64 e.n) (.int .i64 e.c) (.string e.k) (.bool e.d) (.slice e.v.p e.v.n e.v.c) (.slice e.x.p e.x.n e.x.c) hA0
  have HA9 := hid (a0.trans' a9 (fun y hy => by simp at hy; exact .inr (by rw [hy, HXA.out]; exact Nat.le_refl _)))
  have HB9 := hid hB9
  clear hB9 a9 hA0
  by_cases hn : s.n = 0
  · have he : e = E.z := by
      rw [He.out]
      unfold gE
      have := h.el
      rw [hn] at this
      rw [List.length_eq_zero_iff.1 this]; rfl
    have hni : (s.n : Int) = 0 := by omega
    have HE := hid he
    clear he h a0
    have e0 : e.n = 0 ∧ e.c = 0 ∧ e.k = ⟨#[]⟩ ∧ e.d = false ∧ e.v = ⟨none, 0, 0⟩ ∧ e.x = ⟨none, 0, 0⟩ := by rw [HE.out]; exact ⟨rfl, rfl, rfl, rfl, rfl, rfl⟩
    obtain ⟨q0, q1, q2, q3, q4, q5⟩ := e0
    rw [q0, q1, q2, q3, q4, q5] at HB9 HA9 ⊢
    clear q0 q1 q2 q3 q4 q5
    go_enter Try.func42, Try.ntmps42
    go_upto_region 1 with fail
    rw [← hW0, ← HXA.out]
    clear hW0
    go_wp2_with fail
    obtain ⟨d0, d1, d2, d3, d4, d5⟩ := rowv6 HB9.out
    refine bodyPost_ret (v := .agg #[.int .i64 0, .int .i64 0, .string ⟨#[]⟩, .bool false, .slice none 0 0, .slice none 0 0]) ?_ rfl ⟨rfl, HA9.out⟩
    simp [results, Try.results42, go_sem, d0, d1, d2, d3, d4, d5]
  · have hni : ¬ (s.n : Int) = 0 := by omega
    have hni2 : (0 : Int) < (s.n : Int) := by omega
    obtain ⟨P, o, hP, hPl, c0, c1, c2, c3, c4, c5⟩ := (h.kept0 a0).cells 0 (by omega)
    rw [← He.out] at c0 c1 c2 c3 c4 c5
    simp only [Nat.zero_mul, Nat.add_zero] at c0 c1 c2 c3 c4 c5
    obtain ⟨sp, sn, sc⟩ := s
    have hn3 : 0 < sn := by dsimp only at hn; omega
    dsimp only at hP hni hni2 hn
    subst hP
    clear h a0
    go_enter Try.func42, Try.ntmps42
    go_upto_region 1 with fail
    rw [← hW0, ← HXA.out]
    clear hW0
    have hbe : (((sn : Nat) : Int) == 0) = false := by rw [beq_eq_false_iff_ne]; exact hni
    go_upto_if 5 with fail
    clear hbe hni hn
    go_wp2_with fail
    obtain ⟨d0, d1, d2, d3, d4, d5⟩ := rowv6 HB9.out
    refine bodyPost_ret (v := .agg #[.int .i64 e.n, .int .i64 e.c, .string e.k, .bool e.d, .slice e.v.p e.v.n e.v.c, .slice e.x.p e.x.n e.x.c]) ?_ rfl ⟨rfl, HA9.out⟩
    simp [results, Try.results42, go_sem, d0, d1, d2, d3, d4, d5]
end Go.Proofs.Ytllhmidpphlbhaa.ds
namespace Go.Proofs.Ytllhmidpphlbhaa.ds
open Go.ChangeShapes Go.WideShapes Go.ChangeAt Go.RowKit Go.Sort
set_option linter.unusedVariables false
set_option linter.unusedSimpArgs false
/-- the blocks of the rows lie below hi -/
def Lows (vl : List Sl) (hi : Nat) : Prop := ∀ i, i < vl.length → ∀ k, (gS vl i).v.ownBlock = some k → k < hi
theorem RR.lows {w W : World} {te size tl lo : Nat} {s : Sl} {l : List Sl} {c : List (List Value)} (h : RR w W te size tl lo s l c) : Lows l W.heap.size := fun i hi k hk => by
  obtain ⟨q, e1, e2, _⟩ := h.has i hi
  rw [hk] at e1
  simp at e1
  omega
set_option maxHeartbeats 8000000 in
set_option maxRecDepth 100000 in
theorem kept_ok {w W : World} {X : Nat} {sv sx : Sl} {vl xl : List Sl} {vb : List (List Nat)} {xb : List (List S)} (h : LD w W X 0 0 sv sx vl xl vb xb) (hi : Nat) (hV : Lows vl hi) (hX : Lows xl hi) (hl : vl.length ≤ 2000000) (hl' : xl.length ≤ 2000000) : Calls Try.prog 45 #[.pointer (some ⟨X, 0, none⟩)] W fun r W' => r = .returned (.bool true) ∧ Fr w.heap.size hi W W' := by
  have HL := hid h
  have HV := hid hV
  have HX := hid hX
  have HSV := hid h.v.len
  have HSX := hid h.x.len
  clear h hV hX
  go_enter Try.func45, Try.ntmps45
  go_wp2_with fail
  go_loopw [3, 4, 5, 6] (fun a b _ _ wt => ∃ i : Nat, a = .bool true ∧ b = .int .i64 (i : Nat) ∧ i ≤ vl.length ∧ LD w wt X i 0 sv sx vl xl vb xb ∧ Fr w.heap.size hi W wt) (fun _ b _ _ _ => vl.length - (intOf b).toNat)
  case atStart => exact ⟨0, rfl, rfl, Nat.zero_le _, HL.out, Fr.refl _ _ _⟩
  case round =>
    obtain ⟨i, rfl, rfl, hile, hld, hfr⟩ := hrel
    have HD := hid hld
    have HF := hid hfr
    have z0 : wr.cell? ⟨X, 0, none⟩ = some (.slice sv.p sv.n sv.c) := by rw [cell_of_row _ _ _ _ _ _ hld.blk]; rfl
    clear hld hfr
    generalize wr = wq at *
    by_cases hlt : i < vl.length
    · have hlti : ((i : Nat) : Int) < (sv.n : Int) := by rw [HSV.out]; omega
      obtain ⟨G, o, hG, hc⟩ := HD.out.v.at hlt
      obtain ⟨P, cur, hp, ho, hb, hn0, hcs, hcm, hmk, hPw⟩ := HD.out.rowV (Nat.le_refl i) hlt
      have HO := hid ho
      have HB := hid hb
      have HPW := hid hPw
      have HPH := hid (HV.out i hlt P ho)
      clear ho hb hPw
      obtain ⟨t, Ht⟩ : ∃ t, Hid (t = gS vl i) := ⟨_, rfl⟩
      rw [← Ht.out] at hc hp hn0 hcs hmk
      obtain ⟨tp, tn, tc⟩ := t
      simp only at hc hp hn0 hcs hmk
      subst hp
      obtain ⟨svp, svn, svc⟩ := sv
      simp only at hG
      subst hG
      simp only at hlti z0
      unfold maxLen at hcm
      have hw1 : IntKind.i64.wrap ((tn : Int) - 1) = ((tn - 1 : Nat) : Int) := by rw [IntKind.wrap_i64]; omega
      have hb1 : ((tn - 1 : Nat) : Int) < (tn : Int) := by omega
      have hb2 : tn - 1 < tn := by omega
      go_wp2_with fail
      clear hc hmk z0
      go_loopw [6] (fun b wt => ∃ (j : Nat) (cur' : Array Value), b = .int .i64 (j : Nat) ∧ j ≤ tn ∧ wt.heap[P]? = some (.cells cur' 5 (0, 0)) ∧ cur'.size = cur.size ∧ Apart [P] wq wt) (fun b _ => tn - (intOf b).toNat)
      case atStart => exact ⟨0, cur, rfl, Nat.zero_le _, HB.out, rfl, Apart.refl _ _⟩
      case round =>
        obtain ⟨j, cur', rfl, hjle, hbj, hsz, hap⟩ := hrel
        have HAP := hid hap
        clear hap
        by_cases hjl : j < tn
        · have hji : ((j : Nat) : Int) < (tn : Int) := by omega
          obtain ⟨u, hu⟩ : ∃ u, cur'[j]? = some u := ⟨_, Array.getElem?_eq_getElem (by omega)⟩
          have hcj : wr.cell? ⟨P, j, none⟩ = some u := by rw [cell_of_row _ _ _ _ _ _ hbj]; exact hu
          have hfj := frozen_of_row _ _ j _ _ hbj
          have HB2 := hid (heap_setCell_same wr P j _ 5 (.int .u8 33) hbj)
          have HA2 : Hid (Apart [P] wq (wr.setCell ⟨P, j, none⟩ (.int .u8 33))) := HAP.out.setCell (.inl (by simp)) _
          have HSZ := hid hsz
          clear hbj hu hsz
          go_wp2_with fail
          go_roundw
          case rel => exact ⟨j + 1, _, by go_num, by omega, HB2.out, by simp; exact HSZ.out, HA2.out⟩
          case measure => simp [intOf]; omega
        · have hji : ¬ ((j : Nat) : Int) < (tn : Int) := by omega
          have HD2 := hid (HD.out.killV hlt HO.out HAP.out ⟨_, HB.out⟩)
          have HF2 := hid (HF.out.trans (Fr.one HAP.out ⟨HPW.out, HPH.out⟩))
          clear hbj hsz
          go_wp2_with fail
          go_roundw
          case rel => exact ⟨i + 1, rfl, by go_num, by omega, HD2.out, HF2.out⟩
          case measure => simp [intOf]; omega
    · have hlti : ¬ ((i : Nat) : Int) < (sv.n : Int) := by rw [HSV.out]; omega
      have hie : i = vl.length := by omega
      subst hie
      generalize vl.length = vn at *
      go_wp2_with fail
      clear z0
      go_loopw [3, 7, 8, 9] (fun a b _ _ wt => ∃ i : Nat, a = .bool true ∧ b = .int .i64 (i : Nat) ∧ i ≤ xl.length ∧ LD w wt X vn i sv sx vl xl vb xb ∧ Fr w.heap.size hi W wt) (fun _ b _ _ _ => xl.length - (intOf b).toNat)
      case atStart => exact ⟨0, rfl, rfl, Nat.zero_le _, HD.out, HF.out⟩
      case round =>
        clear HD HF
        obtain ⟨i, rfl, rfl, hile, hld, hfr⟩ := hrel
        have HD := hid hld
        have HF := hid hfr
        have z0 : wr.cell? ⟨X, 1, none⟩ = some (.slice sx.p sx.n sx.c) := by rw [cell_of_row _ _ _ _ _ _ hld.blk]; rfl
        clear hld hfr
        generalize wr = wk at *
        by_cases hlt : i < xl.length
        · have hlti : ((i : Nat) : Int) < (sx.n : Int) := by rw [HSX.out]; omega
          obtain ⟨G, o, hG, hc⟩ := HD.out.x.at hlt
          obtain ⟨P, cur, hp, ho, hb, hn0, hcs, hcm, hmk, hmk2, hPw⟩ := HD.out.rowX (Nat.le_refl i) hlt
          have HO := hid ho
          have HB := hid hb
          have HPW := hid hPw
          have HPH := hid (HX.out i hlt P ho)
          clear ho hb hPw
          obtain ⟨t, Ht⟩ : ∃ t, Hid (t = gS xl i) := ⟨_, rfl⟩
          rw [← Ht.out] at hc hp hn0 hcs hmk hmk2 hcm
          obtain ⟨tp, tn, tc⟩ := t
          simp only at hc hp hn0 hcs hmk hmk2 hcm
          subst hp
          obtain ⟨sxp, sxn, sxc⟩ := sx
          simp only at hG
          subst hG
          simp only at hlti z0
          unfold maxLen at hcm
          have hw1 : IntKind.i64.wrap ((tn : Int) - 1) = ((tn - 1 : Nat) : Int) := by rw [IntKind.wrap_i64]; omega
          have hb1 : ((tn - 1 : Nat) : Int) < (tn : Int) := by omega
          have hb2 : tn - 1 < tn := by omega
          go_wp2_with fail
          clear hc hmk hmk2 z0
          go_loopw [9] (fun b wt => ∃ (j : Nat) (cur' : Array Value), b = .int .i64 (j : Nat) ∧ j ≤ tn ∧ wt.heap[P]? = some (.cells cur' 85 (0, 0)) ∧ cur'.size = cur.size ∧ Apart [P] wk wt) (fun b _ => tn - (intOf b).toNat)
          case atStart => exact ⟨0, cur, rfl, Nat.zero_le _, HB.out, rfl, Apart.refl _ _⟩
          case round =>
            obtain ⟨j, cur', rfl, hjle, hbj, hsz, hap⟩ := hrel
            have HAP := hid hap
            clear hap
            by_cases hjl : j < tn
            · have hji : ((j : Nat) : Int) < (tn : Int) := by omega
              obtain ⟨u, hu⟩ : ∃ u, cur'[j * 3]? = some u := ⟨_, Array.getElem?_eq_getElem (by omega)⟩
              obtain ⟨u1, hu1⟩ : ∃ u, cur'[j * 3 + 1]? = some u := ⟨_, Array.getElem?_eq_getElem (by omega)⟩
              obtain ⟨u2, hu2⟩ : ∃ u, cur'[j * 3 + 2]? = some u := ⟨_, Array.getElem?_eq_getElem (by omega)⟩
              have hcj : wr.cell? ⟨P, j * 3, none⟩ = some u := by rw [cell_of_row _ _ _ _ _ _ hbj]; exact hu
              have hcj1 : wr.cell? ⟨P, j * 3 + 1, none⟩ = some u1 := by rw [cell_of_row _ _ _ _ _ _ hbj]; exact hu1
              have hcj2 : wr.cell? ⟨P, j * 3 + 2, none⟩ = some u2 := by rw [cell_of_row _ _ _ _ _ _ hbj]; exact hu2
              have hfj := frozen_of_row _ _ (j * 3) _ _ hbj
              have hfj1 := frozen_of_row _ _ (j * 3 + 1) _ _ hbj
              have hfj2 := frozen_of_row _ _ (j * 3 + 2) _ _ hbj
              obtain ⟨wz, hwz⟩ : ∃ V, V = ((wr.setCell ⟨P, j * 3, none⟩ (.int .i64 9)).setCell ⟨P, j * 3 + 1, none⟩ (.int .i64 0)).setCell ⟨P, j * 3 + 2, none⟩ (.int .u64 0) := ⟨_, rfl⟩
              have HB2 := hid (heap_setCell_same _ P (j * 3 + 2) _ 85 (.int .u64 0) (heap_setCell_same _ P (j * 3 + 1) _ 85 (.int .i64 0) (heap_setCell_same wr P (j * 3) _ 85 (.int .i64 9) hbj)))
              rw [← hwz] at HB2
              have HA2 : Hid (Apart [P] wk wz) := by unfold Hid; rw [hwz]; exact ((HAP.out.setCell (.inl (by simp)) _).setCell (.inl (by simp)) _).setCell (.inl (by simp)) _
              have HSZ := hid hsz
              clear hbj hu hu1 hu2 hsz
              go_wp2_with fail
              rw [← hwz]
              go_roundw
              case rel => exact ⟨j + 1, _, by go_num, by omega, HB2.out, by simp; exact HSZ.out, HA2.out⟩
              case measure => simp [intOf]; omega
            · have hji : ¬ ((j : Nat) : Int) < (tn : Int) := by omega
              have HD2 := hid (HD.out.killX hlt HO.out HAP.out ⟨_, HB.out⟩)
              have HF2 := hid (HF.out.trans (Fr.one HAP.out ⟨HPW.out, HPH.out⟩))
              clear hbj hsz
              go_wp2_with fail
              go_roundw
              case rel => exact ⟨i + 1, rfl, by go_num, by omega, HD2.out, HF2.out⟩
              case measure => simp [intOf]; omega
        · have hlti : ¬ ((i : Nat) : Int) < (sx.n : Int) := by rw [HSX.out]; omega
          go_wp2_with fail
          go_ret
          exact ⟨rfl, HF.out⟩

end Go.Proofs.Ytllhmidpphlbhaa.ds
namespace Go.Proofs.Ytllhmidpphlbhaa.ds
open Go.ChangeShapes Go.WideShapes Go.ChangeAt Go.RowKit Go.Sort
set_option linter.unusedVariables false
set_option linter.unusedSimpArgs false
theorem info61 : (Try.prog.info? 61).map (fun i => (i.zero, i.size, i.bytes)) = some (some (.agg #[.int .i64 0, .slice none 0 0]), 2, 32) := by kernel_rfl
theorem flatK_app : ∀ (a b : List Ck), flatK (a ++ b) = flatK a ++ flatK b
  | [], b => rfl
  | k :: l, b => by show k.cs ++ flatK (l ++ b) = k.cs ++ flatK l ++ flatK b; rw [flatK_app l b, List.append_assoc]
theorem app_ck {w W : World} {sk : Sl} {kk : List Ck} (h : Nw w W 61 2 sk (flatK kk)) (k : Ck) (hl : kk.length ≤ 2000000) :
    ∃ s' W', (Builtin.append_ #[22, 22] 22 #[.slice sk.p sk.n sk.c, .slice (some ⟨W.heap.size, 0, none⟩) 1 1]).run Try.prog (W.alloc (Obj.cells #[.int .i64 k.r, .slice k.s.p k.s.n k.s.c] 61)) = .ok (.slice s'.p s'.n s'.c) W' ∧ Nw w W' 61 2 s' (flatK (kk ++ [k])) ∧ TK [61] W W' ∧ s'.n = kk.length + 1 := by
  obtain ⟨i0, hif, hz0, hz1, hz2⟩ := info_parts info61
  have hlen : sk.n = kk.length := by have := h.own.1; rw [flatK_len] at this; omega
  obtain ⟨s5, w5, hrun, hnw5, hs5, ap5, k5, hk5, -, hk6⟩ := run_appM (s := sk) 22 22 61 i0 _ 2 32 Try.underlying22 hif hz0 hz1 hz2 rfl (by decide) h 1 k.cs (by decide) rfl (fun u hu => by simp [Ck.cs] at hu; rcases hu with rfl | rfl <;> rfl) (by unfold maxLen; omega) (by omega)
  exact ⟨s5, w5, hrun, by rw [flatK_app]; exact hnw5, TK.own h ap5 (by simp), by omega⟩
def mkK : Ck := ⟨-71, slz⟩
/-- clocks that are being lent: the content's box A, what is lent X, the list -/
structure LCI (w wt : World) (A X : Nat) (row : Array Value) (cs : List (Int × List S)) (i : Nat) (sk sx : Sl) (xl : List Sl) (kk tl : List Ck) : Prop where
  ld : LD w wt X 0 0 slz sx [] xl [] ((cs.take i).map Prod.snd)
  k : Nw w wt 61 2 sk (flatK (kk ++ tl))
  kn : kk.length = i
  xn : xl.length = i
  ke : ∀ j, j < i → gK kk j = ⟨(gC cs j).1, ⟨(gS xl j).p, (gC cs j).2.length, (gS xl j).c⟩⟩
  a : wt.heap[A]? = some (.cells row 25 (0, 0))
theorem LCI.kept0 {w wt W : World} {A X : Nat} {row : Array Value} {cs : List (Int × List S)} {i : Nat} {sk sx : Sl} {xl : List Sl} {kk tl : List Ck} (h : LCI w wt A X row cs i sk sx xl kk tl) (a : Apart [] wt W) : LCI w W A X row cs i sk sx xl kk tl :=
  { h with ld := h.ld.kept0 a, k := h.k.kept a, a := keep0 a h.a }
theorem gK_l {l : List Ck} {t : List Ck} {i : Nat} (h : i < l.length) : gK (l ++ t) i = gK l i := by unfold gK; rw [List.getD_eq_getElem?_getD, List.getD_eq_getElem?_getD, List.getElem?_append_left h]
theorem gK_r {l : List Ck} {t : Ck} : gK (l ++ [t]) l.length = t := by unfold gK; rw [List.getD_eq_getElem?_getD, List.getElem?_append_right (Nat.le_refl _), Nat.sub_self]; rfl
theorem takeC_s {cs : List (Int × List S)} {i : Nat} (hi : i < cs.length) : (cs.take (i + 1)).map Prod.snd = (cs.take i).map Prod.snd ++ [(gC cs i).2] := by
  rw [List.take_succ_eq_append_getElem hi, List.map_append]
  unfold gC
  rw [List.getD_eq_getElem?_getD, List.getElem?_eq_getElem hi]; rfl
theorem LCI.next {w wd wa : World} {A X : Nat} {row : Array Value} {cs : List (Int × List S)} {i : Nat} {sk sx sx' t : Sl} {xl : List Sl} {kk : List Ck} (h : LCI w wd A X row cs i sk sx xl kk []) (hi : i < cs.length) (hl : cs.length ≤ 2000000)
    (hL : LD w wa X 0 0 slz sx' [] (xl ++ [t]) [] ((cs.take i).map Prod.snd ++ [(gC cs i).2])) (tk : TK [48, 88] wd wa) :
    ∃ s' W', (Builtin.append_ #[22, 22] 22 #[.slice sk.p sk.n sk.c, .slice (some ⟨wa.heap.size, 0, none⟩) 1 1]).run Try.prog (wa.alloc (Obj.cells #[.int .i64 (gC cs i).1, .slice t.p (gC cs i).2.length t.c] 61)) = .ok (.slice s'.p s'.n s'.c) W' ∧ LCI w W' A X row cs (i + 1) s' sx' (xl ++ [t]) (kk ++ [⟨(gC cs i).1, ⟨t.p, (gC cs i).2.length, t.c⟩⟩]) [] := by
  have hk := tk.nw h.k hL.ap (by decide)
  rw [List.append_nil] at hk
  obtain ⟨s', W', hrun, hn, tk2, -⟩ := app_ck hk ⟨(gC cs i).1, ⟨t.p, (gC cs i).2.length, t.c⟩⟩ (by rw [h.kn]; omega)
  refine ⟨s', W', hrun, ⟨?_, by rw [List.append_nil]; exact hn, by simp [h.kn], by simp [h.xn], fun j hj => ?_, tk2.block (tk.block h.a (by decide)) (by decide)⟩⟩
  · rw [takeC_s hi]
    exact hL.keep tk2 hn.ap (by decide)
  · by_cases hji : j < i
    · rw [gK_l (by rw [h.kn]; exact hji), gS_l (by rw [h.xn]; exact hji)]
      exact h.ke j hji
    · have e1 : j = i := by omega
      subst e1
      have q1 : gK (kk ++ [⟨(gC cs j).1, ⟨t.p, (gC cs j).2.length, t.c⟩⟩]) j = ⟨(gC cs j).1, ⟨t.p, (gC cs j).2.length, t.c⟩⟩ := by
        have := gK_r (l := kk) (t := ⟨(gC cs j).1, ⟨t.p, (gC cs j).2.length, t.c⟩⟩)
        rw [h.kn] at this
        exact this
      have q2 : gS (xl ++ [t]) j = t := by
        have := gS_r (l := xl) (t := t)
        rw [h.xn] at this
        exact this
      rw [q1, q2]
theorem LCI.mark {w wd : World} {A X : Nat} {row : Array Value} {cs : List (Int × List S)} {i : Nat} {sk sx : Sl} {xl : List Sl} {kk : List Ck} (h : LCI w wd A X row cs i sk sx xl kk []) (hl : i ≤ 2000000) :
    ∃ s' W', (Builtin.append_ #[22, 22] 22 #[.slice sk.p sk.n sk.c, .slice (some ⟨wd.heap.size, 0, none⟩) 1 1]).run Try.prog (wd.alloc (Obj.cells #[.int .i64 (-71), .slice none 0 0] 61)) = .ok (.slice s'.p s'.n s'.c) W' ∧ LCI w W' A X row cs i s' sx xl kk [mkK] ∧ s'.n = i + 1 := by
  have hk := h.k
  rw [List.append_nil] at hk
  obtain ⟨s', W', hrun, hn, tk2, hs⟩ := app_ck hk mkK (by rw [h.kn]; omega)
  exact ⟨s', W', hrun, ⟨h.ld.keep tk2 hn.ap (by decide), hn, h.kn, h.xn, h.ke, tk2.block h.a (by decide)⟩, by rw [hs, h.kn]⟩
/-- the lent clocks as they read -/
theorem LCI.rcs {w wt : World} {A X : Nat} {row : Array Value} {cs : List (Int × List S)} {sk sx : Sl} {xl : List Sl} {kk : List Ck} (h : LCI w wt A X row cs cs.length sk sx xl kk [mkK]) (hf : ∀ j, j < cs.length → (∀ x ∈ (gC cs j).2, x.t < 2 ^ 64) ∧ (gC cs j).2.length ≤ 2000000) (hl : cs.length ≤ 2000000) : RCs wt ⟨sk.p, cs.length, sk.c⟩ kk cs := by
  have hrd := h.k.rd
  rw [flatK_app] at hrd
  have hsn : sk.n = cs.length + 1 := by have := h.k.own.1; rw [flatK_len, List.length_append, h.kn] at this; simp at this; omega
  obtain ⟨g, cur, hp, _⟩ := h.k.blk (by omega)
  refine ⟨hrd.pre, h.kn, rfl, fun j hj => ?_, hl, fun hq => by simp only at hq; rw [hp] at hq; simp at hq⟩
  simp only at hj
  rw [h.ke j hj]
  have hr := h.ld.x.each j (Nat.zero_le _) (by rw [h.xn]; exact hj)
  have e0 : (cs.take cs.length) = cs := List.take_length
  have e1 : gL ((cs.take cs.length).map Prod.snd) j = (gC cs j).2 := by
    rw [e0]
    unfold gL gC
    rw [List.getD_eq_getElem?_getD, List.getD_eq_getElem?_getD, List.getElem?_map, List.getElem?_eq_getElem hj]; rfl
  rw [gL_map _ (by rw [e0, List.length_map]; exact hj), e1] at hr
  obtain ⟨_, h2, h3, _⟩ := hr.spans (hf j hj).1 (hf j hj).2
  exact ⟨rfl, h2, h3⟩
/-- what building answers, in one -/
theorem BO.q {w w' : World} {q : Ending} {e : Int} {c : Pc} (h : BO w w' q e c) : ∃ sp : Sl, q = .returned (.tuple #[.slice sp.p sp.n sp.c, .int .i64 e]) ∧ (e ≠ 0 → sp = slz) ∧ (e = 0 → ∃ g, sp = ⟨some ⟨g, 0, none⟩, 2048, 2048⟩ ∧ w.heap.size ≤ g ∧ w'.heap[g]? = some (.cells (byts (pad (encPc c))).toArray 5 (0, 0))) := by
  by_cases he : e = 0
  · obtain ⟨g, h1, h2, h3⟩ := h.ok he
    exact ⟨⟨some ⟨g, 0, none⟩, 2048, 2048⟩, by rw [h1, he], fun h => absurd he h, fun _ => ⟨g, rfl, h2, h3⟩⟩
  · exact ⟨slz, h.no he, fun _ => rfl, fun h => absurd h he⟩
/-- what the law's building answers: all that was handed in stands -/
structure CO (w w' : World) (q : Ending) (e : Int) (c : Pc) : Prop where
  a : Apart [] w w'
  ex : ∃ sp : Sl, q = .returned (.tuple #[.slice sp.p sp.n sp.c, .int .i64 e, .bool true]) ∧ (e ≠ 0 → sp = slz) ∧ (e = 0 → ∃ g, sp = ⟨some ⟨g, 0, none⟩, 2048, 2048⟩ ∧ w.heap.size ≤ g ∧ w'.heap[g]? = some (.cells (byts (pad (encPc c))).toArray 5 (0, 0)))
end Go.Proofs.Ytllhmidpphlbhaa.ds
