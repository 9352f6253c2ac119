import Derived.Deep.RegionHeld
import Derived.OrdersHeld
import Derived.WalkKit
import Derived.ProofKit
import Derived.Lib.TrailingZeros
import Derived.Test.YtllhmidpphlbhaaChecked
import Derived.OpenShut
import Derived.Deep.QuietTactic
import Derived.BigQuiet
import Derived.BigRegion
import Derived.Laws.CopyOwn
import Derived.Laws.Bits64b
import Derived.Laws.MathBits
import Derived.Laws.ShiftsVarLaws
import Derived.WalkSmall
import Derived.Laws.ResultCell
import Derived.Lib.BitFns
import Derived.Laws.StructEq
import Derived.ArgAppend
import Derived.Deep.RegionLaw
import Derived.Deep.DeepAppendRoom
import Derived.Sort.WalkA
import Derived.Laws.Strings
import Derived.Deep.CutBlock
import Derived.Great.BuildSlice
import Derived.Laws.AppendOwnNone
import Derived.Lib.Overlaps
import Derived.Lib.AppendZerosOnto
import Derived.Laws.NewBlocks
import Derived.Laws.Externs
import Derived.Laws.IdiomCopy
import Derived.Laws.BytesString
import Derived.Deep.CutRange
import Derived.RangeFuncNested
import Derived.RangeFuncBound
import Derived.RangeFuncCalls
import Derived.RangeFuncLeaves
import Derived.Shelf.Abstract
import Derived.Shelf.RegionOpen
import Derived.OwnWalkIn
import Derived.TacticsInMore
import Derived.LoopNIn
import Derived.LoopIn
import GoSem.Claim
import GoSem.ClaimJoined
import GoSem.ClaimMapViews
import Derived.JoinedTies
import Derived.KernelRfl
import Derived.Deep.OwnRows
import Derived.Lib.LaidTab
import Derived.JoinedCond
import Derived.ShutString
import Derived.ChangeOld
import Derived.Below
import Derived.Carry
import Derived.ChangeSlices
import Derived.Deep.Slices
import Derived.Deep.DeepHandedRow
import Derived.RowKit
import Derived.ChangeShapes
import Derived.SizedLaws
import Derived.ChangeMaps5
import Derived.Lib.Walk
import Derived.Lib.SliceRun
import Derived.Lib.AppendStr
import Derived.Lib.ConvBytes
import Derived.Deep.RegionHeld3
import Derived.Deep.MidRow
import Derived.Laws.MakeOwn
import Derived.Lib.SlBytesConst
import Derived.Test.YtllhmidpphlbhaaRows
import Derived.Test.YtllhmidpphlbhaaF32
namespace Go.Proofs.Ytllhmidpphlbhaa.ds
open Go.ChangeShapes Go.WideShapes Go.ChangeAt Go.RowKit Go.Sort
set_option linter.unusedVariables false
set_option linter.unusedSimpArgs false
theorem gR_eq (rs : List Wr) (k : Nat) (h : k < rs.length) : gR rs k = rs[k] := by simp [gR, List.getD_eq_getElem?_getD, h]
end Go.Proofs.Ytllhmidpphlbhaa.ds
namespace Go.Proofs.Ytllhmidpphlbhaa.ds
open Go.ChangeShapes Go.WideShapes Go.ChangeAt Go.RowKit Go.Deep Go.Sort
set_option linter.unusedVariables false
set_option linter.unusedSimpArgs false
set_option maxRecDepth 100000
/-- a content that came in, at its place -/
def CoAt (W : World) (P q : Nat) (c : Ct) : Prop := ∃ (ks : List Ck) (cs : List (Int × List S)) (es : List E) (rs : List Wr), (∀ i u, c.cs.toList[i]? = some u → W.cell? ⟨P, q + i, none⟩ = some u) ∧ RCt W c ks cs es rs
/-- a list of contents that came in -/
def RCos (W : World) (s : Sl) : Prop := 0 < s.n → ∃ P o, s.p = some ⟨P, o, none⟩ ∧ P < W.heap.size ∧ ∀ i, i < s.n → ∃ c, CoAt W P (o + i * 5) c
theorem open_contents {H : Type} {enc : TypeId × Value → H} {W : World} {fuel : Nat} {v : Value} {x : DataW H × List MemPlace} (h : DataW.trod enc Try.prog W 0 (fun _ => true) true fuel 67 [v] = some x) (hb : Rows.uptoBulk x.1 ≤ 1048576) :
    ∃ s : Sl, v = s.v ∧ RCos W s := by
  rcases open_slice Try.underlying67 h with ⟨hcs, _⟩ | ⟨a, len, cap, m, n, D, Pl, hcs, _, hl, hm, hmeq, hx, hall⟩
  · simp at hcs
    exact ⟨⟨none, 0, 0⟩, hcs, fun h => absurd h (by simp)⟩
  · simp only [if_true] at hmeq
    subst hmeq
    simp at hcs
    rw [hx] at hb
    have hball := Nat.le_trans (slice_many ((List.range len).map D) ((List.range (m - len)).map fun j => D (len + j))) hb
    refine ⟨⟨some a, len, m⟩, hcs, fun h0 => ?_⟩
    have h0' : 0 < len := h0
    obtain ⟨P, o, spot⟩ := a
    have hspot : spot = none := by
      obtain ⟨cs', h1, h2⟩ := hall 0 (by omega)
      rw [c25] at h1
      obtain ⟨_, hlen, hcell⟩ := World.cells?_some h1
      have hc := hcell 0 (by omega)
      rw [List.getElem?_eq_getElem (by omega)] at hc
      have := World.cell?_spot hc
      simpa [Addr.add] using this
    subst hspot
    have each : ∀ i, i < len → ∃ c, CoAt W P (o + i * 5) c := by
      intro i hi
      obtain ⟨cs', h1, h2⟩ := hall i (by omega)
      have hDi : Rows.uptoBulk (D i) ≤ 1048576 := Nat.le_trans (all_mem (List.mem_map.2 ⟨i, List.mem_range.2 hi, rfl⟩)) hball
      rw [c25, Addr.add_lit] at h1
      obtain ⟨_, hlen, hcell⟩ := World.cells?_some h1
      match cs', hlen with
      | [a0, a1, a2, a3, a4], _ =>
        obtain ⟨c, ks, ds, es, rs, hmc, hmi⟩ := open_content (cs := #[a0, a1, a2, a3, a4]) rfl h2 hDi
        refine ⟨c, ks, ds, es, rs, fun j u hj => ?_, hmi⟩
        have hj5 : j < 5 := by
          by_cases hq : j < 5
          · exact hq
          · rw [List.getElem?_eq_none (by show 5 ≤ j; omega)] at hj; cases hj
        have := hcell j hj5
        rw [Addr.add_lit] at this
        rw [this, ← hj, ← hmc]
    refine ⟨P, o, rfl, ?_, each⟩
    obtain ⟨_, _, _, _, _, hc, _⟩ := each 0 h0'
    exact block_lt_of_cell (hc 0 _ rfl)
end Go.Proofs.Ytllhmidpphlbhaa.ds
namespace Go.Proofs.Ytllhmidpphlbhaa.ds
open Go.ChangeShapes Go.WideShapes Go.ChangeAt Go.RowKit Go.Sort
set_option linter.unusedVariables false
set_option linter.unusedSimpArgs false
def L8 (l : List Nat) : Prop := ∀ b ∈ l, b < 256
theorem L8.app {a b : List Nat} (ha : L8 a) (hb : L8 b) : L8 (a ++ b) := fun x hx => (List.mem_append.1 hx).elim (ha x) (hb x)
theorem L8.n (k n : Nat) : L8 (encN k n) := encN_8 k n
theorem L8.sps : ∀ (l : List S), L8 (encSps l)
  | [] => fun b hb => by simp [encSps] at hb
  | x :: l => by
    show L8 (encSp x ++ encSps l)
    exact ((L8.n _ _).app ((L8.n _ _).app (L8.n _ _))).app (L8.sps l)
theorem L8.st (l : List S) : L8 (encSt l) := (L8.n _ _).app (L8.sps l)
theorem L8.cls : ∀ (l : List (Nat × List S)), L8 (encCls l)
  | [] => fun b hb => by simp [encCls] at hb
  | c :: l => by
    show L8 (encCl c ++ encCls l)
    exact ((L8.n _ _).app (L8.st _)).app (L8.cls l)
theorem L8.pw {w : Cw} (h : L8 w.vs) : L8 (encPw w) := (L8.n _ _).app ((L8.n _ _).app ((L8.n _ _).app (((L8.n _ _).app h).app (L8.st _))))
theorem L8.pws : ∀ {l : List Cw}, (∀ w ∈ l, L8 w.vs) → L8 (encPws l)
  | [], _ => fun b hb => by simp [encPws] at hb
  | w :: l, h => by
    show L8 (encPw w ++ encPws l)
    exact (L8.pw (h w (by simp))).app (L8.pws (fun x hx => h x (by simp [hx])))
theorem L8.pad {l : List Nat} (h : L8 l) : L8 (pad l) := by
  intro b hb
  unfold ds.pad at hb
  rcases List.mem_append.1 hb with hb | hb
  · exact h b hb
  · rw [List.mem_replicate] at hb; omega
/-- a content's page: bytes -/
theorem cP_8 {w : World} {t : Sl} {kd gn ow : Int} {cs : List (Int × List S)} {es : List E} {rs : List Wr} (h : RWs w t es rs) : L8 (pad (encPc (cP kd gn ow cs rs))) := by
  have hv : ∀ r ∈ rs, L8 r.vs := fun r hr => by
    obtain ⟨j, hj, rfl⟩ := List.getElem_of_mem hr
    have h1 := (h.each j (by rw [← h.rl]; exact hj)).vb
    rw [gR_eq _ _ hj] at h1
    exact h1
  refine L8.pad ?_
  unfold cP
  split
  · show L8 (encN 1 1 ++ (encN 6 _ ++ (encN 1 _ ++ encCls _)))
    exact (L8.n _ _).app ((L8.n _ _).app ((L8.n _ _).app (L8.cls _)))
  · split
    · show L8 (encN 1 2 ++ ((encN 1 _ ++ bsk _) ++ (encN 1 _ ++ encPws _)))
      refine (L8.n _ _).app (((L8.n _ _).app (bsk_lt _)).app ((L8.n _ _).app (L8.pws (fun c hc => ?_))))
      obtain ⟨r, hr, rfl⟩ := List.mem_map.1 hc
      exact hv r hr
    · show L8 (encN 1 3 ++ (encN 1 _ ++ ((encN 1 _ ++ bsk _) ++ encPws [_])))
      refine (L8.n _ _).app ((L8.n _ _).app (((L8.n _ _).app (bsk_lt _)).app (L8.pws (fun c hc => ?_))))
      simp at hc
      subst hc
      exact h.first.vb
end Go.Proofs.Ytllhmidpphlbhaa.ds
namespace Go.Proofs.Ytllhmidpphlbhaa.ds
open Go.ChangeShapes Go.WideShapes Go.ChangeAt Go.RowKit Go.Sort
set_option linter.unusedVariables false
set_option linter.unusedSimpArgs false
/-- a set's list, in new memory -/
structure LiP (w : World) (xs : List S) (r : Ending) (w' : World) : Prop where
  ex : ∃ t : Sl, r = .returned (.slice t.p t.n t.c) ∧ Nw w w' 85 3 t (flat xs) ∧ t.n = xs.length
theorem g_pad {xs ys : List S} {i : Nat} (hi : i < xs.length) : g (xs ++ ys) i = g xs i := by
  unfold g
  rw [List.getD_eq_getElem?_getD, List.getD_eq_getElem?_getD, List.getElem?_append_left hi]
set_option maxHeartbeats 8000000 in
set_option maxRecDepth 100000 in
theorem list_ok (w : World) (xs : List S) (hx : xs.length ≤ 8) (hf : ∀ x ∈ xs, x.t < 2 ^ 64) : Calls Try.prog 53 #[.agg (setL xs xs.length).toArray] w fun r w' => LiP w xs r w' := by
  obtain ⟨X, HX⟩ : ∃ X, Hid (X = w.heap.size) := ⟨_, rfl⟩
  obtain ⟨w1, hw1⟩ : ∃ V, V = w.alloc (.cells (setL xs xs.length).toArray 103) := ⟨_, rfl⟩
  have a1 : Apart [] w w1 := by rw [hw1]; exact (Apart.refl [] w).alloc _
  have hX1 : w1.heap[X]? = some (.cells (setL xs xs.length).toArray 103 (0, 0)) := by rw [hw1, HX.out]; exact heap_alloc_new w _
  have hL : L w1 (some ⟨X, 0, none⟩) xs.length xs := by
    refine ⟨fun _ => ⟨X, 0, rfl, lt_of_heap hX1, fun i hi => ?_⟩, rfl, by omega, hf⟩
    obtain ⟨q0, q1, q2⟩ := setL_get (xs := xs) (m := xs.length) (i := i) (by omega) hx
    rw [g_pad hi] at q0 q1 q2
    rw [Nat.zero_add]
    exact ⟨crow hX1 _ _ (by rw [List.getElem?_toArray]; exact q0), crow hX1 _ _ (by rw [List.getElem?_toArray]; exact q1), crow hX1 _ _ (by rw [List.getElem?_toArray]; exact q2)⟩
  obtain ⟨t, W2, hrun, hn2, htn⟩ := appS w1 ⟨some ⟨X, 0, none⟩, xs.length, 8⟩ xs 48 hL (by show xs.length ≤ _; omega) (fun h => by simp at h)
  have HRUN : Hid ((Builtin.append_ #[48, 48] 48 #[.slice none 0 0, .slice (some ⟨X, 0, none⟩) xs.length 8]).run Try.prog w1 = .ok (.slice t.p t.n t.c) W2) := hrun
  have HN := hid (hn2.from a1)
  have HTN := hid htn
  have m24 : w1.cell? ⟨X, 24, none⟩ = some (.int .i64 (xs.length : Nat)) := by
    rw [cell_of_row _ _ _ _ _ _ hX1]
    have := flat_length (xs ++ List.replicate (8 - xs.length) zS)
    rw [List.length_append, List.length_replicate] at this
    unfold setL
    rw [List.getElem?_toArray, List.getElem?_append_right (by omega), show 24 - (flat (xs ++ List.replicate (8 - xs.length) zS)).length = 0 by omega]
    rfl
  have hx8 : ((xs.length : Nat) : Int) ≤ 8 := by omega
  obtain ⟨L, HL⟩ : ∃ L, Hid (L = setL xs xs.length) := ⟨_, rfl⟩
  rw [← HL.out] at hw1 ⊢
  obtain ⟨n, Hn⟩ : ∃ n, Hid (n = xs.length) := ⟨_, rfl⟩
  rw [← Hn.out] at HRUN m24 hx8 hx
  clear hrun hn2 htn hL hX1 a1
  go_enter Try.func53, Try.ntmps53
  go_upto_region 1 with fail
  rw [← hw1, ← HX.out]
  clear hw1
  go_wp2_with (at_builtin; refine wpList_app2 rfl (.const (.slice none 0 0)) (.tmp 6) 48 48 rfl _ _ rfl rfl _ _ HRUN.out ?_)
  go_ret
  exact ⟨t, rfl, HN.out, HTN.out⟩
end Go.Proofs.Ytllhmidpphlbhaa.ds
