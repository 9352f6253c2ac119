import Derived.Deep.RegionHeld
import Derived.OrdersHeld
import Derived.WalkKit
import Derived.ProofKit
import Derived.Lib.TrailingZeros
import Derived.Test.YtllhmidpphlbhaaChecked
import Derived.OpenShut
import Derived.Deep.QuietTactic
import Derived.BigQuiet
import Derived.BigRegion
import Derived.Laws.CopyOwn
import Derived.Laws.Bits64b
import Derived.Laws.MathBits
import Derived.Laws.ShiftsVarLaws
import Derived.WalkSmall
import Derived.Laws.ResultCell
import Derived.Lib.BitFns
import Derived.Laws.StructEq
import Derived.ArgAppend
import Derived.Deep.RegionLaw
import Derived.Deep.DeepAppendRoom
import Derived.Sort.WalkA
import Derived.Laws.Strings
import Derived.Deep.CutBlock
import Derived.Great.BuildSlice
import Derived.Laws.AppendOwnNone
import Derived.Lib.Overlaps
import Derived.Lib.AppendZerosOnto
import Derived.Laws.NewBlocks
import Derived.Laws.Externs
import Derived.Laws.IdiomCopy
import Derived.Laws.BytesString
import Derived.Deep.CutRange
import Derived.RangeFuncNested
import Derived.RangeFuncBound
import Derived.RangeFuncCalls
import Derived.RangeFuncLeaves
import Derived.Shelf.Abstract
import Derived.Shelf.RegionOpen
import Derived.OwnWalkIn
import Derived.TacticsInMore
import Derived.LoopNIn
import Derived.LoopIn
import GoSem.Claim
import GoSem.ClaimJoined
import GoSem.ClaimMapViews
import Derived.JoinedTies
import Derived.KernelRfl
import Derived.Deep.OwnRows
import Derived.Lib.LaidTab
import Derived.JoinedCond
import Derived.ShutString
import Derived.ChangeOld
import Derived.Below
import Derived.Carry
import Derived.ChangeSlices
import Derived.Deep.Slices
import Derived.Deep.DeepHandedRow
import Derived.RowKit
import Derived.ChangeShapes
import Derived.SizedLaws
import Derived.ChangeMaps5
import Derived.Lib.Walk
import Derived.Lib.SliceRun
import Derived.Lib.AppendStr
import Derived.Lib.ConvBytes
import Derived.Deep.RegionHeld3
import Derived.Deep.MidRow
import Derived.Laws.MakeOwn
import Derived.Lib.SlBytesConst
import Derived.Test.YtllhmidpphlbhaaRows
import Derived.Test.YtllhmidpphlbhaaF7
import Derived.Test.YtllhmidpphlbhaaF8
import Derived.Test.YtllhmidpphlbhaaF9
namespace Go.Proofs.Ytllhmidpphlbhaa.ds
open Go.ChangeShapes Go.WideShapes Go.ChangeAt Go.RowKit
set_option linter.unusedVariables false
set_option linter.unusedSimpArgs false
def strB (bs : List Nat) : ByteArray := (bs.map (fun (b : Nat) => (b : Int))).foldl (fun r n => r.push (UInt8.ofNat n.toNat)) ByteArray.empty
theorem conv_bytes {w : World} {s : Sl} {bs : List Nat} (h : Rd w s.p (byts bs)) (hl : bs.length = s.n) (ok : s.ok) : Sem.run Try.prog (convert 28 9 (.slice s.p s.n s.c)) w = .ok (.string (strB bs)) w := by
  rw [run_convert_bytes_string w 28 9 5 _ _ _ Try.underlying28 Try.underlying5 Try.underlying9]
  obtain ⟨p, n, c⟩ := s
  unfold Sl.ok at ok
  simp only at h hl ok ⊢
  have hbl : (byts bs).length = n := by simp [byts, hl]
  cases p with
  | none =>
    obtain ⟨rfl, rfl⟩ := ok rfl
    obtain rfl : bs = [] := List.eq_nil_of_length_eq_zero hl
    simp [Conv.bytesToString, strB]
  | some a =>
    refine run_bytesToString w _ _ _ (bs.map (fun (b : Nat) => (b : Int))) ?_
    have := run_loadCells_list (P := Try.prog) w a (byts bs) (fun j v hv => by
      obtain ⟨P, o, e, _, hc⟩ := h (by
        by_cases h0 : 0 < (byts bs).length
        · exact h0
        · rw [List.getElem?_eq_none (by omega)] at hv; cases hv)
      cases e
      rw [Addr.add_lit]; exact hc j v hv)
    rw [hbl] at this
    rw [this]
    simp [byts]
end Go.Proofs.Ytllhmidpphlbhaa.ds
namespace Go.Proofs.Ytllhmidpphlbhaa.ds
open Go.ChangeShapes Go.WideShapes Go.ChangeAt Go.RowKit Go.Sort
set_option linter.unusedVariables false
set_option linter.unusedSimpArgs false
/-- a text's bytes -/
def bsk (k : ByteArray) : List Nat := k.toList.map UInt8.toNat
theorem bsk_lt (k : ByteArray) : ∀ b ∈ bsk k, b < 256 := by
  intro b hb
  simp only [bsk, List.mem_map] at hb
  obtain ⟨x, _, rfl⟩ := hb
  exact x.toNat_lt
theorem strB_fold : ∀ (l : List Nat) (r : ByteArray), ((l.map (fun (b : Nat) => (b : Int))).foldl (fun r n => r.push (UInt8.ofNat n.toNat)) r).toList = r.toList ++ l.map UInt8.ofNat
  | [], r => by simp
  | x :: l, r => by
    simp only [List.map_cons, List.foldl_cons]
    rw [strB_fold l]
    simp [ByteArray.toList_eq]
theorem strB_list (l : List Nat) : (strB l).toList = l.map UInt8.ofNat := by
  unfold strB
  rw [strB_fold]
  simp [ByteArray.toList_eq]
theorem bsk_strB {l : List Nat} (h : ∀ b ∈ l, b < 256) : bsk (strB l) = l := by
  unfold bsk
  rw [strB_list, List.map_map]
  refine (List.map_congr_left (fun b hb => ?_)).trans (List.map_id l)
  have := h b hb
  simp only [Function.comp, id, UInt8.toNat_ofNat']
  omega
theorem toList_inj' {a b : ByteArray} (h : a.toList = b.toList) : a = b := by
  rw [ByteArray.toList_eq, ByteArray.toList_eq] at h
  cases a; cases b; simp at h; rw [h]
theorem strB_bsk (k : ByteArray) : strB (bsk k) = k := by
  apply toList_inj'
  rw [strB_list, bsk, List.map_map]
  refine (List.map_congr_left (fun b hb => ?_)).trans (List.map_id _)
  simp
theorem bsk_len (k : ByteArray) : (bsk k).length = k.size := by
  rw [bsk, List.length_map, ByteArray.toList_eq, Array.length_toList]; rfl
theorem strB_size {l : List Nat} (h : ∀ b ∈ l, b < 256) : (strB l).size = l.length := by rw [← bsk_len, bsk_strB h]
theorem OkL.tail {g : Int} {x : S} {s : List S} (h : OkL g (x :: s)) : OkL g s := ⟨fun y hy => h.ok y (List.mem_cons_of_mem _ hy), (List.pairwise_cons.1 h.up).2⟩
theorem OkL.len8 : ∀ {l : List S} (k : Int), OkL 64 l → (∀ x ∈ l, k ≤ x.n) → k ≤ 8 → (l.length : Int) ≤ 8 - k
  | [], k, h, hk, h8 => by simp; omega
  | x :: l, k, h, hk, h8 => by
    have a := hk x (by simp)
    have b := (h.ok x (by simp)).n8
    have := OkL.len8 (l := l) (x.n + 1) h.tail (fun y hy => by have := (List.pairwise_cons.1 h.up).1 y hy; omega) (by omega)
    simp only [List.length_cons]
    omega
theorem OkL.le8 {l : List S} (h : OkL 64 l) : l.length ≤ 8 := by
  have := OkL.len8 (l := l) 0 h (fun x hx => (h.ok x hx).n0) (by omega)
  omega
/-- spans as a page has them are a set without the dot -/
theorem VSp_iff {dn dc : Nat} : ∀ (l : List S) (lo : Nat), VSp dn dc lo l ↔ (OkL 64 l ∧ (∀ x ∈ l, (lo : Int) ≤ x.n)) ∧ ∀ x ∈ l, dotS x dn dc = false
  | [], lo => ⟨fun _ => ⟨⟨OkL.nil _, by simp⟩, by simp⟩, fun _ => trivial⟩
  | x :: l, lo => by
    unfold VSp
    rw [VSp_iff l]
    constructor
    · rintro ⟨⟨h1, h2⟩, ⟨h3, h4⟩, h5⟩
      obtain ⟨h6, h7⟩ := ctxS_ok h2
      have h0 := h6.n0
      refine ⟨⟨⟨?_, ?_⟩, ?_⟩, ?_⟩
      · intro y hy
        rcases List.mem_cons.1 hy with rfl | hy
        · exact h6
        · exact h3.ok y hy
      · exact List.pairwise_cons.2 ⟨fun y hy => by have := h4 y hy; omega, h3.up⟩
      · intro y hy
        rcases List.mem_cons.1 hy with rfl | hy
        · exact h1
        · have := h4 y hy; omega
      · intro y hy
        rcases List.mem_cons.1 hy with rfl | hy
        · exact h7
        · exact h5 y hy
    · rintro ⟨⟨h1, h2⟩, h3⟩
      have ho := h1.ok x (by simp)
      have h0 := ho.n0
      refine ⟨⟨h2 x (by simp), ?_⟩, ⟨h1.tail, fun y hy => ?_⟩, fun y hy => h3 y (List.mem_cons_of_mem _ hy)⟩
      · unfold ctxS
        rw [(rgtS_iff x).2 ho, h3 x (by simp)]; rfl
      · have := (List.pairwise_cons.1 h1.up).1 y hy; omega
theorem dot_none (n c : Int) (h : 1 ≤ c) : dot (none0 n) c = false := by
  have : decide (c ≤ 0) = false := decide_eq_false (by omega)
  show (decide (c ≤ 0) || Nat.testBit 0 _) = false
  rw [this, Nat.zero_testBit]; rfl
theorem hasv_iff {xs : List S} (ho : OkL 64 xs) {dn dc : Nat} (hn : dn ≤ 7) (hc : dc ≤ 1048576) : hasv xs dn dc = false ↔ ∀ x ∈ xs, dotS x dn dc = false := by
  unfold hasv
  rcases Nat.lt_or_ge dc 1 with h0 | h0
  · have : dc = 0 := by omega
    subst this
    simp [dotS]
  · have e1 : decide (0 ≤ ((dn : Nat) : Int) ∧ ((dn : Nat) : Int) < 8) = true := decide_eq_true (by omega)
    have e2 : decide (1 ≤ ((dc : Nat) : Int) ∧ ((dc : Nat) : Int) ≤ 1048576) = true := decide_eq_true (by omega)
    rw [e1, e2, Bool.true_and, Bool.true_and]
    have e3 : decide (1 ≤ dc) = true := decide_eq_true h0
    clear e1 e2
    induction xs with
    | nil => simp [ofn, dot_none _ _ (show (1 : Int) ≤ dc by omega)]
    | cons x l ih =>
      have ih := ih ho.tail
      unfold ofn
      by_cases hx : x.n = (dn : Int)
      · rw [if_pos hx]
        constructor
        · intro h y hy
          rcases List.mem_cons.1 hy with rfl | hy
          · unfold dotS; rw [h, Bool.and_false]
          · have := (List.pairwise_cons.1 ho.up).1 y hy
            unfold dotS
            rw [decide_eq_false (show ¬ (y.n = (dn : Int)) by omega)]; rfl
        · intro h
          have := h x (by simp)
          unfold dotS at this
          rw [decide_eq_true hx, e3] at this
          simpa using this
      · rw [if_neg hx]
        constructor
        · intro h y hy
          rcases List.mem_cons.1 hy with rfl | hy
          · unfold dotS; rw [decide_eq_false hx]; rfl
          · exact ih.1 h y hy
        · exact fun h => ih.2 (fun y hy => h y (List.mem_cons_of_mem _ hy))
/-! what is refused when a page is built -/
/-- a write that can be stored -/
structure Stor (r : Wr) : Prop where
  n : 0 ≤ r.n ∧ r.n ≤ 7
  c : 1 ≤ r.c ∧ r.c ≤ 1048576
  k : 1 ≤ r.k.size ∧ r.k.size ≤ 16
  v : r.vs.length ≤ mostV r.d
  x : OkL 64 r.xs
  h : hasv r.xs r.n r.c = false
/-- the write of a page -/
def cwOf (r : Wr) : Cw := ⟨r.n.toNat, r.c.toNat, r.d, r.vs, r.xs⟩
open Classical in
noncomputable def eCls : Int → List (Int × List S) → Int
  | _, [] => 0
  | lo, c :: l => if lo ≤ c.1 ∧ c.1 ≤ 15 then (if OkL 64 c.2 then eCls (c.1 + 1) l else 30) else 40
noncomputable def eClocks (g : Int) (cs : List (Int × List S)) : Int := if 0 ≤ g ∧ g ≤ 281474976710655 then (if cs.length ≤ 16 then eCls 0 cs else 71) else 1
def leastI (an ac n : Int) : Int := if n = an then ac + 1 else 1
open Classical in
noncomputable def eKeys (k : ByteArray) : Int → Int → List Wr → Int
  | _, _, [] => 0
  | an, ac, r :: l => if r.k = k then (if Stor r then (if an ≤ r.n ∧ leastI an ac r.n ≤ r.c then eKeys k r.n r.c l else 1) else 52) else 50
noncomputable def eKey1 (r : Wr) (l : List Wr) : Int := if (r :: l).length ≤ 8 then (if 1 ≤ r.k.size ∧ r.k.size ≤ 16 then eKeys r.k 0 0 (r :: l) else 50) else 71
noncomputable def eKey : List Wr → Int
  | [] => 1
  | r :: l => eKey1 r l
open Classical in
noncomputable def eHint (o : Int) (r : Wr) : Int := if 0 ≤ o ∧ o ≤ 7 then (if 1 ≤ r.k.size ∧ r.k.size ≤ 16 then (if Stor r then 0 else 52) else 50) else 4
def clOf (cs : List (Int × List S)) : List (Nat × List S) := cs.map (fun c => (c.1.toNat, c.2))
def pcC (g : Int) (cs : List (Int × List S)) : Pc := .clocks g.toNat (clOf cs)
def pcK (rs : List Wr) : Pc := .key (bsk (rs.headD Wr.z0).k) (rs.map cwOf)
  where Wr.z0 : Wr := ⟨0, 0, ⟨#[]⟩, false, [], []⟩
def pcH (o : Int) (r : Wr) : Pc := .hint o.toNat (bsk r.k) (cwOf r)
theorem VCl_of : ∀ {cs : List (Int × List S)} {lo : Int}, 0 ≤ lo → eCls lo cs = 0 → VCl lo.toNat (clOf cs)
  | [], lo, h0, h => trivial
  | c :: l, lo, h0, h => by
    unfold eCls at h
    split at h
    · rename_i h1
      split at h
      · rename_i h2
        have ih := VCl_of (cs := l) (lo := c.1 + 1) (by omega) h
        refine ⟨⟨by show lo.toNat ≤ c.1.toNat; omega, by show c.1.toNat ≤ 15; omega, h2.le8, (VSp_iff _ _).2 ⟨⟨h2, fun x hx => (h2.ok x hx).n0⟩, fun x hx => ?_⟩⟩, ?_⟩
        · show (decide _ && decide (1 ≤ 0) && _) = false
          simp
        · show VCl (c.1.toNat + 1) _
          rw [show c.1.toNat + 1 = (c.1 + 1).toNat from by omega]; exact ih
      · omega
    · omega
theorem VPc_C {g : Int} {cs : List (Int × List S)} (h : eClocks g cs = 0) : VPc (pcC g cs) := by
  unfold eClocks at h
  split at h
  · rename_i h1
    split at h
    · rename_i h2
      exact ⟨by omega, by unfold clOf; rw [List.length_map]; exact h2, VCl_of (lo := 0) (by omega) h⟩
    · omega
  · omega
theorem Stor.vp {r : Wr} (h : Stor r) {an ac : Nat} (h1 : (an : Int) ≤ r.n) (h2 : leastI an ac r.n ≤ r.c) : VPw an ac (cwOf r) := by
  obtain ⟨n1, n2⟩ := h.n
  obtain ⟨c1, c2⟩ := h.c
  have hh := h.h
  have en : r.n = ((r.n.toNat : Nat) : Int) := by omega
  have ec : r.c = ((r.c.toNat : Nat) : Int) := by omega
  rw [en, ec] at hh
  refine ⟨⟨by show an ≤ r.n.toNat; omega, by show r.n.toNat ≤ 7; omega⟩, ⟨?_, by show r.c.toNat ≤ _; omega⟩, h.v, h.x.le8, (VSp_iff _ _).2 ⟨⟨h.x, fun x hx => (h.x.ok x hx).n0⟩, (hasv_iff h.x (dn := r.n.toNat) (dc := r.c.toNat) (by omega) (by omega)).1 hh⟩⟩
  show leastC an ac r.n.toNat ≤ r.c.toNat
  unfold leastC
  unfold leastI at h2
  split
  · rename_i h3
    rw [if_pos (by omega)] at h2; omega
  · rename_i h3
    omega
theorem VPws_of {k : ByteArray} : ∀ {rs : List Wr} {an ac : Nat}, eKeys k an ac rs = 0 → VPws an ac (rs.map cwOf) ∧ ∀ r ∈ rs, r.k = k ∧ Stor r
  | [], an, ac, h => ⟨trivial, by simp⟩
  | r :: l, an, ac, h => by
    unfold eKeys at h
    split at h
    · rename_i h1
      split at h
      · rename_i h2
        split at h
        · rename_i h3
          have h4 := h2.n
          have h5 := h2.c
          have ih := VPws_of (rs := l) (an := r.n.toNat) (ac := r.c.toNat) (by rw [show ((r.n.toNat : Nat) : Int) = r.n from by omega, show ((r.c.toNat : Nat) : Int) = r.c from by omega]; exact h)
          refine ⟨⟨h2.vp h3.1 h3.2, ih.1⟩, fun y hy => ?_⟩
          rcases List.mem_cons.1 hy with rfl | hy
          · exact ⟨h1, h2⟩
          · exact ih.2 y hy
        · omega
      · omega
    · omega
theorem VPc_K {rs : List Wr} (h : eKey rs = 0) : VPc (pcK rs) := by
  cases rs with
  | nil => exact absurd h (by decide)
  | cons r l =>
    have h : eKey1 r l = 0 := h
    unfold eKey1 at h
    split at h
    · rename_i h1
      split at h
      · rename_i h2
        refine ⟨by show 1 ≤ (bsk r.k).length ∧ (bsk r.k).length ≤ 16; rw [bsk_len]; exact h2, ?_, (VPws_of h).1⟩
        rw [List.length_map]
        exact ⟨by simp, h1⟩
      · omega
    · omega
theorem VPc_H {o : Int} {r : Wr} (h : eHint o r = 0) : VPc (pcH o r) := by
  unfold eHint at h
  split at h
  · rename_i h1
    split at h
    · rename_i h2
      split at h
      · rename_i h3
        refine ⟨by omega, by rw [bsk_len]; exact h2, h3.vp (by have := h3.n; omega) ?_⟩
        have := h3.c
        unfold leastI; split <;> omega
      · omega
    · omega
  · omega
end Go.Proofs.Ytllhmidpphlbhaa.ds
namespace Go.Proofs.Ytllhmidpphlbhaa.ds
open Go.ChangeShapes Go.WideShapes Go.ChangeAt Go.RowKit Go.Sort
set_option linter.unusedVariables false
set_option linter.unusedSimpArgs false
theorem keepB {R D : Nat} {a b : World} {o : Obj} (h : Apart [R] a b) (hD : a.heap[D]? = some o) (hn : D ≠ R) : b.heap[D]? = some o := (h.block _ (lt_of_heap hD) (by simp; exact hn)).trans hD
theorem keep0 {D : Nat} {a b : World} {o : Obj} (h : Apart [] a b) (hD : a.heap[D]? = some o) : b.heap[D]? = some o := (h.block _ (lt_of_heap hD) (by simp)).trans hD
theorem row2v {w : World} {g : Nat} {t : TypeId} {a b : Value} (h : w.heap[g]? = some (.cells #[a, b] t (0, 0))) : w.cell? ⟨g, 0, none⟩ = some a ∧ w.cell? ⟨g, 1, none⟩ = some b := by
  refine ⟨?_, ?_⟩ <;> (rw [cell_of_row _ _ _ _ _ _ h]; rfl)
theorem row3v {w : World} {g : Nat} {t : TypeId} {a b c : Value} (h : w.heap[g]? = some (.cells #[a, b, c] t (0, 0))) : w.cell? ⟨g, 0, none⟩ = some a ∧ w.cell? ⟨g, 1, none⟩ = some b ∧ w.cell? ⟨g, 2, none⟩ = some c := by
  refine ⟨?_, ?_, ?_⟩ <;> (rw [cell_of_row _ _ _ _ _ _ h]; rfl)
set_option maxRecDepth 100000 in
theorem leastCount_ok (w : World) (an ac n : Int) (hc : -1000000000 ≤ ac ∧ ac ≤ 1000000000) : Calls Try.prog 96 #[.agg #[.int .i64 an, .int .i64 ac], .int .i64 n] w fun e w' => e = .returned (.int .i64 (leastI an ac n)) ∧ Apart [] w w' := by
  obtain ⟨X, HX⟩ : ∃ X, Hid (X = w.heap.size) := ⟨_, rfl⟩
  obtain ⟨w1, hw1⟩ : ∃ w1, w1 = w.alloc (.cells #[.int .i64 an, .int .i64 ac] 47) := ⟨_, rfl⟩
  have HA : Hid (Apart [] w w1) := by unfold Hid; rw [hw1]; exact (Apart.refl [] w).alloc _
  obtain ⟨z0, z1⟩ : w1.cell? ⟨X, 0, none⟩ = some (.int .i64 an) ∧ w1.cell? ⟨X, 1, none⟩ = some (.int .i64 ac) := row2v (t := 47) (by rw [HX.out, hw1]; exact heap_alloc_new w _)
  have hw : IntKind.i64.wrap (ac + 1) = ac + 1 := by rw [IntKind.wrap_i64]; omega
  go_enter Try.func96, Try.ntmps96
  by_cases he : n = an
  · have HE : Hid (leastI an ac n = ac + 1) := by unfold Hid leastI; rw [if_pos he]
    go_upto_region 1 with fail
    rw [← hw1, ← HX.out]
    clear hw1
    go_wp2_with fail
    go_ret
    exact ⟨by rw [HE.out]; rfl, HA.out⟩
  · have HE : Hid (leastI an ac n = 1) := by unfold Hid leastI; rw [if_neg he]
    go_upto_region 1 with fail
    rw [← hw1, ← HX.out]
    clear hw1
    go_wp2_with fail
    go_ret
    exact ⟨by rw [HE.out]; rfl, HA.out⟩
set_option maxRecDepth 100000 in
theorem isSet_page {p : Option Addr} {N cap : Nat} {xs : List S} {w : World} (h : L w p N xs) (v : Bool) (hv : v = true ↔ OkL 64 xs) : Calls Try.prog 103 #[.slice p N cap] w fun r w' => r = .returned (.bool v) ∧ Apart [] w w' := by
  have HC := fun e he => hid (check_as (cap := cap) (gap := 64) h e he)
  cases v with
  | true =>
    have h0 := HC 0 (by unfold chk; rw [if_pos (by omega), if_pos (hv.1 rfl)])
    clear HC h
    go_enter Try.func103, Try.ntmps103
    go_wp2_with fail
    refine h0.out.mono ?_
    rintro _ w' ⟨rfl, a⟩
    have HA := hid a
    clear a
    try dsimp only
    go_wp2_with fail
    go_ret
    exact ⟨rfl, HA.out⟩
  | false =>
    have h0 := HC 30 (by unfold chk; rw [if_pos (by omega), if_neg (fun k => by have := hv.2 k; cases this)])
    clear HC h
    go_enter Try.func103, Try.ntmps103
    go_wp2_with fail
    refine h0.out.mono ?_
    rintro _ w' ⟨rfl, a⟩
    have HA := hid a
    clear a
    try dsimp only
    go_wp2_with fail
    go_ret
    exact ⟨rfl, HA.out⟩
set_option maxRecDepth 100000 in
theorem isContext_ok {p : Option Addr} {N cap : Nat} {xs : List S} {w : World} (h : L w p N xs) (dn dc : Int) (v : Bool) (hv : v = true ↔ OkL 64 xs ∧ hasv xs dn dc = false) : Calls Try.prog 104 #[.slice p N cap, .agg #[.int .i64 dn, .int .i64 dc]] w fun r w' => r = .returned (.bool v) ∧ Apart [] w w' := by
  have HL := hid h
  have HV := hid hv
  obtain ⟨X, HX⟩ : ∃ X, Hid (X = w.heap.size) := ⟨_, rfl⟩
  obtain ⟨w1, hw1⟩ : ∃ w1, w1 = w.alloc (.cells #[.int .i64 dn, .int .i64 dc] 47) := ⟨_, rfl⟩
  have HA : Hid (Apart [] w w1) := by unfold Hid; rw [hw1]; exact (Apart.refl [] w).alloc _
  have HB1 : Hid (w1.heap[X]? = some (.cells #[.int .i64 dn, .int .i64 dc] 47 (0, 0))) := by unfold Hid; rw [HX.out, hw1]; exact heap_alloc_new w _
  clear h hv
  go_enter Try.func104, Try.ntmps104
  by_cases ho : OkL 64 xs
  · have HO := hid ho
    go_wp2_with fail
    rw [← hw1, ← HX.out]
    clear hw1
    refine (isSet_page (cap := cap) (HL.out.kept0 HA.out) true (by simp [HO.out])).mono ?_
    rintro _ w2 ⟨rfl, a⟩
    have HA2 := hid (HA.out.trans a)
    obtain ⟨z0, z1⟩ := row2v (keep0 a HB1.out)
    clear a
    dsimp only
    go_wp2_with fail
    clear z0 z1
    obtain ⟨u, Hu⟩ : ∃ u, Hid (u = hasv xs dn dc) := ⟨_, rfl⟩
    refine (has_any (cap := cap) dn dc (HL.out.kept0 HA2.out) u (by rw [Hu.out, norm_of HO.out])).mono ?_
    rintro _ w3 ⟨rfl, a⟩
    have HA3 := hid (HA2.out.trans a)
    clear a
    dsimp only
    have hvu : v = !u := by
      have h1 := HV.out
      rw [← Hu.out] at h1
      cases u <;> cases v <;> simp_all [HO.out]
    cases u
    · subst hvu
      go_wp2_with fail
      go_ret
      exact ⟨rfl, HA3.out⟩
    · subst hvu
      go_wp2_with fail
      go_ret
      exact ⟨rfl, HA3.out⟩
  · have HO := hid ho
    have hvf : v = false := by cases v with
      | false => rfl
      | true => exact absurd (HV.out.1 rfl).1 ho
    subst hvf
    go_wp2_with fail
    rw [← hw1, ← HX.out]
    clear hw1
    refine (isSet_page (cap := cap) (HL.out.kept0 HA.out) false (by simp [HO.out])).mono ?_
    rintro _ w2 ⟨rfl, a⟩
    have HA2 := hid (HA.out.trans a)
    clear a
    dsimp only
    go_wp2_with fail
    go_ret
    exact ⟨rfl, HA2.out⟩
end Go.Proofs.Ytllhmidpphlbhaa.ds
namespace Go.Proofs.Ytllhmidpphlbhaa.ds
open Go.ChangeShapes Go.WideShapes Go.ChangeAt Go.RowKit Go.Sort
set_option linter.unusedVariables false
set_option linter.unusedSimpArgs false
theorem byts_app (a b : List Nat) : byts (a ++ b) = byts a ++ byts b := by unfold byts; rw [List.map_append]
theorem byts_len (a : List Nat) : (byts a).length = a.length := by unfold byts; rw [List.length_map]
/-- a page that is being written: block g -/
structure PB (wB w : World) (g : Nat) (us : List Nat) : Prop where
  blk : w.heap[g]? = some (.cells (byts (pad us)).toArray 5 (0, 0))
  len : us.length ≤ 2048
  new : wB.heap.size ≤ g
  ap : Apart [] wB w
theorem PB.kept {wB w w' : World} {g : Nat} {us : List Nat} {X : List Nat} (h : PB wB w g us) (a : Apart X w w') (hg : g ∉ X) (hX : ∀ x ∈ X, wB.heap.size ≤ x) : PB wB w' g us :=
  { h with blk := (a.block _ (lt_of_heap h.blk) hg).trans h.blk, ap := h.ap.trans' a (fun y hy => .inr (hX y hy)) }
theorem PB.kept0 {wB w w' : World} {g : Nat} {us : List Nat} (h : PB wB w g us) (a : Apart [] w w') : PB wB w' g us := h.kept a (by simp) (by simp)
theorem pad_spl {us news : List Nat} (h : us.length + news.length ≤ 2048) : spl (byts (pad us)).toArray us.length (byts news) = (byts (pad (us ++ news))).toArray := by
  have hl := pad_len (l := us) (by omega)
  rw [spl_list _ _ _ (by rw [byts_len, byts_len, hl]; omega)]
  congr 1
  unfold byts
  rw [← List.map_take, ← List.map_drop, ← List.map_append, ← List.map_append, List.length_map]
  congr 1
  unfold pad
  rw [List.take_left' rfl, List.drop_append, List.drop_eq_nil_of_le (by omega), List.nil_append, List.drop_replicate, List.length_append]
  congr 2
  omega
/-- bytes more, that stand somewhere else -/
theorem PB.app {wB w : World} {g : Nat} {us : List Nat} (h : PB wB w g us) (news : List Nat) (a : Addr) (c : Nat) (hn : ∀ j u, (byts news)[j]? = some u → w.cell? (a.add j) = some u) (hl : us.length + news.length ≤ 2048) :
    ∃ W', (Builtin.append_ #[28, 28] 28 #[.slice (some ⟨g, 0, none⟩) us.length 2048, .slice (some a) news.length c]).run Try.prog w = .ok (.slice (some ⟨g, 0, none⟩) (us ++ news).length 2048) W' ∧ PB wB W' g (us ++ news) ∧ Apart [g] w W' := by
  obtain ⟨i0, hif, hz0, hz1, hz2⟩ := info_parts infoB
  have hp := pad_len h.len
  have hr := run_append_room_cells (P := Try.prog) w 28 28 5 i0 Try.underlying28 hif g 0 us.length 2048 a news.length c (byts news) (by rw [byts_len, hz1, Nat.mul_one]) hn (oneB _) hl
    (fun j hj => by rw [byts_len] at hj; rw [cell_of_row _ _ _ _ _ _ h.blk, hz1, Array.getElem?_eq_getElem (by rw [List.size_toArray, byts_len, hp]; omega)]; rfl)
    (fun j hj => frozen_of_row _ _ _ _ _ h.blk)
  rw [hz1, Nat.zero_add, Nat.mul_one] at hr
  have hb := heap_setCells_same (byts news) us.length w _ h.blk
  rw [pad_spl hl] at hb
  have ha : Apart [g] w (w.setCells g us.length (byts news)) := apart_setCells _ _ _ (Apart.refl _ _) (.inl (by simp))
  exact ⟨_, by rw [List.length_append]; exact hr, ⟨hb, by rw [List.length_append]; exact hl, h.new, h.ap.trans' ha (by intro y hy; simp at hy; rw [hy]; exact .inr h.new)⟩, ha⟩
/-- one byte more -/
theorem PB.app1 {wB w : World} {g : Nat} {us : List Nat} (h : PB wB w g us) (x : Nat) (hl : us.length + 1 ≤ 2048) :
    ∃ W', (Builtin.append_ #[28, 28] 28 #[.slice (some ⟨g, 0, none⟩) us.length 2048, .slice (some ⟨w.heap.size, 0, none⟩) 1 1]).run Try.prog (w.alloc (Obj.cells #[.int .u8 (x : Int)] 5)) = .ok (.slice (some ⟨g, 0, none⟩) (us ++ [x]).length 2048) W' ∧ PB wB W' g (us ++ [x]) ∧ Apart [g] w W' := by
  have a : Apart [] w (w.alloc (Obj.cells #[.int .u8 (x : Int)] 5)) := (Apart.refl [] w).alloc _
  obtain ⟨W', h1, h2, h3⟩ := (h.kept0 a).app [x] ⟨w.heap.size, 0, none⟩ 1 (fun j u hj => by
    cases j with
    | zero =>
      simp [byts] at hj
      rw [← hj, Addr.add_mid, cell_of_row _ _ _ _ _ _ (heap_alloc_new w _)]; rfl
    | succ j => simp [byts] at hj) hl
  exact ⟨W', h1, h2, (a.mono (by simp)).trans h3⟩
theorem strCells_byts (k : ByteArray) : Lib.strCells k = byts (bsk k) := by
  unfold Lib.strCells byts bsk
  rw [ByteArray.toList_eq, List.map_map]
  rfl
/-- a text more -/
theorem PB.appS {wB w : World} {g : Nat} {us : List Nat} (h : PB wB w g us) (k : ByteArray) (hl : us.length + k.size ≤ 2048) :
    ∃ W', (Builtin.append_ #[28, 9] 28 #[.slice (some ⟨g, 0, none⟩) us.length 2048, .string k]).run Try.prog w = .ok (.slice (some ⟨g, 0, none⟩) (us ++ bsk k).length 2048) W' ∧ PB wB W' g (us ++ bsk k) ∧ Apart [g] w W' := by
  obtain ⟨i0, hif, hz0, hz1, hz2⟩ := info_parts infoB
  have hp := pad_len h.len
  have hkl := bsk_len k
  have hr := Lib.run_append_room_string (P := Try.prog) w 28 9 28 5 i0 Try.underlying28 Try.underlying9 hif hz1 g us.length 2048 _ h.blk k hl (by rw [List.size_toArray, byts_len, hp]; exact hl)
  have hs := pad_spl (us := us) (news := bsk k) (by omega)
  rw [spl_list _ _ _ (by rw [byts_len, byts_len, hp]; omega), byts_len, hkl] at hs
  rw [strCells_byts] at hr
  have e : ((byts (pad us)).toArray.toList.take us.length ++ byts (bsk k) ++ (byts (pad us)).toArray.toList.drop (us.length + k.size)).toArray = (byts (pad (us ++ bsk k))).toArray := hs
  rw [e] at hr
  have hb : (w.setRow g (byts (pad (us ++ bsk k))).toArray).heap[g]? = some (.cells (byts (pad (us ++ bsk k))).toArray 5 (0, 0)) := setRow_heap w g _ _ 5 (0, 0) h.blk
  have ha : Apart [g] w (w.setRow g (byts (pad (us ++ bsk k))).toArray) := ⟨rfl, rfl, rfl, by rw [setRow_size]; exact Nat.le_refl _, fun j hj hx => setRow_other w g j _ (by simp at hx; exact hx)⟩
  exact ⟨_, by rw [List.length_append, hkl]; exact hr, ⟨hb, by rw [List.length_append]; omega, h.new, h.ap.trans' ha (by intro y hy; simp at hy; rw [hy]; exact .inr h.new)⟩, ha⟩
end Go.Proofs.Ytllhmidpphlbhaa.ds
namespace Go.Proofs.Ytllhmidpphlbhaa.ds
open Go.ChangeShapes Go.WideShapes Go.ChangeAt Go.RowKit Go.Sort
set_option linter.unusedVariables false
set_option linter.unusedSimpArgs false
/-- what an appending call leaves: the page with more bytes -/
structure PA (wB w w' : World) (g : Nat) (us : List Nat) (e : Ending) : Prop where
  e : e = .returned (.slice (some ⟨g, 0, none⟩) us.length 2048)
  b : PB wB w' g us
  a : Apart [g] w w'
theorem made1 (z : Value) (n : Nat) : madeCells #[z] n = (List.replicate n z).toArray := by
  unfold madeCells
  apply Array.ext
  · simp
  · intro i h1 h2
    simp
    rw [show i % 1 = 0 from by omega]; rfl
theorem zeros_made : (madeCells #[Value.int .u8 0] 2048) = (byts (pad [])).toArray := by
  rw [made1]
  unfold byts pad
  rw [List.nil_append, List.map_replicate]
  rfl
theorem infoB5 : (Try.prog.info? 5).map (fun i => (i.zero, i.size, i.bytes)) = some (some (.int .u8 0), 1, 1) := by kernel_rfl
set_option maxHeartbeats 4000000 in
set_option maxRecDepth 100000 in
theorem begun_ok (w : World) (k : Nat) : Calls Try.prog 66 #[.int .u8 (k : Nat)] w fun e w' => PA w w w' w.heap.size [k] e ∧ Apart [] w w' := by
  obtain ⟨i0, hif, hz0, hz1, hz2⟩ := info_parts infoB5
  have hm : (Instr.makeSlice 28 (.int .i64 0) (.int .i64 2048)).run Try.prog w = .ok (.slice (some ⟨w.heap.size, 0, none⟩) 0 2048) (w.alloc (.cells (byts (pad [])).toArray 5)) := by
    have := run_make (P := Try.prog) w 28 5 i0 (.int .u8 0) Try.underlying28 hif hz0 .i64 .i64 0 2048 (by omega) (by omega) (by rw [hz2]; decide) (by decide)
    rw [hz1] at this
    rw [← zeros_made]; exact this
  obtain ⟨g, Hg⟩ : ∃ g, Hid (g = w.heap.size) := ⟨_, rfl⟩
  obtain ⟨w1, hw1⟩ : ∃ W, W = w.alloc (.cells (byts (pad [])).toArray 5) := ⟨_, rfl⟩
  have HA1 : Hid (Apart [] w w1) := by unfold Hid; rw [hw1]; exact (Apart.refl [] w).alloc _
  have HB1 : Hid (PB w w1 g []) := ⟨by rw [Hg.out, hw1]; exact heap_alloc_new w _, by simp, by rw [Hg.out]; exact Nat.le_refl _, HA1.out⟩
  obtain ⟨W', h1, h2, h3⟩ := HB1.out.app1 k (by simp)
  have HRUN := hid h1
  have HB2 := hid h2
  have HA2 := hid h3
  rw [← hw1, ← Hg.out] at hm
  rw [← Hg.out]
  clear h1 h2 h3 hif hz0 hz1 hz2 i0 hw1
  go_enter Try.func66, Try.ntmps66
  go_wp2_with (at_builtin; refine wpList_app2 rfl (.tmp 3) (.tmp 5) 28 28 rfl _ _ rfl rfl _ _ HRUN.out ?_)
  go_ret
  have ha : Apart [] w W' := HA1.out.trans' HA2.out (by intro y hy; simp at hy; rw [hy, Hg.out]; exact .inr (Nat.le_refl _))
  exact ⟨⟨rfl, HB2.out, ha.mono (by simp)⟩, ha⟩
set_option maxRecDepth 100000 in
theorem whole_ok {wB w : World} {g : Nat} {us : List Nat} (h : PB wB w g us) : Calls Try.prog 69 #[.slice (some ⟨g, 0, none⟩) us.length 2048] w fun e w' => e = .returned (.slice (some ⟨g, 0, none⟩) 2048 2048) ∧ w' = w := by
  have hl := h.len
  clear h
  go_enter Try.func69, Try.ntmps69
  go_wp2_with fail
  go_ret
  exact ⟨rfl, rfl⟩
set_option maxRecDepth 100000 in
theorem deadByte_ok (w : World) (d : Bool) : Calls Try.prog 94 #[.bool d] w fun e w' => e = .returned (.int .u8 (if d = true then 1 else 0)) ∧ w' = w := by
  cases d
  · go_enter Try.func94, Try.ntmps94
    go_wp2_with fail
    go_ret
    exact ⟨rfl, rfl⟩
  · go_enter Try.func94, Try.ntmps94
    go_wp2_with fail
    go_ret
    exact ⟨rfl, rfl⟩
theorem encN_succ : ∀ (k n : Nat), encN (k + 1) n = encN k n ++ [n / 256 ^ k % 256]
  | 0, n => by simp [encN]
  | k + 1, n => by
    have ih := encN_succ k (n / 256)
    show n % 256 :: encN (k + 1) (n / 256) = n % 256 :: encN k (n / 256) ++ [n / 256 ^ (k + 1) % 256]
    rw [ih, Nat.div_div_eq_div_mul, Nat.pow_succ, Nat.mul_comm 256]
    rfl
set_option maxHeartbeats 4000000 in
set_option maxRecDepth 100000 in
theorem anum_ok {wB w : World} {g : Nat} {us : List Nat} (h : PB wB w g us) (n k : Nat) (hn : n < 18446744073709551616) (hk : us.length + k ≤ 2048) : Calls Try.prog 89 #[.slice (some ⟨g, 0, none⟩) us.length 2048, .int .u64 (n : Nat), .int .i64 (k : Nat)] w fun e w' => PA wB w w' g (us ++ encN k n) e := by
  have HB := hid h
  clear h
  go_enter Try.func89, Try.ntmps89
  go_wp2_with fail
  go_loopw [0, 1, 8] (fun a b c wt => ∃ (i : Nat), a = .slice (some ⟨g, 0, none⟩) (us ++ encN i n).length 2048 ∧ b = .int .u64 ((n / 256 ^ i : Nat) : Int) ∧ c = .int .i64 (i : Nat) ∧ i ≤ k ∧ PB wB wt g (us ++ encN i n) ∧ Apart [g] w wt) (fun _ _ c _ => k - (intOf c).toNat)
  case atStart => exact ⟨0, by simp [encN], by simp, rfl, Nat.zero_le _, by simpa [encN] using HB.out, Apart.refl _ _⟩
  case round =>
    obtain ⟨i, rfl, rfl, rfl, hi, hb, ha⟩ := hrel
    have HB1 := hid hb
    have HA1 := hid ha
    clear hb ha
    by_cases hlt : i < k
    · have hlti : ((i : Nat) : Int) < (k : Int) := by omega
      obtain ⟨m, Hm⟩ : ∃ m, Hid (m = n / 256 ^ i) := ⟨_, rfl⟩
      have hm64 : m < 18446744073709551616 := by rw [Hm.out]; exact Nat.lt_of_le_of_lt (Nat.div_le_self _ _) hn
      rw [← Hm.out]
      obtain ⟨x, Hx⟩ : ∃ x, Hid (x = m % 256) := ⟨_, rfl⟩
      have hw8 : IntKind.u8.wrap (m : Int) = (x : Int) := by rw [IntKind.wrap_u8, Hx.out]; omega
      obtain ⟨m2, Hm2⟩ : ∃ m2, Hid (m2 = m / 256) := ⟨_, rfl⟩
      have hl := encN_len i n
      obtain ⟨W', h1, h2, h3⟩ := HB1.out.app1 x (by rw [List.length_append, hl]; omega)
      have HRUN := hid h1
      have HE : Hid (us ++ encN i n ++ [x] = us ++ encN (i + 1) n) := by unfold Hid; rw [encN_succ, Hx.out, Hm.out, List.append_assoc]
      have HB2 : Hid (PB wB W' g (us ++ encN (i + 1) n)) := by unfold Hid; rw [← HE.out]; exact h2
      have HA2 := hid (HA1.out.trans h3)
      rw [HE.out] at HRUN
      have HM3 : Hid (m2 = n / 256 ^ (i + 1)) := by unfold Hid; rw [Hm2.out, Hm.out, Nat.div_div_eq_div_mul, Nat.pow_succ]
      clear h1 h2 h3
      generalize us ++ encN i n = vs at *
      obtain ⟨vs2, Hvs⟩ : ∃ vs2, Hid (vs2 = us ++ encN (i + 1) n) := ⟨_, rfl⟩
      rw [← Hvs.out] at HRUN
      go_wp2_with (at_builtin; refine wpList_app2 rfl (.tmp 10) (.tmp 13) 28 28 rfl _ _ rfl rfl _ _ HRUN.out ?_)
      go_roundw
      case rel => exact ⟨i + 1, by rw [Hvs.out], by rw [← HM3.out, Hm2.out, Int.natCast_ediv]; rfl, by go_num, by omega, HB2.out, HA2.out⟩
      case measure => simp [intOf]; omega
    · have hlti : ¬ ((i : Nat) : Int) < (k : Int) := by omega
      have hik : i = k := by omega
      obtain ⟨vs, Hvs⟩ : ∃ vs, Hid (vs = us ++ encN i n) := ⟨_, rfl⟩
      rw [← Hvs.out] at HB1 ⊢
      go_wp2_with fail
      go_ret
      rw [← hik, ← Hvs.out]
      exact ⟨rfl, HB1.out, HA1.out⟩
end Go.Proofs.Ytllhmidpphlbhaa.ds
namespace Go.Proofs.Ytllhmidpphlbhaa.ds
open Go.ChangeShapes Go.WideShapes Go.ChangeAt Go.RowKit Go.Sort
set_option linter.unusedVariables false
set_option linter.unusedSimpArgs false
theorem encN1 {n : Nat} (h : n < 256) : encN 1 n = [n] := by simp [encN]; omega
set_option maxHeartbeats 4000000 in
set_option maxRecDepth 100000 in
theorem atextS_ok {wB w : World} {g : Nat} {us : List Nat} (h : PB wB w g us) (k : ByteArray) (hk : k.size ≤ 255) (hl : us.length + 1 + k.size ≤ 2048) : Calls Try.prog 68 #[.slice (some ⟨g, 0, none⟩) us.length 2048, .string k] w fun e w' => PA wB w w' g (us ++ (encN 1 (bsk k).length ++ bsk k)) e := by
  have HE : Hid (us ++ (encN 1 (bsk k).length ++ bsk k) = us ++ [k.size] ++ bsk k) := by unfold Hid; rw [bsk_len, encN1 (by omega), List.append_assoc]
  have hw8 : IntKind.u8.wrap (k.size : Int) = (k.size : Int) := by rw [IntKind.wrap_u8]; omega
  obtain ⟨W1, h1, h2, h3⟩ := h.app1 k.size (by omega)
  obtain ⟨W2, h4, h5, h6⟩ := h2.appS k (by rw [List.length_append]; simp; omega)
  have HR1 := hid h1
  have HR2 := hid h4
  have HB := hid h5
  have HA := hid (h3.trans h6)
  clear h h1 h2 h3 h4 h5 h6
  rw [HE.out]
  clear HE
  generalize us ++ [k.size] ++ bsk k = vs2 at *
  generalize us ++ [k.size] = vs1 at *
  go_enter Try.func68, Try.ntmps68
  go_wp2_with (at_builtin; first | refine wpList_app2 rfl (.tmp 5) (.tmp 9) 28 28 rfl _ _ rfl rfl _ _ HR1.out ?_ | refine wpList_app2 rfl (.tmp 10) (.tmp 11) 28 9 rfl _ _ rfl rfl _ _ HR2.out ?_)
  go_ret
  exact ⟨rfl, HB.out, HA.out⟩
set_option maxHeartbeats 4000000 in
set_option maxRecDepth 100000 in
theorem atextB_ok {wB w : World} {g : Nat} {us : List Nat} (h : PB wB w g us) (s : Sl) (vs : List Nat) (hv : Rd wB s.p (byts vs)) (hn : vs.length = s.n) (ho : s.ok) (hk : vs.length ≤ 255) (hl : us.length + 1 + vs.length ≤ 2048) : Calls Try.prog 95 #[.slice (some ⟨g, 0, none⟩) us.length 2048, .slice s.p s.n s.c] w fun e w' => PA wB w w' g (us ++ (encN 1 vs.length ++ vs)) e := by
  have HE : Hid (us ++ (encN 1 vs.length ++ vs) = us ++ [s.n] ++ vs) := by unfold Hid; rw [hn, encN1 (by omega), List.append_assoc]
  have hw8 : IntKind.u8.wrap (s.n : Int) = (s.n : Int) := by rw [IntKind.wrap_u8]; omega
  obtain ⟨W1, h1, h2, h3⟩ := h.app1 s.n (by omega)
  have HR1 := hid h1
  have hv1 := hv.kept0 h2.ap
  have HR2 : Hid (∃ W2, (Builtin.append_ #[28, 28] 28 #[.slice (some ⟨g, 0, none⟩) (us ++ [s.n]).length 2048, .slice s.p s.n s.c]).run Try.prog W1 = .ok (.slice (some ⟨g, 0, none⟩) (us ++ [s.n] ++ vs).length 2048) W2 ∧ PB wB W2 g (us ++ [s.n] ++ vs) ∧ Apart [g] W1 W2) := by
    unfold Hid
    obtain ⟨p, n, c⟩ := s
    dsimp only at *
    cases p with
    | some a =>
      have hc : ∀ j u, (byts vs)[j]? = some u → W1.cell? (a.add j) = some u := fun j u hj => by
        have hjl : 0 < (byts vs).length := by
          cases hx : byts vs with
          | nil => rw [hx] at hj; simp at hj
          | cons => simp
        obtain ⟨P, o, e, hP, hcc⟩ := hv1 hjl
        simp at e
        rw [e, Addr.add_mid]; exact hcc j u hj
      have := h2.app vs a c hc (by rw [List.length_append]; simp; omega)
      rw [hn] at this; exact this
    | none =>
      obtain ⟨hn0, hc0⟩ := ho rfl
      dsimp only at hn0 hc0
      subst hn0 hc0
      have hv0 : vs = [] := List.length_eq_zero_iff.1 hn
      subst hv0
      obtain ⟨i0, hif, hz0, hz1, hz2⟩ := info_parts infoB
      refine ⟨W1, ?_, by simpa using h2, Apart.refl _ _⟩
      simp [Builtin.append_, run_underlying Try.underlying28, sizeOf, typeInfo, hif, Builtin.lenOf, Builtin.firstCells]
      rw [if_pos (by simp at hl; omega)]
      rfl
  obtain ⟨W2, h4, h5, h6⟩ := HR2.out
  have HR2 := hid h4
  have HB := hid h5
  have HA := hid (h3.trans h6)
  clear h h1 h2 h3 h4 h5 h6 hv hv1
  rw [HE.out]
  clear HE
  generalize us ++ [s.n] ++ vs = vs2 at *
  generalize us ++ [s.n] = vs1 at *
  go_enter Try.func95, Try.ntmps95
  go_wp2_with (at_builtin; first | refine wpList_app2 rfl (.tmp 5) (.tmp 9) 28 28 rfl _ _ rfl rfl _ _ HR1.out ?_ | refine wpList_app2 rfl (.tmp 10) (.tmp 11) 28 28 rfl _ _ rfl rfl _ _ HR2.out ?_)
  go_ret
  exact ⟨rfl, HB.out, HA.out⟩
end Go.Proofs.Ytllhmidpphlbhaa.ds
namespace Go.Proofs.Ytllhmidpphlbhaa.ds
open Go.ChangeShapes Go.WideShapes Go.ChangeAt Go.RowKit Go.Sort
set_option linter.unusedVariables false
set_option linter.unusedSimpArgs false

set_option maxHeartbeats 4000000 in
set_option maxRecDepth 100000 in
theorem above_ok (w : World) (an ac bn bc : Int) (v : Bool) (hv : v = true ↔ an > bn ∨ (an = bn ∧ ac > bc)) : Calls Try.prog 86 #[.agg #[.int .i64 an, .int .i64 ac], .agg #[.int .i64 bn, .int .i64 bc]] w fun e w' => e = .returned (.bool v) ∧ Apart [] w w' := by
  have HV := hid hv
  obtain ⟨X, HXX⟩ : ∃ X, Hid (X = w.heap.size) := ⟨_, rfl⟩
  obtain ⟨w1, hw1⟩ : ∃ W, W = w.alloc (.cells #[.int .i64 an, .int .i64 ac] 47) := ⟨_, rfl⟩
  have HX1 : Hid (w1.heap[X]? = some (.cells #[.int .i64 an, .int .i64 ac] 47 (0, 0))) := by unfold Hid; rw [HXX.out, hw1]; exact heap_alloc_new w _
  have HA1 : Hid (Apart [] w w1) := by unfold Hid; rw [hw1]; exact (Apart.refl [] w).alloc _
  obtain ⟨Y, HXY⟩ : ∃ X, Hid (X = w1.heap.size) := ⟨_, rfl⟩
  obtain ⟨w2, hw2⟩ : ∃ W, W = w1.alloc (.cells #[.int .i64 bn, .int .i64 bc] 47) := ⟨_, rfl⟩
  have HY2 : Hid (w2.heap[Y]? = some (.cells #[.int .i64 bn, .int .i64 bc] 47 (0, 0))) := by unfold Hid; rw [HXY.out, hw2]; exact heap_alloc_new w1 _
  have HS2 : Hid (Apart [] w1 w2) := by unfold Hid; rw [hw2]; exact (Apart.refl [] w1).alloc _
  have HX2 := hid (keep0 HS2.out HX1.out)
  have HA2 := hid (HA1.out.trans HS2.out)
  have heY : X + 1 = Y := by rw [HXY.out, hw1, HXX.out]; exact (Array.size_push _).symm
  have no : ¬ (an > bn ∨ (an = bn ∧ ac > bc)) → v = false := fun h => by
    cases v with
    | false => rfl
    | true => exact absurd (HV.out.1 rfl) h
  clear hv
  go_enter Try.func86, Try.ntmps86
  go_upto_region 1 with fail
  rw [← hw1, ← HXX.out, heY, ← hw2]
  clear hw1 HXX hw2 HXY heY
  obtain ⟨x0, x1⟩ := row2v HX2.out
  obtain ⟨y0, y1⟩ := row2v HY2.out
  by_cases h1 : an > bn
  · have hv : v = true := HV.out.2 (.inl h1)
    subst hv
    clear no
    go_wp2_with fail
    go_ret
    exact ⟨rfl, HA2.out⟩
  · by_cases h2 : an = bn
    · by_cases h3 : ac > bc
      · have hv : v = true := HV.out.2 (.inr ⟨h2, h3⟩)
        subst hv
        clear no
        go_wp2_with fail
        go_ret
        exact ⟨rfl, HA2.out⟩
      · have hv : v = false := no (by omega)
        subst hv
        clear no
        go_wp2_with fail
        go_ret
        exact ⟨rfl, HA2.out⟩
    · have hv : v = false := no (by omega)
      subst hv
      clear no
      go_wp2_with fail
      go_ret
      exact ⟨rfl, HA2.out⟩
end Go.Proofs.Ytllhmidpphlbhaa.ds
