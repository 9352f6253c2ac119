import Derived.Deep.RegionHeld
import Derived.OrdersHeld
import Derived.WalkKit
import Derived.ProofKit
import Derived.Lib.TrailingZeros
import Derived.Test.YtllhmidpphlbhaaChecked
import Derived.OpenShut
import Derived.Deep.QuietTactic
import Derived.BigQuiet
import Derived.BigRegion
import Derived.Laws.CopyOwn
import Derived.Laws.Bits64b
import Derived.Laws.MathBits
import Derived.Laws.ShiftsVarLaws
import Derived.WalkSmall
import Derived.Laws.ResultCell
import Derived.Lib.BitFns
import Derived.Laws.StructEq
import Derived.ArgAppend
import Derived.Deep.RegionLaw
import Derived.Deep.DeepAppendRoom
import Derived.Sort.WalkA
import Derived.Laws.Strings
import Derived.Deep.CutBlock
import Derived.Great.BuildSlice
import Derived.Laws.AppendOwnNone
import Derived.Lib.Overlaps
import Derived.Lib.AppendZerosOnto
import Derived.Laws.NewBlocks
import Derived.Laws.Externs
import Derived.Laws.IdiomCopy
import Derived.Laws.BytesString
import Derived.Deep.CutRange
import Derived.RangeFuncNested
import Derived.RangeFuncBound
import Derived.RangeFuncCalls
import Derived.RangeFuncLeaves
import Derived.Shelf.Abstract
import Derived.Shelf.RegionOpen
import Derived.OwnWalkIn
import Derived.TacticsInMore
import Derived.LoopNIn
import Derived.LoopIn
import GoSem.Claim
import GoSem.ClaimJoined
import GoSem.ClaimMapViews
import Derived.JoinedTies
import Derived.KernelRfl
import Derived.Deep.OwnRows
import Derived.Lib.LaidTab
import Derived.JoinedCond
import Derived.ShutString
import Derived.ChangeOld
import Derived.Below
import Derived.Carry
import Derived.ChangeSlices
import Derived.Deep.Slices
import Derived.Deep.DeepHandedRow
import Derived.RowKit
import Derived.ChangeShapes
import Derived.SizedLaws
import Derived.ChangeMaps5
import Derived.Lib.Walk
import Derived.Lib.SliceRun
import Derived.Lib.AppendStr
import Derived.Lib.ConvBytes
import Derived.Deep.RegionHeld3
import Derived.Deep.MidRow
import Derived.Laws.MakeOwn
import Derived.Lib.SlBytesConst
import Derived.Test.YtllhmidpphlbhaaRows
import Derived.Test.YtllhmidpphlbhaaF18
namespace Go.Proofs.Ytllhmidpphlbhaa.ds
open Go.ChangeShapes Go.WideShapes Go.ChangeAt Go.RowKit Go.Sort
set_option linter.unusedVariables false
set_option linter.unusedSimpArgs false
theorem flat_snoc (l : List S) (x : S) : flat (l ++ [x]) = flat l ++ [.int .i64 x.n, .int .i64 x.b, .int .u64 (x.t : Int)] := by simp [flat, ec]
theorem Rd.pre {w : World} {p : Option Addr} {us vs : List Value} (h : Rd w p (us ++ vs)) : Rd w p us := by
  intro h0
  obtain ⟨P, o, e, hP, hc⟩ := h (by simp; omega)
  refine ⟨P, o, e, hP, fun j u hj => hc j u ?_⟩
  have hj' : j < us.length := by
    by_cases hq : j < us.length
    · exact hq
    · rw [List.getElem?_eq_none (by omega)] at hj; cases hj
  rw [List.getElem?_append_left hj']
  exact hj
/-- a row of one's own: its block -/
theorem Nw.blk {w W : World} {e size : Nat} {s : Sl} {us : List Value} (h : Nw w W e size s us) (h0 : 0 < s.n) : ∃ g cur, s.p = some ⟨g, 0, none⟩ ∧ s.v.ownBlock = some g ∧ W.heap[g]? = some (.cells cur e (0, 0)) ∧ s.n ≤ s.c ∧ cur.size = s.c * size ∧ cur.toList.take (s.n * size) = us ∧ w.heap.size ≤ g ∧ s.c ≤ maxLen := by
  obtain ⟨hl, ⟨hv, hz⟩ | ⟨gB, cap, cur, hv, hb, hr, hle, hm, hs, ht⟩⟩ := h.own
  · omega
  have hv' := hv
  unfold Sl.v at hv'
  simp at hv'
  obtain ⟨hp, hc⟩ := hv'
  have ho : s.v.ownBlock = some gB := by rw [hv]; rfl
  exact ⟨gB, cur, hp, ho, hr, by omega, by rw [hs, hc], ht, h.new gB ho, by omega⟩
/-- .. written over, whatever with -/
theorem Nw.over {w W W' : World} {e size : Nat} {s : Sl} {us : List Value} (h : Nw w W e size s us) (h0 : 0 < s.n) {g : Nat} {cur : Array Value} (hp : s.p = some ⟨g, 0, none⟩) (hc : cur.size = s.c * size) (hb : W'.heap[g]? = some (.cells cur e (0, 0))) (a : Apart [g] W W') : Nw w W' e size s (cur.toList.take (s.n * size)) := by
  obtain ⟨g', cur', hp', ho, hr, hle, hs, ht, hnew, hmx⟩ := h.blk h0
  have : g' = g := by rw [hp] at hp'; simp at hp'; exact hp'.symm
  subst this
  have hsn : s.n * size ≤ s.c * size := Nat.mul_le_mul_right _ hle
  refine ⟨⟨by rw [List.length_take, Array.length_toList, hc]; omega, .inr ⟨g', s.c, cur, by unfold Sl.v; rw [hp], Nat.zero_le _, hb, hle, hmx, hc, rfl⟩⟩, h.new, h.ap.trans' a (fun y hy => by simp at hy; exact .inr (by omega))⟩
/-- bytes that can be read -/
structure RBs (w : World) (s : Sl) (bs : List Nat) : Prop where
  rd : Rd w s.p (byts bs)
  len : bs.length = s.n
  b8 : ∀ b ∈ bs, b < 256
  ok : s.ok
theorem RBs.kept0 {w w' : World} {s : Sl} {bs : List Nat} (h : RBs w s bs) (a : Apart [] w w') : RBs w' s bs := { h with rd := h.rd.kept0 a }
theorem strB_inj {a b : List Nat} (ha : ∀ x ∈ a, x < 256) (hb : ∀ x ∈ b, x < 256) : strB a = strB b ↔ a = b := by
  constructor
  · intro h
    rw [← bsk_strB ha, h, bsk_strB hb]
  · intro h; rw [h]
theorem Bf.rbs {wB w : World} {s : Sl} {l : List Nat} (h : Bf wB w s l) (h8 : ∀ b ∈ l, b < 256) : RBs w s l := ⟨h.nw.rd, h.len.symm, h8, h.nw.ok⟩
theorem bool_f' {v : Bool} {p : Prop} (h : v = true ↔ p) (hp : ¬ p) : v = false := by
  cases v with
  | false => rfl
  | true => exact absurd (h.1 rfl) hp
theorem g_ext {xs ys : List S} (hl : xs.length = ys.length) (h : ∀ i, i < xs.length → g xs i = g ys i) : xs = ys := by
  apply List.ext_getElem hl
  intro i h1 h2
  have := h i h1
  unfold g at this
  rw [List.getD_eq_getElem?_getD, List.getElem?_eq_getElem h1, List.getD_eq_getElem?_getD, List.getElem?_eq_getElem h2] at this
  exact this
/-- the mark behind a list of spans -/
def mkS : S := ⟨-71, -72, 0⟩
/-- a list of spans with a mark behind it, all but the mark -/
theorem Nw.spans {w W : World} {s : Sl} {xs : List S} (h : Nw w W 85 3 s (flat (xs ++ [mkS]))) (hx : ∀ x ∈ xs, x.t < 2 ^ 64) (hl : xs.length ≤ 2000000) : s.n = xs.length + 1 ∧ L W s.p xs.length xs ∧ (⟨s.p, xs.length, s.c⟩ : Sl).ok ∧ xs.length ≤ s.c ∧ s.p ≠ none := by
  have hn : s.n = xs.length + 1 := by
    have := h.own.1
    rw [flat_length, List.length_append] at this
    simp at this
    omega
  obtain ⟨g, cur, hp, _, _, hle, _⟩ := h.blk (by omega)
  have hrd := h.rd
  rw [flat_snoc] at hrd
  exact ⟨hn, ⟨Sp.of_rd hrd.pre, rfl, by omega, hx⟩, fun hq => by simp only at hq; rw [hp] at hq; simp at hq, by omega, by rw [hp]; simp⟩
theorem Nw.bytes {w W : World} {s : Sl} {bs : List Nat} (h : Nw w W 5 1 s (byts (bs ++ [167]))) : s.n = bs.length + 1 ∧ Rd W s.p (byts bs) ∧ (⟨s.p, bs.length, s.c⟩ : Sl).ok ∧ bs.length ≤ s.c ∧ s.p ≠ none := by
  have hn : s.n = bs.length + 1 := by
    have := h.own.1
    rw [byts_len, List.length_append] at this
    simp at this
    omega
  obtain ⟨g, cur, hp, _, _, hle, _⟩ := h.blk (by omega)
  have hrd := h.rd
  rw [byts_app] at hrd
  exact ⟨hn, hrd.pre, fun hq => by simp only at hq; rw [hp] at hq; simp at hq, by omega, by rw [hp]; simp⟩
/-- what is lent: its block X, the lists of bytes and of spans, each with a mark behind; from lo and lo' on they are as told -/
structure LD (w W : World) (X lo lo' : Nat) (sv sx : Sl) (vl xl : List Sl) (vb : List (List Nat)) (xb : List (List S)) : Prop where
  blk : W.heap[X]? = some (.cells #[.slice sv.p sv.n sv.c, .slice sx.p sx.n sx.c] 88 (0, 0))
  nb : w.heap.size ≤ X
  v : RR w W 5 1 28 lo sv vl (vb.map fun b => byts (b ++ [167]))
  x : RR w W 85 3 48 lo' sx xl (xb.map fun b => flat (b ++ [mkS]))
theorem LD.ap {w W : World} {X lo lo' : Nat} {sv sx : Sl} {vl xl : List Sl} {vb : List (List Nat)} {xb : List (List S)} (h : LD w W X lo lo' sv sx vl xl vb xb) : Apart [] w W := h.v.nw.ap
theorem LD.keep {ts : List Nat} {w W W' : World} {X lo lo' : Nat} {sv sx : Sl} {vl xl : List Sl} {vb : List (List Nat)} {xb : List (List S)} (h : LD w W X lo lo' sv sx vl xl vb xb) (k : TK ts W W') (ap : Apart [] w W') (ht : 88 ∉ ts ∧ 5 ∉ ts ∧ 28 ∉ ts ∧ 85 ∉ ts ∧ 48 ∉ ts) : LD w W' X lo lo' sv sx vl xl vb xb :=
  ⟨k.block h.blk ht.1, h.nb, h.v.keep k ap ht.2.1 ht.2.2.1, h.x.keep k ap ht.2.2.2.1 ht.2.2.2.2⟩
theorem LD.kept0 {w W W' : World} {X lo lo' : Nat} {sv sx : Sl} {vl xl : List Sl} {vb : List (List Nat)} {xb : List (List S)} (h : LD w W X lo lo' sv sx vl xl vb xb) (a : Apart [] W W') : LD w W' X lo lo' sv sx vl xl vb xb :=
  h.keep (ts := []) (TK.of0 a) (h.ap.trans a) (by simp)
theorem infoBs : (Try.prog.info? 28).map (fun i => (i.zero, i.size, i.bytes)) = some (some (.slice none 0 0), 1, 24) := by kernel_rfl
theorem infoSs : (Try.prog.info? 48).map (fun i => (i.zero, i.size, i.bytes)) = some (some (.slice none 0 0), 1, 24) := by kernel_rfl
theorem vl_len {w W : World} {X lo lo' : Nat} {sv sx : Sl} {vl xl : List Sl} {vb : List (List Nat)} {xb : List (List S)} (h : LD w W X lo lo' sv sx vl xl vb xb) : vb.length = vl.length ∧ xb.length = xl.length := ⟨by have := h.v.cl; simpa using this, by have := h.x.cl; simpa using this⟩
/-- one more list of spans: the append, then the store into X -/
theorem LD.addX {w W W1 : World} {X : Nat} {sv sx : Sl} {vl xl : List Sl} {vb : List (List Nat)} {xb : List (List S)} (h : LD w W X 0 0 sv sx vl xl vb xb) (a : Apart [] W W1) (t : Sl) (xs : List S) (hn : Nw W W1 85 3 t (flat (xs ++ [mkS]))) (hp : t.p ≠ none) (hl : xl.length ≤ 2000000) :
    ∃ s' W2, (Builtin.append_ #[71, 71] 71 #[.slice sx.p sx.n sx.c, .slice (some ⟨W1.heap.size, 0, none⟩) 1 1]).run Try.prog (W1.alloc (Obj.cells #[.slice t.p t.n t.c] 48)) = .ok (.slice s'.p s'.n s'.c) W2 ∧ W2.heap[X]? = some (.cells #[.slice sv.p sv.n sv.c, .slice sx.p sx.n sx.c] 88 (0, 0)) ∧ LD w (W2.setCell ⟨X, 1, none⟩ (.slice s'.p s'.n s'.c)) X 0 0 sv s' vl (xl ++ [t]) vb (xb ++ [xs]) ∧ TK [48, 88] W (W2.setCell ⟨X, 1, none⟩ (.slice s'.p s'.n s'.c)) := by
  obtain ⟨i0, hif, hz0, hz1, hz2⟩ := info_parts infoSs
  obtain ⟨s', W2, hrun, hr, tk⟩ := h.x.push a 71 71 i0 (by decide) Try.underlying71 hif hz0 hz1 hz2 t (flat (xs ++ [mkS])) hn hp hl
  have hX2 := (TK.of0 (ts := []) a).trans (TK.of0 (Apart.refl [] _)) |>.block h.blk (by simp)
  have hX2 := tk.block hX2 (by decide)
  have aX : Apart [X] W2 (W2.setCell ⟨X, 1, none⟩ (.slice s'.p s'.n s'.c)) := (Apart.refl [X] W2).setCell (.inl (by simp)) _
  have tkX : TK [88] W2 (W2.setCell ⟨X, 1, none⟩ (.slice s'.p s'.n s'.c)) := TK.one aX hX2 (by simp)
  have ap : Apart [] w (W2.setCell ⟨X, 1, none⟩ (.slice s'.p s'.n s'.c)) := hr.nw.ap.trans' aX (fun y hy => by simp at hy; exact .inr (by have := h.nb; omega))
  refine ⟨s', W2, hrun, hX2, ⟨?_, h.nb, ?_, ?_⟩, ?_⟩
  · have := heap_setCell_same W2 X 1 _ 88 (.slice s'.p s'.n s'.c) hX2
    simpa using this
  · exact ((h.v.kept0 a).keep tk hr.nw.ap (by decide) (by decide)).keep tkX ap (by decide) (by decide)
  · rw [List.map_append]
    exact hr.keep tkX ap (by decide) (by decide)
  · exact (TK.of0 a).trans ((tk.mono (by simp)).trans (tkX.mono (by simp)))
/-- one more list of bytes -/
theorem LD.addV {w W W1 : World} {X : Nat} {sv sx : Sl} {vl xl : List Sl} {vb : List (List Nat)} {xb : List (List S)} (h : LD w W X 0 0 sv sx vl xl vb xb) (a : Apart [] W W1) (t : Sl) (bs : List Nat) (hn : Nw W W1 5 1 t (byts (bs ++ [167]))) (hp : t.p ≠ none) (hl : vl.length ≤ 2000000) :
    ∃ s' W2, (Builtin.append_ #[69, 69] 69 #[.slice sv.p sv.n sv.c, .slice (some ⟨W1.heap.size, 0, none⟩) 1 1]).run Try.prog (W1.alloc (Obj.cells #[.slice t.p t.n t.c] 28)) = .ok (.slice s'.p s'.n s'.c) W2 ∧ W2.heap[X]? = some (.cells #[.slice sv.p sv.n sv.c, .slice sx.p sx.n sx.c] 88 (0, 0)) ∧ LD w (W2.setCell ⟨X, 0, none⟩ (.slice s'.p s'.n s'.c)) X 0 0 s' sx (vl ++ [t]) xl (vb ++ [bs]) xb ∧ TK [28, 88] W (W2.setCell ⟨X, 0, none⟩ (.slice s'.p s'.n s'.c)) := by
  obtain ⟨i0, hif, hz0, hz1, hz2⟩ := info_parts infoBs
  obtain ⟨s', W2, hrun, hr, tk⟩ := h.v.push a 69 69 i0 (by decide) Try.underlying69 hif hz0 hz1 hz2 t (byts (bs ++ [167])) hn hp hl
  have hX2 := (TK.of0 (ts := []) a).trans (TK.of0 (Apart.refl [] _)) |>.block h.blk (by simp)
  have hX2 := tk.block hX2 (by decide)
  have aX : Apart [X] W2 (W2.setCell ⟨X, 0, none⟩ (.slice s'.p s'.n s'.c)) := (Apart.refl [X] W2).setCell (.inl (by simp)) _
  have tkX : TK [88] W2 (W2.setCell ⟨X, 0, none⟩ (.slice s'.p s'.n s'.c)) := TK.one aX hX2 (by simp)
  have ap : Apart [] w (W2.setCell ⟨X, 0, none⟩ (.slice s'.p s'.n s'.c)) := hr.nw.ap.trans' aX (fun y hy => by simp at hy; exact .inr (by have := h.nb; omega))
  refine ⟨s', W2, hrun, hX2, ⟨?_, h.nb, ?_, ?_⟩, ?_⟩
  · have := heap_setCell_same W2 X 0 _ 88 (.slice s'.p s'.n s'.c) hX2
    simpa using this
  · rw [List.map_append]
    exact hr.keep tkX ap (by decide) (by decide)
  · exact ((h.x.kept0 a).keep tk hr.nw.ap (by decide) (by decide)).keep tkX ap (by decide) (by decide)
  · exact (TK.of0 a).trans ((tk.mono (by simp)).trans (tkX.mono (by simp)))
end Go.Proofs.Ytllhmidpphlbhaa.ds
namespace Go.Proofs.Ytllhmidpphlbhaa.ds
open Go.ChangeShapes Go.WideShapes Go.ChangeAt Go.RowKit Go.Sort
set_option linter.unusedVariables false
set_option linter.unusedSimpArgs false

theorem lnum_ok (w : World) (e : Int) : Calls Try.prog 17 #[.int .i64 e] w fun r w' => r = .returned (.int .i64 e) ∧ w' = w := by
  go_enter Try.func17, Try.ntmps17
  go_wp2_with fail
  go_ret
  exact ⟨rfl, rfl⟩
set_option maxRecDepth 100000 in
theorem same_ok {w : World} {s t : Sl} {a b : List Nat} (h1 : RBs w s a) (h2 : RBs w t b) (v : Bool) (hv : v = true ↔ a = b) : Calls Try.prog 23 #[.slice s.p s.n s.c, .slice t.p t.n t.c] w fun r w' => r = .returned (.bool v) ∧ w' = w := by
  have c1 := conv_bytes h1.rd h1.len h1.ok
  have c2 := conv_bytes h2.rd h2.len h2.ok
  have HV : Hid (v = ((strB a).toList == (strB b).toList)) := by
    unfold Hid
    rw [Bool.eq_iff_iff, hv, beq_iff_eq, ← strB_inj h1.b8 h2.b8]
    exact ⟨fun h => by rw [h], toList_inj⟩
  clear h1 h2 hv
  generalize strB a = sa at *
  generalize strB b = sb at *
  rw [HV.out]
  go_enter Try.func23, Try.ntmps23
  go_wp2_with fail
  go_ret
  exact ⟨rfl, rfl⟩
set_option maxHeartbeats 4000000 in
set_option maxRecDepth 100000 in
theorem spans_ok {w : World} {p q : Option Addr} {n m c d : Nat} {xs ys : List S} (h1 : L w p n xs) (h2 : L w q m ys) (v : Bool) (hv : v = true ↔ xs = ys) : Calls Try.prog 57 #[.slice p n c, .slice q m d] w fun r w' => r = .returned (.bool v) ∧ Apart [] w w' := by
  have HX := hid h1
  have HY := hid h2
  have hl1 := h1.lim
  have hl2 := h2.lim
  have HV := hid hv
  have HN := hid h1.len
  have HM := hid h2.len
  clear h1 h2 hv
  by_cases hnm : n = m
  · have hnmi : ((n : Nat) : Int) = (m : Int) := by omega
    have HE := hid hnm
    clear hnm
    go_enter Try.func57, Try.ntmps57
    go_wp2_with fail
    go_loopw [5] (fun u wt => ∃ i : Nat, u = .int .i64 (i : Nat) ∧ i ≤ n ∧ Apart [] w wt ∧ ∀ j, j < i → g xs j = g ys j) (fun u _ => n - (intOf u).toNat)
    case atStart => exact ⟨0, rfl, Nat.zero_le _, Apart.refl _ _, fun j hj => absurd hj (by omega)⟩
    case round =>
      obtain ⟨i, rfl, hi, hap, hsm⟩ := hrel
      have HA := hid hap
      have HS := hid hsm
      clear hap hsm
      by_cases hlt : i < n
      · have hlti : ((i : Nat) : Int) < (n : Int) := by omega
        obtain ⟨P, o, hP, hPl, hc⟩ := (HX.out.kept0 HA.out).sp (by rw [HN.out]; omega)
        obtain ⟨P2, o2, hP2, hPl2, hc2⟩ := (HY.out.kept0 HA.out).sp (by rw [HM.out, ← HE.out]; omega)
        subst hP hP2
        obtain ⟨c0, c1, c2⟩ := hc i (by rw [HN.out]; exact hlt)
        obtain ⟨d0, d1, d2⟩ := hc2 i (by rw [HM.out, ← HE.out]; exact hlt)
        clear hc hc2
        obtain ⟨x, Hx⟩ : ∃ x, Hid (x = g xs i) := ⟨_, rfl⟩
        obtain ⟨y, Hy⟩ : ∃ y, Hid (y = g ys i) := ⟨_, rfl⟩
        rw [← Hx.out] at c0 c1 c2
        rw [← Hy.out] at d0 d1 d2
        have hltm : ((i : Nat) : Int) < (m : Int) := by have := HE.out; omega
        have HC : Hid (∀ W, Apart [] wr W → (W.cell? ⟨P, o + i * 3, none⟩ = some (.int .i64 x.n) ∧ W.cell? ⟨P, o + i * 3 + 1, none⟩ = some (.int .i64 x.b) ∧ W.cell? ⟨P, o + i * 3 + 2, none⟩ = some (.int .u64 (x.t : Int))) ∧ W.cell? ⟨P2, o2 + i * 3, none⟩ = some (.int .i64 y.n) ∧ W.cell? ⟨P2, o2 + i * 3 + 1, none⟩ = some (.int .i64 y.b) ∧ W.cell? ⟨P2, o2 + i * 3 + 2, none⟩ = some (.int .u64 (y.t : Int))) := fun W aW => ⟨⟨(aW.cell hPl (by simp)).trans c0, (aW.cell hPl (by simp)).trans c1, (aW.cell hPl (by simp)).trans c2⟩, (aW.cell hPl2 (by simp)).trans d0, (aW.cell hPl2 (by simp)).trans d1, (aW.cell hPl2 (by simp)).trans d2⟩
        clear c0 c1 c2 d0 d1 d2
        obtain ⟨ne, hne⟩ := bool_of (¬ (x.n = y.n ∧ x.b = y.b ∧ (x.t : Int) = (y.t : Int)))
        have HXY : Hid (ne = false ↔ g xs i = g ys i) := by
          unfold Hid
          rw [← Hx.out, ← Hy.out]
          cases ne with
          | true =>
            simp only [true_iff] at hne
            simp only [Bool.true_eq_false, false_iff]
            intro h
            exact hne (by rw [h]; exact ⟨rfl, rfl, rfl⟩)
          | false =>
            simp only [Bool.false_eq_true, false_iff, Classical.not_not] at hne
            simp only [true_iff]
            obtain ⟨xn, xb, xt⟩ := x
            obtain ⟨yn, yb, yt⟩ := y
            obtain ⟨e1, e2, e3⟩ := hne
            simp only at e1 e2 e3
            have e3 : xt = yt := by omega
            subst e1 e2 e3
            rfl
        have HNE := hid hne
        clear hne
        go_upto_region 6 with fail
        refine wp_region_held_drew (S := fun W => Apart [] wr W) (by kernel_rfl) (Apart.refl [] wr).drew (fun hHeld => ?_)
        generalize wr.drew = wd at *
        refine tk 0 17 (.slice (some ⟨P, o, none⟩) n c) rfl ?_ ?_
        · intro W hSW; go_simp
        simp only [Act.put, List.setIfInBounds_toArray, List.set_cons_zero, List.set_cons_succ]
        refine tk 1 18 (.int .i64 (i : Nat)) rfl ?_ ?_
        · intro W hSW; go_simp
        simp only [Act.put, List.setIfInBounds_toArray, List.set_cons_zero, List.set_cons_succ]
        refine tk 2 19 (.pointer (some ⟨P, o + i * 3, none⟩)) rfl ?_ ?_
        · intro W hSW; go_simp
        simp only [Act.put, List.setIfInBounds_toArray, List.set_cons_zero, List.set_cons_succ]
        refine tk 3 20 (.agg #[.int .i64 x.n, .int .i64 x.b, .int .u64 (x.t : Int)]) rfl ?_ ?_
        · intro W hSW; obtain ⟨⟨c0, c1, c2⟩, d0, d1, d2⟩ := HC.out W hSW; go_simp
        simp only [Act.put, List.setIfInBounds_toArray, List.set_cons_zero, List.set_cons_succ]
        refine tk 4 21 (.slice (some ⟨P2, o2, none⟩) m d) rfl ?_ ?_
        · intro W hSW; go_simp
        simp only [Act.put, List.setIfInBounds_toArray, List.set_cons_zero, List.set_cons_succ]
        refine tk 5 22 (.int .i64 (i : Nat)) rfl ?_ ?_
        · intro W hSW; go_simp
        simp only [Act.put, List.setIfInBounds_toArray, List.set_cons_zero, List.set_cons_succ]
        refine tk 6 23 (.pointer (some ⟨P2, o2 + i * 3, none⟩)) rfl ?_ ?_
        · intro W hSW; go_simp
        simp only [Act.put, List.setIfInBounds_toArray, List.set_cons_zero, List.set_cons_succ]
        refine tk 7 24 (.agg #[.int .i64 y.n, .int .i64 y.b, .int .u64 (y.t : Int)]) rfl ?_ ?_
        · intro W hSW; obtain ⟨⟨c0, c1, c2⟩, d0, d1, d2⟩ := HC.out W hSW; go_simp
        simp only [Act.put, List.setIfInBounds_toArray, List.set_cons_zero, List.set_cons_succ]
        refine tk 8 25 (.bool ne) rfl ?_ ?_
        · intro W hSW; have hne := HNE.out; go_simp; clear HX HY HV HN HM HC HS HNE; cases ne <;> simp_all
        simp only [Act.put, List.setIfInBounds_toArray, List.set_cons_zero, List.set_cons_succ]
        have HAd := hid hHeld
        refine wpAnyH_done (by kernel_rfl) ?_ _
        clear hHeld
        try dsimp only
        cases ne with
        | false =>
          go_wp2_with fail
          go_roundw
          case rel =>
            refine ⟨i + 1, by go_num, by omega, HA.out.trans HAd.out, fun j hj => ?_⟩
            by_cases hji : j < i
            · exact HS.out j hji
            · rw [show j = i by omega]; exact HXY.out.1 rfl
          case measure => simp [intOf]; omega
        | true =>
          have Hvv : Hid (v = false) := bool_f' HV.out (fun h => by have := HXY.out.2 (by rw [h]); cases this)
          go_wp2_with fail
          go_ret
          exact ⟨by rw [Hvv.out]; rfl, HA.out.trans HAd.out⟩
      · have hlti : ¬ ((i : Nat) : Int) < (n : Int) := by omega
        have Hvv : Hid (v = true) := HV.out.2 (g_ext (by rw [HN.out, HM.out]; exact HE.out) (fun j hj => HS.out j (by rw [HN.out] at hj; omega)))
        go_wp2_with fail
        go_ret
        exact ⟨by rw [Hvv.out]; rfl, HA.out⟩
  · have hnmi : ¬ ((n : Nat) : Int) = (m : Int) := by omega
    have Hvv : Hid (v = false) := bool_f' HV.out (fun h => hnm (by rw [← HN.out, ← HM.out, h]))
    clear hnm
    go_enter Try.func57, Try.ntmps57
    go_wp2_with fail
    go_ret
    exact ⟨by rw [Hvv.out]; rfl, Apart.refl _ _⟩
end Go.Proofs.Ytllhmidpphlbhaa.ds
namespace Go.Proofs.Ytllhmidpphlbhaa.ds
open Go.ChangeShapes Go.WideShapes Go.ChangeAt Go.RowKit Go.Sort
set_option linter.unusedVariables false
set_option linter.unusedSimpArgs false
/-- the mark behind a copy of spans -/
theorem app_mark {w W : World} {s : Sl} {xs : List S} (h : Nw w W 85 3 s (flat xs)) (hl : xs.length ≤ 2000000) :
    ∃ s' W', (Builtin.append_ #[48, 48] 48 #[.slice s.p s.n s.c, .slice (some ⟨W.heap.size, 0, none⟩) 1 1]).run Try.prog (W.alloc (Obj.cells #[.int .i64 (-71), .int .i64 (-72), .int .u64 0] 85)) = .ok (.slice s'.p s'.n s'.c) W' ∧ Nw w W' 85 3 s' (flat (xs ++ [mkS])) := by
  obtain ⟨i0, hif, hz0, hz1, hz2⟩ := info_parts info52
  have hlen : s.n = xs.length := by have := h.own.1; rw [flat_length] at this; omega
  obtain ⟨s5, w5, hrun, hnw5, hs5, ap5, k5, hk5, -, hk6⟩ := run_appM (s := s) 48 48 85 i0 _ 3 24 Try.underlying48 hif hz0 hz1 hz2 rfl (by decide) h 1 [.int .i64 (-71), .int .i64 (-72), .int .u64 0] (by decide) rfl (fun u hu => by simp at hu; rcases hu with rfl | rfl | rfl <;> rfl) (by unfold maxLen; omega) (by omega)
  exact ⟨s5, w5, hrun, by rw [flat_snoc]; exact hnw5⟩
theorem app_mark8 {w W : World} {s : Sl} {bs : List Nat} (h : Nw w W 5 1 s (byts bs)) (hl : bs.length ≤ 2000000) :
    ∃ s' W', (Builtin.append_ #[28, 28] 28 #[.slice s.p s.n s.c, .slice (some ⟨W.heap.size, 0, none⟩) 1 1]).run Try.prog (W.alloc (Obj.cells #[.int .u8 167] 5)) = .ok (.slice s'.p s'.n s'.c) W' ∧ Nw w W' 5 1 s' (byts (bs ++ [167])) := by
  have hlen : s.n = bs.length := by have := h.own.1; rw [byts_len] at this; omega
  obtain ⟨s', W', hrun, hb, _⟩ := app_byte (⟨h, hlen⟩ : Bf w W s bs) 167 (by omega)
  exact ⟨s', W', hrun, hb.nw⟩
/-- a set is lent -/
structure SetP (w W : World) (X : Nat) (sv sx : Sl) (vl xl : List Sl) (vb : List (List Nat)) (xb : List (List S)) (xs : List S) (r : Ending) (W' : World) : Prop where
  ex : ∃ (sx' t : Sl), r = .returned (.slice t.p xs.length t.c) ∧ LD w W' X 0 0 sv sx' vl (xl ++ [t]) vb (xb ++ [xs]) ∧ TK [48, 88] W W'
set_option maxHeartbeats 4000000 in
set_option maxRecDepth 100000 in
theorem lset_ok {w W : World} {X : Nat} {sv sx : Sl} {vl xl : List Sl} {vb : List (List Nat)} {xb : List (List S)} (h : LD w W X 0 0 sv sx vl xl vb xb) (l : Sl) (xs : List S) (hx : L W l.p l.n xs) (hn : l.n ≤ 2000000) (ok : l.ok) (hl : xl.length ≤ 2000000) : Calls Try.prog 63 #[.pointer (some ⟨X, 0, none⟩), .slice l.p l.n l.c] W fun r W' => SetP w W X sv sx vl xl vb xb xs r W' := by
  obtain ⟨s1, W1, hrun1, hn1, -⟩ := appS W l xs 48 hx hn ok
  have HR1 : Hid ((Builtin.append_ #[48, 48] 48 #[.slice none 0 0, .slice l.p l.n l.c]).run Try.prog W = .ok (.slice s1.p s1.n s1.c) W1) := hrun1
  obtain ⟨s2, W2, hrun2, hn2⟩ := app_mark hn1 (by rw [hx.len]; exact hn)
  have HR2 := hid hrun2
  have hxl : xs.length ≤ 2000000 := by rw [hx.len]; exact hn
  obtain ⟨e1, e2, e3, e4, e5⟩ := hn2.spans hx.fit hxl
  obtain ⟨s3, W3, hrun3, hX3, hL, htk⟩ := h.addX hn2.ap s2 xs hn2 e5 hl
  have HR3 := hid hrun3
  have HX2 := hid ((TK.of0 (ts := []) hn2.ap).block h.blk (by simp))
  have z1 : W2.cell? ⟨X, 1, none⟩ = some (.slice sx.p sx.n sx.c) := by rw [cell_of_row _ _ _ _ _ _ HX2.out]; rfl
  have y1 : W3.cell? ⟨X, 1, none⟩ = some (.slice sx.p sx.n sx.c) := by rw [cell_of_row _ _ _ _ _ _ hX3]; rfl
  have f1 := frozen_of_row _ _ 1 _ _ hX3
  have HL := hid hL
  have HT := hid htk
  have hcap : (l.n : Int) ≤ (s2.c : Int) := by rw [← hx.len]; omega
  have hcap' : l.n ≤ s2.c := by rw [← hx.len]; omega
  have HLE := hid hx.len
  have hmx : s2.c ≤ maxLen := by
    obtain ⟨_, _, _, _, _, _, _, _, _, hm⟩ := hn2.blk (by omega)
    exact hm
  obtain ⟨g, hg⟩ : ∃ g, s2.p = some ⟨g, 0, none⟩ := by
    obtain ⟨g, cur, hp, _⟩ := hn2.blk (by omega)
    exact ⟨g, hp⟩
  have HG := hid hg
  clear hrun1 hrun2 hrun3 hX3 hL htk hn1 hn2 e1 e2 e3 e4 e5 hx h hg
  unfold maxLen at hmx
  obtain ⟨p2, n2, c2⟩ := s2
  simp only at HR2 HR3 HG hcap hcap' hmx
  rw [HG.out] at HR2 HR3 HL
  go_enter Try.func63, Try.ntmps63
  go_upto_region 1 with fail
  go_wp2_with (at_builtin; first | refine wpList_app2 rfl (.const (.slice none 0 0)) (.tmp 6) 48 48 rfl _ _ rfl rfl _ _ HR1.out ?_ | refine wpList_app2 rfl (.tmp 8) (.tmp 10) 48 48 rfl _ _ rfl rfl _ _ HR2.out ?_ | refine wpList_app2 rfl (.tmp 16) (.tmp 18) 71 71 rfl _ _ rfl rfl _ _ HR3.out ?_)
  go_ret
  exact ⟨s3, ⟨some ⟨g, 0, none⟩, n2, c2⟩, by rw [HLE.out]; rfl, HL.out, HT.out⟩
end Go.Proofs.Ytllhmidpphlbhaa.ds
