import Derived.Test.YtpddokbjjhbfgaaGreatChecked
import Derived.WalkKit
import Derived.ProofKit
import Derived.Maps.OwnSet
import Derived.Maps.RangeWalk
import Derived.DeepKeys4
import Derived.MapViews
import Derived.StringKeys
import Derived.Lib.TrailingZeros
import Derived.OpenShut
import Derived.Deep.QuietTactic
import Derived.BigQuiet
import Derived.BigRegion
import Derived.Laws.CopyOwn
import Derived.Laws.Bits64b
import Derived.Laws.MathBits
import Derived.Laws.ShiftsVarLaws
import Derived.WalkSmall
import Derived.Laws.ResultCell
import Derived.Lib.BitFns
import Derived.Laws.StructEq
import Derived.Deep.RegionHeld
import Derived.ArgAppend
import Derived.Deep.RegionLaw
import Derived.Deep.DeepAppendRoom
import Derived.Sort.WalkA
import Derived.Laws.Strings
import Derived.Deep.CutBlock
import Derived.Great.BuildSlice
import Derived.Laws.BytesString
import Derived.Laws.AppendOwnNone
import Derived.Lib.Overlaps
import Derived.Lib.AppendZerosOnto
import Derived.Laws.NewBlocks
import Derived.Laws.Externs
import Derived.Laws.IdiomCopy
import Derived.RangeFuncNested
import Derived.RangeFuncBound
import Derived.RangeFuncCalls
import Derived.RangeFuncLeaves
import Derived.Shelf.Abstract
import Derived.Shelf.RegionOpen
import Derived.OwnWalkIn
import Derived.TacticsInMore
import Derived.LoopNIn
import Derived.LoopIn
import Derived.Deep.CutRange
import Derived.Deep.OwnRows
import Derived.Lib.Walk
import Derived.Lib.SliceRun
import GoSem.Claim
import GoSem.ClaimJoined
import GoSem.ClaimMapViews
import Derived.JoinedTies
import Derived.KernelRfl
import Derived.Lib.LaidTab
import Derived.JoinedCond
import Derived.ShutString
import Derived.ChangeOld
import Derived.Below
import Derived.Carry
import Derived.ChangeSlices
import Derived.Deep.Slices
import Derived.Deep.DeepHandedRow
import Derived.RowKit
import Derived.ChangeShapes
import Derived.SizedLaws
import Derived.ChangeMaps5
import Derived.OrdersHeld
import Derived.Lib.AppendStr
import Derived.Lib.ConvBytes
import Derived.Deep.RegionHeld3
import Derived.Deep.MidRow
import Derived.Laws.BitsAllLaws
import Derived.Sort.Grow
import Derived.Shelf.SlSortCmp.WholeK
import Derived.Shelf.Lay
import Derived.Ground.SlsfProg
import Derived.Sort.LotA
import Derived.Sort.MapsRangeIn
import Derived.RangeFuncSeq
import Derived.RangeFuncKeeps
import Derived.Maps.AppendAt
import Derived.OwnWalk
import Derived.Test.YtpddokbjjhbfgaaGreatRows
import Derived.Test.YtpddokbjjhbfgaaGreatU4
import Derived.Test.YtpddokbjjhbfgaaGreatU5
namespace Go.Proofs.YtpddokbjjhbfgaaGreat.ds
open Go.ChangeShapes Go.WideShapes Go.ChangeAt Go.RowKit
set_option linter.unusedVariables false
/-- a list that can be read -/
structure L (w : World) (p : Option Addr) (N : Nat) (xs : List S) : Prop where
  sp : Sp w p xs
  len : xs.length = N
  lim : N ≤ 9223372036854775807
  fit : ∀ x ∈ xs, x.t < 2 ^ 64
theorem L.kept0 {w w' : World} {p : Option Addr} {N : Nat} {xs : List S} (h : L w p N xs) (a : Apart [] w w') : L w' p N xs := { h with sp := h.sp.kept0 a }
theorem L.nil (w : World) (p : Option Addr) : L w p 0 [] := ⟨Sp.nil w p, rfl, by omega, by simp⟩
open Classical in
/-- a list, or none where it is no set -/
noncomputable def norm (xs : List S) : List S := if OkL 64 xs then xs else []
theorem norm_ok (xs : List S) : OkL 64 (norm xs) := by unfold norm; split; assumption; exact OkL.nil 64
theorem norm_of {xs : List S} (h : OkL 64 xs) : norm xs = xs := by unfold norm; rw [if_pos h]
theorem norm_no {xs : List S} (h : ¬ OkL 64 xs) : norm xs = [] := by unfold norm; rw [if_neg h]
theorem isSet_yes {p : Option Addr} {N cap : Nat} {xs : List S} {gap : Int} {w : World} (h : L w p N xs) (k : OkL gap xs) : Calls Tryz.prog 76 #[.slice p N cap, .int .i64 gap] w fun r w' => r = .returned (.bool true) ∧ Apart [] w w' := by
  refine (isSet_ok p N cap xs gap w h.sp h.len h.lim h.fit).mono ?_
  rintro r w1 ⟨⟨v, rfl, hv⟩, a1⟩
  exact ⟨by rw [hv.2 k], a1⟩
theorem isSet_no {p : Option Addr} {N cap : Nat} {xs : List S} {gap : Int} {w : World} (h : L w p N xs) (k : ¬ OkL gap xs) : Calls Tryz.prog 76 #[.slice p N cap, .int .i64 gap] w fun r w' => r = .returned (.bool false) ∧ Apart [] w w' := by
  refine (isSet_ok p N cap xs gap w h.sp h.len h.lim h.fit).mono ?_
  rintro r w1 ⟨⟨v, rfl, hv⟩, a1⟩
  cases v
  · exact ⟨rfl, a1⟩
  · exact absurd (hv.1 rfl) k
structure AsPost (w w' : World) (r : Ending) (xs : List S) : Prop where
  ex : ∃ p N cap, r = .returned (.slice p N cap) ∧ L w' p N (norm xs) ∧ Apart [] w w'
theorem asSet_ok {p : Option Addr} {N cap : Nat} {xs : List S} {w : World} (h : L w p N xs) : Calls Tryz.prog 74 #[.slice p N cap] w fun r w' => AsPost w w' r xs := by
  by_cases k : OkL 64 xs
  · go_enter Tryz.func74, Tryz.ntmps74
    go_wp2_with (go_at_call 76; refine (isSet_yes h k).mono ?_; rintro r w1 ⟨rfl, a1⟩)
    go_ret
    exact ⟨p, N, cap, rfl, by rw [norm_of k]; exact h.kept0 a1, a1⟩
  · go_enter Tryz.func74, Tryz.ntmps74
    go_wp2_with (go_at_call 76; refine (isSet_no h k).mono ?_; rintro r w1 ⟨rfl, a1⟩)
    go_ret
    exact ⟨none, 0, 0, rfl, by rw [norm_no k]; exact L.nil _ _, a1⟩
theorem own_base {w : World} {b c : Nat} {e : TypeId} {size : Nat} {v : Value} {n : Nat} {xs : List Value} (h : w.ownsRow b e size v n xs) (hc : c ≤ b) : w.ownsRow c e size v n xs := by
  obtain ⟨hl, ⟨hv, hz⟩ | ⟨g, cap, cur, rfl, hb, hr⟩⟩ := h
  · exact ⟨hl, .inl ⟨hv, hz⟩⟩
  · exact ⟨hl, .inr ⟨g, cap, cur, rfl, by omega, hr⟩⟩
/-- the row is the old one, or a new one -/
def NewOr (w : World) (v v' : Value) : Prop := v'.ownBlock = v.ownBlock ∨ ∃ k, v'.ownBlock = some k ∧ w.heap.size ≤ k
theorem run_append2 (w : World) (t ty e : TypeId) (i : TypeInfo) (z : Value) (size bytes : Nat) (ht : Tryz.prog.underlying t = some (.slice e)) (hi : Tryz.prog.info? e = some i) (hz : i.zero = some z) (hsize : i.size = size) (hby : i.bytes = bytes) (hzs : z.cells.size = size) (hsz : 0 < size)
    (v : Value) (n : Nat) (xs : List Value) (h : w.ownsRow 0 e size v n xs) (ad : Addr) (m c : Nat) (news : List Value) (hm : 0 < m) (hl : news.length = m * size) (hnews : ∀ j u, news[j]? = some u → w.cell? (ad.add j) = some u) (h1 : ∀ u ∈ news, u.oneCell' = true) (h63 : n + m ≤ maxLen) (hb : (n + m) * bytes ≤ 140737488355328) :
    ∃ v' w', (Builtin.append_ #[t, t] ty #[v, .slice (some ad) m c]).run Tryz.prog w = .ok v' w' ∧ w'.ownsRow 0 e size v' (n + m) (xs ++ news) ∧ w.grownBy w' v.ownBlock ∧ NewOr w v v' := by
  have h0 := h
  obtain ⟨hxl, ⟨rfl, rfl⟩ | ⟨g, cap, cur, rfl, hbb, hr, hle, hrest⟩⟩ := h
  · obtain rfl : xs = [] := by simpa using hxl
    obtain ⟨v', w', hrun, r1, r2, _⟩ := run_append_own (P := Tryz.prog) w w.heap.size t ty e i z size bytes ht hi hz hsize hby hzs hsz (.slice none 0 0) 0 [] (World.ownsRow_nil w _ e size) ad m c news hl hnews h1 h63 hb (Nat.le_refl _)
    refine ⟨v', w', hrun, own_base r1 (Nat.zero_le _), r2, .inr ?_⟩
    obtain ⟨_, ⟨_, hzz⟩ | ⟨g, cap, cur, rfl, hb2, _⟩⟩ := r1
    · omega
    · exact ⟨g, rfl, hb2⟩
  · by_cases hroom : n + m ≤ cap
    · obtain ⟨w', hrun, r1, r2⟩ := run_append_own_spare (P := Tryz.prog) w 0 t ty e i size ht hi hsize g n cap xs h0 ad m c news hl hnews h1 hroom
      exact ⟨_, w', hrun, r1, r2, .inl rfl⟩
    · obtain ⟨v', w', hrun, r1, r2⟩ := run_append_arg_grows (P := Tryz.prog) w t ty e i z size bytes ht hi hz hsize hby hzs hsz ⟨g, 0, none⟩ n cap xs (by omega) (fun j u hu => h0.cells rfl j u hu) ad m c news hl hnews (by omega) h63 hb
      refine ⟨v', w', hrun, own_base r1 (Nat.zero_le _), ⟨r2.os, r2.tape, r2.output, r2.size, fun k hk _ => r2.block k hk (by simp)⟩, .inr ?_⟩
      obtain ⟨_, ⟨_, hzz⟩ | ⟨g', cap', cur', rfl, hb2, _⟩⟩ := r1
      · omega
      · exact ⟨g', rfl, hb2⟩
end Go.Proofs.YtpddokbjjhbfgaaGreat.ds
namespace Go.Proofs.YtpddokbjjhbfgaaGreat.ds
open Go.ChangeShapes Go.WideShapes Go.ChangeAt Go.RowKit
set_option linter.unusedVariables false
/-- a slice's values, as they read -/
def Rd (w : World) (p : Option Addr) (us : List Value) : Prop := 0 < us.length → ∃ P o, p = some ⟨P, o, none⟩ ∧ P < w.heap.size ∧ ∀ j u, us[j]? = some u → w.cell? ⟨P, o + j, none⟩ = some u
theorem Rd.nil (w : World) (p : Option Addr) : Rd w p [] := fun h => absurd h (by simp)
theorem Rd.kept {w w' : World} {p : Option Addr} {us : List Value} {X : List Nat} (h : Rd w p us) (a : Apart X w w') (hX : ∀ P o, p = some ⟨P, o, none⟩ → P ∉ X) : Rd w' p us := by
  intro h0
  obtain ⟨P, o, rfl, hP, hc⟩ := h h0
  exact ⟨P, o, rfl, Nat.lt_of_lt_of_le hP a.size, fun j u hj => (a.cell hP (hX P o rfl)).trans (hc j u hj)⟩
theorem Rd.kept0 {w w' : World} {p : Option Addr} {us : List Value} (h : Rd w p us) (a : Apart [] w w') : Rd w' p us := h.kept a (by simp)
theorem Rd.own {w : World} {p : Option Addr} {n cap size base : Nat} {e : TypeId} {us : List Value} (h : w.ownsRow base e size (.slice p n cap) n us) : Rd w p us := by
  intro h0
  have h' := h
  obtain ⟨hx, ⟨hv, hz⟩ | ⟨G, cap', cur, hv, hh, _⟩⟩ := h
  · exfalso
    subst hz
    simp at hx
    rw [hx] at h0
    simp at h0
  · simp at hv
    obtain ⟨rfl, rfl⟩ := hv
    refine ⟨G, 0, rfl, (h'.lt G rfl).2, fun j u hj => ?_⟩
    have := h'.cells rfl j u hj
    rwa [Addr.add_lit] at this
/-- the writes of a list, cell by cell -/
def flatE (es : List E) : List Value := es.flatMap E.cs
def gE (es : List E) (k : Nat) : E := es.getD k E.z
/-- bytes -/
def byts (bs : List Nat) : List Value := bs.map fun (b : Nat) => .int .u8 (b : Int)
/-- a write as it reads -/
structure Wr where
  n : Int
  c : Int
  k : ByteArray
  d : Bool
  vs : List Nat
  xs : List S
/-- nil has no length -/
def Sl.ok (s : Sl) : Prop := s.p = none → s.n = 0 ∧ s.c = 0
structure Reads (w : World) (e : E) (r : Wr) : Prop where
  n : e.n = r.n
  c : e.c = r.c
  k : e.k = r.k
  d : e.d = r.d
  v : Rd w e.v.p (byts r.vs)
  vn : r.vs.length = e.v.n
  vl : e.v.n ≤ 2000000
  vb : ∀ b ∈ r.vs, b < 256
  x : L w e.x.p e.x.n r.xs
  xl : e.x.n ≤ 2000000
  vo : e.v.ok
  xo : e.x.ok
theorem Reads.kept0 {w w' : World} {e : E} {r : Wr} (h : Reads w e r) (a : Apart [] w w') : Reads w' e r := { h with v := h.v.kept0 a, x := h.x.kept0 a }
end Go.Proofs.YtpddokbjjhbfgaaGreat.ds
namespace Go.Proofs.YtpddokbjjhbfgaaGreat.ds
open Go.ChangeShapes Go.WideShapes Go.ChangeAt Go.RowKit
set_option linter.unusedVariables false
/-- the operation i is taken: its slot d, its value v -/
theorem tk {P : Program} {ops : Array Oper} {Q : Exit → Act → World → Prop} {md : Region.Mode} {S : World → Prop} {o1 o2 o3 o4 o5} (i d : Nat) (v : Value) {fuel : Nat} {listed : Array Bool} {a : Act} {w : World} (hi : ops[i]? = some ⟨some d, o1, o2, o3, o4, o5⟩) (hy : ∀ w, S w → (execOp a.eval ⟨some d, o1, o2, o3, o4, o5⟩).run P w = .ok (.value v) w)
    (h : wpAnyH P md ops Q S fuel (listed.setIfInBounds i true) (a.put (some d) v) w) (hs : Region.noSelect ops = true := by kernel_rfl) (hf : Region.free md ops listed i = true := by kernel_rfl) (hr : (Region.ready md ops listed).contains i = true := by kernel_rfl) (hQ : ∀ c a w, Q (.panic c) (a.put (some d) v) w → Q (.panic c) a w := by exact fun _ _ _ h => h) (hw : Region.wanted ⟨some d, o1, o2, o3, o4, o5⟩ (yielded ops a.tmps) = true := by rfl) (hS : S w := by assumption) : wpAnyH P md ops Q S (fuel + 1) listed a w :=
  wpAnyH_take hi hs hf hr hQ (Or.inl ⟨hw, hy⟩) hS h
/-- .. is passed over: it is not wanted -/
theorem tu {P : Program} {ops : Array Oper} {Q : Exit → Act → World → Prop} {md : Region.Mode} {S : World → Prop} {o1 o2 o3 o4 o5} (i d : Nat) {fuel : Nat} {listed : Array Bool} {a : Act} {w : World} (hi : ops[i]? = some ⟨some d, o1, o2, o3, o4, o5⟩)
    (h : wpAnyH P md ops Q S fuel (listed.setIfInBounds i true) (a.put (some d) undef) w) (hs : Region.noSelect ops = true := by kernel_rfl) (hf : Region.free md ops listed i = true := by kernel_rfl) (hr : (Region.ready md ops listed).contains i = true := by kernel_rfl) (hQ : ∀ c a w, Q (.panic c) (a.put (some d) undef) w → Q (.panic c) a w := by exact fun _ _ _ h => h) (hw : Region.wanted ⟨some d, o1, o2, o3, o4, o5⟩ (yielded ops a.tmps) = false := by kernel_rfl) (hS : S w := by assumption) : wpAnyH P md ops Q S (fuel + 1) listed a w :=
  wpAnyH_take hi hs hf hr hQ (Or.inr ⟨hw, rfl⟩) hS h
end Go.Proofs.YtpddokbjjhbfgaaGreat.ds
namespace Go.Proofs.YtpddokbjjhbfgaaGreat.ds
open Go.ChangeShapes Go.WideShapes Go.ChangeAt Go.RowKit
set_option linter.unusedVariables false
def Small (x : S) : Prop := 0 ≤ x.b ∧ x.b ≤ 4194304 ∧ x.t < 2 ^ 64
theorem OkL.small {g : Int} {xs : List S} (h : OkL g xs) (h0 : 0 ≤ g) (hg : g ≤ 64) (n : Int) : Small (ofn xs n) := by
  have k := h.okn h0 hg n
  have := k.mx
  unfold top at this
  exact ⟨k.wf.b0, by omega, k.wf.lt⟩
set_option maxHeartbeats 2000000 in
/-- a dot -/
def IsDot (n c : Int) : Prop := (0 ≤ n ∧ n < 8) ∧ 1 ≤ c ∧ c ≤ 1048576
theorem isDot_yes (n c : Int) (w : World) (h : IsDot n c) : Calls Tryz.prog 71 #[.agg #[.int .i64 n, .int .i64 c]] w fun r w' => r = .returned (.bool true) ∧ Apart [] w w' := by
  obtain ⟨⟨h0, h8⟩, h1, h2⟩ := h
  go_enter Tryz.func71, Tryz.ntmps71
  go_wp2_with (go_at_call 97; refine (node_yes n _ h0 h8).mono ?_; rintro r w1 ⟨rfl, rfl⟩)
  go_ret
  exact ⟨rfl, (Apart.refl _ _).alloc _⟩
theorem isDot_no (n c : Int) (w : World) (h : ¬ IsDot n c) : Calls Tryz.prog 71 #[.agg #[.int .i64 n, .int .i64 c]] w fun r w' => r = .returned (.bool false) ∧ Apart [] w w' := by
  by_cases hn : 0 ≤ n ∧ n < 8
  · by_cases h1 : 1 ≤ c
    · have h2 : ¬ c ≤ 1048576 := fun h2 => h ⟨hn, h1, h2⟩
      clear h
      go_enter Tryz.func71, Tryz.ntmps71
      go_wp2_with (go_at_call 97; refine (node_yes n _ hn.1 hn.2).mono ?_; rintro r w1 ⟨rfl, rfl⟩)
      go_ret
      exact ⟨by first | rfl | (simp; omega), (Apart.refl _ _).alloc _⟩
    · clear h
      go_enter Tryz.func71, Tryz.ntmps71
      go_wp2_with (go_at_call 97; refine (node_yes n _ hn.1 hn.2).mono ?_; rintro r w1 ⟨rfl, rfl⟩)
      go_ret
      exact ⟨rfl, (Apart.refl _ _).alloc _⟩
  · clear h
    go_enter Tryz.func71, Tryz.ntmps71
    go_wp2_with (go_at_call 97; refine (node_no n _ hn).mono ?_; rintro r w1 ⟨rfl, rfl⟩)
    go_ret
    exact ⟨rfl, (Apart.refl _ _).alloc _⟩
theorem new1d (w : World) (a b : Value) (t : TypeId) {W : World} (h : Apart [] (w.alloc (.cells #[a, b] t)) W) : W.cell? ⟨w.heap.size, 0, none⟩ = some a ∧ W.cell? ⟨w.heap.size, 1, none⟩ = some b := by
  have b1 := new1 w #[a, b] t
  have b2 := (h.block _ (lt_of_heap b1) (by simp)).trans b1
  exact ⟨by rw [cell_of_row _ _ _ _ _ _ b2]; rfl, by rw [cell_of_row _ _ _ _ _ _ b2]; rfl⟩
set_option maxHeartbeats 2000000 in
theorem has_no {p : Option Addr} {N cap : Nat} {w : World} (dn dc : Int) (hd : ¬ IsDot dn dc) : Calls Tryz.prog 52 #[.slice p N cap, .agg #[.int .i64 dn, .int .i64 dc]] w fun r w' => r = .returned (.bool false) ∧ Apart [] w w' := by
  go_enter Tryz.func52, Tryz.ntmps52
  go_wp2_with fail
  have k := fun W => @new1d w (.int .i64 dn) (.int .i64 dc) 34 W
  have aV0 : Apart [] w (w.alloc (.cells #[.int .i64 dn, .int .i64 dc] 34)) := (Apart.refl _ _).alloc _
  generalize w.alloc (.cells #[.int .i64 dn, .int .i64 dc] 34) = V at *
  have r0 : ∀ W, Apart [] V W → W.cell? ⟨w.heap.size, 0, none⟩ = some (.int .i64 dn) := fun W a => (k W a).1
  have r1 : ∀ W, Apart [] V W → W.cell? ⟨w.heap.size, 1, none⟩ = some (.int .i64 dc) := fun W a => (k W a).2
  have aV : Apart [] V V.drew := (Apart.refl _ _).drew
  clear k
  refine wp_region_held_drew (S := fun W => Apart [] V W) (by kernel_rfl) aV (fun hHeld => ?_)
  refine wpAnyH_take (i := 0) (oi := ⟨some 5, _, _, _, _, _⟩) (v := (.agg #[.int .i64 dn, .int .i64 dc])) rfl (by kernel_rfl) (by kernel_rfl) (by kernel_rfl) (fun _ _ _ h => h) (Or.inl ⟨by rfl, ?_⟩) (by assumption) ?_
  · intro W hSW; go_simp
  simp only [Act.put, List.setIfInBounds_toArray, List.set_cons_zero, List.set_cons_succ]
  refine wpAnyH_ready (rs := [1]) (by kernel_rfl) (by simp) ?_
  refine AllReadyH.cons rfl (fun KK hKK => ?_) AllReadyH.nil
  go_simp
  refine (isDot_no dn dc _ hd).mono ?_
  rintro r w2 ⟨rfl, a2⟩
  dsimp only
  have a3 := aV.trans a2
  refine hKK.out _ _ (by assumption) (fun hHeld => ?_)
  clear hKK KK
  refine wpAnyH_take (i := 2) (oi := ⟨some 7, _, _, _, _, _⟩) (v := (.bool false)) rfl (by kernel_rfl) (by kernel_rfl) (by kernel_rfl) (fun _ _ _ h => h) (Or.inl ⟨by rfl, ?_⟩) (by assumption) ?_
  · intro W hSW; go_simp
  simp only [Act.put, List.setIfInBounds_toArray, List.set_cons_zero, List.set_cons_succ]
  refine wpAnyH_take (i := 3) (oi := ⟨some 8, _, _, _, _, _⟩) (v := undef) rfl (by kernel_rfl) (by kernel_rfl) (by kernel_rfl) (fun _ _ _ h => h) (Or.inr ⟨by rfl, rfl⟩) (by assumption) ?_
  simp only [Act.put, List.setIfInBounds_toArray, List.set_cons_zero, List.set_cons_succ]
  refine wpAnyH_take (i := 4) (oi := ⟨some 9, _, _, _, _, _⟩) (v := undef) rfl (by kernel_rfl) (by kernel_rfl) (by kernel_rfl) (fun _ _ _ h => h) (Or.inr ⟨by rfl, rfl⟩) (by assumption) ?_
  simp only [Act.put, List.setIfInBounds_toArray, List.set_cons_zero, List.set_cons_succ]
  refine wpAnyH_take (i := 5) (oi := ⟨some 10, _, _, _, _, _⟩) (v := undef) rfl (by kernel_rfl) (by kernel_rfl) (by kernel_rfl) (fun _ _ _ h => h) (Or.inr ⟨by rfl, rfl⟩) (by assumption) ?_
  simp only [Act.put, List.setIfInBounds_toArray, List.set_cons_zero, List.set_cons_succ]
  refine wpAnyH_take (i := 6) (oi := ⟨some 11, _, _, _, _, _⟩) (v := undef) rfl (by kernel_rfl) (by kernel_rfl) (by kernel_rfl) (fun _ _ _ h => h) (Or.inr ⟨by rfl, rfl⟩) (by assumption) ?_
  simp only [Act.put, List.setIfInBounds_toArray, List.set_cons_zero, List.set_cons_succ]
  refine wpAnyH_take (i := 7) (oi := ⟨some 12, _, _, _, _, _⟩) (v := undef) rfl (by kernel_rfl) (by kernel_rfl) (by kernel_rfl) (fun _ _ _ h => h) (Or.inr ⟨by rfl, rfl⟩) (by assumption) ?_
  simp only [Act.put, List.setIfInBounds_toArray, List.set_cons_zero, List.set_cons_succ]
  refine wpAnyH_take (i := 8) (oi := ⟨some 13, _, _, _, _, _⟩) (v := undef) rfl (by kernel_rfl) (by kernel_rfl) (by kernel_rfl) (fun _ _ _ h => h) (Or.inr ⟨by rfl, rfl⟩) (by assumption) ?_
  simp only [Act.put, List.setIfInBounds_toArray, List.set_cons_zero, List.set_cons_succ]
  refine wpAnyH_take (i := 9) (oi := ⟨some 14, _, _, _, _, _⟩) (v := undef) rfl (by kernel_rfl) (by kernel_rfl) (by kernel_rfl) (fun _ _ _ h => h) (Or.inr ⟨by rfl, rfl⟩) (by assumption) ?_
  simp only [Act.put, List.setIfInBounds_toArray, List.set_cons_zero, List.set_cons_succ]
  refine wpAnyH_take (i := 10) (oi := ⟨some 15, _, _, _, _, _⟩) (v := undef) rfl (by kernel_rfl) (by kernel_rfl) (by kernel_rfl) (fun _ _ _ h => h) (Or.inr ⟨by rfl, rfl⟩) (by assumption) ?_
  simp only [Act.put, List.setIfInBounds_toArray, List.set_cons_zero, List.set_cons_succ]
  refine wpAnyH_take (i := 11) (oi := ⟨some 16, _, _, _, _, _⟩) (v := (.bool false)) rfl (by kernel_rfl) (by kernel_rfl) (by kernel_rfl) (fun _ _ _ h => h) (Or.inl ⟨by rfl, ?_⟩) (by assumption) ?_
  · intro W hSW; go_simp
  simp only [Act.put, List.setIfInBounds_toArray, List.set_cons_zero, List.set_cons_succ]
  refine wpAnyH_take (i := 12) (oi := ⟨some 4, _, _, _, _, _⟩) (v := (.bool false)) rfl (by kernel_rfl) (by kernel_rfl) (by kernel_rfl) (fun _ _ _ h => h) (Or.inl ⟨by rfl, ?_⟩) (by assumption) ?_
  · intro W hSW; go_simp
  simp only [Act.put, List.setIfInBounds_toArray, List.set_cons_zero, List.set_cons_succ]
  refine wpAnyH_done (by kernel_rfl) ?_ _
  go_wp2
  go_ret
  exact ⟨rfl, aV0.trans a3⟩
set_option maxHeartbeats 2000000 in
theorem has_yes {p : Option Addr} {N cap : Nat} {xs : List S} {w : World} (dn dc : Int) (h : L w p N xs) (hd : IsDot dn dc) : Calls Tryz.prog 52 #[.slice p N cap, .agg #[.int .i64 dn, .int .i64 dc]] w fun r w' => r = .returned (.bool (dot (ofn (norm xs) dn) dc)) ∧ Apart [] w w' := by
  have hsm := (norm_ok xs).small (by decide) (by decide) dn
  have hdc : dc ≤ 9223372036854775807 := by have := hd.2.2; omega
  go_enter Tryz.func52, Tryz.ntmps52
  go_wp2_with fail
  have k := fun W => @new1d w (.int .i64 dn) (.int .i64 dc) 34 W
  have aV0 : Apart [] w (w.alloc (.cells #[.int .i64 dn, .int .i64 dc] 34)) := (Apart.refl _ _).alloc _
  generalize w.alloc (.cells #[.int .i64 dn, .int .i64 dc] 34) = V at *
  have r0 : ∀ W, Apart [] V W → W.cell? ⟨w.heap.size, 0, none⟩ = some (.int .i64 dn) := fun W a => (k W a).1
  have r1 : ∀ W, Apart [] V W → W.cell? ⟨w.heap.size, 1, none⟩ = some (.int .i64 dc) := fun W a => (k W a).2
  have aV : Apart [] V V.drew := (Apart.refl _ _).drew
  clear k
  go_region_held (fun W => Apart [] V W) (assumption) (first
    | (go_at_call 71; refine (isDot_yes dn dc _ hd).mono ?_; rintro r w2 ⟨rfl, a2⟩; have a3 := aV.trans a2)
    | (go_at_call 74; refine (asSet_ok ((h.kept0 aV0).kept0 a3)).mono ?_; rintro r w4 ⟨⟨p', N', cap', rfl, l4, a4⟩⟩; have a5 := a3.trans a4)
    | (go_at_call 73; refine (spanOf_ok p' N' cap' (norm xs) dn _ l4.sp l4.len l4.lim).mono ?_; rintro r w6 ⟨rfl, a6⟩; have a7 := a5.trans a6; dsimp only [spv])
    | (go_at_call 72; refine (holds_ok (ofn (norm xs) dn) dc _ hsm.1 hsm.2.2 hdc).mono ?_; rintro r w8 ⟨rfl, a8⟩; have a9 := a7.trans a8))
  go_wp2
  go_ret
  exact ⟨rfl, aV0.trans a9⟩
end Go.Proofs.YtpddokbjjhbfgaaGreat.ds

namespace Go.Proofs.YtpddokbjjhbfgaaGreat.ds
open Go.ChangeShapes Go.WideShapes Go.ChangeAt Go.RowKit Go.Sort
set_option linter.unusedVariables false
set_option linter.unusedSimpArgs false
/-- a slice of new memory -/
structure Nw (w w' : World) (e size : Nat) (s : Sl) (us : List Value) : Prop where
  own : w'.ownsRow 0 e size s.v s.n us
  new : ∀ k, s.v.ownBlock = some k → w.heap.size ≤ k
  ap : Apart [] w w'
theorem Nw.kept {w w' w2 : World} {e size : Nat} {s : Sl} {us : List Value} (h : Nw w w' e size s us) (a : Apart [] w' w2) : Nw w w2 e size s us := ⟨own_apart h.own a (by simp), h.new, h.ap.trans a⟩
theorem Nw.rd {w w' : World} {e size : Nat} {s : Sl} {us : List Value} (h : Nw w w' e size s us) : Rd w' s.p us := Rd.own h.own
theorem Nw.ok {w w' : World} {e size : Nat} {s : Sl} {us : List Value} (h : Nw w w' e size s us) : s.ok := by
  intro hp
  obtain ⟨_, ⟨hv, hz⟩ | ⟨g, cap, cur, hv, _⟩⟩ := h.own
  · unfold Sl.v at hv; simp at hv; exact ⟨hz, hv.2.2⟩
  · unfold Sl.v at hv; simp [hp] at hv
theorem infoB : (Tryz.prog.info? 5).map (fun i => (i.zero, i.size, i.bytes)) = some (some (.int .u8 0), 1, 1) := by kernel_rfl
theorem oneB (bs : List Nat) : ∀ u ∈ byts bs, u.oneCell' = true := by
  intro u hu
  simp [byts] at hu
  obtain ⟨b, _, rfl⟩ := hu
  rfl
end Go.Proofs.YtpddokbjjhbfgaaGreat.ds
namespace Go.Proofs.YtpddokbjjhbfgaaGreat.ds
open Go.ChangeShapes Go.WideShapes Go.ChangeAt Go.RowKit Go.Sort
set_option linter.unusedVariables false
set_option linter.unusedSimpArgs false
theorem own_typ {w : World} {base : Nat} {e : TypeId} {size : Nat} {v : Value} {n : Nat} {xs : List Value} (h : w.ownsRow base e size v n xs) {k : Nat} (hk : v.ownBlock = some k) : ∃ cur, w.heap[k]? = some (.cells cur e (0, 0)) := by
  obtain ⟨_, ⟨hv, _⟩ | ⟨g, cap, cur, hv, _, hr, _⟩⟩ := h
  · rw [hv] at hk; simp [Value.ownBlock] at hk
  · rw [hv] at hk; simp [Value.ownBlock] at hk; subst hk; exact ⟨cur, hr⟩
def Wr.z : Wr := ⟨0, 0, ⟨#[]⟩, false, [], []⟩
def gR (rs : List Wr) (k : Nat) : Wr := rs.getD k Wr.z
/-- a write of new memory, its slices too -/
structure Fresh (w wr : World) (e : E) (r : Wr) : Prop where
  n : e.n = r.n
  c : e.c = r.c
  k : e.k = r.k
  d : e.d = r.d
  v : Nw w wr 5 1 e.v (byts r.vs)
  vn : r.vs.length = e.v.n
  vl : e.v.n ≤ 2000000
  vb : ∀ b ∈ r.vs, b < 256
  x : Nw w wr 94 3 e.x (flat r.xs)
  xn : r.xs.length = e.x.n
  xl : e.x.n ≤ 2000000
  xf : ∀ y ∈ r.xs, y.t < 2 ^ 64
theorem Fresh.kept {w wr w' : World} {e : E} {r : Wr} {X : List Nat} (h : Fresh w wr e r) (a : Apart X wr w') (aw : Apart [] w w') (hX : ∀ k ∈ X, ∀ cur, wr.heap[k]? ≠ some (.cells cur 5 (0, 0)) ∧ wr.heap[k]? ≠ some (.cells cur 94 (0, 0))) : Fresh w w' e r :=
  { h with
    v := ⟨own_apart h.v.own a (fun k hk hm => by obtain ⟨cur, e1⟩ := own_typ h.v.own hk; exact (hX k hm cur).1 e1), h.v.new, aw⟩
    x := ⟨own_apart h.x.own a (fun k hk hm => by obtain ⟨cur, e1⟩ := own_typ h.x.own hk; exact (hX k hm cur).2 e1), h.x.new, aw⟩ }
theorem Fresh.kept0 {w wr w' : World} {e : E} {r : Wr} (h : Fresh w wr e r) (a : Apart [] wr w') : Fresh w w' e r := h.kept a (h.v.ap.trans a) (by simp)
end Go.Proofs.YtpddokbjjhbfgaaGreat.ds
namespace Go.Proofs.YtpddokbjjhbfgaaGreat.ds
open Go.ChangeShapes Go.WideShapes Go.ChangeAt Go.RowKit Go.Sort
set_option linter.unusedVariables false
set_option linter.unusedSimpArgs false
/-- append to nil -/
theorem run_appNil (w : World) (t ty e : TypeId) (i : TypeInfo) (z : Value) (size bytes : Nat) (ht : Tryz.prog.underlying t = some (.slice e)) (hi : Tryz.prog.info? e = some i) (hz : i.zero = some z) (hsize : i.size = size) (hby : i.bytes = bytes) (hzs : z.cells.size = size) (hsz : 0 < size)
    (s : Sl) (us : List Value) (h : Rd w s.p us) (hl : us.length = s.n * size) (one : ∀ u ∈ us, u.oneCell' = true) (h63 : s.n ≤ 2000000) (hb : s.n * bytes ≤ 140737488355328) (ok : s.ok) :
    ∃ s' w', (Builtin.append_ #[t, t] ty #[.slice none 0 0, s.v]).run Tryz.prog w = .ok (Sl.v s') w' ∧ Nw w w' e size s' us ∧ s'.n = s.n := by
  obtain ⟨p, N, c⟩ := s
  unfold Sl.ok at ok
  simp only at h hl h63 hb ok
  cases p with
  | none =>
    obtain ⟨rfl, rfl⟩ := ok rfl
    have hu : us = [] := List.length_eq_zero_iff.1 (by omega)
    subst hu
    exact ⟨⟨none, 0, 0⟩, w, run_append_owned_none (P := Tryz.prog) w 0 t ty e i size ht hi (.slice none 0 0) 0 [] (World.ownsRow_nil _ _ _ _), ⟨World.ownsRow_nil _ _ _ _, by simp [Sl.v, Value.ownBlock], Apart.refl _ _⟩, rfl⟩
  | some ad =>
    have hcs : ∀ j u, us[j]? = some u → w.cell? (ad.add j) = some u := by
      intro j u hj
      have hjl : j < us.length := by
        by_cases hc : j < us.length
        · exact hc
        · rw [List.getElem?_eq_none (by omega)] at hj; cases hj
      obtain ⟨P, o, e1, hP, hc⟩ := h (by omega)
      simp at e1
      subst e1
      rw [Addr.add_lit]
      exact hc j u hj
    obtain ⟨v', w', hrun, r1, r2, r3⟩ := run_append_own (P := Tryz.prog) (w := w) w.heap.size t ty e i z size bytes ht hi hz hsize hby hzs hsz (.slice none 0 0) 0 [] (World.ownsRow_nil _ _ _ _) ad N c us hl hcs one (by unfold maxLen; omega) (by simpa using hb) (Nat.le_refl _)
    rw [Nat.zero_add, List.nil_append] at r1
    have ap : Apart [] w w' := by have := apart_grown r2; simpa [Value.ownBlock] using this
    have hnew : ∀ k, v'.ownBlock = some k → w.heap.size ≤ k := fun k hk => (r1.lt k hk).1
    have r0 := own_base r1 (Nat.zero_le _)
    obtain ⟨s', rfl, hs'⟩ : ∃ s' : Sl, v' = s'.v ∧ s'.n = N := by
      obtain ⟨_, ⟨hv, hz⟩ | ⟨g, cap, cur, hv, _⟩⟩ := r1
      · exact ⟨⟨none, 0, 0⟩, hv, hz.symm⟩
      · exact ⟨⟨some ⟨g, 0, none⟩, N, cap⟩, hv, rfl⟩
    exact ⟨s', w', hrun, ⟨by rw [hs']; exact r0, hnew, ap⟩, hs'⟩
theorem L.rd {w : World} {p : Option Addr} {N : Nat} {xs : List S} (h : L w p N xs) : Rd w p (flat xs) := by
  intro h0
  obtain ⟨P, o, e1, hP, hc⟩ := h.sp (by rw [flat_length] at h0; omega)
  refine ⟨P, o, e1, hP, fun j u hj => ?_⟩
  have hsp := h.sp
  rw [e1] at hsp
  have := hsp.cells j u hj
  rwa [Addr.add_lit] at this
end Go.Proofs.YtpddokbjjhbfgaaGreat.ds
namespace Go.Proofs.YtpddokbjjhbfgaaGreat.ds
open Go.ChangeShapes Go.WideShapes Go.ChangeAt Go.RowKit Go.Sort
set_option linter.unusedVariables false
set_option linter.unusedSimpArgs false
/-- a list of writes of the call's own -/
structure OwnE (w W : World) (s : Sl) (es : List E) : Prop where
  nw : Nw w W 38 6 s (flatE es)
  len : es.length = s.n
theorem OwnE.kept {w W W' : World} {s : Sl} {es : List E} (h : OwnE w W s es) (a : Apart [] W W') : OwnE w W' s es := ⟨h.nw.kept a, h.len⟩
end Go.Proofs.YtpddokbjjhbfgaaGreat.ds
namespace Go.Proofs.YtpddokbjjhbfgaaGreat.ds
open Go.ChangeShapes Go.WideShapes Go.ChangeAt Go.RowKit Go.Sort
set_option linter.unusedVariables false
set_option linter.unusedSimpArgs false
/-- several more at a list's end -/
theorem run_appS {w W : World} {s : Sl} {us : List Value} (t ty e : TypeId) (i : TypeInfo) (z : Value) (size bytes : Nat) (ht : Tryz.prog.underlying t = some (.slice e)) (hi : Tryz.prog.info? e = some i) (hz : i.zero = some z) (hsize : i.size = size) (hby : i.bytes = bytes) (hzs : z.cells.size = size) (hsz : 0 < size)
    (h : Nw w W e size s us) (ad : Addr) (m c : Nat) (cs : List Value) (hm : 0 < m) (hcl : cs.length = m * size) (hcs : ∀ j u, cs[j]? = some u → W.cell? (ad.add j) = some u) (one : ∀ u ∈ cs, u.oneCell' = true) (h63 : s.n + m ≤ maxLen) (hb : (s.n + m) * bytes ≤ 140737488355328) :
    ∃ s' W', (Builtin.append_ #[t, t] ty #[s.v, .slice (some ad) m c]).run Tryz.prog W = .ok (Sl.v s') W' ∧ Nw w W' e size s' (us ++ cs) ∧ s'.n = s.n + m ∧ Apart s.v.ownBlock.toList W W' ∧ ∃ k, s'.p = some ⟨k, 0, none⟩ ∧ s'.n ≤ s'.c ∧ (s.v.ownBlock = some k ∨ W.heap.size ≤ k) := by
  have key : ∃ v' W', (Builtin.append_ #[t, t] ty #[s.v, .slice (some ad) m c]).run Tryz.prog W = .ok v' W' ∧ W'.ownsRow 0 e size v' (s.n + m) (us ++ cs) ∧ W.grownBy W' s.v.ownBlock ∧ NewOr W s.v v' :=
    run_append2 W t ty e i z size bytes ht hi hz hsize hby hzs hsz s.v s.n us h.own ad m c cs hm hcl hcs one h63 hb
  obtain ⟨v', W', hrun, r1, r2, r3⟩ := key
  have ap : Apart s.v.ownBlock.toList W W' := apart_grown r2
  obtain ⟨k, c, rfl, hle⟩ : ∃ k c, v' = .slice (some ⟨k, 0, none⟩) (s.n + m) c ∧ s.n + m ≤ c := by
    obtain ⟨_, ⟨hv, hz⟩ | ⟨g, cap, cur, hv, _, _, hle, _⟩⟩ := r1
    · exact absurd hz (by omega)
    · exact ⟨g, cap, hv, hle⟩
  have hk : s.v.ownBlock = some k ∨ W.heap.size ≤ k := by
    rcases r3 with r3 | ⟨q, r3, hq⟩
    · left; rw [← r3]; rfl
    · right
      simp [Value.ownBlock] at r3
      omega
  refine ⟨⟨some ⟨k, 0, none⟩, s.n + m, c⟩, W', hrun, ⟨r1, fun b hb => ?_, h.ap.trans' ap (fun y hy => ?_)⟩, rfl, ap, k, rfl, hle, hk⟩
  · simp [Sl.v, Value.ownBlock] at hb
    subst hb
    rcases hk with hk | hk
    · exact h.new _ hk
    · have := h.ap.size; omega
  · simp at hy
    exact .inr (h.new y hy)
/-- .. out of a row that was just made -/
theorem run_appM {w W : World} {s : Sl} {us : List Value} (t ty e : TypeId) (i : TypeInfo) (z : Value) (size bytes : Nat) (ht : Tryz.prog.underlying t = some (.slice e)) (hi : Tryz.prog.info? e = some i) (hz : i.zero = some z) (hsize : i.size = size) (hby : i.bytes = bytes) (hzs : z.cells.size = size) (hsz : 0 < size)
    (h : Nw w W e size s us) (m : Nat) (cs : List Value) (hm : 0 < m) (hcl : cs.length = m * size) (one : ∀ u ∈ cs, u.oneCell' = true) (h63 : s.n + m ≤ maxLen) (hb : (s.n + m) * bytes ≤ 140737488355328) :
    ∃ s' W', (Builtin.append_ #[t, t] ty #[s.v, .slice (some ⟨W.heap.size, 0, none⟩) m m]).run Tryz.prog (W.alloc (.cells cs.toArray e)) = .ok (Sl.v s') W' ∧ Nw w W' e size s' (us ++ cs) ∧ s'.n = s.n + m ∧ Apart s.v.ownBlock.toList W W' ∧ ∃ k, s'.p = some ⟨k, 0, none⟩ ∧ s'.n ≤ s'.c ∧ (s.v.ownBlock = some k ∨ W.heap.size ≤ k) := by
  have a1 : Apart [] W (W.alloc (.cells cs.toArray e)) := (Apart.refl [] W).alloc _
  have hcs : ∀ j u, cs[j]? = some u → (W.alloc (.cells cs.toArray e)).cell? ((⟨W.heap.size, 0, none⟩ : Addr).add j) = some u := by
    intro j u hj
    rw [Addr.add_lit, Nat.zero_add, cell_of_row _ _ _ _ _ _ (heap_alloc_new W (.cells cs.toArray e))]
    simpa using hj
  obtain ⟨s', W', hrun, r1, r2, r3, k, r4, r5, r6⟩ := run_appS t ty e i z size bytes ht hi hz hsize hby hzs hsz (h.kept a1) ⟨W.heap.size, 0, none⟩ m m cs hm hcl hcs one h63 hb
  exact ⟨s', W', hrun, r1, r2, (a1.mono (by simp)).trans r3, k, r4, r5, r6.imp id (fun h => Nat.le_trans a1.size h)⟩
end Go.Proofs.YtpddokbjjhbfgaaGreat.ds
namespace Go.Proofs.YtpddokbjjhbfgaaGreat.ds
open Go.ChangeShapes Go.WideShapes Go.ChangeAt Go.RowKit Go.Sort
set_option linter.unusedVariables false
set_option linter.unusedSimpArgs false
theorem wpList_app2 {w : World} {ops : Array Oper} {rest : List Oper} {o : Oper} {a : Act} {Q : Exit → Act → World → Prop} (hgd : o.guard = none) (s x : Operand) (t t' : TypeId)
    (ho : o.op = .call { callee := .builtin .append, args := #[s, x], argTypes := #[t, t'] }) (v u : Value) (hs : a.eval s = v) (hx : a.eval x = u) (v' : Value) (w' : World)
    (hrun : (Builtin.append_ #[t, t'] o.type #[v, u]).run Tryz.prog w = .ok v' w') (hK : wpList Tryz.prog ops Q rest (a.put o.dst v') w') : wpList Tryz.prog ops Q (o :: rest) a w := by
  refine wpList_plain hgd fun K hK' => ?_
  unfold Oper.wp
  simp [execOp, ho, resolve, invoke, builtin, hs, hx, hrun, Result.andThen]
  exact hK' _ _ hK
theorem step_app2 {w : World} {ops : Array Oper} {o : Oper} {a : Act} {K : Act → World → Prop} {Q : Exit → Act → World → Prop} {E : Prop} (hgd : o.guard = none) (s x : Operand) (t t' : TypeId)
    (ho : o.op = .call { callee := .builtin .append, args := #[s, x], argTypes := #[t, t'] }) (v u : Value) (hs : a.eval s = v) (hx : a.eval x = u) (v' : Value) (w' : World)
    (hrun : (Builtin.append_ #[t, t'] o.type #[v, u]).run Tryz.prog w = .ok v' w') (hK : K (a.put o.dst v') w') : if Region.wanted o (yielded ops a.tmps) = true then Oper.wp Tryz.prog o a w K Q else E := by
  have hw : Region.wanted o (yielded ops a.tmps) = true := by simp [Region.wanted, hgd]
  rw [if_pos hw]
  unfold Oper.wp
  simp [execOp, ho, resolve, invoke, builtin, hs, hx, hrun, Result.andThen]
  exact hK
end Go.Proofs.YtpddokbjjhbfgaaGreat.ds
namespace Go.Proofs.YtpddokbjjhbfgaaGreat.ds
open Go.ChangeShapes Go.WideShapes Go.ChangeAt Go.RowKit Go.Sort
set_option linter.unusedVariables false
set_option linter.unusedSimpArgs false
theorem Sp.of_rd {w : World} {p : Option Addr} {xs : List S} (h : Rd w p (flat xs)) : Sp w p xs := by
  intro h0
  obtain ⟨P, o, e, hP, hc⟩ := h (by rw [flat_length]; omega)
  refine ⟨P, o, e, hP, fun i hi => ?_⟩
  obtain ⟨a, b, c⟩ := flat_get xs i hi
  simp only [Nat.add_assoc]
  exact ⟨hc _ _ a, hc _ _ b, hc _ _ c⟩
end Go.Proofs.YtpddokbjjhbfgaaGreat.ds
namespace Go.Proofs.YtpddokbjjhbfgaaGreat.ds
open Go.ChangeShapes Go.WideShapes Go.ChangeAt Go.RowKit Go.Sort
set_option linter.unusedVariables false
set_option linter.unusedSimpArgs false
theorem Nw.keepT {w0 w w' : World} {e size : Nat} {s : Sl} {us : List Value} {X : List Nat} (h : Nw w0 w e size s us) (a : Apart X w w') (ap : Apart [] w0 w') (hX : ∀ k ∈ X, ∀ cur, w.heap[k]? ≠ some (.cells cur e (0, 0))) : Nw w0 w' e size s us :=
  ⟨own_apart h.own a (fun k hk hm => by obtain ⟨cur, e1⟩ := own_typ h.own hk; exact hX k hm cur e1), h.new, ap⟩
end Go.Proofs.YtpddokbjjhbfgaaGreat.ds
namespace Go.Proofs.YtpddokbjjhbfgaaGreat.ds
open Go.ChangeShapes Go.WideShapes Go.ChangeAt Go.RowKit Go.Sort
set_option linter.unusedVariables false
set_option linter.unusedSimpArgs false
/-- a list of new writes, in new memory -/
structure FL (w wr : World) (s : Sl) (es : List E) (rs : List Wr) : Prop where
  own : OwnE w wr s es
  len : rs.length = s.n
  fr : ∀ j, j < s.n → Fresh w wr (gE es j) (gR rs j)
theorem FL.kept {w wr wx : World} {s : Sl} {es : List E} {rs : List Wr} (h : FL w wr s es rs) (a : Apart [] wr wx) : FL w wx s es rs := ⟨h.own.kept a, h.len, fun j hj => (h.fr j hj).kept0 a⟩
end Go.Proofs.YtpddokbjjhbfgaaGreat.ds
namespace Go.Proofs.YtpddokbjjhbfgaaGreat.ds
open Go.ChangeShapes Go.WideShapes Go.ChangeAt Go.RowKit Go.Sort
set_option linter.unusedVariables false
set_option linter.unusedSimpArgs false
theorem Nw.from {w0 w w' : World} {e size : Nat} {s : Sl} {us : List Value} (h : Nw w w' e size s us) (a : Apart [] w0 w) : Nw w0 w' e size s us := ⟨h.own, fun k hk => Nat.le_trans a.size (h.new k hk), a.trans h.ap⟩
end Go.Proofs.YtpddokbjjhbfgaaGreat.ds
namespace Go.Proofs.YtpddokbjjhbfgaaGreat.ds
open Go.ChangeShapes Go.WideShapes Go.ChangeAt Go.RowKit
set_option linter.unusedVariables false
theorem gap_yes (n : Int) (w : World) (h : 1 ≤ n ∧ n ≤ 64) : Calls Tryz.prog 75 #[.int .i64 n] w fun r w' => r = .returned (.bool true) ∧ w' = w := by
  have := gap_ok n w
  rwa [decide_eq_true h] at this
theorem gap_no (n : Int) (w : World) (h : ¬ (1 ≤ n ∧ n ≤ 64)) : Calls Tryz.prog 75 #[.int .i64 n] w fun r w' => r = .returned (.bool false) ∧ w' = w := by
  have := gap_ok n w
  rwa [decide_eq_false h] at this
theorem check_arg {p : Option Addr} {N cap : Nat} {xs : List S} {gap : Int} {w : World} (hg : ¬ (1 ≤ gap ∧ gap ≤ 64)) : Calls Tryz.prog 53 #[.slice p N cap, .int .i64 gap] w fun r w' => r = .returned (.int .i64 1) ∧ Apart [] w w' := by
  go_enter Tryz.func53, Tryz.ntmps53
  go_wp2_with (go_at_call 75; refine (gap_no gap _ hg).mono ?_; rintro r w1 ⟨rfl, rfl⟩)
  go_ret
  exact ⟨rfl, Apart.refl _ _⟩
theorem check_yes {p : Option Addr} {N cap : Nat} {xs : List S} {gap : Int} {w : World} (h : L w p N xs) (hg : 1 ≤ gap ∧ gap ≤ 64) (k : OkL gap xs) : Calls Tryz.prog 53 #[.slice p N cap, .int .i64 gap] w fun r w' => r = .returned (.int .i64 0) ∧ Apart [] w w' := by
  go_enter Tryz.func53, Tryz.ntmps53
  go_wp2_with (first | (go_at_call 75; refine (gap_yes gap _ hg).mono ?_; rintro r w1 ⟨rfl, rfl⟩) | (go_at_call 76; refine (isSet_yes h k).mono ?_; rintro r w2 ⟨rfl, a2⟩))
  go_ret
  exact ⟨rfl, a2⟩
theorem check_no {p : Option Addr} {N cap : Nat} {xs : List S} {gap : Int} {w : World} (h : L w p N xs) (hg : 1 ≤ gap ∧ gap ≤ 64) (k : ¬ OkL gap xs) : Calls Tryz.prog 53 #[.slice p N cap, .int .i64 gap] w fun r w' => r = .returned (.int .i64 30) ∧ Apart [] w w' := by
  go_enter Tryz.func53, Tryz.ntmps53
  go_wp2_with (first | (go_at_call 75; refine (gap_yes gap _ hg).mono ?_; rintro r w1 ⟨rfl, rfl⟩) | (go_at_call 76; refine (isSet_no h k).mono ?_; rintro r w2 ⟨rfl, a2⟩))
  go_ret
  exact ⟨rfl, a2⟩
end Go.Proofs.YtpddokbjjhbfgaaGreat.ds

