import Derived.Test.YtllhmidpphlbhaaG5
import Derived.Test.YtllhmidpphlbhaaG8
import Derived.Test.YtllhmidpphlbhaaG1
import Derived.Test.YtllhmidpphlbhaaG4
import Derived.Test.YtllhmidpphlbhaaG3
import Derived.Test.YtllhmidpphlbhaaG2
import Derived.Deep.CutRange
import Derived.Sort.WalkA
import Derived.Lib.AppendStr
import Derived.Lib.SliceRun
import Derived.Lib.Walk
import Derived.Laws.Strings
import Derived.Laws.StructEq
import Derived.Laws.NewBlocks
import Derived.Great.BuildSlice
import Derived.Deep.CutBlock
import Derived.Deep.DeepAppendRoom
import Derived.Lib.ConvBytes
import Derived.Laws.IdiomCopy
import Derived.Lib.AppendZerosOnto
import Derived.Deep.RegionLaw
import Derived.Deep.RegionHeld3
namespace Go.Proofs.Ytllhmidpphlbhaa.ds
open Go.ChangeShapes Go.WideShapes Go.ChangeAt Go.RowKit Go.Sort
set_option linter.unusedVariables false
set_option linter.unusedSimpArgs false
/-- a text's bytes -/
def bsk (k : ByteArray) : List Nat := k.toList.map UInt8.toNat
theorem bsk_lt (k : ByteArray) : ∀ b ∈ bsk k, b < 256 := by
  intro b hb
  simp only [bsk, List.mem_map] at hb
  obtain ⟨x, _, rfl⟩ := hb
  exact x.toNat_lt
theorem strB_fold : ∀ (l : List Nat) (r : ByteArray), ((l.map (fun (b : Nat) => (b : Int))).foldl (fun r n => r.push (UInt8.ofNat n.toNat)) r).toList = r.toList ++ l.map UInt8.ofNat
  | [], r => by simp
  | x :: l, r => by
    simp only [List.map_cons, List.foldl_cons]
    rw [strB_fold l]
    simp [ByteArray.toList_eq]
theorem strB_list (l : List Nat) : (strB l).toList = l.map UInt8.ofNat := by
  unfold strB
  rw [strB_fold]
  simp [ByteArray.toList_eq]
theorem bsk_strB {l : List Nat} (h : ∀ b ∈ l, b < 256) : bsk (strB l) = l := by
  unfold bsk
  rw [strB_list, List.map_map]
  refine (List.map_congr_left (fun b hb => ?_)).trans (List.map_id l)
  have := h b hb
  simp only [Function.comp, id, UInt8.toNat_ofNat']
  omega
theorem toList_inj' {a b : ByteArray} (h : a.toList = b.toList) : a = b := by
  rw [ByteArray.toList_eq, ByteArray.toList_eq] at h
  cases a; cases b; simp at h; rw [h]
theorem strB_bsk (k : ByteArray) : strB (bsk k) = k := by
  apply toList_inj'
  rw [strB_list, bsk, List.map_map]
  refine (List.map_congr_left (fun b hb => ?_)).trans (List.map_id _)
  simp
theorem bsk_len (k : ByteArray) : (bsk k).length = k.size := by
  rw [bsk, List.length_map, ByteArray.toList_eq, Array.length_toList]; rfl
theorem bsk_inj {a b : ByteArray} (h : bsk a = bsk b) : a = b := by rw [← strB_bsk a, h, strB_bsk]
theorem strB_size {l : List Nat} (h : ∀ b ∈ l, b < 256) : (strB l).size = l.length := by rw [← bsk_len, bsk_strB h]
theorem OkL.tail {g : Int} {x : S} {s : List S} (h : OkL g (x :: s)) : OkL g s := ⟨fun y hy => h.ok y (List.mem_cons_of_mem _ hy), (List.pairwise_cons.1 h.up).2⟩
theorem OkL.len8 : ∀ {l : List S} (k : Int), OkL 64 l → (∀ x ∈ l, k ≤ x.n) → k ≤ 8 → (l.length : Int) ≤ 8 - k
  | [], k, h, hk, h8 => by simp; omega
  | x :: l, k, h, hk, h8 => by
    have a := hk x (by simp)
    have b := (h.ok x (by simp)).n8
    have := OkL.len8 (l := l) (x.n + 1) h.tail (fun y hy => by have := (List.pairwise_cons.1 h.up).1 y hy; omega) (by omega)
    simp only [List.length_cons]
    omega
theorem OkL.le8 {l : List S} (h : OkL 64 l) : l.length ≤ 8 := by
  have := OkL.len8 (l := l) 0 h (fun x hx => (h.ok x hx).n0) (by omega)
  omega
/-- spans as a page has them are a set without the dot -/
theorem VSp_iff {dn dc : Nat} : ∀ (l : List S) (lo : Nat), VSp dn dc lo l ↔ (OkL 64 l ∧ (∀ x ∈ l, (lo : Int) ≤ x.n)) ∧ ∀ x ∈ l, dotS x dn dc = false
  | [], lo => ⟨fun _ => ⟨⟨OkL.nil _, by simp⟩, by simp⟩, fun _ => trivial⟩
  | x :: l, lo => by
    unfold VSp
    rw [VSp_iff l]
    constructor
    · rintro ⟨⟨h1, h2⟩, ⟨h3, h4⟩, h5⟩
      obtain ⟨h6, h7⟩ := ctxS_ok h2
      have h0 := h6.n0
      refine ⟨⟨⟨?_, ?_⟩, ?_⟩, ?_⟩
      · intro y hy
        rcases List.mem_cons.1 hy with rfl | hy
        · exact h6
        · exact h3.ok y hy
      · exact List.pairwise_cons.2 ⟨fun y hy => by have := h4 y hy; omega, h3.up⟩
      · intro y hy
        rcases List.mem_cons.1 hy with rfl | hy
        · exact h1
        · have := h4 y hy; omega
      · intro y hy
        rcases List.mem_cons.1 hy with rfl | hy
        · exact h7
        · exact h5 y hy
    · rintro ⟨⟨h1, h2⟩, h3⟩
      have ho := h1.ok x (by simp)
      have h0 := ho.n0
      refine ⟨⟨h2 x (by simp), ?_⟩, ⟨h1.tail, fun y hy => ?_⟩, fun y hy => h3 y (List.mem_cons_of_mem _ hy)⟩
      · unfold ctxS
        rw [(rgtS_iff x).2 ho, h3 x (by simp)]; rfl
      · have := (List.pairwise_cons.1 h1.up).1 y hy; omega
theorem dot_none (n c : Int) (h : 1 ≤ c) : dot (none0 n) c = false := by
  have : decide (c ≤ 0) = false := decide_eq_false (by omega)
  show (decide (c ≤ 0) || Nat.testBit 0 _) = false
  rw [this, Nat.zero_testBit]; rfl
theorem hasv_iff {xs : List S} (ho : OkL 64 xs) {dn dc : Nat} (hn : dn ≤ 7) (hc : dc ≤ 1048576) : hasv xs dn dc = false ↔ ∀ x ∈ xs, dotS x dn dc = false := by
  unfold hasv
  rcases Nat.lt_or_ge dc 1 with h0 | h0
  · have : dc = 0 := by omega
    subst this
    simp [dotS]
  · have e1 : decide (0 ≤ ((dn : Nat) : Int) ∧ ((dn : Nat) : Int) < 8) = true := decide_eq_true (by omega)
    have e2 : decide (1 ≤ ((dc : Nat) : Int) ∧ ((dc : Nat) : Int) ≤ 1048576) = true := decide_eq_true (by omega)
    rw [e1, e2, Bool.true_and, Bool.true_and]
    have e3 : decide (1 ≤ dc) = true := decide_eq_true h0
    clear e1 e2
    induction xs with
    | nil => simp [ofn, dot_none _ _ (show (1 : Int) ≤ dc by omega)]
    | cons x l ih =>
      have ih := ih ho.tail
      unfold ofn
      by_cases hx : x.n = (dn : Int)
      · rw [if_pos hx]
        constructor
        · intro h y hy
          rcases List.mem_cons.1 hy with rfl | hy
          · unfold dotS; rw [h, Bool.and_false]
          · have := (List.pairwise_cons.1 ho.up).1 y hy
            unfold dotS
            rw [decide_eq_false (show ¬ (y.n = (dn : Int)) by omega)]; rfl
        · intro h
          have := h x (by simp)
          unfold dotS at this
          rw [decide_eq_true hx, e3] at this
          simpa using this
      · rw [if_neg hx]
        constructor
        · intro h y hy
          rcases List.mem_cons.1 hy with rfl | hy
          · unfold dotS; rw [decide_eq_false hx]; rfl
          · exact ih.1 h y hy
        · exact fun h => ih.2 (fun y hy => h y (List.mem_cons_of_mem _ hy))
/-! what is refused when a page is built -/
/-- a write that can be stored -/
structure Stor (r : Wr) : Prop where
  n : 0 ≤ r.n ∧ r.n ≤ 7
  c : 1 ≤ r.c ∧ r.c ≤ 1048576
  k : 1 ≤ r.k.size ∧ r.k.size ≤ 16
  v : r.vs.length ≤ mostV r.d
  x : OkL 64 r.xs
  h : hasv r.xs r.n r.c = false
/-- the write of a page -/
def cwOf (r : Wr) : Cw := ⟨r.n.toNat, r.c.toNat, r.d, r.vs, r.xs⟩
open Classical in
noncomputable def eCls : Int → List (Int × List S) → Int
  | _, [] => 0
  | lo, c :: l => if lo ≤ c.1 ∧ c.1 ≤ 15 then (if OkL 64 c.2 then eCls (c.1 + 1) l else 30) else 40
noncomputable def eClocks (g : Int) (cs : List (Int × List S)) : Int := if 0 ≤ g ∧ g ≤ 281474976710655 then (if cs.length ≤ 16 then eCls 0 cs else 71) else 1
def leastI (an ac n : Int) : Int := if n = an then ac + 1 else 1
open Classical in
noncomputable def eKeys (k : ByteArray) : Int → Int → List Wr → Int
  | _, _, [] => 0
  | an, ac, r :: l => if r.k = k then (if Stor r then (if an ≤ r.n ∧ leastI an ac r.n ≤ r.c then eKeys k r.n r.c l else 1) else 52) else 50
noncomputable def eKey1 (r : Wr) (l : List Wr) : Int := if (r :: l).length ≤ 8 then (if 1 ≤ r.k.size ∧ r.k.size ≤ 16 then eKeys r.k 0 0 (r :: l) else 50) else 71
noncomputable def eKey : List Wr → Int
  | [] => 1
  | r :: l => eKey1 r l
open Classical in
noncomputable def eHint (o : Int) (r : Wr) : Int := if 0 ≤ o ∧ o ≤ 7 then (if 1 ≤ r.k.size ∧ r.k.size ≤ 16 then (if Stor r then 0 else 52) else 50) else 4
def clOf (cs : List (Int × List S)) : List (Nat × List S) := cs.map (fun c => (c.1.toNat, c.2))
def pcC (g : Int) (cs : List (Int × List S)) : Pc := .clocks g.toNat (clOf cs)
def pcK (rs : List Wr) : Pc := .key (bsk (rs.headD Wr.z0).k) (rs.map cwOf)
  where Wr.z0 : Wr := ⟨0, 0, ⟨#[]⟩, false, [], []⟩
def pcH (o : Int) (r : Wr) : Pc := .hint o.toNat (bsk r.k) (cwOf r)
theorem VCl_of : ∀ {cs : List (Int × List S)} {lo : Int}, 0 ≤ lo → eCls lo cs = 0 → VCl lo.toNat (clOf cs)
  | [], lo, h0, h => trivial
  | c :: l, lo, h0, h => by
    unfold eCls at h
    split at h
    · rename_i h1
      split at h
      · rename_i h2
        have ih := VCl_of (cs := l) (lo := c.1 + 1) (by omega) h
        refine ⟨⟨by show lo.toNat ≤ c.1.toNat; omega, by show c.1.toNat ≤ 15; omega, h2.le8, (VSp_iff _ _).2 ⟨⟨h2, fun x hx => (h2.ok x hx).n0⟩, fun x hx => ?_⟩⟩, ?_⟩
        · show (decide _ && decide (1 ≤ 0) && _) = false
          simp
        · show VCl (c.1.toNat + 1) _
          rw [show c.1.toNat + 1 = (c.1 + 1).toNat from by omega]; exact ih
      · omega
    · omega
theorem VPc_C {g : Int} {cs : List (Int × List S)} (h : eClocks g cs = 0) : VPc (pcC g cs) := by
  unfold eClocks at h
  split at h
  · rename_i h1
    split at h
    · rename_i h2
      exact ⟨by omega, by unfold clOf; rw [List.length_map]; exact h2, VCl_of (lo := 0) (by omega) h⟩
    · omega
  · omega
theorem Stor.vp {r : Wr} (h : Stor r) {an ac : Nat} (h1 : (an : Int) ≤ r.n) (h2 : leastI an ac r.n ≤ r.c) : VPw an ac (cwOf r) := by
  obtain ⟨n1, n2⟩ := h.n
  obtain ⟨c1, c2⟩ := h.c
  have hh := h.h
  have en : r.n = ((r.n.toNat : Nat) : Int) := by omega
  have ec : r.c = ((r.c.toNat : Nat) : Int) := by omega
  rw [en, ec] at hh
  refine ⟨⟨by show an ≤ r.n.toNat; omega, by show r.n.toNat ≤ 7; omega⟩, ⟨?_, by show r.c.toNat ≤ _; omega⟩, h.v, h.x.le8, (VSp_iff _ _).2 ⟨⟨h.x, fun x hx => (h.x.ok x hx).n0⟩, (hasv_iff h.x (dn := r.n.toNat) (dc := r.c.toNat) (by omega) (by omega)).1 hh⟩⟩
  show leastC an ac r.n.toNat ≤ r.c.toNat
  unfold leastC
  unfold leastI at h2
  split
  · rename_i h3
    rw [if_pos (by omega)] at h2; omega
  · rename_i h3
    omega
theorem VPws_of {k : ByteArray} : ∀ {rs : List Wr} {an ac : Nat}, eKeys k an ac rs = 0 → VPws an ac (rs.map cwOf) ∧ ∀ r ∈ rs, r.k = k ∧ Stor r
  | [], an, ac, h => ⟨trivial, by simp⟩
  | r :: l, an, ac, h => by
    unfold eKeys at h
    split at h
    · rename_i h1
      split at h
      · rename_i h2
        split at h
        · rename_i h3
          have h4 := h2.n
          have h5 := h2.c
          have ih := VPws_of (rs := l) (an := r.n.toNat) (ac := r.c.toNat) (by rw [show ((r.n.toNat : Nat) : Int) = r.n from by omega, show ((r.c.toNat : Nat) : Int) = r.c from by omega]; exact h)
          refine ⟨⟨h2.vp h3.1 h3.2, ih.1⟩, fun y hy => ?_⟩
          rcases List.mem_cons.1 hy with rfl | hy
          · exact ⟨h1, h2⟩
          · exact ih.2 y hy
        · omega
      · omega
    · omega
theorem VPc_K {rs : List Wr} (h : eKey rs = 0) : VPc (pcK rs) := by
  cases rs with
  | nil => exact absurd h (by decide)
  | cons r l =>
    have h : eKey1 r l = 0 := h
    unfold eKey1 at h
    split at h
    · rename_i h1
      split at h
      · rename_i h2
        refine ⟨by show 1 ≤ (bsk r.k).length ∧ (bsk r.k).length ≤ 16; rw [bsk_len]; exact h2, ?_, (VPws_of h).1⟩
        rw [List.length_map]
        exact ⟨by simp, h1⟩
      · omega
    · omega
theorem VPc_H {o : Int} {r : Wr} (h : eHint o r = 0) : VPc (pcH o r) := by
  unfold eHint at h
  split at h
  · rename_i h1
    split at h
    · rename_i h2
      split at h
      · rename_i h3
        refine ⟨by omega, by rw [bsk_len]; exact h2, h3.vp (by have := h3.n; omega) ?_⟩
        have := h3.c
        unfold leastI; split <;> omega
      · omega
    · omega
  · omega
end Go.Proofs.Ytllhmidpphlbhaa.ds
namespace Go.Proofs.Ytllhmidpphlbhaa.ds
end Go.Proofs.Ytllhmidpphlbhaa.ds
namespace Go.Proofs.Ytllhmidpphlbhaa.ds
open Go.ChangeShapes Go.WideShapes Go.ChangeAt Go.RowKit Go.Sort
set_option linter.unusedVariables false
set_option linter.unusedSimpArgs false

theorem hid {p : Prop} (h : p) : Hid p := h
/-- a page's reader in memory -/
structure PR (w : World) (R P o c : Nat) (B : List Nat) (s : Ps) : Prop where
  blk : w.heap[R]? = some (.cells #[.slice (some ⟨P, o, none⟩) 2048 c, .int .i64 (s.at_ : Nat), .bool s.bad] 97 (0, 0))
  rd : Rd w (some ⟨P, o, none⟩) (byts B)
  len : B.length = 2048
  b8 : ∀ b ∈ B, b < 256
  le : s.at_ ≤ 2048
  cap : 2048 ≤ c
  ne : P ≠ R
theorem PR.lt {w : World} {R P o c : Nat} {B : List Nat} {s : Ps} (h : PR w R P o c B s) : P < w.heap.size := by
  obtain ⟨P', o', e, hP, _⟩ := h.rd (by simp [byts, h.len])
  simp at e; rw [e.1]; exact hP
theorem PR.kept {w w' : World} {R P o c : Nat} {B : List Nat} {s : Ps} {X : List Nat} (h : PR w R P o c B s) (a : Apart X w w') (hR : R ∉ X) (hP : P ∉ X) : PR w' R P o c B s :=
  { h with blk := (a.block _ (lt_of_heap h.blk) hR).trans h.blk, rd := h.rd.kept a (fun P' o' e => by simp at e; rw [← e.1]; exact hP) }
theorem PR.kept0 {w w' : World} {R P o c : Nat} {B : List Nat} {s : Ps} (h : PR w R P o c B s) (a : Apart [] w w') : PR w' R P o c B s := h.kept a (by simp) (by simp)
theorem PR.cells {w : World} {R P o c : Nat} {B : List Nat} {s : Ps} (h : PR w R P o c B s) : w.cell? ⟨R, 0, none⟩ = some (.slice (some ⟨P, o, none⟩) 2048 c) ∧ w.cell? ⟨R, 1, none⟩ = some (.int .i64 (s.at_ : Nat)) ∧ w.cell? ⟨R, 2, none⟩ = some (.bool s.bad) ∧ w.frozen? ⟨R, 1, none⟩ = false ∧ w.frozen? ⟨R, 2, none⟩ = false := by
  refine ⟨?_, ?_, ?_, frozen_of_row _ _ 1 _ _ h.blk, frozen_of_row _ _ 2 _ _ h.blk⟩
  · rw [cell_of_row _ _ _ _ _ _ h.blk]; rfl
  · rw [cell_of_row _ _ _ _ _ _ h.blk]; rfl
  · rw [cell_of_row _ _ _ _ _ _ h.blk]; rfl
theorem PR.move {w : World} {R P o c : Nat} {B : List Nat} {s : Ps} (h : PR w R P o c B s) (q : Nat) (hq : q ≤ 2048) : PR (w.setCell ⟨R, 1, none⟩ (.int .i64 (q : Nat))) R P o c B ⟨q, s.bad⟩ := by
  have a : Apart [R] w (w.setCell ⟨R, 1, none⟩ (.int .i64 (q : Nat))) := (Apart.refl _ _).setCell (.inl (by simp)) _
  refine { h with blk := ?_, rd := h.rd.kept a (fun P' o' e => by simp at e; rw [← e.1]; simp; exact h.ne), le := hq }
  have := heap_setCell_same w R 1 _ 97 (.int .i64 (q : Nat)) h.blk
  simpa using this
theorem PR.stop {w : World} {R P o c : Nat} {B : List Nat} {s : Ps} (h : PR w R P o c B s) : PR (w.setCell ⟨R, 2, none⟩ (.bool true)) R P o c B ⟨s.at_, true⟩ := by
  have a : Apart [R] w (w.setCell ⟨R, 2, none⟩ (.bool true)) := (Apart.refl _ _).setCell (.inl (by simp)) _
  refine { h with blk := ?_, rd := h.rd.kept a (fun P' o' e => by simp at e; rw [← e.1]; simp; exact h.ne) }
  have := heap_setCell_same w R 2 _ 97 (.bool true) h.blk
  simpa using this
theorem PR.byte {w : World} {R P o c : Nat} {B : List Nat} {s : Ps} (h : PR w R P o c B s) (i : Nat) (hi : i < 2048) : w.cell? ⟨P, o + i, none⟩ = some (.int .u8 ((B.getD i 0 : Nat) : Int)) := by
  have hl := h.len
  obtain ⟨P', o', e, hP, hc⟩ := h.rd (by simp [byts]; omega)
  simp at e
  rw [e.1, e.2]
  refine hc i _ ?_
  rw [byts, List.getElem?_map, List.getElem?_eq_getElem (by omega), List.getD_eq_getElem?_getD, List.getElem?_eq_getElem (by omega)]
  rfl
theorem PR.b {w : World} {R P o c : Nat} {B : List Nat} {s : Ps} (h : PR w R P o c B s) (i : Nat) : B.getD i 0 < 256 := by
  rw [List.getD_eq_getElem?_getD]
  cases hg : B[i]? with
  | none => simp
  | some b => simp; exact h.b8 b (List.mem_of_getElem? hg)
theorem le_snoc (B : List Nat) : ∀ (k q : Nat), le B (k + 1) q = le B k q + 256 ^ k * B.getD (q + k) 0
  | 0, q => by simp [le]
  | k + 1, q => by
    have ih := le_snoc B k (q + 1)
    show B.getD q 0 + 256 * le B (k + 1) (q + 1) = (B.getD q 0 + 256 * le B k (q + 1)) + 256 ^ (k + 1) * B.getD (q + (k + 1)) 0
    rw [ih, show q + 1 + k = q + (k + 1) from by omega, Nat.pow_succ, Nat.mul_add, Nat.mul_comm (256 ^ k) 256, Nat.mul_assoc]; omega
theorem or_add (a b i : Nat) (ha : a < 2 ^ i) (hb : b * 2 ^ i < 18446744073709551616) : a ||| b <<< i % 18446744073709551616 = a + b * 2 ^ i := by
  rw [Nat.shiftLeft_eq, Nat.mod_eq_of_lt hb, Nat.or_comm, ← Nat.shiftLeft_eq, ← Nat.shiftLeft_add_eq_or_of_lt ha, Nat.shiftLeft_eq]
  omega
theorem pow256 (i : Nat) : 256 ^ i = 2 ^ (8 * i) := by rw [Nat.pow_mul]
theorem or_nat (a b : Nat) (ha : a < 2 ^ 64) (hb : b < 2 ^ 64) : bits .or .u64 (a : Int) (b : Int) = ((a ||| b : Nat) : Int) := bits_or_u64_nat a b (by omega) (by omega)
theorem wrap_shl (d m : Nat) (h : d * 2 ^ m < 18446744073709551616) : IntKind.u64.wrap ((d : Int) * 2 ^ m) = ((d * 2 ^ m : Nat) : Int) := by
  rw [IntKind.wrap_u64]
  generalize hz : 2 ^ m = z at *
  have hz2 : (2 : Int) ^ m = (z : Int) := by rw [← hz]; simp
  rw [hz2, ← Int.natCast_mul]
  omega
theorem le_or {B : List Nat} (h8 : ∀ b ∈ B, b < 256) (i q d : Nat) (hi : i ≤ 7) (hd : d = B.getD (q + i) 0) (hd8 : d < 256) : d * 2 ^ (8 * i) < 18446744073709551616 ∧ bits .or .u64 ((le B i q : Nat) : Int) ((d * 2 ^ (8 * i) : Nat) : Int) = ((le B (i + 1) q : Nat) : Int) := by
  have h1 := le_lt h8 i q
  rw [pow256] at h1
  have h2 : 2 ^ (8 * i) ≤ 2 ^ 56 := Nat.pow_le_pow_right (by omega) (by omega)
  have h3 : d * 2 ^ (8 * i) ≤ 255 * 2 ^ 56 := Nat.mul_le_mul (by omega) h2
  have h4 : d * 2 ^ (8 * i) < 18446744073709551616 := by omega
  refine ⟨h4, ?_⟩
  rw [or_nat _ _ (by omega) (by omega)]
  have h5 := or_add (le B i q) d (8 * i) h1 h4
  rw [Nat.shiftLeft_eq, Nat.mod_eq_of_lt h4] at h5
  rw [h5, le_snoc, pow256, hd, Nat.mul_comm]
set_option maxHeartbeats 4000000 in
set_option maxRecDepth 100000 in
theorem peek_ok {w : World} {R P o c : Nat} {B : List Nat} {s : Ps} (h : PR w R P o c B s) (k : Nat) (hk : 1 ≤ k ∧ k ≤ 8) (hr : s.at_ + k ≤ 2048) :
    Calls Try.prog 97 #[.pointer (some ⟨R, 0, none⟩), .int .i64 (k : Nat)] w fun e w' => e = .returned (.int .u64 ((le B k s.at_ : Nat) : Int)) ∧ Apart [] w w' := by
  have HRB := hid h
  have hcap := h.cap
  obtain ⟨q, Hq⟩ : ∃ q, Hid (q = s.at_) := ⟨_, rfl⟩
  obtain ⟨t, Ht⟩ : ∃ t, Hid (t = q + k) := ⟨_, rfl⟩
  have HWs : Hid (IntKind.i64.wrap ((q : Int) + (k : Int)) = (t : Int)) := by unfold Hid; rw [IntKind.wrap_i64, Ht.out, Hq.out]; omega
  have HL : Hid (q + k ≤ 2048 ∧ 1 ≤ k ∧ k ≤ 8 ∧ 2048 ≤ c) := ⟨by rw [Hq.out]; omega, hk.1, hk.2, hcap⟩
  have HE : Hid (le B k s.at_ = le B k q) := by unfold Hid; rw [Hq.out]
  have HB8 : Hid (∀ i, B.getD i 0 < 256) := fun i => h.b i
  clear h hr hk hcap
  go_enter Try.func97, Try.ntmps97
  go_upto_region 2 with fail
  refine wp_region_held_drew (S := fun W => Apart [] w W) (by kernel_rfl) (Apart.refl [] w).drew (fun hHeld => ?_)
  have Twd : Hid (Apart [] w w.drew) := (Apart.refl [] w).drew
  have HC : Hid (∀ W, Apart [] w W → W.cell? ⟨R, 0, none⟩ = some (.slice (some ⟨P, o, none⟩) 2048 c) ∧ W.cell? ⟨R, 1, none⟩ = some (.int .i64 (q : Nat))) := fun W a => by
    have := (HRB.out.kept0 a).cells
    rw [Hq.out]; exact ⟨this.1, this.2.1⟩
  generalize w.drew = wd at *
  refine tk 0 8 (.pointer (some ⟨R, 0, none⟩)) rfl ?_ ?_
  · intro W hSW; go_simp
  simp only [Act.put, List.setIfInBounds_toArray, List.set_cons_zero, List.set_cons_succ]
  refine tk 1 9 (.pointer (some ⟨R, 0, none⟩)) rfl ?_ ?_
  · intro W hSW; go_simp
  simp only [Act.put, List.setIfInBounds_toArray, List.set_cons_zero, List.set_cons_succ]
  refine tk 2 10 (.pointer (some ⟨R, 0, none⟩)) rfl ?_ ?_
  · intro W hSW; go_simp
  simp only [Act.put, List.setIfInBounds_toArray, List.set_cons_zero, List.set_cons_succ]
  refine tk 3 11 (.slice (some ⟨P, o, none⟩) 2048 c) rfl ?_ ?_
  · intro W hSW; obtain ⟨z0, z1⟩ := HC.out W hSW; go_simp
  simp only [Act.put, List.setIfInBounds_toArray, List.set_cons_zero, List.set_cons_succ]
  refine tk 4 12 (.pointer (some ⟨R, 0, none⟩)) rfl ?_ ?_
  · intro W hSW; go_simp
  simp only [Act.put, List.setIfInBounds_toArray, List.set_cons_zero, List.set_cons_succ]
  refine tk 5 13 (.pointer (some ⟨R, 0, none⟩)) rfl ?_ ?_
  · intro W hSW; go_simp
  simp only [Act.put, List.setIfInBounds_toArray, List.set_cons_zero, List.set_cons_succ]
  refine tk 6 14 (.pointer (some ⟨R, 1, none⟩)) rfl ?_ ?_
  · intro W hSW; go_simp
  simp only [Act.put, List.setIfInBounds_toArray, List.set_cons_zero, List.set_cons_succ]
  refine tk 7 15 (.int .i64 (q : Nat)) rfl ?_ ?_
  · intro W hSW; obtain ⟨z0, z1⟩ := HC.out W hSW; go_simp
  simp only [Act.put, List.setIfInBounds_toArray, List.set_cons_zero, List.set_cons_succ]
  refine tk 8 16 (.pointer (some ⟨R, 0, none⟩)) rfl ?_ ?_
  · intro W hSW; go_simp
  simp only [Act.put, List.setIfInBounds_toArray, List.set_cons_zero, List.set_cons_succ]
  refine tk 9 17 (.pointer (some ⟨R, 0, none⟩)) rfl ?_ ?_
  · intro W hSW; go_simp
  simp only [Act.put, List.setIfInBounds_toArray, List.set_cons_zero, List.set_cons_succ]
  refine tk 10 18 (.pointer (some ⟨R, 1, none⟩)) rfl ?_ ?_
  · intro W hSW; go_simp
  simp only [Act.put, List.setIfInBounds_toArray, List.set_cons_zero, List.set_cons_succ]
  refine tk 11 19 (.int .i64 (q : Nat)) rfl ?_ ?_
  · intro W hSW; obtain ⟨z0, z1⟩ := HC.out W hSW; go_simp
  simp only [Act.put, List.setIfInBounds_toArray, List.set_cons_zero, List.set_cons_succ]
  refine tk 12 20 (.int .i64 (k : Nat)) rfl ?_ ?_
  · intro W hSW; go_simp
  simp only [Act.put, List.setIfInBounds_toArray, List.set_cons_zero, List.set_cons_succ]
  refine tk 13 21 (.int .i64 (t : Nat)) rfl ?_ ?_
  · intro W hSW; have hw := HWs.out; go_simp
  simp only [Act.put, List.setIfInBounds_toArray, List.set_cons_zero, List.set_cons_succ]
  refine tk 16 24 (.int .i64 0) rfl ?_ ?_
  · intro W hSW; go_simp
  simp only [Act.put, List.setIfInBounds_toArray, List.set_cons_zero, List.set_cons_succ]
  refine wpAnyH_ready (rs := [14]) (by kernel_rfl) (by simp) ?_
  refine AllReadyH.cons rfl (fun KK hKK => ?_) AllReadyH.nil
  obtain ⟨l1, l2, l3, l4⟩ := HL.out
  have htc : t ≤ c := by rw [Ht.out]; omega
  have hqt : q ≤ t := by rw [Ht.out]; omega
  have htn : t - q = k := by rw [Ht.out]; omega
  have hcq : ¬ c = q := by omega
  go_simp
  refine hKK.out _ _ Twd.out (fun hHeld => ?_)
  clear hKK KK
  refine tk 15 23 (.int .i64 (k : Nat)) rfl ?_ ?_
  · intro W hSW; go_simp
  simp only [Act.put, List.setIfInBounds_toArray, List.set_cons_zero, List.set_cons_succ]
  refine wpAnyH_done (by kernel_rfl) ?_ _
  clear hHeld htc hqt htn hcq HC
  have HRD := hid (HRB.out.kept0 Twd.out)
  go_wp2_with fail
  go_loopw [5, 6, 7, 24] (fun a _ _ b wt => ∃ i : Nat, a = .int .u64 ((le B i q : Nat) : Int) ∧ b = .int .i64 (i : Nat) ∧ i ≤ k ∧ Apart [] wd wt) (fun _ _ _ b _ => k - (intOf b).toNat)
  case atStart => exact ⟨0, rfl, rfl, Nat.zero_le _, Apart.refl _ _⟩
  case round =>
    obtain ⟨i, rfl, rfl, hi, ha⟩ := hrel
    have HA := hid ha
    clear ha
    by_cases hlt : i < k
    · have hlti : ((i : Nat) : Int) < (k : Int) := by omega
      have hc := (HRD.out.kept0 HA.out).byte (q + i) (by omega)
      rw [← Nat.add_assoc] at hc
      obtain ⟨d, Hd⟩ : ∃ d, Hid (d = B.getD (q + i) 0) := ⟨_, rfl⟩
      rw [← Hd.out] at hc
      have HD8 : Hid (d < 256) := by unfold Hid; rw [Hd.out]; exact HB8.out _
      obtain ⟨m, Hm⟩ : ∃ m, Hid (m = 8 * i) := ⟨_, rfl⟩
      have hwm : IntKind.i64.wrap (8 * (i : Int)) = (m : Int) := by rw [IntKind.wrap_i64, Hm.out]; omega
      have hm64 : m < 64 := by rw [Hm.out]; omega
      obtain ⟨f4, f5⟩ := le_or HRB.out.b8 i q d (by omega) Hd.out HD8.out
      rw [← Hm.out] at f4 f5
      have hwd : IntKind.u64.wrap (d : Int) = (d : Int) := by rw [IntKind.wrap_u64]; have := HD8.out; omega
      have hwf : IntKind.u64.wrap ((d : Int) * 2 ^ m) = ((d * 2 ^ m : Nat) : Int) := wrap_shl d m f4
      obtain ⟨f, Hf⟩ : ∃ f, Hid (f = d * 2 ^ m) := ⟨_, rfl⟩
      rw [← Hf.out] at f5 hwf
      obtain ⟨z, Hz⟩ : ∃ z, Hid (z = le B (i + 1) q) := ⟨_, rfl⟩
      rw [← Hz.out] at f5
      go_wp2_with fail
      go_roundw
      case rel => exact ⟨i + 1, by rw [← Hz.out], by go_num, by omega, HA.out⟩
      case measure => simp [intOf]; omega
    · have hlti : ¬ ((i : Nat) : Int) < (k : Int) := by omega
      have hik : i = k := by omega
      go_wp2_with fail
      go_ret
      exact ⟨by rw [HE.out, ← hik]; rfl, Twd.out.trans HA.out⟩
set_option maxRecDepth 100000 in
theorem within_ok (w : World) (n lo hi : Int) (v : Bool) (hv : v = true ↔ lo ≤ n ∧ n ≤ hi) : Calls Try.prog 56 #[.int .i64 n, .int .i64 lo, .int .i64 hi] w fun e w' => e = .returned (.bool v) ∧ Apart [] w w' := by
  have HV := hid hv
  clear hv
  go_enter Try.func56, Try.ntmps56
  by_cases h1 : n ≥ lo
  · by_cases h2 : n ≤ hi
    · have hv : v = true := HV.out.2 ⟨h1, h2⟩
      subst hv
      go_wp2_with fail
      go_ret
      exact ⟨rfl, Apart.refl _ _⟩
    · have hv : v = false := by cases v with
        | false => rfl
        | true => exact absurd (HV.out.1 rfl).2 h2
      subst hv
      go_wp2_with fail
      go_ret
      exact ⟨rfl, Apart.refl _ _⟩
  · have hv : v = false := by cases v with
      | false => rfl
      | true => exact absurd (HV.out.1 rfl).1 h1
    subst hv
    go_wp2_with fail
    go_ret
    exact ⟨rfl, Apart.refl _ _⟩
end Go.Proofs.Ytllhmidpphlbhaa.ds
namespace Go.Proofs.Ytllhmidpphlbhaa.ds
open Go.ChangeShapes Go.WideShapes Go.ChangeAt Go.RowKit Go.Sort
set_option linter.unusedVariables false
set_option linter.unusedSimpArgs false
/-- what a reader's call leaves -/
structure PO (w w' : World) (R P o c : Nat) (B : List Nat) (e : Ending) (v : Value) (s' : Ps) : Prop where
  e : e = .returned v
  r : PR w' R P o c B s'
  a : Apart [R] w w'
set_option maxHeartbeats 4000000 in
set_option maxRecDepth 100000 in
theorem number_ok {w : World} {R P o c : Nat} {B : List Nat} {s : Ps} (h : PR w R P o c B s) (k lo hi : Nat) (hk : 1 ≤ k ∧ k ≤ 6) (hr : s.bad = false → s.at_ + k ≤ 2048) (hlo : lo ≤ 281474976710656) (hhi : hi ≤ 281474976710656) :
    Calls Try.prog 71 #[.pointer (some ⟨R, 0, none⟩), .int .i64 (k : Nat), .int .i64 (lo : Nat), .int .i64 (hi : Nat)] w fun e w' => PO w w' R P o c B e (.int .i64 ((num B k lo hi s).1 : Nat)) (num B k lo hi s).2 := by
  have HRB := hid h
  obtain ⟨q, b⟩ := s
  obtain ⟨z0, z1, z2, z3, z4⟩ := h.cells
  dsimp only at z1 z2 hr
  cases b with
  | true =>
    have HN := hid (num_bad B k lo hi (s := ⟨q, true⟩) rfl)
    clear h hr
    go_enter Try.func71, Try.ntmps71
    go_wp2_with fail
    go_ret
    rw [HN.out]
    exact ⟨rfl, HRB.out, Apart.refl _ _⟩
  | false =>
    have hr := hr rfl
    have HC1 := hid (peek_ok HRB.out k ⟨hk.1, by omega⟩ hr)
    obtain ⟨n, Hn⟩ : ∃ n, Hid (n = le B k q) := ⟨_, rfl⟩
    have HL : Hid (n < 281474976710656) := by
      unfold Hid
      have h1 := le_lt h.b8 k q
      have h2 : 256 ^ k ≤ 256 ^ 6 := Nat.pow_le_pow_right (by omega) hk.2
      rw [Hn.out]
      omega
    have hwn : IntKind.i64.wrap (n : Int) = (n : Int) := by rw [IntKind.wrap_i64]; have := HL.out; omega
    have HK : Hid (q + k ≤ 2048) := hr
    have HN : Hid (num B k lo hi ⟨q, false⟩ = if lo ≤ n ∧ n ≤ hi then (n, ⟨q + k, false⟩) else (0, ⟨q, true⟩)) := by
      unfold Hid num
      rw [if_neg (by simp), Hn.out]
    clear h hr hk hlo hhi
    go_enter Try.func71, Try.ntmps71
    go_wp2_with fail
    clear z0 z1 z2 z3 z4
    refine HC1.out.mono ?_
    rintro _ w1 ⟨rfl, a1⟩
    have HA1 := hid a1
    clear a1 HC1
    dsimp only
    rw [← Hn.out]
    have HR1 := hid (HRB.out.kept0 HA1.out)
    obtain ⟨bb, Hbb⟩ : ∃ bb : Bool, Hid (bb = true ↔ (lo : Int) ≤ (n : Int) ∧ (n : Int) ≤ (hi : Int)) := ⟨decide ((lo : Int) ≤ (n : Int) ∧ (n : Int) ≤ (hi : Int)), by unfold Hid; simp⟩
    go_wp2_with fail
    refine (within_ok w1 n lo hi bb Hbb.out).mono ?_
    rintro _ w2 ⟨rfl, a2⟩
    have HA2 := hid (HA1.out.trans a2)
    have HR2 := hid (HR1.out.kept0 a2)
    clear a2
    dsimp only
    obtain ⟨z0, z1, z2, z3, z4⟩ := HR2.out.cells
    dsimp only at z1 z2
    cases hbb : bb with
    | true =>
      have hin : lo ≤ n ∧ n ≤ hi := by have := Hbb.out.1 hbb; omega
      have HN2 : Hid (num B k lo hi ⟨q, false⟩ = (n, ⟨q + k, false⟩)) := by unfold Hid; rw [HN.out, if_pos hin]
      have hwq : IntKind.i64.wrap ((q : Int) + (k : Int)) = ((q + k : Nat) : Int) := by rw [IntKind.wrap_i64]; have := HK.out; omega
      have HR3 := hid (HR2.out.move (q + k) HK.out)
      clear hin
      go_wp2_with fail
      go_ret
      rw [HN2.out]
      exact ⟨rfl, HR3.out, (HA2.out.mono (by simp)).setCell (.inl (by simp)) _⟩
    | false =>
      have hin : ¬ (lo ≤ n ∧ n ≤ hi) := fun hh => by have := Hbb.out.2 (by omega); rw [hbb] at this; cases this
      have HN2 : Hid (num B k lo hi ⟨q, false⟩ = (0, ⟨q, true⟩)) := by unfold Hid; rw [HN.out, if_neg hin]
      have HR3 := hid HR2.out.stop
      clear hin
      go_wp2_with fail
      go_ret
      rw [HN2.out]
      exact ⟨rfl, HR3.out, (HA2.out.mono (by simp)).setCell (.inl (by simp)) _⟩
set_option maxRecDepth 100000 in
theorem mostValue_ok (w : World) (d : Bool) : Calls Try.prog 99 #[.bool d] w fun e w' => e = .returned (.int .i64 (mostV d : Nat)) ∧ w' = w := by
  cases d
  · go_enter Try.func99, Try.ntmps99
    go_wp2_with fail
    go_ret
    exact ⟨rfl, rfl⟩
  · go_enter Try.func99, Try.ntmps99
    go_wp2_with fail
    go_ret
    exact ⟨rfl, rfl⟩
end Go.Proofs.Ytllhmidpphlbhaa.ds
