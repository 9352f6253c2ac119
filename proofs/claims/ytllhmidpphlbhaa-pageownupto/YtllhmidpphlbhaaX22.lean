import Derived.Test.YtllhmidpphlbhaaX21
import Derived.Test.YtllhmidpphlbhaaX17
namespace Go.Proofs.Ytllhmidpphlbhaa.ds
open Go.ChangeShapes Go.WideShapes Go.ChangeAt Go.RowKit Go.Sort
set_option linter.unusedVariables false
set_option linter.unusedSimpArgs false
theorem mask7 (z : Int) : ∃ m : Nat, m ≤ 7 ∧ bits .and .i64 z 7 = (m : Int) := by
  refine ⟨(BitVec.ofInt 64 z).toNat &&& 7, Nat.and_le_right, ?_⟩
  have h1 : (BitVec.ofInt 64 z).toNat &&& 7 ≤ 7 := Nat.and_le_right
  show IntKind.i64.wrap ((BitVec.ofInt 64 z &&& BitVec.ofInt 64 7).toNat : Int) = _
  have h2 : (BitVec.ofInt 64 (7 : Int)).toNat = 7 := by decide
  rw [BitVec.toNat_and, h2, IntKind.wrap_i64]
  omega
theorem mask15 (z : Int) : ∃ m : Nat, m ≤ 15 ∧ bits .and .i64 z 15 = (m : Int) := by
  refine ⟨(BitVec.ofInt 64 z).toNat &&& 15, Nat.and_le_right, ?_⟩
  have h1 : (BitVec.ofInt 64 z).toNat &&& 15 ≤ 15 := Nat.and_le_right
  show IntKind.i64.wrap ((BitVec.ofInt 64 z &&& BitVec.ofInt 64 15).toNat : Int) = _
  have h2 : (BitVec.ofInt 64 (15 : Int)).toNat = 15 := by decide
  rw [BitVec.toNat_and, h2, IntKind.wrap_i64]
  omega
theorem mask63 (z : Int) : ∃ m : Nat, m ≤ 63 ∧ bits .and .i64 z 63 = (m : Int) := by
  refine ⟨(BitVec.ofInt 64 z).toNat &&& 63, Nat.and_le_right, ?_⟩
  have h1 : (BitVec.ofInt 64 z).toNat &&& 63 ≤ 63 := Nat.and_le_right
  show IntKind.i64.wrap ((BitVec.ofInt 64 z &&& BitVec.ofInt 64 63).toNat : Int) = _
  have h2 : (BitVec.ofInt 64 (63 : Int)).toNat = 63 := by decide
  rw [BitVec.toNat_and, h2, IntKind.wrap_i64]
  omega

/-- a page's block, and its two views -/
structure Sq (w wt : World) (g V U : Nat) (l : List Nat) : Prop where
  s : Sp8 w wt g V l
  u : Vw wt U ⟨some ⟨g, 0, none⟩, 2048, 2048⟩
theorem Sq.kept {w wt wx : World} {g V U : Nat} {l : List Nat} (h : Sq w wt g V U l) (a : Apart [] wt wx) : Sq w wx g V U l := ⟨h.s.kept a, keep0 a h.u⟩
theorem Sq.cell {w wt : World} {g V U : Nat} {l : List Nat} (h : Sq w wt g V U l) {m : Nat} (hm : m < 2048) : wt.cell? ⟨g, m, none⟩ = some (.int .u8 ((l.getD m 0 : Nat) : Int)) := by
  rw [cell_of_row _ _ _ _ _ _ h.s.b, List.getElem?_toArray]
  unfold byts
  rw [List.getElem?_map, List.getD_eq_getElem?_getD, List.getElem?_eq_getElem (by rw [h.s.len]; exact hm)]
  rfl
theorem Sq.set {w wt : World} {g V U : Nat} {l : List Nat} (h : Sq w wt g V U l) (hg : w.heap.size ≤ g) {m b : Nat} (hm : m < 2048) (hb : b < 256) : wt.frozen? ⟨g, m, none⟩ = false ∧ Sq w (wt.setCell ⟨g, m, none⟩ (.int .u8 (b : Nat))) g V U (l.set m b) := by
  obtain ⟨_, h2, h3⟩ := h.s.set hg hm hb
  have a : Apart [g] wt (wt.setCell ⟨g, m, none⟩ (.int .u8 (b : Nat))) := (Apart.refl [g] wt).setCell (.inl (by simp)) _
  have hne : U ≠ g := by
    intro e
    have h1 := h.u
    unfold Vw at h1
    rw [e, h.s.b] at h1
    simp at h1
  exact ⟨h2, h3, keepB a h.u hne⟩
/-- the page's places: the key, the i-th value -/
structure Pg (B : List Nat) (i kb kn vb vn : Nat) : Prop where
  h8 : ∀ b ∈ B, b < 256
  len : B.length = 2048
  hd : (headR B ⟨0, false⟩).2.bad = false
  k : (headR B ⟨0, false⟩).1.k = 2 ∨ (headR B ⟨0, false⟩).1.k = 3
  ekb : (headR B ⟨0, false⟩).1.kb = kb
  ekn : (headR B ⟨0, false⟩).1.kn = kn
  v : vErr B (i : Int) = 0
  evb : (vPw B (i : Int)).vb = vb
  evn : (vPw B (i : Int)).vn = vn
  kv : kb + kn ≤ vb
  top : vb + vn ≤ 2048
  im : (i : Int) < ((headR B ⟨0, false⟩).1.m : Int)
theorem set8 {B : List Nat} (h8 : ∀ b ∈ B, b < 256) {p x : Nat} (hx : x < 256) : ∀ b ∈ B.set p x, b < 256 := fun b hb => by
  rcases List.mem_or_eq_of_mem_set hb with h | h
  · exact h8 b h
  · rw [h]; exact hx
theorem Pg.of {B C : List Nat} {i kb kn vb vn : Nat} (h : Pg B i kb kn vb vn) (h8 : ∀ b ∈ C, b < 256) (hl : C.length = 2048) (e1 : headR C ⟨0, false⟩ = headR B ⟨0, false⟩) (e2 : writesR C (i + 1) 0 0 (headR B ⟨0, false⟩).2 = writesR B (i + 1) 0 0 (headR B ⟨0, false⟩).2) : Pg C i kb kn vb vn := by
  have ev : vErr C (i : Int) = 0 := by
    have := h.v
    unfold vErr at this ⊢
    rw [Int.toNat_natCast] at this ⊢
    rw [e1, e2]
    exact this
  have ep : vPw C (i : Int) = vPw B (i : Int) := by
    unfold vPw
    rw [if_pos ev, if_pos h.v, Int.toNat_natCast, e1, e2]
  exact ⟨h8, hl, by rw [e1]; exact h.hd, by rw [e1]; exact h.k, by rw [e1]; exact h.ekb, by rw [e1]; exact h.ekn, ev, by rw [ep]; exact h.evb, by rw [ep]; exact h.evn, h.kv, h.top, by rw [e1]; exact h.im⟩
theorem Pg.key {B : List Nat} {i kb kn vb vn : Nat} (h : Pg B i kb kn vb vn) {j x : Nat} (hj : j < kn) (hx : x < 256) : Pg (B.set (kb + j) x) i kb kn vb vn := by
  obtain ⟨e1, e2⟩ := page_key (p := kb + j) (x := x) h.hd h.k (by rw [h.ekb]; omega) (by rw [h.ekb, h.ekn]; omega)
  exact h.of (set8 h.h8 hx) (by rw [List.length_set]; exact h.len) e1 (e2 _)
theorem Pg.val {B : List Nat} {i kb kn vb vn : Nat} (h : Pg B i kb kn vb vn) {j x : Nat} (hj : j < vn) (hx : x < 256) : Pg (B.set (vb + j) x) i kb kn vb vn := by
  obtain ⟨e1, e2, -⟩ := page_val (p := vb + j) (x := x) h.h8 h.hd h.v h.k (by rw [h.evb]; omega) (by rw [h.evb, h.evn]; omega)
  exact h.of (set8 h.h8 hx) (by rw [List.length_set]; exact h.len) e1 e2
theorem Pg.made {B : List Nat} {i : Nat} (h8 : ∀ b ∈ B, b < 256) (hl : B.length = 2048) (hg : (endR B).bad = false) (hk : (headR B ⟨0, false⟩).1.k = 2 ∨ (headR B ⟨0, false⟩).1.k = 3) (hi : i < (headR B ⟨0, false⟩).1.m) : ∃ kb kn vb vn, Pg B i kb kn vb vn ∧ ((headR B ⟨0, false⟩).1.k = 2 → kb = 2) ∧ ((headR B ⟨0, false⟩).1.k = 3 → kb = 3) ∧ 1 ≤ kn ∧ kn ≤ 16 ∧ vn ≤ 64 := by
  have hb := endR_ok1 hg
  unfold bodyR at hb
  dsimp only at hb
  rw [if_neg (by omega)] at hb
  have hh := writesR_ok1 hb
  obtain ⟨hv, -⟩ := rsOf_at (by omega) hi hb
  have h0 := vErr_0 h8 hv
  obtain ⟨q1, q2, q3⟩ := headR_kb hh
  have hat := headR_at B ⟨0, false⟩
  obtain ⟨-, -, -, g1, g2, g3, -⟩ := h0
  rw [Int.toNat_natCast] at g1 g2
  have hvb : (headR B ⟨0, false⟩).2.at_ ≤ (vPw B (i : Int)).vb := (writesR_in i 0 0 g1 g2 (fun _ _ => rfl) (fun _ _ => rfl)).2
  have hvn : (vPw B (i : Int)).vn ≤ 64 := (writesR_8 B (i + 1) 0 0 (headR B ⟨0, false⟩).2 _ (List.mem_of_getLast? g2)).2
  have hkn : 1 ≤ (headR B ⟨0, false⟩).1.kn := by
    obtain ⟨vv, -, -⟩ := check_one hl h8 hg
    have hk2 := (bodyR_go hl h8 (endR_ok1 hg)).2.2
    cases hc : pcR B with
    | clocks g cs => have := (pcR_C hc).1; omega
    | key k ws =>
      rw [hc] at vv
      have e := (pcR_K hc).2.1
      have := vv.1.1
      rw [← e] at this
      unfold keyR at this
      rw [List.length_take] at this
      omega
    | hint o k w =>
      rw [hc] at vv
      have e := (pcR_H (endR_ok1 hg) hl h8 hc).2.2.1
      have := vv.2.1.1
      rw [← e] at this
      unfold keyR at this
      rw [List.length_take] at this
      omega
  exact ⟨_, _, _, _, ⟨h8, hl, hh, hk, rfl, rfl, hv, rfl, rfl, by have := q3 (by omega); omega, g3, by omega⟩, q1, q2, hkn, hat.2.2.2.2.2.1, hvn⟩
theorem Pg.keyV {B : List Nat} {i kb kn vb vn : Nat} (h : Pg B i kb kn vb vn) (hn : 1 ≤ kn) (g : Nat) : ds.keyV g 0 (headR B ⟨0, false⟩).1 = .slice (some ⟨g, kb, none⟩) kn kn := by
  unfold ds.keyV tsl
  rw [if_pos h.k, h.ekb, h.ekn]
  dsimp only
  rw [if_neg (by omega), Nat.zero_add]
theorem Pg.vSl {B : List Nat} {i kb kn vb vn : Nat} (h : Pg B i kb kn vb vn) (g : Nat) : ds.vSl g 0 B (i : Int) = ⟨some ⟨g, if vn = 0 then 0 else vb, none⟩, vn, vn⟩ := by
  unfold ds.vSl
  rw [if_pos h.v, h.evn, h.evb, Nat.zero_add]
theorem val_call {w wt : World} {g V U : Nat} {l : List Nat} (h : Sp8 w wt g V l) {i kb kn vb vn : Nat} (hp : Pg l i kb kn vb vn) : Calls Try.prog 21 #[.pointer (some ⟨V, 0, none⟩), .int .i64 (i : Nat)] wt fun e w' => e = .returned (.tuple #[.slice (some ⟨g, if vn = 0 then 0 else vb, none⟩) vn vn, .int .i64 0]) ∧ Apart [] wt w' := by
  obtain ⟨P, o, e, hc⟩ := vvalue_ok h.pb rfl h.v (i : Int)
  simp at e
  obtain ⟨rfl, rfl⟩ := e
  rw [hp.vSl, hp.v] at hc
  exact hc
theorem key_call {w wt : World} {g V : Nat} {l : List Nat} (h : Sp8 w wt g V l) {i kb kn vb vn : Nat} (hp : Pg l i kb kn vb vn) (hn : 1 ≤ kn) : Calls Try.prog 22 #[.pointer (some ⟨V, 0, none⟩)] wt fun e w' => e = .returned (.slice (some ⟨g, kb, none⟩) kn kn) ∧ Apart [] wt w' := by
  obtain ⟨P, o, e, hc⟩ := vkey_ok h.pb rfl h.v
  simp at e
  obtain ⟨rfl, rfl⟩ := e
  rw [hp.keyV hn] at hc
  exact hc
theorem Sq.v2 {w wt : World} {g V U : Nat} {l : List Nat} (h : Sq w wt g V U l) : Sp8 w wt g U l := { h.s with v := h.u }
/-- a part of the page can be read -/
theorem Sq.part {w wt : World} {g V U : Nat} {l : List Nat} (h : Sq w wt g V U l) {b n o : Nat} (hb : b + n ≤ 2048) (ho : 0 < n → o = b) : RBs wt ⟨some ⟨g, o, none⟩, n, n⟩ ((l.drop b).take n) := by
  obtain ⟨t1, t2⟩ := tsl_rd (P := g) (o := 0) h.s.pb.rd h.s.len hb
  refine ⟨fun h0 => ?_, t2, fun x hx => h.s.l8 x (List.mem_of_mem_drop (List.mem_of_mem_take hx)), fun h => by simp at h⟩
  rw [byts_len, t2] at h0
  have := t1 (by rw [byts_len, t2]; exact h0)
  rw [if_neg (by omega), Nat.zero_add] at this
  rw [ho h0]
  exact this
theorem getD_set_same {l : List Nat} {p x : Nat} (h : p < l.length) : (l.set p x).getD p 0 = x := by
  rw [List.getD_eq_getElem?_getD, List.getElem?_set_self h]; rfl
theorem getD_set_ne' {l : List Nat} {p q x : Nat} (h : p ≠ q) : (l.set p x).getD q 0 = l.getD q 0 := by
  rw [List.getD_eq_getElem?_getD, List.getD_eq_getElem?_getD, List.getElem?_set_ne h]
theorem getD_part {l : List Nat} {b n j : Nat} (hj : j < n) : ((l.drop b).take n).getD j 0 = l.getD (b + j) 0 := by
  rw [List.getD_eq_getElem?_getD, List.getD_eq_getElem?_getD, List.getElem?_take_of_lt hj, List.getElem?_drop]
end Go.Proofs.Ytllhmidpphlbhaa.ds
