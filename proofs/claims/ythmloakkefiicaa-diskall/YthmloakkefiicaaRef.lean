import Derived.Test.YthmloakkefiicaaFrom
namespace Go.Proofs.Ythmloakkefiicaa.dk
open Go.ChangeShapes Go.WideShapes Go.ChangeAt Go.RowKit

/-- bytes that are read: whoever owns them -/
structure Src (w : World) (p : Option Addr) (len : Nat) (bs : List Int) : Prop where
  hlen : bs.length = len
  cells : 0 < len → ∃ g o, p = some ⟨g, o, none⟩ ∧ g < w.heap.size ∧ ∀ j, j < len → w.cell? ⟨g, o + j, none⟩ = some (.int .u8 (bs.getD j 0))
theorem Src.below {w w' : World} {p : Option Addr} {len : Nat} {bs : List Int} (h : Src w p len bs) (b : Below w.heap.size w w') : Src w' p len bs :=
  ⟨h.hlen, fun h0 => by
    obtain ⟨g, o, hp, hg, hc⟩ := h.cells h0
    exact ⟨g, o, hp, Nat.lt_of_lt_of_le hg b.size, fun j hj => (b.cell (p := ⟨g, o + j, none⟩) hg).trans (hc j hj)⟩⟩
theorem take_snocI (l : List Int) (k : Nat) (h : k < l.length) : u8s (l.take k) ++ [Value.int .u8 (l.getD k 0)] = u8s (l.take (k + 1)) := by
  rw [List.take_succ_eq_append_getElem h]
  simp only [u8s, List.map_append, List.map_cons, List.map_nil, List.getD_eq_getElem?_getD, List.getElem?_eq_getElem h, Option.getD_some]
set_option maxHeartbeats 400000 in
theorem copied_any (w : World) (p : Option Addr) (len cap : Nat) (bs : List Int) (hs : Src w p len bs) (hlen : len ≤ 4194304) :
    Calls Try.prog 45 #[.slice p len cap] w fun r w' => ∃ v, r = .returned v ∧ w'.ownsRow w.heap.size 5 1 v len (u8s bs) ∧ Apart [] w w' := by
  obtain ⟨i0, hi, hz0, hz1, hz2⟩ := info_parts info5
  have hl := hs.hlen
  have HL : Hid (bs.length = len) := hl
  clear hl
  go_enter Try.func45, Try.ntmps45
  go_wp2
  go_loopw [3, 4] (fun v i wr => ∃ k : Nat, k ≤ len ∧ i = .int .i64 k ∧ wr.ownsRow w.heap.size 5 1 v k (u8s (bs.take k)) ∧ Below w.heap.size w wr) (fun _ i _ => len - (intOf i).toNat)
  case atStart => exact ⟨0, Nat.zero_le _, rfl, by simpa [u8s] using World.ownsRow_nil w w.heap.size 5 1, Below.refl _ _⟩
  case round =>
    obtain ⟨k, hk, rfl, hown, hnx⟩ := hrel
    by_cases hlt : k < len
    · obtain ⟨g, o, rfl, hg, hc⟩ := hs.cells (by omega)
      have ec := (hnx.cell (p := ⟨g, o + k, none⟩) hg).trans (hc k hlt)
      clear hc hs
      obtain ⟨x, hx⟩ : ∃ x, x = bs.getD k 0 := ⟨_, rfl⟩
      rw [← hx] at ec
      have HX : Hid (x = bs.getD k 0) := hx
      clear hx
      go_wp2_with (at_builtin; refine wpList_append_own _ rfl _ _ 30 rfl w.heap.size 5 i0 (.int .u8 0) 1 1 Try.underlying30 hi hz0 hz1 hz2 rfl (by decide) _ _ _ rfl (hown.alloc _) ⟨wr.heap.size, 0, none⟩ 1 1 [.int .u8 x] rfl rfl ?c1 ?c2 ?c3 ?c4 ?c5 ?_)
      case c1 =>
        intro j u hj
        match j, hj with
        | 0, hj => simp at hj; subst hj; simp [Addr.add]
      case c2 => intro u hu; simp at hu; subst hu; rfl
      case c3 => unfold maxLen; omega
      case c4 => omega
      case c5 => have := hnx.size; simp; omega
      · intro v' w1 hown' hgrow _
        have hb1 : Below w.heap.size w w1 := (hnx.alloc hnx.size _).grown hgrow (by have := hnx.size; simp; omega) (fun k hk => (hown.lt k hk).1)
        rw [HX.out, take_snocI bs k (by rw [HL.out]; exact hlt)] at hown'
        clear hgrow hown hnx
        go_wp2
        go_roundw
        case rel => exact ⟨k + 1, by omega, by go_num, hown', hb1⟩
        case measure => simp [intOf]; omega
    · have e : k = len := by omega
      subst e
      go_wp2
      go_ret
      rw [List.take_of_length_le (by rw [HL.out]; exact Nat.le_refl _)] at hown
      exact ⟨_, rfl, hown, apart_of_below hnx⟩

/-! the document's own disk -/
structure Rw where
  s : Nat
  k : Nat
  bs : List Int
  v : Value
structure Rf where
  n : Nat
  first : List Int
  fv : Value
  log : List Rw
  lv : Value
  on : Bool
  left : Int
  torn : Int
def rcells (r : Rf) : List Value := [.int .i64 r.n, r.fv, r.lv, .bool r.on, .int .i64 r.left, .int .i64 r.torn]
def wcells (x : Rw) : List Value := [.int .i64 x.s, .int .i64 x.k, x.v]
/-- bytes of the call's own, maybe none -/
def OwnB (w : World) (v : Value) (bs : List Int) : Prop := w.ownsRow 0 5 1 v bs.length (u8s bs)
structure RefAt (w : World) (R : Nat) (r : Rf) : Prop where
  hr : w.heap[R]? = some (.cells (rcells r).toArray 84 (0, 0))
  hf : OwnB w r.fv r.first
  own : w.ownsRow 0 90 3 r.lv r.log.length (r.log.flatMap wcells)
  each : ∀ x ∈ r.log, OwnB w x.v x.bs ∧ x.bs.length = 512 ∧ x.k ≤ 512 ∧ x.s < r.n
  hn : r.n ≤ 4096
theorem RefAt.r0 {w : World} {R : Nat} {r : Rf} (h : RefAt w R r) : w.cell? ⟨R, 0, none⟩ = some (.int .i64 r.n) := by rw [cell_of_row _ _ _ _ _ _ h.hr]; rfl
theorem RefAt.r1 {w : World} {R : Nat} {r : Rf} (h : RefAt w R r) : w.cell? ⟨R, 1, none⟩ = some r.fv := by rw [cell_of_row _ _ _ _ _ _ h.hr]; rfl
theorem RefAt.r2 {w : World} {R : Nat} {r : Rf} (h : RefAt w R r) : w.cell? ⟨R, 2, none⟩ = some r.lv := by rw [cell_of_row _ _ _ _ _ _ h.hr]; rfl
theorem RefAt.r3 {w : World} {R : Nat} {r : Rf} (h : RefAt w R r) : w.cell? ⟨R, 3, none⟩ = some (.bool r.on) := by rw [cell_of_row _ _ _ _ _ _ h.hr]; rfl
theorem RefAt.r4 {w : World} {R : Nat} {r : Rf} (h : RefAt w R r) : w.cell? ⟨R, 4, none⟩ = some (.int .i64 r.left) := by rw [cell_of_row _ _ _ _ _ _ h.hr]; rfl
theorem RefAt.r5 {w : World} {R : Nat} {r : Rf} (h : RefAt w R r) : w.cell? ⟨R, 5, none⟩ = some (.int .i64 r.torn) := by rw [cell_of_row _ _ _ _ _ _ h.hr]; rfl
theorem RefAt.rf {w : World} {R : Nat} {r : Rf} (h : RefAt w R r) (i : Nat) : w.frozen? ⟨R, i, none⟩ = false := frozen_of_row _ _ _ _ _ h.hr
theorem OwnB.apart {w w' : World} {v : Value} {bs : List Int} {X : List Nat} (h : OwnB w v bs) (a : Apart X w w') (hx : ∀ k cur, k ∈ X → w.heap[k]? ≠ some (.cells cur 5 (0, 0))) : OwnB w' v bs :=
  own_apart h a (fun k hk hm => by obtain ⟨cur, e⟩ := own_typ h hk; exact hx k cur hm e)
/-- what is apart by its type stays -/
theorem RefAt.kept {w w' : World} {R : Nat} {r : Rf} {X : List Nat} (h : RefAt w R r) (a : Apart X w w') (h84 : ∀ k cur, k ∈ X → w.heap[k]? ≠ some (.cells cur 84 (0, 0))) (h90 : ∀ k cur, k ∈ X → w.heap[k]? ≠ some (.cells cur 90 (0, 0))) (h5 : ∀ k cur, k ∈ X → w.heap[k]? ≠ some (.cells cur 5 (0, 0))) : RefAt w' R r :=
  ⟨(a.block R (lt_of_heap h.hr) (fun hm => h84 R _ hm h.hr)).trans h.hr, h.hf.apart a h5, own_apart h.own a (fun k hk hm => by obtain ⟨cur, e⟩ := own_typ h.own hk; exact h90 k cur hm e),
    fun x hx => ⟨(h.each x hx).1.apart a h5, (h.each x hx).2⟩, h.hn⟩

theorem rnew_bad (w : World) (s : Int) (hs : s < 1 ∨ 4096 < s) :
    Calls Try.prog 38 #[.int .i64 s] w fun r w' => r = .returned (.tuple #[.pointer none, .int .i64 1]) ∧ w' = w := by
  rcases hs with hs | hs
  · go_enter Try.func38, Try.ntmps38
    go_wp2
    go_ret2
    exact ⟨rfl, rfl⟩
  · go_enter Try.func38, Try.ntmps38
    go_wp2
    go_ret2
    exact ⟨rfl, rfl⟩
def Rf.fresh (n : Nat) (first : List Int) (fv : Value) : Rf := { n := n, first := first, fv := fv, log := [], lv := .slice none 0 0, on := true, left := -1, torn := 0 }
theorem rnew_good (w : World) (n : Nat) (h1 : 1 ≤ n) (h2 : n ≤ 4096) :
    Calls Try.prog 38 #[.int .i64 n] w fun r w' => r = .returned (.tuple #[.pointer (some ⟨w.heap.size, 0, none⟩), .int .i64 0]) ∧ RefAt w' w.heap.size (Rf.fresh n [] (.slice none 0 0)) ∧ Apart [] w w' := by
  have k1 : ¬ ((n : Int) < 1) := by omega
  have k2 : ¬ ((4096 : Int) < n) := by omega
  go_enter Try.func38, Try.ntmps38
  go_wp2
  go_ret2
  refine ⟨rfl, ⟨?_, World.ownsRow_nil _ _ _ _, World.ownsRow_nil _ _ _ _, fun x hx => by simp [Rf.fresh] at hx, h2⟩, (Apart.refl _ _).alloc _⟩
  rw [heap_alloc_new]; rfl
theorem roff_any {w : World} {R : Nat} {r : Rf} (h : RefAt w R r) :
    Calls Try.prog 49 #[.pointer (some ⟨R, 0, none⟩)] w fun e w' => e = .returned (.tuple #[]) ∧ w' = (w.setCell ⟨R, 3, none⟩ (.bool false)).setCell ⟨R, 4, none⟩ (.int .i64 (-1)) := by
  have h3 := h.r3
  have h4 := h.r4
  have f3 := h.rf 3
  have f4 := h.rf 4
  go_enter Try.func49, Try.ntmps49
  go_wp2
  go_end0
  exact ⟨rfl, rfl⟩
theorem rstart_any {w : World} {R : Nat} {r : Rf} (h : RefAt w R r) :
    Calls Try.prog 50 #[.pointer (some ⟨R, 0, none⟩)] w fun e w' => e = .returned (.tuple #[]) ∧ w' = w.setCell ⟨R, 3, none⟩ (.bool true) := by
  have h3 := h.r3
  have f3 := h.rf 3
  go_enter Try.func50, Try.ntmps50
  go_wp2
  go_end0
  exact ⟨rfl, rfl⟩
end Go.Proofs.Ythmloakkefiicaa.dk
