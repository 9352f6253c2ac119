import Derived.Test.YtiakcfjbnlibfaaN0
namespace Go.Proofs.Ytiakcfjbnlibfaa.nt
open Go.ChangeShapes Go.WideShapes Go.ChangeAt Go.RowKit
set_option linter.unusedVariables false
set_option linter.unusedSimpArgs false
/-- a letter as it lies in memory -/
structure LM where
  f : Int
  t : Int
  d : Sl
def LM.z : LM := ⟨0, 0, ⟨none, 0, 0⟩⟩
def LM.cs (l : LM) : List Value := [.int .i64 l.f, .int .i64 l.t, l.d.v]
def LM.agg (l : LM) : Value := .agg #[.int .i64 l.f, .int .i64 l.t, l.d.v]
def boxL (l : LM) : Obj := .cells #[.int .i64 l.f, .int .i64 l.t, l.d.v] 30
def flatL (ls : List LM) : List Value := ls.flatMap LM.cs
def gL (ls : List LM) (k : Nat) : LM := ls.getD k LM.z
theorem gL_eq (ls : List LM) (k : Nat) (h : k < ls.length) : gL ls k = ls[k] := by simp [gL, List.getD_eq_getElem?_getD, h]
theorem flatL_length (ls : List LM) : (flatL ls).length = ls.length * 3 := by
  induction ls with
  | nil => rfl
  | cons e l ih => simp only [flatL, List.flatMap_cons, List.length_append, List.length_cons] at *; simp only [LM.cs, List.length_cons, List.length_nil]; omega
theorem flatL_get (ls : List LM) : ∀ (k : Nat), k < ls.length → (flatL ls)[k * 3]? = some (.int .i64 (gL ls k).f) ∧ (flatL ls)[k * 3 + 1]? = some (.int .i64 (gL ls k).t) ∧ (flatL ls)[k * 3 + 2]? = some (gL ls k).d.v := by
  induction ls with
  | nil => intro k hk; simp at hk
  | cons e l ih =>
    intro k hk
    match k with
    | 0 => exact ⟨rfl, rfl, rfl⟩
    | k + 1 =>
      have := ih k (by simpa using hk)
      rw [show (k + 1) * 3 = k * 3 + 3 from by omega]
      exact this
theorem flatL_append (a b : List LM) : flatL (a ++ b) = flatL a ++ flatL b := by simp [flatL]
theorem oneL (ls : List LM) : ∀ u ∈ flatL ls, u.oneCell' = true := by
  intro u hu
  simp [flatL, LM.cs, Sl.v] at hu
  obtain ⟨e, _, h | h | h⟩ := hu <;> subst h <;> rfl
/-- a letter as it reads -/
structure Tx where
  f : Int
  t : Int
  b : List Nat
def Tx.z : Tx := ⟨0, 0, []⟩
structure ReadsL (w : World) (l : LM) (x : Tx) : Prop where
  f : l.f = x.f
  t : l.t = x.t
  d : Rd w l.d.p (byts x.b)
  dn : x.b.length = l.d.n
  dl : l.d.n ≤ 2000000
  db : ∀ b ∈ x.b, b < 256
  ok : l.d.ok
theorem ReadsL.kept {w w' : World} {l : LM} {x : Tx} {X : List Nat} (h : ReadsL w l x) (a : Apart X w w') (hX : ∀ P o, l.d.p = some ⟨P, o, none⟩ → P ∉ X) : ReadsL w' l x := { h with d := h.d.kept a hX }
theorem ReadsL.kept0 {w w' : World} {l : LM} {x : Tx} (h : ReadsL w l x) (a : Apart [] w w') : ReadsL w' l x := h.kept a (by simp)
/-- a letter whose bytes are new memory -/
structure FreshL (w w' : World) (l : LM) (x : Tx) : Prop where
  f : l.f = x.f
  t : l.t = x.t
  d : Nw w w' 5 1 l.d (byts x.b)
  dn : x.b.length = l.d.n
  dl : l.d.n ≤ 2000000
  db : ∀ b ∈ x.b, b < 256
theorem FreshL.reads {w w' : World} {l : LM} {x : Tx} (h : FreshL w w' l x) : ReadsL w' l x := ⟨h.f, h.t, h.d.rd, h.dn, h.dl, h.db, h.d.ok⟩
theorem infoB : (Try.prog.info? 5).map (fun i => (i.zero, i.size, i.bytes)) = some (some (.int .u8 0), 1, 1) := by kernel_rfl
theorem infoL : (Try.prog.info? 30).map (fun i => (i.zero, i.size, i.bytes)) = some (some (.agg #[.int .i64 0, .int .i64 0, .slice none 0 0]), 3, 40) := by kernel_rfl
theorem size5 : (Try.prog.info? 5).map (·.size) = some 1 := by kernel_rfl
theorem size30 : (Try.prog.info? 30).map (·.size) = some 3 := by kernel_rfl
def zs (n : Nat) : List Value := List.replicate n (.int .u8 0)
theorem make_bytes (w : World) (n : Nat) (h2 : n ≤ 4000000) : Sem.run Try.prog (Instr.makeSlice 28 (Value.int .i64 n) (Value.int .i64 n)) w = .ok (.slice (some ⟨w.heap.size, 0, none⟩) n n) (w.alloc (.cells (zs n).toArray 5)) := by
  obtain ⟨i, hi, hz0, hz1, hz2⟩ := info_parts infoB
  have := run_make (P := Try.prog) w 28 5 i _ Try.underlying28 hi hz0 .i64 .i64 n n (by omega) (by omega) (by rw [hz2]; omega) (by omega)
  rw [this, hz1]
  simp only [Int.toNat_natCast, Nat.mul_one]
  congr 3
  apply Array.ext
  · simp [madeCells, zs]
  · intro j h1 h3
    simp [madeCells, zs, Value.cells, Nat.mod_one]
theorem row3 {w : World} {g : Nat} {t : TypeId} {a b c : Value} (h : w.heap[g]? = some (.cells #[a, b, c] t (0, 0))) : w.cell? ⟨g, 0, none⟩ = some a ∧ w.cell? ⟨g, 1, none⟩ = some b ∧ w.cell? ⟨g, 2, none⟩ = some c := by
  refine ⟨?_, ?_, ?_⟩ <;> (rw [cell_of_row _ _ _ _ _ _ h]; rfl)
def put3 (w : World) (g : Nat) (a b c : Value) : World := ((w.setCell ⟨g, 0, none⟩ a).setCell ⟨g, 1, none⟩ b).setCell ⟨g, 2, none⟩ c
theorem row3s {w : World} {g : Nat} {t : TypeId} {a b c : Value} (h : w.heap[g]? = some (.cells #[a, b, c] t (0, 0))) (x y u : Value) : (put3 w g x y u).heap[g]? = some (.cells #[x, y, u] t (0, 0)) := by
  have h1 := heap_setCell_same w g 0 _ t x h
  have h2 := heap_setCell_same _ g 1 _ t y h1
  have h3 := heap_setCell_same _ g 2 _ t u h2
  unfold put3
  simpa using h3
theorem ap3 (w : World) (g : Nat) (a b c : Value) : Apart [g] w (put3 w g a b c) := (((Apart.refl _ _).setCell (.inl (by simp)) _).setCell (.inl (by simp)) _).setCell (.inl (by simp)) _
/-- bytes laid over a row of zeros -/
theorem copy_bytes (w : World) (k n : Nat) (s : Sl) (bs : List Nat) (hk : w.heap[k]? = some (.cells (zs n).toArray 5 (0, 0))) (hn : s.n = n) (hl : bs.length = n) (h : Rd w s.p (byts bs)) (hb : n ≤ 2000000) (ty : TypeId) :
    ∃ w', (Builtin.copy_ #[28, 28] ty #[.slice (some ⟨k, 0, none⟩) n n, s.v]).run Try.prog w = .ok (goInt (n : Int)) w' ∧ w'.ownsRow 0 5 1 (.slice (some ⟨k, 0, none⟩) n n) n (byts bs) ∧ Apart [k] w w' := by
  have hbl : (byts bs).length = n := by simp [byts, hl]
  obtain ⟨p, sn, c⟩ := s
  simp only at hn h
  subst hn
  unfold Sl.v
  by_cases h0 : 0 < sn
  · obtain ⟨P, o, rfl, hP, hc⟩ := h (by omega)
    refine ⟨_, run_copy_rowN w 28 28 ty 5 1 k 0 sn sn ⟨P, o, none⟩ sn c sn (zs sn) 5 (byts bs) Try.underlying28 size5 hk (by simp) (by omega) (fun j v hj => by rw [Addr.add_lit]; exact hc j v hj) (by simp [zs, hbl]) (oneB _), ?_, apart_setRow _ _ _⟩
    refine ⟨by omega, .inr ⟨k, sn, _, rfl, Nat.zero_le _, setRow_heap w k _ _ 5 _ hk, Nat.le_refl _, by unfold maxLen; omega, by simp [splice, zs, hbl], ?_⟩⟩
    simp [splice, zs, hbl]
    exact List.take_of_length_le (by omega)
  · obtain rfl : sn = 0 := by omega
    have hb0 : byts bs = [] := List.length_eq_zero_iff.1 hbl
    refine ⟨w, ?_, ?_, Apart.refl _ _⟩
    · have := run_copy_none (P := Try.prog) w 28 28 ty 5 (some ⟨k, 0, none⟩) p 0 0 0 c Try.underlying28 size5 (by simp)
      simpa using this
    · rw [hb0]
      exact ⟨rfl, .inr ⟨k, 0, _, rfl, Nat.zero_le _, hk, Nat.le_refl _, by unfold maxLen; omega, by simp [zs], by simp⟩⟩
end Go.Proofs.Ytiakcfjbnlibfaa.nt
