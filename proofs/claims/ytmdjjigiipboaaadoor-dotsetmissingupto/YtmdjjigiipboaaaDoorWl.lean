import Derived.Test.YtmdjjigiipboaaaDoorGc
import Derived.Test.YtmdjjigiipboaaaDoorMs78
import Derived.Test.YtmdjjigiipboaaaDoorMs81
namespace Go.Proofs.YtmdjjigiipboaaaDoor.ds
open Go.ChangeShapes Go.WideShapes Go.ChangeAt Go.RowKit
set_option linter.unusedVariables false
set_option linter.unusedSimpArgs false
/-- a walk that was met as it should be -/
structure WalkP (w w' : World) (r : Ending) (p : Option Addr) (n c : Nat) (st : Int) : Prop where
  ex : (∃ v, r = .returned v) ∧ (∃ (k : Nat) (en : Bool), Wk w' w.heap.size p n c st k en false ∧ (en = true ∨ k = n)) ∧ w'.cell? ⟨w.heap.size + 1, 0, none⟩ = some (.pointer (some ⟨w.heap.size, 0, none⟩)) ∧ Apart [] w w'
theorem fr_apart {w V w' : World} {Bs : Nat} (a : Apart [] w V) (f : Fr (fun k => ¬ k = Bs) V w') (h : w.heap.size ≤ Bs) : Apart [] w w' := by
  have b : Apart [Bs] V w' := ⟨f.os, f.tape, f.output, f.size, fun k hk hn => f.block k hk (by simpa using hn)⟩
  exact a.trans' b (fun y hy => .inr (by simp at hy; omega))
theorem walk1 (w : World) (T : Tab w) (BA BB : Nat) (p pa pb : Option Addr) (n cap na ca nb cb : Nat) (st : Int) (xs ys : List S) (hA : w.cell? ⟨BA, 0, none⟩ = some (.slice pa na ca)) (hB : w.cell? ⟨BB, 0, none⟩ = some (.slice pb nb cb)) (la : L w pa na xs) (lb : L w pb nb ys) (ka : OkL 64 xs) (kb : OkL 64 ys) (npa : ∀ P o, pa = some ⟨P, o, none⟩ → P < w.heap.size) (npb : ∀ P o, pb = some ⟨P, o, none⟩ → P < w.heap.size) (np : ∀ P o, p = some ⟨P, o, none⟩ → P < w.heap.size) (ld : LD w p n ((lackL xs ys).take 300)) :
    Calls Tryd.prog 60 #[.func (.func 78) #[] #[.pointer (some ⟨w.heap.size + 1, 0, none⟩)], .pointer (some ⟨BA, 0, none⟩), .pointer (some ⟨BB, 0, none⟩)] ((w.alloc (.cells #[.slice p n cap, .int .i64 st, .int .i64 0, .bool false, .bool false] 88)).alloc (.cells #[.pointer (some ⟨w.heap.size, 0, none⟩)] 86)) fun r w' => WalkP w w' r p n cap st := by
  have a : Apart [] w ((w.alloc (.cells #[.slice p n cap, .int .i64 st, .int .i64 0, .bool false, .bool false] 88)).alloc (.cells #[.pointer (some ⟨w.heap.size, 0, none⟩)] 86)) := ((Apart.refl _ _).alloc _).alloc _
  have hs : ((w.alloc (.cells #[.slice p n cap, .int .i64 st, .int .i64 0, .bool false, .bool false] 88)).alloc (.cells #[.pointer (some ⟨w.heap.size, 0, none⟩)] 86)).heap.size = w.heap.size + 2 := by simp
  have r0 : ((w.alloc (.cells #[.slice p n cap, .int .i64 st, .int .i64 0, .bool false, .bool false] 88)).alloc (.cells #[.pointer (some ⟨w.heap.size, 0, none⟩)] 86)).heap[w.heap.size]? = some (.cells #[.slice p n cap, .int .i64 st, .int .i64 0, .bool false, .bool false] 88 (0, 0)) := by
    rw [((Apart.refl [] (w.alloc (.cells #[.slice p n cap, .int .i64 st, .int .i64 0, .bool false, .bool false] 88))).alloc (.cells #[.pointer (some ⟨w.heap.size, 0, none⟩)] 86)).block w.heap.size (by simp) (by simp)]
    rw [World.alloc.eq_1]; simp
  have r1 : ((w.alloc (.cells #[.slice p n cap, .int .i64 st, .int .i64 0, .bool false, .bool false] 88)).alloc (.cells #[.pointer (some ⟨w.heap.size, 0, none⟩)] 86)).heap[w.heap.size + 1]? = some (.cells #[.pointer (some ⟨w.heap.size, 0, none⟩)] 86 (0, 0)) := by
    have := World.alloc_heap_new (w.alloc (.cells #[.slice p n cap, .int .i64 st, .int .i64 0, .bool false, .bool false] 88)) (.cells #[.pointer (some ⟨w.heap.size, 0, none⟩)] 86)
    rwa [World.size_alloc] at this
  generalize (w.alloc (.cells #[.slice p n cap, .int .i64 st, .int .i64 0, .bool false, .bool false] 88)).alloc (.cells #[.pointer (some ⟨w.heap.size, 0, none⟩)] 86) = V at *
  have hO : V.cell? ⟨w.heap.size + 1, 0, none⟩ = some (.pointer (some ⟨w.heap.size, 0, none⟩)) := by rw [cell_of_row _ _ _ _ _ _ r1]; rfl
  have ltA := block_lt_of_cell hA
  have ltB := block_lt_of_cell hB
  have lt0 := T.lt
  simp only at ltA ltB
  refine (miss_walk78 V (T.kept0 a) (w.heap.size + 1) BA BB (fun k => k = w.heap.size) (Jw w.heap.size p n cap st ((lackL xs ys).take 300)) (Jl w.heap.size p n cap st (lackL xs ys)) (client_w _ _ _ _ _ _ _) pa pb na ca nb cb xs ys (a.keep hA) (a.keep hB) (la.kept0 a) (lb.kept0 a) ka kb (fun k hk => by omega) (fun h => by omega) (fun h => by omega) (fun h => by omega) (fun P o e h => by have := npa P o e; omega) (fun P o e h => by have := npb P o e; omega) ?_ ⟨⟨r0⟩, by simp, List.nil_prefix⟩).mono ?_
  · intro pre d W hj f
    exact gone1_ok (f.cell hO (by show ¬ w.heap.size + 1 = w.heap.size; omega)) (by omega) ((ld.kept0 a).fr f (fun P o e h => by have := np P o e; omega)) (fun P o e => by have := np P o e; omega) hj d
  · rintro r w' ⟨hv, hj, f⟩
    refine ⟨hv, ?_, f.cell hO (by show ¬ w.heap.size + 1 = w.heap.size; omega), fr_apart a f (Nat.le_refl _)⟩
    rcases hj with hj | ⟨pre, hp, hj⟩
    · refine ⟨(lackL xs ys).length, false, hj.wk, .inr ?_⟩
      have h1 := ld.len
      have h2 := hj.lt
      rw [List.length_take] at h1
      omega
    · obtain ⟨⟨k, bd, hw, hb⟩⟩ := hj
      rw [hb hp] at hw
      exact ⟨k, true, hw, .inl rfl⟩
theorem walk2 (w : World) (T : Tab w) (BA BB : Nat) (p pa pb : Option Addr) (n cap na ca nb cb : Nat) (st : Int) (xs ys : List S) (hA : w.cell? ⟨BA, 0, none⟩ = some (.slice pa na ca)) (hB : w.cell? ⟨BB, 0, none⟩ = some (.slice pb nb cb)) (la : L w pa na xs) (lb : L w pb nb ys) (ka : OkL 64 xs) (kb : OkL 64 ys) (npa : ∀ P o, pa = some ⟨P, o, none⟩ → P < w.heap.size) (npb : ∀ P o, pb = some ⟨P, o, none⟩ → P < w.heap.size) (np : ∀ P o, p = some ⟨P, o, none⟩ → P < w.heap.size) (ld : LD w p n ((lackL xs ys).take 300)) :
    Calls Tryd.prog 60 #[.func (.func 81) #[] #[.pointer (some ⟨w.heap.size + 1, 0, none⟩)], .pointer (some ⟨BA, 0, none⟩), .pointer (some ⟨BB, 0, none⟩)] ((w.alloc (.cells #[.slice p n cap, .int .i64 st, .int .i64 0, .bool false, .bool false] 88)).alloc (.cells #[.pointer (some ⟨w.heap.size, 0, none⟩)] 86)) fun r w' => WalkP w w' r p n cap st := by
  have a : Apart [] w ((w.alloc (.cells #[.slice p n cap, .int .i64 st, .int .i64 0, .bool false, .bool false] 88)).alloc (.cells #[.pointer (some ⟨w.heap.size, 0, none⟩)] 86)) := ((Apart.refl _ _).alloc _).alloc _
  have hs : ((w.alloc (.cells #[.slice p n cap, .int .i64 st, .int .i64 0, .bool false, .bool false] 88)).alloc (.cells #[.pointer (some ⟨w.heap.size, 0, none⟩)] 86)).heap.size = w.heap.size + 2 := by simp
  have r0 : ((w.alloc (.cells #[.slice p n cap, .int .i64 st, .int .i64 0, .bool false, .bool false] 88)).alloc (.cells #[.pointer (some ⟨w.heap.size, 0, none⟩)] 86)).heap[w.heap.size]? = some (.cells #[.slice p n cap, .int .i64 st, .int .i64 0, .bool false, .bool false] 88 (0, 0)) := by
    rw [((Apart.refl [] (w.alloc (.cells #[.slice p n cap, .int .i64 st, .int .i64 0, .bool false, .bool false] 88))).alloc (.cells #[.pointer (some ⟨w.heap.size, 0, none⟩)] 86)).block w.heap.size (by simp) (by simp)]
    rw [World.alloc.eq_1]; simp
  have r1 : ((w.alloc (.cells #[.slice p n cap, .int .i64 st, .int .i64 0, .bool false, .bool false] 88)).alloc (.cells #[.pointer (some ⟨w.heap.size, 0, none⟩)] 86)).heap[w.heap.size + 1]? = some (.cells #[.pointer (some ⟨w.heap.size, 0, none⟩)] 86 (0, 0)) := by
    have := World.alloc_heap_new (w.alloc (.cells #[.slice p n cap, .int .i64 st, .int .i64 0, .bool false, .bool false] 88)) (.cells #[.pointer (some ⟨w.heap.size, 0, none⟩)] 86)
    rwa [World.size_alloc] at this
  generalize (w.alloc (.cells #[.slice p n cap, .int .i64 st, .int .i64 0, .bool false, .bool false] 88)).alloc (.cells #[.pointer (some ⟨w.heap.size, 0, none⟩)] 86) = V at *
  have hO : V.cell? ⟨w.heap.size + 1, 0, none⟩ = some (.pointer (some ⟨w.heap.size, 0, none⟩)) := by rw [cell_of_row _ _ _ _ _ _ r1]; rfl
  have ltA := block_lt_of_cell hA
  have ltB := block_lt_of_cell hB
  have lt0 := T.lt
  simp only at ltA ltB
  refine (miss_walk81 V (T.kept0 a) (w.heap.size + 1) BA BB (fun k => k = w.heap.size) (Jw w.heap.size p n cap st ((lackL xs ys).take 300)) (Jl w.heap.size p n cap st (lackL xs ys)) (client_w _ _ _ _ _ _ _) pa pb na ca nb cb xs ys (a.keep hA) (a.keep hB) (la.kept0 a) (lb.kept0 a) ka kb (fun k hk => by omega) (fun h => by omega) (fun h => by omega) (fun h => by omega) (fun P o e h => by have := npa P o e; omega) (fun P o e h => by have := npb P o e; omega) ?_ ⟨⟨r0⟩, by simp, List.nil_prefix⟩).mono ?_
  · intro pre d W hj f
    exact gone2_ok (f.cell hO (by show ¬ w.heap.size + 1 = w.heap.size; omega)) (by omega) ((ld.kept0 a).fr f (fun P o e h => by have := np P o e; omega)) (fun P o e => by have := np P o e; omega) hj d
  · rintro r w' ⟨hv, hj, f⟩
    refine ⟨hv, ?_, f.cell hO (by show ¬ w.heap.size + 1 = w.heap.size; omega), fr_apart a f (Nat.le_refl _)⟩
    rcases hj with hj | ⟨pre, hp, hj⟩
    · refine ⟨(lackL xs ys).length, false, hj.wk, .inr ?_⟩
      have h1 := ld.len
      have h2 := hj.lt
      rw [List.length_take] at h1
      omega
    · obtain ⟨⟨k, bd, hw, hb⟩⟩ := hj
      rw [hb hp] at hw
      exact ⟨k, true, hw, .inl rfl⟩
end Go.Proofs.YtmdjjigiipboaaaDoor.ds
