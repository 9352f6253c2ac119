import Derived.Test.YtckkjdgeandhgabNames
import Derived.Great.BuildSlice
import Derived.Test.YtckkjdgeandhgabRight1
import Derived.Test.YtckkjdgeandhgabRight2
import Derived.Test.YtckkjdgeandhgabRight3
namespace Go.Proofs.Ytckkjdgeandhgab.topNames
open Go.ChangeShapes Go.WideShapes Go.ChangeAt Go.RowKit

theorem gtrans {a b c : World} (h : Grown a b) (k : Grown b c) : Grown a c :=
  ⟨World.keptBut_trans h.1 k.1, fun x => (k.2.1 x).trans (h.2.1 x), Nat.le_trans h.2.2 k.2.2⟩
theorem gdrewN {a b : World} (n : Nat) (h : Grown a b) : Grown a (b.drewN n) := h

theorem named1 (w : World) : Calls Try.prog 6 #[.slice (some ⟨w.heap.size,0,none⟩) 45 45] (w.alloc (.cells (dbl L1).toArray 49)) fun e w' => e = .returned (.bool true) ∧ Grown w w' := by
  refine (named_any (w.alloc (.cells (dbl L1).toArray 49)) w.heap.size 45 (fun i => L1.getD i 0) (by decide) (by decide) ?_ ?_).mono ?_
  · intro i hi; rw [World.cell?_alloc_new]; simpa using (dbl_at L1 i hi).1
  · intro i hi; rw [World.cell?_alloc_new]; simpa using (dbl_at L1 i hi).2
  · rintro e w' ⟨rfl, k, rfl⟩; exact ⟨rfl, gdrewN _ ((Grown.refl _).alloc _ _)⟩
theorem named2 (w : World) : Calls Try.prog 6 #[.slice (some ⟨w.heap.size,0,none⟩) 45 45] (w.alloc (.cells (dbl L2).toArray 49)) fun e w' => e = .returned (.bool true) ∧ Grown w w' := by
  refine (named_any (w.alloc (.cells (dbl L2).toArray 49)) w.heap.size 45 (fun i => L2.getD i 0) (by decide) (by decide) ?_ ?_).mono ?_
  · intro i hi; rw [World.cell?_alloc_new]; simpa using (dbl_at L2 i hi).1
  · intro i hi; rw [World.cell?_alloc_new]; simpa using (dbl_at L2 i hi).2
  · rintro e w' ⟨rfl, k, rfl⟩; exact ⟨rfl, gdrewN _ ((Grown.refl _).alloc _ _)⟩

def c9 : List Value := [.int .i64 8, .int .i64 5, .int .i64 16, .int .i64 8, .int .i64 64, .int .i64 1048576, .int .i64 64, .int .i64 32, .int .i64 256]
def B19 : Array Value := (c9 ++ c9 ++ c9 ++ c9 ++ c9 ++ c9 ++ c9 ++ c9 ++ c9 ++ c9 ++ c9 ++ c9 ++ c9 ++ c9 ++ c9 ++ c9 ++ c9 ++ c9 ++ c9).toArray
def rowsC : List (List Int) := [[9, 5, 16, 8, 64, 1048576, 64, 32, 256], [8, 6, 16, 8, 64, 1048576, 64, 32, 256], [8, 5, 17, 8, 64, 1048576, 64, 32, 256], [8, 5, 16, 9, 64, 1048576, 64, 32, 256], [8, 5, 16, 8, 65, 1048576, 64, 32, 256], [8, 5, 16, 8, 64, 1048577, 64, 32, 256], [8, 5, 16, 8, 64, 1048576, 65, 32, 256], [8, 5, 16, 8, 64, 1048576, 64, 33, 256], [8, 5, 16, 8, 64, 1048576, 64, 32, 257], [0, 5, 16, 8, 64, 1048576, 64, 32, 256], [8, 0, 16, 8, 64, 1048576, 64, 32, 256], [8, 5, 0, 8, 64, 1048576, 64, 32, 256], [8, 5, 16, 0, 64, 1048576, 64, 32, 256], [8, 5, 16, 8, 0, 1048576, 64, 32, 256], [8, 5, 16, 8, 64, 0, 64, 32, 256], [8, 5, 16, 8, 64, 1048576, 0, 32, 256], [8, 5, 16, 8, 64, 1048576, 64, -1, 256], [8, 5, 16, 8, 64, 1048576, 64, 32, 0], [4, 5, 16, 8, 64, 1048576, 64, 32, 256]]
def cf (k j : Nat) : Int := (rowsC.getD k []).getD j 0
def BF : Array Value := ((rowsC.flatMap id).map (Value.int .i64)).toArray
theorem BF_at : ∀ k : Nat, k < 19 → ∀ j : Nat, j < 9 → BF[k * 9 + j]? = some (.int .i64 (cf k j)) := by
  have h : ∀ k : Fin 19, ∀ j : Fin 9, (rowsC.flatMap id)[k.1 * 9 + j.1]? = some (cf k.1 j.1) := by decide +kernel
  intro k hk j hj
  have := h ⟨k, hk⟩ ⟨j, hj⟩
  simp only [BF, List.getElem?_toArray, List.getElem?_map]
  simp only at this
  rw [this]; rfl
theorem right_all (k : Nat) (hk : k < 19) (w : World) : Calls Try.prog 9 #[.agg #[.int .i64 (cf k 0), .int .i64 (cf k 1), .int .i64 (cf k 2), .int .i64 (cf k 3), .int .i64 (cf k 4), .int .i64 (cf k 5), .int .i64 (cf k 6), .int .i64 (cf k 7), .int .i64 (cf k 8)]] w fun e w' => e = .returned (.bool false) ∧ Grown w w' := by
  match k, hk with
  | 0, _ => exact right_0 w
  | 1, _ => exact right_1 w
  | 2, _ => exact right_2 w
  | 3, _ => exact right_3 w
  | 4, _ => exact right_4 w
  | 5, _ => exact right_5 w
  | 6, _ => exact right_6 w
  | 7, _ => exact right_7 w
  | 8, _ => exact right_8 w
  | 9, _ => exact right_9 w
  | 10, _ => exact right_10 w
  | 11, _ => exact right_11 w
  | 12, _ => exact right_12 w
  | 13, _ => exact right_13 w
  | 14, _ => exact right_14 w
  | 15, _ => exact right_15 w
  | 16, _ => exact right_16 w
  | 17, _ => exact right_17 w
  | 18, _ => exact right_18 w
  | n + 19, h => exact absurd h (by omega)
theorem gcell {a b : World} (g : Grown a b) {n i : Nat} (h : n < a.heap.size) : b.cell? ⟨n, i, none⟩ = a.cell? ⟨n, i, none⟩ := g.1.cell h (fun f => f)
set_option maxHeartbeats 1000000 in
set_option maxRecDepth 100000 in
theorem walk  (w : World) :
    Calls Try.prog 4 #[] w fun e w' => e = .returned (.bool true) ∧ Grown w w' := by
  go_enter Try.func4, Try.ntmps4
  go_wp2_with fail
  refine (names1_any _).mono ?_
  rintro e w1 ⟨rfl, rfl⟩
  go_wp2_with fail
  refine (named1 _).mono ?_
  rintro e w1 ⟨rfl, g1⟩
  go_wp2_with fail
  refine (names2_any _).mono ?_
  rintro e w2 ⟨rfl, rfl⟩
  go_wp2_with fail
  refine (named2 _).mono ?_
  rintro e w2 ⟨rfl, g2⟩
  go_wp2
  refine wp_buildSlice 31 30 19 _ rfl B19 ((Try.prog.info? 30).get (by kernel_rfl)) (.agg #[.int .i64 0, .int .i64 0, .int .i64 0, .int .i64 0, .int .i64 0, .int .i64 0, .int .i64 0, .int .i64 0, .int .i64 0]) (by kernel_rfl) (by kernel_rfl) (by kernel_rfl) (by decide +kernel) (by decide +kernel) (by kernel_rfl) ?_
  have hb0 : B19[0]? = some (.int .i64 8) := by kernel_rfl
  have hb1 : B19[10]? = some (.int .i64 5) := by kernel_rfl
  have hb2 : B19[20]? = some (.int .i64 16) := by kernel_rfl
  have hb3 : B19[30]? = some (.int .i64 8) := by kernel_rfl
  have hb4 : B19[40]? = some (.int .i64 64) := by kernel_rfl
  have hb5 : B19[50]? = some (.int .i64 1048576) := by kernel_rfl
  have hb6 : B19[60]? = some (.int .i64 64) := by kernel_rfl
  have hb7 : B19[70]? = some (.int .i64 32) := by kernel_rfl
  have hb8 : B19[80]? = some (.int .i64 256) := by kernel_rfl
  have hb9 : B19[81]? = some (.int .i64 8) := by kernel_rfl
  have hb10 : B19[91]? = some (.int .i64 5) := by kernel_rfl
  have hb11 : B19[101]? = some (.int .i64 16) := by kernel_rfl
  have hb12 : B19[111]? = some (.int .i64 8) := by kernel_rfl
  have hb13 : B19[121]? = some (.int .i64 64) := by kernel_rfl
  have hb14 : B19[131]? = some (.int .i64 1048576) := by kernel_rfl
  have hb15 : B19[141]? = some (.int .i64 64) := by kernel_rfl
  have hb16 : B19[151]? = some (.int .i64 32) := by kernel_rfl
  have hb17 : B19[161]? = some (.int .i64 256) := by kernel_rfl
  have hb18 : B19[162]? = some (.int .i64 8) := by kernel_rfl
  go_wp2_with fail
  have hBF : (((((((((((((((((((B19.setIfInBounds 0 (Value.int IntKind.i64 9)).setIfInBounds 10 (Value.int IntKind.i64 6)).setIfInBounds 20 (Value.int IntKind.i64 17)).setIfInBounds 30 (Value.int IntKind.i64 9)).setIfInBounds 40 (Value.int IntKind.i64 65)).setIfInBounds 50 (Value.int IntKind.i64 1048577)).setIfInBounds 60 (Value.int IntKind.i64 65)).setIfInBounds 70 (Value.int IntKind.i64 33)).setIfInBounds 80 (Value.int IntKind.i64 257)).setIfInBounds 81 (Value.int IntKind.i64 0)).setIfInBounds 91 (Value.int IntKind.i64 0)).setIfInBounds 101 (Value.int IntKind.i64 0)).setIfInBounds 111 (Value.int IntKind.i64 0)).setIfInBounds 121 (Value.int IntKind.i64 0)).setIfInBounds 131 (Value.int IntKind.i64 0)).setIfInBounds 141 (Value.int IntKind.i64 0)).setIfInBounds 151 (Value.int IntKind.i64 (-1))).setIfInBounds 161 (Value.int IntKind.i64 0)).setIfInBounds 162 (Value.int IntKind.i64 4)) = BF := by kernel_rfl
  rw [hBF]
  clear hBF hb0 hb1 hb2 hb3 hb4 hb5 hb6 hb7 hb8 hb9 hb10 hb11 hb12 hb13 hb14 hb15 hb16 hb17 hb18
  have hc : ∀ (i : Nat), i < 19 → ∀ (j : Nat), j < 9 → ((w2.alloc (Obj.cells #[Value.int IntKind.i64 8, Value.int IntKind.i64 5, Value.int IntKind.i64 16, Value.int IntKind.i64 8, Value.int IntKind.i64 64, Value.int IntKind.i64 1048576, Value.int IntKind.i64 64, Value.int IntKind.i64 32, Value.int IntKind.i64 256] 30)).alloc (Obj.cells BF 30)).cell? ⟨w2.heap.size + 1, i * 9 + j, none⟩ = some (.int .i64 (cf i j)) := by
    intro i hi j hj
    rw [World.cell?_alloc_at _ _ _ _ (by simp)]
    exact BF_at i hi j hj
  have hd : ∀ (j : Nat), ((w2.alloc (Obj.cells #[Value.int IntKind.i64 8, Value.int IntKind.i64 5, Value.int IntKind.i64 16, Value.int IntKind.i64 8, Value.int IntKind.i64 64, Value.int IntKind.i64 1048576, Value.int IntKind.i64 64, Value.int IntKind.i64 32, Value.int IntKind.i64 256] 30)).alloc (Obj.cells BF 30)).cell? ⟨w2.heap.size, j, none⟩ = c9[j]? := by
    intro j
    rw [World.cell?_alloc_past _ _ _ (by simp), World.cell?_alloc_new]; exact List.getElem?_toArray
  have hg : Grown w ((w2.alloc (Obj.cells #[Value.int IntKind.i64 8, Value.int IntKind.i64 5, Value.int IntKind.i64 16, Value.int IntKind.i64 8, Value.int IntKind.i64 64, Value.int IntKind.i64 1048576, Value.int IntKind.i64 64, Value.int IntKind.i64 32, Value.int IntKind.i64 256] 30)).alloc (Obj.cells BF 30)) := gtrans (gtrans g1 g2) (((Grown.refl _).alloc _ _).alloc _ _)
  have hs : w2.heap.size + 1 < ((w2.alloc (Obj.cells #[Value.int IntKind.i64 8, Value.int IntKind.i64 5, Value.int IntKind.i64 16, Value.int IntKind.i64 8, Value.int IntKind.i64 64, Value.int IntKind.i64 1048576, Value.int IntKind.i64 64, Value.int IntKind.i64 32, Value.int IntKind.i64 256] 30)).alloc (Obj.cells BF 30)).heap.size := by simp
  generalize ((w2.alloc (Obj.cells #[Value.int IntKind.i64 8, Value.int IntKind.i64 5, Value.int IntKind.i64 16, Value.int IntKind.i64 8, Value.int IntKind.i64 64, Value.int IntKind.i64 1048576, Value.int IntKind.i64 64, Value.int IntKind.i64 32, Value.int IntKind.i64 256] 30)).alloc (Obj.cells BF 30)) = W at *
  generalize w2.heap.size = B at *
  clear g1 g2
  go_loopw [4] (fun i w' => ∃ k : Nat, k ≤ 19 ∧ i = .int .i64 k ∧ Grown W w') (fun i _ => 19 - (intOf i).toNat)
  case atStart => exact ⟨0, Nat.zero_le _, rfl, Grown.refl _⟩
  case round =>
    obtain ⟨k, hk, rfl, gk⟩ := hrel
    by_cases hlt : k < 19
    · have hB := gk.2.2
      have h0 := (gcell gk (i := k * 9) hs).trans (hc k hlt 0 (by decide))
      have h1 := (gcell gk (i := k * 9 + 1) hs).trans (hc k hlt 1 (by decide))
      have h2 := (gcell gk (i := k * 9 + 2) hs).trans (hc k hlt 2 (by decide))
      have h3 := (gcell gk (i := k * 9 + 3) hs).trans (hc k hlt 3 (by decide))
      have h4 := (gcell gk (i := k * 9 + 4) hs).trans (hc k hlt 4 (by decide))
      have h5 := (gcell gk (i := k * 9 + 5) hs).trans (hc k hlt 5 (by decide))
      have h6 := (gcell gk (i := k * 9 + 6) hs).trans (hc k hlt 6 (by decide))
      have h7 := (gcell gk (i := k * 9 + 7) hs).trans (hc k hlt 7 (by decide))
      have h8 := (gcell gk (i := k * 9 + 8) hs).trans (hc k hlt 8 (by decide))
      clear hc hd
      go_wp2_with fail
      refine (right_all k hlt _).mono ?_
      rintro e w3 ⟨rfl, g3⟩
      go_wp2
      go_roundw
      case rel => exact ⟨k + 1, by omega, by go_num, gtrans gk g3⟩
      case measure => simp [intOf]; omega
    · have hB := gk.2.2
      have h0 : _ = some (Value.int IntKind.i64 8) := (gcell gk (n := B) (i := 0) (by omega)).trans (hd 0)
      have h1 : _ = some (Value.int IntKind.i64 5) := (gcell gk (n := B) (i := 1) (by omega)).trans (hd 1)
      have h2 : _ = some (Value.int IntKind.i64 16) := (gcell gk (n := B) (i := 2) (by omega)).trans (hd 2)
      have h3 : _ = some (Value.int IntKind.i64 8) := (gcell gk (n := B) (i := 3) (by omega)).trans (hd 3)
      have h4 : _ = some (Value.int IntKind.i64 64) := (gcell gk (n := B) (i := 4) (by omega)).trans (hd 4)
      have h5 : _ = some (Value.int IntKind.i64 1048576) := (gcell gk (n := B) (i := 5) (by omega)).trans (hd 5)
      have h6 : _ = some (Value.int IntKind.i64 64) := (gcell gk (n := B) (i := 6) (by omega)).trans (hd 6)
      have h7 : _ = some (Value.int IntKind.i64 32) := (gcell gk (n := B) (i := 7) (by omega)).trans (hd 7)
      have h8 : _ = some (Value.int IntKind.i64 256) := (gcell gk (n := B) (i := 8) (by omega)).trans (hd 8)
      clear hc hd
      go_wp2_with fail
      refine (right_c _).mono ?_
      rintro e w3 ⟨rfl, g3⟩
      go_wp2
      go_ret
      exact ⟨rfl, gtrans hg (gtrans gk g3)⟩
end Go.Proofs.Ytckkjdgeandhgab.topNames
