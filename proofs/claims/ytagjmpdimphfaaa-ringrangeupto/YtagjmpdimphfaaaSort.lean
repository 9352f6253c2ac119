import Derived.Test.YtagjmpdimphfaaaPts
import Derived.Shelf.SlSortCmp.WholeK
import Derived.Shelf.Lay
import Derived.Ground.SlsfProg
import Derived.Sort.LotA
namespace Go.Proofs.Ytagjmpdimphfaaa.rg
open Go.ChangeShapes Go.WideShapes Go.ChangeAt Go.RowKit Go.Sort Go.Shelf
shelf_lay_g SlLaysF0.n6 Slsf 6 at Try 41 as sortPt
set_option linter.unusedVariables false
set_option linter.unusedSimpArgs false
def encP (x : Pt) : List Value := [.int .u32 (x.1 : Nat), .int .i64 (x.2 : Nat)]
theorem swoP : SWO (ltOf cfP) where
  irrefl x := by show decide (cfP x x < 0) = false; rw [cfP_lt, ltP_not]; omega
  trans x y z h1 h2 := by
    have e : ∀ a b, ltOf cfP a b = ltP a b := fun a b => cfP_lt a b
    rw [e, ltP_iff] at *; omega
  ntrans x y z h1 h2 := by
    have e : ∀ a b, ltOf cfP a b = ltP a b := fun a b => cfP_lt a b
    rw [e, ltP_not] at *; omega
theorem flatK_eq (l : List Pt) : flatK encP 2 l.toArray = (flP l).toArray := by
  refine ext_get! (by simp [flP_length]) fun t ht => ?_
  have ht' : t < l.length * 2 := by simpa using ht
  rw [get_flatK _ _ _ _ (by simpa using ht')]
  have hq : t / 2 < l.length := by omega
  obtain ⟨c0, c1⟩ := flP_get l (t / 2) hq
  have ea : (l.toArray)[t / 2]! = l.getD (t / 2) (0, 0) := by
    rw [getElem!_pos _ _ (by simpa using hq), List.getD_eq_getElem?_getD, List.getElem?_eq_getElem hq]; simp
  rw [ea]
  have hb : (flP l).toArray[t]! = ((flP l)[t]?).getD default := by
    rw [Array.getElem!_eq_getD, Array.getD_eq_getD_getElem?]; simp
  rw [hb]
  rcases Nat.mod_two_eq_zero_or_one t with h | h
  · rw [h, show (flP l)[t]? = (flP l)[t / 2 * 2]? from by rw [show t / 2 * 2 = t by omega], c0]; rfl
  · rw [h, show (flP l)[t]? = (flP l)[t / 2 * 2 + 1]? from by rw [show t / 2 * 2 + 1 = t by omega], c1]; rfl
theorem perm_srt (l : List Pt) : PermIn 0 l.toArray.size l.toArray (srtP l).toArray := by
  have hp := srtP_perm l
  have hl := hp.length_eq
  refine ⟨by simpa using hl, fun i hi => ?_, ?_⟩
  · have hi' : l.length ≤ i := by simpa using hi
    rw [getElem!_neg _ i (by simp; omega), getElem!_neg _ i (by simp; omega)]
  · have e1 : ((srtP l).toArray.extract 0 l.toArray.size).toList = srtP l := by simp [← hl]
    have e2 : (l.toArray.extract 0 l.toArray.size).toList = l := by simp
    rw [e1, e2]; exact hp
theorem sorted_srt (l : List Pt) : SortedIn (ltOf cfP) 0 l.toArray.size (srtP l).toArray := by
  have hl := (srtP_perm l).length_eq
  intro i j _ hij hj
  have hj' : j < l.length := by simpa using hj
  have hs := List.pairwise_iff_getElem.1 (srtP_sorted l) i j (by omega) (by omega) hij
  rw [getElem!_pos _ j (by simp; omega), getElem!_pos _ i (by simp; omega)]
  show decide (cfP _ _ < 0) = false
  rw [cfP_lt]
  simpa using hs
theorem total_lt (x y : Pt) (h1 : ltOf cfP x y = false) (h2 : ltOf cfP y x = false) : x = y := by
  have e : ∀ a b, ltOf cfP a b = ltP a b := fun a b => cfP_lt a b
  rw [e, ltP_not] at *
  obtain ⟨a, b⟩ := x; obtain ⟨c, d⟩ := y
  simp only at h1 h2
  have : a = c := by omega
  have : b = d := by omega
  subst_vars; rfl
theorem srt_eq (l : List Pt) (d' : Array Pt) (hp : PermIn 0 l.toArray.size l.toArray d') (hs : SortedIn (ltOf cfP) 0 l.toArray.size d') : d' = (srtP l).toArray := by
  have h1 := sorted_unique_holds swoP total_lt l.toArray d' hp hs
  have h2 := sorted_unique_holds swoP total_lt l.toArray (srtP l).toArray (perm_srt l) (sorted_srt l)
  exact Array.toList_inj.1 (h1.trans h2.symm)
theorem cmpLays (blk off size : Nat) (w : World) : CmpLays Try.prog 39 #[] encP 2 cfP blk off size w :=
  fun m os dk hs x y => compare_ok x y _
set_option maxHeartbeats 1000000 in
theorem sort_ok {w W : World} {P m cap : Nat} {l : List Pt} (O : OwnP w W (some ⟨P, 0, none⟩) m cap l) (hm : m = l.length) (h0 : m ≤ 1000) :
    Calls Try.prog 41 #[.slice (some ⟨P, 0, none⟩) m cap, .func (.func 39) #[] #[]] W fun r w' => r = .returned (.tuple #[]) ∧ OwnP w w' (some ⟨P, 0, none⟩) m cap (srtP l) := by
  have eg : ∀ args w, (callFunc 39 args).run Try.prog w = .ok (.enter 39 args) w := enters_of Try.func39 (by kernel_rfl) rfl
  obtain ⟨hxl, ⟨hv, _⟩ | ⟨g, cap', cur, hv, hb, hr, hle, hcm, hcs, htk⟩⟩ := id O.own
  · cases hv
  simp only [Value.slice.injEq, Option.some.injEq, Addr.mk.injEq, and_true, true_and] at hv
  obtain ⟨rfl, rfl⟩ := hv
  have hblk : P < W.heap.size := lt_of_heap hr
  have hH : HoldsK encP 2 W P 0 l.toArray := by
    intro j hj
    rw [flatK_eq] at hj ⊢
    have hj' : j < l.length * 2 := by simpa [flP_length] using hj
    refine ⟨?_, ?_⟩
    · rw [Nat.zero_add, O.cellP j hj']
      rw [getElem!_pos _ j hj]; simp
    · simp [World.frozen?, hr]
  have hcon := AnyQ.slices_SortFunc sortPt 2 Try.isAgg80 Try.sizeOf80 encP (fun _ => rfl) (fun x v hv => by simp [encP] at hv; rcases hv with rfl | rfl <;> rfl) cfP swoP 39 #[] P 0 cap l.toArray W eg (cmpLays P 0 _ W) hH hblk (by simp; omega)
  change Calls Try.prog 41 _ _ _ at hcon
  rw [show l.toArray.size = m by simp [hm]] at hcon
  refine hcon.mono ?_
  rintro r w' ⟨rfl, d', n, os, hp, hs, rfl⟩
  refine ⟨rfl, ?_⟩
  rw [show m = l.toArray.size by simp [hm]] at hp hs
  obtain rfl := srt_eq l d' hp hs
  have hl := (srtP_perm l).length_eq
  have hgr : (sortWorldK encP 2 W P 0 n (srtP l).toArray os).heap[P]? = some (.cells (putCells id 0 (flP (srtP l)).toArray cur) 80 (0, 0)) := by
    unfold sortWorldK putRowK putRow
    rw [flatK_eq]
    rw [heap_grow_old _ _ (by simpa [mapBlock, Sort.ahead] using hblk)]
    simp [mapBlock, Sort.ahead, Array.getElem?_modify, hr, onCells]
  refine ⟨⟨by rw [flP_length, hl, hm], .inr ⟨P, cap, _, rfl, hb, hgr, hle, hcm, by simp [putCells, hcs], ?_⟩⟩, O.new, O.ap.trans' (Y := [P]) ?_ (fun y hy => .inr (O.new y (by simp at hy; subst hy; rfl)))⟩
  · apply List.ext_getElem?
    intro k
    have hf := flP_length (srtP l)
    by_cases hk : k < m * 2
    · have hk2 : k < cur.size := by rw [hcs]; omega
      simp only [List.getElem?_take, hk, if_true, putCells, Array.getElem?_toList, Array.getElem?_mapIdx, Array.getElem?_eq_getElem hk2, Option.map_some]
      rw [if_pos ⟨Nat.zero_le _, by simp [hf]; omega⟩]
      simp only [id, Nat.sub_zero]
      rw [getElem!_pos _ k (by simp [hf]; omega)]
      simp
    · rw [List.getElem?_take, if_neg hk, List.getElem?_eq_none (by omega)]
  · refine ⟨rfl, rfl, rfl, ?_, fun k hk hx => ?_⟩
    · unfold sortWorldK putRowK putRow; rw [size_grow]; simp [mapBlock, Sort.ahead]
    · unfold sortWorldK putRowK putRow
      rw [heap_grow_old _ _ (by simpa [mapBlock, Sort.ahead] using hk)]
      have : P ≠ k := fun e => hx (by simp [e])
      simp [mapBlock, Sort.ahead, Array.getElem?_modify, this]
end Go.Proofs.Ytagjmpdimphfaaa.rg
