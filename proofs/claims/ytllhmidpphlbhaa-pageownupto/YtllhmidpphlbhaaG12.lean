import Derived.Test.YtllhmidpphlbhaaG11
namespace Go.Proofs.Ytllhmidpphlbhaa.ds
open Go.ChangeShapes Go.WideShapes Go.ChangeAt Go.RowKit Go.Sort
set_option linter.unusedVariables false
set_option linter.unusedSimpArgs false
/-- what is left of a region -/
def rest2 (n : Nat) (T : List Oper) : List Oper := T
theorem wpList_cutat {P : Program} {ops : Array Oper} {Q : Exit → Act → World → Prop} {a : Act} {w : World} {l : List Oper} (n : Nat) (J : Act → World → Prop) (hb : ∀ T, (∀ a' w', J a' w' → wpList P ops Q (rest2 n T) a' w') → wpList P ops Q (l.take n ++ rest2 n T) a w) (hn : ∀ a' w', J a' w' → wpList P ops Q (l.drop n) a' w') : wpList P ops Q l a w := by
  have h1 : wpList P ops Q (l.take n ++ l.drop n) a w := hb (l.drop n) hn
  rwa [List.take_append_drop] at h1

theorem size103 : (Try.prog.info? 103).map (·.size) = some 25 := by kernel_rfl
theorem isz {xs : List S} {m : Nat} (h : xs.length ≤ 8) : (Try.prog.info? 103).map (·.size) = some (setL xs m).toArray.size := by rw [size103, List.size_toArray, setL_len h]
theorem spansR_succ (B : List Nat) (dn dc m lo : Nat) (s : Ps) (hm : 0 < m) : spansR B dn dc m lo s = ((spanR B lo dn dc s).1 :: (spansR B dn dc (m - 1) ((spanR B lo dn dc s).1.n.toNat + 1) (spanR B lo dn dc s).2).1, (spansR B dn dc (m - 1) ((spanR B lo dn dc s).1.n.toNat + 1) (spanR B lo dn dc s).2).2) := by
  obtain ⟨k, rfl⟩ : ∃ k, m = k + 1 := ⟨m - 1, by omega⟩
  rfl
/-- the walk over a set's spans -/
structure SI (w wt : World) (R P o c : Nat) (B : List Nat) (dn dc m : Nat) (s1 : Ps) (X D Y : Nat) (i lo : Nat) (si : Ps) (xs : List S) : Prop where
  im : i ≤ m
  m8 : m ≤ 8
  xl : xs.length = i
  lo8 : lo ≤ 8
  r : PR wt R P o c B si
  a : Apart [R] w wt
  room : si.bad = false → si.at_ + 13 * (m - i) ≤ 2048
  e : spansR B dn dc m 0 s1 = (xs ++ (spansR B dn dc (m - i) lo si).1, (spansR B dn dc (m - i) lo si).2)
  bx : wt.heap[X]? = some (.cells #[.int .i64 (dn : Nat), .int .i64 (dc : Nat)] 47 (0, 0))
  bd : wt.heap[D]? = some (.cells (setL [] 0).toArray 103 (0, 0))
  by_ : wt.heap[Y]? = some (.cells (setL xs m).toArray 103 (0, 0))
theorem SI.step {w wt w1 : World} {R P o c : Nat} {B : List Nat} {dn dc m : Nat} {s1 : Ps} {X D Y : Nat} {i lo : Nat} {si : Ps} {xs : List S} (h : SI w wt R P o c B dn dc m s1 X D Y i lo si xs) (hi : i < m) (r : PR w1 R P o c B (spanR B lo dn dc si).2) (a : Apart [R] wt w1) (hX : X ≠ R) (hD : D ≠ R) (hY : Y ≠ R) (hXY : Y ≠ X) (hDY : Y ≠ D) (hP : P ≠ Y) (hw : w.heap.size ≤ Y) (z : World) (hz : z = w1.setCells Y (i * 3) [.int .i64 (spanR B lo dn dc si).1.n, .int .i64 (spanR B lo dn dc si).1.b, .int .u64 ((spanR B lo dn dc si).1.t : Int)]) : SI w z R P o c B dn dc m s1 X D Y (i + 1) ((spanR B lo dn dc si).1.n.toNat + 1) (spanR B lo dn dc si).2 (xs ++ [(spanR B lo dn dc si).1]) := by
  have b := apart_setCells (g := Y) (X := [Y]) [.int .i64 (spanR B lo dn dc si).1.n, .int .i64 (spanR B lo dn dc si).1.b, .int .u64 ((spanR B lo dn dc si).1.t : Int)] (i * 3) w1 (Apart.refl _ _) (.inl (by simp))
  rw [← hz] at b
  have hn := spanR_n B lo dn dc si
  have hat := spanR_at B lo dn dc si
  have hm8 := h.m8
  refine ⟨by omega, h.m8, by rw [List.length_append, h.xl]; rfl, by omega, r.kept b (by simp; exact fun e => hY e.symm) (by simp; exact hP), ?_, fun hb => ?_, ?_, ?_, ?_, ?_⟩
  · exact (h.a.trans a).trans' b (by intro y hy; simp at hy; rw [hy]; exact .inr hw)
  · have : si.bad = false := by
      cases hx : si.bad with
      | false => rfl
      | true => rw [spanR_bad B lo dn dc hx] at hb; rw [hx] at hb; cases hb
    have := h.room this
    omega
  · rw [h.e, spansR_succ B dn dc (m - i) lo si (by omega), show m - (i + 1) = m - i - 1 from by omega]
    simp
  · exact keepB b (keepB a h.bx hX) (fun e => hXY e.symm)
  · exact keepB b (keepB a h.bd hD) (fun e => hDY e.symm)
  · have h1 := heap_setCells_same [.int .i64 (spanR B lo dn dc si).1.n, .int .i64 (spanR B lo dn dc si).1.b, .int .u64 ((spanR B lo dn dc si).1.t : Int)] (i * 3) w1 _ (keepB a h.by_ hY)
    rw [← h.xl, setL_put _ (by rw [h.xl]; omega)] at h1
    rw [hz, ← h.xl]; exact h1
theorem g_at {xs : List S} {x : S} {i : Nat} (h : xs.length = i) : g (xs ++ [x] ++ List.replicate (8 - (xs ++ [x]).length) zS) i = x := by
  subst h
  unfold g
  rw [List.append_assoc, List.getD_eq_getElem?_getD, List.getElem?_append_right (Nat.le_refl _), Nat.sub_self]; rfl
set_option maxHeartbeats 8000000 in
set_option maxRecDepth 100000 in
theorem set_ok {w : World} {R P o c : Nat} {B : List Nat} {s : Ps} (h : PR w R P o c B s) (dn dc : Nat) (hr : s.bad = false → s.at_ + 105 ≤ 2048) (hn : dn ≤ 7) (hc : dc ≤ 1048576) :
    Calls Try.prog 73 #[.pointer (some ⟨R, 0, none⟩), .agg #[.int .i64 (dn : Nat), .int .i64 (dc : Nat)]] w fun e w' => PO w w' R P o c B e (.agg (setL (setR B dn dc s).1 (setR B dn dc s).1.length).toArray) (setR B dn dc s).2 := by
  have HR := hid h
  have HA : Hid (Apart [R] w w) := Apart.refl _ _
  have HNC : Hid (dn ≤ 7 ∧ dc ≤ 1048576) := ⟨hn, hc⟩
  obtain ⟨a, Ha⟩ : ∃ a, Hid (a = num B 1 0 8 s) := ⟨_, rfl⟩
  have HAt : Hid (a.1 ≤ 8 ∧ (a.2.bad = false → a.2.at_ + 104 ≤ 2048)) := by
    unfold Hid
    have h1 := num_at B 1 0 8 s
    have h2 := num_le B 1 0 8 s
    have h3 := @num_ok1 B 1 0 8 s
    rw [← Ha.out] at h1 h2 h3
    exact ⟨h2, fun hb => by have := hr (h3 hb); omega⟩
  have HE : Hid (setR B dn dc s = spansR B dn dc a.1 0 a.2) := by unfold Hid setR; rw [← Ha.out]
  have HC1 := fun W (hW : PR W R P o c B s) => hid (number_ok hW 1 0 8 ⟨by omega, by omega⟩ (fun hb => by have := hr hb; omega) (by omega) (by omega))
  rw [← Ha.out] at HC1
  clear h hr hn hc
  obtain ⟨m, s1⟩ := a
  dsimp only at HC1 HE HAt
  obtain ⟨X, HXX⟩ : ∃ X, Hid (X = w.heap.size) := ⟨_, rfl⟩
  obtain ⟨w1, hw1⟩ : ∃ W, W = w.alloc (.cells #[.int .i64 (dn : Nat), .int .i64 (dc : Nat)] 47) := ⟨_, rfl⟩
  have HSw1 : Hid (Apart [] w w1) := by unfold Hid; rw [hw1]; exact (Apart.refl [] w).alloc _
  have HBX : Hid (w1.heap[X]? = some (.cells #[.int .i64 (dn : Nat), .int .i64 (dc : Nat)] 47 (0, 0))) := by unfold Hid; rw [HXX.out, hw1]; exact heap_alloc_new w _
  have HNX_R : Hid (X ≠ R) := by unfold Hid; have := lt_of_heap HR.out.blk; rw [HXX.out]; omega
  have HNX_P : Hid (P ≠ X) := by unfold Hid; have := HR.out.lt; rw [HXX.out]; omega
  have HLX : Hid (w.heap.size ≤ X) := by unfold Hid; rw [HXX.out]; exact HA.out.size
  replace HR := hid (HR.out.kept0 HSw1.out)
  replace HA := hid (HA.out.trans (HSw1.out.mono (by simp)))
  obtain ⟨D, HXD⟩ : ∃ X, Hid (X = w1.heap.size) := ⟨_, rfl⟩
  obtain ⟨w2, hw2⟩ : ∃ W, W = w1.alloc (.cells #[.int .i64 0, .int .i64 0, .int .u64 0, .int .i64 0, .int .i64 0, .int .u64 0, .int .i64 0, .int .i64 0, .int .u64 0, .int .i64 0, .int .i64 0, .int .u64 0, .int .i64 0, .int .i64 0, .int .u64 0, .int .i64 0, .int .i64 0, .int .u64 0, .int .i64 0, .int .i64 0, .int .u64 0, .int .i64 0, .int .i64 0, .int .u64 0, .int .i64 0] 103) := ⟨_, rfl⟩
  have HSw2 : Hid (Apart [] w1 w2) := by unfold Hid; rw [hw2]; exact (Apart.refl [] w1).alloc _
  have HBD : Hid (w2.heap[D]? = some (.cells #[.int .i64 0, .int .i64 0, .int .u64 0, .int .i64 0, .int .i64 0, .int .u64 0, .int .i64 0, .int .i64 0, .int .u64 0, .int .i64 0, .int .i64 0, .int .u64 0, .int .i64 0, .int .i64 0, .int .u64 0, .int .i64 0, .int .i64 0, .int .u64 0, .int .i64 0, .int .i64 0, .int .u64 0, .int .i64 0, .int .i64 0, .int .u64 0, .int .i64 0] 103 (0, 0))) := by unfold Hid; rw [HXD.out, hw2]; exact heap_alloc_new w1 _
  have HND_R : Hid (D ≠ R) := by unfold Hid; have := lt_of_heap HR.out.blk; rw [HXD.out]; omega
  have HND_P : Hid (P ≠ D) := by unfold Hid; have := HR.out.lt; rw [HXD.out]; omega
  have HND_X : Hid (D ≠ X) := by unfold Hid; have := lt_of_heap HBX.out; rw [HXD.out]; omega
  have HLD : Hid (w.heap.size ≤ D) := by unfold Hid; rw [HXD.out]; exact HA.out.size
  replace HR := hid (HR.out.kept0 HSw2.out)
  replace HA := hid (HA.out.trans (HSw2.out.mono (by simp)))
  replace HBX := hid (keep0 HSw2.out HBX.out)
  have heD : X + 1 = D := by rw [HXD.out, hw1, HXX.out]; exact (Array.size_push _).symm
  go_enter Try.func73, Try.ntmps73
  go_wp2_with fail
  rw [← hw1, ← HXX.out, ← hw2, heD]
  clear hw1 HXX hw2 HXD heD
  refine ((HC1 _ HR.out).out).mono ?_
  rintro _ w3 ⟨rfl, rw3, aw3⟩
  have HSw3 := hid aw3
  replace HR := hid rw3
  replace HA := hid (HA.out.trans aw3)
  clear rw3 aw3
  replace HBX := hid (keepB HSw3.out HBX.out HNX_R.out)
  replace HBD := hid (keepB HSw3.out HBD.out HND_R.out)
  dsimp only
  clear HC1
  obtain ⟨Y, HXY⟩ : ∃ X, Hid (X = w3.heap.size) := ⟨_, rfl⟩
  obtain ⟨w4, hw4⟩ : ∃ W, W = w3.alloc (.cells #[.int .i64 0, .int .i64 0, .int .u64 0, .int .i64 0, .int .i64 0, .int .u64 0, .int .i64 0, .int .i64 0, .int .u64 0, .int .i64 0, .int .i64 0, .int .u64 0, .int .i64 0, .int .i64 0, .int .u64 0, .int .i64 0, .int .i64 0, .int .u64 0, .int .i64 0, .int .i64 0, .int .u64 0, .int .i64 0, .int .i64 0, .int .u64 0, .int .i64 0] 103) := ⟨_, rfl⟩
  have HSw4 : Hid (Apart [] w3 w4) := by unfold Hid; rw [hw4]; exact (Apart.refl [] w3).alloc _
  have HBY : Hid (w4.heap[Y]? = some (.cells #[.int .i64 0, .int .i64 0, .int .u64 0, .int .i64 0, .int .i64 0, .int .u64 0, .int .i64 0, .int .i64 0, .int .u64 0, .int .i64 0, .int .i64 0, .int .u64 0, .int .i64 0, .int .i64 0, .int .u64 0, .int .i64 0, .int .i64 0, .int .u64 0, .int .i64 0, .int .i64 0, .int .u64 0, .int .i64 0, .int .i64 0, .int .u64 0, .int .i64 0] 103 (0, 0))) := by unfold Hid; rw [HXY.out, hw4]; exact heap_alloc_new w3 _
  have HNY_R : Hid (Y ≠ R) := by unfold Hid; have := lt_of_heap HR.out.blk; rw [HXY.out]; omega
  have HNY_P : Hid (P ≠ Y) := by unfold Hid; have := HR.out.lt; rw [HXY.out]; omega
  have HNY_X : Hid (Y ≠ X) := by unfold Hid; have := lt_of_heap HBX.out; rw [HXY.out]; omega
  have HNY_D : Hid (Y ≠ D) := by unfold Hid; have := lt_of_heap HBD.out; rw [HXY.out]; omega
  have HLY : Hid (w.heap.size ≤ Y) := by unfold Hid; rw [HXY.out]; exact HA.out.size
  replace HR := hid (HR.out.kept0 HSw4.out)
  replace HA := hid (HA.out.trans (HSw4.out.mono (by simp)))
  replace HBX := hid (keep0 HSw4.out HBX.out)
  replace HBD := hid (keep0 HSw4.out HBD.out)
  obtain ⟨w5, hw5⟩ : ∃ W, W = w4.setCells Y 0 (setL [] m).toArray.toList := ⟨_, rfl⟩
  have HSw5 : Hid (Apart [Y] w4 w5) := by unfold Hid; rw [hw5]; exact apart_setCells _ _ _ (Apart.refl _ _) (.inl (by simp))
  replace HBY : Hid (w5.heap[Y]? = some (.cells (setL [] m).toArray 103 (0, 0))) := by
    unfold Hid; rw [hw5]
    have := heap_setCells_same (setL [] m).toArray.toList 0 w4 _ HBY.out
    rw [spl_all (by rw [Array.length_toList, List.size_toArray, setL_len (by simp)]; rfl)] at this
    exact this
  replace HR := hid (HR.out.kept HSw5.out (by simp; exact HNY_R.out.symm) (by simp; exact HNY_P.out))
  replace HA := hid (HA.out.trans' HSw5.out (by intro y hy; simp at hy; rw [hy]; exact .inr HLY.out))
  replace HBX := hid (keepB HSw5.out HBX.out HNY_X.out.symm)
  replace HBD := hid (keepB HSw5.out HBD.out HNY_D.out.symm)
  have HT : Hid ((w3.alloc (.cells #[.int .i64 0, .int .i64 0, .int .u64 0, .int .i64 0, .int .i64 0, .int .u64 0, .int .i64 0, .int .i64 0, .int .u64 0, .int .i64 0, .int .i64 0, .int .u64 0, .int .i64 0, .int .i64 0, .int .u64 0, .int .i64 0, .int .i64 0, .int .u64 0, .int .i64 0, .int .i64 0, .int .u64 0, .int .i64 0, .int .i64 0, .int .u64 0, .int .i64 0] 103)).there w3.heap.size 0 (setL [] m).toArray.size) := there_of (heap_alloc_new w3 _) 0 _ (by rw [List.size_toArray, setL_len (by simp)]; exact Nat.le_refl _)
  have HI3 := hid (isz (xs := []) (m := m) (by simp))
  have HY3 : Hid ((Value.agg #[.int .i64 0, .int .i64 0, .int .u64 0, .int .i64 0, .int .i64 0, .int .u64 0, .int .i64 0, .int .i64 0, .int .u64 0, .int .i64 0, .int .i64 0, .int .u64 0, .int .i64 0, .int .i64 0, .int .u64 0, .int .i64 0, .int .i64 0, .int .u64 0, .int .i64 0, .int .i64 0, .int .u64 0, .int .i64 0, .int .i64 0, .int .u64 0, .int .i64 (m : Nat)] : Value) = .agg (setL [] m).toArray) := rfl
  rename_i K1 hK1
  refine hK1 _ _ ?_
  clear hK1
  refine wpList_cutat 2 (fun a' w' => Hid (wpList _ _ _ (List.drop 2 _) a' w')) (fun T hT => ?_) (fun _ _ h => h)
  dsimp only [List.take, List.cons_append, List.nil_append, List.append]
  go_wp2_with fail
  refine hT _ _ ?_
  clear hT T
  unfold Hid
  dsimp only [List.drop]
  refine wpList_store_mid rfl 103 (.tmp 5) (.tmp 10) rfl _ 0 (setL [] m).toArray rfl HY3.out HT.out HI3.out (setL_one _ _) ?_
  rw [← hw4, ← HXY.out, ← hw5]
  clear HT HI3 HY3 hw4 HXY hw5
  have HI : Hid (SI w w5 R P o c B dn dc m s1 X D Y 0 0 s1 []) := ⟨Nat.zero_le _, HAt.out.1, rfl, by omega, HR.out, HA.out, fun hb => by have := HAt.out.2 hb; have := HAt.out.1; omega, by simp, HBX.out, HBD.out, HBY.out⟩
  have zm : w5.cell? ⟨Y, 24, none⟩ = some (.int .i64 (m : Nat)) := by rw [cell_of_row _ _ _ _ _ _ HBY.out]; rfl
  clear HR HA HBX HBD HBY
  go_wp2_with fail
  clear zm
  go_loopw [6, 7, 13] (fun u _ v wt => ∃ (i lo : Nat) (si : Ps) (xs : List S), u = .int .i64 (lo : Nat) ∧ v = .int .i64 (i : Nat) ∧ SI w wt R P o c B dn dc m s1 X D Y i lo si xs) (fun _ _ v _ => m - (intOf v).toNat)
  case atStart => exact ⟨0, 0, s1, [], rfl, rfl, HI.out⟩
  case round =>
    obtain ⟨i, lo, si, xs, rfl, rfl, hI⟩ := hrel
    have HJ := hid hI
    have him := hI.im
    clear hI HI
    by_cases hlt : i < m
    · have hlti : ((i : Nat) : Int) < (m : Int) := by omega
      have HC := hid (span_ok HJ.out.r lo dn dc (fun hb => by have := HJ.out.room hb; omega) (by have := HJ.out.lo8; omega) HNC.out.1 HNC.out.2)
      have zx0 : wr.cell? ⟨X, 0, none⟩ = some (.int .i64 (dn : Nat)) := by rw [cell_of_row _ _ _ _ _ _ HJ.out.bx]; rfl
      have zx1 : wr.cell? ⟨X, 1, none⟩ = some (.int .i64 (dc : Nat)) := by rw [cell_of_row _ _ _ _ _ _ HJ.out.bx]; rfl
      go_wp2_with fail
      clear zx0 zx1
      refine HC.out.mono ?_
      rintro _ w9 ⟨rfl, r9, a9⟩
      have HS := fun z hz => hid (HJ.out.step hlt r9 a9 HNX_R.out HND_R.out HNY_R.out HNY_X.out HNY_D.out HNY_P.out HLY.out z hz)
      have HBY9 := hid (keepB a9 HJ.out.by_ HNY_R.out)
      have HN := hid (spanR_n B lo dn dc si)
      have hm8 := HJ.out.m8
      have hxl := HJ.out.xl
      clear r9 a9 HC
      dsimp only
      obtain ⟨x, Hx⟩ : ∃ x, Hid (x = spanR B lo dn dc si) := ⟨_, rfl⟩
      rw [← Hx.out] at HS HN ⊢
      obtain ⟨⟨xn, xb, xt⟩, s'⟩ := x
      dsimp only at HS HN ⊢
      have hi8 : ((i : Nat) : Int) < 8 := by omega
      rename_i K1 hK1
      refine hK1 _ _ ?_
      clear hK1
      refine wpList_cutat 2 (fun a' w' => Hid (wpList _ _ _ (List.drop 2 _) a' w')) (fun T hT => ?_) (fun _ _ h => h)
      dsimp only [List.take, List.cons_append, List.nil_append, List.append]
      go_wp2_with fail
      refine hT _ _ ?_
      clear hT T
      unfold Hid
      dsimp only [List.drop]
      refine wpList_store_mid rfl 85 (.tmp 22) (.tmp 20) rfl Y (i * 3) #[.int .i64 xn, .int .i64 xb, .int .u64 (xt : Int)] rfl rfl (there_of HBY9.out _ _ (by show i * 3 + 3 ≤ (setL xs m).toArray.size; rw [List.size_toArray, setL_len (by omega)]; omega)) size52 (by simp [Value.oneCell']) ?_
      obtain ⟨z, hz⟩ : ∃ z, z = w9.setCells Y (i * 3) [.int .i64 xn, .int .i64 xb, .int .u64 (xt : Int)] := ⟨_, rfl⟩
      rw [show (#[Value.int .i64 xn, .int .i64 xb, .int .u64 (xt : Int)] : Array Value).toList = [.int .i64 xn, .int .i64 xb, .int .u64 (xt : Int)] from rfl, ← hz]
      replace HS := HS z hz
      clear hz HBY9
      have zy : z.cell? ⟨Y, i * 3, none⟩ = some (.int .i64 xn) := by
        rw [cell_of_row _ _ _ _ _ _ HS.out.by_]
        have h1 := (setL_get (xs := xs ++ [⟨xn, xb, xt⟩]) (m := m) (i := i) (by omega) (by rw [List.length_append, hxl]; simp; omega)).1
        rw [g_at hxl] at h1
        simpa using h1
      obtain ⟨l2, Hl2⟩ : ∃ l2, Hid (l2 = xn.toNat + 1) := ⟨_, rfl⟩
      have hwx : IntKind.i64.wrap (xn + 1) = (l2 : Int) := by rw [IntKind.wrap_i64, Hl2.out]; have := HN.out; omega
      go_wp2_with fail
      go_roundw
      case rel => exact ⟨i + 1, xn.toNat + 1, s', xs ++ [⟨xn, xb, xt⟩], by rw [← Hl2.out], by go_num, HS.out⟩
      case measure => simp [intOf]; omega
    · have hlti : ¬ ((i : Nat) : Int) < (m : Int) := by omega
      have hime : i = m := by omega
      have HE2 : Hid (setR B dn dc s = (xs, si)) := by
        unfold Hid
        rw [HE.out, HJ.out.e, hime, Nat.sub_self]
        show (xs ++ [], si) = _
        rw [List.append_nil]
      have hm8 := HJ.out.m8
      have hxl := HJ.out.xl
      obtain ⟨z, hz⟩ : ∃ z, z = wr.setCells D 0 (setL xs m).toArray.toList := ⟨_, rfl⟩
      have b : Apart [D] wr z := by rw [hz]; exact apart_setCells _ _ _ (Apart.refl _ _) (.inl (by simp))
      have HRz := hid (HJ.out.r.kept b (by simp; exact HND_R.out.symm) (by simp; exact HND_P.out))
      have HAz := hid (HJ.out.a.trans' b (by intro y hy; simp at hy; rw [hy]; exact .inr HLD.out))
      have HBz : Hid (z.heap[D]? = some (.cells (setL xs m).toArray 103 (0, 0))) := by
        unfold Hid; rw [hz]
        have := heap_setCells_same (setL xs m).toArray.toList 0 wr _ HJ.out.bd
        rw [spl_all (by rw [Array.length_toList, List.size_toArray, List.size_toArray, setL_len (by omega), setL_len (by simp)])] at this
        exact this
      have HTH := hid (there_of HJ.out.bd 0 (setL xs m).toArray.size (by rw [List.size_toArray, List.size_toArray, setL_len (by omega), setL_len (by simp)]; omega))
      have HRG := hid (range_of HJ.out.by_)
      have HI3 := hid (isz (xs := xs) (m := m) (by omega))
      have HI4 : Hid ((Try.prog.info? 103).map (·.size) = some (setL xs m).length) := by unfold Hid; rw [size103, setL_len (by omega)]
      clear b
      go_upto_region 9 with fail
      refine wp_region_list ?_
      dsimp only [Array.toList]
      refine wpList_load_mid rfl 103 (.tmp 5) rfl Y 0 rfl (setL xs m) _ HRG.out Try.underlying103 rfl HI4.out ?_
      refine wpList_store_mid rfl 103 (.tmp 4) (.tmp 30) rfl D 0 (setL xs m).toArray rfl rfl HTH.out HI3.out (setL_one _ _) ?_
      rw [← hz]
      clear hz HTH HRG HI3 HI4
      go_wp2_with fail
      refine bodyPost_ret (results_cell_row rfl _ _ D 103 _ _ _ rfl HBz.out Try.underlying103 rfl (isz (by omega))) rfl ?_
      rw [HE2.out]
      exact ⟨by rw [hxl, hime], HRz.out, HAz.out⟩
end Go.Proofs.Ytllhmidpphlbhaa.ds
