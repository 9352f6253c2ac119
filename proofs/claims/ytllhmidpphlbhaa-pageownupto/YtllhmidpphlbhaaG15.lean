import Derived.Test.YtllhmidpphlbhaaG14
namespace Go.Proofs.Ytllhmidpphlbhaa.ds
open Go.ChangeShapes Go.WideShapes Go.ChangeAt Go.RowKit Go.Sort
set_option linter.unusedVariables false
set_option linter.unusedSimpArgs false

/-- the cells of the last write, or of none -/
def pwL (P o : Nat) (p : Pw) : List Value := wrL p.n p.c p.d (tsl P o (p.vb, p.vn)) p.xs p.xs.length
def lastW (P o : Nat) (ps : List Pw) : List Value := match ps.getLast? with
  | none => wrL 0 0 false (.slice none 0 0) [] 0
  | some p => pwL P o p
theorem lastW_snoc (P o : Nat) (ps : List Pw) (p : Pw) : lastW P o (ps ++ [p]) = pwL P o p := by unfold lastW; rw [List.getLast?_concat]
theorem writeR_xs (B : List Nat) (an ac : Nat) (s : Ps) : (writeR B an ac s).1.xs.length ≤ 8 := by unfold writeR; exact (setR_at B _ _ _).2.2
theorem pwL_len {P o : Nat} {p : Pw} (h : p.xs.length ≤ 8) : (pwL P o p).length = 29 := wrL_len h
theorem pwL_one (P o : Nat) (p : Pw) : (pwL P o p).toArray.all (·.oneCell') = true := wrL_one _ _ _ _ rfl _ _
theorem lastW_one (P o : Nat) (ps : List Pw) : (lastW P o ps).toArray.all (·.oneCell') = true := by
  unfold lastW
  split
  · exact wrL_one _ _ _ _ rfl _ _
  · exact pwL_one _ _ _
theorem writesR_succ (B : List Nat) (m an ac : Nat) (s : Ps) (hm : 0 < m) : writesR B m an ac s = ((writeR B an ac s).1 :: (writesR B (m - 1) (writeR B an ac s).1.n (writeR B an ac s).1.c (writeR B an ac s).2).1, (writesR B (m - 1) (writeR B an ac s).1.n (writeR B an ac s).1.c (writeR B an ac s).2).2) := by
  obtain ⟨k, rfl⟩ : ∃ k, m = k + 1 := ⟨m - 1, by omega⟩
  rfl
/-- the walk over writes -/
structure WI (w wt : World) (R P o c : Nat) (B : List Nat) (m : Nat) (s : Ps) (D Y : Nat) (i an ac : Nat) (si : Ps) (ps : List Pw) : Prop where
  im : i ≤ m
  r : PR wt R P o c B si
  a : Apart [R] w wt
  room : si.bad = false → si.at_ + 176 * (m - i) ≤ 2048
  e : writesR B m 0 0 s = (ps ++ (writesR B (m - i) an ac si).1, (writesR B (m - i) an ac si).2)
  bd : wt.heap[D]? = some (.cells (wrL 0 0 false (.slice none 0 0) [] 0).toArray 107 (0, 0))
  by_ : wt.heap[Y]? = some (.cells (lastW P o ps).toArray 107 (0, 0))
  dots : (lastW P o ps)[0]? = some (.int .i64 (an : Nat)) ∧ (lastW P o ps)[1]? = some (.int .i64 (ac : Nat))
  len : (lastW P o ps).length = 29
  lim : an ≤ 7 ∧ ac ≤ 1048576
theorem WI.step {w wt w1 : World} {R P o c : Nat} {B : List Nat} {m : Nat} {s : Ps} {D Y : Nat} {i an ac : Nat} {si : Ps} {ps : List Pw} (h : WI w wt R P o c B m s D Y i an ac si ps) (hi : i < m) (r : PR w1 R P o c B (writeR B an ac si).2) (a : Apart [R] wt w1) (hD : D ≠ R) (hY : Y ≠ R) (hDY : Y ≠ D) (hP : P ≠ Y) (hw : w.heap.size ≤ Y) (z : World) (hz : z = w1.setCells Y 0 (pwL P o (writeR B an ac si).1)) : WI w z R P o c B m s D Y (i + 1) (writeR B an ac si).1.n (writeR B an ac si).1.c (writeR B an ac si).2 (ps ++ [(writeR B an ac si).1]) := by
  have b := apart_setCells (g := Y) (X := [Y]) (pwL P o (writeR B an ac si).1) 0 w1 (Apart.refl _ _) (.inl (by simp))
  rw [← hz] at b
  have hat := writeR_at B an ac si
  have hx := pwL_len (P := P) (o := o) (writeR_xs B an ac si)
  refine ⟨by omega, r.kept b (by simp; exact fun e => hY e.symm) (by simp; exact hP), (h.a.trans a).trans' b (by intro y hy; simp at hy; rw [hy]; exact .inr hw), fun hb => ?_, ?_, keepB b (keepB a h.bd hD) (fun e => hDY e.symm), ?_, ?_, ?_, ⟨hat.2.2.1, hat.2.2.2.1⟩⟩
  · have : si.bad = false := by
      cases hx : si.bad with
      | false => rfl
      | true => rw [writeR_bad B an ac hx] at hb; rw [hx] at hb; cases hb
    have := h.room this
    have : m - i = m - (i + 1) + 1 := by omega
    rw [this] at *
    omega
  · rw [h.e, writesR_succ B (m - i) an ac si (by omega), show m - (i + 1) = m - i - 1 from by omega]
    simp
  · have h1 := heap_setCells_same (pwL P o (writeR B an ac si).1) 0 w1 _ (keepB a h.by_ hY)
    rw [spl_all (by rw [List.size_toArray, h.len, hx])] at h1
    rw [hz, lastW_snoc]; exact h1
  · rw [lastW_snoc]; exact ⟨rfl, rfl⟩
  · rw [lastW_snoc]; exact hx
set_option maxHeartbeats 8000000 in
set_option maxRecDepth 100000 in
theorem writes_ok {w : World} {R P o c : Nat} {B : List Nat} {s : Ps} (h : PR w R P o c B s) (m : Nat) (hm : m ≤ 1000) (hr : s.bad = false → s.at_ + 176 * m ≤ 2048) :
    Calls Try.prog 49 #[.pointer (some ⟨R, 0, none⟩), .int .i64 (m : Nat)] w fun e w' => PO w w' R P o c B e (.agg (lastW P o (writesR B m 0 0 s).1).toArray) (writesR B m 0 0 s).2 ∧ (lastW P o (writesR B m 0 0 s).1).length = 29 := by
  have HR := hid h
  have HA : Hid (Apart [R] w w) := Apart.refl _ _
  have HRM := hid hr
  clear h hr
  obtain ⟨D, HXD⟩ : ∃ X, Hid (X = w.heap.size) := ⟨_, rfl⟩
  obtain ⟨w1, hw1⟩ : ∃ W, W = w.alloc (.cells #[.int .i64 0, .int .i64 0, .bool false, .slice none 0 0, .int .i64 0, .int .i64 0, .int .u64 0, .int .i64 0, .int .i64 0, .int .u64 0, .int .i64 0, .int .i64 0, .int .u64 0, .int .i64 0, .int .i64 0, .int .u64 0, .int .i64 0, .int .i64 0, .int .u64 0, .int .i64 0, .int .i64 0, .int .u64 0, .int .i64 0, .int .i64 0, .int .u64 0, .int .i64 0, .int .i64 0, .int .u64 0, .int .i64 0] 107) := ⟨_, rfl⟩
  have HSw1 : Hid (Apart [] w w1) := by unfold Hid; rw [hw1]; exact (Apart.refl [] w).alloc _
  have HBD : Hid (w1.heap[D]? = some (.cells #[.int .i64 0, .int .i64 0, .bool false, .slice none 0 0, .int .i64 0, .int .i64 0, .int .u64 0, .int .i64 0, .int .i64 0, .int .u64 0, .int .i64 0, .int .i64 0, .int .u64 0, .int .i64 0, .int .i64 0, .int .u64 0, .int .i64 0, .int .i64 0, .int .u64 0, .int .i64 0, .int .i64 0, .int .u64 0, .int .i64 0, .int .i64 0, .int .u64 0, .int .i64 0, .int .i64 0, .int .u64 0, .int .i64 0] 107 (0, 0))) := by unfold Hid; rw [HXD.out, hw1]; exact heap_alloc_new w _
  have HND_R : Hid (D ≠ R) := by unfold Hid; have := lt_of_heap HR.out.blk; rw [HXD.out]; omega
  have HND_P : Hid (P ≠ D) := by unfold Hid; have := HR.out.lt; rw [HXD.out]; omega
  have HLD : Hid (w.heap.size ≤ D) := by unfold Hid; rw [HXD.out]; exact HA.out.size
  replace HR := hid (HR.out.kept0 HSw1.out)
  replace HA := hid (HA.out.trans (HSw1.out.mono (by simp)))
  replace HBD : Hid (w1.heap[D]? = some (.cells (wrL 0 0 false (.slice none 0 0) [] 0).toArray 107 (0, 0))) := HBD
  obtain ⟨Y, HXY⟩ : ∃ X, Hid (X = w1.heap.size) := ⟨_, rfl⟩
  obtain ⟨w2, hw2⟩ : ∃ W, W = w1.alloc (.cells #[.int .i64 0, .int .i64 0, .bool false, .slice none 0 0, .int .i64 0, .int .i64 0, .int .u64 0, .int .i64 0, .int .i64 0, .int .u64 0, .int .i64 0, .int .i64 0, .int .u64 0, .int .i64 0, .int .i64 0, .int .u64 0, .int .i64 0, .int .i64 0, .int .u64 0, .int .i64 0, .int .i64 0, .int .u64 0, .int .i64 0, .int .i64 0, .int .u64 0, .int .i64 0, .int .i64 0, .int .u64 0, .int .i64 0] 107) := ⟨_, rfl⟩
  have HSw2 : Hid (Apart [] w1 w2) := by unfold Hid; rw [hw2]; exact (Apart.refl [] w1).alloc _
  have HBY : Hid (w2.heap[Y]? = some (.cells #[.int .i64 0, .int .i64 0, .bool false, .slice none 0 0, .int .i64 0, .int .i64 0, .int .u64 0, .int .i64 0, .int .i64 0, .int .u64 0, .int .i64 0, .int .i64 0, .int .u64 0, .int .i64 0, .int .i64 0, .int .u64 0, .int .i64 0, .int .i64 0, .int .u64 0, .int .i64 0, .int .i64 0, .int .u64 0, .int .i64 0, .int .i64 0, .int .u64 0, .int .i64 0, .int .i64 0, .int .u64 0, .int .i64 0] 107 (0, 0))) := by unfold Hid; rw [HXY.out, hw2]; exact heap_alloc_new w1 _
  have HNY_R : Hid (Y ≠ R) := by unfold Hid; have := lt_of_heap HR.out.blk; rw [HXY.out]; omega
  have HNY_P : Hid (P ≠ Y) := by unfold Hid; have := HR.out.lt; rw [HXY.out]; omega
  have HNY_D : Hid (Y ≠ D) := by unfold Hid; have := lt_of_heap HBD.out; rw [HXY.out]; omega
  have HLY : Hid (w.heap.size ≤ Y) := by unfold Hid; rw [HXY.out]; exact HA.out.size
  replace HR := hid (HR.out.kept0 HSw2.out)
  replace HA := hid (HA.out.trans (HSw2.out.mono (by simp)))
  replace HBD := hid (keep0 HSw2.out HBD.out)
  have heY : D + 1 = Y := by rw [HXY.out, hw1, HXD.out]; exact (Array.size_push _).symm
  replace HBY : Hid (w2.heap[Y]? = some (.cells (wrL 0 0 false (.slice none 0 0) [] 0).toArray 107 (0, 0))) := HBY
  go_enter Try.func49, Try.ntmps49
  go_upto_region 2 with fail
  rw [← hw1, ← HXD.out, ← hw2, heY]
  clear hw1 HXD hw2 HXY heY
  have HI : Hid (WI w w2 R P o c B m s D Y 0 0 0 s []) := ⟨Nat.zero_le _, HR.out, HA.out, fun hb => by have := HRM.out hb; simpa using this, by simp, HBD.out, HBY.out, ⟨rfl, rfl⟩, rfl, by omega, by omega⟩
  clear HR HA HBD HBY
  go_wp2_with fail
  go_loopw [7] (fun v wt => ∃ (i an ac : Nat) (si : Ps) (ps : List Pw), v = .int .i64 (i : Nat) ∧ WI w wt R P o c B m s D Y i an ac si ps) (fun v _ => m - (intOf v).toNat)
  case atStart => exact ⟨0, 0, 0, s, [], rfl, HI.out⟩
  case round =>
    obtain ⟨i, an, ac, si, ps, rfl, hI⟩ := hrel
    have HJ := hid hI
    have him := hI.im
    clear hI HI
    by_cases hlt : i < m
    · have hlti : ((i : Nat) : Int) < (m : Int) := by omega
      have HC := hid (write_ok HJ.out.r an ac (fun hb => by have := HJ.out.room hb; have e : m - i = m - (i + 1) + 1 := by omega
                                                            rw [e] at this; omega) HJ.out.lim.1 HJ.out.lim.2)
      have zx0 : wr.cell? ⟨Y, 0, none⟩ = some (.int .i64 (an : Nat)) := by rw [cell_of_row _ _ _ _ _ _ HJ.out.by_]; simpa using HJ.out.dots.1
      have zx1 : wr.cell? ⟨Y, 1, none⟩ = some (.int .i64 (ac : Nat)) := by rw [cell_of_row _ _ _ _ _ _ HJ.out.by_]; simpa using HJ.out.dots.2
      go_wp2_with fail
      clear zx0 zx1
      refine HC.out.mono ?_
      rintro _ w9 ⟨rfl, r9, a9⟩
      have HS := fun z hz => hid (HJ.out.step hlt r9 a9 HND_R.out HNY_R.out HNY_D.out HNY_P.out HLY.out z hz)
      have HBY9 := hid (keepB a9 HJ.out.by_ HNY_R.out)
      have hx := pwL_len (P := P) (o := o) (writeR_xs B an ac si)
      clear r9 a9 HC
      dsimp only
      unfold pwV
      generalize writeR B an ac si = x at *
      obtain ⟨p, s'⟩ := x
      dsimp only at HS hx ⊢
      rename_i K1 hK1
      refine hK1 _ _ ?_
      clear hK1
      refine wpList_cutat 0 (fun a' w' => Hid (wpList _ _ _ (List.drop 0 _) a' w')) (fun T hT => ?_) (fun _ _ h => h)
      dsimp only [List.take, List.cons_append, List.nil_append, List.append]
      go_wp2_with fail
      refine hT _ _ ?_
      clear hT T
      unfold Hid
      dsimp only [List.drop]
      refine wpList_store_mid rfl 107 (.tmp 5) (.tmp 12) rfl Y 0 (pwL P o p).toArray rfl rfl (there_of HBY9.out _ _ (by rw [List.size_toArray, List.size_toArray, HJ.out.len, hx]; omega)) (by rw [size107, List.size_toArray, hx]) (pwL_one _ _ _) ?_
      obtain ⟨z, hz⟩ : ∃ z, z = w9.setCells Y 0 (pwL P o p) := ⟨_, rfl⟩
      rw [show (pwL P o p).toArray.toList = pwL P o p from rfl, ← hz]
      replace HS := HS z hz
      clear hz HBY9 hx
      go_wp2_with fail
      go_roundw
      case rel => exact ⟨i + 1, p.n, p.c, s', ps ++ [p], by go_num, HS.out⟩
      case measure => simp [intOf]; omega
    · have hlti : ¬ ((i : Nat) : Int) < (m : Int) := by omega
      have hime : i = m := by omega
      have HE2 : Hid (writesR B m 0 0 s = (ps, si)) := by
        unfold Hid
        rw [HJ.out.e, hime, Nat.sub_self]
        show (ps ++ [], si) = _
        rw [List.append_nil]
      have hx := HJ.out.len
      obtain ⟨z, hz⟩ : ∃ z, z = wr.setCells D 0 (lastW P o ps).toArray.toList := ⟨_, rfl⟩
      have b : Apart [D] wr z := by rw [hz]; exact apart_setCells _ _ _ (Apart.refl _ _) (.inl (by simp))
      have HRz := hid (HJ.out.r.kept b (by simp; exact HND_R.out.symm) (by simp; exact HND_P.out))
      have HAz := hid (HJ.out.a.trans' b (by intro y hy; simp at hy; rw [hy]; exact .inr HLD.out))
      have HBz : Hid (z.heap[D]? = some (.cells (lastW P o ps).toArray 107 (0, 0))) := by
        unfold Hid; rw [hz]
        have := heap_setCells_same (lastW P o ps).toArray.toList 0 wr _ HJ.out.bd
        rw [spl_all (by rw [Array.length_toList, List.size_toArray, List.size_toArray, hx, wrL_len (by simp)])] at this
        exact this
      have HTH := hid (there_of HJ.out.bd 0 (lastW P o ps).toArray.size (by rw [List.size_toArray, List.size_toArray, hx, wrL_len (by simp)]; omega))
      have HRG := hid (range_of HJ.out.by_)
      have HI3 : Hid ((Try.prog.info? 107).map (·.size) = some (lastW P o ps).toArray.size) := by unfold Hid; rw [size107, List.size_toArray, hx]
      have HI4 : Hid ((Try.prog.info? 107).map (·.size) = some (lastW P o ps).length) := by unfold Hid; rw [size107, hx]
      have HX := hid hx
      clear b hx
      go_upto_region 6 with fail
      refine wp_region_list ?_
      dsimp only [Array.toList]
      refine wpList_load_mid rfl 107 (.tmp 5) rfl Y 0 rfl (lastW P o ps) _ HRG.out Try.underlying107 rfl HI4.out ?_
      refine wpList_store_mid rfl 107 (.tmp 4) (.tmp 14) rfl D 0 (lastW P o ps).toArray rfl rfl HTH.out HI3.out (lastW_one _ _ _) ?_
      rw [← hz]
      clear hz HTH HRG HI4
      go_wp2_with fail
      refine bodyPost_ret (results_cell_row rfl _ _ D 107 _ _ _ rfl HBz.out Try.underlying107 rfl HI3.out) rfl ?_
      rw [HE2.out]
      exact ⟨⟨rfl, HRz.out, HAz.out⟩, HX.out⟩
end Go.Proofs.Ytllhmidpphlbhaa.ds
namespace Go.Proofs.Ytllhmidpphlbhaa.ds
open Go.ChangeShapes Go.WideShapes Go.ChangeAt Go.RowKit Go.Sort
set_option linter.unusedVariables false
set_option linter.unusedSimpArgs false

theorem results_tmp_row {P : Program} {fn : Func} {p u : Tmp} {ty : TypeId} (h : fn.results = #[.tmp u, .cell p ty]) (tmps : Array Value) (w : World) (g : Nat) (t : TypeId) (cs : Array Value) (fr : Nat × Nat) (d : TypeDesc)
    (hp : tmps.getD p undef = .pointer (some ⟨g, 0, none⟩)) (hg : w.heap[g]? = some (.cells cs t fr))
    (hu : P.underlying ty = some d) (hd : (match d with | .struct _ | .array _ _ => true | _ => false) = true) (hi : (P.info? ty).map (·.size) = some cs.size) :
    (results fn tmps).run P w = .ok (.tuple #[tmps.getD u undef, .agg cs]) w := by
  have hp' : tmps[p]?.getD undef = .pointer (some ⟨g, 0, none⟩) := by simpa using hp
  simp [results, h, hp', asAddr, run_loadVar_row w g t ty cs fr d hg hu hd hi, Sem.run_bind, Result.andThen]
theorem results_row_tmp {P : Program} {fn : Func} {p u : Tmp} {ty : TypeId} (h : fn.results = #[.cell p ty, .tmp u]) (tmps : Array Value) (w : World) (g : Nat) (t : TypeId) (cs : Array Value) (fr : Nat × Nat) (d : TypeDesc)
    (hp : tmps.getD p undef = .pointer (some ⟨g, 0, none⟩)) (hg : w.heap[g]? = some (.cells cs t fr))
    (hu : P.underlying ty = some d) (hd : (match d with | .struct _ | .array _ _ => true | _ => false) = true) (hi : (P.info? ty).map (·.size) = some cs.size) :
    (results fn tmps).run P w = .ok (.tuple #[.agg cs, tmps.getD u undef]) w := by
  have hp' : tmps[p]?.getD undef = .pointer (some ⟨g, 0, none⟩) := by simpa using hp
  simp [results, h, hp', asAddr, run_loadVar_row w g t ty cs fr d hg hu hd hi, Sem.run_bind, Result.andThen]
theorem results_tmp_row_tmp {P : Program} {fn : Func} {p u v : Tmp} {ty : TypeId} (h : fn.results = #[.tmp u, .cell p ty, .tmp v]) (tmps : Array Value) (w : World) (g : Nat) (t : TypeId) (cs : Array Value) (fr : Nat × Nat) (d : TypeDesc)
    (hp : tmps.getD p undef = .pointer (some ⟨g, 0, none⟩)) (hg : w.heap[g]? = some (.cells cs t fr))
    (hu : P.underlying ty = some d) (hd : (match d with | .struct _ | .array _ _ => true | _ => false) = true) (hi : (P.info? ty).map (·.size) = some cs.size) :
    (results fn tmps).run P w = .ok (.tuple #[tmps.getD u undef, .agg cs, tmps.getD v undef]) w := by
  have hp' : tmps[p]?.getD undef = .pointer (some ⟨g, 0, none⟩) := by simpa using hp
  simp [results, h, hp', asAddr, run_loadVar_row w g t ty cs fr d hg hu hd hi, Sem.run_bind, Result.andThen]
/-- the last clock: its range, its set's cells -/
def lastC (cs : List (Nat × List S)) : Nat × List S := cs.getLast?.getD (0, [])
theorem lastC_snoc (cs : List (Nat × List S)) (x : Nat × List S) : lastC (cs ++ [x]) = x := by unfold lastC; rw [List.getLast?_concat]; rfl
theorem clocksR_succ (B : List Nat) (m lo : Nat) (s : Ps) (hm : 0 < m) : clocksR B m lo s = ((clockR B lo s).1 :: (clocksR B (m - 1) ((clockR B lo s).1.1 + 1) (clockR B lo s).2).1, (clocksR B (m - 1) ((clockR B lo s).1.1 + 1) (clockR B lo s).2).2) := by
  obtain ⟨k, rfl⟩ : ∃ k, m = k + 1 := ⟨m - 1, by omega⟩
  rfl
theorem clockR_xs (B : List Nat) (lo : Nat) (s : Ps) : (clockR B lo s).1.2.length ≤ 8 := (setR_at B _ _ _).2.2
def csL (cs : List (Nat × List S)) : List Value := setL (lastC cs).2 (lastC cs).2.length
/-- the walk over clocks -/
structure CI (w wt : World) (R P o c : Nat) (B : List Nat) (m : Nat) (s : Ps) (D Y : Nat) (i lo : Nat) (si : Ps) (cs : List (Nat × List S)) : Prop where
  im : i ≤ m
  r : PR wt R P o c B si
  a : Apart [R] w wt
  room : si.bad = false → si.at_ + 106 * (m - i) ≤ 2048
  e : clocksR B m 0 s = (cs ++ (clocksR B (m - i) lo si).1, (clocksR B (m - i) lo si).2)
  bd : wt.heap[D]? = some (.cells (setL [] 0).toArray 103 (0, 0))
  by_ : wt.heap[Y]? = some (.cells (csL cs).toArray 103 (0, 0))
  x8 : (lastC cs).2.length ≤ 8
  lim : lo ≤ 16
theorem CI.step {w wt w1 : World} {R P o c : Nat} {B : List Nat} {m : Nat} {s : Ps} {D Y : Nat} {i lo : Nat} {si : Ps} {cs : List (Nat × List S)} (h : CI w wt R P o c B m s D Y i lo si cs) (hi : i < m) (r : PR w1 R P o c B (clockR B lo si).2) (a : Apart [R] wt w1) (hD : D ≠ R) (hY : Y ≠ R) (hDY : Y ≠ D) (hP : P ≠ Y) (hw : w.heap.size ≤ Y) (z : World) (hz : z = w1.setCells Y 0 (setL (clockR B lo si).1.2 (clockR B lo si).1.2.length)) : CI w z R P o c B m s D Y (i + 1) ((clockR B lo si).1.1 + 1) (clockR B lo si).2 (cs ++ [(clockR B lo si).1]) := by
  have b := apart_setCells (g := Y) (X := [Y]) (setL (clockR B lo si).1.2 (clockR B lo si).1.2.length) 0 w1 (Apart.refl _ _) (.inl (by simp))
  rw [← hz] at b
  have hat := clockR_at B lo si
  have hx := clockR_xs B lo si
  refine ⟨by omega, r.kept b (by simp; exact fun e => hY e.symm) (by simp; exact hP), (h.a.trans a).trans' b (by intro y hy; simp at hy; rw [hy]; exact .inr hw), fun hb => ?_, ?_, keepB b (keepB a h.bd hD) (fun e => hDY e.symm), ?_, by rw [lastC_snoc]; exact hx, by omega⟩
  · have : si.bad = false := by
      cases hx : si.bad with
      | false => rfl
      | true => rw [clockR_bad B lo hx] at hb; rw [hx] at hb; cases hb
    have := h.room this
    have : m - i = m - (i + 1) + 1 := by omega
    rw [this] at *
    omega
  · rw [h.e, clocksR_succ B (m - i) lo si (by omega), show m - (i + 1) = m - i - 1 from by omega]
    simp
  · have h1 := heap_setCells_same (setL (clockR B lo si).1.2 (clockR B lo si).1.2.length) 0 w1 _ (keepB a h.by_ hY)
    rw [spl_all (by unfold csL; rw [List.size_toArray, setL_len h.x8, setL_len hx])] at h1
    rw [hz]
    unfold csL
    rw [lastC_snoc]; exact h1
set_option maxHeartbeats 8000000 in
set_option maxRecDepth 100000 in
theorem clocks_ok {w : World} {R P o c : Nat} {B : List Nat} {s : Ps} (h : PR w R P o c B s) (m : Nat) (hm : m ≤ 1000) (hr : s.bad = false → s.at_ + 106 * m ≤ 2048) :
    Calls Try.prog 48 #[.pointer (some ⟨R, 0, none⟩), .int .i64 (m : Nat)] w fun e w' => PO w w' R P o c B e (.tuple #[.int .i64 ((lastC (clocksR B m 0 s).1).1 : Nat), .agg (csL (clocksR B m 0 s).1).toArray]) (clocksR B m 0 s).2 ∧ (lastC (clocksR B m 0 s).1).2.length ≤ 8 := by
  have HR := hid h
  have HA : Hid (Apart [R] w w) := Apart.refl _ _
  have HRM := hid hr
  clear h hr
  obtain ⟨D, HXD⟩ : ∃ X, Hid (X = w.heap.size) := ⟨_, rfl⟩
  obtain ⟨w1, hw1⟩ : ∃ W, W = w.alloc (.cells #[.int .i64 0, .int .i64 0, .int .u64 0, .int .i64 0, .int .i64 0, .int .u64 0, .int .i64 0, .int .i64 0, .int .u64 0, .int .i64 0, .int .i64 0, .int .u64 0, .int .i64 0, .int .i64 0, .int .u64 0, .int .i64 0, .int .i64 0, .int .u64 0, .int .i64 0, .int .i64 0, .int .u64 0, .int .i64 0, .int .i64 0, .int .u64 0, .int .i64 0] 103) := ⟨_, rfl⟩
  have HSw1 : Hid (Apart [] w w1) := by unfold Hid; rw [hw1]; exact (Apart.refl [] w).alloc _
  have HBD : Hid (w1.heap[D]? = some (.cells #[.int .i64 0, .int .i64 0, .int .u64 0, .int .i64 0, .int .i64 0, .int .u64 0, .int .i64 0, .int .i64 0, .int .u64 0, .int .i64 0, .int .i64 0, .int .u64 0, .int .i64 0, .int .i64 0, .int .u64 0, .int .i64 0, .int .i64 0, .int .u64 0, .int .i64 0, .int .i64 0, .int .u64 0, .int .i64 0, .int .i64 0, .int .u64 0, .int .i64 0] 103 (0, 0))) := by unfold Hid; rw [HXD.out, hw1]; exact heap_alloc_new w _
  have HND_R : Hid (D ≠ R) := by unfold Hid; have := lt_of_heap HR.out.blk; rw [HXD.out]; omega
  have HND_P : Hid (P ≠ D) := by unfold Hid; have := HR.out.lt; rw [HXD.out]; omega
  have HLD : Hid (w.heap.size ≤ D) := by unfold Hid; rw [HXD.out]; exact HA.out.size
  replace HR := hid (HR.out.kept0 HSw1.out)
  replace HA := hid (HA.out.trans (HSw1.out.mono (by simp)))
  replace HBD : Hid (w1.heap[D]? = some (.cells (setL [] 0).toArray 103 (0, 0))) := HBD
  obtain ⟨Y, HXY⟩ : ∃ X, Hid (X = w1.heap.size) := ⟨_, rfl⟩
  obtain ⟨w2, hw2⟩ : ∃ W, W = w1.alloc (.cells #[.int .i64 0, .int .i64 0, .int .u64 0, .int .i64 0, .int .i64 0, .int .u64 0, .int .i64 0, .int .i64 0, .int .u64 0, .int .i64 0, .int .i64 0, .int .u64 0, .int .i64 0, .int .i64 0, .int .u64 0, .int .i64 0, .int .i64 0, .int .u64 0, .int .i64 0, .int .i64 0, .int .u64 0, .int .i64 0, .int .i64 0, .int .u64 0, .int .i64 0] 103) := ⟨_, rfl⟩
  have HSw2 : Hid (Apart [] w1 w2) := by unfold Hid; rw [hw2]; exact (Apart.refl [] w1).alloc _
  have HBY : Hid (w2.heap[Y]? = some (.cells #[.int .i64 0, .int .i64 0, .int .u64 0, .int .i64 0, .int .i64 0, .int .u64 0, .int .i64 0, .int .i64 0, .int .u64 0, .int .i64 0, .int .i64 0, .int .u64 0, .int .i64 0, .int .i64 0, .int .u64 0, .int .i64 0, .int .i64 0, .int .u64 0, .int .i64 0, .int .i64 0, .int .u64 0, .int .i64 0, .int .i64 0, .int .u64 0, .int .i64 0] 103 (0, 0))) := by unfold Hid; rw [HXY.out, hw2]; exact heap_alloc_new w1 _
  have HNY_R : Hid (Y ≠ R) := by unfold Hid; have := lt_of_heap HR.out.blk; rw [HXY.out]; omega
  have HNY_P : Hid (P ≠ Y) := by unfold Hid; have := HR.out.lt; rw [HXY.out]; omega
  have HNY_D : Hid (Y ≠ D) := by unfold Hid; have := lt_of_heap HBD.out; rw [HXY.out]; omega
  have HLY : Hid (w.heap.size ≤ Y) := by unfold Hid; rw [HXY.out]; exact HA.out.size
  replace HR := hid (HR.out.kept0 HSw2.out)
  replace HA := hid (HA.out.trans (HSw2.out.mono (by simp)))
  replace HBD := hid (keep0 HSw2.out HBD.out)
  have heY : D + 1 = Y := by rw [HXY.out, hw1, HXD.out]; exact (Array.size_push _).symm
  replace HBY : Hid (w2.heap[Y]? = some (.cells (setL [] 0).toArray 103 (0, 0))) := HBY
  go_enter Try.func48, Try.ntmps48
  go_upto_region 3 with fail
  rw [← hw1, ← HXD.out, ← hw2, heY]
  clear hw1 HXD hw2 HXY heY
  have HI : Hid (CI w w2 R P o c B m s D Y 0 0 s []) := ⟨Nat.zero_le _, HR.out, HA.out, fun hb => by have := HRM.out hb; simpa using this, by simp, HBD.out, HBY.out, by decide, by omega⟩
  clear HR HA HBD HBY
  go_wp2_with fail
  go_loopw [6, 8, 10] (fun l u v wt => ∃ (i lo : Nat) (si : Ps) (cs : List (Nat × List S)), l = .int .i64 ((lastC cs).1 : Nat) ∧ u = .int .i64 (lo : Nat) ∧ v = .int .i64 (i : Nat) ∧ CI w wt R P o c B m s D Y i lo si cs) (fun _ _ v _ => m - (intOf v).toNat)
  case atStart => exact ⟨0, 0, s, [], rfl, rfl, rfl, HI.out⟩
  case round =>
    obtain ⟨i, lo, si, cs, rfl, rfl, rfl, hI⟩ := hrel
    have HJ := hid hI
    have him := hI.im
    clear hI HI
    by_cases hlt : i < m
    · have hlti : ((i : Nat) : Int) < (m : Int) := by omega
      have hroom : si.bad = false → si.at_ + 106 ≤ 2048 := fun hb => by
        have := HJ.out.room hb
        rw [show m - i = m - (i + 1) + 1 from by omega] at this
        omega
      have HC := hid (number_ok HJ.out.r 1 lo 15 ⟨by omega, by omega⟩ (fun hb => by have := hroom hb; omega) (by have := HJ.out.lim; omega) (by omega))
      have HC2 := fun W (hW : PR W R P o c B (num B 1 lo 15 si).2) => hid (set_ok hW 0 0 (fun hb => by have := hroom (num_ok1 hb); have := num_at B 1 lo 15 si; omega) (by omega) (by omega))
      clear hroom
      have HN := hid (num_le B 1 lo 15 si)
      have HCK : Hid (clockR B lo si = (((num B 1 lo 15 si).1, (setR B 0 0 (num B 1 lo 15 si).2).1), (setR B 0 0 (num B 1 lo 15 si).2).2)) := rfl
      have HST := fun w1 r a z hz => hid (HJ.out.step (w1 := w1) hlt r a HND_R.out HNY_R.out HNY_D.out HNY_P.out HLY.out z hz)
      have hx := clockR_xs B lo si
      rw [HCK.out] at HST hx
      go_wp2_with fail
      refine HC.out.mono ?_
      rintro _ w8 ⟨rfl, r8, a8⟩
      have HR8 := hid r8
      have HA8 := hid a8
      clear r8 a8 HC
      dsimp only
      go_wp2_with fail
      refine (HC2 _ HR8.out).out.mono ?_
      rintro _ w9 ⟨rfl, r9, a9⟩
      have HA9 := hid (HA8.out.trans a9)
      have HS := fun z hz => HST w9 r9 HA9.out z hz
      have HBY9 := hid (keepB HA9.out HJ.out.by_ HNY_R.out)
      clear r9 a9 HC2 HST
      dsimp only
      generalize num B 1 lo 15 si = x at *
      obtain ⟨n, s8⟩ := x
      dsimp only at HS hx HN ⊢
      generalize setR B 0 0 s8 = x at *
      obtain ⟨xs, s'⟩ := x
      dsimp only at HS hx ⊢
      rename_i K1 hK1
      refine hK1 _ _ ?_
      clear hK1
      refine wpList_cutat 0 (fun a' w' => Hid (wpList _ _ _ (List.drop 0 _) a' w')) (fun T hT => ?_) (fun _ _ h => h)
      dsimp only [List.take, List.cons_append, List.nil_append, List.append]
      go_wp2_with fail
      refine hT _ _ ?_
      clear hT T
      unfold Hid
      dsimp only [List.drop]
      refine wpList_store_mid rfl 103 (.tmp 7) (.tmp 17) rfl Y 0 (setL xs xs.length).toArray rfl rfl (there_of HBY9.out _ _ (by unfold csL; rw [List.size_toArray, List.size_toArray, setL_len HJ.out.x8, setL_len hx]; omega)) (isz hx) (setL_one _ _) ?_
      obtain ⟨z, hz⟩ : ∃ z, z = w9.setCells Y 0 (setL xs xs.length) := ⟨_, rfl⟩
      rw [show (setL xs xs.length).toArray.toList = setL xs xs.length from rfl, ← hz]
      replace HS := HS z hz
      clear hz HBY9 hx
      obtain ⟨l2, Hl2⟩ : ∃ l2, Hid (l2 = n + 1) := ⟨_, rfl⟩
      have hwx : IntKind.i64.wrap ((n : Int) + 1) = (l2 : Int) := by rw [IntKind.wrap_i64, Hl2.out]; have := HN.out; omega
      go_wp2_with fail
      go_roundw
      case rel => exact ⟨i + 1, n + 1, s', cs ++ [(n, xs)], by rw [lastC_snoc], by rw [← Hl2.out], by go_num, HS.out⟩
      case measure => simp [intOf]; omega
    · have hlti : ¬ ((i : Nat) : Int) < (m : Int) := by omega
      have hime : i = m := by omega
      have HE2 : Hid (clocksR B m 0 s = (cs, si)) := by
        unfold Hid
        rw [HJ.out.e, hime, Nat.sub_self]
        show (cs ++ [], si) = _
        rw [List.append_nil]
      have hx : (csL cs).length = 25 := setL_len HJ.out.x8
      have HX8 := hid HJ.out.x8
      obtain ⟨l, Hl⟩ : ∃ l, Hid (l = (lastC cs).1) := ⟨_, rfl⟩
      rw [← Hl.out]
      obtain ⟨z, hz⟩ : ∃ z, z = wr.setCells D 0 (csL cs).toArray.toList := ⟨_, rfl⟩
      have b : Apart [D] wr z := by rw [hz]; exact apart_setCells _ _ _ (Apart.refl _ _) (.inl (by simp))
      have HRz := hid (HJ.out.r.kept b (by simp; exact HND_R.out.symm) (by simp; exact HND_P.out))
      have HAz := hid (HJ.out.a.trans' b (by intro y hy; simp at hy; rw [hy]; exact .inr HLD.out))
      have HBz : Hid (z.heap[D]? = some (.cells (csL cs).toArray 103 (0, 0))) := by
        unfold Hid; rw [hz]
        have := heap_setCells_same (csL cs).toArray.toList 0 wr _ HJ.out.bd
        rw [spl_all (by rw [Array.length_toList, List.size_toArray, List.size_toArray, hx, setL_len (by simp)])] at this
        exact this
      have HI4 : Hid ((Try.prog.info? 103).map (·.size) = some (csL cs).length) := by unfold Hid; rw [size103, hx]
      have HI3 : Hid ((Try.prog.info? 103).map (·.size) = some (csL cs).toArray.size) := by unfold Hid; rw [size103, List.size_toArray, hx]
      have HX := hid hx
      clear b hx hz HBz HRz HAz z
      go_upto_region 10 with fail
      refine wp_region_held_drew (S := fun W => W.rangeAt Y 0 (csL cs)) (by kernel_rfl) (range_of (keep0 (Apart.refl [] wr).drew HJ.out.by_)) (fun hHeld => ?_)
      have Twd : Hid (Apart [] wr wr.drew) := (Apart.refl [] wr).drew
      generalize wr.drew = wd at *
      refine tk 0 21 (.int .i64 (l : Nat)) rfl ?_ ?_
      · intro W hSW; go_simp
      simp only [Act.put, List.setIfInBounds_toArray, List.set_cons_zero, List.set_cons_succ]
      refine wpAnyH_take (i := 1) (oi := ⟨some 22, _, _, _, _, _⟩) (v := .agg (csL cs).toArray) rfl (by kernel_rfl) (by kernel_rfl) (by kernel_rfl) (fun _ _ _ h => h) (yieldsIf_load_mid (by rfl) 103 (.tmp 7) rfl Y 0 rfl (csL cs) _ (fun _ h => h) Try.underlying103 rfl HI4.out) (by assumption) ?_
      simp only [Act.put, List.setIfInBounds_toArray, List.set_cons_zero, List.set_cons_succ]
      refine tk 2 4 (.int .i64 (l : Nat)) rfl ?_ ?_
      · intro W hSW; go_simp
      simp only [Act.put, List.setIfInBounds_toArray, List.set_cons_zero, List.set_cons_succ]
      refine wpAnyH_ready (rs := [3]) (by kernel_rfl) (by simp) ?_
      refine AllReadyH.cons rfl (fun KK hKK => ?_) AllReadyH.nil
      have HBDd := hid (keep0 Twd.out HJ.out.bd)
      have HBYd := hid (keep0 Twd.out HJ.out.by_)
      refine wp_store_mid 103 (.tmp 5) (.tmp 22) rfl D 0 (csL cs).toArray rfl rfl (there_of HBDd.out _ _ (by rw [List.size_toArray, List.size_toArray, HX.out, setL_len (by simp)]; omega)) HI3.out (setL_one _ _) ?_
      rw [show (csL cs).toArray.toList = csL cs from rfl]
      obtain ⟨z, hz⟩ : ∃ z, z = wd.setCells D 0 (csL cs) := ⟨_, rfl⟩
      rw [← hz]
      have b : Apart [D] wd z := by rw [hz]; exact apart_setCells _ _ _ (Apart.refl _ _) (.inl (by simp))
      have HRz := hid ((HJ.out.r.kept0 Twd.out).kept b (by simp; exact HND_R.out.symm) (by simp; exact HND_P.out))
      have HAz := hid ((HJ.out.a.trans (Twd.out.mono (by simp))).trans' b (by intro y hy; simp at hy; rw [hy]; exact .inr HLD.out))
      have HBz : Hid (z.heap[D]? = some (.cells (csL cs).toArray 103 (0, 0))) := by
        unfold Hid; rw [hz]
        have := heap_setCells_same (csL cs) 0 wd _ HBDd.out
        rw [spl_all (by rw [List.size_toArray, HX.out, setL_len (by simp)])] at this
        exact this
      refine hKK.out _ _ (range_of (keepB b HBYd.out HNY_D.out)) (fun hHeld => ?_)
      clear hKK KK b hz
      refine wpAnyH_done (by kernel_rfl) ?_ _
      clear hHeld
      go_wp2_with fail
      refine bodyPost_ret (results_tmp_row rfl _ _ D 103 _ _ _ rfl HBz.out Try.underlying103 rfl HI3.out) rfl ?_
      rw [HE2.out]
      exact ⟨⟨by rw [← Hl.out]; rfl, HRz.out, HAz.out⟩, HX8.out⟩
end Go.Proofs.Ytllhmidpphlbhaa.ds
