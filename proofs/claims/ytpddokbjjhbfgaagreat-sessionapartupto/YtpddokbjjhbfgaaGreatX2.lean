import Derived.Test.YtpddokbjjhbfgaaGreatU42
import Derived.Test.YtpddokbjjhbfgaaGreatU41
import Derived.Test.YtpddokbjjhbfgaaGreatU24
namespace Go.Proofs.YtpddokbjjhbfgaaGreat.ds
open Go.ChangeShapes Go.WideShapes Go.ChangeAt Go.RowKit Go.Sort
set_option linter.unusedVariables false
set_option linter.unusedSimpArgs false
/-- one step of the document's way to put a dot among dots -/
noncomputable def wstep (e : E) (xs : List S) (a : List Dt × Bool) (d : Dt) : List Dt × Bool := if hz xs d || decide (d = dotE e) then a else if !a.2 && belowD (dotE e) d then (a.1 ++ [dotE e] ++ [d], true) else (a.1 ++ [d], a.2)
noncomputable def wend (e : E) (a : List Dt × Bool) : List Dt := if a.2 then a.1 else a.1 ++ [dotE e]
theorem wend_fold (e : E) (xs : List S) : ∀ (l : List Dt) (pre : List Dt) (b : Bool), wend e (l.foldl (wstep e xs) (pre, b)) = if b then pre ++ l.filter (fun d => !hz xs d && !decide (d = dotE e)) else pre ++ rg.dt.insP (dotE e) (l.filter (fun d => !hz xs d && !decide (d = dotE e)))
  | [], pre, b => by cases b <;> simp [wend, rg.dt.insP]
  | d :: l, pre, b => by
    rw [List.foldl_cons, show wstep e xs (pre, b) d = (if hz xs d || decide (d = dotE e) then (pre, b) else if !b && belowD (dotE e) d then (pre ++ [dotE e] ++ [d], true) else (pre ++ [d], b)) from rfl]
    by_cases hk : (hz xs d || decide (d = dotE e)) = true
    · rw [if_pos hk, wend_fold e xs l pre b]
      have : (!hz xs d && !decide (d = dotE e)) = false := by
        rw [← Bool.not_or, hk]; rfl
      rw [List.filter_cons_of_neg (by simpa using this)]
    · rw [if_neg hk]
      have hk2 : (!hz xs d && !decide (d = dotE e)) = true := by
        rw [← Bool.not_or]; simpa using hk
      rw [List.filter_cons_of_pos (by simpa using hk2)]
      cases b with
      | true =>
        simp only [Bool.not_true, Bool.false_and, Bool.false_eq_true, if_false, if_true]
        rw [wend_fold e xs l (pre ++ [d]) true]
        simp
      | false =>
        simp only [Bool.not_false, Bool.true_and]
        by_cases hb : belowD (dotE e) d = true
        · rw [if_pos hb, wend_fold e xs l _ true]
          have hl : rg.dt.ltP (dotE e) d = true := hb
          simp [rg.dt.insP, hl]
        · rw [if_neg hb, wend_fold e xs l _ false]
          have hl : rg.dt.ltP (dotE e) d = false := by
            have hb2 : belowD (dotE e) d = false := by simpa using hb
            exact hb2
          simp [rg.dt.insP, hl]
theorem wend_wrote (e : E) (xs : List S) (l : List Dt) : wend e (l.foldl (wstep e xs) ([], false)) = wroteH l e xs := by
  rw [wend_fold]; simp [wroteH]
theorem wstep_len (e : E) (xs : List S) : ∀ (l : List Dt) (a : List Dt × Bool), (l.foldl (wstep e xs) a).1.length ≤ a.1.length + l.length * 2
  | [], a => by simp
  | d :: l, a => by
    rw [List.foldl_cons]
    have h1 := wstep_len e xs l (wstep e xs a d)
    have h2 : (wstep e xs a d).1.length ≤ a.1.length + 2 := by
      unfold wstep
      split
      · omega
      · split <;> simp
    simp only [List.length_cons]
    omega
theorem eql34 (W : World) (a b c d : Int) : Sem.run Tryz.prog (binOp BinOp.eql 34 (.agg #[.int .i64 a, .int .i64 b]) (.agg #[.int .i64 c, .int .i64 d])) W = .ok (.bool (decide (a = c) && decide (b = d))) W := by
  have hS : Tryz.prog.underlying 34 = some (.struct (Tryz.prog.fieldsOf 34)) := by kernel_rfl
  have hp : Tryz.prog.stoodInHeld 34 = false := by kernel_rfl
  rw [run_eql_struct, show (10000 : Nat) = 9998 + 1 + 1 from rfl, run_equalIn_agg _ _ _ _ _ hS hp]
  simp only [Program.fieldsOf, Tryz.underlying34]
  by_cases h1 : a = c <;> by_cases h2 : b = d <;> simp [go_sem, Tryz.underlying3, h1, h2]
theorem guard34 : Tryz.prog.eqGuardType Tryz.prog.depth 34 = false := by kernel_rfl
theorem take_dt {l : List Dt} {i : Nat} (hi : i < l.length) : l.take (i + 1) = l.take i ++ [l.getD i (0, 0)] := by
  rw [List.take_add_one, List.getD_eq_getElem?_getD, List.getElem?_eq_getElem hi]; rfl
/-- what the document's Wrote leaves -/
def RWroteP (w : World) (T : Ts) (c : Cf) (nn rr pp : Nat) (lk : List Int) (f : ByteArray → Sg) (N : Nat) (v : Bool) (e : E) (xs : List S) (r : Ending) (w' : World) : Prop :=
  (v = false → r = .returned (.int .i64 52) ∧ Apart [] w w') ∧ (v = true → r = .returned (.int .i64 0) ∧ ∃ T', Rs w' T' c nn rr pp lk (updF f e.k (wroteH (f e.k).1 e xs, (f e.k).2)) (N + 1) ∧ Tp w w' T T')
/-- the loop of Wrote -/
structure Wl (w4 wt : World) (s : Sl) (e : E) (xs : List S) (l : List Dt) (b : Bool) : Prop where
  nw : Nw w4 wt 34 2 s (flD (l.foldl (wstep e xs) ([], false)).1)
  b : b = (l.foldl (wstep e xs) ([], false)).2
set_option maxHeartbeats 8000000 in
set_option maxRecDepth 100000 in
theorem rwrote_ok {w : World} {T : Ts} {c : Cf} {nn rr pp : Nat} {lk : List Int} {f : ByteArray → Sg} {N : Nat} (h : Rs w T c nn rr pp lk f N) (hc : CR c = true) (hN : N ≤ 1500000) (e : E) {xs : List S} (hx : L w e.x.p e.x.n xs) (hk : e.k.size ≤ maxLen) (hv : e.v.n ≤ 2000000) :
    Calls Tryz.prog 66 #[.pointer (some ⟨T.S, 0, none⟩), .agg #[.int .i64 e.n, .int .i64 e.c, .string e.k, .bool e.d, .slice e.v.p e.v.n e.v.c, .slice e.x.p e.x.n e.x.c]] w fun r w' => RWroteP w T c nn rr pp lk f N (wrR c e xs) e xs r w' := by
  have HS := hid h
  have HKS := hid hk
  obtain ⟨X, HXX⟩ : ∃ X, Hid (X = w.heap.size) := ⟨_, hid rfl⟩
  obtain ⟨w1, hw1⟩ : ∃ V, V = w.alloc (.cells #[.int .i64 e.n, .int .i64 e.c, .string e.k, .bool e.d, .slice e.v.p e.v.n e.v.c, .slice e.x.p e.x.n e.x.c] 38) := ⟨_, rfl⟩
  have a1 : Apart [] w w1 := by rw [hw1]; exact (Apart.refl [] w).alloc _
  have hX1 : w1.heap[X]? = some (.cells #[.int .i64 e.n, .int .i64 e.c, .string e.k, .bool e.d, .slice e.v.p e.v.n e.v.c, .slice e.x.p e.x.n e.x.c] 38 (0, 0)) := by rw [hw1, HXX.out]; exact heap_alloc_new w _
  have HA1 := hid a1
  have HX1 := hid hX1
  have HS1 := hid (h.kept0 a1)
  have HL1 := hid (hx.kept0 a1)
  obtain ⟨v, Hv⟩ : ∃ v, Hid (v = wrR c e xs) := ⟨_, hid rfl⟩
  rw [← Hv.out]
  have HRT : Hid (∀ W, Apart [] w1 W → Calls Tryz.prog 89 #[.agg #[.int .i64 c.n, .int .i64 c.p, .int .i64 c.r, .int .i64 c.s, .int .i64 c.g, .int .i64 c.c, .int .i64 c.k, .int .i64 c.h, .int .i64 c.b], .agg #[.int .i64 e.n, .int .i64 e.c, .string e.k, .bool e.d, .slice e.v.p e.v.n e.v.c, .slice e.x.p e.x.n e.x.c]] W fun r w' => r = .returned (.bool v) ∧ Apart [] W w') := fun W a => by
    rw [Hv.out]
    exact dright_ok hc e (HL1.out.kept0 a) (by unfold maxLen at hk; omega) (by omega)
  have HCW : Hid (∀ W, Apart [] w1 W → (W.cell? ⟨T.S, 0, none⟩ = some (.int .i64 c.n) ∧ W.cell? ⟨T.S, 1, none⟩ = some (.int .i64 c.p) ∧ W.cell? ⟨T.S, 2, none⟩ = some (.int .i64 c.r) ∧ W.cell? ⟨T.S, 3, none⟩ = some (.int .i64 c.s) ∧ W.cell? ⟨T.S, 4, none⟩ = some (.int .i64 c.g) ∧ W.cell? ⟨T.S, 5, none⟩ = some (.int .i64 c.c) ∧ W.cell? ⟨T.S, 6, none⟩ = some (.int .i64 c.k) ∧ W.cell? ⟨T.S, 7, none⟩ = some (.int .i64 c.h) ∧ W.cell? ⟨T.S, 8, none⟩ = some (.int .i64 c.b)) ∧ W.cell? ⟨X, 0, none⟩ = some (.int .i64 e.n) ∧ W.cell? ⟨X, 1, none⟩ = some (.int .i64 e.c) ∧ W.cell? ⟨X, 2, none⟩ = some (.string e.k) ∧ W.cell? ⟨X, 3, none⟩ = some (.bool e.d) ∧ W.cell? ⟨X, 4, none⟩ = some (.slice e.v.p e.v.n e.v.c) ∧ W.cell? ⟨X, 5, none⟩ = some (.slice e.x.p e.x.n e.x.c)) := fun W a => by
    have b1 := keep0 a HS1.out.blk
    have b2 := keep0 a HX1.out
    exact ⟨⟨crow b1 0 _ rfl, crow b1 1 _ rfl, crow b1 2 _ rfl, crow b1 3 _ rfl, crow b1 4 _ rfl, crow b1 5 _ rfl, crow b1 6 _ rfl, crow b1 7 _ rfl, crow b1 8 _ rfl⟩, crow b2 0 _ rfl, crow b2 1 _ rfl, crow b2 2 _ rfl, crow b2 3 _ rfl, crow b2 4 _ rfl, crow b2 5 _ rfl⟩
  clear a1 hX1 h hx hk hc hv
  go_enter Tryz.func66, Tryz.ntmps66
  go_upto_region 1 with fail
  rw [← hw1, ← HXX.out]
  clear hw1
  go_cut [5] from 11 to 16 (fun s5 wx => s5 = .bool v ∧ Hid (Apart [] w1 wx))
  case first =>
    have hAd : Apart [] w1 w1.drew := (Apart.refl [] w1).drew
    refine wp_region_held_drew (S := fun W => Apart [] w1 W) (by kernel_rfl) hAd (fun hHeld => ?_)
    generalize w1.drew = wd at *
    clear hAd
    refine tk 0 11 (.pointer (some ⟨T.S, 0, none⟩)) rfl ?_ ?_
    · intro W hSW; go_simp
    simp only [Act.put, List.setIfInBounds_toArray, List.set_cons_zero, List.set_cons_succ]
    refine tk 1 12 (.pointer (some ⟨T.S, 0, none⟩)) rfl ?_ ?_
    · intro W hSW; go_simp
    simp only [Act.put, List.setIfInBounds_toArray, List.set_cons_zero, List.set_cons_succ]
    refine tk 2 13 (.pointer (some ⟨T.S, 0, none⟩)) rfl ?_ ?_
    · intro W hSW; go_simp
    simp only [Act.put, List.setIfInBounds_toArray, List.set_cons_zero, List.set_cons_succ]
    refine tk 3 14 (.agg #[.int .i64 c.n, .int .i64 c.p, .int .i64 c.r, .int .i64 c.s, .int .i64 c.g, .int .i64 c.c, .int .i64 c.k, .int .i64 c.h, .int .i64 c.b]) rfl ?_ ?_
    · intro W hSW; obtain ⟨⟨t0, t1, t2, t3, t4, t5, t6, t7, t8⟩, u0, u1, u2, u3, u4, u5⟩ := HCW.out W hSW; go_simp
    simp only [Act.put, List.setIfInBounds_toArray, List.set_cons_zero, List.set_cons_succ]
    refine tk 4 15 (.agg #[.int .i64 e.n, .int .i64 e.c, .string e.k, .bool e.d, .slice e.v.p e.v.n e.v.c, .slice e.x.p e.x.n e.x.c]) rfl ?_ ?_
    · intro W hSW; obtain ⟨⟨t0, t1, t2, t3, t4, t5, t6, t7, t8⟩, u0, u1, u2, u3, u4, u5⟩ := HCW.out W hSW; go_simp
    simp only [Act.put, List.setIfInBounds_toArray, List.set_cons_zero, List.set_cons_succ]
    refine wpAnyH_ready (rs := [5]) (by kernel_rfl) (by simp) ?_
    refine AllReadyH.cons rfl (fun KK hKK => ?_) AllReadyH.nil
    go_simp
    refine (HRT.out wd hHeld).mono ?_
    rintro _ wx1 ⟨rfl, aX⟩
    have hHx := hHeld.trans aX
    try dsimp only
    refine hKK.out _ _ hHx (fun hHeld => ?_)
    clear hKK KK
    try simp only [Act.put, List.setIfInBounds_toArray, List.set_cons_zero, List.set_cons_succ]
    refine tk 6 5 (.bool v) rfl ?_ ?_
    · intro W hSW; go_simp
    simp only [Act.put, List.setIfInBounds_toArray, List.set_cons_zero, List.set_cons_succ]
    refine wpAnyH_done (by kernel_rfl) ?_ _
    have HZ := hid hHeld
    clear hHeld
    go_wp2_with fail
    go_meet
    exact ⟨rfl, HZ⟩
  obtain ⟨rfl, HC⟩ := hcut
  generalize wc = w2 at *
  have HA2 := hid (HA1.out.trans HC.out)
  cases v with
  | false =>
    go_wp2_with fail
    go_ret
    exact ⟨fun _ => ⟨rfl, HA2.out⟩, fun hh => by cases hh⟩
  | true =>
    have HS2 := hid (HS1.out.kept0 HC.out)
    have HX2 := hid (keep0 HC.out HX1.out)
    have HL2 := hid (HL1.out.kept0 HC.out)
    obtain ⟨y, Hy⟩ : ∃ y, Hid (y = f e.k) := ⟨_, hid rfl⟩
    have HOF : Hid (Calls Tryz.prog 90 #[.pointer (some ⟨T.S, 0, none⟩), .string e.k] w2 fun r w' => OfP w2 T e.k y r w') := by rw [Hy.out]; exact hid (of_ok HS2.out (by omega) HKS.out)
    have HYL : Hid (y.1.length ≤ N) := by
      have := HS2.out.fe e.k HKS.out
      rw [Hy.out, ← this]
      unfold lookSn
      cases hh : T.g.find? (fun x => keq x.k e.k) with
      | none => exact hid (Nat.zero_le _)
      | some x => exact hid ((HS2.out.hd x (List.mem_of_find?_eq_some hh)).2)
    obtain ⟨-, -, -, u2, -⟩ := HCW.out w2 HC.out
    clear HRT HCW HX1 HS1 HL1
    go_wp2_with fail
    refine HOF.out.mono ?_
    rintro _ w3 ⟨s0, rfl, a3, ho3, hh3⟩
    have hn0 : s0.n = y.1.length := by have := ho3.1; rw [flD_len] at this; omega
    obtain ⟨Y, HYY⟩ : ∃ X, Hid (X = w3.heap.size) := ⟨_, hid rfl⟩
    obtain ⟨w4, hw4⟩ : ∃ V, V = w3.alloc (.cells #[.string e.k, .slice s0.p s0.n s0.c, .int .i64 y.2] 151) := ⟨_, rfl⟩
    have a4 : Apart [] w3 w4 := by rw [hw4]; exact (Apart.refl [] w3).alloc _
    have hY4 : w4.heap[Y]? = some (.cells #[.string e.k, .slice s0.p s0.n s0.c, .int .i64 y.2] 151 (0, 0)) := by rw [hw4, HYY.out]; exact heap_alloc_new w3 _
    have HRD : Hid (Rd w4 s0.p (flD y.1)) := hid ((Rd.own (show w3.ownsRow 0 34 2 (.slice s0.p s0.n s0.c) s0.n _ from ho3)).kept0 a4)
    have HA34 := hid (a3.trans a4)
    have HS4 := hid (HS2.out.kept0 HA34.out)
    have HX4 := hid (keep0 HA34.out HX2.out)
    have HL4 := hid (HL2.out.kept0 HA34.out)
    have HY4 := hid hY4
    have HA4 := hid (HA2.out.trans HA34.out)
    have HN0 := hid hn0
    have HYN : Hid (w.heap.size ≤ Y) := hid (by rw [HYY.out]; exact (HA2.out.trans a3).size)
    have hsn : s0.n ≤ N := by rw [hn0]; exact HYL.out
    clear a3 a4 ho3 hh3 hY4 u2 HS2 HX2 HL2 hn0 HC HA2 HOF
    try dsimp only
    go_upto_region 5 with fail
    rw [← hw4, ← HYY.out]
    clear hw4 HYY
    go_wp2_with fail
    go_loopw [7, 8, 9] (fun a b d wt => ∃ (i : Nat) (s : Sl) (pb : Bool), a = .slice s.p s.n s.c ∧ b = .bool pb ∧ d = .int .i64 (i : Nat) ∧ i ≤ s0.n ∧ Hid (Wl w4 wt s e xs (y.1.take i) pb)) (fun _ _ d _ => s0.n - (intOf d).toNat)
    case atStart => exact ⟨0, slz, false, rfl, rfl, rfl, Nat.zero_le _, hid ⟨Nw.none0 (Apart.refl _ _) _ _, rfl⟩⟩
    case round =>
      obtain ⟨i, s, pb, rfl, rfl, rfl, hile, HI⟩ := hrel
      generalize wr = w5 at *
      have HY5 := hid (keep0 HI.out.nw.ap HY4.out)
      have HX5 := hid (keep0 HI.out.nw.ap HX4.out)
      have HL5 := hid (HL4.out.kept0 HI.out.nw.ap)
      have q1 := crow HY5.out 1 (.slice s0.p s0.n s0.c) rfl
      by_cases hlt : i < s0.n
      · have hlti : ((i : Nat) : Int) < ((s0.n : Nat) : Int) := by omega
        have hil : i < y.1.length := by rw [← HN0.out]; exact hlt
        obtain ⟨P, o, hP, hPc⟩ := Rd_dot HRD.out hil
        obtain ⟨d, Hd⟩ : ∃ d : Dt, Hid (d = y.1.getD i (0, 0)) := ⟨_, hid rfl⟩
        rw [← Hd.out] at hPc
        obtain ⟨c0, c1⟩ := hPc w5 HI.out.nw.ap
        rw [hP] at q1
        obtain ⟨Z, HZZ⟩ : ∃ X, Hid (X = w5.heap.size) := ⟨_, hid rfl⟩
        obtain ⟨w6, hw6⟩ : ∃ V, V = w5.alloc (.cells #[.int .i64 d.1, .int .i64 d.2] 34) := ⟨_, rfl⟩
        have a6 : Apart [] w5 w6 := by rw [hw6]; exact (Apart.refl [] w5).alloc _
        have HZ6 : Hid (w6.heap[Z]? = some (.cells #[.int .i64 d.1, .int .i64 d.2] 34 (0, 0))) := by unfold Hid; rw [hw6, HZZ.out]; exact heap_alloc_new w5 _
        have HZN : Hid (∀ k, s.v.ownBlock = some k → k ≠ Z) := hid (fun k hk => by have := (HI.out.nw.own_p hk).2.2; have := HZZ.out; omega)
        have HX6 := hid (keep0 a6 HX5.out)
        have HL6 := hid (HL5.out.kept0 a6)
        have HI6 : Hid (Wl w4 w6 s e xs (y.1.take i) pb) := hid ⟨HI.out.nw.kept a6, HI.out.b⟩
        have HTK : Hid (y.1.take (i + 1) = y.1.take i ++ [d]) := hid (by rw [take_dt hil, Hd.out])
        have hlen6 : ((y.1.take i).foldl (wstep e xs) ([], false)).1.length ≤ 2 * i := by
          have h1 := wstep_len e xs (y.1.take i) ([], false)
          have h2 := List.length_take_le i y.1
          simp only [List.length_nil] at h1
          omega
        have HLE6 := hid hlen6
        clear hPc hP a6 hlen6
        obtain ⟨hb, Hhb⟩ : ∃ b, Hid (b = hz xs d) := ⟨_, hid rfl⟩
        obtain ⟨eb, Heb⟩ : ∃ b : Bool, Hid (b = decide (d = dotE e)) := ⟨_, hid rfl⟩
        obtain ⟨lb, Hlb⟩ : ∃ b, Hid (b = belowD (dotE e) d) := ⟨_, hid rfl⟩
        have hq : ∀ W, Sem.run Tryz.prog (binOp BinOp.eql 34 (.agg #[.int .i64 d.1, .int .i64 d.2]) (.agg #[.int .i64 e.n, .int .i64 e.c])) W = .ok (.bool eb) W := fun W => by
          rw [eql34, Heb.out]
          have : (decide (d.1 = e.n) && decide (d.2 = e.c)) = decide (d = dotE e) := by
            by_cases h1 : d = dotE e
            · rw [h1]; simp [dotE]
            · have : ¬ (d.1 = e.n ∧ d.2 = e.c) := fun h => h1 (Prod.ext h.1 h.2)
              simp [h1]
              simpa using this
          rw [this]
        have HQ := hid hq
        have hg := guard34
        have HST : Hid ((y.1.take (i + 1)).foldl (wstep e xs) ([], false) = (if hb || eb then (y.1.take i).foldl (wstep e xs) ([], false) else if !pb && lb then (((y.1.take i).foldl (wstep e xs) ([], false)).1 ++ [dotE e] ++ [d], true) else (((y.1.take i).foldl (wstep e xs) ([], false)).1 ++ [d], pb))) := by
          unfold Hid
          rw [HTK.out, List.foldl_append, List.foldl_cons, List.foldl_nil]
          have hpb := HI.out.b
          generalize (y.1.take i).foldl (wstep e xs) ([], false) = A at *
          unfold wstep
          rw [← Hhb.out, ← Heb.out, ← Hlb.out, ← hpb]
        clear hq
        go_upto_region 11 with fail
        rw [← hw6, ← HZZ.out]
        clear hw6 HZZ q1 c0 c1 HTK
        have u5 := crow HX6.out 5 (.slice e.x.p e.x.n e.x.c) rfl
        obtain ⟨d0, d1⟩ := row2v HZ6.out
        go_wp2_with fail
        refine (rhas_ok d.1 d.2 HL6.out hb Hhb.out).mono ?_
        rintro _ w7 ⟨rfl, a7⟩
        have HX7 := hid (keep0 a7 HX6.out)
        have HZ7 := hid (keep0 a7 HZ6.out)
        have HI7 : Hid (Wl w4 w7 s e xs (y.1.take i) pb) := hid ⟨HI6.out.nw.kept a7, HI6.out.b⟩
        clear a7 u5 d0 d1 HI6 HZ6 HX6 HL6
        have u0 := crow HX7.out 0 (.int .i64 e.n) rfl
        have u1 := crow HX7.out 1 (.int .i64 e.c) rfl
        obtain ⟨d0, d1⟩ := row2v HZ7.out
        have hq := HQ.out
        try dsimp only
        cases hb with
        | true =>
          have HE : Hid (Wl w4 w7 s e xs (y.1.take (i + 1)) pb) := hid ⟨by rw [HST.out]; exact HI7.out.nw, by rw [HST.out]; exact HI7.out.b⟩
          go_wp2_with fail
          go_roundw
          case rel => exact ⟨i + 1, s, pb, rfl, rfl, by go_num, by omega, HE⟩
          case measure => simp [intOf]; omega
        | false =>
        cases eb with
        | true =>
          have HE : Hid (Wl w4 w7 s e xs (y.1.take (i + 1)) pb) := hid ⟨by rw [HST.out]; exact HI7.out.nw, by rw [HST.out]; exact HI7.out.b⟩
          go_wp2_with fail
          go_roundw
          case rel => exact ⟨i + 1, s, pb, rfl, rfl, by go_num, by omega, HE⟩
          case measure => simp [intOf]; omega
        | false =>
        cases pb with
        | true =>
          obtain ⟨s2, w8, hrun, hn8, ha8⟩ := appD HI7.out.nw d (by have := HLE6.out; omega)
          have HRUN := hid hrun
          have HE : Hid (Wl w4 w8 s2 e xs (y.1.take (i + 1)) true) := hid ⟨by rw [HST.out]; exact hn8, by rw [HST.out]; rfl⟩
          clear hrun hn8 ha8
          go_wp2_with (at_builtin; refine wpList_app2 rfl (.tmp 58) (.tmp 60) 50 50 rfl _ _ rfl rfl _ _ HRUN.out ?_)
          go_roundw
          case rel => exact ⟨i + 1, s2, true, rfl, rfl, by go_num, by omega, HE⟩
          case measure => simp [intOf]; omega
        | false =>
          go_wp2_with fail
          refine (below_ok w7 (dotE e) d).mono ?_
          rintro _ w8 ⟨rfl, a8⟩
          rw [← Hlb.out]
          have HX8 := hid (keep0 a8 HX7.out)
          have HZ8 := hid (keep0 a8 HZ7.out)
          have HI8 : Hid (Wl w4 w8 s e xs (y.1.take i) false) := hid ⟨HI7.out.nw.kept a8, HI7.out.b⟩
          clear a8 u0 u1 d0 d1 HX7 HZ7 HI7 hq
          have u0 := crow HX8.out 0 (.int .i64 e.n) rfl
          have u1 := crow HX8.out 1 (.int .i64 e.c) rfl
          obtain ⟨d0, d1⟩ := row2v HZ8.out
          try dsimp only
          cases lb with
          | false =>
            obtain ⟨s2, w9, hrun, hn9, ha9⟩ := appD HI8.out.nw d (by have := HLE6.out; omega)
            have HRUN := hid hrun
            have HE : Hid (Wl w4 w9 s2 e xs (y.1.take (i + 1)) false) := hid ⟨by rw [HST.out]; exact hn9, by rw [HST.out]; rfl⟩
            clear hrun hn9 ha9
            go_wp2_with (at_builtin; refine wpList_app2 rfl (.tmp 58) (.tmp 60) 50 50 rfl _ _ rfl rfl _ _ HRUN.out ?_)
            go_roundw
            case rel => exact ⟨i + 1, s2, false, rfl, rfl, by go_num, by omega, HE⟩
            case measure => simp [intOf]; omega
          | true =>
            obtain ⟨s2, w9, hrun, hn9, ha9⟩ := appD HI8.out.nw (dotE e) (by have := HLE6.out; omega)
            have HRUN := hid hrun
            have HZ9 : Hid (w9.heap[Z]? = some (.cells #[.int .i64 d.1, .int .i64 d.2] 34 (0, 0))) := hid ((ha9.block Z (lt_of_heap HZ8.out) (fun hm => HZN.out Z (by simpa using hm) rfl)).trans HZ8.out)
            clear hrun ha9
            go_upto_region 14 with (at_builtin; refine wpList_app2 rfl (.tmp 53) (.tmp 56) 50 50 rfl _ _ rfl rfl _ _ HRUN.out ?_)
            clear u0 u1 d0 d1
            obtain ⟨d0, d1⟩ := row2v HZ9.out
            obtain ⟨s3, wA, hrun, hnA, haA⟩ := appD hn9 d (by simp; have := HLE6.out; omega)
            have HRUN2 := hid hrun
            have HE : Hid (Wl w4 wA s3 e xs (y.1.take (i + 1)) true) := hid ⟨by rw [HST.out]; exact hnA, by rw [HST.out]; rfl⟩
            clear hrun hnA haA hn9
            go_wp2_with (at_builtin; refine wpList_app2 rfl (.tmp 58) (.tmp 60) 50 50 rfl _ _ rfl rfl _ _ HRUN2.out ?_)
            go_roundw
            case rel => exact ⟨i + 1, s3, true, rfl, rfl, by go_num, by omega, HE⟩
            case measure => simp [intOf]; omega
      · have hlti : ¬ ((i : Nat) : Int) < ((s0.n : Nat) : Int) := by omega
        have HF0 : Hid (Wl w4 w5 s e xs y.1 pb) := by
          have := HI.out
          rw [List.take_of_length_le (by rw [← HN0.out]; omega)] at this
          exact hid this
        clear HI HL5
        have hln : ((y.1).foldl (wstep e xs) ([], false)).1.length ≤ 2 * N := by
          have h1 := wstep_len e xs y.1 ([], false)
          have h2 := HYL.out
          simp only [List.length_nil] at h1
          omega
        have u0 := crow HX5.out 0 (.int .i64 e.n) rfl
        have u1 := crow HX5.out 1 (.int .i64 e.c) rfl
        go_upto_if 63 with fail
        clear q1
        go_cut [7] from 64 to 68 (fun s7 wx => ∃ s' : Sl, s7 = .slice s'.p s'.n s'.c ∧ Hid (Nw w4 wx 34 2 s' (flD (wroteH y.1 e xs))))
        case first =>
          cases pb with
          | true =>
            have HE : Hid (Nw w4 w5 34 2 s (flD (wroteH y.1 e xs))) := by
              rw [← wend_wrote]
              unfold wend
              rw [if_pos HF0.out.b.symm]
              exact hid HF0.out.nw
            go_wp2_with fail
            go_meet
            exact ⟨s, rfl, HE⟩
          | false =>
            obtain ⟨s2, w6, hrun, hn6, ha6⟩ := appD HF0.out.nw (dotE e) (by omega)
            have HRUN := hid hrun
            have HE : Hid (Nw w4 w6 34 2 s2 (flD (wroteH y.1 e xs))) := by
              rw [← wend_wrote]
              unfold wend
              rw [if_neg (by rw [← HF0.out.b]; simp)]
              exact hid hn6
            clear hrun hn6 ha6
            go_wp2_with (at_builtin; refine wpList_app2 rfl (.tmp 64) (.tmp 67) 50 50 rfl _ _ rfl rfl _ _ HRUN.out ?_)
            go_meet
            exact ⟨s2, rfl, HE⟩
        obtain ⟨s', rfl, HN'⟩ := hcut
        generalize wc = w6 at *
        clear u0 u1 HF0 hln HX5 HY5
        have HY6 := hid (keep0 HN'.out.ap HY4.out)
        have q1 := crow HY6.out 1 (.slice s0.p s0.n s0.c) rfl
        have fq := frozen_of_row _ _ 1 _ _ HY6.out
        obtain ⟨w7, hw7⟩ : ∃ V, V = w6.setCell ⟨Y, 1, none⟩ (.slice s'.p s'.n s'.c) := ⟨_, rfl⟩
        have a7 : Apart [Y] w6 w7 := by rw [hw7]; exact (Apart.refl _ _).setCell (.inl (by simp)) _
        have HY7 : Hid (w7.heap[Y]? = some (.cells #[.string e.k, .slice s'.p s'.n s'.c, .int .i64 y.2] 151 (0, 0))) := by unfold Hid; rw [hw7]; have := heap_setCell_same w6 Y 1 _ 151 (.slice s'.p s'.n s'.c) HY6.out; simpa using this
        have hYl := lt_of_heap HY4.out
        have hS6 := HS4.out.kept0 HN'.out.ap
        have hAw7 : Apart [] w w7 := (HA4.out.trans HN'.out.ap).trans' a7 (fun k hk => .inr (by simp at hk; rw [hk]; exact HYN.out))
        have HAW7 := hid hAw7
        have HS7 : Hid (Rs w7 T c nn rr pp lk f N) := hid (HS.out.kept0 hAw7)
        have HO7 : Hid (w7.ownsRow 0 34 2 s'.v s'.n (flD (wroteH y.1 e xs))) := hid (own_same HN'.out.own (fun k hk hb => a7.block k hk (by
          simp
          have := HN'.out.new k hb
          omega)))
        have HLN : Hid ((wroteH y.1 e xs).length ≤ N + 1) := hid (by have := wroteH_len y.1 e xs; have := HYL.out; omega)
        have HPT := hid (rput_ok HS7.out (by omega) ⟨e.k, s', wroteH y.1 e xs, y.2⟩ HKS.out HO7.out HLN.out)
        clear a7 hS6 hAw7 hYl
        go_upto_region 19 with fail
        rw [← hw7]
        clear hw7 q1 fq
        have q0 := crow HY7.out 0 (.string e.k) rfl
        have q1 := crow HY7.out 1 (.slice s'.p s'.n s'.c) rfl
        have q2 := crow HY7.out 2 (.int .i64 y.2) rfl
        go_wp2_with fail
        refine HPT.out.mono ?_
        rintro _ w8 ⟨rfl, T', hT', hS', hap', hnew'⟩
        have HE : Hid (RWroteP w T c nn rr pp lk f N true e xs (.returned (.int .i64 0)) w8) := by
          refine hid ⟨fun hh => (by cases hh), fun _ => ⟨rfl, T', by rw [← Hy.out]; exact hT', hS', (HAW7.out.mono (by simp)).trans hap', fun j hj => ?_⟩⟩
          rcases hnew' j hj with h | h | h
          · exact .inl h
          · exact .inr (Nat.le_trans HAW7.out.size h)
          · exact .inr (Nat.le_trans HA4.out.size (HN'.out.new j h))
        clear hT' hS' hap' hnew' q0 q1 q2
        try dsimp only
        go_wp2_with fail
        go_ret
        exact HE.out
end Go.Proofs.YtpddokbjjhbfgaaGreat.ds
