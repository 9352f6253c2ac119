import Derived.Test.YtokaeiahhmaokaaDoorW1
import Derived.Test.YtokaeiahhmaokaaDoorW11
import Derived.Deep.CutRange
import Derived.Test.YtokaeiahhmaokaaDoorW9
namespace Go.Proofs.YtokaeiahhmaokaaDoor.ds
open Go.ChangeShapes Go.WideShapes Go.ChangeAt Go.RowKit Go.Sort
set_option linter.unusedVariables false
set_option linter.unusedSimpArgs false
attribute [local go_sem] Oper.semAt_some
/-- with no panic -/
def noPanic (Q : Exit → Act → World → Prop) : Exit → Act → World → Prop
  | .panic _, _, _ => False
  | .normal, a, w => Q .normal a w
  | .ret, a, w => Q .ret a w
  | .exit i, a, w => Q (.exit i) a w
  | .goto l, a, w => Q (.goto l) a w
  | .outgrown, a, w => Q .outgrown a w
theorem noPanic_of {Q : Exit → Act → World → Prop} (e : Exit) (a : Act) (w : World) (h : noPanic Q e a w) : Q e a w := by
  cases e <;> first | exact h | exact h.elim
/-- Backward's box -/
theorem backward_ok {w : World} {p : Option Addr} {N cap : Nat} {es : List E} (h : LE w p N es) : Calls Tryd.prog 92 #[.slice p N cap] w fun r w' => ∃ Bb, r = .returned (.func (.func 115) #[] #[.pointer (some ⟨Bb, 0, none⟩)]) ∧ BkB w' Bb p N cap es ∧ w.heap.size ≤ Bb ∧ Apart [] w w' := by
  have HL := hid h
  clear h
  go_enter Tryd.func92, Tryd.ntmps92
  go_wp2
  go_ret
  have a : Apart [] w (w.alloc (.cells #[.slice p N cap] 39)) := (Apart.refl _ _).alloc _
  refine ⟨w.heap.size, rfl, ⟨?_, HL.out.kept0 a⟩, Nat.le_refl _, a⟩
  simp
def Kpc (C : Nat → Prop) (B : Nat) (A A' : World) : Prop := ∀ k, k < B → ¬ C k → A'.heap[k]? = A.heap[k]?
theorem BkB.same {A B : World} {Bb : Nat} {p : Option Addr} {N cap : Nat} {es : List E} (h : BkB A Bb p N cap es) (e1 : B.heap[Bb]? = A.heap[Bb]?) (e2 : 0 < N → ∀ P o, p = some ⟨P, o, none⟩ → B.heap[P]? = A.heap[P]?) : BkB B Bb p N cap es := by
  refine ⟨(World.cell?_of_block (a := ⟨Bb, 0, none⟩) e1).trans h.c, ⟨fun h0 => ?_, h.l.len, h.l.lim⟩⟩
  obtain ⟨P, o, e, hP, hc⟩ := h.l.rd h0
  have e3 := e2 (by have := h.l.len; rw [flatE_length] at h0; omega) P o e
  refine ⟨P, o, e, ?_, fun j u hj => (World.cell?_of_block (a := ⟨P, o + j, none⟩) e3).trans (hc j u hj)⟩
  have h1 : A.heap[P]? = some A.heap[P] := by simp [hP]
  exact lt_of_heap (e3.trans h1)
theorem back_stops (n : Nat) (hn : 2 ≤ n) (C : Nat → Prop) (Bb : Nat) (p : Option Addr) (N cap : Nat) (es : List E) (w : World) (b : BkB w Bb p N cap es) (h1 : ¬ C Bb) (hp : 0 < N → ∀ P o, p = some ⟨P, o, none⟩ → ¬ C P) :
    SeqStopsK Fence.wide n Tryd.prog 115 #[.pointer (some ⟨Bb, 0, none⟩)] (fun c : Fin N => #[Value.int .i64 (c.1 : Nat), (gE es c.1).agg]) (Kpc C w.heap.size) (fun ys => ys = dn N N) (fun pre => pre <+: dn N N) N w := by
  intro l J Jx W hW hJ hJx hY hJ0
  have bl : ∀ k, k < w.heap.size → W.heap[k]? = w.heap[k]? := fun k hk => hW.block k hk
  have hPlt : 0 < N → ∀ P o, p = some ⟨P, o, none⟩ → P < w.heap.size := fun h0 P o e => by
    obtain ⟨P', o', e', hP, _⟩ := b.l.at h0
    rw [e] at e'
    simp at e'
    rw [e'.1]; exact hP
  refine back1_in n hn l Bb p N cap es J Jx (Kpc C w.heap.size) ?_ (fun pre A B hA a => hJ pre A B none hA a.grown (by simp)) hY W (b.same (bl Bb (block_lt_of_cell b.c)) (fun h0 P o e => bl P (hPlt h0 P o e))) hJ0
  intro A B hK bA
  exact bA.same (hK Bb (block_lt_of_cell b.c) h1) (fun h0 P o e => hK P (hPlt h0 P o e) (hp h0 P o e))
theorem box9 {X : World} {b : Nat} {x : E} (e : X.heap[b]? = some (boxE x)) : X.cell? ⟨b, 0, none⟩ = some (.int .i64 x.n) ∧ X.cell? ⟨b, 1, none⟩ = some (.int .i64 x.c) ∧ X.cell? ⟨b, 2, none⟩ = some (.string x.k) ∧ X.cell? ⟨b, 3, none⟩ = some (.bool x.d) ∧ X.cell? ⟨b, 4, none⟩ = some (.slice x.v.p x.v.n x.v.c) ∧ X.cell? ⟨b, 5, none⟩ = some (.slice x.x.p x.x.n x.x.c) := by
  unfold boxE at e
  refine ⟨?_, ?_, ?_, ?_, ?_, ?_⟩ <;> (rw [cell_of_row _ _ _ _ _ _ e]; rfl)
theorem wpListIn_app2 {F : Fence} {n : Nat} {w : World} {ops : Array Oper} {rest : List Oper} {o : Oper} {a : Act} {Q : Exit → Act → World → Prop} (hgd : o.guard = none) (s x : Operand) (t t' : TypeId)
    (ho : o.op = .call { callee := .builtin .append, args := #[s, x], argTypes := #[t, t'] }) (v u : Value) (hs : a.eval s = v) (hx : a.eval x = u) (v' : Value) (w' : World)
    (hrun : (Builtin.append_ #[t, t'] o.type #[v, u]).run Tryd.prog w = .ok v' w') (hK : wpListIn F n Tryd.prog ops Q rest (a.put o.dst v') w') : wpListIn F n Tryd.prog ops Q (o :: rest) a w := by
  refine wpListIn_plain hgd fun K hK' => ?_
  unfold Oper.wpIn
  refine ⟨?_, ?_⟩
  · simp [Oper.about, ho, resolve, Target.leads, Sem.run_pure]
  · rw [Oper.semAt_plain F _ _ (by rw [ho]; intro c hc'; cases hc')]
    simp [execOp, ho, resolve, invoke, builtin, hs, hx, hrun, Result.andThen]
    exact hK' _ _ hK
/-- the marks behind i rounds -/
noncomputable def cvL (rs : List Wr) (N i : Nat) : List Bool := (List.range N).map (fun k => if k < i then cvd rs k else false)
theorem cvL_zero (rs : List Wr) (N : Nat) : cvL rs N 0 = List.replicate N false := by
  apply List.ext_getElem (by simp [cvL])
  intro k h1 h2
  simp [cvL]
theorem cvL_succ (rs : List Wr) (N i : Nat) : (cvL rs N i).set i (cvd rs i) = cvL rs N (i + 1) := by
  apply List.ext_getElem (by simp [cvL])
  intro k h1 h2
  simp only [List.getElem_set, cvL, List.getElem_map, List.getElem_range]
  by_cases h : i = k
  · rw [if_pos h, if_pos (by omega), h]
  · rw [if_neg h]
    by_cases h3 : k < i
    · rw [if_pos h3, if_pos (by omega)]
    · rw [if_neg h3, if_neg (by omega)]
set_option maxHeartbeats 8000000 in
set_option maxRecDepth 100000 in
theorem uncovered_ok {w : World} {p : Option Addr} {N cap : Nat} {es : List E} {rs : List Wr} (T : Tab w) (h : LE w p N es) (hR : ∀ j, j < N → Reads w (gE es j) (gR rs j)) (hrl : rs.length = N) :
    Calls Tryd.prog 55 #[.slice p N cap] w fun r w' => ∃ s : Sl, r = .returned s.v ∧ OwnE w w' s (bU es rs N N).reverse := by
  have hl := h.lim
  have hmk := run_make_row' (P := Tryd.prog) 121 4 (.bool false) 1 (by kernel_rfl) infoBo rfl .i64 .i64 N (by omega) (by omega) w
  have HST := hid (U1.start w N)
  have HL := hid h
  have HT := hid T
  have HR := hid hR
  have HRL := hid hrl
  clear h T hR hrl
  refine (callsIn_wide (n := 6)).1 ?_
  refine callsIn_of_wp_marks Tryd.func55 rfl trivial ?_ rfl
  refine Code.wpIn_mono noPanic_of ?_
  refine wpIn_wide.2 ?_
  simp only [Tryd.ntmps55, List.size_toArray, List.length_cons, List.length_nil, Nat.reduceAdd, Nat.reduceSub, Array.replicate_succ, Array.replicate_zero, List.push_toArray, List.append_toArray, List.nil_append, List.cons_append]
  go_wp2_with fail
  obtain ⟨W0, hW0⟩ : ∃ W0, (((w.alloc (Obj.cells (madeCells #[Value.bool false] N) 4)).alloc (Obj.cells #[Value.slice (some ⟨w.heap.size, 0, none⟩) N N] 121)).alloc (Obj.cells #[Value.slice none 0 0] 26)) = W0 := ⟨_, rfl⟩
  rw [hW0] at HST ⊢
  clear hmk hW0
  go_loopw [15] (fun u wr => ∃ i : Nat, u = .int .i64 (i : Nat) ∧ i ≤ N ∧ U1 w wr w.heap.size (w.heap.size + 1) (w.heap.size + 1 + 1) N (cvL rs N i) (ahd rs i) []) (fun u _ => N - (intOf u).toNat)
  case atStart => exact ⟨0, rfl, Nat.zero_le _, by rw [cvL_zero, ahd_zero]; exact HST.out⟩
  case round =>
    obtain ⟨i, rfl, hi, hu⟩ := hrel
    have HU := hid hu
    clear hu HST
    by_cases hlt : i < N
    · obtain ⟨P, o, rfl, hP, _⟩ := HL.out.at (by omega)
      have hLE := HL.out.kept0 HU.out.ap
      obtain ⟨P', o', e, _, hc⟩ := hLE.at (by omega)
      simp at e
      obtain ⟨rfl, rfl⟩ := e
      obtain ⟨k0, k1, k2, k3, k4, k5⟩ := hc i hlt
      obtain ⟨q, n, c, h4, hLk, hq⟩ := HU.out.k
      have rd := HR.out i hlt
      have HOKK := hid (ahd_ok rs i)
      have HKN := hid (ahd_succ rs i (by rw [HRL.out]; exact hlt))
      have hiN : ((i : Nat) : Int) < (N : Int) := by omega
      have HCV : Hid (cvd rs i = hasv (norm (ahd rs i)) (gE es i).n (gE es i).c) := by
        unfold Hid cvd hasd
        rw [rd.n, rd.c]
      have HRX := hid rd
      obtain ⟨x, Hx⟩ : ∃ x, Hid (x = gE es i) := ⟨_, rfl⟩
      rw [← Hx.out] at k0 k1 k2 k3 k4 k5 HCV HRX
      have a1 : Apart [] wr (wr.alloc (boxE x)) := (Apart.refl _ _).alloc _
      have hb6 := heap_alloc_new wr (boxE x)
      have U6 := HU.out.apart0 a1
      have HC1 := hid U6.cC
      have h41 := (a1.block _ (lt_of_heap h4) (by simp)).trans h4
      have HS6 : Hid (∀ X, Apart [w.heap.size] (wr.alloc (boxE x)) X → X.cell? ⟨w.heap.size + 1, 0, none⟩ = some (.slice (some ⟨w.heap.size, 0, none⟩) N N) ∧ X.cell? ⟨w.heap.size + 1 + 1, 0, none⟩ = some (.slice q n c) ∧ X.cell? ⟨wr.heap.size, 0, none⟩ = some (.int .i64 x.n) ∧ X.cell? ⟨wr.heap.size, 1, none⟩ = some (.int .i64 x.c)) := fun X a => by
        have hsz : w.heap.size < wr.heap.size := lt_of_heap HU.out.cC
        have e3 := (a.block _ (lt_of_heap U6.c3) (by simp)).trans U6.c3
        have e4 := (a.block _ (lt_of_heap h41) (by simp; omega)).trans h41
        have e6 := (a.block _ (lt_of_heap hb6) (by simp; omega)).trans hb6
        exact ⟨by rw [cell_of_row _ _ _ _ _ _ e3]; rfl, by rw [cell_of_row _ _ _ _ _ _ e4]; rfl, by rw [cell_of_row _ _ _ _ _ _ e6]; rfl, by rw [cell_of_row _ _ _ _ _ _ e6]; rfl⟩
      have HHas : Hid (∀ X, Apart [] (wr.alloc (boxE x)) X → Calls Tryd.prog 46 #[.slice q n c, .agg #[.int .i64 x.n, .int .i64 x.c]] X fun r w' => r = .returned (.bool (cvd rs i)) ∧ Apart [] X w') := fun X a => has_any x.n x.c ((hLk.kept0 a1).kept0 a) _ HCV.out
      have HQ := hid hq
      have HLK := hid hLk
      have HB6 := hid hb6
      have H41 := hid h41
      unfold Sl.v at k4 k5
      clear hc hLE rd a1 hb6 U6 h41 hq hLk h4
      go_upto_region 6 with fail
      obtain ⟨W1, hW1⟩ : ∃ W1, wr.alloc (Obj.cells #[Value.int IntKind.i64 x.n, Value.int IntKind.i64 x.c, Value.string x.k, Value.bool x.d, Value.slice x.v.p x.v.n x.v.c, Value.slice x.x.p x.x.n x.x.c] 28) = W1 := ⟨_, rfl⟩
      have hW1' : wr.alloc (boxE x) = W1 := hW1
      rw [hW1'] at HC1 HS6 HHas HB6 H41
      rw [hW1]
      have HA1 : Hid (Apart [] wr W1) := by rw [← hW1]; exact (Apart.refl _ _).alloc _
      clear hW1 hW1' k0 k1 k2 k3 k4 k5
      go_cut [26] from 20 to 26 (fun s wx => ∃ w6, wx = w6.setCell ⟨w.heap.size, i, none⟩ (.bool (cvd rs i)) ∧ Apart [] W1 w6)
      case first =>
        have HAD := hid (Apart.refl [w.heap.size] W1).drew
        have AD := hid (Apart.refl [] W1).drew
        refine wp_region_held_drew (S := fun X => Apart [w.heap.size] W1 X) (by kernel_rfl) HAD.out (fun hHeld => ?_)
        generalize hwd : W1.drew = wd at *
        refine tk 0 20 (.slice (some ⟨w.heap.size, 0, none⟩) N N) rfl ?_ ?_
        · intro W hSW; obtain ⟨t3, t4, t0, t1⟩ := HS6.out W hSW; go_simp
        simp only [Act.put, List.setIfInBounds_toArray, List.set_cons_zero, List.set_cons_succ]
        refine tk 1 21 (.int .i64 (i : Nat)) rfl ?_ ?_
        · intro W hSW; go_simp
        simp only [Act.put, List.setIfInBounds_toArray, List.set_cons_zero, List.set_cons_succ]
        refine tk 2 22 (.slice q n c) rfl ?_ ?_
        · intro W hSW; obtain ⟨t3, t4, t0, t1⟩ := HS6.out W hSW; go_simp
        simp only [Act.put, List.setIfInBounds_toArray, List.set_cons_zero, List.set_cons_succ]
        refine tk 3 23 (.pointer (some ⟨wr.heap.size, 0, none⟩)) rfl ?_ ?_
        · intro W hSW; go_simp
        simp only [Act.put, List.setIfInBounds_toArray, List.set_cons_zero, List.set_cons_succ]
        refine tk 4 24 (.agg #[.int .i64 x.n, .int .i64 x.c]) rfl ?_ ?_
        · intro W hSW; obtain ⟨t3, t4, t0, t1⟩ := HS6.out W hSW; go_simp
        simp only [Act.put, List.setIfInBounds_toArray, List.set_cons_zero, List.set_cons_succ]
        refine wpAnyH_ready (rs := [5]) (by kernel_rfl) (by simp) ?_
        refine AllReadyH.cons rfl (fun KK hKK => ?_) AllReadyH.nil
        go_simp
        refine (HHas.out _ AD.out).mono ?_
        rintro _ w6 ⟨rfl, a6⟩
        have A16 := hid (AD.out.trans a6)
        have hS6 : Apart [w.heap.size] W1 w6 := (AD.out.trans a6).mono (by simp)
        clear a6
        try dsimp only
        refine hKK.out _ _ hS6 (fun hHeld => ?_)
        clear hKK KK
        refine tk 6 26 (.pointer (some ⟨w.heap.size, i, none⟩)) rfl ?_ ?_
        · intro W hSW; go_simp
        simp only [Act.put, List.setIfInBounds_toArray, List.set_cons_zero, List.set_cons_succ]
        refine wpAnyH_ready (rs := [7]) (by kernel_rfl) (by simp) ?_
        refine AllReadyH.cons rfl (fun KK hKK => ?_) AllReadyH.nil
        have cC := (A16.out.block _ (lt_of_heap HC1.out) (by simp)).trans HC1.out
        have g1 : w6.cell? ⟨w.heap.size, i, none⟩ = some (.bool ((cvL rs N i)[i]'(by simp [cvL]; omega))) := by
          rw [cell_of_row _ _ _ _ _ _ cC]; simp [cvL, hlt]
        have g2 := frozen_of_row _ _ i _ _ cC
        go_simp
        have hS7 : Apart [w.heap.size] W1 (w6.setCell ⟨w.heap.size, i, none⟩ (.bool (cvd rs i))) := hS6.setCell (.inl (by simp)) _
        refine hKK.out _ _ hS7 (fun hHeld => ?_)
        clear hKK KK
        refine wpAnyH_done (by kernel_rfl) ?_ _
        go_wp2_with fail
        go_meet
        exact ⟨w6, rfl, A16.out⟩
      obtain ⟨w6, hw6, a6⟩ := hcut
      obtain ⟨W7, hW7⟩ : ∃ W7, wc = W7 := ⟨_, rfl⟩
      have HW7 : Hid (wc = w6.setCell ⟨w.heap.size, i, none⟩ (.bool (cvd rs i))) := hw6
      have hsz : w.heap.size < wr.heap.size := lt_of_heap HU.out.cC
      have a67 : Apart [w.heap.size] W1 wc := by rw [hw6]; exact (a6.mono (by simp)).setCell (.inl (by simp)) _
      have e4 := (a67.block _ (lt_of_heap H41.out) (by simp; omega)).trans H41.out
      have e6 := (a67.block _ (lt_of_heap HB6.out) (by simp; omega)).trans HB6.out
      have c4 : wc.cell? ⟨w.heap.size + 1 + 1, 0, none⟩ = some (.slice q n c) := by rw [cell_of_row _ _ _ _ _ _ e4]; rfl
      have c6 : wc.cell? ⟨wr.heap.size, 5, none⟩ = some (.slice x.x.p x.x.n x.x.c) := by rw [cell_of_row _ _ _ _ _ _ e6]; rfl
      have HLK7 : Hid (L wc q n (ahd rs i)) := HLK.out.keptX ((HA1.out.mono (by simp)).trans a67) (fun h0 P o e m => HQ.out h0 P o e (by simp at m; simp [m]))
      have ap7 : Apart [] w wc := (HU.out.ap.trans HA1.out).trans' a67 (fun y hy => by simp at hy; subst hy; exact .inr (Nat.le_refl _))
      have HLX7 : Hid (L wc x.x.p x.x.n (gR rs i).xs) := by rw [Hx.out]; exact (HR.out i hlt).x.kept0 ap7
      have HA6 := hid a6
      have HT7 := hid (HT.out.kept0 ap7)
      clear hW7 hw6 a67 e6 ap7 a6 hsz
      have HE4 := hid e4
      clear e4 W7
      go_wp2_with fail
      refine (unions_new 64 (HT7.out.kept0 ((Apart.refl [] _).alloc _)) (two_lx c HLK7.out HLX7.out) (by omega)).mono ?_
      rintro _ w9 ⟨u, rfl, hk9⟩
      obtain ⟨q', n', c', rfl, hL9, a9, hn9⟩ := hk9.ex
      have a49 : Apart [] wc w9 := ((Apart.refl [] _).alloc _).trans a9
      have e49 := (a49.block _ (lt_of_heap HE4.out) (by simp)).trans HE4.out
      have c4' : w9.cell? ⟨w.heap.size + 1 + 1, 0, none⟩ = some (.slice q n c) := by rw [cell_of_row _ _ _ _ _ _ e49]; rfl
      have g4 := frozen_of_row _ _ 0 _ _ e49
      have HUN : Hid (U1 w (w9.setCell ⟨w.heap.size + 1 + 1, 0, none⟩ (.slice q' n' c')) w.heap.size (w.heap.size + 1) (w.heap.size + 1 + 1) N (cvL rs N (i + 1)) (ahd rs (i + 1)) []) := by
        rw [HW7.out] at a9 hn9
        have := U1.round (W1 := W1) (c' := c') HU.out (HA1.out.trans HA6.out) (by simp) a9 hL9 HOKK.out hn9
        rw [cvL_succ, ← HKN.out] at this
        exact this
      clear hk9 hL9 a9 hn9 a49 e49 c4 c6
      dsimp only
      go_wp2_with fail
      go_roundw
      case rel => exact ⟨i + 1, by go_num, by omega, HUN.out⟩
      case measure => simp [intOf]; omega
    · obtain rfl : N = i := by omega
      obtain ⟨q, n, c, h4, _, _⟩ := HU.out.k
      have c4 : wr.cell? ⟨w.heap.size + 1 + 1, 0, none⟩ = some (.slice q n c) := by rw [cell_of_row _ _ _ _ _ _ h4]; rfl
      have g4 := frozen_of_row _ _ 0 _ _ h4
      have HUZ := hid (HU.out.setK (kn' := []) (q := none) (n := 0) 0 (L.nil _ _) (fun h => absurd h (by omega)))
      clear h4
      go_wp2_with fail
      have HU2 := hid (U2.start HUZ.out)
      have HUW : Hid (w.heap.size + 1 + 1 < wr.heap.size) := lt_of_heap (HU.out.k.choose_spec.choose_spec.choose_spec.1)
      have e7 : (wr.setCell ⟨w.heap.size + 1 + 1, 0, none⟩ (Value.slice none 0 0)).heap.size = wr.heap.size := by simp
      rw [e7] at HU2
      obtain ⟨W8, hW8⟩ : ∃ W8, (wr.setCell ⟨w.heap.size + 1 + 1, 0, none⟩ (Value.slice none 0 0)).alloc (Obj.cells #[Value.slice none 0 0] 39) = W8 := ⟨_, rfl⟩
      have ap8 : Apart [] w W8 := by rw [← hW8]; exact HUZ.out.ap.alloc _
      have e8 : W8.heap.size = wr.heap.size + 1 := by rw [← hW8]; simp
      rw [hW8] at HU2 ⊢
      have HAP8 := hid ap8
      have HE8 := hid e8
      clear hW8 ap8 c4 g4 e7 e8 HUZ HU
      refine (backward_ok (HL.out.kept0 HAP8.out)).mono ?_
      rintro _ Wl ⟨Bb, rfl, hbk, hBb, a8⟩
      have HBK := hid hbk
      have HBB := hid hBb
      have HA8 := hid a8
      clear hbk hBb a8
      dsimp only
      go_wp2_with fail
      have hz8 : wr.heap.size < Wl.heap.size := by have h1 := HA8.out.size; have h2 := HE8.out; omega
      have hw8 : w.heap.size ≤ wr.heap.size := Nat.le_of_lt (by have h1 := HUW.out; omega)
      have HI0 : Hid (U2 w Wl w.heap.size (w.heap.size + 1) (w.heap.size + 1 + 1) wr.heap.size Wl.heap.size N (cvL rs N N) [] []) := (HU2.out _ hz8).apart0 HA8.out
      have HPW : Hid (∀ P o, p = some ⟨P, o, none⟩ → 0 < N → P < w.heap.size) := fun P o e h0 => by
        obtain ⟨P', o', e', hP, _⟩ := HL.out.at h0
        rw [e] at e'
        simp at e'
        rw [e'.1]; exact hP
      refine (wpIn_wide (n := 6)).1 ?_
      refine wpIn_rangeFunc_ownH rfl (by decide) (gf := 115) (lb := #[.pointer (some ⟨Bb, 0, none⟩)]) rfl trivial (enters_of Tryd.func115 (by kernel_rfl) rfl)
        (back_stops (6 - 1) (by decide) (fun k => k = w.heap.size + 1 + 1 ∨ k = wr.heap.size) Bb p N cap es Wl HBK.out ?hb1 ?hb2) (fun h k j hj hc => (k j hj hc).trans (h j hj hc)) (fun W l o' o'' hl ho hc hw j hj hcj => World.putObj_heap_other (by omega)) (Below.refl _ _) (fun _ => rfl)
        (fun pre W => U2 w W w.heap.size (w.heap.size + 1) (w.heap.size + 1 + 1) wr.heap.size Wl.heap.size N (cvL rs N N) (foU es rs pre).1 (foU es rs pre).2 ∧ Wl.heap.size ≤ W.heap.size)
        (fun c pre W => False) ?hI ?hIx ⟨HI0.out, Nat.le_refl _⟩
        (fun c a' W => ∃ b9, Wl.heap.size ≤ b9 ∧ W.heap[b9]? = some (boxE (gE es c.1)) ∧ (∃ ob : Obj, W.heap[wr.heap.size]? = some ob ∧ ob.isCells = true ∧ ∀ s : Sl, ob = .cells #[s.v] 39 (0, 0) → s.v.ownBlock ≠ some b9) ∧ a' = { tmps := #[.slice p N cap, undef, .slice none 0 0, .pointer (some ⟨w.heap.size + 1, 0, none⟩), .pointer (some ⟨w.heap.size + 1 + 1, 0, none⟩), u5, u6, .pointer (some ⟨wr.heap.size, 0, none⟩), .int .i64 (c.1 : Nat), .pointer (some ⟨b9, 0, none⟩), .slice p N cap, .int .i64 N, .slice (some ⟨w.heap.size, 0, none⟩) N N, .slice p N cap, .int .i64 N, .int .i64 N, .bool false, u17, u18, u19, u20, u21, u22, u23, u24, u25, u26, u27, u28, u29, u30, u31, u32, .slice p N cap, .func (.func 115) #[] #[.pointer (some ⟨Bb, 0, none⟩)], .int .i64 (c.1 : Nat), .agg #[.int .i64 (gE es c.1).n, .int .i64 (gE es c.1).c, .string (gE es c.1).k, .bool (gE es c.1).d, .slice (gE es c.1).v.p (gE es c.1).v.n (gE es c.1).v.c, .slice (gE es c.1).x.p (gE es c.1).x.n (gE es c.1).x.c], undef, undef, undef, undef, undef, undef, undef, undef, undef, undef, undef, undef, undef, undef, undef, undef, undef, undef, undef, undef, undef, undef, undef, undef], defers := [] }) ?hAx ?assign ?body ?done ?stop
      case hb1 => intro h; have h1 := HBB.out; have h2 := HE8.out; have h3 := HUW.out; rcases h with h | h <;> omega
      case hb2 =>
        intro h0 P o e h
        have h1 := HPW.out P o e h0
        have h3 := HUW.out
        rcases h with h | h <;> omega
      case hI =>
        intro pre A B row hs hg hr
        exact ⟨hs.1.grown hg (fun r e => ⟨by have := (hr r e).1; omega, (hr r e).2⟩), Nat.le_trans hs.2 hg.size⟩
      case hIx => intro c pre A B row hs; exact hs.elim
      case hAx =>
        rintro x a' u A B row ⟨b9, h1, h2, ⟨ob, h3, h4, h5⟩, h6⟩ hg hr
        exact ⟨b9, h1, (grownBy_keeps_cells hg (fun r e => (hr r e).2) h2 rfl).trans h2, ⟨ob, (grownBy_keeps_cells hg (fun r e => (hr r e).2) h3 h4).trans h3, h4, h5⟩, h6⟩
      case assign =>
        intro l pre c W K hi hK
        have HK := hid hK
        have HI := hid hi
        clear hi hK
        unfold E.agg Sl.v
        gi_wp2
        refine HK.out _ _ ?_ ?_ ?_ ?_
        · exact ⟨((Apart.refl [] W).alloc _).size, fun k o _ hk ho => (((Apart.refl [] W).alloc _).block k (lt_of_heap hk) (by simp)).trans hk⟩
        · intro k hk _
          exact ((Apart.refl [] W).alloc _).block k (Nat.lt_of_lt_of_le hk HI.out.2) (by simp)
        · exact ⟨HI.out.1.apart0 ((Apart.refl [] W).alloc _), Nat.le_trans HI.out.2 ((Apart.refl [] W).alloc _).size⟩
        · obtain ⟨s, h1, h7, ho, hB⟩ := HI.out.1.ex
          refine ⟨W.heap.size, HI.out.2, heap_alloc_new W _, ⟨_, (((Apart.refl [] W).alloc _).block _ (lt_of_heap h7) (by simp)).trans h7, rfl, fun s2 e2 e3 => ?_⟩, rfl⟩
          simp [Sl.v] at e2
          have e4 : s2.v = s.v := by unfold Sl.v; rw [e2.1, e2.2.1, e2.2.2]
          rw [e4] at e3
          obtain ⟨cur, hc⟩ := own_typ ho.nw.own e3
          exact absurd (lt_of_heap hc) (by omega)
      case body =>
        rintro l pre c a' W hl8 hr8 ⟨hu, hzW⟩ ⟨b9, hb9, h9, ⟨ob, hob, hobc, hob2⟩, rfl⟩ hlen
        obtain ⟨s, h1, h7, ho, hB⟩ := hu.ex
        have HN9 : Hid (s.v.ownBlock ≠ some b9) := hob2 s (by rw [h7] at hob; cases hob; rfl)
        clear hob hob2 hobc ob
        obtain ⟨q, n, k, h4, hLk, hq⟩ := h1.k
        have hcN : ((c.1 : Nat) : Int) < (N : Int) := by have := c.2; omega
        have d3 : W.cell? ⟨w.heap.size + 1, 0, none⟩ = some (.slice (some ⟨w.heap.size, 0, none⟩) N N) := by rw [cell_of_row _ _ _ _ _ _ h1.c3]; rfl
        have dC : W.cell? ⟨w.heap.size, c.1, none⟩ = some (.bool (cvd rs c.1)) := by
          rw [cell_of_row _ _ _ _ _ _ h1.cC]; simp [cvL]
        have d4 : W.cell? ⟨w.heap.size + 1 + 1, 0, none⟩ = some (.slice q n k) := by rw [cell_of_row _ _ _ _ _ _ h4]; rfl
        have d7 : W.cell? ⟨wr.heap.size, 0, none⟩ = some (.slice s.p s.n s.c) := by rw [cell_of_row _ _ _ _ _ _ h7]; rfl
        obtain ⟨ci, hci⟩ : ∃ ci, ci = c.1 := ⟨_, rfl⟩
        have rd := (HR.out c.1 c.2).kept0 h1.ap
        have HHs : Hid (∀ X, Apart [] W X → Calls Tryd.prog 46 #[.slice q n k, .agg #[.int .i64 (gE es c.1).n, .int .i64 (gE es c.1).c]] X fun r w' => r = .returned (.bool (hasd (foU es rs pre).1 (gR rs c.1).n (gR rs c.1).c)) ∧ Apart [] X w') := fun X a => has_any _ _ (hLk.kept0 a) _ (by unfold hasd; rw [rd.n, rd.c])
        have HFS := hid (foU_snoc es rs pre c)
        have HLEN := hid (foU_len es rs pre)
        have HFO := hid (foU_ok es rs pre)
        have HRD := hid (HR.out c.1 c.2)
        have HU := hid hu
        have HZW := hid hzW
        have H9 := hid h9
        have HTW := hid (HT.out.kept0 h1.ap)
        have HLEN2 := hid hlen
        unfold stU at HFS
        generalize foU es rs pre = st at *
        generalize gR rs c.1 = y at *
        generalize gE es c.1 = x at *
        generalize cvd rs c.1 = cv at *
        rw [← hci] at dC hcN ⊢
        have H7 := hid h7
        have HB := hid hB
        clear hu h1 h7 ho hB h4 hLk hq rd hzW h9 hl8 hr8 hlen hci
        cases cv
        case true =>
          obtain ⟨x0, x1, x2, x3, x4, x5⟩ := box9 H9.out
          gi_wp2
          refine ⟨trivial, ?_⟩
          have HUY := HU
          have H9Y := H9
          have HCH : Hid (Ch Wl.heap.size (w.heap.size + 1 + 1) wr.heap.size W W) := Ch.of_apart0 (Apart.refl _ _)
          clear d3 dC d4 d7 x0 x1 x2 x3 x4 x5
          rw [if_neg (by simp)] at HFS
          obtain ⟨sY, h1Y, _, _, _⟩ := HUY.out.ex
          obtain ⟨q2, n2, k2, h4Y, hL2, _⟩ := h1Y.k
          have d4Y : W.cell? ⟨w.heap.size + 1 + 1, 0, none⟩ = some (.slice q2 n2 k2) := by rw [cell_of_row _ _ _ _ _ _ h4Y]; rfl
          have x5Y := (box9 H9Y.out).2.2.2.2.2
          have HLXY := hid (HRD.out.x.kept0 h1Y.ap)
          have HTY := hid (HT.out.kept0 h1Y.ap)
          have H4Y := hid h4Y
          have HL2 := hid hL2
          clear h1Y h4Y hL2
          gi_wp2
          refine ⟨trivial, ?_⟩
          refine (CallsIn.inRound l (callsIn_wide.2 (unions_new 64 (HTY.out.kept0 ((Apart.refl [] _).alloc _)) (two_lx k2 HL2.out HLXY.out) (by omega)))).mono ?_
          rintro _ w9 ⟨u, rfl, hk9⟩
          obtain ⟨q', n', c', rfl, hL9, a9, hn9⟩ := hk9.ex
          rw [unis_two _ HFO.out] at hL9
          have a49 : Apart [] W w9 := ((Apart.refl [] _).alloc _).trans a9
          have e49 := (a49.block _ (lt_of_heap H4Y.out) (by simp)).trans H4Y.out
          have c4' : w9.cell? ⟨w.heap.size + 1 + 1, 0, none⟩ = some (.slice q2 n2 k2) := by rw [cell_of_row _ _ _ _ _ _ e49]; rfl
          have g4 := frozen_of_row _ _ 0 _ _ e49
          have HUN := hid ((HUY.out.apart0 ((Apart.refl [] _).alloc _)).setK a9 c' hL9 hn9)
          have HCN := hid (HCH.out.trans (HUY.out.ch a49 (.slice q' n' c')))
          clear hk9 hL9 a9 hn9 a49 e49 d4Y x5Y
          dsimp only
          gi_wp2
          refine ⟨⟨HCN.out.size, fun k o _ hk ho => HCN.out.oth k o hk ho⟩, fun k hk hc => HCN.out.low k hk (Nat.lt_of_lt_of_le hk HZW.out) (fun e => hc (.inl e)) (fun e => hc (.inr e)), ?_, Nat.le_trans HZW.out HCN.out.size⟩
          rw [HFS.out]
          exact HUN.out
        case false =>
          obtain ⟨x0, x1, x2, x3, x4, x5⟩ := box9 H9.out
          gi_wp2
          refine ⟨trivial, ?_⟩
          refine (CallsIn.inRound l (callsIn_wide.2 (HHs.out W (Apart.refl _ _)))).mono ?_
          rintro _ w2 ⟨rfl, a2⟩
          dsimp only
          have HA2 := hid a2
          have H92 : Hid (w2.heap[b9]? = some (boxE x)) := (a2.block _ (lt_of_heap H9.out) (by simp)).trans H9.out
          have HU22 := hid (HU.out.apart0 a2)
          have H72 : Hid (w2.heap[wr.heap.size]? = some (.cells #[s.v] 39 (0, 0))) := (a2.block _ (lt_of_heap H7.out) (by simp)).trans H7.out
          clear d3 dC d4 d7 x0 x1 x2 x3 x4 x5 a2
          cases hh : hasd st.1 y.n y.c
          case true =>
            rw [hh] at HFS
            rw [if_neg (by simp)] at HFS
            have HUY := HU22
            have H9Y := H92
            have HCH : Hid (Ch Wl.heap.size (w.heap.size + 1 + 1) wr.heap.size W w2) := Ch.of_apart0 HA2.out
            clear hh
            obtain ⟨sY, h1Y, _, _, _⟩ := HUY.out.ex
            obtain ⟨q2, n2, k2, h4Y, hL2, _⟩ := h1Y.k
            have d4Y : w2.cell? ⟨w.heap.size + 1 + 1, 0, none⟩ = some (.slice q2 n2 k2) := by rw [cell_of_row _ _ _ _ _ _ h4Y]; rfl
            have x5Y := (box9 H9Y.out).2.2.2.2.2
            have HLXY := hid (HRD.out.x.kept0 h1Y.ap)
            have HTY := hid (HT.out.kept0 h1Y.ap)
            have H4Y := hid h4Y
            have HL2 := hid hL2
            clear h1Y h4Y hL2
            gi_wp2
            refine ⟨trivial, ?_⟩
            refine (CallsIn.inRound l (callsIn_wide.2 (unions_new 64 (HTY.out.kept0 ((Apart.refl [] _).alloc _)) (two_lx k2 HL2.out HLXY.out) (by omega)))).mono ?_
            rintro _ w9 ⟨u, rfl, hk9⟩
            obtain ⟨q', n', c', rfl, hL9, a9, hn9⟩ := hk9.ex
            rw [unis_two _ HFO.out] at hL9
            have a49 : Apart [] w2 w9 := ((Apart.refl [] _).alloc _).trans a9
            have e49 := (a49.block _ (lt_of_heap H4Y.out) (by simp)).trans H4Y.out
            have c4' : w9.cell? ⟨w.heap.size + 1 + 1, 0, none⟩ = some (.slice q2 n2 k2) := by rw [cell_of_row _ _ _ _ _ _ e49]; rfl
            have g4 := frozen_of_row _ _ 0 _ _ e49
            have HUN := hid ((HUY.out.apart0 ((Apart.refl [] _).alloc _)).setK a9 c' hL9 hn9)
            have HCN := hid (HCH.out.trans (HUY.out.ch a49 (.slice q' n' c')))
            clear hk9 hL9 a9 hn9 a49 e49 d4Y x5Y
            dsimp only
            gi_wp2
            refine ⟨⟨HCN.out.size, fun k o _ hk ho => HCN.out.oth k o hk ho⟩, fun k hk hc => HCN.out.low k hk (Nat.lt_of_lt_of_le hk HZW.out) (fun e => hc (.inl e)) (fun e => hc (.inr e)), ?_, Nat.le_trans HZW.out HCN.out.size⟩
            rw [HFS.out]
            exact HUN.out
          case false =>
            rw [hh] at HFS
            rw [if_pos (by simp)] at HFS
            clear hh
            obtain ⟨s', W', hrun, h7', hu', hch, aps, hzB⟩ := HU22.out.app (Nat.le_trans HZW.out HA2.out.size) H72.out (by have h1 := HLEN.out; have h2 := HLEN2.out; omega) x 39
            have hbd := buildE w2 x
            have d7 : w2.cell? ⟨wr.heap.size, 0, none⟩ = some (.slice s.p s.n s.c) := by rw [cell_of_row _ _ _ _ _ _ H72.out]; rfl
            have d7' : W'.cell? ⟨wr.heap.size, 0, none⟩ = some (.slice s.p s.n s.c) := by rw [cell_of_row _ _ _ _ _ _ h7']; rfl
            have g7 := frozen_of_row _ _ 0 _ _ h7'
            obtain ⟨x0, x1, x2, x3, x4, x5⟩ := box9 H92.out
            have HUY := hid hu'
            have HCH := hid ((Ch.of_apart0 (z := Wl.heap.size) (b4 := w.heap.size + 1 + 1) (b7 := wr.heap.size) HA2.out).trans hch)
            have H9Y : Hid ((W'.setCell ⟨wr.heap.size, 0, none⟩ s'.v).heap[b9]? = some (boxE x)) := by
              have e1 := (aps.block _ (lt_of_heap H92.out) (fun m => HN9.out (by simpa using m))).trans H92.out
              have ab : Apart [wr.heap.size] W' (W'.setCell ⟨wr.heap.size, 0, none⟩ s'.v) := (Apart.refl _ _).setCell (.inl (by simp)) _
              exact (ab.block _ (lt_of_heap e1) (by simp; omega)).trans e1
            unfold E.agg Sl.v at hbd
            unfold Sl.v at hrun HUY HCH H9Y
            clear hu' hch aps hzB h7'
            obtain ⟨Y, hY⟩ : ∃ Y, W'.setCell ⟨wr.heap.size, 0, none⟩ (.slice s'.p s'.n s'.c) = Y := ⟨_, rfl⟩
            rw [hY] at HUY HCH H9Y
            obtain ⟨sY, h1Y, _, _, _⟩ := HUY.out.ex
            obtain ⟨q2, n2, k2, h4Y, hL2, _⟩ := h1Y.k
            have d4Y : Y.cell? ⟨w.heap.size + 1 + 1, 0, none⟩ = some (.slice q2 n2 k2) := by rw [cell_of_row _ _ _ _ _ _ h4Y]; rfl
            have x5Y := (box9 H9Y.out).2.2.2.2.2
            have HLXY := hid (HRD.out.x.kept0 h1Y.ap)
            have HTY := hid (HT.out.kept0 h1Y.ap)
            have H4Y := hid h4Y
            have HL2 := hid hL2
            clear h1Y h4Y hL2
            gi_wp2_with (gi_at_builtin; refine wpListIn_app2 rfl _ _ 39 39 rfl _ _ rfl rfl _ _ hrun ?_)
            clear hbd hrun d7 d7' g7 x0 x1 x2 x3 x4 x5 hY
            refine ⟨trivial, ?_⟩
            refine (CallsIn.inRound l (callsIn_wide.2 (unions_new 64 (HTY.out.kept0 ((Apart.refl [] _).alloc _)) (two_lx k2 HL2.out HLXY.out) (by omega)))).mono ?_
            rintro _ w9 ⟨u, rfl, hk9⟩
            obtain ⟨q', n', c', rfl, hL9, a9, hn9⟩ := hk9.ex
            rw [unis_two _ HFO.out] at hL9
            have a49 : Apart [] Y w9 := ((Apart.refl [] _).alloc _).trans a9
            have e49 := (a49.block _ (lt_of_heap H4Y.out) (by simp)).trans H4Y.out
            have c4' : w9.cell? ⟨w.heap.size + 1 + 1, 0, none⟩ = some (.slice q2 n2 k2) := by rw [cell_of_row _ _ _ _ _ _ e49]; rfl
            have g4 := frozen_of_row _ _ 0 _ _ e49
            have HUN := hid ((HUY.out.apart0 ((Apart.refl [] _).alloc _)).setK a9 c' hL9 hn9)
            have HCN := hid (HCH.out.trans (HUY.out.ch a49 (.slice q' n' c')))
            clear hk9 hL9 a9 hn9 a49 e49 d4Y x5Y
            dsimp only
            gi_wp2
            refine ⟨⟨HCN.out.size, fun k o _ hk ho => HCN.out.oth k o hk ho⟩, fun k hk hc => HCN.out.low k hk (Nat.lt_of_lt_of_le hk HZW.out) (fun e => hc (.inl e)) (fun e => hc (.inr e)), ?_, Nat.le_trans HZW.out HCN.out.size⟩
            rw [HFS.out]
            exact HUN.out
      case done =>
        rintro D ys W hD rfl ⟨hu, hzW⟩ hdD
        rw [foU_dn es rs N HRL.out N (Nat.le_refl _)] at hu
        dsimp only at hu
        obtain ⟨s, h1, h7, ho, hB⟩ := hu.ex
        have d7 : W.cell? ⟨wr.heap.size, 0, none⟩ = some (.slice s.p s.n s.c) := by rw [cell_of_row _ _ _ _ _ _ h7]; rfl
        have hsn : s.n ≤ 2000000 := by have e1 := ho.len; have e2 := bU_len es rs N N; omega
        have HRV := hid (reverse_ok ho hsn)
        have HO := hid ho
        have H7 := hid h7
        have HB := hid hB
        have HDD := hid hdD
        have HLT := hid hu.lt
        unfold Sl.v at HRV
        clear hu h1 h7 ho hB hdD
        go_wp2_with fail
        refine HRV.out.mono ?_
        rintro _ W3 ⟨⟨v3, rfl⟩, ho3, a3⟩
        have a3' : Apart s.v.ownBlock.toList W W3 := a3
        have h73 := (a3'.block _ (lt_of_heap H7.out) (fun m => by simp at m; have h1 := HB.out _ m; have h2 := HLT.out; omega)).trans H7.out
        have d73 : W3.cell? ⟨wr.heap.size, 0, none⟩ = some (.slice s.p s.n s.c) := by rw [cell_of_row _ _ _ _ _ _ h73]; rfl
        have HD3 : Hid (W3.heap[D]? = some (.deferred (some []))) := (a3'.block _ (lt_of_heap HDD.out) (fun m => by
          simp at m
          obtain ⟨cur, hc⟩ := own_typ HO.out.nw.own m
          rw [HDD.out] at hc
          cases hc)).trans HDD.out
        have HO3 := hid ho3
        clear a3 a3' h73 ho3 d7
        dsimp only
        go_wp2_with fail
        simp only [noPanic, bodyPostM]
        refine ⟨by simp, .inl ⟨D, _, rfl, run_takeDeferred HD3.out, ?_⟩⟩
        refine ⟨_, results_tmp rfl _ _ _, s, rfl, ?_⟩
        have aD : Apart [D] W3 (W3.putObj D (.deferred none)) := ⟨rfl, rfl, rfl, by simp, fun k _ hk => World.putObj_heap_other (fun e => hk (by simp [e]))⟩
        have hDw : w.heap.size ≤ D := by omega
        have o3 := HO3.out
        exact ⟨⟨own_apart o3.nw.own aD (fun k hk m => by
          simp at m; subst m
          obtain ⟨cur, hc⟩ := own_typ o3.nw.own hk
          rw [HD3.out] at hc; cases hc), o3.nw.new, o3.nw.ap.trans' aD (fun y hy => by simp at hy; subst hy; exact .inr hDw)⟩, o3.len⟩
      case stop => rintro D c pre W hD hpre hF; exact hF.elim
end Go.Proofs.YtokaeiahhmaokaaDoor.ds
namespace Go.Proofs.YtokaeiahhmaokaaDoor.ds
open Go.ChangeShapes Go.WideShapes Go.ChangeAt Go.RowKit Go.Sort
set_option linter.unusedVariables false
set_option linter.unusedSimpArgs false
/-- an operation that is not wanted, of whatever kind -/
theorem wpAnyH_pass {P : Program} {ops : Array Oper} {Q : Exit → Act → World → Prop} {md : Region.Mode} {S : World → Prop} {fuel : Nat} {listed : Array Bool} {a : Act} {w : World} (i : Nat) {o : Oper} (hr : Region.ready md ops listed = [i]) (ho : ops[i]? = some o) (hw : Region.wanted o (yielded ops a.tmps) = false) (hS : S w) (h : wpAnyH P md ops Q S fuel (listed.setIfInBounds i true) (a.put o.dst undef) w) : wpAnyH P md ops Q S (fuel + 1) listed a w :=
  wpAnyH_ready hr (by simp) (AllReadyH.cons ho (fun K' hK => by rw [if_neg (by rw [hw]; simp)]; exact hK.out _ _ hS (fun _ => h)) AllReadyH.nil)
/-- what is asked of the i-th of a list -/
def okI (rs : List Wr) (N : Nat) (gap : Int) (i : Nat) : Prop := (keq (gR rs i).k (gR rs 0).k = true ∧ rightP (gR rs i) gap ∧ (0 < i → belowW (gR rs (i - 1)) (gR rs i) = true)) ∧ ∀ j, j < N → cvW (gR rs i) (gR rs j) = false
def rvalP (rs : List Wr) (N : Nat) (gap : Int) : Prop := (1 ≤ gap ∧ gap ≤ 64) ∧ ∀ i, i < N → okI rs N gap i
end Go.Proofs.YtokaeiahhmaokaaDoor.ds
