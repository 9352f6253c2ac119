import Derived.Test.YtdbeeikjngnnnaaG16
namespace Go.Proofs.Ytdbeeikjngnnnaa.ty
open Go.ChangeShapes Go.WideShapes Go.ChangeAt Go.RowKit
set_option linter.unusedVariables false
set_option linter.unusedSimpArgs false
/-- an element's bytes in memory -/
structure El (w : World) (b : Sl) (x : ByteArray) : Prop where
  rd : RdT w b.p 5 (byts (bsk x))
  len : (bsk x).length = b.n
  ok : b.ok
theorem RdT.tk {w w' : World} {p : Option Addr} {t : Nat} {us : List Value} {ts : List Nat} (h : RdT w p t us) (k : TK ts w w') (ht : t ∉ ts) : RdT w' p t us := by
  obtain ⟨Z, a, hz⟩ := k
  refine h.kept a (fun k hk cur m e => ?_)
  obtain ⟨cu, t', ht', hh⟩ := hz k hk
  rw [hh] at e
  simp only [Option.some.injEq, Obj.cells.injEq] at e
  exact ht (e.2.1 ▸ ht')
theorem El.tk {w w' : World} {b : Sl} {x : ByteArray} {ts : List Nat} (h : El w b x) (k : TK ts w w') (ht : 5 ∉ ts) : El w' b x := ⟨h.rd.tk k ht, h.len, h.ok⟩
def svs (l : List Sl) : List Value := l.map fun b => Value.slice b.p b.n b.c
structure Els (w : World) (l : List Sl) (es : List En) : Prop where
  len : l.length = es.length
  at_ : ∀ (i : Nat) (b : Sl) (x : En), l[i]? = some b → es[i]? = some x → El w b x.e
theorem Els.tk {w w' : World} {l : List Sl} {es : List En} {ts : List Nat} (h : Els w l es) (k : TK ts w w') (ht : 5 ∉ ts) : Els w' l es := ⟨h.len, fun i b x h1 h2 => (h.at_ i b x h1 h2).tk k ht⟩
theorem Els.snoc {w : World} {l : List Sl} {es : List En} {b : Sl} {x : En} (h : Els w l es) (k : El w b x.e) : Els w (l ++ [b]) (es ++ [x]) := by
  refine ⟨by simp [h.len], fun i b' x' h1 h2 => ?_⟩
  by_cases hi : i < l.length
  · rw [List.getElem?_append_left hi] at h1
    rw [List.getElem?_append_left (by rw [← h.len]; exact hi)] at h2
    exact h.at_ i b' x' h1 h2
  · rw [List.getElem?_append_right (by omega)] at h1
    rw [List.getElem?_append_right (by rw [← h.len]; omega)] at h2
    rw [← h.len] at h2
    have h0 : i - l.length = 0 := by
      by_cases hq : i - l.length = 0
      · exact hq
      · rw [List.getElem?_eq_none (by simp; omega)] at h1; cases h1
    rw [h0] at h1 h2
    simp at h1 h2
    subst h1 h2
    exact k
theorem info22 : (Try.prog.info? 22).map (fun i => (i.zero, i.size, i.bytes)) = some (some (.slice none 0 0), 1, 24) := by kernel_rfl
theorem app_elem {w W : World} {s : Sl} {l : List Sl} (h : Nw w W 22 1 s (svs l)) (b : Sl) (hl : s.n + 1 ≤ 1000000) :
    ∃ s' W', (Builtin.append_ #[42, 42] 42 #[.slice s.p s.n s.c, .slice (some ⟨W.heap.size, 0, none⟩) 1 1]).run Try.prog (W.alloc (Obj.cells #[.slice b.p b.n b.c] 22)) = .ok (.slice s'.p s'.n s'.c) W' ∧ Nw w W' 22 1 s' (svs (l ++ [b])) ∧ s'.n = s.n + 1 ∧ TK [22] W W' := by
  obtain ⟨i0, hif, hz0, hz1, hz2⟩ := info_of info22
  obtain ⟨s5, w5, hrun, hnw5, hs5, ap5, -⟩ := run_appM (s := s) 42 42 22 i0 _ 1 24 Try.underlying42 hif hz0 hz1 hz2 rfl (by decide) h 1 (svs [b]) (by decide) rfl (by intro u hu; simp [svs] at hu; subst hu; rfl) (by unfold maxLen; omega) (by omega)
  exact ⟨s5, w5, hrun, by unfold svs at *; rw [List.map_append]; exact hnw5, hs5, TK.own h ap5 (by simp)⟩
set_option maxHeartbeats 4000000 in
set_option maxRecDepth 100000 in
theorem elements_ok {w : World} {c : List Int} {s : Sl} {es : List En} (hc : c.length = 8) (h : Es w s es) (hn : es.length ≤ 500) : Calls Try.prog 86 #[.agg (sv c s)] w fun r w' => ∃ s', r = .returned (.slice s'.p s'.n s'.c) ∧ ∃ l, Nw w w' 22 1 s' (svs l) ∧ s'.n = es.length ∧ Els w' l es := by
  have HE := hid h
  have Hc := hid hc
  have Hn := hid hn
  clear h hc hn
  have HA := hid (Apart.refl [] w)
  go_enter Try.func86, Try.ntmps86
  go_upto_region 1 with fail
  obtain ⟨X, HXX⟩ : ∃ X, Hid (X = w.heap.size) := ⟨_, rfl⟩
  obtain ⟨w1, hw1⟩ : ∃ W, W = w.alloc (.cells (sv c s) 91) := ⟨_, rfl⟩
  have HSw1 : Hid (Apart [] w w1) := by unfold Hid; rw [hw1]; exact (Apart.refl [] w).alloc _
  have HBX : Hid (w1.heap[X]? = some (.cells (sv c s) 91 (0, 0))) := by unfold Hid; rw [HXX.out, hw1]; exact heap_alloc_new w _
  replace HA := hid (HA.out.trans HSw1.out)
  rw [← hw1, ← HXX.out]
  clear hw1 HXX
  have z : w1.cell? ⟨X, 8, none⟩ = some (.slice s.p s.n s.c) := sv_cell Hc.out HBX.out
  obtain ⟨N, HN⟩ : ∃ N, Hid (N = es.length) := ⟨_, hid rfl⟩
  have hsn : s.n = N := by rw [HN.out]; exact HE.out.len
  rw [hsn] at z
  have hNn : N ≤ 500 := by rw [HN.out]; exact Hn.out
  go_wp2_with fail
  clear z
  go_loopw [3, 9] (fun b v wt => ∃ (i : Nat) (s' : Sl), v = .int .i64 (i : Nat) ∧ i ≤ N ∧ b = .slice s'.p s'.n s'.c ∧ ∃ l, Hid (Nw w wt 22 1 s' (svs l)) ∧ Hid (s'.n = i) ∧ Hid (Els wt l (es.take i))) (fun _ v _ => N - (intOf v).toNat)
  case atStart => exact ⟨0, ⟨none, 0, 0⟩, rfl, Nat.zero_le _, rfl, [], hid ⟨World.ownsRow_nil _ _ _ _, by simp [Sl.v, Value.ownBlock], HA.out⟩, hid rfl, hid ⟨rfl, by simp⟩⟩
  case round =>
    obtain ⟨i, s4, rfl, hi, rfl, l, HW, Hs, HL⟩ := hrel
    generalize wr = wt at *
    by_cases hlt : i < N
    · have hlti : ((i : Nat) : Int) < ((N : Nat) : Int) := by omega
      have Hil : Hid (i < es.length) := hid (by rw [← HN.out]; exact hlt)
      obtain ⟨P, o, hp, hr, hP⟩ := (HE.out.kept0 HW.out.ap).at i Hil.out
      have HRg := hid hr
      have HX : Hid ((es[i]'Hil.out).vs.length = 9) := hid (En.vs_len (HE.out.row _ (List.getElem_mem _)))
      have Hst : Hid (es.take (i + 1) = es.take i ++ [es[i]'Hil.out]) := hid (List.take_succ_eq_append_getElem Hil.out)
      obtain ⟨y, Hy⟩ : ∃ y, Hid (y = es[i]'Hil.out) := ⟨_, hid rfl⟩
      rw [← Hy.out] at HRg HX Hst
      rw [hp]
      clear hr hP hp
      go_upto_region 5 with (first
        | (refine wpL_val rfl (.agg y.vs.toArray) (ex_load106 _ rfl P (o + i * 9) _ rfl HRg.out HX.out) ?_)
        | (refine wpList_store_row rfl 106 _ _ rfl wt.heap.size y.vs.toArray rfl rfl 106 _ (heap_alloc_new wt _) (by rw [size106]; simp [HX.out]) (by simp [HX.out]) (all_oneCell_toArray (by intro u hu; exact evs_one (es := [y]) u (by simpa [evs] using hu))) ?_
           have HB5 := hid (put_new (w := wt) (z := zE) (cs := y.vs.toArray) (T := 106))
           have HS5 := hid (put_apart (w := wt) (z := zE) (cs := y.vs.toArray) (T := 106))
           obtain ⟨Z, HZ⟩ : ∃ X, X = wt.heap.size := ⟨_, rfl⟩
           unfold zE at HB5 HS5
           rw [← HZ] at HB5 HS5 ⊢
           generalize (wt.alloc (.cells #[.string ⟨#[]⟩, .int .i64 0, .int .i64 0, .int .i64 0, .int .i64 0, .int .i64 0, .int .i64 0, .int .i64 0, .int .i64 0] 106)).setRow Z y.vs.toArray = w5 at *
           clear HZ))
      have z5 : w5.cell? ⟨Z, 0, none⟩ = some (.string y.e) := by rw [cell_of_row _ _ _ _ _ _ HB5.out]; rfl
      obtain ⟨b, w6, hcv, a6, ok6, r6, l6⟩ := conv_str w5 y.e
      have HEl : Hid (El w6 b y.e) := hid ⟨r6, l6, ok6⟩
      have HS6 := hid (HS5.out.trans a6)
      replace HW := hid (HW.out.kept HS6.out)
      replace HL := hid (HL.out.tk (TK.of0 (ts := [22]) HS6.out) (by simp))
      clear a6 r6 l6 ok6
      obtain ⟨s7, w7, hrun, n7, l7, t7⟩ := app_elem HW.out b (by rw [Hs.out]; omega)
      have HR := hid hrun
      have HW7 := hid n7
      have Hs7 : Hid (s7.n = i + 1) := hid (by rw [l7, Hs.out])
      have HL7 : Hid (Els w7 (l ++ [b]) (es.take (i + 1))) := hid (by rw [Hst.out]; exact (HL.out.snoc HEl.out).tk t7 (by simp))
      clear hrun n7 l7 t7 HW HL
      go_wp2_with (at_builtin; refine wpList_append3 rfl _ _ 42 rfl _ _ rfl rfl (.slice s7.p s7.n s7.c) w7 HR.out ?_)
      exact ⟨⟨i + 1, s7, by go_num, by omega, rfl, _, HW7, Hs7, HL7⟩, by simp [intOf]; omega⟩
    · have hlti : ¬ ((i : Nat) : Int) < ((N : Nat) : Int) := by omega
      obtain rfl : i = N := by omega
      have He2 : Hid (es.take i = es) := hid (List.take_of_length_le (by rw [← HN.out]; exact Nat.le_refl _))
      rw [He2.out] at HL
      go_wp2_with fail
      go_ret
      exact ⟨s4, rfl, l, HW.out, by rw [Hs.out, HN.out], HL.out⟩
end Go.Proofs.Ytdbeeikjngnnnaa.ty
namespace Go.Proofs.Ytdbeeikjngnnnaa.ty
open Go.ChangeShapes Go.WideShapes Go.ChangeAt Go.RowKit
set_option linter.unusedVariables false
set_option linter.unusedSimpArgs false
theorem build91 {u : List Int} (hu : u.length = 8) (W : World) : (Instr.build 91 #[(1, .agg (rv u).toArray)]).run Try.prog W = .ok (.agg (sv u ⟨none, 0, 0⟩)) W := by
  obtain ⟨a0, a1, a2, a3, a4, a5, a6, a7, rfl⟩ := list8 hu
  kernel_rfl
theorem ex_build91 {u : List Int} {W : World} {eval : Operand → Value} {op : Oper} (x : Operand) (ho : op.op = .build 91 #[(1, x)]) (hx : eval x = .agg (rv u).toArray) (hu : u.length = 8) : (execOp eval op).run Try.prog W = .ok (.value (.agg (sv u ⟨none, 0, 0⟩))) W := by
  unfold execOp
  have e : (#[(1, x)] : Array (Nat × Operand)).map (fun (i, x) => (i, eval x)) = #[(1, .agg (rv u).toArray)] := by simp [hx]
  simp only [ho, e, Sem.run_bind, build91 hu W, Sem.run_pure, Result.andThen_ok]
theorem sv_one (c : List Int) (s : Sl) : (sv c s).all Value.oneCell' = true := by
  unfold sv
  exact all_oneCell_toArray (by
    intro u hu
    rcases List.mem_append.1 hu with h | h
    · exact rv_one _ u h
    · simp at h; subst h; rfl)
set_option maxHeartbeats 4000000 in
set_option maxRecDepth 100000 in
theorem smerged0 {w : World} {c d : List Int} {s o : Sl} (hc : c.length = 8) (hd : d.length = 8) (hs : s.n = 0) (ho : o.n = 0) : Calls Try.prog 36 #[.agg (sv c s), .agg (sv d o)] w fun r w' => r = .returned (.agg (sv (gr c d) ⟨none, 0, 0⟩)) ∧ Apart [] w w' := by
  have Hc := hid hc
  have Hd := hid hd
  clear hc hd
  have HA := hid (Apart.refl [] w)
  obtain ⟨g, Hg⟩ : ∃ g, Hid (g = gr c d) := ⟨_, hid rfl⟩
  rw [← Hg.out]
  go_enter Try.func36, Try.ntmps36
  go_upto_region 1 with fail
  obtain ⟨X, HXX⟩ : ∃ X, Hid (X = w.heap.size) := ⟨_, rfl⟩
  obtain ⟨w1, hw1⟩ : ∃ W, W = w.alloc (.cells (sv c s) 91) := ⟨_, rfl⟩
  have HSw1 : Hid (Apart [] w w1) := by unfold Hid; rw [hw1]; exact (Apart.refl [] w).alloc _
  have HBX : Hid (w1.heap[X]? = some (.cells (sv c s) 91 (0, 0))) := by unfold Hid; rw [HXX.out, hw1]; exact heap_alloc_new w _
  have HLX : Hid (w.heap.size ≤ X) := by unfold Hid; rw [HXX.out]; exact HA.out.size
  replace HA := hid (HA.out.trans HSw1.out)
  obtain ⟨Y, HXY⟩ : ∃ X, Hid (X = w1.heap.size) := ⟨_, rfl⟩
  obtain ⟨w2, hw2⟩ : ∃ W, W = w1.alloc (.cells (sv d o) 91) := ⟨_, rfl⟩
  have HSw2 : Hid (Apart [] w1 w2) := by unfold Hid; rw [hw2]; exact (Apart.refl [] w1).alloc _
  have HBY : Hid (w2.heap[Y]? = some (.cells (sv d o) 91 (0, 0))) := by unfold Hid; rw [HXY.out, hw2]; exact heap_alloc_new w1 _
  have HLY : Hid (w.heap.size ≤ Y) := by unfold Hid; rw [HXY.out]; exact HA.out.size
  replace HA := hid (HA.out.trans HSw2.out)
  replace HBX := hid (keep0 HSw2.out HBX.out)
  have heY : X + 1 = Y := by rw [HXY.out, hw1, HXX.out]; exact (Array.size_push _).symm
  obtain ⟨Z, HXZ⟩ : ∃ X, Hid (X = w2.heap.size) := ⟨_, rfl⟩
  obtain ⟨w3, hw3⟩ : ∃ W, W = w2.alloc (.cells #[.int .i64 0, .int .i64 0, .int .i64 0, .int .i64 0, .int .i64 0, .int .i64 0, .int .i64 0, .int .i64 0, .slice none 0 0] 91) := ⟨_, rfl⟩
  have HSw3 : Hid (Apart [] w2 w3) := by unfold Hid; rw [hw3]; exact (Apart.refl [] w2).alloc _
  have HBZ : Hid (w3.heap[Z]? = some (.cells #[.int .i64 0, .int .i64 0, .int .i64 0, .int .i64 0, .int .i64 0, .int .i64 0, .int .i64 0, .int .i64 0, .slice none 0 0] 91 (0, 0))) := by unfold Hid; rw [HXZ.out, hw3]; exact heap_alloc_new w2 _
  have HLZ : Hid (w.heap.size ≤ Z) := by unfold Hid; rw [HXZ.out]; exact HA.out.size
  have HNXZ : Hid (X ≠ Z) := by unfold Hid; have := lt_of_heap HBX.out; rw [HXZ.out]; omega
  have HNYZ : Hid (Y ≠ Z) := by unfold Hid; have := lt_of_heap HBY.out; rw [HXZ.out]; omega
  replace HA := hid (HA.out.trans HSw3.out)
  replace HBX := hid (keep0 HSw3.out HBX.out)
  replace HBY := hid (keep0 HSw3.out HBY.out)
  have heZ : Y + 1 = Z := by rw [HXZ.out, hw2, HXY.out]; exact (Array.size_push _).symm
  rw [← hw1, ← HXX.out, ← hw2, heY, ← hw3, heZ]
  clear hw1 HXX hw2 HXY heY hw3 HXZ heZ HSw1 HSw2 HSw3
  have Hgl : Hid (g.length = 8) := hid (by rw [Hg.out]; exact gr_len Hc.out Hd.out)
  have HC := hid (fun wx => greater_ok (w := wx) (a := c) (b := d) Hc.out Hd.out)
  rw [← Hg.out] at HC
  go_upto_region 2 with (first
    | refine wpL_val rfl (.agg (rv c).toArray) (ex_load _ rfl X 0 _ rfl (sv_row HBX.out) (by rw [rv_len, Hc.out])) ?_
    | refine wpL_val rfl (.agg (rv d).toArray) (ex_load _ rfl Y 0 _ rfl (sv_row HBY.out) (by rw [rv_len, Hd.out])) ?_
    | (go_at_call 39; refine (HC.out _).mono ?_; rintro _ w4 ⟨rfl, a4⟩; have HS4 := hid a4; clear a4)
    | refine wpL_val rfl (.agg (sv g ⟨none, 0, 0⟩)) (ex_build91 _ rfl rfl Hgl.out) ?_
    | (refine wpList_store_row rfl 91 _ _ rfl w4.heap.size (sv g ⟨none, 0, 0⟩) rfl rfl 91 _ (heap_alloc_new w4 _) (by rw [size91, sv_size Hgl.out]) (by rw [sv_size Hgl.out]; rfl) (sv_one _ _) ?_
       have HBU := hid (put_new (w := w4) (z := #[.int .i64 0, .int .i64 0, .int .i64 0, .int .i64 0, .int .i64 0, .int .i64 0, .int .i64 0, .int .i64 0, .slice none 0 0]) (cs := sv g ⟨none, 0, 0⟩) (T := 91))
       have HS5 := hid (put_apart (w := w4) (z := #[.int .i64 0, .int .i64 0, .int .i64 0, .int .i64 0, .int .i64 0, .int .i64 0, .int .i64 0, .int .i64 0, .slice none 0 0]) (cs := sv g ⟨none, 0, 0⟩) (T := 91))
       obtain ⟨U, HU⟩ : ∃ X, X = w4.heap.size := ⟨_, rfl⟩
       have HNU : Hid (X ≠ U ∧ Y ≠ U ∧ Z ≠ U ∧ w.heap.size ≤ U) := hid (by have h1 := lt_of_heap (keep0 HS4.out HBX.out); have h2 := lt_of_heap (keep0 HS4.out HBY.out); have h3 := lt_of_heap (keep0 HS4.out HBZ.out); have h4 := HA.out.size; have h5 := HS4.out.size; omega)
       rw [← HU] at HBU HS5 ⊢
       generalize (w4.alloc (.cells #[.int .i64 0, .int .i64 0, .int .i64 0, .int .i64 0, .int .i64 0, .int .i64 0, .int .i64 0, .int .i64 0, .slice none 0 0] 91)).setRow U (sv g ⟨none, 0, 0⟩) = w5 at *
       clear HU))
  replace HA := hid ((HA.out.trans HS4.out).trans HS5.out)
  replace HBX := hid (keep0 HS5.out (keep0 HS4.out HBX.out))
  replace HBY := hid (keep0 HS5.out (keep0 HS4.out HBY.out))
  replace HBZ := hid (keep0 HS5.out (keep0 HS4.out HBZ.out))
  clear HC HS4 HS5
  have hAd : Apart [] w5 w5.drew := (Apart.refl [] w5).drew
  refine wp_region_held_drew (S := fun W => Apart [] w5 W) (by kernel_rfl) hAd (fun hHeld => ?_)
  generalize w5.drew = wd at *
  clear hAd
  refine tk 0 17 (.pointer (some ⟨X, 8, none⟩)) rfl ?_ ?_
  · intro W hSW; go_simp
  simp only [Act.put, List.setIfInBounds_toArray, List.set_cons_zero, List.set_cons_succ]
  refine tk 1 18 (.slice s.p s.n s.c) rfl ?_ ?_
  · intro W hSW; have z := sv_cell Hc.out (keep0 hSW HBX.out); go_simp
  simp only [Act.put, List.setIfInBounds_toArray, List.set_cons_zero, List.set_cons_succ]
  refine tk 2 19 (.pointer (some ⟨Y, 8, none⟩)) rfl ?_ ?_
  · intro W hSW; go_simp
  simp only [Act.put, List.setIfInBounds_toArray, List.set_cons_zero, List.set_cons_succ]
  refine tk 3 20 (.slice o.p o.n o.c) rfl ?_ ?_
  · intro W hSW; have z := sv_cell Hd.out (keep0 hSW HBY.out); go_simp
  simp only [Act.put, List.setIfInBounds_toArray, List.set_cons_zero, List.set_cons_succ]
  refine tk 4 6 (.slice s.p s.n s.c) rfl ?_ ?_
  · intro W hSW; go_simp
  simp only [Act.put, List.setIfInBounds_toArray, List.set_cons_zero, List.set_cons_succ]
  refine tk 5 7 (.slice o.p o.n o.c) rfl ?_ ?_
  · intro W hSW; go_simp
  simp only [Act.put, List.setIfInBounds_toArray, List.set_cons_zero, List.set_cons_succ]
  refine wpAnyH_done (by kernel_rfl) ?_ _
  have HS6 := hid hHeld
  replace HA := hid (HA.out.trans HS6.out)
  replace HBX := hid (keep0 HS6.out HBX.out)
  replace HBY := hid (keep0 HS6.out HBY.out)
  replace HBZ := hid (keep0 HS6.out HBZ.out)
  replace HBU := hid (keep0 HS6.out HBU.out)
  clear hHeld HS6
  rw [hs, ho]
  go_wp2_with fail
  refine wp_loop_rounds 1 ?_
  rw [rounds_succ]
  go_wp2_with (first
    | refine wpList_load_row rfl 91 _ rfl U rfl 91 _ (0, 0) _ HBU.out Try.underlying91 rfl (by rw [size91, sv_size Hgl.out]) ?_
    | (refine wpList_store_row rfl 91 _ _ rfl Z (sv g ⟨none, 0, 0⟩) rfl rfl 91 _ HBZ.out (by rw [size91, sv_size Hgl.out]) (by rw [sv_size Hgl.out]; rfl) (sv_one _ _) ?_))
  refine bodyPost_ret (results_cell_row rfl _ _ Z 91 (sv g ⟨none, 0, 0⟩) _ _ rfl (setRow_heap _ _ _ _ _ _ HBZ.out) Try.underlying91 rfl (by rw [size91, sv_size Hgl.out])) rfl ?_
  exact ⟨rfl, HA.out.trans' (apart_setRow _ Z _) (by intro y hy; simp at hy; rw [hy]; exact .inr HLZ.out)⟩
end Go.Proofs.Ytdbeeikjngnnnaa.ty
