import Derived.Test.YtokaeiahhmaokaaDoorW29
import Derived.Test.YtokaeiahhmaokaaDoorW30
import Derived.Test.YtokaeiahhmaokaaDoorW27
import Derived.Test.YtokaeiahhmaokaaDoorW14
import Derived.Test.YtokaeiahhmaokaaDoorW13
namespace Go.Proofs.YtokaeiahhmaokaaDoor.ds
open Go.ChangeShapes Go.WideShapes Go.ChangeAt Go.RowKit Go.Sort
set_option linter.unusedVariables false
set_option linter.unusedSimpArgs false
def g0 : Gh := ⟨fun _ => ⟨none, 0, 0⟩, fun _ _ => ⟨none, 0, 0⟩, fun _ _ => [], ⟨none, 0, 0⟩, [], ⟨none, 0, 0⟩, fun _ => ⟨none, 0, 0⟩, fun _ => ⟨none, 0, 0⟩, fun _ => ⟨none, 0, 0⟩⟩
def st0 : Wd := ⟨fun _ => [], fun _ _ => [], [], [], fun _ => ⟨0, false, [], []⟩⟩
def zero30 : Array Value := #[.slice none 0 0, .slice none 0 0, .slice none 0 0, .slice none 0 0, .slice none 0 0, .slice none 0 0, .slice none 0 0, .slice none 0 0, .slice none 0 0, .slice none 0 0, .slice none 0 0, .slice none 0 0, .slice none 0 0, .slice none 0 0, .int .i64 0, .bool false, .slice none 0 0, .slice none 0 0, .int .i64 0, .bool false, .slice none 0 0, .slice none 0 0, .int .i64 0, .bool false, .slice none 0 0, .slice none 0 0, .int .i64 0, .bool false, .slice none 0 0, .slice none 0 0]
theorem zero30_at : ∀ i, i < 30 → zero30[i]? = some (wcell g0 st0.cl i) := fun i hi => by
    match i, hi with
    | 0, _ => rfl
    | 1, _ => rfl
    | 2, _ => rfl
    | 3, _ => rfl
    | 4, _ => rfl
    | 5, _ => rfl
    | 6, _ => rfl
    | 7, _ => rfl
    | 8, _ => rfl
    | 9, _ => rfl
    | 10, _ => rfl
    | 11, _ => rfl
    | 12, _ => rfl
    | 13, _ => rfl
    | 14, _ => rfl
    | 15, _ => rfl
    | 16, _ => rfl
    | 17, _ => rfl
    | 18, _ => rfl
    | 19, _ => rfl
    | 20, _ => rfl
    | 21, _ => rfl
    | 22, _ => rfl
    | 23, _ => rfl
    | 24, _ => rfl
    | 25, _ => rfl
    | 26, _ => rfl
    | 27, _ => rfl
    | 28, _ => rfl
    | 29, _ => rfl
    | n + 30, h => exact absurd h (by omega)
theorem inv0 : Inv2 st0 := by
  refine ⟨⟨rfl, fun r hr => ?_, fun r hr => ?_, List.Pairwise.nil, fun r hr => ?_, fun v _ => OkL.nil 64, fun v _ d hd => ?_, fun v _ k _ => ⟨List.Pairwise.nil, fun x => ?_⟩, fun k _ => ⟨fun x hx => ?_, fun x hx => ?_⟩, fun r hr => ?_, fun q _ h => ?_, fun i hi => ?_⟩, fun r hr => ?_, fun q _ => Nat.zero_le _, fun d hd => absurd hd (by simp [st0])⟩
  · exact absurd hr (by simp [st0])
  · exact absurd hr (by simp [st0])
  · exact absurd hr (by simp [st0])
  · have hd' : hasd [] d.1 d.2 = true := hd
    rw [hasd_nil] at hd'; cases hd'
  · constructor
    · intro hx; exact absurd hx (by simp [st0])
    · rintro ⟨hx, _⟩; exact absurd (mem_mkK.1 hx).1 (by simp [st0])
  · exact absurd (mem_mkK.1 hx).1 (by simp [st0])
  · exact absurd (mem_mkK.1 hx).1 (by simp [st0])
  · exact absurd hr (by simp [st0])
  · exact absurd h (by simp [st0])
  · exact absurd hi (by simp [st0])
  · exact absurd hr (by simp [st0])
theorem wm0 (w : World) : WM w (w.alloc (.cells zero30 48)) w.heap.size g0 st0 := by
  have a : Apart [] w (w.alloc (.cells zero30 48)) := (Apart.refl [] w).alloc _
  refine ⟨a, Nat.le_refl _, ⟨zero30, heap_alloc_new w _, rfl, zero30_at⟩, fun v _ => TS.nil _ _ a, fun v _ k _ => FL.nil _ _ a, FL.nil _ _ a, fun v _ k _ b hb => ?_, ?_, rfl, fun i hi => absurd hi (by simp [st0]), fun q _ => ND.nil _ _ a, fun q _ => TS.nil _ _ a⟩
  · simp [g0, Sl.v, Value.ownBlock] at hb
  · exact ⟨World.ownsRow_nil _ _ _ _, by simp [g0, Sl.v, Value.ownBlock], a⟩
/-- what played answers -/
structure PlP (w w' : World) (z : Ending) (N : Nat) : Prop where
  ex : ∃ X g st, z = .returned (.tuple #[.pointer (some ⟨X, 0, none⟩), .bool true]) ∧ Inv2 st ∧ (st.made.length ≤ 40 ∧ st.made.length ≤ N) ∧ WM w w' X g st
set_option maxHeartbeats 16000000 in
set_option maxRecDepth 100000 in
theorem played_law (w : World) (TB : Tab w) (p : Option Addr) (N cap : Nat) (f : Nat → Ev) (h : EvL w p N f) : Calls Tryd.prog 14 #[.slice p N cap] w fun z w' => PlP w w' z N := by
  have HEV := hid h
  have HTB := hid TB
  obtain ⟨X, HX⟩ : ∃ X, Hid (X = w.heap.size) := ⟨_, rfl⟩
  obtain ⟨w1, hw1⟩ : ∃ w1, w1 = w.alloc (.cells zero30 48) := ⟨_, rfl⟩
  have HW1 : Hid (WM w w1 X g0 st0) := by unfold Hid; rw [HX.out, hw1]; exact wm0 w
  unfold zero30 at hw1
  clear h TB
  go_enter Tryd.func14, Tryd.ntmps14
  go_wp2_with fail
  rw [← hw1, ← HX.out]
  clear hw1
  go_loopw [5] (fun a wt => ∃ (i : Nat) (g : Gh) (st : Wd), a = .int .i64 (i : Nat) ∧ i ≤ N ∧ i ≤ 40 ∧ Inv2 st ∧ st.made.length ≤ i ∧ WM w wt X g st) (fun a _ => 40 - (intOf a).toNat)
  case atStart => exact ⟨0, g0, st0, rfl, Nat.zero_le _, Nat.zero_le _, inv0, Nat.le_refl _, HW1.out⟩
  case round =>
    obtain ⟨i, g, st, rfl, hiN, hi40, hI, hml, hW⟩ := hrel
    have HI := hid hI
    have HW := hid hW
    clear hI hW
    by_cases hlt : i < N
    · have hin : ((i : Nat) : Int) < (N : Int) := by omega
      by_cases h40 : i < 40
      · have hi4 : ((i : Nat) : Int) < 40 := by omega
        obtain ⟨P, o, hp, hPl, hc⟩ := HEV.out.rd (by omega)
        subst hp
        have HC : Hid (∀ W, Apart [] w W → W.cell? ⟨P, o + i * 5, none⟩ = some (.int .i64 (f i).a) ∧ W.cell? ⟨P, o + i * 5 + 1, none⟩ = some (.int .i64 (f i).n) ∧ W.cell? ⟨P, o + i * 5 + 2, none⟩ = some (.int .i64 (f i).k) ∧ W.cell? ⟨P, o + i * 5 + 3, none⟩ = some (.int .i64 (f i).q) ∧ W.cell? ⟨P, o + i * 5 + 4, none⟩ = some (.int .i64 (f i).f)) := fun W a => by
          obtain ⟨h1, h2, h3, h4, h5⟩ := hc i hlt
          exact ⟨(a.cell hPl (by simp)).trans h1, (a.cell hPl (by simp)).trans h2, (a.cell hPl (by simp)).trans h3, (a.cell hPl (by simp)).trans h4, (a.cell hPl (by simp)).trans h5⟩
        have HOK := hid (HEV.out.ok i hlt)
        generalize f i = e at *
        obtain ⟨c0, c1, c2, c3, c4⟩ := HC.out wr HW.out.ap
        have HEL := hid (event_law HW.out HI.out HTB.out (by omega) e HOK.out)
        unfold Ev.agg at HEL
        clear hc
        go_wp2_with fail
        refine HEL.out.mono ?_
        clear c0 c1 c2 c3 c4
        rintro _ w2 hp
        obtain ⟨st', g', rfl, hI2, hl2, hW2⟩ := hp.ex
        have HI2 := hid hI2
        have HW2 := hid hW2
        clear hp hI2 hW2
        try dsimp only
        obtain ⟨v, Hv⟩ : ∃ v, Hid (v = wth e.n 4) := ⟨_, rfl⟩
        have hv : v < 4 := by rw [Hv.out]; exact wth_lt _ (by omega)
        have HL4 : Hid (∀ W, Calls Tryd.prog 19 #[.int .i64 e.n, .int .i64 4] W fun r w' => r = .returned (.int .i64 (v : Nat)) ∧ w' = W) := fun W => by rw [Hv.out]; exact within4 e.n HOK.out.n W
        obtain ⟨c0, c1, c2, c3, c4⟩ := HC.out w2 HW2.out.ap
        go_wp2_with fail
        refine (HL4.out w2).mono ?_
        rintro _ w' ⟨rfl, hw'⟩
        rw [hw']
        clear hw' w' c0 c1 c2 c3 c4
        try dsimp only
        go_wp2_with fail
        refine (abstract_law HW2.out HI2.out.inv (by omega) hv (k := 0) (by omega)).mono ?_
        rintro _ w3 ⟨rfl, a3⟩
        have HA3 := hid a3
        clear a3
        try dsimp only
        go_wp2_with fail
        refine (abstract_law (HW2.out.kept HA3.out) HI2.out.inv (by omega) hv (k := 1) (by omega)).mono ?_
        rintro _ w4 ⟨rfl, a4⟩
        have HA4 := hid a4
        clear a4
        try dsimp only
        go_wp2_with fail
        go_roundw
        case rel => exact ⟨i + 1, g', st', by go_num, by omega, by omega, HI2.out, by omega, (HW2.out.kept HA3.out).kept HA4.out⟩
        case measure => simp [intOf]; omega
      · have hi4 : ¬ ((i : Nat) : Int) < 40 := by omega
        go_wp2_with fail
        go_ret2
        exact ⟨X, g, st, rfl, HI.out, ⟨by omega, by omega⟩, HW.out⟩
    · have hin : ¬ ((i : Nat) : Int) < (N : Int) := by omega
      go_wp2_with fail
      go_ret2
      exact ⟨X, g, st, rfl, HI.out, ⟨by omega, by omega⟩, HW.out⟩
set_option maxHeartbeats 16000000 in
set_option maxRecDepth 100000 in
theorem world_walk (w : World) (TB : Tab w) (p : Option Addr) (N cap : Nat) (f : Nat → Ev) (h : EvL w p N f) : Calls Tryd.prog 7 #[.slice p N cap] w fun z w' => z = .returned (.bool true) ∧ Apart [] w w' := by
  have HTB := hid TB
  have HPL := hid (played_law w TB p N cap f h)
  clear h TB
  go_enter Tryd.func7, Tryd.ntmps7
  go_wp2_with fail
  refine HPL.out.mono ?_
  rintro _ w1 hp
  obtain ⟨X, g, st, rfl, hI, ⟨hm, hmN⟩, hW⟩ := hp.ex
  have HI := hid hI
  have HW := hid hW
  clear hp hI hW
  try dsimp only
  go_wp2_with fail
  refine (able_ok w1).mono ?_
  rintro _ w2 ⟨rfl, a2⟩
  have HW2 := hid (HW.out.kept a2)
  clear a2
  try dsimp only
  go_wp2_with fail
  go_loopw [5] (fun a wt => ∃ i : Nat, a = .int .i64 (i : Nat) ∧ i ≤ 4 ∧ WM w wt X g st) (fun a _ => 4 - (intOf a).toNat)
  case atStart => exact ⟨0, rfl, Nat.zero_le _, HW2.out⟩
  case round =>
    obtain ⟨i, rfl, hi, hW⟩ := hrel
    have HW3 := hid hW
    clear hW
    by_cases hlt : i < 4
    · have hin : ((i : Nat) : Int) < 4 := by omega
      go_wp2_with fail
      go_loopw [6] (fun a wt => ∃ j : Nat, a = .int .i64 (j : Nat) ∧ j ≤ 2 ∧ WM w wt X g st) (fun a _ => 2 - (intOf a).toNat)
      case atStart => exact ⟨0, rfl, Nat.zero_le _, HW3.out⟩
      case round =>
        obtain ⟨j, rfl, hj, hW⟩ := hrel
        have HW4 := hid hW
        clear hW
        by_cases hlj : j < 2
        · have hjn : ((j : Nat) : Int) < 2 := by omega
          go_wp2_with fail
          refine (abstract_law HW4.out HI.out.inv (by omega) hlt hlj).mono ?_
          rintro _ w3 ⟨rfl, a3⟩
          have HW5 := hid (HW4.out.kept a3)
          clear a3
          try dsimp only
          have zs : w3.cell? ⟨X, 4 + i * 2 + j, none⟩ = some (.slice (g.s i j).p (g.s i j).n (g.s i j).c) := by
            rw [HW5.out.cell _ (by omega), wc_sib _ _ i j hlt hlj]; rfl
          have HVAL : Hid (Calls Tryd.prog 23 #[.slice (g.s i j).p (g.s i j).n (g.s i j).c, .int .i64 64] w3 fun r w' => r = .returned (.bool true) ∧ Apart [] w3 w') := by
            have hf := HW5.out.sb i hlt j hlj
            have hl := hf.len
            have hl2 := sib_len HI.out.inv hlt hlj
            exact pvalid_ok 64 (HTB.out.kept0 HW5.out.ap) (hf.le (by omega)) hf.reads hl true ⟨fun _ => by rw [← hl]; exact sib_valid HI.out hlt hlj, fun _ => rfl⟩
          obtain ⟨sp, Hsp⟩ : ∃ sp, Hid (sp = (g.s i j).p) := ⟨_, rfl⟩
          obtain ⟨sn, Hsn⟩ : ∃ sn, Hid (sn = (g.s i j).n) := ⟨_, rfl⟩
          obtain ⟨sc, Hsc⟩ : ∃ sc, Hid (sc = (g.s i j).c) := ⟨_, rfl⟩
          rw [← Hsp.out, ← Hsn.out, ← Hsc.out] at zs HVAL
          go_wp2_with fail
          refine HVAL.out.mono ?_
          clear zs
          rintro _ w4 ⟨rfl, a4⟩
          have HW6 := hid (HW5.out.kept a4)
          clear a4
          try dsimp only
          go_wp2_with fail
          go_roundw
          case rel => exact ⟨j + 1, by go_num, by omega, HW6.out⟩
          case measure => simp [intOf]; omega
        · have hjn : ¬ ((j : Nat) : Int) < 2 := by omega
          go_wp2_with fail
          go_roundw
          case rel => exact ⟨i + 1, by go_num, by omega, HW4.out⟩
          case measure => simp [intOf]; omega
    · have hin : ¬ ((i : Nat) : Int) < 4 := by omega
      go_wp2_with fail
      go_ret
      exact ⟨rfl, HW3.out.ap⟩
end Go.Proofs.YtokaeiahhmaokaaDoor.ds
namespace Go.Proofs.YtokaeiahhmaokaaDoor.ds
open Go.ChangeShapes Go.WideShapes Go.ChangeAt Go.RowKit Go.ChangeMaps Go.Deep
set_option linter.unusedVariables false
set_option linter.unusedSimpArgs false
set_option maxRecDepth 100000 in
theorem world_met (os : Os) : laidMet Tryd.prog Rows.sibsWorldRow.laid ((laidWorld os).forCall (fun _ _ => 0) ⟨#[], #[.slice none 0 0], []⟩).memory :=
  laidMet_of_run' 8 (by kernel_rfl) (by kernel_rfl)
set_option maxRecDepth 100000 in
theorem world_reads (os : Os) {H : Type} (enc : TypeId × Value → H) : ∃ places, DataW.whole enc Tryd.prog ((laidWorld os).forCall (fun _ _ => 0) ⟨#[], #[.slice none 0 0], []⟩).memory Tryd.f7.params.toList Rows.sibsWorldSpec.vars false (#[.slice none 0 0] : Array Value).toList 8 = some ([.nil], [], places) :=
  ⟨[], by kernel_rfl⟩
set_option maxRecDepth 100000 in
theorem world_lifted (os : Os) (started : os.Started) (H : Type) (enc : TypeId × Value → H) (F : Stop.Interp) :
    ReturnsInHanded {} Tryd.checked os 7 .any ((OpenSpec.ofChange Rows.sibsWorldSpec).preRow enc Tryd.prog Tryd.f7 Rows.sibsWorldRow.domain false Rows.sibsWorldRow.laid) (((OpenSpec.ofChange Rows.sibsWorldSpec).at F).post enc Tryd.prog Tryd.f7 false true false false) := by
  obtain ⟨places, hx⟩ := world_reads os enc
  refine returnsInHanded_of_row (C := Tryd.checked) (s := (OpenSpec.ofChange Rows.sibsWorldSpec)) own started (by kernel_rfl) Tryd.func7
    (witness_row_at (enc := enc) (C := Tryd.checked) false (laidWorld os) #[.slice none 0 0] rfl (by kernel_rfl) (by kernel_rfl) (by kernel_rfl)
      (OpenSpec.preRow_of_cond 8 hx (by kernel_rfl) (fun k hk => by cases hk) (by kernel_rfl) (world_met os))) ?_
  intro W base args ds gs before hval0 hW _ _ _ hL _ _
  have hval : ∀ (j : Nat) t v, Tryd.f7.params[j]? = some t → args[j]? = some v → Value.okWide Tryd.prog W .any base t v := hval0
  have hW' := hW
  obtain ⟨p, q, hA0, hV, rfl, hfz, hnd⟩ := hW
  have hA : DataW.TrodAll enc Tryd.prog W 0 (fun _ => true) true Tryd.f7.params.toList args.toList ds p := hA0
  rw [Tryd.params7] at hA hval
  obtain ⟨v0, vs0, d0, ds0, p0, q0, hargs0, rfl, rfl, h0, r0⟩ := trodAll_cons hA
  obtain ⟨rfl, rfl, rfl⟩ := trodAll_nil r0
  obtain rfl : args = #[v0] := by cases args; simp_all
  obtain ⟨rfl, rfl⟩ := trodVars_none hV
  have k0 := h0
  have lt0 : ∀ x ∈ p0, x.block < W.heap.size := by obtain ⟨m, hm⟩ := k0; exact DataW.trod_lt m _ _ _ hm
  obtain ⟨a0, len0, cap0, rfl⟩ := okWide_slice Tryd.underlying34 (hval 0 34 v0 rfl rfl)
  obtain ⟨s0, f0, e0, hev, hn0⟩ : ∃ (s : Sl) (f : Nat → Ev), Value.slice a0 len0 cap0 = s.v ∧ EvL W s.p s.n f ∧ s.n ≤ Rows.uptoBulk d0 := by
    obtain ⟨fuel, hf⟩ := h0
    exact open_events hf
  obtain ⟨sp, sn, sc⟩ := s0
  unfold Sl.v at e0
  simp only [Value.slice.injEq] at e0
  obtain ⟨rfl, rfl, rfl⟩ := e0
  simp only at hev hn0
  clear hA0 hval0
  refine (world_walk W (table hL) a0 len0 cap0 f0 hev).mono fun e W' ⟨he, ap⟩ => ?_
  subst he
  have bel : Below W.heap.size W W' := ap.below (Nat.le_refl _) (by simp)
  exact ⟨_, rfl, _, _, _, [], _, [], hW', trodAll_mk1 (shut_bool Tryd.underlying4 _), (trodAll_cons_mk (Below.trod laidOut (by kernel_rfl) (of_decide_eq_true (by kernel_rfl)) k0 bel lt0) trodAll_mk0), rfl, bel.frame _, fun h => by cases h⟩
set_option maxRecDepth 100000 in
theorem world_said : Rows.SibsWorldSaid :=
  OpenClaim.holds_of_cond 7 Tryd.f7 rfl rfl rfl rfl rfl rfl rfl ⟨rfl, rfl, rfl, rfl, rfl⟩ rfl rfl rfl rfl rfl (by kernel_rfl) Tryd.func7 (by kernel_rfl)
    (of_decide_eq_true (by kernel_rfl)) (by unfold Func.isWrapper; first | (rw [if_pos (by decide +kernel)]; kernel_rfl) | (rw [if_neg (by decide +kernel)]; exact ⟨rfl, rfl⟩))
    (fun os started H enc _ F => by rw [OpenClaim.pre_eq_preRow]; exact world_lifted os started H enc F)
set_option maxRecDepth 100000 in
theorem world_plain (f : FuncId) (fn : Func) (hf : Tryd.pinned.checked.prog.funcNamed "rookery/rookerylaw5.SibsWorld" = some f) (hfn : Tryd.pinned.checked.prog.funcs[f]? = some fn) :
    false = Tryd.pinned.checked.prog.looks [] ∧ ∀ (j : Nat) t, fn.params[j]? = some t → Tryd.pinned.checked.prog.wantsStandIn t = false := by
  obtain rfl : f = 7 := Option.some.inj ((show Tryd.prog.funcNamed "rookery/rookerylaw5.SibsWorld" = some 7 by kernel_rfl).symm.trans hf) |>.symm
  obtain rfl : fn = Tryd.f7 := (Option.some.inj (Tryd.func7.symm.trans hfn)).symm
  refine ⟨by kernel_rfl, fun j t ht => ?_⟩
  rw [Tryd.params7] at ht
  have w34 : Tryd.prog.wantsStandIn 34 = false := by kernel_rfl
  have hh := Array.mem_of_getElem? ht
  simp only [List.mem_toArray, List.mem_cons, List.not_mem_nil, or_false] at hh
  rcases hh with rfl <;> assumption
set_option maxRecDepth 100000 in
theorem world_card : Rows.SibsWorldCardSaid :=
  Claim7.holds_tied_plain_at .later [] _ _ _ _ world_said (fun _ h => by cases h) (by kernel_rfl) (fun _ h => by cases h) sibsWorld_row_tie rfl ⟨rfl, rfl⟩ (by kernel_rfl) rfl world_plain (by kernel_rfl)
end Go.Proofs.YtokaeiahhmaokaaDoor.ds
namespace Go.Proofs.YtokaeiahhmaokaaDoor
theorem sibsWorld_holds : Rows.SibsWorldCardSaid := ds.world_card
end Go.Proofs.YtokaeiahhmaokaaDoor
