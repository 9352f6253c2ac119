import Derived.Test.YtllhmidpphlbhaaG22
import Derived.Test.YtllhmidpphlbhaaG16
namespace Go.Proofs.Ytllhmidpphlbhaa.ds
open Go.ChangeShapes Go.WideShapes Go.ChangeAt Go.RowKit Go.Sort
set_option linter.unusedVariables false
set_option linter.unusedSimpArgs false

theorem eKeys_all {k : ByteArray} : ∀ {rs : List Wr} {an ac : Int}, eKeys k an ac rs = 0 → ∀ r ∈ rs, r.k = k ∧ Stor r
  | [], an, ac, h => by simp
  | r :: l, an, ac, h => by
    obtain ⟨e1, e2, e3, e4⟩ := eKeys_cons k an ac r l
    have h1 : r.k = k := by
      by_cases q : r.k = k
      · exact q
      · have := e1 q; omega
    have h2 : Stor r := by
      by_cases q : Stor r
      · exact q
      · have := e2 h1 q; omega
    have h3 : an ≤ r.n ∧ leastI an ac r.n ≤ r.c := by
      by_cases q : an ≤ r.n ∧ leastI an ac r.n ≤ r.c
      · exact q
      · have := e3 h1 h2 q; omega
    have h4 := e4 h1 h2 h3
    rw [h] at h4
    have ih := eKeys_all h4.symm
    intro y hy
    rcases List.mem_cons.1 hy with rfl | hy
    · exact ⟨h1, h2⟩
    · exact ih y hy
theorem eKey_all {rs : List Wr} (h : eKey rs = 0) : (1 ≤ rs.length ∧ rs.length ≤ 8) ∧ (1 ≤ (gR rs 0).k.size ∧ (gR rs 0).k.size ≤ 16) ∧ ∀ r ∈ rs, r.k = (gR rs 0).k ∧ Stor r := by
  cases rs with
  | nil => exact absurd h (by decide)
  | cons r l =>
    have h : eKey1 r l = 0 := h
    unfold eKey1 at h
    split at h
    · rename_i h1
      split at h
      · rename_i h2
        exact ⟨⟨by simp, h1⟩, h2, eKeys_all h⟩
      · omega
    · omega
theorem encPws_snoc : ∀ (l : List Cw) (c : Cw), encPws (l ++ [c]) = encPws l ++ encPw c
  | [], c => by simp [encPws]
  | y :: l, c => by
    show encPw y ++ encPws (l ++ [c]) = encPw y ++ encPws l ++ encPw c
    rw [encPws_snoc l c, List.append_assoc]
theorem takeR_g {rs : List Wr} {i : Nat} (hi : i < rs.length) : (rs.take (i + 1)).map cwOf = (rs.take i).map cwOf ++ [cwOf (gR rs i)] := by
  rw [List.take_succ_eq_append_getElem hi, List.map_append]
  unfold gR
  rw [List.getD_eq_getElem?_getD, List.getElem?_eq_getElem hi]; rfl
theorem gR_mem {rs : List Wr} {i : Nat} (hi : i < rs.length) : gR rs i ∈ rs := by
  unfold gR
  rw [List.getD_eq_getElem?_getD, List.getElem?_eq_getElem hi]
  exact List.getElem_mem hi
theorem Stor.len {r : Wr} (h : Stor r) : (encPw (cwOf r)).length ≤ 176 := by
  have h1 := encSt_le h.x.le8
  have h2 := h.v
  have h3 := mostV_le r.d
  unfold encPw cwOf
  simp only [List.length_append, encN_len]; omega
theorem encPws_lim : ∀ {l : List Wr}, (∀ r ∈ l, Stor r) → (encPws (l.map cwOf)).length ≤ 176 * l.length
  | [], h => Nat.le_refl _
  | r :: l, h => by
    have h1 := encPws_lim (l := l) (fun y hy => h y (List.mem_cons_of_mem _ hy))
    have h2 := (h r (by simp)).len
    show (encPw (cwOf r) ++ encPws (l.map cwOf)).length ≤ _
    rw [List.length_append, List.length_cons]; omega
set_option maxHeartbeats 8000000 in
set_option maxRecDepth 100000 in
theorem buildKey_ok {w : World} (s : Sl) (es : List E) (rs : List Wr) (h : RWs w s es rs) : Calls Try.prog 46 #[.slice s.p s.n s.c] w fun q w' => BO w w' q (eKey rs) (pcK rs) := by
  have HC := hid h
  have hrl := h.rl
  have hlim := h.lim
  have HLK := hid (lookK_ok s es rs h)
  obtain ⟨er, Her⟩ : ∃ er, Hid (er = eKey rs) := ⟨_, rfl⟩
  rw [← Her.out] at HLK
  clear h
  by_cases h0 : er = 0
  · have HS := hid (eKey_all (by rw [← Her.out]; exact h0 : eKey rs = 0))
    subst h0
    have hn8 : 1 ≤ s.n ∧ s.n ≤ 8 := by have := HS.out.1; omega
    have hw8 : IntKind.u8.wrap (s.n : Int) = (s.n : Int) := by rw [IntKind.wrap_u8]; omega
    obtain ⟨k0, Hk0⟩ : ∃ k0, Hid (k0 = (gR rs 0).k) := ⟨_, rfl⟩
    obtain ⟨P, o, hP, hPl, -, -, c2, -, -, -⟩ := HC.out.cells 0 (by omega)
    have hk := (HC.out.each 0 (by omega)).k
    rw [hk, ← Hk0.out] at c2
    have c2' : w.cell? ⟨P, o + 2, none⟩ = some (.string k0) := by simpa using c2
    have HK0 : Hid (∀ W, Apart [] w W → W.cell? ⟨P, o + 2, none⟩ = some (.string k0)) := fun W a => (a.cell (p := ⟨P, o + 2, none⟩) hPl (by simp)).trans c2'
    have HKL : Hid (1 ≤ k0.size ∧ k0.size ≤ 16) := by unfold Hid; rw [Hk0.out]; exact HS.out.2.1
    obtain ⟨sp, sn, sc⟩ := s
    dsimp only at *
    subst hP
    clear c2 c2' hk
    go_enter Try.func46, Try.ntmps46
    go_wp2_with fail
    refine HLK.out.mono ?_
    rintro _ w1 ⟨rfl, a1⟩
    have HA1 := hid a1
    clear a1 HLK
    dsimp only
    go_upto_region 4 with fail
    have HAd := hid (HA1.out.trans (Apart.refl [] w1).drew)
    refine wp_region_held_drew (S := fun W => W.cell? ⟨P, o + 2, none⟩ = some (.string k0)) (by kernel_rfl) (HK0.out _ HAd.out) (fun hHeld => ?_)
    generalize w1.drew = wd at *
    refine tk 1 14 (.slice (some ⟨P, o, none⟩) sn sc) rfl ?_ ?_
    · intro W hSW; go_simp
    simp only [Act.put, List.setIfInBounds_toArray, List.set_cons_zero, List.set_cons_succ]
    refine tk 2 15 (.pointer (some ⟨P, o, none⟩)) rfl ?_ ?_
    · intro W hSW; have hz : ¬ sn = 0 := (by omega); go_simp
    simp only [Act.put, List.setIfInBounds_toArray, List.set_cons_zero, List.set_cons_succ]
    refine tk 3 16 (.pointer (some ⟨P, o + 2, none⟩)) rfl ?_ ?_
    · intro W hSW; go_simp
    simp only [Act.put, List.setIfInBounds_toArray, List.set_cons_zero, List.set_cons_succ]
    refine tk 4 17 (.string k0) rfl ?_ ?_
    · intro W hSW; have z := hSW; go_simp
    simp only [Act.put, List.setIfInBounds_toArray, List.set_cons_zero, List.set_cons_succ]
    refine wpAnyH_ready (rs := [0]) (by kernel_rfl) (by simp) ?_
    refine AllReadyH.cons rfl (fun KK hKK => ?_) AllReadyH.nil
    go_simp
    refine (begun_ok wd 2).mono ?_
    rintro _ w2 ⟨⟨rfl, b2, _⟩, a2⟩
    have HB2 : Hid (PB w w2 wd.heap.size [2]) := ⟨b2.blk, b2.len, HAd.out.size, HAd.out.trans a2⟩
    clear b2 a2
    obtain ⟨g, Hg⟩ : ∃ g, Hid (g = wd.heap.size) := ⟨_, rfl⟩
    rw [← Hg.out] at HB2 ⊢
    dsimp only
    obtain ⟨vs1, Hvs1⟩ : ∃ vs : List Nat, Hid (vs = [2]) := ⟨_, rfl⟩
    rw [← Hvs1.out] at HB2 ⊢
    refine hKK.out _ _ (HK0.out _ HB2.out.ap) (fun hHeld => ?_)
    clear hKK KK
    try simp only [Act.put, List.setIfInBounds_toArray, List.set_cons_zero, List.set_cons_succ]
    refine wpAnyH_ready (rs := [5]) (by kernel_rfl) (by simp) ?_
    refine AllReadyH.cons rfl (fun KK hKK => ?_) AllReadyH.nil
    go_simp
    refine (atextS_ok HB2.out k0 (by have := HKL.out; omega) (by rw [Hvs1.out]; simp; have := HKL.out; omega)).mono ?_
    rintro _ w3 ⟨rfl, b3, _⟩
    have HB3 := hid b3
    clear b3
    dsimp only
    refine hKK.out _ _ (HK0.out _ HB3.out.ap) (fun hHeld => ?_)
    clear hKK KK
    have HL3 : Hid ((vs1 ++ (encN 1 (bsk k0).length ++ bsk k0)).length ≤ 18) := by unfold Hid; rw [List.length_append, Hvs1.out, List.length_append, encN_len, bsk_len]; simp; have := HKL.out; omega
    generalize hvs3 : vs1 ++ (encN 1 (bsk k0).length ++ bsk k0) = vs3 at *
    have Hvs3 := hid hvs3
    clear hvs3
    refine tk 6 5 (.slice (some ⟨g, 0, none⟩) vs3.length 2048) rfl ?_ ?_
    · intro W hSW; go_simp
    simp only [Act.put, List.setIfInBounds_toArray, List.set_cons_zero, List.set_cons_succ]
    refine wpAnyH_done (by kernel_rfl) ?_ _
    clear hHeld
    obtain ⟨W4, h4, h5, h6⟩ := HB3.out.app1 sn (by have := HL3.out; omega)
    have HR4 := hid h4
    have HB4 := hid h5
    clear h4 h5 h6
    have HL4 : Hid ((vs3 ++ [sn]).length ≤ 19) := by unfold Hid; rw [List.length_append]; simp; exact HL3.out
    generalize hvs4 : vs3 ++ [sn] = vs4 at *
    have Hvs4 := hid hvs4
    clear hvs4
    go_wp2_with (at_builtin; refine wpList_app2 rfl (.tmp 19) (.tmp 23) 28 28 rfl _ _ rfl rfl _ _ HR4.out ?_)
    go_loopw [5, 7, 27] (fun a _ b wt => ∃ (i : Nat), a = .slice (some ⟨g, 0, none⟩) (vs4 ++ encPws ((rs.take i).map cwOf)).length 2048 ∧ b = .int .i64 (i : Nat) ∧ i ≤ sn ∧ PB w wt g (vs4 ++ encPws ((rs.take i).map cwOf))) (fun _ _ b _ => sn - (intOf b).toNat)
    case atStart => exact ⟨0, by simp [encPws], rfl, Nat.zero_le _, by simpa [encPws] using HB4.out⟩
    case round =>
      obtain ⟨i, rfl, rfl, hi, hb⟩ := hrel
      have HB5 := hid hb
      clear hb
      by_cases hlt : i < sn
      · have hlti : ((i : Nat) : Int) < (sn : Int) := by omega
        have HCr := hid (HC.out.kept0 HB5.out.ap)
        obtain ⟨P', o', hP', hPl', c0, c1, c2, c3, c4, c5⟩ := HCr.out.cells i hlt
        dsimp only at hP'
        simp only [Option.some.injEq, Addr.mk.injEq] at hP'
        obtain ⟨rfl, rfl, -⟩ := hP'
        have HRe := hid (HC.out.each i hlt)
        have HST := hid ((HS.out.2.2 (gR rs i) (gR_mem (by omega))).2)
        have HLE : Hid ((vs4 ++ encPws ((rs.take i).map cwOf)).length + 176 ≤ 2048) := by
          unfold Hid
          have := encPws_lim (l := rs.take i) (fun r hr => (HS.out.2.2 r (List.mem_of_mem_take hr)).2)
          rw [List.length_take] at this
          rw [List.length_append]
          have := HL4.out
          omega
        have HES : Hid (vs4 ++ encPws ((rs.take (i + 1)).map cwOf) = (vs4 ++ encPws ((rs.take i).map cwOf)) ++ encPw (cwOf (gR rs i))) := by unfold Hid; rw [takeR_g (by omega), encPws_snoc, List.append_assoc]
        generalize gE es i = e at *
        generalize gR rs i = r at *
        generalize vs4 ++ encPws ((rs.take i).map cwOf) = ws at *
        obtain ⟨X, HXX⟩ : ∃ X, Hid (X = wr.heap.size) := ⟨_, rfl⟩
        obtain ⟨w6, hw6⟩ : ∃ W, W = wr.alloc (.cells #[.int .i64 e.n, .int .i64 e.c, .string e.k, .bool e.d, .slice e.v.p e.v.n e.v.c, .slice e.x.p e.x.n e.x.c] 50) := ⟨_, rfl⟩
        have HX6 : Hid (w6.heap[X]? = some (.cells #[.int .i64 e.n, .int .i64 e.c, .string e.k, .bool e.d, .slice e.v.p e.v.n e.v.c, .slice e.x.p e.x.n e.x.c] 50 (0, 0))) := by unfold Hid; rw [HXX.out, hw6]; exact heap_alloc_new wr _
        have HS6 : Hid (Apart [] wr w6) := by unfold Hid; rw [hw6]; exact (Apart.refl [] wr).alloc _
        have HB6 := hid (HB5.out.kept0 HS6.out)
        go_upto_region 9 with fail
        rw [← hw6, ← HXX.out]
        clear hw6 HXX c0 c1 c2 c3 c4 c5
        obtain ⟨x0, x1, x2, x3, x4, x5⟩ := row6v HX6.out
        go_wp2_with fail
        clear x0 x1 x2 x3 x4 x5
        refine (awrite_ok HB6.out e r HRe.out HST.out HLE.out).mono ?_
        rintro _ w8 ⟨rfl, b8, _⟩
        have HB8 := hid b8
        clear b8
        dsimp only
        rw [← HES.out] at HB8 ⊢
        generalize hws8 : vs4 ++ encPws ((rs.take (i + 1)).map cwOf) = ws8 at *
        have Hws8 := hid hws8
        clear hws8
        go_wp2_with fail
        go_roundw
        case rel => exact ⟨i + 1, by rw [Hws8.out], by go_num, by omega, by rw [Hws8.out]; exact HB8.out⟩
        case measure => simp [intOf]; omega
      · have hlti : ¬ ((i : Nat) : Int) < (sn : Int) := by omega
        have hiN : rs.take i = rs := List.take_of_length_le (by omega)
        rw [hiN] at HB5 ⊢
        obtain ⟨ws, Hws⟩ : ∃ ws, Hid (ws = vs4 ++ encPws (rs.map cwOf)) := ⟨_, rfl⟩
        rw [← Hws.out] at HB5 ⊢
        go_wp2_with fail
        refine (whole_ok HB5.out).mono ?_
        rintro _ w7 ⟨rfl, hw7⟩
        rw [hw7]
        clear hw7
        dsimp only
        go_wp2_with fail
        go_ret2
        have HEN : Hid (encPc (pcK rs) = ws) := by
          unfold Hid
          rw [Hws.out, ← Hvs4.out, ← Hvs3.out, Hvs1.out]
          have hkk : (rs.headD pcK.Wr.z0).k = k0 := by
            rw [Hk0.out]
            cases rs with
            | nil => simp at hrl; omega
            | cons r l => rfl
          unfold pcK encPc
          dsimp only
          rw [hkk, encN1 (by omega), List.length_map, hrl, encN1 (n := sn) (by omega)]
          simp only [List.append_assoc]
        exact ⟨HB5.out.ap, fun h => absurd Her.out.symm h, fun _ => ⟨g, rfl, HB5.out.new, by rw [HEN.out]; exact HB5.out.blk⟩⟩
  · go_enter Try.func46, Try.ntmps46
    go_wp2_with fail
    refine HLK.out.mono ?_
    rintro _ w1 ⟨rfl, a1⟩
    have HA1 := hid a1
    clear a1 HLK
    dsimp only
    go_wp2_with fail
    go_ret2
    exact ⟨HA1.out, fun _ => by rw [← Her.out]; rfl, fun h => absurd (Her.out.trans h) h0⟩
end Go.Proofs.Ytllhmidpphlbhaa.ds
namespace Go.Proofs.Ytllhmidpphlbhaa.ds
open Go.ChangeShapes Go.WideShapes Go.ChangeAt Go.RowKit Go.Sort
set_option linter.unusedVariables false
set_option linter.unusedSimpArgs false
theorem hdV_lit (P o : Nat) (h : Ph) : hdV P o h = .agg #[.int .i64 (h.k : Nat), .int .i64 (h.g : Nat), .int .i64 (h.o : Nat), .int .i64 (h.m : Nat), keyV P o h] := rfl
set_option maxRecDepth 100000 in
theorem fld99_0 (w : World) (a b c d : Int) (e : Value) : (Instr.field 99 (.agg #[.int .i64 a, .int .i64 b, .int .i64 c, .int .i64 d, e]) 0).run Try.prog w = .ok (.int .i64 a) w := by kernel_rfl
set_option maxRecDepth 100000 in
theorem fld99_1 (w : World) (a b c d : Int) (e : Value) : (Instr.field 99 (.agg #[.int .i64 a, .int .i64 b, .int .i64 c, .int .i64 d, e]) 1).run Try.prog w = .ok (.int .i64 b) w := by kernel_rfl
set_option maxRecDepth 100000 in
theorem fld99_2 (w : World) (a b c d : Int) (e : Value) : (Instr.field 99 (.agg #[.int .i64 a, .int .i64 b, .int .i64 c, .int .i64 d, e]) 2).run Try.prog w = .ok (.int .i64 c) w := by kernel_rfl
set_option maxRecDepth 100000 in
theorem fld99_3 (w : World) (a b c d : Int) (e : Value) : (Instr.field 99 (.agg #[.int .i64 a, .int .i64 b, .int .i64 c, .int .i64 d, e]) 3).run Try.prog w = .ok (.int .i64 d) w := by kernel_rfl
set_option maxRecDepth 100000 in
theorem fld99_4 (w : World) (a b c d : Int) (e : Value) : (Instr.field 99 (.agg #[.int .i64 a, .int .i64 b, .int .i64 c, .int .i64 d, e]) 4).run Try.prog w = .ok e w := by kernel_rfl
theorem checkR_e (B : List Nat) : (checkR B).2.2 = 0 ∨ (checkR B).2.2 = 70 := by
  unfold checkR
  split
  · split
    · exact .inr rfl
    · exact .inl rfl
  · exact .inr rfl
/-- a view in memory -/
def Vw (w : World) (V : Nat) (s : Sl) : Prop := w.heap[V]? = some (.cells #[.slice s.p s.n s.c] 110 (0, 0))
/-- what Open leaves -/
structure OpP (w w' : World) (s : Sl) (B : List Nat) (e : Ending) : Prop where
  a : Apart [] w w'
  no : (checkR B).2.2 ≠ 0 → e = .returned (.tuple #[.pointer none, .int .i64 70])
  ok : (checkR B).2.2 = 0 → ∃ V, e = .returned (.tuple #[.pointer (some ⟨V, 0, none⟩), .int .i64 0]) ∧ w.heap.size ≤ V ∧ Vw w' V s
set_option maxHeartbeats 4000000 in
set_option maxRecDepth 100000 in
theorem open_ok {w : World} {s : Sl} {B : List Nat} (h : Pb w s B) : Calls Try.prog 19 #[.slice s.p s.n s.c] w fun e w' => OpP w w' s B e := by
  have HC := hid (check_ok h)
  have HE := hid (checkR_e B)
  have HO : Hid (∀ w' e, Apart [] w w' → ((checkR B).2.2 ≠ 0 → e = .returned (.tuple #[.pointer none, .int .i64 70])) → ((checkR B).2.2 = 0 → ∃ V, e = .returned (.tuple #[.pointer (some ⟨V, 0, none⟩), .int .i64 0]) ∧ w.heap.size ≤ V ∧ Vw w' V s) → OpP w w' s B e) := fun w' e a b c => ⟨a, b, c⟩
  generalize checkR B = ck at HC HE HO
  obtain ⟨k, q, er⟩ := ck
  dsimp only at HC HE HO
  clear h
  go_enter Try.func19, Try.ntmps19
  go_wp2_with fail
  refine HC.out.mono ?_
  rintro _ w1 ⟨rfl, a1⟩
  have HA1 := hid a1
  clear a1
  dsimp only
  rcases HE.out with h0 | h0
  · subst h0
    go_wp2_with fail
    go_ret2
    exact HO.out _ _ (HA1.out.trans ((Apart.refl [] w1).alloc _)) (fun h => absurd rfl h) (fun _ => ⟨w1.heap.size, rfl, HA1.out.size, heap_alloc_new w1 _⟩)
  · subst h0
    go_wp2_with fail
    go_ret2
    exact HO.out _ _ HA1.out (fun _ => rfl) (fun h => absurd h (by decide))
set_option maxHeartbeats 4000000 in
set_option maxRecDepth 100000 in
theorem vhead_ok {w : World} {s : Sl} {B : List Nat} {V : Nat} (h : Pb w s B) (hn : s.n = 2048) (hv : Vw w V s) : ∃ P o, s.p = some ⟨P, o, none⟩ ∧ Calls Try.prog 51 #[.pointer (some ⟨V, 0, none⟩)] w fun e w' => e = .returned (hdV P o (headR B ⟨0, false⟩).1) ∧ Apart [] w w' := by
  obtain ⟨P, o, hp, hPl, hrd⟩ := h.reader hn
  refine ⟨P, o, hp, ?_⟩
  have HV := hid hv
  obtain ⟨D, HXD⟩ : ∃ X, Hid (X = w.heap.size) := ⟨_, rfl⟩
  obtain ⟨w1, hw1⟩ : ∃ W, W = w.alloc (.cells #[.int .i64 0, .int .i64 0, .int .i64 0, .int .i64 0, .slice none 0 0] 99) := ⟨_, rfl⟩
  have HS1 : Hid (Apart [] w w1) := by unfold Hid; rw [hw1]; exact (Apart.refl [] w).alloc _
  have HBD : Hid (w1.heap[D]? = some (.cells (hdL 0 0 0 0 (.slice none 0 0)).toArray 99 (0, 0))) := by unfold Hid; rw [HXD.out, hw1]; exact heap_alloc_new w _
  obtain ⟨R, HXR⟩ : ∃ X, Hid (X = w1.heap.size) := ⟨_, rfl⟩
  obtain ⟨w2, hw2⟩ : ∃ W, W = w1.alloc (.cells #[.slice s.p s.n s.c, .int .i64 0, .bool false] 97) := ⟨_, rfl⟩
  have HS2 : Hid (Apart [] w1 w2) := by unfold Hid; rw [hw2]; exact (Apart.refl [] w1).alloc _
  have HA2 := hid (HS1.out.trans HS2.out)
  have HR : Hid (PR w2 R P o s.c B ⟨0, false⟩) := hrd w2 R HA2.out (by rw [HXR.out]; exact HS1.out.size) (by rw [HXR.out, hw2]; exact heap_alloc_new w1 _)
  have HBD2 := hid (keep0 HS2.out HBD.out)
  have HDR : Hid (D ≠ R) := by unfold Hid; have := lt_of_heap HBD.out; rw [HXR.out]; omega
  have HLR : Hid (w.heap.size ≤ R) := by unfold Hid; rw [HXR.out]; exact HS1.out.size
  have HLD : Hid (w.heap.size ≤ D) := by unfold Hid; rw [HXD.out]; exact Nat.le_refl _
  have HC := hid (head_ok HR.out (fun _ => by dsimp only; omega))
  have zv : w1.cell? ⟨V, 0, none⟩ = some (.slice s.p s.n s.c) := by rw [cell_of_row _ _ _ _ _ _ (keep0 HS1.out HV.out)]; rfl
  clear h hrd hv hp hn hPl
  rw [hw1] at zv
  go_enter Try.func51, Try.ntmps51
  go_wp2_with fail
  have heR : D + 1 = R := by rw [HXR.out, hw1, HXD.out]; exact (Array.size_push _).symm
  clear zv
  rw [← hw1, ← hw2, ← HXD.out, heR]
  clear hw1 hw2 heR HXD HXR
  refine HC.out.mono ?_
  rintro _ w3 ⟨rfl, r3, a3⟩
  clear r3
  have HA3 := hid (HA2.out.trans' a3 (by intro y hy; simp at hy; rw [hy]; exact .inr HLR.out))
  have HBD3 := hid (keepB a3 HBD2.out HDR.out)
  clear a3 HC
  dsimp only
  have HKV := hid (keyV_one P o (headR B ⟨0, false⟩).1)
  unfold hdV
  obtain ⟨hd, Hhd⟩ : ∃ hd, Hid (hd = (headR B ⟨0, false⟩).1) := ⟨_, rfl⟩
  rw [← Hhd.out] at HKV ⊢
  obtain ⟨kv, Hkv⟩ : ∃ kv, Hid (kv = keyV P o hd) := ⟨_, rfl⟩
  rw [← Hkv.out] at HKV ⊢
  rename_i K1 hK1
  refine hK1 _ _ ?_
  clear hK1
  refine wpList_cutat 0 (fun a' w' => Hid (wpList _ _ _ (List.drop 0 _) a' w')) (fun T hT => ?_) (fun _ _ h => h)
  dsimp only [List.take, List.cons_append, List.nil_append, List.append]
  go_wp2_with fail
  refine hT _ _ ?_
  clear hT T
  unfold Hid
  dsimp only [List.drop]
  refine wpList_store_mid rfl 99 (.tmp 2) (.tmp 9) rfl D 0 (hdL hd.k hd.g hd.o hd.m kv).toArray rfl rfl (there_of HBD3.out _ _ (by show 0 + 5 ≤ 5; omega)) size99 (hdL_one _ _ _ _ _ HKV.out) ?_
  obtain ⟨z, hz⟩ : ∃ z, z = w3.setCells D 0 (hdL hd.k hd.g hd.o hd.m kv) := ⟨_, rfl⟩
  rw [show (hdL hd.k hd.g hd.o hd.m kv).toArray.toList = hdL hd.k hd.g hd.o hd.m kv from rfl, ← hz]
  have b : Apart [D] w3 z := by rw [hz]; exact apart_setCells _ _ _ (Apart.refl _ _) (.inl (by simp))
  have HAz := hid (HA3.out.trans' b (by intro y hy; simp at hy; rw [hy]; exact .inr HLD.out))
  have HBz : Hid (z.heap[D]? = some (.cells (hdL hd.k hd.g hd.o hd.m kv).toArray 99 (0, 0))) := by
    unfold Hid; rw [hz]
    have := heap_setCells_same (hdL hd.k hd.g hd.o hd.m kv) 0 w3 _ HBD3.out
    rw [spl_all (by rfl)] at this
    exact this
  clear b hz
  go_wp2_with fail
  refine bodyPost_ret (results_cell_row rfl _ _ D 99 _ _ _ rfl HBz.out Try.underlying99 rfl size99) rfl ?_
  rw [← Hhd.out]
  unfold hdV
  rw [← Hkv.out]
  exact ⟨rfl, HAz.out⟩
set_option maxHeartbeats 4000000 in
set_option maxRecDepth 100000 in
theorem vkind_ok {w : World} {s : Sl} {B : List Nat} {V : Nat} (h : Pb w s B) (hn : s.n = 2048) (hv : Vw w V s) : Calls Try.prog 29 #[.pointer (some ⟨V, 0, none⟩)] w fun e w' => e = .returned (.int .i64 ((headR B ⟨0, false⟩).1.k : Nat)) ∧ Apart [] w w' := by
  obtain ⟨P, o, hp, hc⟩ := vhead_ok h hn hv
  skip
  have HC := hid hc
  clear h hn hv hc
  go_enter Try.func29, Try.ntmps29
  go_wp2_with fail
  refine HC.out.mono ?_
  rintro _ w1 ⟨rfl, a1⟩
  have HA := hid a1
  clear a1 HC
  dsimp only
  rw [hdV_lit]
  have hf := fld99_0 w1
  go_wp2_with fail
  go_ret
  exact ⟨rfl, HA.out⟩
set_option maxHeartbeats 4000000 in
set_option maxRecDepth 100000 in
theorem vlen_ok {w : World} {s : Sl} {B : List Nat} {V : Nat} (h : Pb w s B) (hn : s.n = 2048) (hv : Vw w V s) : Calls Try.prog 20 #[.pointer (some ⟨V, 0, none⟩)] w fun e w' => e = .returned (.int .i64 ((headR B ⟨0, false⟩).1.m : Nat)) ∧ Apart [] w w' := by
  obtain ⟨P, o, hp, hc⟩ := vhead_ok h hn hv
  skip
  have HC := hid hc
  clear h hn hv hc
  go_enter Try.func20, Try.ntmps20
  go_wp2_with fail
  refine HC.out.mono ?_
  rintro _ w1 ⟨rfl, a1⟩
  have HA := hid a1
  clear a1 HC
  dsimp only
  rw [hdV_lit]
  have hf := fld99_3 w1
  go_wp2_with fail
  go_ret
  exact ⟨rfl, HA.out⟩
set_option maxHeartbeats 4000000 in
set_option maxRecDepth 100000 in
theorem vgen_ok {w : World} {s : Sl} {B : List Nat} {V : Nat} (h : Pb w s B) (hn : s.n = 2048) (hv : Vw w V s) : Calls Try.prog 30 #[.pointer (some ⟨V, 0, none⟩)] w fun e w' => e = .returned (.int .i64 ((headR B ⟨0, false⟩).1.g : Nat)) ∧ Apart [] w w' := by
  obtain ⟨P, o, hp, hc⟩ := vhead_ok h hn hv
  skip
  have HC := hid hc
  clear h hn hv hc
  go_enter Try.func30, Try.ntmps30
  go_wp2_with fail
  refine HC.out.mono ?_
  rintro _ w1 ⟨rfl, a1⟩
  have HA := hid a1
  clear a1 HC
  dsimp only
  rw [hdV_lit]
  have hf := fld99_1 w1
  go_wp2_with fail
  go_ret
  exact ⟨rfl, HA.out⟩
set_option maxHeartbeats 4000000 in
set_option maxRecDepth 100000 in
theorem vowner_ok {w : World} {s : Sl} {B : List Nat} {V : Nat} (h : Pb w s B) (hn : s.n = 2048) (hv : Vw w V s) : Calls Try.prog 31 #[.pointer (some ⟨V, 0, none⟩)] w fun e w' => e = .returned (.int .i64 ((headR B ⟨0, false⟩).1.o : Nat)) ∧ Apart [] w w' := by
  obtain ⟨P, o, hp, hc⟩ := vhead_ok h hn hv
  skip
  have HC := hid hc
  clear h hn hv hc
  go_enter Try.func31, Try.ntmps31
  go_wp2_with fail
  refine HC.out.mono ?_
  rintro _ w1 ⟨rfl, a1⟩
  have HA := hid a1
  clear a1 HC
  dsimp only
  rw [hdV_lit]
  have hf := fld99_2 w1
  go_wp2_with fail
  go_ret
  exact ⟨rfl, HA.out⟩
set_option maxHeartbeats 4000000 in
set_option maxRecDepth 100000 in
theorem vkey_ok {w : World} {s : Sl} {B : List Nat} {V : Nat} (h : Pb w s B) (hn : s.n = 2048) (hv : Vw w V s) : ∃ P o, s.p = some ⟨P, o, none⟩ ∧ Calls Try.prog 22 #[.pointer (some ⟨V, 0, none⟩)] w fun e w' => e = .returned (keyV P o (headR B ⟨0, false⟩).1) ∧ Apart [] w w' := by
  obtain ⟨P, o, hp, hc⟩ := vhead_ok h hn hv
  refine ⟨P, o, hp, ?_⟩
  have HC := hid hc
  clear h hn hv hc
  go_enter Try.func22, Try.ntmps22
  go_wp2_with fail
  refine HC.out.mono ?_
  rintro _ w1 ⟨rfl, a1⟩
  have HA := hid a1
  clear a1 HC
  dsimp only
  rw [hdV_lit]
  have hf := fld99_4 w1
  go_wp2_with fail
  go_ret
  exact ⟨rfl, HA.out⟩
end Go.Proofs.Ytllhmidpphlbhaa.ds
