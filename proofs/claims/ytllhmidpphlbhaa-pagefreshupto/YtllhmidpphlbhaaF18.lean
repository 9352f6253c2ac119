import Derived.Deep.RegionHeld
import Derived.OrdersHeld
import Derived.WalkKit
import Derived.ProofKit
import Derived.Lib.TrailingZeros
import Derived.Test.YtllhmidpphlbhaaChecked
import Derived.OpenShut
import Derived.Deep.QuietTactic
import Derived.BigQuiet
import Derived.BigRegion
import Derived.Laws.CopyOwn
import Derived.Laws.Bits64b
import Derived.Laws.MathBits
import Derived.Laws.ShiftsVarLaws
import Derived.WalkSmall
import Derived.Laws.ResultCell
import Derived.Lib.BitFns
import Derived.Laws.StructEq
import Derived.ArgAppend
import Derived.Deep.RegionLaw
import Derived.Deep.DeepAppendRoom
import Derived.Sort.WalkA
import Derived.Laws.Strings
import Derived.Deep.CutBlock
import Derived.Great.BuildSlice
import Derived.Laws.AppendOwnNone
import Derived.Lib.Overlaps
import Derived.Lib.AppendZerosOnto
import Derived.Laws.NewBlocks
import Derived.Laws.Externs
import Derived.Laws.IdiomCopy
import Derived.Laws.BytesString
import Derived.Deep.CutRange
import Derived.RangeFuncNested
import Derived.RangeFuncBound
import Derived.RangeFuncCalls
import Derived.RangeFuncLeaves
import Derived.Shelf.Abstract
import Derived.Shelf.RegionOpen
import Derived.OwnWalkIn
import Derived.TacticsInMore
import Derived.LoopNIn
import Derived.LoopIn
import GoSem.Claim
import GoSem.ClaimJoined
import GoSem.ClaimMapViews
import Derived.JoinedTies
import Derived.KernelRfl
import Derived.Deep.OwnRows
import Derived.Lib.LaidTab
import Derived.JoinedCond
import Derived.ShutString
import Derived.ChangeOld
import Derived.Below
import Derived.Carry
import Derived.ChangeSlices
import Derived.Deep.Slices
import Derived.Deep.DeepHandedRow
import Derived.RowKit
import Derived.ChangeShapes
import Derived.SizedLaws
import Derived.ChangeMaps5
import Derived.Lib.Walk
import Derived.Lib.SliceRun
import Derived.Lib.AppendStr
import Derived.Lib.ConvBytes
import Derived.Deep.RegionHeld3
import Derived.Deep.MidRow
import Derived.Laws.MakeOwn
import Derived.Lib.SlBytesConst
import Derived.Test.YtllhmidpphlbhaaRows
import Derived.Test.YtllhmidpphlbhaaF13
import Derived.Test.YtllhmidpphlbhaaF17
namespace Go.Proofs.Ytllhmidpphlbhaa.ds
open Go.ChangeShapes Go.WideShapes Go.ChangeAt Go.RowKit Go.Sort
set_option linter.unusedVariables false
set_option linter.unusedSimpArgs false

theorem eKeys_all {k : ByteArray} : ∀ {rs : List Wr} {an ac : Int}, eKeys k an ac rs = 0 → ∀ r ∈ rs, r.k = k ∧ Stor r
  | [], an, ac, h => by simp
  | r :: l, an, ac, h => by
    obtain ⟨e1, e2, e3, e4⟩ := eKeys_cons k an ac r l
    have h1 : r.k = k := by
      by_cases q : r.k = k
      · exact q
      · have := e1 q; omega
    have h2 : Stor r := by
      by_cases q : Stor r
      · exact q
      · have := e2 h1 q; omega
    have h3 : an ≤ r.n ∧ leastI an ac r.n ≤ r.c := by
      by_cases q : an ≤ r.n ∧ leastI an ac r.n ≤ r.c
      · exact q
      · have := e3 h1 h2 q; omega
    have h4 := e4 h1 h2 h3
    rw [h] at h4
    have ih := eKeys_all h4.symm
    intro y hy
    rcases List.mem_cons.1 hy with rfl | hy
    · exact ⟨h1, h2⟩
    · exact ih y hy
theorem eKey_all {rs : List Wr} (h : eKey rs = 0) : (1 ≤ rs.length ∧ rs.length ≤ 8) ∧ (1 ≤ (gR rs 0).k.size ∧ (gR rs 0).k.size ≤ 16) ∧ ∀ r ∈ rs, r.k = (gR rs 0).k ∧ Stor r := by
  cases rs with
  | nil => exact absurd h (by decide)
  | cons r l =>
    have h : eKey1 r l = 0 := h
    unfold eKey1 at h
    split at h
    · rename_i h1
      split at h
      · rename_i h2
        exact ⟨⟨by simp, h1⟩, h2, eKeys_all h⟩
      · omega
    · omega
theorem encPws_snoc : ∀ (l : List Cw) (c : Cw), encPws (l ++ [c]) = encPws l ++ encPw c
  | [], c => by simp [encPws]
  | y :: l, c => by
    show encPw y ++ encPws (l ++ [c]) = encPw y ++ encPws l ++ encPw c
    rw [encPws_snoc l c, List.append_assoc]
theorem takeR_g {rs : List Wr} {i : Nat} (hi : i < rs.length) : (rs.take (i + 1)).map cwOf = (rs.take i).map cwOf ++ [cwOf (gR rs i)] := by
  rw [List.take_succ_eq_append_getElem hi, List.map_append]
  unfold gR
  rw [List.getD_eq_getElem?_getD, List.getElem?_eq_getElem hi]; rfl
theorem gR_mem {rs : List Wr} {i : Nat} (hi : i < rs.length) : gR rs i ∈ rs := by
  unfold gR
  rw [List.getD_eq_getElem?_getD, List.getElem?_eq_getElem hi]
  exact List.getElem_mem hi
theorem Stor.len {r : Wr} (h : Stor r) : (encPw (cwOf r)).length ≤ 176 := by
  have h1 := encSt_le h.x.le8
  have h2 := h.v
  have h3 := mostV_le r.d
  unfold encPw cwOf
  simp only [List.length_append, encN_len]; omega
theorem encPws_lim : ∀ {l : List Wr}, (∀ r ∈ l, Stor r) → (encPws (l.map cwOf)).length ≤ 176 * l.length
  | [], h => Nat.le_refl _
  | r :: l, h => by
    have h1 := encPws_lim (l := l) (fun y hy => h y (List.mem_cons_of_mem _ hy))
    have h2 := (h r (by simp)).len
    show (encPw (cwOf r) ++ encPws (l.map cwOf)).length ≤ _
    rw [List.length_append, List.length_cons]; omega
set_option maxHeartbeats 8000000 in
set_option maxRecDepth 100000 in
theorem buildKey_ok {w : World} (s : Sl) (es : List E) (rs : List Wr) (h : RWs w s es rs) : Calls Try.prog 46 #[.slice s.p s.n s.c] w fun q w' => BO w w' q (eKey rs) (pcK rs) := by
  have HC := hid h
  have hrl := h.rl
  have hlim := h.lim
  have HLK := hid (lookK_ok s es rs h)
  obtain ⟨er, Her⟩ : ∃ er, Hid (er = eKey rs) := ⟨_, rfl⟩
  rw [← Her.out] at HLK
  clear h
  by_cases h0 : er = 0
  · have HS := hid (eKey_all (by rw [← Her.out]; exact h0 : eKey rs = 0))
    subst h0
    have hn8 : 1 ≤ s.n ∧ s.n ≤ 8 := by have := HS.out.1; omega
    have hw8 : IntKind.u8.wrap (s.n : Int) = (s.n : Int) := by rw [IntKind.wrap_u8]; omega
    obtain ⟨k0, Hk0⟩ : ∃ k0, Hid (k0 = (gR rs 0).k) := ⟨_, rfl⟩
    obtain ⟨P, o, hP, hPl, -, -, c2, -, -, -⟩ := HC.out.cells 0 (by omega)
    have hk := (HC.out.each 0 (by omega)).k
    rw [hk, ← Hk0.out] at c2
    have c2' : w.cell? ⟨P, o + 2, none⟩ = some (.string k0) := by simpa using c2
    have HK0 : Hid (∀ W, Apart [] w W → W.cell? ⟨P, o + 2, none⟩ = some (.string k0)) := fun W a => (a.cell (p := ⟨P, o + 2, none⟩) hPl (by simp)).trans c2'
    have HKL : Hid (1 ≤ k0.size ∧ k0.size ≤ 16) := by unfold Hid; rw [Hk0.out]; exact HS.out.2.1
    obtain ⟨sp, sn, sc⟩ := s
    dsimp only at *
    subst hP
    clear c2 c2' hk
    go_enter Try.func46, Try.ntmps46
    go_wp2_with fail
    refine HLK.out.mono ?_
    rintro _ w1 ⟨rfl, a1⟩
    have HA1 := hid a1
    clear a1 HLK
    dsimp only
    go_upto_region 4 with fail
    have HAd := hid (HA1.out.trans (Apart.refl [] w1).drew)
    refine wp_region_held_drew (S := fun W => W.cell? ⟨P, o + 2, none⟩ = some (.string k0)) (by kernel_rfl) (HK0.out _ HAd.out) (fun hHeld => ?_)
    generalize w1.drew = wd at *
    refine tk 1 14 (.slice (some ⟨P, o, none⟩) sn sc) rfl ?_ ?_
    · intro W hSW; go_simp
    simp only [Act.put, List.setIfInBounds_toArray, List.set_cons_zero, List.set_cons_succ]
    refine tk 2 15 (.pointer (some ⟨P, o, none⟩)) rfl ?_ ?_
    · intro W hSW; have hz : ¬ sn = 0 := (by omega); go_simp
    simp only [Act.put, List.setIfInBounds_toArray, List.set_cons_zero, List.set_cons_succ]
    refine tk 3 16 (.pointer (some ⟨P, o + 2, none⟩)) rfl ?_ ?_
    · intro W hSW; go_simp
    simp only [Act.put, List.setIfInBounds_toArray, List.set_cons_zero, List.set_cons_succ]
    refine tk 4 17 (.string k0) rfl ?_ ?_
    · intro W hSW; have z := hSW; go_simp
    simp only [Act.put, List.setIfInBounds_toArray, List.set_cons_zero, List.set_cons_succ]
    refine wpAnyH_ready (rs := [0]) (by kernel_rfl) (by simp) ?_
    refine AllReadyH.cons rfl (fun KK hKK => ?_) AllReadyH.nil
    go_simp
    refine (begun_ok wd 2).mono ?_
    rintro _ w2 ⟨⟨rfl, b2, _⟩, a2⟩
    have HB2 : Hid (PB w w2 wd.heap.size [2]) := ⟨b2.blk, b2.len, HAd.out.size, HAd.out.trans a2⟩
    clear b2 a2
    obtain ⟨g, Hg⟩ : ∃ g, Hid (g = wd.heap.size) := ⟨_, rfl⟩
    rw [← Hg.out] at HB2 ⊢
    dsimp only
    obtain ⟨vs1, Hvs1⟩ : ∃ vs : List Nat, Hid (vs = [2]) := ⟨_, rfl⟩
    rw [← Hvs1.out] at HB2 ⊢
    refine hKK.out _ _ (HK0.out _ HB2.out.ap) (fun hHeld => ?_)
    clear hKK KK
    try simp only [Act.put, List.setIfInBounds_toArray, List.set_cons_zero, List.set_cons_succ]
    refine wpAnyH_ready (rs := [5]) (by kernel_rfl) (by simp) ?_
    refine AllReadyH.cons rfl (fun KK hKK => ?_) AllReadyH.nil
    go_simp
    refine (atextS_ok HB2.out k0 (by have := HKL.out; omega) (by rw [Hvs1.out]; simp; have := HKL.out; omega)).mono ?_
    rintro _ w3 ⟨rfl, b3, _⟩
    have HB3 := hid b3
    clear b3
    dsimp only
    refine hKK.out _ _ (HK0.out _ HB3.out.ap) (fun hHeld => ?_)
    clear hKK KK
    have HL3 : Hid ((vs1 ++ (encN 1 (bsk k0).length ++ bsk k0)).length ≤ 18) := by unfold Hid; rw [List.length_append, Hvs1.out, List.length_append, encN_len, bsk_len]; simp; have := HKL.out; omega
    generalize hvs3 : vs1 ++ (encN 1 (bsk k0).length ++ bsk k0) = vs3 at *
    have Hvs3 := hid hvs3
    clear hvs3
    refine tk 6 5 (.slice (some ⟨g, 0, none⟩) vs3.length 2048) rfl ?_ ?_
    · intro W hSW; go_simp
    simp only [Act.put, List.setIfInBounds_toArray, List.set_cons_zero, List.set_cons_succ]
    refine wpAnyH_done (by kernel_rfl) ?_ _
    clear hHeld
    obtain ⟨W4, h4, h5, h6⟩ := HB3.out.app1 sn (by have := HL3.out; omega)
    have HR4 := hid h4
    have HB4 := hid h5
    clear h4 h5 h6
    have HL4 : Hid ((vs3 ++ [sn]).length ≤ 19) := by unfold Hid; rw [List.length_append]; simp; exact HL3.out
    generalize hvs4 : vs3 ++ [sn] = vs4 at *
    have Hvs4 := hid hvs4
    clear hvs4
    go_wp2_with (at_builtin; refine wpList_app2 rfl (.tmp 19) (.tmp 23) 28 28 rfl _ _ rfl rfl _ _ HR4.out ?_)
    go_loopw [5, 7, 27] (fun a _ b wt => ∃ (i : Nat), a = .slice (some ⟨g, 0, none⟩) (vs4 ++ encPws ((rs.take i).map cwOf)).length 2048 ∧ b = .int .i64 (i : Nat) ∧ i ≤ sn ∧ PB w wt g (vs4 ++ encPws ((rs.take i).map cwOf))) (fun _ _ b _ => sn - (intOf b).toNat)
    case atStart => exact ⟨0, by simp [encPws], rfl, Nat.zero_le _, by simpa [encPws] using HB4.out⟩
    case round =>
      obtain ⟨i, rfl, rfl, hi, hb⟩ := hrel
      have HB5 := hid hb
      clear hb
      by_cases hlt : i < sn
      · have hlti : ((i : Nat) : Int) < (sn : Int) := by omega
        have HCr := hid (HC.out.kept0 HB5.out.ap)
        obtain ⟨P', o', hP', hPl', c0, c1, c2, c3, c4, c5⟩ := HCr.out.cells i hlt
        dsimp only at hP'
        simp only [Option.some.injEq, Addr.mk.injEq] at hP'
        obtain ⟨rfl, rfl, -⟩ := hP'
        have HRe := hid (HC.out.each i hlt)
        have HST := hid ((HS.out.2.2 (gR rs i) (gR_mem (by omega))).2)
        have HLE : Hid ((vs4 ++ encPws ((rs.take i).map cwOf)).length + 176 ≤ 2048) := by
          unfold Hid
          have := encPws_lim (l := rs.take i) (fun r hr => (HS.out.2.2 r (List.mem_of_mem_take hr)).2)
          rw [List.length_take] at this
          rw [List.length_append]
          have := HL4.out
          omega
        have HES : Hid (vs4 ++ encPws ((rs.take (i + 1)).map cwOf) = (vs4 ++ encPws ((rs.take i).map cwOf)) ++ encPw (cwOf (gR rs i))) := by unfold Hid; rw [takeR_g (by omega), encPws_snoc, List.append_assoc]
        generalize gE es i = e at *
        generalize gR rs i = r at *
        generalize vs4 ++ encPws ((rs.take i).map cwOf) = ws at *
        obtain ⟨X, HXX⟩ : ∃ X, Hid (X = wr.heap.size) := ⟨_, rfl⟩
        obtain ⟨w6, hw6⟩ : ∃ W, W = wr.alloc (.cells #[.int .i64 e.n, .int .i64 e.c, .string e.k, .bool e.d, .slice e.v.p e.v.n e.v.c, .slice e.x.p e.x.n e.x.c] 50) := ⟨_, rfl⟩
        have HX6 : Hid (w6.heap[X]? = some (.cells #[.int .i64 e.n, .int .i64 e.c, .string e.k, .bool e.d, .slice e.v.p e.v.n e.v.c, .slice e.x.p e.x.n e.x.c] 50 (0, 0))) := by unfold Hid; rw [HXX.out, hw6]; exact heap_alloc_new wr _
        have HS6 : Hid (Apart [] wr w6) := by unfold Hid; rw [hw6]; exact (Apart.refl [] wr).alloc _
        have HB6 := hid (HB5.out.kept0 HS6.out)
        go_upto_region 9 with fail
        rw [← hw6, ← HXX.out]
        clear hw6 HXX c0 c1 c2 c3 c4 c5
        obtain ⟨x0, x1, x2, x3, x4, x5⟩ := row6v HX6.out
        go_wp2_with fail
        clear x0 x1 x2 x3 x4 x5
        refine (awrite_ok HB6.out e r HRe.out HST.out HLE.out).mono ?_
        rintro _ w8 ⟨rfl, b8, _⟩
        have HB8 := hid b8
        clear b8
        dsimp only
        rw [← HES.out] at HB8 ⊢
        generalize hws8 : vs4 ++ encPws ((rs.take (i + 1)).map cwOf) = ws8 at *
        have Hws8 := hid hws8
        clear hws8
        go_wp2_with fail
        go_roundw
        case rel => exact ⟨i + 1, by rw [Hws8.out], by go_num, by omega, by rw [Hws8.out]; exact HB8.out⟩
        case measure => simp [intOf]; omega
      · have hlti : ¬ ((i : Nat) : Int) < (sn : Int) := by omega
        have hiN : rs.take i = rs := List.take_of_length_le (by omega)
        rw [hiN] at HB5 ⊢
        obtain ⟨ws, Hws⟩ : ∃ ws, Hid (ws = vs4 ++ encPws (rs.map cwOf)) := ⟨_, rfl⟩
        rw [← Hws.out] at HB5 ⊢
        go_wp2_with fail
        refine (whole_ok HB5.out).mono ?_
        rintro _ w7 ⟨rfl, hw7⟩
        rw [hw7]
        clear hw7
        dsimp only
        go_wp2_with fail
        go_ret2
        have HEN : Hid (encPc (pcK rs) = ws) := by
          unfold Hid
          rw [Hws.out, ← Hvs4.out, ← Hvs3.out, Hvs1.out]
          have hkk : (rs.headD pcK.Wr.z0).k = k0 := by
            rw [Hk0.out]
            cases rs with
            | nil => simp at hrl; omega
            | cons r l => rfl
          unfold pcK encPc
          dsimp only
          rw [hkk, encN1 (by omega), List.length_map, hrl, encN1 (n := sn) (by omega)]
          simp only [List.append_assoc]
        exact ⟨HB5.out.ap, fun h => absurd Her.out.symm h, fun _ => ⟨g, rfl, HB5.out.new, by rw [HEN.out]; exact HB5.out.blk⟩⟩
  · go_enter Try.func46, Try.ntmps46
    go_wp2_with fail
    refine HLK.out.mono ?_
    rintro _ w1 ⟨rfl, a1⟩
    have HA1 := hid a1
    clear a1 HLK
    dsimp only
    go_wp2_with fail
    go_ret2
    exact ⟨HA1.out, fun _ => by rw [← Her.out]; rfl, fun h => absurd (Her.out.trans h) h0⟩
end Go.Proofs.Ytllhmidpphlbhaa.ds
namespace Go.Proofs.Ytllhmidpphlbhaa.ds
open Go.ChangeShapes Go.WideShapes Go.ChangeAt Go.RowKit Go.Sort
set_option linter.unusedVariables false
set_option linter.unusedSimpArgs false
/-- bytes that are being written -/
structure Bf (wB w : World) (s : Sl) (us : List Nat) : Prop where
  nw : Nw wB w 5 1 s (byts us)
  len : s.n = us.length
theorem Bf.kept {wB w w' : World} {s : Sl} {us : List Nat} (h : Bf wB w s us) (a : Apart [] w w') : Bf wB w' s us := ⟨h.nw.kept a, h.len⟩
theorem Bf.nil {wB w : World} (a : Apart [] wB w) : Bf wB w ⟨none, 0, 0⟩ [] := ⟨⟨World.ownsRow_nil _ _ _ _, by simp [Sl.v, Value.ownBlock], a⟩, rfl⟩
/-- what writing does to memory: the old row, and new ones -/
structure Gw (w w' : World) (s s' : Sl) : Prop where
  ap : Apart s.v.ownBlock.toList w w'
  new : ∀ k, s'.v.ownBlock = some k → s.v.ownBlock = some k ∨ w.heap.size ≤ k
theorem Gw.trans {w w1 w2 : World} {s s1 s2 : Sl} (h : Gw w w1 s s1) (k : Gw w1 w2 s1 s2) : Gw w w2 s s2 := by
  refine ⟨h.ap.trans' k.ap (fun y hy => ?_), fun y hy => ?_⟩
  · simp at hy
    rcases h.new y hy with h1 | h1
    · left; simpa using h1
    · exact .inr h1
  · rcases k.new y hy with h1 | h1
    · exact h.new y h1
    · right; have := h.ap.size; omega
theorem Gw.of {w w' : World} {s : Sl} (a : Apart [] w w') : Gw w w' s s := ⟨a.mono (by simp), fun k hk => .inl hk⟩
theorem Gw.refl (w : World) (s : Sl) : Gw w w s s := Gw.of (Apart.refl _ _)
/-- blocks of another kind stay -/
theorem Gw.block {wB w w' : World} {s s' : Sl} {us : List Nat} (h : Gw w w' s s') (b : Bf wB w s us) {X : Nat} {cur : Array Value} {t : TypeId} (hX : w.heap[X]? = some (.cells cur t (0, 0))) (ht : t ≠ 5) : w'.heap[X]? = some (.cells cur t (0, 0)) := by
  refine (h.ap.block X (lt_of_heap hX) (fun hm => ?_)).trans hX
  obtain ⟨cu, hc⟩ := own_typ b.nw.own (k := X) (by simpa using hm)
  rw [hX] at hc
  simp at hc
  exact ht hc.2
/-- .. and what is read in them -/
theorem Gw.rd {wB w w' : World} {s s' : Sl} {us : List Nat} (h : Gw w w' s s') (b : Bf wB w s us) {p : Option Addr} {vs : List Value} (hr : Rd w p vs) (ho : ∀ P o, p = some ⟨P, o, none⟩ → P < wB.heap.size) : Rd w' p vs :=
  hr.kept h.ap (fun P o e hm => by have := b.nw.new P (by simpa using hm); have := ho P o e; omega)
structure AP (wB w : World) (s : Sl) (us : List Nat) (e : Ending) (w' : World) : Prop where
  ex : ∃ s' : Sl, e = .returned (.slice s'.p s'.n s'.c) ∧ Bf wB w' s' us ∧ Gw w w' s s'
/-- one byte more -/
theorem app_byte {wB w : World} {s : Sl} {us : List Nat} (h : Bf wB w s us) (x : Nat) (hl : us.length + 1 ≤ 1099511627776) :
    ∃ s' W', (Builtin.append_ #[28, 28] 28 #[.slice s.p s.n s.c, .slice (some ⟨w.heap.size, 0, none⟩) 1 1]).run Try.prog (w.alloc (Obj.cells #[.int .u8 (x : Int)] 5)) = .ok (.slice s'.p s'.n s'.c) W' ∧ Bf wB W' s' (us ++ [x]) ∧ Gw w W' s s' := by
  obtain ⟨i0, hif, hz0, hz1, hz2⟩ := info_parts infoB
  have hlen := h.len
  obtain ⟨s5, w5, hrun, hnw5, hs5, ap5, k5, hk5, -, hk6⟩ := run_appM (s := s) 28 28 5 i0 _ 1 1 Try.underlying28 hif hz0 hz1 hz2 rfl (by decide) h.nw 1 [.int .u8 (x : Int)] (by decide) rfl (fun u hu => by simp at hu; subst hu; rfl) (by unfold maxLen; omega) (by omega)
  refine ⟨s5, w5, hrun, ⟨by rw [byts_app]; exact hnw5, by simp; omega⟩, ap5, fun k hk => ?_⟩
  have e1 : k5 = k := by unfold Sl.v at hk; rw [hk5] at hk; simpa [Value.ownBlock] using hk
  rw [← e1]; exact hk6
set_option maxHeartbeats 4000000 in
set_option maxRecDepth 100000 in
theorem rnum_ok {wB w : World} {s : Sl} {us : List Nat} (h : Bf wB w s us) (n k : Nat) (hn : n < 9223372036854775808) (hk : k ≤ 100) (hl : us.length ≤ 1000000) : Calls Try.prog 79 #[.slice s.p s.n s.c, .int .i64 (n : Nat), .int .i64 (k : Nat)] w fun e w' => AP wB w s (us ++ encN k n) e w' := by
  have HB := hid h
  clear h
  go_enter Try.func79, Try.ntmps79
  go_wp2_with fail
  go_loopw [0, 1, 7] (fun a b c wt => ∃ (i : Nat) (t : Sl), a = .slice t.p t.n t.c ∧ b = .int .i64 ((n / 256 ^ i : Nat) : Int) ∧ c = .int .i64 (i : Nat) ∧ i ≤ k ∧ Bf wB wt t (us ++ encN i n) ∧ Gw w wt s t) (fun _ _ c _ => k - (intOf c).toNat)
  case atStart => exact ⟨0, s, rfl, by simp, rfl, Nat.zero_le _, by simpa [encN] using HB.out, Gw.refl _ _⟩
  case round =>
    obtain ⟨i, t, rfl, rfl, rfl, hi, hb, hg⟩ := hrel
    have HB1 := hid hb
    have HG1 := hid hg
    clear hb hg
    by_cases hlt : i < k
    · have hlti : ((i : Nat) : Int) < (k : Int) := by omega
      obtain ⟨m, Hm⟩ : ∃ m, Hid (m = n / 256 ^ i) := ⟨_, rfl⟩
      have hm64 : m < 9223372036854775808 := by rw [Hm.out]; exact Nat.lt_of_le_of_lt (Nat.div_le_self _ _) hn
      rw [← Hm.out]
      obtain ⟨x, Hx⟩ : ∃ x, Hid (x = m % 256) := ⟨_, rfl⟩
      have hx8 : x < 256 := by rw [Hx.out]; omega
      have hrem : (m : Int) % 256 = (x : Int) := by rw [Hx.out]; omega
      have hw8 : IntKind.u8.wrap (x : Int) = (x : Int) := by rw [IntKind.wrap_u8]; omega
      obtain ⟨m2, Hm2⟩ : ∃ m2, Hid (m2 = m / 256) := ⟨_, rfl⟩
      have hquo : (m : Int) / 256 = (m2 : Int) := by rw [Hm2.out]; omega
      have hlen := encN_len i n
      obtain ⟨t2, W', h1, h2, h3⟩ := app_byte HB1.out x (by rw [List.length_append, hlen]; omega)
      have HRUN := hid h1
      have HE : Hid (us ++ encN i n ++ [x] = us ++ encN (i + 1) n) := by unfold Hid; rw [encN_succ, Hx.out, Hm.out, List.append_assoc]
      have HB2 : Hid (Bf wB W' t2 (us ++ encN (i + 1) n)) := by unfold Hid; rw [← HE.out]; exact h2
      have HG2 := hid (HG1.out.trans h3)
      have HM3 : Hid (m2 = n / 256 ^ (i + 1)) := by unfold Hid; rw [Hm2.out, Hm.out, Nat.div_div_eq_div_mul, Nat.pow_succ]
      clear h1 h2 h3
      go_wp2_with (at_builtin; refine wpList_app2 rfl (.tmp 13) (.tmp 17) 28 28 rfl _ _ rfl rfl _ _ HRUN.out ?_)
      go_roundw
      case rel => exact ⟨i + 1, t2, rfl, by rw [← HM3.out], by go_num, by omega, HB2.out, HG2.out⟩
      case measure => simp [intOf]; omega
    · have hlti : ¬ ((i : Nat) : Int) < (k : Int) := by omega
      have hik : i = k := by omega
      go_wp2_with fail
      go_ret
      rw [← hik]
      exact ⟨⟨t, rfl, HB1.out, HG1.out⟩⟩
theorem bsk_take {k : ByteArray} {i : Nat} (hi : i < k.size) : (bsk k).take (i + 1) = (bsk k).take i ++ [k[i].toNat] := by
  have hl := bsk_len k
  rw [List.take_add_one, List.getElem?_eq_getElem (by omega)]
  congr 1
  simp [bsk, ByteArray.toList_eq]
  rfl
set_option maxHeartbeats 4000000 in
set_option maxRecDepth 100000 in
theorem rkey_ok {wB w : World} {s : Sl} {us : List Nat} (h : Bf wB w s us) (k : ByteArray) (hk : k.size ≤ 100) (hl : us.length ≤ 100000) : Calls Try.prog 84 #[.slice s.p s.n s.c, .string k] w fun e w' => AP wB w s (us ++ (encN 1 (bsk k).length ++ bsk k)) e w' := by
  have HB := hid h
  have HC := hid (rnum_ok h k.size 1 (by omega) (by omega) (by omega))
  have hkl := bsk_len k
  have HE : Hid (us ++ (encN 1 (bsk k).length ++ bsk k) = (us ++ encN 1 k.size) ++ bsk k) := by unfold Hid; rw [hkl, List.append_assoc]
  rw [HE.out]
  have HL : Hid ((us ++ encN 1 k.size).length ≤ 100001) := by unfold Hid; rw [List.length_append, encN_len]; omega
  clear h HE
  go_enter Try.func84, Try.ntmps84
  go_wp2_with fail
  refine HC.out.mono ?_
  rintro _ w1 ⟨t1, rfl, b1, g1⟩
  have HB1 := hid b1
  have HG1 := hid g1
  clear b1 g1 HC
  dsimp only
  generalize hvs : us ++ encN 1 k.size = vs at *
  have Hvs := hid hvs
  clear hvs
  go_wp2_with fail
  go_loopw [0, 5] (fun a c wt => ∃ (i : Nat) (t : Sl), a = .slice t.p t.n t.c ∧ c = .int .i64 (i : Nat) ∧ i ≤ k.size ∧ Bf wB wt t (vs ++ (bsk k).take i) ∧ Gw w wt s t) (fun _ c _ => k.size - (intOf c).toNat)
  case atStart => exact ⟨0, t1, rfl, rfl, Nat.zero_le _, by simpa using HB1.out, HG1.out⟩
  case round =>
    obtain ⟨i, t, rfl, rfl, hi, hb, hg⟩ := hrel
    have HB2 := hid hb
    have HG2 := hid hg
    clear hb hg
    by_cases hlt : i < k.size
    · have hlti : ((i : Nat) : Int) < (k.size : Int) := by omega
      obtain ⟨t2, W', h1, h2, h3⟩ := app_byte HB2.out (k[i].toNat) (by rw [List.length_append, List.length_take]; have := HL.out; omega)
      have HRUN := hid h1
      have HB3 : Hid (Bf wB W' t2 (vs ++ (bsk k).take (i + 1))) := by unfold Hid; rw [bsk_take hlt, ← List.append_assoc]; exact h2
      have HG3 := hid (HG2.out.trans h3)
      clear h1 h2 h3
      go_wp2_with (at_builtin; refine wpList_app2 rfl (.tmp 16) (.tmp 20) 28 28 rfl _ _ rfl rfl _ _ HRUN.out ?_)
      go_roundw
      case rel => exact ⟨i + 1, t2, rfl, by go_num, by omega, HB3.out, HG3.out⟩
      case measure => simp [intOf]; omega
    · have hlti : ¬ ((i : Nat) : Int) < (k.size : Int) := by omega
      have hik : (bsk k).take i = bsk k := List.take_of_length_le (by omega)
      rw [hik] at HB2
      go_wp2_with fail
      go_ret
      rw [← List.append_assoc, Hvs.out]
      exact ⟨⟨t, rfl, HB2.out, HG2.out⟩⟩
def slN : Value → Nat
  | .slice _ n _ => n
  | _ => 0
set_option maxHeartbeats 4000000 in
set_option maxRecDepth 100000 in
theorem rfilled_ok {wB w : World} {s : Sl} {us : List Nat} (h : Bf wB w s us) (hl : us.length ≤ 2048) : Calls Try.prog 82 #[.slice s.p s.n s.c] w fun e w' => AP wB w s (pad us) e w' := by
  have HB := hid h
  clear h
  go_enter Try.func82, Try.ntmps82
  go_wp2_with fail
  go_loopw [0] (fun a wt => ∃ (i : Nat) (t : Sl), a = .slice t.p t.n t.c ∧ us.length + i ≤ 2048 ∧ Bf wB wt t (us ++ List.replicate i 0) ∧ Gw w wt s t) (fun a _ => 2048 - slN a)
  case atStart => exact ⟨0, s, rfl, hl, by simpa using HB.out, Gw.refl _ _⟩
  case round =>
    obtain ⟨i, t, rfl, hi, hb, hg⟩ := hrel
    have HB1 := hid hb
    have HG1 := hid hg
    have hn : t.n = us.length + i := by have := hb.len; rw [List.length_append, List.length_replicate] at this; exact this
    clear hb hg
    by_cases hlt : t.n < 2048
    · have hlti : ((t.n : Nat) : Int) < 2048 := by omega
      obtain ⟨t2, W', h1, h2, h3⟩ := app_byte HB1.out 0 (by rw [List.length_append, List.length_replicate]; omega)
      rw [show ((0 : Nat) : Int) = 0 from rfl] at h1
      have HRUN := hid h1
      have HB2 : Hid (Bf wB W' t2 (us ++ List.replicate (i + 1) 0)) := by unfold Hid; rw [List.replicate_succ', ← List.append_assoc]; exact h2
      have HG2 := hid (HG1.out.trans h3)
      have hn2 : t2.n = us.length + (i + 1) := by have := HB2.out.len; rw [List.length_append, List.length_replicate] at this; exact this
      have HNN : Hid (t.n = us.length + i ∧ t2.n = us.length + (i + 1)) := ⟨hn, hn2⟩
      clear h1 h2 h3 hn hn2
      go_wp2_with (at_builtin; refine wpList_app2 rfl (.tmp 6) (.tmp 7) 28 28 rfl _ _ rfl rfl _ _ HRUN.out ?_)
      go_roundw
      case rel => exact ⟨i + 1, t2, rfl, by have := HNN.out; omega, HB2.out, HG2.out⟩
      case measure => simp only [slN]; have := HNN.out; omega
    · have hlti : ¬ ((t.n : Nat) : Int) < 2048 := by omega
      have he : us ++ List.replicate i 0 = pad us := by unfold pad; rw [show i = 2048 - us.length from by omega]
      rw [he] at HB1
      clear he hn
      go_wp2_with fail
      go_ret
      exact ⟨⟨t, rfl, HB1.out, HG1.out⟩⟩
end Go.Proofs.Ytllhmidpphlbhaa.ds
