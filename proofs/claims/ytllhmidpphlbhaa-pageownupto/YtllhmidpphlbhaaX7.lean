import Derived.Test.YtllhmidpphlbhaaX6
import Derived.Test.YtllhmidpphlbhaaG37
namespace Go.Proofs.Ytllhmidpphlbhaa.ds
open Go.ChangeShapes Go.WideShapes Go.ChangeAt Go.RowKit Go.Sort
set_option linter.unusedVariables false
set_option linter.unusedSimpArgs false

set_option maxHeartbeats 4000000 in
set_option maxRecDepth 100000 in
theorem rcheck_ok (w : World) (s0 : Sl) (B : List Nat) (hrd : Rd w s0.p (byts B)) (hlen : B.length = s0.n) (h8 : ∀ b ∈ B, b < 256) (hlim : s0.n ≤ 9223372036854775807) : Calls Try.prog 54 #[.slice s0.p s0.n s0.c] w fun e w' => e = .returned (.tuple #[.int .i64 ((checkR B).1 : Nat), .int .i64 ((checkR B).2.1 : Nat), .int .i64 ((checkR B).2.2 : Nat)]) ∧ Apart [] w w' := by
  have HC := hid (read_ok w s0 B hrd hlen h8 hlim)
  clear hrd hlen h8 hlim
  go_enter Try.func54, Try.ntmps54
  go_wp2_with fail
  refine HC.out.mono ?_
  rintro q w1 ⟨a1, g, o, sk, sl, rfl, -⟩
  have HA1 := hid a1
  clear a1
  unfold pgL
  try dsimp only
  obtain ⟨Y, HY⟩ : ∃ Y, Hid (Y = w1.heap.size) := ⟨_, rfl⟩
  obtain ⟨w2, hw2⟩ : ∃ V, V = w1.alloc (.cells #[.int .i64 ((checkR B).1 : Nat), .int .i64 g, .int .i64 o, .slice sk.p sk.n sk.c, .slice sl.p sl.n sl.c] 119) := ⟨_, rfl⟩
  have hY2 : w2.heap[Y]? = some (.cells #[.int .i64 ((checkR B).1 : Nat), .int .i64 g, .int .i64 o, .slice sk.p sk.n sk.c, .slice sl.p sl.n sl.c] 119 (0, 0)) := by rw [hw2, HY.out]; exact heap_alloc_new w1 _
  have HA2 : Hid (Apart [] w w2) := by unfold Hid; rw [hw2]; exact HA1.out.alloc _
  have y0 := crow hY2 0 _ rfl
  clear hY2
  go_upto_region 2 with fail
  rw [← hw2, ← HY.out]
  clear hw2
  go_wp2_with fail
  go_ret3
  exact ⟨rfl, HA2.out⟩
theorem Bf.set {wB w : World} {s : Sl} {l : List Nat} (h : Bf wB w s l) (K : Nat) (hK : K < l.length) (x : Nat) : ∃ gB, s.p = some ⟨gB, 0, none⟩ ∧ w.cell? ⟨gB, K, none⟩ = some (.int .u8 ((l.getD K 0 : Nat) : Int)) ∧ w.frozen? ⟨gB, K, none⟩ = false ∧ wB.heap.size ≤ gB ∧ Bf wB (w.setCell ⟨gB, K, none⟩ (.int .u8 (x : Int))) s (l.set K x) := by
  have hlen := h.len
  obtain ⟨hl, ⟨hv, hz⟩ | ⟨gB, cap, cur, hv, hb, hr, hle, hm, hs, ht⟩⟩ := h.nw.own
  · omega
  have hv' := hv
  unfold Sl.v at hv'
  simp at hv'
  obtain ⟨hp, hc⟩ := hv'
  have hnew := h.nw.new gB (by rw [hv]; rfl)
  have hcell : w.cell? ⟨gB, K, none⟩ = some (.int .u8 ((l.getD K 0 : Nat) : Int)) := by
    obtain ⟨P, o, e, hP, hcc⟩ := h.nw.rd (by simp [byts]; omega)
    rw [hp] at e
    simp at e
    obtain ⟨rfl, rfl⟩ := e
    have := hcc K (.int .u8 ((l.getD K 0 : Nat) : Int)) (by rw [byts, List.getElem?_map, List.getElem?_eq_getElem hK, List.getD_eq_getElem?_getD, List.getElem?_eq_getElem hK]; rfl)
    simpa using this
  refine ⟨gB, hp, hcell, frozen_of_row _ _ K _ _ hr, hnew, ⟨⟨⟨by simpa [byts] using hl, .inr ⟨gB, cap, _, hv, hb, heap_setCell_same w gB K _ 5 _ hr, hle, hm, by simpa using hs, ?_⟩⟩, h.nw.new, h.nw.ap.setCell (.inr hnew) _⟩, by simpa using hlen⟩⟩
  rw [Array.toList_setIfInBounds, List.take_set, ht]
  simp [byts, List.map_set]
theorem Bf.shrink {wB w : World} {s : Sl} {l r : List Nat} (h : Bf wB w s (l ++ r)) (hr : r ≠ []) : Bf wB w ⟨s.p, l.length, s.c⟩ l := by
  have hlen := h.len
  have hrl : 0 < r.length := List.length_pos_iff.2 hr
  rw [List.length_append] at hlen
  obtain ⟨hl, ⟨hv, hz⟩ | ⟨gB, cap, cur, hv, hb, hrow, hle, hm, hs, ht⟩⟩ := h.nw.own
  · omega
  have hv' := hv
  unfold Sl.v at hv'
  simp at hv'
  obtain ⟨hp, hc⟩ := hv'
  refine ⟨⟨⟨by simp [byts], .inr ⟨gB, cap, cur, ?_, hb, hrow, by simp only; omega, hm, hs, ?_⟩⟩, fun k hk => ?_, h.nw.ap⟩, rfl⟩
  · unfold Sl.v; simp only; rw [hp, hc]
  · have := congrArg (List.take l.length) ht
    rw [List.take_take] at this
    simp only [Nat.mul_one] at this ⊢
    rw [Nat.min_eq_left (by omega)] at this
    rw [this, byts_app, List.take_left' (by simp [byts])]
  · refine h.nw.new k ?_
    unfold Sl.v at hk ⊢
    simp only at hk
    rw [hp] at hk ⊢
    exact hk
/-- what turning a byte leaves -/
structure TuP (w W : World) (s : Sl) (n : Nat) (e : Ending) (W' : World) : Prop where
  ex : ∃ (t : Sl) (us : List Nat), e = .returned (.slice t.p t.n t.c) ∧ us.length = n ∧ (∀ b ∈ us, b < 256) ∧ Bf w W' s us ∧ Rd W' t.p (byts us) ∧ us.length = t.n ∧ t.ok ∧ t.n ≤ t.c
  a : Apart [] w W'
theorem Nw.capn {w W : World} {e size : Nat} {s : Sl} {us : List Value} (h : Nw w W e size s us) : s.n ≤ s.c := by
  obtain ⟨hl, ⟨hv, hz⟩ | ⟨gB, cap, cur, hv, hb, hr, hle, hm, hs, ht⟩⟩ := h.own
  · omega
  · unfold Sl.v at hv
    simp at hv
    omega
theorem bx8 : ∀ u : Fin 256, bits .xor .u8 ((u.val : Nat) : Int) 1 = ((u.val ^^^ 1 : Nat) : Int) := by decide +kernel
theorem xor1_lt {u : Nat} (h : u < 256) : u ^^^ 1 < 256 := Nat.xor_lt_two_pow (n := 8) h (by decide)
set_option maxHeartbeats 4000000 in
set_option maxRecDepth 100000 in
theorem turned_ok {w W : World} {s : Sl} {us : List Nat} (h : Bf w W s us) (h8 : ∀ b ∈ us, b < 256) (hl : us.length ≤ 2000000) : Calls Try.prog 55 #[.slice s.p s.n s.c] W fun e W' => TuP w W s us.length e W' := by
  have hlen := h.len
  by_cases h0 : 0 < us.length
  · obtain ⟨i, Hi⟩ : ∃ i, Hid (i = us.length / 300) := ⟨_, rfl⟩
    have hiu : i < us.length := by rw [Hi.out]; omega
    obtain ⟨u, Hu⟩ : ∃ u, Hid (u = us.getD i 0) := ⟨_, rfl⟩
    have hu8 : u < 256 := by rw [Hu.out]; exact getD8 h8 i
    obtain ⟨x, Hx⟩ : ∃ x, Hid (x = u ^^^ 1) := ⟨_, rfl⟩
    have hx8 : x < 256 := by rw [Hx.out]; exact xor1_lt hu8
    obtain ⟨g, hp, hc, hf, hgw, hb2⟩ := h.set i hiu x
    rw [← Hu.out] at hc
    have hnw := hb2.nw
    obtain ⟨W1, hW1⟩ : ∃ V, V = W.setCell ⟨g, i, none⟩ (.int .u8 (x : Int)) := ⟨_, rfl⟩
    rw [← hW1] at hb2
    have h82 : ∀ b ∈ us.set i x, b < 256 := fun b hb => by
      rcases List.mem_or_eq_of_mem_set hb with hb | hb
      · exact h8 b hb
      · rw [hb]; exact hx8
    obtain ⟨t, W2, hrun, hn2, -⟩ := appB W1 s (us.set i x) 28 hb2.nw.rd (by rw [hb2.len]) (by rw [hlen]; omega) hb2.nw.ok
    have HRUN : Hid ((Builtin.append_ #[28, 28] 28 #[.slice none 0 0, .slice s.p s.n s.c]).run Try.prog W1 = .ok (.slice t.p t.n t.c) W2) := hrun
    have HP : Hid (TuP w W s us.length (.returned (.slice t.p t.n t.c)) W2) := by
      have e1 : (us.set i x).length = t.n := by have := hn2.own.1; rw [byts_len] at this; omega
      exact ⟨⟨t, us.set i x, rfl, by simp, h82, hb2.kept hn2.ap, hn2.rd, e1, hn2.ok, hn2.capn⟩, hb2.nw.ap.trans hn2.ap⟩
    have hn0 : ((s.n : Nat) : Int) > 0 := by omega
    have hq : IntKind.i64.wrap (((s.n : Nat) : Int) / 300) = (i : Int) := by have := Hi.out; rw [IntKind.wrap_i64]; omega
    have hii : ((i : Nat) : Int) < ((s.n : Nat) : Int) := by omega
    have hii2 : i < s.n := by omega
    have hxb : bits .xor .u8 (u : Int) 1 = (x : Int) := by have := bx8 ⟨u, hu8⟩; rw [Hx.out]; exact this
    clear hrun hn2 hb2 hnw h h8 h82 hl
    obtain ⟨sp, sn, sc⟩ := s
    dsimp only at hp hn0 hq hii hii2 HRUN HP
    subst hp
    have HLEN := hid hlen
    clear hlen h0
    go_enter Try.func55, Try.ntmps55
    go_upto_region 4 with fail
    rw [← hW1]
    clear hW1
    go_wp2_with (at_builtin; refine wpList_app2 rfl (.const (.slice none 0 0)) (.tmp 18) 28 28 rfl _ _ rfl rfl _ _ HRUN.out ?_)
    go_ret
    exact HP.out
  · obtain ⟨t, W2, hrun, hn2, -⟩ := appB W s us 28 h.nw.rd (by rw [hlen]) (by rw [hlen]; omega) h.nw.ok
    have HRUN : Hid ((Builtin.append_ #[28, 28] 28 #[.slice none 0 0, .slice s.p s.n s.c]).run Try.prog W = .ok (.slice t.p t.n t.c) W2) := hrun
    have HP : Hid (TuP w W s us.length (.returned (.slice t.p t.n t.c)) W2) := by
      have e1 : us.length = t.n := by have := hn2.own.1; rw [byts_len] at this; omega
      exact ⟨⟨t, us, rfl, rfl, h8, h.kept hn2.ap, hn2.rd, e1, hn2.ok, hn2.capn⟩, h.nw.ap.trans hn2.ap⟩
    have hn0 : ¬ ((s.n : Nat) : Int) > 0 := by omega
    have hn1 : ¬ 0 < s.n := by omega
    clear hrun hn2 h h8 hl h0
    have HLEN := hid hlen
    clear hlen
    go_enter Try.func55, Try.ntmps55
    go_wp2_with (at_builtin; refine wpList_app2 rfl (.const (.slice none 0 0)) (.tmp 18) 28 28 rfl _ _ rfl rfl _ _ HRUN.out ?_)
    go_ret
    exact HP.out
end Go.Proofs.Ytllhmidpphlbhaa.ds
namespace Go.Proofs.Ytllhmidpphlbhaa.ds
open Go.ChangeShapes Go.WideShapes Go.ChangeAt Go.RowKit Go.Sort
set_option linter.unusedVariables false
set_option linter.unusedSimpArgs false
set_option maxHeartbeats 8000000 in
set_option maxRecDepth 100000 in
theorem checked_ok (w : World) (s : Sl) (B : List Nat) (hrd : Rd w s.p (byts B)) (hlen : B.length = s.n) (h8 : ∀ b ∈ B, b < 256) (ok : s.ok) (hlim : s.n ≤ 1100000) : Calls Try.prog 28 #[.slice s.p s.n s.c] w fun r w' => r = .returned (.bool true) ∧ Apart [] w w' := by
  obtain ⟨c1, W1, hrun1, hn1, -⟩ := appB w s B 28 hrd hlen (by omega) ok
  have HR1 : Hid ((Builtin.append_ #[28, 28] 28 #[.slice none 0 0, .slice s.p s.n s.c]).run Try.prog w = .ok (.slice c1.p c1.n c1.c) W1) := hrun1
  obtain ⟨c2, W2, hrun2, hn2⟩ := app_mark8 hn1 (by omega)
  have HR2 := hid hrun2
  obtain ⟨e1, e2, e3, e4, e5⟩ := hn2.bytes
  have hbf2 : Bf w W2 c2 (B ++ [167]) := ⟨hn2, by rw [e1]; simp⟩
  have hbf := hbf2.shrink (by simp)
  obtain ⟨g, cur, hp, _, _, hle, _, _, hgw, hmx⟩ := hn2.blk (by omega)
  have hmk : W2.cell? ⟨g, B.length, none⟩ = some (.int .u8 167) := by
    obtain ⟨P, o, e, hP, hc⟩ := hn2.rd (by rw [byts_len]; simp)
    rw [hp] at e
    simp at e
    obtain ⟨rfl, rfl⟩ := e
    have := hc B.length (.int .u8 167) (by rw [byts_app, List.getElem?_append_right (by rw [byts_len]; omega), byts_len]; simp [byts])
    simpa using this
  have HG : Hid (g < W2.heap.size) := by
    unfold Hid
    exact lt_of_heap (by assumption)
  have HMK := hid hmk
  have HA2 := hid hn2.ap
  have HBF := hid hbf
  have hcap' : B.length ≤ c2.c := e4
  unfold maxLen at hmx
  obtain ⟨c2p, c2n, c2c⟩ := c2
  dsimp only at hp HR2 HBF hcap' hmx e1
  subst hp e1
  rw [hlen] at HR2 HBF hcap' HMK
  have HLEN := hid hlen
  have HRD := hid hrd
  have H8 := hid h8
  have HOK := hid ok
  have hcapi : ((s.n : Nat) : Int) ≤ (c2c : Int) := by omega
  have HPB : Hid (∀ W, Apart [] W2 W → Pb W ⟨some ⟨g, 0, none⟩, s.n, c2c⟩ B) := fun W a => ⟨(HBF.out.nw.rd).kept0 a, HLEN.out, H8.out, hcap', fun h => by simp at h, by show s.n ≤ _; omega⟩
  clear hrun1 hrun2 hn1 hn2 e2 e3 e4 e5 hbf2 hbf hle hgw hrd hlen h8 ok hmk
  go_enter Try.func28, Try.ntmps28
  go_wp2_with (at_builtin; first | refine wpList_app2 rfl (.const (.slice none 0 0)) (.tmp 14) 28 28 rfl _ _ rfl rfl _ _ HR1.out ?_ | refine wpList_app2 rfl (.tmp 16) (.tmp 17) 28 28 rfl _ _ rfl rfl _ _ HR2.out ?_)
  obtain ⟨ck, Hck⟩ : ∃ c, Hid (c = checkR B) := ⟨_, rfl⟩
  have h18 := check_ok (HPB.out W2 (Apart.refl _ _))
  rw [← Hck.out] at h18
  refine h18.mono ?_
  clear h18
  rintro _ W3 ⟨rfl, a3⟩
  have HA3 := hid a3
  clear a3
  try dsimp only
  go_wp2_with fail
  have h54 := rcheck_ok W3 s B (HRD.out.kept0 (HA2.out.trans HA3.out)) HLEN.out H8.out (by omega)
  rw [← Hck.out] at h54
  refine h54.mono ?_
  clear h54
  rintro _ W4 ⟨rfl, a4⟩
  have HA4 := hid (HA3.out.trans a4)
  clear a4 HA3
  try dsimp only
  go_wp2_with fail
  refine (lnum_ok W4 _).mono ?_
  rintro _ wn ⟨rfl, hwn⟩
  rw [hwn]
  clear hwn wn
  try dsimp only
  go_wp2_with fail
  refine (same_self (s := ⟨some ⟨g, 0, none⟩, s.n, c2c⟩) (t := s) (HBF.out.nw.rd.kept0 HA4.out) HLEN.out (fun h => by simp at h) (HRD.out.kept0 (HA2.out.trans HA4.out)) HLEN.out HOK.out).mono ?_
  rintro _ wn ⟨rfl, hwn⟩
  rw [hwn]
  clear hwn wn
  try dsimp only
  have m4 : W4.cell? ⟨g, s.n, none⟩ = some (.int .u8 167) := (HA4.out.cell (p := ⟨g, s.n, none⟩) HG.out (by simp)).trans HMK.out
  have hix : ((s.n : Nat) : Int) < ((s.n + 1 : Nat) : Int) := by omega
  have hix2 : s.n < s.n + 1 := by omega
  go_wp2_with fail
  clear m4
  have htu := turned_ok (HBF.out.kept HA4.out) H8.out (by rw [HLEN.out]; omega)
  refine htu.mono ?_
  clear htu
  rintro _ W5 ⟨⟨t, us, rfl, hul, hu8, hub, htr, htl, hto, htc⟩, a5⟩
  have HUB := hid hub
  have HU8 := hid hu8
  have HTR := hid htr
  have HTL := hid htl
  have HUL := hid hul
  have HA5 := hid a5
  clear hub hu8 htr htl hto htc hul a5
  try dsimp only
  obtain ⟨cu, Hcu⟩ : ∃ c, Hid (c = checkR us) := ⟨_, rfl⟩
  have hPB5 : Pb W5 ⟨some ⟨g, 0, none⟩, s.n, c2c⟩ us := ⟨HUB.out.nw.rd, by rw [HUL.out, HLEN.out], HU8.out, hcap', fun h => by simp at h, by show s.n ≤ _; omega⟩
  have h18 := check_ok hPB5
  rw [← Hcu.out] at h18
  have H18 := hid h18
  clear h18 hPB5
  go_wp2_with fail
  refine H18.out.mono ?_
  clear H18
  rintro _ W6 ⟨rfl, a6⟩
  have HA6 := hid a6
  clear a6
  try dsimp only
  go_wp2_with fail
  have h54 := rcheck_ok W6 t us (HTR.out.kept0 HA6.out) HTL.out HU8.out (by rw [← HTL.out, HUL.out, HLEN.out]; omega)
  rw [← Hcu.out] at h54
  refine h54.mono ?_
  clear h54
  rintro _ W7 ⟨rfl, a7⟩
  have HA7 := hid (HA5.out.trans (HA6.out.trans a7))
  clear a7
  try dsimp only
  go_wp2_with fail
  refine (lnum_ok W7 _).mono ?_
  rintro _ wn ⟨rfl, hwn⟩
  rw [hwn]
  clear hwn wn
  try dsimp only
  go_wp2_with fail
  go_ret
  exact ⟨rfl, HA7.out⟩
set_option maxHeartbeats 4000000 in
set_option maxRecDepth 100000 in
theorem check_walk (w : World) (s : Sl) (B : List Nat) (hrd : Rd w s.p (byts B)) (hlen : B.length = s.n) (h8 : ∀ b ∈ B, b < 256) (ok : s.ok) (hlim : s.n ≤ 9223372036854775807) : Calls Try.prog 7 #[.slice s.p s.n s.c] w fun r w' => r = .returned (.bool true) ∧ Apart [] w w' := by
  by_cases hb : s.n > 1048576
  · have hbi : ((s.n : Nat) : Int) > 1048576 := by omega
    clear hrd hlen h8 ok
    go_enter Try.func7, Try.ntmps7
    go_wp2_with fail
    go_ret
    exact ⟨rfl, Apart.refl _ _⟩
  · have hbi : ¬ ((s.n : Nat) : Int) > 1048576 := by omega
    have HC : Hid (∀ W, Apart [] w W → Calls Try.prog 28 #[.slice s.p s.n s.c] W fun r w' => r = .returned (.bool true) ∧ Apart [] W w') := fun W a => checked_ok W s B (hrd.kept0 a) hlen h8 ok (by omega)
    clear hrd hlen h8 ok hlim hb
    go_enter Try.func7, Try.ntmps7
    go_wp2_with fail
    refine (alive_ok w).mono ?_
    rintro _ w1 ⟨rfl, a1⟩
    have HA1 := hid a1
    clear a1
    try dsimp only
    go_wp2_with fail
    refine (HC.out w1 HA1.out).mono ?_
    rintro _ w2 ⟨rfl, a2⟩
    have HA2 := hid (HA1.out.trans a2)
    clear a2
    try dsimp only
    go_wp2_with fail
    go_ret
    exact ⟨rfl, HA2.out⟩
end Go.Proofs.Ytllhmidpphlbhaa.ds
namespace Go.Proofs.Ytllhmidpphlbhaa.ds
open Go.ChangeShapes Go.WideShapes Go.ChangeAt Go.RowKit Go.ChangeMaps Go.Deep
set_option linter.unusedVariables false
set_option linter.unusedSimpArgs false
set_option maxRecDepth 100000 in
theorem check_lifted (os : Os) (started : os.Started) (H : Type) (enc : TypeId × Value → H) :
    ReturnsInHanded {} Try.checked os 7 .any (Rows.pageCheckSpec.pre6 enc Try.prog Try.f7 Rows.pageCheckRow.domain false) (Rows.pageCheckSpec.post enc Try.prog Try.f7 false true false false) := by
  refine returnsInHanded_of_change (C := Try.checked) own started (by kernel_rfl) Try.func7
    (ChangeSpec.witness6 (enc := enc) (C := Try.checked) false ⟨#[], #[.slice none 0 0], []⟩ 8 (by kernel_rfl) (by kernel_rfl) (by kernel_rfl) (by kernel_rfl)) ?_
  intro W base args ds gs before hval0 hW hcnd _
  have hval : ∀ (j : Nat) t v, Try.f7.params[j]? = some t → args[j]? = some v → Value.okWide Try.prog W .any base t v := hval0
  have hW' := hW
  obtain ⟨p, q, hA0, hV, rfl, hfz, hnd⟩ := hW
  have hA : DataW.TrodAll enc Try.prog W 0 (fun _ => true) true Try.f7.params.toList args.toList ds p := hA0
  rw [Try.params7] at hA hval
  obtain ⟨v0, vs0, d0, ds0, p0, q0, hargs0, rfl, rfl, h0, r0⟩ := trodAll_cons hA
  obtain ⟨rfl, rfl, rfl⟩ := trodAll_nil r0
  obtain rfl : args = #[v0] := by cases args; simp_all
  obtain ⟨rfl, rfl⟩ := trodVars_none hV
  have k0 := h0
  have lt0 : ∀ x ∈ p0, x.block < W.heap.size := by obtain ⟨m, hm⟩ := k0; exact DataW.trod_lt m _ _ _ hm
  obtain ⟨a0, len0, cap0, rfl⟩ := okWide_slice Try.underlying28 (hval 0 28 v0 rfl rfl)
  obtain ⟨s, bs, hs, hrd, hlen, hlim, h8, hok⟩ : ∃ (s : Sl) (bs : List Nat), Value.slice a0 len0 cap0 = s.v ∧ Rd W s.p (byts bs) ∧ bs.length = s.n ∧ s.n ≤ 9223372036854775807 ∧ (∀ b ∈ bs, b < 256) ∧ s.ok := by
    obtain ⟨fuel, hf⟩ := h0
    exact open_bytesU hf
  unfold Sl.v at hs
  simp only [Value.slice.injEq] at hs
  obtain ⟨rfl, rfl, rfl⟩ := hs

  clear hA0 hval0
  refine (check_walk W s bs hrd hlen h8 hok hlim).mono fun e W' ⟨he, ap⟩ => ?_
  subst he
  have bel : Below W.heap.size W W' := ap.below (Nat.le_refl _) (by simp)
  exact ⟨_, rfl, _, _, _, [], _, [], hW', trodAll_mk1 (shut_bool Try.underlying4 _), (trodAll_cons_mk (Below.trod laidOut (by kernel_rfl) (of_decide_eq_true (by kernel_rfl)) k0 bel lt0) trodAll_mk0), rfl, bel.frame _, fun h => by cases h⟩
theorem check_over : Rows.pageCheckRow.holds Try.pinned (OpenSpec.ofChange Rows.pageCheckSpec) :=
  OpenClaim.holds_of_wide 7 Try.f7 rfl rfl rfl rfl rfl rfl rfl ⟨rfl, rfl, rfl, rfl, rfl⟩ rfl rfl rfl rfl rfl (by kernel_rfl) Try.func7 (by kernel_rfl)
    (of_decide_eq_true (by kernel_rfl)) (by unfold Func.isWrapper; first | (rw [if_pos (by decide +kernel)]; kernel_rfl) | (rw [if_neg (by decide +kernel)]; exact ⟨rfl, rfl⟩))
    (fun os started H enc _ => check_lifted os started H enc)
end Go.Proofs.Ytllhmidpphlbhaa.ds
namespace Go.Proofs.Ytllhmidpphlbhaa
theorem pageCheck_holds : Rows.PageCheckSaid := ds.check_over
end Go.Proofs.Ytllhmidpphlbhaa
