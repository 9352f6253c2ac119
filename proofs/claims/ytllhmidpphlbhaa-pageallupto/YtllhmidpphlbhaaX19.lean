import Derived.Test.YtllhmidpphlbhaaX18
namespace Go.Proofs.Ytllhmidpphlbhaa.ds
open Go.ChangeShapes Go.WideShapes Go.ChangeAt Go.RowKit Go.Sort
set_option linter.unusedVariables false
set_option linter.unusedSimpArgs false

theorem good_of {B : List Nat} (h : (checkR B).2.2 = 0) : B.length = 2048 ∧ (endR B).bad = false ∧ (checkR B).1 = (headR B ⟨0, false⟩).1.k := by
  unfold checkR at h ⊢
  split at h
  · rename_i hl
    rw [if_pos hl]
    split at h
    · cases h
    · rename_i hb
      rw [if_neg hb]
      exact ⟨hl, by simpa using hb, rfl⟩
  · cases h
/-- a page's lists in new memory -/
def Ls (w W : World) (sk sl : Sl) (B : List Nat) : Prop := ∃ kk ee, Nw w W 61 2 sk (flatK kk) ∧ CL w W kk (csT B) ∧ Nw w W 50 6 sl (flatE ee) ∧ WL w W ee (rsT B)
theorem Ls.base {w w1 W : World} {sk sl : Sl} {B : List Nat} (h : Ls w1 W sk sl B) (a : Apart [] w w1) : Ls w W sk sl B := by
  obtain ⟨kk, ee, h1, h2, h3, h4⟩ := h
  exact ⟨kk, ee, h1.from a, ⟨h2.1, fun j hj => ⟨(h2.2 j hj).1, (h2.2 j hj).2.from a⟩⟩, h3.from a, ⟨h4.1, fun j hj => ⟨(h4.2 j hj).1, (h4.2 j hj).2.1.base a, (h4.2 j hj).2.2.from a⟩⟩⟩
theorem Ls.keep {w W W' : World} {sk sl : Sl} {B : List Nat} {ts : List Nat} (h : Ls w W sk sl B) (k : TK ts W W') (ap : Apart [] w W') (ht : 61 ∉ ts ∧ 85 ∉ ts ∧ 50 ∉ ts ∧ 5 ∉ ts) : Ls w W' sk sl B := by
  obtain ⟨kk, ee, h1, h2, h3, h4⟩ := h
  exact ⟨kk, ee, k.nw h1 ap ht.1, h2.keep k ap ht.2.1, k.nw h3 ap ht.2.2.1, h4.keep k ap ht.2.1 ht.2.2.2⟩
theorem Ls.kept0 {w W W' : World} {sk sl : Sl} {B : List Nat} (h : Ls w W sk sl B) (a : Apart [] W W') : Ls w W' sk sl B := by
  have ap : Apart [] w W' := by obtain ⟨kk, ee, h1, -⟩ := h; exact h1.ap.trans a
  exact h.keep (TK.of0 (ts := []) a) ap (by decide)
theorem Ls.rd {w W : World} {sk sl : Sl} {B : List Nat} (h : Ls w W sk sl B) (h8 : ∀ b ∈ B, b < 256) : ∃ kk ee, RCs W sk kk (csT B) ∧ RWs W sl ee (rsT B) := by
  obtain ⟨kk, ee, h1, h2, h3, h4⟩ := h
  obtain ⟨f1, l1⟩ := csT_fit h8
  obtain ⟨f2, l2⟩ := rsT_fit h8
  exact ⟨kk, ee, h2.rcs h1 f1 (by omega), h4.rws h3 (fun j hj => (f2 j hj).1) (by omega)⟩
/-- the document's Read: where it is good its lists are new memory -/
theorem rd58 (w : World) (s0 : Sl) (B : List Nat) (hrd : Rd w s0.p (byts B)) (hlen : B.length = s0.n) (h8 : ∀ b ∈ B, b < 256) (hlim : s0.n ≤ 9223372036854775807) : Calls Try.prog 58 #[.slice s0.p s0.n s0.c] w fun e w' => ∃ (k g o : Int) (sk sl : Sl), e = .returned (.tuple #[.agg #[.int .i64 k, .int .i64 g, .int .i64 o, .slice sk.p sk.n sk.c, .slice sl.p sl.n sl.c], .int .i64 ((checkR B).2.1 : Nat), .int .i64 ((checkR B).2.2 : Nat)]) ∧ Apart [] w w' ∧ ((checkR B).2.2 = 0 → k = ((headR B ⟨0, false⟩).1.k : Nat) ∧ g = ((headR B ⟨0, false⟩).1.g : Nat) ∧ o = ((headR B ⟨0, false⟩).1.o : Nat) ∧ Ls w w' sk sl B) := by
  refine (read_ok w s0 B hrd hlen h8 hlim).mono (fun e w' hh => ?_)
  obtain ⟨a, g, o, sk, sl, he, hp⟩ := hh
  refine ⟨((checkR B).1 : Nat), g, o, sk, sl, he, a, fun h0 => ?_⟩
  have pc := hp h0
  have hk := (good_of h0).2.2
  refine ⟨by rw [hk], pc.g, pc.o, ?_⟩
  by_cases k1 : (headR B ⟨0, false⟩).1.k = 1
  · obtain ⟨e1, kk, n1, c1⟩ := pc.c k1
    have ec : csT B = csOf B := by unfold csT; rw [if_pos k1]
    have er : rsT B = [] := by unfold rsT; rw [if_pos k1]
    rw [← ec] at c1
    rw [e1]
    exact ⟨kk, [], n1, c1, Nw.none0 a _ _, by rw [er]; exact ⟨rfl, fun j hj => by simp at hj⟩⟩
  · obtain ⟨e1, ee, n1, c1⟩ := pc.ws k1
    have ec : csT B = [] := by unfold csT; rw [if_neg k1]
    have er : rsT B = rsOf B := by unfold rsT; rw [if_neg k1]
    rw [← er] at c1
    rw [e1]
    exact ⟨[], ee, Nw.none0 a _ _, by rw [ec]; exact ⟨rfl, fun j hj => by simp at hj⟩, n1, c1⟩
theorem op19 {w : World} {s : Sl} {B : List Nat} (h : Pb w s B) : Calls Try.prog 19 #[.slice s.p s.n s.c] w fun e w' => ∃ vp : Option Addr, e = .returned (.tuple #[.pointer vp, .int .i64 ((checkR B).2.2 : Nat)]) ∧ Apart [] w w' ∧ ((checkR B).2.2 ≠ 0 → vp = none) ∧ ((checkR B).2.2 = 0 → ∃ V, vp = some ⟨V, 0, none⟩ ∧ Vw w' V s) := by
  refine (open_ok h).mono (fun e w' hh => ?_)
  by_cases h0 : (checkR B).2.2 = 0
  · obtain ⟨V, he, -, hV⟩ := hh.ok h0
    exact ⟨some ⟨V, 0, none⟩, by rw [he, h0]; rfl, hh.a, fun h => absurd h0 h, fun _ => ⟨V, rfl, hV⟩⟩
  · refine ⟨none, ?_, hh.a, fun _ => rfl, fun h => absurd h h0⟩
    rw [hh.no h0, (checkR_e B).resolve_left h0]; rfl
/-- what turned leaves -/
structure TuQ (w W : World) (s : Sl) (n : Nat) (e : Ending) (W' : World) : Prop where
  ex : ∃ (t : Sl) (us : List Nat), e = .returned (.slice t.p t.n t.c) ∧ us.length = n ∧ (∀ b ∈ us, b < 256) ∧ Bf w W' s us ∧ Nw w W' 5 1 t (byts us) ∧ us.length = t.n
  k : TK [5] W W'
set_option maxHeartbeats 8000000 in
set_option maxRecDepth 100000 in
theorem turned2_ok {w W : World} {s : Sl} {us : List Nat} (h : Bf w W s us) (h8 : ∀ b ∈ us, b < 256) (hl : us.length ≤ 2000000) : Calls Try.prog 55 #[.slice s.p s.n s.c] W fun e W' => TuQ w W s us.length e W' := by
  have hlen := h.len
  by_cases h0 : 0 < us.length
  · obtain ⟨i, Hi⟩ : ∃ i, Hid (i = us.length / 300) := ⟨_, rfl⟩
    have hiu : i < us.length := by rw [Hi.out]; omega
    obtain ⟨u, Hu⟩ : ∃ u, Hid (u = us.getD i 0) := ⟨_, rfl⟩
    have hu8 : u < 256 := by rw [Hu.out]; exact getD8 h8 i
    obtain ⟨x, Hx⟩ : ∃ x, Hid (x = u ^^^ 1) := ⟨_, rfl⟩
    have hx8 : x < 256 := by rw [Hx.out]; exact xor1_lt hu8
    obtain ⟨g, hp, hc, hf, hgw, hb2⟩ := h.set i hiu x
    rw [← Hu.out] at hc
    have hnw := hb2.nw
    obtain ⟨W1, hW1⟩ : ∃ V, V = W.setCell ⟨g, i, none⟩ (.int .u8 (x : Int)) := ⟨_, rfl⟩
    rw [← hW1] at hb2
    have h82 : ∀ b ∈ us.set i x, b < 256 := fun b hb => by
      rcases List.mem_or_eq_of_mem_set hb with hb | hb
      · exact h8 b hb
      · rw [hb]; exact hx8
    obtain ⟨t, W2, hrun, hn2, -⟩ := appB W1 s (us.set i x) 28 hb2.nw.rd (by rw [hb2.len]) (by rw [hlen]; omega) hb2.nw.ok
    have HRUN : Hid ((Builtin.append_ #[28, 28] 28 #[.slice none 0 0, .slice s.p s.n s.c]).run Try.prog W1 = .ok (.slice t.p t.n t.c) W2) := hrun
    have HP : Hid (TuQ w W s us.length (.returned (.slice t.p t.n t.c)) W2) := by
      have e1 : (us.set i x).length = t.n := by have := hn2.own.1; rw [byts_len] at this; omega
      have a1 : Apart s.v.ownBlock.toList W W1 := by rw [hW1]; exact (Apart.refl _ W).setCell (.inl (by simp [Sl.v, Value.ownBlock, hp])) _
      exact ⟨⟨t, us.set i x, rfl, by simp, h82, hb2.kept hn2.ap, hn2.from hb2.nw.ap, e1⟩, (TK.own h.nw a1 (by simp)).trans (TK.of0 hn2.ap)⟩
    have hn0 : ((s.n : Nat) : Int) > 0 := by omega
    have hq : IntKind.i64.wrap (((s.n : Nat) : Int) / 300) = (i : Int) := by have := Hi.out; rw [IntKind.wrap_i64]; omega
    have hii : ((i : Nat) : Int) < ((s.n : Nat) : Int) := by omega
    have hii2 : i < s.n := by omega
    have hxb : bits .xor .u8 (u : Int) 1 = (x : Int) := by have := bx8 ⟨u, hu8⟩; rw [Hx.out]; exact this
    clear hrun hn2 hb2 hnw h h8 h82 hl
    obtain ⟨sp, sn, sc⟩ := s
    dsimp only at hp hn0 hq hii hii2 HRUN HP
    subst hp
    have HLEN := hid hlen
    clear hlen h0
    go_enter Try.func55, Try.ntmps55
    go_upto_region 4 with fail
    rw [← hW1]
    clear hW1
    go_wp2_with (at_builtin; refine wpList_app2 rfl (.const (.slice none 0 0)) (.tmp 18) 28 28 rfl _ _ rfl rfl _ _ HRUN.out ?_)
    go_ret
    exact HP.out
  · obtain ⟨t, W2, hrun, hn2, -⟩ := appB W s us 28 h.nw.rd (by rw [hlen]) (by rw [hlen]; omega) h.nw.ok
    have HRUN : Hid ((Builtin.append_ #[28, 28] 28 #[.slice none 0 0, .slice s.p s.n s.c]).run Try.prog W = .ok (.slice t.p t.n t.c) W2) := hrun
    have HP : Hid (TuQ w W s us.length (.returned (.slice t.p t.n t.c)) W2) := by
      have e1 : us.length = t.n := by have := hn2.own.1; rw [byts_len] at this; omega
      exact ⟨⟨t, us, rfl, rfl, h8, h.kept hn2.ap, hn2.from h.nw.ap, e1⟩, TK.of0 hn2.ap⟩
    have hn0 : ¬ ((s.n : Nat) : Int) > 0 := by omega
    have hn1 : ¬ 0 < s.n := by omega
    clear hrun hn2 h h8 hl h0
    have HLEN := hid hlen
    clear hlen
    go_enter Try.func55, Try.ntmps55
    go_wp2_with (at_builtin; refine wpList_app2 rfl (.const (.slice none 0 0)) (.tmp 18) 28 28 rfl _ _ rfl rfl _ _ HRUN.out ?_)
    go_ret
    exact HP.out
set_option maxHeartbeats 32000000 in
set_option maxRecDepth 100000 in
theorem opened_ok (w : World) (b : Sl) (bs : List Nat) (hrd : Rd w b.p (byts bs)) (hlen : bs.length = b.n) (h8 : ∀ x ∈ bs, x < 256) (hok : b.ok) (hlim : b.n ≤ 1100000) : Calls Try.prog 38 #[.slice b.p b.n b.c] w fun r w' => r = .returned (.bool true) ∧ Apart [] w w' := by
  obtain ⟨c, W1, hrun, hn1, hc1⟩ := appB w b bs 28 hrd hlen (by omega) hok
  have HRUN : Hid ((Builtin.append_ #[28, 28] 28 #[.slice none 0 0, .slice b.p b.n b.c]).run Try.prog w = .ok (.slice c.p c.n c.c) W1) := hrun
  have hcl : c.n = bs.length := by rw [hc1, hlen]
  have HBF1 : Hid (Bf w W1 c bs) := ⟨hn1, hcl⟩
  have H8 := hid h8
  have HRD := hid hrd
  have HLEN := hid hlen
  have HOK := hid hok
  have HCAP := hid hn1.capn
  have HCOK := hid hn1.ok
  have HCL := hid hcl
  have HPBF : Hid (∀ W us, Bf w W c us → us.length = bs.length → (∀ x ∈ us, x < 256) → Pb W c us) := fun W us hb hl h8' => ⟨hb.nw.rd, by rw [hl, HCL.out], h8', HCAP.out, HCOK.out, by have := HCL.out; have := HLEN.out; omega⟩
  clear hrun hn1 hc1 hcl hrd hlen h8 hok
  obtain ⟨er, Her⟩ : ∃ er : Nat, Hid (er = (checkR bs).2.2) := ⟨_, rfl⟩
  go_enter Try.func38, Try.ntmps38
  go_wp2_with (at_builtin; refine wpList_app2 rfl (.const (.slice none 0 0)) (.tmp 10) 28 28 rfl _ _ rfl rfl _ _ HRUN.out ?_)
  clear HRUN
  have h19 := op19 (HPBF.out W1 bs HBF1.out rfl H8.out)
  rw [← Her.out] at h19
  have HC19 := hid h19
  clear h19
  refine HC19.out.mono ?_
  rintro _ W2 ⟨vp, rfl, a2, hv0, hv1⟩
  have HBF2 := hid (HBF1.out.kept a2)
  have HV0 := hid hv0
  have HV1 := hid hv1
  clear a2 hv0 hv1 HC19 HBF1
  try dsimp only
  have h58 := rd58 W2 b bs (HRD.out.kept0 HBF2.out.nw.ap) HLEN.out H8.out (by omega)
  rw [← Her.out] at h58
  generalize (checkR bs).2.1 = pl at h58
  have HC58 := hid h58
  clear h58
  go_wp2_with fail
  refine HC58.out.mono ?_
  rintro _ W3 ⟨k1, g1, o1, sk1, sl1, rfl, a3, hgd⟩
  have HBF3 := hid (HBF2.out.kept a3)
  have HV13 : Hid (er = 0 → ∃ V, vp = some ⟨V, 0, none⟩ ∧ Vw W3 V c) := fun h => by
    obtain ⟨V, e1, e2⟩ := HV1.out h
    exact ⟨V, e1, keep0 a3 e2⟩
  have HGD := hid hgd
  clear a3 hgd HC58 HBF2 HV1
  try dsimp only
  obtain ⟨X, HX⟩ : ∃ X, Hid (X = W3.heap.size) := ⟨_, rfl⟩
  obtain ⟨w4, hw4⟩ : ∃ V, V = W3.alloc (.cells #[.int .i64 k1, .int .i64 g1, .int .i64 o1, .slice sk1.p sk1.n sk1.c, .slice sl1.p sl1.n sl1.c] 119) := ⟨_, rfl⟩
  have a4 : Apart [] W3 w4 := by rw [hw4]; exact (Apart.refl [] W3).alloc _
  have HB4 : Hid (w4.heap[X]? = some (.cells #[.int .i64 k1, .int .i64 g1, .int .i64 o1, .slice sk1.p sk1.n sk1.c, .slice sl1.p sl1.n sl1.c] 119 (0, 0))) := by unfold Hid; rw [hw4, HX.out]; exact heap_alloc_new W3 _
  have HBF4 := hid (HBF3.out.kept a4)
  have HXw : Hid (w.heap.size ≤ X) := by unfold Hid; rw [HX.out]; exact HBF3.out.nw.ap.size
  have HV14 : Hid (er = 0 → ∃ V, vp = some ⟨V, 0, none⟩ ∧ Vw w4 V c) := fun h => by
    obtain ⟨V, e1, e2⟩ := HV13.out h
    exact ⟨V, e1, keep0 a4 e2⟩
  have HGD4 : Hid (er = 0 → k1 = ((headR bs ⟨0, false⟩).1.k : Nat) ∧ g1 = ((headR bs ⟨0, false⟩).1.g : Nat) ∧ o1 = ((headR bs ⟨0, false⟩).1.o : Nat) ∧ Ls W2 w4 sk1 sl1 bs) := fun h => by
    obtain ⟨e1, e2, e3, e4⟩ := HGD.out h
    exact ⟨e1, e2, e3, e4.kept0 a4⟩
  clear a4 HBF3 HV13 HGD
  go_upto_region 4 with fail
  rw [← hw4, ← HX.out]
  clear hw4
  go_cut [33] from 23 to 33 (fun s33 wx => .bool false = s33 ∧ wx = w4)
  case first =>
    by_cases he : er = 0
    · obtain ⟨V, rfl, -⟩ := HV14.out he
      subst he
      go_wp2_with fail
      refine (lnum_ok w4 _).mono ?_
      rintro _ wn ⟨rfl, hwn⟩
      rw [hwn]
      clear hwn wn
      try dsimp only
      go_wp2_with fail
      go_meet
      exact ⟨rfl, rfl⟩
    · have h := HV0.out he
      subst h
      have hbn : (((er : Nat) : Int) != 0) = true := by rw [bne_iff_ne]; omega
      clear he
      go_wp2_with fail
      refine (lnum_ok w4 _).mono ?_
      rintro _ wn ⟨rfl, hwn⟩
      rw [hwn]
      clear hwn wn
      try dsimp only
      go_wp2_with fail
      go_meet
      exact ⟨rfl, rfl⟩
  obtain ⟨rfl, hwc⟩ := hcut
  rw [hwc]
  clear hwc wc
  go_upto_region 6 with fail
  go_cut [47] from 34 to 47 (fun s47 wx => .bool false = s47 ∧ Apart [] w4 wx)
  case first =>
    by_cases he : er = 0
    · obtain ⟨V, rfl, hV⟩ := HV14.out he
      obtain ⟨e1, e2, e3, e6⟩ := HGD4.out he
      obtain ⟨kk, ee, e4, e5⟩ := e6.rd H8.out
      obtain ⟨hl, hgood, -⟩ := good_of (Her.out.symm.trans he)
      have hpb := HPBF.out w4 bs HBF4.out rfl H8.out
      have hlk := looks_ok hpb (by rw [← hpb.len, hl]) hV hgood sk1 sl1 kk ee e4 e5
      unfold pgL at hlk
      rw [← e1, ← e2, ← e3] at hlk
      have HLK := hid hlk
      obtain ⟨x0, x1, x2, x3, x4⟩ := row5v HB4.out
      clear hV e1 e2 e3 e4 e5 e6 hl hgood hpb hlk he
      go_wp2_with fail
      refine HLK.out.mono ?_
      rintro _ w5 ⟨rfl, a5⟩
      have HA5 := hid a5
      clear a5 x0 x1 x2 x3 x4
      try dsimp only
      go_wp2_with fail
      refine (same_self (s := c) (t := b) (a := bs) (HBF4.out.nw.rd.kept0 HA5.out) HCL.out.symm HCOK.out (HRD.out.kept0 (HBF4.out.nw.ap.trans HA5.out)) HLEN.out HOK.out).mono ?_
      rintro _ wn ⟨rfl, hwn⟩
      rw [hwn]
      clear hwn wn
      try dsimp only
      go_wp2_with fail
      go_meet
      exact ⟨rfl, HA5.out⟩
    · have h := HV0.out he
      subst h
      go_wp2_with fail
      go_meet
      exact ⟨rfl, Apart.refl _ _⟩
  obtain ⟨rfl, a5⟩ := hcut
  generalize wc = w5 at *
  have HBF5 := hid (HBF4.out.kept a5)
  have HB5 := hid (keep0 a5 HB4.out)
  clear a5 HBF4 HB4 HV14 HGD4 HV0 Her
  have htu := turned2_ok HBF5.out H8.out (by have := HLEN.out; omega)
  have HTU := hid htu
  clear htu
  go_wp2_with fail
  refine HTU.out.mono ?_
  clear HTU
  rintro _ W6 ⟨⟨t, us, rfl, hul, hu8, hub, htr, htl⟩, k6⟩
  have HB6 : Hid (W6.heap[X]? = some (.cells #[.int .i64 k1, .int .i64 g1, .int .i64 o1, .slice sk1.p sk1.n sk1.c, .slice sl1.p sl1.n sl1.c] 119 (0, 0))) := k6.block HB5.out (by decide)
  have HUB := hid hub
  have HU8 := hid hu8
  have HTR := hid htr
  have HTL := hid htl
  have HTO := hid htr.ok
  have HUL := hid hul
  clear hub hu8 htr htl hul k6 HBF5 HB5
  try dsimp only
  obtain ⟨er, Her⟩ : ∃ er : Nat, Hid (er = (checkR us).2.2) := ⟨_, rfl⟩
  have h19 := op19 (HPBF.out W6 us HUB.out HUL.out HU8.out)
  rw [← Her.out] at h19
  have HC19 := hid h19
  clear h19
  go_wp2_with fail
  refine HC19.out.mono ?_
  rintro _ W7 ⟨vq, rfl, a7, hv0, hv1⟩
  have HUB7 := hid (HUB.out.kept a7)
  have HB7 := hid (keep0 a7 HB6.out)
  have HTR7 := hid (HTR.out.kept a7)
  have HV0 := hid hv0
  have HV1 := hid hv1
  clear a7 hv0 hv1 HC19 HUB HB6 HTR
  try dsimp only
  have h58 := rd58 W7 t us HTR7.out.rd HTL.out HU8.out (by have := HTL.out; have := HUL.out; have := HLEN.out; omega)
  rw [← Her.out] at h58
  generalize (checkR us).2.1 = pl2 at h58
  have HC58 := hid h58
  clear h58
  go_wp2_with fail
  refine HC58.out.mono ?_
  rintro _ W8 ⟨k2, g2, o2, sk2, sl2, rfl, a8, hgd⟩
  have HUB8 := hid (HUB7.out.kept a8)
  have hB8 := keep0 a8 HB7.out
  have HTR8 := hid (HTR7.out.kept a8)
  have HV18 : Hid (er = 0 → ∃ V, vq = some ⟨V, 0, none⟩ ∧ Vw W8 V c) := fun h => by
    obtain ⟨V, e1, e2⟩ := HV1.out h
    exact ⟨V, e1, keep0 a8 e2⟩
  have HA7 := hid HUB7.out.nw.ap
  have HGD := hid hgd
  clear a8 hgd HC58 HUB7 HV1 HB7 HTR7
  try dsimp only
  obtain ⟨b0, b1, b2, b3, b4⟩ := row5v hB8
  have p0 := frozen_of_row _ _ 0 _ _ hB8
  have p1 := frozen_of_row _ _ 1 _ _ hB8
  have p2 := frozen_of_row _ _ 2 _ _ hB8
  have p3 := frozen_of_row _ _ 3 _ _ hB8
  have p4 := frozen_of_row _ _ 4 _ _ hB8
  obtain ⟨hFe, ae⟩ := set5 (.int .i64 k2) (.int .i64 g2) (.int .i64 o2) (.slice sk2.p sk2.n sk2.c) (.slice sl2.p sl2.n sl2.c) hB8
  obtain ⟨w9, hw9⟩ : ∃ V, V = (((((W8.setCell ⟨X, 0, none⟩ (.int .i64 k2)).setCell ⟨X, 1, none⟩ (.int .i64 g2)).setCell ⟨X, 2, none⟩ (.int .i64 o2)).setCell ⟨X, 3, none⟩ (.slice sk2.p sk2.n sk2.c)).setCell ⟨X, 4, none⟩ (.slice sl2.p sl2.n sl2.c)) := ⟨_, rfl⟩
  rw [← hw9] at hFe ae
  have HB9 := hid hFe
  have HTK : Hid (TK [119] W8 w9) := TK.one ae hB8 (by simp)
  have HA9 : Hid (Apart [] w w9) := HUB8.out.nw.ap.trans' ae (fun y hy => by simp at hy; exact .inr (by rw [hy]; exact HXw.out))
  have HUB9 : Hid (Bf w w9 c us) := ⟨HTK.out.nw HUB8.out.nw HA9.out (by decide), HUB8.out.len⟩
  have HTR9 : Hid (Nw w w9 5 1 t (byts us)) := HTK.out.nw HTR8.out HA9.out (by decide)
  have HV19 : Hid (er = 0 → ∃ V, vq = some ⟨V, 0, none⟩ ∧ Vw w9 V c) := fun h => by
    obtain ⟨V, e1, e2⟩ := HV18.out h
    exact ⟨V, e1, HTK.out.block e2 (by decide)⟩
  have HGD9 : Hid (er = 0 → k2 = ((headR us ⟨0, false⟩).1.k : Nat) ∧ g2 = ((headR us ⟨0, false⟩).1.g : Nat) ∧ o2 = ((headR us ⟨0, false⟩).1.o : Nat) ∧ Ls w w9 sk2 sl2 us) := fun h => by
    obtain ⟨e1, e2, e3, e4⟩ := HGD.out h
    exact ⟨e1, e2, e3, (e4.base HA7.out).keep HTK.out HA9.out (by decide)⟩
  clear hFe ae hB8 HUB8 HTR8 HV18 HGD
  go_upto_region 11 with fail
  rw [← hw9]
  clear hw9 b0 b1 b2 b3 b4 p0 p1 p2 p3 p4
  go_cut [71] from 61 to 71 (fun s33 wx => .bool false = s33 ∧ wx = w9)
  case first =>
    by_cases he : er = 0
    · obtain ⟨V, rfl, -⟩ := HV19.out he
      subst he
      go_wp2_with fail
      refine (lnum_ok w9 _).mono ?_
      rintro _ wn ⟨rfl, hwn⟩
      rw [hwn]
      clear hwn wn
      try dsimp only
      go_wp2_with fail
      go_meet
      exact ⟨rfl, rfl⟩
    · have h := HV0.out he
      subst h
      have hbn : (((er : Nat) : Int) != 0) = true := by rw [bne_iff_ne]; omega
      clear he
      go_wp2_with fail
      refine (lnum_ok w9 _).mono ?_
      rintro _ wn ⟨rfl, hwn⟩
      rw [hwn]
      clear hwn wn
      try dsimp only
      go_wp2_with fail
      go_meet
      exact ⟨rfl, rfl⟩
  obtain ⟨rfl, hwc⟩ := hcut
  rw [hwc]
  clear hwc wc
  by_cases he : er = 0
  · obtain ⟨V, rfl, hV⟩ := HV19.out he
    obtain ⟨e1, e2, e3, e6⟩ := HGD9.out he
    obtain ⟨kk, ee, e4, e5⟩ := e6.rd HU8.out
    obtain ⟨hl, hgood, -⟩ := good_of (Her.out.symm.trans he)
    have hpb := HPBF.out w9 us HUB9.out HUL.out HU8.out
    have hlk := looks_ok hpb (by rw [← hpb.len, hl]) hV hgood sk2 sl2 kk ee e4 e5
    unfold pgL at hlk
    rw [← e1, ← e2, ← e3] at hlk
    have HLK := hid hlk
    obtain ⟨x0, x1, x2, x3, x4⟩ := row5v HB9.out
    clear hV e1 e2 e3 e4 e5 e6 hl hgood hpb hlk he
    go_wp2_with fail
    refine HLK.out.mono ?_
    rintro _ wa ⟨rfl, aa⟩
    have HAa := hid aa
    clear aa x0 x1 x2 x3 x4
    try dsimp only
    go_wp2_with fail
    refine (same_self (s := c) (t := t) (a := us) (HUB9.out.nw.rd.kept0 HAa.out) (HUB9.out.len.symm) HCOK.out (HTR9.out.rd.kept0 HAa.out) HTL.out HTO.out).mono ?_
    rintro _ wn ⟨rfl, hwn⟩
    rw [hwn]
    clear hwn wn
    try dsimp only
    go_wp2_with fail
    go_ret
    exact ⟨rfl, HA9.out.trans HAa.out⟩
  · have h := HV0.out he
    subst h
    go_wp2_with fail
    go_ret
    exact ⟨rfl, HA9.out⟩
set_option maxHeartbeats 4000000 in
set_option maxRecDepth 100000 in
theorem view_walk (w : World) (s : Sl) (B : List Nat) (hrd : Rd w s.p (byts B)) (hlen : B.length = s.n) (h8 : ∀ b ∈ B, b < 256) (ok : s.ok) (hlim : s.n ≤ 9223372036854775807) : Calls Try.prog 11 #[.slice s.p s.n s.c] w fun r w' => r = .returned (.bool true) ∧ Apart [] w w' := by
  by_cases hb : s.n > 1048576
  · have hbi : ((s.n : Nat) : Int) > 1048576 := by omega
    clear hrd hlen h8 ok
    go_enter Try.func11, Try.ntmps11
    go_wp2_with fail
    go_ret
    exact ⟨rfl, Apart.refl _ _⟩
  · have hbi : ¬ ((s.n : Nat) : Int) > 1048576 := by omega
    have HC : Hid (∀ W, Apart [] w W → Calls Try.prog 38 #[.slice s.p s.n s.c] W fun r w' => r = .returned (.bool true) ∧ Apart [] W w') := fun W a => opened_ok W s B (hrd.kept0 a) hlen h8 ok (by omega)
    clear hrd hlen h8 ok hlim hb
    go_enter Try.func11, Try.ntmps11
    go_wp2_with fail
    refine (alive_ok w).mono ?_
    rintro _ w1 ⟨rfl, a1⟩
    have HA1 := hid a1
    clear a1
    try dsimp only
    go_wp2_with fail
    refine (HC.out w1 HA1.out).mono ?_
    rintro _ w2 ⟨rfl, a2⟩
    have HA2 := hid (HA1.out.trans a2)
    clear a2
    try dsimp only
    go_wp2_with fail
    go_ret
    exact ⟨rfl, HA2.out⟩
end Go.Proofs.Ytllhmidpphlbhaa.ds
namespace Go.Proofs.Ytllhmidpphlbhaa.ds
open Go.ChangeShapes Go.WideShapes Go.ChangeAt Go.RowKit Go.ChangeMaps Go.Deep
set_option linter.unusedVariables false
set_option linter.unusedSimpArgs false
set_option maxRecDepth 100000 in
theorem viewp_lifted (os : Os) (started : os.Started) (H : Type) (enc : TypeId × Value → H) :
    ReturnsInHanded {} Try.checked os 11 .any (Rows.pageViewSpec.pre6 enc Try.prog Try.f11 Rows.pageViewRow.domain false) (Rows.pageViewSpec.post enc Try.prog Try.f11 false true false false) := by
  refine returnsInHanded_of_change (C := Try.checked) own started (by kernel_rfl) Try.func11
    (ChangeSpec.witness6 (enc := enc) (C := Try.checked) false ⟨#[], #[.slice none 0 0], []⟩ 8 (by kernel_rfl) (by kernel_rfl) (by kernel_rfl) (by kernel_rfl)) ?_
  intro W base args ds gs before hval0 hW hcnd _
  have hval : ∀ (j : Nat) t v, Try.f11.params[j]? = some t → args[j]? = some v → Value.okWide Try.prog W .any base t v := hval0
  have hW' := hW
  obtain ⟨p, q, hA0, hV, rfl, hfz, hnd⟩ := hW
  have hA : DataW.TrodAll enc Try.prog W 0 (fun _ => true) true Try.f11.params.toList args.toList ds p := hA0
  rw [Try.params11] at hA hval
  obtain ⟨v0, vs0, d0, ds0, p0, q0, hargs0, rfl, rfl, h0, r0⟩ := trodAll_cons hA
  obtain ⟨rfl, rfl, rfl⟩ := trodAll_nil r0
  obtain rfl : args = #[v0] := by cases args; simp_all
  obtain ⟨rfl, rfl⟩ := trodVars_none hV
  have k0 := h0
  have lt0 : ∀ x ∈ p0, x.block < W.heap.size := by obtain ⟨m, hm⟩ := k0; exact DataW.trod_lt m _ _ _ hm
  obtain ⟨a0, len0, cap0, rfl⟩ := okWide_slice Try.underlying28 (hval 0 28 v0 rfl rfl)
  obtain ⟨s, bs, hs, hrd, hlen, hlim, h8, hok⟩ : ∃ (s : Sl) (bs : List Nat), Value.slice a0 len0 cap0 = s.v ∧ Rd W s.p (byts bs) ∧ bs.length = s.n ∧ s.n ≤ 9223372036854775807 ∧ (∀ b ∈ bs, b < 256) ∧ s.ok := by
    obtain ⟨fuel, hf⟩ := h0
    exact open_bytesU hf
  unfold Sl.v at hs
  simp only [Value.slice.injEq] at hs
  obtain ⟨rfl, rfl, rfl⟩ := hs

  clear hA0 hval0
  refine (view_walk W s bs hrd hlen h8 hok hlim).mono fun e W' ⟨he, ap⟩ => ?_
  subst he
  have bel : Below W.heap.size W W' := ap.below (Nat.le_refl _) (by simp)
  exact ⟨_, rfl, _, _, _, [], _, [], hW', trodAll_mk1 (shut_bool Try.underlying4 _), (trodAll_cons_mk (Below.trod laidOut (by kernel_rfl) (of_decide_eq_true (by kernel_rfl)) k0 bel lt0) trodAll_mk0), rfl, bel.frame _, fun h => by cases h⟩
theorem viewp_over : Rows.pageViewRow.holds Try.pinned (OpenSpec.ofChange Rows.pageViewSpec) :=
  OpenClaim.holds_of_wide 11 Try.f11 rfl rfl rfl rfl rfl rfl rfl ⟨rfl, rfl, rfl, rfl, rfl⟩ rfl rfl rfl rfl rfl (by kernel_rfl) Try.func11 (by kernel_rfl)
    (of_decide_eq_true (by kernel_rfl)) (by unfold Func.isWrapper; first | (rw [if_pos (by decide +kernel)]; kernel_rfl) | (rw [if_neg (by decide +kernel)]; exact ⟨rfl, rfl⟩))
    (fun os started H enc _ => viewp_lifted os started H enc)
end Go.Proofs.Ytllhmidpphlbhaa.ds
namespace Go.Proofs.Ytllhmidpphlbhaa
theorem pageView_holds : Rows.PageViewSaid := ds.viewp_over
end Go.Proofs.Ytllhmidpphlbhaa
