import Derived.Test.YtllhmidpphlbhaaG37
import Derived.Deep.SlicePairs
import Derived.Test.YtllhmidpphlbhaaX14
namespace Go.Proofs.Ytllhmidpphlbhaa.ds
open Go.ChangeShapes Go.WideShapes Go.ChangeAt Go.RowKit Go.Deep Go.Sort
set_option linter.unusedVariables false
set_option linter.unusedSimpArgs false
theorem open_cap {H : Type} {enc : TypeId × Value → H} {W : World} {fuel : Nat} {p : Option Addr} {n k : Nat} {x : DataW H × List MemPlace} (h : DataW.trod enc Try.prog W 0 (fun _ => true) true fuel 28 [.slice p n k] = some x) : n ≤ k := by
  rcases open_ints Try.underlying28 Try.underlying5 c5 h with ⟨hcs, _⟩ | ⟨a, l, c, zs, hcs, _, hl, hm, hz, hx, hcell, hwz⟩
  · simp at hcs
    omega
  · simp at hcs
    omega
theorem c59 : Try.prog.cellsOf 59 = 2 := by kernel_rfl
/-- spoils that came in -/
def IsSp (w : World) (p : Option Addr) (len : Nat) (fz : Nat → Int) (fb : Nat → Nat) : Prop :=
  (∀ i, fb i < 256) ∧ (0 < len → ∃ P o, p = some ⟨P, o, none⟩ ∧ P < w.heap.size ∧ ∀ i, i < len → w.cell? ⟨P, o + i * 2, none⟩ = some (.int .i64 (fz i)) ∧ w.cell? ⟨P, o + i * 2 + 1, none⟩ = some (.int .u8 (fb i : Nat)))
theorem open_spoils {H : Type} {enc : TypeId × Value → H} {W : World} {fuel : Nat} {p : Option Addr} {len cap : Nat} {x : DataW H × List MemPlace} (h : DataW.trod enc Try.prog W 0 (fun _ => true) true fuel 57 [.slice p len cap] = some x) : ∃ fz fb, IsSp W p len fz fb := by
  rcases open_slice_pairs Try.underlying57 Try.underlying59 c59 rfl rfl c3 c5 h with ⟨hcs, _⟩ | ⟨a, len', cap', m, n, V0, V1, D0, D1, P0, P1, hcs, _, hl, hm, hmeq, hx, hall⟩
  · simp only [List.cons.injEq, Value.slice.injEq, and_true] at hcs
    obtain ⟨rfl, rfl, rfl⟩ := hcs
    exact ⟨fun _ => 0, fun _ => 0, fun _ => by show 0 < 256; decide, fun h => absurd h (by omega)⟩
  · simp only [if_true] at hmeq
    subst hmeq
    simp only [List.cons.injEq, Value.slice.injEq, and_true] at hcs
    obtain ⟨rfl, rfl, rfl⟩ := hcs
    refine ⟨fun i => match V0 i with | .int _ k => k | _ => 0, fun i => (match V1 i with | .int _ k => k | _ => 0).toNat % 256, fun i => Nat.mod_lt _ (by decide), fun h0 => ?_⟩
    obtain ⟨P, o, spot⟩ := a
    have hc := (hall 0 (by omega)).1
    have hspot : spot = none := by simpa [Addr.add] using World.cell?_spot hc
    subst hspot
    have key : ∀ i, i < len → W.cell? ⟨P, o + i * 2, none⟩ = some (.int .i64 (match V0 i with | .int _ k => k | _ => 0)) ∧ W.cell? ⟨P, o + i * 2 + 1, none⟩ = some (.int .u8 (((match V1 i with | .int _ k => k | _ => 0).toNat % 256 : Nat) : Int)) := by
      intro i hi
      obtain ⟨c0, c1, t0, t1⟩ := hall i (by omega)
      obtain ⟨s, e0, _, hs⟩ := DataW.trod_int Try.underlying3 t0
      obtain ⟨k, e1, _, hw⟩ := DataW.trod_int Try.underlying5 t1
      simp only [List.cons.injEq, and_true] at e0 e1
      rw [Addr.add_lit] at c0 c1
      rw [e0] at c0
      rw [e1] at c1
      simp only [e0, e1]
      have hk : 0 ≤ k ∧ k < 256 := by
        have h1 : IntKind.u8.min = 0 := by decide
        have h2 : IntKind.u8.max = 255 := by decide
        simp [Lit.wf] at hw
        omega
      rw [show ((k.toNat % 256 : Nat) : Int) = k from by omega]
      exact ⟨c0, by rw [Nat.add_assoc]; exact c1⟩
    exact ⟨P, o, rfl, block_lt_of_cell (key 0 h0).1, key⟩
end Go.Proofs.Ytllhmidpphlbhaa.ds
namespace Go.Proofs.Ytllhmidpphlbhaa.ds
open Go.ChangeShapes Go.WideShapes Go.ChangeAt Go.RowKit Go.Sort
set_option linter.unusedVariables false
set_option linter.unusedSimpArgs false

set_option maxHeartbeats 16000000 in
set_option maxRecDepth 100000 in
theorem oneForm_walk (w : World) (b : Sl) (bs : List Nat) (hrd : Rd w b.p (byts bs)) (hlen : bs.length = b.n) (h8 : ∀ x ∈ bs, x < 256) (hok : b.ok) (hlim : b.n ≤ 9223372036854775807) (hcap : b.n ≤ b.c) : Calls Try.prog 6 #[.slice b.p b.n b.c] w fun r w' => r = .returned (.bool true) ∧ Apart [] w w' := by
  by_cases hb : b.n > 1048576
  · have hbi : ((b.n : Nat) : Int) > 1048576 := by omega
    clear hrd hlen h8 hok
    go_enter Try.func6, Try.ntmps6
    go_wp2_with fail
    go_ret
    exact ⟨rfl, Apart.refl _ _⟩
  · have hbi : ¬ ((b.n : Nat) : Int) > 1048576 := by omega
    have HPB : Hid (Pb w b bs) := ⟨hrd, hlen, h8, hcap, hok, by omega⟩
    clear hrd hlen h8 hok hlim
    go_enter Try.func6, Try.ntmps6
    go_wp2_with fail
    refine (alive_ok w).mono ?_
    rintro _ w1 ⟨rfl, a1⟩
    have HA1 := hid a1
    have HPB1 := hid (HPB.out.kept0 a1)
    clear a1
    try dsimp only
    obtain ⟨ck, Hck⟩ : ∃ c, Hid (c = checkR bs) := ⟨_, rfl⟩
    have h18 := check_ok HPB1.out
    rw [← Hck.out] at h18
    have H18 := hid h18
    clear h18
    go_wp2_with fail
    refine H18.out.mono ?_
    rintro _ w2 ⟨rfl, a2⟩
    have HA2 := hid (HA1.out.trans a2)
    have HPB2 := hid (HPB1.out.kept0 a2)
    clear a2 H18 HPB HPB1
    try dsimp only
    obtain ⟨o1, W3, hrun, hn3, ho3⟩ := appB w2 b bs 28 HPB2.out.rd HPB2.out.len (by omega) HPB2.out.ok
    have HRUN : Hid ((Builtin.append_ #[28, 28] 28 #[.slice none 0 0, .slice b.p b.n b.c]).run Try.prog w2 = .ok (.slice o1.p o1.n o1.c) W3) := hrun
    have hl3 : o1.n = bs.length := by rw [ho3, HPB2.out.len]
    have HPB3 : Hid (Pb W3 o1 bs) := ⟨hn3.rd, hl3.symm, HPB2.out.b8, hn3.capn, hn3.ok, by have := HPB2.out.len; omega⟩
    have HA3 := hid (HA2.out.trans hn3.ap)
    have HPBb := hid (HPB2.out.kept0 hn3.ap)
    clear hrun hn3 ho3 hl3 HPB2
    go_wp2_with (at_builtin; refine wpList_app2 rfl (.const (.slice none 0 0)) (.tmp 25) 28 28 rfl _ _ rfl rfl _ _ HRUN.out ?_)
    refine (open_ok HPB3.out).mono ?_
    intro q w4 hop
    have HA4 := hid (HA3.out.trans hop.a)
    have HPB4 := hid (HPB3.out.kept0 hop.a)
    have HPBc := hid (HPBb.out.kept0 hop.a)
    clear HRUN HPB3 HPBb
    have hce := checkR_e bs
    have hno := hop.no
    have hyes := hop.ok
    clear hop
    rw [← Hck.out] at hce hno hyes
    by_cases he : ck.2.2 = 0
    · obtain ⟨V, rfl, -, hV⟩ := hyes he
      have HV := hid hV
      have hn : o1.n = 2048 := by
        have h0 := he
        rw [Hck.out] at h0
        unfold checkR at h0
        split at h0
        · rename_i hx; rw [← HPB4.out.len, hx]
        · cases h0
      have hbl : bs.length = 2048 := by rw [HPB4.out.len, hn]
      have hgd : (endR bs).bad = false := by
        have h0 := he
        rw [Hck.out] at h0
        unfold checkR at h0
        rw [if_pos hbl] at h0
        split at h0
        · cases h0
        · rename_i hx; simpa using hx
      have HGD := hid hgd
      have HON := hid hn
      have HBL := hid hbl
      obtain ⟨ck0, ck1, ck2⟩ := ck
      dsimp only at he
      subst he
      clear hV hn hbl hgd hce hno hyes
      try dsimp only
      go_wp2_with fail
      refine (lnum_ok w4 _).mono ?_
      rintro _ wn ⟨rfl, hwn⟩
      rw [hwn]
      clear hwn wn
      try dsimp only
      go_wp2_with fail
      refine (lnum_ok w4 _).mono ?_
      rintro _ wn ⟨rfl, hwn⟩
      rw [hwn]
      clear hwn wn
      try dsimp only
      go_wp2_with fail
      refine (lnum_ok w4 _).mono ?_
      rintro _ wn ⟨rfl, hwn⟩
      rw [hwn]
      clear hwn wn
      try dsimp only
      go_wp2_with fail
      refine (toldR_ok HPB4.out HON.out HV.out HGD.out).mono ?_
      intro q w9 htp
      obtain ⟨a9, c2, ks2, es2, rfl, j1, j2, j3, hrt⟩ := htp
      have HA9 := hid (HA4.out.trans a9)
      have HPB9 := hid (HPBc.out.kept0 a9)
      have HRT := hid hrt
      have HJ1 := hid j1
      have HJ2 := hid j2
      have HJ3 := hid j3
      clear a9 hrt j1 j2 j3 HPB4 HPBc HV
      unfold Ct.cs
      try dsimp only
      obtain ⟨Y, HY⟩ : ∃ X, Hid (X = w9.heap.size) := ⟨_, rfl⟩
      obtain ⟨wa, hwa⟩ : ∃ V, V = w9.alloc (.cells #[.int .i64 c2.kd, .int .i64 c2.gn, .int .i64 c2.ow, .slice c2.s.p c2.s.n c2.s.c, .slice c2.t.p c2.t.n c2.t.c] 25) := ⟨_, rfl⟩
      have aa : Apart [] w9 wa := by rw [hwa]; exact (Apart.refl [] w9).alloc _
      have hYa : wa.heap[Y]? = some (.cells #[.int .i64 c2.kd, .int .i64 c2.gn, .int .i64 c2.ow, .slice c2.s.p c2.s.n c2.s.c, .slice c2.t.p c2.t.n c2.t.c] 25 (0, 0)) := by rw [hwa, HY.out]; exact heap_alloc_new w9 _
      have HAa := hid (HA9.out.trans aa)
      have HPBa := hid (HPB9.out.kept0 aa)
      have HRTa := hid (HRT.out.kept0 aa)
      obtain ⟨y0, y1, y2, y3, y4⟩ := row5v hYa
      clear aa hYa HPB9 HRT
      go_upto_region 11 with fail
      rw [← hwa, ← HY.out]
      clear hwa
      go_wp2_with fail
      refine (built_ok wa c2.kd c2.gn c2.ow c2.s c2.t ks2 (csT bs) es2 (rsT bs) HRTa.out.hc HRTa.out.hcl HRTa.out.hw).mono ?_
      intro q w5 hco
      obtain ⟨a5, sp, rfl, hp0, hp1⟩ := hco
      have hone := one_of HBL.out HPBa.out.b8 HGD.out
      rw [← HJ1.out, ← HJ2.out, ← HJ3.out] at hone
      obtain ⟨g, rfl, -, hg⟩ := hp1 hone.1
      rw [hone.2] at hg
      rw [hone.1]
      have HG := hid hg
      have HA5 := hid (HAa.out.trans a5)
      have HPB5 := hid (HPBa.out.kept0 a5)
      clear a5 hp0 hp1 hone hg y0 y1 y2 y3 y4 HPBa HRTa
      try dsimp only
      go_wp2_with fail
      refine (lnum_ok w5 _).mono ?_
      rintro _ wn ⟨rfl, hwn⟩
      rw [hwn]
      clear hwn wn
      try dsimp only
      go_wp2_with fail
      refine (same_self (s := ⟨some ⟨g, 0, none⟩, 2048, 2048⟩) (t := b) (a := bs) (page_rd HG.out) HBL.out (fun h => by simp at h) HPB5.out.rd HPB5.out.len HPB5.out.ok).mono ?_
      rintro _ wn ⟨rfl, hwn⟩
      rw [hwn]
      clear hwn wn
      try dsimp only
      go_wp2_with fail
      go_ret
      exact ⟨rfl, HA5.out⟩
    · have h70 : ck.2.2 = 70 := hce.resolve_left he
      have hq := hno he
      subst hq
      have hat : ck.2.1 ≤ 2048 := by
        rw [Hck.out]
        unfold checkR
        split
        · split
          · exact endR_at bs
          · exact Nat.zero_le _
        · exact Nat.min_le_right _ _
      obtain ⟨ck0, ck1, ck2⟩ := ck
      dsimp only at h70 hat
      subst h70
      have g1 : ((ck1 : Nat) : Int) ≥ 0 := by omega
      have g2 : ((ck1 : Nat) : Int) ≤ 2048 := by omega
      clear hce hno hyes he
      try dsimp only
      go_wp2_with fail
      refine (lnum_ok w4 _).mono ?_
      rintro _ wn ⟨rfl, hwn⟩
      rw [hwn]
      clear hwn wn
      try dsimp only
      go_wp2_with fail
      refine (lnum_ok w4 _).mono ?_
      rintro _ wn ⟨rfl, hwn⟩
      rw [hwn]
      clear hwn wn
      try dsimp only
      go_wp2_with fail
      refine (lnum_ok w4 _).mono ?_
      rintro _ wn ⟨rfl, hwn⟩
      rw [hwn]
      clear hwn wn
      try dsimp only
      go_wp2_with fail
      refine (lnum_ok w4 _).mono ?_
      rintro _ wn ⟨rfl, hwn⟩
      rw [hwn]
      clear hwn wn
      try dsimp only
      go_wp2_with fail
      go_ret
      exact ⟨rfl, HA4.out⟩
end Go.Proofs.Ytllhmidpphlbhaa.ds
namespace Go.Proofs.Ytllhmidpphlbhaa.ds
open Go.ChangeShapes Go.WideShapes Go.ChangeAt Go.RowKit Go.ChangeMaps Go.Deep
set_option linter.unusedVariables false
set_option linter.unusedSimpArgs false
set_option maxRecDepth 100000 in
theorem oneForm_lifted (os : Os) (started : os.Started) (H : Type) (enc : TypeId × Value → H) :
    ReturnsInHanded {} Try.checked os 6 .any (Rows.pageOneFormSpec.pre6 enc Try.prog Try.f6 Rows.pageOneFormRow.domain false) (Rows.pageOneFormSpec.post enc Try.prog Try.f6 false true false false) := by
  refine returnsInHanded_of_change (C := Try.checked) own started (by kernel_rfl) Try.func6
    (ChangeSpec.witness6 (enc := enc) (C := Try.checked) false ⟨#[], #[.slice none 0 0], []⟩ 8 (by kernel_rfl) (by kernel_rfl) (by kernel_rfl) (by kernel_rfl)) ?_
  intro W base args ds gs before hval0 hW hcnd _
  have hval : ∀ (j : Nat) t v, Try.f6.params[j]? = some t → args[j]? = some v → Value.okWide Try.prog W .any base t v := hval0
  have hW' := hW
  obtain ⟨p, q, hA0, hV, rfl, hfz, hnd⟩ := hW
  have hA : DataW.TrodAll enc Try.prog W 0 (fun _ => true) true Try.f6.params.toList args.toList ds p := hA0
  rw [Try.params6] at hA hval
  obtain ⟨v0, vs0, d0, ds0, p0, q0, hargs0, rfl, rfl, h0, r0⟩ := trodAll_cons hA
  obtain ⟨rfl, rfl, rfl⟩ := trodAll_nil r0
  obtain rfl : args = #[v0] := by cases args; simp_all
  obtain ⟨rfl, rfl⟩ := trodVars_none hV
  have k0 := h0
  have lt0 : ∀ x ∈ p0, x.block < W.heap.size := by obtain ⟨m, hm⟩ := k0; exact DataW.trod_lt m _ _ _ hm
  obtain ⟨a0, len0, cap0, rfl⟩ := okWide_slice Try.underlying28 (hval 0 28 v0 rfl rfl)
  have hbc : len0 ≤ cap0 := by obtain ⟨fuel, hf⟩ := h0; exact open_cap hf
  obtain ⟨s, bs, hs, hrd, hlen, hlim, h8, hok⟩ : ∃ (s : Sl) (bs : List Nat), Value.slice a0 len0 cap0 = s.v ∧ Rd W s.p (byts bs) ∧ bs.length = s.n ∧ s.n ≤ 9223372036854775807 ∧ (∀ b ∈ bs, b < 256) ∧ s.ok := by
    obtain ⟨fuel, hf⟩ := h0
    exact open_bytesU hf
  unfold Sl.v at hs
  simp only [Value.slice.injEq] at hs
  obtain ⟨rfl, rfl, rfl⟩ := hs

  clear hA0 hval0
  refine (oneForm_walk W s bs hrd hlen h8 hok hlim hbc).mono fun e W' ⟨he, ap⟩ => ?_
  subst he
  have bel : Below W.heap.size W W' := ap.below (Nat.le_refl _) (by simp)
  exact ⟨_, rfl, _, _, _, [], _, [], hW', trodAll_mk1 (shut_bool Try.underlying4 _), (trodAll_cons_mk (Below.trod laidOut (by kernel_rfl) (of_decide_eq_true (by kernel_rfl)) k0 bel lt0) trodAll_mk0), rfl, bel.frame _, fun h => by cases h⟩
theorem oneForm_over : Rows.pageOneFormRow.holds Try.pinned (OpenSpec.ofChange Rows.pageOneFormSpec) :=
  OpenClaim.holds_of_wide 6 Try.f6 rfl rfl rfl rfl rfl rfl rfl ⟨rfl, rfl, rfl, rfl, rfl⟩ rfl rfl rfl rfl rfl (by kernel_rfl) Try.func6 (by kernel_rfl)
    (of_decide_eq_true (by kernel_rfl)) (by unfold Func.isWrapper; first | (rw [if_pos (by decide +kernel)]; kernel_rfl) | (rw [if_neg (by decide +kernel)]; exact ⟨rfl, rfl⟩))
    (fun os started H enc _ => oneForm_lifted os started H enc)
end Go.Proofs.Ytllhmidpphlbhaa.ds
namespace Go.Proofs.Ytllhmidpphlbhaa
theorem pageOneForm_holds : Rows.PageOneFormSaid := ds.oneForm_over
end Go.Proofs.Ytllhmidpphlbhaa
