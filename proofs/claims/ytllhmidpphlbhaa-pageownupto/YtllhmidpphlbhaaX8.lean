import Derived.Test.YtllhmidpphlbhaaX7
import Derived.Test.YtllhmidpphlbhaaG37
namespace Go.Proofs.Ytllhmidpphlbhaa.ds
open Go.ChangeShapes Go.WideShapes Go.ChangeAt Go.RowKit Go.Sort
set_option linter.unusedVariables false
set_option linter.unusedSimpArgs false
theorem mask2047 (z : Int) : ∃ m : Nat, m < 2048 ∧ bits .and .i64 z 2047 = (m : Int) := by
  refine ⟨(BitVec.ofInt 64 z).toNat &&& 2047, Nat.lt_of_le_of_lt Nat.and_le_right (by decide), ?_⟩
  have h1 : (BitVec.ofInt 64 z).toNat &&& 2047 ≤ 2047 := Nat.and_le_right
  show IntKind.i64.wrap ((BitVec.ofInt 64 z &&& BitVec.ofInt 64 2047).toNat : Int) = _
  have h2 : (BitVec.ofInt 64 (2047 : Int)).toNat = 2047 := by decide
  rw [BitVec.toNat_and, h2, IntKind.wrap_i64]
  omega
def L8 (l : List Nat) : Prop := ∀ b ∈ l, b < 256
theorem L8.app {a b : List Nat} (ha : L8 a) (hb : L8 b) : L8 (a ++ b) := fun x hx => (List.mem_append.1 hx).elim (ha x) (hb x)
theorem L8.n (k n : Nat) : L8 (encN k n) := encN_8 k n
theorem L8.sps : ∀ (l : List S), L8 (encSps l)
  | [] => fun b hb => by simp [encSps] at hb
  | x :: l => by
    show L8 (encSp x ++ encSps l)
    exact ((L8.n _ _).app ((L8.n _ _).app (L8.n _ _))).app (L8.sps l)
theorem L8.st (l : List S) : L8 (encSt l) := (L8.n _ _).app (L8.sps l)
theorem L8.cls : ∀ (l : List (Nat × List S)), L8 (encCls l)
  | [] => fun b hb => by simp [encCls] at hb
  | c :: l => by
    show L8 (encCl c ++ encCls l)
    exact ((L8.n _ _).app (L8.st _)).app (L8.cls l)
theorem L8.pw {w : Cw} (h : L8 w.vs) : L8 (encPw w) := (L8.n _ _).app ((L8.n _ _).app ((L8.n _ _).app (((L8.n _ _).app h).app (L8.st _))))
theorem L8.pws : ∀ {l : List Cw}, (∀ w ∈ l, L8 w.vs) → L8 (encPws l)
  | [], _ => fun b hb => by simp [encPws] at hb
  | w :: l, h => by
    show L8 (encPw w ++ encPws l)
    exact (L8.pw (h w (by simp))).app (L8.pws (fun x hx => h x (by simp [hx])))
theorem L8.pad {l : List Nat} (h : L8 l) : L8 (pad l) := by
  intro b hb
  unfold ds.pad at hb
  rcases List.mem_append.1 hb with hb | hb
  · exact h b hb
  · rw [List.mem_replicate] at hb; omega
/-- a content's page: bytes -/
theorem cP_8 {w : World} {t : Sl} {kd gn ow : Int} {cs : List (Int × List S)} {es : List E} {rs : List Wr} (h : RWs w t es rs) : L8 (pad (encPc (cP kd gn ow cs rs))) := by
  have hv : ∀ r ∈ rs, L8 r.vs := fun r hr => by
    obtain ⟨j, hj, rfl⟩ := List.getElem_of_mem hr
    have h1 := (h.each j (by rw [← h.rl]; exact hj)).vb
    rw [gR_eq _ _ hj] at h1
    exact h1
  refine L8.pad ?_
  unfold cP
  split
  · show L8 (encN 1 1 ++ (encN 6 _ ++ (encN 1 _ ++ encCls _)))
    exact (L8.n _ _).app ((L8.n _ _).app ((L8.n _ _).app (L8.cls _)))
  · split
    · show L8 (encN 1 2 ++ ((encN 1 _ ++ bsk _) ++ (encN 1 _ ++ encPws _)))
      refine (L8.n _ _).app (((L8.n _ _).app (bsk_lt _)).app ((L8.n _ _).app (L8.pws (fun c hc => ?_))))
      obtain ⟨r, hr, rfl⟩ := List.mem_map.1 hc
      exact hv r hr
    · show L8 (encN 1 3 ++ (encN 1 _ ++ ((encN 1 _ ++ bsk _) ++ encPws [_])))
      refine (L8.n _ _).app ((L8.n _ _).app (((L8.n _ _).app (bsk_lt _)).app (L8.pws (fun c hc => ?_))))
      simp at hc
      subst hc
      exact h.first.vb
theorem zerosR_badlt {B : List Nat} : ∀ (f : Nat) {s : Ps}, (s.bad = true → s.at_ < 2048) → (zerosR B f s).bad = true → (zerosR B f s).at_ < 2048
  | 0, s, h, hb => h hb
  | f + 1, s, h, hb => by
    unfold zerosR at hb ⊢
    by_cases hc : s.bad = false ∧ s.at_ < 2048
    · rw [if_pos hc] at hb ⊢
      refine zerosR_badlt f (fun hb2 => ?_) hb
      unfold num
      rw [if_neg (by rw [hc.1]; simp)]
      split
      · rename_i hin
        unfold num at hb2
        rw [if_neg (by rw [hc.1]; simp), if_pos hin] at hb2
        cases hb2
      · exact hc.2
    · rw [if_neg hc] at hb ⊢
      exact h hb
theorem endR_badlt {B : List Nat} (h : (endR B).bad = true) : (endR B).at_ < 2048 := zerosR_badlt 2048 (fun _ => by have := bodyR_at B; omega) h
/-- what Check tells of a whole page -/
theorem checkR_2048 {B : List Nat} (h : B.length = 2048) : ((endR B).bad = false ∧ (checkR B).2.1 = 0 ∧ (checkR B).2.2 = 0) ∨ ((endR B).bad = true ∧ checkR B = (0, (endR B).at_, 70) ∧ (endR B).at_ < 2048) := by
  unfold checkR
  rw [if_pos h]
  cases hb : (endR B).bad with
  | true => exact .inr ⟨rfl, by rw [if_pos rfl], endR_badlt hb⟩
  | false => exact .inl ⟨rfl, by rw [if_neg (by simp)]; exact ⟨rfl, rfl⟩⟩
theorem checkR_first {B : List Nat} (h : B.length = 2048) (hb : (endR B).bad = true) {i x : Nat} (hi : (endR B).at_ + 8 ≤ i) : checkR (B.set i x) = checkR B := by
  have hag : Ag ((endR B).at_ + 8) B (B.set i x) := fun j hj => by
    rw [List.getD_eq_getElem?_getD, List.getD_eq_getElem?_getD, List.getElem?_set_ne (by omega)]
  have he := endR_ag hag
  unfold checkR
  rw [if_pos h, if_pos (by simpa using h), he, hb, if_pos rfl, if_pos rfl]
end Go.Proofs.Ytllhmidpphlbhaa.ds
namespace Go.Proofs.Ytllhmidpphlbhaa.ds
open Go.ChangeShapes Go.WideShapes Go.ChangeAt Go.RowKit Go.Sort
set_option linter.unusedVariables false
set_option linter.unusedSimpArgs false

set_option maxHeartbeats 16000000 in
set_option maxRecDepth 100000 in
theorem first_walk (w : World) (b : Sl) (bs : List Nat) (hrd : Rd w b.p (byts bs)) (hlen : bs.length = b.n) (h8 : ∀ x ∈ bs, x < 256) (hok : b.ok) (hlim : b.n ≤ 1048576) (c : Ct) (ks : List Ck) (cs : List (Int × List S)) (es : List E) (rs : List Wr) (h : RCt w c ks cs es rs) (z1 z2 : Int) (lt : Nat) (hlt8 : lt < 256) : Calls Try.prog 4 #[.slice b.p b.n b.c, .agg c.cs, .int .i64 z1, .int .i64 z2, .int .u8 (lt : Nat)] w fun r w' => r = .returned (.bool true) ∧ Apart [] w w' := by
  obtain ⟨kd, gn, ow, s, t⟩ := c
  unfold Ct.cs
  dsimp only
  have HH := hid h
  have HRD := hid hrd
  have HLEN := hid hlen
  have H8 := hid h8
  have HOK := hid hok
  clear h hrd hlen h8 hok
  obtain ⟨A, HXA⟩ : ∃ A, Hid (A = w.heap.size) := ⟨_, rfl⟩
  obtain ⟨w1, hw1⟩ : ∃ V, V = w.alloc (.cells #[.int .i64 kd, .int .i64 gn, .int .i64 ow, .slice s.p s.n s.c, .slice t.p t.n t.c] 25) := ⟨_, rfl⟩
  have a1 : Apart [] w w1 := by rw [hw1]; exact (Apart.refl [] w).alloc _
  have hA1 : w1.heap[A]? = some (.cells #[.int .i64 kd, .int .i64 gn, .int .i64 ow, .slice s.p s.n s.c, .slice t.p t.n t.c] 25 (0, 0)) := by rw [hw1, HXA.out]; exact heap_alloc_new w _
  obtain ⟨zz0, zz1, zz2, zz3, zz4⟩ := row5v hA1
  have HA := hid a1
  have HROW := hid hA1
  clear a1 hA1
  go_enter Try.func4, Try.ntmps4
  go_upto_region 1 with fail
  rw [← hw1, ← HXA.out]
  clear hw1
  go_wp2_with fail
  have h1 := HH.out.kept0 HA.out
  refine (fits_ok w1 kd gn ow s t ks cs es rs h1.hc h1.hcl h1.hw h1.hkl).mono ?_
  clear h1
  rintro _ w2 ⟨⟨bb, rfl⟩, a2⟩
  have HA2 := hid (HA.out.trans a2)
  have HROW2 := hid (keep0 a2 HROW.out)
  clear a2 zz0 zz1 zz2 zz3 zz4
  try dsimp only
  cases bb with
  | false =>
    go_wp2_with fail
    go_ret
    exact ⟨rfl, HA2.out⟩
  | true =>
    by_cases hbig : b.n > 65536
    · have hbi : ((b.n : Nat) : Int) > 65536 := by omega
      go_wp2_with fail
      go_ret
      exact ⟨rfl, HA2.out⟩
    · have hbi : ¬ ((b.n : Nat) : Int) > 65536 := by omega
      go_wp2_with fail
      refine (alive_ok w2).mono ?_
      rintro _ w3 ⟨rfl, a3⟩
      have HA3 := hid (HA2.out.trans a3)
      have hA3 := keep0 a3 HROW2.out
      obtain ⟨zz0, zz1, zz2, zz3, zz4⟩ := row5v hA3
      clear a3 hA3
      try dsimp only
      go_wp2_with fail
      have h1 := HH.out.kept0 HA3.out
      refine (built_ok w3 kd gn ow s t ks cs es rs h1.hc h1.hcl h1.hw).mono ?_
      clear h1
      intro q w4 hco
      obtain ⟨a4, sp, rfl, hp0, hp1⟩ := hco
      have HA4 := hid (HA3.out.trans a4)
      have HP1 := hid hp1
      have HPL : Hid (cE kd gn ow cs rs = 0 → (pad (encPc (cP kd gn ow cs rs))).length = 2048) := fun he => (cP_len he).2
      have HP8 : Hid (L8 (pad (encPc (cP kd gn ow cs rs)))) := cP_8 HH.out.hw
      clear a4 hp0 hp1 zz0 zz1 zz2 zz3 zz4
      generalize cE kd gn ow cs rs = er at *
      generalize cP kd gn ow cs rs = pc at *
      try dsimp only
      go_wp2_with fail
      refine (lnum_ok w4 er).mono ?_
      rintro _ wn ⟨rfl, hwn⟩
      rw [hwn]
      clear hwn wn
      try dsimp only
      go_upto_if 46 with fail
      go_cut [0, 46] from 47 to 47 (fun s0 _ wx => ∃ (bv : Sl) (l : List Nat), .slice bv.p bv.n bv.c = s0 ∧ wx = w4 ∧ Rd w4 bv.p (byts l) ∧ l.length = bv.n ∧ L8 l ∧ bv.ok ∧ bv.n ≤ 1048576)
      case first =>
        by_cases he : er = 0
        · obtain ⟨g, hsp, -, hg⟩ := HP1.out he
          have HSP := hid hsp
          have HG := hid hg
          have HE := hid he
          clear hsp hg
          have hbe : (er == 0) = true := by rw [he]; rfl
          clear he
          go_wp2_with fail
          go_meet
          exact ⟨sp, pad (encPc pc), rfl, rfl, by rw [HSP.out]; exact page_rd HG.out, by rw [HSP.out]; exact HPL.out HE.out, HP8.out, by rw [HSP.out]; exact fun h => by simp at h, by rw [HSP.out]; show 2048 ≤ _; omega⟩
        · have hbe : (er == 0) = false := by rw [beq_eq_false_iff_ne]; exact he
          clear he
          go_wp2_with fail
          go_meet
          exact ⟨b, bs, rfl, rfl, HRD.out.kept0 HA4.out, HLEN.out, H8.out, HOK.out, hlim⟩
      obtain ⟨bv, l, rfl, hwc, hbr, hbl, hb8, hbo, hbn⟩ := hcut
      rw [hwc]
      clear hwc wc
      by_cases hn : bv.n = 2048
      · have hbe : (((bv.n : Nat) : Int) != 2048) = false := by rw [hn]; rfl
        have HN := hid hn
        obtain ⟨o1, W5, hrun, hn5, ho5⟩ := appB w4 bv l 28 hbr hbl (by omega) hbo
        have HRUN : Hid ((Builtin.append_ #[28, 28] 28 #[.slice none 0 0, .slice bv.p bv.n bv.c]).run Try.prog w4 = .ok (.slice o1.p o1.n o1.c) W5) := hrun
        have hl2 : l.length = 2048 := by rw [hbl, hn]
        have hbf5 : Bf w4 W5 o1 l := ⟨hn5, by rw [ho5, hn, hl2]⟩
        have hon : o1.n = 2048 := by rw [hbf5.len, hl2]
        obtain ⟨m, hm, hmk⟩ := mask2047 z1
        obtain ⟨g, hp, hc0, hf0, hgw, hbf6⟩ := hbf5.set m (by omega) lt
        obtain ⟨W6, hW6⟩ : ∃ V, V = W5.setCell ⟨g, m, none⟩ (.int .u8 (lt : Int)) := ⟨_, rfl⟩
        rw [← hW6] at hbf6
        have h86 : L8 (l.set m lt) := fun x hx => by
          rcases List.mem_or_eq_of_mem_set hx with hx | hx
          · exact hb8 x hx
          · rw [hx]; exact hlt8
        obtain ⟨l6, Hl6⟩ : ∃ l', Hid (l' = l.set m lt) := ⟨_, rfl⟩
        rw [← Hl6.out] at hbf6 h86
        have hl6 : l6.length = 2048 := by rw [Hl6.out]; simpa using hl2
        have HBF6 := hid hbf6
        have H86 := hid h86
        have HL6 := hid hl6
        have hmi : ((m : Nat) : Int) < 2048 := by omega
        have HCAP := hid hn5.capn
        clear hrun hn5 hbf5 hbf6 h86 hl6 hbr hbl hb8 hbo hbn hn ho5 hl2 hgw
        obtain ⟨op, on, oc⟩ := o1
        dsimp only at hp hon HRUN HBF6 HCAP
        subst hp hon
        go_upto_region 12 with (at_builtin; refine wpList_app2 rfl (.const (.slice none 0 0)) (.tmp 51) 28 28 rfl _ _ rfl rfl _ _ HRUN.out ?_)
        clear hbe
        go_upto_region 13 with fail
        rw [← hW6]
        clear hW6 hc0 hf0 hmk
        obtain ⟨ck, Hck⟩ : ∃ c, Hid (c = checkR l6) := ⟨_, rfl⟩
        have hPB6 : Pb W6 ⟨some ⟨g, 0, none⟩, 2048, oc⟩ l6 := ⟨HBF6.out.nw.rd, HL6.out, H86.out, HCAP.out, fun h => by simp at h, by show 2048 ≤ _; omega⟩
        have h18 := check_ok hPB6
        rw [← Hck.out] at h18
        have H18 := hid h18
        clear h18 hPB6
        go_wp2_with fail
        refine H18.out.mono ?_
        clear H18
        rintro _ W7 ⟨rfl, a7⟩
        have HBF7 := hid (HBF6.out.kept a7)
        clear a7
        try dsimp only
        go_wp2_with fail
        refine (lnum_ok W7 _).mono ?_
        rintro _ wn ⟨rfl, hwn⟩
        rw [hwn]
        clear hwn wn
        try dsimp only
        rcases checkR_2048 HL6.out with ⟨-, hc1, hc2⟩ | ⟨hbad, hc1, hc2⟩
        · rw [← Hck.out] at hc1 hc2
          have e2 : (((ck.2.2 : Nat) : Int) == 0) = true := by rw [hc2]; rfl
          have e1 : (((ck.2.1 : Nat) : Int) == 0) = true := by rw [hc1]; rfl
          clear hc1 hc2
          go_wp2_with fail
          go_ret
          exact ⟨by first | rfl | (rw [e1]), HA4.out.trans HBF7.out.nw.ap⟩
        · obtain ⟨pl, Hpl⟩ : ∃ p, Hid (p = (endR l6).at_) := ⟨_, rfl⟩
          rw [← Hck.out, ← Hpl.out] at hc1
          rw [← Hpl.out] at hc2
          subst hc1
          have p1 : ¬ ((pl : Nat) : Int) < 0 := by omega
          have p2 : ¬ ((pl : Nat) : Int) > 2047 := by omega
          have HBAD := hid hbad
          obtain ⟨i, hi, hik⟩ := mask2047 z2
          have hwp : IntKind.i64.wrap ((pl : Int) + 8) = ((pl + 8 : Nat) : Int) := by rw [IntKind.wrap_i64]; omega
          clear hbad
          dsimp only
          by_cases hlow : i < pl + 8
          · have hlowi : ((i : Nat) : Int) < ((pl + 8 : Nat) : Int) := by omega
            go_wp2_with fail
            go_ret
            exact ⟨rfl, HA4.out.trans HBF7.out.nw.ap⟩
          · have hlowi : ¬ ((i : Nat) : Int) < ((pl + 8 : Nat) : Int) := by omega
            obtain ⟨u, Hu⟩ : ∃ u, Hid (u = l6.getD i 0) := ⟨_, rfl⟩
            obtain ⟨x, hx8, hx⟩ : ∃ x : Nat, x < 256 ∧ Hid (((u : Int) + 1 + (lt : Int) % 64) % 256 = (x : Int)) := ⟨(((u : Int) + 1 + (lt : Int) % 64) % 256).toNat, by omega, by unfold Hid; omega⟩
            obtain ⟨g', hp', hc0, hf0, -, hbf8⟩ := HBF7.out.set i (by rw [HL6.out]; omega) x
            dsimp only at hp'
            simp at hp'
            subst hp'
            rw [← Hu.out] at hc0
            obtain ⟨W8, hW8⟩ : ∃ V, V = W7.setCell ⟨g, i, none⟩ (.int .u8 (x : Int)) := ⟨_, rfl⟩
            rw [← hW8] at hbf8
            have h88 : L8 (l6.set i x) := fun y hy => by
              rcases List.mem_or_eq_of_mem_set hy with hy | hy
              · exact H86.out y hy
              · rw [hy]; exact hx8
            have hck8 : checkR (l6.set i x) = (0, pl, 70) := by
              rw [checkR_first HL6.out HBAD.out (by rw [← Hpl.out]; omega)]
              exact Hck.out.symm
            have hPB8 : Pb W8 ⟨some ⟨g, 0, none⟩, 2048, oc⟩ (l6.set i x) := ⟨hbf8.nw.rd, by simpa using HL6.out, h88, HCAP.out, fun h => by simp at h, by show 2048 ≤ _; omega⟩
            have h18 := check_ok hPB8
            rw [hck8] at h18
            have H18 := hid h18
            have HBF8 := hid hbf8
            have hii : ((i : Nat) : Int) < 2048 := by omega
            clear h18 hPB8 hbf8 h88 hck8 hlow
            go_upto_region 22 with fail
            rw [hx.out, ← hW8]
            clear hW8 hc0 hf0 hx
            go_wp2_with fail
            refine H18.out.mono ?_
            clear H18
            rintro _ W9 ⟨rfl, a9⟩
            have HA9 := hid (HA4.out.trans (HBF8.out.nw.ap.trans a9))
            clear a9
            try dsimp only
            go_wp2_with fail
            refine (lnum_ok W9 _).mono ?_
            rintro _ wn ⟨rfl, hwn⟩
            rw [hwn]
            clear hwn wn
            try dsimp only
            go_wp2_with fail
            go_ret
            exact ⟨by first | rfl | simp, HA9.out⟩
      · have hbe : (((bv.n : Nat) : Int) != 2048) = true := by rw [bne_iff_ne]; omega
        clear hn
        go_wp2_with fail
        go_ret
        exact ⟨rfl, HA4.out⟩
end Go.Proofs.Ytllhmidpphlbhaa.ds
namespace Go.Proofs.Ytllhmidpphlbhaa.ds
open Go.ChangeShapes Go.WideShapes Go.ChangeAt Go.RowKit Go.ChangeMaps Go.Deep
set_option linter.unusedVariables false
set_option linter.unusedSimpArgs false
set_option maxRecDepth 100000 in
theorem firstp_lifted (os : Os) (started : os.Started) (H : Type) (enc : TypeId × Value → H) (F : Stop.Interp) :
    ReturnsInHanded {} Try.checked os 4 .any ((Rows.OpenSpec.upto Rows.pageFirstSpec).pre6 enc Try.prog Try.f4 Rows.pageFirstUptoRow.domain false) (((Rows.OpenSpec.upto Rows.pageFirstSpec).at F).post enc Try.prog Try.f4 false true false false) := by
  refine returnsInHanded_of_cond (C := Try.checked) (s := (Rows.OpenSpec.upto Rows.pageFirstSpec)) (k := Rows.uptoSmall) rfl own started (by kernel_rfl) Try.func4
    (OpenSpec.witness (enc := enc) (C := Try.checked) (s := (Rows.OpenSpec.upto Rows.pageFirstSpec)) (k := Rows.uptoSmall) rfl false ⟨#[], #[.slice none 0 0, .agg #[.int .i64 0, .int .i64 0, .int .i64 0, .slice none 0 0, .slice none 0 0], .int .i64 0, .int .i64 0, .int .u8 0], []⟩ 8 (by kernel_rfl) (by kernel_rfl) (by kernel_rfl)
      (x := ([.nil, .agg [.lit (.int .i64 0), .lit (.int .i64 0), .lit (.int .i64 0), .nil, .nil], .lit (.int .i64 0), .lit (.int .i64 0), .lit (.int .u8 0)], [], [])) (by kernel_rfl) rfl (by kernel_rfl)) ?_
  intro W base args ds gs before hval0 hW _ hk _
  have hval : ∀ (j : Nat) t v, Try.f4.params[j]? = some t → args[j]? = some v → Value.okWide Try.prog W .any base t v := hval0
  have hW' := hW
  obtain ⟨p, q, hA0, hV, rfl, hfz, hnd⟩ := hW
  have hA : DataW.TrodAll enc Try.prog W 0 (fun _ => true) true Try.f4.params.toList args.toList ds p := hA0
  rw [Try.params4] at hA hval
  obtain ⟨v0, vs0, d0, ds0, p0, q0, hargs0, rfl, rfl, h0, r0⟩ := trodAll_cons hA
  obtain ⟨v1, vs1, d1, ds1, p1, q1, hargs1, rfl, rfl, h1, r1⟩ := trodAll_cons r0
  obtain ⟨v2, vs2, d2, ds2, p2, q2, hargs2, rfl, rfl, h2, r2⟩ := trodAll_cons r1
  obtain ⟨v3, vs3, d3, ds3, p3, q3, hargs3, rfl, rfl, h3, r3⟩ := trodAll_cons r2
  obtain ⟨v4, vs4, d4, ds4, p4, q4, hargs4, rfl, rfl, h4, r4⟩ := trodAll_cons r3
  obtain ⟨rfl, rfl, rfl⟩ := trodAll_nil r4
  obtain rfl : args = #[v0, v1, v2, v3, v4] := by cases args; simp_all
  obtain ⟨rfl, rfl⟩ := trodVars_none hV
  have k0 := h0
  have lt0 : ∀ x ∈ p0, x.block < W.heap.size := by obtain ⟨m, hm⟩ := k0; exact DataW.trod_lt m _ _ _ hm
  obtain ⟨a0, len0, cap0, rfl⟩ := okWide_slice Try.underlying28 (hval 0 28 v0 rfl rfl)
  obtain ⟨sb, bs, hs, hrd, hlen, hlim, h8, hok⟩ : ∃ (s : Sl) (bs : List Nat), Value.slice a0 len0 cap0 = s.v ∧ Rd W s.p (byts bs) ∧ bs.length = s.n ∧ s.n ≤ 1048576 ∧ (∀ b ∈ bs, b < 256) ∧ s.ok := by
    obtain ⟨fuel, hf⟩ := h0
    refine open_bytes hf ?_
    have hb : Rows.uptoBulkAll ([d0, d1, d2, d3, d4] ++ []) ≤ 1048576 := of_decide_eq_true hk
    rw [List.append_nil] at hb
    simp only [all_cons, all_nil] at hb
    show Rows.uptoBulk d0 ≤ 1048576
    omega
  unfold Sl.v at hs
  simp only [Value.slice.injEq] at hs
  obtain ⟨rfl, rfl, rfl⟩ := hs

  have k1 := h1
  have lt1 : ∀ x ∈ p1, x.block < W.heap.size := by obtain ⟨m, hm⟩ := k1; exact DataW.trod_lt m _ _ _ hm
  obtain ⟨cs1, rfl, hcs1⟩ := okWide_struct Try.underlying25 (hval 1 25 v1 rfl rfl)
  rw [c25] at hcs1
  obtain ⟨c, ks, cs, es, rs, rfl, hct⟩ : ∃ (c : Ct) (ks : List Ck) (cs : List (Int × List S)) (es : List E) (rs : List Wr), cs1 = c.cs ∧ RCt W c ks cs es rs := by
    obtain ⟨fuel, hf⟩ := h1
    refine open_content hcs1 hf ?_
    have hb : Rows.uptoBulkAll ([d0, d1, d2, d3, d4] ++ []) ≤ 1048576 := of_decide_eq_true hk
    rw [List.append_nil] at hb
    simp only [all_cons, all_nil] at hb
    show Rows.uptoBulk d1 ≤ 1048576
    omega
  have k2 := h2
  have lt2 : ∀ x ∈ p2, x.block < W.heap.size := by obtain ⟨m, hm⟩ := k2; exact DataW.trod_lt m _ _ _ hm
  obtain ⟨z2, rfl, _, _, wf2⟩ := open_int Try.underlying3 (hval 2 3 v2 rfl rfl) h2
  have hz2 : -9223372036854775808 ≤ z2 ∧ z2 ≤ 9223372036854775807 := by
    simp [Lit.wf, IntKind.bits, IntKind.signed, IntKind.min, IntKind.max] at wf2
    omega
  have k3 := h3
  have lt3 : ∀ x ∈ p3, x.block < W.heap.size := by obtain ⟨m, hm⟩ := k3; exact DataW.trod_lt m _ _ _ hm
  obtain ⟨z3, rfl, _, _, wf3⟩ := open_int Try.underlying3 (hval 3 3 v3 rfl rfl) h3
  have hz3 : -9223372036854775808 ≤ z3 ∧ z3 ≤ 9223372036854775807 := by
    simp [Lit.wf, IntKind.bits, IntKind.signed, IntKind.min, IntKind.max] at wf3
    omega
  have k4 := h4
  have lt4 : ∀ x ∈ p4, x.block < W.heap.size := by obtain ⟨m, hm⟩ := k4; exact DataW.trod_lt m _ _ _ hm
  obtain ⟨z4, rfl, _, _, wf4⟩ := open_int Try.underlying5 (hval 4 5 v4 rfl rfl) h4
  have hz4 : 0 ≤ z4 ∧ z4 < 256 := by
    simp [Lit.wf, IntKind.bits, IntKind.signed, IntKind.min, IntKind.max] at wf4
    omega
  obtain ⟨n4, rfl⟩ := Int.eq_ofNat_of_zero_le hz4.1
  clear hA0 hval0
  refine (first_walk W sb bs hrd hlen h8 hok hlim c ks cs es rs hct z2 z3 n4 (by omega)).mono fun e W' ⟨he, ap⟩ => ?_
  subst he
  have bel : Below W.heap.size W W' := ap.below (Nat.le_refl _) (by simp)
  exact ⟨_, rfl, _, _, _, [], _, [], hW', trodAll_mk1 (shut_bool Try.underlying4 _), (trodAll_cons_mk (Below.trod laidOut (by kernel_rfl) (of_decide_eq_true (by kernel_rfl)) k0 bel lt0) (trodAll_cons_mk (Below.trod laidOut (by kernel_rfl) (of_decide_eq_true (by kernel_rfl)) k1 bel lt1) (trodAll_cons_mk (Below.trod laidOut (by kernel_rfl) (of_decide_eq_true (by kernel_rfl)) k2 bel lt2) (trodAll_cons_mk (Below.trod laidOut (by kernel_rfl) (of_decide_eq_true (by kernel_rfl)) k3 bel lt3) (trodAll_cons_mk (Below.trod laidOut (by kernel_rfl) (of_decide_eq_true (by kernel_rfl)) k4 bel lt4) trodAll_mk0))))), rfl, bel.frame _, fun h => by cases h⟩
theorem firstp_over : Rows.PageFirstUptoSaid :=
  OpenClaim.holds_of_cond 4 Try.f4 rfl rfl rfl rfl rfl rfl rfl ⟨rfl, rfl, rfl, rfl, rfl⟩ rfl rfl rfl rfl rfl (by kernel_rfl) Try.func4 (by kernel_rfl)
    (of_decide_eq_true (by kernel_rfl)) (by unfold Func.isWrapper; first | (rw [if_pos (by decide +kernel)]; kernel_rfl) | (rw [if_neg (by decide +kernel)]; exact ⟨rfl, rfl⟩))
    (fun os started H enc _ F => firstp_lifted os started H enc F)
end Go.Proofs.Ytllhmidpphlbhaa.ds
namespace Go.Proofs.Ytllhmidpphlbhaa
theorem pageFirst_holds : Rows.PageFirstUptoSaid := ds.firstp_over
end Go.Proofs.Ytllhmidpphlbhaa
