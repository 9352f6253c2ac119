import Derived.Test.YtdbeeikjngnnnaaGreatC52
namespace Go.Proofs.YtdbeeikjngnnnaaGreat.ty
open Go.ChangeShapes Go.WideShapes Go.ChangeAt Go.RowKit
set_option linter.unusedVariables false
set_option linter.unusedSimpArgs false
set_option maxRecDepth 100000
set_option maxHeartbeats 8000000
variable {wB w w' w2 : World} {T k : Nat} {p r : Nat → Nat} {v : Nat → Vl} {ts : Nat → List Tg} {H L : List Sl} {sH sL : Sl} {h : Nat → Prop}
def kyK : ByteArray := ⟨#[107]⟩
theorem resolves_ok (t : Tb wB w T k p r v ts H L sH sL h) {i0 : Nat} (hi : i0 < 4) (m : Int) {sl : Sl} {bs : List Nat} (gv : Gv w sl bs) (hcp : sl.n ≤ sl.c) : Calls Tryz.prog 25 #[.pointer (some ⟨T, 0, none⟩), .int .i64 (i0 : Int), .int .i64 m, .slice sl.p sl.n sl.c] w fun x w' => StP wB T k H L x w' := by
 have HT := hid t
 have Hi := hid hi
 have HGv := hid gv
 have Hcp := hid hcp
 have HTw : Hid (Two w w ⟨none, 0, 0⟩ ⟨none, 0, 0⟩ [] []) := hid ⟨Wr.nil _ _ (Apart.refl [] w), Wr.nil _ _ (Apart.refl [] w), rfl, fun P hP => by simp [Sl.v, Value.ownBlock] at hP⟩
 clear t hi gv hcp
 go_enter Tryz.func25, Tryz.ntmps25
 go_upto_region 3 with fail
 go_loopw [9, 10, 11] (fun v9 v10 v11 wt => ∃ (i : Nat) (s9 s10 : Sl) (xs ys : List Wk), v9 = .slice s9.p s9.n s9.c ∧ v10 = .slice s10.p s10.n s10.c ∧ v11 = .int .i64 (i : Int) ∧ i ≤ 4 ∧ Hid (Two w wt s9 s10 xs ys) ∧ Hid (xs.length ≤ i)) (fun _ _ v11 _ => 4 - natV v11)
 case atStart => exact ⟨0, ⟨none, 0, 0⟩, ⟨none, 0, 0⟩, [], [], rfl, rfl, rfl, Nat.zero_le _, HTw, hid (Nat.le_refl _)⟩
 case round =>
  clear HTw
  obtain ⟨i, s9, s10, xs, ys, rfl, rfl, rfl, hi, HW, Hxl⟩ := hrel
  by_cases hlt : i < 4
  ·have hlti : ((i : Nat) : Int) < 4 := by omega
   have HTt := hid (HT.out.kept0 HW.out.a.nw.ap)
   obtain ⟨si, hsi⟩ := HTt.out.rv i hlt
   have HDi := hid hsi
   clear hsi
   have zr := HTt.out.cr hlt
   have Hlt := hid hlt
   have hi4 : ¬ (4 : Int) ≤ (i : Int) := by omega
   by_cases hf : (formV (v i)).length ≤ 64
   ·have Hf := hid hf
    clear hf
    have HB := hid (rbytes_few HDi.out (HT.out.rl i Hlt.out) (HT.out.iv i Hlt.out) Hf.out)
    go_upto_region 6 with (
     go_at_call 23
     refine HB.out.mono ?_
     rintro _ w3 ⟨s3, rfl, b3⟩
     have HB3 := hid b3
     clear b3)
    clear zr
    go_cut [46] from 37 to 46 (fun s wx => ∃ b : Bool, s = .bool b ∧ wx = w3)
    case first =>
     go_wp2_with fail
     all_goals (go_meet)
     all_goals exact ⟨_, rfl, rfl⟩
    obtain ⟨b, rfl, rfl⟩ := hcut
    have HW3 := hid (HW.out.kept0 HB3.out.nw.ap)
    have HU : Hid (U8 (formV (v i)) ∧ (formV (v i)).length ≤ 2000000) := hid ⟨formV_u8 _, by have := Hf.out; omega⟩
    cases b
    case false =>
     go_wp2_with fail
     exact ⟨⟨i + 1, s9, s10, xs, ys, rfl, rfl, by go_num, by omega, HW3, hid (by have := Hxl.out; omega)⟩, by simp [natV]; omega⟩
    case true =>
     obtain ⟨s4, w4, hrun4, n4, l4, a4⟩ := copyB (w := wc) (sl := s3) ⟨HB3.out.nw.rd, HB3.out.len.symm, HB3.out.nw.ok, HU.out.1, HU.out.2⟩
     have HR4 := hid hrun4
     have HB4 : Hid (Bf wc w4 s4 (formV (v i))) := hid ⟨n4, by rw [l4, HB3.out.len]⟩
     have HW4 := hid (HW3.out.kept0 a4)
     have HG4 : Hid (Gb w w4 ⟨kyK, false, s4, formV (v i)⟩) := hid (Gb.bf HB4.out HU.out.1 HU.out.2 _ _)
     have HG3 : Hid (Gb w w4 ⟨kyK, false, s3, formV (v i)⟩) := hid ((Gb.bf HB3.out HU.out.1 HU.out.2 _ _).kept0 a4)
     obtain ⟨s5, w5, hrun5, wr5, wt5, dj5, l5, a5, g5⟩ := app_pair HW4.out.a HW4.out.b HW4.out.dj HG4.out (by have h1 := HW4.out.a.len; have := Hxl.out; omega)
     have HR5 := hid hrun5
     have hl10 : s10.n ≤ 1000000 := by
      have h1 := wt5.len
      have h2 := Hxl.out
      have h3 : xs.length = ys.length := by simpa using congrArg List.length HW4.out.co
      omega
     obtain ⟨s6, w6, hrun6, wr6, wt6, dj6, l6, a6, g6⟩ := app_pair wt5 wr5 (fun P hP h2 => dj5 P h2 hP) (g5 _ HG3.out) hl10
     have HR6 := hid hrun6
     have HW6 : Hid (Two w w6 s5 s6 (xs ++ [⟨kyK, false, s4, formV (v i)⟩]) (ys ++ [⟨kyK, false, s3, formV (v i)⟩])) := hid ⟨wt6, wr6, by rw [List.map_append, List.map_append, HW4.out.co]; rfl, fun P hP h2 => dj6 P h2 hP⟩
     clear hrun4 n4 l4 a4 hrun5 wr5 wt5 dj5 l5 a5 g5 hrun6 wr6 wt6 dj6 l6 a6 g6
     go_upto_region 8 with (first
      | refine wpList_app2 rfl _ _ 29 29 rfl _ _ rfl rfl (.slice s4.p s4.n s4.c) w4 HR4.out ?_
      | refine wpList_append3 rfl _ _ 86 rfl _ _ rfl rfl (.slice s5.p s5.n s5.c) w5 HR5.out ?_)
     go_wp2_with (refine wpList_append3 rfl _ _ 86 rfl _ _ rfl rfl (.slice s6.p s6.n s6.c) w6 HR6.out ?_)
     exact ⟨⟨i + 1, s5, s6, _, _, rfl, rfl, by go_num, by omega, HW6, hid (by rw [List.length_append]; have := Hxl.out; show _ + 1 ≤ _; omega)⟩, by simp [natV]; omega⟩
   ·have Hf := hid hf
    clear hf
    have HB := hid (rbytes_wide HDi.out (HT.out.rl i Hlt.out) (HT.out.iv i Hlt.out) Hf.out)
    go_upto_region 6 with (
     go_at_call 23
     refine HB.out.mono ?_
     rintro _ w3 ⟨rfl, a3⟩
     have HA3 := hid a3
     clear a3)
    clear zr
    go_cut [46] from 37 to 46 (fun s wx => s = .bool false ∧ wx = w3)
    case first =>
     go_wp2_with fail
     all_goals (go_meet)
     all_goals exact ⟨rfl, rfl⟩
    obtain ⟨rfl, rfl⟩ := hcut
    have HW3 := hid (HW.out.kept0 HA3.out)
    go_wp2_with fail
    exact ⟨⟨i + 1, s9, s10, xs, ys, rfl, rfl, by go_num, by omega, HW3, hid (by have := Hxl.out; omega)⟩, by simp [natV]; omega⟩
  ·have hlti : ¬ ((i : Nat) : Int) < 4 := by omega
   have HTt := hid (HT.out.kept0 HW.out.a.nw.ap)
   have Hxl4 : Hid (xs.length ≤ 4) := hid (by have := Hxl.out; omega)
   clear Hxl
   go_upto_region 9 with fail
   generalize wr = w1 at *
   go_cut [60] from 58 to 60 (fun s wx => ∃ b : Bool, s = .bool b ∧ wx = w1)
   case first =>
    go_wp2_with fail
    all_goals (go_meet)
    all_goals exact ⟨_, rfl, rfl⟩
   rename_i KQ hKQ
   obtain ⟨b, rfl, rfl⟩ := hcut
   refine hKQ _ _ ?_
   clear hKQ
   go_cut [9, 10] from 61 to 68 (fun v9 v10 wx => ∃ (s9 s10 : Sl) (xs ys : List Wk), v9 = .slice s9.p s9.n s9.c ∧ v10 = .slice s10.p s10.n s10.c ∧ Hid (Two w wx s9 s10 xs ys) ∧ Hid (xs.length ≤ 5))
   case first =>
    cases b
    case false =>
     go_wp2_with fail
     go_meet
     exact ⟨s9, s10, xs, ys, rfl, rfl, HW, hid (by have := Hxl4.out; omega)⟩
    case true =>
     obtain ⟨s5, w5, hrun5, wr5, wt5, dj5, l5, a5, g5⟩ := app_pair HW.out.a HW.out.b HW.out.dj (Gb.gone w _ ⟨#[]⟩ true) (by have h1 := HW.out.a.len; have := Hxl4.out; omega)
     have HR5 := hid hrun5
     have hl10 : s10.n ≤ 1000000 := by
      have h1 := wt5.len
      have h2 := Hxl4.out
      have h3 : xs.length = ys.length := by simpa using congrArg List.length HW.out.co
      omega
     obtain ⟨s6, w6, hrun6, wr6, wt6, dj6, l6, a6, g6⟩ := app_pair wt5 wr5 (fun P hP h2 => dj5 P h2 hP) (Gb.gone w _ ⟨#[]⟩ true) hl10
     have HR6 := hid hrun6
     have HW6 : Hid (Two w w6 s5 s6 (xs ++ [⟨⟨#[]⟩, true, ⟨none, 0, 0⟩, []⟩]) (ys ++ [⟨⟨#[]⟩, true, ⟨none, 0, 0⟩, []⟩])) := hid ⟨wt6, wr6, by rw [List.map_append, List.map_append, HW.out.co], fun P hP h2 => dj6 P h2 hP⟩
     clear hrun5 wr5 wt5 dj5 l5 a5 g5 hrun6 wr6 wt6 dj6 l6 a6 g6
     go_upto_region 11 with (refine wpList_append3 rfl _ _ 86 rfl _ _ rfl rfl (.slice s5.p s5.n s5.c) w5 HR5.out ?_)
     go_wp2_with (refine wpList_append3 rfl _ _ 86 rfl _ _ rfl rfl (.slice s6.p s6.n s6.c) w6 HR6.out ?_)
     go_meet
     exact ⟨s5, s6, _, _, rfl, rfl, HW6, hid (by rw [List.length_append]; have := Hxl4.out; show _ + 1 ≤ _; omega)⟩
   clear HW HTt Hxl4
   obtain ⟨s9, s10, xs, ys, rfl, rfl, HW, Hxl5⟩ := hcut
   generalize wc = w2 at *
   go_upto_region 12 with fail
   go_cut [71] from 69 to 71 (fun s wx => ∃ b : Bool, s = .bool b ∧ wx = w2)
   case first =>
    go_wp2_with fail
    all_goals (go_meet)
    all_goals exact ⟨_, rfl, rfl⟩
   rename_i KQ hKQ
   obtain ⟨b, rfl, rfl⟩ := hcut
   refine hKQ _ _ ?_
   clear hKQ
   go_cut [9, 10] from 72 to 82 (fun v9 v10 wx => ∃ (s9 s10 : Sl) (xs ys : List Wk), v9 = .slice s9.p s9.n s9.c ∧ v10 = .slice s10.p s10.n s10.c ∧ Hid (Two w wx s9 s10 xs ys) ∧ Hid (xs.length ≤ 6))
   case first =>
    cases b
    case false =>
     go_wp2_with fail
     go_meet
     exact ⟨s9, s10, xs, ys, rfl, rfl, HW, hid (by have := Hxl5.out; omega)⟩
    case true =>
     have HA0 : Hid (Apart [] w wc) := hid HW.out.a.nw.ap
     have HGvc := hid (HGv.out.kept0 HA0.out)
     obtain ⟨s4, w4, hrun4, n4, l4, a4⟩ := copyB HGvc.out
     have HR4 := hid hrun4
     have HB4 : Hid (Bf wc w4 s4 bs) := hid ⟨n4, by rw [l4, HGv.out.len]⟩
     have HW4 := hid (HW.out.kept0 a4)
     have HG4 : Hid (Gb w w4 ⟨⟨#[]⟩, false, s4, bs⟩) := hid (Gb.bf HB4.out HGv.out.u8 HGv.out.le _ _)
     have HG3 : Hid (Gb w w4 ⟨⟨#[]⟩, false, sl, bs⟩) := hid (((Gb.old HGv.out Hcp.out _ _).kept0 HA0.out).kept0 a4)
     obtain ⟨s5, w5, hrun5, wr5, wt5, dj5, l5, a5, g5⟩ := app_pair HW4.out.a HW4.out.b HW4.out.dj HG4.out (by have h1 := HW4.out.a.len; have := Hxl5.out; omega)
     have HR5 := hid hrun5
     have hl10 : s10.n ≤ 1000000 := by
      have h1 := wt5.len
      have h2 := Hxl5.out
      have h3 : xs.length = ys.length := by simpa using congrArg List.length HW4.out.co
      omega
     obtain ⟨s6, w6, hrun6, wr6, wt6, dj6, l6, a6, g6⟩ := app_pair wt5 wr5 (fun P hP h2 => dj5 P h2 hP) (g5 _ HG3.out) hl10
     have HR6 := hid hrun6
     have HW6 : Hid (Two w w6 s5 s6 (xs ++ [⟨⟨#[]⟩, false, s4, bs⟩]) (ys ++ [⟨⟨#[]⟩, false, sl, bs⟩])) := hid ⟨wt6, wr6, by rw [List.map_append, List.map_append, HW4.out.co]; rfl, fun P hP h2 => dj6 P h2 hP⟩
     clear hrun4 n4 l4 a4 hrun5 wr5 wt5 dj5 l5 a5 g5 hrun6 wr6 wt6 dj6 l6 a6 g6
     go_upto_region 14 with (first
      | refine wpList_app2 rfl _ _ 29 29 rfl _ _ rfl rfl (.slice s4.p s4.n s4.c) w4 HR4.out ?_
      | refine wpList_append3 rfl _ _ 86 rfl _ _ rfl rfl (.slice s5.p s5.n s5.c) w5 HR5.out ?_)
     go_wp2_with (refine wpList_append3 rfl _ _ 86 rfl _ _ rfl rfl (.slice s6.p s6.n s6.c) w6 HR6.out ?_)
     go_meet
     exact ⟨s5, s6, _, _, rfl, rfl, HW6, hid (by rw [List.length_append]; have := Hxl5.out; show _ + 1 ≤ _; omega)⟩
   clear HW Hxl5
   obtain ⟨s9, s10, xs, ys, rfl, rfl, HW, Hxl6⟩ := hcut
   generalize wc = w3 at *
   obtain ⟨s4, w4, hrun4, wr4, a4, l4, n4⟩ := copy_wk HW.out.a (by have h1 := HW.out.a.len; have := Hxl6.out; omega)
   have HR4 := hid hrun4
   have HW4 := hid (HW.out.kept0 a4)
   have HLt9 : Hid (∀ P, s9.v.ownBlock = some P → P < w3.heap.size) := hid (fun P hP => HW.out.a.lt hP)
   have HLt10 : Hid (∀ P, s10.v.ownBlock = some P → P < w3.heap.size) := hid (fun P hP => HW.out.b.lt hP)
   have Hn4 := hid n4
   have Hl4 := hid l4
   have hl4 : s4.n ≤ 1000000 := by have h1 := HW.out.a.len; have := Hxl6.out; omega
   obtain ⟨s5, w5, hrun5, wr5, wt5, dj5, l5, a5, g5⟩ := app_pair wr4 HW4.out.a (fun P hP h2 => by have h1 := n4 P hP; have h3 := HLt9.out P h2; omega) (Gb.gone w _ mkK false) hl4
   obtain ⟨s5', w5', hrun5', -, wt5', dj5', -, -, -⟩ := app_pair wr4 HW4.out.b (fun P hP h2 => by have h1 := n4 P hP; have h3 := HLt10.out P h2; omega) (Gb.gone w _ mkK false) hl4
   obtain ⟨⟨ep, en, ec⟩, rfl⟩ : (s5.p = s5'.p ∧ s5.n = s5'.n ∧ s5.c = s5'.c) ∧ w5 = w5' := by
    have e := hrun5.symm.trans hrun5'
    simpa using e
   have ev : s5'.v = s5.v := by simp only [Sl.v, ep, en, ec]
   rw [ev] at dj5'
   have HR5 := hid hrun5
   have HLt : Hid (Lt w w5 s9 s10 s5 ⟨none, 0, 0⟩ xs ys (xs ++ [⟨mkK, false, ⟨none, 0, 0⟩, []⟩]) []) := hid ⟨⟨wt5, wt5', HW4.out.co, HW4.out.dj⟩, wr5, by rw [List.map_append]; rfl, fun P hP => ⟨dj5 P hP, dj5' P hP⟩, ⟨World.ownsRow_nil _ _ _ _, by simp [Sl.v, Value.ownBlock], a5⟩, rfl, fun q r hq => by simp at hq, fun q q' r r' hq => by simp at hq, fun q r y hq => by simp at hq⟩
   have Hs5n : Hid (s5.n = s9.n + 1) := hid (by rw [l5, Hl4.out])
   clear hrun4 wr4 a4 l4 n4 HW4 HLt9 HLt10 Hn4 Hl4 hrun5 wr5 wt5 dj5 l5 a5 g5 hrun5' wt5' dj5' ep en ec ev hl4
   apply_assumption
   go_upto_region 16 with (first
    | refine wpList_app2 rfl _ _ 86 86 rfl _ _ rfl rfl (.slice s4.p s4.n s4.c) w4 HR4.out ?_
    | refine wpList_append3 rfl _ _ 86 rfl _ _ rfl rfl (.slice s5.p s5.n s5.c) w5 HR5.out ?_)
   go_upto_region 18 with fail
   clear HR4 HR5
   go_loopw [15, 16] (fun v15 v16 wt => ∃ (i : Nat) (s15 : Sl) (zs : List Wk) (rs : List Sl), v15 = .slice s15.p s15.n s15.c ∧ v16 = .int .i64 (i : Int) ∧ i ≤ s9.n ∧ Hid (Lt w wt s9 s10 s5 s15 xs ys zs rs) ∧ Hid (rs.length = i)) (fun _ v16 _ => s9.n - natV v16)
   case atStart => exact ⟨0, ⟨none, 0, 0⟩, _, [], rfl, rfl, Nat.zero_le _, HLt, hid rfl⟩
   case round =>
    clear HLt
    obtain ⟨j, s15, zs, rs, rfl, rfl, hj, HL, Hrl⟩ := hrel
    generalize wr = wt at *
    have hs9 : s9.n ≤ 6 := by have h1 := HL.out.two.a.len; have h2 := Hxl6.out; omega
    by_cases hjt : j < s9.n
    ·have hjti : ((j : Nat) : Int) < ((s9.n : Nat) : Int) := by omega
     have hj5 : j < s5.n := by have := Hs5n.out; omega
     obtain ⟨x, Hx⟩ : ∃ x, Hid (xs[rs.length]? = some x) := ⟨_, hid (List.getElem?_eq_getElem (by have h1 := HL.out.two.a.len; have := Hrl.out; omega))⟩
     have hx2 := Hx.out
     rw [Hrl.out] at hx2
     obtain ⟨P, off, hp, hP, hrg, hgv, hcp⟩ := HL.out.two.a.ws.at_ j x hx2
     have HPp := hid hp
     have HGx := hid hgv
     have HLe0 := lent_ok hgv
     have z4 : wt.cell? ⟨P, off + j * 6 + 4, none⟩ = some (.slice x.sl.p x.sl.n x.sl.c) := hrg 4 _ rfl
     rw [← hgv.len] at HLe0 z4
     have HLe := hid HLe0
     clear hx2 hp hP hrg hgv hcp HLe0
     go_upto_region 21 with (first
      | refine wpL_val rfl (.pointer (some ⟨P, off + j * 6, none⟩)) (ex_idx86 _ _ P off rfl rfl HPp.out rfl hjt) ?_
      | (go_at_call 35
         refine HLe.out.mono ?_
         rintro _ w6 ⟨r6, rfl, b6⟩
         have HB6 := hid b6
         clear b6))
     clear z4
     have LL := HL.out.lend Hx.out (by have h1 := HL.out.two.a.len; have := Hrl.out; have := Hxl6.out; omega) HB6.out
     rw [Hrl.out] at LL
     obtain ⟨s16, w7, g, hrun, htw, hg, hfr, ⟨old, hold⟩, zs', hlt'⟩ := LL
     have HR7 := hid hrun
     have HG7 := hid hg
     have HL' := hid hlt'
     have Hrc : Hid (x.bs.length ≤ r6.c) := hid (by have h1 := HB6.out.nw.cap; have h2 := HB6.out.len; rw [List.length_append] at h2; omega)
     obtain ⟨P2, off2, hp2, hP2, hrg2, hgv2, hcp2⟩ := htw.a.ws.at_ j x (by have := Hx.out; rw [Hrl.out] at this; exact this)
     have HPp2 := hid hp2
     have z4 : w7.cell? ⟨P2, off2 + j * 6 + 4, none⟩ = some (.slice x.sl.p x.sl.n x.sl.c) := hrg2 4 _ rfl
     rw [← hgv2.len] at z4
     clear hrun htw hg hlt' hp2 hP2 hrg2 hgv2 hcp2
     go_upto_region 22 with (refine wpList_append3 rfl _ _ 46 rfl _ _ rfl rfl (.slice s16.p s16.n s16.c) w7 HR7.out ?_)
     clear HR7
     go_wp2_with (first
      | refine wpL_val rfl (.pointer (some ⟨P2, off2 + j * 6, none⟩)) (ex_idx86 _ _ P2 off2 rfl rfl HPp2.out rfl hjt) ?_
      | refine wpL_val rfl (.pointer (some ⟨g, j * 6, none⟩)) (by rw [← Nat.zero_add (j * 6)]; exact ex_idx86 _ _ g 0 rfl rfl HG7.out rfl hj5) ?_
      | refine wpL_val rfl (.slice (r6.preB x.bs.length).p (r6.preB x.bs.length).n (r6.preB x.bs.length).c) (ex_preB r6 x.bs.length _ _ rfl rfl rfl Hrc.out) ?_)
     exact ⟨⟨j + 1, s16, zs', rs ++ [r6], rfl, by go_num, by omega, HL', hid (by rw [List.length_append, Hrl.out]; rfl)⟩, by simp [natV]; omega⟩
    ·have hjti : ¬ ((j : Nat) : Int) < ((s9.n : Nat) : Int) := by omega
     have HjN : Hid (rs.length = s9.n) := hid (by have := Hrl.out; omega)
     go_upto_region 23 with fail
     have HA0 : Hid (Apart [] w wt) := hid HL.out.two.a.nw.ap
     have Hkk := hid HT.out.kk
     have HC := hid (HL.out.cut rfl)
     obtain ⟨q, Hq⟩ : ∃ z : Sl, Hid (z = s5.pre86 s9.n) := ⟨_, hid rfl⟩
     obtain ⟨R, HR⟩ : ∃ R, Hid (R = rsV k (new0 k) ys) := ⟨_, hid rfl⟩
     have HP : Hid (∀ W, Apart [] wt W → Calls Tryz.prog 47 #[.int .i64 (k : Int), .slice q.p q.n q.c] W fun x w' => ∃ pv, x = .returned (.tuple #[.pointer pv, .int .i64 R.1]) ∧ Hid (Pv W w' R pv) ∧ Apart [] W w') := hid (fun W aW => by
      rw [Hq.out, HR.out, ← rsV_core k (new0 k) HC.out.2.1]
      exact (presolve_ok Hkk.out.1 Hkk.out.2 (HC.out.1.kept0 aW) (by have := HC.out.2.2.2; have := Hxl6.out; omega)).mono (fun x w' h => h.any))
     have HTl2 := hid (Nat.lt_of_lt_of_le (lt_of_heap HT.out.blk) HA0.out.size)
     have HTk2 := hid (HT.out.kept0 HA0.out).k0
     refine wp_region_held_drew (S := fun W => Apart [] wt W) (by kernel_rfl) (Apart.refl [] wt).drew fun hHeld => ?_
     generalize wt.drew = wd at *
     refine zt 0 117 ?_
     refine zt 1 118 ?_
     refine zt 2 119 ?_
     refine zu 3 120 rfl (fun W hSW => by have z : W.cell? ⟨T, 0, none⟩ = some (.int .i64 (k : Nat)) := (hSW.cell HTl2.out (by simp)).trans HTk2.out; go_simp <;> rfl) ?_
     simp only [zA,zB,zC,zD,zF]
     refine zt 4 121 ?_
     refine zt 5 122 ?_
     refine zt 6 123 ?_
     simp only [zA,zB,zC,zD,zF]
     refine tk 7 124 (.slice q.p q.n q.c) rfl ?_ ?_
     ·intro W hSW; rw [Hq.out]; exact ex_pre86 s5 s9.n _ _ rfl rfl rfl HC.out.2.2.1
     simp only [zA,zB,zC,zD,zF]
     refine zQ 8 fun KK hKK => ?_
     go_simp
     have hHd0 := hHeld
     refine (HP.out wd hHeld).mono ?_
     rintro _ wa ⟨pv, rfl, hpv, aX⟩
     have hHx := hHeld.trans aX
     try dsimp only
     refine hKK.out _ _ hHx (fun hHeld => ?_)
     clear hKK KK
     try simp only [zA,zB,zC,zD,zF]
     refine zt 9 116 ?_
     refine zt 10 126 ?_
     refine zt 11 127 ?_
     refine zt 12 18 ?_
     refine zt 13 19 ?_
     simp only [zA,zB,zC,zD,zF]
     refine wpAnyH_done (by kernel_rfl) ?_ _
     have HA3 := hid hHeld
     have Hpv : Hid (Pv wt wa R pv) := hid (by
      rcases hpv.out with ⟨h1, V, h2, h3, h4⟩ | h1
      ·exact .inl ⟨h1, V, h2, Nat.le_trans hHd0.size h3, h4⟩
      ·exact .inr h1)
     clear hHeld aX hpv hHd0
     generalize wa = w6 at *
     have HL6 := hid (HL.out.kept0 HA3.out)
     have HA36 := HA3
     have HA06 : Hid (Apart [] w w6) := hid (HA0.out.trans HA3.out)
     have HQ : Hid (Calls Tryz.prog 48 #[.int .i64 (k : Int), .slice s10.p s10.n s10.c] w6 fun x w' => ∃ qv, x = .returned (.tuple #[.pointer qv, .int .i64 R.1]) ∧ Hid (Dpv w6 w' R qv) ∧ Apart [] w6 w') := hid (by
      rw [HR.out]
      exact (dresolve_ok Hkk.out.1 Hkk.out.2 HL6.out.two.b.ws (by have h1 := congrArg List.length HL6.out.two.co; simp at h1; have := Hxl6.out; omega)).mono (fun x w' h => h.any))
     have zk := (HT.out.kept0 HA06.out).k0
     go_upto_region 25 with (
      go_at_call 48
      refine HQ.out.mono ?_
      rintro _ w7 ⟨qv, rfl, hqv, a7⟩
      have Hqv := hid hqv.out
      have HA7 := hid a7
      clear hqv a7)
     clear zk
     have HL7 := hid (HL6.out.kept0 HA7.out)
     obtain ⟨z, Hz, Hzk⟩ : ∃ z, Hid (zs[s9.n]? = some z) ∧ Hid (z.key = mkK) := by
      have h1 : (zs.map Wk.core)[s9.n]? = some (mkK, false, []) := by
       rw [HL.out.co, HL.out.two.a.len, List.getElem?_append_right (by simp)]
       simp
      rw [List.getElem?_map] at h1
      cases hz : zs[s9.n]? with
      | none => rw [hz] at h1; simp at h1
      | some z =>
       rw [hz] at h1
       simp [Wk.core] at h1
       exact ⟨z, hid rfl, hid h1.1⟩
     obtain ⟨P, off, hp, hP, hrg, -, -⟩ := HL7.out.wr.ws.at_ s9.n z Hz.out
     have HPp := hid hp
     have Z2 : Hid (w7.cell? ⟨P, off + s9.n * 6 + 2, none⟩ = some (.string ⟨#[109, 97, 114, 107]⟩)) := hid (by
      have h1 := hrg 2 _ rfl
      rw [Hzk.out] at h1
      exact h1)
     clear hp hP hrg
     go_cut [155] from 137 to 155 (fun s wx => s = .bool false ∧ wx = w7)
     case first =>
      have z2 := Z2.out
      have hlt5 : s9.n < s5.n := by have := Hs5n.out; omega
      rcases Hpv.out with ⟨e1, V, rfl, -⟩ | ⟨e1, rfl⟩
      ·rcases Hqv.out with ⟨-, O, s', ts', rfl, -⟩ | ⟨e2, -⟩
       ·clear e1
        go_wp2_with (refine wpL_valG rfl (.pointer (some ⟨P, off + s9.n * 6, none⟩)) (ex_idx86 _ _ P off rfl rfl HPp.out rfl hlt5) ?_)
        go_meet
        exact ⟨rfl, rfl⟩
       ·exact absurd e1 e2
      ·rcases Hqv.out with ⟨e2, -⟩ | ⟨e2, rfl⟩
       ·exact absurd e2 e1
       ·clear e1 e2
        go_wp2_with (refine wpL_valG rfl (.pointer (some ⟨P, off + s9.n * 6, none⟩)) (ex_idx86 _ _ P off rfl rfl HPp.out rfl hlt5) ?_)
        go_meet
        exact ⟨rfl, rfl⟩
     obtain ⟨rfl, rfl⟩ := hcut
     generalize wc = w7 at *
     apply_assumption
     go_upto_region 28 with fail
     have HLE : Hid (Le w w7 s9 s10 s5 s15 ys zs rs 0) := hid (HL7.out.le HjN.out)
     have Hpv7 := hid (Hpv.out.kept HA7.out (by simp))
     have HkR : Hid (R.2.kd = k) := hid (by rw [HR.out]; exact rsV_kd k ys _ (kd_new0 k Hkk.out.1 Hkk.out.2))
     clear HL7 HL6 HA3 HA7 HL HC HR HP HQ HTl2 HTk2 Hz Hzk HPp Z2 Hpv Hq HA06
     go_loopw [22] (fun v22 wt2 => ∃ q : Nat, v22 = .int .i64 (q : Int) ∧ q ≤ s9.n ∧ Hid (Le w wt2 s9 s10 s5 s15 ys zs rs q) ∧ Hid (Pv wt wt2 R pv) ∧ Hid (Dpv w6 wt2 R qv)) (fun v22 _ => s9.n - natV v22)
     case atStart => exact ⟨0, rfl, Nat.zero_le _, HLE, Hpv7, Hqv⟩
     case round =>
      clear HLE Hpv7 Hqv
      obtain ⟨q, rfl, hq, HLe, HPv, HDpv⟩ := hrel
      generalize wr = wq at *
      by_cases hqt : q < s9.n
      ·have hqti : ((q : Nat) : Int) < ((s9.n : Nat) : Int) := by omega
       obtain ⟨y, rr, t, P, o, P2, o2, P3, o3, X, hrr, hX, hrn, hgv, hbq, hbf⟩ := HLe.out.rnd hqt
       have HX := hid hX
       have HRr := hid hrr
       have HRn := hid hrn
       have HGv := hid hgv
       have HBq := hid hbq
       have HBf := hid hbf
       clear hX hrr hrn hgv hbq hbf
       have HAl : Hid (∀ W, Apart [] wq W → Calls Tryz.prog 18 #[.slice t.p t.n t.c, .slice y.sl.p y.sl.n y.sl.c] W fun x w' => x = .returned (.bool true) ∧ w' = W) := hid (fun W aW => alikeq (HBq.out.kept0 aW) (HGv.out.bq.kept0 aW))
       have HBk : Hid (∀ W, Apart [] wq W → Calls Tryz.prog 41 #[.slice rr.p rr.n rr.c, .slice y.sl.p y.sl.n y.sl.c] W fun x w' => x = .returned (.bool true) ∧ Apart X W w') := hid (fun W aW => by rw [HX.out]; exact back_ok (HBf.out.kept' aW) (HGv.out.kept0 aW))
       go_upto_region 30 with fail
       have hAd : Apart [] wq wq.drew := (Apart.refl [] wq).drew
       have HAd := hid hAd
       refine wp_region_held_drew (S := fun W => Apart X wq W) (by kernel_rfl) (hAd.mono (by simp)) (fun hHeld => ?_)
       generalize wq.drew = wd at *
       clear hAd
       refine zt 0 162 ?_
       refine zt 1 163 ?_
       simp only [zA,zB,zC,zD,zF]
       refine tk 2 164 (.pointer (some ⟨P2, o2 + q * 6, none⟩)) rfl ?_ ?_
       ·intro W hSW; exact ex_idx86 _ _ P2 o2 rfl rfl HRn.out.pw rfl HRn.out.lw
       refine zt 3 165 ?_
       simp only [zA,zB,zC,zD,zF]
       refine tk 4 166 (.slice t.p t.n t.c) rfl ?_ ?_
       ·intro W hSW; have z := HRn.out.w4 W hSW; go_simp
       refine zt 5 167 ?_
       refine zt 6 168 ?_
       simp only [zA,zB,zC,zD,zF]
       refine tk 7 169 (.pointer (some ⟨P, o + q * 6, none⟩)) rfl ?_ ?_
       ·intro W hSW; exact ex_idx86 _ _ P o rfl rfl HRn.out.pm rfl HRn.out.lm
       refine zt 8 170 ?_
       simp only [zA,zB,zC,zD,zF]
       refine tk 9 171 (.slice y.sl.p y.sl.n y.sl.c) rfl ?_ ?_
       ·intro W hSW; have z := HRn.out.m4 W hSW; go_simp
       simp only [zA,zB,zC,zD,zF]
       refine zQ 10 fun KK hKK => ?_
       go_simp
       refine (HAl.out wd HAd.out).mono ?_
       rintro _ wa ⟨rfl, hwa⟩
       rw [hwa]
       clear hwa
       try dsimp only
       refine hKK.out _ _ hHeld (fun hHeld => ?_)
       clear hKK KK
       try simp only [zA,zB,zC,zD,zF]
       refine zt 11 173 ?_
       refine zt 12 174 ?_
       refine zt 13 175 ?_
       refine zt 14 176 ?_
       simp only [zA,zB,zC,zD,zF]
       refine tk 15 177 (.pointer (some ⟨P2, o2 + q * 6, none⟩)) rfl ?_ ?_
       ·intro W hSW; exact ex_idx86 _ _ P2 o2 rfl rfl HRn.out.pw rfl HRn.out.lw
       refine zt 16 178 ?_
       simp only [zA,zB,zC,zD,zF]
       refine tk 17 179 (.bool y.dead) rfl ?_ ?_
       ·intro W hSW; have z := HRn.out.w3 W hSW; go_simp
       refine zt 18 180 ?_
       refine zt 19 181 ?_
       simp only [zA,zB,zC,zD,zF]
       refine tk 20 182 (.pointer (some ⟨P, o + q * 6, none⟩)) rfl ?_ ?_
       ·intro W hSW; exact ex_idx86 _ _ P o rfl rfl HRn.out.pm rfl HRn.out.lm
       refine zt 21 183 ?_
       simp only [zA,zB,zC,zD,zF]
       refine tk 22 184 (.bool y.dead) rfl ?_ ?_
       ·intro W hSW; have z := HRn.out.m3 W hSW; go_simp
       refine zt 23 185 ?_
       refine zt 24 186 ?_
       refine zt 25 187 ?_
       refine zt 26 188 ?_
       refine zt 27 189 ?_
       simp only [zA,zB,zC,zD,zF]
       refine tk 28 190 (.pointer (some ⟨P2, o2 + q * 6, none⟩)) rfl ?_ ?_
       ·intro W hSW; exact ex_idx86 _ _ P2 o2 rfl rfl HRn.out.pw rfl HRn.out.lw
       refine zt 29 191 ?_
       simp only [zA,zB,zC,zD,zF]
       refine tk 30 192 (.string y.key) rfl ?_ ?_
       ·intro W hSW; have z := HRn.out.w2 W hSW; go_simp
       refine zt 31 193 ?_
       refine zt 32 194 ?_
       simp only [zA,zB,zC,zD,zF]
       refine tk 33 195 (.pointer (some ⟨P, o + q * 6, none⟩)) rfl ?_ ?_
       ·intro W hSW; exact ex_idx86 _ _ P o rfl rfl HRn.out.pm rfl HRn.out.lm
       refine zt 34 196 ?_
       simp only [zA,zB,zC,zD,zF]
       refine tk 35 197 (.string y.key) rfl ?_ ?_
       ·intro W hSW; have z := HRn.out.m2 W hSW; go_simp
       refine zt 36 198 ?_
       refine zt 37 199 ?_
       refine zt 38 200 ?_
       refine zt 39 201 ?_
       refine zt 40 202 ?_
       simp only [zA,zB,zC,zD,zF]
       refine tk 41 203 (.pointer (some ⟨P3, o3 + q, none⟩)) rfl ?_ ?_
       ·intro W hSW; exact ex_idx46q _ _ P3 o3 rfl rfl HRn.out.pr rfl HRn.out.lr
       simp only [zA,zB,zC,zD,zF]
       refine tk 42 204 (.slice rr.p rr.n rr.c) rfl ?_ ?_
       ·intro W hSW; have z := HRn.out.r0 W hSW; go_simp
       refine zt 43 205 ?_
       refine zt 44 206 ?_
       simp only [zA,zB,zC,zD,zF]
       refine tk 45 207 (.pointer (some ⟨P, o + q * 6, none⟩)) rfl ?_ ?_
       ·intro W hSW; exact ex_idx86 _ _ P o rfl rfl HRn.out.pm rfl HRn.out.lm
       refine zt 46 208 ?_
       simp only [zA,zB,zC,zD,zF]
       refine tk 47 209 (.slice y.sl.p y.sl.n y.sl.c) rfl ?_ ?_
       ·intro W hSW; have z := HRn.out.m4 W hSW; go_simp
       simp only [zA,zB,zC,zD,zF]
       clear hHeld
       refine zQ 48 fun KK hKK => ?_
       go_simp
       refine (HBk.out wd HAd.out).mono ?_
       rintro _ wa ⟨rfl, aX⟩
       have hHx : Apart X wq wa := (HAd.out.mono (by simp)).trans aX
       try dsimp only
       refine hKK.out _ _ hHx (fun hHeld => ?_)
       clear hKK KK
       try simp only [zA,zB,zC,zD,zF]
       refine zt 49 211 ?_
       refine zt 50 212 ?_
       simp only [zA,zB,zC,zD,zF]
       refine wpAnyH_done (by kernel_rfl) ?_ _
       have HAx := hid hHeld
       clear hHeld hHx aX
       have HLe' : Hid (Le w wa s9 s10 s5 s15 ys zs rs (q + 1)) := hid (HLe.out.next HRr.out HBf.out (by rw [← HX.out]; exact HAx.out))
       have HTy : Hid (∀ ty : Nat, ty ≠ 5 → ∀ q ∈ X, ∀ cur m, wq.heap[q]? ≠ some (.cells cur ty m)) := hid (by rw [HX.out]; exact HBf.out.typ)
       have HPv' := hid (HPv.out.kept HAx.out HTy.out)
       have HDpv' := hid (HDpv.out.kept HAx.out HTy.out)
       go_wp2_with fail
       exact ⟨⟨q + 1, by go_num, by omega, HLe', HPv', HDpv'⟩, by simp [natV]; omega⟩
      ·have hqti : ¬ ((q : Nat) : Int) < ((s9.n : Nat) : Int) := by omega
       go_upto_region 32 with fail
       have HA8 : Hid (Apart [] w wq) := hid HLe.out.b.nw.ap
       have HT8 := hid (HT.out.kept0 HA8.out)
       rcases HPv.out with ⟨e1, V, rfl, hV, hv8, iv8⟩ | ⟨e1, rfl⟩
       ·rcases HDpv.out with ⟨-, O, s', ts', rfl, hO, hd8, rl8⟩ | ⟨e2, -⟩
        ·have HVo5 := hid hv8
         have HDk5 := hid hd8
         have HIv := hid iv8
         have HRl := hid rl8
         have HVn : Hid (w.heap.size ≤ V) := hid (Nat.le_trans HA0.out.size hV)
         have HOn : Hid (w.heap.size ≤ O) := hid (Nat.le_trans (HA0.out.trans HA36.out).size hO)
         clear e1 hV hv8 iv8 hO hd8 rl8 HPv HDpv HLe
         have HTb5 : Hid (wq.heap[T]? = some (.cells (tbC k p r sH sL).toArray 49 (0, 0))) := hid (keep0 HA8.out HT.out.blk)
         have z1 : wq.cell? ⟨T, 1 + i0, none⟩ = some (.pointer (some ⟨p i0, 0, none⟩)) := dcell HTb5.out (tb_p _ _ _ _ _ Hi.out)
         have f1 := frozen_of_row _ _ (1 + i0) _ _ HTb5.out
         have hi4 : ¬ (4 : Int) ≤ (i0 : Int) := by have := Hi.out; omega
         go_upto_region 34 with fail
         clear z1 f1
         have HTb6 : Hid ((wq.setCell ⟨T, 1 + i0, none⟩ (.pointer (some ⟨V, 0, none⟩))).heap[T]? = some (.cells (tbC k (upd p i0 V) r sH sL).toArray 49 (0, 0))) := hid (by
          rw [heap_setCell_same wq T (1 + i0) _ 49 _ HTb5.out, List.setIfInBounds_toArray]
          have := tbC_p k p r sH sL Hi.out V
          unfold ptV at this
          rw [this])
         have HA6 : Hid (Apart [T] wq (wq.setCell ⟨T, 1 + i0, none⟩ (.pointer (some ⟨V, 0, none⟩)))) := hid ((Apart.refl [T] wq).setCell (.inl (by simp)) _)
         generalize wq.setCell ⟨T, 1 + i0, none⟩ (.pointer (some ⟨V, 0, none⟩)) = w9 at *
         have z5 : w9.cell? ⟨T, 5 + i0, none⟩ = some (.pointer (some ⟨r i0, 0, none⟩)) := dcell HTb6.out (tb_r _ _ _ _ _ Hi.out)
         have f5 := frozen_of_row _ _ (5 + i0) _ _ HTb6.out
         have HTb7 : Hid ((w9.setCell ⟨T, 5 + i0, none⟩ (.pointer (some ⟨O, 0, none⟩))).heap[T]? = some (.cells (tbC k (upd p i0 V) (upd r i0 O) sH sL).toArray 49 (0, 0))) := hid (by
          rw [heap_setCell_same w9 T (5 + i0) _ 49 _ HTb6.out, List.setIfInBounds_toArray]
          have := tbC_r k (upd p i0 V) r sH sL Hi.out O
          unfold ptV at this
          rw [this])
         have HA9 : Hid (Apart [T] wq (w9.setCell ⟨T, 5 + i0, none⟩ (.pointer (some ⟨O, 0, none⟩)))) := hid (HA6.out.setCell (.inl (by simp)) _)
         have HXT : Hid (∀ ty : Nat, ty ≠ 49 → ∀ q ∈ [T], ∀ cur m, wq.heap[q]? ≠ some (.cells cur ty m)) := hid (fun ty hty q hq cur m e => by
          rw [List.mem_singleton.1 hq, HTb5.out] at e
          simp only [Option.some.injEq, Obj.cells.injEq] at e
          exact hty e.2.1.symm)
         have HFin : Hid (StP wB T k H L (.returned (.bool true)) (w9.setCell ⟨T, 5 + i0, none⟩ (.pointer (some ⟨O, 0, none⟩)))) := hid (by
          have hv7 := HVo5.out.keptX HA9.out (fun hm => by
           obtain ⟨b0, hb0⟩ := HVo5.out.bd
           exact HXT.out 71 (by decide) V hm _ _ hb0) (HXT.out _ (by decide))
          have hd7 := HDk5.out.other HA9.out (fun hm => HXT.out 63 (by decide) O hm _ _ HDk5.out.dv.blk) (HXT.out _ (by decide))
          have ha : Apart [p i0, r i0, T] w (w9.setCell ⟨T, 5 + i0, none⟩ (.pointer (some ⟨O, 0, none⟩))) := (HA8.out.mono (by simp)).trans (HA9.out.mono (by simp))
          refine ⟨rfl, _, _, _, _, H, L, sH, sL, h, HT.out.next Hi.out (p' := V) (r' := O) ha HTb7.out (.inr HVn.out) (.inr HOn.out) hv7 hd7 HIv.out HRl.out HkR.out, by omega, by omega, fun x hx => .inl hx, fun x hx => .inl hx⟩)
         go_wp2_with fail
         go_ret
         exact HFin.out
        ·exact absurd e1 e2
       ·rcases HDpv.out with ⟨e2, -⟩ | ⟨e2, rfl⟩
        ·exact absurd e2 e1
        ·clear e1 e2 HPv HDpv HLe
         go_wp2_with fail
         go_ret
         exact ⟨rfl, p, r, v, ts, H, L, sH, sL, h, HT8.out, by omega, by omega, fun x hx => .inl hx, fun x hx => .inl hx⟩
end Go.Proofs.YtdbeeikjngnnnaaGreat.ty
