import Derived.Test.YtddffdcjhleejaaGreatG1
import Derived.Test.YtddffdcjhleejaaGreatG15
namespace Go.Proofs.YtddffdcjhleejaaGreat.ds
open Go.ChangeShapes Go.WideShapes Go.ChangeAt Go.RowKit Go.Sort
set_option linter.unusedVariables false
set_option linter.unusedSimpArgs false
theorem infoI : (Tryz.prog.info? 3).map (fun i => (i.zero, i.size, i.bytes)) = some (some (.int .i64 0), 1, 8) := by kernel_rfl
theorem build2 (W : World) (a b : Int) : Sem.run Tryz.prog (Instr.buildSlice 141 2 #[(0, .int .i64 a), (1, .int .i64 b)]) W = .ok (.slice (some ⟨W.heap.size, 0, none⟩) 2 2) (W.alloc (.cells #[.int .i64 a, .int .i64 b] 3)) := by
  obtain ⟨ie, hi, hz0, hz1, hz2⟩ := info_parts infoI
  refine run_buildSlice W 141 3 2 _ _ ie _ Tryz.underlying141 hi hz0 (by rw [hz1]; decide) (by rw [hz1]; decide) ?_
  rw [hz1]
  first | rfl | (simp [Instr.fill, Array.range, Value.cells, Array.ofFn]; done) | kernel_rfl
theorem build1 (W : World) (a : Int) : Sem.run Tryz.prog (Instr.buildSlice 141 1 #[(0, .int .i64 a)]) W = .ok (.slice (some ⟨W.heap.size, 0, none⟩) 1 1) (W.alloc (.cells #[.int .i64 a] 3)) := by
  obtain ⟨ie, hi, hz0, hz1, hz2⟩ := info_parts infoI
  refine run_buildSlice W 141 3 1 _ _ ie _ Tryz.underlying141 hi hz0 (by rw [hz1]; decide) (by rw [hz1]; decide) ?_
  rw [hz1]
  first | rfl | (simp [Instr.fill, Array.range, Value.cells, Array.ofFn]; done) | kernel_rfl
theorem aints2 {wB w : World} {s : Sl} {us : List Nat} (h : Bf wB w s us) (a b : Nat) (ha : a < 9223372036854775808) (hb : b < 9223372036854775808) (hl : us.length + (enc a ++ enc b).length ≤ 1099511627776) :
    Calls Tryz.prog 60 #[.slice s.p s.n s.c, .slice (some ⟨w.heap.size, 0, none⟩) 2 2] (w.alloc (.cells #[.int .i64 (a : Int), .int .i64 (b : Int)] 3)) fun e w' => AP wB w s (us ++ (enc a ++ enc b)) e w' := by
  have := aints_new h [a, b] (by simp) (by simp; omega) (by simpa [encL] using hl)
  simpa [encL] using this
theorem aints1 {wB w : World} {s : Sl} {us : List Nat} (h : Bf wB w s us) (a : Nat) (ha : a < 9223372036854775808) (hl : us.length + (enc a).length ≤ 1099511627776) :
    Calls Tryz.prog 60 #[.slice s.p s.n s.c, .slice (some ⟨w.heap.size, 0, none⟩) 1 1] (w.alloc (.cells #[.int .i64 (a : Int)] 3)) fun e w' => AP wB w s (us ++ enc a) e w' := by
  have := aints_new h [a] (by simp) (by simpa using ha) (by simpa [encL] using hl)
  simpa [encL] using this
def fl (l : List S) : List Nat := l.flatMap encS
theorem fl_take {l : List S} {i : Nat} (hi : i < l.length) : fl (l.take (i + 1)) = fl (l.take i) ++ encS (g l i) := by
  unfold fl
  rw [take_g hi, List.flatMap_append]; simp
theorem fl_le (l : List S) (i : Nat) : (fl (l.take i)).length ≤ (fl l).length := by
  have : fl l = fl (l.take i) ++ fl (l.drop i) := by unfold fl; rw [← List.flatMap_append, List.take_append_drop]
  rw [this]; simp
set_option maxHeartbeats 8000000 in
set_option maxRecDepth 100000 in
theorem aset_ok {wB w : World} {s : Sl} {us : List Nat} (h : Bf wB w s us) {p : Option Addr} {c : Nat} (xs : List S) (hx : L wB p xs.length xs) (hlen : xs.length ≤ 1000) (hpos : ∀ x ∈ xs, (0 ≤ x.n ∧ x.n < 9223372036854775808) ∧ (0 ≤ x.b ∧ x.b < 9223372036854775808)) (hl : us.length + (encSet xs).length ≤ 1099511627776) :
    Calls Tryz.prog 36 #[.slice s.p s.n s.c, .slice p xs.length c] w fun e w' => AP wB w s (us ++ encSet xs) e w' := by
  have HB := hid h
  have HX := hid hx
  have HP := hid hpos
  obtain ⟨K, HK⟩ : ∃ K, Hid (K = xs.length) := ⟨_, rfl⟩
  have HL : Hid (us.length + ((enc K).length + (fl xs).length) ≤ 1099511627776) := by unfold Hid; rw [HK.out]; unfold encSet at hl; rw [List.length_append] at hl; exact hl
  have HC : Hid (Calls Tryz.prog 60 #[.slice s.p s.n s.c, .slice (some ⟨w.heap.size, 0, none⟩) 1 1] (w.alloc (.cells #[.int .i64 (K : Int)] 3)) fun e w' => AP wB w s (us ++ enc K) e w') := aints1 h K (by have := HK.out; omega) (by have := HL.out; omega)
  rw [← HK.out] at hlen ⊢
  clear h hl hx hpos
  go_enter Tryz.func36, Tryz.ntmps36
  go_wp2_with fail
  refine HC.out.mono ?_
  rintro e w2 ⟨s2, rfl, hb2, hg2⟩
  have HB2 := hid hb2
  have HG2 := hid hg2
  clear hb2 hg2 HC
  try dsimp only
  go_wp2_with fail
  go_loopw [0, 6, 14] (fun a x b wt => ∃ (i : Nat) (s1 : Sl), a = .slice s1.p s1.n s1.c ∧ b = .int .i64 (i : Nat) ∧ i ≤ K ∧ Bf wB wt s1 ((us ++ enc K) ++ fl (xs.take i)) ∧ Gw w wt s s1) (fun _ _ b _ => K - (intOf b).toNat)
  case atStart => exact ⟨0, s2, rfl, rfl, by omega, by simpa [fl] using HB2.out, HG2.out⟩
  case round =>
    obtain ⟨i, s1, rfl, rfl, hi, hb, hg⟩ := hrel
    have HB1 := hid hb
    have HG1 := hid hg
    clear hb hg
    by_cases hlt : i < K
    · have h1 : ((i : Nat) : Int) < (K : Int) := by omega
      have hil : i < xs.length := by have := HK.out; omega
      have HXr := hid (HX.out.kept0 HB1.out.nw.ap)
      obtain ⟨P, o, hP, hPl, hc⟩ := HXr.out.sp (by omega)
      subst hP
      obtain ⟨c0, c1, c2⟩ := hc i hil
      clear hc
      obtain ⟨x, Hx⟩ : ∃ x, Hid (x = g xs i) := ⟨_, rfl⟩
      rw [← Hx.out] at c0 c1 c2
      obtain ⟨⟨pn, pn2⟩, pb, pb2⟩ := HP.out x (by rw [Hx.out]; exact g_mem hil)
      have pt : x.t < 2 ^ 64 := HX.out.fit x (by rw [Hx.out]; exact g_mem hil)
      obtain ⟨xn, hxn⟩ := Int.eq_ofNat_of_zero_le pn
      obtain ⟨xb, hxb⟩ := Int.eq_ofNat_of_zero_le pb
      have HES : Hid (encS x = (enc xn ++ enc xb) ++ enc x.t) := by unfold Hid encS; rw [hxn, hxb]; simp
      obtain ⟨xt, Hxt⟩ : ∃ xt, Hid (xt = x.t) := ⟨_, rfl⟩
      rw [hxn] at c0
      rw [hxb] at c1
      rw [← Hxt.out] at c2
      have hl1 : xn < 9223372036854775808 := by omega
      have hl2 : xb < 9223372036854775808 := by omega
      have hl3 : xt < 18446744073709551616 := by rw [Hxt.out]; exact pt
      have HLL : Hid (((us ++ enc K) ++ fl (xs.take i)).length + ((enc xn ++ enc xb).length + (enc xt).length) ≤ 1099511627776) := by
        unfold Hid
        have a := fl_le xs (i + 1)
        rw [fl_take hil, ← Hx.out, HES.out, ← Hxt.out] at a
        simp only [List.length_append] at a ⊢
        have := HL.out
        omega
      clear hxn hxb pn pn2 pb pb2 pt
      obtain ⟨w3, hw3⟩ : ∃ w3, w3 = wr.alloc (.cells #[.int .i64 (xn : Int), .int .i64 (xb : Int), .int .u64 (xt : Int)] 48) := ⟨_, rfl⟩
      have HX3 : Hid (w3.heap[wr.heap.size]? = some (.cells #[.int .i64 (xn : Int), .int .i64 (xb : Int), .int .u64 (xt : Int)] 48 (0, 0))) := by unfold Hid; rw [hw3]; exact heap_alloc_new wr _
      have HA3 : Hid (Apart [] wr w3) := by unfold Hid; rw [hw3]; exact (Apart.refl [] wr).alloc _
      have HB3 := hid (HB1.out.kept HA3.out)
      have HG3 : Hid (Gw w w3 s s1) := HG1.out.trans (Gw.of HA3.out)
      obtain ⟨X, HXX⟩ : ∃ X, Hid (X = wr.heap.size) := ⟨_, rfl⟩
      rw [← HXX.out] at HX3
      go_upto_region 5 with fail
      rw [← hw3, ← HXX.out]
      clear hw3 c0 c1 c2
      · skip
        have HBd := hid (HB3.out.kept (Apart.refl [] w3).drew)
        have HGd : Hid (Gw w w3.drew s s1) := HG3.out.trans (Gw.of (Apart.refl [] w3).drew)
        have HXd : Hid (w3.drew.heap[X]? = some (.cells #[.int .i64 (xn : Int), .int .i64 (xb : Int), .int .u64 (xt : Int)] 48 (0, 0))) := HX3.out
        refine wp_region_held_drew (S := fun W => W.heap[X]? = some (.cells #[.int .i64 (xn : Int), .int .i64 (xb : Int), .int .u64 (xt : Int)] 48 (0, 0))) (by kernel_rfl) HXd.out (fun hHeld => ?_)
        generalize w3.drew = wd at *
        have HXw := hid hHeld
        refine tkn 0 18 (.slice s1.p s1.n s1.c) rfl ?_ ?_
        · intro W hSW; go_simp
        refine tkn 1 19 (.pointer (some ⟨X, 0, none⟩)) rfl ?_ ?_
        · intro W hSW; go_simp
        refine tkn 2 20 (.int .i64 (xn : Int)) rfl ?_ ?_
        · intro W hSW; obtain ⟨x0, x1, x2⟩ := row3v hSW; go_simp
        refine tkn 3 21 (.pointer (some ⟨X, 1, none⟩)) rfl ?_ ?_
        · intro W hSW; go_simp
        refine tkn 4 22 (.int .i64 (xb : Int)) rfl ?_ ?_
        · intro W hSW; obtain ⟨x0, x1, x2⟩ := row3v hSW; go_simp
        refine tkn 7 25 (.pointer (some ⟨X, 2, none⟩)) rfl ?_ ?_
        · intro W hSW; go_simp
        refine tkn 8 26 (.int .u64 (xt : Int)) rfl ?_ ?_
        · intro W hSW; obtain ⟨x0, x1, x2⟩ := row3v hSW; go_simp
        refine wpAnyH_ready (rs := [5]) (by kernel_rfl) (by simp) ?_
        refine AllReadyH.cons rfl (fun KK hKK => ?_) AllReadyH.nil
        have hbs := fun W => build2 W (xn : Int) (xb : Int)
        go_simp
        have HBa : Hid (wd.alloc (.cells #[.int .i64 (xn : Int), .int .i64 (xb : Int)] 3) = wd.alloc (.cells #[.int .i64 (xn : Int), .int .i64 (xb : Int)] 3)) := rfl
        have hX5 : (wd.alloc (.cells #[.int .i64 (xn : Int), .int .i64 (xb : Int)] 3)).heap[X]? = some (.cells #[.int .i64 (xn : Int), .int .i64 (xb : Int), .int .u64 (xt : Int)] 48 (0, 0)) := (((Apart.refl [] wd).alloc _).block X (lt_of_heap hHeld) (by simp)).trans hHeld
        refine hKK.out _ _ hX5 (fun hHeld => ?_)
        clear hKK KK
        refine wpAnyH_ready (rs := [6]) (by kernel_rfl) (by simp) ?_
        refine AllReadyH.cons rfl (fun KK hKK => ?_) AllReadyH.nil
        go_simp
        refine (aints2 HBd.out xn xb hl1 hl2 (by have := HLL.out; omega)).mono ?_
        rintro e w6 ⟨s6, rfl, hb6, hg6⟩
        have hX6 := hg6.block HBd.out HXw.out (by decide)
        have HB6 := hid hb6
        have HG6 : Hid (Gw w w6 s s6) := HGd.out.trans hg6
        clear hb6 hg6
        try dsimp only
        refine hKK.out _ _ hX6 (fun hHeld => ?_)
        clear hKK KK
        refine wpAnyH_ready (rs := [9]) (by kernel_rfl) (by simp) ?_
        refine AllReadyH.cons rfl (fun KK hKK => ?_) AllReadyH.nil
        go_simp
        refine (anumber_ok HB6.out xt hl3 (by have := HLL.out; simp only [List.length_append] at this ⊢; omega)).mono ?_
        rintro e w7 ⟨s7, rfl, hb7, hg7⟩
        have hX7 := hg7.block HB6.out hHeld (by decide)
        have HB7 : Hid (Bf wB w7 s7 ((us ++ enc K) ++ fl (xs.take (i + 1)))) := by
          unfold Hid
          rw [fl_take hil, ← Hx.out, HES.out, ← Hxt.out]
          simpa using hb7
        have HG7 : Hid (Gw w w7 s s7) := HG6.out.trans hg7
        clear hb7 hg7
        try dsimp only
        refine hKK.out _ _ hX7 (fun hHeld => ?_)
        clear hKK KK
        refine tkn 10 0 (.slice s7.p s7.n s7.c) rfl ?_ ?_
        · intro W hSW; go_simp
        refine wpAnyH_done (by kernel_rfl) ?_ _
        go_wp2_with fail
        go_roundw
        case rel => exact ⟨i + 1, s7, rfl, by go_num, by omega, HB7.out, HG7.out⟩
        case measure => simp [intOf]; omega
    · have h1 : ¬ ((i : Nat) : Int) < (K : Int) := by omega
      have HF : Hid (Bf wB wr s1 (us ++ encSet xs)) := by
        unfold Hid encSet
        have := HB1.out
        rw [List.take_of_length_le (by have := HK.out; omega), HK.out, List.append_assoc] at this
        exact this
      go_wp2_with fail
      go_ret
      exact ⟨s1, rfl, HF.out, HG1.out⟩
end Go.Proofs.YtddffdcjhleejaaGreat.ds
namespace Go.Proofs.YtddffdcjhleejaaGreat.ds
open Go.ChangeShapes Go.WideShapes Go.ChangeAt Go.RowKit Go.Sort
set_option linter.unusedVariables false
set_option linter.unusedSimpArgs false
theorem aints_1 {wB w : World} {s : Sl} {us : List Nat} (h : Bf wB w s us) (hl : us.length + (enc 1).length ≤ 1099511627776) :
    Calls Tryz.prog 60 #[.slice s.p s.n s.c, .slice (some ⟨w.heap.size, 0, none⟩) 1 1] (w.alloc (.cells #[.int .i64 1] 3)) fun e w' => AP wB w s (us ++ enc 1) e w' := aints1 h 1 (by omega) hl
theorem aints_0 {wB w : World} {s : Sl} {us : List Nat} (h : Bf wB w s us) (hl : us.length + (enc 0).length ≤ 1099511627776) :
    Calls Tryz.prog 60 #[.slice s.p s.n s.c, .slice (some ⟨w.heap.size, 0, none⟩) 1 1] (w.alloc (.cells #[.int .i64 0] 3)) fun e w' => AP wB w s (us ++ enc 0) e w' := aints1 h 0 (by omega) hl
set_option maxHeartbeats 8000000 in
set_option maxRecDepth 100000 in
theorem awrite_ok {wB w : World} {s : Sl} {us : List Nat} (h : Bf wB w s us) (e : E) (r : Wr) (hr : Reads wB e r) (hgd : GoodW r) (hl : us.length + (encW r).length ≤ 1099511627776) :
    Calls Tryz.prog 38 #[.slice s.p s.n s.c, aggE e] w fun e w' => AP wB w s (us ++ encW r) e w' := by
  obtain ⟨en, ec, k, d, v, x⟩ := e
  obtain ⟨rn, rc, rk, rd, vs, xs⟩ := r
  obtain ⟨e1, e2, e3, e4, hv, hvn, hvl, hvb, hx, hxl, hvo, hxo⟩ := hr
  simp only at e1 e2 e3 e4 hv hvn hvl hvb hx hxl hvo hxo
  subst e1 e2 e3 e4
  obtain ⟨⟨⟨d1, d2⟩, d3, d4⟩, hkey, hval, hdead, hctx, hown⟩ := hgd
  simp only at d1 d2 d3 d4 hkey hval hdead hctx hown
  obtain ⟨nn, rfl⟩ := Int.eq_ofNat_of_zero_le d1
  obtain ⟨cc, rfl⟩ := Int.eq_ofNat_of_zero_le (show (0 : Int) ≤ ec by omega)
  have hn64 : nn < 9223372036854775808 := by omega
  have hc64 : cc < 9223372036854775808 := by omega
  have HB := hid h
  have HV := hid hv
  have HX := hid hx
  have HCTX := hid hctx
  have HVO := hid hvo
  have hxn : xs.length = x.n := hx.len
  have HE : Hid (encW ⟨(nn : Int), (cc : Int), k, d, vs, xs⟩ = (enc nn ++ enc cc) ++ (encT (bsk k) ++ (encV d vs ++ encSet xs))) := by unfold Hid encW; simp
  rw [HE.out] at hl ⊢
  have HL := hid hl
  have HVB := hid hvb
  have HVN := hid hvn
  have HXN := hid hxn
  clear h hl hv hx hown hctx hvo d1 d2 d3 d4 hxo HE hvb hvn hxn
  unfold aggE
  simp only
  obtain ⟨w1, hw1⟩ : ∃ w1, w1 = w.alloc (.cells #[.int .i64 (nn : Int), .int .i64 (cc : Int), .string k, .bool d, .slice v.p v.n v.c, .slice x.p x.n x.c] 37) := ⟨_, rfl⟩
  have HX1 : Hid (w1.heap[w.heap.size]? = some (.cells #[.int .i64 (nn : Int), .int .i64 (cc : Int), .string k, .bool d, .slice v.p v.n v.c, .slice x.p x.n x.c] 37 (0, 0))) := by unfold Hid; rw [hw1]; exact heap_alloc_new w _
  have HA1 : Hid (Apart [] w w1) := by unfold Hid; rw [hw1]; exact (Apart.refl [] w).alloc _
  have HB1 := hid (HB.out.kept HA1.out)
  have HG1 : Hid (Gw w w1 s s) := Gw.of HA1.out
  obtain ⟨X, HXX⟩ : ∃ X, Hid (X = w.heap.size) := ⟨_, rfl⟩
  rw [← HXX.out] at HX1
  go_enter Tryz.func38, Tryz.ntmps38
  go_upto_region 1 with fail
  rw [← hw1, ← HXX.out]
  clear hw1
  go_cut [0] from 5 to 16 (fun a wx => ∃ s4 : Sl, .slice s4.p s4.n s4.c = a ∧ Bf wB wx s4 (us ++ ((enc nn ++ enc cc) ++ encT (bsk k))) ∧ Gw w wx s s4 ∧ wx.heap[X]? = some (.cells #[.int .i64 (nn : Int), .int .i64 (cc : Int), .string k, .bool d, .slice v.p v.n v.c, .slice x.p x.n x.c] 37 (0, 0)))
  case first =>
    have HBd := hid (HB1.out.kept (Apart.refl [] w1).drew)
    have HGd : Hid (Gw w w1.drew s s) := HG1.out.trans (Gw.of (Apart.refl [] w1).drew)
    have HXd : Hid (w1.drew.heap[X]? = some (.cells #[.int .i64 (nn : Int), .int .i64 (cc : Int), .string k, .bool d, .slice v.p v.n v.c, .slice x.p x.n x.c] 37 (0, 0))) := HX1.out
    refine wp_region_held_drew (S := fun W => W.heap[X]? = some (.cells #[.int .i64 (nn : Int), .int .i64 (cc : Int), .string k, .bool d, .slice v.p v.n v.c, .slice x.p x.n x.c] 37 (0, 0))) (by kernel_rfl) HXd.out (fun hHeld => ?_)
    generalize w1.drew = wd at *
    have HXw := hid hHeld
    refine tkn 0 5 (.slice s.p s.n s.c) rfl ?_ ?_
    · intro W hSW; go_simp
    refine tkn 1 6 (.pointer (some ⟨X, 0, none⟩)) rfl ?_ ?_
    · intro W hSW; go_simp
    refine tkn 2 7 (.pointer (some ⟨X, 0, none⟩)) rfl ?_ ?_
    · intro W hSW; go_simp
    refine tkn 3 8 (.int .i64 (nn : Int)) rfl ?_ ?_
    · intro W hSW; obtain ⟨x0, x1, x2, x3, x4, x5⟩ := rowv6 hSW; go_simp
    refine tkn 4 9 (.pointer (some ⟨X, 0, none⟩)) rfl ?_ ?_
    · intro W hSW; go_simp
    refine tkn 5 10 (.pointer (some ⟨X, 1, none⟩)) rfl ?_ ?_
    · intro W hSW; go_simp
    refine tkn 6 11 (.int .i64 (cc : Int)) rfl ?_ ?_
    · intro W hSW; obtain ⟨x0, x1, x2, x3, x4, x5⟩ := rowv6 hSW; go_simp
    refine tkn 9 14 (.pointer (some ⟨X, 2, none⟩)) rfl ?_ ?_
    · intro W hSW; go_simp
    refine tkn 10 15 (.string k) rfl ?_ ?_
    · intro W hSW; obtain ⟨x0, x1, x2, x3, x4, x5⟩ := rowv6 hSW; go_simp
    refine wpAnyH_ready (rs := [7]) (by kernel_rfl) (by simp) ?_
    refine AllReadyH.cons rfl (fun KK hKK => ?_) AllReadyH.nil
    have hbs := fun W => build2 W (nn : Int) (cc : Int)
    go_simp
    have hX5 : (wd.alloc (.cells #[.int .i64 (nn : Int), .int .i64 (cc : Int)] 3)).heap[X]? = some (.cells #[.int .i64 (nn : Int), .int .i64 (cc : Int), .string k, .bool d, .slice v.p v.n v.c, .slice x.p x.n x.c] 37 (0, 0)) := (((Apart.refl [] wd).alloc _).block X (lt_of_heap hHeld) (by simp)).trans hHeld
    refine hKK.out _ _ hX5 (fun hHeld => ?_)
    clear hKK KK
    refine wpAnyH_ready (rs := [8]) (by kernel_rfl) (by simp) ?_
    refine AllReadyH.cons rfl (fun KK hKK => ?_) AllReadyH.nil
    go_simp
    refine (aints2 HBd.out nn cc hn64 hc64 (by have := HL.out; simp only [List.length_append] at this ⊢; omega)).mono ?_
    rintro e w6 ⟨s6, rfl, hb6, hg6⟩
    have hX6 := hg6.block HBd.out HXw.out (by decide)
    have HB6 := hid hb6
    have HG6 : Hid (Gw w w6 s s6) := HGd.out.trans hg6
    clear hb6 hg6
    try dsimp only
    refine hKK.out _ _ hX6 (fun hHeld => ?_)
    clear hKK KK
    refine wpAnyH_ready (rs := [11]) (by kernel_rfl) (by simp) ?_
    refine AllReadyH.cons rfl (fun KK hKK => ?_) AllReadyH.nil
    go_simp
    refine (atext_ok HB6.out k (by omega) (by have := HL.out; simp only [List.length_append] at this ⊢; omega)).mono ?_
    rintro e w7 ⟨s7, rfl, hb7, hg7⟩
    have hX7 := hg7.block HB6.out hHeld (by decide)
    have HB7 : Hid (Bf wB w7 s7 (us ++ ((enc nn ++ enc cc) ++ encT (bsk k)))) := by
      unfold Hid
      simpa using hb7
    have HG7 : Hid (Gw w w7 s s7) := HG6.out.trans hg7
    have HX7 := hid hX7
    clear hb7 hg7
    try dsimp only
    refine hKK.out _ _ hX7 (fun hHeld => ?_)
    clear hKK KK
    refine tkn 12 0 (.slice s7.p s7.n s7.c) rfl ?_ ?_
    · intro W hSW; go_simp
    refine wpAnyH_done (by kernel_rfl) ?_ _
    go_wp2_with fail
    go_meet
    exact ⟨s7, rfl, HB7.out, HG7.out, HX7.out⟩
  obtain ⟨s4, rfl, hb4, hg4, hx4⟩ := hcut
  have HB4 := hid hb4
  have HG4 := hid hg4
  have HX4 := hid hx4
  clear hb4 hg4 hx4
  obtain ⟨z0, z1, z2, z3, z4, z5⟩ := rowv6 HX4.out
  go_upto_if 18 with fail
  clear z0 z1 z2 z3 z4 z5
  go_cut [0] from 19 to 28 (fun a wx => ∃ s5 : Sl, .slice s5.p s5.n s5.c = a ∧ Bf wB wx s5 ((us ++ ((enc nn ++ enc cc) ++ encT (bsk k))) ++ encV d vs) ∧ Gw w wx s s5 ∧ wx.heap[X]? = some (.cells #[.int .i64 (nn : Int), .int .i64 (cc : Int), .string k, .bool d, .slice v.p v.n v.c, .slice x.p x.n x.c] 37 (0, 0)))
  case first =>
    cases d with
    | true =>
      obtain ⟨z0, z1, z2, z3, z4, z5⟩ := rowv6 HX4.out
      have HC : Hid (Calls Tryz.prog 60 #[.slice s4.p s4.n s4.c, .slice (some ⟨wc.heap.size, 0, none⟩) 1 1] (wc.alloc (.cells #[.int .i64 1] 3)) fun e w' => AP wB wc s4 ((us ++ ((enc nn ++ enc cc) ++ encT (bsk k))) ++ enc 1) e w') := aints_1 HB4.out (by have := HL.out; unfold encV at this; simp only [if_true, List.length_append] at this ⊢; omega)
      go_wp2_with fail
      refine HC.out.mono ?_
      rintro e w6 ⟨s6, rfl, hb6, hg6⟩
      have HX6 := hid (hg6.block HB4.out HX4.out (by decide))
      have HB6 : Hid (Bf wB w6 s6 ((us ++ ((enc nn ++ enc cc) ++ encT (bsk k))) ++ encV true vs)) := hb6
      have HG6 : Hid (Gw w w6 s s6) := HG4.out.trans hg6
      clear hb6 hg6
      try dsimp only
      go_wp2_with fail
      go_meet
      exact ⟨s6, rfl, HB6.out, HG6.out, HX6.out⟩
    | false =>
      obtain ⟨z0, z1, z2, z3, z4, z5⟩ := rowv6 HX4.out
      go_upto_region 4 with fail
      have HBd := hid (HB4.out.kept (Apart.refl [] wc).drew)
      have HGd : Hid (Gw w wc.drew s s4) := HG4.out.trans (Gw.of (Apart.refl [] wc).drew)
      have HXd : Hid (wc.drew.heap[X]? = some (.cells #[.int .i64 (nn : Int), .int .i64 (cc : Int), .string k, .bool false, .slice v.p v.n v.c, .slice x.p x.n x.c] 37 (0, 0))) := HX4.out
      have HVd : Hid (Rd wc.drew v.p (byts vs)) := HV.out.kept0 HBd.out.nw.ap
      refine wp_region_held_drew (S := fun W => W.heap[X]? = some (.cells #[.int .i64 (nn : Int), .int .i64 (cc : Int), .string k, .bool false, .slice v.p v.n v.c, .slice x.p x.n x.c] 37 (0, 0)) ∧ Rd W v.p (byts vs)) (by kernel_rfl) ⟨HXd.out, HVd.out⟩ (fun hHeld => ?_)
      generalize wc.drew = wd at *
      have HSw := hid hHeld
      refine tkn 0 22 (.slice s4.p s4.n s4.c) rfl ?_ ?_
      · intro W hSW; go_simp
      refine tkn 3 25 (.pointer (some ⟨X, 4, none⟩)) rfl ?_ ?_
      · intro W hSW; go_simp
      refine tkn 4 26 (.slice v.p v.n v.c) rfl ?_ ?_
      · intro W hSW; obtain ⟨x0, x1, x2, x3, x4, x5⟩ := rowv6 hSW.1; go_simp
      refine tkn 5 27 (.string (strB vs)) rfl ?_ ?_
      · intro W hSW; have hcv := conv_bytes (s := v) hSW.2 HVN.out HVO.out; go_simp
      refine wpAnyH_ready (rs := [1]) (by kernel_rfl) (by simp) ?_
      refine AllReadyH.cons rfl (fun KK hKK => ?_) AllReadyH.nil
      have hbs := fun W => build1 W 0
      go_simp
      have hX5 : (wd.alloc (.cells #[.int .i64 0] 3)).heap[X]? = some (.cells #[.int .i64 (nn : Int), .int .i64 (cc : Int), .string k, .bool false, .slice v.p v.n v.c, .slice x.p x.n x.c] 37 (0, 0)) ∧ Rd (wd.alloc (.cells #[.int .i64 0] 3)) v.p (byts vs) := ⟨(((Apart.refl [] wd).alloc _).block X (lt_of_heap hHeld.1) (by simp)).trans hHeld.1, hHeld.2.kept0 ((Apart.refl [] wd).alloc _)⟩
      refine hKK.out _ _ hX5 (fun hHeld => ?_)
      clear hKK KK
      refine wpAnyH_ready (rs := [2]) (by kernel_rfl) (by simp) ?_
      refine AllReadyH.cons rfl (fun KK hKK => ?_) AllReadyH.nil
      go_simp
      refine (aints_0 HBd.out (by have := HL.out; unfold encV at this; simp only [Bool.false_eq_true, if_false, List.length_append] at this ⊢; omega)).mono ?_
      rintro e w6 ⟨s6, rfl, hb6, hg6⟩
      have hX6 := hg6.block HBd.out HSw.out.1 (by decide)
      have HB6 := hid hb6
      have HG6 : Hid (Gw w w6 s s6) := HGd.out.trans hg6
      have hV6 : Rd w6 v.p (byts vs) := HV.out.kept0 hb6.nw.ap
      clear hb6 hg6
      try dsimp only
      refine hKK.out _ _ ⟨hX6, hV6⟩ (fun hHeld => ?_)
      clear hKK KK
      refine wpAnyH_ready (rs := [6]) (by kernel_rfl) (by simp) ?_
      refine AllReadyH.cons rfl (fun KK hKK => ?_) AllReadyH.nil
      go_simp
      have hsz : (strB vs).size = vs.length := by rw [← bsk_len, bsk_strB HVB.out]
      refine (atext_ok HB6.out (strB vs) (by omega) (by rw [bsk_strB HVB.out]; have := HL.out; unfold encV at this; simp only [Bool.false_eq_true, if_false, List.length_append] at this ⊢; omega)).mono ?_
      rintro e w7 ⟨s7, rfl, hb7, hg7⟩
      have hX7 := hg7.block HB6.out hHeld.1 (by decide)
      have HB7 : Hid (Bf wB w7 s7 ((us ++ ((enc nn ++ enc cc) ++ encT (bsk k))) ++ encV false vs)) := by
        unfold Hid encV
        rw [bsk_strB HVB.out] at hb7
        simpa using hb7
      have HG7 : Hid (Gw w w7 s s7) := HG6.out.trans hg7
      have HX7 := hid hX7
      have hV7 : Rd w7 v.p (byts vs) := HV.out.kept0 hb7.nw.ap
      clear hb7 hg7 hsz
      try dsimp only
      refine hKK.out _ _ ⟨hX7, hV7⟩ (fun hHeld => ?_)
      clear hKK KK
      refine tkn 7 0 (.slice s7.p s7.n s7.c) rfl ?_ ?_
      · intro W hSW; go_simp
      refine wpAnyH_done (by kernel_rfl) ?_ _
      go_wp2_with fail
      go_meet
      exact ⟨s7, rfl, HB7.out, HG7.out, HX7.out⟩
  generalize wc = wk at *
  obtain ⟨s5, rfl, hb5, hg5, hx5⟩ := hcut
  have HB5 := hid hb5
  have HG5 := hid hg5
  obtain ⟨z0, z1, z2, z3, z4, z5⟩ := rowv6 hx5
  clear hb5 hg5 hx5
  have hlx : xs.length ≤ 8 := HCTX.out.le8
  have HS : Hid (Calls Tryz.prog 36 #[.slice s5.p s5.n s5.c, .slice x.p x.n x.c] wk fun e w' => AP wB wk s5 (((us ++ ((enc nn ++ enc cc) ++ encT (bsk k))) ++ encV d vs) ++ encSet xs) e w') := by
    have h1 := HX.out
    rw [← HXN.out] at h1
    rw [← HXN.out]
    refine aset_ok HB5.out xs h1 (by omega) (fun y hy => ?_) (by have := HL.out; simp only [List.length_append] at this ⊢; omega)
    have := HCTX.out.ok y hy
    have a1 := this.n0
    have a2 := this.n8
    have a3 := this.b0
    have a4 := this.bM
    exact ⟨⟨a1, by omega⟩, a3, by omega⟩
  go_wp2_with fail
  refine HS.out.mono ?_
  rintro e w6 ⟨s6, rfl, hb6, hg6⟩
  have HB6 : Hid (Bf wB w6 s6 (us ++ ((enc nn ++ enc cc) ++ (encT (bsk k) ++ (encV d vs ++ encSet xs))))) := by unfold Hid; simpa using hb6
  have HG6 : Hid (Gw w w6 s s6) := HG5.out.trans hg6
  clear hb6 hg6
  try dsimp only
  go_wp2_with fail
  go_ret
  exact ⟨s6, rfl, HB6.out, HG6.out⟩
end Go.Proofs.YtddffdcjhleejaaGreat.ds
