import Derived.Test.YtdbeeikjngnnnaaGreatC29
namespace Go.Proofs.YtdbeeikjngnnnaaGreat.ty
open Go.ChangeShapes Go.WideShapes Go.ChangeAt Go.RowKit
set_option linter.unusedVariables false
set_option linter.unusedSimpArgs false
set_option maxRecDepth 100000
set_option maxHeartbeats 8000000
def Wq (B : Nat) (w : World) (b : Sl) : Prop := (b.p = none ∧ b.n = 0 ∧ b.c = 0) ∨ ∃ g cur m, b.p = some ⟨g, 0, none⟩ ∧ B ≤ g ∧ w.heap[g]? = some (.cells cur 5 m) ∧ (m = (0, 0) ∨ cur.size ≤ m.1) ∧ cur.size = b.c ∧ b.n ≤ b.c
theorem Wq.mono {B C : Nat} {w : World} {b : Sl} (h : Wq B w b) (hc : C ≤ B) : Wq C w b := by
 rcases h with h | ⟨g, cur, m, h1, h2, h3⟩
 ·exact .inl h
 ·exact .inr ⟨g, cur, m, h1, Nat.le_trans hc h2, h3⟩
theorem Wq.kept {B : Nat} {w w' : World} {b : Sl} {X : List Nat} (h : Wq B w b) (a : Apart X w w') (hX : ∀ g, b.p = some ⟨g, 0, none⟩ → g ∉ X) : Wq B w' b := by
 rcases h with h | ⟨g, cur, m, h1, h2, h3, h4⟩
 ·exact .inl h
 ·exact .inr ⟨g, cur, m, h1, h2, (a.block g (lt_of_heapM h3) (hX g h1)).trans h3, h4⟩
theorem Wq.kept0 {B : Nat} {w w' : World} {b : Sl} (h : Wq B w b) (a : Apart [] w w') : Wq B w' b := h.kept a (by simp)
theorem Wq.tk {B : Nat} {w w' : World} {b : Sl} {ts : List Nat} (h : Wq B w b) (k : TK ts w w') (ht : 5 ∉ ts) : Wq B w' b := by
 obtain ⟨Z, a, hz⟩ := k
 rcases h with h | ⟨g, cur, m, h1, h2, h3, h4⟩
 ·exact .inl h
 ·refine .inr ⟨g, cur, m, h1, h2, (a.block g (lt_of_heapM h3) (fun hm => ?_)).trans h3, h4⟩
  obtain ⟨cu, t', ht', hh⟩ := hz g hm
  rw [h3] at hh
  simp only [Option.some.injEq, Obj.cells.injEq] at hh
  exact ht (hh.2.1 ▸ ht')
theorem Wq.of_bf {wB w : World} {s : Sl} {us : List Nat} (h : Bf wB w s us) : Wq wB.heap.size w s := by
 have hl := h.len
 obtain ⟨ho, ⟨hv, hz⟩ | ⟨g, cap, cur, hv, hb, hr, hle, hm, hs, ht⟩⟩ := h.nw.own
 ·simp only [Sl.v, Value.slice.injEq] at hv
  exact .inl hv
 ·have hv' := hv
  simp only [Sl.v, Value.slice.injEq] at hv'
  exact .inr ⟨g, cur, (0, 0), hv'.1, h.nw.new g (by rw [hv]; rfl), hr, .inl rfl, by rw [hs, hv'.2.2, Nat.mul_one], by rw [hv'.2.2]; exact hle⟩
theorem Bq.tk {w w' : World} {b : Sl} {us : List Nat} {ts : List Nat} {B : Nat} (h : Bq w b us) (q : Wq B w b) (k : TK ts w w') (ht : 5 ∉ ts) : Bq w' b us := by
 refine ⟨?_, h.len, h.ok⟩
 obtain ⟨Z, a, hz⟩ := k
 refine h.rd.kept a (fun P o hp hm => ?_)
 rcases q with ⟨h1, -⟩ | ⟨g, cur, m, h1, h2, h3, h4⟩
 ·rw [h1] at hp; cases hp
 ·rw [h1] at hp
  simp only [Option.some.injEq, Addr.mk.injEq] at hp
  obtain ⟨cu, t', ht', hh⟩ := hz P hm
  rw [← hp.1, h3] at hh
  simp only [Option.some.injEq, Obj.cells.injEq] at hh
  exact ht (hh.2.1 ▸ ht')
theorem conv_strW (w : World) (s : ByteArray) : ∃ (sl : Sl) (w' : World), Sem.run Tryz.prog (convert 9 29 (.string s)) w = .ok (.slice sl.p sl.n sl.c) w' ∧ Apart [] w w' ∧ Bq w' sl (bsk s) ∧ Wq w.heap.size w' sl ∧ sl.p = some ⟨w.heap.size, 0, none⟩ := by
 obtain ⟨sl, w', h1, h2, h3, h4, h5⟩ := conv_str w s
 have hr := Go.Lib.run_convert_string_bytes (P := Tryz.prog) w 9 29 5 s Tryz.underlying9 Tryz.underlying29 Tryz.underlying5
 rw [hr] at h1
 simp only [Result.ok.injEq, Value.slice.injEq] at h1
 obtain ⟨⟨e1, e2, e3⟩, rfl⟩ := h1
 refine ⟨sl, _, by rw [hr, e1, e3, e2], h2, ⟨h4.rd, h5, h3⟩, .inr ⟨w.heap.size, _, _, e1.symm, Nat.le_refl _, Go.Lib.bytesWorld_at_new w 5 s, .inr (Nat.le_refl _), ?_, ?_⟩, e1.symm⟩
 ·rw [← e3]
  have := grownCap_ge w s.size 0 5
  have hd : s.data.size = s.size := rfl
  simp only [Go.Lib.bytesCells, Array.size_append, Array.size_map, Array.size_replicate]
  omega
 ·rw [← e2, ← e3]
  exact grownCap_ge w s.size 0 5
structure Elq (w0 w : World) (l : List Sl) (es : List En) : Prop where
 len : l.length = es.length
 at_ : ∀ (i : Nat) (b : Sl) (x : En), l[i]? = some b → es[i]? = some x → Bq w b (bsk x.e) ∧ Wq w0.heap.size w b
 blk : ∀ b ∈ l, ∃ g, b.p = some ⟨g, 0, none⟩ ∧ w0.heap.size ≤ g ∧ g < w.heap.size
 dis : l.Pairwise fun a b => a.p ≠ b.p
theorem Elq.nil (w0 w : World) : Elq w0 w [] [] := ⟨rfl, by simp, by simp, List.Pairwise.nil⟩
theorem Elq.tk {w0 w w' : World} {l : List Sl} {es : List En} {ts : List Nat} (h : Elq w0 w l es) (k : TK ts w w') (ht : 5 ∉ ts) : Elq w0 w' l es := ⟨h.len, fun i b x h1 h2 => by
 obtain ⟨k1, k2⟩ := h.at_ i b x h1 h2
 exact ⟨k1.tk k2 k ht, k2.tk k ht⟩, fun b hb => by obtain ⟨g, h1, h2, h3⟩ := h.blk b hb; exact ⟨g, h1, h2, Nat.lt_of_lt_of_le h3 k.size⟩, h.dis⟩
theorem Elq.snoc {w0 w w' : World} {l : List Sl} {es : List En} {b : Sl} {x : En} (h : Elq w0 w l es) (a : Apart [] w w') (q : Bq w' b (bsk x.e)) (k : Wq w.heap.size w' b) (p : b.p = some ⟨w.heap.size, 0, none⟩) (h0 : w0.heap.size ≤ w.heap.size) : Elq w0 w' (l ++ [b]) (es ++ [x]) := by
 have hk := h.tk (TK.of0 (ts := []) a) (by simp)
 refine ⟨by simp [h.len], fun i b' x' h1 h2 => ?_, fun b' hb => ?_, List.pairwise_append.2 ⟨h.dis, List.pairwise_singleton _ _, fun y hy z hz => ?_⟩⟩
 ·by_cases hi : i < l.length
  ·rw [List.getElem?_append_left hi] at h1
   rw [List.getElem?_append_left (by rw [← h.len]; exact hi)] at h2
   exact hk.at_ i b' x' h1 h2
  ·rw [List.getElem?_append_right (by omega)] at h1
   rw [List.getElem?_append_right (by rw [← h.len]; omega)] at h2
   rw [← h.len] at h2
   have hi0 : i - l.length = 0 := by
    by_cases hq : i - l.length = 0
    ·exact hq
    ·rw [List.getElem?_eq_none (by simp; omega)] at h1; cases h1
   rw [hi0] at h1 h2
   simp at h1 h2
   subst h1 h2
   exact ⟨q, k.mono h0⟩
 ·rcases List.mem_append.1 hb with hb | hb
  ·exact hk.blk b' hb
  ·rw [List.mem_singleton.1 hb]
   obtain ⟨P, hp, hP⟩ : ∃ P, b.p = some ⟨P, 0, none⟩ ∧ P < w'.heap.size := by
    rcases k with ⟨k1, -⟩ | ⟨g, cur, m, k1, k2, k3, -⟩
    ·rw [k1] at p; cases p
    ·exact ⟨g, k1, lt_of_heapM k3⟩
   rw [p] at hp
   simp only [Option.some.injEq, Addr.mk.injEq] at hp
   exact ⟨w.heap.size, p, h0, by rw [hp.1]; exact hP⟩
 ·rw [List.mem_singleton.1 hz, p]
  obtain ⟨g, h1, h2, h3⟩ := h.blk y hy
  rw [h1]
  intro e
  simp only [Option.some.injEq, Addr.mk.injEq] at e
  omega
theorem elements_w {w : World} {c : List Int} {s : Sl} {es : List En} (hc : c.length = 8) (h : Es w s es) (hn : es.length ≤ 500) : Calls Tryz.prog 112 #[.agg (sv c s)] w fun r w' => ∃ s', r = .returned (.slice s'.p s'.n s'.c) ∧ ∃ l, Nw w w' 29 1 s' (svs l) ∧ s'.n = es.length ∧ Elq w w' l es := by
 have HE := hid h
 have Hc := hid hc
 have Hn := hid hn
 clear h hc hn
 have HA := hid (Apart.refl [] w)
 go_enter Tryz.func112, Tryz.ntmps112
 go_upto_region 1 with fail
 obtain ⟨X, HXX⟩ : ∃ X, Hid (X = w.heap.size) := ⟨_, rfl⟩
 obtain ⟨w1, hw1⟩ : ∃ W, W = w.alloc (.cells (sv c s) 104) := ⟨_, rfl⟩
 have HSw1 : Hid (Apart [] w w1) := hid (zM hw1)
 have HBX : Hid (w1.heap[X]? = some (.cells (sv c s) 104 (0, 0))) := hid (zN HXX.out hw1)
 replace HA := hid (HA.out.trans HSw1.out)
 rw [← hw1, ← HXX.out]
 clear hw1 HXX
 have z : w1.cell? ⟨X, 8, none⟩ = some (.slice s.p s.n s.c) := sv_cell Hc.out HBX.out
 obtain ⟨N, HN⟩ : ∃ N, Hid (N = es.length) := ⟨_, hid rfl⟩
 have hsn : s.n = N := by rw [HN.out]; exact HE.out.len
 rw [hsn] at z
 have hNn : N ≤ 500 := by rw [HN.out]; exact Hn.out
 go_wp2_with fail
 clear z
 go_loopw [3, 9] (fun b v wt => ∃ (i : Nat) (s' : Sl), v = .int .i64 (i : Nat) ∧ i ≤ N ∧ b = .slice s'.p s'.n s'.c ∧ ∃ l, Hid (Nw w wt 29 1 s' (svs l)) ∧ Hid (s'.n = i) ∧ Hid (Elq w wt l (es.take i))) (fun _ v _ => N - (intOf v).toNat)
 case atStart => exact ⟨0, ⟨none, 0, 0⟩, rfl, Nat.zero_le _, rfl, [], hid ⟨World.ownsRow_nil _ _ _ _, by simp [Sl.v, Value.ownBlock], HA.out⟩, hid rfl, hid (Elq.nil _ _)⟩
 case round =>
  obtain ⟨i, s4, rfl, hi, rfl, l, HW, Hs, HL⟩ := hrel
  generalize wr = wt at *
  by_cases hlt : i < N
  ·have hlti : ((i : Nat) : Int) < ((N : Nat) : Int) := by omega
   have Hil : Hid (i < es.length) := hid (by rw [← HN.out]; exact hlt)
   obtain ⟨P, o, hp, hr, hP⟩ := (HE.out.kept0 HW.out.ap).at i Hil.out
   have HRg := hid hr
   have HX : Hid ((es[i]'Hil.out).vs.length = 9) := hid (En.vs_len (HE.out.row _ (List.getElem_mem _)))
   have Hst : Hid (es.take (i + 1) = es.take i ++ [es[i]'Hil.out]) := hid (List.take_succ_eq_append_getElem Hil.out)
   obtain ⟨y, Hy⟩ : ∃ y, Hid (y = es[i]'Hil.out) := ⟨_, hid rfl⟩
   rw [← Hy.out] at HRg HX Hst
   rw [hp]
   clear hr hP hp
   go_upto_region 5 with (first
    | (refine wpL_val rfl (.agg y.vs.toArray) (ex_load106 _ rfl P (o + i * 9) _ rfl HRg.out HX.out) ?_)
    | (refine wpList_store_row rfl 141 _ _ rfl wt.heap.size y.vs.toArray rfl rfl 141 _ (heap_alloc_new wt _) (by rw [size106]; simp [HX.out]) (by simp [HX.out]) (all_oneCell_toArray (by intro u hu; exact evs_one (es := [y]) u (by simpa [evs] using hu))) ?_
       have HB5 := hid (put_new (w := wt) (z := zE) (cs := y.vs.toArray) (T := 141))
       have HS5 := hid (put_apart (w := wt) (z := zE) (cs := y.vs.toArray) (T := 141))
       obtain ⟨Z, HZ⟩ : ∃ X, X = wt.heap.size := ⟨_, rfl⟩
       unfold zE at HB5 HS5
       rw [← HZ] at HB5 HS5 ⊢
       generalize (wt.alloc (.cells #[.string ⟨#[]⟩, .int .i64 0, .int .i64 0, .int .i64 0, .int .i64 0, .int .i64 0, .int .i64 0, .int .i64 0, .int .i64 0] 141)).setRow Z y.vs.toArray = w5 at *
       clear HZ))
   have z5 : w5.cell? ⟨Z, 0, none⟩ = some (.string y.e) := zK HB5.out
   obtain ⟨b, w6, hcv, a6, q6, r6, p6⟩ := conv_strW w5 y.e
   have HEl : Hid (Bq w6 b (bsk y.e) ∧ Wq w5.heap.size w6 b ∧ b.p = some ⟨w5.heap.size, 0, none⟩) := hid ⟨q6, r6, p6⟩
   have HL5 := hid (HL.out.tk (TK.of0 (ts := [29]) HS5.out) (by simp))
   have HW5 : Hid (w.heap.size ≤ w5.heap.size) := hid (Nat.le_trans HW.out.ap.size HS5.out.size)
   have HS6 := hid (HS5.out.trans a6)
   replace HW := hid (HW.out.kept HS6.out)
   have HL6 : Hid (Elq w w6 (l ++ [b]) (es.take (i + 1))) := hid (by rw [Hst.out]; exact HL5.out.snoc a6 HEl.out.1 HEl.out.2.1 HEl.out.2.2 HW5.out)
   clear a6 q6 r6 p6
   obtain ⟨s7, w7, hrun, n7, l7, t7⟩ := app_elem HW.out b (by rw [Hs.out]; omega)
   have HR := hid hrun
   have HW7 := hid n7
   have Hs7 : Hid (s7.n = i + 1) := hid (by rw [l7, Hs.out])
   have HL7 : Hid (Elq w w7 (l ++ [b]) (es.take (i + 1))) := hid (HL6.out.tk t7 (by simp))
   clear hrun n7 l7 t7 HW HL
   go_wp2_with (at_builtin; refine wpList_append3 rfl _ _ 46 rfl _ _ rfl rfl (.slice s7.p s7.n s7.c) w7 HR.out ?_)
   exact ⟨⟨i + 1, s7, by go_num, by omega, rfl, _, HW7, Hs7, HL7⟩, by simp [intOf]; omega⟩
  ·have hlti : ¬ ((i : Nat) : Int) < ((N : Nat) : Int) := by omega
   obtain rfl : i = N := by omega
   have He2 : Hid (es.take i = es) := hid (List.take_of_length_le (by rw [← HN.out]; exact Nat.le_refl _))
   rw [He2.out] at HL
   go_wp2_with fail
   go_ret
   exact ⟨s4, rfl, l, HW.out, by rw [Hs.out, HN.out], HL.out⟩
theorem text_w {w : World} {s x : Int} {t : ByteArray} : Calls Tryz.prog 136 #[.agg (rg s x t)] w fun r w' => ∃ sl : Sl, r = .returned (.slice sl.p sl.n sl.c) ∧ Apart [] w w' ∧ Bq w' sl (bsk t) ∧ Wq w.heap.size w' sl := by
 have HA := hid (Apart.refl [] w)
 unfold rg
 go_enter Tryz.func136, Tryz.ntmps136
 go_upto_region 1 with fail
 obtain ⟨X, HXX⟩ : ∃ X, Hid (X = w.heap.size) := ⟨_, rfl⟩
 obtain ⟨w1, hw1⟩ : ∃ W, W = w.alloc (.cells #[.int .i64 s, .int .i64 x, .string t] 108) := ⟨_, rfl⟩
 have HSw1 : Hid (Apart [] w w1) := hid (zM hw1)
 have HBX : Hid (w1.heap[X]? = some (.cells #[.int .i64 s, .int .i64 x, .string t] 108 (0, 0))) := hid (zN HXX.out hw1)
 have HLX : Hid (w.heap.size ≤ X) := by unfold Hid; rw [HXX.out]; exact HA.out.size
 replace HA := hid (HA.out.trans HSw1.out)
 rw [← hw1, ← HXX.out]
 clear hw1 HXX
 have z : w1.cell? ⟨X, 2, none⟩ = some (.string t) := zK HBX.out
 obtain ⟨sl, w2, hcv, a2, q2, r2, p2⟩ := conv_strW w1 t
 have H2 := hid (And.intro a2 (And.intro q2 (r2.mono HA.out.size)))
 clear a2 q2 r2 p2
 go_wp2_with fail
 go_ret
 exact ⟨sl, rfl, HA.out.trans H2.out.1, H2.out.2.1, H2.out.2.2⟩
theorem Text_w {w : World} {V : Nat} {v : Vl} (hV : Ho w V v) (ok : Ok v) : Calls Tryz.prog 27 #[.pointer (some ⟨V, 0, none⟩)] w fun r w' => ∃ sl : Sl, r = .returned (.slice sl.p sl.n sl.c) ∧ Apart [] w w' ∧ Bq w' sl (textR v) ∧ Wq w.heap.size w' sl := by
 cases v using Vl.el with
 | rgs s a t =>
  refine (Text4_p (Q := fun x w' => ∃ sl : Sl, x = .slice sl.p sl.n sl.c ∧ Apart [] w w' ∧ Bq w' sl (bsk t) ∧ Wq w.heap.size w' sl) hV (text_w.mono ?_)).mono ?_
  ·rintro _ w' ⟨sl, rfl, h⟩
   exact ⟨_, rfl, sl, rfl, h⟩
  ·rintro _ w' ⟨_, rfl, sl, rfl, h⟩
   exact ⟨sl, rfl, h⟩
 | cnt u d =>
  refine (Text1 hV (by simp [rv_len, ok.1.1, ok.2.1]) (o_text _)).mono ?_
  rintro _ w' ⟨rfl, a'⟩
  exact ⟨⟨none, 0, 0⟩, rfl, a', ⟨Rd.nil _ _, rfl, fun _ => ⟨rfl, rfl⟩⟩, .inl ⟨rfl, rfl, rfl⟩⟩
 | set c es =>
  obtain ⟨s, h1, h2⟩ := hV
  refine (Text2 h1 (sv_size ok.1.1 s) (o_text _)).mono ?_
  rintro _ w' ⟨rfl, a'⟩
  exact ⟨⟨none, 0, 0⟩, rfl, a', ⟨Rd.nil _ _, rfl, fun _ => ⟨rfl, rfl⟩⟩, .inl ⟨rfl, rfl, rfl⟩⟩
 | flg c g =>
  refine (Text3 hV (by simp [rv_len, ok.1.1, ok.2.1]) (o_text _)).mono ?_
  rintro _ w' ⟨rfl, a'⟩
  exact ⟨⟨none, 0, 0⟩, rfl, a', ⟨Rd.nil _ _, rfl, fun _ => ⟨rfl, rfl⟩⟩, .inl ⟨rfl, rfl, rfl⟩⟩
theorem Elements_w {w : World} {V : Nat} {v : Vl} (hV : Ho w V v) (ok : Ok v) : Calls Tryz.prog 31 #[.pointer (some ⟨V, 0, none⟩)] w fun r w' => ∃ s', r = .returned (.slice s'.p s'.n s'.c) ∧ ∃ l, Nw w w' 29 1 s' (svs l) ∧ s'.n = (elsR v).length ∧ Elq w w' l (elsR v) := by
 cases v using Vl.el with
 | set c es =>
  obtain ⟨s, h1, h2⟩ := hV
  obtain ⟨okc, oks, okn, oke⟩ := ok
  refine (Elements2_p (Q := fun x w' => ∃ s', x = .slice s'.p s'.n s'.c ∧ ∃ l, Nw w w' 29 1 s' (svs l) ∧ s'.n = es.length ∧ Elq w w' l es) h1 ((elements_w okc.1 h2 (by omega)).mono ?_)).mono ?_
  ·rintro _ w' ⟨sl, rfl, h⟩
   exact ⟨_, rfl, sl, rfl, h⟩
  ·rintro _ w' ⟨_, rfl, sl, rfl, h⟩
   exact ⟨sl, rfl, h⟩
 | cnt u d =>
  refine (Elements1 hV (by simp [rv_len, ok.1.1, ok.2.1]) (o_elements _)).mono ?_
  rintro _ w' ⟨rfl, a'⟩
  exact ⟨⟨none, 0, 0⟩, rfl, [], ⟨World.ownsRow_nil _ _ _ _, by simp [Sl.v, Value.ownBlock], a'⟩, rfl, Elq.nil _ _⟩
 | flg c g =>
  refine (Elements3 hV (by simp [rv_len, ok.1.1, ok.2.1]) (o_elements _)).mono ?_
  rintro _ w' ⟨rfl, a'⟩
  exact ⟨⟨none, 0, 0⟩, rfl, [], ⟨World.ownsRow_nil _ _ _ _, by simp [Sl.v, Value.ownBlock], a'⟩, rfl, Elq.nil _ _⟩
 | rgs s x t =>
  refine (Elements4 hV rfl (o_elements _)).mono ?_
  rintro _ w' ⟨rfl, a'⟩
  exact ⟨⟨none, 0, 0⟩, rfl, [], ⟨World.ownsRow_nil _ _ _ _, by simp [Sl.v, Value.ownBlock], a'⟩, rfl, Elq.nil _ _⟩
/-! ### bytes written over, and appended to -/
theorem setM_heap {w : World} {g o : Nat} {cur : Array Value} {t : Nat} {m : Nat × Nat} (h : w.heap[g]? = some (.cells cur t m)) (v : Value) : (w.setCell ⟨g, o, none⟩ v).heap[g]? = some (.cells (cur.setIfInBounds o v) t m) := by
 rw [setCell_eq_setRow w g o cur t m v h]
 exact setRow_heap w g cur _ t m h
theorem setCellsM (g : Nat) (t : Nat) (m : Nat × Nat) (M : Value) : ∀ (c o : Nat) (w : World) (cur : Array Value), w.heap[g]? = some (.cells cur t m) → ∃ cur', (w.setCells g o (List.replicate c M)).heap[g]? = some (.cells cur' t m) ∧ cur'.size = cur.size ∧ (∀ j, cur'[j]? = if o ≤ j ∧ j < o + c ∧ j < cur.size then some M else cur[j]?) ∧ Apart [g] w (w.setCells g o (List.replicate c M))
 | 0, o, w, cur, h => ⟨cur, h, rfl, fun j => by rw [if_neg (by omega)], Apart.refl _ _⟩
 | c + 1, o, w, cur, h => by
  obtain ⟨cur', h1, h2, h3, h4⟩ := setCellsM g t m M c (o + 1) (w.setCell ⟨g, o, none⟩ M) _ (setM_heap h M)
  refine ⟨cur', h1, by rw [h2]; simp, fun j => ?_, ((Apart.refl [g] w).setCell (.inl (by simp)) _).trans h4⟩
  rw [h3 j]
  simp only [Array.size_setIfInBounds, Array.getElem?_setIfInBounds]
  by_cases e : o = j
  ·subst e
   by_cases hl : o < cur.size
   ·rw [if_neg (by omega), if_pos rfl, if_pos hl, if_pos ⟨by omega, by omega, hl⟩]
   ·rw [if_neg (by omega), if_pos rfl, if_neg hl, if_neg (by omega)]
    rw [Array.getElem?_eq_none (by omega)]
  ·rw [if_neg e]
   by_cases hc : o + 1 ≤ j ∧ j < o + 1 + c ∧ j < cur.size
   ·rw [if_pos hc, if_pos (by omega)]
   ·rw [if_neg hc, if_neg (by omega)]
def Wv (B : Nat) (w : World) (b : Sl) (i M : Nat) : Prop := (b.p = none ∧ b.n = 0 ∧ b.c = 0) ∨ ∃ g cur m, b.p = some ⟨g, 0, none⟩ ∧ B ≤ g ∧ w.heap[g]? = some (.cells cur 5 m) ∧ (m = (0, 0) ∨ cur.size ≤ m.1) ∧ cur.size = b.c ∧ b.n ≤ b.c ∧ ∀ j, j < i → cur[j]? = some (.int .u8 (M : Int))
theorem Wq.wv {B : Nat} {w : World} {b : Sl} (h : Wq B w b) (M : Nat) : Wv B w b 0 M := by
 rcases h with h | ⟨g, cur, m, h1, h2, h3, h4, h5, h6⟩
 ·exact .inl h
 ·exact .inr ⟨g, cur, m, h1, h2, h3, h4, h5, h6, fun j hj => by omega⟩
theorem frz {w : World} {g j : Nat} {cur : Array Value} {t : Nat} {m : Nat × Nat} (h : w.heap[g]? = some (.cells cur t m)) (hm : m = (0, 0) ∨ cur.size ≤ m.1) (hj : j < cur.size) : w.frozen? ⟨g, j, none⟩ = false := by
 obtain ⟨lo, hi⟩ := m
 simp only [World.frozen?, h, Bool.and_eq_false_iff, decide_eq_false_iff_not]
 rcases hm with hm | hm
 ·simp only [Prod.mk.injEq] at hm
  right; omega
 ·left
  simp only at hm
  omega
theorem Wv.set {B : Nat} {w : World} {b : Sl} {i M : Nat} (h : Wv B w b i M) (hi : i < b.n) : ∃ g u, b.p = some ⟨g, 0, none⟩ ∧ B ≤ g ∧ w.cell? ⟨g, i, none⟩ = some u ∧ w.frozen? ⟨g, i, none⟩ = false ∧ Wv B (w.setCell ⟨g, i, none⟩ (.int .u8 (M : Int))) b (i + 1) M := by
 rcases h with ⟨-, h, -⟩ | ⟨g, cur, m, h1, h2, h3, h4, h5, h6, h7⟩
 ·omega
 ·refine ⟨g, _, h1, h2, (cell_of_row _ _ _ _ _ _ h3).trans (Array.getElem?_eq_getElem (by omega)), frz h3 h4 (by omega), .inr ⟨g, _, m, h1, h2, setM_heap h3 _, ?_, by simp [h5], h6, fun j hj => ?_⟩⟩
  ·rcases h4 with h4 | h4
   ·exact .inl h4
   ·exact .inr (by simpa using h4)
  ·rw [Array.getElem?_setIfInBounds]
   by_cases e : i = j
   ·rw [if_pos e, if_pos (by omega)]
   ·rw [if_neg e]; exact h7 j (by omega)
theorem Wv.kept {B : Nat} {w w' : World} {b : Sl} {i M : Nat} (h : Wv B w b i M) (a : Apart [] w w') : Wv B w' b i M := by
 rcases h with h | ⟨g, cur, m, h1, h2, h3, h4⟩
 ·exact .inl h
 ·exact .inr ⟨g, cur, m, h1, h2, (a.block g (lt_of_heapM h3) (by simp)).trans h3, h4⟩
theorem Wv.rdT {B : Nat} {w : World} {b : Sl} {i M : Nat} (h : Wv B w b i M) {n : Nat} (hn : n ≤ i) (hb : n ≤ b.n) : RdT w b.p 5 (byts (List.replicate n M)) := by
 intro h0
 rcases h with ⟨-, h, -⟩ | ⟨g, cur, m, h1, h2, h3, h4, h5, h6, h7⟩
 ·simp [byts] at h0; omega
 ·refine ⟨g, 0, h1, ⟨cur, m, h3⟩, fun j u hj => ?_⟩
  have hl := (List.getElem?_eq_some_iff.1 hj).1
  simp [byts] at hl
  rw [Nat.zero_add, cell_of_row _ _ _ _ _ _ h3, h7 j (by omega)]
  simp only [byts, List.getElem?_map, List.getElem?_replicate, if_pos hl, Option.map_some] at hj
  exact hj
theorem rd_news (w : World) (c M : Nat) : ∀ j u, (byts (List.replicate c M))[j]? = some u → (w.alloc (.cells (byts (List.replicate c M)).toArray 5)).cell? ((⟨w.heap.size, 0, none⟩ : Addr).add j) = some u := by
 intro j u hj
 rw [Addr.add_lit, Nat.zero_add, cell_of_row _ _ _ _ _ _ (heap_alloc_new w (.cells (byts (List.replicate c M)).toArray 5))]
 simpa using hj
theorem Wv.app {B : Nat} {w : World} {s : Sl} {M : Nat} (h : Wv B w s s.n M) (c : Nat) (h0 : 0 < c) (hl : s.n + c ≤ 1000000) (hB : B ≤ w.heap.size) : ∃ s' W', (Builtin.append_ #[29, 29] 29 #[.slice s.p s.n s.c, .slice (some ⟨w.heap.size, 0, none⟩) c c]).run Tryz.prog (w.alloc (.cells (byts (List.replicate c M)).toArray 5)) = .ok (.slice (Sl.p s') (Sl.n s') (Sl.c s')) W' ∧ Wv B W' s' s'.n M ∧ s'.n = s.n + c ∧ ((s'.p = s.p ∧ (∃ g, s.p = some ⟨g, 0, none⟩) ∧ ∀ g, s.p = some ⟨g, 0, none⟩ → Apart [g] w W') ∨ (∃ k, s'.p = some ⟨k, 0, none⟩ ∧ w.heap.size ≤ k ∧ k < W'.heap.size ∧ Apart [] w W')) := by
 obtain ⟨i0, hi, hz0, hz1, hz2⟩ := info_of info5
 have hnews := rd_news w c M
 have hlen : (byts (List.replicate c M)).length = c := by simp [byts]
 have one := oneB (List.replicate c M)
 have a1 : Apart [] w (w.alloc (.cells (byts (List.replicate c M)).toArray 5)) := (Apart.refl [] w).alloc _
 have fin : ∀ {v' : Value} {W' : World}, W'.ownsRow (w.alloc (.cells (byts (List.replicate c M)).toArray 5)).heap.size 5 1 v' (s.n + c) (byts (List.replicate s.n M) ++ byts (List.replicate c M)) → (w.alloc (.cells (byts (List.replicate c M)).toArray 5)).grownBy W' none → ∃ s' : Sl, v' = .slice s'.p s'.n s'.c ∧ Wv B W' s' s'.n M ∧ s'.n = s.n + c ∧ ∃ k, s'.p = some ⟨k, 0, none⟩ ∧ w.heap.size ≤ k ∧ k < W'.heap.size ∧ Apart [] w W' := by
  intro v' W' ho hg
  have ap : Apart [] w W' := a1.trans (by have := apart_grown hg; simpa using this)
  obtain ⟨hxl, ⟨hv, hz⟩ | ⟨g, cap, cur, hv, hb, hr, hle, hm, hs, ht⟩⟩ := ho
  ·omega
  ·refine ⟨⟨some ⟨g, 0, none⟩, s.n + c, cap⟩, hv, .inr ⟨g, cur, (0, 0), rfl, ?_, hr, .inl rfl, by rw [hs, Nat.mul_one], hle, fun j hj => ?_⟩, rfl, g, rfl, ?_, lt_of_heap hr, ap⟩
   ·have := a1.size; omega
   ·have hj2 : j < s.n + c := hj
    have e1 : (cur.toList.take ((s.n + c) * 1))[j]? = cur[j]? := by rw [List.getElem?_take_of_lt (by omega)]; simp
    rw [← e1, ht, ← byts_app, List.replicate_append_replicate]
    simp [byts, hj2]
   ·have := a1.size; omega
 have h' := h
 rcases h with ⟨h1, h2, h3⟩ | ⟨g, cur, m, h1, h2, h3, h4, h5, h6, h7⟩
 ·obtain ⟨v', W', hrun, r1, r2, _⟩ := run_append_own (P := Tryz.prog) (w.alloc (.cells (byts (List.replicate c M)).toArray 5)) (w.alloc (.cells (byts (List.replicate c M)).toArray 5)).heap.size 29 29 5 i0 _ 1 1 Tryz.underlying29 hi hz0 hz1 hz2 rfl (by decide) (.slice none 0 0) 0 [] (World.ownsRow_nil _ _ 5 1) ⟨w.heap.size, 0, none⟩ c c (byts (List.replicate c M)) (by rw [hlen, Nat.mul_one]) hnews one (by unfold maxLen; omega) (by omega) (Nat.le_refl _)
  obtain ⟨s', e, k1, k2, k3⟩ := fin (by rw [h2]; simpa [byts] using r1) (by simpa [Value.ownBlock] using r2)
  exact ⟨s', W', by rw [h1, h2, h3, ← e]; exact hrun, k1, k2, .inr k3⟩
 ·have h3' : (w.alloc (.cells (byts (List.replicate c M)).toArray 5)).heap[g]? = some (.cells cur 5 m) := (a1.block g (lt_of_heapM h3) (by simp)).trans h3
  by_cases hroom : s.n + c ≤ s.c
  ·have hrun := run_append_room_cells (P := Tryz.prog) (w.alloc (.cells (byts (List.replicate c M)).toArray 5)) 29 29 5 i0 Tryz.underlying29 hi g 0 s.n s.c ⟨w.heap.size, 0, none⟩ c c (byts (List.replicate c M)) (by rw [hlen, hz1, Nat.mul_one]) hnews one hroom (fun j hj => by
    rw [hlen] at hj
    rw [hz1, Nat.mul_one, Nat.zero_add, cell_of_row _ _ _ _ _ _ h3', Array.getElem?_eq_getElem (by omega)]; rfl) (fun j hj => by
    rw [hlen] at hj
    rw [hz1, Nat.mul_one, Nat.zero_add]
    exact frz h3' h4 (by omega))
   rw [hz1, Nat.mul_one, Nat.zero_add] at hrun
   have eb : byts (List.replicate c M) = List.replicate c (Value.int .u8 (M : Int)) := by simp [byts]
   obtain ⟨cur', k1, k2, k3, k4⟩ := setCellsM g 5 m (.int .u8 (M : Int)) c s.n _ _ h3'
   rw [← eb] at k1 k4
   refine ⟨⟨s.p, s.n + c, s.c⟩, _, by rw [h1]; exact hrun, .inr ⟨g, cur', m, h1, h2, k1, ?_, by rw [k2]; exact h5, hroom, fun j hj => ?_⟩, rfl, .inl ⟨rfl, ⟨g, h1⟩, fun g' hg' => ?_⟩⟩
   ·rw [k2]; exact h4
   ·have hj2 : j < s.n + c := hj
    rw [k3 j]
    by_cases e : s.n ≤ j
    ·rw [if_pos ⟨e, hj2, by omega⟩]
    ·rw [if_neg (by omega)]; exact h7 j (by omega)
   ·rw [h1] at hg'
    obtain rfl : g = g' := by simpa using hg'
    exact (a1.mono (by simp)).trans k4
  ·obtain ⟨v', W', hrun, r1, r2⟩ := run_append_arg_grows (P := Tryz.prog) (w.alloc (.cells (byts (List.replicate c M)).toArray 5)) 29 29 5 i0 _ 1 1 Tryz.underlying29 hi hz0 hz1 hz2 rfl (by decide) ⟨g, 0, none⟩ s.n s.c (byts (List.replicate s.n M)) (by simp [byts]) (fun j u hj => by
    have hl := (List.getElem?_eq_some_iff.1 hj).1
    simp [byts] at hl
    rw [Addr.add_lit, Nat.zero_add, cell_of_row _ _ _ _ _ _ h3', h7 j (by omega)]
    simp only [byts, List.getElem?_map, List.getElem?_replicate, if_pos hl, Option.map_some] at hj
    exact hj) ⟨w.heap.size, 0, none⟩ c c (byts (List.replicate c M)) (by rw [hlen, Nat.mul_one]) hnews (by omega) (by unfold maxLen; omega) (by omega)
   obtain ⟨s', e, k1, k2, k3⟩ := fin r1 r2
   exact ⟨s', W', by rw [h1, ← e]; exact hrun, k1, k2, .inr k3⟩
end Go.Proofs.YtdbeeikjngnnnaaGreat.ty
