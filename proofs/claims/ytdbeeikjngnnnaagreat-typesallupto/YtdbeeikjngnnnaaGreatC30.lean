import Derived.Test.YtdbeeikjngnnnaaGreatC27
import Derived.Test.YtdbeeikjngnnnaaGreatC29
namespace Go.Proofs.YtdbeeikjngnnnaaGreat.ty
open Go.ChangeShapes Go.WideShapes Go.ChangeAt Go.RowKit
set_option linter.unusedVariables false
set_option linter.unusedSimpArgs false
set_option maxRecDepth 100000
set_option maxHeartbeats 8000000
/-! ### stay, one tag after the other -/
def stP (oc : List Int) (ots xs : List Tg) (t : Tg) : Bool := stayB oc ots t && !(numT xs t.e t.a == t.n)
def stS (oc : List Int) (ots xs : List Tg) (t : Tg) : List Tg := if stP oc ots xs t = true then xs ++ [t] else xs
theorem numT_apps {xs zs : List Tg} {e : ByteArray} {a : Nat} (h : ∀ s ∈ zs, ¬ (s.e = e ∧ s.a = a)) : numT (xs ++ zs) e a = numT xs e a := by
 rw [numT_app]
 by_cases c : ∃ t ∈ xs, t.e = e ∧ t.a = a
 ·rw [if_pos c]
 ·rw [if_neg c]
  have h1 : numT zs e a = 0 := by
   rcases numT_or zs e a with ⟨h1, -⟩ | ⟨t, ht, h1, h2, -⟩
   ·exact h1
   ·exact absurd ⟨h1, h2⟩ (h t ht)
  have h2 : numT xs e a = 0 := by
   rcases numT_or xs e a with ⟨h1, -⟩ | ⟨t, ht, h1, h2, -⟩
   ·exact h1
   ·exact absurd ⟨t, ht, h1, h2⟩ c
  rw [h1, h2]
theorem stS_fold (oc : List Int) (ots xs : List Tg) : ∀ (r zs : List Tg), (r.Pairwise fun s t => ¬ (s.e = t.e ∧ s.a = t.a)) → (∀ s ∈ zs, ∀ t ∈ r, ¬ (s.e = t.e ∧ s.a = t.a)) → r.foldl (stS oc ots) (xs ++ zs) = xs ++ zs ++ r.filter (stP oc ots xs)
 | [], zs, _, _ => by simp
 | t :: r, zs, hp, ha => by
  obtain ⟨p1, p2⟩ := List.pairwise_cons.1 hp
  have hn : numT (xs ++ zs) t.e t.a = numT xs t.e t.a := numT_apps (fun s hs => ha s hs t (by simp))
  have he : stP oc ots (xs ++ zs) t = stP oc ots xs t := by unfold stP; rw [hn]
  rw [List.foldl_cons, List.filter_cons]
  unfold stS
  rw [he]
  by_cases c : stP oc ots xs t = true
  ·rw [if_pos c, if_pos c, List.append_assoc]
   have ih := stS_fold oc ots xs r (zs ++ [t]) p2 (fun s hs u hu => by
    rcases List.mem_append.1 hs with hs | hs
    ·exact ha s hs u (List.mem_cons_of_mem _ hu)
    ·rw [List.mem_singleton.1 hs]; exact p1 u hu)
   unfold stS at ih
   rw [ih]
   simp [List.append_assoc]
  ·rw [if_neg c, if_neg c]
   have ih := stS_fold oc ots xs r zs p2 (fun s hs u hu => ha s hs u (List.mem_cons_of_mem _ hu))
   unfold stS at ih
   exact ih
theorem stS_all {ts : List Tg} (h : To ts) (oc : List Int) (ots xs : List Tg) : ts.foldl (stS oc ots) xs = xs ++ ts.filter (stP oc ots xs) := by
 have := stS_fold oc ots xs ts [] h.one (by simp)
 simpa using this
theorem stS_one {ts : List Tg} (h : To ts) (oc : List Int) (ots : List Tg) : ts.foldl (stS oc ots) [] = stay1 ts oc ots := by
 rw [stS_all h, List.nil_append]
 unfold stay1
 refine List.filter_congr fun t ht => ?_
 have h1 := (h.ok t ht).2
 unfold stP numT
 have : ((0 : Nat) == t.n) = false := by simp only [beq_eq_false_iff_ne]; omega
 rw [this]
 simp
theorem stS_two {ts os : List Tg} (h : To ts) (k : To os) (c d : List Int) : os.foldl (stS c ts) (ts.foldl (stS d os) []) = mergeT ts c os d := by
 rw [stS_one h, stS_all k]
 rfl
theorem stS_len (oc : List Int) (ots : List Tg) : ∀ (r xs : List Tg), (r.foldl (stS oc ots) xs).length ≤ xs.length + r.length
 | [], xs => by simp
 | t :: r, xs => by
  rw [List.foldl_cons]
  have h := stS_len oc ots r (stS oc ots xs t)
  have h2 : (stS oc ots xs t).length ≤ xs.length + 1 := by
   unfold stS
   split
   ·simp
   ·omega
  simp only [List.length_cons]
  omega
def tagL (e : ByteArray) (u : List Int) : Nat → List Tg
 | 0 => []
 | i + 1 => if 0 < u.getD i 0 then tagL e u i ++ [⟨e, i, (u.getD i 0).toNat⟩] else tagL e u i
def overB (c u : List Int) : Nat → Bool
 | 0 => false
 | i + 1 => overB c u i || decide (c.getD i 0 < u.getD i 0)
theorem tagL_len (e : ByteArray) (u : List Int) : ∀ i, (tagL e u i).length ≤ i
 | 0 => Nat.le_refl _
 | i + 1 => by
  have h := tagL_len e u i
  unfold tagL
  split
  ·rw [List.length_append, List.length_singleton]; omega
  ·omega
theorem two_al (w : World) : (((w.alloc (.cells (rv zr).toArray 60)).alloc (.cells (rv zr).toArray 60)).heap[w.heap.size]? = some (.cells (rv zr).toArray 60 (0, 0))) ∧ (((w.alloc (.cells (rv zr).toArray 60)).alloc (.cells (rv zr).toArray 60)).heap[w.heap.size + 1]? = some (.cells (rv zr).toArray 60 (0, 0))) := by
 refine ⟨keep0 ((Apart.refl [] _).alloc _) (heap_alloc_new w _), ?_⟩
 have h := heap_alloc_new (w.alloc (.cells (rv zr).toArray 60)) (.cells (rv zr).toArray 60)
 have e : (w.alloc (.cells (rv zr).toArray 60)).heap.size = w.heap.size + 1 := Array.size_push _
 rw [e] at h
 exact h
theorem tagL_succ (e : ByteArray) (u : List Int) (i : Nat) : tagL e u (i + 1) = if 0 < u.getD i 0 then tagL e u i ++ [⟨e, i, (u.getD i 0).toNat⟩] else tagL e u i := rfl
theorem overB_succ (c u : List Int) (i : Nat) : overB c u (i + 1) = (overB c u i || decide (c.getD i 0 < u.getD i 0)) := rfl
def Sxb (r : Rv) (X A : Nat) (u : List Int) (W : World) : Prop := Sx r X W ∧ W.heap[A]? = some (.cells (rv u).toArray 60 (0, 0))
theorem drd_tags {wB w : World} {R O : Nat} {s so : Sl} {bs : List Nat} {a : Nat} {bad : Bool} {r : Rv} (h : Dr wB w R s bs a bad) (hO : Dk w O r so) (hN : Nw wB w 96 3 so (tgL r.ts)) (hOn : wB.heap.size ≤ O) (hl : r.ts.length ≤ 9000) (e : ByteArray) : Calls Tryz.prog 64 #[.pointer (some ⟨R, 0, none⟩), .pointer (some ⟨O, 0, none⟩), .string e] w fun x w' => x = .returned (.tuple #[]) ∧ Dr wB w' R s bs (rowDD bs a bad 2 false).at_ ((rowDD bs a bad 2 false).bad || overB r.c (rowDD bs a bad 2 false).u 8) ∧ ∃ s', Dk w' O { r with ts := r.ts ++ tagL e (rowDD bs a bad 2 false).u 8 } s' ∧ Nw wB w' 96 3 s' (tgL (r.ts ++ tagL e (rowDD bs a bad 2 false).u 8)) := by
 have HO := hid hO
 have HN := hid hN
 have HOn := hid hOn
 have Hl := hid hl
 have HC := hid (drd_row1 h (size := 2) (by omega))
 have HU := hid h.u8
 have HRb := hid h.blk
 have HRO : Hid (R ≠ O) := hid (fun q => by have := h.blk; rw [q, hO.dv.blk] at this; simp at this)
 have HRn := hid h.new
 obtain ⟨g, Hg⟩ : ∃ g, Hid (g = rowDD bs a bad 2 false) := ⟨_, hid rfl⟩
 rw [← Hg.out] at HC ⊢
 have Hul0 : Hid (g.u.length = 8 ∧ g.d.length = 8) := hid (by rw [Hg.out]; exact rwD_len _ _ _ _ _ _ 8)
 have Hub : Hid (∀ i, i < 8 → 0 ≤ g.u.getD i 0 ∧ g.u.getD i 0 ≤ 16777215) := hid (fun i hi => by
  have hb := (rwD_bd HU.out (dnum bs a 1) (size := 2) (by omega) false (dat bs a 1) (bad || dbad bs a 1) 8).1
  have hm : g.u.getD i 0 ∈ g.u := by
   rw [List.getD_eq_getElem?_getD, List.getElem?_eq_getElem (by rw [Hul0.out.1]; exact hi)]
   exact List.getElem_mem _
  rw [Hg.out] at hm ⊢
  exact hb _ hm)
 obtain ⟨u, Hue⟩ : ∃ u, Hid (u = g.u) := ⟨_, hid rfl⟩
 obtain ⟨q0, Hq0⟩ : ∃ u, Hid (u = g.at_) := ⟨_, hid rfl⟩
 obtain ⟨gb, Hgb⟩ : ∃ u, Hid (u = g.bad) := ⟨_, hid rfl⟩
 have Hul : Hid (u.length = 8) := hid (by rw [Hue.out]; exact Hul0.out.1)
 have Hub2 : Hid (∀ i, i < 8 → 0 ≤ u.getD i 0 ∧ u.getD i 0 ≤ 16777215) := hid (by rw [Hue.out]; exact Hub.out)
 rw [← Hue.out, ← Hq0.out, ← Hgb.out] at HC ⊢
 clear h hO hN hOn hl
 go_enter Tryz.func64, Tryz.ntmps64
 go_upto_region 1 with (first
  | (go_at_call 63
     refine HC.out.mono ?_
     rintro _ w2 ⟨rfl, d2, a2⟩
     have HD2 := hid d2
     have HA2 := hid a2
     have HZ1 := hid (two_al w2).1
     have HZ2 := hid (keepB (apart_setRow _ w2.heap.size (rv u).toArray) (two_al w2).2 (Nat.succ_ne_self _))
     clear d2 a2)
  | refine wpList_store_row rfl 60 _ _ rfl w2.heap.size (rv u).toArray rfl rfl 60 _ HZ1.out (by rw [size60]; simp [rv_len, Hul.out]) (by simp [rv_len, Hul.out]; rfl) (all_oneCell_toArray (rv_one _)) ?_
  | refine wpList_store_row rfl 60 _ _ rfl (w2.heap.size + 1) (rv g.d).toArray rfl rfl 60 _ HZ2.out (by rw [size60]; simp [rv_len, Hul0.out.2]) (by simp [rv_len, Hul0.out.2]; rfl) (all_oneCell_toArray (rv_one _)) ?_)
 simp only [Act.put]
 obtain ⟨A, HAe⟩ : ∃ A, Hid (A = w2.heap.size) := ⟨_, hid rfl⟩
 have HBA1 := hid (keepB (apart_setRow _ (w2.heap.size + 1) (rv g.d).toArray) (setRow_heap _ _ _ (rv u).toArray _ _ HZ1.out) (Nat.succ_ne_self _).symm)
 have HA3 : Hid (Apart [] w2 ((((w2.alloc (.cells (rv zr).toArray 60)).alloc (.cells (rv zr).toArray 60)).setRow w2.heap.size (rv u).toArray).setRow (w2.heap.size + 1) (rv g.d).toArray)) := hid (((((Apart.refl [] w2).alloc _).alloc _).trans' (apart_setRow _ w2.heap.size (rv u).toArray) (fun y hy => .inr (by rw [List.mem_singleton.1 hy]; exact Nat.le_refl _))).trans' (apart_setRow _ (w2.heap.size + 1) (rv g.d).toArray) (fun y hy => .inr (by rw [List.mem_singleton.1 hy]; exact Nat.le_succ _)))
 change Code.wp _ _ _ _ ((((w2.alloc (.cells (rv zr).toArray 60)).alloc (.cells (rv zr).toArray 60)).setRow w2.heap.size (rv u).toArray).setRow (w2.heap.size + 1) (rv g.d).toArray)
 clear HZ1 HZ2
 obtain ⟨B, HBe⟩ : ∃ B, Hid (B = w2.heap.size + 1) := ⟨_, hid rfl⟩
 rw [← HBe.out] at HBA1 HA3 ⊢
 rw [← HAe.out] at HBA1 HA3 ⊢
 generalize ((((w2.alloc (.cells (rv zr).toArray 60)).alloc (.cells (rv zr).toArray 60)).setRow A (rv u).toArray).setRow B (rv g.d).toArray) = w3 at *
 have HD3 := hid (HD2.out.kept0 HA3.out)
 have HRX : Hid (∀ ty : Nat, ty ≠ 134 → ∀ k ∈ [R], ∀ cur m, w.heap[k]? ≠ some (.cells cur ty m)) := hid (fun ty hty k hk cur m q => by
  rw [List.mem_singleton.1 hk, HRb.out] at q
  simp only [Option.some.injEq, Obj.cells.injEq] at q
  exact hty q.2.1.symm)
 have HO3 : Hid (Dk w3 O r so) := hid ((HO.out.other HA2.out (fun hm => HRO.out (List.mem_singleton.1 hm).symm) (HRX.out _ (by decide))).kept0 HA3.out)
 have HN3 : Hid (Nw wB w3 96 3 so (tgL r.ts)) := hid ⟨own_apart (own_apart HN.out.own HA2.out (fun k hk hm => by
  obtain ⟨cur, q⟩ := own_typ HN.out.own hk
  exact HRX.out _ (by decide) k hm cur _ q)) HA3.out (fun k hk hm => by simp at hm), HN.out.new, HD3.out.ap⟩
 clear HBe HAe HD2 HA2 HA3 HC HO HN HRb HRX Hub Hul0
 go_upto_region 2 with fail
 go_loopw [8] (fun v8 wt => ∃ (i : Nat) (so : Sl), v8 = .int .i64 (i : Int) ∧ i ≤ 8 ∧ Hid (Dk wt O { r with ts := r.ts ++ tagL e u i } so) ∧ Hid (Nw wB wt 96 3 so (tgL (r.ts ++ tagL e u i))) ∧ Hid (Dr wB wt R s bs q0 (gb || overB r.c u i)) ∧ Hid (wt.heap[A]? = some (.cells (rv u).toArray 60 (0, 0)))) (fun v8 _ => 8 - natV v8)
 case atStart => exact ⟨0, so, rfl, Nat.zero_le _, hid (by show Dk w3 O { r with ts := r.ts ++ [] } so; rw [List.append_nil]; exact HO3.out), hid (by show Nw wB w3 96 3 so (tgL (r.ts ++ [])); rw [List.append_nil]; exact HN3.out), hid (by show Dr wB w3 R s bs q0 (gb || false); rw [Bool.or_false]; exact HD3.out), HBA1⟩
 case round =>
  clear HO3 HN3 HD3 HBA1
  obtain ⟨i, so, rfl, hi8, HO, HN, HD, HBA⟩ := hrel
  generalize wr = wt at *
  obtain ⟨ts, Hts⟩ : ∃ t, Hid (t = r.ts ++ tagL e u i) := ⟨_, hid rfl⟩
  obtain ⟨b1, Hb1⟩ : ∃ t, Hid (t = (gb || overB r.c u i)) := ⟨_, hid rfl⟩
  rw [← Hts.out] at HO HN
  rw [← Hb1.out] at HD
  by_cases hlt : i < 8
  ·have hlti : ((i : Nat) : Int) < 8 := by omega
   have Hi := hid hlt
   have Hi8 : Hid (¬ (8 : Int) ≤ (i : Int)) := hid (by omega)
   obtain ⟨x, Hxe⟩ : ∃ x, Hid (x = u.getD i 0) := ⟨_, hid rfl⟩
   obtain ⟨m, Hme⟩ : ∃ x, Hid (x = r.c.getD i 0) := ⟨_, hid rfl⟩
   have HAl := hid (lt_of_heap HBA.out)
   have HOl := hid (lt_of_heap HO.out.dv.blk)
   have Hzx : Hid (wt.cell? ⟨A, i, none⟩ = some (.int .i64 x)) := hid (by rw [rcell60 HBA.out Hul.out Hi.out, Hxe.out])
   have Hzm : Hid (wt.cell? ⟨O, 17 + i, none⟩ = some (.int .i64 m)) := hid (by rw [HO.out.dv.count Hi.out, Hme.out])
   obtain ⟨gt, Hgte⟩ : ∃ b, Hid (b = decide (m < x)) := ⟨_, hid rfl⟩
   have Hgt : Hid (decide (m < x) = gt) := hid Hgte.out.symm
   have Htl : Hid (ts.length ≤ 9008) := hid (by rw [Hts.out, List.length_append]; have := tagL_len e u i; have := Hl.out; omega)
   go_upto_region 4 with fail
   go_cut [27] from 18 to 27 (fun v wx => v = .bool gt ∧ Apart [] wt wx)
   case first =>
    clear HO HN HD HBA
    refine wp_region_held_drew (S := fun W => Apart [] wt W) (by kernel_rfl) (Apart.refl [] wt).drew fun hHeld => ?_
    generalize wt.drew = wd at *
    refine zt 0 18 ?_
    simp only [zA,zB,zC,zD,zF]
    refine tk 1 19 (.pointer (some ⟨A, i, none⟩)) rfl ?_ ?_
    ·intro W hSW; have h8 := Hi8.out; go_simp
    refine zu 2 20 rfl (fun W hSW => by have z : W.cell? ⟨A, i, none⟩ = some (.int .i64 x) := (hSW.cell HAl.out (by simp)).trans Hzx.out; go_simp <;> rfl) ?_
    refine zt 3 21 ?_
    refine zt 4 22 ?_
    refine zt 5 23 ?_
    refine zt 6 24 ?_
    simp only [zA,zB,zC,zD,zF]
    refine tk 7 25 (.pointer (some ⟨O, 17 + i, none⟩)) rfl ?_ ?_
    ·intro W hSW; have h8 := Hi8.out; go_simp
    refine zu 8 26 rfl (fun W hSW => by have z : W.cell? ⟨O, 17 + i, none⟩ = some (.int .i64 m) := (hSW.cell HOl.out (by simp)).trans Hzm.out; go_simp <;> rfl) ?_
    simp only [zA,zB,zC,zD,zF]
    refine tk 9 27 (.bool gt) rfl ?_ ?_
    ·intro W hSW; have h := Hgt.out; go_simp
    simp only [zA,zB,zC,zD,zF]
    refine wpAnyH_done (by kernel_rfl) ?_ _
    have HAt := hid hHeld
    clear hHeld
    go_wp2_with fail
    go_meet
    exact ⟨rfl, HAt.out⟩
   obtain ⟨rfl, apc⟩ := hcut
   have HO5 := hid (HO.out.kept0 apc)
   have HN5 := hid (HN.out.kept apc)
   have HD5 := hid (HD.out.kept0 apc)
   have HBA5 := hid (keep0 apc HBA.out)
   clear apc HO HN HD HBA Hzx Hzm Hgt
   generalize wc = w5 at *
   obtain ⟨b0, Hb0⟩ : ∃ b, Hid (b = (b1 || gt)) := ⟨_, hid rfl⟩
   have Hnb : Hid ((gb || overB r.c u (i + 1)) = b0) := hid (by rw [Hb0.out, Hb1.out, Hgte.out, Hme.out, Hxe.out, overB_succ, Bool.or_assoc])
   rename_i KQ hKQ
   refine hKQ _ _ ?_
   clear hKQ
   go_cut [] from 27 to 30 (fun wx => Hid (Dk wx O { r with ts := ts } so) ∧ Hid (Nw wB wx 96 3 so (tgL ts)) ∧ Hid (Dr wB wx R s bs q0 b0) ∧ Hid (wx.heap[A]? = some (.cells (rv u).toArray 60 (0, 0))))
   case first =>
    cases hgt : gt
    case false =>
     go_wp2_with fail
     go_meet
     exact ⟨HO5, HN5, hid (by rw [Hb0.out, hgt, Bool.or_false]; exact HD5.out), HBA5⟩
    case true =>
     have z2 := HD5.out.c2
     have f2 := HD5.out.fr 2
     have HS5 : Hid (Apart [R] w5 (w5.setCell ⟨R, 2, none⟩ (.bool true))) := hid ((Apart.refl [R] w5).setCell (.inl (by simp)) _)
     have HX5 : Hid (∀ ty : Nat, ty ≠ 134 → ∀ k ∈ [R], ∀ cur m, w5.heap[k]? ≠ some (.cells cur ty m)) := hid (fun ty hty k hk cur m q => by
      rw [List.mem_singleton.1 hk, HD5.out.blk] at q
      simp only [Option.some.injEq, Obj.cells.injEq] at q
      exact hty q.2.1.symm)
     have HDn := hid HD5.out.setBad
     go_wp2_with fail
     go_meet
     exact ⟨hid (HO5.out.other HS5.out (fun hm => HRO.out (List.mem_singleton.1 hm).symm) (HX5.out _ (by decide))), hid ⟨own_apart HN5.out.own HS5.out (fun k hk hm => by
      obtain ⟨cur, q⟩ := own_typ HN5.out.own hk
      exact HX5.out _ (by decide) k hm cur _ q), HN5.out.new, HDn.out.ap⟩, hid (by rw [Hb0.out, hgt, Bool.or_true]; exact HDn.out), hid ((HS5.out.block A (lt_of_heap HBA5.out) (fun hm => HX5.out _ (by decide) A hm _ _ HBA5.out)).trans HBA5.out)⟩
   have HQQ := hid hcut
   clear hcut HO5 HN5 HD5 HBA5
   generalize wc = w6 at *
   have HO6 := HQQ.out.1
   have HN6 := HQQ.out.2.1
   have HD6 := HQQ.out.2.2.1
   have HBA6 := HQQ.out.2.2.2
   clear HQQ
   have HB6 := hid HO6.out.dv.blk
   obtain ⟨n, Hxn⟩ : ∃ n : Nat, Hid (x = (n : Int)) := ⟨x.toNat, hid (by have := (Hub2.out i Hi.out).1; rw [← Hxe.out] at this; omega)⟩
   have zx : w6.cell? ⟨A, i, none⟩ = some (.int .i64 (n : Int)) := by rw [rcell60 HBA6.out Hul.out Hi.out, ← Hxe.out, Hxn.out]
   have hi8n := Hi8.out
   by_cases hp : 0 < n
   ·have hpi : ((n : Nat) : Int) > 0 := by omega
    have Hnt : Hid (r.ts ++ tagL e u (i + 1) = ts ++ [⟨e, i, n⟩]) := hid (by
     rw [Hts.out, tagL_succ, if_pos (by rw [← Hxe.out, Hxn.out]; exact hpi), List.append_assoc, ← Hxe.out, Hxn.out]
     rfl)
    have Hl7 : Hid (r.u.length = 8 ∧ r.d.length = 8 ∧ r.c.length = 8) := hid ⟨HO6.out.dv.lu, HO6.out.dv.ld, HO6.out.dv.lc⟩
    have Hson : Hid (so.n = ts.length) := hid HO6.out.dv.len
    obtain ⟨x5, Hx5⟩ : ∃ x : Rv, Hid (x = { r with ts := ts }) := ⟨_, hid rfl⟩
    have HB6' : Hid (w6.heap[O]? = some (.cells (dCells x5 so).toArray 63 (0, 0))) := hid (by rw [Hx5.out]; exact HB6.out)
    have Hl7' : Hid (x5.u.length = 8 ∧ x5.d.length = 8 ∧ x5.c.length = 8) := hid (by rw [Hx5.out]; exact Hl7.out)
    clear Hl7 HB6 hp
    have HB6 := HB6'
    have Hl7 := Hl7'
    clear HB6' Hl7'
    go_upto_region 7 with fail
    clear zx hi8n
    have HBd := hid (keep0 ((Apart.refl [] w6).drew) HB6.out)
    have HNd := hid (HN6.out.kept ((Apart.refl [] w6).drew))
    have HAd := hid (keep0 ((Apart.refl [] w6).drew) HBA6.out)
    have HRd := hid (HD6.out.kept0 ((Apart.refl [] w6).drew))
    have hAd : Sxb x5 O A u w6.drew := ⟨⟨so, HBd.out⟩, HAd.out⟩
    refine wp_region_held_drew (S := Sxb x5 O A u) (by kernel_rfl) hAd (fun hHeld => ?_)
    generalize w6.drew = wd at *
    clear hAd
    obtain ⟨s9, w9, hrun, n9, l9, a9⟩ := app_tag HNd.out ⟨e, i, n⟩ (by have h1 := Hson.out; have h2 := Htl.out; omega)
    have HR := hid hrun
    have HB9 : Hid (w9.heap[O]? = some (.cells (dCells x5 so).toArray 63 (0, 0))) := hid ((a9.block O (lt_of_heap HBd.out) (fun hm => by
     obtain ⟨cur, q⟩ := own_typ HNd.out.own (k := O) (by simpa using hm)
     rw [HBd.out] at q
     simp at q)).trans HBd.out)
    have HA9 : Hid (w9.heap[A]? = some (.cells (rv u).toArray 60 (0, 0))) := hid ((a9.block A (lt_of_heap HAd.out) (fun hm => by
     obtain ⟨cur, q⟩ := own_typ HNd.out.own (k := A) (by simpa using hm)
     rw [HAd.out] at q
     simp at q)).trans HAd.out)
    have HR9 : Hid (Dr wB w9 R s bs q0 b0) := hid (HRd.out.kept a9 (fun hm => by
     obtain ⟨cur, q⟩ := own_typ HNd.out.own (k := R) (by simpa using hm)
     rw [HRd.out.blk] at q
     simp at q) (fun y hy => HNd.out.new y (by simpa using hy)))
    have HDn := hid (Dk.put2 HB9.out Hl7.out n9 (by rw [l9, Hson.out, List.length_append]; rfl))
    have HSo : Hid (Apart [O] w9 (w9.setCell ⟨O, 25, none⟩ (.slice s9.p s9.n s9.c))) := hid ((Apart.refl [O] w9).setCell (.inl (by simp)) _)
    have HNn : Hid (Nw wB (w9.setCell ⟨O, 25, none⟩ (.slice s9.p s9.n s9.c)) 96 3 s9 (tgL (ts ++ [⟨e, i, n⟩]))) := hid ⟨own_apart n9.own HSo.out (fun k hk hm => by
     obtain ⟨cur, q⟩ := own_typ n9.own hk
     rw [List.mem_singleton.1 hm, HB9.out] at q
     simp at q), n9.new, n9.ap.setCell (.inr HOn.out) _⟩
    have HAn : Hid ((w9.setCell ⟨O, 25, none⟩ (.slice s9.p s9.n s9.c)).heap[A]? = some (.cells (rv u).toArray 60 (0, 0))) := hid ((HSo.out.block A (lt_of_heap HA9.out) (fun hm => by
     have q := HA9.out
     rw [List.mem_singleton.1 hm, HB9.out] at q
     simp at q)).trans HA9.out)
    have HRn : Hid (Dr wB (w9.setCell ⟨O, 25, none⟩ (.slice s9.p s9.n s9.c)) R s bs q0 b0) := hid (HR9.out.kept HSo.out (fun hm => by
     have q := HR9.out.blk
     rw [List.mem_singleton.1 hm, HB9.out] at q
     simp at q) (fun y hy => by rw [List.mem_singleton.1 hy]; exact HOn.out))
    clear hrun n9 l9 a9
    refine zt 0 35 ?_
    refine zt 1 36 ?_
    refine zt 2 37 ?_
    refine zt 3 38 ?_
    refine zt 5 40 ?_
    refine zt 6 41 ?_
    refine zt 7 42 ?_
    simp only [zA,zB,zC,zD,zF]
    refine tk 8 43 (.pointer (some ⟨A, i, none⟩)) rfl ?_ ?_
    ·intro W hSW; have h8 := Hi8.out; go_simp
    refine zu 9 44 rfl (fun W hSW => by have z : W.cell? ⟨A, i, none⟩ = some (.int .i64 (n : Nat)) := (rcell60 hSW.2 Hul.out Hi.out).trans (by rw [← Hxe.out, Hxn.out]); go_simp <;> rfl) ?_
    simp only [zA,zB,zC,zD,zF]
    refine tk 10 45 (.agg #[.string e, .int .i64 (i : Int), .int .i64 (n : Int)]) rfl ?_ ?_
    ·intro W hSW; exact ex_build96 _ _ _ rfl rfl rfl rfl
    simp only [zA,zB,zC,zD,zF]
    have HBa := hid (keep0 ((Apart.refl [] wd).alloc (.cells #[.string e, .int .i64 (i : Int), .int .i64 (n : Int)] 96)) HBd.out)
    have HAa := hid (keep0 ((Apart.refl [] wd).alloc (.cells #[.string e, .int .i64 (i : Int), .int .i64 (n : Int)] 96)) HAd.out)
    refine wpAnyH_ready (rs := [4, 11]) (by kernel_rfl) (by simp) ?_
    refine AllReadyH.cons rfl (fun KK hKK => ?_) (AllReadyH.cons rfl (fun KK hKK => ?_) AllReadyH.nil)
    ·
     have z := cell25 HBd.out Hl7.out
     go_simp
     refine hKK.out _ _ (⟨⟨so, HBd.out⟩, HAd.out⟩) (fun hHeld => ?_)
     clear hKK KK z
     try simp only [zA,zB,zC,zD,zF]
     refine zQ 11 fun KK hKK => ?_
     go_simp
     refine hKK.out _ _ (⟨⟨so, HBa.out⟩, HAa.out⟩) (fun hHeld => ?_)
     clear hKK KK
     try simp only [zA,zB,zC,zD,zF]
     refine zQ 12 fun KK hKK => ?_
     refine step_app2 rfl _ _ 61 61 rfl _ _ rfl rfl (.slice s9.p s9.n s9.c) w9 HR.out ?_
     refine hKK.out _ _ (⟨⟨so, HB9.out⟩, HA9.out⟩) (fun hHeld => ?_)
     clear hKK KK HR
     try simp only [zA,zB,zC,zD,zF]
     refine zt 13 48 ?_
     refine zt 14 49 ?_
     simp only [zA,zB,zC,zD,zF]
     refine zQ 15 fun KK hKK => ?_
     have z := cell25 HB9.out Hl7.out
     have f : w9.frozen? ⟨O, 25, none⟩ = false := frozen_of_row _ _ _ _ _ HB9.out
     go_simp
     refine hKK.out _ _ (⟨⟨s9, HDn.out.dv.blk⟩, HAn.out⟩) (fun hHeld => ?_)
     clear hKK KK z f
     try simp only [zA,zB,zC,zD,zF]
     refine wpAnyH_done (by kernel_rfl) ?_ _
     have HX9 : Hid (Dk (w9.setCell ⟨O, 25, none⟩ (.slice s9.p s9.n s9.c)) O { r with ts := ts ++ [⟨e, i, n⟩] } s9) := hid (by have k9 := HDn.out; rw [Hx5.out] at k9; exact k9)
     go_wp2_with fail
     exact ⟨⟨i + 1, s9, by go_num, by omega, by rw [Hnt.out]; exact HX9, by rw [Hnt.out]; exact HNn, by rw [Hnb.out]; exact HRn, HAn⟩, by simp [natV]; omega⟩
    ·
     go_simp
     refine hKK.out _ _ (⟨⟨so, HBa.out⟩, HAa.out⟩) (fun hHeld => ?_)
     clear hKK KK
     try simp only [zA,zB,zC,zD,zF]
     refine zQ 4 fun KK hKK => ?_
     have z := cell25 HBa.out Hl7.out
     go_simp
     refine hKK.out _ _ (⟨⟨so, HBa.out⟩, HAa.out⟩) (fun hHeld => ?_)
     clear hKK KK z
     try simp only [zA,zB,zC,zD,zF]
     refine zQ 12 fun KK hKK => ?_
     refine step_app2 rfl _ _ 61 61 rfl _ _ rfl rfl (.slice s9.p s9.n s9.c) w9 HR.out ?_
     refine hKK.out _ _ (⟨⟨so, HB9.out⟩, HA9.out⟩) (fun hHeld => ?_)
     clear hKK KK HR
     try simp only [zA,zB,zC,zD,zF]
     refine zt 13 48 ?_
     refine zt 14 49 ?_
     simp only [zA,zB,zC,zD,zF]
     refine zQ 15 fun KK hKK => ?_
     have z := cell25 HB9.out Hl7.out
     have f : w9.frozen? ⟨O, 25, none⟩ = false := frozen_of_row _ _ _ _ _ HB9.out
     go_simp
     refine hKK.out _ _ (⟨⟨s9, HDn.out.dv.blk⟩, HAn.out⟩) (fun hHeld => ?_)
     clear hKK KK z f
     try simp only [zA,zB,zC,zD,zF]
     refine wpAnyH_done (by kernel_rfl) ?_ _
     have HX9 : Hid (Dk (w9.setCell ⟨O, 25, none⟩ (.slice s9.p s9.n s9.c)) O { r with ts := ts ++ [⟨e, i, n⟩] } s9) := hid (by have k9 := HDn.out; rw [Hx5.out] at k9; exact k9)
     go_wp2_with fail
     exact ⟨⟨i + 1, s9, by go_num, by omega, by rw [Hnt.out]; exact HX9, by rw [Hnt.out]; exact HNn, by rw [Hnb.out]; exact HRn, HAn⟩, by simp [natV]; omega⟩
   ·have hpi : ¬ ((n : Nat) : Int) > 0 := by omega
    have Hnt : Hid (r.ts ++ tagL e u (i + 1) = ts) := hid (by
     rw [Hts.out, tagL_succ, if_neg (by rw [← Hxe.out, Hxn.out]; exact hpi)])
    clear hp
    go_wp2_with fail
    exact ⟨⟨i + 1, so, by go_num, by omega, by rw [Hnt.out]; exact HO6, by rw [Hnt.out]; exact HN6, by rw [Hnb.out]; exact HD6, HBA6⟩, by simp [natV]; omega⟩
  ·have hlti : ¬ ((i : Nat) : Int) < 8 := by omega
   obtain rfl : i = 8 := by omega
   go_wp2_with fail
   go_end0
   refine ⟨rfl, ?_, so, ?_, ?_⟩
   ·rw [← Hb1.out]; exact HD.out
   ·rw [← Hts.out]; exact HO.out
   ·rw [← Hts.out]; exact HN.out
end Go.Proofs.YtdbeeikjngnnnaaGreat.ty
