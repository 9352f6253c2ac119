import Derived.Test.YtdbeeikjngnnnaaGreatC45
namespace Go.Proofs.YtdbeeikjngnnnaaGreat.ty
open Go.ChangeShapes Go.WideShapes Go.ChangeAt Go.RowKit
set_option linter.unusedVariables false
set_option linter.unusedSimpArgs false
set_option maxRecDepth 100000
set_option maxHeartbeats 8000000
variable {wB w w' w2 : World} {T k : Nat} {p r : Nat → Nat} {v : Nat → Vl} {ts : Nat → List Tg} {H L : List Sl} {sH sL : Sl} {h : Nat → Prop}
theorem Wq.nb {B : Nat} {w w0 : World} {b : Sl} (q : Wq B w b) (t : Tb wB w0 T k p r v ts H L sH sL h) (hB : w0.heap.size ≤ B) : ∀ g, b.v.ownBlock = some g → ¬ h g ∧ sH.v.ownBlock ≠ some g := by
 intro g hg
 have h1 : B ≤ g := by
  rcases q with ⟨q, -⟩ | ⟨g', cur, m, q1, q2, -⟩
  ·rw [Sl.v, q] at hg; simp [Value.ownBlock] at hg
  ·rw [Sl.v, q1] at hg
   obtain rfl : g' = g := by simpa [Value.ownBlock] using hg
   exact q2
 refine ⟨fun hh => ?_, fun hh => ?_⟩
 ·obtain ⟨-, ⟨cur, m, e⟩, -⟩ := t.hh g hh
  have : g < w0.heap.size := e.elim lt_of_heapM lt_of_heapM
  omega
 ·obtain ⟨cur, e⟩ := own_typ t.nh.own hh
  have := lt_of_heap e
  omega
theorem Wq.lt {B : Nat} {w : World} {b : Sl} (q : Wq B w b) {g : Nat} (hg : b.v.ownBlock = some g) : g < w.heap.size ∧ b.p = some ⟨g, 0, none⟩ ∧ ∃ cur m, w.heap[g]? = some (.cells cur 5 m) := by
 rcases q with ⟨q, -⟩ | ⟨g', cur, m, q1, q2, q3, -⟩
 ·rw [Sl.v, q] at hg; simp [Value.ownBlock] at hg
 ·rw [Sl.v, q1] at hg
  obtain rfl : g' = g := by simpa [Value.ownBlock] using hg
  exact ⟨lt_of_heapM q3, q1, cur, m, q3⟩
structure Lk (wB w : World) (sH : Sl) (h : Nat → Prop) (l : List Sl) (s : Sl) (k : Nat) : Prop where
 row : w.ownsRow 0 29 1 s.v s.n (svs l)
 rn : ∀ P, s.v.ownBlock = some P → wB.heap.size ≤ P ∧ ¬ h P ∧ sH.v.ownBlock ≠ some P
 el : ∀ j b, k ≤ j → l[j]? = some b → Wq wB.heap.size w b ∧ b.n ≤ 8 ∧ ∀ g, b.v.ownBlock = some g → ¬ h g ∧ sH.v.ownBlock ≠ some g
 dis : l.Pairwise fun a b => a.p ≠ b.p
theorem Lk.next {sH' b : Sl} {h' : Nat → Prop} {l : List Sl} {s : Sl} {q : Nat} (x : Lk wB w sH h l s q) (t : Tb wB w T k p r v ts H L sH sL h) (hb : l[q]? = some b) (kp : KP w w' T sH sH' b h h') : Lk wB w' sH' h' l s (q + 1) := by
 obtain ⟨qb, -, -⟩ := x.el q b (Nat.le_refl _) hb
 have hrow : ∀ P, s.v.ownBlock = some P → P ∉ T :: (sH.v.ownBlock.toList ++ b.v.ownBlock.toList) ∧ P < w.heap.size := fun P hP => by
  obtain ⟨cur, e⟩ := own_typ x.row hP
  refine ⟨fun hm => ?_, lt_of_heap e⟩
  rcases List.mem_cons.1 hm with rfl | hm
  ·rw [t.blk] at e; simp at e
  ·rcases List.mem_append.1 hm with hm | hm
   ·exact (x.rn P hP).2.2 (by simpa using hm)
   ·obtain ⟨-, -, c, m, e2⟩ := qb.lt (g := P) (by simpa using hm)
    rw [e] at e2; simp at e2
 refine ⟨own_apart x.row kp.ap (fun P hP => (hrow P hP).1), fun P hP => ?_, fun j b' hj hb' => ?_, x.dis⟩
 ·obtain ⟨r1, r2, r3⟩ := x.rn P hP
  refine ⟨r1, fun hh => ?_, fun hh => ?_⟩
  ·rcases kp.hs P hh with e | e | e
   ·exact r2 e
   ·exact (hrow P hP).1 (by simp [e])
   ·have := (hrow P hP).2; omega
  ·rcases kp.own P hh with e | e
   ·exact r3 e
   ·have := (hrow P hP).2; omega
 ·obtain ⟨q1, q2, q3⟩ := x.el j b' (by omega) hb'
  have hne : b.p ≠ b'.p := by
   have hq := (List.getElem?_eq_some_iff.1 hb)
   have hj2 := (List.getElem?_eq_some_iff.1 hb')
   have := List.pairwise_iff_getElem.1 x.dis q j hq.1 hj2.1 (by omega)
   rw [hq.2, hj2.2] at this
   exact this
  have hg : ∀ g, b'.v.ownBlock = some g → g ∉ T :: (sH.v.ownBlock.toList ++ b.v.ownBlock.toList) ∧ b.v.ownBlock ≠ some g := fun g hg => by
   obtain ⟨e1, e2, c, m, e3⟩ := q1.lt hg
   have hbn : b.v.ownBlock ≠ some g := fun e => by
    obtain ⟨-, e4, -⟩ := qb.lt e
    exact hne (e4.trans e2.symm)
   refine ⟨fun hm => ?_, hbn⟩
   rcases List.mem_cons.1 hm with rfl | hm
   ·rw [t.blk] at e3; simp at e3
   ·rcases List.mem_append.1 hm with hm | hm
    ·exact (q3 g hg).2 (by simpa using hm)
    ·exact hbn (by simpa using hm)
  refine ⟨q1.kept kp.ap (fun g e => (hg g (by rw [Sl.v, e]; rfl)).1), q2, fun g hgg => ⟨fun hh => ?_, fun hh => ?_⟩⟩
  ·rcases kp.hs g hh with e | e | e
   ·exact (q3 g hgg).1 e
   ·exact (hg g hgg).2 e
   ·have := (q1.lt hgg).1; omega
  ·rcases kp.own g hh with e | e
   ·exact (q3 g hgg).2 e
   ·have := (q1.lt hgg).1; omega
theorem Ss.kpt {sH' b : Sl} {h' : Nat → Prop} {s : Sl} {l : List ByteArray} (x : Ss w s l) (t : Tb wB w T k p r v ts H L sH sL h) (qb : Wq wB.heap.size w b) (kp : KP w w' T sH sH' b h h') : Ss w' s l := ⟨x.rd.kept kp.ap (fun q hq cur m e => by
 rcases List.mem_cons.1 hq with rfl | hq
 ·rw [t.blk] at e; simp at e
 ·rcases List.mem_append.1 hq with hq | hq
  ·obtain ⟨c, e2⟩ := own_typ t.nh.own (k := q) (by simpa using hq)
   rw [e2] at e; simp at e
  ·obtain ⟨-, -, c, m2, e2⟩ := qb.lt (g := q) (by simpa using hq)
   rw [e2] at e; simp at e), x.len, x.cap, x.ok⟩
theorem bsk_eq (x : ByteArray) : strB (bsk x) = x := strB_bsk x
theorem info46 : (Tryz.prog.info? 46).map (fun i => (i.zero, i.size, i.bytes)) = some (some (.slice none 0 0), 1, 24) := by kernel_rfl
theorem own_pp {w : World} {s : Sl} {us : List Value} {n : Nat} (h : w.ownsRow 0 29 1 s.v n us) {P : Nat} (hP : s.v.ownBlock = some P) : s.p = some ⟨P, 0, none⟩ := by
 obtain ⟨ho, ⟨hv, hz⟩ | ⟨g, cap, cu, hv, hb, hr, hle, hm, hs, ht⟩⟩ := h
 ·rw [hv] at hP; simp [Value.ownBlock] at hP
 ·rw [hv] at hP
  obtain rfl : g = P := by simpa [Value.ownBlock] using hP
  simp only [Sl.v, Value.slice.injEq] at hv
  exact hv.1
theorem grown_ok {wB w14 w15 : World} {s s' : Sl} {n : Nat} {MV u : Value} (h14 : Nw wB w14 29 1 s (List.replicate n MV)) (hsn : s.n = n) (hs' : s'.n = s.n + 2) (or : (s'.p = s.p ∧ s'.c = s.c ∧ (s.p ≠ none ∧ s.n + 2 ≤ s.c) ∧ Nw wB w15 29 1 s' (List.replicate n MV ++ [MV, MV]) ∧ Apart s.v.ownBlock.toList w14 w15) ∨ (Nw w14 w15 29 1 s' (List.replicate n MV ++ [MV, MV]) ∧ Apart [] w14 w15 ∧ (s.p ≠ none → s.c < s.n + 2))) : ∃ g, s'.p = some ⟨g, 0, none⟩ ∧ (∃ cur, w15.heap[g]? = some (.cells cur 29 (0, 0))) ∧ (∃ x, w15.cell? ⟨g, n + 1, none⟩ = some x) ∧ Apart s.v.ownBlock.toList w14 (w15.setCell ⟨g, n + 1, none⟩ u) ∧ (∀ P, s.v.ownBlock = some P → s.p = some ⟨P, 0, none⟩ ∧ (∃ cur, (w15.setCell ⟨g, n + 1, none⟩ u).heap[P]? = some (.cells cur 29 (0, 0))) ∧ ∀ j, j < n → (w15.setCell ⟨g, n + 1, none⟩ u).cell? ⟨P, j, none⟩ = some MV) := by
 have key : ∀ {s' : Sl} {w15 : World}, w15.ownsRow 0 29 1 s'.v s'.n (List.replicate n MV ++ [MV, MV]) → ∃ g cur, s'.p = some ⟨g, 0, none⟩ ∧ w15.heap[g]? = some (.cells cur 29 (0, 0)) ∧ ∀ j, j < n + 2 → cur[j]? = some MV := fun {s' w15} ho => by
  obtain ⟨g, hp, hlt, ⟨cur, hc⟩, hrow⟩ := own_at ho (by simp)
  refine ⟨g, cur, hp, hc, fun j hj => ?_⟩
  have h1 := hrow j MV (by
   rw [show [MV, MV] = List.replicate 2 MV from rfl, List.replicate_append_replicate, List.getElem?_replicate, if_pos hj])
  rw [cell_of_row _ _ _ _ _ _ hc] at h1
  exact h1
 rcases or with ⟨o1, o2, o3, o4, o5⟩ | ⟨o4, o5, -⟩
 ·obtain ⟨g, cur, hp, hc, hj⟩ := key o4.own
  have hob : s.v.ownBlock = some g := by rw [← ownp o1, Sl.v, hp]; rfl
  refine ⟨g, hp, ⟨cur, hc⟩, ⟨MV, by rw [cell_of_row _ _ _ _ _ _ hc]; exact hj (n + 1) (by omega)⟩, o5.setCell (.inl (by rw [hob]; simp)) _, fun P hP => ?_⟩
  rw [hob] at hP
  obtain rfl : g = P := by simpa using hP
  have hs := setM_heap (o := n + 1) hc u
  refine ⟨by rw [← o1]; exact hp, ⟨_, hs⟩, fun j hjn => ?_⟩
  rw [cell_of_row _ _ _ _ _ _ hs, Array.getElem?_setIfInBounds, if_neg (by omega)]
  exact hj j (by omega)
 ·obtain ⟨g, cur, hp, hc, hj⟩ := key o4.own
  have hg : w14.heap.size ≤ g := o4.new g (by rw [Sl.v, hp]; rfl)
  have ha : Apart [] w14 (w15.setCell ⟨g, n + 1, none⟩ u) := o5.setCell (.inr hg) _
  refine ⟨g, hp, ⟨cur, hc⟩, ⟨MV, by rw [cell_of_row _ _ _ _ _ _ hc]; exact hj (n + 1) (by omega)⟩, ha.mono (by simp), fun P hP => ?_⟩
  obtain ⟨cu, e⟩ := own_typ h14.own hP
  have hpp := own_pp h14.own hP
  refine ⟨hpp, ⟨cu, keep0 ha e⟩, fun j hjn => ?_⟩
  obtain ⟨P', hp', hlt', -, hrow'⟩ := own_at h14.own (by simp; omega)
  obtain rfl : P = P' := by rw [hpp] at hp'; simpa using hp'
  exact (ha.cell hlt' (by simp)).trans (hrow' j MV (by simp [hjn]))
theorem looks_ok (t : Tb wB w T k p r v ts H L sH sL h) {i : Nat} (hi : i < 4) (hH : H.length ≤ 500000000) (hL : L.length ≤ 500000000) : Calls Tryz.prog 12 #[.pointer (some ⟨T, 0, none⟩), .int .i64 (i : Int)] w fun x w' => StP wB T k H L x w' := by
 have HT := hid t
 have Hi := hid hi
 have HHl := hid hH
 have HLl := hid hL
 have h4 : ¬ (4 : Int) ≤ (i : Int) := by omega
 have Hiv := hid (t.iv i hi)
 have Hrl := hid (t.rl i hi)
 have Hok : Hid (Ok (v i) ∧ OkF (v i)) := hid ⟨(t.rl i hi).ok (t.iv i hi).gt.1, (t.rl i hi).okF (t.iv i hi).gt.1⟩
 have HBw := hid t.ap.size
 have zp := t.cp hi
 have HBy := hid (Bytes_w (t.pv i hi) Hok.out.2)
 obtain ⟨z, Hz⟩ : ∃ z, Hid (z = wzV (v i)) := ⟨_, hid rfl⟩
 rw [← Hz.out] at HBy
 clear t hi hH hL
 go_enter Tryz.func12, Tryz.ntmps12
 go_upto_region 2 with (
  go_at_call 17
  refine HBy.out.mono ?_
  rintro _ w1 ⟨s1, rfl, q1, k1, a1⟩
  have HT1 := hid (HT.out.kept0 a1)
  have Hq1 := hid q1
  have Hk1 := hid k1
  clear q1 k1 a1)
 clear zp HBy
 have zr := HT1.out.cr Hi.out
 obtain ⟨s0, hs0⟩ := HT1.out.rv i Hi.out
 have HRb := hid (rbytes_ok hs0 Hrl.out Hiv.out)
 rw [← Hz.out] at HRb
 clear hs0
 go_upto_region 3 with (
  go_at_call 23
  refine HRb.out.mono ?_
  rintro _ w2 ⟨s2, rfl, q2, a2⟩
  have HT2 := hid (HT1.out.kept0 a2)
  have HAl := hid (alikeq (Hq1.out.kept0 a2) q2)
  have Hk2 := hid (Hk1.out.kept0 a2)
  clear q2 a2)
 clear zr HRb HT1 Hk1
 have hne : (z != z) = false := by simp
 go_upto_region 5 with (go_at_call 18; refine HAl.out.mono ?_; rintro _ wn ⟨rfl, hwn⟩; rw [hwn]; clear hwn)
 clear hne HAl
 have Hn1 : Hid (s1.n ≤ 64) := hid (by rw [← Hq1.out.len]; exact bz_len _)
 have HKp := hid (keep_ok HT2.out (Hk2.out.mono HBw.out) (Hk2.out.nb HT.out (Nat.le_refl _)) (by have := Hn1.out; omega) (by have := HHl.out; omega))
 go_upto_region 6 with (
  go_at_call 26
  refine HKp.out.mono ?_
  rintro _ w3 ⟨rfl, f3, sH3, h3, t3, k3, n3⟩
  have HT3 := hid t3
  have Hf3 := hid n3
  clear t3 k3 n3)
 clear HKp Hk2 HT2 Hq1
 have zp := HT3.out.cp Hi.out
 have HTx0 := hid (Text_w (HT3.out.pv i Hi.out) Hok.out.1)
 go_upto_region 7 with (
  go_at_call 27
  refine HTx0.out.mono ?_
  rintro _ w4 ⟨x, rfl, a4, q4, k4⟩
  have HT4 := hid (HT3.out.kept0 a4)
  have Hq4 := hid q4
  have Hk4 := hid k4
  clear a4 q4 k4)
 clear zp HTx0
 obtain ⟨su, Hsu⟩ : ∃ su, Hid (su = sumR (v i)) := ⟨_, hid rfl⟩
 obtain ⟨on, Hon⟩ : ∃ on, Hid (on = onR (v i)) := ⟨_, hid rfl⟩
 obtain ⟨tx, Htx⟩ : ∃ tx, Hid (tx = (rvO (v i) (ts i)).tx) := ⟨_, hid rfl⟩
 obtain ⟨s0, hs0⟩ := HT4.out.rv i Hi.out
 have HTl := hid (lt_of_heap HT4.out.blk)
 have HSu : Hid (∀ W, Apart [] w4 W → Calls Tryz.prog 16 #[.pointer (some ⟨p i, 0, none⟩)] W fun r w' => r = .returned (.int .i64 su) ∧ Apart [] W w') := hid (fun W hW => by rw [Hsu.out]; exact Sum_v ((HT4.out.pv i Hi.out).kept0 hW) Hok.out.1)
 have HSr : Hid (∀ W, Apart [] w4 W → Calls Tryz.prog 28 #[.pointer (some ⟨r i, 0, none⟩)] W fun r w' => r = .returned (.int .i64 su) ∧ Apart [] W w') := hid (fun W hW => by rw [Hsu.out]; exact rsum_v (hs0.kept0 hW) Hiv.out)
 have HOn : Hid (∀ W, Apart [] w4 W → Calls Tryz.prog 29 #[.pointer (some ⟨p i, 0, none⟩)] W fun r w' => r = .returned (.bool on) ∧ Apart [] W w') := hid (fun W hW => by rw [Hon.out]; exact On_v ((HT4.out.pv i Hi.out).kept0 hW) Hok.out.1)
 have HOr : Hid (∀ W, Apart [] w4 W → Calls Tryz.prog 30 #[.pointer (some ⟨r i, 0, none⟩)] W fun r w' => r = .returned (.bool on) ∧ Apart [] W w') := hid (fun W hW => by rw [Hon.out]; exact ron_v (hs0.kept0 hW) Hrl.out Hiv.out)
 have HCv : Hid (∀ W, Apart [] w4 W → Sem.run Tryz.prog (convert 29 9 (.slice x.p x.n x.c)) W = .ok (.string tx) W) := hid (fun W hW => by
  have e := conv_bytes (Hq4.out.kept0 hW).rd Hq4.out.len Hq4.out.ok
  rw [e, text_eq (v i) (ts i), Htx.out])
 have HTx : Hid (∀ W, Apart [] w4 W → W.cell? ⟨r i, 28, none⟩ = some (.string tx)) := hid (fun W hW => by rw [Htx.out]; exact (hs0.kept0 hW).dv.text)
 clear hs0 h4
 go_upto_region 7 with fail
 refine wp_region_held_drew (S := fun W => Apart [] w4 W) (by kernel_rfl) (Apart.refl [] w4).drew fun hHeld => ?_
 generalize w4.drew = wd at *
 refine zt 0 58 ?_
 refine zt 1 59 ?_
 refine zt 2 60 ?_
 refine zt 3 61 ?_
 simp only [zA,zB,zC,zD,zF]
 refine tk 4 62 (.pointer (some ⟨T, 1 + i, none⟩)) rfl ?_ ?_
 ·intro W hSW; have h4 : ¬ (4 : Int) ≤ (i : Int) := (by have := Hi.out; omega); go_simp
 refine zu 5 63 rfl (fun W hSW => by have z : W.cell? ⟨T, 1 + i, none⟩ = some (.pointer (some ⟨p i, 0, none⟩)) := (hSW.cell HTl.out (by simp)).trans (HT4.out.cp Hi.out); go_simp <;> rfl) ?_
 refine zt 7 65 ?_
 refine zt 8 66 ?_
 refine zt 9 67 ?_
 refine zt 10 68 ?_
 simp only [zA,zB,zC,zD,zF]
 refine tk 11 69 (.pointer (some ⟨T, 5 + i, none⟩)) rfl ?_ ?_
 ·intro W hSW; have h4 : ¬ (4 : Int) ≤ (i : Int) := (by have := Hi.out; omega); go_simp
 refine zu 12 70 rfl (fun W hSW => by have z : W.cell? ⟨T, 5 + i, none⟩ = some (.pointer (some ⟨r i, 0, none⟩)) := (hSW.cell HTl.out (by simp)).trans (HT4.out.cr Hi.out); go_simp <;> rfl) ?_
 simp only [zA,zB,zC,zD,zF]
 refine zQ 6 fun KK hKK => ?_
 go_simp
 refine (HSu.out wd hHeld).mono ?_
 rintro _ wa1 ⟨rfl, aX⟩
 have hHx := hHeld.trans aX
 try dsimp only
 refine hKK.out _ _ hHx (fun hHeld => ?_)
 clear hKK KK
 try simp only [zA,zB,zC,zD,zF]
 refine zQ 13 fun KK hKK => ?_
 go_simp
 refine (HSr.out wa1 hHeld).mono ?_
 rintro _ wa2 ⟨rfl, aX⟩
 have hHx := hHeld.trans aX
 try dsimp only
 refine hKK.out _ _ hHx (fun hHeld => ?_)
 clear hKK KK
 try simp only [zA,zB,zC,zD,zF]
 refine tk 14 72 (.bool false) rfl ?_ ?_
 ·intro W hSW; have hne : (su != su) = false := (by simp); go_simp
 refine zt 15 73 ?_
 refine zt 16 74 ?_
 refine zt 17 75 ?_
 refine zt 18 76 ?_
 refine zt 19 77 ?_
 simp only [zA,zB,zC,zD,zF]
 refine tk 20 78 (.pointer (some ⟨T, 1 + i, none⟩)) rfl ?_ ?_
 ·intro W hSW; have h4 : ¬ (4 : Int) ≤ (i : Int) := (by have := Hi.out; omega); go_simp
 refine zu 21 79 rfl (fun W hSW => by have z : W.cell? ⟨T, 1 + i, none⟩ = some (.pointer (some ⟨p i, 0, none⟩)) := (hSW.cell HTl.out (by simp)).trans (HT4.out.cp Hi.out); go_simp <;> rfl) ?_
 refine zt 23 81 ?_
 refine zt 24 82 ?_
 refine zt 25 83 ?_
 refine zt 26 84 ?_
 simp only [zA,zB,zC,zD,zF]
 refine tk 27 85 (.pointer (some ⟨T, 5 + i, none⟩)) rfl ?_ ?_
 ·intro W hSW; have h4 : ¬ (4 : Int) ≤ (i : Int) := (by have := Hi.out; omega); go_simp
 refine zu 28 86 rfl (fun W hSW => by have z : W.cell? ⟨T, 5 + i, none⟩ = some (.pointer (some ⟨r i, 0, none⟩)) := (hSW.cell HTl.out (by simp)).trans (HT4.out.cr Hi.out); go_simp <;> rfl) ?_
 simp only [zA,zB,zC,zD,zF]
 refine zQ 22 fun KK hKK => ?_
 go_simp
 refine (HOn.out wa2 hHeld).mono ?_
 rintro _ wa3 ⟨rfl, aX⟩
 have hHx := hHeld.trans aX
 try dsimp only
 refine hKK.out _ _ hHx (fun hHeld => ?_)
 clear hKK KK
 try simp only [zA,zB,zC,zD,zF]
 refine zQ 29 fun KK hKK => ?_
 go_simp
 refine (HOr.out wa3 hHeld).mono ?_
 rintro _ wa4 ⟨rfl, aX⟩
 have hHx := hHeld.trans aX
 try dsimp only
 refine hKK.out _ _ hHx (fun hHeld => ?_)
 clear hKK KK
 try simp only [zA,zB,zC,zD,zF]
 refine tk 30 88 (.bool false) rfl ?_ ?_
 ·intro W hSW; have hne : (on != on) = false := (by simp); go_simp
 refine zt 31 89 ?_
 refine zt 32 90 ?_
 refine zt 33 91 ?_
 simp only [zA,zB,zC,zD,zF]
 refine tk 34 92 (.string tx) rfl ?_ ?_
 ·intro W hSW; have hcv := HCv.out W hSW; go_simp
 refine zt 35 93 ?_
 refine zt 36 94 ?_
 refine zt 37 95 ?_
 refine zt 38 96 ?_
 simp only [zA,zB,zC,zD,zF]
 refine tk 39 97 (.pointer (some ⟨T, 5 + i, none⟩)) rfl ?_ ?_
 ·intro W hSW; have h4 : ¬ (4 : Int) ≤ (i : Int) := (by have := Hi.out; omega); go_simp
 refine zu 40 98 rfl (fun W hSW => by have z : W.cell? ⟨T, 5 + i, none⟩ = some (.pointer (some ⟨r i, 0, none⟩)) := (hSW.cell HTl.out (by simp)).trans (HT4.out.cr Hi.out); go_simp <;> rfl) ?_
 refine zt 41 99 ?_
 refine zt 42 100 ?_
 refine zu 43 101 rfl (fun W hSW => by have z : W.cell? ⟨r i, 28, none⟩ = some (.string tx) := HTx.out W hSW; go_simp <;> rfl) ?_
 simp only [zA,zB,zC,zD,zF]
 refine tk 44 102 (.bool false) rfl ?_ ?_
 ·intro W hSW; have hne : (tx.toList != tx.toList) = false := (by simp); go_simp
 refine zt 45 103 ?_
 simp only [zA,zB,zC,zD,zF]
 refine wpAnyH_done (by kernel_rfl) ?_ _
 have HA5 := hid hHeld
 clear hHeld hHx aX
 have HT5 := hid (HT4.out.kept0 HA5.out)
 have Hk5 := hid (Hk4.out.kept0 HA5.out)
 have Hxn : Hid (x.n ≤ 59) := hid (by rw [← Hq4.out.len]; exact text_len Hiv.out.gt.1)
 have HBw3 := hid HT3.out.ap.size
 generalize wa4 = w5 at *
 have HKp := hid (keep_ok HT5.out (Hk5.out.mono HBw3.out) (Hk5.out.nb HT3.out (Nat.le_refl _)) (by have := Hxn.out; omega) (by rw [List.length_append]; have := HHl.out; simp only [List.length_cons, List.length_nil]; omega))
 clear HSu HSr HOn HOr HCv HTx HT4 HT3 Hk4 Hq4 HBw3
 go_upto_region 10 with (
  go_at_call 26
  refine HKp.out.mono ?_
  rintro _ w6 ⟨rfl, f6, sH6, h6, t6, k6, n6⟩
  have HT6 := hid t6
  have Hf6 := hid n6
  clear t6 k6 n6)
 clear HKp HT5 Hk5
 have zp := HT6.out.cp Hi.out
 have h4 : ¬ (4 : Int) ≤ (i : Int) := by have := Hi.out; omega
 obtain ⟨N, HNe⟩ : ∃ N, Hid (N = (elsR (v i)).length) := ⟨_, hid rfl⟩
 have hN96 : N ≤ 96 := by rw [HNe.out]; exact Hrl.out.els Hiv.out.gt.1
 have HN9 : Hid (N ≤ 96) := hid hN96
 have HElc : Hid (∀ (wB' W : World) (sH' sL' : Sl) (H' L' : List Sl) (h' : Nat → Prop), Tb wB' W T k p r v ts H' L' sH' sL' h' → Calls Tryz.prog 31 #[.pointer (some ⟨p i, 0, none⟩)] W fun x w' => ∃ (s' : Sl) (l : List Sl), x = .returned (.slice s'.p N s'.c) ∧ s'.n = N ∧ Nw W w' 29 1 s' (svs l) ∧ Elq W w' l (elsR (v i))) := hid (fun wB' W sH' sL' H' L' h' t' => (Elements_w (t'.pv i Hi.out) Hok.out.1).mono (fun x w' e => by
  obtain ⟨s', e1, l, e2, e3, e4⟩ := e
  have e5 : s'.n = N := e3.trans HNe.out.symm
  exact ⟨s', l, by rw [e1, e5], e5, e2, e4⟩))
 have HEc := hid (HElc.out _ _ _ _ _ _ _ HT6.out)
 go_upto_region 11 with (
  go_at_call 31
  refine HEc.out.mono ?_
  rintro _ w7 ⟨s7, l, rfl, e7, n7, l7⟩
  have Hs7 := hid e7
  have HN7 := hid n7
  have HE7 := hid l7
  have HT7 := hid (HT6.out.kept0 n7.ap)
  clear e7 n7 l7)
 clear zp HEc
 have zr := HT7.out.cr Hi.out
 obtain ⟨s0, hs0⟩ := HT7.out.rv i Hi.out
 have HRe := hid (rels_ok hs0 Hrl.out Hiv.out)
 clear hs0
 have HRe2 : Hid (Calls Tryz.prog 32 #[.pointer (some ⟨r i, 0, none⟩)] w7 fun x w' => ∃ s' : Sl, x = .returned (.slice s'.p N s'.c) ∧ Apart [] w7 w' ∧ Ss w' s' ((elsR (v i)).map fun x => x.e)) := hid (HRe.out.mono (fun x w' e => by
  obtain ⟨s', e1, e2, e3⟩ := e
  exact ⟨s', by rw [e1, e3.len, List.length_map, ← HNe.out], e2, e3⟩))
 go_upto_region 12 with (
  go_at_call 32
  refine HRe2.out.mono ?_
  rintro _ w8 ⟨s8, rfl, a8, m8⟩
  have HA8 := hid a8
  have HS8 := hid m8
  clear a8 m8)
 clear zr HRe HRe2
 have HT8 := hid (HT7.out.kept0 HA8.out)
 have HE8 := hid (HE7.out.tk (TK.of0 (ts := []) HA8.out) (by simp))
 have HR8 : Hid (w8.ownsRow 0 29 1 s7.v s7.n (svs l)) := hid (HN7.out.kept HA8.out).own
 have hne : (N != N) = false := by simp
 have hnN : (((N : Nat) : Int) != ((N : Nat) : Int)) = false := by simp
 go_upto_region 15 with fail
 clear hne hnN h4
 go_loopw [12] (fun vv wt => ∃ q : Nat, vv = .int .i64 (q : Int) ∧ q ≤ N ∧ Hid (Apart [] w8 wt)) (fun vv _ => N - natV vv)
 case atStart => exact ⟨0, rfl, Nat.zero_le _, hid (Apart.refl _ _)⟩
 case round =>
  obtain ⟨q, rfl, hq, HAt⟩ := hrel
  generalize wr = wt12 at *
  by_cases hlt : q < N
  ·have hlti : ((q : Nat) : Int) < ((N : Nat) : Int) := by omega
   have Hkl : Hid (q < (elsR (v i)).length) := hid (by rw [← HNe.out]; exact hlt)
   obtain ⟨b, Hbl⟩ : ∃ b, Hid (l[q]? = some b) := ⟨_, hid (List.getElem?_eq_getElem (by rw [HE8.out.len]; exact Hkl.out))⟩
   obtain ⟨y, Hy⟩ : ∃ y, Hid ((elsR (v i))[q]? = some y) := ⟨_, hid (List.getElem?_eq_getElem Hkl.out)⟩
   obtain ⟨ex, Hex⟩ : ∃ ex, Hid (ex = y.e) := ⟨_, hid rfl⟩
   obtain ⟨PR, hPR, hPRs, -, hrow⟩ := own_at HR8.out (by simp only [svs, List.length_map]; rw [HE8.out.len]; have := Hkl.out; omega)
   have HPR := hid hPR
   obtain ⟨PS, oS, hPS, hPSs, hss⟩ := HS8.out.rd.rd (by rw [sts_len, List.length_map]; have := Hkl.out; omega)
   have HPS := hid hPS
   have HZb : Hid (∀ W, Apart [] w8 W → W.cell? ⟨PR, q, none⟩ = some (.slice b.p b.n b.c)) := hid (fun W hW => (hW.cell hPRs (by simp)).trans (hrow q _ (svs_at Hbl.out)))
   have HZs : Hid (∀ W, Apart [] w8 W → W.cell? ⟨PS, oS + q, none⟩ = some (.string ex)) := hid (fun W hW => (hW.cell hPSs (by simp)).trans (by
    have e := hss q (.string ex) (by
     have h1 := sts_at ((elsR (v i)).map fun x => x.e) q (by rw [List.length_map]; exact Hkl.out)
     have h2 := Hy.out
     rw [List.getElem?_eq_getElem Hkl.out] at h2
     rw [h1, List.getElem_map, Option.some.inj h2, Hex.out])
    exact e))
   have HCvb : Hid (∀ W, Apart [] w8 W → Sem.run Tryz.prog (convert 29 9 (.slice b.p b.n b.c)) W = .ok (.string ex) W) := hid (fun W hW => by
    have e := (HE8.out.at_ q b y Hbl.out Hy.out).1.kept0 hW
    rw [conv_bytes e.rd e.len e.ok, bsk_eq, Hex.out])
   clear hPR hPRs hrow hPS hPSs hss
   go_upto_region 17 with fail
   refine wp_region_held_drew (S := fun W => Apart [] wt12 W) (by kernel_rfl) (Apart.refl [] wt12).drew fun hHeld => ?_
   generalize wt12.drew = wdd at *
   refine zt 0 132 ?_
   refine zt 1 133 ?_
   simp only [zA,zB,zC,zD,zF]
   refine tk 2 134 (.pointer (some ⟨PR, q, none⟩)) rfl ?_ ?_
   ·intro W hSW; exact ex_idx46 _ _ PR rfl rfl HPR.out rfl hlt
   refine zu 3 135 rfl (fun W hSW => by have z : W.cell? ⟨PR, q, none⟩ = some (.slice b.p b.n b.c) := HZb.out W (HAt.out.trans hSW); go_simp <;> rfl) ?_
   simp only [zA,zB,zC,zD,zF]
   refine tk 4 136 (.string ex) rfl ?_ ?_
   ·intro W hSW; have hcv := HCvb.out W (HAt.out.trans hSW); go_simp
   refine zt 5 137 ?_
   refine zt 6 138 ?_
   simp only [zA,zB,zC,zD,zF]
   refine tk 7 139 (.pointer (some ⟨PS, oS + q, none⟩)) rfl ?_ ?_
   ·intro W hSW; exact ex_idx65 _ _ PS oS rfl rfl HPS.out rfl hlt
   refine zu 8 140 rfl (fun W hSW => by have z : W.cell? ⟨PS, oS + q, none⟩ = some (.string ex) := HZs.out W (HAt.out.trans hSW); go_simp <;> rfl) ?_
   simp only [zA,zB,zC,zD,zF]
   refine tk 9 141 (.bool false) rfl ?_ ?_
   ·intro W hSW; have hne : (ex.toList != ex.toList) = false := (by simp); go_simp
   simp only [zA,zB,zC,zD,zF]
   refine wpAnyH_done (by kernel_rfl) ?_ _
   have HAn := hid (HAt.out.trans hHeld)
   clear hHeld
   go_wp2_with fail
   exact ⟨⟨q + 1, by go_num, by omega, HAn⟩, by simp [natV]; omega⟩
  ·have hlti : ¬ ((q : Nat) : Int) < ((N : Nat) : Int) := by omega
   obtain rfl : q = N := by omega
   have HT9 := hid (HT8.out.kept0 HAt.out)
   have HS9 := hid (HS8.out.kept0 HAt.out)
   have HLk0 : Hid (Lk wB wt12 sH6 h6 l s7 0) := hid ⟨own_apart HR8.out HAt.out (by simp), fun P hP => by
    have h1 := HN7.out.new P hP
    refine ⟨Nat.le_trans HT6.out.ap.size h1, fun hh => ?_, fun hh => ?_⟩
    ·obtain ⟨-, ⟨cur, m, e⟩, -⟩ := HT6.out.hh P hh
     have : P < w6.heap.size := e.elim lt_of_heapM lt_of_heapM
     omega
    ·obtain ⟨cur, e⟩ := own_typ HT6.out.nh.own hh
     have := lt_of_heap e
     omega, fun j b hj hb => by
    have hjl : j < (elsR (v i)).length := by rw [← HE8.out.len]; exact (List.getElem?_eq_some_iff.1 hb).1
    obtain ⟨b1, b2⟩ := HE8.out.at_ j b _ hb (List.getElem?_eq_getElem hjl)
    refine ⟨(b2.kept0 HAt.out).mono HT6.out.ap.size, ?_, b2.nb HT6.out (Nat.le_refl _)⟩
    rw [← b1.len, bsk_len]
    exact els_size Hiv.out.gt.1 _ (List.getElem_mem hjl), HE8.out.dis⟩
   have HH9 : Hid ((H ++ [s1, f3] ++ [x, f6]).length = H.length + 4 + 2 * 0 ∧ ∀ y ∈ H ++ [s1, f3] ++ [x, f6], y ∈ H ∨ y.n ≤ 200) := hid ⟨by simp, fun y hy => by
    simp only [List.append_assoc, List.mem_append, List.mem_cons, List.not_mem_nil, _root_.or_false] at hy
    have c1 := Hn1.out
    have c2 := Hf3.out
    have c3 := Hxn.out
    have c4 := Hf6.out
    rcases hy with hy | (rfl | rfl) | rfl | rfl
    ·exact .inl hy
    ·exact .inr (by omega)
    ·exact .inr (by omega)
    ·exact .inr (by omega)
    ·exact .inr (by omega)⟩
   clear HT8 HT7 HS8 HA8
   go_upto_region 20 with fail
   go_loopw [13] (fun v13 wt => ∃ (q2 : Nat) (Hk : List Sl) (sHk : Sl) (hk : Nat → Prop), v13 = .int .i64 (q2 : Int) ∧ q2 ≤ q ∧ Hid (Tb wB wt T k p r v ts Hk L sHk sL hk) ∧ Hid (Lk wB wt sHk hk l s7 q2) ∧ Hid (Ss wt s8 ((elsR (v i)).map fun x => x.e)) ∧ Hid (Hk.length = H.length + 4 + 2 * q2 ∧ ∀ y ∈ Hk, y ∈ H ∨ y.n ≤ 200)) (fun v13 _ => q - natV v13)
   case atStart => exact ⟨0, _, sH6, h6, rfl, Nat.zero_le _, HT9, HLk0, HS9, HH9⟩
   case round =>
    clear HT9 HLk0 HS9 HH9
    obtain ⟨q2, Hk, sHk, hk, rfl, hq2, HTk, HLk, HSk, HHk⟩ := hrel
    generalize wr = wt13 at *
    by_cases hlt2 : q2 < q
    ·have hlti2 : ((q2 : Nat) : Int) < ((q : Nat) : Int) := by omega
     have Hkl : Hid (q2 < l.length) := hid (by rw [HE8.out.len, ← HNe.out]; exact hlt2)
     obtain ⟨b, Hbl⟩ : ∃ b, Hid (l[q2]? = some b) := ⟨_, hid (List.getElem?_eq_getElem Hkl.out)⟩
     obtain ⟨PR, hPR, hPRs, -, hrow⟩ := own_at HLk.out.row (by simp only [svs, List.length_map]; have := Hkl.out; omega)
     have HPR := hid hPR
     have zb : wt13.cell? ⟨PR, q2, none⟩ = some (.slice b.p b.n b.c) := hrow q2 _ (svs_at Hbl.out)
     have HKp := hid (keep_ok HTk.out (HLk.out.el q2 b (Nat.le_refl _) Hbl.out).1 (HLk.out.el q2 b (Nat.le_refl _) Hbl.out).2.2 (by have := (HLk.out.el q2 b (Nat.le_refl _) Hbl.out).2.1; omega) (by have := HHk.out.1; have := HHl.out; omega))
     clear hPR hPRs hrow
     go_wp2_with (first
      | refine wpL_val rfl (.pointer (some ⟨PR, q2, none⟩)) (ex_idx46 _ _ PR rfl rfl HPR.out rfl hlt2) ?_
      | (go_at_call 26
         refine HKp.out.mono ?_
         rintro _ w9 ⟨rfl, f9, sH9, h9, t9, k9, n9⟩
         have HT9 := hid t9
         have HLk9 := hid (HLk.out.next HTk.out Hbl.out k9)
         have HS9 := hid (HSk.out.kpt HTk.out (HLk.out.el q2 b (Nat.le_refl _) Hbl.out).1 k9)
         have HH9 : Hid ((Hk ++ [b, f9]).length = H.length + 4 + 2 * (q2 + 1) ∧ ∀ y ∈ Hk ++ [b, f9], y ∈ H ∨ y.n ≤ 200) := hid ⟨by rw [List.length_append, HHk.out.1]; simp only [List.length_cons, List.length_nil]; omega, fun y hy => by
           have c1 := (HLk.out.el q2 b (Nat.le_refl _) Hbl.out).2.1
           rcases List.mem_append.1 hy with hy | hy
           ·exact HHk.out.2 y hy
           ·simp only [List.mem_cons, List.not_mem_nil, _root_.or_false] at hy
            rcases hy with rfl | rfl
            ·exact .inr (by omega)
            ·exact .inr (by omega)⟩
         clear t9 k9 n9))
     exact ⟨⟨q2 + 1, _, sH9, h9, by go_num, by omega, HT9, HLk9, HS9, HH9⟩, by simp [natV]; omega⟩
    ·have hlti2 : ¬ ((q2 : Nat) : Int) < ((q : Nat) : Int) := by omega
     obtain rfl : q2 = q := by omega
     have HNq : Hid (s7.n = q2 ∧ l.length = q2) := hid ⟨Hs7.out, by rw [HE8.out.len]; exact HNe.out.symm⟩
     obtain ⟨K, HK⟩ : ∃ K, Hid (K = L.length) := ⟨_, hid rfl⟩
     have hK5 : K ≤ 500000000 := by rw [HK.out]; exact HLl.out
     have hsl : sL.n = K := by rw [HK.out]; exact HTk.out.ln
     have z10 := HTk.out.cl
     rw [hsl] at z10
     obtain ⟨Z, hmk0⟩ := make_len wt13 (K + 1) (by omega)
     have hmk : Sem.run Tryz.prog (Instr.makeSlice 29 (.int .i64 ((K : Int) + 1)) (.int .i64 ((K : Int) + 1))) wt13 = .ok (.slice (some ⟨wt13.heap.size, 0, none⟩) (K + 1) (K + 1)) (wt13.alloc (.cells Z 5)) := hmk0
     have HSl := hid hsl
     clear hmk0 hsl
     have hwr : wrap64 ((K : Int) + 1) = (K : Int) + 1 := IntWalk.wrap64_in _ (by omega)
     go_upto_region 25 with fail
     clear hmk hwr z10
     have HA11 : Hid (Apart [] wt13 (wt13.alloc (.cells Z 5))) := hid ((Apart.refl [] wt13).alloc _)
     obtain ⟨MB, HMB⟩ : ∃ MB, Hid (MB = wt13.heap.size) := ⟨_, hid rfl⟩
     rw [← HMB.out]
     generalize wt13.alloc (.cells Z 5) = w11 at *
     obtain ⟨MV, HMV⟩ : ∃ MV, Hid (MV = Value.slice (some ⟨MB, 0, none⟩) (K + 1) (K + 1)) := ⟨_, hid rfl⟩
     have HR11 : Hid (w11.ownsRow 0 29 1 s7.v s7.n (svs l)) := hid (own_apart HLk.out.row HA11.out (by simp))
     have HW11 : Hid (Wx w11 s7 0 (Value.slice (some ⟨MB, 0, none⟩) (K + 1) (K + 1))) := hid (Wx.of (w0 := w11) HR11.out _)
     have HA110 : Hid (Apart s7.v.ownBlock.toList w11 w11) := hid (Apart.refl _ _)
     go_loopw [15] (fun v15 wt => ∃ q3 : Nat, v15 = .int .i64 (q3 : Int) ∧ q3 ≤ q2 ∧ Hid (Wx wt s7 q3 (Value.slice (some ⟨MB, 0, none⟩) (K + 1) (K + 1))) ∧ Hid (Apart s7.v.ownBlock.toList w11 wt)) (fun v15 _ => q2 - natV v15)
     case atStart => exact ⟨0, rfl, Nat.zero_le _, HW11, HA110⟩
     case round =>
      clear HW11 HA110
      obtain ⟨q3, rfl, hq3, HWx, HAx⟩ := hrel
      generalize wr = wt15 at *
      by_cases hlt3 : q3 < q2
      ·have hlti3 : ((q3 : Nat) : Int) < ((q2 : Nat) : Int) := by omega
       obtain ⟨g, u, hp, hz, hf, hset⟩ := HWx.out.set (by rw [HNq.out.1]; exact hlt3)
       have HPg := hid hp
       have HSt := hid hset
       have HAn : Hid (Apart s7.v.ownBlock.toList w11 (wt15.setCell ⟨g, q3, none⟩ (Value.slice (some ⟨MB, 0, none⟩) (K + 1) (K + 1)))) := hid (HAx.out.setCell (.inl (by rw [Sl.v, hp]; simp [Value.ownBlock])) _)
       clear hp hset
       go_wp2_with (refine wpL_val rfl (.pointer (some ⟨g, q3, none⟩)) (ex_idx46 _ _ g rfl rfl HPg.out rfl hlt3) ?_)
       exact ⟨⟨q3 + 1, by go_num, by omega, HSt, HAn⟩, by simp [natV]; omega⟩
      ·have hlti3 : ¬ ((q3 : Nat) : Int) < ((q2 : Nat) : Int) := by omega
       obtain rfl : q3 = q2 := by omega
       have HAz : Hid (Apart s7.v.ownBlock.toList wt13 wt15) := hid ((HA11.out.mono (by simp)).trans HAx.out)
       have HTz : Hid (Tb wB wt15 T k p r v ts Hk L sHk sL hk) := hid (HTk.out.kept HAz.out (fun P hP => by
        have hP' : s7.v.ownBlock = some P := by simpa using hP
        obtain ⟨r1, r2, r3⟩ := HLk.out.rn P hP'
        obtain ⟨cur, e⟩ := own_typ HLk.out.row hP'
        exact ⟨⟨⟨cur, _, .inr e⟩, r2, r3⟩, r1⟩))
       have HSz : Hid (Ss wt15 s8 ((elsR (v i)).map fun x => x.e)) := hid ⟨HSk.out.rd.kept HAz.out (fun P hP cur m e => by
        obtain ⟨cu, e2⟩ := own_typ HLk.out.row (k := P) (by simpa using hP)
        rw [e2] at e; simp at e), HSk.out.len, HSk.out.cap, HSk.out.ok⟩
       have HRz : Hid (wt15.ownsRow 0 29 1 s7.v s7.n (List.replicate q3 (Value.slice (some ⟨MB, 0, none⟩) (K + 1) (K + 1)))) := hid (by
        have e := HNq.out.1
        have h1 := HWx.out
        rw [← e] at h1 ⊢
        exact h1.own)
       obtain ⟨i0, hif, hz0, hz1, hz2⟩ := info_of info46
       obtain ⟨s13, w13, hrun, hnw, hs13, ap13, k13, hk13, -, hk14⟩ := run_appM (s := sL) 47 47 46 i0 _ 1 24 Tryz.underlying47 hif hz0 hz1 hz2 rfl (by decide) HTz.out.nl 1 (svs [s7]) (by decide) rfl svs_one (by unfold maxLen; have := HSl.out; omega) (by have := HSl.out; omega)
       have e5 : (svs [s7]).toArray = #[.slice s7.p q3 s7.c] := by rw [← HNq.out.1]; rfl
       have e6 : sL.v = .slice sL.p K sL.c := by rw [Sl.v, HSl.out]
       rw [e5, e6] at hrun
       have HR13 := hid hrun
       have HN13 := hid hnw
       have Hs13 : Hid (s13.n = L.length + 1) := hid (by rw [hs13, HTz.out.ln])
       have HA13 := hid ap13
       have HT13n : Hid (T ∉ sL.v.ownBlock.toList) := hid (fun hm => by
        obtain ⟨cur, e⟩ := own_typ HTz.out.nl.own (k := T) (by simpa using hm)
        rw [HTz.out.blk] at e
        simp at e)
       have HB13 : Hid (w13.heap[T]? = some (.cells (tbC k p r sHk sL).toArray 49 (0, 0))) := hid ((HA13.out.block T (lt_of_heap HTz.out.blk) HT13n.out).trans HTz.out.blk)
       clear hrun hnw hs13 ap13 hk13 hk14 e5 e6 hif hz0 hz1 hz2
       have z10 := HTz.out.cl
       rw [HSl.out] at z10
       have z13 : w13.cell? ⟨T, 10, none⟩ = some (.slice sL.p sL.n sL.c) := dcell HB13.out rfl
       have f13 : w13.frozen? ⟨T, 10, none⟩ = false := frozen_of_row _ _ _ _ _ HB13.out
       go_upto_region 29 with (refine wpList_append3 rfl _ _ 47 rfl _ _ rfl rfl (.slice s13.p s13.n s13.c) w13 HR13.out ?_)
       clear z10 z13 f13 HR13
       have HB14 : Hid ((w13.setCell ⟨T, 10, none⟩ (.slice s13.p s13.n s13.c)).heap[T]? = some (.cells (tbC k p r sHk s13).toArray 49 (0, 0))) := hid (by
        rw [heap_setCell_same w13 T 10 _ 49 _ HB13.out, List.setIfInBounds_toArray]
        rfl)
       have HA14 : Hid (Apart (T :: sL.v.ownBlock.toList) wt15 (w13.setCell ⟨T, 10, none⟩ (.slice s13.p s13.n s13.c))) := hid ((HA13.out.mono (fun x hx => List.mem_cons_of_mem _ hx)).setCell (.inl (by simp)) _)
       have HO14 : Hid ((w13.setCell ⟨T, 10, none⟩ (.slice s13.p s13.n s13.c)).ownsRow 0 46 1 s13.v s13.n (svs (L ++ [s7]))) := hid (own_apart (by rw [svs_app]; exact HN13.out.own) ((Apart.refl [T] w13).setCell (.inl (by simp)) _) (fun P hP hm => by
        obtain ⟨cur, e⟩ := own_typ HN13.out.own hP
        rw [List.mem_singleton.1 hm, HB13.out] at e
        simp at e))
       generalize (w13.setCell ⟨T, 10, none⟩ (.slice s13.p s13.n s13.c)) = w14 at *
       have HW14b : Hid (Apart [] wB w14) := hid (HTz.out.ap.trans' HA14.out (fun y hy => by
        rcases List.mem_cons.1 hy with rfl | hy
        ·exact .inr HTz.out.tn
        ·exact .inr (HTz.out.nl.new y (by simpa using hy))))
       have HN14 : Hid (Nw wB w14 29 1 s7 (List.replicate q3 (Value.slice (some ⟨MB, 0, none⟩) (K + 1) (K + 1)))) := hid ⟨own_apart HRz.out HA14.out (fun P hP hm => by
        obtain ⟨cur, e⟩ := own_typ HRz.out hP
        rcases List.mem_cons.1 hm with rfl | hm
        ·rw [HTz.out.blk] at e; simp at e
        ·obtain ⟨cu, e2⟩ := own_typ HTz.out.nl.own (k := P) (by simpa using hm)
         rw [e2] at e; simp at e), fun P hP => (HLk.out.rn P hP).1, HW14b.out⟩
       obtain ⟨i0, hif, hz0, hz1, hz2⟩ := info_of info29
       obtain ⟨s15, w15, hrun, hs15, hor⟩ := app_or (s := s7) 46 46 29 i0 _ 1 24 Tryz.underlying46 hif hz0 hz1 hz2 rfl (by decide) HN14.out 2 [Value.slice (some ⟨MB, 0, none⟩) (K + 1) (K + 1), Value.slice (some ⟨MB, 0, none⟩) (K + 1) (K + 1)] (by decide) rfl (by simp [Value.oneCell']) (by unfold maxLen; rw [HNq.out.1]; omega) (by rw [HNq.out.1]; omega)
       obtain ⟨g, hg1, ⟨cur15, hg2⟩, ⟨x15, hg3⟩, hg4, hg5⟩ := grown_ok (u := .slice none 0 0) HN14.out HNq.out.1 hs15 hor
       rw [hs15, HNq.out.1] at hrun
       have HR15 := hid hrun
       have HG1 := hid hg1
       have HG4 := hid hg4
       have HG5 := hid hg5
       have HG2 := hid hg2
       have f15 : w15.frozen? ⟨g, q3 + 1, none⟩ = false := frozen_of_row _ _ _ _ _ hg2
       clear hrun hs15 hor hg1 hg2 hg4 hg5 hif hz0 hz1 hz2
       have hq31 : q3 + 1 < q3 + 2 := by omega
       have HSub1 : Hid (((q3 : Nat) : Int) + 1 = ((q3 + 1 : Nat) : Int)) := hid (by omega)
       go_upto_region 31 with (first
        | refine wpList_append3 rfl _ _ 46 rfl _ _ rfl rfl (.slice s15.p (q3 + 2) s15.c) w15 HR15.out ?_
        | refine wpL_val rfl (.pointer (some ⟨g, q3 + 1, none⟩)) (ex_idx46 (n := q3 + 2) (c := s15.c) (p := s15.p) (q := q3 + 1) _ _ g rfl (by first | rfl) (by first | exact HG1.out) (by first | exact congrArg (Value.int .i64) HSub1.out | exact congrArg (Value.int .i64) (by omega) | rfl) (by first | exact hq31 | omega)) ?_)
       clear HR15 hg3 f15
       generalize hw16 : (w15.setCell ⟨g, q3 + 1, none⟩ (.slice none 0 0)) = w16 at *
       clear hw16
       have HA16 : Hid (Apart (T :: (sL.v.ownBlock.toList ++ s7.v.ownBlock.toList)) wt15 w16) := hid ((HA14.out.mono (fun y hy => by
        rcases List.mem_cons.1 hy with rfl | hy
        ·simp
        ·exact List.mem_cons_of_mem _ (List.mem_append_left _ hy))).trans (HG4.out.mono (fun y hy => List.mem_cons_of_mem _ (List.mem_append_right _ hy))))
       have HT7n : Hid (T ∉ s7.v.ownBlock.toList) := hid (fun hm => by
        obtain ⟨cur, e⟩ := own_typ HRz.out (k := T) (by simpa using hm)
        rw [HTz.out.blk] at e
        simp at e)
       have HB16 : Hid (w16.heap[T]? = some (.cells (tbC k p r sHk s13).toArray 49 (0, 0))) := hid ((HG4.out.block T (lt_of_heap HB14.out) HT7n.out).trans HB14.out)
       have HO16 : Hid (w16.ownsRow 0 46 1 s13.v s13.n (svs (L ++ [s7]))) := hid (own_apart HO14.out HG4.out (fun P hP hm => by
        obtain ⟨cur, e⟩ := own_typ HO14.out hP
        obtain ⟨cu, e2⟩ := own_typ HN14.out.own (k := P) (by simpa using hm)
        rw [e2] at e; simp at e))
       have HT16 := hid (HTz.out.pushL2 (b := s7) (sN := s13) HA16.out HB16.out HO16.out (fun P hP => by
        have h1 := HN13.out.new P hP
        exact h1) Hs13.out (fun j hj => by
        rw [HNq.out.1] at hj
        obtain ⟨P, hP, -, ⟨cur, hc⟩, -⟩ := own_at HN14.out.own (by simp; omega)
        obtain ⟨c1, ⟨c2, c3⟩, c4⟩ := HG5.out P (by rw [Sl.v, hP]; rfl)
        exact ⟨P, 0, c2, _, _, _, hP, c3, by rw [Nat.zero_add, ← HK.out]; exact c4 j hj⟩) (fun P hP => by
        obtain ⟨r1, r2, r3⟩ := HLk.out.rn P hP
        obtain ⟨cur, e⟩ := own_typ HRz.out hP
        obtain ⟨-, ⟨c2, c3⟩, -⟩ := HG5.out P hP
        exact ⟨r1, r2, ⟨cur, _, e⟩, ⟨c2, _, c3⟩, r3⟩))
       have HS16 : Hid (Ss w16 s8 ((elsR (v i)).map fun x => x.e)) := hid ⟨HSz.out.rd.kept HA16.out (fun P hP cur m e => by
        rcases List.mem_cons.1 hP with rfl | hP
        ·rw [HTz.out.blk] at e; simp at e
        ·rcases List.mem_append.1 hP with hP | hP
         ·obtain ⟨cu, e2⟩ := own_typ HTz.out.nl.own (k := P) (by simpa using hP)
          rw [e2] at e; simp at e
         ·obtain ⟨cu, e2⟩ := own_typ HRz.out (k := P) (by simpa using hP)
          rw [e2] at e; simp at e), HSz.out.len, HSz.out.cap, HSz.out.ok⟩
       clear HTz HSz HRz HA13 HA14 HO14 HB14 HB13 HN14 HN13 HG1 HG2 HG4 HG5 HA16 HB16 HO16 HWx HAx HAz
       have zp := HT16.out.cp Hi.out
       have h4 : ¬ (4 : Int) ≤ (i : Int) := by have := Hi.out; omega
       have HEc := hid (HElc.out _ _ _ _ _ _ _ HT16.out)
       have hnN : (((q3 : Nat) : Int) != ((q3 : Nat) : Int)) = false := by simp
       go_upto_region 35 with (
        go_at_call 31
        refine HEc.out.mono ?_
        rintro _ w17 ⟨s17, l17, rfl, e17, n17, l17e⟩
        have HR17 : Hid (w17.ownsRow 0 29 1 s17.v s17.n (svs l17)) := hid n17.own
        have HE17 := hid l17e
        have HT17 := hid (HT16.out.kept0 n17.ap)
        have HS17 := hid (HS16.out.kept0 n17.ap)
        clear e17 n17 l17e)
       clear zp h4 HEc hnN
       go_loopw [18] (fun vv wt => ∃ q5 : Nat, vv = .int .i64 (q5 : Int) ∧ q5 ≤ q3 ∧ Hid (Apart [] w17 wt)) (fun vv _ => q3 - natV vv)
       case atStart => exact ⟨0, rfl, Nat.zero_le _, hid (Apart.refl _ _)⟩
       case round =>
        obtain ⟨q5, rfl, hq, HAt⟩ := hrel
        generalize wr = wt18 at *
        by_cases hlt : q5 < q3
        ·have hlti : ((q5 : Nat) : Int) < ((q3 : Nat) : Int) := by omega
         have Hkl : Hid (q5 < (elsR (v i)).length) := hid (by rw [← HNe.out]; exact hlt)
         obtain ⟨b, Hbl⟩ : ∃ b, Hid (l17[q5]? = some b) := ⟨_, hid (List.getElem?_eq_getElem (by rw [HE17.out.len]; exact Hkl.out))⟩
         obtain ⟨y, Hy⟩ : ∃ y, Hid ((elsR (v i))[q5]? = some y) := ⟨_, hid (List.getElem?_eq_getElem Hkl.out)⟩
         obtain ⟨ex, Hex⟩ : ∃ ex, Hid (ex = y.e) := ⟨_, hid rfl⟩
         obtain ⟨PR, hPR, hPRs, -, hrow⟩ := own_at HR17.out (by simp only [svs, List.length_map]; rw [HE17.out.len]; have := Hkl.out; omega)
         have HPR := hid hPR
         obtain ⟨PS, oS, hPS, hPSs, hss⟩ := HS17.out.rd.rd (by rw [sts_len, List.length_map]; have := Hkl.out; omega)
         have HPS := hid hPS
         have HZb : Hid (∀ W, Apart [] w17 W → W.cell? ⟨PR, q5, none⟩ = some (.slice b.p b.n b.c)) := hid (fun W hW => (hW.cell hPRs (by simp)).trans (hrow q5 _ (svs_at Hbl.out)))
         have HZs : Hid (∀ W, Apart [] w17 W → W.cell? ⟨PS, oS + q5, none⟩ = some (.string ex)) := hid (fun W hW => (hW.cell hPSs (by simp)).trans (by
          have e := hss q5 (.string ex) (by
           have h1 := sts_at ((elsR (v i)).map fun x => x.e) q5 (by rw [List.length_map]; exact Hkl.out)
           have h2 := Hy.out
           rw [List.getElem?_eq_getElem Hkl.out] at h2
           rw [h1, List.getElem_map, Option.some.inj h2, Hex.out])
          exact e))
         have HCvb : Hid (∀ W, Apart [] w17 W → Sem.run Tryz.prog (convert 29 9 (.slice b.p b.n b.c)) W = .ok (.string ex) W) := hid (fun W hW => by
          have e := (HE17.out.at_ q5 b y Hbl.out Hy.out).1.kept0 hW
          rw [conv_bytes e.rd e.len e.ok, bsk_eq, Hex.out])
         clear hPR hPRs hrow hPS hPSs hss
         go_upto_region 37 with fail
         refine wp_region_held_drew (S := fun W => Apart [] wt18 W) (by kernel_rfl) (Apart.refl [] wt18).drew fun hHeld => ?_
         generalize wt18.drew = wdd at *
         refine zt 0 209 ?_
         refine zt 1 210 ?_
         simp only [zA,zB,zC,zD,zF]
         refine tk 2 211 (.pointer (some ⟨PR, q5, none⟩)) rfl ?_ ?_
         ·intro W hSW; exact ex_idx46 _ _ PR rfl rfl HPR.out rfl hlt
         refine zu 3 212 rfl (fun W hSW => by have z : W.cell? ⟨PR, q5, none⟩ = some (.slice b.p b.n b.c) := HZb.out W (HAt.out.trans hSW); go_simp <;> rfl) ?_
         simp only [zA,zB,zC,zD,zF]
         refine tk 4 213 (.string ex) rfl ?_ ?_
         ·intro W hSW; have hcv := HCvb.out W (HAt.out.trans hSW); go_simp
         refine zt 5 214 ?_
         refine zt 6 215 ?_
         simp only [zA,zB,zC,zD,zF]
         refine tk 7 216 (.pointer (some ⟨PS, oS + q5, none⟩)) rfl ?_ ?_
         ·intro W hSW; exact ex_idx65 _ _ PS oS rfl rfl HPS.out rfl hlt
         refine zu 8 217 rfl (fun W hSW => by have z : W.cell? ⟨PS, oS + q5, none⟩ = some (.string ex) := HZs.out W (HAt.out.trans hSW); go_simp <;> rfl) ?_
         simp only [zA,zB,zC,zD,zF]
         refine tk 9 218 (.bool false) rfl ?_ ?_
         ·intro W hSW; have hne : (ex.toList != ex.toList) = false := (by simp); go_simp
         simp only [zA,zB,zC,zD,zF]
         refine wpAnyH_done (by kernel_rfl) ?_ _
         have HAn := hid (HAt.out.trans hHeld)
         clear hHeld
         go_wp2_with fail
         exact ⟨⟨q5 + 1, by go_num, by omega, HAn⟩, by simp [natV]; omega⟩
        ·have hlti : ¬ ((q5 : Nat) : Int) < ((q3 : Nat) : Int) := by omega
         obtain rfl : q5 = q3 := by omega
         have HTf := hid (HT17.out.kept0 HAt.out)
         have HFin : Hid (StP wB T k H L (.returned (.bool true)) wt18) := hid ⟨rfl, p, r, v, ts, Hk, L ++ [s7], sHk, s13, _, HTf.out, by have h1 := HHk.out.1; have h2 := HN9.out; omega, by simp, HHk.out.2, fun y hy => by
          rcases List.mem_append.1 hy with hy | hy
          ·exact .inl hy
          ·rw [List.mem_singleton.1 hy, HNq.out.1]
           have h2 := HN9.out
           exact .inr (by omega)⟩
         go_wp2_with fail
         go_ret
         exact HFin.out
end Go.Proofs.YtdbeeikjngnnnaaGreat.ty
