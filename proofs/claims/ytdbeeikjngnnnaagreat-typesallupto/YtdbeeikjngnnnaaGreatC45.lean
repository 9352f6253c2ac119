import Derived.Test.YtdbeeikjngnnnaaGreatC44
namespace Go.Proofs.YtdbeeikjngnnnaaGreat.ty
open Go.ChangeShapes Go.WideShapes Go.ChangeAt Go.RowKit
set_option linter.unusedVariables false
set_option linter.unusedSimpArgs false
set_option maxRecDepth 100000
set_option maxHeartbeats 8000000
variable {wB w w' w2 : World} {T k : Nat} {p r : Nat → Nat} {v : Nat → Vl} {ts : Nat → List Tg} {H L : List Sl} {sH sL : Sl} {h : Nat → Prop}
def lenS : Value → Nat
 | .slice _ n _ => n
 | _ => 0
theorem ownp {a b : Sl} (e : a.p = b.p) : a.v.ownBlock = b.v.ownBlock := by
 unfold Sl.v
 rw [e]
 cases b.p <;> rfl
def HbP (w wt : World) (b far : Sl) (M : Nat) : Prop := RdT wt b.p 5 (byts (List.replicate b.n M)) ∧ Apart b.v.ownBlock.toList w wt ∧ (far.p = b.p ∨ ∃ g, far.p = some ⟨g, 0, none⟩ ∧ w.heap.size ≤ g ∧ b.v.ownBlock ≠ some g) ∧ ∀ P, b.v.ownBlock = some P → ∃ cur m, wt.heap[P]? = some (.cells cur 5 m)
structure KP (w w' : World) (T : Nat) (sH sH' b : Sl) (h h' : Nat → Prop) : Prop where
 ap : Apart (T :: (sH.v.ownBlock.toList ++ b.v.ownBlock.toList)) w w'
 hs : ∀ P, h' P → h P ∨ b.v.ownBlock = some P ∨ w.heap.size ≤ P
 own : ∀ P, sH'.v.ownBlock = some P → sH.v.ownBlock = some P ∨ w.heap.size ≤ P
theorem Wv.own {B : Nat} {w : World} {b : Sl} {i M : Nat} (h : Wv B w b i M) {P : Nat} (hP : b.v.ownBlock = some P) : b.p = some ⟨P, 0, none⟩ ∧ B ≤ P ∧ ∃ cur m, w.heap[P]? = some (.cells cur 5 m) := by
 rcases h with ⟨h1, -⟩ | ⟨g, cur, m, h1, h2, h3, -⟩
 ·rw [Sl.v, h1] at hP; simp [Value.ownBlock] at hP
 ·have e : b.v.ownBlock = some g := by rw [Sl.v, h1]; rfl
  rw [e] at hP
  obtain rfl : g = P := by simpa using hP
  exact ⟨h1, h2, cur, m, h3⟩
theorem keep_ok (t : Tb wB w T k p r v ts H L sH sL h) {b : Sl} (qb : Wq wB.heap.size w b) (nb : ∀ g, b.v.ownBlock = some g → ¬ h g ∧ sH.v.ownBlock ≠ some g) (hbn : b.n ≤ 100000) (hH : H.length ≤ 600000000) : Calls Tryz.prog 26 #[.pointer (some ⟨T, 0, none⟩), .slice b.p b.n b.c] w fun x w' => x = .returned (.tuple #[]) ∧ ∃ (far sH' : Sl) (h' : Nat → Prop), Tb wB w' T k p r v ts (H ++ [b, far]) L sH' sL h' ∧ KP w w' T sH sH' b h h' ∧ far.n ≤ b.n + 80 := by
 obtain ⟨q, hq⟩ := t.ev
 have z9 := t.ch
 have hsn : sH.n = 2 * q := by rw [t.hn, hq]
 rw [hsn] at z9
 have hq3 : q ≤ 300000000 := by omega
 obtain ⟨M, HM⟩ : ∃ M, Hid (M = q % 250 + 1) := ⟨_, hid rfl⟩
 have HMk : Hid (mkN (H.length / 2) = M) := hid (by rw [HM.out, hq, mkN]; congr 2; omega)
 have eM : ((q : Int) % 250 + 1) = (M : Int) := by rw [HM.out]; omega
 have HT := hid t
 have HV0 := hid (qb.wv M)
 have HV0x := hid (qb.wv M)
 have HNB := hid nb
 have HH := hid hH
 obtain ⟨n, Hn⟩ : ∃ n, Hid (n = b.n) := ⟨_, hid rfl⟩
 have hn1 : n ≤ 100000 := by rw [Hn.out]; exact hbn
 have HA0 : Hid (Apart b.v.ownBlock.toList w w) := hid (Apart.refl _ _)
 have HXb : Hid (∀ P ∈ b.v.ownBlock.toList, Fr w sH h P ∧ wB.heap.size ≤ P) := hid (fun P hP => by
  have hP' : b.v.ownBlock = some P := by simpa using hP
  obtain ⟨h1, h2, cur, m, h3⟩ := HV0.out.own hP'
  exact ⟨⟨⟨cur, m, .inl h3⟩, (nb P hP').1, (nb P hP').2⟩, h2⟩)
 clear t qb nb hbn hH hq
 rw [← Hn.out]
 go_enter Tryz.func26, Tryz.ntmps26
 go_upto_region 1 with fail
 clear eM z9
 go_wp2_with fail
 go_loopw [5] (fun v5 wt => ∃ i : Nat, v5 = .int .i64 (i : Int) ∧ i ≤ n ∧ Hid (Wv wB.heap.size wt b i M) ∧ Hid (Apart b.v.ownBlock.toList w wt)) (fun v5 _ => n - natV v5)
 case atStart => exact ⟨0, rfl, Nat.zero_le _, HV0, HA0⟩
 case round =>
  clear HV0 HA0
  obtain ⟨i, rfl, hi, HV, HA⟩ := hrel
  generalize wr = wt at *
  by_cases hlt : i < n
  ·have hlti : ((i : Nat) : Int) < ((n : Nat) : Int) := by omega
   obtain ⟨g, u, hp, hg, hz, hf, hset⟩ := HV.out.set (by rw [← Hn.out]; exact hlt)
   have HP := hid hp
   have HS := hid hset
   have HA2 : Hid (Apart b.v.ownBlock.toList w (wt.setCell ⟨g, i, none⟩ (.int .u8 (M : Int)))) := hid (HA.out.setCell (.inl (by rw [Sl.v, hp]; simp [Value.ownBlock])) _)
   clear hp hset hg
   go_wp2_with (refine wpL_val rfl (.pointer (some ⟨g, i, none⟩)) (ex_idx29 _ _ g rfl rfl HP.out rfl hlt) ?_)
   exact ⟨⟨i + 1, by go_num, by omega, HS, HA2⟩, by simp [natV]; omega⟩
  ·have hlti : ¬ ((i : Nat) : Int) < ((n : Nat) : Int) := by omega
   obtain rfl : i = n := by omega
   have HTt := hid (HT.out.kept HA.out HXb.out)
   have HBl : Hid (wB.heap.size ≤ wt.heap.size) := hid HTt.out.ap.size
   obtain ⟨far, w3, hrun, v3, l3, or3⟩ := Wv.app (M := M) (by rw [← Hn.out]; exact HV.out) 2 (by omega) (by rw [← Hn.out]; omega) HBl.out
   have e2 : (byts (List.replicate 2 M)).toArray = #[.int .u8 (M : Int), .int .u8 (M : Int)] := rfl
   rw [e2] at hrun
   rw [← Hn.out] at hrun l3
   have HR := hid hrun
   have HV3 := hid v3
   have Hl3 := hid l3
   -- what is held of b and of far, with what has changed
   have HI3 : Hid (HbP w w3 b far M) := hid (by
    rcases or3 with ⟨o1, ⟨g, o2⟩, o3⟩ | ⟨g, o1, o2, o3, o4⟩
    ·refine ⟨?_, ?_, .inl o1, fun P hP => by obtain ⟨-, -, e⟩ := v3.own (P := P) (by rw [ownp o1]; exact hP); exact e⟩
     ·rw [← o1]
      exact v3.rdT (by rw [l3]; have := Hn.out; omega) (by rw [l3]; have := Hn.out; omega)
     ·have e : b.v.ownBlock.toList = [g] := by rw [Sl.v, o2]; rfl
      have h1 := o3 g o2
      rw [e]
      have h2 := HA.out
      rw [e] at h2
      exact h2.trans h1
    ·refine ⟨(HV.out.rdT (by have := Hn.out; omega) (by have := Hn.out; omega)).kept o4 (by simp), HA.out.trans (o4.mono (by simp)), .inr ⟨g, o1, Nat.le_trans HA.out.size o2, fun e => ?_⟩, fun P hP => by obtain ⟨-, -, e⟩ := (HV.out.kept o4).own hP; exact e⟩
     obtain ⟨-, -, cur, m, e3⟩ := HV.out.own e
     have := lt_of_heapM e3
     omega)
   clear hrun v3 l3 or3 e2
   go_upto_region 6 with (refine wpList_append3 rfl _ _ 29 rfl _ _ rfl rfl (.slice far.p far.n far.c) w3 HR.out ?_)
   clear HR HTt HBl HV HA
   go_loopw [6] (fun v6 wt => ∃ (j : Nat) (far : Sl), v6 = .slice far.p (i + 2 + j) far.c ∧ j ≤ 78 ∧ Hid (far.n = i + 2 + j) ∧ Hid (Wv wB.heap.size wt far far.n M) ∧ Hid (HbP w wt b far M)) (fun v6 _ => i + 80 - lenS v6)
   case atStart => exact ⟨0, far, by rw [Hl3.out], by omega, Hl3, HV3, HI3⟩
   case round =>
    clear HV3 HI3 Hl3
    obtain ⟨j, f2, rfl, hj, Hfn, HV, HI⟩ := hrel
    generalize wr = wt2 at *
    have HTt := hid (HT.out.kept HI.out.2.1 HXb.out)
    have HBl : Hid (wB.heap.size ≤ wt2.heap.size) := hid HTt.out.ap.size
    by_cases hlt2 : j < 78
    ·have hlti : ((i + 2 + j : Nat) : Int) < ((i : Nat) : Int) + 80 := by omega
     obtain ⟨f3, w4, hrun, v4, l4, or4⟩ := Wv.app HV.out 1 (by omega) (by rw [Hfn.out]; omega) HBl.out
     have e1 : (byts (List.replicate 1 M)).toArray = #[.int .u8 (M : Int)] := rfl
     rw [e1, Hfn.out] at hrun
     rw [Hfn.out] at l4
     have HR := hid hrun
     have HV4 := hid v4
     have Hl4 : Hid (f3.n = i + 2 + (j + 1)) := hid (by rw [l4]; omega)
     have HI4 : Hid (HbP w w4 b f3 M) := hid (by
      obtain ⟨i1, i2, i3, i6⟩ := HI.out
      have hbn : b.n ≤ f2.n := by rw [Hfn.out, ← Hn.out]; omega
      rcases or4 with ⟨o1, ⟨g, o2⟩, o3⟩ | ⟨g, o1, o2, o3, o4⟩
      ·rcases i3 with i3 | ⟨g', i3, i4, i5⟩
       ·refine ⟨?_, ?_, .inl (o1.trans i3), fun P hP => by obtain ⟨-, -, e⟩ := v4.own (P := P) (by rw [ownp (o1.trans i3)]; exact hP); exact e⟩
        ·rw [← i3, ← o1]
         exact v4.rdT (by rw [l4, ← Hfn.out]; omega) (by rw [l4, ← Hfn.out]; omega)
        ·have e : b.v.ownBlock.toList = [g] := by rw [Sl.v, ← i3, o2]; rfl
         have h1 := o3 g o2
         rw [e]
         rw [e] at i2
         exact i2.trans h1
       ·obtain rfl : g = g' := by rw [i3] at o2; simpa using o2.symm
        have h1 := o3 g o2
        refine ⟨fun h0 => ?_, i2.trans' h1 (fun y hy => by rw [List.mem_singleton.1 hy]; exact .inr i4), .inr ⟨g, o1.trans i3, i4, i5⟩, fun P hP => ?_⟩
        ·obtain ⟨P, o, e1, ⟨cur, m, e2⟩, e3⟩ := i1 h0
         have hPg : P ∉ [g] := fun hm => by
          rw [List.mem_singleton.1 hm] at e1
          exact i5 (by rw [Sl.v, e1]; rfl)
         exact ⟨P, o, e1, ⟨cur, m, (h1.block P (lt_of_heapM e2) hPg).trans e2⟩, fun q u hq => (h1.cell (lt_of_heapM e2) hPg).trans (e3 q u hq)⟩
        ·obtain ⟨cur, m, e2⟩ := i6 P hP
         exact ⟨cur, m, (h1.block P (lt_of_heapM e2) (fun hm => i5 (by rw [← List.mem_singleton.1 hm]; exact hP))).trans e2⟩
      ·refine ⟨i1.kept o4 (by simp), i2.trans (o4.mono (by simp)), .inr ⟨g, o1, Nat.le_trans i2.size o2, fun e => ?_⟩, fun P hP => by obtain ⟨cur, m, e2⟩ := i6 P hP; exact ⟨cur, m, (o4.block P (lt_of_heapM e2) (by simp)).trans e2⟩⟩
       obtain ⟨-, -, cur, m, e3⟩ := HV0x.out.own e
       have h1 := lt_of_heapM e3
       have h2 := i2.size
       omega)
     clear hrun v4 l4 or4 e1 HTt HBl
     go_wp2_with (refine wpList_append3 rfl _ _ 29 rfl _ _ rfl rfl (.slice f3.p f3.n f3.c) w4 HR.out ?_)
     exact ⟨⟨j + 1, f3, by rw [Hl4.out], by omega, Hl4, HV4, HI4⟩, by rw [Hl4.out]; simp [lenS]; omega⟩
    ·have hlti : ¬ ((i + 2 + j : Nat) : Int) < ((i : Nat) : Int) + 80 := by omega
     obtain ⟨i0, hif, hz0, hz1, hz2⟩ := info_of info29
     have hsn2 : sH.n = 2 * q := hsn
     obtain ⟨s5, w5, hrun, hnw5, hs5, ap5, k5, hk5, -, hk6⟩ := run_appM (s := sH) 46 46 29 i0 _ 1 24 Tryz.underlying46 hif hz0 hz1 hz2 rfl (by decide) HTt.out.nh 2 (svs [b, f2]) (by decide) rfl svs_one (by unfold maxLen; omega) (by omega)
     have e5 : (svs [b, f2]).toArray = #[.slice b.p b.n b.c, .slice f2.p f2.n f2.c] := rfl
     have e6 : sH.v = .slice sH.p (2 * q) sH.c := by rw [Sl.v, hsn]
     rw [e5, ← Hn.out, Hfn.out, e6] at hrun
     have HR := hid hrun
     have hNw : ∀ P, s5.v.ownBlock = some P → sH.v.ownBlock = some P ∨ w.heap.size ≤ P := fun P hP => by
      rw [Sl.v, hk5] at hP
      obtain rfl : k5 = P := by simpa [Value.ownBlock] using hP
      exact hk6.imp id (fun z => Nat.le_trans HI.out.2.1.size z)
     have HN5 := hid hNw
     have hlen : H.length = 2 * q := by rw [← HTt.out.hn, hsn]
     have eb : ∀ P, b.v.ownBlock = some P → wB.heap.size ≤ P ∧ ∃ cur m, wt2.heap[P]? = some (.cells cur 5 m) := fun P hP => by
      obtain ⟨-, h2, -⟩ := HV0x.out.own hP
      exact ⟨h2, HI.out.2.2.2 P hP⟩
     have HPu := hid (HTt.out.pushH (b := b) (far := f2) (sN := s5) ap5 (by rw [svs_app]; exact hnw5) (by rw [hs5, HTt.out.hn]) (fun P hP => by
      rw [Sl.v, hk5] at hP
      obtain rfl : k5 = P := by simpa [Value.ownBlock] using hP
      exact hk6) (by rw [HMk.out]; exact HI.out.1) (by rw [HMk.out]; exact HV.out.rdT (Nat.le_refl _) (Nat.le_refl _)) eb (fun P hP => by
       obtain ⟨-, h2, cur, m, h3⟩ := HV.out.own hP
       exact ⟨h2, cur, m, h3⟩))
     have HB5 : Hid (w5.heap[T]? = some (.cells (tbC k p r sH sL).toArray 49 (0, 0))) := hid ((ap5.block T (lt_of_heap HTt.out.blk) (fun hm => by
      obtain ⟨cur, e⟩ := own_typ HTt.out.nh.own (k := T) (by simpa using hm)
      rw [HTt.out.blk] at e
      simp at e)).trans HTt.out.blk)
     have HK : Hid (KP w (w5.setCell ⟨T, 9, none⟩ (.slice s5.p s5.n s5.c)) T sH s5 b h (fun P => h P ∨ b.v.ownBlock = some P ∨ f2.v.ownBlock = some P)) := hid ⟨((HI.out.2.1.mono (fun y hy => by simp only [List.mem_cons, List.mem_append]; exact .inr (.inr hy))).trans (ap5.mono (fun y hy => by simp only [List.mem_cons, List.mem_append]; exact .inr (.inl hy)))).setCell (.inl (by simp)) _, fun P hP => by
      rcases hP with hP | hP | hP
      ·exact .inl hP
      ·exact .inr (.inl hP)
      ·rcases HI.out.2.2.1 with e | ⟨g, e, e2, -⟩
       ·exact .inr (.inl (by rw [← ownp e]; exact hP))
       ·rw [Sl.v, e] at hP
        obtain rfl : g = P := by simpa [Value.ownBlock] using hP
        exact .inr (.inr e2), HN5.out⟩
     have z9 := HTt.out.ch
     rw [hsn] at z9
     have z95 : w5.cell? ⟨T, 9, none⟩ = some (.slice sH.p (2 * q) sH.c) := by rw [← hsn]; exact dcell HB5.out rfl
     have f95 : w5.frozen? ⟨T, 9, none⟩ = false := frozen_of_row _ _ _ _ _ HB5.out
     clear hrun hnw5 hs5 ap5 hk5 hk6 e5 e6 hNw eb hif hz0 hz1 hz2 hsn2 hlen
     go_wp2_with (refine wpList_append3 rfl _ _ 46 rfl _ _ rfl rfl (.slice s5.p s5.n s5.c) w5 HR.out ?_)
     go_end0
     exact ⟨rfl, f2, s5, _, HPu.out, HK.out, by rw [Hfn.out]; omega⟩
variable {wB w w' w2 : World} {T k : Nat} {p r : Nat → Nat} {v : Nat → Vl} {ts : Nat → List Tg} {H L : List Sl} {sH sL : Sl} {h : Nat → Prop}
theorem Tb.pushL2 {b sN : Sl} (t : Tb wB w T k p r v ts H L sH sL h) (a : Apart (T :: (sL.v.ownBlock.toList ++ b.v.ownBlock.toList)) w w') (hblk : w'.heap[T]? = some (.cells (tbC k p r sH sN).toArray 49 (0, 0))) (hsN : w'.ownsRow 0 46 1 sN.v sN.n (svs (L ++ [b]))) (hnew : ∀ P, sN.v.ownBlock = some P → wB.heap.size ≤ P) (hl : sN.n = L.length + 1) (hb : ∀ j, j < b.n → ∃ P o cur m q c, b.p = some ⟨P, o, none⟩ ∧ w'.heap[P]? = some (.cells cur 29 m) ∧ w'.cell? ⟨P, o + j, none⟩ = some (.slice q (L.length + 1) c)) (eb : ∀ P, b.v.ownBlock = some P → wB.heap.size ≤ P ∧ ¬ h P ∧ (∃ cur m, w.heap[P]? = some (.cells cur 29 m)) ∧ (∃ cur m, w'.heap[P]? = some (.cells cur 29 m)) ∧ sH.v.ownBlock ≠ some P) : Tb wB w' T k p r v ts H (L ++ [b]) sH sN (fun P => h P ∨ b.v.ownBlock = some P) := by
 have hX : ∀ P ∈ T :: (sL.v.ownBlock.toList ++ b.v.ownBlock.toList), (∃ cur, w.heap[P]? = some (.cells cur 49 (0, 0))) ∨ (∃ cur, w.heap[P]? = some (.cells cur 46 (0, 0))) ∨ ((∃ cur m, w.heap[P]? = some (.cells cur 29 m)) ∧ b.v.ownBlock = some P) := fun P hP => by
  rcases List.mem_cons.1 hP with rfl | hP
  ·exact .inl ⟨_, t.blk⟩
  ·rcases List.mem_append.1 hP with hP | hP
   ·obtain ⟨cur, e⟩ := own_typ t.nl.own (k := P) (by simpa using hP)
    exact .inr (.inl ⟨cur, e⟩)
   ·have hP' : b.v.ownBlock = some P := by simpa using hP
    exact .inr (.inr ⟨(eb P hP').2.2.1, hP'⟩)
 have hne : ∀ {P : Nat} {cur : Array Value} {t : Nat} {m : Nat × Nat}, w.heap[P]? = some (.cells cur t m) → t ≠ 49 → t ≠ 46 → t ≠ 29 → P ∉ T :: (sL.v.ownBlock.toList ++ b.v.ownBlock.toList) := fun {P cur t m} e h1 h2 h3 hm => by
  rcases hX P hm with ⟨c, e'⟩ | ⟨c, e'⟩ | ⟨⟨c, m', e'⟩, -⟩
  all_goals
   rw [e'] at e
   simp only [Option.some.injEq, Obj.cells.injEq] at e
  ·exact h1 e.2.1.symm
  ·exact h2 e.2.1.symm
  ·exact h3 e.2.1.symm
 have hXn : ∀ {ty : Nat}, ty ≠ 49 → ty ≠ 46 → ty ≠ 29 → ∀ q ∈ T :: (sL.v.ownBlock.toList ++ b.v.ownBlock.toList), ∀ cur m, w.heap[q]? ≠ some (.cells cur ty m) := fun {ty} h1 h2 h3 q hq cur m e => hne e h1 h2 h3 hq
 have hap : Apart [] wB w' := t.ap.trans' a (fun y hy => by
  rcases List.mem_cons.1 hy with rfl | hy
  ·exact .inr t.tn
  ·rcases List.mem_append.1 hy with hy | hy
   ·exact .inr (t.nl.new y (by simpa using hy))
   ·exact .inr (eb y (by simpa using hy)).1)
 have hnP : ∀ P, h P → P ∉ T :: (sL.v.ownBlock.toList ++ b.v.ownBlock.toList) := fun P hP hm => by
  obtain ⟨-, ⟨cur, m, e⟩, e3⟩ := t.hh P hP
  rcases hX P hm with ⟨c, e'⟩ | ⟨c, e'⟩ | ⟨-, q⟩
  ·rw [e'] at e; simp at e
  ·rw [e'] at e; simp at e
  ·exact (eb P q).2.1 hP
 have hbk : ∀ {P : Nat} {cur : Array Value} {m : Nat × Nat} {ty : Nat}, h P → w.heap[P]? = some (.cells cur ty m) → w'.heap[P]? = some (.cells cur ty m) := fun {P cur m ty} hp e => (a.block P (lt_of_heapM e) (hnP P hp)).trans e
 have hc : ∀ {P o : Nat} {cur : Array Value} {m : Nat × Nat} {ty : Nat}, h P → w.heap[P]? = some (.cells cur ty m) → w'.cell? ⟨P, o, none⟩ = w.cell? ⟨P, o, none⟩ := fun {P o cur m ty} hp e => a.cell (lt_of_heapM e) (hnP P hp)
 refine ⟨hblk, t.tn, t.pn, t.rn, t.pd, t.rd, fun i hi => ?_, fun i hi => ?_, t.iv, t.kd, t.rl, ?_, t.hn, ⟨hsN, hnew, hap⟩, by rw [hl, List.length_append]; rfl, fun i x hx => ?_, fun i x hx j hj => ?_, fun P hP => ?_, t.ev⟩
 ·obtain ⟨b0, hb0⟩ := t.bdP hi
  exact (t.pv i hi).keptX a (hne hb0 (by decide) (by decide) (by decide)) (hXn (by decide) (by decide) (by decide))
 ·obtain ⟨s, hs⟩ := t.rv i hi
  exact ⟨s, hs.other a (hne hs.dv.blk (by decide) (by decide) (by decide)) (hXn (by decide) (by decide) (by decide))⟩
 ·exact t.nh.keptX a (fun q hq hm => by
   obtain ⟨cur, e⟩ := own_typ t.nh.own hq
   rcases hX q hm with ⟨c, e'⟩ | ⟨c, e'⟩ | ⟨-, q'⟩
   ·rw [e'] at e; simp at e
   ·rw [e'] at e; simp at e
   ·exact (eb q q').2.2.2.2 hq) hap
 ·obtain ⟨h1, h2⟩ := t.hd i x hx
  exact ⟨h1.kept a (hXn (by decide) (by decide) (by decide)), fun P o e => .inl (h2 P o e)⟩
 ·by_cases hi : i < L.length
  ·rw [List.getElem?_append_left hi] at hx
   obtain ⟨P, o, cur, m, q, c, e1, e2, e3, e4⟩ := t.ld i x hx j hj
   exact ⟨P, o, cur, m, q, c, e1, .inl e2, hbk e2 e3, (hc e2 e3).trans e4⟩
  ·rw [List.getElem?_append_right (by omega)] at hx
   have e : i - L.length = 0 := by
    have := (List.getElem?_eq_some_iff.1 hx).1
    simp at this
    omega
   rw [e] at hx
   obtain rfl : b = x := by simpa using hx
   obtain rfl : i = L.length := by
    have h1 : L.length ≤ i := by omega
    omega
   obtain ⟨P, o, cur, m, q, c, e1, e3, e4⟩ := hb j hj
   exact ⟨P, o, cur, m, q, c, e1, .inr (by rw [Sl.v, e1]; rfl), e3, e4⟩
 ·rcases hP with hP | hP
  ·obtain ⟨e1, ⟨cur, m, e2⟩, e3⟩ := t.hh P hP
   exact ⟨e1, ⟨cur, m, e2.imp (hbk hP) (hbk hP)⟩, e3⟩
  ·obtain ⟨h1, -, -, ⟨cur, m, e⟩, e3⟩ := eb P hP
   exact ⟨h1, ⟨cur, m, .inr e⟩, e3⟩
theorem Bytes_w {w : World} {V : Nat} {v : Vl} (hV : Ho w V v) (ok : OkF v) : Calls Tryz.prog 17 #[.pointer (some ⟨V, 0, none⟩)] w fun r w' => ∃ s : Sl, r = .returned (.tuple #[.slice s.p s.n s.c, .int .i64 (wzV v)]) ∧ Bq w' s (bzV v) ∧ Wq w.heap.size w' s ∧ Apart [] w w' := by
 unfold bzV wzV
 by_cases h : (formV v).length ≤ 64
 ·rw [if_pos h, if_pos h]
  refine (Bytes_v hV ok h).mono ?_
  rintro _ w' ⟨s, rfl, b⟩
  exact ⟨s, rfl, ⟨b.nw.rd, b.len.symm, b.nw.ok⟩, Wq.of_bf b, b.nw.ap⟩
 ·rw [if_neg h, if_neg h]
  refine (Bytes_wide hV ok (by omega)).mono ?_
  rintro _ w' ⟨rfl, a⟩
  exact ⟨⟨none, 0, 0⟩, rfl, ⟨Rd.nil _ _, rfl, fun _ => ⟨rfl, rfl⟩⟩, .inl ⟨rfl, rfl, rfl⟩, a⟩
theorem bz_len (v : Vl) : (bzV v).length ≤ 64 := by
 unfold bzV
 split
 ·assumption
 ·simp
theorem text_eq (v : Vl) (ts : List Tg) : strB (textR v) = (rvO v ts).tx := by
 cases v using Vl.el with
 | rgs s a t => exact strB_bsk t
 | cnt u d => rfl
 | set c es => rfl
 | flg c g => rfl
theorem text_len {v : Vl} (h : Gd v) : (textR v).length ≤ 59 := by
 cases v using Vl.el with
 | rgs s a t => show (bsk t).length ≤ 59; rw [bsk_len]; exact h.2.1.2
 | cnt u d => simp [textR]
 | set c es => simp [textR]
 | flg c g => simp [textR]
theorem els_size {v : Vl} (h : Gd v) : ∀ x ∈ elsR v, x.e.size ≤ 8 := by
 cases v using Vl.el with
 | set c es => exact h.2.2
 | cnt u d => simp [elsR]
 | rgs s a t => simp [elsR]
 | flg c g => simp [elsR]
theorem make_len (w : World) (n : Nat) (h2 : n ≤ 4000000000) : ∃ Z : Array Value, Sem.run Tryz.prog (Instr.makeSlice 29 (.int .i64 (n : Int)) (.int .i64 (n : Int))) w = .ok (.slice (some ⟨w.heap.size, 0, none⟩) n n) (w.alloc (.cells Z 5)) := by
 obtain ⟨i, hi, hz0, hz1, hz2⟩ := info_of info5
 have := run_make (P := Tryz.prog) w 29 5 i _ Tryz.underlying29 hi hz0 .i64 .i64 n n (by omega) (by omega) (by rw [hz2]; omega) (by omega)
 exact ⟨_, this⟩
def Wx (w : World) (s : Sl) (i : Nat) (M : Value) : Prop := (s.p = none ∧ s.n = 0 ∧ s.c = 0) ∨ ∃ g cur, s.p = some ⟨g, 0, none⟩ ∧ w.heap[g]? = some (.cells cur 29 (0, 0)) ∧ cur.size = s.c ∧ s.n ≤ s.c ∧ s.c ≤ maxLen ∧ ∀ j, j < i → cur[j]? = some M
theorem Wx.of {w0 w : World} {s : Sl} {us : List Value} (h : w.ownsRow 0 29 1 s.v s.n us) (M : Value) : Wx w s 0 M := by
 obtain ⟨ho, ⟨hv, hz⟩ | ⟨g, cap, cur, hv, hb, hr, hle, hm, hs, ht⟩⟩ := h
 ·simp only [Sl.v, Value.slice.injEq] at hv
  exact .inl hv
 ·have hv' := hv
  simp only [Sl.v, Value.slice.injEq] at hv'
  exact .inr ⟨g, cur, hv'.1, hr, by rw [hs, hv'.2.2, Nat.mul_one], by rw [hv'.2.2]; exact hle, by rw [hv'.2.2]; exact hm, fun j hj => by omega⟩
theorem Wx.set {w : World} {s : Sl} {i : Nat} {M : Value} (h : Wx w s i M) (hi : i < s.n) : ∃ g u, s.p = some ⟨g, 0, none⟩ ∧ w.cell? ⟨g, i, none⟩ = some u ∧ w.frozen? ⟨g, i, none⟩ = false ∧ Wx (w.setCell ⟨g, i, none⟩ M) s (i + 1) M := by
 rcases h with ⟨-, h, -⟩ | ⟨g, cur, h1, h3, h5, h6, h8, h7⟩
 ·omega
 ·refine ⟨g, _, h1, (cell_of_row _ _ _ _ _ _ h3).trans (Array.getElem?_eq_getElem (by omega)), frozen_of_row _ _ _ _ _ h3, .inr ⟨g, _, h1, setM_heap h3 _, by simp [h5], h6, h8, fun j hj => ?_⟩⟩
  rw [Array.getElem?_setIfInBounds]
  by_cases e : i = j
  ·rw [if_pos e, if_pos (by omega)]
  ·rw [if_neg e]; exact h7 j (by omega)
theorem Wx.own {w : World} {s : Sl} {M : Value} (h : Wx w s s.n M) : w.ownsRow 0 29 1 s.v s.n (List.replicate s.n M) := by
 rcases h with ⟨h1, h2, h3⟩ | ⟨g, cur, h1, h3, h5, h6, h8, h7⟩
 ·exact ⟨by simp, .inl ⟨by rw [Sl.v, h1, h2, h3], h2⟩⟩
 ·refine ⟨by simp, .inr ⟨g, s.c, cur, by rw [Sl.v, h1], Nat.zero_le _, h3, h6, h8, by rw [h5, Nat.mul_one], ?_⟩⟩
  apply List.ext_getElem?
  intro j
  rw [Nat.mul_one, List.getElem?_take, List.getElem?_replicate]
  by_cases hj : j < s.n
  ·rw [if_pos hj, if_pos hj, Array.getElem?_toList]; exact h7 j hj
  ·rw [if_neg hj, if_neg hj]
theorem own_at {w : World} {s : Sl} {us : List Value} (h : w.ownsRow 0 29 1 s.v s.n us) (h0 : 0 < us.length) : ∃ g, s.p = some ⟨g, 0, none⟩ ∧ g < w.heap.size ∧ (∃ cur, w.heap[g]? = some (.cells cur 29 (0, 0))) ∧ ∀ j u, us[j]? = some u → w.cell? ⟨g, j, none⟩ = some u := by
 obtain ⟨P, o, hp, hP, hc⟩ := Rd.own h h0
 obtain ⟨cur, e⟩ := own_typ h (k := P) (by rw [Sl.v, hp]; rfl)
 obtain ⟨ho, ⟨hv, hz⟩ | ⟨g, cap, cu, hv, hb, hr, hle, hm, hs, ht⟩⟩ := h
 ·rw [hz] at ho; omega
 ·simp only [Sl.v, Value.slice.injEq] at hv
  rw [hp] at hv
  simp only [Option.some.injEq, Addr.mk.injEq] at hv
  obtain ⟨⟨rfl, rfl, -⟩, -⟩ := hv
  exact ⟨P, hp, hP, ⟨cur, e⟩, fun j u hj => by have := hc j u hj; rwa [Nat.zero_add] at this⟩
theorem app_or {w W : World} {s : Sl} {us : List Value} (t ty e : TypeId) (i : TypeInfo) (z : Value) (size bytes : Nat) (ht : Tryz.prog.underlying t = some (.slice e)) (hi : Tryz.prog.info? e = some i) (hz : i.zero = some z) (hsize : i.size = size) (hby : i.bytes = bytes) (hzs : z.cells.size = size) (hsz : 0 < size)
  (h : Nw w W e size s us) (m : Nat) (cs : List Value) (hm : 0 < m) (hcl : cs.length = m * size) (one : ∀ u ∈ cs, u.oneCell' = true) (h63 : s.n + m ≤ maxLen) (hb : (s.n + m) * bytes ≤ 140737488355328) :
  ∃ s' W', (Builtin.append_ #[t, t] ty #[.slice s.p s.n s.c, .slice (some ⟨W.heap.size, 0, none⟩) m m]).run Tryz.prog (W.alloc (.cells cs.toArray e)) = .ok (.slice (Sl.p s') (Sl.n s') (Sl.c s')) W' ∧ s'.n = s.n + m ∧ ((s'.p = s.p ∧ s'.c = s.c ∧ (s.p ≠ none ∧ s.n + m ≤ s.c) ∧ Nw w W' e size s' (us ++ cs) ∧ Apart s.v.ownBlock.toList W W') ∨ (Nw W W' e size s' (us ++ cs) ∧ Apart [] W W' ∧ (s.p ≠ none → s.c < s.n + m))) := by
 have a1 : Apart [] W (W.alloc (.cells cs.toArray e)) := (Apart.refl [] W).alloc _
 have hcs : ∀ j u, cs[j]? = some u → (W.alloc (.cells cs.toArray e)).cell? ((⟨W.heap.size, 0, none⟩ : Addr).add j) = some u := by
  intro j u hj
  rw [Addr.add_lit, Nat.zero_add, cell_of_row _ _ _ _ _ _ (heap_alloc_new W (.cells cs.toArray e))]
  simpa using hj
 have hk := h.kept a1
 have h0 := hk.own
 obtain ⟨hxl, ⟨hv, hn0⟩ | ⟨g, cap, cur, hv, hbb, hr, hle, hrest⟩⟩ := hk.own
 ·have hu : us = [] := by rw [hn0] at hxl; simpa using hxl
  subst hu
  obtain ⟨v', W', hrun, r1, r2, _⟩ := run_append_own (P := Tryz.prog) (W.alloc (.cells cs.toArray e)) (W.alloc (.cells cs.toArray e)).heap.size t ty e i z size bytes ht hi hz hsize hby hzs hsz (.slice none 0 0) 0 [] (World.ownsRow_nil _ _ e size) ⟨W.heap.size, 0, none⟩ m m cs hcl hcs one (by omega) (by rw [Nat.zero_add]; rw [hn0, Nat.zero_add] at hb; exact hb) (Nat.le_refl _)
  have ap : Apart [] (W.alloc (.cells cs.toArray e)) W' := by have := apart_grown r2; simpa [Value.ownBlock] using this
  have hnew : ∀ k, v'.ownBlock = some k → W.heap.size ≤ k := fun k hk => Nat.le_trans a1.size ((r1.lt k hk).1)
  have r0 := own_base r1 (Nat.zero_le _)
  obtain ⟨s', e1, e2⟩ : ∃ s' : Sl, v' = .slice s'.p s'.n s'.c ∧ s'.n = m := by
   obtain ⟨_, ⟨hv, hz⟩ | ⟨g, cap, cur, hv, _⟩⟩ := r1
   ·omega
   ·exact ⟨⟨some ⟨g, 0, none⟩, m, cap⟩, by rw [hv, Nat.zero_add], rfl⟩
  have hsv : (Value.slice s.p s.n s.c) = .slice none 0 0 := hv
  refine ⟨s', W', by rw [hsv, ← e1]; exact hrun, by omega, .inr ⟨⟨?_, ?_, a1.trans ap⟩, a1.trans ap, fun hq => by simp at hsv; exact absurd hsv.1 hq⟩⟩
  ·show W'.ownsRow 0 e size (.slice s'.p s'.n s'.c) s'.n _
   rw [← e1, e2]
   rw [Nat.zero_add] at r0
   exact r0
  ·intro k hk
   refine hnew k ?_
   rw [e1]; exact hk
 ·have hsv : (Value.slice s.p s.n s.c) = .slice (some ⟨g, 0, none⟩) s.n cap := hv
  have hsp : s.p = some ⟨g, 0, none⟩ ∧ s.c = cap := by simp at hsv; exact hsv
  by_cases hroom : s.n + m ≤ cap
  ·rw [hv] at h0
   obtain ⟨W', hrun, r1, r2⟩ := run_append_own_spare (P := Tryz.prog) (W.alloc (.cells cs.toArray e)) 0 t ty e i size ht hi hsize g s.n cap us h0 ⟨W.heap.size, 0, none⟩ m m cs hcl hcs one hroom
   have ap : Apart [g] (W.alloc (.cells cs.toArray e)) W' := by have := apart_grown r2; simpa [Value.ownBlock] using this
   have hgw : w.heap.size ≤ g := h.new g (by rw [hv]; rfl)
   have hb1 : s.v.ownBlock = some g := by rw [hv]; rfl
   refine ⟨⟨s.p, s.n + m, s.c⟩, W', by rw [hsv, hsp.1, hsp.2]; exact hrun, rfl, .inl ⟨rfl, rfl, ⟨by rw [hsp.1]; simp, by rw [hsp.2]; exact hroom⟩, ⟨?_, ?_, ?_⟩, ?_⟩⟩
   ·unfold Sl.v
    dsimp only
    rw [hsp.1, hsp.2]
    exact r1
   ·intro k hk
    unfold Sl.v at hk
    dsimp only at hk
    rw [hsp.1] at hk
    simp [Value.ownBlock] at hk
    omega
   ·exact h.ap.trans' ((a1.mono (by simp)).trans ap) (fun y hy => by simp at hy; exact .inr (by omega))
   ·rw [hb1]
    exact (a1.mono (by simp)).trans ap
  ·obtain ⟨v', W', hrun, r1, r2⟩ := run_append_arg_grows (P := Tryz.prog) (W.alloc (.cells cs.toArray e)) t ty e i z size bytes ht hi hz hsize hby hzs hsz ⟨g, 0, none⟩ s.n cap us (by omega) (fun j u hu => by rw [hv] at h0; exact h0.cells rfl j u hu) ⟨W.heap.size, 0, none⟩ m m cs hcl hcs (by omega) h63 hb
   have ap : Apart [] (W.alloc (.cells cs.toArray e)) W' := by have := apart_grown r2; simpa using this
   have hnew : ∀ k, v'.ownBlock = some k → W.heap.size ≤ k := fun k hk => Nat.le_trans a1.size ((r1.lt k hk).1)
   have r0 := own_base r1 (Nat.zero_le _)
   obtain ⟨s', e1, e2⟩ : ∃ s' : Sl, v' = .slice s'.p s'.n s'.c ∧ s'.n = s.n + m := by
    obtain ⟨_, ⟨hv, hz⟩ | ⟨g, cap, cur, hv, _⟩⟩ := r1
    ·omega
    ·exact ⟨⟨some ⟨g, 0, none⟩, s.n + m, cap⟩, hv, rfl⟩
   refine ⟨s', W', by rw [hsv, ← e1]; exact hrun, e2, .inr ⟨⟨?_, ?_, a1.trans ap⟩, a1.trans ap, fun _ => by rw [hsp.2]; omega⟩⟩
   ·show W'.ownsRow 0 e size (.slice s'.p s'.n s'.c) s'.n _
    rw [← e1, e2]
    exact r0
   ·intro k hk
    refine hnew k ?_
    rw [e1]; exact hk

theorem ex_idx46 {W : World} {eval : Operand → Value} {op : Oper} {p : Option Addr} {n c q : Nat} (x y : Operand) (P : Nat) (ho : op.op = .indexAddr 46 x y) (hx : eval x = .slice p n c) (hp : p = some ⟨P, 0, none⟩) (hy : eval y = .int .i64 (q : Int)) (hq : q < n) : (execOp eval op).run Tryz.prog W = .ok (.value (.pointer (some ⟨P, q, none⟩))) W := by
 subst hp
 unfold execOp
 simp only [ho, hx, hy]
 have hq2 : ((q : Nat) : Int) < ((n : Nat) : Int) := by omega
 go_simp
theorem ex_idx65 {W : World} {eval : Operand → Value} {op : Oper} {p : Option Addr} {n c q : Nat} (x y : Operand) (P o : Nat) (ho : op.op = .indexAddr 65 x y) (hx : eval x = .slice p n c) (hp : p = some ⟨P, o, none⟩) (hy : eval y = .int .i64 (q : Int)) (hq : q < n) : (execOp eval op).run Tryz.prog W = .ok (.value (.pointer (some ⟨P, o + q, none⟩))) W := by
 subst hp
 unfold execOp
 simp only [ho, hx, hy]
 have hq2 : ((q : Nat) : Int) < ((n : Nat) : Int) := by omega
 go_simp
end Go.Proofs.YtdbeeikjngnnnaaGreat.ty
