import Derived.Test.YtdbeeikjngnnnaaGreatC10
namespace Go.Proofs.YtdbeeikjngnnnaaGreat.ty
open Go.ChangeShapes Go.WideShapes Go.ChangeAt Go.RowKit
set_option linter.unusedVariables false
set_option linter.unusedSimpArgs false
set_option maxRecDepth 100000
set_option maxHeartbeats 8000000
def z106 : Value := .agg #[.string ⟨#[]⟩, .int .i64 0, .int .i64 0, .int .i64 0, .int .i64 0, .int .i64 0, .int .i64 0, .int .i64 0, .int .i64 0]
theorem zc (n : Nat) : (Builtin.zeroCells z106.cells n).size = n * 9 := by
 unfold Builtin.zeroCells
 rw [Array.size_map, Array.size_range]; rfl
theorem evs_one {es : List En} : ∀ u ∈ evs es, u.oneCell' = true := by
 induction es with
 | nil => intro u hu; simp [evs] at hu
 | cons x r ih =>
  intro u hu
  simp only [evs, En.vs, List.cons_append, List.mem_cons, List.mem_append] at hu
  rcases hu with rfl | hu | hu
  ·rfl
  ·exact rv_one _ u hu
  ·exact ih u hu
theorem grow_ok (n : Nat) (h1 : 1 ≤ n) (h2 : n ≤ 1000000) (w : World) : Calls Tryz.prog 124 #[.slice none 0 0, .int .i64 n] w fun r w' => ∃ s : Sl, r = .returned (.slice s.p s.n s.c) ∧ s.n = 0 ∧ Nw w w' 141 9 s [] := by
 obtain ⟨i0, hi, hz0, hz1, hz2⟩ := info_of info106
 have hz0 : i0.zero = some z106 := hz0
 have hold : (Builtin.firstCells i0.size 0 (.slice none 0 0)).run Tryz.prog w.drew = .ok ([] : List Value).toArray w.drew := run_firstCells_none w.drew i0.size 0 0 0
 have hrz : ∀ ty, (Builtin.append_ #[102, 3] ty #[.slice none 0 0, .int .i64 (n : Int)]).run Tryz.prog w =
   .ok (.slice (some ⟨w.heap.size, 0, none⟩) (0 + n) (grownCap w (0 + n) 0 141)) (w.drew.alloc (.cells (([] : List Value).toArray ++ Builtin.zeroCells z106.cells n ++ Builtin.zeroCells z106.cells (grownCap w (0 + n) 0 141 - (0 + n))) 141)) := fun ty =>
  Lib.run_append_grow_zeros w 102 3 ty 141 i0 z106 .i64 .i64 Tryz.underlying102 Tryz.underlying3 hi hz0 none 0 0 [] hold n (by omega) (by omega) (by omega) (by omega)
   (by rw [hz2]; omega)
   (by rw [hz2]; exact growslice_fits (by omega) (by omega))
 have hGn : 0 + n ≤ grownCap w (0 + n) 0 141 := grownCap_ge w _ _ _
 have hGm : grownCap w (0 + n) 0 141 ≤ maxLen := grownCap_le_maxLen w _ _ _ (by unfold maxLen; omega)
 obtain ⟨G, hG⟩ : ∃ G, G = grownCap w (0 + n) 0 141 := ⟨_, rfl⟩
 rw [← hG] at hrz hGn hGm
 have hG63 : G ≤ 9223372036854775807 := by unfold maxLen at hGm; omega
 obtain ⟨C, HC⟩ : ∃ C, Hid (C = ([] : List Value).toArray ++ Builtin.zeroCells z106.cells n ++ Builtin.zeroCells z106.cells (G - (0 + n))) := ⟨_, rfl⟩
 have HS : Hid (C.size = G * 9) := by
  show C.size = G * 9
  rw [HC.out, Array.size_append, Array.size_append, zc, zc]
  show 0 + n * 9 + (G - (0 + n)) * 9 = G * 9
  omega
 rw [← HC.out] at hrz
 rw [Nat.zero_add] at hrz
 clear hold hG HC hi hz0 hz1 hz2
 go_enter Tryz.func124, Tryz.ntmps124
 go_wp2_with (at_builtin; refine Lib.wpList_append_run _ rfl _ _ _ _ rfl _ _ rfl rfl _ _ (hrz _) ?_)
 go_ret
 refine ⟨⟨some ⟨w.heap.size, 0, none⟩, 0, G⟩, rfl, rfl, ⟨⟨rfl, .inr ⟨w.heap.size, G, C, rfl, Nat.zero_le _, ?_, Nat.zero_le _, hGm, HS.out, by simp⟩⟩, fun b hb => ?_, ((Apart.refl _ _).drew).alloc _⟩⟩
 ·show (w.drew.heap.push _)[w.drew.heap.size]? = _
  exact Array.getElem?_push_size
 ·simp [Sl.v, Value.ownBlock] at hb; omega
theorem grow_none (w : World) : Calls Tryz.prog 124 #[.slice none 0 0, .int .i64 0] w fun r w' => r = .returned (.slice none 0 0) ∧ w' = w := by
 go_enter Tryz.func124, Tryz.ntmps124
 go_wp2_with fail
 go_ret
 exact ⟨rfl, rfl⟩
theorem app_part {w W : World} {s q : Sl} {bs es : List En} (h : Nw w W 141 9 s (evs bs)) (hq : Es W q es) (hl : s.n + es.length ≤ 1000000) :
  ∃ s' W', (Builtin.append_ #[102, 102] 102 #[.slice s.p s.n s.c, .slice q.p q.n q.c]).run Tryz.prog W = .ok (.slice s'.p s'.n s'.c) W' ∧ Nw w W' 141 9 s' (evs (bs ++ es)) ∧ s'.n = s.n + es.length ∧ Apart s.v.ownBlock.toList W W' := by
 obtain ⟨i0, hi, hz0, hz1, hz2⟩ := info_of info106
 have hln := hq.len
 by_cases h0 : 0 < es.length
 ·obtain ⟨P, o, e1, _, _⟩ := hq.at 0 h0
  have hev := evs_len hq.row
  obtain ⟨P', o', e2, hb, hc⟩ := hq.rd (by omega)
  have hcs : ∀ j u, (evs es)[j]? = some u → W.cell? ((⟨P', o', none⟩ : Addr).add j) = some u := fun j u hj => by rw [Addr.add_lit]; exact hc j u hj
  obtain ⟨s', W', hrun, r1, r2, r3, _⟩ := run_appS 102 102 141 i0 _ 9 80 Tryz.underlying102 hi hz0 hz1 hz2 rfl (by decide) h ⟨P', o', none⟩ es.length q.c (evs es) h0 hev hcs evs_one (by unfold maxLen; omega) (by omega)
  refine ⟨s', W', ?_, by rw [evs_app]; exact r1, r2, r3⟩
  rw [e2, hln]
  exact hrun
 ·obtain rfl : es = [] := List.length_eq_zero_iff.1 (by omega)
  rw [List.append_nil]
  have hqn : q.n = 0 := hln
  obtain ⟨q1, q2, q3⟩ := q
  simp only at hqn
  subst hqn
  cases q1 with
  | none =>
   have := hq.ok rfl
   simp only at this
   obtain ⟨-, rfl⟩ := this
   exact ⟨s, W, run_append_owned_none (P := Tryz.prog) W 0 102 102 141 i0 9 Tryz.underlying102 hi s.v s.n (evs bs) h.own, h, rfl, Apart.refl _ _⟩
  | some ad =>
   have h' := h
   obtain ⟨hxl, ⟨hv, hz⟩ | ⟨g, cap, cur, hv, hbb, hr, hle, hrest⟩⟩ := h.own
   ·obtain ⟨p, n, c⟩ := s
    simp only [Sl.v, Value.slice.injEq] at hv
    obtain ⟨rfl, rfl, rfl⟩ := hv
    have hbs : evs bs = [] := by simpa using hxl
    rw [hbs] at h' ⊢
    obtain ⟨s', w', hrun, r1, r2⟩ := run_appNil W 102 102 141 i0 _ 9 80 Tryz.underlying102 hi hz0 hz1 hz2 rfl (by decide) ⟨some ad, 0, q3⟩ [] (Rd.nil _ _) rfl (by simp) (by simp) (by simp) hq.ok
    exact ⟨s', w', hrun, ⟨r1.own, fun k hk => Nat.le_trans h'.ap.size (r1.new k hk), h'.ap.trans r1.ap⟩, r2, by simpa [Sl.v, Value.ownBlock] using r1.ap⟩
   ·have how := h.own
    rw [hv] at how
    obtain ⟨w', hrun, r1, r2⟩ := run_append_own_spare (P := Tryz.prog) W 0 102 102 141 i0 9 Tryz.underlying102 hi hz1 g s.n cap (evs bs) how ad 0 q3 [] rfl (by simp) (by simp) (by omega)
    rw [List.append_nil] at r1
    have ap := apart_grown r2
    refine ⟨s, w', ?_, ⟨by rw [hv]; exact r1, h.new, h.ap.trans' ap (fun y hy => ?_)⟩, rfl, ?_⟩
    ·have hv2 : Value.slice s.p s.n s.c = .slice (some ⟨g, 0, none⟩) s.n cap := hv
     rw [hv2]; exact hrun
    ·simp at hy; subst hy; exact .inr (h.new _ (by rw [hv]; rfl))
    ·rw [hv]; exact ap
theorem Es.of_nw {w W : World} {s : Sl} {es : List En} (h : Nw w W 141 9 s (evs es)) (hl : s.n = es.length) (hr : ∀ x ∈ es, x.t.length = 8) : Es W s es := by
 refine ⟨fun h0 => ?_, hl, ?_, h.ok, hr⟩
 ·have h' := h.own
  obtain ⟨hxl, ⟨hv, hz⟩ | ⟨g, cap, cur, hv, hbb, hr', hle, hrest⟩⟩ := h.own
  ·rw [hz] at hxl; omega
  ·have hp : s.p = some ⟨g, 0, none⟩ := by simp only [Sl.v, Value.slice.injEq] at hv; exact hv.1
   refine ⟨g, 0, hp, ⟨cur, (0, 0), hr'⟩, fun j u hj => ?_⟩
   rw [hv] at h'
   have := h'.cells rfl j u hj
   rwa [Addr.add_lit] at this
 ·obtain ⟨hxl, ⟨hv, hz⟩ | ⟨g, cap, cur, hv, hbb, hr', hle, hrest⟩⟩ := h.own
  ·omega
  ·simp only [Sl.v, Value.slice.injEq] at hv; omega
def pvs (ps : List (Sl × List En)) : List Value := ps.map fun q => Value.slice q.1.p q.1.n q.1.c
def pfl (ps : List (Sl × List En)) : List En := ps.flatMap fun q => q.2
theorem pfl_take {ps : List (Sl × List En)} {i : Nat} (hi : i < ps.length) : pfl (ps.take (i + 1)) = pfl (ps.take i) ++ (ps[i]).2 := by
 rw [List.take_succ_eq_append_getElem hi]
 unfold pfl
 rw [List.flatMap_append]
 simp
theorem pfl_le {ps : List (Sl × List En)} (i : Nat) : (pfl (ps.take i)).length ≤ (pfl ps).length := by
 have e : pfl ps = pfl (ps.take i) ++ pfl (ps.drop i) := by unfold pfl; rw [← List.flatMap_append, List.take_append_drop]
 rw [e, List.length_append]; omega
theorem pfl_row {w : World} {ps : List (Sl × List En)} (h : ∀ q ∈ ps, Es w q.1 q.2) : ∀ x ∈ pfl ps, x.t.length = 8 := by
 intro x hx
 unfold pfl at hx
 obtain ⟨q, hq, hx⟩ := List.mem_flatMap.1 hx
 exact (h q hq).row x hx
theorem concat_ok {w : World} {B cc N : Nat} {ps : List (Sl × List En)} (hN : ps.length = N) (hN2 : N ≤ 1000) (hB : w.heap[B]? = some (.cells (pvs ps).toArray 102 (0, 0))) (hE : ∀ q ∈ ps, Es w q.1 q.2) (hn : (pfl ps).length ≤ 1000000) : Calls Tryz.prog 121 #[.slice (some ⟨B, 0, none⟩) N cc] w fun r w' => ∃ s : Sl, r = .returned (.slice s.p s.n s.c) ∧ Apart [] w w' ∧ Es w' s (pfl ps) ∧ Nw w w' 141 9 s (evs (pfl ps)) := by
 have HB := hid hB
 have HE := hid hE
 have Hn := hid hn
 have HN := hid hN
 have HZ : Hid (∀ i (h : i < N), w.cell? ⟨B, i, none⟩ = some (Value.slice (ps[i]'(by rw [HN.out]; exact h)).1.p (ps[i]'(by rw [HN.out]; exact h)).1.n (ps[i]'(by rw [HN.out]; exact h)).1.c)) := by
  unfold Hid
  intro i h
  rw [cell_of_row _ _ _ _ _ _ HB.out]
  simp [pvs, HN.out, h]
 clear hB hE hn hN
 go_enter Tryz.func121, Tryz.ntmps121
 go_wp2_with fail
 go_loopw [3, 11] (fun a v wt => ∃ i : Nat, v = .int .i64 (i : Nat) ∧ i ≤ N ∧ w = wt ∧ ∃ m : Nat, a = .int .i64 (m : Nat) ∧ Hid (m = (pfl (ps.take i)).length)) (fun _ v _ => N - (intOf v).toNat)
 case atStart => exact ⟨0, rfl, Nat.zero_le _, rfl, 0, rfl, hid rfl⟩
 case round =>
  obtain ⟨i, rfl, hi, rfl, m, rfl, Hm⟩ := hrel
  by_cases hlt : i < N
  ·have hlti : ((i : Nat) : Int) < ((N : Nat) : Int) := by omega
   have Hil : Hid (i < ps.length) := hid (by rw [HN.out]; exact hlt)
   have z := HZ.out i hlt
   obtain ⟨q, Hq⟩ : ∃ q, Hid (q = ps[i]'Hil.out) := ⟨_, hid rfl⟩
   rw [← Hq.out] at z
   have Hm2 : Hid (m + q.1.n = (pfl (ps.take (i + 1))).length) := hid (by rw [pfl_take Hil.out, List.length_append, Hm.out, ← Hq.out, (HE.out q (by rw [Hq.out]; exact List.getElem_mem _)).len])
   have hb : m + q.1.n ≤ 1000000 := by rw [Hm2.out]; exact Nat.le_trans (pfl_le _) Hn.out
   go_wp2_with fail
   exact ⟨⟨i + 1, by go_num, by omega, by first | rfl | trivial, m + q.1.n, by go_num, Hm2⟩, by simp [intOf]; omega⟩
  ·have hlti : ¬ ((i : Nat) : Int) < ((N : Nat) : Int) := by omega
   obtain rfl : N = i := by omega
   have Hmt : Hid (m = (pfl ps).length) := hid (by rw [Hm.out, List.take_of_length_le (by rw [HN.out]; exact Nat.le_refl _)])
   have hm6 : m ≤ 1000000 := by rw [Hmt.out]; exact Hn.out
   have HG : Hid (Calls Tryz.prog 124 #[.slice none 0 0, .int .i64 (m : Nat)] w fun r w' => ∃ s : Sl, r = .returned (.slice s.p s.n s.c) ∧ s.n = 0 ∧ Nw w w' 141 9 s []) := by
    unfold Hid
    by_cases h0 : m = 0
    ·subst h0
     refine (grow_none w).mono ?_
     rintro _ _ ⟨rfl, rfl⟩
     exact ⟨⟨none, 0, 0⟩, rfl, rfl, World.ownsRow_nil _ _ _ _, by simp [Sl.v, Value.ownBlock], Apart.refl _ _⟩
    ·exact grow_ok m (by omega) hm6 w
   go_wp2_with (go_at_call 124; refine HG.out.mono ?_; rintro _ w2 ⟨s2, rfl, hs2, n2⟩; have HW2 := hid n2; have Hs2 := hid hs2; clear n2 hs2)
   go_loopw [6, 27] (fun a v wt => ∃ (i : Nat) (s : Sl), v = .int .i64 (i : Nat) ∧ i ≤ N ∧ a = .slice s.p s.n s.c ∧ Hid (Nw w wt 141 9 s (evs (pfl (ps.take i)))) ∧ Hid (s.n = (pfl (ps.take i)).length)) (fun _ v _ => N - (intOf v).toNat)
   case atStart => exact ⟨0, s2, rfl, Nat.zero_le _, rfl, HW2, Hs2⟩
   case round =>
    clear HW2 Hs2 HG
    obtain ⟨i, s, rfl, hi, rfl, HW, Hs⟩ := hrel
    generalize wr = wt at *
    by_cases hlt : i < N
    ·have hlti : ((i : Nat) : Int) < ((N : Nat) : Int) := by omega
     have Hil : Hid (i < ps.length) := hid (by rw [HN.out]; exact hlt)
     have HA : Hid (Apart [] w wt) := hid HW.out.ap
     have z := (HA.out.cell (p := ⟨B, i, none⟩) (lt_of_heap HB.out) (by simp)).trans (HZ.out i hlt)
     obtain ⟨q, Hq⟩ : ∃ q, Hid (q = ps[i]'Hil.out) := ⟨_, hid rfl⟩
     rw [← Hq.out] at z
     have Hqe : Hid (Es w q.1 q.2) := hid (HE.out q (by rw [Hq.out]; exact List.getElem_mem _))
     have e3 : pfl (ps.take (i + 1)) = pfl (ps.take i) ++ q.2 := by rw [pfl_take Hil.out, Hq.out]
     obtain ⟨s3, w3, hrun, n3, l3, a3⟩ := app_part HW.out (Hqe.out.kept0 HA.out) (by
      have h1 := pfl_le (ps := ps) (i + 1)
      rw [e3, List.length_append] at h1
      have h2 := Hn.out
      rw [Hs.out]; omega)
     have HW3 : Hid (Nw w w3 141 9 s3 (evs (pfl (ps.take (i + 1))))) := hid (by rw [e3]; exact n3)
     have Hs3 : Hid (s3.n = (pfl (ps.take (i + 1))).length) := hid (by rw [l3, e3, Hs.out, List.length_append])
     have HR := hid hrun
     clear hrun n3 l3 a3 e3
     go_wp2_with (at_builtin; refine wpList_append3 rfl _ _ 102 rfl _ _ rfl rfl _ _ HR.out ?_)
     exact ⟨⟨i + 1, s3, by go_num, by omega, rfl, HW3, Hs3⟩, by simp [intOf]; omega⟩
    ·have hlti : ¬ ((i : Nat) : Int) < ((N : Nat) : Int) := by omega
     obtain rfl : N = i := by omega
     have He : Hid (ps.take N = ps) := hid (List.take_of_length_le (by rw [HN.out]; exact Nat.le_refl _))
     go_wp2_with fail
     go_ret
     rw [He.out] at HW Hs
     exact ⟨s, rfl, HW.out.ap, Es.of_nw HW.out Hs.out (pfl_row HE.out), HW.out⟩
theorem strCells_bsk (k : ByteArray) : Lib.strCells k = byts (bsk k) := by
 unfold Lib.strCells bsk byts
 simp [ByteArray.toList_eq, List.map_map, Function.comp_def]
theorem app_str {wB w : World} {s : Sl} {us : List Nat} (h : Bf wB w s us) (k : ByteArray) (hl : us.length + k.size ≤ 1000000) :
  ∃ s' W', (Builtin.append_ #[29, 9] 29 #[.slice s.p s.n s.c, .string k]).run Tryz.prog w = .ok (.slice s'.p s'.n s'.c) W' ∧ Bf wB W' s' (us ++ bsk k) ∧ TK [5] w W' := by
 obtain ⟨i0, hif, hz0, hz1, hz2⟩ := info_of info5
 have hlen := h.len
 have hb : wB.heap.size ≤ w.heap.size := h.nw.ap.size
 have hown : w.ownsRow wB.heap.size 5 1 s.v s.n (byts us) := by
  obtain ⟨h1, h2 | ⟨g, cap, cur, hv, _, h4⟩⟩ := h.nw.own
  ·exact ⟨h1, .inl h2⟩
  ·exact ⟨h1, .inr ⟨g, cap, cur, hv, h.nw.new g (by rw [hv]; rfl), h4⟩⟩
 obtain ⟨v', w', hrun, r1, r2, r3⟩ := Lib.run_append_own_string (P := Tryz.prog) (w := w) wB.heap.size 29 9 29 5 i0 Tryz.underlying29 Tryz.underlying9 hif hz0 hz1 hz2 s.v s.n (byts us) hown k (by unfold maxLen; omega) (by omega) hb
 have ap : Apart s.v.ownBlock.toList w w' := apart_grown r2
 obtain ⟨s', rfl, hs'⟩ : ∃ s' : Sl, v' = s'.v ∧ s'.n = s.n + k.size := by
  obtain ⟨_, ⟨hv, hz⟩ | ⟨g, cap, cur, hv, _⟩⟩ := r1
  ·exact ⟨⟨none, 0, 0⟩, hv, hz.symm⟩
  ·exact ⟨⟨some ⟨g, 0, none⟩, s.n + k.size, cap⟩, hv, rfl⟩
 rw [strCells_bsk, ← byts_app] at r1
 have hnewb : ∀ b, s'.v.ownBlock = some b → wB.heap.size ≤ b := fun b hb => (r1.lt b hb).1
 exact ⟨s', w', hrun, ⟨⟨by rw [hs']; exact own_base r1 (Nat.zero_le _), hnewb, h.nw.ap.trans' ap (fun y hy => .inr (h.nw.new y (by simpa using hy)))⟩, by rw [hs', List.length_append, bsk_len]; omega⟩, TK.own h.nw ap (by simp)⟩
def enB (x : En) : List Nat := (x.e.size % 256) :: (bsk x.e ++ rowB x.t 2)
def esB : List En → List Nat
 | [] => []
 | x :: r => enB x ++ esB r
theorem esB_app (a b : List En) : esB (a ++ b) = esB a ++ esB b := by
 induction a with
 | nil => rfl
 | cons x r ih => simp [esB, ih, List.append_assoc]
def setB (c : List Int) (es : List En) : List Nat := 2 :: (rowB c 2 ++ (es.length % 256) :: esB es)
theorem rowB_len (r : List Int) : (rowB r 2).length ≤ 17 := by
 have := nb8_len r 2 8
 simp only [rowB, List.length_cons]; omega
theorem esB_len : ∀ {es : List En}, (∀ x ∈ es, x.e.size ≤ 1000) → (esB es).length ≤ es.length * 1018
 | [], _ => by simp [esB]
 | x :: r, h => by
  have h1 := esB_len (es := r) (fun y hy => h y (List.mem_cons_of_mem _ hy))
  have h2 := h x (by simp)
  have h3 := rowB_len x.t
  simp only [esB, enB, List.length_append, List.length_cons, bsk_len]
  omega
theorem esB_take_len {es : List En} (h : ∀ x ∈ es, x.e.size ≤ 1000) (i : Nat) : (esB (es.take i)).length ≤ es.length * 1018 := by
 refine Nat.le_trans (esB_len (fun x hx => h x (List.mem_of_mem_take hx))) ?_
 apply Nat.mul_le_mul_right
 rw [List.length_take]; omega
theorem esB_take {es : List En} {i : Nat} (hi : i < es.length) : esB (es.take (i + 1)) = esB (es.take i) ++ enB es[i] := by
 rw [List.take_succ_eq_append_getElem hi, esB_app]
 simp [esB]
theorem rgE {W : World} {X t : Nat} {x : En} (h : W.heap[X]? = some (.cells x.vs.toArray t (0, 0))) : W.rangeAt X 1 (rv x.t) := by
 intro j v hj
 rw [cell_of_row _ _ _ _ _ _ h, show 1 + j = j + 1 from by omega]
 simpa [En.vs] using hj
def zE : Array Value := #[.string ⟨#[]⟩, .int .i64 0, .int .i64 0, .int .i64 0, .int .i64 0, .int .i64 0, .int .i64 0, .int .i64 0, .int .i64 0]
theorem sform_ok {w : World} {c : List Int} {s : Sl} {es : List En} (hc : c.length = 8) (h : Es w s es) (hn : es.length ≤ 500) (he : ∀ x ∈ es, x.e.size ≤ 1000) : Calls Tryz.prog 113 #[.agg (sv c s)] w fun r w' => ∃ s', r = .returned (.slice s'.p s'.n s'.c) ∧ Bf w w' s' (setB c es) := by
 have HE := hid h
 have Hc := hid hc
 have Hn := hid hn
 have He := hid he
 clear h hc hn he
 have HA := hid (Apart.refl [] w)
 go_enter Tryz.func113, Tryz.ntmps113
 go_upto_region 1 with fail
 obtain ⟨X, HXX⟩ : ∃ X, Hid (X = w.heap.size) := ⟨_, rfl⟩
 obtain ⟨w1, hw1⟩ : ∃ W, W = w.alloc (.cells (sv c s) 104) := ⟨_, rfl⟩
 have HSw1 : Hid (Apart [] w w1) := hid (zM hw1)
 have HBX : Hid (w1.heap[X]? = some (.cells (sv c s) 104 (0, 0))) := hid (zN HXX.out hw1)
 replace HA := hid (HA.out.trans HSw1.out)
 rw [← hw1, ← HXX.out]
 clear hw1 HXX
 have HB1 : Hid (Bf w (w1.alloc (.cells #[.int .u8 2] 5)) ⟨some ⟨w1.heap.size, 0, none⟩, 1, 1⟩ [2]) := by
  unfold Hid
  refine ⟨⟨⟨rfl, .inr ⟨w1.heap.size, 1, _, rfl, Nat.zero_le _, heap_alloc_new w1 _, Nat.le_refl _, by unfold maxLen; omega, rfl, rfl⟩⟩, fun k hk => by simp [Sl.v, Value.ownBlock] at hk; rw [← hk]; exact HA.out.size, HA.out.alloc _⟩, rfl⟩
 have HC := hid (appRow HB1.out (by simp) Hc.out (width := 2) (by omega))
 have HBX2 : Hid ((w1.alloc (.cells #[.int .u8 2] 5)).heap[X]? = some (.cells (sv c s) 104 (0, 0))) := hid (keep0 ((Apart.refl [] w1).alloc _) HBX.out)
 go_upto_region 2 with (first
  | refine wpL_val rfl (.agg (rv c).toArray) (ex_load _ rfl X 0 _ rfl (sv_row HBX2.out) (by rw [rv_len, Hc.out])) ?_
  | (go_at_call 107; refine HC.out.mono ?_; rintro _ w2 ⟨s2, rfl, b2, t2⟩; have HB2 := hid b2; have HT2 := hid t2; clear b2 t2))
 have HBX3 := hid (HT2.out.block HBX2.out (by simp))
 have z : w2.cell? ⟨X, 8, none⟩ = some (.slice s.p s.n s.c) := sv_cell Hc.out HBX3.out
 clear HC HBX2 HBX HB1 HT2 HSw1 HA
 obtain ⟨N, HN⟩ : ∃ N, Hid (N = es.length) := ⟨_, hid rfl⟩
 have hsn : s.n = N := by rw [HN.out]; exact HE.out.len
 rw [hsn] at z
 have hNn : N ≤ 500 := by rw [HN.out]; exact Hn.out
 obtain ⟨s3, w3, hrun, b3, t3⟩ := app_byte HB2.out (N % 256) (by have := rowB_len c; simp only [List.cons_append, List.nil_append, List.length_cons]; omega)
 have HR := hid hrun
 have HB3 : Hid (Bf w w3 s3 (2 :: (rowB c 2 ++ (N % 256) :: esB (es.take 0)))) := hid (by simpa [esB] using b3)
 have HBX4 := hid (t3.block HBX3.out (by simp))
 have z3 : w3.cell? ⟨X, 8, none⟩ = some (.slice s.p s.n s.c) := sv_cell Hc.out HBX4.out
 rw [hsn] at z3
 clear hrun b3 t3 HB2 HBX3
 go_wp2_with (refine wpList_append3 rfl _ _ 29 rfl _ _ rfl rfl (.slice s3.p s3.n s3.c) w3 HR.out ?_)
 clear z z3 HR HBX4
 go_loopw [3, 20] (fun b v wt => ∃ (i : Nat) (s' : Sl), v = .int .i64 (i : Nat) ∧ i ≤ N ∧ b = .slice s'.p s'.n s'.c ∧ Hid (Bf w wt s' (2 :: (rowB c 2 ++ (N % 256) :: esB (es.take i))))) (fun _ v _ => N - (intOf v).toNat)
 case atStart => exact ⟨0, s3, rfl, Nat.zero_le _, rfl, HB3⟩
 case round =>
  clear HB3
  obtain ⟨i, s4, rfl, hi, rfl, HB⟩ := hrel
  generalize wr = wt at *
  by_cases hlt : i < N
  ·have hlti : ((i : Nat) : Int) < ((N : Nat) : Int) := by omega
   have Hil : Hid (i < es.length) := hid (by rw [← HN.out]; exact hlt)
   obtain ⟨P, o, hp, hr, hP⟩ := (HE.out.kept0 HB.out.nw.ap).at i Hil.out
   have HRg := hid hr
   have HX : Hid ((es[i]'Hil.out).vs.length = 9) := hid (En.vs_len (HE.out.row _ (List.getElem_mem _)))
   have Hxt : Hid ((es[i]'Hil.out).t.length = 8) := hid (HE.out.row _ (List.getElem_mem _))
   have Hxe : Hid ((es[i]'Hil.out).e.size ≤ 1000) := hid (He.out _ (List.getElem_mem _))
   have Hst : Hid (esB (es.take (i + 1)) = esB (es.take i) ++ enB (es[i]'Hil.out)) := hid (esB_take Hil.out)
   obtain ⟨y, Hy⟩ : ∃ y, Hid (y = es[i]'Hil.out) := ⟨_, hid rfl⟩
   rw [← Hy.out] at HRg HX Hxt Hxe Hst
   rw [hp]
   clear hr hP hp
   have hbd : (2 :: (rowB c 2 ++ (N % 256) :: esB (es.take i))).length ≤ 509100 := by
    have h1 := rowB_len c
    have h2 := esB_take_len He.out i
    have h3 := Hn.out
    simp only [List.length_cons, List.length_append]
    omega
   have Hbd := hid hbd
   clear hbd
   obtain ⟨us, Hus⟩ : ∃ us, Hid (us = 2 :: (rowB c 2 ++ (N % 256) :: esB (es.take i))) := ⟨_, hid rfl⟩
   rw [← Hus.out] at HB Hbd
   go_upto_region 6 with (first
    | (refine wpL_val rfl (.agg y.vs.toArray) (ex_load106 _ rfl P (o + i * 9) _ rfl HRg.out HX.out) ?_)
    | (refine wpList_store_row rfl 141 _ _ rfl wt.heap.size y.vs.toArray rfl rfl 141 _ (heap_alloc_new wt _) (by rw [size106]; simp [HX.out]) (by simp [HX.out]) (all_oneCell_toArray (by intro u hu; exact evs_one (es := [y]) u (by simpa [evs] using hu))) ?_
       have HB5 := hid (put_new (w := wt) (z := zE) (cs := y.vs.toArray) (T := 141))
       have HS5 := hid (put_apart (w := wt) (z := zE) (cs := y.vs.toArray) (T := 141))
       obtain ⟨Z, HZ⟩ : ∃ X, X = wt.heap.size := ⟨_, rfl⟩
       unfold zE at HB5 HS5
       rw [← HZ] at HB5 HS5 ⊢
       generalize (wt.alloc (.cells #[.string ⟨#[]⟩, .int .i64 0, .int .i64 0, .int .i64 0, .int .i64 0, .int .i64 0, .int .i64 0, .int .i64 0, .int .i64 0] 141)).setRow Z y.vs.toArray = w5 at *
       clear HZ))
   replace HB := hid (HB.out.kept HS5.out)
   have z5 : w5.cell? ⟨Z, 0, none⟩ = some (.string y.e) := zK HB5.out
   obtain ⟨s6, w6, hrun, b6, t6⟩ := app_byte HB.out (y.e.size % 256) (by have := Hbd.out; omega)
   have HR := hid hrun
   have HB6 := hid b6
   have HZ6 := hid (t6.block HB5.out (by simp))
   clear hrun b6 t6 HB
   go_upto_region 7 with (refine wpList_append3 rfl _ _ 29 rfl _ _ rfl rfl (.slice s6.p s6.n s6.c) w6 HR.out ?_)
   clear HR z5 HB5
   have z6 : w6.cell? ⟨Z, 0, none⟩ = some (.string y.e) := zK HZ6.out
   obtain ⟨s7, w7, hrun, b7, t7⟩ := app_str HB6.out y.e (by have := Hbd.out; have := Hxe.out; rw [List.length_append]; simp only [List.length_cons, List.length_nil]; omega)
   have HR := hid hrun
   have HB7 := hid b7
   have HZ7 := hid (t7.block HZ6.out (by simp))
   clear hrun b7 t7 HB6
   go_upto_region 8 with (at_builtin; refine wpList_app2 rfl _ _ 29 9 rfl _ _ rfl rfl (.slice s7.p s7.n s7.c) w7 HR.out ?_)
   clear HR z6 HZ6
   have HC := hid (appRow HB7.out (by have := Hbd.out; have := Hxe.out; rw [List.length_append, List.length_append, bsk_len]; simp only [List.length_cons, List.length_nil]; omega) Hxt.out (width := 2) (by omega))
   go_wp2_with (first
    | refine wpL_val rfl (.agg (rv y.t).toArray) (ex_load _ rfl Z 1 _ rfl (rgE HZ7.out) (by rw [rv_len, Hxt.out])) ?_
    | (go_at_call 107; refine HC.out.mono ?_; rintro _ w8 ⟨s8, rfl, b8, t8⟩; have HB8 := hid b8; clear b8 t8))
   refine ⟨⟨i + 1, s8, by go_num, by omega, rfl, ?_⟩, by simp [intOf]; omega⟩
   unfold Hid
   rw [Hst.out]
   have e : 2 :: (rowB c 2 ++ (N % 256) :: (esB (es.take i) ++ enB y)) = us ++ [y.e.size % 256] ++ bsk y.e ++ rowB y.t 2 := by rw [Hus.out]; simp [enB]
   rw [e]
   exact HB8.out
  ·have hlti : ¬ ((i : Nat) : Int) < ((N : Nat) : Int) := by omega
   obtain rfl : i = N := by omega
   have He2 : Hid (es.take i = es) := hid (List.take_of_length_le (by rw [← HN.out]; exact Nat.le_refl _))
   rw [He2.out] at HB
   go_wp2_with fail
   go_ret
   exact ⟨s4, rfl, by unfold setB; rw [← HN.out]; exact HB.out⟩
end Go.Proofs.YtdbeeikjngnnnaaGreat.ty
