import Derived.Test.YtokaeiahhmaokaaDoorW31
import Derived.Test.YtokaeiahhmaokaaDoorW21
import Derived.Test.YtokaeiahhmaokaaDoorW8
namespace Go.Proofs.YtokaeiahhmaokaaDoor.ds
open Go.ChangeShapes Go.WideShapes Go.ChangeAt Go.RowKit Go.Sort
set_option linter.unusedVariables false
set_option linter.unusedSimpArgs false
/-- a list of the call's own whose writes were there ahead of it -/
structure OL (w wr : World) (s : Sl) (es : List E) (rs : List Wr) : Prop where
  own : OwnE w wr s es
  len : rs.length = s.n
  rd : ∀ j, j < s.n → Reads w (gE es j) (gR rs j)
theorem OL.nil (w wr : World) (a : Apart [] w wr) : OL w wr ⟨none, 0, 0⟩ [] [] := ⟨OwnE.nil w wr a, rfl, fun j hj => absurd hj (by simp)⟩
theorem OL.kept {w wr wx : World} {s : Sl} {es : List E} {rs : List Wr} (h : OL w wr s es rs) (a : Apart [] wr wx) : OL w wx s es rs := ⟨h.own.kept a, h.len, h.rd⟩
theorem OL.ap {w wr : World} {s : Sl} {es : List E} {rs : List Wr} (h : OL w wr s es rs) : Apart [] w wr := h.own.nw.ap
theorem OL.ins {w wr : World} {s : Sl} {es : List E} {rs : List Wr} (h : OL w wr s es rs) (hn : s.n ≤ 1048576) : In wr s es rs := ⟨h.own.LE (by omega), hn, h.len, fun j hj => (h.rd j hj).kept0 h.ap, h.own.nw.ok⟩
theorem FL.ins {w wr : World} {s : Sl} {es : List E} {rs : List Wr} (h : FL w wr s es rs) (hn : s.n ≤ 1048576) : In wr s es rs := ⟨h.le (by omega), hn, h.len, h.reads, h.own.nw.ok⟩
theorem OL.push {w wr : World} {s : Sl} {es : List E} {rs : List Wr} (h : OL w wr s es rs) (hn : s.n ≤ 2000000) {e : E} {r : Wr} (he : Reads w e r) (ty : TypeId) :
    ∃ s' W', (Builtin.append_ #[39, 39] ty #[s.v, .slice (some ⟨wr.heap.size, 0, none⟩) 1 1]).run Tryd.prog (wr.alloc (boxE e)) = .ok (Sl.v s') W' ∧ OL w W' s' (es ++ [e]) (rs ++ [r]) ∧ s'.n = s.n + 1 ∧ Apart s.v.ownBlock.toList wr W' := by
  obtain ⟨s', W', hrun, own', hn', ap'⟩ := run_appE h.own hn e ty
  have hlen := h.own.len
  have hlen2 := h.len
  refine ⟨s', W', hrun, ⟨own', by rw [List.length_append, hlen2, hn']; rfl, fun j hj => ?_⟩, hn', ap'⟩
  rw [hn'] at hj
  by_cases e1 : j = s.n
  · subst e1
    rw [show gE (es ++ [e]) s.n = e from by unfold gE; simp [List.getD_eq_getElem?_getD, ← hlen], show gR (rs ++ [r]) s.n = r from by unfold gR; simp [List.getD_eq_getElem?_getD, ← hlen2]]
    exact he
  · rw [show gE (es ++ [e]) j = gE es j from by unfold gE; rw [List.getD_eq_getElem?_getD, List.getD_eq_getElem?_getD, List.getElem?_append_left (by omega)], show gR (rs ++ [r]) j = gR rs j from by unfold gR; rw [List.getD_eq_getElem?_getD, List.getD_eq_getElem?_getD, List.getElem?_append_left (by omega)]]
    exact h.rd j (by omega)
/-- a new list stays, where another one is appended to -/
theorem FL.beside {w wr wx : World} {s t : Sl} {es fs : List E} {rs : List Wr} (h : FL w wr s es rs) (ho : OwnE w wr t fs) (ap : Apart t.v.ownBlock.toList wr wx) (aw : Apart [] w wx) (ne : ∀ b, t.v.ownBlock = some b → s.v.ownBlock ≠ some b) : FL w wx s es rs := by
  have hX5 : ∀ k ∈ t.v.ownBlock.toList, ∀ cu, wr.heap[k]? ≠ some (.cells cu 5 (0, 0)) ∧ wr.heap[k]? ≠ some (.cells cu 80 (0, 0)) := fun k hk cu => by
    obtain ⟨cur, tG⟩ := own_typ ho.nw.own (k := k) (by simpa using hk)
    rw [tG]; simp
  exact ⟨⟨⟨own_apart h.own.nw.own ap (fun b hb hm => ne b (by simpa using hm) hb), h.own.nw.new, aw⟩, h.own.len⟩, h.len, fun j hj => (h.fr j hj).kept ap aw hX5⟩
theorem sibLen {made : List Wr} {k : Nat} {K : Wr → Prop} {l : List Wr} (h : Sib cvW belowW (mkK k made) K l) : l.length ≤ made.length := by
  have hnd : l.Nodup := h.up.imp (fun {a b} hab e => by rw [e, belowW_ir] at hab; cases hab)
  exact hnd.length_le_of_subset (fun x hx => (mem_mkK.1 ((h.mem x).1 hx).1).1)
theorem merge_step {made : List Wr} {k : Nat} (hc : Cl cvW (mkK k made)) (hd : ∀ x ∈ made, ∀ y ∈ made, dtW x = dtW y → x = y) (hm : made.length ≤ 60) {W : World} {s : Sl} {es : List E} {rs : List Wr} (h : In W s es rs) {K : Wr → Prop} (hs : Sib cvW belowW (mkK k made) K rs) {u : E} {ru : Wr} (hu : Reads W u ru) (hum : ru ∈ mkK k made) :
    Calls Tryd.prog 18 #[.slice s.p s.n s.c, u.agg, .int .i64 1000] W fun r w' => ∃ (s' : Sl) (fs : List E) (rs' : List Wr), r = .returned (.tuple #[.slice s'.p s'.n s'.c, .int .i64 0]) ∧ FL W w' s' fs rs' ∧ Sib cvW belowW (mkK k made) (fun x => K x ∨ x = ru) rs' := by
  obtain ⟨h1, h2⟩ := sib_mlist hc hd hm hs hum
  refine (merge_new W s.p s.n s.c es rs u ru 1000 h.le (by have := h.n; omega) h.ok h.len h.rd hu).mono ?_
  rintro r w' ⟨s', fs, hr, hf⟩
  rw [h1] at hr
  exact ⟨s', fs, _, hr, hf, h2⟩
theorem mkK_next (k : Nat) (made : List Wr) (i : Nat) (hi : i < made.length) : mkK k (made.take (i + 1)) = if (gR made i).k = nmK k then mkK k (made.take i) ++ [gR made i] else mkK k (made.take i) := by
  rw [List.take_add_one, List.getElem?_eq_getElem hi, ← gR_eq made i hi]
  exact mkK_snoc k _ _
theorem keq_k (b : ByteArray) : keq b (nmK 0) = (b.toList == [107]) := by
  unfold keq
  rw [show (nmK 0).toList = [107] from by simp [nmK, ByteArray.toList_eq]]
theorem mem_take_next (l : List Wr) (i : Nat) (hi : i < l.length) (x : Wr) : x ∈ l.take (i + 1) ↔ x ∈ l.take i ∨ x = gR l i := by
  rw [List.take_add_one, List.getElem?_eq_getElem hi, ← gR_eq l i hi]
  simp
theorem mem_drop_next (l : List Wr) (i : Nat) (hi : i < l.length) (x : Wr) : x ∈ l.drop i ↔ x ∈ l.drop (i + 1) ∨ x = gR l i := by
  rw [List.drop_eq_getElem_cons hi, List.mem_cons, ← gR_eq l i hi]
  exact or_comm
theorem gR_mem (l : List Wr) (i : Nat) (hi : i < l.length) : gR l i ∈ l := by rw [gR_eq l i hi]; exact List.getElem_mem _
/-- two lists in a row of two -/
theorem sets2 {W : World} {B : Nat} {s t : Sl} {es fs : List E} {rs qs : List Wr} (hb : W.heap[B]? = some (.cells #[s.v, t.v] 39 (0, 0))) (h1 : In W s es rs) (h2 : In W t fs qs) :
    let F : Nat → Sl × List E × List Wr := fun i => if i = 0 then (s, es, rs) else (t, fs, qs)
    Sets W (some ⟨B, 0, none⟩) 2 F ∧ (∀ i, i < 2 → In W (F i).1 (F i).2.1 (F i).2.2) ∧ totL F 2 = s.n + t.n ∧ catR F 2 = rs ++ qs := by
  intro F
  have hin : ∀ i, i < 2 → In W (F i).1 (F i).2.1 (F i).2.2 := fun i hi => by
    match i, hi with
    | 0, _ => exact h1
    | 1, _ => exact h2
  refine ⟨fun _ => ⟨B, 0, rfl, lt_of_heap hb, fun i hi => ⟨?_, hin i hi⟩⟩, hin, ?_, ?_⟩
  · rw [cell_of_row _ _ _ _ _ _ hb]
    match i, hi with
    | 0, _ => rfl
    | 1, _ => rfl
  · show (0 + s.n) + t.n = _
    omega
  · show ([] ++ rs) ++ qs = _
    rw [List.nil_append]
theorem sameIn {W : World} {s t : Sl} {es fs : List E} {rs : List Wr} (h1 : In W s es rs) (h2 : In W t fs rs) : Calls Tryd.prog 21 #[.slice s.p s.n s.c, .slice t.p t.n t.c] W fun r w' => r = .returned (.bool true) ∧ Apart [] W w' := by
  obtain ⟨tp, tn, tc⟩ := t
  have e : s.n = tn := h1.len.symm.trans h2.len
  subst e
  exact sameList_yes W s.p tp s.n s.c tc es fs rs h1.le h2.le h1.rd h2.rd
theorem CpPost.ins {w w' : World} {r : Ending} {rs : List Wr} (h : CpPost w w' r rs.length rs) (hn : rs.length ≤ 1048576) : ∃ (s : Sl) (es : List E), r = .returned s.v ∧ In w' s es rs ∧ Apart [] w w' := by
  obtain ⟨s, es, hr, hsn, hes, hnw, hfr⟩ := h.ex
  have hf : FL w w' s es rs := ⟨⟨hnw, by rw [hes, hsn]⟩, hsn.symm, fun j hj => hfr j (by rw [← hsn]; exact hj)⟩
  exact ⟨s, es, hr, hf.ins (by rw [hsn]; exact hn), hnw.ap⟩
set_option maxHeartbeats 32000000 in
set_option maxRecDepth 100000 in
theorem order_walk (w : World) (TB : Tab w) (p : Option Addr) (N cap : Nat) (f : Nat → Ev) (h : EvL w p N f) (q : Option Addr) (NO capo : Nat) (fo : Nat → Int) (hO : IsI w q NO fo) (hb : N + NO ≤ 1048576) :
    Calls Tryd.prog 6 #[.slice p N cap, .slice q NO capo] w fun z w' => z = .returned (.bool true) ∧ Apart [] w w' := by
  have HPL := hid (played_law w TB p N cap f h)
  have HTB := hid TB
  have HOI := hid hO
  clear h TB hO
  go_enter Tryd.func6, Tryd.ntmps6
  go_wp2_with fail
  refine HPL.out.mono ?_
  clear HPL
  rintro _ w1 hp
  obtain ⟨X, g, st, rfl, hI, ⟨hm, hmN⟩, hW⟩ := hp.ex
  have HI := hid hI
  have HW1 := hid hW
  clear hp hI hW
  try dsimp only
  go_wp2_with fail
  refine (able_ok w1).mono ?_
  rintro _ w2 ⟨rfl, a2⟩
  have HW := hid (HW1.out.kept a2)
  clear a2 HW1
  try dsimp only
  obtain ⟨⟨mp, MN, mc⟩, Hmm⟩ : ∃ mm, Hid (mm = g.m) := ⟨_, rfl⟩
  have HMD0 : Hid (∀ W, Apart [] w2 W → W.cell? ⟨X, 12, none⟩ = some (.slice mp MN mc)) := fun W a => by
    rw [(HW.out.kept a).cell 12 (by omega), wc_made, ← Hmm.out]; rfl
  have HMN : Hid (MN = st.made.length) := by unfold Hid; rw [HW.out.md.len, ← Hmm.out]
  have hMN : MN ≤ 40 := by rw [HMN.out]; exact hm
  have HFM : Hid (FL w w2 ⟨mp, MN, mc⟩ g.me st.made) := by unfold Hid; rw [Hmm.out]; exact HW.out.md
  have HMm : Hid (st.made.length ≤ 60) := by unfold Hid; omega
  have HDD := hid HI.out.inv.dd
  have HCL := hid (HI.out.inv.cls 0 (by omega))
  have HOD := hid (HI.out.inv.od 0)
  clear hm
  go_wp2_with fail
  go_loopw [7, 8] (fun a b wt => ∃ (i : Nat) (s : Sl) (es : List E), a = .slice s.p s.n s.c ∧ b = .int .i64 (i : Nat) ∧ i ≤ MN ∧ OL w2 wt s es (mkK 0 (st.made.take i))) (fun _ b _ => MN - (intOf b).toNat)
  case atStart => exact ⟨0, ⟨none, 0, 0⟩, [], rfl, rfl, Nat.zero_le _, OL.nil _ _ (Apart.refl _ _)⟩
  case round =>
    obtain ⟨i, s, es, rfl, rfl, hi, hol⟩ := hrel
    have HOL := hid hol
    clear hol
    have z0 := HMD0.out wr HOL.out.ap
    by_cases hlt : i < MN
    · have hin : ((i : Nat) : Int) < (MN : Int) := by omega
      obtain ⟨PM, om, hpm, hPl, hcs⟩ := ((HFM.out.kept HOL.out.ap).le (by show MN ≤ 2000000; omega)).at (by show 0 < MN; omega)
      simp only at hpm
      subst hpm
      obtain ⟨k0, k1, k2, k3, k4, k5⟩ := hcs i hlt
      have HRx : Hid (Reads w2 (gE g.me i) (gR st.made i)) := HFM.out.reads i hlt
      have HNX := hid (mkK_next 0 st.made i (by rw [← HMN.out]; exact hlt))
      have hsn : s.n ≤ 2000000 := by
        rw [← HOL.out.len]
        have h1 : (mkK 0 (st.made.take i)).length ≤ (st.made.take i).length := List.length_filter_le _ _
        rw [List.length_take] at h1
        omega
      generalize gE g.me i = x at *
      generalize gR st.made i = rx at *
      clear hcs
      cases hkq0 : keq x.k (nmK 0)
      case false =>
        have hkq : (x.k.toList == [107]) = false := by rw [← keq_k]; exact hkq0
        have HOL2 : Hid (OL w2 wr s es (mkK 0 (st.made.take (i + 1)))) := by
          unfold Hid
          rw [HNX.out, if_neg (fun e => by rw [HRx.out.k, e, (keq_iff _ _).2 rfl] at hkq0; cases hkq0)]
          exact HOL.out
        unfold Sl.v at k4 k5
        go_wp2_with fail
        go_roundw
        case rel => exact ⟨i + 1, s, es, rfl, by go_num, by omega, HOL2.out⟩
        case measure => simp [intOf]; omega
      case true =>
        have hkq : (x.k.toList == [107]) = true := by rw [← keq_k]; exact hkq0
        obtain ⟨s6, w6, hrun, hol6, hn6, ap6⟩ := HOL.out.push hsn HRx.out 39
        have HOL2 : Hid (OL w2 w6 s6 (es ++ [x]) (mkK 0 (st.made.take (i + 1)))) := by
          unfold Hid
          rw [HNX.out, if_pos (by rw [← HRx.out.k]; exact (keq_iff _ _).1 hkq0)]
          exact hol6
        unfold Sl.v boxE at hrun
        have HRUN : Hid ((Builtin.append_ #[39, 39] 39 #[.slice s.p s.n s.c, .slice (some ⟨wr.heap.size, 0, none⟩) 1 1]).run Tryd.prog (wr.alloc (Obj.cells #[Value.int IntKind.i64 x.n, Value.int IntKind.i64 x.c, Value.string x.k, Value.bool x.d, Value.slice x.v.p x.v.n x.v.c, Value.slice x.x.p x.x.n x.x.c] 28)) = .ok (.slice s6.p s6.n s6.c) w6) := hrun
        clear hrun hol6 hn6 ap6
        unfold Sl.v at k4 k5
        go_wp2_with (at_builtin; refine wpList_app2 rfl (.tmp 49) (.tmp 57) 39 39 rfl _ _ rfl rfl _ _ HRUN.out ?_)
        go_roundw
        case rel => exact ⟨i + 1, s6, _, rfl, by go_num, by omega, HOL2.out⟩
        case measure => simp [intOf]; omega
    · obtain rfl : MN = i := by omega
      have hin : ¬ ((MN : Nat) : Int) < (MN : Int) := by omega
      have HTKm : Hid (mkK 0 (st.made.take MN) = mkK 0 st.made) := by unfold Hid; rw [List.take_of_length_le (by rw [HMN.out]; exact Nat.le_refl _)]
      rw [HTKm.out] at HOL
      obtain ⟨M, HM⟩ : ∃ M, Hid (M = mkK 0 st.made) := ⟨_, rfl⟩
      rw [← HM.out] at HOL HCL HOD
      obtain ⟨op, ON, oc⟩ := s
      have HON : Hid (ON = M.length) := HOL.out.len.symm
      have hON : ON ≤ MN := by
        rw [HON.out, HM.out, HMN.out]
        exact List.length_filter_le _ _
      have HMS : Hid (∀ (W : World) (s : Sl) (es : List E) (rs : List Wr) (K : Wr → Prop) (u : E) (ru : Wr), In W s es rs → Sib cvW belowW M K rs → Reads W u ru → ru ∈ M → Calls Tryd.prog 18 #[.slice s.p s.n s.c, .agg #[.int .i64 u.n, .int .i64 u.c, .string u.k, .bool u.d, .slice u.v.p u.v.n u.v.c, .slice u.x.p u.x.n u.x.c], .int .i64 1000] W fun r w' => ∃ (s' : Sl) (fs : List E) (rs' : List Wr), r = .returned (.tuple #[.slice s'.p s'.n s'.c, .int .i64 0]) ∧ FL W w' s' fs rs' ∧ Sib cvW belowW M (fun x => K x ∨ x = ru) rs' ∧ s'.n ≤ 60) := fun W s es rs K u ru h1 h2 h3 h4 => by
        rw [HM.out] at h2 h4 ⊢
        have hcl := HCL.out
        rw [HM.out] at hcl
        have := merge_step hcl HDD.out HMm.out h1 h2 h3 h4
        unfold E.agg Sl.v at this
        refine this.mono ?_
        rintro r w' ⟨s', fs, rs', e1, e2, e3⟩
        exact ⟨s', fs, rs', e1, e2, e3, by rw [← e2.len]; exact Nat.le_trans (sibLen e3) HMm.out⟩
      have HOE : Hid (∀ W, Apart [] wr W → LE W op ON es) := fun W a => (HOL.out.kept a).own.LE (by show ON ≤ 2000000; omega)
      have HOR : Hid (∀ j, j < ON → Reads w2 (gE es j) (gR M j) ∧ gR M j ∈ M) := fun j hj => ⟨HOL.out.rd j hj, gR_mem M j (by rw [← HON.out]; exact hj)⟩
      go_wp2_with fail
      clear z0 hin
      generalize wr = w3 at *
      go_loopw [9, 13, 14] (fun a e b wt => ∃ (j : Nat) (s : Sl) (fs : List E) (rs : List Wr), a = .slice s.p s.n s.c ∧ e = .int .i64 0 ∧ b = .int .i64 (j : Nat) ∧ j ≤ ON ∧ Apart [] w3 wt ∧ In wt s fs rs ∧ Sib cvW belowW M (fun x => x ∈ M.take j) rs) (fun _ _ b _ => ON - (intOf b).toNat)
      case atStart => exact ⟨0, ⟨none, 0, 0⟩, [], [], rfl, rfl, rfl, Nat.zero_le _, Apart.refl _ _, (FL.nil w3 w3 (Apart.refl _ _)).ins (by show 0 ≤ _; omega), (Sib.nil cvW belowW M).congr (fun x _ => by simp)⟩
      case round =>
        obtain ⟨j, s, fs, rs, rfl, rfl, rfl, hj, ap, hIn, hS⟩ := hrel
        have HA := hid ap
        have HIN := hid hIn
        have HSB := hid hS
        clear ap hIn hS
        by_cases hjl : j < ON
        · have hjn : ((j : Nat) : Int) < (ON : Int) := by omega
          obtain ⟨PO, oo, hpo, hPol, hco⟩ := (HOE.out wr HA.out).at (by omega)
          subst hpo
          obtain ⟨k0, k1, k2, k3, k4, k5⟩ := hco j hjl
          have HR := hid (HOR.out j hjl)
          have HKJ : Hid (∀ x, x ∈ M.take (j + 1) ↔ x ∈ M.take j ∨ x = gR M j) := mem_take_next M j (by rw [← HON.out]; exact hjl)
          generalize gE es j = y at *
          generalize gR M j = ry at *
          have HC := hid (HMS.out wr s fs rs _ y ry HIN.out HSB.out (HR.out.1.kept0 (HOL.out.ap.trans HA.out)) HR.out.2)
          unfold Sl.v at k4 k5
          clear hco
          go_wp2_with fail
          refine HC.out.mono ?_
          clear k0 k1 k2 k3 k4 k5
          rintro _ w5 ⟨s', fs', rs', rfl, hf, hs, hn⟩
          have HIN2 := hid (hf.ins (by omega))
          have HA2 : Hid (Apart [] w3 w5) := HA.out.trans hf.own.nw.ap
          have HS2 : Hid (Sib cvW belowW M (fun x => x ∈ M.take (j + 1)) rs') := hs.congr (fun x _ => (HKJ.out x).symm)
          clear hf hs hn
          try dsimp only
          go_wp2_with fail
          go_roundw
          case rel => exact ⟨j + 1, s', fs', rs', rfl, rfl, by go_num, by omega, HA2.out, HIN2.out, HS2.out⟩
          case measure => simp [intOf]; omega
        · obtain rfl : ON = j := by omega
          have hjn : ¬ ((ON : Nat) : Int) < (ON : Int) := by omega
          have HSA : Hid (Sib cvW belowW M (fun _ => True) rs) := HSB.out.congr (fun x hx => by rw [List.take_of_length_le (by rw [HON.out]; exact Nat.le_refl _)]; exact ⟨fun _ => trivial, fun _ => hx⟩)
          clear HSB
          go_wp2_with fail
          clear hjn
          have HA4 : Hid (Apart [] w3 wr) := HA.out
          clear HA
          generalize wr = w4 at *
          generalize s = sa at *
          generalize fs = ea at *
          generalize rs = ra at *
          go_loopw [10, 11, 13, 15] (fun b o e c wt => ∃ (t : Nat) (sb : Sl) (eb : List E) (rb : List Wr) (so : Sl) (eo : List E) (ro : List Wr) (K : Wr → Prop), b = .slice sb.p sb.n sb.c ∧ o = .slice so.p so.n so.c ∧ e = .int .i64 0 ∧ c = .int .i64 (t : Nat) ∧ t ≤ NO ∧ so.n = t ∧ In wt sb eb rb ∧ Sib cvW belowW M K rb ∧ OL w4 wt so eo ro ∧ (∀ x ∈ ro, x ∈ M)) (fun _ _ _ c _ => NO - (intOf c).toNat)
          case atStart => exact ⟨0, ⟨none, 0, 0⟩, [], [], ⟨none, 0, 0⟩, [], [], fun _ => False, rfl, rfl, rfl, rfl, Nat.zero_le _, rfl, (FL.nil w4 w4 (Apart.refl _ _)).ins (by show 0 ≤ _; omega), Sib.nil _ _ _, OL.nil _ _ (Apart.refl _ _), by simp⟩
          case round =>
            obtain ⟨t, sb, eb, rb, so, eo, ro, K, rfl, rfl, rfl, rfl, ht, hso, hIb, hSb, hOo, hro⟩ := hrel
            have HIB := hid hIb
            have HSBb := hid hSb
            have HOO := hid hOo
            have HRO := hid hro
            have Hso := hid hso
            clear hIb hSb hOo hro hso
            obtain ⟨gb, Hgb⟩ : ∃ gb, Hid (gb = (decide (t < NO) && decide (0 < ON))) := ⟨_, rfl⟩
            go_upto_region 19 with fail
            go_cut [84] from 76 to 84 (fun s wx => s = .bool gb ∧ wx = wr)
            · by_cases h1 : t < NO
              · have h1i : ((t : Nat) : Int) < (NO : Int) := by omega
                by_cases h2 : 0 < ON
                · have h2i : ((ON : Nat) : Int) > 0 := by omega
                  have e : gb = true := by rw [Hgb.out]; simp [h1, h2]
                  go_wp2_with fail
                  go_meet
                  exact ⟨by rw [e], rfl⟩
                · have h2i : ¬ ((ON : Nat) : Int) > 0 := by omega
                  have e : gb = false := by rw [Hgb.out]; simp [h2]
                  go_wp2_with fail
                  go_meet
                  exact ⟨by rw [e], rfl⟩
              · have h1i : ¬ ((t : Nat) : Int) < (NO : Int) := by omega
                have e : gb = false := by rw [Hgb.out]; simp [h1]
                go_wp2_with fail
                go_meet
                exact ⟨by rw [e], rfl⟩
            obtain ⟨rfl, hww⟩ := hcut
            rw [hww]
            clear hww
            cases gb
            case true =>
              have hgo : t < NO ∧ 0 < ON := by
                have := Hgb.out
                simpa using this.symm
              obtain ⟨htl, hO0⟩ := hgo
              obtain ⟨PI, oi, hpi, hPil, hci⟩ := HOI.out.rd (by omega)
              subst hpi
              have z1 : wr.cell? ⟨PI, oi + t, none⟩ = some (.int .i64 (fo t)) := ((HW.out.ap.trans (HOL.out.ap.trans (HA4.out.trans HOO.out.ap))).cell hPil (by simp)).trans (hci t htl)
              have HI64 := hid (HOI.out.ok t htl)
              obtain ⟨a, Ha⟩ : ∃ a, Hid (a = wth (fo t) ON) := ⟨_, rfl⟩
              have ha : a < ON := by rw [Ha.out]; exact wth_lt _ hO0
              have HLa : Hid (∀ W, Calls Tryd.prog 19 #[.int .i64 (fo t), .int .i64 (ON : Nat)] W fun r w' => r = .returned (.int .i64 (a : Nat)) ∧ w' = W) := fun W => by rw [Ha.out]; exact within_law (fo t) ON hO0 (by omega) HI64.out W
              have htn : ((t : Nat) : Int) < (NO : Int) := by omega
              generalize fo t = ft at *
              obtain ⟨PO, oo, hpo, hPol, hco⟩ := (HOE.out wr (HA4.out.trans HOO.out.ap)).at hO0
              subst hpo
              obtain ⟨k0, k1, k2, k3, k4, k5⟩ := hco a ha
              have HR := hid (HOR.out a ha)
              generalize gE es a = y at *
              generalize gR M a = ry at *
              obtain ⟨wb, hwb⟩ : ∃ wb, wb = wr.alloc (boxE y) := ⟨_, rfl⟩
              have HAb : Hid (Apart [] wr wb) := by unfold Hid; rw [hwb]; exact (Apart.refl [] wr).alloc _
              have HQ : Hid (wb.heap[wr.heap.size]? = some (boxE y)) := by unfold Hid; rw [hwb]; exact heap_alloc_new wr _
              obtain ⟨BY, HBY⟩ : ∃ BY, Hid (BY = wr.heap.size) := ⟨_, rfl⟩
              unfold boxE at hwb
              unfold Sl.v at k4 k5 hwb
              clear hco hci
              go_wp2_with fail
              refine (HLa.out wr).mono ?_
              rintro _ w' ⟨rfl, hw'⟩
              rw [hw']
              clear hw' w'
              try dsimp only
              go_upto_region 22 with fail
              rw [← hwb, ← HBY.out]
              rw [← HBY.out] at HQ
              clear hwb k0 k1 k2 k3 k4 k5 z1
              obtain ⟨t0, t1, t2, t3, t4, t5⟩ := row6 HQ.out
              have HR4 : Hid (Reads w4 y ry) := HR.out.1.kept0 (HOL.out.ap.trans HA4.out)
              have HC := hid (HMS.out wb sb eb rb K y ry (HIB.out.kept0 HAb.out) HSBb.out (HR4.out.kept0 (HOO.out.ap.trans HAb.out)) HR.out.2)
              unfold Sl.v at t4 t5
              go_wp2_with fail
              refine HC.out.mono ?_
              clear t0 t1 t2 t3 t4 t5
              rintro _ w5 ⟨s', fs', rs', rfl, hf, hs, hn⟩
              have a5 : Apart [] wr w5 := HAb.out.trans hf.own.nw.ap
              obtain ⟨t0, t1, t2, t3, t4, t5⟩ := row6 ((hf.own.nw.ap.block _ (lt_of_heap HQ.out) (by simp)).trans HQ.out)
              obtain ⟨s6, w6, hrun, hol6, hn6, ap6⟩ := (HOO.out.kept a5).push (by have := Hso.out; omega) HR4.out 39
              have HIN6 : Hid (In w6 s' fs' rs') := by
                have hf4 : FL w4 w5 s' fs' rs' := hf.from (HOO.out.ap.trans HAb.out)
                exact (hf4.beside (HOO.out.kept a5).own ap6 hol6.ap (fun b hb hs' => by
                  have h1 := hf.own.nw.new b hs'
                  have h2 := (HOO.out.own.nw.own.lt b hb).2
                  have h3 := HAb.out.size
                  omega)).ins (by omega)
              have HOL6 := hid hol6
              have HS6 := hid hs
              have Hn6 : Hid (s6.n = t + 1) := by unfold Hid; rw [hn6, Hso.out]
              have HRO6 : Hid (∀ x ∈ ro ++ [ry], x ∈ M) := fun x hx => by
                rcases List.mem_append.1 hx with hx | hx
                · exact HRO.out x hx
                · simp at hx; rw [hx]; exact HR.out.2
              unfold Sl.v boxE at hrun
              have HRUN : Hid ((Builtin.append_ #[39, 39] 39 #[.slice so.p so.n so.c, .slice (some ⟨w5.heap.size, 0, none⟩) 1 1]).run Tryd.prog (w5.alloc (Obj.cells #[Value.int IntKind.i64 y.n, Value.int IntKind.i64 y.c, Value.string y.k, Value.bool y.d, Value.slice y.v.p y.v.n y.v.c, Value.slice y.x.p y.x.n y.x.c] 28)) = .ok (.slice s6.p s6.n s6.c) w6) := hrun
              clear hrun hol6 hn6 ap6 hf hs hn a5
              unfold Sl.v at t4 t5
              try dsimp only
              go_wp2_with (at_builtin; refine wpList_app2 rfl (.tmp 105) (.tmp 107) 39 39 rfl _ _ rfl rfl _ _ HRUN.out ?_)
              go_roundw
              case rel => exact ⟨t + 1, s', fs', rs', s6, _, _, _, rfl, rfl, rfl, by go_num, by omega, Hn6.out, HIN6.out, HS6.out, HOL6.out, HRO6.out⟩
              case measure => simp [intOf]; omega
            case false =>
              clear Hgb
              have hw1 : IntKind.i64.wrap ((ON : Int) - 1) = (ON : Int) - 1 := by rw [IntKind.wrap_i64]; omega
              go_wp2_with fail
              clear hw1
              generalize wr = w5 at *
              have HA5 : Hid (Apart [] w4 w5) := HOO.out.ap
              go_loopw [10, 12, 13, 17] (fun b o e c wt => ∃ (m : Nat) (sb : Sl) (eb : List E) (rb : List Wr) (sw : Sl) (et : List E) (rt : List Wr) (K : Wr → Prop), b = .slice sb.p sb.n sb.c ∧ o = .slice sw.p sw.n sw.c ∧ e = .int .i64 0 ∧ c = .int .i64 ((m : Int) - 1) ∧ m ≤ ON ∧ sw.n + m = ON ∧ In wt sb eb rb ∧ Sib cvW belowW M K rb ∧ (∀ x ∈ M.drop m, K x) ∧ OL w5 wt sw et rt ∧ (∀ x, x ∈ rt ↔ x ∈ M.drop m)) (fun _ _ _ c _ => (intOf c + 1).toNat)
              case atStart => exact ⟨ON, sb, eb, rb, ⟨none, 0, 0⟩, [], [], K, rfl, rfl, rfl, rfl, Nat.le_refl _, by show 0 + ON = ON; omega, HIB.out, HSBb.out, fun x hx => by rw [List.drop_of_length_le (by rw [HON.out]; exact Nat.le_refl _)] at hx; simp at hx, OL.nil _ _ (Apart.refl _ _), fun x => by rw [List.drop_of_length_le (by rw [HON.out]; exact Nat.le_refl _)]⟩
              case round =>
                clear HIB HSBb
                obtain ⟨m, sb, eb, rb, sw, et, rt, K, rfl, rfl, rfl, rfl, hm, hsw, hIb, hSb, hKd, hOt, hrt⟩ := hrel
                have HIB := hid hIb
                have HSBb := hid hSb
                have HKD := hid hKd
                have HOT := hid hOt
                have HRT := hid hrt
                have Hsw := hid hsw
                clear hIb hSb hKd hOt hrt hsw
                cases m with
                | succ m =>
                  have e1 : (((m + 1 : Nat) : Int) - 1) = ((m : Nat) : Int) := by omega
                  rw [e1]
                  clear e1
                  have hge : ((m : Nat) : Int) ≥ 0 := by omega
                  have hmO : ((m : Nat) : Int) < (ON : Int) := by omega
                  have hw2 : IntKind.i64.wrap (((m : Nat) : Int) - 1) = ((m : Nat) : Int) - 1 := by rw [IntKind.wrap_i64]; omega
                  obtain ⟨PO, oo, hpo, hPol, hco⟩ := (HOE.out wr (HA4.out.trans (HA5.out.trans HOT.out.ap))).at (by omega)
                  subst hpo
                  obtain ⟨k0, k1, k2, k3, k4, k5⟩ := hco m (by omega)
                  have HR := hid (HOR.out m (by omega))
                  have HDN : Hid (∀ x, x ∈ M.drop m ↔ x ∈ M.drop (m + 1) ∨ x = gR M m) := mem_drop_next M m (by rw [← HON.out]; omega)
                  have HR5 : Hid (Reads w5 (gE es m) (gR M m)) := HR.out.1.kept0 (HOL.out.ap.trans (HA4.out.trans HA5.out))
                  have HPl := hid hPol
                  have HCO := hid (hco m (by omega))
                  generalize gE es m = y at *
                  generalize gR M m = ry at *
                  have HC := hid (HMS.out wr sb eb rb K y ry HIB.out HSBb.out (HR5.out.kept0 HOT.out.ap) HR.out.2)
                  unfold Sl.v at k4 k5
                  clear hco hPol
                  go_wp2_with fail
                  refine HC.out.mono ?_
                  clear k0 k1 k2 k3 k4 k5
                  rintro _ w6 ⟨s', fs', rs', rfl, hf, hs, hn⟩
                  have a6 : Apart [] wr w6 := hf.own.nw.ap
                  obtain ⟨k0, k1, k2, k3, k4, k5⟩ := HCO.out
                  have k0 := (a6.cell HPl.out (by simp)).trans k0
                  have k1 := (a6.cell HPl.out (by simp)).trans k1
                  have k2 := (a6.cell HPl.out (by simp)).trans k2
                  have k3 := (a6.cell HPl.out (by simp)).trans k3
                  have k4 := (a6.cell HPl.out (by simp)).trans k4
                  have k5 := (a6.cell HPl.out (by simp)).trans k5
                  obtain ⟨s6, w7, hrun, hol6, hn6, ap6⟩ := (HOT.out.kept a6).push (by have := Hsw.out; omega) HR5.out 39
                  have HIN6 : Hid (In w7 s' fs' rs') := by
                    have hf4 : FL w5 w6 s' fs' rs' := hf.from HOT.out.ap
                    exact (hf4.beside (HOT.out.kept a6).own ap6 hol6.ap (fun b hb hs' => by
                      have h1 := hf.own.nw.new b hs'
                      have h2 := (HOT.out.own.nw.own.lt b hb).2
                      omega)).ins (by omega)
                  have HOL6 := hid hol6
                  have HS6 := hid hs
                  have Hn6 : Hid (s6.n + m = ON) := by unfold Hid; rw [hn6]; have := Hsw.out; omega
                  have HKD6 : Hid (∀ x ∈ M.drop m, K x ∨ x = ry) := fun x hx => by
                    rcases (HDN.out x).1 hx with h | h
                    · exact .inl (HKD.out x h)
                    · exact .inr h
                  have HRT6 : Hid (∀ x, x ∈ rt ++ [ry] ↔ x ∈ M.drop m) := fun x => by
                    rw [HDN.out, List.mem_append, HRT.out]
                    simp
                  unfold Sl.v boxE at hrun
                  have HRUN : Hid ((Builtin.append_ #[39, 39] 39 #[.slice sw.p sw.n sw.c, .slice (some ⟨w6.heap.size, 0, none⟩) 1 1]).run Tryd.prog (w6.alloc (Obj.cells #[Value.int IntKind.i64 y.n, Value.int IntKind.i64 y.c, Value.string y.k, Value.bool y.d, Value.slice y.v.p y.v.n y.v.c, Value.slice y.x.p y.x.n y.x.c] 28)) = .ok (.slice s6.p s6.n s6.c) w7) := hrun
                  clear hrun hol6 hn6 ap6 hf hs hn a6
                  unfold Sl.v at k4 k5
                  try dsimp only
                  go_wp2_with (at_builtin; refine wpList_app2 rfl (.tmp 127) (.tmp 132) 39 39 rfl _ _ rfl rfl _ _ HRUN.out ?_)
                  go_roundw
                  case rel => exact ⟨m, s', fs', rs', s6, _, _, _, rfl, rfl, rfl, rfl, by omega, Hn6.out, HIN6.out, HS6.out, HKD6.out, HOL6.out, HRT6.out⟩
                  case measure => simp [intOf]
                | zero =>
                  have hge : ¬ ((((0 : Nat) : Int) - 1) ≥ 0) := by omega
                  have HSB2 : Hid (Sib cvW belowW M (fun _ => True) rb) := HSBb.out.congr (fun x hx => ⟨fun _ => trivial, fun _ => HKD.out x (by rw [List.drop_zero]; exact hx)⟩)
                  have HEB : Hid (rb = ra) := Sib.ext HOD.out HSB2.out HSA.out
                  have HG2 : Hid (Sib cvW belowW M (fun _ => True) (gathW (ro ++ rt))) := by
                    unfold Hid
                    have hcl := HCL.out
                    rw [HM.out] at hcl ⊢
                    refine gath_all hcl HDD.out (fun x => ?_)
                    rw [← HM.out, List.mem_append, HRT.out, List.drop_zero]
                    exact ⟨fun h => h.elim (HRO.out x) id, .inr⟩
                  have HEC : Hid (gathW (ro ++ rt) = ra) := Sib.ext HOD.out HG2.out HSA.out
                  have HG3 : Hid (Sib cvW belowW M (fun _ => True) (gathW ([] ++ M))) := by
                    unfold Hid
                    have hcl := HCL.out
                    rw [HM.out] at hcl ⊢
                    exact gath_all hcl HDD.out (fun x => by rw [List.nil_append])
                  have HED : Hid (gathW ([] ++ M) = ra) := Sib.ext HOD.out HG3.out HSA.out
                  have HRL : Hid (ra.length ≤ 60) := by
                    have h1 := HSA.out
                    rw [HM.out] at h1
                    exact Nat.le_trans (sibLen h1) HMm.out
                  rw [HEB.out] at HIB
                  have HA5r : Hid (Apart [] w5 wr) := HOT.out.ap
                  have HTr : Hid (Tab wr) := HTB.out.kept0 (HW.out.ap.trans (HOL.out.ap.trans (HA4.out.trans (HA5.out.trans HA5r.out))))
                  have hsoN : so.n ≤ NO := by have := Hso.out; omega
                  have hswN : sw.n ≤ N := by have h1 := Hsw.out; have h2 := HMN.out; omega
                  obtain ⟨wg, hwg⟩ : ∃ wg, wg = wr.alloc (.cells #[.slice so.p so.n so.c, .slice sw.p sw.n sw.c] 39 (0, 0)) := ⟨_, rfl⟩
                  have HAg : Hid (Apart [] wr wg) := by unfold Hid; rw [hwg]; exact (Apart.refl [] wr).alloc _
                  have HQg : Hid (wg.heap[wr.heap.size]? = some (.cells #[so.v, sw.v] 39 (0, 0))) := by unfold Hid; rw [hwg]; exact heap_alloc_new wr _
                  obtain ⟨BG, HBG⟩ : ∃ BG, Hid (BG = wr.heap.size) := ⟨_, rfl⟩
                  rw [← HBG.out] at HQg
                  have HCa : Hid (Calls Tryd.prog 20 #[.slice (some ⟨BG, 0, none⟩) 2 2] wg fun r w' => CpPost wg w' r ra.length ra) := by
                    obtain ⟨h1, h2, h3, h4⟩ := sets2 HQg.out ((HOO.out.kept (HA5r.out.trans HAg.out)).ins (by omega)) ((HOT.out.kept HAg.out).ins (by omega))
                    have := gather_R wg (HTr.out.kept0 HAg.out) (some ⟨BG, 0, none⟩) 2 2 _ h1 h2 (by omega) (by rw [h3]; omega)
                    rw [h4, HEC.out] at this
                    exact this
                  go_wp2_with fail
                  rw [← hwg, ← HBG.out]
                  clear hwg
                  refine HCa.out.mono ?_
                  rintro _ w6 hp
                  obtain ⟨sc, ec, rfl, hic, hac⟩ := hp.ins (by have := HRL.out; omega)
                  have HIC := hid hic
                  have HA6 : Hid (Apart [] wr w6) := HAg.out.trans hac
                  clear hp hic hac
                  unfold Sl.v
                  try dsimp only
                  obtain ⟨wh, hwh⟩ : ∃ wh, wh = w6.alloc (.cells #[.slice none 0 0, .slice op ON oc] 39 (0, 0)) := ⟨_, rfl⟩
                  have HAh : Hid (Apart [] w6 wh) := by unfold Hid; rw [hwh]; exact (Apart.refl [] w6).alloc _
                  have HQh : Hid (wh.heap[w6.heap.size]? = some (.cells #[Sl.v ⟨none, 0, 0⟩, Sl.v ⟨op, ON, oc⟩] 39 (0, 0))) := by unfold Hid; rw [hwh]; exact heap_alloc_new w6 _
                  obtain ⟨BH, HBH⟩ : ∃ BH, Hid (BH = w6.heap.size) := ⟨_, rfl⟩
                  rw [← HBH.out] at HQh
                  have HA3h : Hid (Apart [] w3 wh) := HA4.out.trans (HA5.out.trans (HA5r.out.trans (HA6.out.trans HAh.out)))
                  have HCd : Hid (Calls Tryd.prog 20 #[.slice (some ⟨BH, 0, none⟩) 2 2] wh fun r w' => CpPost wh w' r ra.length ra) := by
                    obtain ⟨h1, h2, h3, h4⟩ := sets2 HQh.out ((FL.nil wh wh (Apart.refl _ _)).ins (by show 0 ≤ _; omega)) ((HOL.out.kept HA3h.out).ins (by show ON ≤ _; omega))
                    have := gather_R wh (HTr.out.kept0 (HA6.out.trans HAh.out)) (some ⟨BH, 0, none⟩) 2 2 _ h1 h2 (by omega) (by rw [h3]; show 0 + ON ≤ _; omega)
                    rw [h4, HED.out] at this
                    exact this
                  go_wp2_with fail
                  rw [← hwh, ← HBH.out]
                  clear hwh
                  refine HCd.out.mono ?_
                  rintro _ w7 hp
                  obtain ⟨sd, ed, rfl, hid7, had⟩ := hp.ins (by have := HRL.out; omega)
                  have HID := hid hid7
                  have HA7 : Hid (Apart [] w6 w7) := HAh.out.trans had
                  clear hp hid7 had
                  unfold Sl.v
                  try dsimp only
                  have HIA7 := hid (HIN.out.kept0 (HA5.out.trans (HA5r.out.trans (HA6.out.trans HA7.out))))
                  have HIB7 := hid (HIB.out.kept0 (HA6.out.trans HA7.out))
                  have HIC7 := hid (HIC.out.kept0 HA7.out)
                  go_wp2_with fail
                  refine (sameIn HIA7.out HIB7.out).mono ?_
                  rintro _ w8 ⟨rfl, a8⟩
                  have HA8 := hid a8
                  clear a8
                  try dsimp only
                  go_wp2_with fail
                  refine (sameIn (HIA7.out.kept0 HA8.out) (HIC7.out.kept0 HA8.out)).mono ?_
                  rintro _ w9 ⟨rfl, a9⟩
                  have HA9 : Hid (Apart [] w7 w9) := HA8.out.trans a9
                  clear a9
                  try dsimp only
                  go_wp2_with fail
                  refine (sameIn (HIA7.out.kept0 HA9.out) (HID.out.kept0 HA9.out)).mono ?_
                  rintro _ w10 ⟨rfl, a10⟩
                  have HA10 : Hid (Apart [] w w10) := HW.out.ap.trans (HOL.out.ap.trans (HA4.out.trans (HA5.out.trans (HA5r.out.trans (HA6.out.trans (HA7.out.trans (HA9.out.trans a10)))))))
                  clear a10
                  try dsimp only
                  go_wp2_with fail
                  go_ret
                  exact ⟨rfl, HA10.out⟩
end Go.Proofs.YtokaeiahhmaokaaDoor.ds
