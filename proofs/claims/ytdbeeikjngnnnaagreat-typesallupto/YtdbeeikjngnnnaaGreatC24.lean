import Derived.Test.YtdbeeikjngnnnaaGreatC21
namespace Go.Proofs.YtdbeeikjngnnnaaGreat.ty
open Go.ChangeShapes Go.WideShapes Go.ChangeAt Go.RowKit
set_option linter.unusedVariables false
set_option linter.unusedSimpArgs false
set_option maxRecDepth 100000
set_option maxHeartbeats 8000000
structure Ss (w : World) (s : Sl) (l : List ByteArray) : Prop where
 rd : RdT w s.p 9 (sts l)
 len : s.n = l.length
 cap : s.n ≤ s.c
 ok : s.ok
theorem Ss.kept0 {w w' : World} {s : Sl} {l : List ByteArray} (h : Ss w s l) (a : Apart [] w w') : Ss w' s l := ⟨h.rd.kept a (by simp), h.len, h.cap, h.ok⟩
theorem Ss.at {w : World} {s : Sl} {l : List ByteArray} (h : Ss w s l) {j : Nat} (hj : j < l.length) : ∃ P o, s.p = some ⟨P, o, none⟩ ∧ P < w.heap.size ∧ w.cell? ⟨P, o + j, none⟩ = some (.string l[j]) := by
 obtain ⟨P, o, hp, hP, hc⟩ := h.rd (by rw [sts_len]; omega)
 obtain ⟨cur, m, hb⟩ := hP
 exact ⟨P, o, hp, lt_of_heapM hb, hc j _ (sts_at l j hj)⟩
theorem sz9 (W : World) : (sizeOf 9).run Tryz.prog W = .ok 1 W := by kernel_rfl
theorem el65 : Tryz.prog.elem 65 = 9 := by kernel_rfl
theorem ul65 : Tryz.prog.underlying 65 = some (.slice (Tryz.prog.elem 65)) := by rw [el65]; exact Tryz.underlying65
theorem ex_preS {W : World} {eval : Operand → Value} {op : Oper} (s : Sl) (k : Nat) (x y : Operand) (ho : op.op = .slice 65 x none (some y) none) (hx : eval x = .slice s.p s.n s.c) (hy : eval y = .int .i64 (k : Int)) (hk : k ≤ s.c) : (execOp eval op).run Tryz.prog W = .ok (.value (.slice (s.preB k).p (s.preB k).n (s.preB k).c)) W := by
 unfold execOp
 simp only [ho, hx, Option.map_some, Option.map_none, hy, Sem.run_bind, run_sliceAt_slice W 65 _ _ _ _ ul65, run_slice_h W 65 s.p s.n s.c ul65 .i64 (k : Int) (by omega) (by omega), el65, sz9, Result.andThen_ok, Sem.run_pure]
 simp [sliced, Sl.preB]
theorem ex_postS {W : World} {eval : Operand → Value} {op : Oper} (s : Sl) (k : Nat) (x y : Operand) (ho : op.op = .slice 65 x (some y) none none) (hx : eval x = .slice s.p s.n s.c) (hy : eval y = .int .i64 (k : Int)) (hk : k ≤ s.n) : (execOp eval op).run Tryz.prog W = .ok (.value (.slice (s.postB k).p (s.postB k).n (s.postB k).c)) W := by
 unfold execOp
 simp only [ho, hx, Option.map_some, Option.map_none, hy, Sem.run_bind, run_sliceAt_slice W 65 _ _ _ _ ul65, run_slice_l W 65 s.p s.n s.c ul65 .i64 (k : Int) (by omega) (by omega), el65, sz9, Result.andThen_ok, Sem.run_pure]
 simp [sliced, Sl.postB]
theorem Ss.pre {w : World} {s : Sl} {l : List ByteArray} (h : Ss w s l) {k : Nat} (hk : k ≤ l.length) : Ss w (s.preB k) (l.take k) := by
 have h1 := h.len
 have h2 := h.cap
 refine ⟨fun h0 => ?_, by show k = _; rw [List.length_take]; omega, by show k ≤ s.c; omega, Sl.preB_ok h.ok (by omega)⟩
 have e : sts l = sts (l.take k) ++ sts (l.drop k) := by rw [← sts_app, List.take_append_drop]
 obtain ⟨P, o, e1, hb, hc⟩ := h.rd (by rw [e, List.length_append]; omega)
 refine ⟨P, o, ?_, hb, fun j u hj => hc j u ?_⟩
 ·simp only [Sl.preB, e1, Option.map_some, Addr.add_lit, Nat.zero_mul, Nat.add_zero, ite_self]
 ·rw [e, List.getElem?_append_left (by have := (List.getElem?_eq_some_iff.1 hj).1; exact this)]; exact hj
theorem Ss.post {w : World} {s : Sl} {l : List ByteArray} (h : Ss w s l) {k : Nat} (hk : k ≤ l.length) : Ss w (s.postB k) (l.drop k) := by
 have h1 := h.len
 have h2 := h.cap
 refine ⟨fun h0 => ?_, by show s.n - k = _; rw [List.length_drop]; omega, by show s.n - k ≤ s.c - k; omega, Sl.postB_ok h.ok k⟩
 have e : sts l = sts (l.take k) ++ sts (l.drop k) := by rw [← sts_app, List.take_append_drop]
 have ht : (sts (l.take k)).length = k := by rw [sts_len, List.length_take]; omega
 rw [sts_len, List.length_drop] at h0
 obtain ⟨P, o, e1, hb, hc⟩ := h.rd (by rw [sts_len]; omega)
 refine ⟨P, o + k, ?_, hb, fun j u hj => ?_⟩
 ·simp only [Sl.postB, e1, Option.map_some, Addr.add_lit, Nat.mul_one]
  rw [if_neg (by omega)]
 ·rw [Nat.add_assoc]
  refine hc _ _ ?_
  rw [e, List.getElem?_append_right (by omega), ht, show k + j - k = j from by omega]
  exact hj
theorem Nw.rdT {w W : World} {e size : Nat} {s : Sl} {us : List Value} (h : Nw w W e size s us) : RdT W s.p e us := fun h0 => by
 obtain ⟨P, o, hp, hP, hc⟩ := h.rd h0
 obtain ⟨cur, hb⟩ := own_typ h.own (k := P) (by rw [Sl.v, hp]; rfl)
 exact ⟨P, o, hp, ⟨cur, _, hb⟩, hc⟩
theorem Ss.of_nw {w W : World} {s : Sl} {l : List ByteArray} (h : Nw w W 9 1 s (sts l)) (hl : s.n = l.length) : Ss W s l := by
 refine ⟨h.rdT, hl, ?_, h.ok⟩
 obtain ⟨hxl, ⟨hv, hz⟩ | ⟨g, cap, cur, hv, hbb, hr', hle, hrest⟩⟩ := h.own
 ·rw [hz]; exact Nat.zero_le _
 ·have e : s.c = cap := by simp only [Sl.v, Value.slice.injEq] at hv; exact hv.2.2
  rw [e]; exact hle
theorem app_s1 {w W : World} {s : Sl} {us : List ByteArray} (h : Nw w W 9 1 s (sts us)) (hsn : s.n = us.length) (x : ByteArray) (hl : us.length ≤ 1000000) :
  ∃ s' W', (Builtin.append_ #[65, 65] 65 #[.slice s.p s.n s.c, .slice (some ⟨W.heap.size, 0, none⟩) 1 1]).run Tryz.prog (W.alloc (.cells #[.string x] 9)) = .ok (.slice s'.p s'.n s'.c) W' ∧ Nw w W' 9 1 s' (sts (us ++ [x])) ∧ s'.n = us.length + 1 ∧ Apart s.v.ownBlock.toList W W' := by
 obtain ⟨i0, hif, hz0, hz1, hz2⟩ := info_of info9
 obtain ⟨s5, w5, hrun, hnw5, hs5, ap5, k5, hk5, -, hk6⟩ := run_appM (s := s) 65 65 9 i0 _ 1 16 Tryz.underlying65 hif hz0 hz1 hz2 rfl (by decide) h 1 (sts [x]) (by decide) rfl sts_one (by unfold maxLen; omega) (by omega)
 exact ⟨s5, w5, hrun, by rw [sts_app]; exact hnw5, by rw [hs5, hsn], ap5⟩
theorem Nw.none9 (w W : World) (a : Apart [] w W) : Nw w W 9 1 ⟨none, 0, 0⟩ (sts []) := ⟨World.ownsRow_nil _ _ _ _, by simp [Sl.v, Value.ownBlock], a⟩
theorem insS_len (x : ByteArray) (l : List ByteArray) : (insS x l).length ≤ l.length + 1 := by
 unfold insS
 split
 ·omega
 ·have := bel_le x l
  simp only [List.length_append, List.length_cons, List.length_take, List.length_drop]
  omega
theorem dels_ok {w : World} {O : Nat} {r : Rv} {s : Sl} (h : Dv w O r s) (hk : r.k = 2) (hl : r.ts.length ≤ 10000) : Calls Tryz.prog 32 #[.pointer (some ⟨O, 0, none⟩)] w fun x w' => ∃ s', x = .returned (.slice s'.p s'.n s'.c) ∧ Apart [] w w' ∧ Ss w' s' (elsT r.ts []) := by
 have HD := hid h
 obtain ⟨n, Hn⟩ : ∃ n, Hid (n = r.ts.length) := ⟨_, hid rfl⟩
 have hn6 : n ≤ 10000 := by rw [Hn.out]; exact hl
 have hsn : s.n = n := by rw [Hn.out]; exact h.len
 have Hk := hid hk
 have HA0 := hid (Apart.refl [] w)
 have HS0 : Hid (Ss w ⟨none, 0, 0⟩ []) := hid ⟨RdT.nil _ _ _, rfl, Nat.le_refl _, fun _ => ⟨rfl, rfl⟩⟩
 clear h hl hk
 go_enter Tryz.func32, Tryz.ntmps32
 go_wp2_with fail
 go_loopw [3, 4] (fun v3 v4 wt => ∃ (q : Nat) (L : List ByteArray) (so : Sl), v3 = .slice so.p so.n so.c ∧ v4 = .int .i64 (q : Int) ∧ q ≤ n ∧ L.length ≤ q ∧ Hid (Ss wt so L) ∧ Hid (Apart [] w wt) ∧ Hid (elsT (r.ts.drop q) L = elsT r.ts [])) (fun _ v4 _ => n - natV v4)
 case atStart => exact ⟨0, [], ⟨none, 0, 0⟩, rfl, rfl, Nat.zero_le _, Nat.le_refl _, HS0, HA0, hid rfl⟩
 case round =>
  clear HS0 HA0
  obtain ⟨q, L, so, rfl, rfl, hq, hLq, HS, HA, HE⟩ := hrel
  generalize wr = wt at *
  have HDt := hid (HD.out.kept0 HA.out)
  have zk : wt.cell? ⟨O, 0, none⟩ = some (.int .i64 2) := by rw [HDt.out.kind, Hk.out]; rfl
  have zs := HDt.out.tags
  rw [hsn] at zs
  by_cases hlt : q < n
  ·have hlti : ((q : Nat) : Int) < ((n : Nat) : Int) := by omega
   obtain ⟨A, o, hsp, hAs, hev⟩ := HDt.out.tag (by have := Hn.out; omega)
   rw [hsp] at zs
   obtain ⟨t, Ht⟩ : ∃ t, Hid (r.ts[q]? = some t) := ⟨_, hid (List.getElem?_eq_getElem (by have := Hn.out; omega))⟩
   have Hdr : Hid (r.ts.drop q = t :: r.ts.drop (q + 1)) := hid (by
    have hql : q < r.ts.length := by have := Hn.out; omega
    rw [List.drop_eq_getElem_cons hql]
    have h1 := Ht.out
    rw [List.getElem?_eq_getElem hql] at h1
    rw [Option.some.inj h1])
   have z0 := (hev q t Ht.out).1
   obtain ⟨x, Hx⟩ : ∃ x, Hid (x = t.e) := ⟨_, hid rfl⟩
   rw [← Hx.out] at z0
   have Hnx : Hid (elsT (r.ts.drop (q + 1)) (insS x L) = elsT r.ts []) := hid (by have h1 := HE.out; rw [Hdr.out, elsT, ← Hx.out] at h1; exact h1)
   clear hev hsp hAs HE
   obtain ⟨b, Hb⟩ : ∃ b, Hid (b = bel x L) := ⟨_, hid rfl⟩
   have hbL : b ≤ L.length := by rw [Hb.out]; exact bel_le x L
   have Hso : Hid (so.n = L.length) := hid HS.out.len
   go_upto_region 7 with fail
   go_loopw [6] (fun v6 wu => ∃ j : Nat, v6 = .int .i64 (j : Int) ∧ j ≤ b ∧ Hid (wu = wt)) (fun v6 _ => b - natV v6)
   case atStart => exact ⟨0, rfl, Nat.zero_le _, hid rfl⟩
   case round =>
    obtain ⟨j, rfl, hj, Hwu⟩ := hrel
    rw [Hwu.out]
    clear Hwu
    by_cases hjb : j < b
    ·have hjl : j < L.length := by omega
     have hjli : ((j : Nat) : Int) < ((so.n : Nat) : Int) := by have := Hso.out; omega
     obtain ⟨P, o2, hp, hP, zj⟩ := HS.out.at hjl
     rw [hp]
     have hbs : Op.bytesLess (L[j]'hjl).toList x.toList = true := by rw [bl_less]; exact bel_lt x L j hjl (by rw [← Hb.out]; exact hjb)
     obtain ⟨y, Hy⟩ : ∃ y, Hid (y = L[j]'hjl) := ⟨_, hid rfl⟩
     rw [← Hy.out] at zj hbs
     clear hp
     go_wp2_with fail
     exact ⟨⟨j + 1, by go_num, by omega, hid (by first | exact trivial | rfl)⟩, by simp [natV]; omega⟩
    ·obtain rfl : j = b := by omega
     clear hj hjb
     have hL6 : L.length ≤ 10000 := by omega
     obtain ⟨s1, w1, hrun1, n1, l1, a1⟩ := app_ss (Nw.none9 wt wt (Apart.refl [] wt)) rfl (HS.out.pre hbL).rd.rd (HS.out.pre hbL).len (HS.out.pre hbL).ok (by rw [List.length_take]; simp only [List.length_nil]; omega)
     rw [List.nil_append] at n1
     obtain ⟨s2, w2, hrun2, n2, l2, a2⟩ := app_s1 n1 (by simpa using l1) x (by rw [List.length_take]; omega)
     have HP2 := (HS.out.kept0 n2.ap).post hbL
     obtain ⟨s3, w3, hrun3, n3, l3, a3⟩ := app_ss n2 (by rw [l2, List.length_append]; rfl) HP2.rd.rd HP2.len HP2.ok (by rw [List.length_append, List.length_take, List.length_drop]; simp only [List.length_cons, List.length_nil]; omega)
     have HR1 : Hid ((Builtin.append_ #[65, 65] 65 #[.slice none 0 0, .slice (so.preB j).p (so.preB j).n (so.preB j).c]).run Tryz.prog wt = .ok (.slice s1.p s1.n s1.c) w1) := hid hrun1
     have HR2 := hid hrun2
     have HR3 := hid hrun3
     have HN3 := hid n3
     have HL3 : Hid (s3.n = ((L.take j ++ [x]) ++ L.drop j).length) := hid (by rw [l3, List.length_append (bs := L.drop j)])
     clear hrun1 hrun2 hrun3 n1 n2 n3 l1 l2 l3 a1 a2 a3 HP2
     have hcp : j ≤ so.c := by have := HS.out.cap; have := Hso.out; omega
     have hcn : j ≤ so.n := by have := Hso.out; omega
     by_cases hjl : j < L.length
     ·have hjli : ((j : Nat) : Int) < ((so.n : Nat) : Int) := by have := Hso.out; omega
      obtain ⟨P, o2, hp, hP, zj⟩ := HS.out.at hjl
      have hbs : Op.bytesLess (L[j]'hjl).toList x.toList = false := by
       rw [bl_less]
       have h1 := bel_ge x L (by rw [← Hb.out]; exact hjl)
       simp only [← Hb.out] at h1
       exact h1
      have HP := hid hp
      rw [HP.out]
      by_cases he : L[j]'hjl = x
      ·have Hsame : Hid (insS x L = L) := hid (by
        unfold insS
        rw [if_pos (by rw [← Hb.out, List.getElem?_eq_getElem hjl, he])])
       obtain ⟨y, Hy⟩ : ∃ y, Hid (y = L[j]'hjl) := ⟨_, hid rfl⟩
       have heq : (y.toList == x.toList) = true := by rw [Hy.out, he]; simp
       rw [← Hy.out] at zj hbs
       clear hp he HR1 HR2 HR3 HN3 HL3
       go_wp2_with fail
       exact ⟨⟨q + 1, L, so, by rw [HP.out], by go_num, by omega, by omega, HS, HA, hid (by have h1 := Hnx.out; rw [Hsame.out] at h1; exact h1)⟩, by simp [natV]; omega⟩
      ·have HI : Hid (insS x L = (L.take j ++ [x]) ++ L.drop j) := hid (by
        unfold insS
        rw [if_neg (by rw [← Hb.out]; rw [List.getElem?_eq_getElem hjl]; exact fun k => he (Option.some.inj k)), ← Hb.out]
        simp)
       have HLn : Hid (((L.take j ++ [x]) ++ L.drop j).length ≤ q + 1) := hid (by rw [← HI.out]; have := insS_len x L; omega)
       obtain ⟨y, Hy⟩ : ∃ y, Hid (y = L[j]'hjl) := ⟨_, hid rfl⟩
       have heq : (y.toList == x.toList) = false := by
        rw [beq_eq_false_iff_ne]
        intro k
        rw [Lib.toList_data, Lib.toList_data] at k
        exact he (by rw [← Hy.out]; exact ba_inj k)
       rw [← Hy.out] at zj hbs
       clear hp he
       go_upto_region 12 with (first
        | refine wpL_val rfl (.slice (so.preB j).p (so.preB j).n (so.preB j).c) (ex_preS so j _ _ rfl (by rw [HP.out]; rfl) rfl hcp) ?_
        | (at_builtin; refine wpList_app2 rfl _ _ 65 65 rfl _ _ rfl rfl (.slice s1.p s1.n s1.c) w1 HR1.out ?_))
       clear HR1
       go_upto_region 13 with (refine wpList_append3 rfl _ _ 65 rfl _ _ rfl rfl (.slice s2.p s2.n s2.c) w2 HR2.out ?_)
       clear HR2
       go_wp2_with (first
        | refine wpL_val rfl (.slice (so.postB j).p (so.postB j).n (so.postB j).c) (ex_postS so j _ _ rfl (by rw [HP.out]; rfl) rfl hcn) ?_
        | (at_builtin; refine wpList_app2 rfl _ _ 65 65 rfl _ _ rfl rfl (.slice s3.p s3.n s3.c) w3 HR3.out ?_))
       exact ⟨⟨q + 1, (L.take j ++ [x]) ++ L.drop j, s3, rfl, by go_num, by omega, by have := HLn.out; omega, hid (Ss.of_nw HN3.out HL3.out), hid (HA.out.trans HN3.out.ap), hid (by have h1 := Hnx.out; rw [HI.out] at h1; exact h1)⟩, by simp [natV]; omega⟩
     ·have hjli : ¬ ((j : Nat) : Int) < ((so.n : Nat) : Int) := by have := Hso.out; omega
      have HI : Hid (insS x L = (L.take j ++ [x]) ++ L.drop j) := hid (by
       unfold insS
       rw [if_neg (by rw [← Hb.out]; rw [List.getElem?_eq_none (by omega)]; exact fun k => by cases k), ← Hb.out]
       simp)
      have HLn : Hid (((L.take j ++ [x]) ++ L.drop j).length ≤ q + 1) := hid (by rw [← HI.out]; have := insS_len x L; omega)
      go_upto_region 12 with (first
       | refine wpL_val rfl (.slice (so.preB j).p (so.preB j).n (so.preB j).c) (ex_preS so j _ _ rfl (by rfl) rfl hcp) ?_
       | (at_builtin; refine wpList_app2 rfl _ _ 65 65 rfl _ _ rfl rfl (.slice s1.p s1.n s1.c) w1 HR1.out ?_))
      clear HR1
      go_upto_region 13 with (refine wpList_append3 rfl _ _ 65 rfl _ _ rfl rfl (.slice s2.p s2.n s2.c) w2 HR2.out ?_)
      clear HR2
      go_wp2_with (first
       | refine wpL_val rfl (.slice (so.postB j).p (so.postB j).n (so.postB j).c) (ex_postS so j _ _ rfl (by rfl) rfl hcn) ?_
       | (at_builtin; refine wpList_app2 rfl _ _ 65 65 rfl _ _ rfl rfl (.slice s3.p s3.n s3.c) w3 HR3.out ?_))
      exact ⟨⟨q + 1, (L.take j ++ [x]) ++ L.drop j, s3, rfl, by go_num, by omega, by have := HLn.out; omega, hid (Ss.of_nw HN3.out HL3.out), hid (HA.out.trans HN3.out.ap), hid (by have h1 := Hnx.out; rw [HI.out] at h1; exact h1)⟩, by simp [natV]; omega⟩
  ·have hlti : ¬ ((q : Nat) : Int) < ((n : Nat) : Int) := by omega
   have He : Hid (L = elsT r.ts []) := hid (by
    have h1 := HE.out
    rw [List.drop_eq_nil_of_le (by have := Hn.out; omega)] at h1
    exact h1)
   go_wp2_with fail
   go_ret
   exact ⟨so, rfl, HA.out, by rw [← He.out]; exact HS.out⟩
end Go.Proofs.YtdbeeikjngnnnaaGreat.ty
