import Derived.Test.YtdbeeikjngnnnaaGreatC31
namespace Go.Proofs.YtdbeeikjngnnnaaGreat.ty
open Go.ChangeShapes Go.WideShapes Go.ChangeAt Go.RowKit
set_option linter.unusedVariables false
set_option linter.unusedSimpArgs false
set_option maxRecDepth 100000
set_option maxHeartbeats 8000000
def wn (k j : Nat) (g : Bool) : Int := if k ≠ j then 190 else if g then 0 else 191
theorem spl_mid (A B B' C : List Value) (h : B'.length = B.length) : spl (A ++ (B ++ C)).toArray A.length B' = (A ++ (B' ++ C)).toArray := by
 rw [spl_list _ _ _ (by simp only [List.length_append]; omega)]
 have e1 : (A ++ (B ++ C)).take A.length = A := by simp
 have e2 : (A ++ (B ++ C)).drop (A.length + B'.length) = C := by
  rw [h, ← List.append_assoc]
  have : A.length + B.length = (A ++ B).length := by simp
  rw [this, List.drop_left]
 rw [e1, e2, List.append_assoc]
theorem Dk.rowU {w : World} {O : Nat} {r : Rv} {s : Sl} (h : Dk w O r s) {u : List Int} (hu : u.length = 8) : Dk (w.setCells O 1 (rv u)) O { r with u := u } s := by
 refine h.wr (apart_setCells w O (rv u) 1) ?_ rfl hu h.dv.ld h.dv.lc
 rw [heap_setCells_same _ _ _ _ h.dv.blk]
 have := spl_mid [.int .i64 (r.k : Int)] (rv r.u) (rv u) (rv r.d ++ (rv r.c ++ [.slice s.p s.n s.c, .int .i64 r.st, .int .i64 r.ac, .string r.tx])) (by rw [rv_len, rv_len, hu, h.dv.lu])
 exact congrArg (fun x => some (Obj.cells x 63 (0, 0))) this
theorem Dk.rowDn {w : World} {O : Nat} {r : Rv} {s : Sl} (h : Dk w O r s) {u : List Int} (hu : u.length = 8) : Dk (w.setCells O 9 (rv u)) O { r with d := u } s := by
 refine h.wr (apart_setCells w O (rv u) 9) ?_ rfl h.dv.lu hu h.dv.lc
 rw [heap_setCells_same _ _ _ _ h.dv.blk]
 have := spl_mid (.int .i64 (r.k : Int) :: rv r.u) (rv r.d) (rv u) (rv r.c ++ [.slice s.p s.n s.c, .int .i64 r.st, .int .i64 r.ac, .string r.tx]) (by rw [rv_len, rv_len, hu, h.dv.ld])
 rw [List.length_cons, rv_len, h.dv.lu] at this
 exact congrArg (fun x => some (Obj.cells x 63 (0, 0))) this
theorem Dk.rowC {w : World} {O : Nat} {r : Rv} {s : Sl} (h : Dk w O r s) {u : List Int} (hu : u.length = 8) : Dk (w.setCells O 17 (rv u)) O { r with c := u } s := by
 refine h.wr (apart_setCells w O (rv u) 17) ?_ rfl h.dv.lu h.dv.ld hu
 rw [heap_setCells_same _ _ _ _ h.dv.blk]
 have := spl_mid (.int .i64 (r.k : Int) :: (rv r.u ++ rv r.d)) (rv r.c) (rv u) [.slice s.p s.n s.c, .int .i64 r.st, .int .i64 r.ac, .string r.tx] (by rw [rv_len, rv_len, hu, h.dv.lc])
 rw [List.length_cons, List.length_append, rv_len, rv_len, h.dv.lu, h.dv.ld] at this
 have e : (.int .i64 (r.k : Int) :: (rv r.u ++ rv r.d)) ++ (rv r.c ++ [.slice s.p s.n s.c, .int .i64 r.st, .int .i64 r.ac, .string r.tx]) = dCells r s := by
  unfold dCells; simp
 have e2 : (.int .i64 (r.k : Int) :: (rv r.u ++ rv r.d)) ++ (rv u ++ [.slice s.p s.n s.c, .int .i64 r.st, .int .i64 r.ac, .string r.tx]) = dCells { r with c := u } s := by
  unfold dCells; simp
 rw [e, e2] at this
 exact congrArg (fun x => some (Obj.cells x 63 (0, 0))) this
theorem dk_there {w : World} {O : Nat} {r : Rv} {s : Sl} (h : Dk w O r s) (o n : Nat) (hn : o + n ≤ 29) : w.there O o n := there_of h.dv.blk o n (by rw [List.size_toArray, dC_len h.dv.lu h.dv.ld h.dv.lc]; exact hn)
structure RdY (w : World) (k : Nat) (bs : List Nat) (x : Ending) (w' : World) : Prop where
 ok : rdOk k bs = true
 out : ∃ V s' ts, x = .returned (.tuple #[.pointer (some ⟨V, 0, none⟩), .int .i64 0]) ∧ w.heap.size ≤ V ∧ Dk w' V (rvO (readV k bs) ts) s' ∧ Rl (readV k bs) ts
 ap : Apart [] w w'
structure RdN (w : World) (k : Nat) (bs : List Nat) (x : Ending) (w' : World) : Prop where
 no : rdOk k bs = false
 eq : x = .returned (.tuple #[.pointer none, .int .i64 190])
 ap : Apart [] w w'
def RdP (w : World) (k : Nat) (bs : List Nat) (x : Ending) (w' : World) : Prop := RdY w k bs x w' ∨ RdN w k bs x w'
theorem build134 (p : Option Addr) (n c : Nat) (W : World) : (Instr.build 134 #[(0, .slice p n c)]).run Tryz.prog W = .ok (.agg #[.slice p n c, .int .i64 0, .bool false]) W := by kernel_rfl
theorem ex_build134 {W : World} {eval : Operand → Value} {op : Oper} {p : Option Addr} {n c : Nat} (x : Operand) (ho : op.op = .build 134 #[(0, x)]) (hx : eval x = .slice p n c) : (execOp eval op).run Tryz.prog W = .ok (.value (.agg #[.slice p n c, .int .i64 0, .bool false])) W := by
 unfold execOp
 have e1 : (#[(0, x)] : Array (Nat × Operand)).map (fun (i, x) => (i, eval x)) = #[(0, .slice p n c)] := by simp [hx]
 simp only [ho, e1, Sem.run_bind, build134 p n c W, Sem.run_pure, Result.andThen_ok]
theorem Dr.new' {w w1 : World} {sl : Sl} {bs : List Nat} (h : Gv w sl bs) (hl : bs.length ≤ 64) (a : Apart [] w w1) : Dr w (w1.alloc (.cells #[.slice sl.p sl.n sl.c, .int .i64 0, .bool false] 134)) w1.heap.size sl bs 0 false := ⟨heap_alloc_new w1 _, a.size, a.alloc _, h.rd, h.len, h.ok, h.u8, hl, Nat.zero_le _⟩
theorem formV_head (v : Vl) : ∃ l, formV v = v.kd :: l := by
 cases v using Vl.el with
 | cnt u d => exact ⟨_, rfl⟩
 | set c es => exact ⟨_, rfl⟩
 | flg c g => exact ⟨_, rfl⟩
 | rgs s a t => exact ⟨_, rfl⟩
theorem readV_kd {k : Nat} (h1 : 1 ≤ k) (h4 : k ≤ 4) (bs : List Nat) : (readV k bs).kd = k := by
 obtain rfl | rfl | rfl | rfl : k = 1 ∨ k = 2 ∨ k = 3 ∨ k = 4 := by omega
 all_goals rfl
theorem rdOk_form {k : Nat} {bs : List Nat} (h : rdOk k bs = true) : rightV (readV k bs) = true ∧ formV (readV k bs) = bs := by
 unfold rdOk at h
 simp only [Bool.and_eq_true, decide_eq_true_eq] at h
 exact h
theorem rdOk_head {k : Nat} (h1 : 1 ≤ k) (h4 : k ≤ 4) {bs : List Nat} (h : rdOk k bs = true) : ∃ l, bs = k :: l := by
 obtain ⟨l, hl⟩ := formV_head (readV k bs)
 rw [(rdOk_form h).2, readV_kd h1 h4] at hl
 exact ⟨l, hl⟩
theorem rdOk_no {k : Nat} (h1 : 1 ≤ k) (h4 : k ≤ 4) {bs : List Nat} (h : dnum bs 0 1 ≠ k) : rdOk k bs = false := by
 cases c : rdOk k bs
 ·rfl
 ·obtain ⟨l, rfl⟩ := rdOk_head h1 h4 c
  exact absurd (drop_head (show (k :: l).drop 0 = k :: l from rfl)).2.1 h
theorem dnum_head {k : Nat} (h1 : 1 ≤ k) {bs : List Nat} (h : dnum bs 0 1 = k) : dbad bs 0 1 = false ∧ dat bs 0 1 = 1 ∧ ∃ l, bs = k :: l := by
 cases bs with
 | nil => simp [dnum] at h; omega
 | cons x l =>
  obtain ⟨d1, d2, d3⟩ := drop_head (show (x :: l).drop 0 = x :: l from rfl)
  rw [d2] at h
  subst h
  exact ⟨d1, by unfold dat; rw [if_pos (by simp)], l, rfl⟩
theorem dRead_long {w : World} {k : Nat} (h1 : 1 ≤ k) (h4 : k ≤ 4) (p : Option Addr) (n c : Nat) (hn : ((n : Nat) : Int) > 64) : Calls Tryz.prog 46 #[.int .i64 (k : Int), .slice p n c] w fun x w' => x = .returned (.tuple #[.pointer none, .int .i64 2]) ∧ Apart [] w w' := by
 have HN := hid (rnew_ok w k h1 h4)
 clear h1 h4
 go_enter Tryz.func46, Tryz.ntmps46
 go_wp2_with (go_at_call 19; refine HN.out.mono ?_; rintro _ wn ⟨V, rfl, hV, dV, aV⟩; have HA := hid aV; clear aV dV hV)
 go_ret2
 exact ⟨rfl, HA.out⟩
theorem dk0' {w : World} {O k : Nat} (h : Dv w O (rv0 k) ⟨none, 0, 0⟩) : Dk w O (rv0 k) ⟨none, 0, 0⟩ := ⟨h, fun h0 => by simp [rv0] at h0⟩
theorem Dk.kr {wB w w' : World} {V R : Nat} {r : Rv} {s sl : Sl} {bs : List Nat} {a : Nat} {b : Bool} (h : Dk w V r s) (d : Dr wB w R sl bs a b) (k : Apart [R] w w') (hn : V ≠ R) : Dk w' V r s := h.other k (fun hm => hn (List.mem_singleton.1 hm)) (fun q hq cur m e => by
 rw [List.mem_singleton.1 hq, d.blk] at e
 simp at e)
theorem Dr.kv {wB w w' : World} {V R : Nat} {r : Rv} {s sl : Sl} {bs : List Nat} {a : Nat} {b : Bool} (d : Dr wB w R sl bs a b) (h : Dk w V r s) (k : Apart [V] w w') (hV : wB.heap.size ≤ V) : Dr wB w' R sl bs a b := d.kept k (fun hm => by
 have e := d.blk
 rw [List.mem_singleton.1 hm, h.dv.blk] at e
 simp at e) (fun x hx => by rw [List.mem_singleton.1 hx]; exact hV)
theorem dRead1 {w : World} {sl : Sl} {bs : List Nat} (h : Gv w sl bs) (hl : bs.length ≤ 64) : Calls Tryz.prog 46 #[.int .i64 1, .slice sl.p sl.n sl.c] w fun x w' => RdP w 1 bs x w' := by
 have HN := hid (rnew_ok w 1 (by omega) (by omega))
 have HG := hid h
 have Hl := hid hl
 obtain ⟨N, HNN⟩ : ∃ N, Hid (N = bs.length) := ⟨_, hid rfl⟩
 have hsn : sl.n = N := by rw [HNN.out]; exact h.len.symm
 have hn64 : ¬ ((N : Nat) : Int) > 64 := by rw [HNN.out]; omega
 have HU : Hid (U8 bs) := hid h.u8
 have Hsn := hid hsn
 rw [hsn]
 clear h hl hsn
 go_enter Tryz.func46, Tryz.ntmps46
 go_upto_region 6 with (
  go_at_call 19
  refine HN.out.mono ?_
  rintro _ w1 ⟨V, rfl, hV, dV, aV⟩
  have HA1 := hid aV
  have HV := hid hV
  have HD0 := hid (dk0' dV)
  clear aV dV hV)
 obtain ⟨R, HR⟩ : ∃ R, Hid (R = w1.heap.size) := ⟨_, hid rfl⟩
 obtain ⟨w2, Hw2⟩ : ∃ W, Hid (W = w1.alloc (.cells #[.slice sl.p N sl.c, .int .i64 0, .bool false] 134)) := ⟨_, hid rfl⟩
 have HR2 : Hid (Dr w w2 R sl bs 0 false) := hid (by rw [Hw2.out, HR.out, ← Hsn.out]; exact Dr.new' HG.out Hl.out HA1.out)
 have HA2 : Hid (Apart [] w w2) := hid HR2.out.ap
 have HD2 : Hid (Dk w2 V (rv0 1) ⟨none, 0, 0⟩) := hid (HD0.out.kept0 (by rw [Hw2.out]; exact (Apart.refl [] w1).alloc _))
 have HVR : Hid (V < R) := hid (by rw [HR.out]; exact lt_of_heap HD0.out.dv.blk)
 go_upto_region 7 with (refine wpL_val rfl (.agg #[.slice sl.p N sl.c, .int .i64 0, .bool false]) (ex_build134 _ rfl rfl) ?_)
 rw [← HR.out, ← Hw2.out]
 clear Hw2 HN HD0 HA1
 have HC := hid (dnumber_ok HR2.out (k := 1) (by omega))
 obtain ⟨x0, Hx0⟩ : ∃ x, Hid (x = dnum bs 0 1) := ⟨_, hid rfl⟩
 rw [← Hx0.out] at HC
 by_cases hx : x0 = 1
 case neg =>
  have hxi : ((x0 : Int) != 1) = true := by simp only [bne_iff_ne, ne_eq]; omega
  have Hno : Hid (rdOk 1 bs = false) := hid (rdOk_no (by omega) (by omega) (by rw [← Hx0.out]; exact hx))
  go_wp2_with (
   go_at_call 62
   refine HC.out.mono ?_
   rintro _ w3 ⟨rfl, d3, a3⟩
   have HA3 : Hid (Apart [] w w3) := hid d3.ap
   clear d3 a3)
  go_ret2
  exact .inr ⟨Hno.out, rfl, HA3.out⟩
 case pos =>
 have hxi : ((x0 : Int) != 1) = false := by rw [hx]; rfl
 have Hhd := hid (dnum_head (k := 1) (by omega) (by rw [← Hx0.out]; exact hx))
 clear hx
 go_upto_region 9 with (
  go_at_call 62
  refine HC.out.mono ?_
  rintro _ w3 ⟨rfl, d3, a3⟩
  rw [Hhd.out.1, Hhd.out.2.1] at d3
  have HR3 : Hid (Dr w w3 R sl bs 1 false) := hid d3
  have HD3 := hid (HD2.out.kr HR2.out a3 (by have := HVR.out; omega))
  clear d3 a3)
 obtain ⟨l, hbs⟩ := Hhd.out.2.2
 have Hbs := hid hbs
 clear hbs
 have Hb1 : Hid (bs.drop 1 = l) := hid (by rw [Hbs.out]; rfl)
 clear hxi HC Hx0 Hhd HR2 HD2 HA2
 have HC := hid (drd_row2 HR3.out (size := 3) (by omega))
 obtain ⟨g, Hg⟩ : ∃ g, Hid (g = rowDD bs 1 false 3 true) := ⟨_, hid rfl⟩
 rw [← Hg.out] at HC
 have Hgl : Hid (g.u.length = 8 ∧ g.d.length = 8) := hid (by rw [Hg.out]; exact rwD_len _ _ _ _ _ _ 8)
 have Hgb : Hid (Wd g.u ∧ Wd g.d) := hid (by
  have hb := rwD_bd HU.out (dnum bs 1 1) (size := 3) (by omega) true (dat bs 1 1) (false || dbad bs 1 1) 8
  refine ⟨⟨Hgl.out.1, ?_⟩, ⟨Hgl.out.2, ?_⟩⟩
  ·rw [Hg.out]; exact hb.1
  ·rw [Hg.out]; exact hb.2)
 go_upto_region 32 with (first
  | (go_at_call 63
     refine HC.out.mono ?_
     rintro _ w4 ⟨rfl, d4, a4⟩
     have HR4 := hid d4
     have HD4 := hid (HD3.out.kr HR3.out a4 (by have := HVR.out; omega))
     clear d4 a4)
  | (refine wpList_store_mid rfl 60 _ _ rfl V 1 (rv g.u).toArray rfl rfl (dk_there HD4.out 1 _ (by simp [rv_len, Hgl.out.1])) (by rw [size60]; simp [rv_len, Hgl.out.1]) (all_oneCell_toArray (rv_one _)) ?_
     simp only [List.toList_toArray]
     have HD5 := hid (HD4.out.rowU Hgl.out.1)
     have HR5 := hid (HR4.out.kv HD4.out (apart_setCells w4 V (rv g.u) 1) HV.out)
     generalize w4.setCells V 1 (rv g.u) = w5 at *)
  | (refine wpList_store_mid rfl 60 _ _ rfl V 9 (rv g.d).toArray rfl rfl (dk_there HD5.out 9 _ (by simp [rv_len, Hgl.out.2])) (by rw [size60]; simp [rv_len, Hgl.out.2]) (all_oneCell_toArray (rv_one _)) ?_
     simp only [List.toList_toArray]
     have HDf' := hid (HD5.out.rowDn Hgl.out.2)
     have HRf := hid (HR5.out.kv HD5.out (apart_setCells w5 V (rv g.d) 9) HV.out)
     generalize w5.setCells V 9 (rv g.d) = wf at *))
 obtain ⟨rf, Hrf⟩ : ∃ x : Rv, Hid (x = ⟨1, g.u, g.d, zr, [], 0, 0, ⟨#[]⟩⟩) := ⟨_, hid rfl⟩
 have HDf : Hid (Dk wf V rf ⟨none, 0, 0⟩) := hid (by rw [Hrf.out]; exact HDf'.out)
 obtain ⟨sf, Hsf⟩ : ∃ s : Sl, Hid (s = ⟨none, 0, 0⟩) := ⟨_, hid rfl⟩
 rw [← Hsf.out] at HDf
 obtain ⟨bf, Hbf⟩ : ∃ b, Hid (b = g.bad) := ⟨_, hid rfl⟩
 rw [← Hbf.out] at HRf
 clear HDf' HC HR3 HD3 HR4 HD4 HR5 HD5
 have HRl := hid (lt_of_heap HRf.out.blk)
 have Hc2 := hid HRf.out.c2
 have HCv : Hid (∀ W, Apart [] w W → Sem.run Tryz.prog (convert 29 9 (.slice sl.p N sl.c)) W = .ok (.string (strB bs)) W) := hid (fun W a => by
  have := conv_bytes (HG.out.rd.kept0 a) HG.out.len HG.out.ok
  rw [Hsn.out] at this
  exact this)
 go_upto_region 32 with fail
 cases hbf : bf
 case true =>
  rw [hbf] at Hc2
  have Hno : Hid (rdOk 1 bs = false) := hid (by
   cases c : rdOk 1 bs
   ·rfl
   ·exfalso
    obtain ⟨-, c2⟩ := rdOk_form c
    have ok := readV_okF (k := 1) (by omega) (by omega) HU.out Hl.out
    obtain ⟨u, d, e⟩ : ∃ u d, readV 1 bs = .cnt u d := ⟨_, _, rfl⟩
    rw [e] at c2 ok
    obtain ⟨ou, od⟩ : Wd u ∧ Wd d := ok
    have h3 : bs.drop 1 = rowB (ob u d) 6 ++ [] := by rw [← c2, List.append_nil]; rfl
    have h4 := (rowDD_good2 HU.out (ou.rw6 od) h3).1
    rw [← Hg.out, ← Hbf.out, hbf] at h4
    cases h4)
  refine wp_region_held_drew (S := fun W => Apart [] wf W) (by kernel_rfl) (Apart.refl [] wf).drew fun hHeld => ?_
  generalize wf.drew = wd at *
  refine zt 0 191 ?_
  refine zt 1 192 ?_
  refine zt 2 193 ?_
  refine zu 3 194 rfl (fun W hSW => by have z : W.cell? ⟨R, 2, none⟩ = some (.bool true) := (hSW.cell HRl.out (by simp)).trans Hc2.out; go_simp <;> rfl) ?_
  refine zt 4 195 ?_
  simp only [zA,zB,zC,zD,zF]
  refine tu 5 196 rfl ?_
  simp only [zA,zB,zC,zD,zF]
  refine tu 8 199 rfl ?_
  simp only [zA,zB,zC,zD,zF]
  refine tu 9 200 rfl ?_
  simp only [zA,zB,zC,zD,zF]
  refine wpAnyH_pass 6 (o := ⟨some 197, _, _, _, _, _⟩) (by kernel_rfl) rfl (by kernel_rfl) (by assumption) ?_
  simp only [zA,zB,zC,zD,zF]
  refine tu 7 198 rfl ?_
  simp only [zA,zB,zC,zD,zF]
  refine tu 10 201 rfl ?_
  refine zt 11 202 ?_
  simp only [zA,zB,zC,zD,zF]
  refine wpAnyH_done (by kernel_rfl) ?_ _
  have HAn := hid hHeld
  clear hHeld
  go_wp2_with fail
  go_ret2
  exact .inr ⟨Hno.out, rfl, HRf.out.ap.trans HAn.out⟩
 case false =>
  rw [hbf] at Hc2
  have Hv1 : Hid (readV 1 bs = .cnt g.u g.d) := hid (by
   have h1 := rowDD_two HU.out (a := 1) (b := false) (by rw [← Hg.out, ← Hbf.out]; exact hbf)
   rw [← Hg.out] at h1
   show Vl.cnt (cuR (rowR (bs.drop 1) 6).1) (cdR (rowR (bs.drop 1) 6).1) = _
   rw [h1.2.2.1, h1.2.2.2])
  obtain ⟨v, Hv⟩ : ∃ v : Vl, Hid (v = .cnt g.u g.d) := ⟨_, hid rfl⟩
  have Hrv : Hid (readV 1 bs = v) := hid (by rw [Hv.out]; exact Hv1.out)
  have Hvr : Hid (rvO v [] = rf) := hid (by rw [Hv.out, Hrf.out]; rfl)
  have HRl2 : Hid (Rl v []) := hid (by rw [Hv.out]; rfl)
  have Hrt : Hid (rightV v = true) := hid (by rw [Hv.out]; rfl)
  have HIv : Hid (Iv v) := hid (by rw [Hv.out]; exact ⟨⟨Hgb.out, fun s a t e => by cases e⟩, fun x hx => by simp [elsR] at hx⟩)
  have HFo : Hid (∀ W, Apart [] wf W → Calls Tryz.prog 44 #[.pointer (some ⟨V, 0, none⟩)] W fun x w' => ∃ s', x = .returned (.slice s'.p s'.n s'.c) ∧ Bf W w' s' (formV v)) := hid (fun W aW => dform_any (by rw [Hvr.out]; exact HDf.out.kept0 aW) HRl2.out HIv.out)
  have HU2 : Hid (U8 (formV v)) := hid (formV_u8 v)
  by_cases he : formV v = bs
  ·have Hne : Hid (((strB (formV v)).toList != (strB bs).toList) = false) := hid (by rw [he]; simp)
   have Hyes : Hid (rdOk 1 bs = true) := hid (by
    unfold rdOk
    rw [Hrv.out, Hrt.out, he]
    simp)
   refine wp_region_held_drew (S := fun W => Apart [] wf W) (by kernel_rfl) (Apart.refl [] wf).drew fun hHeld => ?_
   generalize wf.drew = wd at *
   refine zt 0 191 ?_
   refine zt 1 192 ?_
   refine zt 2 193 ?_
   refine zu 3 194 rfl (fun W hSW => by have z : W.cell? ⟨R, 2, none⟩ = some (.bool false) := (hSW.cell HRl.out (by simp)).trans Hc2.out; go_simp <;> rfl) ?_
   refine zt 4 195 ?_
   refine zt 5 196 ?_
   refine zt 8 199 ?_
   simp only [zA,zB,zC,zD,zF]
   refine tk 9 200 (.string (strB bs)) rfl ?_ ?_
   ·intro W hSW; have hcv := HCv.out W (HRf.out.ap.trans hSW); go_simp
   simp only [zA,zB,zC,zD,zF]
   refine zQ 6 fun KK hKK => ?_
   go_simp
   refine (HFo.out wd hHeld).mono ?_
   rintro _ wa ⟨sf2, rfl, bff⟩
   have hHx := hHeld.trans bff.nw.ap
   try dsimp only
   refine hKK.out _ _ hHx (fun hHeld => ?_)
   clear hKK KK
   try simp only [zA,zB,zC,zD,zF]
   refine zQ 7 fun KK hKK => ?_
   have hcv := conv_bytes (w := wa) (Rd.own bff.nw.own) bff.len.symm bff.nw.ok
   go_simp
   refine hKK.out _ _ hHeld (fun hHeld => ?_)
   clear hKK KK
   try simp only [zA,zB,zC,zD,zF]
   refine tk 10 201 (.bool false) rfl ?_ ?_
   ·intro W hSW; have hne := Hne.out; go_simp
   refine zt 11 202 ?_
   simp only [zA,zB,zC,zD,zF]
   refine wpAnyH_done (by kernel_rfl) ?_ _
   have HAn := hid hHeld
   clear hHeld bff
   have HDz := hid (HDf.out.kept0 HAn.out)
   go_wp2_with fail
   go_ret2
   exact .inl ⟨Hyes.out, ⟨V, sf, [], rfl, HV.out, by rw [Hrv.out, Hvr.out]; exact HDz.out, by rw [Hrv.out]; exact HRl2.out⟩, HRf.out.ap.trans HAn.out⟩
  ·have Hne : Hid (((strB (formV v)).toList != (strB bs).toList) = true) := hid (by
    have := strB_eq HU2.out HU.out
    rw [decide_eq_false he] at this
    rw [bne, this]; rfl)
   have Hno : Hid (rdOk 1 bs = false) := hid (by
    unfold rdOk
    rw [Hrv.out, decide_eq_false he]
    simp)
   refine wp_region_held_drew (S := fun W => Apart [] wf W) (by kernel_rfl) (Apart.refl [] wf).drew fun hHeld => ?_
   generalize wf.drew = wd at *
   refine zt 0 191 ?_
   refine zt 1 192 ?_
   refine zt 2 193 ?_
   refine zu 3 194 rfl (fun W hSW => by have z : W.cell? ⟨R, 2, none⟩ = some (.bool false) := (hSW.cell HRl.out (by simp)).trans Hc2.out; go_simp <;> rfl) ?_
   refine zt 4 195 ?_
   refine zt 5 196 ?_
   refine zt 8 199 ?_
   simp only [zA,zB,zC,zD,zF]
   refine tk 9 200 (.string (strB bs)) rfl ?_ ?_
   ·intro W hSW; have hcv := HCv.out W (HRf.out.ap.trans hSW); go_simp
   simp only [zA,zB,zC,zD,zF]
   refine zQ 6 fun KK hKK => ?_
   go_simp
   refine (HFo.out wd hHeld).mono ?_
   rintro _ wa ⟨sf2, rfl, bff⟩
   have hHx := hHeld.trans bff.nw.ap
   try dsimp only
   refine hKK.out _ _ hHx (fun hHeld => ?_)
   clear hKK KK
   try simp only [zA,zB,zC,zD,zF]
   refine zQ 7 fun KK hKK => ?_
   have hcv := conv_bytes (w := wa) (Rd.own bff.nw.own) bff.len.symm bff.nw.ok
   go_simp
   refine hKK.out _ _ hHeld (fun hHeld => ?_)
   clear hKK KK
   try simp only [zA,zB,zC,zD,zF]
   refine tk 10 201 (.bool true) rfl ?_ ?_
   ·intro W hSW; have hne := Hne.out; have hnp := bne_iff_ne.1 hne; go_simp
   refine zt 11 202 ?_
   simp only [zA,zB,zC,zD,zF]
   refine wpAnyH_done (by kernel_rfl) ?_ _
   have HAn := hid hHeld
   clear hHeld bff
   go_wp2_with fail
   go_ret2
   exact .inr ⟨Hno.out, rfl, HRf.out.ap.trans HAn.out⟩
/-! ### the law's helpers -/
theorem alikeq {w : World} {a b : Sl} {us : List Nat} (ha : Bq w a us) (hb : Bq w b us) : Calls Tryz.prog 18 #[.slice a.p a.n a.c, .slice b.p b.n b.c] w fun r w' => r = .returned (.bool true) ∧ w' = w := alike_yes ha.rd ha.len ha.ok hb.rd hb.len hb.ok
theorem Gv.bq {w : World} {sl : Sl} {bs : List Nat} (h : Gv w sl bs) : Bq w sl bs := ⟨h.rd, h.len, h.ok⟩
theorem lent_ok {w : World} {sl : Sl} {bs : List Nat} (h : Gv w sl bs) : Calls Tryz.prog 35 #[.slice sl.p sl.n sl.c] w fun r w' => ∃ s' : Sl, r = .returned (.slice s'.p s'.n s'.c) ∧ Bf w w' s' (bs ++ [7, 8]) := by
 obtain ⟨s1, w1, hrun1, n1, l1, a1⟩ := copyB h
 have HR1 := hid hrun1
 obtain ⟨i0, hif, hz0, hz1, hz2⟩ := info_of info5
 have hle := h.le
 have hln := h.len
 obtain ⟨s5, w5, hrun, hnw5, hs5, ap5, -⟩ := run_appM (s := s1) 29 29 5 i0 _ 1 1 Tryz.underlying29 hif hz0 hz1 hz2 rfl (by decide) n1 2 (byts [7, 8]) (by decide) rfl (oneB _) (by unfold maxLen; omega) (by omega)
 have HR5 := hid hrun
 have HB : Hid (Bf w w5 s5 (bs ++ [7, 8])) := hid ⟨by rw [byts_app]; exact hnw5, by rw [hs5, List.length_append, l1, hln]; rfl⟩
 clear hrun1 n1 l1 a1 hrun hnw5 hs5 ap5 hif hz0 hz1 hz2 hle hln h
 go_enter Tryz.func35, Tryz.ntmps35
 go_upto_region 2 with (at_builtin; refine wpList_app2 rfl _ _ 29 29 rfl _ _ rfl rfl (.slice s1.p s1.n s1.c) w1 HR1.out ?_)
 go_wp2_with (refine wpList_append3 rfl _ _ 29 rfl _ _ rfl rfl (.slice s5.p s5.n s5.c) w5 HR5.out ?_)
 go_ret
 exact ⟨s5, rfl, HB.out⟩
theorem Bq.pre {w : World} {s : Sl} {us vs : List Nat} (h : Bq w s (us ++ vs)) {k : Nat} (hk : k = us.length) : Bq w (s.preB k) us := by
 have h1 := h.len
 rw [List.length_append] at h1
 refine ⟨fun h0 => ?_, hk.symm, Sl.preB_ok h.ok (by omega)⟩
 have h2 := h.rd
 rw [byts_app] at h2
 obtain ⟨P, o, e1, hb, hc⟩ := h2 (by rw [List.length_append]; omega)
 refine ⟨P, o, ?_, hb, fun j u hj => hc j u ?_⟩
 ·simp only [Sl.preB, e1, Option.map_some, Addr.add_lit, Nat.zero_mul, Nat.add_zero, ite_self]
 ·rw [List.getElem?_append_left (by have := (List.getElem?_eq_some_iff.1 hj).1; exact this)]; exact hj
theorem back_ok {w0 w : World} {s q : Sl} {bs : List Nat} (hs : Bf w0 w s (bs ++ [7, 8])) (hq : Gv w q bs) : Calls Tryz.prog 41 #[.slice s.p s.n s.c, .slice q.p q.n q.c] w fun r w' => r = .returned (.bool true) ∧ Apart s.v.ownBlock.toList w w' := by
 have hle := hq.le
 have hn := hs.len
 rw [List.length_append] at hn
 have hn2 : s.n = bs.length + 2 := hn
 obtain ⟨n, Hn⟩ : ∃ n, Hid (n = bs.length) := ⟨_, hid rfl⟩
 have hqn : q.n = n := by rw [Hn.out]; exact hq.len.symm
 have hsn : s.n = n + 2 := by rw [Hn.out]; exact hn2
 have hn20 : n ≤ 2000000 := by rw [Hn.out]; exact hle
 obtain ⟨g, hp, hg, hz7, -, ⟨cur, hcur⟩, -⟩ := hs.set n (by rw [List.length_append, Hn.out]; simp)
 obtain ⟨g', hp', -, hz8, -, -, -⟩ := hs.set (n + 1) (by rw [List.length_append, Hn.out]; simp)
 obtain rfl : g = g' := by rw [hp] at hp'; simpa using hp'
 have e7 : (bs ++ [7, 8]).getD n 0 = 7 := by rw [Hn.out, List.getD_eq_getElem?_getD, List.getElem?_append_right (by omega)]; simp
 have e8 : (bs ++ [7, 8]).getD (n + 1) 0 = 8 := by rw [Hn.out, List.getD_eq_getElem?_getD, List.getElem?_append_right (by omega)]; simp
 rw [e7] at hz7
 rw [e8] at hz8
 have Hob : Hid (s.v.ownBlock = some g) := hid (by rw [Sl.v, hp]; rfl)
 have hsc : n ≤ s.c := by have := hs.nw.cap; omega
 have HAl := hid (alikeq (Bq.pre (k := n) ⟨hs.nw.rd, hs.len.symm, hs.nw.ok⟩ Hn.out) hq.bq)
 rw [hqn] at HAl
 have HB := hid hs
 have HP := hid hp
 have HA0 : Hid (Apart s.v.ownBlock.toList w w) := hid (Apart.refl _ _)
 have hlt0 : (0 : Int) ≤ ((n : Nat) : Int) ∧ ((n : Nat) : Int) < ((n + 2 : Nat) : Int) := by omega
 have hw1 : wrap64 (((n : Nat) : Int) + 1) = ((n + 1 : Nat) : Int) := by rw [IntWalk.wrap64_in _ (by omega)]; omega
 clear hle hn hn2 e7 e8 hcur hp' hs hq
 rw [hp, hsn, hqn]
 have HSl : Hid (Value.slice (s.preB n).p (s.preB n).n (s.preB n).c = Value.slice (s.preB n).p (s.preB n).n (s.preB n).c) := hid rfl
 go_enter Tryz.func41, Tryz.ntmps41
 go_upto_region 3 with (first
  | refine wpL_val rfl (.slice (s.preB n).p (s.preB n).n (s.preB n).c) (ex_preB s n _ _ rfl (by rw [HP.out, hsn]; rfl) rfl hsc) ?_
  | (go_at_call 18; refine HAl.out.mono ?_; rintro _ wn ⟨rfl, hwn⟩; rw [hwn]; clear hwn))
 clear hz7 hz8 hlt0 hw1
 obtain ⟨N, HN⟩ : ∃ N, Hid (N = n + 2) := ⟨_, hid rfl⟩
 have hN : N ≤ 3000000 := by have := HN.out; omega
 rw [← HN.out]
 go_wp2_with fail
 go_loopw [7] (fun v7 wt => ∃ (i : Nat) (us : List Nat), v7 = .int .i64 (i : Int) ∧ i ≤ N ∧ Hid (us.length = N) ∧ Hid (Bf w0 wt s us) ∧ Hid (Apart s.v.ownBlock.toList w wt)) (fun v7 _ => N - natV v7)
 case atStart => exact ⟨0, bs ++ [7, 8], rfl, Nat.zero_le _, hid (by rw [List.length_append, HN.out, Hn.out]; rfl), HB, HA0⟩
 case round =>
  clear HB HA0
  obtain ⟨i, us, rfl, hi, Hul, HB, HA⟩ := hrel
  generalize wr = wt at *
  by_cases hlt : i < N
  ·have hlti : ((i : Nat) : Int) < ((N : Nat) : Int) := by omega
   have hlt0 : (0 : Int) ≤ ((i : Nat) : Int) ∧ ((i : Nat) : Int) < ((N : Nat) : Int) := by omega
   obtain ⟨g2, hp2, hg2, hz, hf, -, hset⟩ := HB.out.set i (by rw [Hul.out]; exact hlt)
   obtain rfl : g = g2 := by
    have h1 := HP.out
    rw [hp2] at h1
    simpa using h1.symm
   have HB2 := hid (hset wt 85 (Apart.refl [] wt))
   have HA2 : Hid (Apart s.v.ownBlock.toList w (wt.setCell ⟨g, i, none⟩ (.int .u8 ((85 : Nat) : Int)))) := hid (HA.out.setCell (.inl (by rw [Hob.out]; simp)) _)
   clear hset hp2 hg2
   go_wp2_with fail
   exact ⟨⟨i + 1, us.set i 85, by go_num, by omega, hid (by rw [List.length_set]; exact Hul.out), HB2, HA2⟩, by simp [natV]; omega⟩
  ·have hlti : ¬ ((i : Nat) : Int) < ((N : Nat) : Int) := by omega
   go_wp2_with fail
   go_ret
   exact ⟨rfl, HA.out⟩
end Go.Proofs.YtdbeeikjngnnnaaGreat.ty
