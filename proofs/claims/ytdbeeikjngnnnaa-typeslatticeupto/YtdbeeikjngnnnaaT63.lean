import Derived.Test.YtdbeeikjngnnnaaT62
namespace Go.Proofs.Ytdbeeikjngnnnaa.ty
open Go.ChangeShapes Go.WideShapes Go.ChangeAt Go.RowKit
set_option linter.unusedVariables false
set_option linter.unusedSimpArgs false
theorem new_v (w : World) (k : Nat) (h1 : 1 ≤ k) (h4 : k ≤ 4) : Calls Try.prog 9 #[.int .i64 (k : Int)] w fun r w' => ∃ V, r = .returned (.tuple #[.pointer (some ⟨V, 0, none⟩), .int .i64 0]) ∧ w.heap.size ≤ V ∧ Ho w' V (new0 k) ∧ Apart [] w w' := by
  refine (new_ok w k h1 h4).mono ?_
  rintro _ _ ⟨rfl, rfl⟩
  exact ⟨_, rfl, Nat.le_refl _, Ho.new w k h1 h4, (Apart.refl _ _).alloc _⟩
set_option maxHeartbeats 8000000 in
set_option maxRecDepth 100000 in
theorem lattice_walk {w : World} {sa sb sc : Sl} {xa bs cs : List Nat} (x : Int) (hx : -9223372036854775808 ≤ x ∧ x ≤ 9223372036854775807) (ha : Gv w sa xa) (hb : Gv w sb bs) (hc : Gv w sc cs) : Calls Try.prog 5 #[.int .i64 x, .slice sa.p sa.n sa.c, .slice sb.p sb.n sb.c, .slice sc.p sc.n sc.c] w fun r w' => r = .returned (.bool true) ∧ Apart [] w w' := by
  have HGa := hid ha
  have HGb := hid hb
  have HGc := hid hc
  obtain ⟨k, Hk⟩ : ∃ k, Hid (k = wth x 4 + 1) := ⟨_, hid rfl⟩
  have H14 : Hid (1 ≤ k ∧ k ≤ 4) := hid (by have := wth_lt x (n := 4) (by omega); have := Hk.out; omega)
  have HKa := hid (Gk.val H14.out.1 H14.out.2 ha.u8)
  have HKb := hid (Gk.val H14.out.1 H14.out.2 hb.u8)
  have HKc := hid (Gk.val H14.out.1 H14.out.2 hc.u8)
  have HKn := hid (Gk.new H14.out.1 H14.out.2)
  have HCw := hid (within_law x 4 (by omega) (by omega) hx w)
  have HCt := hid (fun wx => able_ok wx)
  have HCn := hid (fun wx => new_v wx k H14.out.1 H14.out.2)
  have HCa := hid (fun wx (a : Apart [] w wx) => value_ok k H14.out.1 H14.out.2 (HGa.out.kept0 a))
  have HCb := hid (fun wx (a : Apart [] w wx) => value_ok k H14.out.1 H14.out.2 (HGb.out.kept0 a))
  have HCc := hid (fun wx (a : Apart [] w wx) => value_ok k H14.out.1 H14.out.2 (HGc.out.kept0 a))
  have HMab := hid (fun wx (a : Apart [] w wx) => merged_ok k H14.out.1 H14.out.2 (HGa.out.kept0 a) (HGb.out.kept0 a) (Gv.nil wx))
  have HMba := hid (fun wx (a : Apart [] w wx) => merged_ok k H14.out.1 H14.out.2 (HGb.out.kept0 a) (HGa.out.kept0 a) (Gv.nil wx))
  have HMabc := hid (fun wx (a : Apart [] w wx) => merged_ok k H14.out.1 H14.out.2 (HGa.out.kept0 a) (HGb.out.kept0 a) (HGc.out.kept0 a))
  have HMbca := hid (fun wx (a : Apart [] w wx) => merged_ok k H14.out.1 H14.out.2 (HGb.out.kept0 a) (HGc.out.kept0 a) (HGa.out.kept0 a))
  have HMcba := hid (fun wx (a : Apart [] w wx) => merged_ok k H14.out.1 H14.out.2 (HGc.out.kept0 a) (HGb.out.kept0 a) (HGa.out.kept0 a))
  rw [valV_nil] at HMab HMba
  obtain ⟨va, Hva⟩ : ∃ v, Hid (v = valV k xa) := ⟨_, hid rfl⟩
  obtain ⟨vb, Hvb⟩ : ∃ v, Hid (v = valV k bs) := ⟨_, hid rfl⟩
  obtain ⟨vc, Hvc⟩ : ∃ v, Hid (v = valV k cs) := ⟨_, hid rfl⟩
  obtain ⟨n0, Hn0⟩ : ∃ v, Hid (v = new0 k) := ⟨_, hid rfl⟩
  rw [← Hva.out] at HKa HCa HMab HMba HMabc HMbca HMcba
  rw [← Hvb.out] at HKb HCb HMab HMba HMabc HMbca HMcba
  rw [← Hvc.out] at HKc HCc HMabc HMbca HMcba
  rw [← Hn0.out] at HKn HCn HMab HMba
  obtain ⟨ab, Hab⟩ : ∃ v, Hid (v = mgV va vb) := ⟨_, hid rfl⟩
  obtain ⟨bc, Hbc⟩ : ∃ v, Hid (v = mgV vb vc) := ⟨_, hid rfl⟩
  obtain ⟨abc, Habc⟩ : ∃ v, Hid (v = mgV ab vc) := ⟨_, hid rfl⟩
  have HKab : Hid (Gk k 64 ab) := hid (by rw [Hab.out]; exact HKa.out.mg HKb.out)
  have HKbc : Hid (Gk k 64 bc) := hid (by rw [Hbc.out]; exact HKb.out.mg HKc.out)
  have HKabc : Hid (Gk k 96 abc) := hid (by rw [Habc.out]; exact HKab.out.mg HKc.out)
  have eab : va.kd = vb.kd := HKa.out.kd.trans HKb.out.kd.symm
  have ebc : vb.kd = vc.kd := HKb.out.kd.trans HKc.out.kd.symm
  have hn : ∀ {v : Vl} {n : Nat}, Gk k n v → mgV v n0 = v := fun {v n} h => by rw [Hn0.out, ← h.kd]; exact mgV_new h.gd
  have hba : mgV vb va = ab := by rw [Hab.out]; exact mgV_comm HKb.out.gd HKa.out.gd eab.symm
  have habc2 : mgV va bc = abc := by rw [Hbc.out, Habc.out, Hab.out]; exact (mgV_assoc HKa.out.gd HKb.out.gd HKc.out.gd eab ebc).symm
  have hbca : mgV bc va = abc := by rw [← habc2]; exact mgV_comm HKbc.out.gd HKa.out.gd (HKbc.out.kd.trans HKa.out.kd.symm)
  have hcb : mgV vc vb = bc := by rw [Hbc.out]; exact mgV_comm HKc.out.gd HKb.out.gd ebc.symm
  have habcb : mgV abc vb = abc := by
    have e1 : mgV vb abc = abc := by
      have e2 : mgV vb ab = ab := by
        rw [← hba, ← mgV_assoc HKb.out.gd HKb.out.gd HKa.out.gd rfl eab.symm, mgV_idem HKb.out.gd]
      rw [Habc.out, ← mgV_assoc HKb.out.gd HKab.out.gd HKc.out.gd (HKb.out.kd.trans HKab.out.kd.symm) (HKab.out.kd.trans HKc.out.kd.symm), e2]
    rw [mgV_comm HKabc.out.gd HKb.out.gd (HKabc.out.kd.trans HKb.out.kd.symm), e1]
  have HQ := hid (And.intro (hn HKa.out) (And.intro (mgV_idem HKa.out.gd) (And.intro habc2 (And.intro habcb (mgV_idem HKabc.out.gd)))))
  rw [← Hab.out, hn HKab.out] at HMab
  rw [hba, hn HKab.out] at HMba
  rw [← Hab.out, ← Habc.out] at HMabc
  rw [← Hbc.out, hbca] at HMbca
  rw [hcb, hbca] at HMcba
  have HV := hid (Vs.nil (Apart.refl [] w))
  clear hx ha hb hc eab ebc hn hba habc2 hbca hcb habcb
  have Tok1 : True := trivial
  have Tok2 : True := trivial
  have Tok3 : True := trivial
  have Tok4 : True := trivial
  have Tok5 : True := trivial
  have Tok6 : True := trivial
  have Tok7 : True := trivial
  have Tok8 : True := trivial
  have Tok9 : True := trivial
  have Tok10 : True := trivial
  have Tok11 : True := trivial
  have Tok12 : True := trivial
  have Tok13 : True := trivial
  have Tok14 : True := trivial
  have Tok15 : True := trivial
  have Tok16 : True := trivial
  have Tok17 : True := trivial
  have Tok18 : True := trivial
  have Tok19 : True := trivial
  have Tok20 : True := trivial
  have Tok21 : True := trivial
  have Tok22 : True := trivial
  have Tok23 : True := trivial
  have Tok24 : True := trivial
  have Tok25 : True := trivial
  have Tok26 : True := trivial
  have Tok27 : True := trivial
  have Tok28 : True := trivial
  have Tok29 : True := trivial
  have Tok30 : True := trivial
  have Tok31 : True := trivial
  have Tok32 : True := trivial
  have Tok33 : True := trivial
  have Tok34 : True := trivial
  have hw4 : wth x 4 < 4 := wth_lt x (by omega)
  go_enter Try.func5, Try.ntmps5
  go_upto_region 2 with (go_at_call 25; refine HCw.out.mono ?_; rintro _ wn ⟨rfl, hwn⟩; rw [hwn]; clear hwn)
  have hke : (1 : Int) + ((wth x 4 : Nat) : Int) = ((k : Nat) : Int) := by have := Hk.out; omega
  rw [hke]
  clear hke HCw hw4
  go_upto_region 4 with (go_at_call 7; refine (HCt.out _).mono ?_; rintro _ w1 ⟨rfl, a1⟩; replace HV := hid (HV.out.kept0 a1); clear a1)
  go_wp2_with (first
      | (clear Tok1; go_at_call 12; refine (HCa.out _ HV.out.ap).mono ?_; rintro _ w2 ⟨V2, rfl, g2, o2, a2⟩; replace HV := hid (HV.out.add g2 o2 a2); clear g2 o2 a2)
      | (clear Tok2; go_at_call 12; refine (HCb.out _ HV.out.ap).mono ?_; rintro _ w3 ⟨V3, rfl, g3, o3, a3⟩; replace HV := hid (HV.out.add g3 o3 a3); clear g3 o3 a3)
      | (clear Tok3; go_at_call 12; refine (HCc.out _ HV.out.ap).mono ?_; rintro _ w4 ⟨V4, rfl, g4, o4, a4⟩; replace HV := hid (HV.out.add g4 o4 a4); clear g4 o4 a4)
      | (clear Tok4; go_at_call 26; refine (HMab.out _ HV.out.ap).mono ?_; rintro _ w5 ⟨V5, rfl, g5, o5, a5⟩; replace HV := hid (HV.out.add g5 o5 a5); clear g5 o5 a5)
      | (clear Tok5; go_at_call 26; refine (HMba.out _ HV.out.ap).mono ?_; rintro _ w6 ⟨V6, rfl, g6, o6, a6⟩; replace HV := hid (HV.out.add g6 o6 a6); clear g6 o6 a6)
      | (clear Tok6; go_at_call 11; refine (same_any (HV.out.get 1 rfl) (HV.out.get 0 rfl) HKab.out.ok HKab.out.okF).mono ?_; rintro _ w7 ⟨rfl, a7⟩; replace HV := hid (HV.out.kept0 a7); clear a7)
      | (clear Tok7; go_at_call 26; refine (HMabc.out _ HV.out.ap).mono ?_; rintro _ w8 ⟨V8, rfl, g8, o8, a8⟩; replace HV := hid (HV.out.add g8 o8 a8); clear g8 o8 a8)
      | (clear Tok8; go_at_call 26; refine (HMbca.out _ HV.out.ap).mono ?_; rintro _ w9 ⟨V9, rfl, g9, o9, a9⟩; replace HV := hid (HV.out.add g9 o9 a9); clear g9 o9 a9)
      | (clear Tok9; go_at_call 11; refine (same_any (HV.out.get 1 rfl) (HV.out.get 0 rfl) HKabc.out.ok HKabc.out.okF).mono ?_; rintro _ w10 ⟨rfl, a10⟩; replace HV := hid (HV.out.kept0 a10); clear a10)
      | (clear Tok10; go_at_call 26; refine (HMabc.out _ HV.out.ap).mono ?_; rintro _ w11 ⟨V11, rfl, g11, o11, a11⟩; replace HV := hid (HV.out.add g11 o11 a11); clear g11 o11 a11)
      | (clear Tok11; go_at_call 26; refine (HMcba.out _ HV.out.ap).mono ?_; rintro _ w12 ⟨V12, rfl, g12, o12, a12⟩; replace HV := hid (HV.out.add g12 o12 a12); clear g12 o12 a12)
      | (clear Tok12; go_at_call 11; refine (same_any (HV.out.get 1 rfl) (HV.out.get 0 rfl) HKabc.out.ok HKabc.out.okF).mono ?_; rintro _ w13 ⟨rfl, a13⟩; replace HV := hid (HV.out.kept0 a13); clear a13)
      | (clear Tok13; go_at_call 12; refine (HCa.out _ HV.out.ap).mono ?_; rintro _ w14 ⟨V14, rfl, g14, o14, a14⟩; replace HV := hid (HV.out.add g14 o14 a14); clear g14 o14 a14)
      | (clear Tok14; go_at_call 12; refine (HCa.out _ HV.out.ap).mono ?_; rintro _ w15 ⟨V15, rfl, g15, o15, a15⟩; replace HV := hid (HV.out.add g15 o15 a15); clear g15 o15 a15)
      | (clear Tok15; go_at_call 12; refine (HCb.out _ HV.out.ap).mono ?_; rintro _ w16 ⟨V16, rfl, g16, o16, a16⟩; replace HV := hid (HV.out.add g16 o16 a16); clear g16 o16 a16)
      | (clear Tok16; go_at_call 9; refine (HCn.out _).mono ?_; rintro _ w17 ⟨V17, rfl, g17, o17, a17⟩; replace HV := hid (HV.out.add g17 o17 a17); clear g17 o17 a17)
      | (clear Tok17; go_at_call 14; refine (Merge_u (HV.out.get 3 rfl) (HV.out.get 0 rfl) HKa.out.ok HKn.out.ok (HKa.out.kd.trans HKn.out.kd.symm) HQ.out.1).mono ?_; rintro _ w18 ⟨rfl, o18, a18⟩; replace HV := hid (show Vs w w18 [(V17, n0), (V16, vb), (V15, va), (V14, va), (V12, abc), (V11, abc), (V9, abc), (V8, abc), (V6, ab), (V5, ab), (V4, vc), (V3, vb), (V2, va)] from HV.out.upd 3 rfl a18 o18); clear o18 a18)
      | (clear Tok18; go_at_call 14; refine (Merge_u (HV.out.get 3 rfl) (HV.out.get 3 rfl) HKa.out.ok HKa.out.ok (HKa.out.kd.trans HKa.out.kd.symm) HQ.out.2.1).mono ?_; rintro _ w19 ⟨rfl, o19, a19⟩; replace HV := hid (show Vs w w19 [(V17, n0), (V16, vb), (V15, va), (V14, va), (V12, abc), (V11, abc), (V9, abc), (V8, abc), (V6, ab), (V5, ab), (V4, vc), (V3, vb), (V2, va)] from HV.out.upd 3 rfl a19 o19); clear o19 a19)
      | (clear Tok19; go_at_call 14; refine (Merge_u (HV.out.get 3 rfl) (HV.out.get 2 rfl) HKa.out.ok HKa.out.ok (HKa.out.kd.trans HKa.out.kd.symm) HQ.out.2.1).mono ?_; rintro _ w20 ⟨rfl, o20, a20⟩; replace HV := hid (show Vs w w20 [(V17, n0), (V16, vb), (V15, va), (V14, va), (V12, abc), (V11, abc), (V9, abc), (V8, abc), (V6, ab), (V5, ab), (V4, vc), (V3, vb), (V2, va)] from HV.out.upd 3 rfl a20 o20); clear o20 a20)
      | (clear Tok20; go_at_call 12; refine (HCa.out _ HV.out.ap).mono ?_; rintro _ w21 ⟨V21, rfl, g21, o21, a21⟩; replace HV := hid (HV.out.add g21 o21 a21); clear g21 o21 a21)
      | (clear Tok21; go_at_call 11; refine (same_any (HV.out.get 4 rfl) (HV.out.get 0 rfl) HKa.out.ok HKa.out.okF).mono ?_; rintro _ w22 ⟨rfl, a22⟩; replace HV := hid (HV.out.kept0 a22); clear a22)
      | (clear Tok22; go_at_call 14; refine (Merge_u (HV.out.get 4 rfl) (HV.out.get 2 rfl) HKa.out.ok HKb.out.ok (HKa.out.kd.trans HKb.out.kd.symm) Hab.out.symm).mono ?_; rintro _ w23 ⟨rfl, o23, a23⟩; replace HV := hid (show Vs w w23 [(V21, va), (V17, n0), (V16, vb), (V15, va), (V14, ab), (V12, abc), (V11, abc), (V9, abc), (V8, abc), (V6, ab), (V5, ab), (V4, vc), (V3, vb), (V2, va)] from HV.out.upd 4 rfl a23 o23); clear o23 a23)
      | (clear Tok23; go_at_call 12; refine (HCb.out _ HV.out.ap).mono ?_; rintro _ w24 ⟨V24, rfl, g24, o24, a24⟩; replace HV := hid (HV.out.add g24 o24 a24); clear g24 o24 a24)
      | (clear Tok24; go_at_call 11; refine (same_any (HV.out.get 3 rfl) (HV.out.get 0 rfl) HKb.out.ok HKb.out.okF).mono ?_; rintro _ w25 ⟨rfl, a25⟩; replace HV := hid (HV.out.kept0 a25); clear a25)
      | (clear Tok25; go_at_call 12; refine (HCb.out _ HV.out.ap).mono ?_; rintro _ w26 ⟨V26, rfl, g26, o26, a26⟩; replace HV := hid (HV.out.add g26 o26 a26); clear g26 o26 a26)
      | (clear Tok26; go_at_call 12; refine (HCc.out _ HV.out.ap).mono ?_; rintro _ w27 ⟨V27, rfl, g27, o27, a27⟩; replace HV := hid (HV.out.add g27 o27 a27); clear g27 o27 a27)
      | (clear Tok27; go_at_call 14; refine (Merge_u (HV.out.get 1 rfl) (HV.out.get 0 rfl) HKb.out.ok HKc.out.ok (HKb.out.kd.trans HKc.out.kd.symm) Hbc.out.symm).mono ?_; rintro _ w28 ⟨rfl, o28, a28⟩; replace HV := hid (show Vs w w28 [(V27, vc), (V26, bc), (V24, vb), (V21, va), (V17, n0), (V16, vb), (V15, va), (V14, ab), (V12, abc), (V11, abc), (V9, abc), (V8, abc), (V6, ab), (V5, ab), (V4, vc), (V3, vb), (V2, va)] from HV.out.upd 1 rfl a28 o28); clear o28 a28)
      | (clear Tok28; go_at_call 14; refine (Merge_u (HV.out.get 6 rfl) (HV.out.get 1 rfl) HKa.out.ok HKbc.out.ok (HKa.out.kd.trans HKbc.out.kd.symm) HQ.out.2.2.1).mono ?_; rintro _ w29 ⟨rfl, o29, a29⟩; replace HV := hid (show Vs w w29 [(V27, vc), (V26, bc), (V24, vb), (V21, va), (V17, n0), (V16, vb), (V15, abc), (V14, ab), (V12, abc), (V11, abc), (V9, abc), (V8, abc), (V6, ab), (V5, ab), (V4, vc), (V3, vb), (V2, va)] from HV.out.upd 6 rfl a29 o29); clear o29 a29)
      | (clear Tok29; go_at_call 12; refine (HCc.out _ HV.out.ap).mono ?_; rintro _ w30 ⟨V30, rfl, g30, o30, a30⟩; replace HV := hid (HV.out.add g30 o30 a30); clear g30 o30 a30)
      | (clear Tok30; go_at_call 14; refine (Merge_u (HV.out.get 8 rfl) (HV.out.get 0 rfl) HKab.out.ok HKc.out.ok (HKab.out.kd.trans HKc.out.kd.symm) Habc.out.symm).mono ?_; rintro _ w31 ⟨rfl, o31, a31⟩; replace HV := hid (show Vs w w31 [(V30, vc), (V27, vc), (V26, bc), (V24, vb), (V21, va), (V17, n0), (V16, vb), (V15, abc), (V14, abc), (V12, abc), (V11, abc), (V9, abc), (V8, abc), (V6, ab), (V5, ab), (V4, vc), (V3, vb), (V2, va)] from HV.out.upd 8 rfl a31 o31); clear o31 a31)
      | (clear Tok31; go_at_call 11; refine (same_any (HV.out.get 8 rfl) (HV.out.get 7 rfl) HKabc.out.ok HKabc.out.okF).mono ?_; rintro _ w32 ⟨rfl, a32⟩; replace HV := hid (HV.out.kept0 a32); clear a32)
      | (clear Tok32; go_at_call 14; refine (Merge_u (HV.out.get 8 rfl) (HV.out.get 6 rfl) HKabc.out.ok HKb.out.ok (HKabc.out.kd.trans HKb.out.kd.symm) HQ.out.2.2.2.1).mono ?_; rintro _ w33 ⟨rfl, o33, a33⟩; replace HV := hid (show Vs w w33 [(V30, vc), (V27, vc), (V26, bc), (V24, vb), (V21, va), (V17, n0), (V16, vb), (V15, abc), (V14, abc), (V12, abc), (V11, abc), (V9, abc), (V8, abc), (V6, ab), (V5, ab), (V4, vc), (V3, vb), (V2, va)] from HV.out.upd 8 rfl a33 o33); clear o33 a33)
      | (clear Tok33; go_at_call 14; refine (Merge_u (HV.out.get 8 rfl) (HV.out.get 7 rfl) HKabc.out.ok HKabc.out.ok (HKabc.out.kd.trans HKabc.out.kd.symm) HQ.out.2.2.2.2).mono ?_; rintro _ w34 ⟨rfl, o34, a34⟩; replace HV := hid (show Vs w w34 [(V30, vc), (V27, vc), (V26, bc), (V24, vb), (V21, va), (V17, n0), (V16, vb), (V15, abc), (V14, abc), (V12, abc), (V11, abc), (V9, abc), (V8, abc), (V6, ab), (V5, ab), (V4, vc), (V3, vb), (V2, va)] from HV.out.upd 8 rfl a34 o34); clear o34 a34)
      | (clear Tok34; go_at_call 11; refine (same_any (HV.out.get 8 rfl) (HV.out.get 7 rfl) HKabc.out.ok HKabc.out.okF).mono ?_; rintro _ w35 ⟨rfl, a35⟩; replace HV := hid (HV.out.kept0 a35); clear a35))
  go_ret
  exact ⟨rfl, HV.out.ap⟩
end Go.Proofs.Ytdbeeikjngnnnaa.ty
