import Derived.Test.YtdbeeikjngnnnaaT49
namespace Go.Proofs.Ytdbeeikjngnnnaa.ty
open Go.ChangeShapes Go.WideShapes Go.ChangeAt Go.RowKit
set_option linter.unusedVariables false
set_option linter.unusedSimpArgs false
/-- bytes that were handed in -/
structure Gv (w : World) (sl : Sl) (bs : List Nat) : Prop where
  rd : Rd w sl.p (byts bs)
  len : bs.length = sl.n
  ok : sl.ok
  u8 : U8 bs
  le : bs.length ≤ 2000000
theorem Gv.kept0 {w w' : World} {sl : Sl} {bs : List Nat} (h : Gv w sl bs) (a : Apart [] w w') : Gv w' sl bs := ⟨h.rd.kept0 a, h.len, h.ok, h.u8, h.le⟩
/-- a copy of them -/
theorem copyB {w : World} {sl : Sl} {bs : List Nat} (h : Gv w sl bs) : ∃ s' w', (Builtin.append_ #[22, 22] 22 #[.slice none 0 0, .slice sl.p sl.n sl.c]).run Try.prog w = .ok (.slice s'.p s'.n s'.c) w' ∧ Nw w w' 5 1 s' (byts bs) ∧ s'.n = sl.n ∧ Apart [] w w' := by
  obtain ⟨i0, hif, hz0, hz1, hz2⟩ := info_of info5
  have h1 := h.len
  have h2 := h.le
  obtain ⟨s', w', hrun, n', l'⟩ := run_appNil w 22 22 5 i0 _ 1 1 Try.underlying22 hif hz0 hz1 hz2 rfl (by decide) sl (byts bs) h.rd (by rw [byts_len]; omega) (oneB _) (by omega) (by omega) h.ok
  exact ⟨s', w', hrun, n', l', n'.ap⟩
theorem Nw.cap {w w' : World} {e size : Nat} {s : Sl} {us : List Value} (h : Nw w w' e size s us) : s.n ≤ s.c := by
  obtain ⟨_, ⟨hv, hz⟩ | ⟨g, cap, cur, hv, hbb, hr', hle, hrest⟩⟩ := h.own
  · omega
  · simp only [Sl.v, Value.slice.injEq] at hv; omega
/-- the value of the bytes, or a new one -/
def valV (k : Nat) (bs : List Nat) : Vl := if bs.length ≤ 64 ∧ rdOk k bs = true then readV k bs else new0 k
set_option maxHeartbeats 1000000 in
set_option maxRecDepth 100000 in
theorem value_ok {w : World} {sl : Sl} {bs : List Nat} (k : Nat) (h1 : 1 ≤ k) (h4 : k ≤ 4) (h : Gv w sl bs) : Calls Try.prog 12 #[.int .i64 (k : Int), .slice sl.p sl.n sl.c] w fun r w' => ∃ V, r = .returned (.pointer (some ⟨V, 0, none⟩)) ∧ w.heap.size ≤ V ∧ Ho w' V (valV k bs) ∧ Apart [] w w' := by
  obtain ⟨s1, w1, hrun, n1, l1, a1⟩ := copyB h
  have HR := hid hrun
  have HA1 := hid a1
  have hln : bs.length = s1.n := by rw [l1]; exact h.len
  obtain ⟨vv, Hvv⟩ : ∃ v, Hid (v = valV k bs) := ⟨_, hid rfl⟩
  rw [← Hvv.out]
  by_cases h64 : bs.length ≤ 64
  · have HD : Hid (Rdy k w1 s1 bs) := hid ⟨n1.rd, hln, n1.ok, n1.cap, h.u8, h64⟩
    cases hr : rdOk k bs
    · have Hv2 : Hid (vv = new0 k) := hid (by rw [Hvv.out, valV, if_neg (by rw [hr]; simp)])
      have HC := hid (Read_bad k h1 h4 HD.out hr)
      have HN := hid (fun wx => new_ok wx k h1 h4)
      have HHo := hid (fun wx => Ho.new wx k h1 h4)
      clear h n1 l1 a1 hrun hln h1 h4 hr h64
      go_enter Try.func12, Try.ntmps12
      go_wp2_with (first
        | (at_builtin; refine wpList_append3 rfl _ _ 22 rfl _ _ rfl rfl (.slice s1.p s1.n s1.c) w1 HR.out ?_)
        | (go_at_call 8; refine HC.out.mono ?_; rintro _ w2 ⟨rfl, a2⟩; have HA2 := hid a2; clear a2)
        | (go_at_call 9; refine (HN.out _).mono ?_; rintro _ _ ⟨rfl, rfl⟩))
      go_ret
      have ha := HA1.out.trans HA2.out
      exact ⟨_, rfl, ha.size, by rw [Hv2.out]; exact HHo.out _, ha.alloc _⟩
    · have Hv2 : Hid (vv = readV k bs) := hid (by rw [Hvv.out, valV, if_pos ⟨h64, hr⟩])
      have HC := hid (Read_ok k h1 h4 HD.out hr)
      rw [← Hv2.out] at HC
      clear h n1 l1 a1 hrun hln h1 h4 hr h64
      go_enter Try.func12, Try.ntmps12
      go_wp2_with (first
        | (at_builtin; refine wpList_append3 rfl _ _ 22 rfl _ _ rfl rfl (.slice s1.p s1.n s1.c) w1 HR.out ?_)
        | (go_at_call 8; refine HC.out.mono ?_; rintro _ w2 ⟨V, rfl, l2, o2, a2⟩; have HA2 := hid a2; have HO := hid o2; have HL := hid l2; clear a2 o2 l2))
      go_ret
      exact ⟨V, rfl, Nat.le_trans HA1.out.size HL.out, HO.out, HA1.out.trans HA2.out⟩
  · have Hv2 : Hid (vv = new0 k) := hid (by rw [Hvv.out, valV, if_neg (by simp [h64])])
    have HC := hid (Read_long (w := w1) k h1 h4 s1.p s1.n s1.c (by omega))
    have HN := hid (fun wx => new_ok wx k h1 h4)
    have HHo := hid (fun wx => Ho.new wx k h1 h4)
    clear h n1 l1 a1 hrun hln h1 h4 h64
    go_enter Try.func12, Try.ntmps12
    go_wp2_with (first
      | (at_builtin; refine wpList_append3 rfl _ _ 22 rfl _ _ rfl rfl (.slice s1.p s1.n s1.c) w1 HR.out ?_)
      | (go_at_call 8; refine HC.out.mono ?_; rintro _ _ ⟨rfl, rfl⟩)
      | (go_at_call 9; refine (HN.out _).mono ?_; rintro _ _ ⟨rfl, rfl⟩))
    go_ret
    exact ⟨_, rfl, HA1.out.size, by rw [Hv2.out]; exact HHo.out _, HA1.out.alloc _⟩
end Go.Proofs.Ytdbeeikjngnnnaa.ty
