import Derived.Test.YtiakcfjbnlibfaaT6
namespace Go.Proofs.Ytiakcfjbnlibfaa.nt
open Go.ChangeShapes Go.WideShapes Go.ChangeAt Go.RowKit
set_option linter.unusedVariables false
set_option linter.unusedSimpArgs false
def kO (k i j : Int) : OpC := ⟨k, 0, i, j, LM.z, Tx.z⟩
/-- alive's script -/
def alO (A1 A2 : Nat) : List OpC := [⟨1, 0, 0, 0, ⟨1, 2, ⟨some ⟨A1, 0, none⟩, 1, 1⟩⟩, ⟨1, 2, [97]⟩⟩, ⟨1, 0, 0, 0, ⟨0, 4, ⟨some ⟨A2, 0, none⟩, 1, 1⟩⟩, ⟨0, 4, [98]⟩⟩, kO 4 0 0, kO 5 2 1, kO 6 0 0, kO 9 2 0, kO 2 1 0, kO 7 1 0, kO 8 0 0]
theorem info45 : (Try.prog.info? 45).map (fun i => (i.zero, i.size, i.bytes)) = some (some (.agg #[.int .i64 0, .int .i64 0, .int .i64 0, .int .i64 0, .int .i64 0, .int .i64 0, .slice none 0 0]), 7, 72) := by kernel_rfl
theorem conv1 (W : World) (c : Int) : Sem.run Try.prog (convert 28 28 (.slice (some ⟨W.heap.size, 0, none⟩) 1 1)) (W.alloc (.cells #[.int .u8 c] 5)) = .ok (.slice (some ⟨W.heap.size, 0, none⟩) 1 1) (W.alloc (.cells #[.int .u8 c] 5 (1, 2))) :=
  Lib.run_convert_bytes_const (P := Try.prog) W 28 5 #[.int .u8 c] 1 1 Try.underlying28 Try.underlying5
theorem al_scr {wa w2 : World} {P : Nat} {p : Px} {who : Nat → Option Nat} {l : Nat → List Value} (h : PQ wa w2 P p who l) {W3 W4 W5 : World} (h3 : W3 = w2.alloc (.cells #[.int .u8 97] 5 (1, 2))) (h4 : W4 = W3.alloc (.cells #[.int .u8 98] 5 (1, 2))) (h5 : W5 = W4.alloc (.cells (flatO (alO w2.heap.size W3.heap.size)).toArray 45)) :
    Scr W5 who ⟨some ⟨W4.heap.size, 0, none⟩, 9, 9⟩ (alO w2.heap.size W3.heap.size) ∧ Apart [] w2 W5 := by
  have a3 : Apart [] w2 W3 := by rw [h3]; exact (Apart.refl [] w2).alloc _
  have a4 : Apart [] W3 W4 := by rw [h4]; exact (Apart.refl [] W3).alloc _
  have a5 : Apart [] W4 W5 := by rw [h5]; exact (Apart.refl [] W4).alloc _
  have q3 : W3.heap[w2.heap.size]? = some (.cells #[.int .u8 97] 5 (1, 2)) := by rw [h3]; exact heap_alloc_new w2 _
  have q4 : W4.heap[W3.heap.size]? = some (.cells #[.int .u8 98] 5 (1, 2)) := by rw [h4]; exact heap_alloc_new W3 _
  have q5 : W5.heap[W4.heap.size]? = some (.cells (flatO (alO w2.heap.size W3.heap.size)).toArray 45 (0, 0)) := by rw [h5]; exact heap_alloc_new W4 _
  have q3' := ((a4.trans a5).block _ (lt_of_heap q3) (by simp)).trans q3
  have q4' := (a5.block _ (lt_of_heap q4) (by simp)).trans q4
  have r1 : ReadsL W5 ⟨1, 2, ⟨some ⟨w2.heap.size, 0, none⟩, 1, 1⟩⟩ ⟨1, 2, [97]⟩ := ⟨rfl, rfl, fun _ => ⟨w2.heap.size, 0, rfl, lt_of_heap q3', fun j u hj => by
    rw [cell_of_row _ _ _ _ _ _ q3', Nat.zero_add]; simpa [byts] using hj⟩, rfl, by simp, by simp, fun e => by cases e⟩
  have r2 : ReadsL W5 ⟨0, 4, ⟨some ⟨W3.heap.size, 0, none⟩, 1, 1⟩⟩ ⟨0, 4, [98]⟩ := ⟨rfl, rfl, fun _ => ⟨W3.heap.size, 0, rfl, lt_of_heap q4', fun j u hj => by
    rw [cell_of_row _ _ _ _ _ _ q4', Nat.zero_add]; simpa [byts] using hj⟩, rfl, by simp, by simp, fun e => by cases e⟩
  have rz : ReadsL W5 LM.z Tx.z := (own_z W5).reads
  have s3 := a3.size
  have s4 := a4.size
  have f : ∀ k, w2.heap.size ≤ k → who k = none := fun k hk => h.free hk
  refine ⟨⟨⟨fun _ => ⟨W4.heap.size, 0, rfl, lt_of_heap q5, fun j u hj => ?_⟩, rfl, fun e => by (cases e), fun j hj => ?_, fun j hj => ?_⟩, fun A o _ e => ?_, fun j hj A o h0 e => ?_⟩, (a3.trans a4).trans a5⟩
  · rw [cell_of_row _ _ _ _ _ _ q5, Nat.zero_add]; simpa using hj
  · dsimp only at hj
    match j, hj with
    | 0, _ => exact r1
    | 1, _ => exact r2
    | 2, _ => exact rz
    | 3, _ => exact rz
    | 4, _ => exact rz
    | 5, _ => exact rz
    | 6, _ => exact rz
    | 7, _ => exact rz
    | 8, _ => exact rz
    | j + 9, hj => omega
  · dsimp only at hj
    match j, hj with
    | 0, _ => simp [gO, alO, kO]
    | 1, _ => simp [gO, alO, kO]
    | 2, _ => simp [gO, alO, kO]
    | 3, _ => simp [gO, alO, kO]
    | 4, _ => simp [gO, alO, kO]
    | 5, _ => simp [gO, alO, kO]
    | 6, _ => simp [gO, alO, kO]
    | 7, _ => simp [gO, alO, kO]
    | 8, _ => simp [gO, alO, kO]
    | j + 9, hj => omega
  · simp at e; exact f A (by omega)
  · dsimp only at hj
    match j, hj with
    | 0, _ => simp [gO, alO, kO] at e; exact f A (by omega)
    | 1, _ => simp [gO, alO, kO] at e; exact f A (by omega)
    | 2, _ => simp [gO, alO, kO, LM.z] at e
    | 3, _ => simp [gO, alO, kO, LM.z] at e
    | 4, _ => simp [gO, alO, kO, LM.z] at e
    | 5, _ => simp [gO, alO, kO, LM.z] at e
    | 6, _ => simp [gO, alO, kO, LM.z] at e
    | 7, _ => simp [gO, alO, kO, LM.z] at e
    | 8, _ => simp [gO, alO, kO, LM.z] at e
    | j + 9, hj => omega
set_option maxHeartbeats 8000000 in
set_option maxRecDepth 100000 in
theorem alive_ok (w : World) : Calls Try.prog 23 #[] w fun r w' => r = .returned (.bool true) ∧ Apart [] w w' := by
  go_enter Try.func23, Try.ntmps23
  go_wp2_with fail
  refine (made_good w 3 (by decide)).mono ?_
  rintro _ w2 hh
  obtain ⟨P, Bg, Rg, who, hr, hq⟩ := hh.ex
  subst hr
  clear hh
  have HQ := hid hq
  clear hq
  dsimp only
  obtain ⟨W3, h3⟩ : ∃ W3, W3 = w2.alloc (.cells #[.int .u8 97] 5 (1, 2)) := ⟨_, rfl⟩
  obtain ⟨W4, h4⟩ : ∃ W4, W4 = W3.alloc (.cells #[.int .u8 98] 5 (1, 2)) := ⟨_, rfl⟩
  obtain ⟨W5, h5⟩ : ∃ W5, W5 = W4.alloc (.cells (flatO (alO w2.heap.size W3.heap.size)).toArray 45) := ⟨_, rfl⟩
  have HS := hid (al_scr HQ.out h3 h4 h5)
  have v1 := conv1 w2 97
  have v2 := conv1 W3 98
  rw [← h3] at v1
  rw [← h4] at v2
  have e5 : W5 = W4.alloc (.cells #[.int .i64 1, .int .i64 0, .int .i64 0, .int .i64 0, .int .i64 1, .int .i64 2, .slice (some ⟨w2.heap.size, 0, none⟩) 1 1, .int .i64 1, .int .i64 0, .int .i64 0, .int .i64 0, .int .i64 0, .int .i64 4, .slice (some ⟨W3.heap.size, 0, none⟩) 1 1, .int .i64 4, .int .i64 0, .int .i64 0, .int .i64 0, .int .i64 0, .int .i64 0, .slice none 0 0, .int .i64 5, .int .i64 0, .int .i64 2, .int .i64 1, .int .i64 0, .int .i64 0, .slice none 0 0, .int .i64 6, .int .i64 0, .int .i64 0, .int .i64 0, .int .i64 0, .int .i64 0, .slice none 0 0, .int .i64 9, .int .i64 0, .int .i64 2, .int .i64 0, .int .i64 0, .int .i64 0, .slice none 0 0, .int .i64 2, .int .i64 0, .int .i64 1, .int .i64 0, .int .i64 0, .int .i64 0, .slice none 0 0, .int .i64 7, .int .i64 0, .int .i64 1, .int .i64 0, .int .i64 0, .int .i64 0, .slice none 0 0, .int .i64 8, .int .i64 0, .int .i64 0, .int .i64 0, .int .i64 0, .int .i64 0, .slice none 0 0] 45) := h5
  clear h3 h4 h5
  go_upto_region 5 with fail
  rw [← e5]
  clear e5
  have HL0 : Hid (LS w W5 W5 P who 0) := (HQ.out.kept0 HS.out.2).ls (by decide)
  have HSC := hid HS.out.1
  clear HS HQ v1 v2
  generalize alO w2.heap.size W3.heap.size = os at *
  generalize W4.heap.size = G at *
  go_wp2_with fail
  go_loopw [4] (fun v wr => ∃ k : Nat, v = .int .i64 (k : Nat) ∧ k ≤ 9 ∧ LS w W5 wr P who k) (fun v _ => 9 - (intOf v).toNat)
  case atStart => exact ⟨0, rfl, Nat.zero_le _, HL0.out⟩
  case round =>
    obtain ⟨k, rfl, hk, hL⟩ := hrel
    have HL := hid hL
    clear hL
    by_cases hlt : k < 9
    · obtain ⟨A, o, hsp, c0, c1, c2, c3, c4, c5, c6⟩ := HL.out.at HSC.out (k := k) hlt
      simp at hsp
      obtain ⟨rfl, rfl⟩ := hsp
      rw [Nat.zero_add] at c0 c1 c2 c3 c4 c5 c6
      have hpl := HL.out.play HSC.out hlt (by omega)
      unfold OpC.agg Sl.v at hpl
      have HPL := hid hpl
      clear hpl
      have hkz : ((k : Nat) : Int) < 9 := by omega
      generalize gO os k = oo at *
      go_wp2_with fail
      refine HPL.out.mono ?_
      clear HPL
      rintro _ w5 ⟨rfl, hL5⟩
      have hst := hL5.stand (by omega)
      clear hL5 HL c0 c1 c2 c3 c4 c5 c6
      dsimp only
      go_wp2_with fail
      refine hst.mono ?_
      clear hst
      rintro _ w6 ⟨rfl, hL6⟩
      have HL6 := hid hL6
      clear hL6
      dsimp only
      go_wp2_with fail
      go_roundw
      case rel => exact ⟨k + 1, by go_num, by omega, HL6.out⟩
      case measure => simp [intOf]; omega
    · obtain rfl : k = 9 := by omega
      have HA := hid HL.out.ap
      go_wp2
      go_ret
      exact ⟨rfl, HA.out⟩
end Go.Proofs.Ytiakcfjbnlibfaa.nt
namespace Go.Proofs.Ytiakcfjbnlibfaa.nt
open Go.ChangeShapes Go.WideShapes Go.ChangeAt Go.RowKit
set_option linter.unusedVariables false
set_option linter.unusedSimpArgs false
set_option maxHeartbeats 8000000 in
set_option maxRecDepth 100000 in
theorem holds_walk (hAl : ∀ W, Calls Try.prog 23 #[] W fun r w' => r = .returned (.bool true) ∧ Apart [] W w') (w : World) (sp : Option Addr) (sn sc : Nat) (os : List OpC) (hin : InO w ⟨sp, sn, sc⟩ os) (hsn : sn ≤ 1048576) (room lo hi : Int) :
    Calls Try.prog 28 #[.int .i64 room, .slice sp sn sc, .int .i64 lo, .int .i64 hi] w fun r w' => r = .returned (.bool true) ∧ Apart [] w w' := by
  have hFit := fits_ok w sp sn sc os hin hsn
  have HI := hid hin
  have HAL := hid hAl
  clear hin hAl
  go_enter Try.func28, Try.ntmps28
  go_wp2_with fail
  refine hFit.mono ?_
  clear hFit
  rintro _ w1 ⟨b, rfl, hb, a1⟩
  have HA1 := hid a1
  have HBt := hid hb
  clear a1 hb
  cases b with
  | false =>
    dsimp only
    go_wp2
    go_ret
    exact ⟨rfl, HA1.out⟩
  | true =>
    have hs2 : sn ≤ 2000 := HBt.out rfl
    clear HBt hsn
    dsimp only
    go_wp2_with fail
    refine (HAL.out w1).mono ?_
    clear HAL
    rintro _ w2 ⟨rfl, a2⟩
    have HA2 := hid (HA1.out.trans a2)
    clear a2 HA1
    dsimp only
    go_wp2_with fail
    refine (made2 w2 room).mono ?_
    rintro _ w3 hh
    have HA3 := hid (HA2.out.trans hh.ap)
    have HA23 := hid hh.ap
    rcases hh.ex with hr | ⟨P, Bg, Rg, who, hr, hq, hroom⟩
    · subst hr
      clear hh
      dsimp only
      go_wp2_with fail
      go_loopw [12] (fun v wr => v = .int .i64 0 ∧ wr = w3) (fun v _ => 0)
      case atStart => exact ⟨rfl, rfl⟩
      case round =>
        obtain ⟨rfl, rfl⟩ := hrel
        by_cases h0 : (0 : Int) < (sn : Int)
        · go_wp2
          go_ret
          exact ⟨rfl, HA3.out⟩
        · go_wp2
          go_ret
          exact ⟨rfl, HA3.out⟩
    · subst hr
      have HL0 := hid (hq.ls hroom)
      have HSC := hid (HI.out.scr HA2.out HA23.out hq.lo)
      clear hh hq hroom HI
      dsimp only
      go_wp2_with fail
      go_loopw [12] (fun v wr => ∃ k : Nat, v = .int .i64 (k : Nat) ∧ k ≤ sn ∧ LS w2 w3 wr P who k) (fun v _ => sn - (intOf v).toNat)
      case atStart => exact ⟨0, rfl, Nat.zero_le _, HL0.out⟩
      case round =>
        obtain ⟨k, rfl, hk, hL⟩ := hrel
        have HL := hid hL
        clear hL
        by_cases hlt : k < sn
        · obtain ⟨A, o, hsp, c0, c1, c2, c3, c4, c5, c6⟩ := HL.out.at HSC.out (k := k) hlt
          dsimp only at hsp
          subst hsp
          have hpl := HL.out.play HSC.out hlt (by omega)
          unfold OpC.agg Sl.v at hpl
          have HPL := hid hpl
          have HU := hid HL.out.up
          clear hpl
          have hkz : ((k : Nat) : Int) < ((sn : Nat) : Int) := by omega
          generalize gO os k = oo at *
          by_cases h5 : 5 < oo.k
          · by_cases hlo : oo.k < lo
            · go_wp2_with fail
              go_roundw
              case rel => exact ⟨k + 1, by go_num, by omega, HU.out⟩
              case measure => simp [intOf]; omega
            · by_cases hhi : hi < oo.k
              · go_wp2_with fail
                go_roundw
                case rel => exact ⟨k + 1, by go_num, by omega, HU.out⟩
                case measure => simp [intOf]; omega
              · go_wp2_with fail
                refine HPL.out.mono ?_
                clear HPL
                rintro _ w5 ⟨rfl, hL5⟩
                have hst := hL5.stand (by omega)
                clear hL5 HL HU c0 c1 c2 c3 c4 c5 c6
                dsimp only
                go_wp2_with fail
                refine hst.mono ?_
                clear hst
                rintro _ w6 ⟨rfl, hL6⟩
                have HL6 := hid hL6
                clear hL6
                dsimp only
                go_wp2_with fail
                go_roundw
                case rel => exact ⟨k + 1, by go_num, by omega, HL6.out⟩
                case measure => simp [intOf]; omega
          · go_wp2_with fail
            refine HPL.out.mono ?_
            clear HPL
            rintro _ w5 ⟨rfl, hL5⟩
            have hst := hL5.stand (by omega)
            clear hL5 HL HU c0 c1 c2 c3 c4 c5 c6
            dsimp only
            go_wp2_with fail
            refine hst.mono ?_
            clear hst
            rintro _ w6 ⟨rfl, hL6⟩
            have HL6 := hid hL6
            clear hL6
            dsimp only
            go_wp2_with fail
            go_roundw
            case rel => exact ⟨k + 1, by go_num, by omega, HL6.out⟩
            case measure => simp [intOf]; omega
        · obtain rfl : sn = k := by omega
          have hkz : ¬ ((sn : Int) < (sn : Int)) := by omega
          go_wp2_with fail
          refine (HL.out.apart (by omega)).mono ?_
          rintro _ w6 ⟨rfl, a6⟩
          have HA6 := hid (HA2.out.trans a6)
          clear a6
          dsimp only
          go_wp2
          go_ret
          exact ⟨rfl, HA6.out⟩
set_option maxHeartbeats 4000000 in
theorem letters_walk (hAl : ∀ W, Calls Try.prog 23 #[] W fun r w' => r = .returned (.bool true) ∧ Apart [] W w') (w : World) (sp : Option Addr) (sn sc : Nat) (os : List OpC) (hin : InO w ⟨sp, sn, sc⟩ os) (hsn : sn ≤ 1048576) (room : Int) :
    Calls Try.prog 7 #[.int .i64 room, .slice sp sn sc] w fun r w' => r = .returned (.bool true) ∧ Apart [] w w' := by
  have h := holds_walk hAl w sp sn sc os hin hsn room 6 7
  clear hAl hin
  go_enter Try.func7, Try.ntmps7
  go_wp2_with fail
  refine h.mono ?_
  clear h
  rintro _ w1 ⟨rfl, a1⟩
  have HA := hid a1
  clear a1
  dsimp only
  go_wp2
  go_ret
  exact ⟨rfl, HA.out⟩
set_option maxHeartbeats 4000000 in
theorem counts_walk (hAl : ∀ W, Calls Try.prog 23 #[] W fun r w' => r = .returned (.bool true) ∧ Apart [] W w') (w : World) (sp : Option Addr) (sn sc : Nat) (os : List OpC) (hin : InO w ⟨sp, sn, sc⟩ os) (hsn : sn ≤ 1048576) (room : Int) :
    Calls Try.prog 8 #[.int .i64 room, .slice sp sn sc] w fun r w' => r = .returned (.bool true) ∧ Apart [] w w' := by
  have h := holds_walk hAl w sp sn sc os hin hsn room 8 9
  clear hAl hin
  go_enter Try.func8, Try.ntmps8
  go_wp2_with fail
  refine h.mono ?_
  clear h
  rintro _ w1 ⟨rfl, a1⟩
  have HA := hid a1
  clear a1
  dsimp only
  go_wp2
  go_ret
  exact ⟨rfl, HA.out⟩
end Go.Proofs.Ytiakcfjbnlibfaa.nt
