import Derived.Test.YthmloakkefiicaaAnsw
namespace Go.Proofs.Ythmloakkefiicaa.dk
open Go.ChangeShapes Go.WideShapes Go.ChangeAt Go.RowKit
set_option linter.unusedVariables false
set_option linter.unusedSimpArgs false
theorem trace_len (d : Dk) : d.trace.length = min d.writes 64 := by simp [Dk.trace, Dk.kept]
theorem trace_any {w : World} {D S : Nat} {d : Dk} (h : DiskAt w D S d) :
    Calls Try.prog 24 #[.pointer (some ⟨D, 0, none⟩)] w fun r w' => ∃ g l, l = d.trace.length ∧ r = .returned (.slice (some ⟨g, 0, none⟩) l l) ∧ LentI w' g l l d.trace ∧ w.heap.size ≤ g ∧ Apart [] w w' := by
  have hlen := trace_len d
  have fin : ∀ (w' : World) (g l : Nat), l = d.trace.length → w'.heap[g]? = some (.cells (i64s d.trace).toArray 3 (0, 0)) → LentI w' g l l d.trace := by
    intro w' g l hl hg
    refine ⟨⟨_, hg, by simp [i64s, hl]⟩, fun j hj => ?_, hl.symm, Nat.le_refl _⟩
    rw [cell_of_row _ _ _ _ _ _ hg]
    simp [i64s, show j < d.trace.length by omega]
  by_cases hc : d.writes ≤ 64
  · refine (trace_short h d.writes rfl hc).mono ?_
    rintro r w' ⟨g, rfl, hg, hge, a⟩
    exact ⟨g, d.writes, by omega, rfl, fin w' g _ (by omega) hg, hge, a⟩
  · refine (trace_long h (d.writes - 64) (by omega) (by omega)).mono ?_
    rintro r w' ⟨g, rfl, hg, hge, a⟩
    exact ⟨g, 64, by omega, rfl, fin w' g _ (by omega) hg, hge, a⟩
theorem rtrace_sl {w : World} {R : Nat} {r : Rf} (h : RefAt w R r) (hlog : r.log.length ≤ 1000000) :
    Calls Try.prog 59 #[.pointer (some ⟨R, 0, none⟩)] w fun e w' => ∃ p c, e = .returned (.slice p r.trace.length c) ∧ (∀ j, j < r.trace.length → ∃ g, p = some ⟨g, 0, none⟩ ∧ g < w'.heap.size ∧ w'.cell? ⟨g, j, none⟩ = some (.int .i64 (r.trace.getD j 0))) ∧ Apart [] w w' := by
  refine (rtrace_any h hlog).mono ?_
  rintro e w' ⟨v, rfl, hown, a⟩
  obtain ⟨p, c, rfl⟩ := own_shape hown
  refine ⟨p, c, rfl, fun j hj => ?_, a⟩
  have h0 := hown
  obtain ⟨_, ⟨hx, hz⟩ | ⟨g, cap, cur, hv, _, hr, _⟩⟩ := hown
  · omega
  · simp at hv
    obtain ⟨rfl, rfl⟩ := hv
    refine ⟨g, rfl, lt_of_heap hr, ?_⟩
    rw [h0.cellAt j (by omega)]
    simp [i64s, hj]
theorem keepI_pr {w : World} {P : Nat} {x : Pd} {who : Nat → Option Nat} (h : Pr w P x who) {K : Nat} (hK : Bk x K) (hK9 : K ≤ 1000) {g l : Nat} {bs : List Int} (hA : LentI w g l l bs) (hfr : who g = none) (hl : l ≤ 64) :
    Calls Try.prog 61 #[.pointer (some ⟨P, 2, none⟩), .slice (some ⟨g, 0, none⟩) l l] w fun r w' => r = .returned (.tuple #[]) ∧ St w w' P who (K + 1) (some g) := by
  have hm := hK.mark
  have hAI : AnsI w (some ⟨g, 0, none⟩) l l bs (some g) := ⟨rfl, hA⟩
  refine (keepInts_any w P x.row h.prow _ l l bs (some g) hAI (by omega) x.mark (by omega) (x.v 4) (x.v 5) _ _ _ _ (h.sl 4 (by decide)).at' (h.sl 5 (by decide)).at' rfl rfl rfl (by have := h.bd.ai4; simpa [Pd.c] using this) (by simp [Pd.c, h.bd.ms]) (fun k hk hm => by
    cases hk
    have : x.G 5 = some g := by simpa using hm
    rw [(h.sl 5 (by decide)).tg g this] at hfr; cases hfr)).mono ?_
  intro r w' kp
  exact h.keepI (fun k hk => by cases hk; exact hfr) (fun k hk => hAI.lt' hk) (by omega) kp K hK
theorem leaveI_pr {w : World} {P : Nat} {x : Pd} {who : Nat → Option Nat} (h : Pr w P x who) {K : Nat} (hK : Bk x K) {g l : Nat} {bs : List Int} (hA : LentI w g l l bs) (hfr : who g = none) (hl : l ≤ 64) :
    Calls Try.prog 60 #[.pointer (some ⟨P, 2, none⟩), .slice (some ⟨g, 0, none⟩) l l] w fun r w' => (r = .returned (.bool false) ∧ w' = w) ∨ (r = .returned (.bool true) ∧ St w w' P who K (some g)) := by
  obtain ⟨lp9, lc9, hv9⟩ := (h.sl 9 (by decide)).at'.shape
  have hl9 : (x.c 9).length = x.nu.length := by simp [Pd.c]
  have hl10 : (x.c 10).length = x.nu.length := by simp [Pd.c, h.bd.wo]
  have hAI : AnsI w (some ⟨g, 0, none⟩) l l bs (some g) := ⟨rfl, hA⟩
  by_cases hc : 100 ≤ x.nu.length
  · refine (leaveInts_no w P x.row h.prow _ l l x.nu.length lp9 lc9 (by rw [← hl9, ← hv9]; rfl) hc).mono ?_
    rintro r w' ⟨rfl, rfl⟩
    exact .inl ⟨rfl, rfl⟩
  · refine (leaveInts_yes w P x.row h.prow g l l bs hA (by omega) (x.v 9) (x.v 10) _ _ (x.G 9) (x.G 10) (h.sl 9 (by decide)).at' (h.sl 10 (by decide)).at' (fun k h1 h2 => by
      have e1 := (h.sl 9 (by decide)).tg k h1
      have e2 := (h.sl 10 (by decide)).tg k h2
      rw [e1] at e2; simp at e2) rfl rfl (by rw [hl9]; omega) (by rw [hl10]; omega)).mono ?_
    intro r w' lp
    exact .inr (h.leftI hAI (fun k hk => by cases hk; exact hfr) (by omega) (by omega) lp K hK)
theorem Pr.c0 {w : World} {P : Nat} {x : Pd} {who : Nat → Option Nat} (h : Pr w P x who) : w.cell? ⟨P, 0, none⟩ = some (.pointer (some ⟨x.D, 0, none⟩)) := by rw [cell_of_row _ _ _ _ _ _ h.row]; rfl
theorem Pr.c1 {w : World} {P : Nat} {x : Pd} {who : Nat → Option Nat} (h : Pr w P x who) : w.cell? ⟨P, 1, none⟩ = some (.pointer (some ⟨x.R, 0, none⟩)) := by rw [cell_of_row _ _ _ _ _ _ h.row]; rfl
theorem St.new {w0 w w' : World} {P : Nat} {who : Nat → Option Nat} {K g : Nat} (a : Apart [] w0 w) (hg : w0.heap.size ≤ g) (h : St w w' P who K (some g)) : St w0 w' P who K none := by
  obtain ⟨⟨x', who', h1, h2, h3⟩, h4⟩ := h
  refine ⟨⟨x', who', h1, h2, fun k s hk => ?_⟩, (a.fr (K := fun k => who k = none ∧ none ≠ some k)).trans h4 (fun i hi hh => ⟨hh.1, fun e => by cases e; omega⟩)⟩
  rcases h3 k s hk with h5 | h5 | h5
  · exact .inl h5
  · cases h5; exact .inr (.inr hg)
  · exact .inr (.inr (Nat.le_trans a.size h5))
theorem St.up {w w' : World} {P : Nat} {who : Nat → Option Nat} {K L : Nat} {b : Option Nat} (h : St w w' P who K b) (hl : K ≤ L) : St w w' P who L b := by
  obtain ⟨⟨x', who', h1, h2, h3⟩, h4⟩ := h
  exact ⟨⟨x', who', h1, h2.up hl, h3⟩, h4⟩
set_option maxHeartbeats 4000000 in
theorem traces_ok {w : World} {P : Nat} {x : Pd} {who : Nat → Option Nat} (h : Pr w P x who) {K : Nat} (hK : Bk x K) (hK9 : K ≤ 900) :
    Calls Try.prog 54 #[.pointer (some ⟨P, 0, none⟩)] w fun r w' => r = .returned (.bool true) ∧ St w w' P who (K + 2) none := by
  have HP : Hid (Pr w P x who) := h
  have HK : Hid (Bk x K) := hK
  have e0 := h.c0
  have e1 := h.c1
  have hd := h.dp.at'
  have hwr := hK.wr
  have hrel := h.bd.rel
  have HREL : Hid (Rel x.d x.r) := hrel
  have htr : Hid (x.d.trace = x.r.trace) := hrel.trace
  have hlog : x.r.log.length ≤ 1000000 := by rw [← hrel.wr]; omega
  have hl64 : Hid (x.d.trace.length ≤ 64) := by unfold Hid; rw [trace_len]; omega
  obtain ⟨tr, Htr⟩ : ∃ tr, Hid (tr = x.d.trace) := ⟨_, rfl⟩
  clear hK hwr hrel h
  go_enter Try.func54, Try.ntmps54
  go_wp2_with fail
  refine (trace_any hd).mono ?_
  rintro r w1 ⟨g, l, hl, rfl, hL, hge, a1⟩
  dsimp only
  have HL : Hid (LentI w1 g l l x.d.trace) := hL
  have Hl : Hid (l = x.d.trace.length) := hl
  have HP1 : Hid (Pr w1 P x who) := HP.out.kept0 a1
  have e1' := HP1.out.c1
  have hr := HP1.out.rp.at'
  clear hL hl hd e0 e1
  go_wp2_with fail
  refine (rtrace_sl hr hlog).mono ?_
  rintro r w2 ⟨p, c, rfl, hc, a2⟩
  dsimp only
  rw [← htr.out, ← Hl.out] at hc
  rw [← htr.out, ← Hl.out]
  have HC : Hid (∀ j, j < l → ∃ g, p = some ⟨g, 0, none⟩ ∧ g < w2.heap.size ∧ w2.cell? ⟨g, j, none⟩ = some (.int .i64 (x.d.trace.getD j 0))) := hc
  have HL2 : Hid (LentI w2 g l l x.d.trace) := HL.out.kept a2 (by simp)
  have HP2 : Hid (Pr w2 P x who) := HP1.out.kept0 a2
  have A2 : Hid (Apart [] w w2) := a1.trans a2
  have hl6 : l ≤ 64 := by have := hl64.out; have := Hl.out; omega
  have hwg : Hid (who g = none) := by
    unfold Hid
    cases hw : who g with
    | none => rfl
    | some s => have := HP.out.own g s hw; omega
  clear hc hr e1' HP1 HL
  go_wp2_with fail
  go_loopw [5] (fun i wr => ∃ k : Nat, k ≤ l ∧ i = .int .i64 k ∧ Apart [] w2 wr) (fun i _ => l - (intOf i).toNat)
  case atStart => exact ⟨0, Nat.zero_le _, rfl, Apart.refl _ _⟩
  case round =>
    obtain ⟨k, hk, rfl, aR⟩ := hrel
    by_cases hlt : k < l
    · obtain ⟨g2, rfl, hg2, ec⟩ := HC.out k hlt
      replace ec := (aR.cell (p := ⟨g2, k, none⟩) hg2 (by simp)).trans ec
      have ec1 := (HL2.out.kept aR (by simp)).cells k hlt
      obtain ⟨z, Hz⟩ : ∃ z, Hid (z = x.d.trace.getD k 0) := ⟨_, rfl⟩
      rw [← Hz.out] at ec ec1
      go_wp2_with fail
      go_region
      go_wp2_with fail
      go_roundw
      case rel => exact ⟨k + 1, by omega, by go_num, aR.drewN _⟩
      case measure => simp [intOf]; omega
    · replace HP2 : Hid (Pr wr P x who) := HP2.out.kept0 aR
      replace HL2 : Hid (LentI wr g l l x.d.trace) := HL2.out.kept aR (by simp)
      replace A2 : Hid (Apart [] w wr) := A2.out.trans aR
      clear HC aR
      have e13 := HP2.out.n13
      have f13 := HP2.out.fz 13
      have hn := HK.out.n
      obtain ⟨n, Hn⟩ : ∃ n : Nat, Hid (n = x.n) := ⟨_, rfl⟩
      have hn9 : n ≤ 900 := by rw [Hn.out]; omega
      rw [← Hn.out] at e13
      obtain ⟨h1, a3⟩ := HP2.out.setN (n + 1)
      have hK1 : Bk { x with n := n + 1 } (K + 1) := ⟨Nat.le_succ_of_le HK.out.mark, by show n + 1 ≤ K + 1; rw [Hn.out]; omega, Nat.le_succ_of_le HK.out.wr⟩
      obtain ⟨y, Hy⟩ : ∃ y : Pd, Hid (y = { x with n := n + 1 }) := ⟨_, rfl⟩
      have HK1 : Hid (Bk y (K + 1)) := by rw [Hy.out]; exact hK1
      have HP3 : Hid (Pr (wr.setCell ⟨P, 13, none⟩ (.int .i64 ((n : Int) + 1))) P y who) := by rw [Hy.out]; exact h1
      have HL3 : Hid (LentI (wr.setCell ⟨P, 13, none⟩ (.int .i64 ((n : Int) + 1))) g l l x.d.trace) := HL2.out.kept a3 (by
        simp; intro e; have := hwg.out; rw [e, HP.out.wP] at this; cases this)
      have F3 : Hid (Fr (fun k => who k = none) wr (wr.setCell ⟨P, 13, none⟩ (.int .i64 ((n : Int) + 1)))) := Fr.ofP HP2.out a3
      clear hn h1 a3 hK1 Hy
      go_wp2_with fail
      · generalize wr.setCell ⟨P, 13, none⟩ (.int .i64 ((n : Int) + 1)) = W1 at *
        refine (keepI_pr HP3.out HK1.out (by omega) HL3.out hwg.out hl6).mono ?_
        rintro r w3 ⟨rfl, s3⟩
        have S3 : Hid (St w w3 P who (K + 2) none) := St.new A2.out hge (St.of F3.out s3)
        clear s3
        dsimp only
        go_wp2_with fail
        go_ret
        exact ⟨rfl, S3.out⟩
      · generalize wr.setCell ⟨P, 13, none⟩ (.int .i64 ((n : Int) + 1)) = W1 at *
        refine (leaveI_pr HP3.out HK1.out HL3.out hwg.out hl6).mono ?_
        rintro r w3 (⟨rfl, rfl⟩ | ⟨rfl, s3⟩)
        · dsimp only
          go_wp2_with fail
          refine (keepI_pr HP3.out HK1.out (by omega) HL3.out hwg.out hl6).mono ?_
          rintro r w4 ⟨rfl, s3⟩
          have S3 : Hid (St w w4 P who (K + 2) none) := St.new A2.out hge (St.of F3.out s3)
          clear s3
          dsimp only
          go_wp2_with fail
          go_ret
          exact ⟨rfl, S3.out⟩
        · have S3 : Hid (St w w3 P who (K + 2) none) := St.new A2.out hge (St.of F3.out (s3.up (by omega)))
          clear s3
          dsimp only
          go_wp2_with fail
          go_ret
          exact ⟨rfl, S3.out⟩
end Go.Proofs.Ythmloakkefiicaa.dk
