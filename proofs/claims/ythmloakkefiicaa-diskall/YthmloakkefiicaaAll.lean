import Derived.Test.YthmloakkefiicaaHolds
namespace Go.Proofs.Ythmloakkefiicaa.dk
open Go.ChangeShapes Go.WideShapes Go.ChangeAt Go.RowKit
set_option linter.unusedVariables false
set_option linter.unusedSimpArgs false
/-- one of two pairs: none, or one with no block below B -/
inductive Mb (w : World) (B : Nat) (K : Nat) : Value → (Nat → Option Nat) → Prop where
  | no : Mb w B K (.pointer none) (fun _ => none)
  | yes {P : Nat} {x : Pd} {who : Nat → Option Nat} (p : Pr w P x who) (b : Bk x K) (n : ∀ k s, who k = some s → B ≤ k) : Mb w B K (.pointer (some ⟨P, 0, none⟩)) who
theorem Mb.own {w : World} {B K : Nat} {v : Value} {who : Nat → Option Nat} (h : Mb w B K v who) : ∀ k t, who k = some t → k < w.heap.size ∧ B ≤ k := by
  intro k t hk
  cases h with
  | no => cases hk
  | yes p b n => exact ⟨p.own k t hk, n k t hk⟩
theorem Mb.kept {w w' : World} {B K : Nat} {v : Value} {who : Nat → Option Nat} (h : Mb w B K v who) (f : Fr (fun k => who k ≠ none) w w') : Mb w' B K v who := by
  cases h with
  | no => exact .no
  | yes p b n => exact .yes (p.kept f) b n
theorem Mb.up {w : World} {B K L : Nat} {v : Value} {who : Nat → Option Nat} (h : Mb w B K v who) (hl : K ≤ L) : Mb w B L v who := by
  cases h with
  | no => exact .no
  | yes p b n => exact .yes p (b.up hl) n
/-- both: they lie apart -/
structure Two (w0 w : World) (K : Nat) (v1 v2 : Value) : Prop where
  ex : ∃ who1 who2, Mb w w0.heap.size K v1 who1 ∧ Mb w w0.heap.size K v2 who2 ∧ ∀ k, who1 k = none ∨ who2 k = none
  ap : Apart [] w0 w
theorem Two.swap {w0 w : World} {K : Nat} {v1 v2 : Value} (h : Two w0 w K v1 v2) : Two w0 w K v2 v1 := by
  obtain ⟨⟨who1, who2, h1, h2, h3⟩, a⟩ := h
  exact ⟨⟨who2, who1, h2, h1, fun k => (h3 k).symm⟩, a⟩
/-- the first of two goes on -/
theorem Two.step {w0 w w' : World} {K L : Nat} {P : Nat} {x : Pd} {who1 who2 : Nat → Option Nat} {v2 : Value} (p : Pr w P x who1) (n1 : ∀ k s, who1 k = some s → w0.heap.size ≤ k) (h2 : Mb w w0.heap.size K v2 who2) (h3 : ∀ k, who1 k = none ∨ who2 k = none) (a : Apart [] w0 w) (hL : K ≤ L) (st : St w w' P who1 L none) : Two w0 w' L (.pointer (some ⟨P, 0, none⟩)) v2 := by
  obtain ⟨⟨x', who', p', b', n'⟩, f'⟩ := st
  have hsz := a.size
  refine ⟨⟨who', who2, .yes p' b' (fun k s hk => ?_), (h2.kept (f'.mono (fun k _ hk => ⟨?_, by simp⟩))).up hL, fun k => ?_⟩, a.trans' f' (fun k hk => ⟨?_, by simp⟩)⟩
  · rcases n' k s hk with h1 | h1 | h1
    · cases h4 : who1 k with
      | none => exact absurd h4 h1
      | some t => exact n1 k t h4
    · cases h1
    · omega
  · rcases h3 k with h4 | h4
    · exact h4
    · exact absurd h4 hk
  · cases h4 : who2 k with
    | none => exact .inr rfl
    | some t =>
      left
      have hlt := (h2.own k t h4).1
      cases h5 : who' k with
      | none => rfl
      | some s =>
        rcases n' k s h5 with h1 | h1 | h1
        · rcases h3 k with h6 | h6
          · exact absurd h6 h1
          · rw [h4] at h6; cases h6
        · cases h1
        · omega
  · cases h4 : who1 k with
    | none => rfl
    | some t => have := n1 k t h4; omega
theorem two_plays {w0 w : World} {K : Nat} {P : Nat} {v2 : Value} (h : Two w0 w K (.pointer (some ⟨P, 0, none⟩)) v2) {sp : Option Addr} {N cap : Nat} {f : Nat → OpD} (ho : IsOps w0 sp N f) (hle : ∀ i, i < N → (f i).l ≤ 4194304) (k : Nat) (hk : k < N) (hK : K + 2 ≤ 900) {PS o : Nat} (hsp : sp = some ⟨PS, o, none⟩) :
    Calls Try.prog 33 #[.pointer (some ⟨P, 0, none⟩), .slice (some ⟨PS, o + k * 5, none⟩) 1 cap, .int .i64 5, .int .i64 11] w fun r w' => r = .returned (.bool true) ∧ Two w0 w' (K + 2) (.pointer (some ⟨P, 0, none⟩)) v2 := by
  obtain ⟨⟨who1, who2, h1, h2, h3⟩, a⟩ := h
  cases h1 with
  | yes p b n =>
    have hno : ∀ j, j < w0.heap.size → who1 j = none := fun j hj => by
      cases hw : who1 j with
      | none => rfl
      | some s => have := n j s hw; omega
    have hsc := sc_of ho hle a hno
    have hsc1 : Sc w who1 (some ⟨PS, o + k * 5, none⟩) 1 (fun i => f (k + i)) := by
      refine ⟨fun _ => ?_, fun i hi => ?_⟩
      · obtain ⟨PS2, o2, e1, e2, e3, e4⟩ := hsc.at' (by omega)
        rw [hsp] at e1
        have eq1 : PS = PS2 := by injection e1 with e5; injection e5
        have eq2 : o = o2 := by injection e1 with e5; injection e5
        subst eq1; subst eq2
        refine ⟨PS, o + k * 5, rfl, e2, e3, fun i hi => ?_⟩
        have hi0 : i = 0 := by omega
        subst hi0
        have := e4 k hk
        simpa using this
      · have hi0 : i = 0 := by omega
        subst hi0
        exact hsc.ob k hk
    refine (plays_ok (cap := cap) p b hsc1 (by omega) 5 11 (by decide) (by decide)).mono ?_
    rintro r w' ⟨rfl, st⟩
    exact ⟨rfl, Two.step p n h2 h3 a (by omega) st⟩
theorem two_apart {w0 w : World} {K : Nat} {P : Nat} {v2 : Value} (h : Two w0 w K (.pointer (some ⟨P, 0, none⟩)) v2) : Calls Try.prog 34 #[.pointer (some ⟨P, 2, none⟩)] w fun r w' => r = .returned (.bool true) ∧ Two w0 w' K (.pointer none) v2 := by
  obtain ⟨⟨who1, who2, h1, h2, h3⟩, a⟩ := h
  cases h1 with
  | yes p b n =>
    refine (apart_pr p).mono ?_
    rintro r w' ⟨rfl, f⟩
    refine ⟨rfl, ⟨⟨_, who2, .no, h2.kept (f.mono (fun k _ hk => ?_)), fun k => .inl rfl⟩, a.trans' f (fun k hk => ?_)⟩⟩
    · rcases h3 k with h4 | h4
      · exact h4
      · exact absurd h4 hk
    · cases h4 : who1 k with
      | none => rfl
      | some t => have := n k t h4; omega
set_option maxHeartbeats 8000000 in
set_option maxRecDepth 100000 in
theorem all_walk (w : World) (sec : Int) (ip : Option Addr) (il ic : Nat) (ibs : List Int) (hs : Src w ip il ibs) (hnil : ip = none → il = 0 ∧ ic = 0) (hil : il ≤ 140737488355328) (sp : Option Addr) (N cap : Nat) (f : Nat → OpD) (ho : IsOps w sp N f) (hN : N ≤ 140737488355328) (hb : ∀ i, i < N → (f i).l ≤ 140737488355328) (hcap : N ≤ cap) :
    Calls Try.prog 6 #[.int .i64 sec, .slice ip il ic, .slice sp N cap] w fun r w' => r = .returned (.bool true) ∧ Apart [] w w' := by
  have HS := hid hs
  have HNIL := hid hnil
  have HO := hid ho
  have HF := hid (fits_pr w sp N cap f ho hN hb)
  clear hs hnil ho hb
  go_enter Try.func6, Try.ntmps6
  go_wp2_with fail
  refine HF.out.mono ?_
  rintro r w1 ⟨b, rfl, hfit, rfl⟩
  dsimp only
  clear HF
  cases b with
  | false =>
    go_wp2_with fail
    go_ret
    exact ⟨rfl, Apart.refl _ _⟩
  | true =>
    obtain ⟨hN3, hle⟩ := hfit rfl
    have HLE := hid hle
    clear hfit hle
    by_cases hi4 : il ≤ 4194304
    · go_wp2_with fail
      refine (alive_ok w1).mono ?_
      rintro r w2 ⟨rfl, a2⟩
      dsimp only
      have A2 := hid a2
      clear a2
      go_wp2_with fail
      refine (made_pr w2 sec).mono ?_
      rintro r w3 hM
      obtain ⟨v1, rfl, hv1, M1⟩ : ∃ v1, r = .returned (.tuple #[v1, .bool true]) ∧ (v1 = .pointer none ∨ ∃ P, v1 = .pointer (some ⟨P, 0, none⟩)) ∧ Two w1 w3 0 v1 (.pointer none) := by
        rcases hM with ⟨rfl, rfl⟩ | ⟨P, x, who, rfl, np⟩
        · exact ⟨_, rfl, .inl rfl, ⟨_, _, .no, .no, fun k => .inl rfl⟩, A2.out⟩
        · exact ⟨_, rfl, .inr ⟨P, rfl⟩, ⟨who, _, .yes np.pr np.bk (fun k s hk => Nat.le_trans A2.out.size (np.nw k s hk)), .no, fun k => .inr rfl⟩, A2.out.trans np.ap⟩
      dsimp only
      have M1 := hid M1
      have V1 := hid hv1
      clear hM hv1
      go_wp2_with fail
      refine (taken_pr w3 ip il ic ibs (HS.out.below (M1.out.ap.below (Nat.le_refl _) (by simp))) HNIL.out hi4).mono ?_
      rintro r w4 hM
      obtain ⟨v2, rfl, hv2, M2⟩ : ∃ v2, r = .returned (.tuple #[v2, .bool true]) ∧ (v2 = .pointer none ∨ ∃ P, v2 = .pointer (some ⟨P, 0, none⟩)) ∧ Two w1 w4 0 v1 v2 := by
        obtain ⟨⟨who1, who2, h1, h2, h3⟩, a⟩ := M1.out
        rcases hM with ⟨rfl, a4⟩ | ⟨P, x, who, rfl, np⟩
        · exact ⟨_, rfl, .inl rfl, ⟨who1, _, h1.kept a4.fr, .no, fun k => .inr rfl⟩, a.trans a4⟩
        · refine ⟨_, rfl, .inr ⟨P, rfl⟩, ⟨who1, who, h1.kept np.ap.fr, .yes np.pr np.bk (fun k s hk => Nat.le_trans a.size (np.nw k s hk)), fun k => ?_⟩, a.trans np.ap⟩
          cases h4 : who k with
          | none => exact .inr rfl
          | some t =>
            left
            cases h5 : who1 k with
            | none => rfl
            | some s => have := (h1.own k s h5).1; have := np.nw k t h4; omega
      dsimp only
      have M2 := hid M2
      clear hM M1
      have hv1 := V1.out
      clear V1
      rcases hv1 with rfl | ⟨P, rfl⟩ <;> rcases hv2 with rfl | ⟨Q, rfl⟩
      · go_wp2_with fail
        go_loopw [12] (fun iv wr => ∃ k : Nat, k ≤ N ∧ iv = .int .i64 k ∧ Two w1 wr (2 * k) (.pointer none) (.pointer none)) (fun iv _ => N - (intOf iv).toNat)
        case atStart => exact ⟨0, Nat.zero_le _, rfl, M2.out⟩
        case round =>
          obtain ⟨k, hk, rfl, tw⟩ := hrel
          have M3 := hid tw
          clear tw M2
          by_cases hlt : k < N
          · obtain ⟨PS, o, rfl, hPS, hop⟩ := HO.out (by omega)
            have hq := hop k hlt
            obtain ⟨wh, HW⟩ : ∃ wh, Hid (wh = (f k).who) := ⟨_, rfl⟩
            have cc1 := hq.c1
            rw [← HW.out] at cc1
            have CC : Hid (∀ W, Apart [] w1 W → W.cell? ⟨PS, o + k * 5 + 1, none⟩ = some (.int .i64 wh)) := fun W a => a.keep cc1
            have c1 := CC.out wr M3.out.ap
            clear hop hq cc1
            by_cases hwe : wh.tmod 2 = 0
            · go_wp2_with fail
              go_roundw
              case rel => exact ⟨k + 1, by omega, by go_num, ⟨by obtain ⟨x1, x2, y1, y2, y3⟩ := M3.out.ex; exact ⟨x1, x2, y1.up (by omega), y2.up (by omega), y3⟩, M3.out.ap⟩⟩
              case measure => simp only [intOf]; omega
            · go_wp2_with fail
              go_roundw
              case rel => exact ⟨k + 1, by omega, by go_num, ⟨by obtain ⟨x1, x2, y1, y2, y3⟩ := M3.out.ex; exact ⟨x1, x2, y1.up (by omega), y2.up (by omega), y3⟩, M3.out.ap⟩⟩
              case measure => simp only [intOf]; omega
          · obtain rfl : k = N := by omega
            go_wp2_with fail
            go_ret
            exact ⟨rfl, M3.out.ap⟩
      · go_wp2_with fail
        go_loopw [12] (fun iv wr => ∃ k : Nat, k ≤ N ∧ iv = .int .i64 k ∧ Two w1 wr (2 * k) (.pointer none) (.pointer (some ⟨Q, 0, none⟩))) (fun iv _ => N - (intOf iv).toNat)
        case atStart => exact ⟨0, Nat.zero_le _, rfl, M2.out⟩
        case round =>
          obtain ⟨k, hk, rfl, tw⟩ := hrel
          have M3 := hid tw
          clear tw M2
          by_cases hlt : k < N
          · obtain ⟨PS, o, rfl, hPS, hop⟩ := HO.out (by omega)
            have hq := hop k hlt
            obtain ⟨wh, HW⟩ : ∃ wh, Hid (wh = (f k).who) := ⟨_, rfl⟩
            have cc1 := hq.c1
            rw [← HW.out] at cc1
            have CC : Hid (∀ W, Apart [] w1 W → W.cell? ⟨PS, o + k * 5 + 1, none⟩ = some (.int .i64 wh)) := fun W a => a.keep cc1
            have c1 := CC.out wr M3.out.ap
            clear hop hq cc1
            by_cases hwe : wh.tmod 2 = 0
            · go_wp2_with fail
              go_roundw
              case rel => exact ⟨k + 1, by omega, by go_num, ⟨by obtain ⟨x1, x2, y1, y2, y3⟩ := M3.out.ex; exact ⟨x1, x2, y1.up (by omega), y2.up (by omega), y3⟩, M3.out.ap⟩⟩
              case measure => simp only [intOf]; omega
            · go_wp2_with fail
              refine (two_plays (cap := cap - k) M3.out.swap HO.out HLE.out k hlt (by omega) rfl).mono ?_
              rintro r w5 ⟨rfl, tw⟩
              dsimp only
              have T5 := hid tw.swap
              have c2 := CC.out w5 tw.ap
              clear tw c1
              go_wp2_with fail
              go_roundw
              case rel => exact ⟨k + 1, by omega, by go_num, by rw [show 2 * (k + 1) = 2 * k + 2 from by omega]; exact T5.out⟩
              case measure => simp only [intOf]; omega
          · obtain rfl : k = N := by omega
            go_wp2_with fail
            refine (two_apart M3.out.swap).mono ?_
            rintro r w6 ⟨rfl, tw⟩
            dsimp only
            have T6 := hid tw
            clear tw
            go_wp2_with fail
            go_ret
            exact ⟨rfl, T6.out.ap⟩
      · go_wp2_with fail
        go_loopw [12] (fun iv wr => ∃ k : Nat, k ≤ N ∧ iv = .int .i64 k ∧ Two w1 wr (2 * k) (.pointer (some ⟨P, 0, none⟩)) (.pointer none)) (fun iv _ => N - (intOf iv).toNat)
        case atStart => exact ⟨0, Nat.zero_le _, rfl, M2.out⟩
        case round =>
          obtain ⟨k, hk, rfl, tw⟩ := hrel
          have M3 := hid tw
          clear tw M2
          by_cases hlt : k < N
          · obtain ⟨PS, o, rfl, hPS, hop⟩ := HO.out (by omega)
            have hq := hop k hlt
            obtain ⟨wh, HW⟩ : ∃ wh, Hid (wh = (f k).who) := ⟨_, rfl⟩
            have cc1 := hq.c1
            rw [← HW.out] at cc1
            have CC : Hid (∀ W, Apart [] w1 W → W.cell? ⟨PS, o + k * 5 + 1, none⟩ = some (.int .i64 wh)) := fun W a => a.keep cc1
            have c1 := CC.out wr M3.out.ap
            clear hop hq cc1
            by_cases hwe : wh.tmod 2 = 0
            · go_wp2_with fail
              refine (two_plays (cap := cap - k) M3.out HO.out HLE.out k hlt (by omega) rfl).mono ?_
              rintro r w5 ⟨rfl, tw⟩
              dsimp only
              have T5 := hid tw
              have c2 := CC.out w5 tw.ap
              clear tw c1
              go_wp2_with fail
              go_roundw
              case rel => exact ⟨k + 1, by omega, by go_num, by rw [show 2 * (k + 1) = 2 * k + 2 from by omega]; exact T5.out⟩
              case measure => simp only [intOf]; omega
            · go_wp2_with fail
              go_roundw
              case rel => exact ⟨k + 1, by omega, by go_num, ⟨by obtain ⟨x1, x2, y1, y2, y3⟩ := M3.out.ex; exact ⟨x1, x2, y1.up (by omega), y2.up (by omega), y3⟩, M3.out.ap⟩⟩
              case measure => simp only [intOf]; omega
          · obtain rfl : k = N := by omega
            go_wp2_with fail
            refine (two_apart M3.out).mono ?_
            rintro r w5 ⟨rfl, tw⟩
            dsimp only
            have T5 := hid tw
            clear tw
            go_wp2_with fail
            go_ret
            exact ⟨rfl, T5.out.ap⟩
      · go_wp2_with fail
        go_loopw [12] (fun iv wr => ∃ k : Nat, k ≤ N ∧ iv = .int .i64 k ∧ Two w1 wr (2 * k) (.pointer (some ⟨P, 0, none⟩)) (.pointer (some ⟨Q, 0, none⟩))) (fun iv _ => N - (intOf iv).toNat)
        case atStart => exact ⟨0, Nat.zero_le _, rfl, M2.out⟩
        case round =>
          obtain ⟨k, hk, rfl, tw⟩ := hrel
          have M3 := hid tw
          clear tw M2
          by_cases hlt : k < N
          · obtain ⟨PS, o, rfl, hPS, hop⟩ := HO.out (by omega)
            have hq := hop k hlt
            obtain ⟨wh, HW⟩ : ∃ wh, Hid (wh = (f k).who) := ⟨_, rfl⟩
            have cc1 := hq.c1
            rw [← HW.out] at cc1
            have CC : Hid (∀ W, Apart [] w1 W → W.cell? ⟨PS, o + k * 5 + 1, none⟩ = some (.int .i64 wh)) := fun W a => a.keep cc1
            have c1 := CC.out wr M3.out.ap
            clear hop hq cc1
            by_cases hwe : wh.tmod 2 = 0
            · go_wp2_with fail
              refine (two_plays (cap := cap - k) M3.out HO.out HLE.out k hlt (by omega) rfl).mono ?_
              rintro r w5 ⟨rfl, tw⟩
              dsimp only
              have T5 := hid tw
              have c2 := CC.out w5 tw.ap
              clear tw c1
              go_wp2_with fail
              go_roundw
              case rel => exact ⟨k + 1, by omega, by go_num, by rw [show 2 * (k + 1) = 2 * k + 2 from by omega]; exact T5.out⟩
              case measure => simp only [intOf]; omega
            · go_wp2_with fail
              refine (two_plays (cap := cap - k) M3.out.swap HO.out HLE.out k hlt (by omega) rfl).mono ?_
              rintro r w5 ⟨rfl, tw⟩
              dsimp only
              have T5 := hid tw.swap
              have c2 := CC.out w5 tw.ap
              clear tw c1
              go_wp2_with fail
              go_roundw
              case rel => exact ⟨k + 1, by omega, by go_num, by rw [show 2 * (k + 1) = 2 * k + 2 from by omega]; exact T5.out⟩
              case measure => simp only [intOf]; omega
          · obtain rfl : k = N := by omega
            go_wp2_with fail
            refine (two_apart M3.out).mono ?_
            rintro r w5 ⟨rfl, tw⟩
            dsimp only
            have T5 := hid tw
            clear tw
            go_wp2_with fail
            refine (two_apart T5.out.swap).mono ?_
            rintro r w6 ⟨rfl, tw⟩
            dsimp only
            have T6 := hid tw
            clear tw
            go_wp2_with fail
            go_ret
            exact ⟨rfl, T6.out.ap⟩
    · have hi5 : 4194304 < il := by omega
      clear hi4
      go_wp2_with fail
      go_ret
      exact ⟨rfl, Apart.refl _ _⟩
theorem open_cap {H : Type} {enc : TypeId × Value → H} {W : World} {fuel : Nat} {p : Option Addr} {len cap : Nat} {x : DataW H × List MemPlace} (h : DataW.trod enc Try.prog W 0 (fun _ => true) true fuel 51 [.slice p len cap] = some x) : len ≤ cap := by
  rcases Go.Deep.open_slice Try.underlying51 h with ⟨hcs, _⟩ | ⟨a, len', cap', m, n, D, Pl, hcs, _, hl, _⟩
  · simp only [List.cons.injEq, Value.slice.injEq, and_true] at hcs
    omega
  · simp only [List.cons.injEq, Value.slice.injEq, and_true] at hcs
    omega
end Go.Proofs.Ythmloakkefiicaa.dk
