import Derived.Test.YtagjmpdimphfaaaHb
import Derived.Test.YtagjmpdimphfaaaOpenA
namespace Go.Proofs.Ytagjmpdimphfaaa.rg
open Go.ChangeShapes Go.WideShapes Go.ChangeAt Go.RowKit
set_option linter.unusedVariables false
set_option linter.unusedSimpArgs false
/-- a ring that was asked for: there, or not -/
structure Mk2 (w : World) (who : Nat → Option Nat) (r q : Option Nat) (n m : Nat) : Prop where
  h : (r = none ∧ q = none) ∨ ∃ R Q, r = some R ∧ q = some Q ∧ Rg w R n m ∧ Rg w Q n m ∧ who R = none ∧ who Q = none
def ptr (r : Option Nat) : Value := .pointer (r.map fun R => ⟨R, 0, none⟩)
structure MadeAny (w w' : World) (r : Ending) : Prop where
  ex : ∃ a b n m, r = .returned (.tuple #[ptr a, ptr b, .bool true]) ∧ Apart [] w w' ∧ ((a = none ∧ b = none) ∨ ∃ R Q, a = some R ∧ b = some Q ∧ Rg w' R n m ∧ Rg w' Q n m)
theorem made_any (x y : Int) (w : World) : Calls Try.prog 21 #[.int .i64 x, .int .i64 y] w fun r w' => MadeAny w w' r := by
  by_cases hxy : (1 ≤ x ∧ x ≤ 8) ∧ 1 ≤ y ∧ y ≤ 16
  · obtain ⟨n, rfl⟩ : ∃ n : Nat, x = (n : Int) := ⟨x.toNat, by omega⟩
    obtain ⟨m, rfl⟩ : ∃ m : Nat, y = (m : Int) := ⟨y.toNat, by omega⟩
    refine (made_ok n m (by omega) (by omega) (by omega) (by omega) w).mono ?_
    rintro r w3 ⟨⟨R, Q, rfl, G1, G2, a3⟩⟩
    exact ⟨⟨some R, some Q, n, m, rfl, a3, .inr ⟨R, Q, rfl, rfl, G1, G2⟩⟩⟩
  · refine (made_bad x y (by omega) w).mono ?_
    rintro r w3 ⟨rfl, rfl⟩
    exact ⟨⟨none, none, 0, 0, rfl, Apart.refl _ _, .inl ⟨rfl, rfl⟩⟩⟩
/-- the shelf, and two rings -/
structure Ct (w0 w : World) (S mark : Nat) (d : Sd) (who : Nat → Option Nat) (a b a2 b2 : Option Nat) (n m n2 m2 : Nat) : Prop where
  sh : Sh w S mark d who
  r1 : Mk2 w who a b n m
  r2 : Mk2 w who a2 b2 n2 m2
  ap : Apart [] w0 w
  nb : ∀ k s, who k = some s → w0.heap.size ≤ k
theorem Mk2.step {w w' : World} {who who' : Nat → Option Nat} {a b : Option Nat} {n m : Nat} (h : Mk2 w who a b n m) (fr : Fr (fun k => who k = none) w w') (hw : ∀ k s, who' k = some s → who k = some s ∨ w.heap.size ≤ k) : Mk2 w' who' a b n m := by
  have hn : ∀ k, k < w.heap.size → who k = none → who' k = none := fun k hk hn => by
    cases hx : who' k with
    | none => rfl
    | some s =>
      rcases hw k s hx with h | h
      · rw [hn] at h; cases h
      · omega
  rcases h.h with h | ⟨R, Q, e1, e2, g1, g2, h1, h2⟩
  · exact ⟨.inl h⟩
  · exact ⟨.inr ⟨R, Q, e1, e2, g1.same (fr.block R g1.lt h1), g2.same (fr.block Q g2.lt h2), hn R g1.lt h1, hn Q g2.lt h2⟩⟩
theorem Ct.step {w0 w w' : World} {r : Ending} {S mark : Nat} {d : Sd} {who : Nat → Option Nat} {a b a2 b2 : Option Nat} {n m n2 m2 : Nat} (C : Ct w0 w S mark d who a b a2 b2 n m n2 m2) (p : AskP w w' r S mark who) : ∃ mark' d' who', mark' ≤ mark + 1 ∧ Ct w0 w' S mark' d' who' a b a2 b2 n m n2 m2 := by
  obtain ⟨mark', d', who', hm, hS, hw⟩ := p.ex
  have s0 := C.ap.size
  refine ⟨mark', d', who', hm, hS, C.r1.step p.fr hw, C.r2.step p.fr hw, ?_, fun k s hk => ?_⟩
  · refine ⟨p.fr.os.trans C.ap.os, p.fr.tape.trans C.ap.tape, p.fr.output.trans C.ap.output, Nat.le_trans s0 p.fr.size, fun k hk _ => ?_⟩
    rw [p.fr.block k (by omega) ?_, C.ap.block k hk (by simp)]
    cases hx : who k with
    | none => rfl
    | some s => have := C.nb k s hx; omega
  · rcases hw k s hk with h | h
    · exact C.nb k s h
    · omega
set_option maxHeartbeats 16000000 in
set_option maxRecDepth 100000 in
theorem all_walk {w : World} {p : Option Addr} {N cap : Nat} {f : Nat → Aq} (h : Aks w p N f) (hN : N ≤ 1048576) (x y x2 y2 : Int) :
    Calls Try.prog 8 #[.int .i64 x, .int .i64 y, .int .i64 x2, .int .i64 y2, .slice p N cap] w fun r w' => r = .returned (.bool true) ∧ Apart [] w w' := by
  have HK : Hid (Aks w p N f) := h
  go_enter Try.func8, Try.ntmps8
  go_wp2_with fail
  refine (fits_ok h hN).mono ?_
  rintro r w1 ⟨⟨v, rfl, hv⟩, rfl⟩
  dsimp only
  clear h
  cases v with
  | false =>
    go_wp2_with fail
    go_ret
    exact ⟨rfl, Apart.refl _ _⟩
  | true =>
    have hN3 := hv rfl
    clear hv
    go_wp2_with fail
    refine (alive_ok w1).mono ?_
    rintro r w2 ⟨rfl, a2⟩
    dsimp only
    go_wp2_with fail
    refine (made_any x y w2).mono ?_
    rintro r w3 ⟨⟨ra, rb, n, m, rfl, a3, hr⟩⟩
    dsimp only
    go_wp2_with fail
    refine (made_any x2 y2 w3).mono ?_
    rintro r w4 ⟨⟨rc, rd, n2, m2, rfl, a4, hr2⟩⟩
    dsimp only
    have A4 := (a2.trans a3).trans a4
    have hCt : ∃ d who, Ct w1 (w4.alloc (.cells #[.slice none 0 0, .slice none 0 0, .int .i64 0, .slice none 0 0, .slice none 0 0] 53)) w4.heap.size 0 d who ra rb rc rd n m n2 m2 := by
      have aA : Apart [] w4 (w4.alloc (.cells #[.slice none 0 0, .slice none 0 0, .int .i64 0, .slice none 0 0, .slice none 0 0] 53)) := (Apart.refl _ _).alloc _
      refine ⟨_, _, shelf0 w4, ⟨?_⟩, ⟨?_⟩, A4.trans aA, fun k s hk => ?_⟩
      · rcases hr with hr | ⟨R, Q, e1, e2, g1, g2⟩
        · exact .inl hr
        · have l1 := (g1.kept0 a4).lt
          have l2 := (g2.kept0 a4).lt
          exact .inr ⟨R, Q, e1, e2, (g1.kept0 a4).kept0 aA, (g2.kept0 a4).kept0 aA, by simp; omega, by simp; omega⟩
      · rcases hr2 with hr | ⟨R, Q, e1, e2, g1, g2⟩
        · exact .inl hr
        · have l1 := g1.lt
          have l2 := g2.lt
          exact .inr ⟨R, Q, e1, e2, g1.kept0 aA, g2.kept0 aA, by simp; omega, by simp; omega⟩
      · split at hk
        · rename_i e; subst e; exact A4.size
        · cases hk
    obtain ⟨d, who, hC⟩ := hCt
    have HC0 : Hid (Ct w1 (w4.alloc (.cells #[.slice none 0 0, .slice none 0 0, .int .i64 0, .slice none 0 0, .slice none 0 0] 53)) w4.heap.size 0 d who ra rb rc rd n m n2 m2) := hC
    clear hC hr hr2 a2 a3 a4
    go_wp2_with fail
    generalize w4.heap.size = S at *
    go_loopw [19] (fun v wr => ∃ (i mark : Nat) (d : Sd) (who : Nat → Option Nat), i ≤ N ∧ v = .int .i64 i ∧ mark ≤ i ∧ Ct w1 wr S mark d who ra rb rc rd n m n2 m2) (fun v _ => N - (intOf v).toNat)
    case atStart => exact ⟨0, 0, d, who, Nat.zero_le _, rfl, Nat.le_refl _, HC0.out⟩
    case round =>
      clear HC0
      obtain ⟨i, mark, d, who, hi', rfl, hmi, hC⟩ := hrel
      have HC : Hid (Ct w1 wr S mark d who ra rb rc rd n m n2 m2) := hC
      clear hC
      by_cases hlt : i < N
      · obtain ⟨P, o, rfl, hP, hc⟩ := (HK.out.kept0 HC.out.ap).at' (by omega)
        obtain ⟨c0, c1, c2, c3, c4⟩ := hc i hlt
        have hz := HK.out.kz i hlt
        obtain ⟨⟨kd, wh, A, B, key⟩, HF⟩ : ∃ q : Aq, Hid (q = f i) := ⟨_, rfl⟩
        rw [← HF.out] at c0 c1 c2 c3 c4 hz
        simp only at c0 c1 c2 c3 c4 hz
        clear hc
        by_cases hev : wh.tmod 2 = 0
        · rcases HC.out.r1.h with ⟨e1, e2⟩ | ⟨R, Q, e1, e2, g1, g2, h1, h2⟩
          · subst e1; subst e2
            simp only [ptr, Option.map_none]
            go_wp2_with fail
            go_roundw
            case rel => exact ⟨i + 1, mark, d, who, by omega, by simp, by omega, HC.out⟩
            case measure => simp only [intOf]; omega
          · subst e1; subst e2
            simp only [ptr, Option.map_some]
            go_wp2_with fail
            refine (askOk_any kd (w := wr) ⟨HC.out.sh, g1, g2, h1, h2⟩ (by omega) wh A B key hz).mono ?_
            intro r w5 hp
            obtain ⟨m5, d5, who5, hm5, ct5⟩ := HC.out.step hp
            obtain rfl := hp.ret
            clear hp g1 g2
            dsimp only
            have H5 : Hid (Ct w1 w5 S m5 d5 who5 (some R) (some Q) rc rd n m n2 m2) := ct5
            obtain ⟨P', o', he, _, hc⟩ := (HK.out.kept0 ct5.ap).at' (by omega)
            simp only [Option.some.injEq, Addr.mk.injEq, and_true] at he
            obtain ⟨rfl, rfl⟩ := he
            obtain ⟨_, c1', _, _, _⟩ := hc i hlt
            rw [← HF.out] at c1'
            simp only at c1'
            clear ct5 c0 c1 c2 c3 c4 hc
            go_wp2_with fail
            go_roundw
            case rel => exact ⟨i + 1, m5, d5, who5, by omega, by simp, by omega, H5.out⟩
            case measure => simp only [intOf]; omega
        · rcases HC.out.r2.h with ⟨e1, e2⟩ | ⟨R, Q, e1, e2, g1, g2, h1, h2⟩
          · subst e1; subst e2
            simp only [ptr, Option.map_none]
            go_wp2_with fail
            go_roundw
            case rel => exact ⟨i + 1, mark, d, who, by omega, by simp, by omega, HC.out⟩
            case measure => simp only [intOf]; omega
          · subst e1; subst e2
            simp only [ptr, Option.map_some]
            go_wp2_with fail
            refine (askOk_any kd (w := wr) ⟨HC.out.sh, g1, g2, h1, h2⟩ (by omega) wh A B key hz).mono ?_
            intro r w5 hp
            obtain ⟨m5, d5, who5, hm5, ct5⟩ := HC.out.step hp
            obtain rfl := hp.ret
            clear hp g1 g2
            dsimp only
            have H5 : Hid (Ct w1 w5 S m5 d5 who5 ra rb (some R) (some Q) n m n2 m2) := ct5
            clear ct5 c0 c1 c2 c3 c4
            go_wp2_with fail
            go_roundw
            case rel => exact ⟨i + 1, m5, d5, who5, by omega, by simp, by omega, H5.out⟩
            case measure => simp only [intOf]; omega
      · obtain rfl : i = N := by omega
        go_wp2_with fail
        refine (apart_ok HC.out.sh (by omega)).mono ?_
        rintro r w5 ⟨rfl, a5⟩
        dsimp only
        have hF : Apart [] w1 w5 := Cb.fin (R := 0) (Q := 0) (n := 0) (m := 0) HC.out.sh HC.out.ap HC.out.nb a5
        go_wp2_with fail
        go_ret
        exact ⟨rfl, hF⟩
end Go.Proofs.Ytagjmpdimphfaaa.rg
