import Derived.Test.YtagjmpdimphfaaaAlive
namespace Go.Proofs.Ytagjmpdimphfaaa.rg
open Go.ChangeShapes Go.WideShapes Go.ChangeAt Go.RowKit
set_option linter.unusedVariables false
set_option linter.unusedSimpArgs false
structure Aq where
  k : Int
  wh : Int
  a : Int
  b : Int
  key : ByteArray
/-- asks, as they read -/
structure Aks (w : World) (p : Option Addr) (N : Nat) (f : Nat → Aq) : Prop where
  at' : 0 < N → ∃ P o, p = some ⟨P, o, none⟩ ∧ P < w.heap.size ∧ ∀ i, i < N → w.cell? ⟨P, o + i * 5, none⟩ = some (.int .i64 (f i).k) ∧ w.cell? ⟨P, o + i * 5 + 1, none⟩ = some (.int .i64 (f i).wh) ∧ w.cell? ⟨P, o + i * 5 + 2, none⟩ = some (.int .i64 (f i).a) ∧ w.cell? ⟨P, o + i * 5 + 3, none⟩ = some (.int .i64 (f i).b) ∧ w.cell? ⟨P, o + i * 5 + 4, none⟩ = some (.string (f i).key)
  kz : ∀ i, i < N → (f i).key.size ≤ 1048576
theorem Aks.kept0 {w w' : World} {p : Option Addr} {N : Nat} {f : Nat → Aq} (h : Aks w p N f) (a : Apart [] w w') : Aks w' p N f := by
  refine ⟨fun h0 => ?_, h.kz⟩
  obtain ⟨P, o, rfl, hP, hc⟩ := h.at' h0
  refine ⟨P, o, rfl, Nat.lt_of_lt_of_le hP a.size, fun i hi => ?_⟩
  obtain ⟨c0, c1, c2, c3, c4⟩ := hc i hi
  exact ⟨(a.cell hP (by simp)).trans c0, (a.cell hP (by simp)).trans c1, (a.cell hP (by simp)).trans c2, (a.cell hP (by simp)).trans c3, (a.cell hP (by simp)).trans c4⟩
set_option maxHeartbeats 4000000 in
set_option maxRecDepth 100000 in
theorem fits_ok {w : World} {p : Option Addr} {N cap : Nat} {f : Nat → Aq} (h : Aks w p N f) (hN : N ≤ 1048576) : Calls Try.prog 19 #[.slice p N cap] w fun r w' => (∃ v, r = .returned (.bool v) ∧ (v = true → N ≤ 300)) ∧ w' = w := by
  have HK : Hid (Aks w p N f) := h
  clear h
  go_enter Try.func19, Try.ntmps19
  go_wp2_with fail
  go_loopw [3, 4] (fun x v wr => ∃ i s : Nat, i ≤ N ∧ v = .int .i64 i ∧ x = .int .i64 s ∧ s ≤ i * 1048576 ∧ wr = w) (fun _ v _ => N - (intOf v).toNat)
  case atStart => exact ⟨0, 0, Nat.zero_le _, rfl, rfl, Nat.zero_le _, rfl⟩
  case round =>
    obtain ⟨i, s, hi, rfl, rfl, hs, rfl⟩ := hrel
    by_cases hlt : i < N
    · obtain ⟨P, o, rfl, hP, hc⟩ := HK.out.at' (by omega)
      obtain ⟨_, _, _, _, c4⟩ := hc i hlt
      have hz := HK.out.kz i hlt
      obtain ⟨key, Hk⟩ : ∃ key, Hid (key = (f i).key) := ⟨_, rfl⟩
      rw [← Hk.out] at c4 hz
      clear hc
      have hss : s + key.size ≤ (i + 1) * 1048576 := by omega
      have hb : (i + 1) * 1048576 ≤ 1048577 * 1048576 := Nat.mul_le_mul_right _ (by omega)
      go_wp2_with fail
      go_roundw
      case rel => exact ⟨i + 1, s + key.size, by omega, by simp, by simp, hss, trivial⟩
      case measure => simp only [intOf]; omega
    · obtain rfl : i = N := by omega
      by_cases h3 : i ≤ 300
      · by_cases h4 : s ≤ 1048576
        · go_wp2_with fail
          go_ret
          exact ⟨⟨_, rfl, fun e => h3⟩, rfl⟩
        · go_wp2_with fail
          go_ret
          exact ⟨⟨_, rfl, fun e => h3⟩, rfl⟩
      · go_wp2_with fail
        go_ret
        exact ⟨rfl, rfl⟩
/-- what a kind of call is asked for -/
def AskOk (kd : Int) : Prop := ∀ {w : World} {S mark : Nat} {d : Sd} {who : Nat → Option Nat} {R Q n m : Nat} (C : Cx w S mark d who R Q n m) (hmk : mark ≤ 900) (wh A B : Int) (key : ByteArray) (hk63 : key.size ≤ 1048576),
    Calls Try.prog 22 #[.pointer (some ⟨S, 0, none⟩), .pointer (some ⟨R, 0, none⟩), .pointer (some ⟨Q, 0, none⟩), .agg #[.int .i64 kd, .int .i64 wh, .int .i64 A, .int .i64 B, .string key]] w fun r w' => AskP w w' r S mark who
theorem askOk_1 : AskOk 1 := fun C hmk wh A B key hk => asked_1 C wh A B key (by omega)
theorem askOk_2 : AskOk 2 := fun C hmk wh A B key hk => asked_2 C hmk wh A B key
theorem askOk_3 : AskOk 3 := fun C hmk wh A B key hk => asked_3 C hmk wh A B key
theorem askOk_4 : AskOk 4 := fun C hmk wh A B key hk => asked_4 C hmk wh A B key
theorem askOk_5 : AskOk 5 := fun C hmk wh A B key hk => asked_5 C wh A B key
theorem Cb.fin {w0 w w' : World} {S mark : Nat} {d : Sd} {who : Nat → Option Nat} {R Q n m : Nat} (sh : Sh w S mark d who) (ap : Apart [] w0 w) (nb : ∀ k s, who k = some s → w0.heap.size ≤ k) (a : Apart (blks d.lf) w w') : Apart [] w0 w' :=
  ap.trans' a (fun y hy => .inr (by obtain ⟨i, hi⟩ := sh.tag hy; exact nb y _ hi))
set_option maxHeartbeats 8000000 in
set_option maxRecDepth 100000 in
theorem upTo_ok {w : World} {p : Option Addr} {N cap : Nat} {f : Nat → Aq} (h : Aks w p N f) (hN : N ≤ 1048576) (x y : Int) (lo hi : Int) (hask : ∀ kd, lo ≤ kd → kd ≤ hi → AskOk kd) :
    Calls Try.prog 18 #[.int .i64 x, .int .i64 y, .slice p N cap, .int .i64 lo, .int .i64 hi] w fun r w' => r = .returned (.bool true) ∧ Apart [] w w' := by
  have HK : Hid (Aks w p N f) := h
  have HA : Hid (∀ kd, lo ≤ kd → kd ≤ hi → AskOk kd) := hask
  clear hask
  go_enter Try.func18, Try.ntmps18
  go_wp2_with fail
  refine (fits_ok h hN).mono ?_
  rintro r w1 ⟨⟨v, rfl, hv⟩, rfl⟩
  dsimp only
  clear h
  cases v with
  | false =>
    go_wp2_with fail
    go_ret
    exact ⟨rfl, Apart.refl _ _⟩
  | true =>
    have hN3 := hv rfl
    clear hv
    go_wp2_with fail
    refine (alive_ok w1).mono ?_
    rintro r w2 ⟨rfl, a2⟩
    dsimp only
    go_wp2_with fail
    by_cases hxy : (1 ≤ x ∧ x ≤ 8) ∧ 1 ≤ y ∧ y ≤ 16
    · obtain ⟨n, rfl⟩ : ∃ n : Nat, x = (n : Int) := ⟨x.toNat, by omega⟩
      obtain ⟨m, rfl⟩ : ∃ m : Nat, y = (m : Int) := ⟨y.toNat, by omega⟩
      refine (made_ok n m (by omega) (by omega) (by omega) (by omega) w2).mono ?_
      rintro r w3 ⟨⟨R, Q, rfl, G1, G2, a3⟩⟩
      dsimp only
      obtain ⟨d, who, hCb⟩ := cb0 (a2.trans a3) G1 G2
      have HCb : Hid (Cb w1 (w3.alloc (.cells #[.slice none 0 0, .slice none 0 0, .int .i64 0, .slice none 0 0, .slice none 0 0] 53)) w3.heap.size 0 d who R Q n m) := hCb
      clear hCb G1 G2
      go_wp2_with fail
      generalize w3.heap.size = S at *
      go_loopw [16] (fun v wr => ∃ (i mark : Nat) (d : Sd) (who : Nat → Option Nat), i ≤ N ∧ v = .int .i64 i ∧ mark ≤ i ∧ Cb w1 wr S mark d who R Q n m) (fun v _ => N - (intOf v).toNat)
      case atStart => exact ⟨0, 0, d, who, Nat.zero_le _, rfl, Nat.le_refl _, HCb.out⟩
      case round =>
        clear HCb
        obtain ⟨i, mark, d, who, hi', rfl, hmi, hC⟩ := hrel
        have HC : Hid (Cb w1 wr S mark d who R Q n m) := hC
        clear hC
        by_cases hlt : i < N
        · obtain ⟨P, o, rfl, hP, hc⟩ := (HK.out.kept0 HC.out.ap).at' (by omega)
          obtain ⟨c0, c1, c2, c3, c4⟩ := hc i hlt
          have hz := HK.out.kz i hlt
          obtain ⟨⟨kd, wh, A, B, key⟩, HF⟩ : ∃ q : Aq, Hid (q = f i) := ⟨_, rfl⟩
          rw [← HF.out] at c0 c1 c2 c3 c4 hz
          simp only at c0 c1 c2 c3 c4 hz
          clear hc
          by_cases h1 : kd < lo
          · go_wp2_with fail
            go_roundw
            case rel => exact ⟨i + 1, mark, d, who, by omega, by simp, by omega, HC.out⟩
            case measure => simp only [intOf]; omega
          · by_cases h2 : kd > hi
            · go_wp2_with fail
              go_roundw
              case rel => exact ⟨i + 1, mark, d, who, by omega, by simp, by omega, HC.out⟩
              case measure => simp only [intOf]; omega
            · go_wp2_with fail
              refine (HA.out kd (by omega) (by omega) HC.out.cx (by omega) wh A B key hz).mono ?_
              intro r w4 hp
              obtain ⟨m4, d4, who4, hm4, cb4⟩ := HC.out.step hp
              obtain rfl := hp.ret
              clear hp
              dsimp only
              have H4 : Hid (Cb w1 w4 S m4 d4 who4 R Q n m) := cb4
              clear cb4 c0 c1 c2 c3 c4
              go_wp2_with fail
              go_roundw
              case rel => exact ⟨i + 1, m4, d4, who4, by omega, by simp, by omega, H4.out⟩
              case measure => simp only [intOf]; omega
        · obtain rfl : i = N := by omega
          go_wp2_with fail
          refine (apart_ok HC.out.cx.sh (by omega)).mono ?_
          rintro r w4 ⟨rfl, a4⟩
          dsimp only
          have hF : Apart [] w1 w4 := Cb.fin (R := R) (Q := Q) (n := n) (m := m) HC.out.cx.sh HC.out.ap HC.out.nb a4
          go_wp2_with fail
          go_ret
          exact ⟨rfl, hF⟩
    · refine (made_bad x y (by omega) w2).mono ?_
      rintro r w3 ⟨rfl, rfl⟩
      dsimp only
      have hSh := shelf0 w3
      have HSh : Hid _ := hSh
      clear hSh
      go_wp2_with fail
      have aA : Apart [] w3 (w3.alloc (.cells #[.slice none 0 0, .slice none 0 0, .int .i64 0, .slice none 0 0, .slice none 0 0] 53)) := (Apart.refl _ _).alloc _
      have A3 : Apart [] w1 (w3.alloc (.cells #[.slice none 0 0, .slice none 0 0, .int .i64 0, .slice none 0 0, .slice none 0 0] 53)) := a2.trans aA
      generalize w3.heap.size = S at *
      generalize w3.alloc (.cells #[.slice none 0 0, .slice none 0 0, .int .i64 0, .slice none 0 0, .slice none 0 0] 53) = V at *
      clear aA a2
      go_loopw [16] (fun v wr => v = .int .i64 0 ∧ wr = V) (fun _ _ => 0)
      case atStart => exact ⟨rfl, rfl⟩
      case round =>
        obtain ⟨rfl, rfl⟩ := hrel
        by_cases hN0 : N = 0
        · subst hN0
          go_wp2_with fail
          refine (apart_ok HSh.out (by omega)).mono ?_
          rintro r w4 ⟨rfl, a4⟩
          dsimp only
          go_wp2_with fail
          go_ret
          exact ⟨rfl, A3.trans a4⟩
        · have hN1 : 0 < N := by omega
          go_wp2_with fail
          refine (apart_ok HSh.out (by omega)).mono ?_
          rintro r w4 ⟨rfl, a4⟩
          dsimp only
          go_wp2_with fail
          go_ret
          exact ⟨rfl, A3.trans a4⟩
theorem eq_of_le {a b : Int} (h1 : a ≤ b) (h2 : b ≤ a) : b = a := by omega
set_option maxHeartbeats 2000000 in
theorem order_walk {w : World} {p : Option Addr} {N cap : Nat} {f : Nat → Aq} (h : Aks w p N f) (hN : N ≤ 1048576) (x y : Int) :
    Calls Try.prog 6 #[.int .i64 x, .int .i64 y, .slice p N cap] w fun r w' => r = .returned (.bool true) ∧ Apart [] w w' := by
  have HK : Hid (Aks w p N f) := h
  have u1 := upTo_ok (cap := cap) h hN x y 2 2 (fun kd h1 h2 => by obtain rfl := eq_of_le h1 h2; exact askOk_2)
  clear h
  go_enter Try.func6, Try.ntmps6
  go_wp2_with fail
  refine u1.mono ?_
  clear u1
  rintro r w1 ⟨rfl, a1⟩
  dsimp only
  have u2 := upTo_ok (cap := cap) (HK.out.kept0 a1) hN x y 5 5 (fun kd h1 h2 => by obtain rfl := eq_of_le h1 h2; exact askOk_5)
  go_wp2_with fail
  refine u2.mono ?_
  clear u2
  rintro r w2 ⟨rfl, a2⟩
  dsimp only
  go_wp2_with fail
  go_ret
  exact ⟨rfl, a1.trans a2⟩
set_option maxHeartbeats 2000000 in
theorem parts_walk {w : World} {p : Option Addr} {N cap : Nat} {f : Nat → Aq} (h : Aks w p N f) (hN : N ≤ 1048576) (x y : Int) :
    Calls Try.prog 7 #[.int .i64 x, .int .i64 y, .slice p N cap] w fun r w' => r = .returned (.bool true) ∧ Apart [] w w' := by
  have u1 := upTo_ok (cap := cap) h hN x y 3 4 (fun kd h1 h2 => by
    rcases (show kd = 3 ∨ kd = 4 by omega) with rfl | rfl
    · exact askOk_3
    · exact askOk_4)
  clear h
  go_enter Try.func7, Try.ntmps7
  go_wp2_with fail
  refine u1.mono ?_
  clear u1
  rintro r w1 ⟨rfl, a1⟩
  dsimp only
  go_wp2_with fail
  go_ret
  exact ⟨rfl, a1⟩
end Go.Proofs.Ytagjmpdimphfaaa.rg
