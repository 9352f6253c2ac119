import Derived.Test.YtiakcfjbnlibfaaT78
namespace Go.Proofs.Ytiakcfjbnlibfaa.nt
open Go.ChangeShapes Go.WideShapes Go.ChangeAt Go.RowKit
set_option linter.unusedVariables false
set_option linter.unusedSimpArgs false
theorem PQ.base {wb wa w : World} {P : Nat} {p : Px} {who : Nat → Option Nat} {l : Nat → List Value} (h : PQ wa w P p who l) (a : Apart [] wb wa) : PQ wb w P p who l := by
  have s := a.size
  exact ⟨h.sm, fun k t e => Nat.le_trans s (h.lo k t e), a.trans h.ap,
    ⟨⟨h.bt.b.blk, Nat.le_trans s h.bt.b.hB, ⟨h.bt.b.row.own, fun k hk => Nat.le_trans s (h.bt.b.row.new k hk), a.trans h.bt.b.row.ap⟩, h.bt.b.len, h.bt.b.xl, h.bt.b.le, h.bt.b.rd⟩, h.bt.wB, h.bt.wS, h.bt.wL⟩,
    ⟨⟨h.rt.b.blk, Nat.le_trans s h.rt.b.hB, ⟨h.rt.b.row.own, fun k hk => Nat.le_trans s (h.rt.b.row.new k hk), a.trans h.rt.b.row.ap⟩, h.rt.b.len, h.rt.b.xl, h.rt.b.le, h.rt.b.rd⟩, h.rt.wB, h.rt.wS, h.rt.wL⟩, h.ln, h.an⟩
/-- a pair, or none -/
def Side (wa w : World) (v : Value) (who : Nat → Option Nat) (K : Nat) : Prop :=
  (v = .pointer none ∧ ∀ k, who k = none) ∨ ∃ P p, v = .pointer (some ⟨P, 0, none⟩) ∧ PQ wa w P p who p.x.cof ∧ PI p K
theorem Side.lo {wa w : World} {v : Value} {who : Nat → Option Nat} {K : Nat} (h : Side wa w v who K) : ∀ k t, who k = some t → wa.heap.size ≤ k ∧ k < w.heap.size := fun k t e => by
  rcases h with ⟨_, h⟩ | ⟨P, p, _, h, _⟩
  · rw [h k] at e; cases e
  · exact ⟨h.lo k t e, h.sm.own k t e⟩
theorem Side.up {wa w : World} {v : Value} {who : Nat → Option Nat} {K : Nat} (h : Side wa w v who K) : Side wa w v who (K + 1) := by
  rcases h with h | ⟨P, p, e, h, i⟩
  · exact .inl h
  · exact .inr ⟨P, p, e, h, i.up⟩
theorem Side.other {wa w w' : World} {v : Value} {who who1 who1' : Nat → Option Nat} {K : Nat} (h : Side wa w v who K) (st : Stp w w' who1 who1' none) (hd : ∀ k, who1 k = none ∨ who k = none) (lo : ∀ k t, who1 k = some t → wa.heap.size ≤ k) (sz : wa.heap.size ≤ w.heap.size) : Side wa w' v who K ∧ ∀ k, who1' k = none ∨ who k = none := by
  refine ⟨?_, fun k => ?_⟩
  · rcases h with h | ⟨P, p, e, h, i⟩
    · exact .inl h
    · obtain ⟨X, a, hX⟩ := st.ap
      refine .inr ⟨P, p, e, h.keptN a (fun k hk => ?_) (fun k hk => ?_), i⟩
      · rcases hX k hk with e | e | e
        · rcases hd k with d | d
          · exact absurd d e
          · exact d
        · exact h.free e
        · cases e
      · rcases hX k hk with e | e | e
        · cases ew : who1 k with
          | none => exact absurd ew e
          | some t => exact lo k t ew
        · omega
        · cases e
  · cases e : who1' k with
    | none => exact .inl rfl
    | some t =>
      right
      rcases st.new k t e with e | e | e
      · rcases hd k with d | d
        · rw [d] at e; cases e
        · exact d
      · cases ew : who k with
        | none => rfl
        | some s => have := (h.lo k s ew).2; omega
      · cases e
/-- both sides -/
structure J (wa w : World) (u v : Value) (K : Nat) : Prop where
  ex : ∃ who1 who2, Side wa w u who1 K ∧ Side wa w v who2 K ∧ (∀ k, who1 k = none ∨ who2 k = none) ∧ Apart [] wa w
theorem J.swap {wa w : World} {u v : Value} {K : Nat} (h : J wa w u v K) : J wa w v u K := by
  obtain ⟨a, b, h1, h2, hd, ap⟩ := h.ex
  exact ⟨b, a, h2, h1, fun k => (hd k).symm, ap⟩
theorem J.up {wa w : World} {u v : Value} {K : Nat} (h : J wa w u v K) : J wa w u v (K + 1) := by
  obtain ⟨a, b, h1, h2, hd, ap⟩ := h.ex
  exact ⟨a, b, h1.up, h2.up, hd, ap⟩
theorem J.ap {wa w : World} {u v : Value} {K : Nat} (h : J wa w u v K) : Apart [] wa w := by
  obtain ⟨a, b, h1, h2, hd, ap⟩ := h.ex; exact ap
theorem ptr_inj {P Q : Nat} (h : Value.pointer (some ⟨P, 0, none⟩) = .pointer (some ⟨Q, 0, none⟩)) : P = Q := by simpa using h
theorem J.play {wa w : World} {P : Nat} {v : Value} {K : Nat} {w0 : World} {s : Sl} {os : List OpC} (h : J wa w (.pointer (some ⟨P, 0, none⟩)) v K) (hin : InO w0 s os) (a0 : Apart [] w0 wa) {k : Nat} (hk : k < s.n) (hK : K ≤ 50000) : Calls Try.prog 25 #[.pointer (some ⟨P, 0, none⟩), (gO os k).agg] w fun r w' => r = .returned (.bool true) ∧ J wa w' (.pointer (some ⟨P, 0, none⟩)) v (K + 1) := by
  obtain ⟨who1, who2, h1, h2, hd, ap⟩ := h.ex
  have lo1 := h1.lo
  rcases h1 with ⟨e, _⟩ | ⟨P', p, e, hq, hi⟩
  · cases e
  have e := ptr_inj e
  subst e
  have sc := hin.scr a0 ap (fun k t e => (lo1 k t e).1)
  obtain ⟨hr, hln⟩ := LS.reads (Stp.refl w who1 none) sc hk
  refine (plays_ok hq hi hK (gO os k) hr hln).mono (fun r w' hh => ?_)
  obtain ⟨rfl, hh⟩ := hh
  obtain ⟨who', p', hq', hi', _, st⟩ := hh.ex
  obtain ⟨h2', hd'⟩ := h2.up.other st hd (fun k t e => (lo1 k t e).1) ap.size
  exact ⟨rfl, who', who2, .inr ⟨P, p', rfl, hq', hi'⟩, h2', hd', hq'.ap⟩
theorem J.stand {wa w : World} {P : Nat} {v : Value} {K : Nat} (h : J wa w (.pointer (some ⟨P, 0, none⟩)) v K) (hK : K ≤ 100000) : Calls Try.prog 26 #[.pointer (some ⟨P, 0, none⟩)] w fun r w' => r = .returned (.bool true) ∧ J wa w' (.pointer (some ⟨P, 0, none⟩)) v K := by
  obtain ⟨who1, who2, h1, h2, hd, ap⟩ := h.ex
  have lo1 := h1.lo
  rcases h1 with ⟨e, _⟩ | ⟨P', p, e, hq, hi⟩
  · cases e
  have e := ptr_inj e
  subst e
  refine (stands_ok hq (fun e he => by have := hi.km e he; omega) hi.kb hi.ki).mono (fun r w' hh => ?_)
  obtain ⟨rfl, a⟩ := hh
  obtain ⟨h2', hd'⟩ := h2.other (Stp.ap0 a : Stp w w' who1 who1 none) hd (fun k t e => (lo1 k t e).1) ap.size
  exact ⟨rfl, who1, who2, .inr ⟨P, p, rfl, hq.kept0 a, hi⟩, h2', hd', ap.trans a⟩
/-- one side alone -/
structure J1 (wa w : World) (v : Value) (K : Nat) : Prop where
  ex : ∃ who, Side wa w v who K ∧ Apart [] wa w
theorem J.one {wa w : World} {u v : Value} {K : Nat} (h : J wa w u v K) : J1 wa w v K := by
  obtain ⟨who1, who2, h1, h2, hd, ap⟩ := h.ex
  exact ⟨who2, h2, ap⟩
theorem J.apart {wa w : World} {P : Nat} {v : Value} {K : Nat} (h : J wa w (.pointer (some ⟨P, 0, none⟩)) v K) (hK : K ≤ 4000) : Calls Try.prog 27 #[.pointer (some ⟨P, 0, none⟩)] w fun r w' => r = .returned (.bool true) ∧ J1 wa w' v K := by
  obtain ⟨who1, who2, h1, h2, hd, ap⟩ := h.ex
  have lo1 := h1.lo
  rcases h1 with ⟨e, _⟩ | ⟨P', p, e, hq, hi⟩
  · cases e
  have e := ptr_inj e
  subst e
  refine (apart_ok hq (by have := hi.lf; omega) (by have := hi.nm; omega) hi.ll hi.nl).mono (fun r w' hh => ?_)
  obtain ⟨rfl, s⟩ := hh
  obtain ⟨h2', _⟩ := h2.other s hd (fun k t e => (lo1 k t e).1) ap.size
  exact ⟨rfl, who2, h2', s.apart0 ap (fun k t e => (lo1 k t e).1)⟩
theorem J1.apart {wa w : World} {P : Nat} {K : Nat} (h : J1 wa w (.pointer (some ⟨P, 0, none⟩)) K) (hK : K ≤ 4000) : Calls Try.prog 27 #[.pointer (some ⟨P, 0, none⟩)] w fun r w' => r = .returned (.bool true) ∧ Apart [] wa w' := by
  obtain ⟨who1, h1, ap⟩ := h.ex
  rcases h1 with ⟨e, _⟩ | ⟨P', p, e, hq, hi⟩
  · cases e
  have e := ptr_inj e
  subst e
  refine (apart_ok hq (by have := hi.lf; omega) (by have := hi.nm; omega) hi.ll hi.nl).mono (fun r w' hh => ?_)
  obtain ⟨rfl, s⟩ := hh
  exact ⟨rfl, s.apart0 ap hq.lo⟩
theorem J1.ap {wa w : World} {v : Value} {K : Nat} (h : J1 wa w v K) : Apart [] wa w := by
  obtain ⟨_, _, a⟩ := h.ex; exact a
/-- made, as a side -/
structure M3 (w w' : World) (r : Ending) : Prop where
  ex : ∃ u who, r = .returned (.tuple #[u, .bool true]) ∧ Side w w' u who 0 ∧ Apart [] w w'
theorem made3 (w : World) (room : Int) : Calls Try.prog 24 #[.int .i64 room] w fun r w' => M3 w w' r := by
  refine (made2 w room).mono (fun r w' hh => ?_)
  rcases hh.ex with hr | ⟨P, Bg, Rg, who, hr, hq, hroom⟩
  · exact ⟨_, fun _ => none, hr, .inl ⟨rfl, fun _ => rfl⟩, hh.ap⟩
  · exact ⟨_, who, hr, .inr ⟨P, _, rfl, hq, PI.new Bg Rg room hroom⟩, hh.ap⟩
theorem J.start {wa w1 w2 : World} {u v : Value} {who1 who2 : Nat → Option Nat} (h1 : Side wa w1 u who1 0) (a1 : Apart [] wa w1) (h2 : Side w1 w2 v who2 0) (a2 : Apart [] w1 w2) : J wa w2 u v 0 := by
  have lo1 := h1.lo
  have lo2 := h2.lo
  refine ⟨who1, who2, ?_, ?_, fun k => ?_, a1.trans a2⟩
  · rcases h1 with h | ⟨P, p, e, h, i⟩
    · exact .inl h
    · exact .inr ⟨P, p, e, h.kept0 a2, i⟩
  · rcases h2 with h | ⟨P, p, e, h, i⟩
    · exact .inl h
    · exact .inr ⟨P, p, e, h.base a1, i⟩
  · cases e1 : who1 k with
    | none => exact .inl rfl
    | some t =>
      right
      cases e2 : who2 k with
      | none => rfl
      | some s => have := (lo1 k t e1).2; have := (lo2 k s e2).1; omega
theorem Side.val {wa w : World} {v : Value} {who : Nat → Option Nat} {K : Nat} (h : Side wa w v who K) : v = .pointer none ∨ ∃ P, v = .pointer (some ⟨P, 0, none⟩) := by
  rcases h with ⟨e, _⟩ | ⟨P, p, e, _⟩
  · exact .inl e
  · exact .inr ⟨P, e⟩
theorem tm2 (x : Int) : x.tmod 2 = 0 ∨ x.tmod 2 = 1 ∨ x.tmod 2 = -1 := by
  rcases Int.le_total 0 x with h | h
  · rw [Int.tmod_eq_emod_of_nonneg h]; omega
  · have e : x = -(-x) := by omega
    rw [e, Int.neg_tmod, Int.tmod_eq_emod_of_nonneg (by omega)]; omega
set_option maxHeartbeats 16000000 in
set_option maxRecDepth 100000 in
theorem all_walk (w : World) (sp : Option Addr) (sn sc : Nat) (os : List OpC) (hin : InO w ⟨sp, sn, sc⟩ os) (hsn : sn ≤ 1048576) (room other : Int) :
    Calls Try.prog 6 #[.int .i64 room, .int .i64 other, .slice sp sn sc] w fun r w' => r = .returned (.bool true) ∧ Apart [] w w' := by
  have hFit := fits_ok w sp sn sc os hin hsn
  have HI := hid hin
  clear hin
  go_enter Try.func6, Try.ntmps6
  go_wp2_with fail
  refine hFit.mono ?_
  clear hFit
  rintro _ w1 ⟨b, rfl, hb, a1⟩
  have HA1 := hid a1
  have HBt := hid hb
  clear a1 hb
  cases b with
  | false =>
    dsimp only
    go_wp2
    go_ret
    exact ⟨rfl, HA1.out⟩
  | true =>
    have hs2 : sn ≤ 2000 := HBt.out rfl
    clear HBt hsn
    dsimp only
    go_wp2_with fail
    refine (alive_ok w1).mono ?_
    rintro _ w2 ⟨rfl, a2⟩
    have HA2 := hid (HA1.out.trans a2)
    clear a2 HA1
    dsimp only
    go_wp2_with fail
    refine (made3 w2 room).mono ?_
    rintro _ w3 hh
    obtain ⟨u, who1, rfl, h1, a3⟩ := hh.ex
    clear hh
    have HS1 := hid h1
    have HA3 := hid a3
    clear h1 a3
    dsimp only
    go_wp2_with fail
    refine (made3 w3 other).mono ?_
    rintro _ w4 hh
    obtain ⟨v, who2, rfl, h2, a4⟩ := hh.ex
    clear hh
    have hu := HS1.out.val
    have hv := h2.val
    have HU := hid hu
    have HV := hid hv
    have HJ0 := hid (J.start HS1.out HA3.out h2 a4)
    clear h2 a4 hu hv HS1 HA3
    dsimp only
    go_wp2_with fail
    go_loopw [12] (fun x wr => ∃ k : Nat, x = .int .i64 (k : Nat) ∧ k ≤ sn ∧ J w2 wr u v k) (fun x _ => sn - (intOf x).toNat)
    case atStart => exact ⟨0, rfl, Nat.zero_le _, HJ0.out⟩
    case round =>
      obtain ⟨k, rfl, hk, hJ⟩ := hrel
      have HJ := hid hJ
      clear hJ HJ0
      rcases HU.out with hu | ⟨P, hu⟩ <;> rcases HV.out with hv | ⟨Q, hv⟩ <;> (subst hu; subst hv; clear HU HV)
      · by_cases hlt : k < sn
        · obtain ⟨A, o, hsp, c0, c1, c2, c3, c4, c5, c6⟩ := HI.out.cells (HA2.out.trans HJ.out.ap) (k := k) hlt
          dsimp only at hsp
          subst hsp
          have hkz : ((k : Nat) : Int) < ((sn : Nat) : Int) := by omega
          rcases tm2 (gO os k).w with ht | ht | ht
          · generalize gO os k = oo at *
            have HJ' := hid HJ.out.up
            go_wp2_with fail
            go_roundw
            case rel => exact ⟨k + 1, by go_num, by omega, HJ'.out⟩
            case measure => simp [intOf]; omega
          · generalize gO os k = oo at *
            have HJ' := hid HJ.out.up
            go_wp2_with fail
            go_roundw
            case rel => exact ⟨k + 1, by go_num, by omega, HJ'.out⟩
            case measure => simp [intOf]; omega
          · generalize gO os k = oo at *
            have HJ' := hid HJ.out.up
            go_wp2_with fail
            go_roundw
            case rel => exact ⟨k + 1, by go_num, by omega, HJ'.out⟩
            case measure => simp [intOf]; omega
        · obtain rfl : sn = k := by omega
          have hkz : ¬ ((sn : Int) < (sn : Int)) := by omega
          have H8 := hid HJ.out.one
          have H9 := hid (HA2.out.trans H8.out.ap)
          go_wp2
          go_ret
          exact ⟨rfl, H9.out⟩
      · by_cases hlt : k < sn
        · obtain ⟨A, o, hsp, c0, c1, c2, c3, c4, c5, c6⟩ := HI.out.cells (HA2.out.trans HJ.out.ap) (k := k) hlt
          dsimp only at hsp
          subst hsp
          have hkz : ((k : Nat) : Int) < ((sn : Nat) : Int) := by omega
          rcases tm2 (gO os k).w with ht | ht | ht
          · generalize gO os k = oo at *
            have hJ := HJ.out.up
            have hst := hJ.swap.stand (by omega)
            clear hJ
            try dsimp only
            go_wp2_with fail
            refine hst.mono ?_
            clear hst
            rintro _ w7 ⟨rfl, hJ'⟩
            have hJ := hJ'.swap
            clear hJ'
            have HJ' := hid hJ
            clear hJ
            try dsimp only
            go_wp2_with fail
            go_roundw
            case rel => exact ⟨k + 1, by go_num, by omega, HJ'.out⟩
            case measure => simp [intOf]; omega
          · have hpl := HJ.out.swap.play HI.out HA2.out (k := k) hlt (by omega)
            unfold OpC.agg Sl.v at hpl
            have HPL := hid hpl
            clear hpl
            generalize hoo : gO os k = oo at c0 c1 c2 c3 c4 c5 c6 ht HPL
            have HOO := hid hoo
            clear hoo
            go_wp2_with fail
            refine HPL.out.mono ?_
            clear HPL
            rintro _ w5 ⟨rfl, hJ'⟩
            have hJ := hJ'.swap
            clear hJ'
            clear HJ c0 c1 c2 c3 c4 c5 c6
            have hst := hJ.swap.stand (by omega)
            clear hJ
            try dsimp only
            go_wp2_with fail
            refine hst.mono ?_
            clear hst
            rintro _ w7 ⟨rfl, hJ'⟩
            have hJ := hJ'.swap
            clear hJ'
            have HJ' := hid hJ
            clear hJ
            try dsimp only
            go_wp2_with fail
            go_roundw
            case rel => exact ⟨k + 1, by go_num, by omega, HJ'.out⟩
            case measure => simp [intOf]; omega
          · have hpl := HJ.out.swap.play HI.out HA2.out (k := k) hlt (by omega)
            unfold OpC.agg Sl.v at hpl
            have HPL := hid hpl
            clear hpl
            generalize hoo : gO os k = oo at c0 c1 c2 c3 c4 c5 c6 ht HPL
            have HOO := hid hoo
            clear hoo
            go_wp2_with fail
            refine HPL.out.mono ?_
            clear HPL
            rintro _ w5 ⟨rfl, hJ'⟩
            have hJ := hJ'.swap
            clear hJ'
            clear HJ c0 c1 c2 c3 c4 c5 c6
            have hst := hJ.swap.stand (by omega)
            clear hJ
            try dsimp only
            go_wp2_with fail
            refine hst.mono ?_
            clear hst
            rintro _ w7 ⟨rfl, hJ'⟩
            have hJ := hJ'.swap
            clear hJ'
            have HJ' := hid hJ
            clear hJ
            try dsimp only
            go_wp2_with fail
            go_roundw
            case rel => exact ⟨k + 1, by go_num, by omega, HJ'.out⟩
            case measure => simp [intOf]; omega
        · obtain rfl : sn = k := by omega
          have hkz : ¬ ((sn : Int) < (sn : Int)) := by omega
          have H8 := hid HJ.out.one
          go_wp2_with fail
          refine (H8.out.apart (by omega)).mono ?_
          rintro _ w9 ⟨rfl, a9⟩
          have H9 := hid (HA2.out.trans a9)
          clear a9
          dsimp only
          go_wp2
          go_ret
          exact ⟨rfl, H9.out⟩
      · by_cases hlt : k < sn
        · obtain ⟨A, o, hsp, c0, c1, c2, c3, c4, c5, c6⟩ := HI.out.cells (HA2.out.trans HJ.out.ap) (k := k) hlt
          dsimp only at hsp
          subst hsp
          have hkz : ((k : Nat) : Int) < ((sn : Nat) : Int) := by omega
          rcases tm2 (gO os k).w with ht | ht | ht
          · have hpl := HJ.out.play HI.out HA2.out (k := k) hlt (by omega)
            unfold OpC.agg Sl.v at hpl
            have HPL := hid hpl
            clear hpl
            generalize hoo : gO os k = oo at c0 c1 c2 c3 c4 c5 c6 ht HPL
            have HOO := hid hoo
            clear hoo
            go_wp2_with fail
            refine HPL.out.mono ?_
            clear HPL
            rintro _ w5 ⟨rfl, hJ⟩
            obtain ⟨A', o', hsp', _, d1, _⟩ := HI.out.cells (HA2.out.trans hJ.ap) (k := k) hlt
            simp at hsp'
            obtain ⟨rfl, rfl⟩ := hsp'
            rw [HOO.out] at d1
            clear HJ c0 c1 c2 c3 c4 c5 c6
            have hst := hJ.stand (by omega)
            clear hJ
            try dsimp only
            go_wp2_with fail
            refine hst.mono ?_
            clear hst
            rintro _ w6 ⟨rfl, hJ⟩
            have HJ' := hid hJ
            clear hJ
            try dsimp only
            go_wp2_with fail
            go_roundw
            case rel => exact ⟨k + 1, by go_num, by omega, HJ'.out⟩
            case measure => simp [intOf]; omega
          · generalize gO os k = oo at *
            have hJ := HJ.out.up
            have hst := hJ.stand (by omega)
            clear hJ
            try dsimp only
            go_wp2_with fail
            refine hst.mono ?_
            clear hst
            rintro _ w6 ⟨rfl, hJ⟩
            have HJ' := hid hJ
            clear hJ
            try dsimp only
            go_wp2_with fail
            go_roundw
            case rel => exact ⟨k + 1, by go_num, by omega, HJ'.out⟩
            case measure => simp [intOf]; omega
          · generalize gO os k = oo at *
            have hJ := HJ.out.up
            have hst := hJ.stand (by omega)
            clear hJ
            try dsimp only
            go_wp2_with fail
            refine hst.mono ?_
            clear hst
            rintro _ w6 ⟨rfl, hJ⟩
            have HJ' := hid hJ
            clear hJ
            try dsimp only
            go_wp2_with fail
            go_roundw
            case rel => exact ⟨k + 1, by go_num, by omega, HJ'.out⟩
            case measure => simp [intOf]; omega
        · obtain rfl : sn = k := by omega
          have hkz : ¬ ((sn : Int) < (sn : Int)) := by omega
          go_wp2_with fail
          refine (HJ.out.apart (by omega)).mono ?_
          rintro _ w8 ⟨rfl, h8⟩
          have H8 := hid h8
          clear h8
          dsimp only
          have H9 := hid (HA2.out.trans H8.out.ap)
          go_wp2
          go_ret
          exact ⟨rfl, H9.out⟩
      · by_cases hlt : k < sn
        · obtain ⟨A, o, hsp, c0, c1, c2, c3, c4, c5, c6⟩ := HI.out.cells (HA2.out.trans HJ.out.ap) (k := k) hlt
          dsimp only at hsp
          subst hsp
          have hkz : ((k : Nat) : Int) < ((sn : Nat) : Int) := by omega
          rcases tm2 (gO os k).w with ht | ht | ht
          · have hpl := HJ.out.play HI.out HA2.out (k := k) hlt (by omega)
            unfold OpC.agg Sl.v at hpl
            have HPL := hid hpl
            clear hpl
            generalize hoo : gO os k = oo at c0 c1 c2 c3 c4 c5 c6 ht HPL
            have HOO := hid hoo
            clear hoo
            go_wp2_with fail
            refine HPL.out.mono ?_
            clear HPL
            rintro _ w5 ⟨rfl, hJ⟩
            obtain ⟨A', o', hsp', _, d1, _⟩ := HI.out.cells (HA2.out.trans hJ.ap) (k := k) hlt
            simp at hsp'
            obtain ⟨rfl, rfl⟩ := hsp'
            rw [HOO.out] at d1
            clear HJ c0 c1 c2 c3 c4 c5 c6
            have hst := hJ.stand (by omega)
            clear hJ
            try dsimp only
            go_wp2_with fail
            refine hst.mono ?_
            clear hst
            rintro _ w6 ⟨rfl, hJ⟩
            have hst := hJ.swap.stand (by omega)
            clear hJ
            try dsimp only
            go_wp2_with fail
            refine hst.mono ?_
            clear hst
            rintro _ w7 ⟨rfl, hJ'⟩
            have hJ := hJ'.swap
            clear hJ'
            have HJ' := hid hJ
            clear hJ
            try dsimp only
            go_wp2_with fail
            go_roundw
            case rel => exact ⟨k + 1, by go_num, by omega, HJ'.out⟩
            case measure => simp [intOf]; omega
          · have hpl := HJ.out.swap.play HI.out HA2.out (k := k) hlt (by omega)
            unfold OpC.agg Sl.v at hpl
            have HPL := hid hpl
            clear hpl
            generalize hoo : gO os k = oo at c0 c1 c2 c3 c4 c5 c6 ht HPL
            have HOO := hid hoo
            clear hoo
            go_wp2_with fail
            refine HPL.out.mono ?_
            clear HPL
            rintro _ w5 ⟨rfl, hJ'⟩
            have hJ := hJ'.swap
            clear hJ'
            clear HJ c0 c1 c2 c3 c4 c5 c6
            have hst := hJ.stand (by omega)
            clear hJ
            try dsimp only
            go_wp2_with fail
            refine hst.mono ?_
            clear hst
            rintro _ w6 ⟨rfl, hJ⟩
            have hst := hJ.swap.stand (by omega)
            clear hJ
            try dsimp only
            go_wp2_with fail
            refine hst.mono ?_
            clear hst
            rintro _ w7 ⟨rfl, hJ'⟩
            have hJ := hJ'.swap
            clear hJ'
            have HJ' := hid hJ
            clear hJ
            try dsimp only
            go_wp2_with fail
            go_roundw
            case rel => exact ⟨k + 1, by go_num, by omega, HJ'.out⟩
            case measure => simp [intOf]; omega
          · have hpl := HJ.out.swap.play HI.out HA2.out (k := k) hlt (by omega)
            unfold OpC.agg Sl.v at hpl
            have HPL := hid hpl
            clear hpl
            generalize hoo : gO os k = oo at c0 c1 c2 c3 c4 c5 c6 ht HPL
            have HOO := hid hoo
            clear hoo
            go_wp2_with fail
            refine HPL.out.mono ?_
            clear HPL
            rintro _ w5 ⟨rfl, hJ'⟩
            have hJ := hJ'.swap
            clear hJ'
            clear HJ c0 c1 c2 c3 c4 c5 c6
            have hst := hJ.stand (by omega)
            clear hJ
            try dsimp only
            go_wp2_with fail
            refine hst.mono ?_
            clear hst
            rintro _ w6 ⟨rfl, hJ⟩
            have hst := hJ.swap.stand (by omega)
            clear hJ
            try dsimp only
            go_wp2_with fail
            refine hst.mono ?_
            clear hst
            rintro _ w7 ⟨rfl, hJ'⟩
            have hJ := hJ'.swap
            clear hJ'
            have HJ' := hid hJ
            clear hJ
            try dsimp only
            go_wp2_with fail
            go_roundw
            case rel => exact ⟨k + 1, by go_num, by omega, HJ'.out⟩
            case measure => simp [intOf]; omega
        · obtain rfl : sn = k := by omega
          have hkz : ¬ ((sn : Int) < (sn : Int)) := by omega
          go_wp2_with fail
          refine (HJ.out.apart (by omega)).mono ?_
          rintro _ w8 ⟨rfl, h8⟩
          have H8 := hid h8
          clear h8
          dsimp only
          go_wp2_with fail
          refine (H8.out.apart (by omega)).mono ?_
          rintro _ w9 ⟨rfl, a9⟩
          have H9 := hid (HA2.out.trans a9)
          clear a9
          dsimp only
          go_wp2
          go_ret
          exact ⟨rfl, H9.out⟩
end Go.Proofs.Ytiakcfjbnlibfaa.nt
