import Derived.Test.YtmdjjigiipboaaaDoorMet
import Derived.Test.YtmdjjigiipboaaaDoorRm
namespace Go.Proofs.YtmdjjigiipboaaaDoor.ds
open Go.ChangeShapes Go.WideShapes Go.ChangeAt Go.RowKit
set_option linter.unusedVariables false
set_option linter.unusedSimpArgs false
/-- on the way: as many met as lie before -/
structure Jw (Bs : Nat) (p : Option Addr) (n c : Nat) (st : Int) (ds pre : List (Int × Int)) (W : World) : Prop where
  wk : Wk W Bs p n c st (pre.length : Nat) false false
  lt : pre.length < 300
  pre : pre <+: ds
/-- left -/
structure Jl (Bs : Nat) (p : Option Addr) (n c : Nat) (st : Int) (all pre : List (Int × Int)) (W : World) : Prop where
  wk : ∃ (k : Nat) (bd : Bool), Wk W Bs p n c st k true bd ∧ (pre <+: all → bd = false)
theorem client_w (Bs : Nat) (p : Option Addr) (n c : Nat) (st : Int) (ds all : List (Int × Int)) : Client (fun k => k = Bs) (Jw Bs p n c st ds) (Jl Bs p n c st all) :=
  ⟨fun pre A B h _ e => ⟨h.wk.same (e Bs rfl), h.lt, h.pre⟩, fun pre A B h _ e => by
    obtain ⟨⟨k, bd, hw, hb⟩⟩ := h
    exact ⟨k, bd, hw.same (e Bs rfl), hb⟩⟩
theorem pre_get {pre ds : List (Int × Int)} (h : pre <+: ds) (hk : pre.length < ds.length) : pre ++ [ds.getD pre.length (0, 0)] <+: ds := by
  obtain ⟨t, rfl⟩ := h
  cases t with
  | nil => simp at hk
  | cons a t =>
    have : (pre ++ a :: t).getD pre.length (0, 0) = a := by simp [List.getD]
    rw [this]
    exact ⟨t, by simp⟩
theorem get_pre {pre ds : List (Int × Int)} {d : Int × Int} (h : pre ++ [d] <+: ds) : pre.length < ds.length ∧ ds.getD pre.length (0, 0) = d := by
  obtain ⟨t, rfl⟩ := h
  refine ⟨by simp, by simp [List.getD]⟩
theorem LD.fr {w w' : World} {p : Option Addr} {N : Nat} {ds : List (Int × Int)} {K : Nat → Prop} (h : LD w p N ds) (f : Fr K w w') (hK : ∀ P o, p = some ⟨P, o, none⟩ → K P) : LD w' p N ds := by
  refine ⟨h.len, h.lim, fun h0 => ?_⟩
  obtain ⟨P, o, rfl, hP, hc⟩ := h.at' h0
  have e : ∀ j, w'.cell? ⟨P, j, none⟩ = w.cell? ⟨P, j, none⟩ := fun j => World.cell?_of_block (a := ⟨P, j, none⟩) (f.block P hP (hK P o rfl))
  exact ⟨P, o, rfl, Nat.lt_of_lt_of_le hP f.size, fun i hi => by rw [e, e]; exact hc i hi⟩
/-- what a call of met does to what lies before -/
theorem met_j {W W' : World} {Bs : Nat} {p : Option Addr} {n c : Nat} {st : Int} {all pre : List (Int × Int)} {d : Int × Int} {hit en : Bool} {r : Ending} (hn : n = (all.take 300).length) (hj : Jw Bs p n c st (all.take 300) pre W) (hh : hit = decide (pre.length < n ∧ (all.take 300).getD pre.length (0, 0) = d)) (he : en = (decide ((pre.length : Int) + 1 = st) || decide ((pre.length : Int) + 1 = 300))) (m : MetP W W' r Bs p n c st pre.length hit en) :
    ((r = .returned (.bool true) ∧ Jw Bs p n c st (all.take 300) (pre ++ [d]) W') ∨ (r = .returned (.bool false) ∧ Jl Bs p n c st all (pre ++ [d]) W')) ∧ Fr (fun k => ¬ k = Bs) W W' := by
  obtain ⟨⟨rfl, F, h1, h2⟩⟩ := m
  refine ⟨?_, F⟩
  cases hit
  · right
    refine ⟨rfl, pre.length, true, h2 rfl, fun hp => ?_⟩
    exfalso
    have hp3 : pre ++ [d] <+: all.take 300 := List.prefix_take_iff.2 ⟨hp, by have := hj.lt; simp; omega⟩
    obtain ⟨g1, g2⟩ := get_pre hp3
    have := of_decide_eq_false hh.symm
    exact this ⟨by omega, g2⟩
  · obtain ⟨g1, g2⟩ := of_decide_eq_true hh.symm
    have gp := pre_get hj.pre (by omega)
    rw [g2] at gp
    cases en
    · left
      have h3 : ¬ ((pre.length : Int) + 1 = 300) := fun h => by rw [decide_eq_true h] at he; simp at he
      have := hj.lt
      exact ⟨rfl, by have := h1 rfl; simpa using this, by simp; omega, gp⟩
    · right
      exact ⟨rfl, pre.length + 1, false, h1 rfl, fun _ => rfl⟩
set_option maxHeartbeats 4000000 in
set_option maxRecDepth 100000 in
theorem gone1_ok {W : World} {BO Bs : Nat} {p : Option Addr} {n c : Nat} {st : Int} {all pre : List (Int × Int)} (hO : W.cell? ⟨BO, 0, none⟩ = some (.pointer (some ⟨Bs, 0, none⟩))) (hne : BO ≠ Bs) (l : LD W p n (all.take 300)) (hnb : ∀ P o, p = some ⟨P, o, none⟩ → P ≠ Bs) (hj : Jw Bs p n c st (all.take 300) pre W) (d : Int × Int) :
    Calls Tryd.prog 78 #[.agg #[.int .i64 d.1, .int .i64 d.2], .pointer (some ⟨BO, 0, none⟩)] W fun r W' => ((r = .returned (.bool true) ∧ Jw Bs p n c st (all.take 300) (pre ++ [d]) W') ∨ (r = .returned (.bool false) ∧ Jl Bs p n c st all (pre ++ [d]) W')) ∧ Fr (fun k => ¬ k = Bs) W W' := by
  have hn3 : n ≤ 300 := by have := l.len; rw [List.length_take] at this; omega
  have kD := fun V => @new1d W (.int .i64 d.1) (.int .i64 d.2) 35 V
  have aV : Apart [] W (W.alloc (.cells #[.int .i64 d.1, .int .i64 d.2] 35)) := (Apart.refl _ _).alloc _
  have HO := aV.keep hO
  have HL := hid (l.kept0 aV)
  have HJ : Hid (Jw Bs p n c st (all.take 300) pre (W.alloc (.cells #[.int .i64 d.1, .int .i64 d.2] 35))) := ⟨hj.wk.same (aV.block Bs hj.wk.lt (by simp)), hj.lt, hj.pre⟩
  have HN := hid l.len
  have HNB := hid hnb
  have HF := hid (aV.fr (K := fun k => ¬ k = Bs))
  clear hj l hO hnb
  obtain ⟨dn, dc⟩ := d
  go_enter Tryd.func78, Tryd.ntmps78
  go_wp2_with fail
  obtain ⟨hit, Hh⟩ : ∃ b, Hid (b = decide (pre.length < n ∧ (all.take 300).getD pre.length (0, 0) = (dn, dc))) := ⟨_, rfl⟩
  obtain ⟨en, He⟩ : ∃ b, Hid (b = (decide ((pre.length : Int) + 1 = st) || decide ((pre.length : Int) + 1 = 300))) := ⟨_, rfl⟩
  refine (met_ok HJ.out.wk HL.out HJ.out.lt hn3 HNB.out (dn, dc) hit en Hh He).mono ?_
  rintro r W' m
  obtain ⟨hdis, F⟩ := met_j HN.out.symm HJ.out Hh.out He.out m
  have F2 := hid (HF.out.trans F)
  clear F m Hh He HJ HL
  rcases hdis with ⟨rfl, j⟩ | ⟨rfl, j⟩
  · have HX := hid j
    clear j
    dsimp only
    go_wp2
    go_ret
    exact ⟨.inl ⟨rfl, HX.out⟩, F2.out⟩
  · have HX := hid j
    clear j
    dsimp only
    go_wp2
    go_ret
    exact ⟨.inr ⟨rfl, HX.out⟩, F2.out⟩
set_option maxHeartbeats 4000000 in
set_option maxRecDepth 100000 in
theorem gone2_ok {W : World} {BO Bs : Nat} {p : Option Addr} {n c : Nat} {st : Int} {all pre : List (Int × Int)} (hO : W.cell? ⟨BO, 0, none⟩ = some (.pointer (some ⟨Bs, 0, none⟩))) (hne : BO ≠ Bs) (l : LD W p n (all.take 300)) (hnb : ∀ P o, p = some ⟨P, o, none⟩ → P ≠ Bs) (hj : Jw Bs p n c st (all.take 300) pre W) (d : Int × Int) :
    Calls Tryd.prog 81 #[.agg #[.int .i64 d.1, .int .i64 d.2], .pointer (some ⟨BO, 0, none⟩)] W fun r W' => ((r = .returned (.bool true) ∧ Jw Bs p n c st (all.take 300) (pre ++ [d]) W') ∨ (r = .returned (.bool false) ∧ Jl Bs p n c st all (pre ++ [d]) W')) ∧ Fr (fun k => ¬ k = Bs) W W' := by
  have hn3 : n ≤ 300 := by have := l.len; rw [List.length_take] at this; omega
  have kD := fun V => @new1d W (.int .i64 d.1) (.int .i64 d.2) 35 V
  have aV : Apart [] W (W.alloc (.cells #[.int .i64 d.1, .int .i64 d.2] 35)) := (Apart.refl _ _).alloc _
  have HO := aV.keep hO
  have HL := hid (l.kept0 aV)
  have HJ : Hid (Jw Bs p n c st (all.take 300) pre (W.alloc (.cells #[.int .i64 d.1, .int .i64 d.2] 35))) := ⟨hj.wk.same (aV.block Bs hj.wk.lt (by simp)), hj.lt, hj.pre⟩
  have HN := hid l.len
  have HNB := hid hnb
  have HF := hid (aV.fr (K := fun k => ¬ k = Bs))
  clear hj l hO hnb
  obtain ⟨dn, dc⟩ := d
  go_enter Tryd.func81, Tryd.ntmps81
  go_wp2_with fail
  obtain ⟨hit, Hh⟩ : ∃ b, Hid (b = decide (pre.length < n ∧ (all.take 300).getD pre.length (0, 0) = (dn, dc))) := ⟨_, rfl⟩
  obtain ⟨en, He⟩ : ∃ b, Hid (b = (decide ((pre.length : Int) + 1 = st) || decide ((pre.length : Int) + 1 = 300))) := ⟨_, rfl⟩
  refine (met_ok HJ.out.wk HL.out HJ.out.lt hn3 HNB.out (dn, dc) hit en Hh He).mono ?_
  rintro r W' m
  obtain ⟨hdis, F⟩ := met_j HN.out.symm HJ.out Hh.out He.out m
  have F2 := hid (HF.out.trans F)
  clear F m Hh He HJ HL
  rcases hdis with ⟨rfl, j⟩ | ⟨rfl, j⟩
  · have HX := hid j
    clear j
    dsimp only
    go_wp2
    go_ret
    exact ⟨.inl ⟨rfl, HX.out⟩, F2.out⟩
  · have HX := hid j
    clear j
    dsimp only
    go_wp2
    go_ret
    exact ⟨.inr ⟨rfl, HX.out⟩, F2.out⟩
end Go.Proofs.YtmdjjigiipboaaaDoor.ds
