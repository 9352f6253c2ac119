import Derived.Test.YthmloakkefiicaaRefF
import Derived.Test.YthmloakkefiicaaPuts
namespace Go.Proofs.Ythmloakkefiicaa.dk
open Go.ChangeShapes Go.WideShapes Go.ChangeAt Go.RowKit Go.Deep
theorem cells58 : Try.prog.cellsOf 58 = 5 := by kernel_rfl
theorem cells30 : Try.prog.cellsOf 30 = 1 := by kernel_rfl
/-- a step of a script -/
structure OpD where
  kind : Int
  who : Int
  n : Int
  m : Int
  p : Option Addr
  l : Nat
  c : Nat
  bs : List Int
structure OpAt (w : World) (P o : Nat) (d : OpD) : Prop where
  c0 : w.cell? ⟨P, o, none⟩ = some (.int .i64 d.kind)
  c1 : w.cell? ⟨P, o + 1, none⟩ = some (.int .i64 d.who)
  c2 : w.cell? ⟨P, o + 2, none⟩ = some (.int .i64 d.n)
  c3 : w.cell? ⟨P, o + 3, none⟩ = some (.int .i64 d.m)
  c4 : w.cell? ⟨P, o + 4, none⟩ = some (.slice d.p d.l d.c)
  src : Src w d.p d.l d.bs
  nil : d.p = none → d.l = 0 ∧ d.c = 0
  len : d.l ≤ maxLen
  nb : -9223372036854775808 ≤ d.n ∧ d.n ≤ 9223372036854775807
def IsOps (w : World) (sp : Option Addr) (len : Nat) (f : Nat → OpD) : Prop :=
  0 < len → ∃ P o, sp = some ⟨P, o, none⟩ ∧ P < w.heap.size ∧ ∀ i, i < len → OpAt w P (o + i * 5) (f i)
def opZero : OpD := ⟨0, 0, 0, 0, none, 0, 0, []⟩
theorem open_src {H : Type} {enc : TypeId × Value → H} {W : World} {fuel : Nat} {v : Value} {x : DataW H × List MemPlace} (h : DataW.trod enc Try.prog W 0 (fun _ => true) true fuel 30 [v] = some x) : ∃ p l c bs, v = .slice p l c ∧ Src W p l bs ∧ (p = none → l = 0 ∧ c = 0) ∧ l ≤ maxLen := by
  rcases open_ints Try.underlying30 Try.underlying5 cells5 h with ⟨hcs, _⟩ | ⟨a, l, c, zs, hcs, _, hl, hm, hz, _, hcell, hwz⟩
  · simp at hcs
    exact ⟨none, 0, 0, [], hcs, ⟨rfl, fun h => by omega⟩, fun _ => ⟨rfl, rfl⟩, by unfold maxLen; omega⟩
  · simp at hcs
    simp only [if_true] at hz
    refine ⟨some a, l, c, zs.take l, hcs, ⟨by simp; omega, fun h0 => ?_⟩, (fun e => by cases e), by omega⟩
    obtain ⟨g, o, spot⟩ := a
    have hc := hcell 0 (by omega)
    have hspot : spot = none := by simpa [Addr.add] using World.cell?_spot hc
    subst hspot
    refine ⟨g, o, rfl, ?_, fun j hj => ?_⟩
    · have := hcell 0 (by omega)
      rw [Addr.add_lit] at this
      exact block_lt_of_cell this
    · have := hcell j (by omega)
      rw [Addr.add_lit] at this
      rw [this]
      simp [List.getD_eq_getElem?_getD, List.getElem?_take_of_lt hj]
theorem open_ops {H : Type} {enc : TypeId × Value → H} {W : World} {fuel : Nat} {p : Option Addr} {len cap : Nat} {x : DataW H × List MemPlace} (h : DataW.trod enc Try.prog W 0 (fun _ => true) true fuel 51 [.slice p len cap] = some x) : ∃ f, IsOps W p len f := by
  rcases open_slice Try.underlying51 h with ⟨hcs, _⟩ | ⟨a, len', cap', m, n, D, Pl, hcs, _, hl, hm, hmeq, hx, hall⟩
  · simp only [List.cons.injEq, Value.slice.injEq, and_true] at hcs
    obtain ⟨rfl, rfl, rfl⟩ := hcs
    exact ⟨fun _ => opZero, fun h => absurd h (by omega)⟩
  · simp only [if_true] at hmeq
    subst hmeq
    simp only [List.cons.injEq, Value.slice.injEq, and_true] at hcs
    obtain ⟨rfl, rfl, rfl⟩ := hcs
    by_cases h0 : 0 < len
    · obtain ⟨P, o, spot⟩ := a
      have hspot : spot = none := by
        obtain ⟨cs', h1, h2⟩ := hall 0 (by omega)
        rw [cells58] at h1
        obtain ⟨_, hlen, hcell⟩ := World.cells?_some h1
        have hc := hcell 0 (by omega)
        rw [List.getElem?_eq_getElem (by omega)] at hc
        have := World.cell?_spot hc
        simpa [Addr.add] using this
      subst hspot
      have each : ∀ i, i < len → ∃ d : OpD, OpAt W P (o + i * 5) d := by
        intro i hi
        obtain ⟨cs', h1, h2⟩ := hall i (by omega)
        rw [cells58, Addr.add_lit] at h1
        obtain ⟨_, hlen, hcell⟩ := World.cells?_some h1
        obtain ⟨xs, k, hk, hxy, _, hxl, hf⟩ := DataW.trod_struct Try.underlying58 h2
        match xs, hxl, cs', hlen with
        | [y0, y1, y2, y3, y4], _, [v0, v1, v2, v3, v4], _ =>
          have g0 := hf 0 _ rfl
          have g1 := hf 1 _ rfl
          have g2 := hf 2 _ rfl
          have g3 := hf 3 _ rfl
          have g4 := hf 4 _ rfl
          simp [cells3, cells30] at g0 g1 g2 g3 g4
          obtain ⟨k0, q0, _, _⟩ := DataW.trod_int Try.underlying3 g0
          obtain ⟨k1, q1, _, _⟩ := DataW.trod_int Try.underlying3 g1
          obtain ⟨k2, q2, _, w2⟩ := DataW.trod_int Try.underlying3 g2
          obtain ⟨k3, q3, _, _⟩ := DataW.trod_int Try.underlying3 g3
          obtain ⟨sp, sl, sc, sb, q4, hsrc, hnil, hle⟩ := open_src g4
          simp only [List.cons.injEq, and_true] at q0 q1 q2 q3
          subst q0 q1 q2 q3 q4
          have e0 := hcell 0 (by omega)
          have e1 := hcell 1 (by omega)
          have e2 := hcell 2 (by omega)
          have e3 := hcell 3 (by omega)
          have e4 := hcell 4 (by omega)
          simp only [Addr.add_lit] at e0 e1 e2 e3 e4
          have b2 : -9223372036854775808 ≤ k2 ∧ k2 ≤ 9223372036854775807 := by
            simp [Lit.wf, IntKind.min, IntKind.max, IntKind.signed, IntKind.bits] at w2
            omega
          exact ⟨⟨k0, k1, k2, k3, sp, sl, sc, sb⟩, ⟨by simpa using e0, by simpa using e1, by simpa using e2, by simpa using e3, by simpa using e4, hsrc, hnil, hle, b2⟩⟩
      obtain ⟨f, hf⟩ := @choose_lt OpD ⟨opZero⟩ _ _ each
      exact ⟨f, fun _ => ⟨P, o, rfl, block_lt_of_cell (hf 0 h0).c0, hf⟩⟩
    · exact ⟨fun _ => opZero, fun h => absurd h h0⟩
end Go.Proofs.Ythmloakkefiicaa.dk
