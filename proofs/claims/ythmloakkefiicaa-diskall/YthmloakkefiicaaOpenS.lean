import Derived.Test.YthmloakkefiicaaHolds
import Derived.SizedLaws
namespace Go.Proofs.Ythmloakkefiicaa.dk
open Go.ChangeShapes Go.WideShapes Go.ChangeAt Go.RowKit Go.Deep
set_option linter.unusedVariables false
set_option linter.unusedSimpArgs false
theorem weightsAll_mem {H : Type} {P : Program} {e : TypeId} : ∀ {l : List (DataW H)} {d : DataW H}, d ∈ l → ∀ n ∈ d.weights P e, n ∈ DataW.weightsAll P e l
  | d' :: r, d, hd, n, hn => by
    simp only [DataW.weightsAll, List.mem_append]
    rcases List.mem_cons.1 hd with rfl | h
    · exact Or.inl hn
    · exact Or.inr (weightsAll_mem h n hn)
theorem bytes5 : Try.prog.bytesOf 5 = 1 := by kernel_rfl
theorem bytes58 : Try.prog.bytesOf 58 = 56 := by kernel_rfl
theorem open_src2 {H : Type} {enc : TypeId × Value → H} {W : World} {fuel : Nat} {v : Value} {x : DataW H × List MemPlace} (h : DataW.trod enc Try.prog W 0 (fun _ => true) true fuel 30 [v] = some x) (hw : ∀ n ∈ x.1.weights Try.prog 30, n ≤ reachBytes) : ∃ p l c bs, v = .slice p l c ∧ Src W p l bs ∧ (p = none → l = 0 ∧ c = 0) ∧ l ≤ 140737488355328 := by
  obtain ⟨p, l, c, bs, hv, h1, h2, h3⟩ := open_src h
  refine ⟨p, l, c, bs, hv, h1, h2, ?_⟩
  rcases open_ints Try.underlying30 Try.underlying5 cells5 h with ⟨hcs, _⟩ | ⟨a, l', c', zs, hcs, _, hl, hm, hz, hx, hcell, hwz⟩
  · rw [hv] at hcs; simp at hcs; omega
  · rw [hv] at hcs
    simp only [List.cons.injEq, Value.slice.injEq, and_true] at hcs
    simp only [if_true] at hz
    have := hw ((zs.take l').length * 1 + (zs.drop l').length * 1) (by
      rw [hx]
      simp only [DataW.weights, Try.underlying30, List.mem_cons]
      left
      simp [lits, bytes5])
    simp only [reachBytes, List.length_take, List.length_drop] at this
    omega
set_option maxRecDepth 100000 in
theorem open_ops2 {H : Type} {enc : TypeId × Value → H} {W : World} {fuel : Nat} {p : Option Addr} {len cap : Nat} {x : DataW H × List MemPlace} (h : DataW.trod enc Try.prog W 0 (fun _ => true) true fuel 51 [.slice p len cap] = some x) (hw : ∀ n ∈ x.1.weights Try.prog 51, n ≤ reachBytes) : ∃ f, IsOps W p len f ∧ len ≤ 140737488355328 ∧ ∀ i, i < len → (f i).l ≤ 140737488355328 := by
  rcases open_slice Try.underlying51 h with ⟨hcs, _⟩ | ⟨a, len', cap', m, n, D, Pl, hcs, _, hl, hm, hmeq, hx, hall⟩
  · simp only [List.cons.injEq, Value.slice.injEq, and_true] at hcs
    obtain ⟨rfl, rfl, rfl⟩ := hcs
    exact ⟨fun _ => opZero, fun h => absurd h (by omega), by omega, fun i hi => absurd hi (Nat.not_lt_zero _)⟩
  · simp only [if_true] at hmeq
    subst hmeq
    simp only [List.cons.injEq, Value.slice.injEq, and_true] at hcs
    obtain ⟨rfl, rfl, rfl⟩ := hcs
    have hlen : len ≤ 140737488355328 := by
      have := hw ((len + (cap - len)) * 56) (by
        rw [hx]
        simp only [DataW.weights, Try.underlying51, List.mem_cons]
        left
        simp [bytes58])
      simp only [reachBytes] at this
      omega
    have hD : ∀ i, i < len → ∀ n ∈ (D i).weights Try.prog 58, n ≤ reachBytes := by
      intro i hi n hn
      refine hw n ?_
      rw [hx]
      simp only [DataW.weights, Try.underlying51, List.mem_cons, List.mem_append]
      exact .inr (.inl (weightsAll_mem (List.mem_map.2 ⟨i, List.mem_range.2 hi, rfl⟩) n hn))
    by_cases h0 : 0 < len
    · obtain ⟨P, o, spot⟩ := a
      have hspot : spot = none := by
        obtain ⟨cs', h1, h2⟩ := hall 0 (by omega)
        rw [cells58] at h1
        obtain ⟨_, hlen, hcell⟩ := World.cells?_some h1
        have hc := hcell 0 (by omega)
        rw [List.getElem?_eq_getElem (by omega)] at hc
        have := World.cell?_spot hc
        simpa [Addr.add] using this
      subst hspot
      have each : ∀ i, i < len → ∃ d : OpD, OpAt W P (o + i * 5) d ∧ d.l ≤ 140737488355328 := by
        intro i hi
        obtain ⟨cs', h1, h2⟩ := hall i (by omega)
        have hDi := hD i hi
        rw [cells58, Addr.add_lit] at h1
        obtain ⟨_, hlen, hcell⟩ := World.cells?_some h1
        obtain ⟨xs, k, hk, hxy, _, hxl, hf⟩ := DataW.trod_struct Try.underlying58 h2
        match xs, hxl, cs', hlen with
        | [y0, y1, y2, y3, y4], _, [v0, v1, v2, v3, v4], _ =>
          have hxy1 : D i = .agg ([y0, y1, y2, y3, y4].map (·.1)) := congrArg Prod.fst hxy
          have g0 := hf 0 _ rfl
          have g1 := hf 1 _ rfl
          have g2 := hf 2 _ rfl
          have g3 := hf 3 _ rfl
          have g4 := hf 4 _ rfl
          simp [cells3, cells30] at g0 g1 g2 g3 g4
          obtain ⟨k0, q0, _, _⟩ := DataW.trod_int Try.underlying3 g0
          obtain ⟨k1, q1, _, _⟩ := DataW.trod_int Try.underlying3 g1
          obtain ⟨k2, q2, _, w2⟩ := DataW.trod_int Try.underlying3 g2
          obtain ⟨k3, q3, _, _⟩ := DataW.trod_int Try.underlying3 g3
          obtain ⟨sp, sl, sc, sb, q4, hsrc, hnil, hle⟩ := open_src2 g4 (fun n hn => hDi n (by
            rw [hxy1]
            simp only [DataW.weights, Try.underlying58]
            exact DataW.weights_mem_each (j := 4) (t := 30) rfl rfl n hn))
          simp only [List.cons.injEq, and_true] at q0 q1 q2 q3
          subst q0 q1 q2 q3 q4
          have e0 := hcell 0 (by omega)
          have e1 := hcell 1 (by omega)
          have e2 := hcell 2 (by omega)
          have e3 := hcell 3 (by omega)
          have e4 := hcell 4 (by omega)
          simp only [Addr.add_lit] at e0 e1 e2 e3 e4
          have b2 : -9223372036854775808 ≤ k2 ∧ k2 ≤ 9223372036854775807 := by
            simp [Lit.wf, IntKind.min, IntKind.max, IntKind.signed, IntKind.bits] at w2
            omega
          exact ⟨⟨k0, k1, k2, k3, sp, sl, sc, sb⟩, ⟨by simpa using e0, by simpa using e1, by simpa using e2, by simpa using e3, by simpa using e4, hsrc, hnil, by show sl ≤ maxLen; unfold maxLen; omega, b2⟩, hle⟩
      obtain ⟨f, hf⟩ := @choose_lt OpD ⟨opZero⟩ _ _ each
      exact ⟨f, fun _ => ⟨P, o, rfl, block_lt_of_cell (hf 0 h0).1.c0, fun i hi => (hf i hi).1⟩, hlen, fun i hi => (hf i hi).2⟩
    · exact ⟨fun _ => opZero, fun h => absurd h h0, hlen, fun i hi => absurd hi (by omega)⟩
end Go.Proofs.Ythmloakkefiicaa.dk
