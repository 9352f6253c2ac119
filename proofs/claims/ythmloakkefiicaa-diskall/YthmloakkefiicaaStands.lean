import Derived.Test.YthmloakkefiicaaKeepI
namespace Go.Proofs.Ythmloakkefiicaa.dk
open Go.ChangeShapes Go.WideShapes Go.ChangeAt Go.RowKit
/-- bytes that are kept -/
structure AB where
  p : Option Addr
  l : Nat
  c : Nat
  bs : List Int
  G : Option Nat
def AB.val (a : AB) : Value := .slice a.p a.l a.c
def AB.str (a : AB) : Value := .string (strOf a.bs)
def AB.At (w : World) (a : AB) : Prop := Ans w a.p a.l a.c a.bs a.G
/-- numbers that are kept -/
structure AI where
  p : Option Addr
  l : Nat
  c : Nat
  bs : List Int
  G : Option Nat
def AI.val (a : AI) : Value := .slice a.p a.l a.c
def AI.At (w : World) (a : AI) : Prop := AnsI w a.p a.l a.c a.bs a.G
theorem SlAt.at {w : World} {e : TypeId} {p : Option Addr} {l c : Nat} {xs : List Value} {G : Option Nat} (h : SlAt w e (.slice p l c) xs G) (j : Nat) (hj : j < xs.length) : ∃ g off, p = some ⟨g, off, none⟩ ∧ l = xs.length ∧ l ≤ c ∧ w.cell? ⟨g, off + j, none⟩ = xs[j]? ∧ g < w.heap.size ∧ w.frozen? ⟨g, off + j, none⟩ = false := by
  cases G with
  | none => rw [h.2] at hj; simp at hj
  | some g =>
    obtain ⟨off, cap, cur, hv, hr, hle, hsz, hc⟩ := h
    simp at hv
    obtain ⟨rfl, rfl, rfl⟩ := hv
    exact ⟨g, off, rfl, rfl, hle, (cell_of_row _ _ _ _ _ _ hr).trans (hc j hj), lt_of_heap hr, frozen_of_row _ _ _ _ _ hr⟩
theorem AnsI.at {w : World} {p : Option Addr} {l c : Nat} {bs : List Int} {G : Option Nat} (h : AnsI w p l c bs G) (j : Nat) (hj : j < l) : ∃ g, G = some g ∧ p = some ⟨g, 0, none⟩ ∧ l ≤ c ∧ w.cell? ⟨g, j, none⟩ = some (.int .i64 (bs.getD j 0)) ∧ g < w.heap.size ∧ w.frozen? ⟨g, j, none⟩ = false := by
  cases G with
  | none => rw [h.2.1] at hj; omega
  | some g => exact ⟨g, rfl, h.1, h.2.le, h.2.cells j hj, h.lt, h.2.free j⟩
theorem Apart.keep {w w' : World} (a : Apart [] w w') {p : Addr} {v : Value} (h : w.cell? p = some v) : w'.cell? p = some v := (a.cell (block_lt_of_cell h) (by simp)).trans h
set_option maxHeartbeats 1000000 in
set_option maxRecDepth 20000 in
theorem stands_ok (w : World) (P : Nat) (cur : Array Value) (h : PRow w P cur) (bv hv iv mv : Value) (ab : List AB) (ai : List AI) (ms : List Int) (GB GH GI GM : Option Nat) (hB : SlAt w 30 bv (ab.map AB.val) GB) (hH : SlAt w 9 hv (ab.map AB.str) GH) (hI : SlAt w 44 iv (ai.map AI.val) GI) (hM : SlAt w 3 mv (ms.map (.int .i64)) GM)
    (h2 : cur[2]? = some bv) (h3 : cur[3]? = some hv) (h4 : cur[4]? = some iv) (h5 : cur[5]? = some mv) (hk : ∀ a ∈ ab, a.At w) (hki : ∀ a ∈ ai, a.At w) (hn : ab.length ≤ 4) (hni : ai.length ≤ 4) (hms : ms.length = ai.length) (hall : ∀ i a, ai[i]? = some a → a.bs = List.replicate a.l (ms.getD i 0) ∧ a.l ≤ 4194304) :
    Calls Try.prog 44 #[.pointer (some ⟨P, 2, none⟩)] w fun r w' => r = .returned (.bool true) ∧ Apart [] w w' := by
  obtain ⟨bp, bc, rfl⟩ := hB.shape
  obtain ⟨hp, hc, rfl⟩ := hH.shape
  obtain ⟨ip, ic, rfl⟩ := hI.shape
  obtain ⟨mp, mc, rfl⟩ := hM.shape
  simp only [List.length_map] at *
  have HMS : Hid (ms.length = ai.length) := hms
  have HALL : Hid (∀ i a, ai[i]? = some a → a.bs = List.replicate a.l (ms.getD i 0) ∧ a.l ≤ 4194304) := hall
  clear hms hall
  go_enter Try.func44, Try.ntmps44
  go_wp2
  go_loopw [3] (fun i wr => ∃ k : Nat, k ≤ ab.length ∧ i = .int .i64 k ∧ Apart [] w wr) (fun i _ => ab.length - (intOf i).toNat)
  case atStart => exact ⟨0, Nat.zero_le _, rfl, Apart.refl _ _⟩
  case round =>
    obtain ⟨k, hkl, rfl, ha⟩ := hrel
    have hr := h.kept ha (by simp)
    have e2 := (hr.cell 2).trans h2
    have e3 := (hr.cell 3).trans h3
    by_cases hlt : k < ab.length
    · obtain ⟨gb, ob, rfl, -, hbc, eb, hgb, -⟩ := (hB.kept ha (by simp)).at k (by simpa using hlt)
      obtain ⟨gh, oh, rfl, -, hhc, eh, hgh, -⟩ := (hH.kept ha (by simp)).at k (by simpa using hlt)
      have hka : AB.At wr ab[k] := Ans.kept (hk ab[k] (List.getElem_mem hlt)) ha (by simp)
      simp only [List.getElem?_map, List.getElem?_eq_getElem hlt, Option.map_some] at eb eh
      generalize ab[k] = a at *
      obtain ⟨ap, al, ac, abs, aG⟩ := a
      simp only [AB.val, AB.str] at eb eh
      have hcv : Sem.run Try.prog (convert 30 9 (.slice ap al ac)) wr.drew = .ok (.string (strOf abs)) wr.drew := by
        exact conv_src (w := wr.drew) ⟨hka.src.hlen, hka.src.cells⟩ hka.nil
      generalize strOf abs = str at *
      clear hka hr h2 h3 hB hH hk hki hI hM
      go_wp2
      go_region
      go_wp2
      go_roundw
      case rel => exact ⟨k + 1, by omega, by go_num, ha.drewN 1⟩
      case measure => simp [intOf]; omega
    · clear hB hH hk h2 h3 e3
      go_wp2
      go_loopw [4] (fun i w2 => ∃ k : Nat, k ≤ ai.length ∧ i = .int .i64 k ∧ Apart [] w w2) (fun i _ => ai.length - (intOf i).toNat)
      case atStart => exact ⟨0, Nat.zero_le _, rfl, ha⟩
      case round =>
        clear ha hr
        obtain ⟨k2, hkl2, rfl, ha⟩ := hrel
        have E4 : Hid (w.cell? ⟨P, 4, none⟩ = some (.slice ip ai.length ic)) := (h.cell 4).trans h4
        have E5 : Hid (w.cell? ⟨P, 5, none⟩ = some (.slice mp ms.length mc)) := (h.cell 5).trans h5
        have e4 := ha.keep E4.out
        have e5 := ha.keep E5.out
        by_cases hlt2 : k2 < ai.length
        · have hx : k2 < ms.length := by have := HMS.out; omega
          obtain ⟨gi, oi, rfl, -, hic, ei, hgi, -⟩ := hI.at k2 (by simpa using hlt2)
          obtain ⟨gm, om, rfl, -, hmc, em, hgm, -⟩ := hM.at k2 (by simpa using hx)
          have hka : AI.At w ai[k2] := hki ai[k2] (List.getElem_mem hlt2)
          have hq := HALL.out k2 _ (List.getElem?_eq_getElem hlt2)
          simp only [List.getElem?_map, List.getElem?_eq_getElem hlt2, Option.map_some] at ei em
          rw [List.getElem?_eq_getElem hx] at em
          have hmq : ms.getD k2 0 = ms[k2]'hx := by simp [List.getD_eq_getElem?_getD, List.getElem?_eq_getElem hx]
          rw [hmq] at hq
          clear hmq
          generalize ms[k2]'hx = m at *
          generalize ai[k2] = a at *
          obtain ⟨ap, al, ac, abs, aG⟩ := a
          simp only [AI.val, Option.map_some] at ei em hq
          obtain ⟨rfl, hal⟩ := hq
          have EI : Hid (w.cell? ⟨gi, oi + k2, none⟩ = some (.slice ap al ac)) := ei
          have EM : Hid (w.cell? ⟨gm, om + k2, none⟩ = some (.int .i64 m)) := em
          clear h4 h5 HALL HMS e2 hki ei em hI hM h hgi hgm
          go_wp2
          go_loopw [5] (fun j w3 => ∃ k3 : Nat, k3 ≤ al ∧ j = .int .i64 k3 ∧ Apart [] w w3) (fun j _ => al - (intOf j).toNat)
          case atStart => exact ⟨0, Nat.zero_le _, rfl, ha⟩
          case round =>
            clear e4 e5 ha
            obtain ⟨k3, hkl3, rfl, ha⟩ := hrel
            have e4 := ha.keep E4.out
            have e5 := ha.keep E5.out
            have ei := ha.keep EI.out
            have em := ha.keep EM.out
            by_cases hlt3 : k3 < al
            · obtain ⟨g, -, rfl, hac, ec, hg, -⟩ := AnsI.at hka k3 hlt3
              simp only [List.getD_eq_getElem?_getD, List.getElem?_replicate, if_pos hlt3, Option.getD_some] at ec
              replace ec := ha.keep ec
              clear hka hg
              go_wp2
              go_region
              go_wp2
              go_roundw
              case rel => exact ⟨k3 + 1, by omega, by go_num, ha.drewN 1⟩
              case measure => simp [intOf]; omega
            · clear hka
              go_wp2
              go_roundw
              case rel => exact ⟨k2 + 1, by omega, by go_num, ha⟩
              case measure => simp [intOf]; omega
        · clear e5
          go_wp2
          go_ret
          exact ⟨rfl, ha⟩
end Go.Proofs.Ythmloakkefiicaa.dk
