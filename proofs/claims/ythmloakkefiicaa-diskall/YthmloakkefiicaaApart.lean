import Derived.Test.YthmloakkefiicaaLeaveI
namespace Go.Proofs.Ythmloakkefiicaa.dk
open Go.ChangeShapes Go.WideShapes Go.ChangeAt Go.RowKit
/-- the blocks of rows that are kept -/
def blocksB (ab : List AB) : List Nat := ab.filterMap AB.G
def blocksI (ai : List AI) : List Nat := ai.filterMap AI.G
def ApartB (ab : List AB) : Prop := ∀ (t s : Nat) (a b : AB), t ≠ s → ab[t]? = some a → ab[s]? = some b → ∀ g, a.G = some g → b.G ≠ some g
def ApartI (ai : List AI) : Prop := ∀ (t s : Nat) (a b : AI), t ≠ s → ai[t]? = some a → ai[s]? = some b → ∀ g, a.G = some g → b.G ≠ some g
/-- the fill of the left bytes, so far -/
def FillB (w : World) (ab : List AB) (i j : Nat) : Prop := ∀ t a, ab[t]? = some a → ∃ bs', Ans w a.p a.l a.c bs' a.G ∧ (t < i → ∀ s, s < a.l → bs'.getD s 0 = (t : Int) + 1) ∧ (t = i → ∀ s, s < j → bs'.getD s 0 = (t : Int) + 1)
def FillI (w : World) (ai : List AI) (i j : Nat) : Prop := ∀ t a, ai[t]? = some a → ∃ bs', AnsI w a.p a.l a.c bs' a.G ∧ (t < i → ∀ s, s < a.l → bs'.getD s 0 = -1 - (t : Int)) ∧ (t = i → ∀ s, s < j → bs'.getD s 0 = -1 - (t : Int))
theorem FillB.next {w : World} {ab : List AB} {i : Nat} {a : AB} (h : FillB w ab i a.l) (ha : ab[i]? = some a) : FillB w ab (i + 1) 0 := by
  intro t b hb
  obtain ⟨bs', h1, h2, h3⟩ := h t b hb
  refine ⟨bs', h1, fun ht s hs => ?_, fun _ s hs => by omega⟩
  by_cases e : t = i
  · subst e
    rw [hb] at ha; cases ha
    exact h3 rfl s hs
  · exact h2 (by omega) s hs
theorem FillI.next {w : World} {ab : List AI} {i : Nat} {a : AI} (h : FillI w ab i a.l) (ha : ab[i]? = some a) : FillI w ab (i + 1) 0 := by
  intro t b hb
  obtain ⟨bs', h1, h2, h3⟩ := h t b hb
  refine ⟨bs', h1, fun ht s hs => ?_, fun _ s hs => by omega⟩
  by_cases e : t = i
  · subst e
    rw [hb] at ha; cases ha
    exact h3 rfl s hs
  · exact h2 (by omega) s hs
theorem FillB.put {w : World} {ab : List AB} {i j g : Nat} {a : AB} (h : FillB w ab i j) (hp : ApartB ab) (ha : ab[i]? = some a) (hj : j < a.l) (hg : a.G = some g) : FillB (w.setCell ⟨g, j, none⟩ (.int .u8 ((i : Int) + 1))) ab i (j + 1) := by
  intro t b hb
  obtain ⟨bs', h1, h2, h3⟩ := h t b hb
  by_cases e : t = i
  · subst e
    rw [hb] at ha; cases ha
    rw [hg] at h1
    obtain ⟨q, hL⟩ := h1
    refine ⟨bs'.set j ((t : Int) + 1), by rw [hg]; exact ⟨q, hL.set j hj _⟩, fun ht => by omega, fun _ s hs => ?_⟩
    have := hL.len
    by_cases es : j = s
    · subst es; rw [getD_set_same _ _ _ _ (by omega)]
    · rw [getD_set_other _ _ _ _ _ es]; exact h3 rfl s (by omega)
  · refine ⟨bs', h1.kept ((Apart.refl [g] w).setCell (by simp) _) (fun k hk hm => ?_), h2, fun ht => absurd ht e⟩
    simp at hm; subst hm
    exact hp t i b a e hb ha k hk hg
theorem FillI.put {w : World} {ab : List AI} {i j g : Nat} {a : AI} (h : FillI w ab i j) (hp : ApartI ab) (ha : ab[i]? = some a) (hj : j < a.l) (hg : a.G = some g) : FillI (w.setCell ⟨g, j, none⟩ (.int .i64 (-1 - (i : Int)))) ab i (j + 1) := by
  intro t b hb
  obtain ⟨bs', h1, h2, h3⟩ := h t b hb
  by_cases e : t = i
  · subst e
    rw [hb] at ha; cases ha
    rw [hg] at h1
    obtain ⟨q, hL⟩ := h1
    refine ⟨bs'.set j (-1 - (t : Int)), by rw [hg]; exact ⟨q, hL.set j hj _⟩, fun ht => by omega, fun _ s hs => ?_⟩
    have := hL.len
    by_cases es : j = s
    · subst es; rw [getD_set_same _ _ _ _ (by omega)]
    · rw [getD_set_other _ _ _ _ _ es]; exact h3 rfl s (by omega)
  · refine ⟨bs', h1.kept ((Apart.refl [g] w).setCell (by simp) _) (fun k hk hm => ?_), h2, fun ht => absurd ht e⟩
    simp at hm; subst hm
    exact hp t i b a e hb ha k hk hg
theorem notin_blocksB {w : World} {ab : List AB} {P : Nat} {cur : Array Value} {t : TypeId} (h : ∀ a ∈ ab, a.At w) (hr : w.heap[P]? = some (.cells cur t (0, 0))) (hne : t ≠ 5) : P ∉ blocksB ab := by
  intro hm
  simp only [blocksB, List.mem_filterMap] at hm
  obtain ⟨a, ha, hg⟩ := hm
  exact Ans.ne (h a ha) hr hne (by simp [hg])
theorem notin_blocksI {w : World} {ab : List AI} {P : Nat} {cur : Array Value} {t : TypeId} (h : ∀ a ∈ ab, a.At w) (hr : w.heap[P]? = some (.cells cur t (0, 0))) (hne : t ≠ 3) : P ∉ blocksI ab := by
  intro hm
  simp only [blocksI, List.mem_filterMap] at hm
  obtain ⟨a, ha, hg⟩ := hm
  exact AnsI.ne (h a ha) hr hne (by simp [hg])
theorem in_blocksB {ab : List AB} {i g : Nat} {a : AB} (ha : ab[i]? = some a) (hg : a.G = some g) : g ∈ blocksB ab := List.mem_filterMap.2 ⟨a, List.mem_of_getElem? ha, hg⟩
theorem in_blocksI {ab : List AI} {i g : Nat} {a : AI} (ha : ab[i]? = some a) (hg : a.G = some g) : g ∈ blocksI ab := List.mem_filterMap.2 ⟨a, List.mem_of_getElem? ha, hg⟩
theorem Ans.at {w : World} {p : Option Addr} {l c : Nat} {bs : List Int} {G : Option Nat} (h : Ans w p l c bs G) (j : Nat) (hj : j < l) : ∃ g, G = some g ∧ p = some ⟨g, 0, none⟩ ∧ l ≤ c ∧ w.cell? ⟨g, j, none⟩ = some (.int .u8 (bs.getD j 0)) ∧ g < w.heap.size ∧ w.frozen? ⟨g, j, none⟩ = false := by
  cases G with
  | none => rw [h.2.1] at hj; omega
  | some g => exact ⟨g, rfl, h.1, h.2.le, h.2.cells j hj, h.lt, h.2.free j⟩
theorem SlAt.at2 {w : World} {e : TypeId} {p : Option Addr} {l c : Nat} {xs : List Value} {G : Option Nat} (h : SlAt w e (.slice p l c) xs G) (j : Nat) (hj : j < xs.length) : ∃ g off cur, p = some ⟨g, off, none⟩ ∧ l ≤ c ∧ w.cell? ⟨g, off + j, none⟩ = xs[j]? ∧ w.heap[g]? = some (.cells cur e (0, 0)) := by
  cases G with
  | none => rw [h.2] at hj; simp at hj
  | some g =>
    obtain ⟨off, cap, cur, hv, hr, hle, hsz, hc⟩ := h
    simp at hv
    obtain ⟨rfl, rfl, rfl⟩ := hv
    exact ⟨g, off, cur, rfl, hle, (cell_of_row _ _ _ _ _ _ hr).trans (hc j hj), hr⟩
theorem Apart.keepX {w w' : World} {X : List Nat} (a : Apart X w w') {p : Addr} {v : Value} (h : w.cell? p = some v) (hp : p.block ∉ X) : w'.cell? p = some v := (a.cell (block_lt_of_cell h) hp).trans h
set_option maxHeartbeats 4000000 in
set_option maxRecDepth 20000 in
theorem apart_ok (w : World) (P : Nat) (cur : Array Value) (h : PRow w P cur) (lv wv nv rv : Value) (ab : List AB) (ai aw : List AI) (GL GW GN GR : Option Nat) (hL : SlAt w 30 lv (ab.map AB.val) GL) (hW : SlAt w 9 wv (ab.map AB.str) GW) (hN : SlAt w 44 nv (ai.map AI.val) GN) (hR : SlAt w 44 rv (aw.map AI.val) GR)
    (h7 : cur[7]? = some lv) (h8 : cur[8]? = some wv) (h9 : cur[9]? = some nv) (h10 : cur[10]? = some rv) (hk : ∀ a ∈ ab, a.At w) (hki : ∀ a ∈ ai, a.At w) (hkw : ∀ a ∈ aw, a.At w) (hpB : ApartB ab) (hpI : ApartI ai) (hn : ab.length ≤ 100) (hni : ai.length ≤ 100) (hlw : aw.length = ai.length)
    (hlB : ∀ a ∈ ab, a.l ≤ 4194304) (hlI : ∀ a ∈ ai, a.l ≤ 4194304) (hsame : ∀ (t : Nat) (a b : AI), ai[t]? = some a → aw[t]? = some b → b.bs = a.bs ∧ b.l = a.l) :
    Calls Try.prog 34 #[.pointer (some ⟨P, 2, none⟩)] w fun r w' => r = .returned (.bool true) ∧ Apart (blocksB ab ++ blocksI ai) w w' := by
  obtain ⟨lp, lc, rfl⟩ := hL.shape
  obtain ⟨wp, wc, rfl⟩ := hW.shape
  obtain ⟨np, nc, rfl⟩ := hN.shape
  obtain ⟨rp, rc, rfl⟩ := hR.shape
  simp only [List.length_map] at *
  have HLW : Hid (aw.length = ai.length) := hlw
  have HSAME : Hid (∀ (t : Nat) (a b : AI), ai[t]? = some a → aw[t]? = some b → b.bs = a.bs ∧ b.l = a.l) := hsame
  have HLB : Hid (∀ a ∈ ab, a.l ≤ 4194304) := hlB
  have HLI : Hid (∀ a ∈ ai, a.l ≤ 4194304) := hlI
  have HPB : Hid (ApartB ab) := hpB
  have HPI : Hid (ApartI ai) := hpI
  have HK : Hid (∀ a ∈ ab, a.At w) := hk
  have HKI : Hid (∀ a ∈ ai, a.At w) := hki
  have HKW : Hid (∀ a ∈ aw, a.At w) := hkw
  have E7 : Hid (w.cell? ⟨P, 7, none⟩ = some (.slice lp ab.length lc)) := (h.cell 7).trans h7
  have E8 : Hid (w.cell? ⟨P, 8, none⟩ = some (.slice wp ab.length wc)) := (h.cell 8).trans h8
  have E9 : Hid (w.cell? ⟨P, 9, none⟩ = some (.slice np ai.length nc)) := (h.cell 9).trans h9
  have E10 : Hid (w.cell? ⟨P, 10, none⟩ = some (.slice rp aw.length rc)) := (h.cell 10).trans h10
  have NPB : Hid (P ∉ blocksB ab) := notin_blocksB hk h.row (by decide)
  have NPI : Hid (P ∉ blocksI ai) := notin_blocksI hki h.row (by decide)
  have HL : Hid (SlAt w 30 (.slice lp ab.length lc) (ab.map AB.val) GL) := hL
  have HW : Hid (SlAt w 9 (.slice wp ab.length wc) (ab.map AB.str) GW) := hW
  have HN : Hid (SlAt w 44 (.slice np ai.length nc) (ai.map AI.val) GN) := hN
  have HR : Hid (SlAt w 44 (.slice rp aw.length rc) (aw.map AI.val) GR) := hR
  clear hlw hsame hlB hlI hpB hpI hk hki hkw hL hW hN hR h h7 h8 h9 h10
  go_enter Try.func34, Try.ntmps34
  go_wp2
  go_loopw [3] (fun i wr => ∃ k : Nat, k ≤ ab.length ∧ i = .int .i64 k ∧ Apart [] w wr) (fun i _ => ab.length - (intOf i).toNat)
  case atStart => exact ⟨0, Nat.zero_le _, rfl, Apart.refl _ _⟩
  case round =>
    obtain ⟨k, hkl, rfl, ha⟩ := hrel
    have e7 := ha.keep E7.out
    have e8 := ha.keep E8.out
    by_cases hlt : k < ab.length
    · obtain ⟨gb, ob, rfl, -, hbc, eb, hgb, -⟩ := HL.out.at k (by simpa using hlt)
      obtain ⟨gh, oh, rfl, -, hhc, eh, hgh, -⟩ := HW.out.at k (by simpa using hlt)
      have hka : AB.At wr ab[k] := Ans.kept (HK.out ab[k] (List.getElem_mem hlt)) ha (by simp)
      simp only [List.getElem?_map, List.getElem?_eq_getElem hlt, Option.map_some] at eb eh
      replace eb := ha.keep eb
      replace eh := ha.keep eh
      generalize ab[k] = a at *
      obtain ⟨ap, al, ac, abs, aG⟩ := a
      simp only [AB.val, AB.str] at eb eh
      have hcv : Sem.run Try.prog (convert 30 9 (.slice ap al ac)) wr.drew = .ok (.string (strOf abs)) wr.drew := by
        exact conv_src (w := wr.drew) ⟨hka.src.hlen, hka.src.cells⟩ hka.nil
      generalize strOf abs = str at *
      clear hka hgb hgh
      go_wp2
      go_region
      go_wp2
      go_roundw
      case rel => exact ⟨k + 1, by omega, by go_num, ha.drewN 1⟩
      case measure => simp [intOf]; omega
    · clear e8
      go_wp2
      have hst : Apart (blocksB ab) w wr ∧ FillB wr ab 0 0 := ⟨ha.mono (by simp), fun t a hta => ⟨a.bs, Ans.kept (HK.out a (List.mem_of_getElem? hta)) ha (by simp), fun h0 => by omega, fun _ s hs => by omega⟩⟩
      have HST : Hid (Apart (blocksB ab) w wr ∧ FillB wr ab 0 0) := hst
      clear hst e7 ha
      go_loopw [4] (fun i w2 => ∃ k : Nat, k ≤ ab.length ∧ i = .int .i64 k ∧ Apart (blocksB ab) w w2 ∧ FillB w2 ab k 0) (fun i _ => ab.length - (intOf i).toNat)
      case atStart => exact ⟨0, Nat.zero_le _, rfl, HST.out⟩
      case round =>
        clear HST
        obtain ⟨k2, hkl2, rfl, ha, hf⟩ := hrel
        have e7 := ha.keepX E7.out NPB.out
        by_cases hlt2 : k2 < ab.length
        · obtain ⟨gb, ob, cb, rfl, hbc, eb, hgb⟩ := HL.out.at2 k2 (by simpa using hlt2)
          have NGB : Hid (gb ∉ blocksB ab) := notin_blocksB HK.out hgb (by decide)
          have haa : ab[k2]? = some ab[k2] := List.getElem?_eq_getElem hlt2
          simp only [List.getElem?_map, haa, Option.map_some] at eb
          have HAL := HLB.out _ (List.getElem_mem hlt2)
          generalize ab[k2] = a at *
          have HAA : Hid (ab[k2]? = some a) := haa
          have EB : Hid (w.cell? ⟨gb, ob + k2, none⟩ = some (.slice a.p a.l a.c)) := eb
          clear eb haa hgb
          have HF : Hid (FillB _ ab k2 0) := hf
          clear hf
          go_wp2
          go_loopw [5] (fun j w3 => ∃ k3 : Nat, k3 ≤ a.l ∧ j = .int .i64 k3 ∧ Apart (blocksB ab) w w3 ∧ FillB w3 ab k2 k3) (fun j _ => a.l - (intOf j).toNat)
          case atStart => exact ⟨0, Nat.zero_le _, rfl, ha, HF.out⟩
          case round =>
            clear HF ha e7
            obtain ⟨k3, hkl3, rfl, ha, hf⟩ := hrel
            have e7 := ha.keepX E7.out NPB.out
            have eb := ha.keepX EB.out NGB.out
            by_cases hlt3 : k3 < a.l
            · obtain ⟨bs', hA, -, -⟩ := hf k2 a HAA.out
              obtain ⟨g, hG, hp, hac, ec, hg, hfz⟩ := Ans.at hA k3 hlt3
              have HQ : Hid (FillB (_root_.Go.World.setCell _ ⟨g, k3, none⟩ (.int .u8 ((k2 : Int) + 1))) ab k2 (k3 + 1) ∧ Apart (blocksB ab) w (_root_.Go.World.setCell _ ⟨g, k3, none⟩ (.int .u8 ((k2 : Int) + 1)))) := ⟨hf.put HPB.out HAA.out hlt3 hG, ha.setCell (in_blocksB HAA.out hG) _⟩
              rw [hp] at eb
              clear hA hf ha hg hp hG
              go_wp2
              go_roundw
              case rel => exact ⟨k3 + 1, by omega, by go_num, HQ.out.2, HQ.out.1⟩
              case measure => simp [intOf]; omega
            · have e : k3 = a.l := by omega
              have HNX : Hid (FillB _ ab (k2 + 1) 0) := FillB.next (e ▸ hf) HAA.out
              clear hf e
              go_wp2
              go_roundw
              case rel => exact ⟨k2 + 1, by omega, by go_num, ha, HNX.out⟩
              case measure => simp [intOf]; omega
        · go_wp2
          have e : k2 = ab.length := by omega
          have HF : Hid (FillB _ ab ab.length 0) := e ▸ hf
          clear hf e
          go_loopw [6] (fun i w3 => ∃ k : Nat, k ≤ ab.length ∧ i = .int .i64 k ∧ Apart (blocksB ab) w w3 ∧ FillB w3 ab ab.length 0) (fun i _ => ab.length - (intOf i).toNat)
          case atStart => exact ⟨0, Nat.zero_le _, rfl, ha, HF.out⟩
          case round =>
            clear HF e7 ha
            obtain ⟨k3, hkl3, rfl, ha, hf⟩ := hrel
            have e7 := ha.keepX E7.out NPB.out
            by_cases hlt3 : k3 < ab.length
            · obtain ⟨gb, ob, cb, rfl, hbc, eb, hgb⟩ := HL.out.at2 k3 (by simpa using hlt3)
              have NGB : Hid (gb ∉ blocksB ab) := notin_blocksB HK.out hgb (by decide)
              have haa : ab[k3]? = some ab[k3] := List.getElem?_eq_getElem hlt3
              simp only [List.getElem?_map, haa, Option.map_some] at eb
              have HAL := HLB.out _ (List.getElem_mem hlt3)
              generalize ab[k3] = a at *
              have HAA : Hid (ab[k3]? = some a) := haa
              have EB : Hid (w.cell? ⟨gb, ob + k3, none⟩ = some (.slice a.p a.l a.c)) := eb
              clear eb haa hgb
              have HF : Hid (FillB _ ab ab.length 0) := hf
              clear hf
              go_wp2
              go_loopw [7] (fun j w4 => ∃ k4 : Nat, k4 ≤ a.l ∧ j = .int .i64 k4 ∧ Apart (blocksB ab) w w4 ∧ FillB w4 ab ab.length 0) (fun j _ => a.l - (intOf j).toNat)
              case atStart => exact ⟨0, Nat.zero_le _, rfl, ha, HF.out⟩
              case round =>
                clear HF ha e7
                obtain ⟨k4, hkl4, rfl, ha, hf⟩ := hrel
                have e7 := ha.keepX E7.out NPB.out
                have eb := ha.keepX EB.out NGB.out
                by_cases hlt4 : k4 < a.l
                · obtain ⟨bs', hA, hq, -⟩ := hf k3 a HAA.out
                  obtain ⟨g, hG, hp, hac, ec, hg, hfz⟩ := Ans.at hA k4 hlt4
                  rw [hq hlt3 k4 hlt4] at ec
                  rw [hp] at eb
                  have HF : Hid (FillB _ ab ab.length 0) := hf
                  clear hA hf hg hp hG hq
                  go_wp2
                  go_roundw
                  case rel => exact ⟨k4 + 1, by omega, by go_num, ha, HF.out⟩
                  case measure => simp [intOf]; omega
                · have HF : Hid (FillB _ ab ab.length 0) := hf
                  clear hf
                  go_wp2
                  go_roundw
                  case rel => exact ⟨k3 + 1, by omega, by go_num, ha, HF.out⟩
                  case measure => simp [intOf]; omega
            · clear hf
              go_wp2
              clear e7
              go_loopw [8] (fun i w4 => ∃ k : Nat, k ≤ ai.length ∧ i = .int .i64 k ∧ Apart (blocksB ab) w w4) (fun i _ => ai.length - (intOf i).toNat)
              case atStart => exact ⟨0, Nat.zero_le _, rfl, ha⟩
              case round =>
                clear ha
                obtain ⟨k4, hkl4, rfl, ha⟩ := hrel
                have e9 := ha.keepX E9.out NPB.out
                by_cases hlt4 : k4 < ai.length
                · have hltw : k4 < aw.length := by have := HLW.out; omega
                  obtain ⟨gn, on, cn, rfl, hnc, en, hgn⟩ := HN.out.at2 k4 (by simpa using hlt4)
                  obtain ⟨gr, or, cr, rfl, hrc, er, hgr⟩ := HR.out.at2 k4 (by simpa using hltw)
                  have NGN : Hid (gn ∉ blocksB ab) := notin_blocksB HK.out hgn (by decide)
                  have NGR : Hid (gr ∉ blocksB ab) := notin_blocksB HK.out hgr (by decide)
                  have haa : ai[k4]? = some ai[k4] := List.getElem?_eq_getElem hlt4
                  have hbb : aw[k4]? = some aw[k4] := List.getElem?_eq_getElem hltw
                  simp only [List.getElem?_map, haa, Option.map_some] at en
                  simp only [List.getElem?_map, hbb, Option.map_some] at er
                  have HAL := HLI.out _ (List.getElem_mem hlt4)
                  have hka : AI.At w ai[k4] := HKI.out _ (List.getElem_mem hlt4)
                  have hkb : AI.At w aw[k4] := HKW.out _ (List.getElem_mem hltw)
                  have hsm := HSAME.out k4 _ _ haa hbb
                  clear haa hbb
                  generalize ai[k4] = a at *
                  generalize aw[k4] = b at *
                  obtain ⟨ap, al, ac, abs, aG⟩ := a
                  obtain ⟨bp, bl, bc, bbs, bG⟩ := b
                  simp only at hsm HAL
                  obtain ⟨rfl, rfl⟩ := hsm
                  have EN : Hid (w.cell? ⟨gn, on + k4, none⟩ = some (.slice ap bl ac)) := en
                  have ER : Hid (w.cell? ⟨gr, or + k4, none⟩ = some (.slice bp bl bc)) := er
                  clear en er hgn hgr
                  go_wp2
                  go_loopw [9] (fun j w5 => ∃ k5 : Nat, k5 ≤ bl ∧ j = .int .i64 k5 ∧ Apart (blocksB ab) w w5) (fun j _ => bl - (intOf j).toNat)
                  case atStart => exact ⟨0, Nat.zero_le _, rfl, ha⟩
                  case round =>
                    clear ha e9
                    obtain ⟨k5, hkl5, rfl, ha⟩ := hrel
                    have e9 := ha.keepX E9.out NPB.out
                    have e10 := ha.keepX E10.out NPB.out
                    have en := ha.keepX EN.out NGN.out
                    have er := ha.keepX ER.out NGR.out
                    by_cases hlt5 : k5 < bl
                    · obtain ⟨g1, hG1, rfl, hac, ec1, -, -⟩ := AnsI.at hka k5 hlt5
                      obtain ⟨g2, hG2, rfl, hbc, ec2, -, -⟩ := AnsI.at hkb k5 hlt5
                      have n1 : g1 ∉ blocksB ab := by
                        simp only at hG1; subst hG1
                        obtain ⟨cu, hcu⟩ := hka.2.typ
                        exact notin_blocksB HK.out hcu (by decide)
                      have n2 : g2 ∉ blocksB ab := by
                        simp only at hG2; subst hG2
                        obtain ⟨cu, hcu⟩ := hkb.2.typ
                        exact notin_blocksB HK.out hcu (by decide)
                      replace ec1 := ha.keepX ec1 n1
                      replace ec2 := ha.keepX ec2 n2
                      simp only at ec1 ec2 hac hbc
                      generalize bbs.getD k5 0 = x at *
                      clear hka hkb n1 n2 hG1 hG2
                      go_wp2
                      go_region
                      go_wp2
                      go_roundw
                      case rel => exact ⟨k5 + 1, by omega, by go_num, ha.drewN 1⟩
                      case measure => simp [intOf]; omega
                    · clear hka hkb
                      go_wp2
                      go_roundw
                      case rel => exact ⟨k4 + 1, by omega, by go_num, ha⟩
                      case measure => simp [intOf]; omega
                · go_wp2
                  clear e9
                  have HST : Hid (Apart (blocksB ab ++ blocksI ai) w _ ∧ FillI _ ai 0 0) := ⟨ha.mono (fun k hk => List.mem_append_left _ hk), fun t a hta => ⟨a.bs, AnsI.kept (HKI.out a (List.mem_of_getElem? hta)) ha (fun g hg => by
                    have hAt := HKI.out a (List.mem_of_getElem? hta)
                    simp only [AI.At, hg] at hAt
                    obtain ⟨cu, hcu⟩ := hAt.2.typ
                    exact notin_blocksB HK.out hcu (by decide)), fun h0 => by omega, fun _ s hs => by omega⟩⟩
                  have NPX : Hid (P ∉ blocksB ab ++ blocksI ai) := by simp only [Hid, List.mem_append, not_or]; exact ⟨NPB.out, NPI.out⟩
                  clear ha
                  go_loopw [10] (fun i w4 => ∃ k : Nat, k ≤ ai.length ∧ i = .int .i64 k ∧ Apart (blocksB ab ++ blocksI ai) w w4 ∧ FillI w4 ai k 0) (fun i _ => ai.length - (intOf i).toNat)
                  case atStart => exact ⟨0, Nat.zero_le _, rfl, HST.out⟩
                  case round =>
                    clear HST
                    obtain ⟨k5, hkl5, rfl, ha, hf⟩ := hrel
                    have e9 := ha.keepX E9.out NPX.out
                    by_cases hlt5 : k5 < ai.length
                    · obtain ⟨gb, ob, cb, rfl, hbc, eb, hgb⟩ := HN.out.at2 k5 (by simpa using hlt5)
                      have NGB : Hid (gb ∉ blocksB ab ++ blocksI ai) := by simp only [Hid, List.mem_append, not_or]; exact ⟨notin_blocksB HK.out hgb (by decide), notin_blocksI HKI.out hgb (by decide)⟩
                      have haa : ai[k5]? = some ai[k5] := List.getElem?_eq_getElem hlt5
                      simp only [List.getElem?_map, haa, Option.map_some] at eb
                      have HAL := HLI.out _ (List.getElem_mem hlt5)
                      generalize ai[k5] = a at *
                      have HAA : Hid (ai[k5]? = some a) := haa
                      have EB : Hid (w.cell? ⟨gb, ob + k5, none⟩ = some (.slice a.p a.l a.c)) := eb
                      clear eb haa hgb
                      have HF : Hid (FillI _ ai k5 0) := hf
                      clear hf
                      go_wp2
                      go_loopw [11] (fun j w3 => ∃ k6 : Nat, k6 ≤ a.l ∧ j = .int .i64 k6 ∧ Apart (blocksB ab ++ blocksI ai) w w3 ∧ FillI w3 ai k5 k6) (fun j _ => a.l - (intOf j).toNat)
                      case atStart => exact ⟨0, Nat.zero_le _, rfl, ha, HF.out⟩
                      case round =>
                        clear HF ha e9
                        obtain ⟨k6, hkl6, rfl, ha, hf⟩ := hrel
                        have e9 := ha.keepX E9.out NPX.out
                        have eb := ha.keepX EB.out NGB.out
                        by_cases hlt6 : k6 < a.l
                        · obtain ⟨bs', hA, -, -⟩ := hf k5 a HAA.out
                          obtain ⟨g, hG, hp, hac, ec, hg, hfz⟩ := AnsI.at hA k6 hlt6
                          have HQ : Hid (FillI (_root_.Go.World.setCell _ ⟨g, k6, none⟩ (.int .i64 (-1 - (k5 : Int)))) ai k5 (k6 + 1) ∧ Apart (blocksB ab ++ blocksI ai) w (_root_.Go.World.setCell _ ⟨g, k6, none⟩ (.int .i64 (-1 - (k5 : Int))))) := ⟨hf.put HPI.out HAA.out hlt6 hG, ha.setCell (List.mem_append_right _ (in_blocksI HAA.out hG)) _⟩
                          rw [hp] at eb
                          clear hA hf ha hg hp hG
                          go_wp2
                          go_roundw
                          case rel => exact ⟨k6 + 1, by omega, by go_num, HQ.out.2, HQ.out.1⟩
                          case measure => simp [intOf]; omega
                        · have e : k6 = a.l := by omega
                          have HNX : Hid (FillI _ ai (k5 + 1) 0) := FillI.next (e ▸ hf) HAA.out
                          clear hf e
                          go_wp2
                          go_roundw
                          case rel => exact ⟨k5 + 1, by omega, by go_num, ha, HNX.out⟩
                          case measure => simp [intOf]; omega
                    · go_wp2
                      have e : k5 = ai.length := by omega
                      have HF : Hid (FillI _ ai ai.length 0) := e ▸ hf
                      clear hf e
                      go_loopw [12] (fun i w3 => ∃ k : Nat, k ≤ ai.length ∧ i = .int .i64 k ∧ Apart (blocksB ab ++ blocksI ai) w w3 ∧ FillI w3 ai ai.length 0) (fun i _ => ai.length - (intOf i).toNat)
                      case atStart => exact ⟨0, Nat.zero_le _, rfl, ha, HF.out⟩
                      case round =>
                        clear HF e9 ha
                        obtain ⟨k6, hkl6, rfl, ha, hf⟩ := hrel
                        have e9 := ha.keepX E9.out NPX.out
                        by_cases hlt6 : k6 < ai.length
                        · obtain ⟨gb, ob, cb, rfl, hbc, eb, hgb⟩ := HN.out.at2 k6 (by simpa using hlt6)
                          have NGB : Hid (gb ∉ blocksB ab ++ blocksI ai) := by simp only [Hid, List.mem_append, not_or]; exact ⟨notin_blocksB HK.out hgb (by decide), notin_blocksI HKI.out hgb (by decide)⟩
                          have haa : ai[k6]? = some ai[k6] := List.getElem?_eq_getElem hlt6
                          simp only [List.getElem?_map, haa, Option.map_some] at eb
                          have HAL := HLI.out _ (List.getElem_mem hlt6)
                          generalize ai[k6] = a at *
                          have HAA : Hid (ai[k6]? = some a) := haa
                          have EB : Hid (w.cell? ⟨gb, ob + k6, none⟩ = some (.slice a.p a.l a.c)) := eb
                          clear eb haa hgb
                          have HF : Hid (FillI _ ai ai.length 0) := hf
                          clear hf
                          go_wp2
                          go_loopw [13] (fun j w4 => ∃ k7 : Nat, k7 ≤ a.l ∧ j = .int .i64 k7 ∧ Apart (blocksB ab ++ blocksI ai) w w4 ∧ FillI w4 ai ai.length 0) (fun j _ => a.l - (intOf j).toNat)
                          case atStart => exact ⟨0, Nat.zero_le _, rfl, ha, HF.out⟩
                          case round =>
                            clear HF ha e9
                            obtain ⟨k7, hkl7, rfl, ha, hf⟩ := hrel
                            have e9 := ha.keepX E9.out NPX.out
                            have eb := ha.keepX EB.out NGB.out
                            by_cases hlt7 : k7 < a.l
                            · obtain ⟨bs', hA, hq, -⟩ := hf k6 a HAA.out
                              obtain ⟨g, hG, hp, hac, ec, hg, hfz⟩ := AnsI.at hA k7 hlt7
                              rw [hq hlt6 k7 hlt7] at ec
                              rw [hp] at eb
                              have HF : Hid (FillI _ ai ai.length 0) := hf
                              clear hA hf hg hp hG hq
                              go_wp2
                              go_roundw
                              case rel => exact ⟨k7 + 1, by omega, by go_num, ha, HF.out⟩
                              case measure => simp [intOf]; omega
                            · have HF : Hid (FillI _ ai ai.length 0) := hf
                              clear hf
                              go_wp2
                              go_roundw
                              case rel => exact ⟨k6 + 1, by omega, by go_num, ha, HF.out⟩
                              case measure => simp [intOf]; omega
                        · clear hf
                          go_wp2
                          go_ret
                          exact ⟨rfl, ha⟩
end Go.Proofs.Ythmloakkefiicaa.dk
