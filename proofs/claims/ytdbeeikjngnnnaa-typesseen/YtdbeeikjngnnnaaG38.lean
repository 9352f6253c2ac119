import Derived.Test.YtdbeeikjngnnnaaG37
namespace Go.Proofs.Ytdbeeikjngnnnaa.ty
open Go.ChangeShapes Go.WideShapes Go.ChangeAt Go.RowKit
set_option linter.unusedVariables false
set_option linter.unusedSimpArgs false
/-! ### a history in memory -/
def b256 (B : Nat → Nat → Bool) : List Value := (List.range 256).map fun t => .bool (B (t / 64) (t % 64))
def hrow (k : Nat) (pv : Nat → Value) (s : Sl) (B : Nat → Nat → Bool) : List Value := .int .i64 (k : Int) :: pv 0 :: pv 1 :: pv 2 :: pv 3 :: .slice s.p s.n s.c :: b256 B
theorem b256_len (B : Nat → Nat → Bool) : (b256 B).length = 256 := by simp [b256]
theorem hrow_len (k : Nat) (pv : Nat → Value) (s : Sl) (B : Nat → Nat → Bool) : (hrow k pv s B).length = 262 := by simp [hrow, b256_len]
theorem b256_at (B : Nat → Nat → Bool) {i p : Nat} (hi : i < 4) (hp : p < 64) : (b256 B)[i * 64 + p]? = some (.bool (B i p)) := by
  unfold b256
  rw [List.getElem?_map, List.getElem?_range (by omega)]
  simp only [Option.map_some]
  rw [show (i * 64 + p) / 64 = i by omega, show (i * 64 + p) % 64 = p by omega]
theorem hrow_b (k : Nat) (pv : Nat → Value) (s : Sl) (B : Nat → Nat → Bool) {i p : Nat} (hi : i < 4) (hp : p < 64) : (hrow k pv s B)[6 + i * 64 + p]? = some (.bool (B i p)) := by
  rw [show 6 + i * 64 + p = (i * 64 + p) + 6 by omega, ← b256_at B hi hp]
  rfl
theorem hrow_v (k : Nat) (pv : Nat → Value) (s : Sl) (B : Nat → Nat → Bool) {i : Nat} (hi : i < 4) : (hrow k pv s B)[1 + i]? = some (pv i) := by
  obtain rfl | rfl | rfl | rfl : i = 0 ∨ i = 1 ∨ i = 2 ∨ i = 3 := by omega
  all_goals rfl
theorem hrow_s (k : Nat) (pv : Nat → Value) (s : Sl) (B : Nat → Nat → Bool) : (hrow k pv s B)[5]? = some (.slice s.p s.n s.c) := rfl
theorem hrow_k (k : Nat) (pv : Nat → Value) (s : Sl) (B : Nat → Nat → Bool) : (hrow k pv s B)[0]? = some (.int .i64 (k : Int)) := rfl
theorem hrow_set_v (k : Nat) (pv : Nat → Value) (s : Sl) (B : Nat → Nat → Bool) {i : Nat} (hi : i < 4) (x : Value) : (hrow k pv s B).set (1 + i) x = hrow k (ud pv i x) s B := by
  obtain rfl | rfl | rfl | rfl : i = 0 ∨ i = 1 ∨ i = 2 ∨ i = 3 := by omega
  all_goals rfl
theorem hrow_set_s (k : Nat) (pv : Nat → Value) (s s' : Sl) (B : Nat → Nat → Bool) : (hrow k pv s B).set 5 (.slice s'.p s'.n s'.c) = hrow k pv s' B := rfl
def ub (B : Nat → Nat → Bool) (i p : Nat) (b : Bool) : Nat → Nat → Bool := fun j q => if j = i ∧ q = p then b else B j q
theorem hrow_set_b (k : Nat) (pv : Nat → Value) (s : Sl) (B : Nat → Nat → Bool) {i p : Nat} (hi : i < 4) (hp : p < 64) (b : Bool) : (hrow k pv s B).set (6 + i * 64 + p) (.bool b) = hrow k pv s (ub B i p b) := by
  have h : (b256 B).set (i * 64 + p) (.bool b) = b256 (ub B i p b) := by
    apply List.ext_getElem?
    intro t
    unfold b256
    rw [List.getElem?_set, List.getElem?_map, List.getElem?_map, List.length_map, List.length_range]
    by_cases ht : t < 256
    · rw [List.getElem?_range ht]
      simp only [Option.map_some, ub]
      by_cases he : i * 64 + p = t
      · subst he
        rw [if_pos rfl, if_pos (by omega), if_pos (by omega)]
      · rw [if_neg he, if_neg (by omega)]
    · rw [List.getElem?_eq_none (by simp; omega)]
      by_cases he : i * 64 + p = t
      · omega
      · rw [if_neg he]; rfl
  rw [show 6 + i * 64 + p = (i * 64 + p) + 6 by omega]
  unfold hrow
  simp only [List.set_cons_succ]
  rw [h]
/-- an event's cells -/
def drow (H : List Dn) (d : Dn) : List Value := .int .i64 d.by_ :: .int .i64 (d.el : Int) :: .bool d.tk :: .string d.tx :: (List.range 64).map fun p => .bool (se H d.vc p)
theorem drow_len (H : List Dn) (d : Dn) : (drow H d).length = 68 := by simp [drow]
def rowsL (G : List Dn) : List Dn → List Value
  | [] => []
  | d :: r => drow G d ++ rowsL G r
theorem rowsL_len (G : List Dn) : ∀ H, (rowsL G H).length = H.length * 68
  | [] => by simp [rowsL]
  | d :: r => by simp only [rowsL, List.length_append, drow_len, rowsL_len G r, List.length_cons]; omega
theorem rowsL_app (G : List Dn) (a b : List Dn) : rowsL G (a ++ b) = rowsL G a ++ rowsL G b := by
  induction a with
  | nil => rfl
  | cons d r ih => simp [rowsL, ih, List.append_assoc]
theorem rowsL_at (G : List Dn) : ∀ (H : List Dn) {q j : Nat} {d : Dn}, H[q]? = some d → j < 68 → (rowsL G H)[q * 68 + j]? = (drow G d)[j]?
  | [], q, j, d, h, _ => by simp at h
  | x :: r, 0, j, d, h, hj => by
    obtain rfl : x = d := by simpa using h
    rw [Nat.zero_mul, Nat.zero_add, rowsL, List.getElem?_append_left (by rw [drow_len]; exact hj)]
  | x :: r, q + 1, j, d, h, hj => by
    rw [List.getElem?_cons_succ] at h
    rw [rowsL, List.getElem?_append_right (by rw [drow_len]; omega), drow_len, show (q + 1) * 68 + j - 68 = q * 68 + j by omega]
    exact rowsL_at G r h hj
theorem drow_b (H : List Dn) (d : Dn) {p : Nat} (hp : p < 64) : (drow H d)[4 + p]? = some (.bool (se H d.vc p)) := by
  rw [Nat.add_comm]
  show ((List.range 64).map fun p => Value.bool (se H d.vc p))[p]? = _
  rw [List.getElem?_map, List.getElem?_range hp]; rfl
theorem se_push {H : List Dn} {v : Nat → Nat} (h : ∀ j, v j ≤ H.length) (d : Dn) (p : Nat) : se (H ++ [d]) v p = se H v p := by
  unfold se
  rcases Nat.lt_trichotomy p H.length with hp | hp | hp
  · rw [List.getElem?_append_left hp]
  · rw [hp, push_new, List.getElem?_eq_none (Nat.le_refl _)]
    have := h d.act
    simp; omega
  · rw [List.getElem?_eq_none (by simp; omega), List.getElem?_eq_none (by omega)]
theorem drow_push {H : List Dn} (hh : Hs H) {q : Nat} {e : Dn} (he : H[q]? = some e) (d : Dn) : drow (H ++ [d]) e = drow H e := by
  unfold drow
  have : ∀ p, se (H ++ [d]) e.vc p = se H e.vc p := fun p => se_push (fun j => by have := hh.vc q e he j; have := at_lt he; omega) d p
  simp only [this]
theorem rowsL_push {H : List Dn} (hh : Hs H) (d : Dn) : ∀ G : List Dn, (∀ e ∈ G, e ∈ H) → rowsL (H ++ [d]) G = rowsL H G
  | [], _ => rfl
  | e :: r, h => by
    obtain ⟨q, hq⟩ := List.mem_iff_getElem?.1 (h e (by simp))
    rw [rowsL, rowsL, drow_push hh hq, rowsL_push hh d r fun x hx => h x (List.mem_cons_of_mem _ hx)]
/-- the whole in memory -/
structure Hm (w0 w : World) (X k : Nat) (H : List Dn) (c : Nat → Nat → Nat) (P : Nat → Nat) (V : Nat → Vl) (s : Sl) : Prop where
  ap : Apart [] w0 w
  ge : w0.heap.size ≤ X
  blk : w.heap[X]? = some (.cells (hrow k (fun i => .pointer (some ⟨P i, 0, none⟩)) s (fun i p => se H (c i) p)).toArray 56 (0, 0))
  pge : ∀ i, i < 4 → w0.heap.size ≤ P i
  ho : ∀ i, i < 4 → Ho w (P i) (V i)
  inj : ∀ i j, i < 4 → j < 4 → P i = P j → i = j
  own : Nw w0 w 79 68 s (rowsL H H)
  len : s.n = H.length
theorem Hm.kept0 {w0 w w' : World} {X k : Nat} {H : List Dn} {c : Nat → Nat → Nat} {P : Nat → Nat} {V : Nat → Vl} {s : Sl} (h : Hm w0 w X k H c P V s) (a : Apart [] w w') : Hm w0 w' X k H c P V s :=
  ⟨h.ap.trans a, h.ge, keep0 a h.blk, h.pge, fun i hi => (h.ho i hi).kept0 a, h.inj, h.own.kept a, h.len⟩
theorem row_cell {w : World} {X T i : Nat} {l : List Value} {v : Value} (h : w.heap[X]? = some (.cells l.toArray T (0, 0))) (hv : l[i]? = some v) : w.cell? ⟨X, i, none⟩ = some v := by
  rw [cell_of_row _ _ _ _ _ _ h]
  simpa using hv
theorem Hm.bit {w0 w : World} {X k : Nat} {H : List Dn} {c : Nat → Nat → Nat} {P : Nat → Nat} {V : Nat → Vl} {s : Sl} (h : Hm w0 w X k H c P V s) {i p : Nat} (hi : i < 4) (hp : p < 64) : w.cell? ⟨X, 6 + i * 64 + p, none⟩ = some (.bool (se H (c i) p)) := row_cell h.blk (hrow_b _ _ _ _ hi hp)
theorem Hm.val {w0 w : World} {X k : Nat} {H : List Dn} {c : Nat → Nat → Nat} {P : Nat → Nat} {V : Nat → Vl} {s : Sl} (h : Hm w0 w X k H c P V s) {i : Nat} (hi : i < 4) : w.cell? ⟨X, 1 + i, none⟩ = some (.pointer (some ⟨P i, 0, none⟩)) := row_cell h.blk (hrow_v _ _ _ _ hi)
theorem Hm.all {w0 w : World} {X k : Nat} {H : List Dn} {c : Nat → Nat → Nat} {P : Nat → Nat} {V : Nat → Vl} {s : Sl} (h : Hm w0 w X k H c P V s) : w.cell? ⟨X, 5, none⟩ = some (.slice s.p s.n s.c) := row_cell h.blk (hrow_s _ _ _ _)
theorem Hm.kind {w0 w : World} {X k : Nat} {H : List Dn} {c : Nat → Nat → Nat} {P : Nat → Nat} {V : Nat → Vl} {s : Sl} (h : Hm w0 w X k H c P V s) : w.cell? ⟨X, 0, none⟩ = some (.int .i64 (k : Int)) := row_cell h.blk (hrow_k _ _ _ _)
theorem Hm.ev {w0 w : World} {X k : Nat} {H : List Dn} {c : Nat → Nat → Nat} {P : Nat → Nat} {V : Nat → Vl} {s : Sl} (h : Hm w0 w X k H c P V s) (hl : 0 < H.length) : ∃ A o, s.p = some ⟨A, o, none⟩ ∧ A < w.heap.size ∧ ∀ q d j v, H[q]? = some d → (drow H d)[j]? = some v → j < 68 → w.cell? ⟨A, o + q * 68 + j, none⟩ = some v := by
  obtain ⟨A, o, hp, hA, hc⟩ := h.own.rd (by rw [rowsL_len]; omega)
  refine ⟨A, o, hp, hA, fun q d j v hd hv hj => ?_⟩
  rw [Nat.add_assoc]
  exact hc _ _ ((rowsL_at H H hd hj).trans hv)
end Go.Proofs.Ytdbeeikjngnnnaa.ty
namespace Go.Proofs.Ytdbeeikjngnnnaa.ty
open Go.ChangeShapes Go.WideShapes Go.ChangeAt Go.RowKit
set_option linter.unusedVariables false
set_option linter.unusedSimpArgs false
def intN : Value → Nat
  | .int _ i => i.toNat
  | _ => 0
theorem drow_el (H : List Dn) (d : Dn) : (drow H d)[1]? = some (.int .i64 (d.el : Int)) := rfl
theorem drow_tk (H : List Dn) (d : Dn) : (drow H d)[2]? = some (.bool d.tk) := rfl
theorem drow_by (H : List Dn) (d : Dn) : (drow H d)[0]? = some (.int .i64 d.by_) := rfl
theorem drow_tx (H : List Dn) (d : Dn) : (drow H d)[3]? = some (.string d.tx) := rfl
theorem int_beq_no {a b : Nat} (h : a ≠ b) : (((a : Nat) : Int) == ((b : Nat) : Int)) = false := by simp only [beq_eq_false_iff_ne]; omega
set_option maxHeartbeats 4000000 in
set_option maxRecDepth 100000 in
theorem there_ok {w0 w : World} {X k : Nat} {H : List Dn} {c : Nat → Nat → Nat} {P : Nat → Nat} {V : Nat → Vl} {s : Sl} (h : Hm w0 w X k H c P V s) (hl : H.length ≤ 60) {i : Nat} (hi : i < 4) (e : Nat) (he : e < 3) : Calls Try.prog 34 #[.pointer (some ⟨X, 0, none⟩), .int .i64 (i : Int), .int .i64 (e : Int)] w fun r w' => r = .returned (.bool (thB H (c i) e)) ∧ Apart [] w w' := by
  have HM := hid h
  obtain ⟨n, Hn⟩ : ∃ n, Hid (n = H.length) := ⟨_, hid rfl⟩
  have hn6 : n ≤ 60 := by rw [Hn.out]; exact hl
  have zs := h.all
  have hsn : s.n = n := by rw [Hn.out]; exact h.len
  rw [hsn] at zs
  have Hap := hid (Apart.refl [] w)
  obtain ⟨th, Hth⟩ : ∃ b, Hid (b = thB H (c i) e) := ⟨_, hid rfl⟩
  rw [← Hth.out]
  clear hsn hl h
  go_enter Try.func34, Try.ntmps34
  go_wp2_with fail
  go_loopw [7] (fun v7 wt => ∃ p : Nat, v7 = .int .i64 (p : Int) ∧ p ≤ n ∧ Hid (∀ q, q < p → alB H (c i) e q = false) ∧ Hid (wt = w)) (fun v7 _ => n - intN v7)
  case atStart => exact ⟨0, rfl, Nat.zero_le _, hid (fun q hq => by omega), hid rfl⟩
  case round =>
    obtain ⟨p, rfl, hp, Hno, Hwr⟩ := hrel
    rw [Hwr.out]
    clear Hwr wr
    by_cases hlt : p < n
    · have hlti : ((p : Nat) : Int) < ((n : Nat) : Int) := by omega
      have hp60 : p < 60 := by omega
      have Hstep : Hid (alB H (c i) e p = false → ∀ q, q < p + 1 → alB H (c i) e q = false) := hid (fun ha q hq => by
        rcases Nat.lt_or_ge q p with h1 | h1
        · exact Hno.out q h1
        · obtain rfl : q = p := by omega
          exact ha)
      have Hb := hid (HM.out.bit hi (p := p) (by omega))
      obtain ⟨b, HB⟩ : ∃ b, Hid (b = se H (c i) p) := ⟨_, hid rfl⟩
      rw [← HB.out] at Hb
      have zb := Hb.out
      cases b
      · go_wp2_with fail
        exact ⟨⟨p + 1, by go_num, by omega, hid (Hstep.out (by unfold alB; rw [← HB.out]; rfl)), hid (by first | exact trivial | rfl)⟩, by simp [intN]; omega⟩
      · obtain ⟨A, o, hsp, hA, hev⟩ := HM.out.ev (by have := Hn.out; omega)
        have Hev := hid hev
        rw [hsp] at zs
        clear hev hsp
        obtain ⟨d, Hd⟩ : ∃ d, Hid (H[p]? = some d) := ⟨_, hid (List.getElem?_eq_getElem (by have := Hn.out; omega))⟩
        have ztk := Hev.out p d 2 _ Hd.out (drow_tk H d) (by omega)
        have zel := Hev.out p d 1 _ Hd.out (drow_el H d) (by omega)
        obtain ⟨tk, Htk⟩ : ∃ b, Hid (b = d.tk) := ⟨_, hid rfl⟩
        obtain ⟨el, Hel⟩ : ∃ b, Hid (b = d.el) := ⟨_, hid rfl⟩
        rw [← Htk.out] at ztk
        rw [← Hel.out] at zel
        have Htka : Hid (tkA H p = tk) := hid (by unfold tkA; rw [Hd.out, Htk.out])
        have Hela : Hid (elA H p = el) := hid (by unfold elA; rw [Hd.out, Hel.out])
        cases tk
        · by_cases hee : el = e
          · subst hee
            go_upto_region 7 with fail
            go_loopw [8, 9] (fun v8 v9 wt => ∃ q : Nat, v8 = .bool (gnB H (c i) el p q) ∧ v9 = .int .i64 (q : Int) ∧ q ≤ n ∧ Hid (wt = w)) (fun _ v9 _ => n - intN v9)
            case atStart => exact ⟨0, rfl, rfl, Nat.zero_le _, hid rfl⟩
            case round =>
              obtain ⟨q, rfl, rfl, hq, Hwr⟩ := hrel
              rw [Hwr.out]
              clear Hwr wr
              obtain ⟨g, Hg⟩ : ∃ g, Hid (g = gnB H (c i) el p q) := ⟨_, hid rfl⟩
              rw [← Hg.out]
              by_cases hltq : q < n
              · have hltqi : ((q : Nat) : Int) < ((n : Nat) : Int) := by omega
                have hq60 : q < 60 := by omega
                have Hs1 := hid (gnB_succ H (c i) el p q)
                rw [← Hg.out] at Hs1
                cases g
                · obtain ⟨f, Hf⟩ : ∃ d, Hid (H[q]? = some d) := ⟨_, hid (List.getElem?_eq_getElem (by have := Hn.out; omega))⟩
                  have Hb2 := hid (HM.out.bit hi (p := q) (by omega))
                  obtain ⟨b2, HB2⟩ : ∃ b, Hid (b = se H (c i) q) := ⟨_, hid rfl⟩
                  rw [← HB2.out] at Hb2
                  have zb2 := Hb2.out
                  cases b2
                  · go_wp2_with fail
                    exact ⟨⟨q + 1, by rw [Hs1.out]; unfold kl; rw [← HB2.out]; rfl, by go_num, by omega, hid (by first | exact trivial | rfl)⟩, by simp [intN]; omega⟩
                  · have zel2 := Hev.out q f 1 _ Hf.out (drow_el H f) (by omega)
                    obtain ⟨fl, Hfl⟩ : ∃ b, Hid (b = f.el) := ⟨_, hid rfl⟩
                    rw [← Hfl.out] at zel2
                    have Hfla : Hid (elA H q = fl) := hid (by unfold elA; rw [Hf.out, Hfl.out])
                    by_cases hfe : fl = el
                    · subst hfe
                      have zsw := Hev.out q f (4 + p) _ Hf.out (drow_b H f (p := p) (by omega)) (by omega)
                      obtain ⟨sb, Hsb⟩ : ∃ b, Hid (b = se H f.vc p) := ⟨_, hid rfl⟩
                      rw [← Hsb.out, ← Nat.add_assoc] at zsw
                      have Hswa : Hid (sw H q p = sb) := hid (by unfold sw; rw [Hf.out, Hsb.out])
                      have Hkl : Hid (kl H (c i) fl p q = sb) := hid (by unfold kl; rw [← HB2.out, Hfla.out, Hswa.out]; simp)
                      go_wp2_with fail
                      exact ⟨⟨q + 1, by rw [Hs1.out, Hkl.out]; rfl, by go_num, by omega, hid (by first | exact trivial | rfl)⟩, by simp [intN]; omega⟩
                    · have hfeb := int_beq_no hfe
                      go_wp2_with fail
                      exact ⟨⟨q + 1, by rw [Hs1.out]; unfold kl; rw [Hfla.out, beq_eq_false_iff_ne.2 hfe]; simp, by go_num, by omega, hid (by first | exact trivial | rfl)⟩, by simp [intN]; omega⟩
                · go_wp2_with fail
                  exact ⟨⟨q + 1, by rw [Hs1.out]; rfl, by go_num, by omega, hid (by first | exact trivial | rfl)⟩, by simp [intN]; omega⟩
              · have hltqi : ¬ ((q : Nat) : Int) < ((n : Nat) : Int) := by omega
                have Hqn : Hid (q = H.length) := hid (by have := Hn.out; omega)
                cases g
                · obtain rfl : th = true := by
                    rw [Hth.out]
                    refine thB_yes (p := p) (by have := Hn.out; omega) ?_
                    unfold alB
                    rw [← HB.out, Htka.out, Hela.out, ← Hqn.out, ← Hg.out]
                    simp
                  go_wp2_with fail
                  go_ret
                  exact ⟨rfl, Hap.out⟩
                · go_wp2_with fail
                  exact ⟨⟨p + 1, by go_num, by omega, hid (Hstep.out (by unfold alB; rw [← Hqn.out, ← Hg.out]; simp)), hid (by first | exact trivial | rfl)⟩, by simp [intN]; omega⟩
          · have heb := int_beq_no hee
            go_wp2_with fail
            exact ⟨⟨p + 1, by go_num, by omega, hid (Hstep.out (by unfold alB; rw [Hela.out, beq_eq_false_iff_ne.2 hee]; simp)), hid (by first | exact trivial | rfl)⟩, by simp [intN]; omega⟩
        · go_wp2_with fail
          exact ⟨⟨p + 1, by go_num, by omega, hid (Hstep.out (by unfold alB; rw [Htka.out]; simp)), hid (by first | exact trivial | rfl)⟩, by simp [intN]; omega⟩
    · have hlti : ¬ ((p : Nat) : Int) < ((n : Nat) : Int) := by omega
      obtain rfl : th = false := by rw [Hth.out]; exact thB_no fun q hq => Hno.out q (by have := Hn.out; omega)
      go_wp2_with fail
      go_ret
      exact ⟨rfl, Hap.out⟩
end Go.Proofs.Ytdbeeikjngnnnaa.ty
namespace Go.Proofs.Ytdbeeikjngnnnaa.ty
open Go.ChangeShapes Go.WideShapes Go.ChangeAt Go.RowKit
set_option linter.unusedVariables false
set_option linter.unusedSimpArgs false
theorem sm_succ {H : List Dn} (v : Nat → Nat) {p : Nat} {d : Dn} (h : H[p]? = some d) : sm H v (p + 1) = sm H v p + (if se H v p = true then d.by_ else 0) := by
  rw [sm, h]
  unfold se
  rw [h]
  simp
set_option maxHeartbeats 4000000 in
set_option maxRecDepth 100000 in
theorem right1 {w0 w : World} {X : Nat} {H : List Dn} {c : Nat → Nat → Nat} {P : Nat → Nat} {V : Nat → Vl} {s : Sl} (h : Hm w0 w X 1 H c P V s) (g : Wr 1 H c V) (hl : H.length ≤ 60) {i : Nat} (hi : i < 4) : Calls Try.prog 28 #[.pointer (some ⟨X, 0, none⟩), .int .i64 (i : Int)] w fun r w' => r = .returned (.bool true) ∧ Apart [] w w' := by
  have HM := hid h
  obtain ⟨n, Hn⟩ : ∃ n, Hid (n = H.length) := ⟨_, hid rfl⟩
  have hn6 : n ≤ 60 := by rw [Hn.out]; exact hl
  have zs := h.all
  have hsn : s.n = n := by rw [Hn.out]; exact h.len
  rw [hsn] at zs
  have zk : w.cell? ⟨X, 0, none⟩ = some (.int .i64 1) := h.kind
  have zv := h.val hi
  obtain ⟨u, d, hv⟩ : ∃ u d, V i = .cnt u d := by
    have := g.kd i hi
    cases hx : V i using Vl.el with
    | cnt u d => exact ⟨u, d, rfl⟩
    | set c es => rw [hx] at this; cases this
    | flg c t => rw [hx] at this; cases this
    | rgs s a t => rw [hx] at this; cases this
  have hr := g.rel i hi
  have hgk := g.gk hl hi
  have hho := h.ho i hi
  rw [hv] at hr hgk hho
  have HCs := hid (Sum_v hho hgk.ok)
  rw [sum_right g.hs (g.vc i hi) hr, ← Hn.out] at HCs
  have Hbd := hid (fun m => sm_bound (g.hk.by_ rfl) (c i) m)
  have Hby := hid (g.hk.by_ rfl)
  have HCa := hid (Apart.refl [] w)
  clear hsn hl h g hv hr hgk hho
  go_enter Try.func28, Try.ntmps28
  go_wp2_with fail
  go_loopw [5, 6] (fun v5 v6 wt => ∃ p : Nat, v5 = .int .i64 (sm H (c i) p) ∧ v6 = .int .i64 (p : Int) ∧ p ≤ n ∧ Hid (wt = w)) (fun _ v6 _ => n - intN v6)
  case atStart => exact ⟨0, rfl, rfl, Nat.zero_le _, hid rfl⟩
  case round =>
    obtain ⟨p, rfl, rfl, hp, Hwr⟩ := hrel
    rw [Hwr.out]
    clear Hwr wr
    by_cases hlt : p < n
    · have hlti : ((p : Nat) : Int) < ((n : Nat) : Int) := by omega
      have hp60 : p < 60 := by omega
      obtain ⟨A, o, hsp, hA, hev⟩ := HM.out.ev (by have := Hn.out; omega)
      have Hev := hid hev
      rw [hsp] at zs
      clear hev hsp
      obtain ⟨d, Hd⟩ : ∃ d, Hid (H[p]? = some d) := ⟨_, hid (List.getElem?_eq_getElem (by have := Hn.out; omega))⟩
      have Hs := hid (sm_succ (c i) Hd.out)
      have hb1 := Hbd.out p
      have hb2 := Hby.out p d Hd.out
      have Hb := hid (HM.out.bit hi (p := p) (by omega))
      obtain ⟨b, HB⟩ : ∃ b, Hid (b = se H (c i) p) := ⟨_, hid rfl⟩
      rw [← HB.out] at Hb Hs
      obtain ⟨S, HS⟩ : ∃ S, Hid (S = sm H (c i) p) := ⟨_, hid rfl⟩
      rw [← HS.out] at hb1 Hs ⊢
      have hS : -60000 ≤ S ∧ S ≤ 60000 := by omega
      clear hb1
      have zb := Hb.out
      cases b
      · go_wp2_with fail
        exact ⟨⟨p + 1, by rw [Hs.out]; simp, by go_num, by omega, hid (by first | exact trivial | rfl)⟩, by simp [intN]; omega⟩
      · have zby := Hev.out p d 0 _ Hd.out (drow_by H d) (by omega)
        obtain ⟨y, HY⟩ : ∃ y, Hid (y = d.by_) := ⟨_, hid rfl⟩
        rw [← HY.out] at zby hb2 Hs
        rw [Nat.add_zero] at zby
        go_wp2_with fail
        exact ⟨⟨p + 1, by rw [Hs.out]; simp, by go_num, by omega, hid (by first | exact trivial | rfl)⟩, by simp [intN]; omega⟩
    · have hlti : ¬ ((p : Nat) : Int) < ((n : Nat) : Int) := by omega
      obtain rfl : p = n := by omega
      go_wp2_with (go_at_call 21; refine HCs.out.mono ?_; rintro _ w2 ⟨rfl, a2⟩; have HA2 := hid a2; clear a2)
      go_ret
      exact ⟨rfl, HA2.out⟩
set_option maxHeartbeats 4000000 in
set_option maxRecDepth 100000 in
theorem right3 {w0 w : World} {X : Nat} {H : List Dn} {c : Nat → Nat → Nat} {P : Nat → Nat} {V : Nat → Vl} {s : Sl} (h : Hm w0 w X 3 H c P V s) (g : Wr 3 H c V) (hl : H.length ≤ 60) {i : Nat} (hi : i < 4) : Calls Try.prog 28 #[.pointer (some ⟨X, 0, none⟩), .int .i64 (i : Int)] w fun r w' => r = .returned (.bool true) ∧ Apart [] w w' := by
  have zk : w.cell? ⟨X, 0, none⟩ = some (.int .i64 3) := h.kind
  have zv := h.val hi
  obtain ⟨u, t, hv⟩ : ∃ u d, V i = .flg u d := by
    have := g.kd i hi
    cases hx : V i using Vl.el with
    | cnt u d => rw [hx] at this; cases this
    | set c es => rw [hx] at this; cases this
    | flg c t => exact ⟨c, t, rfl⟩
    | rgs s a t => rw [hx] at this; cases this
  have hr := g.rel i hi
  have hgk := g.gk hl hi
  have hho := h.ho i hi
  rw [hv] at hr hgk hho
  have HCs := hid (On_v hho hgk.ok)
  rw [on_right g.hs hr] at HCs
  have HCt := hid (fun wx (a : Apart [] w wx) => there_ok (h.kept0 a) hl hi 0 (by omega))
  obtain ⟨th, Hth⟩ : ∃ b, Hid (b = thB H (c i) 0) := ⟨_, hid rfl⟩
  rw [← Hth.out] at HCs HCt
  clear hl h g hv hr hgk hho
  go_enter Try.func28, Try.ntmps28
  go_wp2_with (first
    | (go_at_call 23; refine HCs.out.mono ?_; rintro _ w2 ⟨rfl, a2⟩; have HA2 := hid a2; clear a2)
    | (go_at_call 34; refine (HCt.out _ HA2.out).mono ?_; rintro _ w3 ⟨rfl, a3⟩; have HA3 := hid a3; clear a3))
  go_ret
  exact ⟨by simp, HA2.out.trans HA3.out⟩
end Go.Proofs.Ytdbeeikjngnnnaa.ty
