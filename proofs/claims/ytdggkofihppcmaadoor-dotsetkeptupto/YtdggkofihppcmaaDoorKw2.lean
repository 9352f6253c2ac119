import Derived.Test.YtdggkofihppcmaaDoorKw1
namespace Go.Proofs.YtdggkofihppcmaaDoor.ds
open Go.ChangeShapes Go.WideShapes Go.ChangeAt Go.RowKit
set_option linter.unusedVariables false
set_option linter.unusedSimpArgs false
/-- an answer: a list in memory of its own, which bears a tag -/
structure Ans (w : World) (who : Nat → Option Nat) (t : Nat) (v : Value) (xs : List S) : Prop where
  own : w.ownsRow 0 52 3 v xs.length (flat xs)
  tag : ∀ k, v.ownBlock = some k → who k = some t
  len : xs.length ≤ 8
  fit : ∀ x ∈ xs, x.t < 2 ^ 64
theorem Ans.kept {w w' : World} {who who' : Nat → Option Nat} {t : Nat} {v : Value} {xs : List S} {X : List Nat} (h : Ans w who t v xs) (a : Apart X w w') (hx : ∀ k ∈ X, who k ≠ some t) (ext : ∀ k s, who k = some s → who' k = some s) : Ans w' who' t v xs :=
  ⟨own_apart h.own a (fun k hk m => hx k m (h.tag k hk)), fun k hk => ext _ _ (h.tag k hk), h.len, h.fit⟩
theorem Ans.L {w : World} {who : Nat → Option Nat} {t : Nat} {p : Option Addr} {n c : Nat} {xs : List S} (h : Ans w who t (.slice p n c) xs) (hn : n = xs.length) : L w p n xs := by
  subst hn
  exact ⟨Sp.own h.own rfl, rfl, by have := h.len; omega, h.fit⟩
theorem own_some {w : World} {e : TypeId} {size n : Nat} {p : Option Addr} {c : Nat} {xs : List Value} (h : w.ownsRow 0 e size (.slice p n c) n xs) (hn : 0 < n) : ∃ G, p = some ⟨G, 0, none⟩ := by
  obtain ⟨_, ⟨h0, h1⟩ | ⟨g, cap, cur, h0, _⟩⟩ := h
  · omega
  · simp at h0; exact ⟨g, h0.1⟩
/-- lists that lie untouched -/
structure QW (w0 w : World) (who : Nat → Option Nat) (qv : Value) (n : Nat) (v : Nat → Value) (x : Nat → List S) : Prop where
  row : w.ownsRow 0 22 1 qv n ((List.range n).map v)
  tQ : ∀ k, qv.ownBlock = some k → who k = some 1
  lst : ∀ j, j < n → Ans w who (2 * j + 3) (v j) (x j)
  old : ∀ k t, who k = some t → w0.heap.size ≤ k ∧ k < w.heap.size
  ap : Apart [] w0 w
theorem QW.kept {w0 w w' : World} {who : Nat → Option Nat} {qv : Value} {n : Nat} {v : Nat → Value} {x : Nat → List S} (h : QW w0 w who qv n v x) (a : Apart [] w w') : QW w0 w' who qv n v x :=
  ⟨own_apart h.row a (by simp), h.tQ, fun j hj => (h.lst j hj).kept a (by simp) (fun _ _ e => e), fun k t e => ⟨(h.old k t e).1, Nat.lt_of_lt_of_le (h.old k t e).2 a.size⟩, h.ap.trans a⟩
theorem QW.upd {w0 w w' : World} {who : Nat → Option Nat} {qv : Value} {n : Nat} {v : Nat → Value} {x : Nat → List S} (h : QW w0 w who qv n v x) (i : Nat) (hi : i < n) (a : Apart (v i).ownBlock.toList w w') (xs' : List S) (an : Ans w' who (2 * i + 3) (v i) xs') : QW w0 w' who qv n v (fun j => if j = i then xs' else x j) := by
  have tg : ∀ k ∈ (v i).ownBlock.toList, who k = some (2 * i + 3) := fun k hk => (h.lst i hi).tag k (by simpa using hk)
  refine ⟨own_apart h.row a (fun k hk m => ?_), h.tQ, fun j hj => ?_, fun k t e => ⟨(h.old k t e).1, Nat.lt_of_lt_of_le (h.old k t e).2 a.size⟩, h.ap.trans' a (fun y hy => .inr (h.old y _ (tg y hy)).1)⟩
  · have := tg k m; rw [h.tQ k hk] at this; simp at this
  · by_cases e : j = i
    · subst e; simp only [if_true]; exact an
    · simp only [if_neg e]
      exact (h.lst j hj).kept a (fun k hk => by rw [tg k hk]; simp; omega) (fun _ _ e => e)
theorem QW.cell {w0 w : World} {who : Nat → Option Nat} {G n c : Nat} {v : Nat → Value} {x : Nat → List S} (h : QW w0 w who (.slice (some ⟨G, 0, none⟩) n c) n v x) {X : World} (a : Apart [] w X) (i : Nat) (hi : i < n) : X.cell? ⟨G, i, none⟩ = some (v i) := by
  have := (h.kept a).row.cells rfl i (v i) (by simp [hi])
  rw [Addr.add_lit] at this
  simpa using this
/-- a list of which the first are marks -/
def mfill (m : S) (b : Nat) (xs : List S) : List S := List.replicate b m ++ xs.drop b
theorem mfill_zero (m : S) (xs : List S) : mfill m 0 xs = xs := by simp [mfill]
theorem mfill_len (m : S) (b : Nat) (xs : List S) (hb : b ≤ xs.length) : (mfill m b xs).length = xs.length := by simp [mfill]; omega
theorem mfill_all (m : S) (xs : List S) : mfill m xs.length xs = List.replicate xs.length m := by simp [mfill]
theorem mfill_set (m : S) (b : Nat) (xs : List S) (hb : b < xs.length) : (mfill m b xs).set b m = mfill m (b + 1) xs := by
  unfold mfill
  rw [List.set_append_right _ _ (by simp)]
  simp only [List.length_replicate, Nat.sub_self]
  rw [List.drop_eq_getElem_cons hb, List.set_cons_zero, List.replicate_succ', List.append_assoc]
  rfl
theorem mfill_fit (m : S) (b : Nat) (xs : List S) (hm : m.t < 2 ^ 64) (hf : ∀ x ∈ xs, x.t < 2 ^ 64) : ∀ x ∈ mfill m b xs, x.t < 2 ^ 64 := by
  intro x hx
  simp only [mfill, List.mem_append] at hx
  rcases hx with hx | hx
  · rw [List.eq_of_mem_replicate hx]; exact hm
  · exact hf x (List.mem_of_mem_drop hx)
theorem mrk_fit (k : Nat) : (mrk k).t < 2 ^ 64 := by simp [mrk]
/-- a mark more in a list -/
theorem Ans.mark {w : World} {who : Nat → Option Nat} {t P n c b : Nat} {m : S} {xs : List S} (h : Ans w who t (.slice (some ⟨P, 0, none⟩) n c) (mfill m b xs)) (hn : n = xs.length) (hb : b < n) (hm : m.t < 2 ^ 64) (hf : ∀ x ∈ xs, x.t < 2 ^ 64) :
    Ans (((w.setCell ⟨P, b * 3, none⟩ (.int .i64 m.n)).setCell ⟨P, b * 3 + 1, none⟩ (.int .i64 m.b)).setCell ⟨P, b * 3 + 2, none⟩ (.int .u64 (m.t : Int))) who t (.slice (some ⟨P, 0, none⟩) n c) (mfill m (b + 1) xs) := by
  have l1 := mfill_len m b xs (by omega)
  have l2 := mfill_len m (b + 1) xs (by omega)
  have o := h.own
  rw [l1, ← hn] at o
  have := own_set3 o (by omega) b hb m
  rw [mfill_set m b xs (by omega)] at this
  refine ⟨by rw [l2, ← hn]; exact this, h.tag, by have := h.len; omega, mfill_fit _ _ _ hm hf⟩
theorem apart3 {X : List Nat} {w W : World} (a : Apart X w W) {P : Nat} (hP : P ∈ X) (i j k : Nat) (x y z : Value) : Apart X w (((W.setCell ⟨P, i, none⟩ x).setCell ⟨P, j, none⟩ y).setCell ⟨P, k, none⟩ z) :=
  ((a.setCell (.inl hP) _).setCell (.inl hP) _).setCell (.inl hP) _
set_option maxHeartbeats 8000000 in
set_option maxRecDepth 100000 in
theorem apart_ok {w0 w : World} {who : Nat → Option Nat} {qv : Value} {n : Nat} {v : Nat → Value} {x : Nat → List S} (h : QW w0 w who qv n v x) (hn : n ≤ 200) (tw : ∀ a, 2 * a + 1 < n → x (2 * a) = x (2 * a + 1)) :
    Calls Tryd.prog 35 #[qv] w fun r w' => r = .returned (.bool true) ∧ Apart [] w0 w' := by
  obtain ⟨p, c, rfl⟩ := own_shape h.row
  have HS := hid h
  have HTW := hid tw
  have HP : Hid (0 < n → ∃ G, p = some ⟨G, 0, none⟩) := fun h0 => own_some h.row h0
  have HF : Hid (∀ j, j < n → ∀ z ∈ x j, z.t < 2 ^ 64) := fun j hj => (h.lst j hj).fit
  clear h tw
  go_enter Tryd.func35, Tryd.ntmps35
  go_wp2_with fail
  go_loopw [3] (fun vi wr => ∃ a : Nat, 2 * a ≤ n + 1 ∧ vi = .int .i64 ((2 * a : Nat) : Int) ∧ QW w0 wr who (.slice p n c) n v x) (fun vi _ => n + 1 - (intOf vi).toNat)
  case atStart => exact ⟨0, by omega, by simp, HS.out⟩
  case round =>
    clear HS
    obtain ⟨a, ha, rfl, hQ⟩ := hrel
    have HQ := hid hQ
    clear hQ
    by_cases hlt : 2 * a + 1 < n
    · obtain ⟨G, rfl⟩ := HP.out (by omega)
      have aD : Apart [] wr wr.drew := (Apart.refl _ _).drewN 1
      have c1 := HQ.out.cell aD (2 * a) (by omega)
      have c2 := HQ.out.cell aD (2 * a + 1) (by omega)
      have s1 := (HQ.out.kept aD).lst (2 * a) (by omega)
      have s2 := (HQ.out.kept aD).lst (2 * a + 1) (by omega)
      obtain ⟨p1, d1, hv1⟩ := own_shape s1.own
      obtain ⟨p2, d2, hv2⟩ := own_shape s2.own
      rw [hv1] at c1 s1
      rw [hv2] at c2 s2
      have hS := same_as (cap := d1) (cb := d2) (s1.L rfl) (s2.L rfl) true ⟨by simp [HTW.out a hlt]⟩
      have HAD := hid aD
      obtain ⟨n1, hn1⟩ : ∃ n1, (x (2 * a)).length = n1 := ⟨_, rfl⟩
      obtain ⟨n2, hn2⟩ : ∃ n2, (x (2 * a + 1)).length = n2 := ⟨_, rfl⟩
      rw [hn1] at c1 hS
      rw [hn2] at c2 hS
      obtain ⟨b, hb⟩ : ∃ b, 2 * a = b := ⟨_, rfl⟩
      rw [hb] at c1 c2 hlt ha ⊢
      clear s1 s2 aD hv1 hv2 hn1 hn2
      have iA : b < n := by omega
      have iB : ¬ ((b : Int) + 1 < 0) := by omega
      have iC : (b : Int) + 1 < (n : Int) := by omega
      have iD : IntKind.i64.wrap ((b : Int) + 1) = (b : Int) + 1 := by rw [IntKind.wrap_i64]; omega
      have iE : ((b : Int) + 1).toNat = b + 1 := by omega
      go_wp2_with fail
      refine wp_region_held_drew (S := fun X => X.cell? ⟨G, b, none⟩ = some (.slice p1 n1 d1) ∧ X.cell? ⟨G, b + 1, none⟩ = some (.slice p2 n2 d2)) (by kernel_rfl) ⟨c1, c2⟩ (fun hHeld => ?_)
      refine wpAnyH_take (i := 0) (oi := ⟨some 17, _, _, _, _, _⟩) (v := (.slice (some ⟨G, 0, none⟩) n c)) rfl (by kernel_rfl) (by kernel_rfl) (by kernel_rfl) (fun _ _ _ h => h) (Or.inl ⟨by rfl, ?_⟩) (by assumption) ?_
      · intro W hSW; go_simp
      simp only [Act.put, List.setIfInBounds_toArray, List.set_cons_zero, List.set_cons_succ]
      refine wpAnyH_take (i := 1) (oi := ⟨some 18, _, _, _, _, _⟩) (v := (.int .i64 (b : Nat))) rfl (by kernel_rfl) (by kernel_rfl) (by kernel_rfl) (fun _ _ _ h => h) (Or.inl ⟨by rfl, ?_⟩) (by assumption) ?_
      · intro W hSW; go_simp
      simp only [Act.put, List.setIfInBounds_toArray, List.set_cons_zero, List.set_cons_succ]
      refine wpAnyH_take (i := 2) (oi := ⟨some 19, _, _, _, _, _⟩) (v := (.pointer (some ⟨G, b, none⟩))) rfl (by kernel_rfl) (by kernel_rfl) (by kernel_rfl) (fun _ _ _ h => h) (Or.inl ⟨by rfl, ?_⟩) (by assumption) ?_
      · intro W hSW; go_simp
      simp only [Act.put, List.setIfInBounds_toArray, List.set_cons_zero, List.set_cons_succ]
      refine wpAnyH_take (i := 3) (oi := ⟨some 20, _, _, _, _, _⟩) (v := (.slice p1 n1 d1)) rfl (by kernel_rfl) (by kernel_rfl) (by kernel_rfl) (fun _ _ _ h => h) (Or.inl ⟨by rfl, ?_⟩) (by assumption) ?_
      · intro W hSW; go_simp
      simp only [Act.put, List.setIfInBounds_toArray, List.set_cons_zero, List.set_cons_succ]
      refine wpAnyH_take (i := 4) (oi := ⟨some 21, _, _, _, _, _⟩) (v := (.slice (some ⟨G, 0, none⟩) n c)) rfl (by kernel_rfl) (by kernel_rfl) (by kernel_rfl) (fun _ _ _ h => h) (Or.inl ⟨by rfl, ?_⟩) (by assumption) ?_
      · intro W hSW; go_simp
      simp only [Act.put, List.setIfInBounds_toArray, List.set_cons_zero, List.set_cons_succ]
      refine wpAnyH_take (i := 5) (oi := ⟨some 22, _, _, _, _, _⟩) (v := (.int .i64 (b : Nat))) rfl (by kernel_rfl) (by kernel_rfl) (by kernel_rfl) (fun _ _ _ h => h) (Or.inl ⟨by rfl, ?_⟩) (by assumption) ?_
      · intro W hSW; go_simp
      simp only [Act.put, List.setIfInBounds_toArray, List.set_cons_zero, List.set_cons_succ]
      refine wpAnyH_take (i := 6) (oi := ⟨some 23, _, _, _, _, _⟩) (v := (.int .i64 ((b : Nat) + 1))) rfl (by kernel_rfl) (by kernel_rfl) (by kernel_rfl) (fun _ _ _ h => h) (Or.inl ⟨by rfl, ?_⟩) (by assumption) ?_
      · intro W hSW; go_simp
      simp only [Act.put, List.setIfInBounds_toArray, List.set_cons_zero, List.set_cons_succ]
      refine wpAnyH_take (i := 7) (oi := ⟨some 24, _, _, _, _, _⟩) (v := (.pointer (some ⟨G, b + 1, none⟩))) rfl (by kernel_rfl) (by kernel_rfl) (by kernel_rfl) (fun _ _ _ h => h) (Or.inl ⟨by rfl, ?_⟩) (by assumption) ?_
      · intro W hSW; go_simp
      simp only [Act.put, List.setIfInBounds_toArray, List.set_cons_zero, List.set_cons_succ]
      refine wpAnyH_take (i := 8) (oi := ⟨some 25, _, _, _, _, _⟩) (v := (.slice p2 n2 d2)) rfl (by kernel_rfl) (by kernel_rfl) (by kernel_rfl) (fun _ _ _ h => h) (Or.inl ⟨by rfl, ?_⟩) (by assumption) ?_
      · intro W hSW; go_simp
      simp only [Act.put, List.setIfInBounds_toArray, List.set_cons_zero, List.set_cons_succ]
      refine wpAnyH_ready (rs := [9]) (by kernel_rfl) (by simp) ?_
      refine AllReadyH.cons rfl (fun KK hKK => ?_) AllReadyH.nil
      go_simp
      refine hS.mono ?_
      rintro r w2 ⟨rfl, a2⟩
      dsimp only
      have HQ2 := hid ((HQ.out.kept HAD.out).kept a2)
      have y1 := HQ2.out.cell (Apart.refl _ _) b (by omega)
      have y2 := HQ2.out.cell (Apart.refl _ _) (b + 1) (by omega)
      have e1 : v b = .slice p1 n1 d1 := by have := HQ.out.cell HAD.out b (by omega); rw [c1] at this; simpa using this.symm
      have e2 : v (b + 1) = .slice p2 n2 d2 := by have := HQ.out.cell HAD.out (b + 1) (by omega); rw [c2] at this; simpa using this.symm
      rw [e1] at y1
      rw [e2] at y2
      clear a2 hS e1 e2
      refine hKK.out _ _ ⟨y1, y2⟩ (fun hHeld => ?_)
      clear hKK KK
      refine wpAnyH_take (i := 10) (oi := ⟨some 27, _, _, _, _, _⟩) (v := (.bool false)) rfl (by kernel_rfl) (by kernel_rfl) (by kernel_rfl) (fun _ _ _ h => h) (Or.inl ⟨by rfl, ?_⟩) (by assumption) ?_
      · intro W hSW; go_simp
      simp only [Act.put, List.setIfInBounds_toArray, List.set_cons_zero, List.set_cons_succ]
      refine wpAnyH_done (by kernel_rfl) ?_ _
      go_wp2
      go_roundw
      case rel => exact ⟨a + 1, by omega, by rw [← hb]; go_num, HQ2.out⟩
      case measure => simp [intOf]; omega
    · go_wp2_with fail
      generalize (((2 * a : Nat) : Int)) = va
      go_loopw [4] (fun vi wr => ∃ (i : Nat) (y : Nat → List S), i ≤ n ∧ vi = .int .i64 (i : Nat) ∧ QW w0 wr who (.slice p n c) n v y ∧ (∀ j, j < i → y j = List.replicate (x j).length (mrk (1000 + j))) ∧ ∀ j, i ≤ j → y j = x j) (fun vi _ => n - (intOf vi).toNat)
      case atStart => exact ⟨0, x, by omega, rfl, HQ.out, fun j hj => absurd hj (by omega), fun j _ => rfl⟩
      case round =>
        clear HQ
        obtain ⟨i, y, hi, rfl, hQ, hy1, hy2⟩ := hrel
        have HQ := hid hQ
        have HY1 := hid hy1
        have HY2 := hid hy2
        clear hQ hy1 hy2
        by_cases hlt2 : i < n
        · obtain ⟨G, rfl⟩ := HP.out (by omega)
          go_wp2_with fail
          go_loopw [5] (fun vb wr => ∃ (b : Nat) (y : Nat → List S), b ≤ (x i).length ∧ vb = .int .i64 (b : Nat) ∧ QW w0 wr who (.slice (some ⟨G, 0, none⟩) n c) n v y ∧ (∀ j, j < i → y j = List.replicate (x j).length (mrk (1000 + j))) ∧ (∀ j, i < j → y j = x j) ∧ y i = mfill (mrk (1000 + i)) b (x i)) (fun vb _ => (x i).length - (intOf vb).toNat)
          case atStart => exact ⟨0, y, by omega, rfl, HQ.out, HY1.out, fun j hj => HY2.out j (by omega), by rw [mfill_zero, HY2.out i (Nat.le_refl _)]⟩
          case round =>
            clear HQ HY1 HY2
            obtain ⟨b, y, hb, rfl, hQ, hy1, hy2, hy3⟩ := hrel
            have HY1 := hid hy1
            have HY2 := hid hy2
            have HY3 := hid hy3
            have aD : Apart [] wr wr.drew := (Apart.refl _ _).drewN 1
            have hQD := hQ.kept aD
            have s1 := hQD.lst i hlt2
            have ci := hQ.cell (Apart.refl _ _) i hlt2
            have cD := hQD.cell (Apart.refl _ _) i hlt2
            rw [hy3] at s1
            have hlm := mfill_len (mrk (1000 + i)) b (x i) hb
            have own1 := s1.own
            rw [hlm] at own1
            obtain ⟨p1, d1, hv1⟩ := own_shape own1
            obtain ⟨N, hN⟩ : ∃ N, (x i).length = N := ⟨_, rfl⟩
            rw [hN] at hv1 own1 hb hlm
            rw [hv1] at ci cD own1
            have hN8 : N ≤ 8 := by have := s1.len; omega
            have HV := hid hv1
            have HN := hid hN
            have HQ := hid hQ
            have HQD := hid hQD
            have HS1 := hid s1
            have HFX : Hid (∀ z ∈ x i, z.t < 2 ^ 64) := HF.out i hlt2
            clear hQ hQD hy1 hy2 hy3 s1 hlm hN hv1
            rw [HN.out]
            by_cases hbN : b < N
            · obtain ⟨P, rfl⟩ := own_some own1 (by omega)
              have hM := mark_ok wr.drew (1000 + i) (by omega)
              clear own1
              have hcast : (((1000 + i : Nat)) : Int) = 1000 + (i : Int) := by omega
              rw [hcast] at hM
              have iD : IntKind.i64.wrap (1000 + (i : Int)) = 1000 + (i : Int) := by rw [IntKind.wrap_i64]; omega
              go_wp2_with fail
              refine wp_region_held_drew (S := fun X => X.cell? ⟨G, i, none⟩ = some (.slice (some ⟨P, 0, none⟩) N d1)) (by kernel_rfl) cD (fun hHeld => ?_)
              refine wpAnyH_take (i := 0) (oi := ⟨some 43, _, _, _, _, _⟩) (v := (.slice (some ⟨G, 0, none⟩) n c)) rfl (by kernel_rfl) (by kernel_rfl) (by kernel_rfl) (fun _ _ _ h => h) (Or.inl ⟨by rfl, ?_⟩) (by assumption) ?_
              · intro W hSW; go_simp
              simp only [Act.put, List.setIfInBounds_toArray, List.set_cons_zero, List.set_cons_succ]
              refine wpAnyH_take (i := 1) (oi := ⟨some 44, _, _, _, _, _⟩) (v := (.int .i64 (i : Nat))) rfl (by kernel_rfl) (by kernel_rfl) (by kernel_rfl) (fun _ _ _ h => h) (Or.inl ⟨by rfl, ?_⟩) (by assumption) ?_
              · intro W hSW; go_simp
              simp only [Act.put, List.setIfInBounds_toArray, List.set_cons_zero, List.set_cons_succ]
              refine wpAnyH_take (i := 2) (oi := ⟨some 45, _, _, _, _, _⟩) (v := (.pointer (some ⟨G, i, none⟩))) rfl (by kernel_rfl) (by kernel_rfl) (by kernel_rfl) (fun _ _ _ h => h) (Or.inl ⟨by rfl, ?_⟩) (by assumption) ?_
              · intro W hSW; go_simp
              simp only [Act.put, List.setIfInBounds_toArray, List.set_cons_zero, List.set_cons_succ]
              refine wpAnyH_take (i := 3) (oi := ⟨some 46, _, _, _, _, _⟩) (v := (.slice (some ⟨P, 0, none⟩) N d1)) rfl (by kernel_rfl) (by kernel_rfl) (by kernel_rfl) (fun _ _ _ h => h) (Or.inl ⟨by rfl, ?_⟩) (by assumption) ?_
              · intro W hSW; go_simp
              simp only [Act.put, List.setIfInBounds_toArray, List.set_cons_zero, List.set_cons_succ]
              refine wpAnyH_take (i := 4) (oi := ⟨some 47, _, _, _, _, _⟩) (v := (.int .i64 (b : Nat))) rfl (by kernel_rfl) (by kernel_rfl) (by kernel_rfl) (fun _ _ _ h => h) (Or.inl ⟨by rfl, ?_⟩) (by assumption) ?_
              · intro W hSW; go_simp
              simp only [Act.put, List.setIfInBounds_toArray, List.set_cons_zero, List.set_cons_succ]
              refine wpAnyH_take (i := 5) (oi := ⟨some 48, _, _, _, _, _⟩) (v := (.int .i64 (i : Nat))) rfl (by kernel_rfl) (by kernel_rfl) (by kernel_rfl) (fun _ _ _ h => h) (Or.inl ⟨by rfl, ?_⟩) (by assumption) ?_
              · intro W hSW; go_simp
              simp only [Act.put, List.setIfInBounds_toArray, List.set_cons_zero, List.set_cons_succ]
              refine wpAnyH_take (i := 6) (oi := ⟨some 49, _, _, _, _, _⟩) (v := (.int .i64 (1000 + (i : Nat)))) rfl (by kernel_rfl) (by kernel_rfl) (by kernel_rfl) (fun _ _ _ h => h) (Or.inl ⟨by rfl, ?_⟩) (by assumption) ?_
              · intro W hSW; go_simp
              simp only [Act.put, List.setIfInBounds_toArray, List.set_cons_zero, List.set_cons_succ]
              refine wpAnyH_ready (rs := [7]) (by kernel_rfl) (by simp) ?_
              refine AllReadyH.cons rfl (fun KK hKK => ?_) AllReadyH.nil
              go_simp
              refine hM.mono ?_
              rintro r w2 ⟨rfl, a2⟩
              dsimp only
              have HQ2 := hid (HQD.out.kept a2)
              have y1 := HQ2.out.cell (Apart.refl _ _) i hlt2
              rw [HV.out] at y1
              have s2 := HS1.out.kept a2 (by simp) (fun _ _ e => e)
              have HS2 := hid s2
              have o2 := s2.own
              rw [HV.out, mfill_len _ _ _ (by rw [HN.out]; exact hb), HN.out] at o2
              obtain ⟨cur, hcur, hsz⟩ := own_cells3 o2 (by rw [mfill_len _ _ _ (by rw [HN.out]; exact hb), HN.out])
              have fr : ∀ q, w2.frozen? ⟨P, q, none⟩ = false := fun q => frozen_of_row w2 P q _ _ hcur
              have ce : ∀ q, q < N * 3 → ∃ u, w2.cell? ⟨P, q, none⟩ = some u := fun q hq => ⟨_, by rw [cell_of_row _ _ _ _ _ _ hcur, Array.getElem?_eq_getElem (by omega)]⟩
              obtain ⟨u0, k0⟩ := ce (b * 3) (by omega)
              obtain ⟨u1, k1⟩ := ce (b * 3 + 1) (by omega)
              obtain ⟨u2, k2⟩ := ce (b * 3 + 2) (by omega)
              have f0 := fr (b * 3)
              have f1 := fr (b * 3 + 1)
              have f2 := fr (b * 3 + 2)
              have hGP : G ≠ P := by
                intro e
                have t1 := HQ.out.tQ G rfl
                have t2 := HS1.out.tag P (by rw [HV.out]; rfl)
                rw [e, t2] at t1
                simp at t1
              clear hM a2 s2 o2 hcur fr ce
              refine hKK.out _ _ y1 (fun hHeld => ?_)
              clear hKK KK
              refine wpAnyH_take (i := 8) (oi := ⟨some 51, _, _, _, _, _⟩) (v := (.pointer (some ⟨P, b * 3, none⟩))) rfl (by kernel_rfl) (by kernel_rfl) (by kernel_rfl) (fun _ _ _ h => h) (Or.inl ⟨by rfl, ?_⟩) (by assumption) ?_
              · intro W hSW; go_simp
              simp only [Act.put, List.setIfInBounds_toArray, List.set_cons_zero, List.set_cons_succ]
              refine wpAnyH_ready (rs := [9]) (by kernel_rfl) (by simp) ?_
              refine AllReadyH.cons rfl (fun KK hKK => ?_) AllReadyH.nil
              go_simp
              have aX : Apart [P] w2 (((w2.setCell ⟨P, b * 3, none⟩ (.int .i64 (mrk (1000 + i)).n)).setCell ⟨P, b * 3 + 1, none⟩ (.int .i64 (mrk (1000 + i)).b)).setCell ⟨P, b * 3 + 2, none⟩ (.int .u64 ((mrk (1000 + i)).t : Int))) := apart3 (Apart.refl _ _) (by simp) _ _ _ _ _ _
              have y2 := (aX.cell (p := ⟨G, i, none⟩) (block_lt_of_cell y1) (by simpa using hGP)).trans y1
              have hA3 : Ans w2 who (2 * i + 3) (.slice (some ⟨P, 0, none⟩) N d1) (mfill (mrk (1000 + i)) b (x i)) := by rw [← HV.out]; exact HS2.out
              have hA4 := hA3.mark HN.out.symm hbN (mrk_fit _) HFX.out
              have hU := HQ2.out.upd i hlt2 (by rw [HV.out]; exact aX) _ (by rw [HV.out]; exact hA4)
              have HU := hid hU
              clear hA3 hA4 hU aX
              refine hKK.out _ _ y2 (fun hHeld => ?_)
              clear hKK KK
              refine wpAnyH_done (by kernel_rfl) ?_ _
              clear y1 y2 k0 k1 k2 f0 f1 f2
              go_wp2
              go_roundw
              case rel => exact ⟨b + 1, _, by omega, by go_num, HU.out, fun j hj => by rw [if_neg (by omega)]; exact HY1.out j hj, fun j hj => by rw [if_neg (by omega)]; exact HY2.out j hj, by rw [if_pos rfl]⟩
              case measure => simp [intOf]; omega
            · obtain rfl : b = N := by omega
              clear own1 cD
              go_wp2
              go_roundw
              case rel =>
                refine ⟨i + 1, y, by omega, by go_num, HQ.out, fun j hj => ?_, fun j hj => HY2.out j (by omega)⟩
                by_cases e : j = i
                · subst e; rw [HY3.out, ← HN.out, mfill_all]
                · exact HY1.out j (by omega)
              case measure => simp [intOf]; omega
        · obtain rfl : i = n := by omega
          have HY : Hid (∃ y, QW w0 wr who (.slice p i c) i v y ∧ ∀ j, j < i → y j = List.replicate (x j).length (mrk (1000 + j))) := ⟨y, HQ.out, HY1.out⟩
          clear HQ HY1 HY2
          go_wp2_with fail
          go_loopw [6, 7] (fun vm vk wr => ∃ (k : Nat) (y : Nat → List S), k ≤ i ∧ vk = .int .i64 (k : Nat) ∧ vm = .int .i64 ((80 * k : Nat) : Int) ∧ QW w0 wr who (.slice p i c) i v y ∧ (∀ j, j < i → y j = List.replicate (x j).length (mrk (1000 + j)))) (fun _ vk _ => i - (intOf vk).toNat)
          case atStart => obtain ⟨y, h1, h2⟩ := HY.out; exact ⟨0, y, by omega, rfl, rfl, h1, h2⟩
          case round =>
            clear HY
            obtain ⟨k, y, hk, rfl, rfl, hQ, hy1⟩ := hrel
            have HQ := hid hQ
            have HY1 := hid hy1
            clear hQ hy1
            by_cases hlt3 : k < i
            · obtain ⟨G, rfl⟩ := HP.out (by omega)
              have s1 := HQ.out.lst k hlt3
              have c1 := HQ.out.cell (Apart.refl _ _) k hlt3
              have hG := grown_ok s1.own (by have := s1.len; omega)
              have hN8 := s1.len
              obtain ⟨p1, d1, hv1⟩ := own_shape s1.own
              have HV := hid hv1
              obtain ⟨N, hN⟩ : ∃ N, (y k).length = N := ⟨_, rfl⟩
              have HN := hid hN
              rw [hN] at hN8 hv1
              rw [hv1] at c1
              rw [hv1, hN] at hG
              clear s1 hv1 hN
              go_wp2_with fail
              refine hG.mono ?_
              rintro r w2 ⟨p2, d2, rfl, a2, o2⟩
              dsimp only
              have hU := HQ.out.upd k hlt3 (w' := w2) (by rw [HV.out, HN.out]; exact a2) (y k) ⟨by rw [HV.out, HN.out]; exact o2, (HQ.out.lst k hlt3).tag, (HQ.out.lst k hlt3).len, (HQ.out.lst k hlt3).fit⟩
              have c2 := hU.cell (Apart.refl _ _) k hlt3
              rw [HV.out, HN.out] at c2
              have HU := hid hU
              have iD : IntKind.i64.wrap (80 * (k : Int) + ((N : Int) + 80)) = 80 * (k : Int) + ((N : Int) + 80) := by rw [IntKind.wrap_i64]; omega
              have iE : IntKind.i64.wrap (80 * (k : Int) + ((N : Int) + 80) - (N : Int)) = 80 * (k : Int) + 80 := by rw [IntKind.wrap_i64]; omega
              clear a2 o2 hG hU c1
              go_wp2
              go_roundw
              case rel =>
                refine ⟨k + 1, _, by omega, by go_num, by go_num, HU.out, fun j hj => ?_⟩
                by_cases e : j = k
                · rw [if_pos e]; subst e; exact HY1.out j hj
                · rw [if_neg e]; exact HY1.out j hj
              case measure => simp [intOf]; omega
            · obtain rfl : k = i := by omega
              rw [show (((80 * k : Nat)) : Int) = 80 * (k : Int) by omega]
              go_wp2_with fail
              go_loopw [9] (fun vj wr => ∃ (j : Nat) (y : Nat → List S), j ≤ k ∧ vj = .int .i64 (j : Nat) ∧ QW w0 wr who (.slice p k c) k v y ∧ (∀ j, j < k → y j = List.replicate (x j).length (mrk (1000 + j)))) (fun vj _ => k - (intOf vj).toNat)
              case atStart => exact ⟨0, y, by omega, rfl, HQ.out, HY1.out⟩
              case round =>
                clear HQ HY1
                obtain ⟨j, y, hj, rfl, hQ, hy1⟩ := hrel
                have HQ := hid hQ
                have HY1 := hid hy1
                clear hQ hy1
                by_cases hlt4 : j < k
                · obtain ⟨G, rfl⟩ := HP.out (by omega)
                  have aD : Apart [] wr wr.drew := (Apart.refl _ _).drewN 1
                  have hQD := HQ.out.kept aD
                  have s1 := hQD.lst j hlt4
                  have cD := hQD.cell (Apart.refl _ _) j hlt4
                  obtain ⟨p1, d1, hv1⟩ := own_shape s1.own
                  have HV := hid hv1
                  obtain ⟨N, hN⟩ : ∃ N, (y j).length = N := ⟨_, rfl⟩
                  have HN := hid hN
                  have hyj := HY1.out j hlt4
                  rw [hN] at hv1
                  rw [hv1] at cD
                  have l1 : L wr.drew p1 N (List.replicate N (mrk (1000 + j))) := by
                    have hx : (x j).length = N := by rw [hyj] at hN; simpa using hN
                    rw [hv1, hyj, hx] at s1
                    exact s1.L (by simp)
                  have HL1 := hid l1
                  have HQD := hid hQD
                  have hM := mark_ok wr.drew (1000 + j) (by omega)
                  have hcast : (((1000 + j : Nat)) : Int) = 1000 + (j : Int) := by omega
                  rw [hcast] at hM
                  have iD : IntKind.i64.wrap (1000 + (j : Int)) = 1000 + (j : Int) := by rw [IntKind.wrap_i64]; omega
                  clear s1 hv1 hN hyj l1 hQD aD
                  go_wp2_with fail
                  refine wp_region_held_drew (S := fun X => X.cell? ⟨G, j, none⟩ = some (.slice p1 N d1)) (by kernel_rfl) cD (fun hHeld => ?_)
                  refine wpAnyH_take (i := 0) (oi := ⟨some 79, _, _, _, _, _⟩) (v := (.slice (some ⟨G, 0, none⟩) k c)) rfl (by kernel_rfl) (by kernel_rfl) (by kernel_rfl) (fun _ _ _ h => h) (Or.inl ⟨by rfl, ?_⟩) (by assumption) ?_
                  · intro W hSW; go_simp
                  simp only [Act.put, List.setIfInBounds_toArray, List.set_cons_zero, List.set_cons_succ]
                  refine wpAnyH_take (i := 1) (oi := ⟨some 80, _, _, _, _, _⟩) (v := (.int .i64 (j : Nat))) rfl (by kernel_rfl) (by kernel_rfl) (by kernel_rfl) (fun _ _ _ h => h) (Or.inl ⟨by rfl, ?_⟩) (by assumption) ?_
                  · intro W hSW; go_simp
                  simp only [Act.put, List.setIfInBounds_toArray, List.set_cons_zero, List.set_cons_succ]
                  refine wpAnyH_take (i := 2) (oi := ⟨some 81, _, _, _, _, _⟩) (v := (.pointer (some ⟨G, j, none⟩))) rfl (by kernel_rfl) (by kernel_rfl) (by kernel_rfl) (fun _ _ _ h => h) (Or.inl ⟨by rfl, ?_⟩) (by assumption) ?_
                  · intro W hSW; go_simp
                  simp only [Act.put, List.setIfInBounds_toArray, List.set_cons_zero, List.set_cons_succ]
                  refine wpAnyH_take (i := 3) (oi := ⟨some 82, _, _, _, _, _⟩) (v := (.slice p1 N d1)) rfl (by kernel_rfl) (by kernel_rfl) (by kernel_rfl) (fun _ _ _ h => h) (Or.inl ⟨by rfl, ?_⟩) (by assumption) ?_
                  · intro W hSW; go_simp
                  simp only [Act.put, List.setIfInBounds_toArray, List.set_cons_zero, List.set_cons_succ]
                  refine wpAnyH_take (i := 4) (oi := ⟨some 83, _, _, _, _, _⟩) (v := (.int .i64 (j : Nat))) rfl (by kernel_rfl) (by kernel_rfl) (by kernel_rfl) (fun _ _ _ h => h) (Or.inl ⟨by rfl, ?_⟩) (by assumption) ?_
                  · intro W hSW; go_simp
                  simp only [Act.put, List.setIfInBounds_toArray, List.set_cons_zero, List.set_cons_succ]
                  refine wpAnyH_take (i := 5) (oi := ⟨some 84, _, _, _, _, _⟩) (v := (.int .i64 (1000 + (j : Nat)))) rfl (by kernel_rfl) (by kernel_rfl) (by kernel_rfl) (fun _ _ _ h => h) (Or.inl ⟨by rfl, ?_⟩) (by assumption) ?_
                  · intro W hSW; go_simp
                  simp only [Act.put, List.setIfInBounds_toArray, List.set_cons_zero, List.set_cons_succ]
                  refine wpAnyH_ready (rs := [6]) (by kernel_rfl) (by simp) ?_
                  refine AllReadyH.cons rfl (fun KK hKK => ?_) AllReadyH.nil
                  go_simp
                  refine hM.mono ?_
                  rintro r w2 ⟨rfl, a2⟩
                  dsimp only
                  have HQ2 := hid (HQD.out.kept a2)
                  have y1 := HQ2.out.cell (Apart.refl _ _) j hlt4
                  rw [HV.out, HN.out] at y1
                  have hFu := full_ok (cap := d1) (HL1.out.kept0 a2) (mrk_fit _)
                  clear a2 hM
                  refine hKK.out _ _ y1 (fun hHeld => ?_)
                  clear hKK KK
                  refine wpAnyH_ready (rs := [7]) (by kernel_rfl) (by simp) ?_
                  refine AllReadyH.cons rfl (fun KK hKK => ?_) AllReadyH.nil
                  go_simp
                  refine hFu.mono ?_
                  rintro r w3 ⟨rfl, a3⟩
                  dsimp only
                  have HQ3 := hid (HQ2.out.kept a3)
                  have y2 := HQ3.out.cell (Apart.refl _ _) j hlt4
                  rw [HV.out, HN.out] at y2
                  clear a3 hFu
                  refine hKK.out _ _ y2 (fun hHeld => ?_)
                  clear hKK KK
                  refine wpAnyH_take (i := 8) (oi := ⟨some 87, _, _, _, _, _⟩) (v := (.bool false)) rfl (by kernel_rfl) (by kernel_rfl) (by kernel_rfl) (fun _ _ _ h => h) (Or.inl ⟨by rfl, ?_⟩) (by assumption) ?_
                  · intro W hSW; go_simp
                  simp only [Act.put, List.setIfInBounds_toArray, List.set_cons_zero, List.set_cons_succ]
                  refine wpAnyH_done (by kernel_rfl) ?_ _
                  go_wp2
                  go_roundw
                  case rel => exact ⟨j + 1, y, by omega, by go_num, HQ3.out, HY1.out⟩
                  case measure => simp [intOf]; omega
                · obtain rfl : j = k := by omega
                  have aE := hid HQ.out.ap
                  clear HQ HY1
                  go_wp2
                  go_ret
                  exact ⟨by simp; try omega, aE.out⟩
end Go.Proofs.YtdggkofihppcmaaDoor.ds
