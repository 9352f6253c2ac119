import Derived.Test.YtiakcfjbnlibfaaN21
namespace Go.Proofs.Ytiakcfjbnlibfaa.nt
open Go.ChangeShapes Go.WideShapes Go.ChangeAt Go.RowKit
set_option linter.unusedVariables false
set_option linter.unusedSimpArgs false
theorem strB_push (bs : List Nat) (r : ByteArray) : ((bs.map (fun (b : Nat) => (b : Int))).foldl (fun r n => r.push (UInt8.ofNat n.toNat)) r).data.toList = r.data.toList ++ bs.map (fun b => UInt8.ofNat b) := by
  induction bs generalizing r with
  | nil => simp
  | cons b bs ih =>
    simp only [List.map_cons, List.foldl_cons]
    rw [ih]
    simp [ByteArray.push]
theorem strB_inj {a b : List Nat} (ha : ∀ x ∈ a, x < 256) (hb : ∀ x ∈ b, x < 256) (h : strB a = strB b) : a = b := by
  have h1 := strB_push a ByteArray.empty
  have h2 := strB_push b ByteArray.empty
  have h3 : (strB a).data.toList = (strB b).data.toList := by rw [h]
  unfold strB at h3
  rw [h1, h2] at h3
  have h3' : a.map (fun b => UInt8.ofNat b) = b.map (fun b => UInt8.ofNat b) := by
    simpa using h3
  clear h h1 h2 h3
  induction a generalizing b with
  | nil => cases b with
    | nil => rfl
    | cons y b => simp at h3'
  | cons x a ih => cases b with
    | nil => simp at h3'
    | cons y b =>
      simp only [List.map_cons, List.cons.injEq] at h3'
      have hx : x < 256 := ha x (by simp)
      have hy : y < 256 := hb y (by simp)
      have e := congrArg UInt8.toNat h3'.1
      simp only [UInt8.toNat_ofNat'] at e
      have e' : x = y := by omega
      rw [e', ih (fun z hz => ha z (by simp [hz])) (fun z hz => hb z (by simp [hz])) h3'.2]
theorem toList_inj {a b : ByteArray} (h : a.toList = b.toList) : a = b := by
  have := congrArg List.toArray h
  cases a with | mk a => cases b with | mk b =>
    simp [ByteArray.toList_eq] at this
    simpa using this
theorem Tx.ext' {x y : Tx} (h1 : x.f = y.f) (h2 : x.t = y.t) (h3 : x.b = y.b) : x = y := by cases x; cases y; simp_all
instance : DecidableEq Tx := fun x y => decidable_of_iff (x.f = y.f ∧ x.t = y.t ∧ x.b = y.b) ⟨fun h => Tx.ext' h.1 h.2.1 h.2.2, fun h => by subst h; exact ⟨rfl, rfl, rfl⟩⟩
set_option maxHeartbeats 2000000 in
theorem alike_ok (a b : LM) (x y : Tx) (w : World) (h : ReadsL w a x) (k : ReadsL w b y) : Calls Try.prog 16 #[a.agg, b.agg] w fun r w' => r = .returned (.bool (decide (x = y))) ∧ Apart [] w w' := by
  have aV : Apart [] w ((w.alloc (boxL a)).alloc (boxL b)) := ((Apart.refl [] w).alloc _).alloc _
  have e1 := conv_bytes (h.kept0 aV).d h.dn h.ok
  have e2 := conv_bytes (k.kept0 aV).d k.dn k.ok
  obtain ⟨W, hW⟩ : ∃ W, W = (w.alloc (boxL a)).alloc (boxL b) := ⟨_, rfl⟩
  have q1 : W.heap[w.heap.size]? = some (.cells #[.int .i64 a.f, .int .i64 a.t, a.d.v] 30 (0, 0)) := by rw [hW, Below.heap_alloc _ _ _ (by simp)]; exact heap_alloc_new w _
  have q2 : W.heap[w.heap.size + 1]? = some (.cells #[.int .i64 b.f, .int .i64 b.t, b.d.v] 30 (0, 0)) := by
    have := heap_alloc_new (w.alloc (boxL a)) (boxL b)
    rw [hW]
    have e1 : (w.alloc (boxL a)).heap.size = w.heap.size + 1 := by simp
    rw [e1] at this
    exact this
  rw [← hW] at e1 e2 aV
  obtain ⟨s0, s1, s2⟩ := row3 q1
  obtain ⟨t0, t1, t2⟩ := row3 q2
  unfold boxL Sl.v at hW
  have HA := hid aV
  have HH := hid h
  have HK := hid k
  unfold Sl.v at s2 t2
  unfold LM.agg Sl.v
  clear q1 q2 h k aV
  have HS : Hid (∀ u v : ByteArray, u = strB x.b → v = strB y.b → a.f = b.f → a.t = b.t → (u = v ↔ x = y)) := fun u v hu hv hf ht => by
    subst hu hv
    constructor
    · intro e
      exact Tx.ext' (by rw [← HH.out.f, ← HK.out.f, hf]) (by rw [← HH.out.t, ← HK.out.t, ht]) (strB_inj HH.out.db HK.out.db e)
    · intro e; rw [e]
  have HN : Hid (¬ (a.f = b.f ∧ a.t = b.t) → decide (x = y) = false) := fun hn => decide_eq_false fun e => hn ⟨by rw [HH.out.f, HK.out.f, e], by rw [HH.out.t, HK.out.t, e]⟩
  obtain ⟨u, hu⟩ : ∃ u, u = strB x.b := ⟨_, rfl⟩
  obtain ⟨v, hv⟩ : ∃ v, v = strB y.b := ⟨_, rfl⟩
  rw [← hu] at e1
  rw [← hv] at e2
  have HU := hid hu
  have HV := hid hv
  clear hu hv
  by_cases hf : a.f = b.f
  · by_cases ht : a.t = b.t
    · have HE := hid (HS.out u v HU.out HV.out hf ht)
      rw [hf] at s0 hW ⊢
      rw [ht] at s1 hW ⊢
      clear hf ht HS HN
      go_enter Try.func16, Try.ntmps16
      go_upto_region 1 with fail
      rw [← hW]
      clear hW
      go_wp2
      go_ret
      refine ⟨?_, HA.out⟩
      by_cases e : u = v
      · simp [e, HE.out.1 e]
      · have e3 : ¬ u.toList = v.toList := fun h => e (toList_inj h)
        have e4 : ¬ x = y := fun h => e (HE.out.2 h)
        have e5 : (u.toList == v.toList) = false := beq_eq_false_iff_ne.2 e3
        simp only [Ending.returned.injEq, Value.bool.injEq]
        rw [e5, decide_eq_false e4]
        rfl
    · rw [HN.out (fun h => ht h.2)]
      rw [hf] at s0 hW ⊢
      clear hf HS HN
      go_enter Try.func16, Try.ntmps16
      go_upto_region 1 with fail
      rw [← hW]
      clear hW
      go_wp2
      go_ret
      exact ⟨rfl, HA.out⟩
  · rw [HN.out (fun h => hf h.1)]
    clear HS HN
    go_enter Try.func16, Try.ntmps16
    go_upto_region 1 with fail
    rw [← hW]
    clear hW
    go_wp2
    go_ret
    exact ⟨rfl, HA.out⟩
/-- the place of a text in a list -/
def fnd (x : Tx) : List Tx → Int
  | [] => -1
  | y :: l => if y = x then 0 else if fnd x l = -1 then -1 else fnd x l + 1
theorem fnd_range (x : Tx) : ∀ l : List Tx, fnd x l = -1 ∨ (0 ≤ fnd x l ∧ fnd x l < l.length)
  | [] => .inl rfl
  | y :: l => by
    unfold fnd
    split
    · right; simp
    · split
      · left; rfl
      · rcases fnd_range x l with h | ⟨h1, h2⟩
        · contradiction
        · right; simp; omega
theorem fnd_mem {x : Tx} : ∀ {l : List Tx}, x ∈ l → ∃ k : Nat, fnd x l = (k : Int) ∧ k < l.length ∧ l.getD k Tx.z = x
  | y :: l, h => by
    by_cases e : y = x
    · exact ⟨0, by simp [fnd, e], by simp, by simp [e]⟩
    · have hx : x ∈ l := by
        rcases List.mem_cons.1 h with h | h
        · exact absurd h.symm e
        · exact h
      obtain ⟨k, h1, h2, h3⟩ := fnd_mem hx
      exact ⟨k + 1, by simp [fnd, e, h1]; (try omega), by simp; omega, by simpa using h3⟩
/-- the first k of a list have it not -/
theorem fnd_skip (x : Tx) : ∀ (l : List Tx) (k : Nat), (∀ j, j < k → l.getD j Tx.z ≠ x) → k < l.length → l.getD k Tx.z = x → fnd x l = (k : Int)
  | [], k, _, h, _ => by simp at h
  | y :: l, 0, _, _, h => by simp at h; simp [fnd, h]
  | y :: l, k + 1, hn, hk, h => by
    have e : y ≠ x := by simpa using hn 0 (by omega)
    have := fnd_skip x l k (fun j hj => by simpa using hn (j + 1) (by omega)) (by simpa using hk) (by simpa using h)
    simp [fnd, e, this] <;> omega
theorem fnd_none (x : Tx) : ∀ (l : List Tx), (∀ j, j < l.length → l.getD j Tx.z ≠ x) → fnd x l = -1
  | [], _ => rfl
  | y :: l, hn => by
    have e : y ≠ x := by simpa using hn 0 (by simp)
    have := fnd_none x l (fun j hj => by simpa using hn (j + 1) (by simpa using hj))
    simp [fnd, e, this]
theorem gT_ne {l : List Tx} {j k : Nat} {x : Tx} (h : ∀ i, i < k → gT l i ≠ x) (hk : gT l k ≠ x) : ∀ i, i < k + 1 → gT l i ≠ x := fun i hi => by
  by_cases e : i = k
  · rw [e]; exact hk
  · exact h i (by omega)
set_option maxHeartbeats 4000000 in
set_option maxRecDepth 100000 in
/-- find: the place of a letter in a list of letters -/
theorem find_ok (w : World) (t : Sl) (ss : List LM) (zs : List Tx) (l : LM) (x : Tx) (hin : InL w t ss zs) (hn : t.n ≤ 4000000) (hl : ReadsL w l x) : Calls Try.prog 22 #[t.v, l.agg] w fun r w' => r = .returned (.int .i64 (fnd x zs)) ∧ Apart [] w w' := by
  obtain ⟨sp, sn, sc⟩ := t
  obtain ⟨WA, hWA⟩ : ∃ WA, WA = w.alloc (boxL l) := ⟨_, rfl⟩
  have aA : Apart [] w WA := by rw [hWA]; exact (Apart.refl [] w).alloc _
  have rA : WA.heap[w.heap.size]? = some (.cells #[.int .i64 l.f, .int .i64 l.t, .slice l.d.p l.d.n l.d.c] 30 (0, 0)) := by rw [hWA]; exact heap_alloc_new w (boxL l)
  have HI := hid hin
  have HL := hid hl
  have HA := hid aA
  have HR := hid rA
  have hyl : zs.length = sn := hin.yl
  dsimp only at hn
  unfold boxL Sl.v at hWA
  unfold LM.agg Sl.v
  dsimp only
  clear hin hl aA rA
  go_enter Try.func22, Try.ntmps22
  go_upto_region 1 with fail
  rw [← hWA]
  clear hWA
  generalize w.heap.size = B at *
  go_wp2_with fail
  go_loopw [5] (fun v wr => ∃ k : Nat, v = .int .i64 (k : Nat) ∧ k ≤ sn ∧ (∀ j, j < k → gT zs j ≠ x) ∧ Apart [] WA wr) (fun v _ => sn - (intOf v).toNat)
  case atStart => exact ⟨0, rfl, Nat.zero_le _, fun j hj => absurd hj (by omega), Apart.refl _ _⟩
  case round =>
    obtain ⟨k, rfl, hk, hne, ap⟩ := hrel
    have HN := hid hne
    have HP := hid ap
    clear hne ap
    by_cases hlt : k < sn
    · obtain ⟨P, o, hp, _⟩ := HI.out.cells (HA.out.trans HP.out) hlt
      dsimp only at hp
      subst hp
      have hz : ((k : Nat) : Int) < ((sn : Nat) : Int) := by omega
      have HX : Hid (∀ W : World, Apart [] WA W → W.cell? ⟨B, 0, none⟩ = some (.int .i64 l.f) ∧ W.cell? ⟨B, 1, none⟩ = some (.int .i64 l.t) ∧ W.cell? ⟨B, 2, none⟩ = some (.slice l.d.p l.d.n l.d.c) ∧ W.cell? ⟨P, o + k * 3, none⟩ = some (.int .i64 (gL ss k).f) ∧ W.cell? ⟨P, o + k * 3 + 1, none⟩ = some (.int .i64 (gL ss k).t) ∧ W.cell? ⟨P, o + k * 3 + 2, none⟩ = some (.slice (gL ss k).d.p (gL ss k).d.n (gL ss k).d.c)) := fun W a => by
        obtain ⟨b0, b1, b2⟩ := row3 ((a.block _ (lt_of_heap HR.out) (by simp)).trans HR.out)
        obtain ⟨P', o', hp, g0, g1, g2⟩ := HI.out.cells (HA.out.trans a) hlt
        simp at hp
        obtain ⟨rfl, rfl⟩ := hp
        exact ⟨b0, b1, b2, g0, g1, g2⟩
      have HA5 : Hid (Apart [] WA wr.drew) := HP.out.drew
      have hAl := alike_ok (gL ss k) l (gT zs k) x wr.drew ((HI.out.rd k hlt).kept0 (HA.out.trans HA5.out)) (HL.out.kept0 (HA.out.trans HA5.out))
      unfold LM.agg Sl.v at hAl
      go_wp2_with fail
      refine wp_region_held_drew (S := fun X => Apart [] WA X) (by kernel_rfl) HA5.out (fun hHeld => ?_)
      refine wpAnyH_take (i := 0) (oi := ⟨some 12, _, _, _, _, _⟩) (v := (.slice (some ⟨P, o, none⟩) sn sc)) rfl (by kernel_rfl) (by kernel_rfl) (by kernel_rfl) (fun _ _ _ h => h) (Or.inl ⟨by rfl, ?_⟩) (by assumption) ?_
      · intro W hSW; go_simp
      simp only [Act.put, List.setIfInBounds_toArray, List.set_cons_zero, List.set_cons_succ]
      refine wpAnyH_take (i := 1) (oi := ⟨some 13, _, _, _, _, _⟩) (v := (.int .i64 ((k : Nat) : Int))) rfl (by kernel_rfl) (by kernel_rfl) (by kernel_rfl) (fun _ _ _ h => h) (Or.inl ⟨by rfl, ?_⟩) (by assumption) ?_
      · intro W hSW; go_simp
      simp only [Act.put, List.setIfInBounds_toArray, List.set_cons_zero, List.set_cons_succ]
      refine wpAnyH_take (i := 2) (oi := ⟨some 14, _, _, _, _, _⟩) (v := (.pointer (some ⟨P, o + k * 3, none⟩))) rfl (by kernel_rfl) (by kernel_rfl) (by kernel_rfl) (fun _ _ _ h => h) (Or.inl ⟨by rfl, ?_⟩) (by assumption) ?_
      · intro W hSW; go_simp
      simp only [Act.put, List.setIfInBounds_toArray, List.set_cons_zero, List.set_cons_succ]
      refine wpAnyH_take (i := 3) (oi := ⟨some 15, _, _, _, _, _⟩) (v := (.agg #[.int .i64 (gL ss k).f, .int .i64 (gL ss k).t, .slice (gL ss k).d.p (gL ss k).d.n (gL ss k).d.c])) rfl (by kernel_rfl) (by kernel_rfl) (by kernel_rfl) (fun _ _ _ h => h) (Or.inl ⟨by rfl, ?_⟩) (by assumption) ?_
      · intro W hSW; obtain ⟨x0, x1, x2, y0, y1, y2⟩ := HX.out W hSW; go_simp
      simp only [Act.put, List.setIfInBounds_toArray, List.set_cons_zero, List.set_cons_succ]
      refine wpAnyH_take (i := 4) (oi := ⟨some 16, _, _, _, _, _⟩) (v := (.agg #[.int .i64 l.f, .int .i64 l.t, .slice l.d.p l.d.n l.d.c])) rfl (by kernel_rfl) (by kernel_rfl) (by kernel_rfl) (fun _ _ _ h => h) (Or.inl ⟨by rfl, ?_⟩) (by assumption) ?_
      · intro W hSW; obtain ⟨x0, x1, x2, y0, y1, y2⟩ := HX.out W hSW; go_simp
      simp only [Act.put, List.setIfInBounds_toArray, List.set_cons_zero, List.set_cons_succ]
      refine wpAnyH_ready (rs := [5]) (by kernel_rfl) (by simp) ?_
      refine AllReadyH.cons rfl (fun KK hKK => ?_) AllReadyH.nil
      go_simp
      refine hAl.mono ?_
      clear hAl
      rintro _ w6 ⟨rfl, a6⟩
      have aS : Apart [] WA w6 := HA5.out.trans a6
      dsimp only
      refine hKK.out _ _ aS (fun hHeld => ?_)
      clear hKK KK
      refine wpAnyH_done (by kernel_rfl) ?_ _
      have HA6 := hid aS
      clear aS a6
      by_cases he : gT zs k = x
      · have hfn : Hid (fnd x zs = (k : Int)) := fnd_skip x zs k HN.out (by omega) he
        have HE := hid he
        rw [decide_eq_true he]
        clear he
        go_wp2
        go_ret
        refine ⟨?_, HA.out.trans HA6.out⟩
        rw [hfn.out]
        rfl
      · have HE := hid he
        rw [decide_eq_false he]
        clear he
        go_wp2_with fail
        go_roundw
        case rel => exact ⟨k + 1, by go_num, by omega, gT_ne (j := 0) HN.out HE.out, HA6.out⟩
        case measure => simp [intOf]; omega
    · obtain rfl : sn = k := by omega
      have hfn : Hid (fnd x zs = -1) := fnd_none x zs (fun j hj => HN.out j (by omega))
      go_wp2
      go_ret
      refine ⟨?_, HA.out.trans HP.out⟩
      rw [hfn.out]
      rfl
end Go.Proofs.Ytiakcfjbnlibfaa.nt
