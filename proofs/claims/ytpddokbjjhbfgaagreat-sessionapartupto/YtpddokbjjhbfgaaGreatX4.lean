import Derived.Test.YtpddokbjjhbfgaaGreatX2
import Derived.Test.YtpddokbjjhbfgaaGreatU40
namespace Go.Proofs.YtpddokbjjhbfgaaGreat.ds
open Go.ChangeShapes Go.WideShapes Go.ChangeAt Go.RowKit Go.Sort
set_option linter.unusedVariables false
set_option linter.unusedSimpArgs false
theorem Ss.has_lt {w : World} {G : Gs} {c : Cf} {nn rr pp : Nat} {lk : List Int} {f : ByteArray → Sg} {N : Nat} (h : Ss w G c nn rr pp lk f N) {k : Nat} (hk : G.has k) : k < w.heap.size := by
  rcases hk with e | e | e | e | ⟨t, x, ht, hx, e⟩
  · rw [e]; exact lt_of_heap h.blk
  · rw [e]; exact h.ring.lt
  · rw [e]; exact h.li.lt
  · rw [e]; exact h.mp.lt
  · have := (h.hd t ht).1
    rw [hx] at this
    rw [e]
    exact this.1.lt
/-- where both sessions lie -/
structure Pd where
  B : Nat
  G : Gs
  T : Ts
def Pd.has (P : Pd) (k : Nat) : Prop := k = P.B ∨ P.G.has k ∨ P.T.has k
/-- both sessions, having seen the same -/
structure Pr (w : World) (P : Pd) (c : Cf) (nn rr pp : Nat) (lk : List Int) (f : ByteArray → Sg) (N : Nat) : Prop where
  blk : w.heap[P.B]? = some (.cells #[.pointer (some ⟨P.G.S, 0, none⟩), .pointer (some ⟨P.T.S, 0, none⟩)] 78 (0, 0))
  s : Ss w P.G c nn rr pp lk f N
  r : Rs w P.T c nn rr pp lk f N
  d : ∀ k, P.G.has k → ¬ P.T.has k
  b : ¬ P.G.has P.B ∧ ¬ P.T.has P.B
theorem own_lt {w : World} {e : TypeId} {size n : Nat} {v : Value} {xs : List Value} (h : w.ownsRow 0 e size v n xs) {k : Nat} (hk : v.ownBlock = some k) : k < w.heap.size := by
  obtain ⟨cur, hc⟩ := own_typ h hk
  exact lt_of_heap hc
theorem Rs.has_lt {w : World} {T : Ts} {c : Cf} {nn rr pp : Nat} {lk : List Int} {f : ByteArray → Sg} {N : Nat} (h : Rs w T c nn rr pp lk f N) {k : Nat} (hk : T.has k) : k < w.heap.size := by
  rcases hk with e | e | e | e | ⟨x, hx, e⟩
  · rw [e]; exact lt_of_heap h.blk
  · rw [e]; exact h.ring.lt
  · exact own_lt h.li e
  · exact own_lt h.se e
  · exact own_lt (h.hd x hx).1 e
theorem Pr.has_lt {w : World} {P : Pd} {c : Cf} {nn rr pp : Nat} {lk : List Int} {f : ByteArray → Sg} {N : Nat} (h : Pr w P c nn rr pp lk f N) {k : Nat} (hk : P.has k) : k < w.heap.size := by
  rcases hk with e | e | e
  · rw [e]; exact lt_of_heap h.blk
  · exact h.s.has_lt e
  · exact h.r.has_lt e
theorem Pr.kept {w w' : World} {P : Pd} {c : Cf} {nn rr pp : Nat} {lk : List Int} {f : ByteArray → Sg} {N : Nat} (h : Pr w P c nn rr pp lk f N) (hk : ∀ k, k < w.heap.size → P.has k → w'.heap[k]? = w.heap[k]?) : Pr w' P c nn rr pp lk f N :=
  { h with
    blk := (hk _ (lt_of_heap h.blk) (.inl rfl)).trans h.blk
    s := h.s.kept (fun k hl hh => hk k hl (.inr (.inl hh)))
    r := h.r.kept (fun k hl hh => hk k hl (.inr (.inr hh))) }
theorem Pr.kept0 {w w' : World} {P : Pd} {c : Cf} {nn rr pp : Nat} {lk : List Int} {f : ByteArray → Sg} {N : Nat} (h : Pr w P c nn rr pp lk f N) (a : Apart [] w w') : Pr w' P c nn rr pp lk f N := h.kept (fun k hk _ => a.block k hk (by simp))
/-- what a step does to memory -/
structure Stp (w w' : World) (P P' : Pd) : Prop where
  B : P'.B = P.B
  ap : ∃ X, Apart X w w' ∧ ∀ x ∈ X, P.has x ∨ w.heap.size ≤ x
  new : ∀ k, P'.has k → P.has k ∨ w.heap.size ≤ k
theorem Stp.of0 {w w' : World} (a : Apart [] w w') (P : Pd) : Stp w w' P P := ⟨rfl, ⟨[], a, by simp⟩, fun k hk => .inl hk⟩
theorem Stp.off {w w' : World} {P P' : Pd} (h : Stp w w' P P') {k : Nat} (hk : k < w.heap.size) (hn : ¬ P.has k) : w'.heap[k]? = w.heap[k]? := by
  obtain ⟨X, a, hX⟩ := h.ap
  exact a.block k hk (fun hm => by rcases hX k hm with h | h; exact hn h; omega)
theorem Stp.size {w w' : World} {P P' : Pd} (h : Stp w w' P P') : w.heap.size ≤ w'.heap.size := by obtain ⟨X, a, _⟩ := h.ap; exact a.size
theorem Stp.pre0 {w wc w' : World} {P P' : Pd} (a : Apart [] w wc) (h : Stp wc w' P P') : Stp w w' P P' := by
  obtain ⟨X, b, hX⟩ := h.ap
  exact ⟨h.B, ⟨X, (a.mono (by simp)).trans b, fun x hx => (hX x hx).imp id (fun h => Nat.le_trans a.size h)⟩, fun k hk => (h.new k hk).imp id (fun h => Nat.le_trans a.size h)⟩
theorem Stp.post {w w2 w3 : World} {P P' : Pd} (h : Stp w w2 P P') {Y : List Nat} (a : Apart Y w2 w3) (hY : ∀ y ∈ Y, w.heap.size ≤ y) : Stp w w3 P P' := by
  obtain ⟨X, b, hX⟩ := h.ap
  refine ⟨h.B, ⟨X ++ Y, (b.mono (fun x hx => List.mem_append_left _ hx)).trans (a.mono (fun x hx => List.mem_append_right _ hx)), fun x hx => ?_⟩, h.new⟩
  rcases List.mem_append.1 hx with hx | hx
  · exact hX x hx
  · exact .inr (hY x hx)
/-- a step of both sessions -/
theorem Pr.step {w w1 w2 : World} {P : Pd} {c : Cf} {nn rr pp : Nat} {lk lk' : List Int} {f f' : ByteArray → Sg} {N N' : Nat} (h : Pr w P c nn rr pp lk f N) {G' : Gs} (hs : Ss w1 G' c nn rr pp lk' f' N') (gS : G'.S = P.G.S) {X : List Nat} (ga : Apart X w w1) (gX : ∀ x ∈ X, P.G.has x) (gn : ∀ j, G'.has j → P.G.has j ∨ w.heap.size ≤ j) {T' : Ts} (hr : Rs w2 T' c nn rr pp lk' f' N') (tp : Tp w1 w2 P.T T') : Pr w2 ⟨P.B, G', T'⟩ c nn rr pp lk' f' N' ∧ Stp w w2 P ⟨P.B, G', T'⟩ := by
  have tX : ∀ x ∈ P.T.S :: P.T.q.v.ownBlock.toList, P.T.has x := fun x hx => by
    rcases List.mem_cons.1 hx with e | e
    · exact .inl e
    · exact .inr (.inr (.inr (.inl (by simpa using e))))
  have tlt : ∀ x, P.T.has x → x < w.heap.size := fun x hx => h.r.has_lt hx
  have hB1 : w1.heap[P.B]? = _ := (ga.block _ (lt_of_heap h.blk) (fun hm => h.b.1 (gX _ hm))).trans h.blk
  have hB2 := (tp.ap.block _ (lt_of_heap hB1) (fun hm => h.b.2 (tX _ hm))).trans hB1
  have hBl := lt_of_heap h.blk
  refine ⟨⟨?_, ?_, hr, fun k hg ht => ?_, fun hg => ?_, fun ht => ?_⟩, rfl, ⟨X ++ (P.T.S :: P.T.q.v.ownBlock.toList), (ga.mono (fun x hx => List.mem_append_left _ hx)).trans (tp.ap.mono (fun x hx => List.mem_append_right _ hx)), fun x hx => ?_⟩, fun k hk => ?_⟩
  · rw [gS, tp.S]; exact hB2
  · refine hs.kept (fun k hk hg => tp.ap.block k hk (fun hm => ?_))
    have ht := tX k hm
    rcases gn k hg with h1 | h1
    · exact h.d k h1 ht
    · have := tlt k ht; omega
  · rcases gn k hg with h1 | h1
    · rcases tp.new k ht with h2 | h2
      · exact h.d k h1 h2
      · have := h.s.has_lt h1; have := ga.size; omega
    · rcases tp.new k ht with h2 | h2
      · have := tlt k h2; omega
      · have := hs.has_lt hg; omega
  · rcases gn _ hg with h1 | h1
    · exact h.b.1 h1
    · have : w.heap.size ≤ P.B := h1; omega
  · rcases tp.new _ ht with h1 | h1
    · exact h.b.2 h1
    · have h2 : w1.heap.size ≤ P.B := h1
      have := ga.size
      omega
  · rcases List.mem_append.1 hx with hx | hx
    · exact .inl (.inr (.inl (gX x hx)))
    · exact .inl (.inr (.inr (tX x hx)))
  · rcases hk with e | e | e
    · exact .inl (.inl e)
    · exact (gn k e).imp (fun h => .inr (.inl h)) id
    · rcases tp.new k e with h1 | h1
      · exact .inl (.inr (.inr h1))
      · exact .inr (Nat.le_trans ga.size h1)
/-- the document's session, the program's having gone on -/
theorem Pr.mid {w w1 : World} {P : Pd} {c : Cf} {nn rr pp : Nat} {lk : List Int} {f : ByteArray → Sg} {N : Nat} (h : Pr w P c nn rr pp lk f N) {X : List Nat} (ga : Apart X w w1) (gX : ∀ x ∈ X, P.G.has x) : Rs w1 P.T c nn rr pp lk f N := h.r.kept (fun k hk ht => ga.block k hk (fun hm => h.d k (gX k hm) ht))
theorem Pr.midB {w w1 : World} {P : Pd} {c : Cf} {nn rr pp : Nat} {lk : List Int} {f : ByteArray → Sg} {N : Nat} (h : Pr w P c nn rr pp lk f N) {X : List Nat} (ga : Apart X w w1) (gX : ∀ x ∈ X, P.G.has x) : w1.heap[P.B]? = some (.cells #[.pointer (some ⟨P.G.S, 0, none⟩), .pointer (some ⟨P.T.S, 0, none⟩)] 78 (0, 0)) := (ga.block _ (lt_of_heap h.blk) (fun hm => h.b.1 (gX _ hm))).trans h.blk
theorem Pr.cells {w : World} {P : Pd} {c : Cf} {nn rr pp : Nat} {lk : List Int} {f : ByteArray → Sg} {N : Nat} (h : Pr w P c nn rr pp lk f N) : ∀ W, Apart [] w W → W.cell? ⟨P.B, 0, none⟩ = some (.pointer (some ⟨P.G.S, 0, none⟩)) ∧ W.cell? ⟨P.B, 1, none⟩ = some (.pointer (some ⟨P.T.S, 0, none⟩)) := fun W a => row2v (keep0 a h.blk)
theorem Rs.relk {w : World} {T : Ts} {c : Cf} {nn rr pp : Nat} {lk : List Int} {f f' : ByteArray → Sg} {N : Nat} (h : Rs w T c nn rr pp lk f N) (e : f = f') : Rs w T c nn rr pp lk f' N := e ▸ h
/-- a step of a script, as it lies -/
structure Opd where
  who : Int
  kind : Int
  a : Int
  key : ByteArray
  e : E
  r : Wr
  tok : Sl
  toks : List S
  ws : Sl
  es : List E
  rs : Nat → Wr
abbrev Opd.c (o : Opd) : Array Value := #[.int .i64 o.who, .int .i64 o.kind, .int .i64 o.a, .string o.key, .int .i64 o.e.n, .int .i64 o.e.c, .string o.e.k, .bool o.e.d, .slice o.e.v.p o.e.v.n o.e.v.c, .slice o.e.x.p o.e.x.n o.e.x.c, .slice o.tok.p o.tok.n o.tok.c, .slice o.ws.p o.ws.n o.ws.c]
structure OpAt (w : World) (o : Opd) : Prop where
  key : o.key.size ≤ maxLen
  rd : Reads w o.e o.r
  ek : o.e.k.size ≤ maxLen
  ed : Dok (dotE o.e)
  tk : L w o.tok.p o.tok.n o.toks
  tl : o.tok.n ≤ 2000000
  wr : Rd w o.ws.p (flatE o.es)
  wl : o.es.length = o.ws.n
  wn : o.ws.n ≤ 1400000
  each : ∀ i, i < o.ws.n → Reads w (gE o.es i) (o.rs i) ∧ (gE o.es i).k.size ≤ maxLen ∧ Dok (dotE (gE o.es i))
theorem OpAt.kept0 {w w' : World} {o : Opd} (h : OpAt w o) (a : Apart [] w w') : OpAt w' o :=
  { h with rd := h.rd.kept0 a, tk := h.tk.kept0 a, wr := h.wr.kept0 a, each := fun i hi => ⟨(h.each i hi).1.kept0 a, (h.each i hi).2⟩ }
/-- what a step leaves -/
def StepP (w : World) (P : Pd) (c : Cf) (nn rr pp : Nat) (N : Nat) (r : Ending) (w' : World) : Prop := r = .returned (.bool true) ∧ ∃ P' lk' f', Pr w' P' c nn rr pp lk' f' N ∧ Stp w w' P P'
end Go.Proofs.YtpddokbjjhbfgaaGreat.ds
namespace Go.Proofs.YtpddokbjjhbfgaaGreat.ds
open Go.ChangeShapes Go.WideShapes Go.ChangeAt Go.RowKit Go.Sort
set_option linter.unusedVariables false
set_option linter.unusedSimpArgs false
set_option maxHeartbeats 8000000 in
set_option maxRecDepth 100000 in
theorem played_1 {w : World} {P : Pd} {c : Cf} {nn rr pp : Nat} {lk : List Int} {f : ByteArray → Sg} {N : Nat} (h : Pr w P c nn rr pp lk f N) (hc : CR c = true) (o : Opd) (ho : OpAt w o) (hk : o.kind = 1) : Calls Tryz.prog 51 #[.pointer (some ⟨P.B, 0, none⟩), .agg o.c] w fun r w' => StepP w P c nn rr pp N r w' := by
  have HP := hid h
  have HO := hid ho
  obtain ⟨O, HXO⟩ : ∃ X, Hid (X = w.heap.size) := ⟨_, hid rfl⟩
  obtain ⟨w1, hw1⟩ : ∃ V, V = w.alloc (.cells o.c 41) := ⟨_, rfl⟩
  have a1 : Apart [] w w1 := by rw [hw1]; exact (Apart.refl [] w).alloc _
  have hO1 : w1.heap[O]? = some (.cells o.c 41 (0, 0)) := by rw [hw1, HXO.out]; exact heap_alloc_new w _
  have HA1 := hid a1
  have HO1 := hid hO1
  have HP1 := hid (h.kept0 a1)
  have HNW : Hid (w.heap.size = O) := hid HXO.out.symm
  have HPC := hid HP1.out.cells
  have HOC : Hid (∀ W, Apart [] w1 W → W.cell? ⟨O, 2, none⟩ = some (.int .i64 o.a) ∧ W.cell? ⟨O, 3, none⟩ = some (.string o.key)) := fun W a => ⟨crow (keep0 a HO1.out) 2 _ rfl, crow (keep0 a HO1.out) 3 _ rfl⟩
  unfold Opd.c at hw1 ⊢
  have ck := crow hO1 1 (.int .i64 o.kind) rfl
  rw [hk] at ck hw1 ⊢
  have hkey := ho.key
  have HB : Hid (1 ≤ nn ∧ nn ≤ 8 ∧ 1 ≤ rr ∧ rr ≤ 16 ∧ 1 ≤ pp) := hid ⟨h.r.ring.n1, h.r.ring.n8, h.r.ring.m1, h.r.ring.m16, h.r.p1⟩
  obtain ⟨kb, Hkb⟩ : ∃ b, Hid (b = keyR o.key) := ⟨_, hid rfl⟩
  have HEX : Hid (∃ y ∈ lk, y ∈ prefK nn rr pp o.key) := hid (pref_ex HB.out.1 HB.out.2.1 HB.out.2.2.1 HB.out.2.2.2.1 HB.out.2.2.2.2 h.s.lm o.key)
  have HNX : Hid (∀ W, Apart [] w1 W → Calls Tryz.prog 23 #[.pointer (some ⟨P.G.S, 0, none⟩), .string o.key] W fun r w' => NextP W kb lk (prefK nn rr pp o.key) r w') := fun W a => by rw [Hkb.out]; exact next_ok (HP1.out.s.kept0 a) HB.out.2.1 o.key hkey
  have HRX : Hid (∀ W, Apart [] w1 W → Calls Tryz.prog 27 #[.pointer (some ⟨P.T.S, 0, none⟩), .string o.key] W fun r w' => NextP W kb lk (prefK nn rr pp o.key) r w') := fun W a => by rw [Hkb.out]; exact rnext_ok (HP1.out.r.kept0 a) HB.out.2.1 o.key hkey HEX.out
  have HNF : Hid (∀ (W W' : World) r, NextP W kb lk (prefK nn rr pp o.key) r W' → (∃ v e : Int, r = .returned (.tuple #[.int .i64 v, .int .i64 e]) ∧ (kb = false → v = 0 ∧ e = 50) ∧ (kb = true → e = 0 ∧ lk.find? (fun y => decide (y ∈ prefK nn rr pp o.key)) = some v)) ∧ Apart [] W W') := fun W W' r hn => by
    refine ⟨?_, hn.2.2⟩
    cases kb with
    | false => exact ⟨0, 50, hn.1 rfl, fun _ => ⟨rfl, rfl⟩, fun hh => by cases hh⟩
    | true => obtain ⟨v, e, hv⟩ := hn.2.1 rfl; exact ⟨v, 0, e, fun hh => (by cases hh), fun _ => ⟨rfl, hv⟩⟩
  clear a1 hO1 h ho hk hkey
  go_enter Tryz.func51, Tryz.ntmps51
  go_upto_region 1 with fail
  rw [← hw1, ← HXO.out]
  clear hw1 HXO
  go_upto_region 3 with fail
  clear ck
  go_cut [5, 6] from 17 to 26 (fun s5 s6 wx => ∃ v e : Int, s5 = .int .i64 v ∧ s6 = .int .i64 e ∧ Hid ((kb = false → v = 0 ∧ e = 50) ∧ (kb = true → e = 0 ∧ lk.find? (fun y => decide (y ∈ prefK nn rr pp o.key)) = some v)) ∧ Hid (Apart [] w1 wx))
  case first =>
    have hAd : Apart [] w1 w1.drew := (Apart.refl [] w1).drew
    refine wp_region_held_drew (S := fun W => Apart [] w1 W) (by kernel_rfl) hAd (fun hHeld => ?_)
    generalize w1.drew = wd at *
    clear hAd
    refine tk 0 18 (.pointer (some ⟨P.B, 0, none⟩)) rfl ?_ ?_
    · intro W hSW; go_simp
    simp only [Act.put, List.setIfInBounds_toArray, List.set_cons_zero, List.set_cons_succ]
    refine tk 1 19 (.pointer (some ⟨P.B, 0, none⟩)) rfl ?_ ?_
    · intro W hSW; go_simp
    simp only [Act.put, List.setIfInBounds_toArray, List.set_cons_zero, List.set_cons_succ]
    refine tk 2 20 (.pointer (some ⟨P.B, 0, none⟩)) rfl ?_ ?_
    · intro W hSW; go_simp
    simp only [Act.put, List.setIfInBounds_toArray, List.set_cons_zero, List.set_cons_succ]
    refine tk 3 21 (.pointer (some ⟨P.G.S, 0, none⟩)) rfl ?_ ?_
    · intro W hSW; obtain ⟨v0, v1⟩ := HPC.out W hSW; go_simp
    simp only [Act.put, List.setIfInBounds_toArray, List.set_cons_zero, List.set_cons_succ]
    refine tk 4 22 (.pointer (some ⟨O, 3, none⟩)) rfl ?_ ?_
    · intro W hSW; go_simp
    simp only [Act.put, List.setIfInBounds_toArray, List.set_cons_zero, List.set_cons_succ]
    refine tk 5 23 (.string o.key) rfl ?_ ?_
    · intro W hSW; obtain ⟨u0, u1⟩ := HOC.out W hSW; go_simp
    simp only [Act.put, List.setIfInBounds_toArray, List.set_cons_zero, List.set_cons_succ]
    refine wpAnyH_ready (rs := [6]) (by kernel_rfl) (by simp) ?_
    refine AllReadyH.cons rfl (fun KK hKK => ?_) AllReadyH.nil
    go_simp
    refine (HNX.out wd hHeld).mono ?_
    intro rr1 wx1 hnx
    obtain ⟨⟨v, e, rfl, hve⟩, aX⟩ := HNF.out _ _ _ hnx
    have hHx := hHeld.trans aX
    have HVE := hid hve
    clear hnx aX hve
    try dsimp only
    refine hKK.out _ _ hHx (fun hHeld => ?_)
    clear hKK KK
    try simp only [Act.put, List.setIfInBounds_toArray, List.set_cons_zero, List.set_cons_succ]
    refine tk 7 17 (.tuple #[.int .i64 v, .int .i64 e]) rfl ?_ ?_
    · intro W hSW; go_simp
    simp only [Act.put, List.setIfInBounds_toArray, List.set_cons_zero, List.set_cons_succ]
    refine tk 8 25 (.int .i64 v) rfl ?_ ?_
    · intro W hSW; go_simp
    simp only [Act.put, List.setIfInBounds_toArray, List.set_cons_zero, List.set_cons_succ]
    refine tk 9 26 (.int .i64 e) rfl ?_ ?_
    · intro W hSW; go_simp
    simp only [Act.put, List.setIfInBounds_toArray, List.set_cons_zero, List.set_cons_succ]
    refine tk 10 5 (.int .i64 v) rfl ?_ ?_
    · intro W hSW; go_simp
    simp only [Act.put, List.setIfInBounds_toArray, List.set_cons_zero, List.set_cons_succ]
    refine tk 11 6 (.int .i64 e) rfl ?_ ?_
    · intro W hSW; go_simp
    simp only [Act.put, List.setIfInBounds_toArray, List.set_cons_zero, List.set_cons_succ]
    refine wpAnyH_done (by kernel_rfl) ?_ _
    have HZ := hid hHeld
    clear hHeld
    go_wp2_with fail
    go_meet
    exact ⟨v, e, rfl, rfl, HVE, HZ⟩
  obtain ⟨v, e, rfl, rfl, HV1, HC1⟩ := hcut
  generalize wc = w2 at *
  go_upto_region 4 with fail
  go_cut [7, 8] from 27 to 36 (fun s7 s8 wx => ∃ v e : Int, s7 = .int .i64 v ∧ s8 = .int .i64 e ∧ Hid ((kb = false → v = 0 ∧ e = 50) ∧ (kb = true → e = 0 ∧ lk.find? (fun y => decide (y ∈ prefK nn rr pp o.key)) = some v)) ∧ Hid (Apart [] w1 wx))
  case first =>
    have hAd : Apart [] w1 w2.drew := HC1.out.trans ((Apart.refl [] w2).drew)
    refine wp_region_held_drew (S := fun W => Apart [] w1 W) (by kernel_rfl) hAd (fun hHeld => ?_)
    generalize w2.drew = wd at *
    clear hAd
    refine tk 0 28 (.pointer (some ⟨P.B, 0, none⟩)) rfl ?_ ?_
    · intro W hSW; go_simp
    simp only [Act.put, List.setIfInBounds_toArray, List.set_cons_zero, List.set_cons_succ]
    refine tk 1 29 (.pointer (some ⟨P.B, 0, none⟩)) rfl ?_ ?_
    · intro W hSW; go_simp
    simp only [Act.put, List.setIfInBounds_toArray, List.set_cons_zero, List.set_cons_succ]
    refine tk 2 30 (.pointer (some ⟨P.B, 1, none⟩)) rfl ?_ ?_
    · intro W hSW; go_simp
    simp only [Act.put, List.setIfInBounds_toArray, List.set_cons_zero, List.set_cons_succ]
    refine tk 3 31 (.pointer (some ⟨P.T.S, 0, none⟩)) rfl ?_ ?_
    · intro W hSW; obtain ⟨v0, v1⟩ := HPC.out W hSW; go_simp
    simp only [Act.put, List.setIfInBounds_toArray, List.set_cons_zero, List.set_cons_succ]
    refine tk 4 32 (.pointer (some ⟨O, 3, none⟩)) rfl ?_ ?_
    · intro W hSW; go_simp
    simp only [Act.put, List.setIfInBounds_toArray, List.set_cons_zero, List.set_cons_succ]
    refine tk 5 33 (.string o.key) rfl ?_ ?_
    · intro W hSW; obtain ⟨u0, u1⟩ := HOC.out W hSW; go_simp
    simp only [Act.put, List.setIfInBounds_toArray, List.set_cons_zero, List.set_cons_succ]
    refine wpAnyH_ready (rs := [6]) (by kernel_rfl) (by simp) ?_
    refine AllReadyH.cons rfl (fun KK hKK => ?_) AllReadyH.nil
    go_simp
    refine (HRX.out wd hHeld).mono ?_
    intro rr1 wx1 hnx
    obtain ⟨⟨v, e, rfl, hve⟩, aX⟩ := HNF.out _ _ _ hnx
    have hHx := hHeld.trans aX
    have HVE := hid hve
    clear hnx aX hve
    try dsimp only
    refine hKK.out _ _ hHx (fun hHeld => ?_)
    clear hKK KK
    try simp only [Act.put, List.setIfInBounds_toArray, List.set_cons_zero, List.set_cons_succ]
    refine tk 7 27 (.tuple #[.int .i64 v, .int .i64 e]) rfl ?_ ?_
    · intro W hSW; go_simp
    simp only [Act.put, List.setIfInBounds_toArray, List.set_cons_zero, List.set_cons_succ]
    refine tk 8 35 (.int .i64 v) rfl ?_ ?_
    · intro W hSW; go_simp
    simp only [Act.put, List.setIfInBounds_toArray, List.set_cons_zero, List.set_cons_succ]
    refine tk 9 36 (.int .i64 e) rfl ?_ ?_
    · intro W hSW; go_simp
    simp only [Act.put, List.setIfInBounds_toArray, List.set_cons_zero, List.set_cons_succ]
    refine tk 10 7 (.int .i64 v) rfl ?_ ?_
    · intro W hSW; go_simp
    simp only [Act.put, List.setIfInBounds_toArray, List.set_cons_zero, List.set_cons_succ]
    refine tk 11 8 (.int .i64 e) rfl ?_ ?_
    · intro W hSW; go_simp
    simp only [Act.put, List.setIfInBounds_toArray, List.set_cons_zero, List.set_cons_succ]
    refine wpAnyH_done (by kernel_rfl) ?_ _
    have HZ := hid hHeld
    clear hHeld
    go_wp2_with fail
    go_meet
    exact ⟨v, e, rfl, rfl, HVE, HZ⟩
  obtain ⟨v', e', rfl, rfl, HV2, HC2⟩ := hcut
  generalize wc = w3 at *
  have hv : v' = v ∧ e' = e := by
    cases kb with
    | false => have h1 := HV1.out.1 rfl; have h2 := HV2.out.1 rfl; exact ⟨by omega, by omega⟩
    | true =>
      have h1 := HV1.out.2 rfl
      have h2 := HV2.out.2 rfl
      rw [h1.2] at h2
      have := h2.2
      simp at this
      exact ⟨this.symm, by omega⟩
  obtain ⟨rfl, rfl⟩ := hv
  have hv1 : (v' == v') = true := by simp
  have he1 : (e' == e') = true := by simp
  have HE : Hid (StepP w P c nn rr pp N (.returned (.bool true)) w3) := hid ⟨rfl, P, lk, f, HP1.out.kept0 HC2.out, Stp.of0 (HA1.out.trans HC2.out) P⟩
  go_wp2_with fail
  go_ret
  exact HE.out
set_option maxHeartbeats 8000000 in
set_option maxRecDepth 100000 in
theorem played_2 {w : World} {P : Pd} {c : Cf} {nn rr pp : Nat} {lk : List Int} {f : ByteArray → Sg} {N : Nat} (h : Pr w P c nn rr pp lk f N) (o : Opd) (ho : OpAt w o) (hk : o.kind = 2) : Calls Tryz.prog 51 #[.pointer (some ⟨P.B, 0, none⟩), .agg o.c] w fun r w' => StepP w P c nn rr pp N r w' := by
  have HP := hid h
  have HO := hid ho
  obtain ⟨O, HXO⟩ : ∃ X, Hid (X = w.heap.size) := ⟨_, hid rfl⟩
  obtain ⟨w1, hw1⟩ : ∃ V, V = w.alloc (.cells o.c 41) := ⟨_, rfl⟩
  have a1 : Apart [] w w1 := by rw [hw1]; exact (Apart.refl [] w).alloc _
  have hO1 : w1.heap[O]? = some (.cells o.c 41 (0, 0)) := by rw [hw1, HXO.out]; exact heap_alloc_new w _
  have HA1 := hid a1
  have HO1 := hid hO1
  have HP1 := hid (h.kept0 a1)
  have HNW : Hid (w.heap.size = O) := hid HXO.out.symm
  have HPC := hid HP1.out.cells
  have HOC : Hid (∀ W, Apart [] w1 W → W.cell? ⟨O, 2, none⟩ = some (.int .i64 o.a) ∧ W.cell? ⟨O, 3, none⟩ = some (.string o.key)) := fun W a => ⟨crow (keep0 a HO1.out) 2 _ rfl, crow (keep0 a HO1.out) 3 _ rfl⟩
  unfold Opd.c at hw1 ⊢
  have ck := crow hO1 1 (.int .i64 o.kind) rfl
  rw [hk] at ck hw1 ⊢
  have hn8 := h.r.ring.n8
  clear a1 hO1 h ho hk
  go_enter Tryz.func51, Tryz.ntmps51
  go_upto_region 1 with fail
  rw [← hw1, ← HXO.out]
  clear hw1 HXO
  go_upto_region 7 with fail
  clear ck
  have HFA : Hid (∀ W, Apart [] w1 W → Calls Tryz.prog 25 #[.pointer (some ⟨P.G.S, 0, none⟩), .int .i64 o.a] W fun r w' => r = .returned (.tuple #[]) ∧ Ss w' P.G c nn rr pp (failL lk o.a) f N ∧ Apart [P.G.S, P.G.L] W w') := fun W a => failed_ok (HP1.out.s.kept0 a) hn8 o.a
  go_cut [] from 47 to 53 (fun wx => ∃ W, Hid (Apart [] w1 W ∧ Ss wx P.G c nn rr pp (failL lk o.a) f N ∧ Apart [P.G.S, P.G.L] W wx))
  case first =>
    refine wp_region_held_drew (S := fun W => Apart [P.G.S, P.G.L] w1 W) (by kernel_rfl) (((Apart.refl [] w1).drew).mono (by simp)) (fun hHeld => ?_)
    have hAd : Apart [] w1 w1.drew := (Apart.refl [] w1).drew
    generalize w1.drew = wd at *
    have HAD := hid hAd
    clear hAd
    have HMC : Hid (∀ W, Apart [P.G.S, P.G.L] w1 W → (W.cell? ⟨P.B, 0, none⟩ = some (.pointer (some ⟨P.G.S, 0, none⟩)) ∧ W.cell? ⟨P.B, 1, none⟩ = some (.pointer (some ⟨P.T.S, 0, none⟩))) ∧ W.cell? ⟨O, 2, none⟩ = some (.int .i64 o.a)) := fun W a => by
      have hgX : ∀ x ∈ [P.G.S, P.G.L], P.G.has x := fun x hx => by
        simp at hx
        rcases hx with e | e
        · exact .inl e
        · exact .inr (.inr (.inl e))
      refine ⟨row2v (HP1.out.midB a hgX), ?_⟩
      have hOl : ¬ P.G.has O := fun hh => by
        have h1 := HP.out.s.has_lt hh
        have h2 := HNW.out
        omega
      exact crow ((a.block O (lt_of_heap HO1.out) (fun hm => hOl (hgX O hm))).trans HO1.out) 2 _ rfl
    refine tk 0 47 (.pointer (some ⟨P.B, 0, none⟩)) rfl ?_ ?_
    · intro W hSW; go_simp
    simp only [Act.put, List.setIfInBounds_toArray, List.set_cons_zero, List.set_cons_succ]
    refine tk 1 48 (.pointer (some ⟨P.B, 0, none⟩)) rfl ?_ ?_
    · intro W hSW; go_simp
    simp only [Act.put, List.setIfInBounds_toArray, List.set_cons_zero, List.set_cons_succ]
    refine tk 2 49 (.pointer (some ⟨P.B, 0, none⟩)) rfl ?_ ?_
    · intro W hSW; go_simp
    simp only [Act.put, List.setIfInBounds_toArray, List.set_cons_zero, List.set_cons_succ]
    refine tk 3 50 (.pointer (some ⟨P.G.S, 0, none⟩)) rfl ?_ ?_
    · intro W hSW; obtain ⟨⟨v0, v1⟩, u0⟩ := HMC.out W hSW; go_simp
    simp only [Act.put, List.setIfInBounds_toArray, List.set_cons_zero, List.set_cons_succ]
    refine tk 4 51 (.pointer (some ⟨O, 2, none⟩)) rfl ?_ ?_
    · intro W hSW; go_simp
    simp only [Act.put, List.setIfInBounds_toArray, List.set_cons_zero, List.set_cons_succ]
    refine tk 5 52 (.int .i64 o.a) rfl ?_ ?_
    · intro W hSW; obtain ⟨⟨v0, v1⟩, u0⟩ := HMC.out W hSW; go_simp
    simp only [Act.put, List.setIfInBounds_toArray, List.set_cons_zero, List.set_cons_succ]
    refine wpAnyH_ready (rs := [6]) (by kernel_rfl) (by simp) ?_
    refine AllReadyH.cons rfl (fun KK hKK => ?_) AllReadyH.nil
    go_simp
    refine (HFA.out wd HAD.out).mono ?_
    rintro _ wx1 ⟨rfl, hs, aX⟩
    have hHx : Apart [P.G.S, P.G.L] w1 wx1 := (HAD.out.mono (by simp)).trans aX
    have HZ := hid (And.intro HAD.out (And.intro hs aX))
    clear hs aX
    try dsimp only
    refine hKK.out _ _ hHx (fun hHeld => ?_)
    clear hKK KK
    try simp only [Act.put, List.setIfInBounds_toArray, List.set_cons_zero, List.set_cons_succ]
    refine wpAnyH_done (by kernel_rfl) ?_ _
    clear hHeld hHx
    go_wp2_with fail
    go_meet
    exact ⟨_, HZ⟩
  obtain ⟨W0, HZ⟩ := hcut
  generalize wc = w2 at *
  have hgX : ∀ x ∈ [P.G.S, P.G.L], P.G.has x := fun x hx => by
    simp at hx
    rcases hx with e | e
    · exact .inl e
    · exact .inr (.inr (.inl e))
  have HGX := hid hgX
  have HP0 := hid (HP1.out.kept0 HZ.out.1)
  have HR2 := hid (HP0.out.mid HZ.out.2.2 hgX)
  have HB2 := hid (HP0.out.midB HZ.out.2.2 hgX)
  have HO2 : Hid (w2.heap[O]? = some (.cells o.c 41 (0, 0))) := by
    have hOl : ¬ P.G.has O := fun hh => by
      have h1 := HP.out.s.has_lt hh
      have h2 := HNW.out
      omega
    have h1 := keep0 HZ.out.1 HO1.out
    exact hid ((HZ.out.2.2.block O (lt_of_heap h1) (fun hm => hOl (hgX O hm))).trans h1)
  have HRF : Hid (∀ W, Apart [] w2 W → Calls Tryz.prog 65 #[.pointer (some ⟨P.T.S, 0, none⟩), .int .i64 o.a] W fun r w' => r = .returned (.tuple #[]) ∧ ∃ T', Rs w' T' c nn rr pp (failL lk o.a) f N ∧ Tp W w' P.T T') := fun W a => rfailed_ok (HR2.out.kept0 a) hn8 HP0.out.s.ld HP0.out.s.lm o.a
  clear hgX
  go_upto_region 8 with fail
  have HAD : Hid (Apart [] w2 w2.drew) := hid ((Apart.refl [] w2).drew)
  refine wp_region_held_drew (S := fun W => Apart (P.T.S :: P.T.q.v.ownBlock.toList) w2.drew W) (by kernel_rfl) (Apart.refl _ _) (fun hHeld => ?_)
  generalize w2.drew = wd at *
  have HRD := hid (HR2.out.kept0 HAD.out)
  have HMC : Hid (∀ W, Apart (P.T.S :: P.T.q.v.ownBlock.toList) wd W → (W.cell? ⟨P.B, 0, none⟩ = some (.pointer (some ⟨P.G.S, 0, none⟩)) ∧ W.cell? ⟨P.B, 1, none⟩ = some (.pointer (some ⟨P.T.S, 0, none⟩))) ∧ W.cell? ⟨O, 2, none⟩ = some (.int .i64 o.a)) := fun W a => by
    have hb := keep0 HAD.out HB2.out
    have ho := keep0 HAD.out HO2.out
    have tX : ∀ x ∈ P.T.S :: P.T.q.v.ownBlock.toList, P.T.has x := fun x hx => by
      rcases List.mem_cons.1 hx with e | e
      · exact .inl e
      · exact .inr (.inr (.inr (.inl (by simpa using e))))
    refine ⟨row2v ((a.block _ (lt_of_heap hb) (fun hm => HP.out.b.2 (tX _ hm))).trans hb), crow ((a.block _ (lt_of_heap ho) (fun hm => ?_)).trans ho) 2 _ rfl⟩
    have h1 := HP.out.r.has_lt (tX _ hm)
    have h2 := HNW.out
    omega
  refine tk 0 54 (.pointer (some ⟨P.B, 0, none⟩)) rfl ?_ ?_
  · intro W hSW; go_simp
  simp only [Act.put, List.setIfInBounds_toArray, List.set_cons_zero, List.set_cons_succ]
  refine tk 1 55 (.pointer (some ⟨P.B, 0, none⟩)) rfl ?_ ?_
  · intro W hSW; go_simp
  simp only [Act.put, List.setIfInBounds_toArray, List.set_cons_zero, List.set_cons_succ]
  refine tk 2 56 (.pointer (some ⟨P.B, 1, none⟩)) rfl ?_ ?_
  · intro W hSW; go_simp
  simp only [Act.put, List.setIfInBounds_toArray, List.set_cons_zero, List.set_cons_succ]
  refine tk 3 57 (.pointer (some ⟨P.T.S, 0, none⟩)) rfl ?_ ?_
  · intro W hSW; obtain ⟨⟨v0, v1⟩, u0⟩ := HMC.out W hSW; go_simp
  simp only [Act.put, List.setIfInBounds_toArray, List.set_cons_zero, List.set_cons_succ]
  refine tk 4 58 (.pointer (some ⟨O, 2, none⟩)) rfl ?_ ?_
  · intro W hSW; go_simp
  simp only [Act.put, List.setIfInBounds_toArray, List.set_cons_zero, List.set_cons_succ]
  refine tk 5 59 (.int .i64 o.a) rfl ?_ ?_
  · intro W hSW; obtain ⟨⟨v0, v1⟩, u0⟩ := HMC.out W hSW; go_simp
  simp only [Act.put, List.setIfInBounds_toArray, List.set_cons_zero, List.set_cons_succ]
  refine wpAnyH_ready (rs := [6]) (by kernel_rfl) (by simp) ?_
  refine AllReadyH.cons rfl (fun KK hKK => ?_) AllReadyH.nil
  go_simp
  refine (HRF.out wd HAD.out).mono ?_
  rintro _ wx1 ⟨rfl, T', hT', tp⟩
  have hHx := tp.ap
  have HE : Hid (StepP w P c nn rr pp N (.returned (.bool true)) wx1) := by
    have hs := HZ.out.2.1.kept0 HAD.out
    obtain ⟨hp, hst⟩ := HP0.out.step (hs) rfl ((HZ.out.2.2).trans (HAD.out.mono (by simp))) HGX.out (fun j hj => .inl hj) hT' tp
    exact hid ⟨rfl, _, _, _, hp, Stp.pre0 (HA1.out.trans HZ.out.1) hst⟩
  clear hT' tp
  try dsimp only
  refine hKK.out _ _ hHx (fun hHeld => ?_)
  clear hKK KK
  try simp only [Act.put, List.setIfInBounds_toArray, List.set_cons_zero, List.set_cons_succ]
  refine wpAnyH_done (by kernel_rfl) ?_ _
  clear hHeld hHx
  go_wp2_with fail
  go_ret
  exact HE.out
set_option maxHeartbeats 8000000 in
set_option maxRecDepth 100000 in
theorem played_5 {w : World} {P : Pd} {c : Cf} {nn rr pp : Nat} {lk : List Int} {f : ByteArray → Sg} {N : Nat} (h : Pr w P c nn rr pp lk f N) (o : Opd) (ho : OpAt w o) (hk : o.kind = 5) (hN : N ≤ 4000000) : Calls Tryz.prog 51 #[.pointer (some ⟨P.B, 0, none⟩), .agg o.c] w fun r w' => StepP w P c nn rr pp N r w' := by
  have HP := hid h
  have HO := hid ho
  obtain ⟨O, HXO⟩ : ∃ X, Hid (X = w.heap.size) := ⟨_, hid rfl⟩
  obtain ⟨w1, hw1⟩ : ∃ V, V = w.alloc (.cells o.c 41) := ⟨_, rfl⟩
  have a1 : Apart [] w w1 := by rw [hw1]; exact (Apart.refl [] w).alloc _
  have hO1 : w1.heap[O]? = some (.cells o.c 41 (0, 0)) := by rw [hw1, HXO.out]; exact heap_alloc_new w _
  have HA1 := hid a1
  have HO1 := hid hO1
  have HP1 := hid (h.kept0 a1)
  have HNW : Hid (w.heap.size = O) := hid HXO.out.symm
  have HPC := hid HP1.out.cells
  have HOC : Hid (∀ W, Apart [] w1 W → W.cell? ⟨O, 2, none⟩ = some (.int .i64 o.a) ∧ W.cell? ⟨O, 3, none⟩ = some (.string o.key)) := fun W a => ⟨crow (keep0 a HO1.out) 2 _ rfl, crow (keep0 a HO1.out) 3 _ rfl⟩
  unfold Opd.c at hw1 ⊢
  have ck := crow hO1 1 (.int .i64 o.kind) rfl
  rw [hk] at ck hw1 ⊢
  have HT1 : Hid (∀ W, Apart [] w1 W → Calls Tryz.prog 18 #[.pointer (some ⟨P.G.S, 0, none⟩), .string o.key] W fun r w' => r = .returned (.int .i64 (f o.key).2) ∧ w' = W) := fun W a => token_ok (HP1.out.s.kept0 a) HO.out.key
  have HT2 : Hid (∀ W, Apart [] w1 W → Calls Tryz.prog 69 #[.pointer (some ⟨P.T.S, 0, none⟩), .string o.key] W fun r w' => r = .returned (.int .i64 (f o.key).2) ∧ Apart [] W w') := fun W a => rtoken_ok (HP1.out.r.kept0 a) hN HO.out.key
  obtain ⟨v, Hv⟩ : ∃ v, Hid (v = (f o.key).2) := ⟨_, hid rfl⟩
  rw [← Hv.out] at HT1 HT2
  have hvv : (v == v) = true := by simp
  clear a1 hO1 h ho hk
  go_enter Tryz.func51, Tryz.ntmps51
  go_upto_region 1 with fail
  rw [← hw1, ← HXO.out]
  clear hw1 HXO
  go_upto_region 17 with fail
  clear ck
  have hAd : Apart [] w1 w1.drew := (Apart.refl [] w1).drew
  refine wp_region_held_drew (S := fun W => Apart [] w1 W) (by kernel_rfl) hAd (fun hHeld => ?_)
  generalize w1.drew = wd at *
  clear hAd
  refine tk 0 98 (.pointer (some ⟨P.B, 0, none⟩)) rfl ?_ ?_
  · intro W hSW; go_simp
  simp only [Act.put, List.setIfInBounds_toArray, List.set_cons_zero, List.set_cons_succ]
  refine tk 1 99 (.pointer (some ⟨P.B, 0, none⟩)) rfl ?_ ?_
  · intro W hSW; go_simp
  simp only [Act.put, List.setIfInBounds_toArray, List.set_cons_zero, List.set_cons_succ]
  refine tk 2 100 (.pointer (some ⟨P.B, 0, none⟩)) rfl ?_ ?_
  · intro W hSW; go_simp
  simp only [Act.put, List.setIfInBounds_toArray, List.set_cons_zero, List.set_cons_succ]
  refine tk 3 101 (.pointer (some ⟨P.G.S, 0, none⟩)) rfl ?_ ?_
  · intro W hSW; obtain ⟨v0, v1⟩ := HPC.out W hSW; go_simp
  simp only [Act.put, List.setIfInBounds_toArray, List.set_cons_zero, List.set_cons_succ]
  refine tk 4 102 (.pointer (some ⟨O, 3, none⟩)) rfl ?_ ?_
  · intro W hSW; go_simp
  simp only [Act.put, List.setIfInBounds_toArray, List.set_cons_zero, List.set_cons_succ]
  refine tk 5 103 (.string o.key) rfl ?_ ?_
  · intro W hSW; obtain ⟨u0, u1⟩ := HOC.out W hSW; go_simp
  simp only [Act.put, List.setIfInBounds_toArray, List.set_cons_zero, List.set_cons_succ]
  refine tk 7 105 (.pointer (some ⟨P.B, 0, none⟩)) rfl ?_ ?_
  · intro W hSW; go_simp
  simp only [Act.put, List.setIfInBounds_toArray, List.set_cons_zero, List.set_cons_succ]
  refine tk 8 106 (.pointer (some ⟨P.B, 0, none⟩)) rfl ?_ ?_
  · intro W hSW; go_simp
  simp only [Act.put, List.setIfInBounds_toArray, List.set_cons_zero, List.set_cons_succ]
  refine tk 9 107 (.pointer (some ⟨P.B, 1, none⟩)) rfl ?_ ?_
  · intro W hSW; go_simp
  simp only [Act.put, List.setIfInBounds_toArray, List.set_cons_zero, List.set_cons_succ]
  refine tk 10 108 (.pointer (some ⟨P.T.S, 0, none⟩)) rfl ?_ ?_
  · intro W hSW; obtain ⟨v0, v1⟩ := HPC.out W hSW; go_simp
  simp only [Act.put, List.setIfInBounds_toArray, List.set_cons_zero, List.set_cons_succ]
  refine tk 11 109 (.pointer (some ⟨O, 3, none⟩)) rfl ?_ ?_
  · intro W hSW; go_simp
  simp only [Act.put, List.setIfInBounds_toArray, List.set_cons_zero, List.set_cons_succ]
  refine tk 12 110 (.string o.key) rfl ?_ ?_
  · intro W hSW; obtain ⟨u0, u1⟩ := HOC.out W hSW; go_simp
  simp only [Act.put, List.setIfInBounds_toArray, List.set_cons_zero, List.set_cons_succ]
  refine wpAnyH_ready (rs := [6]) (by kernel_rfl) (by simp) ?_
  refine AllReadyH.cons rfl (fun KK hKK => ?_) AllReadyH.nil
  go_simp
  refine (HT1.out wd hHeld).mono ?_
  rintro _ wx1 ⟨rfl, hwx⟩
  rw [hwx]
  clear hwx wx1
  try dsimp only
  refine hKK.out _ _ hHeld (fun hHeld => ?_)
  clear hKK KK
  try simp only [Act.put, List.setIfInBounds_toArray, List.set_cons_zero, List.set_cons_succ]
  refine wpAnyH_ready (rs := [13]) (by kernel_rfl) (by simp) ?_
  refine AllReadyH.cons rfl (fun KK hKK => ?_) AllReadyH.nil
  go_simp
  refine (HT2.out wd hHeld).mono ?_
  rintro _ wx2 ⟨rfl, aY⟩
  have hHy := hHeld.trans aY
  try dsimp only
  refine hKK.out _ _ hHy (fun hHeld => ?_)
  clear hKK KK
  try simp only [Act.put, List.setIfInBounds_toArray, List.set_cons_zero, List.set_cons_succ]
  refine tk 14 112 (.bool true) rfl ?_ ?_
  · intro W hSW; go_simp
  simp only [Act.put, List.setIfInBounds_toArray, List.set_cons_zero, List.set_cons_succ]
  refine tk 15 4 (.bool true) rfl ?_ ?_
  · intro W hSW; go_simp
  simp only [Act.put, List.setIfInBounds_toArray, List.set_cons_zero, List.set_cons_succ]
  refine wpAnyH_done (by kernel_rfl) ?_ _
  have HE : Hid (StepP w P c nn rr pp N (.returned (.bool true)) wx2) := hid ⟨rfl, P, lk, f, HP1.out.kept0 hHeld, Stp.of0 (HA1.out.trans hHeld) P⟩
  clear hHeld
  go_wp2_with fail
  go_ret
  exact HE.out
set_option maxHeartbeats 8000000 in
set_option maxRecDepth 100000 in
theorem played_0 {w : World} {P : Pd} {c : Cf} {nn rr pp : Nat} {lk : List Int} {f : ByteArray → Sg} {N : Nat} (h : Pr w P c nn rr pp lk f N) (o : Opd) (ho : OpAt w o) (hk : ∀ k : Int, 1 ≤ k → k ≤ 6 → o.kind ≠ k) : Calls Tryz.prog 51 #[.pointer (some ⟨P.B, 0, none⟩), .agg o.c] w fun r w' => StepP w P c nn rr pp N r w' := by
  have HP := hid h
  have HO := hid ho
  obtain ⟨O, HXO⟩ : ∃ X, Hid (X = w.heap.size) := ⟨_, hid rfl⟩
  obtain ⟨w1, hw1⟩ : ∃ V, V = w.alloc (.cells o.c 41) := ⟨_, rfl⟩
  have a1 : Apart [] w w1 := by rw [hw1]; exact (Apart.refl [] w).alloc _
  have hO1 : w1.heap[O]? = some (.cells o.c 41 (0, 0)) := by rw [hw1, HXO.out]; exact heap_alloc_new w _
  have HA1 := hid a1
  have HO1 := hid hO1
  have HP1 := hid (h.kept0 a1)
  have HNW : Hid (w.heap.size = O) := hid HXO.out.symm
  have HPC := hid HP1.out.cells
  have HOC : Hid (∀ W, Apart [] w1 W → W.cell? ⟨O, 2, none⟩ = some (.int .i64 o.a) ∧ W.cell? ⟨O, 3, none⟩ = some (.string o.key)) := fun W a => ⟨crow (keep0 a HO1.out) 2 _ rfl, crow (keep0 a HO1.out) 3 _ rfl⟩
  unfold Opd.c at hw1 ⊢
  have ck := crow hO1 1 (.int .i64 o.kind) rfl
  have n1 : (o.kind == 1) = false := by have := hk 1 (by omega) (by omega); simp [this]
  have n2 : (o.kind == 2) = false := by have := hk 2 (by omega) (by omega); simp [this]
  have n3 : (o.kind == 3) = false := by have := hk 3 (by omega) (by omega); simp [this]
  have n4 : (o.kind == 4) = false := by have := hk 4 (by omega) (by omega); simp [this]
  have n5 : (o.kind == 5) = false := by have := hk 5 (by omega) (by omega); simp [this]
  have n6 : (o.kind == 6) = false := by have := hk 6 (by omega) (by omega); simp [this]
  have HE : Hid (StepP w P c nn rr pp N (.returned (.bool true)) w1) := hid ⟨rfl, P, lk, f, HP1.out, Stp.of0 HA1.out P⟩
  clear a1 hO1 h ho hk
  go_enter Tryz.func51, Tryz.ntmps51
  go_upto_region 1 with fail
  rw [← hw1, ← HXO.out]
  clear hw1 HXO
  go_wp2_with fail
  go_ret
  exact HE.out
end Go.Proofs.YtpddokbjjhbfgaaGreat.ds
